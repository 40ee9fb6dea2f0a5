import PyProof.Rows.All
import Wide.All
import OpenK.AllK
import Wide.FinOn
import Lean
import PyProof.EqAt
import PyProof.EqKinds
import PyProof.TupleCall
import KE.KSortTup
import KE.KLam
import PyProof.NeKinds
import PyProof.StrCalls2
import PyProof.StrLawsJoin
import PyProof.MinMaxWalk
import PyProof.Rows.CallKwBuiltin
import PyProof.DictCompW
import KE.KRevIter
import PyProof.FactsAll.list_3
import PyProof.ExcInit
import PyProof.ExcClass3
import PyProof.StationsW
import KE.KSuper
import PyProof.ExcBaseAll.ValueError
import PyProof.RulesAs
import PyProof.NsDelKeeps
import PyProof.ExcArgs
import KE.KIsAll
import PyProof.FString4
import PyProof.ExcClass2
import PyProof.StrWalks
import PyProof.GenQ
import PyProof.ConsumeS
import PyProof.CodeObjX
import PySem.Challenge.RW_focuswalk_k52_whole_nearer_or_ahead
set_option Elab.async false
set_option linter.all false
set_option maxRecDepth 100000
set_option maxHeartbeats 4000000
def waa:=@List.getElem?_eq_getElem
def wab:=@List.getElem?_eq_some_iff
def wac:=@List.size_toArray
def wad:=@PySem.wpAny_bind
def wae:=@Nat.le_refl
def waf:=@List.mem_singleton
def wag:=@List.getElem?_map
def wah:=@PySem.Heap.get?_push_of_some
def wai:=@List.getElem?_set_ne
def waj:=@Bool.and_eq_true
def wak:=@List.mem_cons_of_mem
def wal:=@List.mem_of_getElem?
def wam:=@List.length_append
def wan:=@Nat.lt_of_lt_of_le
def wao:=@List.length_map
def wap:=@List.map_append
def waq:=@Nat.le_trans
def war:=@List.mem_cons_self
def was:=@List.mem_cons
def wat:=@List.getElem?_set_self
def wau:=@Option.some.inj
def wav:=@List.map_cons
def waw:=@decide_eq_false
def wax:=@PySem.Heap.lt_size
def waz:=@PySem.wpAny_pure
def waA:=@PySem.Heap.get?_push_size
def waB:=@List.getElem?_append_left
def waC:=@List.mem_append
def waD:=@Bool.false_ne_true
def waE:=@List.mem_append_right
def waF:=@List.all_eq_true
def waG:=@List.getElem?_eq_none
def waH:=@decide_eq_true
def waI:=@List.getElem?_append_right
def waJ:=@List.append_nil
def waK:=@List.nodup_cons
def waL:=@Nat.ne_of_lt
def waM:=@List.map_map
def waN:=@List.mem_map
def waO:=@PySem.Heap.get?_update_other
def waP:=@PySem.W.mg_none_of
def waQ:=@Nat.lt_irrefl
def waR:=@Bool.eq_iff_iff
def waS:=@List.length_cons
def waT:=@PySem.W.mg_of
def waU:=@List.mem_filter
def waV:=@PyProof.Rows.callWith_type1
def waW:=@List.length_eq_zero_iff
def waX:=@List.getElem?_cons_succ
def waY:=@Nat.le_of_succ_le_succ
def waZ:=@PySem.wpAny_loadPart'
def wba:=@List.nodup_nil
def wbb:=@List.replicate_succ
def wbc:=@Option.isSome_iff_exists
def wbd:=@List.mem_range
def wbe:=@Nat.lt_of_le_of_lt
def wbf:=@Nat.zero_add
def wbg:=@congrArg
def wbh:=@Option.map_eq_some_iff
def wbi:=@PySem.wpAny_newObj_type
def wbj:=@Nat.zero_le
def wbk:=@of_decide_eq_true
def wbl:=@List.nodup_append
def wbm:=@List.all_cons
def wbn:=@List.pairwise_iff_getElem
def wbo:=@List.mem_filterMap
def wbp:=@List.filter_append
def wbq:=@List.length_take
def wbr:=@List.lookup_cons
def wbs:=@Nat.le_of_lt
def wbt:=@Nat.lt_of_succ_lt
def wbu:=@PySem.wpAny_mono
def wbv:=@PySem.F.plain_min_loop
def wbw:=@PySem.wpAny_Call_Name_kw
def wbx:=@List.zip_cons_cons
def wby:=@Bool.false_eq_true
def wbz:=@List.mem_append_left
def wbA:=@List.getElem?_of_mem
def wbB:=@PySem.wpAny_passesOwn
def wbC:=@List.flatten_cons
def wbD:=@List.find?_cons
def wbE:=@PySem.mem_of_lookup
def wbF:=@List.getElem?_replicate
def wbG:=@PySem.wpAny_getItem_str_slice
def wbH:=@List.length_reverse
def wbI:=@List.map_congr_left
def wbJ:=@List.getElem_mem
def wbK:=@List.any_eq_true
def wbL:=@List.getElem_map
def wbM:=@Option.getD_some
def wbN:=@List.getElem_cons_drop
def wbO:=@List.mem_zipIdx_iff_getElem?
def wbP:=@List.length_replicate
def wbQ:=@PySem.Heap.get?_update_self
def wbR:=@List.length_nil
def wbS:=@List.all_append
def wbT:=@PySem.wpAny_truthy_bool
def wbU:=@List.append_assoc
def wbV:=@Option.isSome_map
def wbW:=@Nat.not_succ_le_zero
def wbX:=@List.length_pos_iff
def wbY:=@PySem.F.args_tuple_add_2
def wbZ:=@PySem.Paired.length
def wca:=@PySem.wpAny_holding
def wcb:=@PySem.wpAny_pyIter_tuple
def wcc:=@PySem.F.entry_tuple_add
def wcd:=@PySem.wpAny_callSpecial?_slot
def wce:=@List.any_cons
def wcf:=@List.nil_append
def wcg:=@List.filter_cons_of_pos
def wch:=@List.filter_cons_of_neg
def wci:=@Int.emod_lt_of_pos
def wcj:=@PySem.wpAny_pyIter_rangeiter
def wck:=@PySem.F.slot_tuple_add
def wcl:=@List.filter_eq_nil_iff
def wcm:=@Int.toNat_natCast
def wcn:=@PySem.wpAny_field
def wco:=@List.reverse_cons
def wcp:=@PySem.wpAny_pyIter_enum
def wcq:=@Nat.lt_succ_of_lt
def wcr:=@PySem.wpAny_seqItems
def wcs:=@PySem.wpAny_tryCatch
def wct:=@List.length_singleton
def wcu:=@Nat.le_of_eq
def wcv:=@List.singleton_append
def wcw:=@Bool.beq_eq_decide_eq
def wcx:=@List.length_filter_le
def wcy:=@List.length_drop
def wcz:=@List.drop_length
def wcA:=@PySem.Around.under_plainId
def wcB:=@List.filterMap_cons
def wcC:=@Array.length_toList
def wcD:=@PySem.wpAny_execs_nil
def wcE:=@PySem.SeqAt.EqAt.same
def wcF:=@PySem.codeAny_builtin
def wcG:=@List.getElem?_range
def wcH:=@Int.emod_nonneg
def wcI:=@PySem.Heap.size_push
def wcJ:=@Sum.inr.inj
theorem zOB {α β:Type _} (a:α) (f:α->Option β):Option.bind (some a) f=f a:=rfl
namespace L2
open PySem PySem.Spec PyProof.Rows
abbrev Key:=Sum Int Str
def ziU:Key->Value->Bool
 | .inl k,v=>Value.isInt k v
 | .inr x,v=>Value.isStrOf x v
def keyH (w:World):Key->Int
 | .inl k=>hashInt k
 | .inr x=>hashStr w x
theorem za0:∀{k:Key}{v:Value},ziU k v=true->(∃i t,k=Sum.inl i/\v=Value.int i t)\/(∃x t,k=Sum.inr x/\v=Value.str x t)
 | .inl i,v,h=>by
   obtain⟨t,e⟩:=Value.isInt_shape (k:=i) (v:=v) h;exact .inl ⟨i,t,rfl,e⟩
 | .inr x,v,h=>by
   obtain⟨t,e⟩:=Value.isStrOf_shape (x:=x) (v:=v) h;exact .inr ⟨x,t,rfl,e⟩
theorem zjn (i:Int)(t:Tok):ziU (.inl i) (.int i t)=true:=by simp[ziU,Value.isInt]
theorem zjo (x:Str)(t:Tok):ziU (.inr x) (.str x t)=true:=by simp[ziU,Value.isStrOf]
theorem zoS (a b:Int):decide ((Sum.inl a:Key)=Sum.inl b)=(a == b):=by
 by_cases e:a=b
 ·subst e;simp
 ·have h:¬(Sum.inl a:Key)=Sum.inl b:=fun q=>e (Sum.inl.inj q)
  rw[waw h];exact(beq_eq_false_iff_ne.mpr e).symm
theorem zoT (a b:Str):decide ((Sum.inr a:Key)=Sum.inr b)=decide (a=b):=by
 by_cases e:a=b
 ·subst e;simp
 ·have h:¬(Sum.inr a:Key)=Sum.inr b:=fun q=>e (wcJ q)
  rw[waw h,waw e]
theorem zoU (a:Int)(b:Str):decide ((Sum.inl a:Key)=Sum.inr b)=false:=waw (fun q=>nomatch q)
theorem zoV (a:Str)(b:Int):decide ((Sum.inr a:Key)=Sum.inl b)=false:=waw (fun q=>nomatch q)
def zaO (prog:Program)(w:World):PySem.KeyKind prog w Key where
 is:=ziU
 hash:=keyH w
 inj:=fun v a b ha hb=>by
  rcases za0 ha with⟨i,t,rfl,rfl⟩ | ⟨x,t,rfl,rfl⟩
  ·rcases za0 hb with⟨j,u,rfl,e⟩ | ⟨y,u,rfl,e⟩
   ·injection e with e1 _;rw[e1]
   ·exact nomatch e
  ·rcases za0 hb with⟨j,u,rfl,e⟩ | ⟨y,u,rfl,e⟩
   ·exact nomatch e
   ·injection e with e1 _;rw[e1]
 byValue:=fun k v h=>by
  rcases za0 h with⟨i,t,rfl,rfl⟩ | ⟨x,t,rfl,rfl⟩ <;> rfl
 pyHash:=fun hv h=>by
  rcases za0 hv with⟨i,t,rfl,rfl⟩ | ⟨x,t,rfl,rfl⟩
  ·exact wpAny_pyHash_int h
  ·exact wpAny_pyHash_str h
 eqBool:=fun hu hv h=>by
  rcases za0 hu with⟨i,t,rfl,rfl⟩ | ⟨x,t,rfl,rfl⟩
  ·rcases za0 hv with⟨j,u,rfl,rfl⟩ | ⟨y,u,rfl,rfl⟩
   ·rw[zoS] at h;exact wpAny_eqBool_int h
   ·rw[zoU] at h;exact SeqAt.EqAt.int_str i t y u _ _ _ _ h
  ·rcases za0 hv with⟨j,u,rfl,rfl⟩ | ⟨y,u,rfl,rfl⟩
   ·rw[zoV] at h;exact SeqAt.EqAt.str_int x t j u _ _ _ _ h
   ·rw[zoT] at h;exact wpAny_eqBool_str h
 «strs»:=fun k x t v h=>by
  rcases za0 h with⟨i,u,rfl,e⟩ | ⟨y,u,rfl,e⟩
  ·exact nomatch e
  ·injection e with e1 _
   subst e1;cases v <;> rfl
theorem zhv (prog:Program)(w:World)(i:Int)(t:Tok):(zaO prog w).is (.inl i) (.int i t)=true:=zjn i t
theorem zda (prog:Program)(w:World)(x:Str)(t:Tok):(zaO prog w).is (.inr x) (.str x t)=true:=zjo x t
inductive V where
 | non | bl (b:Bool) | int (i:Int) | str (x:Str) | byt (b:Array UInt8) | flt (b:UInt64) | ref (a:Addr) | ty (n:String)
 deriving DecidableEq
def RelV:V->Value->Prop
 | .non,u=>u=Value.none
 | .bl b,u=>u=Value.bool b
 | .int i,u=>∃t,u=Value.int i t
 | .str x,u=>∃t,u=Value.str x t
 | .byt b,u=>∃t,u=Value.bytes b t
 | .flt b,u=>∃t,u=Value.float b t
 | .ref a,u=>u=Value.ref a
 | .ty n,u=>u=Value.type n
abbrev Vals:List V->List Value->Prop:=Paired RelV
theorem Vals.length {xs:List V}{us:List Value}(r:Vals xs us):xs.length=us.length:=wbZ r
theorem Vals.get:∀{xs:List V}{us:List Value}{i:Nat}{x:V},Vals xs us->xs[i]?=some x->∃u,us[i]?=some u/\RelV x u
 | _,_,_,_,.nil,e=>by simp at e
 | _,_,0,_,.cons r _,e=>by simp at e;subst e;exact⟨_,rfl,r⟩
 | _,_,i+1,x,.cons _ t,e=>by
   obtain⟨u,h1,h2⟩:=Vals.get (i:=i) (x:=x) t (by simpa using e);exact⟨u,by simpa using h1,h2⟩
theorem Vals.set {x:V}{u:Value}(r:RelV x u):∀{xs:List V}{us:List Value}(i:Nat),Vals xs us->Vals (xs.set i x) (us.set i u)
 | _,_,_,.nil=>.nil
 | _,_,0,.cons _ t=>.cons r t
 | _,_,i+1,.cons q t=>.cons q (Vals.set r i t)
theorem Vals.append:∀{xs ys:List V}{us ws:List Value},Vals xs us->Vals ys ws->Vals (xs++ys) (us++ws)
 | _,_,_,_,.nil,s=>s
 | _,_,_,_,.cons r t,s=>.cons r (Vals.append t s)
theorem Vals.take:∀{xs:List V}{us:List Value}(n:Nat),Vals xs us->Vals (xs.take n) (us.take n)
 | _,_,0,_=>.nil
 | _,_,_+1,.nil=>.nil
 | _,_,n+1,.cons r t=>.cons r (Vals.take n t)
theorem Vals.drop:∀{xs:List V}{us:List Value}(n:Nat),Vals xs us->Vals (xs.drop n) (us.drop n)
 | _,_,0,r=>r
 | _,_,_+1,.nil=>.nil
 | _,_,n+1,.cons _ t=>Vals.drop n t
def RelO:Option V->Option Value->Prop
 | some v,some u=>RelV v u
 | none,none=>True
 | _,_=>False
def KV {κ:Type}:List (κ×V)->List (κ×Value)->Prop:=Paired fun(p:κ×V) (q:κ×Value)=>p.1=q.1/\RelV p.2 q.2
def kV:Key->V
 | .inl i=>.int i
 | .inr x=>.str x
inductive HO where
 | lst (xs:List V)
 | tup (xs:List V)
 | dK (kvs:List (Key×V)) | dT (kvs:List (List Key×V))
 | set (S:Int->Bool) (n:Nat)
 | ins (C dx:Addr) (fs:List (Str×V))
 | own (x:Addr)
 | xd (fs:List (Str×V))
 | met (f x:Addr)
 | rng (lo hi:Int)
 | frz (o:Obj) (u:HO)
 | tbl (ps:Array Value)
 | ext (φ:Heap->Prop)
abbrev Hp:=Addr->Option HO
def upd (H:Hp)(a:Addr)(o:HO):Hp:=fun b=>if b=a then some o else H b
theorem zah {H:Hp}{a:Addr}{o:HO}:upd H a o a=some o:=by unfold upd;rw[if_pos rfl]
theorem zak {H:Hp}{a b:Addr}{o:HO}(h:b≠a):upd H a o b=H b:=by unfold upd;rw[if_neg h]
theorem zqi {H:Hp}{a b:Addr}{o u:HO}(h:H a=some o)(h':H b=some u)(d:o≠u):a≠b:=by
 intro e;subst e;rw[h] at h';exact d (wau h')
theorem za5 {H:Hp}{a b:Addr}{o:HO}(h:H a=some o)(h':H b=none):a≠b:=by
 intro e;subst e;rw[h] at h';cases h'
section
variable (P:Program)(w:World)
def ObjOk (H:Hp)(h:Heap)(a:Addr):HO->Prop
 | .lst xs=>xs.length<=sizeLine/\∃(its:List Value) (n:Nat),Vals xs its/\h.get? a=some {cls:=.type "list",data:=.seq its.toArray n}
 | .tup xs=>xs.length<=sizeLine/\∃its:List Value,Vals xs its/\IsTup h a its.toArray
 | .dK kvs=>kvs.length<=sizeLine/\(a == sysModules)=false/\∃vs,KV kvs vs/\h.DictOf (zaO P w) a vs
 | .dT kvs=>kvs.length<=sizeLine/\(a == sysModules)=false/\∃xs:List (List Key×Addr×Value),
  Paired (fun(p:List Key×V) (q:List Key×Addr×Value)=>p.1=q.1/\H q.2.1=some (.tup (p.1.map kV))/\RelV p.2 q.2.2) kvs xs/\
  ∃o es ep,h.get? a=some o/\o.ExactDict/\o.data=.dict es ep/\es.toList=xs.map (entryOfKey (tupleKind (zaO P w)))/\(xs.map (·.1)).Nodup
 | .set S n=>h.SetOf (intKind P w) a S n
 | .ins C dx fs=>H dx=some (.own a)/\fs.length<=1000/\dx≠a/\h.get? a=some (PySem.W.instObj C dx)/\
  ∃mA,h.Ns1 dx mA/\(∀f,RelO (fs.lookup f) (mA f))/\PySem.Within mA (fs.map (·.1))
 | .own _=>∃o,h.get? a=some o
 | .xd fs=>∃mA,h.Ns1 a mA/\∀f,RelO (fs.lookup f) (mA f)
 | .rng lo hi=>∃t u v,h.get? a=some {cls:=.type "range",data:=.fields #[.int lo t,.int hi u,.int 1 v]}
 | .frz o u=>h.get? a=some o/\ObjOk H h a u
 | .tbl ps=>∃qs:Array Value,h.get? a=some {cls:=.none,data:=.fields qs}/\TriplesOk qs.toList/\∀pos cv,codeAmong pos qs.toList=some cv->∃c' o u vs t q,cv=Value.ref c'/\H c'=some (.frz o u)/\o.data=.fields vs/\vs[1]?=some (Value.str q t)/\ps[0]?=some (Value.str q 0)
 | .met f x=>h.get? a=some (PySem.W.methodObj (.ref f) (.ref x))
 | .ext φ=>φ h/\(∃o,h.get? a=some o)/\∀h1 h2:Heap,φ h1->(∀o,h1.get? a=some o->h2.get? a=some o)->φ h2
def HOk (H:Hp)(h:Heap):Prop:=∀a o,H a=some o->ObjOk P w H h a o
end
section
variable {P:Program}{w:World}{H H':Hp}{h h':Heap}{a:Addr}{o:HO}
theorem ObjOk.lt (x:ObjOk P w H h a o):a<h.objs.size:=by
 cases o with
 | lst xs=>obtain⟨_,_,_,_,e⟩:=x;exact wax e
 | tup xs=>obtain⟨_,_,_,p⟩:=x;exact p.lt
 | dK kvs=>obtain⟨_,_,_,_,o,_,_,e,_⟩:=x;exact wax e
 | dT kvs=>obtain⟨_,_,_,_,o,_,_,e,_⟩:=x;exact wax e
 | set S n=>obtain⟨o,_,_,_,e,_⟩:=x;exact wax e
 | ins C dx fs=>obtain⟨_,_,_,e,_⟩:=x;exact wax e
 | own y=>obtain⟨_,e⟩:=x;exact wax e
 | xd fs=>obtain⟨_,⟨_,_,_,e,_⟩,_⟩:=x;exact wax e
 | rng lo hi=>obtain⟨_,_,_,e⟩:=x;exact wax e
 | frz ob u=>obtain⟨e,_⟩:=x;exact wax e
 | tbl ps=>obtain⟨_,e,_⟩:=x;exact wax e
 | met f y=>exact wax (show h.get? a=some _ from x)
 | ext φ=>obtain⟨_,⟨_,e⟩,_⟩:=x;exact wax e
theorem Paired.mapP {α β:Type}{F G:α->β->Prop}:∀{l₁:List α}{l₂:List β},Paired F l₁ l₂->(∀a b,F a b->G a b)->Paired G l₁ l₂
 | _,_,.nil,_=>.nil
 | _,_,.cons r t,f=>.cons (f _ _ r) (Paired.mapP t f)
def Cst:HO->Prop
 | .tup _=>True
 | .frz _ _=>True
 | _=>False
theorem ObjOk.stay (x:ObjOk P w H h a o)(k:∀b u,(b=a\/H b=some (.own a))->h.get? b=some u->h'.get? b=some u)
 (ho:∀b,H b=some (.own a)->H' b=some (.own a)) (ht:∀b z,Cst z->H b=some z->H' b=some z):ObjOk P w H' h' a o:=by
 induction o with
 | lst xs=>obtain⟨z,its,n,r,e⟩:=x;exact⟨z,its,n,r,k _ _ (.inl rfl) e⟩
 | tup xs=>obtain⟨z,its,r,ob,e,c⟩:=x;exact⟨z,its,r,ob,k _ _ (.inl rfl) e,c⟩
 | dK kvs=>obtain⟨z,y,vs,r,ob,es,ep,e,c⟩:=x;exact⟨z,y,vs,r,ob,es,ep,k _ _ (.inl rfl) e,c⟩
 | dT kvs=>
   obtain⟨z,y,xs,r,ob,es,ep,e,c⟩:=x;exact⟨z,y,xs,Paired.mapP r fun p q z=>⟨z.1,ht _ _ trivial z.2.1,z.2.2⟩,ob,es,ep,k _ _ (.inl rfl) e,c⟩
 | set S n=>obtain⟨ob,es,ep,t,e,c⟩:=x;exact⟨ob,es,ep,t,k _ _ (.inl rfl) e,c⟩
 | ins C dx fs=>
   obtain⟨d,z,ne,e,mA,⟨od,es,ep,e2,c⟩,r⟩:=x;exact⟨ho _ d,z,ne,k _ _ (.inl rfl) e,mA,⟨od,es,ep,k _ _ (.inr d) e2,c⟩,r⟩
 | own y=>obtain⟨ob,e⟩:=x;exact⟨ob,k _ _ (.inl rfl) e⟩
 | xd fs=>obtain⟨mA,⟨od,es,ep,e,c⟩,r⟩:=x;exact⟨mA,⟨od,es,ep,k _ _ (.inl rfl) e,c⟩,r⟩
 | rng lo hi=>obtain⟨t,u,v,e⟩:=x;exact⟨t,u,v,k _ _ (.inl rfl) e⟩
 | frz ob u ih=>obtain⟨e,q⟩:=x;exact⟨k _ _ (.inl rfl) e,ih q⟩
 | tbl ps=>obtain⟨qs,e,r,rc⟩:=x;exact⟨qs,k a _ (.inl rfl) e,r,fun pos cv q=>let ⟨c',o,u,vs,t,q',e1,e2,e3⟩:=rc pos cv q;⟨c',o,u,vs,t,q',e1,ht _ _ trivial e2,e3⟩⟩
 | met f y=>
   have e:h.get? a=some (PySem.W.methodObj (.ref f) (.ref y)):=x
   show h'.get? a=some (PySem.W.methodObj (.ref f) (.ref y))
   exact k a _ (.inl rfl) e
 | ext φ=>obtain⟨p,⟨o,e⟩,st⟩:=x;exact⟨st _ _ p fun o q=>k _ _ (.inl rfl) q,⟨o,k _ _ (.inl rfl) e⟩,st⟩
theorem HOk.lt (x:HOk P w H h)(e:H a=some o):a<h.objs.size:=(x a o e).lt
theorem HOk.fresh (x:HOk P w H h)(e:h.objs.size<=a):H a=none:=by
 cases q:H a with
 | none=>rfl
 | some u=>exact absurd (wan (x.lt q) e) (waQ _)
theorem HOk.kept (x:HOk P w H h)(k:∀b u,h.get? b=some u->h'.get? b=some u):HOk P w H h':=fun a o e=>
 (x a o e).stay (fun b u _ q=>k b u q) (fun _ q=>q) fun _ _ _ q=>q
theorem HOk.laid (x:HOk P w H h)(k:∀b u,h.get? b=some u->h'.get? b=some u)(hp:h.objs.size<=a)(new:ObjOk P w (upd H a o) h' a o):HOk P w (upd H a o) h':=fun b u e=>by
 have hn:=x.fresh hp
 by_cases hb:b=a
 ·subst hb;rw[zah] at e;cases e;exact new
 ·rw[zak hb] at e;exact(x b u e).stay (fun c v _ q=>k c v q) (fun c q=>by rw[zak (za5 q hn)];exact q) fun c xs _ q=>by rw[zak (za5 q hn)];exact q
end
def Rd (H:Hp)(a:Addr)(u:HO):Prop:=H a=some u\/∃o,H a=some (.frz o u)
theorem Rd.ok {P:Program}{w:World}{H:Hp}{h:Heap}{a:Addr}{u:HO}(r:Rd H a u)(x:HOk P w H h):ObjOk P w H h a u:=by
 rcases r with r | ⟨o,r⟩
 ·exact x a u r
 ·obtain⟨_,q⟩:=x a _ r;exact q
def Mut:Option HO->Prop
 | some (.lst _)=>True
 | some (.dK _)=>True
 | some (.dT _)=>True
 | some (.set _ _)=>True
 | some (.ins _ _ _)=>True
 | some (.ext _)=>True
 | _=>False
section
variable {P:Program}{w:World}{H:Hp}{h h':Heap}{x e:Addr}{o':HO}
theorem HOk.write (ok:HOk P w H h)(mu:Mut (H x))(he:e=x\/H e=some (.own x))(k:∀b u,b≠e->h.get? b=some u->h'.get? b=some u)(heo:∃u,h'.get? e=some u)
 (new:ObjOk P w (upd H x o') h' x o'):HOk P w (upd H x o') h':=fun b u q=>by
 have nown:∀c y,H c=some (.own y)->c≠x:=fun c y r z=>by subst z;rw[r] at mu;exact mu
 have ntup:∀c o,Cst o->H c=some o->c≠x:=fun c o hc r z=>by subst z;rw[r] at mu;cases o <;> first | exact mu | exact hc
 by_cases hb:b=x
 ·subst hb;rw[zah] at q;cases q;exact new
 ·rw[zak hb] at q;by_cases hbe:b=e
  ·have q':H b=some (.own x):=by
    rcases he with z | z
    ·exact absurd (hbe.trans z) hb
    ·rw[hbe];exact z
   rw[q] at q';cases q';obtain⟨v,hv⟩:=heo;exact⟨v,by rw[hbe];exact hv⟩
  ·refine(ok b u q).stay (fun c v hc r=>k c v ?_ r) (fun c r=>by rw[zak (nown c b r)];exact r) fun c xs hc r=>by rw[zak (ntup c xs hc r)];exact r
   rcases hc with rfl | hc
   ·exact hbe
   ·rintro rfl;rcases he with z | z
    ·exact nown c b hc z
    ·rw[hc] at z;cases z;exact hb rfl
end
structure Un (fs ex:List Addr)(H H':Hp)(h h':Heap):Prop where
 keep:∀b o,h.get? b=some o->H b=none->b∉fs->b∉ex->h'.get? b=some o
 slot:∀b o,h.get? b=some o->H b=none->b∈fs->b∉ex->∃sl,h'.get? b=some {o with slots:=sl}
 free:∀b o,h.get? b=some o->H b=none->b∉ex->H' b=none
 there:∀b o,h.get? b=some o->b∉ex->∃o',h'.get? b=some o'
 tups:∀b xs,H b=some (.tup xs)->H' b=some (.tup xs)
 frzs:∀b o u,H b=some (.frz o u)->H' b=some (.frz o u)
 tbls:∀b ps,H b=some (.tbl ps)->∃more,H' b=some (.tbl (ps++more))
section
variable {fs fs' ex ex':List Addr}{H H1 H2:Hp}{h h1 h2 h':Heap}{a x e:Addr}{o:HO}
theorem Un.any (u:Un fs ex H H1 h h1){b:Addr}{ob:Obj}(q:h.get? b=some ob)(n:H b=none)(hx:b∉ex):∃sl,h1.get? b=some {ob with slots:=sl}:=by
 by_cases hb:b∈fs
 ·exact u.slot b ob q n hb hx
 ·exact⟨ob.slots,u.keep b ob q n hb hx⟩
theorem Un.kept (k:∀b u,h.get? b=some u->h'.get? b=some u):Un fs ex H H h h':=
 ⟨fun b ob q _ _ _=>k b ob q,fun b ob q _ _ _=>⟨ob.slots,k b ob q⟩,fun _ _ _ n _=>n,fun b ob q _=>⟨ob,k b ob q⟩,fun _ _ q=>q,fun _ _ _ q=>q,fun _ ps q=>⟨#[],by rw[q];simp⟩⟩
theorem Un.refl:Un fs ex H H h h:=Un.kept fun _ _ q=>q
theorem Un.laid (k:∀b u,h.get? b=some u->h'.get? b=some u)(hp:h.objs.size<=a)(hn:H a=none):Un fs ex H (upd H a o) h h' where
 keep:=fun b u q _ _ _=>k b u q
 slot:=fun b u q _ _ _=>⟨u.slots,k b u q⟩
 free:=fun b u q n _=>by rw[zak (waL (wan (wax q) hp))];exact n
 there:=fun b u q _=>⟨u,k b u q⟩
 tups:=fun b xs q=>by rw[zak (za5 q hn)];exact q
 frzs:=fun b u xs q=>by rw[zak (za5 q hn)];exact q
 tbls:=fun b ps q=>⟨#[],by rw[zak (za5 q hn),q];simp⟩
theorem Un.write (mu:Mut (H x))(he:e=x\/H e=some (.own x))(k:∀b u,b≠e->h.get? b=some u->h'.get? b=some u)(heo:∃u,h'.get? e=some u):Un fs ex H (upd H x o) h h':=by
 have hx:∀b,H b=none->b≠x:=fun b n z=>by subst z;rw[n] at mu;exact mu
 have hb:∀b,H b=none->b≠e:=fun b n z=>by
  subst z;rcases he with r | r
  ·exact hx b n r
  ·rw[n] at r;cases r
 have hm:∀b u,H b=some u->¬Mut (some u)->b≠x:=fun b u q nm z=>by subst z;rw[q] at mu;exact nm mu
 refine⟨fun b u q n _ _=>k b u (hb b n) q,fun b u q n _ _=>⟨u.slots,k b u (hb b n) q⟩,fun b u q n _=>by rw[zak (hx b n)];exact n,fun b u q _=>?_,
  fun b xs q=>by rw[zak (hm b _ q fun z=>z)];exact q,fun b u xs q=>by rw[zak (hm b _ q fun z=>z)];exact q,fun b ps q=>⟨#[],by rw[zak (hm b _ q fun z=>z),q];simp⟩⟩
 by_cases hbe:b=e
 ·subst hbe;exact heo
 ·exact⟨u,k b u hbe q⟩
end
def trk (h:Heap)(H:Hp):List Addr:=(List.range h.objs.size).filter fun a=>(H a).isSome
def hidT (h:Heap)(H:Hp):Heap:=PySem.W.hideAll h (trk h H)
theorem zjp (h:Heap)(H:Hp):(hidT h H).objs.size=h.objs.size:=PySem.W.hideAll_size _ _
theorem zlk {h:Heap}{H:Hp}{b:Addr}{o:Obj}(e:h.get? b=some o)(n:H b=none):(hidT h H).get? b=some o:=
 PySem.W.hideAll_get _ e fun hm=>by
  have q:(H b).isSome=true:=(waU.mp hm).2
  rw[n] at q;simp at q
theorem znm {h:Heap}{H:Hp}{b:Addr}{o:Obj}(e:(hidT h H).get? b=some o):h.get? b=some o/\H b=none:=by
 have e':h.get? b=some o:=PySem.W.of_hideAll (trk h H) e
 refine⟨e',?_⟩;cases q:H b with
 | none=>rfl
 | some x=>
   have hm:b∈trk h H:=waU.mpr ⟨wbd.mpr (wax e'),by simp[q]⟩
   have z:(hidT h H).get? b=none:=PySem.W.hideAll_none (trk h H) hm
   rw[z] at e;cases e
structure Mod (K:W.Frag)(mg:Str->Option Value)(base:Heap):Prop where
 kin:K.In base
 glob:base.Ns mainGlobals mg
 blt:∃mb,base.Ns builtinsNs mb/\∀x:Str,x≠"__name__"->mb x=bootBuiltins x
 nolimit:base.NoLimit
structure Cx where
 prog:Program
 w:World
 K:W.Frag
 mg:Str->Option Value
 base:Heap
 A:Around
 N:List Str
 s₀:Shared
 Hz:Hp
 env:Env
 outer:List Env
 stack:List Env
 ex:List Addr
 fn:Str->Bool
 calm:Bool
 pn:List (Addr×Obj)
 xe:Value->Shared->Prop
def frs (l:List Env):List Addr:=l.filterMap (·.frame)
abbrev Cx.fs (X:Cx):List Addr:=frs X.outer
def Vis (sc:Scope)(x:Str):Prop:=sc.names.lookup x=some .local\/sc.names.lookup x=some .cell\/sc.names.lookup x=some .free
def Loc (sc:Scope)(x:Str):Prop:=sc.names.lookup x=some .local\/sc.names.lookup x=some .cell
def Look (env:Env)(h:Heap)(m:Str->Option Value)(x:Str)(u:Value):Prop:=
 (env.kindOf x=some .local/\m x=some u)\/((env.kindOf x=some .cell\/env.kindOf x=some .free)/\∃c,env.cells.lookup x=some c/\h.IsCell c (some u))
structure Cx.Ok (X:Cx):Prop where
 mod:Mod X.K X.mg X.base
 kind:X.env.scope.kind=.function
 glob:X.env.globals=mainGlobals
 blt:X.env.builtins=builtinsNs
 above:X.s₀.heap.objs.size<=X.env.locals
 inj:∀x y c,X.env.cells.lookup x=some c->X.env.cells.lookup y=some c->x=y
 has:∀x,(X.env.kindOf x=some .cell\/X.env.kindOf x=some .free)->∃c,X.env.cells.lookup x=some c
 cab:∀x c,X.fn x=true->X.env.cells.lookup x=some c->X.s₀.heap.objs.size<=c
 hd:X.calm=true->X.A.handled=none
 frames:X.A.frames=some X.stack
 stk:X.stack=X.outer\/(X.stack=X.env::X.outer/\X.env.frame=some X.env.locals)
 exf:∀b∈X.ex,b≠X.env.locals/\∀x c,X.env.cells.lookup x=some c->c≠b
 bs:∀b o,X.base.get? b=some o->X.s₀.heap.get? b=some o/\X.Hz b=none
 bsz:X.base.objs.size<=X.s₀.heap.objs.size
 noex:∀b o,X.base.get? b=some o->b∉X.ex
 exfs:∀b∈X.ex,b∉X.fs
 funs:X.s₀.heap.FunFrames X.base X.outer
 frf:∀b∈X.fs,X.Hz b=none
structure Inv (X:Cx)(pins:List (Addr×Obj))(σ:List (Option V))(H:Hp)(s:Shared):Prop where
 ok:X.Ok
 os:s.os=X.s₀.os
 bare:AllBare s.gens
 base:Un X.fs X.ex X.Hz H X.s₀.heap s.heap
 loc:∃m,s.heap.Ns X.env.locals m/\∀(i:Nat) (x:Str) (v:V),X.N[i]?=some x->σ[i]?=some (some v)->Vis X.env.scope x->∃u,RelV v u/\Look X.env s.heap m x u
 cell:∀x c,X.env.cells.lookup x=some c->∃v,s.heap.IsCell c v
 free:H X.env.locals=none
 freeC:∀x c,X.env.cells.lookup x=some c->H c=none
 pin:∀p∈X.pn++pins,s.heap.get? p.1=some p.2/\H p.1=none/\p.1≠X.env.locals/\p.1∉X.fs/\∀v,p.2.data≠.cell v
 hok:HOk X.prog X.w H s.heap
 len:σ.length=X.N.length
section
variable {X:Cx}{pins:List (Addr×Obj)}{σ:List (Option V)}{H H':Hp}{s:Shared}{h':Heap}
theorem Cx.Ok.nofr (ok:X.Ok){b:Addr}{o:Obj}(e:X.base.get? b=some o):b∉X.fs:=fun hb=>by
 have:=(ok.funs.mem hb).1
 rw[e] at this;cases this
theorem Inv.bs (I:Inv X pins σ H s):∀b o,X.base.get? b=some o->s.heap.get? b=some o/\H b=none:=fun b o e=>
 ⟨I.base.keep b o (I.ok.bs b o e).1 (I.ok.bs b o e).2 (I.ok.nofr e) (I.ok.noex b o e),I.base.free b o (I.ok.bs b o e).1 (I.ok.bs b o e).2 (I.ok.noex b o e)⟩
theorem Inv.bk (I:Inv X pins σ H s):∀b o,X.base.get? b=some o->s.heap.get? b=some o:=fun b o e=>(I.bs b o e).1
theorem Inv.mod (I:Inv X pins σ H s):Mod X.K X.mg X.base:=I.ok.mod
theorem Inv.kIn (I:Inv X pins σ H s):X.K.In s.heap:=I.ok.mod.kin.keeps I.bk
theorem Inv.lt (I:Inv X pins σ H s):X.env.locals<s.heap.objs.size:=let ⟨_,hn,_⟩:=I.loc;hn.lt
theorem Inv.sz (I:Inv X pins σ H s):X.s₀.heap.objs.size<=s.heap.objs.size:=waq I.ok.above (wbs I.lt)
theorem Inv.nofs (I:Inv X pins σ H s){a:Addr}(h:s.heap.objs.size<=a):a∉X.fs:=fun hb=>by
 obtain⟨_,o,ho,_⟩:=I.ok.funs.mem hb;exact absurd (wan (wax ho) (waq I.sz h)) (waQ _)
theorem Inv.cne (I:Inv X pins σ H s):∀x c,X.env.cells.lookup x=some c->c≠X.env.locals:=fun x c e z=>by
 obtain⟨v,o,ho,hd⟩:=I.cell x c e;obtain⟨m,⟨o',es,ep,ho',hd',_⟩,_⟩:=I.loc;rw[z,ho'] at ho;cases ho;rw[hd'] at hd;cases hd
theorem Inv.funs (I:Inv X pins σ H s):s.heap.FunFrames X.base X.outer:=by
 have all:∀(l:List Env),(∀b∈frs l,b∈X.fs)->X.s₀.heap.FunFrames X.base l->s.heap.FunFrames X.base l:=by
  intro l;induction l with
  | nil=>intro _ _;trivial
  | cons env r ih=>
    intro hs hl;obtain⟨hk,⟨L,o,hf,hn,ho,hd⟩,hr⟩:=hl;have hL:L∈X.fs:=hs L (by unfold frs;rw[wcB,hf];exact war)
    obtain⟨sl,e⟩:=I.base.slot L o ho (I.ok.frf L hL) hL fun z=>I.ok.exfs L z hL
    exact⟨hk,⟨L,_,hf,hn,e,hd⟩,ih (fun b hb=>hs b (by unfold frs;rw[wcB,hf];exact wak _ hb)) hr⟩
 exact all X.outer (fun _ hb=>hb) I.ok.funs
theorem Inv.stack (I:Inv X pins σ H s):s.heap.FunFrames X.base X.stack:=by
 rcases I.ok.stk with e | ⟨e,hf⟩
 ·rw[e];exact I.funs
 ·rw[e];obtain⟨m,hn,_⟩:=I.loc;refine .cons (by rw[I.ok.kind];decide) hf hn ?_ I.funs;exact Heap.get?_none_of_le (waq I.ok.bsz I.ok.above)
theorem Inv.stkSub (I:Inv X pins σ H s):∀b∈frs X.stack,b∈X.env.locals::X.fs:=fun b hb=>by
 rcases I.ok.stk with e | ⟨e,hf⟩
 ·rw[e] at hb;exact wak _ hb
 ·rw[e] at hb;unfold frs at hb;rw[wcB,hf] at hb;exact hb
theorem Inv.stkFree (I:Inv X pins σ H s):∀b∈frs X.stack,H b=none:=fun b hb=>by
 rcases was.mp (I.stkSub b hb) with e | hb
 ·rw[e];exact I.free
 ·obtain⟨_,o,ho,_⟩:=I.ok.funs.mem hb;exact I.base.free b o ho (I.ok.frf b hb) fun z=>I.ok.exfs b z hb
theorem Inv.step {g':Array GenState}{t':Nat}{d':Drawn}{ch:List Addr}(I:Inv X pins σ H s)
 (hch:∀b∈ch,(b∈X.ex\/X.s₀.heap.objs.size<=b)/\b≠X.env.locals/\(∀x c,X.env.cells.lookup x=some c->c≠b)/\∀p∈X.pn++pins,p.1≠b)
 (keep:∀b o,b≠X.env.locals->b∉X.fs->b∉ch->s.heap.get? b=some o->H b=none->h'.get? b=some o)
 (slot:∀b o,b≠X.env.locals->b∈X.fs->b∉ch->s.heap.get? b=some o->H b=none->∃sl,h'.get? b=some {o with slots:=sl}) (free:∀b o,b∉ch->s.heap.get? b=some o->H b=none->H' b=none)
 (there:∀b o,b∉ch->s.heap.get? b=some o->∃o',h'.get? b=some o')
 (tups:∀b xs,H b=some (.tup xs)->H' b=some (.tup xs)) (frzs:∀b o u,H b=some (.frz o u)->H' b=some (.frz o u)) (tbls:∀b ps,H b=some (.tbl ps)->∃more,H' b=some (.tbl (ps++more)))
 (ns:∀m,s.heap.Ns X.env.locals m->h'.Ns X.env.locals m) (hok:HOk X.prog X.w H' h') (hg:AllBare g') :
 Inv X pins σ H' {s with heap:=h',gens:=g',drawn:=d',toks:=t'}:=by
 have neL:∀b o,X.s₀.heap.get? b=some o->b≠X.env.locals:=fun b o e=>waL (wan (wax e) I.ok.above)
 have neC:∀b o,X.s₀.heap.get? b=some o->b∉X.ex->b∉ch:=fun b o e hx hb=>by
  rcases(hch b hb).1 with z | z
  ·exact hx z
  ·exact absurd (wan (wax e) z) (waQ _)
 have cellK:∀x c,X.env.cells.lookup x=some c->∀v,s.heap.IsCell c v->h'.IsCell c v:=fun x c e v ⟨o,ho,hd⟩ =>by
  have nch:c∉ch:=fun z=>(hch c z).2.2.1 x c e rfl
  by_cases hc:c∈X.fs
  ·obtain⟨sl,q⟩:=slot c o (I.cne x c e) hc nch ho (I.freeC x c e);exact⟨_,q,hd⟩
  ·exact⟨o,keep c o (I.cne x c e) hc nch ho (I.freeC x c e),hd⟩
 refine⟨I.ok,I.os,hg,⟨fun b o e n hb hx=>?_,fun b o e n hb hx=>?_,fun b o e n hx=>?_,fun b o e hx=>?_,fun b xs e=>tups b xs (I.base.tups b xs e),fun b o xs e=>frzs b o xs (I.base.frzs b o xs e),fun b ps e=>?_⟩,?_,fun x c e=>?_,?_,fun x c e=>?_,fun p hp=>?_,hok,I.len⟩
 ·exact keep b o (neL b o e) hb (neC b o e hx) (I.base.keep b o e n hb hx) (I.base.free b o e n hx)
 ·obtain⟨sl,e1⟩:=I.base.slot b o e n hb hx;obtain⟨sl',e2⟩:=slot b _ (neL b o e) hb (neC b o e hx) e1 (I.base.free b o e n hx);exact⟨sl',e2⟩
 ·obtain⟨o',e1⟩:=I.base.there b o e hx;exact free b o' (neC b o e hx) e1 (I.base.free b o e n hx)
 ·obtain⟨o',e1⟩:=I.base.there b o e hx;exact there b o' (neC b o e hx) e1
 ·obtain⟨m1,e1⟩:=I.base.tbls b ps e;obtain⟨m2,e2⟩:=tbls b _ e1;exact⟨m1++m2,by rw[e2,Array.append_assoc]⟩
 ·obtain⟨m,hn,hl⟩:=I.loc;refine⟨m,ns m hn,fun i x v e1 e2 e3=>?_⟩;obtain⟨u,r,l⟩:=hl i x v e1 e2 e3;refine⟨u,r,?_⟩;rcases l with l | ⟨k,c,e,z⟩
  ·exact .inl l
  ·exact .inr ⟨k,c,e,cellK x c e _ z⟩
 ·obtain⟨v,z⟩:=I.cell x c e;exact⟨v,cellK x c e v z⟩
 ·obtain⟨m,⟨o,_,_,ho,_⟩,_⟩:=I.loc;exact free _ o (fun z=>(hch _ z).2.1 rfl) ho I.free
 ·obtain⟨v,o,ho,hd⟩:=I.cell x c e;exact free c o (fun z=>(hch c z).2.2.1 x c e rfl) ho (I.freeC x c e)
 ·obtain⟨e,n,ne,nf,d⟩:=I.pin p hp;have nch:p.1∉ch:=fun z=>(hch p.1 z).2.2.2 p hp rfl
  exact⟨keep p.1 p.2 ne nf nch e n,free p.1 p.2 nch e n,ne,nf,d⟩
theorem Inv.un {t':Nat}(I:Inv X pins σ H s)(u:Un X.fs [] H H' s.heap h')(hok:HOk X.prog X.w H' h'):Inv X pins σ H' {s with heap:=h',toks:=t'}:=by
 obtain⟨m,⟨o,es,ep,ho,r⟩,_⟩:=id I.loc;obtain⟨sl,hL⟩:=u.any ho I.free (by simp);exact I.step (g':=s.gens) (d':=s.drawn) (ch:=[]) (fun _ z=>nomatch z) (fun b o _ hb _ e n=>u.keep b o e n hb (by simp)) (fun b o _ hb _ e n=>u.slot b o e n hb (by simp)) (fun b o _ e n=>u.free b o e n (by simp)) (fun b o _ e=>u.there b o e (by simp)) u.tups u.frzs u.tbls (fun m' hm=>by
  obtain⟨o',es',ep',ho',r'⟩:=hm;rw[ho] at ho';cases ho';exact⟨_,es',ep',hL,r'⟩) hok I.bare
theorem Inv.call {g':Array GenState}{t':Nat}{d':Drawn}{ch:List Addr}(I:Inv X pins σ H s)(u:Un (frs X.stack) ch H H' s.heap h')(hok:HOk X.prog X.w H' h')(hg:AllBare g')
 (hch:∀b∈ch,(b∈X.ex\/X.s₀.heap.objs.size<=b)/\b≠X.env.locals/\(∀x c,X.env.cells.lookup x=some c->c≠b)/\∀p∈X.pn++pins,p.1≠b) :
 Inv X pins σ H' {s with heap:=h',gens:=g',drawn:=d',toks:=t'}:=by
 obtain⟨m,⟨o,es,ep,ho,r⟩,_⟩:=id I.loc;obtain⟨sl,hL⟩:=u.any ho I.free fun z=>(hch _ z).2.1 rfl
 exact I.step (ch:=ch) hch (fun b o hL hb hc e n=>u.keep b o e n (fun z=>(was.mp (I.stkSub b z)).elim hL hb) hc) (fun b o _ _ hc e n=>u.any e n hc) (fun b o hc e n=>u.free b o e n hc) (fun b o hc e=>u.there b o e hc) u.tups u.frzs u.tbls (fun m' hm=>by
  obtain⟨o',es',ep',ho',r'⟩:=hm;rw[ho] at ho';cases ho';exact⟨_,es',ep',hL,r'⟩) hok hg
theorem Inv.turned {t':Nat}{it:Addr}(I:Inv X pins σ H s)(k:∀b o,b≠it->s.heap.get? b=some o->h'.get? b=some o)(hn:H it=none)(hL:it≠X.env.locals)
 (h1:it∈X.ex\/X.s₀.heap.objs.size<=it) (h2:∀x c,X.env.cells.lookup x=some c->c≠it) (h3:∀p∈X.pn++pins,p.1≠it):Inv X pins σ H {s with heap:=h',toks:=t'}:=by
 have nit:∀b u,H b=some u->b≠it:=fun b u e z=>by rw[z,hn] at e;cases e
 refine I.step (g':=s.gens) (d':=s.drawn) (ch:=[it]) (fun b hb=>?_) (fun b o _ _ hc e _=>k b o (fun z=>hc (by simp[z])) e) (fun b o _ _ hc e _=>⟨o.slots,k b o (fun z=>hc (by simp[z])) e⟩) (fun _ _ _ _ n=>n)
  (fun b o hc e=>⟨o,k b o (fun z=>hc (by simp[z])) e⟩) (fun _ _ e=>e) (fun _ _ _ e=>e) (fun b ps e=>⟨#[],by rw[e];simp⟩) (fun m hm=>?_) (fun b u e=>?_) I.bare
 ·have e:b=it:=by simpa using hb
  subst e;exact⟨h1,hL,h2,h3⟩
 ·obtain⟨o,es,ep,ho,r⟩:=hm;exact⟨o,es,ep,k _ o (Ne.symm hL) ho,r⟩
 ·refine(I.hok b u e).stay (fun c v hc q=>k c v ?_ q) (fun _ q=>q) fun _ _ _ q=>q
  rcases hc with z | z
  ·rw[z];exact nit b u e
  ·exact nit c _ z
theorem Inv.tok (I:Inv X pins σ H s)(t:Nat):Inv X pins σ H {s with toks:=t}:=I.un (h':=s.heap) (t':=t) Un.refl I.hok
theorem Inv.kept {t':Nat}(I:Inv X pins σ H s)(k:∀b u,s.heap.get? b=some u->h'.get? b=some u):Inv X pins σ H {s with heap:=h',toks:=t'}:=I.un (Un.kept k) (I.hok.kept k)
theorem Inv.laid {a:Addr}{o:HO}{t':Nat}(I:Inv X pins σ H s)(k:∀b u,s.heap.get? b=some u->h'.get? b=some u)(hp:s.heap.objs.size<=a)(new:ObjOk X.prog X.w (upd H a o) h' a o) :
 Inv X pins σ (upd H a o) {s with heap:=h',toks:=t'}:=I.un (Un.laid k hp (I.hok.fresh hp)) (I.hok.laid k hp new)
theorem Inv.write {x e:Addr}{o:HO}{t':Nat}(I:Inv X pins σ H s)(mu:Mut (H x))(he:e=x\/H e=some (.own x))(k:∀b u,b≠e->s.heap.get? b=some u->h'.get? b=some u)(heo:∃u,h'.get? e=some u)
 (new:ObjOk X.prog X.w (upd H x o) h' x o):Inv X pins σ (upd H x o) {s with heap:=h',toks:=t'}:=I.un (Un.write mu he k heo) (I.hok.write mu he k heo new)
theorem Inv.pins_of {pins':List (Addr×Obj)}(I:Inv X pins σ H s)(h:∀p∈pins',s.heap.get? p.1=some p.2/\H p.1=none/\p.1≠X.env.locals/\p.1∉X.fs/\∀v,p.2.data≠.cell v):Inv X pins' σ H s:=
 ⟨I.ok,I.os,I.bare,I.base,I.loc,I.cell,I.free,I.freeC,fun p hp=>(waC.mp hp).elim (fun z=>I.pin p (wbz _ z)) (h p),I.hok,I.len⟩
theorem zie {N:List Str}(hN:N.Nodup){i j:Nat}{x:Str}(a:N[i]?=some x)(b:N[j]?=some x):i=j:=by
 obtain⟨h1,e1⟩:=wab.mp a;obtain⟨h2,e2⟩:=wab.mp b;exact(List.getElem_inj hN).mp (e1.trans e2.symm)
theorem zgs {M:Model}{A:Around}{E:Value->Shared->Prop}{i:Nat}{x:Str}{v:V}{u:Value}{Q:Unit->Shared->Prop}(I:Inv X pins σ H s)(hN:X.N.Nodup)(hi:X.N[i]?=some x)(hx:Loc X.env.scope x)(r:RelV v u)
 (h:∀s',Inv X pins (σ.set i (some v)) H s'->(∃a,Heap.SameBut a s.heap s'.heap/\(a=X.env.locals\/X.env.cells.lookup x=some a))->Q () s') (hf:X.fn x=true\/X.env.scope.names.lookup x=some .local:=by first | exact .inl rfl | exact .inr rfl | assumption):wpAny M A (storeName X.env x u) Q E s:=by
 obtain⟨m,hn,hl⟩:=id I.loc;have hcls:(X.env.scope.kind == .class||(X.env.scope.kind == .module&&X.env.locals != X.env.globals))=false:=by rw[I.ok.kind];rfl
 have hiσ:i<σ.length:=by rw[I.len];exact(wab.mp hi).1
 have cne:=I.cne
 have tracked:∀{a:Addr}{h':Heap},(∃o,s.heap.get? a=some o/\H a=none)->Heap.SameBut a s.heap h'->HOk X.prog X.w H h':=fun {a h'} ha hs b ob e=>by
  obtain⟨_,_,hfree⟩:=ha;refine(I.hok b ob e).stay (fun c w' hc q=>(hs.2 c ?_).trans q) (fun _ q=>q) fun _ _ _ q=>q
  rintro rfl;rcases hc with rfl | hc
  ·rw[hfree] at e;cases e
  ·rw[hfree] at hc;cases hc
 rcases hx with hk | hk
 ·refine wpAny_storeName_local hk hn (fun h' hn' hs=>?_) hcls;obtain⟨oL,_,_,hoL,_⟩:=id hn;refine h _ ⟨I.ok,I.os,I.bare,⟨fun b o e n hb hx=>?_,fun b o e n hb hx=>?_,I.base.free,fun b o e hx=>?_,I.base.tups,I.base.frzs,I.base.tbls⟩,⟨_,hn',fun j y v' e1 e2 e3=>?_⟩,fun y c e=>?_,I.free,I.freeC,fun p hp=>?_,tracked ⟨oL,hoL,I.free⟩ hs,by simpa using I.len⟩ ⟨_,hs,.inl rfl⟩
  ·exact(hs.2 b (waL (wan (wax e) I.ok.above))).trans (I.base.keep b o e n hb hx)
  ·obtain⟨sl,e1⟩:=I.base.slot b o e n hb hx;exact⟨sl,(hs.2 b (waL (wan (wax e) I.ok.above))).trans e1⟩
  ·obtain⟨o',e1⟩:=I.base.there b o e hx;exact⟨o',(hs.2 b (waL (wan (wax e) I.ok.above))).trans e1⟩
  ·by_cases hj:j=i
   ·subst hj;rw[hi] at e1;cases e1;rw[wat hiσ] at e2;cases e2;exact⟨u,r,.inl ⟨hk,by simp⟩⟩
   ·rw[wai (Ne.symm hj)] at e2;obtain⟨u',r',q⟩:=hl j y v' e1 e2 e3;refine⟨u',r',?_⟩;rcases q with⟨k,e⟩ | ⟨k,c,e,z⟩
    ·refine .inl ⟨k,?_⟩;have:y≠x:=fun e=>hj (zie hN e1 (e▸hi))
     simp[this,e]
    ·exact .inr ⟨k,c,e,z.sameBut hs (cne y c e)⟩
  ·obtain⟨w',z⟩:=I.cell y c e;exact⟨w',z.sameBut hs (cne y c e)⟩
  ·obtain⟨e,n,ne,nf,d⟩:=I.pin p hp;exact⟨(hs.2 p.1 ne).trans e,n,ne,nf,d⟩
 ·have hfn:X.fn x=true:=by
   rcases hf with z | z
   ·exact z
   ·rw[z] at hk;cases hk
  obtain⟨c,hc⟩:=I.ok.has x (.inl hk);obtain⟨w',z⟩:=I.cell x c hc;refine wpAny_storeName_cell I.ok.kind hk hc z (fun h' hc' hs=>?_);obtain⟨oc,hoc,hocd⟩:=id z;refine h {s with heap:=h'} ⟨I.ok,I.os,I.bare,⟨fun b o e n hb hx=>?_,fun b o e n hb hx=>?_,I.base.free,fun b o e hx=>?_,I.base.tups,I.base.frzs,I.base.tbls⟩,⟨m,hn.sameBut hs (Ne.symm (cne x c hc)),fun j y v' e1 e2 e3=>?_⟩,fun y c' e=>?_,I.free,I.freeC,fun p hp=>?_,tracked ⟨oc,hoc,I.freeC x c hc⟩ hs,by simpa using I.len⟩ ⟨c,hs,.inr hc⟩
  ·exact(hs.2 b (waL (wan (wax e) (I.ok.cab x c hfn hc)))).trans (I.base.keep b o e n hb hx)
  ·obtain⟨sl,e1⟩:=I.base.slot b o e n hb hx;exact⟨sl,(hs.2 b (waL (wan (wax e) (I.ok.cab x c hfn hc)))).trans e1⟩
  ·obtain⟨o',e1⟩:=I.base.there b o e hx;exact⟨o',(hs.2 b (waL (wan (wax e) (I.ok.cab x c hfn hc)))).trans e1⟩
  ·by_cases hj:j=i
   ·subst hj;rw[hi] at e1;cases e1;rw[wat hiσ] at e2;cases e2;exact⟨u,r,.inr ⟨.inl hk,c,hc,hc'⟩⟩
   ·rw[wai (Ne.symm hj)] at e2;obtain⟨u',r',q⟩:=hl j y v' e1 e2 e3;refine⟨u',r',?_⟩;rcases q with q | ⟨k,c',e,z'⟩
    ·exact .inl q
    ·refine .inr ⟨k,c',e,z'.sameBut hs ?_⟩;rintro rfl;exact hj (zie hN e1 (I.ok.inj _ _ _ e hc▸hi))
  ·by_cases hcc:c'=c
   ·subst hcc;exact⟨_,hc'⟩
   ·obtain⟨w2,z2⟩:=I.cell y c' e;exact⟨w2,z2.sameBut hs hcc⟩
  ·obtain⟨e,n,ne,nf,d⟩:=I.pin p hp;refine⟨(hs.2 p.1 ?_).trans e,n,ne,nf,d⟩;intro q;rw[q,hoc] at e;have q':oc=p.2:=wau e
   exact d w' (by rw[<-q'];exact hocd)
theorem zif {M:Model}{A:Around}{E:Value->Shared->Prop}{i:Nat}{x:Str}{v:V}{u:Value}{Q:Unit->Shared->Prop}(I:Inv X pins σ H s)(hN:X.N.Nodup)(hi:X.N[i]?=some x)(hx:Loc X.env.scope x)(r:RelV v u)
 (h:∀s',Inv X pins (σ.set i (some v)) H s'->Q () s') (hf:X.fn x=true\/X.env.scope.names.lookup x=some .local:=by first | exact .inl rfl | exact .inr rfl | assumption):wpAny M A (storeName X.env x u) Q E s:=
 zgs I hN hi hx r (fun s' I' _=>h s' I') hf
theorem Inv.call' {s':Shared}{ch:List Addr}(I:Inv X pins σ H s)(ho:s'.os=s.os)(u:Un (frs X.stack) ch H H' s.heap s'.heap)(hok:HOk X.prog X.w H' s'.heap)(hg:AllBare s'.gens)
 (hch:∀b∈ch,(b∈X.ex\/X.s₀.heap.objs.size<=b)/\b≠X.env.locals/\(∀x c,X.env.cells.lookup x=some c->c≠b)/\∀p∈X.pn++pins,p.1≠b):Inv X pins σ H' s':=by
 obtain⟨h',g',d',t',o'⟩:=s';have e:o'=s.os:=ho
 subst e;exact I.call (g':=g') (t':=t') (d':=d') u hok hg hch
end
abbrev XK:=Value->Option Addr->Hp->Prop
abbrev St:=List (Option V)
abbrev VK:=V->Hp->Prop
abbrev TE:=St->Hp->VK->Prop
abbrev TT:=St->Hp->(Bool->Hp->Prop)->Prop
abbrev TA:=St->Hp->(List V->Hp->Prop)->Prop
structure Ends where
 nx:St->Hp->Prop
 rt:VK
 bk:St->Hp->Prop:=fun _ _=>False
 ct:St->Hp->Prop:=fun _ _=>False
abbrev TS:=Ends->St->Hp->Prop
def EP (X:Cx)(pins:List (Addr×Obj))(σ:St)(Q:VK)(u:Value)(s':Shared):Prop:=∃v H',Inv X pins σ H' s'/\RelV v u/\Q v H'
def TP (X:Cx)(pins:List (Addr×Obj))(σ:St)(Q:Bool->Hp->Prop)(b:Bool)(s':Shared):Prop:=∃H',Inv X pins σ H' s'/\Q b H'
def AP (X:Cx)(pins:List (Addr×Obj))(σ:St)(Q:List V->Hp->Prop)(us:List Value)(s':Shared):Prop:=∃vs H',Inv X pins σ H' s'/\Vals vs us/\Q vs H'
def SP (X:Cx)(pins:List (Addr×Obj))(D:Ends)(f:Flow)(s':Shared):Prop:=
 match f with
 | .next=>∃σ' H',Inv X pins σ' H' s'/\D.nx σ' H'
 | .brk=>∃σ' H',Inv X pins σ' H' s'/\D.bk σ' H'
 | .cont=>∃σ' H',Inv X pins σ' H' s'/\D.ct σ' H'
 | .ret u=>∃v σ' H',Inv X pins σ' H' s'/\RelV v u/\D.rt v H'
def PE (X:Cx)(e:Expr)(t:TE):Prop:=
 ∀(pins:List (Addr×Obj)) (s:Shared) (σ:St) (H:Hp) (Q:VK),Inv X pins σ H s->t σ H Q->wpAny (model X.prog X.w) X.A (eval e X.env) (EP X pins σ Q) X.xe s
def PT (X:Cx)(e:Expr)(t:TT):Prop:=
 ∀(pins:List (Addr×Obj)) (s:Shared) (σ:St) (H:Hp) (Q:Bool->Hp->Prop),Inv X pins σ H s->t σ H Q->wpAny (model X.prog X.w) X.A (isTrue e X.env (eval e X.env)) (TP X pins σ Q) X.xe s
def PW (X:Cx)(e:Expr)(t:TT):Prop:=
 ∀(whole:Sem Value) (pins:List (Addr×Obj)) (s:Shared) (σ:St) (H:Hp) (Q:Bool->Hp->Prop),Inv X pins σ H s->t σ H Q->wpAny (model X.prog X.w) X.A (isTrue e X.env whole) (TP X pins σ Q) X.xe s
theorem PW.pt {X:Cx}{e:Expr}{t:TT}(h:PW X e t):PT X e t:=h _
def PA (X:Cx)(es:List Expr)(t:TA):Prop:=
 ∀(pos:Pos) (pins:List (Addr×Obj)) (s:Shared) (σ:St) (H:Hp) (Q:List V->Hp->Prop),Inv X pins σ H s->t σ H Q->wpAny (model X.prog X.w) X.A (spliced (backTo pos (starEach es X.env))) (AP X pins σ Q) X.xe s
def PS (X:Cx)(st:Stmt)(t:TS):Prop:=
 ∀(pins:List (Addr×Obj)) (s:Shared) (σ:St) (H:Hp) (D:Ends),Inv X pins σ H s->t D σ H->wpAny (model X.prog X.w) X.A (exec st X.env) (SP X pins D) X.xe s
def PSs (X:Cx)(st:List Stmt)(t:TS):Prop:=
 ∀(pins:List (Addr×Obj)) (s:Shared) (σ:St) (H:Hp) (D:Ends),Inv X pins σ H s->t D σ H->wpAny (model X.prog X.w) X.A (execs st X.env) (SP X pins D) X.xe s
theorem thn {α:Type}{t:Sem α}{Q Q':α->Shared->Prop}{M:Model}{A:Around}{E:Value->Shared->Prop}{s:Shared}(h:wpAny M A t Q E s)(hQ:∀a s,Q a s->Q' a s):wpAny M A t Q' E s:=wbu h hQ fun _ _ x=>x
section
variable {X:Cx}
theorem bin {a b:Expr}{ta tb:TE}(ha:PE X a ta)(hb:PE X b tb){pins:List (Addr×Obj)}{s:Shared}{σ:St}{H:Hp}{R:V->V->Hp->Prop}(I:Inv X pins σ H s)(h:ta σ H fun x H1=>tb σ H1 fun y H2=>R x y H2)
 {α:Type}{Q:α->Shared->Prop}{f:Value->Value->Sem α}
 (hf:∀v u s2 x y H2,Inv X pins σ H2 s2->RelV x v->RelV y u->R x y H2->wpAny (model X.prog X.w) X.A (f v u) Q X.xe s2) :
 wpAny (model X.prog X.w) X.A (eval a X.env) (fun v s₁=>wpAny (model X.prog X.w) X.A (eval b X.env) (fun u s₂=>wpAny (model X.prog X.w) X.A (f v u) Q X.xe s₂) X.xe s₁) X.xe s:=by
 refine thn (ha pins s σ H _ I h) fun v s1 ⟨x,H1,I1,r1,q1⟩ =>?_
 refine thn (hb pins s1 σ H1 _ I1 q1) fun u s2 ⟨y,H2,I2,r2,q2⟩ =>?_
 exact hf v u s2 x y H2 I2 r1 r2 q2
def tVar (i:Nat):TE:=fun σ H Q=>∃v,σ[i]?=some (some v)/\Q v H
def tC (v:V):TE:=fun _ H Q=>Q v H
theorem zb1 {i:Nat}{x:Str}{pos:Pos}(hN:X.N[i]?=some x)(hv:Vis X.env.scope x)(hd:(x == ("__debug__" : Str))=false:=by decide)(hcd:(x == ("__classdict__" : Str))=false:=by decide):PE X (.Name x pos) (tVar i):=by
 intro pins s σ H Q I h;obtain⟨v,e,h⟩:=h;obtain⟨m,hn,hl⟩:=I.loc;obtain⟨u,r,l⟩:=hl i x v hN e hv;have fin:EP X pins σ Q u s:=⟨v,H,I,r,h⟩
 rcases l with⟨hk,hm⟩ | ⟨hk,c,hc,hcell⟩
 ·exact wpAny_Name (wpAny_loadName_local I.ok.kind hk hn hm fin) hd
 ·rcases hk with hk | hk
  ·exact wpAny_Name (wpAny_loadName_cell I.ok.kind hk hc hcell fin) hd
  ·exact wpAny_Name (wpAny_loadName_free I.ok.kind hk hc hcell fin hcd) hd
theorem zig {i j pos}:PE X (.Constant (.int i) j pos) (tC (.int i)):=fun _ _ _ H _ I h=>wpAny_Constant_int ⟨.int i,H,I.tok _,⟨_,rfl⟩,h⟩
theorem zqj {b j pos}:PE X (.Constant (.bool b) j pos) (tC (.bl b)):=fun _ _ _ H _ I h=>Constant_bool ⟨.bl b,H,I,rfl,h⟩
theorem zoW {j pos}:PE X (.Constant .none j pos) (tC .non):=fun _ _ _ H _ I h=>Constant_none ⟨.non,H,I,rfl,h⟩
theorem zgt {x j pos}:PE X (.Constant (.str x) j pos) (tC (.str x)):=fun _ _ _ H _ I h=>Calls.Constant_str ⟨.str x,H,I.tok _,⟨_,rfl⟩,h⟩
def Gl (X:Cx)(x:Str):Prop:=X.env.kindOf x=some .globalImplicit
theorem zhw {E:Value->Shared->Prop}{pins:List (Addr×Obj)}{s:Shared}{σ:St}{H:Hp}{x:Str}{u:Value}{pos:Pos}{Q:Value->Shared->Prop}(I:Inv X pins σ H s)(hg:Gl X x)(hm:X.mg x=some u)(h:Q u s)
 (hd:(x == ("__debug__" : Str))=false:=by decide):wpAny (model X.prog X.w) X.A (eval (.Name x pos) X.env) Q E s:=
 Calls.Name_function_global I.ok.kind hg (Calls.loadGlobal_global (by rw[I.ok.glob];exact I.mod.glob.keeps I.bk) hm h) hd
theorem zeK {E:Value->Shared->Prop}{pins:List (Addr×Obj)}{s:Shared}{σ:St}{H:Hp}{x:Str}{u:Value}{pos:Pos}{Q:Value->Shared->Prop}(I:Inv X pins σ H s)(hg:Gl X x)(hm:X.mg x=none)(hv:bootBuiltins x=some u)(h:Q u s)
 (hn:x≠"__name__":=by decide) (hd:(x == ("__debug__" : Str))=false:=by decide):wpAny (model X.prog X.w) X.A (eval (.Name x pos) X.env) Q E s:=by
 obtain⟨mb,h1,h2⟩:=I.mod.blt;exact Calls.Name_function_global I.ok.kind hg (Calls.loadGlobal_builtin (by rw[I.ok.glob];exact I.mod.glob.keeps I.bk) hm (by rw[I.ok.blt];exact h1.keeps I.bk) ((h2 x hn).trans hv) h) hd
theorem znn {x:Str}{v:V}{u:Value}{pos:Pos}(hg:Gl X x)(hm:X.mg x=some u)(r:RelV v u)(hd:(x == ("__debug__" : Str))=false:=by decide):PE X (.Name x pos) (tC v):=
 fun _ _ _ H _ I h=>zhw I hg hm ⟨v,H,I,r,h⟩ hd
variable {a b:Expr}{ta tb:TE}{pos:Pos}
def PC (X:Cx)(op:CmpOp)(a b:Expr)(t:TE):Prop:=
 ∀(pins:List (Addr×Obj)) (s:Shared) (σ:St) (H:Hp) (Q:VK),Inv X pins σ H s->t σ H Q->
  wpAny (model X.prog X.w) X.A (eval a X.env) (fun v s₁=>wpAny (model X.prog X.w) X.A (eval b X.env) (fun u s₂=>wpAny (model X.prog X.w) X.A (compareOp op v u) (EP X pins σ Q) X.xe s₂) X.xe s₁) X.xe s
theorem zll (b:Expr){op:CmpOp}(h:op≠.In)(h2:op≠.NotIn):behindInMarks op b=false:=by
 have e1:(op == CmpOp.In)=false:=by cases op <;> first | rfl | exact absurd rfl h
 have e2:(op == CmpOp.NotIn)=false:=by cases op <;> first | rfl | exact absurd rfl h2
 cases b <;> simp[behindInMarks,e1,e2]
def tB (t:TE):TT:=fun σ H Q=>t σ H fun x H1=>∃c,x=.bl c/\Q c H1
theorem zmK {op:CmpOp}{t:TE}(h:PC X op a b t)(h1:behindInMarks op b=false:=by first | exact zll _ (by decide) (by decide) | rfl):PT X (.Compare a [op] [b] pos) (tB t):=by
 intro pins s σ H Q I hw;refine wpAny_isTrue_Compare1 (thn (h pins s σ H _ I hw) fun v s1 h1=>thn h1 fun u s2 h2=>thn h2 fun c s3 ⟨x,H1,I1,r1,q1⟩ =>?_) h1;obtain⟨d,rfl,q⟩:=q1;cases r1;exact wbT ⟨H1,I1,q⟩
variable {tA tB':TT}{rest:List Expr}
def tAnd (t u:TT):TT:=fun σ H Q=>t σ H fun c H1=>if c=true then u σ H1 Q else Q false H1
def tOr (t u:TT):TT:=fun σ H Q=>t σ H fun c H1=>if c=true then Q true H1 else u σ H1 Q
def tNot (t:TT):TT:=fun σ H Q=>t σ H fun c H1=>Q (!c) H1
theorem zjq (ha:PT X a tA):PW X (.BoolOp .And [a] pos) tA:=by
 intro wh pins s σ H Q I h;refine isTrue_and (thn (ha pins s σ H Q I h) fun c s1 e=>?_);cases c with
 | true=>exact isTrue_and_nil e
 | false=>exact e
theorem zoX (ha:PT X a tA):PW X (.BoolOp .Or [a] pos) tA:=by
 intro wh pins s σ H Q I h;refine isTrue_or (thn (ha pins s σ H Q I h) fun c s1 e=>?_);cases c with
 | false=>exact isTrue_or_nil e
 | true=>exact e
theorem zmL (ha:PT X a tA)(hb:PW X (.BoolOp .And (b::rest) pos) tB'):PW X (.BoolOp .And (a::b::rest) pos) (tAnd tA tB'):=by
 intro wh pins s σ H Q I h;refine isTrue_and (thn (ha pins s σ H _ I h) fun c s1 ⟨H1,I1,q1⟩ =>?_);cases c with
 | true=>exact hb wh pins s1 σ H1 Q I1 q1
 | false=>exact⟨H1,I1,q1⟩
theorem zqk (ha:PT X a tA)(hb:PW X (.BoolOp .Or (b::rest) pos) tB'):PW X (.BoolOp .Or (a::b::rest) pos) (tOr tA tB'):=by
 intro wh pins s σ H Q I h;refine isTrue_or (thn (ha pins s σ H _ I h) fun c s1 ⟨H1,I1,q1⟩ =>?_);cases c with
 | true=>exact⟨H1,I1,q1⟩
 | false=>exact hb wh pins s1 σ H1 Q I1 q1
theorem zoY (ha:PT X a tA):PT X (.UnaryOp .Not a pos) (tNot tA):=by
 intro pins s σ H Q I h;exact isTrue_not (ha pins s σ H (fun c H1=>Q (!c) H1) I h)
def zql (ta:TE):TE:=fun σ H Q=>ta σ H fun x H1=>∃c,x=.bl c/\Q (.bl (!c)) H1
theorem zoZ (ha:PE X a ta):PE X (.UnaryOp .Not a pos) (zql ta):=by
 intro pins s σ H Q I h;refine UnaryOp_ (thn (ha pins s σ H _ I h) fun v s1 ⟨x,H1,I1,r1,q1⟩ =>?_);obtain⟨c,rfl,q1⟩:=q1;cases r1;exact not_of (wbT ⟨.bl (!c),H1,I1,rfl,q1⟩)
def tIf (t:TT)(ta tb:TE):TE:=fun σ H Q=>t σ H fun c H1=>if c=true then ta σ H1 Q else tb σ H1 Q
theorem zlm {c:Expr}(hc:PT X c tA)(ha:PE X a ta)(hb:PE X b tb):PE X (.IfExp c a b pos) (tIf tA ta tb):=by
 intro pins s σ H Q I h;refine wpAny_IfExp (thn (hc pins s σ H _ I h) fun d s1 ⟨H1,I1,q1⟩ =>?_);cases d with
 | true=>exact ha pins s1 σ H1 Q I1 q1
 | false=>exact hb pins s1 σ H1 Q I1 q1
end
def SqL (K:W.Frag)(H:Hp)(a:Addr)(xs:List V):Prop:=
 Rd H a (.lst xs)\/
  ∃(o:Obj) (its:Array Value) (n:Nat),K.lookup a=some o/\o.cls=.type "list"/\o.dict=none/\o.data=.seq its n/\its.size<=sizeLine/\Vals xs its.toList
def SqT (K:W.Frag)(H:Hp)(a:Addr)(xs:List V):Prop:=
 Rd H a (.tup xs)\/
  ∃(o:Obj) (its:Array Value) (n:Nat),K.lookup a=some o/\o.cls=.type "tuple"/\o.data=.seq its n/\its.size<=sizeLine/\Vals xs its.toList
def absV:Value->Option V
 | .none=>some .non
 | .bool b=>some (.bl b)
 | .int i _=>some (.int i)
 | .str x _=>some (.str x)
 | .bytes b _=>some (.byt b)
 | .float b _=>some (.flt b)
 | .ref a=>some (.ref a)
 | .type n=>some (.ty n)
 | _=>none
theorem RelV.abs {x:V}{u:Value}(r:RelV x u):absV u=some x:=by
 cases x with
 | non=>cases r;rfl
 | bl _=>cases r;rfl
 | int _=>obtain⟨t,rfl⟩:=r;rfl
 | str _=>obtain⟨t,rfl⟩:=r;rfl
 | byt _=>obtain⟨t,rfl⟩:=r;rfl
 | flt _=>obtain⟨t,rfl⟩:=r;rfl
 | ref _=>cases r;rfl
 | ty _=>cases r;rfl
theorem RelV.inj {x y:V}{u:Value}(r:RelV x u)(q:RelV y u):x=y:=wau (r.abs.symm.trans q.abs)
theorem Vals.inj:∀{xs ys:List V}{us:List Value},Vals xs us->Vals ys us->xs=ys
 | _,_,_,.nil,.nil=>rfl
 | _,_,_,.cons r t,.cons r' t'=>by rw[r.inj r',Vals.inj t t']
section
variable {X:Cx}{pins:List (Addr×Obj)}{σ:St}{H:Hp}{s:Shared}{a:Addr}{xs ys:List V}
theorem SqL.of {K:W.Frag}(h:H a=some (.lst xs)):SqL K H a xs:=.inl (.inl h)
theorem SqT.of {K:W.Frag}(h:H a=some (.tup xs)):SqT K H a xs:=.inl (.inl h)
theorem Inv.list (I:Inv X pins σ H s)(h:SqL X.K H a xs):∃its:List Value,Vals xs its/\PlainL s.heap a its.toArray/\xs.length<=sizeLine:=by
 rcases h with h | ⟨o,its,n,hk,hc,hd,hs,hz,r⟩
 ·obtain⟨z,its,n,r,e⟩:=h.ok I.hok;exact⟨its,r,⟨_,n,e,rfl,rfl,rfl⟩,z⟩
 ·refine⟨its.toList,r,⟨o,n,I.kIn a o hk,hc,hd,by simpa using hs⟩,?_⟩;have e:=r.length
  simp only[wcC] at e;omega
theorem Inv.tuple (I:Inv X pins σ H s)(h:SqT X.K H a xs):∃its:List Value,Vals xs its/\IsTup s.heap a its.toArray/\xs.length<=sizeLine:=by
 rcases h with h | ⟨o,its,n,hk,hc,hs,hz,r⟩
 ·obtain⟨z,its,r,p⟩:=h.ok I.hok;exact⟨its,r,p,z⟩
 ·refine⟨its.toList,r,⟨o,I.kIn a o hk,hc,n,by simpa using hs⟩,?_⟩;have e:=r.length
  simp only[wcC] at e;omega
theorem Inv.list_inj (I:Inv X pins σ H s)(h:SqL X.K H a xs)(h':SqL X.K H a ys):xs=ys:=by
 obtain⟨its,r,⟨o,n,e,_,_,d⟩,_⟩:=I.list h;obtain⟨its',r',⟨o',n',e',_,_,d'⟩,_⟩:=I.list h';rw[e] at e';cases e';rw[d] at d';injection d' with d1 _
 have:its=its':=by simpa using wbg Array.toList d1
 subst this;exact r.inj r'
theorem Inv.tuple_inj (I:Inv X pins σ H s)(h:SqT X.K H a xs)(h':SqT X.K H a ys):xs=ys:=by
 obtain⟨its,r,⟨o,e,_,n,d⟩,_⟩:=I.tuple h;obtain⟨its',r',⟨o',e',_,n',d'⟩,_⟩:=I.tuple h';rw[e] at e';cases e';rw[d] at d';injection d' with d1 _
 have:its=its':=by simpa using wbg Array.toList d1
 subst this;exact r.inj r'
end
abbrev Cx.wish (X:Cx)(E:Value->Shared->Prop):Cx:={X with xe:=E}
abbrev Cx.nox (X:Cx):Cx:=X.wish fun _ _=>False
theorem Cx.Ok.wish {X:Cx}(ok:X.Ok)(E:Value->Shared->Prop):(X.wish E).Ok:=
 ⟨ok.mod,ok.kind,ok.glob,ok.blt,ok.above,ok.inj,ok.has,ok.cab,ok.hd,ok.frames,ok.stk,ok.exf,ok.bs,ok.bsz,ok.noex,ok.exfs,ok.funs,ok.frf⟩
theorem Cx.Ok.unwish {X:Cx}{E:Value->Shared->Prop}(ok:(X.wish E).Ok):X.Ok:=
 ⟨ok.mod,ok.kind,ok.glob,ok.blt,ok.above,ok.inj,ok.has,ok.cab,ok.hd,ok.frames,ok.stk,ok.exf,ok.bs,ok.bsz,ok.noex,ok.exfs,ok.funs,ok.frf⟩
section
variable {X:Cx}{pins:List (Addr×Obj)}{σ:St}{H:Hp}{s:Shared}{E:Value->Shared->Prop}
theorem Inv.wish (I:Inv X pins σ H s)(E:Value->Shared->Prop):Inv (X.wish E) pins σ H s:=⟨I.ok.wish E,I.os,I.bare,I.base,I.loc,I.cell,I.free,I.freeC,I.pin,I.hok,I.len⟩
theorem Inv.unwish (I:Inv (X.wish E) pins σ H s):Inv X pins σ H s:=⟨I.ok.unwish,I.os,I.bare,I.base,I.loc,I.cell,I.free,I.freeC,I.pin,I.hok,I.len⟩
theorem SP.unwish {D:Ends}{f:Flow}{s':Shared}(h:SP (X.wish E) pins D f s'):SP X pins D f s':=by
 cases f with
 | next=>obtain⟨σ',H',I,q⟩:=h;exact⟨σ',H',I.unwish,q⟩
 | brk=>obtain⟨σ',H',I,q⟩:=h;exact⟨σ',H',I.unwish,q⟩
 | cont=>obtain⟨σ',H',I,q⟩:=h;exact⟨σ',H',I.unwish,q⟩
 | ret u=>obtain⟨v,σ',H',I,r,q⟩:=h;exact⟨v,σ',H',I.unwish,r,q⟩
theorem PSs.nox {st:List Stmt}{t:TS}(h:PSs X.nox st t):PSs X st t:=fun pins s σ H D I hw=>
 wbu (h pins s σ H D (I.wish _) hw) (fun _ _ q=>q.unwish) fun _ _ z=>False.elim z
end
section
variable {X:Cx}{st:Stmt}{rest:List Stmt}{t u:TS}{e:Expr}{te:TE}{pos:Pos}
def zqm:TS:=fun D σ H=>D.nx σ H
def tSeq (t u:TS):TS:=fun D σ H=>t {D with nx:=u D} σ H
theorem zno:PSs X [] zqm:=fun _ _ σ H _ I h=>wcD ⟨σ,H,I,h⟩
theorem zih (h1:PS X st t)(h2:PSs X rest u):PSs X (st::rest) (tSeq t u):=by
 intro pins s σ H D I h;refine wpAny_execs_cons (thn (h1 pins s σ H {D with nx:=u D} I h) fun f s1 q=>?_);cases f with
 | next=>
   obtain⟨σ',H',I',q⟩:=q;exact h2 pins s1 σ' H' D I' q
 | ret v=>exact q
 | brk=>exact q
 | cont=>exact q
theorem zjr (h1:PS X st t):PSs X [st] t:=by
 intro pins s σ H D I h;refine wpAny_execs_cons (thn (h1 pins s σ H D I h) fun f s1 q=>?_);cases f with
 | next=>exact wcD q
 | ret v=>exact q
 | brk=>exact q
 | cont=>exact q
theorem Inv.quiet {pins:List (Addr×Obj)}{σ:St}{H:Hp}{s:Shared}(I:Inv X pins σ H s):interactive X.env=false:=by simp[interactive,I.ok.kind]
def zln (te:TE):TS:=fun D σ H=>te σ H fun _ H1=>D.nx σ H1
theorem zfT (he:PE X e te)(hs:swapsWith e none pos.line X.env=pure false:=by rfl):PS X (.Expr e pos) (zln te):=by
 intro pins s σ H D I h;exact wpAny_Expr_any (thn (he pins s σ H _ I h) fun v s1 ⟨x,H1,I1,r1,q1⟩ =>⟨σ,H1,I1,q1⟩) I.quiet hs
def tRet (te:TE):TS:=fun D σ H=>te σ H D.rt
theorem zii (he:PE X e te):PS X (.Return (some e) pos) (tRet te):=by
 intro pins s σ H D I h;exact wpAny_Return_some (thn (he pins s σ H _ I h) fun v s1 ⟨x,H1,I1,r1,q1⟩ =>⟨x,σ,H1,I1,r1,q1⟩)
def tIfS (c:TT)(t u:TS):TS:=fun D σ H=>c σ H fun b H1=>if b=true then t D σ H1 else u D σ H1
theorem zo0 {c:Expr}{a b:List Stmt}{tc:TT}(hc:PT X c tc)(ha:PSs X a t)(hb:PSs X b u):PS X (.If c a b pos) (tIfS tc t u):=by
 intro pins s σ H D I h;refine wpAny_If (thn (hc pins s σ H _ I h) fun d s1 ⟨H1,I1,q1⟩ =>?_);cases d with
 | true=>exact ha pins s1 σ H1 D I1 q1
 | false=>exact hb pins s1 σ H1 D I1 q1
def zo1:TS:=fun _ _ _=>False
theorem zlo:PS X st zo1:=fun _ _ _ _ _ _ h=>h.elim
end
abbrev TG:=V->St->Hp->(St->Hp->Prop)->Prop
abbrev TGs:=List V->St->Hp->(St->Hp->Prop)->Prop
def PG (X:Cx)(target:Expr)(t:TG):Prop:=
 ∀(pins:List (Addr×Obj)) (s:Shared) (σ:St) (H:Hp) (v:V) (u:Value) (Q:St->Hp->Prop),Inv X pins σ H s->RelV v u->t v σ H Q->
  wpAny (model X.prog X.w) X.A (assign target X.env u) (fun _ s'=>∃σ' H',Inv X pins σ' H' s'/\Q σ' H') X.xe s
def PGs (X:Cx)(ts:List Expr)(t:TGs):Prop:=
 ∀(pins:List (Addr×Obj)) (s:Shared) (σ:St) (H:Hp) (vs:List V) (us:List Value) (Q:St->Hp->Prop),Inv X pins σ H s->Vals vs us->t vs σ H Q->
  wpAny (model X.prog X.w) X.A (assignInOrder ((assignEach ts X.env).map (·.2)) us) (fun _ s'=>∃σ' H',Inv X pins σ' H' s'/\Q σ' H') X.xe s
abbrev TSet:=V->V->V->Hp->(Hp->Prop)->Prop
def PSet (X:Cx)(t:TSet):Prop:=
 ∀(pins:List (Addr×Obj)) (s:Shared) (σ:St) (H:Hp) (o i v:V) (ov iv u:Value) (Q:Hp->Prop),Inv X pins σ H s->RelV o ov->RelV i iv->RelV v u->t o i v H Q->
  wpAny (model X.prog X.w) X.A (setItem ov iv u) (fun _ s'=>∃H',Inv X pins σ H' s'/\Q H') X.xe s
section
variable {X:Cx}{pos:Pos}
def zeL (i:Nat):TG:=fun v σ H Q=>Q (σ.set i (some v)) H
theorem zjs {i:Nat}{x:Str}(hN:X.N.Nodup)(hi:X.N[i]?=some x)(hx:Loc X.env.scope x)(hf:X.fn x=true\/X.env.scope.names.lookup x=some .local:=by first | exact .inl rfl | exact .inr rfl | assumption):PG X (.Name x pos) (zeL i):=by
 intro pins s σ H v u Q I r h;exact wpAny_assign_Name (zif I hN hi hx r (fun s' I'=>⟨_,H,I',h⟩) hf)
def gNil:TGs:=fun vs σ H Q=>vs = []/\Q σ H
def zo2 (t:TG)(u:TGs):TGs:=fun vs σ H Q=>∃v r,vs=v::r/\t v σ H fun σ' H'=>u r σ' H' Q
theorem znp:PGs X [] gNil:=by
 intro pins s σ H vs us Q I r h;obtain⟨e,h⟩:=h;subst e;cases r;exact assignInOrder_nil ⟨σ,H,I,h⟩
theorem zlp {e:Expr}{es:List Expr}{t:TG}{u:TGs}(h1:PG X e t)(h2:PGs X es u)
 (hs:(assignEach (e::es) X.env).map (·.2)=assign e X.env::(assignEach es X.env).map (·.2):=by rfl):PGs X (e::es) (zo2 t u):=by
 intro pins s σ H vs us Q I r h;obtain⟨v,vr,e1,h⟩:=h;subst e1;cases r with
 | cons r rr=>
   rw[hs];refine assignInOrder_cons (thn (h1 pins s σ H _ _ _ I r h) fun _ s1 ⟨σ1,H1,I1,q1⟩ =>?_);exact h2 pins s1 σ1 H1 _ _ Q I1 rr q1
def gTup (K:W.Frag)(n:Nat)(t:TGs):TG:=fun v σ H Q=>∃a xs,v=.ref a/\SqT K H a xs/\xs.length=n/\t xs σ H Q
theorem zo3 {es:List Expr}{k:Nat}{t:TGs}{n:Nat}(hc:X.calm=true)(h:PGs X es t)
 (hn:(assignEach es X.env).length=n:=by rfl) (hst:(assignEach es X.env).findIdx? (·.1)=none:=by rfl):PG X (.Tuple es k pos) (gTup X.K n t):=by
 intro pins s σ H v u Q I r hw;obtain⟨a,xs,e1,hq,hl,hw⟩:=hw;subst e1;cases r;obtain⟨its,rv,ht,hz⟩:=I.tuple hq;refine assign_Tuple_tuple (I.ok.hd hc) ht (by simp[hn,<-hl,rv.length]) hst fun h' hx=>?_
 have I1:Inv X pins σ H {s with heap:=h'}:=I.kept (t':=s.toks) fun b o e=>hx b o (waL (wax e)) e
 exact h pins _ σ H xs _ Q I1 (by simpa using rv) hw
def gSub (to ti:TE)(t:TSet):TG:=fun v σ H Q=>to σ H fun o H1=>ti σ H1 fun i H2=>t o i v H2 fun H3=>Q σ H3
theorem zmM {o i:Expr}{to ti:TE}{t:TSet}(ho:PE X o to)(hi:PE X i ti)(hs:PSet X t)
 (ha:∀v,assign (.Subscript o i pos) X.env v=(do
  let ov <-holding [v] (eval o X.env)
  let iv <-holding [v,ov] (eval i X.env)
  standAt pos
  holding [v,ov,iv] (setItem ov iv v)
  release [v,ov,iv] []):=by intro _;rfl):PG X (.Subscript o i pos) (gSub to ti t):=by
 intro pins s σ H v u Q I r h;rw[ha];refine wad (wca (thn (ho pins s σ H _ I h) fun ov s1 ⟨x,H1,I1,r1,q1⟩ =>?_));refine wad (wca (thn (hi pins s1 σ H1 _ I1 q1) fun iv s2 ⟨y,H2,I2,r2,q2⟩ =>?_));refine wad (wpAny_standAt (wad (wca (thn (hs pins s2 σ H2 x y v ov iv u _ I2 r1 r2 r q2) fun _ s3 ⟨H3,I3,q3⟩ =>?_))));exact wpAny_release ⟨σ,H3,I3,q3⟩
def tAsg (te:TE)(g:TG):TS:=fun D σ H=>te σ H fun x H1=>g x σ H1 D.nx
theorem zjt {tg e:Expr}{te:TE}{g:TG}(he:PE X e te)(hg:PG X tg g)(hs:swapsWithSole [tg] e pos.line X.env=pure false:=by rfl)(hw:swappedStores [tg] e X.env=pure none:=by rfl)
 (h1:(assignEach [tg] X.env).map (·.2) = [assign tg X.env]:=by rfl):PS X (.Assign [tg] e pos) (tAsg te g):=by
 intro pins s σ H D I h;refine wpAny_Assign_stores (thn (he pins s σ H _ I h) fun v s1 ⟨x,H1,I1,r1,q1⟩ =>?_) hs hw;rw[h1];exact thn (hg pins s1 σ H1 x v _ I1 r1 q1) fun _ s2 q=>q
theorem zgu {i:Nat}{x:Str}{e:Expr}{te:TE}{pos':Pos}(hN:X.N.Nodup)(hi:X.N[i]?=some x)(hx:Loc X.env.scope x)(he:PE X e te)(hs:swapsWith e (some (.Name x pos')) pos.line X.env=pure false:=by rfl)(hf:X.fn x=true\/X.env.scope.names.lookup x=some .local:=by first | exact .inl rfl | exact .inr rfl | assumption) :
 PS X (.Assign [.Name x pos'] e pos) (tAsg te (zeL i)):=by
 intro pins s σ H D I h;refine wpAny_Assign_Name (thn (he pins s σ H _ I h) fun v s1 ⟨y,H1,I1,r1,q1⟩ =>?_) hs;exact zif I1 hN hi hx r1 (fun s2 I2=>⟨_,H1,I2,q1⟩) hf
end
section
variable {X:Cx}{pos:Pos}
def zmN (c:TT)(tb:TS):TS:=fun D σ H=>∃W:Nat->St->Hp->Prop,(∃m,W m σ H)/\∀m σ H,W m σ H->
 c σ H fun b H1=>if b=true then ∃N:St->Hp->Prop,(∀σ' H',N σ' H'->∃m',m'<m/\W m' σ' H')/\tb {D with nx:=N,ct:=N,bk:=D.nx} σ H1 else D.nx σ H1
theorem zlq {c:Expr}{body:List Stmt}{tc:TT}{tb:TS}(hp:PassesOwn (model X.prog X.w) X.A X.env X.xe)(hc:PT X c tc)(hb:PSs X body tb):PS X (.While c body [] pos) (zmN tc tb):=by
 intro pins s σ H D I h;obtain⟨W,⟨m0,w0⟩,turn⟩:=h;refine wpAny_While (codeAny_whileLoop (fun n s'=>∃σ' H',Inv X pins σ' H' s'/\W n σ' H') ?_ m0 ⟨σ,H,I,w0⟩);rintro n s1 ⟨σ1,H1,I1,w1⟩;refine wbB hp (thn (hc pins s1 σ1 H1 _ I1 (turn n σ1 H1 w1)) fun b s2 ⟨H2,I2,q2⟩ =>?_);cases b with
 | true=>
   obtain⟨N,hN,q2⟩:=q2;rw[if_pos rfl];refine wbB hp (thn (hb pins s2 σ1 H2 _ I2 q2) fun f s3 q3=>?_);cases f with
   | next=>
     obtain⟨σ3,H3,I3,n3⟩:=q3;obtain⟨m',hm,w3⟩:=hN σ3 H3 n3;exact⟨m',hm,σ3,H3,I3,w3⟩
   | cont=>
     obtain⟨σ3,H3,I3,n3⟩:=q3;obtain⟨m',hm,w3⟩:=hN σ3 H3 n3;exact⟨m',hm,σ3,H3,I3,w3⟩
   | brk=>exact q3
   | ret v=>exact q3
 | false=>
   rw[if_neg waD];exact wcD ⟨σ1,H2,I2,q2⟩
end
structure It where
 go:Nat->Hp->Prop
 yld:Nat->Hp->V->Hp->Prop
 stop:Nat->Hp->Prop
def FpOk (X:Cx)(pins:List (Addr×Obj))(H:Hp)(b:Addr):Prop:=
 H b=none/\b≠X.env.locals/\b∉X.fs/\(b∈X.ex\/X.s₀.heap.objs.size<=b)/\(∀x c,X.env.cells.lookup x=some c->c≠b)/\∀p∈X.pn++pins,p.1≠b
theorem Inv.fpOk {X:Cx}{pins:List (Addr×Obj)}{σ:St}{H H':Hp}{s:Shared}{b:Addr}(I:Inv X pins σ H s)(hb:s.heap.objs.size<=b)(hn:H' b=none):FpOk X pins H' b:=by
 refine⟨hn,Nat.ne_of_gt (wan I.lt hb),I.nofs hb,.inr (waq I.sz hb),fun x c e z=>?_,fun p hp z=>?_⟩
 ·obtain⟨v,q⟩:=I.cell x c e;exact absurd (wan q.lt (by rw[z];exact hb)) (waQ _)
 ·exact absurd (wan (wax (I.pin p hp).1) (by rw[z];exact hb)) (waQ _)
structure Turn (P:Program)(w:World)(K:W.Frag)(tg:Expr)(J:It)(fp:List Addr)(it:Addr)(tn:Nat->Heap->Prop):Prop where
 mem:it∈fp
 obj:∀i h,tn i h->∀b∈fp,∃o,h.get? b=some o/\∀v,o.data≠.cell v
 keep:∀i h h',tn i h->(∀b∈fp,∀o,h.get? b=some o->h'.get? b=some o)->tn i h'
 item:∀(X:Cx),X.prog=P->X.w=w->X.K=K->X.calm=true->∀(i:Nat) (pins:List (Addr×Obj)) (s:Shared) (σ:St) (H:Hp) (E:Value->Shared->Prop),Inv X pins σ H s->(∀b∈fp,FpOk X pins H b)->tn i s.heap->J.go i H->
  wpAny (model P w) X.A (pyNext (.ref it)) (fun r s1=>∃u,r=some u/\
   wpAny (model P w) X.A (letOwnedTupleGo tg (.ref it) u) (fun _ s2=>∃x H',Inv X pins σ H' s2/\RelV x u/\J.yld i H x H'/\tn (i+1) s2.heap/\∀b∈fp,H' b=none) E s1) E s
 done:∀(X:Cx),X.prog=P->X.w=w->X.K=K->X.calm=true->∀(i:Nat) (pins:List (Addr×Obj)) (s:Shared) (σ:St) (H:Hp) (E:Value->Shared->Prop),Inv X pins σ H s->(∀b∈fp,FpOk X pins H b)->tn i s.heap->J.stop i H->
  wpAny (model P w) X.A (pyNext (.ref it)) (fun r s1=>r=none/\Inv X pins σ H s1) E s
 self:∀(A:Around) (i:Nat) (s:Shared) (Q:Value->Shared->Prop) (E:Value->Shared->Prop),tn i s.heap->Q (.ref it) s->wpAny (model P w) A (pyIter (.ref it)) Q E s
abbrev TI:=St->Hp->(It->Hp->Prop)->Prop
def PIE (X:Cx)(pins:List (Addr×Obj))(σ:St)(tg:Expr)(R:It->Hp->Prop)(itv:Value)(s2:Shared):Prop:=
 ∃(it:Addr) (fp:List Addr) (tn:Nat->Heap->Prop) (J:It) (H':Hp),itv=.ref it/\Inv X pins σ H' s2/\Turn X.prog X.w X.K tg J fp it tn/\tn 0 s2.heap/\(∀b∈fp,FpOk X pins H' b)/\R J H'
def PI (X:Cx)(tg iter:Expr)(wi:TI):Prop:=
 ∀(pins:List (Addr×Obj)) (s:Shared) (σ:St) (H:Hp) (R:It->Hp->Prop),Inv X pins σ H s->wi σ H R->
  wpAny (model X.prog X.w) X.A (eval iter X.env) (fun v s1=>wpAny (model X.prog X.w) X.A (pyIter v) (PIE X pins σ tg R) X.xe s1) X.xe s
theorem zlr {M:Model}{A:Around}{E:Value->Shared->Prop}{s:Shared}{tg:Expr}{it:Addr}{u:Value}{o:Obj}{n:String}{vs:Array Value}{Q:Unit->Shared->Prop}(ho:s.heap.get? it=some o)(hc:o.cls=.type n)(hd:o.data=.fields vs)
 (hn:["enumerate","zip","dict_itemiterator","dict_reverseitemiterator","odict_iterator","itertools.zip_longest","itertools.pairwise"].contains n=false) (hQ:Q () s):wpAny M A (letOwnedTupleGo tg (.ref it) u) Q E s:=by
 unfold letOwnedTupleGo;cases tg <;> first
  | exact waz hQ
  | (cases u <;> first
   | exact waz hQ
   | (refine wad (wpAny_load ho ?_)
      rw[hc,hd];show wpAny M A (if(["enumerate","zip","dict_itemiterator","dict_reverseitemiterator","odict_iterator","itertools.zip_longest","itertools.pairwise"].contains n&&vs[0]? == some (rawInt _))=true then _ else _) Q E s
      rw[if_neg (by intro h;rw[hn,Bool.false_and] at h;cases h)];exact waz hQ))
def Itl (K:W.Frag)(a:Addr):It:=
 ⟨fun i H=>∃xs x,SqL K H a xs/\xs[i]?=some x,fun i H x H'=>H'=H/\∀xs,SqL K H a xs->xs[i]?=some x,fun i H=>∃xs,SqL K H a xs/\xs.length<=i⟩
def Itt (K:W.Frag)(a:Addr):It:=
 ⟨fun i H=>∃xs x,SqT K H a xs/\xs[i]?=some x,fun i H x H'=>H'=H/\∀xs,SqT K H a xs->xs[i]?=some x,fun i H=>∃xs,SqT K H a xs/\xs.length<=i⟩
def Itr (lo:Int)(n:Nat):It:=⟨fun i _=>i<n,fun i H x H'=>H'=H/\x=.int (lo+i),fun i _=>n<=i⟩
theorem zju {P:Program}{w:World}{K:W.Frag}{tg:Expr}(a it:Addr):Turn P w K tg (Itl K a) [it] it (fun i h=>h.IsListIter it a i) where
 mem:=by simp
 obj:=fun i h st b hb=>by
  have e:b=it:=by simpa using hb
  subst e;obtain⟨o,e,c,d⟩:=st;exact⟨o,e,fun v z=>by rw[d] at z;cases z⟩
 keep:=fun i h h' st k=>st.at fun o e=>k it (by simp) o e
 item:=by
  intro X hP hw hK hc i pins s σ H E I hf st hg;subst hP hw hK;obtain⟨xs,x,hq,hx⟩:=hg;obtain⟨its,rv,p,hz⟩:=I.list hq;obtain⟨u,hu,ru⟩:=rv.get hx;obtain⟨f0,f1,f2,f3,f4,f5⟩:=hf it (by simp);refine wpAny_pyNext_list_item st p.isList (x:=u) (by simpa using hu) fun h' st' sb=>?_
  have I1:Inv X pins σ H {s with heap:=h'}:=I.turned (t':=s.toks) (fun b o hb e=>(sb.2 b hb).trans e) f0 f1 f3 f4 f5
  obtain⟨o,e,c,d⟩:=id st';exact⟨u,rfl,zlr (s:={s with heap:=h'}) e c d (by decide) ⟨x,H,I1,ru,⟨rfl,fun ys hy=>by rw[I.list_inj hy hq];exact hx⟩,st',fun b hb=>(hf b hb).1⟩⟩
 done:=by
  intro X hP hw hK hc i pins s σ H E I hf st hg;subst hP hw hK;obtain⟨xs,hq,hx⟩:=hg;obtain⟨its,rv,p,hz⟩:=I.list hq;obtain⟨f0,f1,f2,f3,f4,f5⟩:=hf it (by simp);have hl:=rv.length
  exact wpAny_pyNext_list_end (I.ok.hd hc) st p.isList (by simp;omega) fun h' eb=>⟨rfl,I.turned (t':=s.toks) (fun b o hb e=>eb b o hb e) f0 f1 f3 f4 f5⟩
 self:=fun _ _ _ _ _ st h=>wpAny_pyIter_listiter st h
theorem ziV {P:Program}{w:World}{K:W.Frag}{tg:Expr}(a it:Addr):Turn P w K tg (Itt K a) [it] it (fun i h=>h.IsTupleIter it a i) where
 mem:=by simp
 obj:=fun i h st b hb=>by
  have e:b=it:=by simpa using hb
  subst e;obtain⟨o,e,c,d⟩:=st;exact⟨o,e,fun v z=>by rw[d] at z;cases z⟩
 keep:=fun i h h' st k=>st.at fun o e=>k it (by simp) o e
 item:=by
  intro X hP hw hK hc i pins s σ H E I hf st hg;subst hP hw hK;obtain⟨xs,x,hq,hx⟩:=hg;obtain⟨its,rv,p,hz⟩:=I.tuple hq;obtain⟨u,hu,ru⟩:=rv.get hx;obtain⟨f0,f1,f2,f3,f4,f5⟩:=hf it (by simp);refine wpAny_pyNext_tuple_item st (show s.heap.IsTuple a its.toArray from p) (x:=u) (by simpa using hu) fun h' st' sb=>?_
  have I1:Inv X pins σ H {s with heap:=h'}:=I.turned (t':=s.toks) (fun b o hb e=>(sb.2 b hb).trans e) f0 f1 f3 f4 f5
  obtain⟨o,e,c,d⟩:=id st';exact⟨u,rfl,zlr (s:={s with heap:=h'}) e c d (by decide) ⟨x,H,I1,ru,⟨rfl,fun ys hy=>by rw[I.tuple_inj hy hq];exact hx⟩,st',fun b hb=>(hf b hb).1⟩⟩
 done:=by
  intro X hP hw hK hc i pins s σ H E I hf st hg;subst hP hw hK;obtain⟨xs,hq,hx⟩:=hg;obtain⟨its,rv,p,hz⟩:=I.tuple hq;obtain⟨f0,f1,f2,f3,f4,f5⟩:=hf it (by simp);have hl:=rv.length
  exact wpAny_pyNext_tuple_end (I.ok.hd hc) st (show s.heap.IsTuple a its.toArray from p) (by simp;omega) fun h' eb=>⟨rfl,I.turned (t':=s.toks) (fun b o hb e=>eb b o hb e) f0 f1 f3 f4 f5⟩
 self:=fun _ _ _ _ _ st h=>wpAny_pyIter_tupleiter st h
theorem ziW {P:Program}{w:World}{K:W.Frag}{tg:Expr}(it:Addr)(lo:Int)(n:Nat):Turn P w K tg (Itr lo n) [it] it (fun i h=>IsRangeIter h it (lo+(i:Nat)*1) ((n:Int) - (i:Nat)) 1) where
 mem:=by simp
 obj:=fun i h st b hb=>by
  have e:b=it:=by simpa using hb
  subst e;exact⟨_,st,fun v z=>by
   have z':Data.fields _=Data.cell v:=z
   cases z'⟩
 keep:=fun i h h' st k=>k it (by simp) _ st
 item:=by
  intro X hP hw hK hc i pins s σ H E I hf st hg;subst hP hw hK;obtain⟨f0,f1,f2,f3,f4,f5⟩:=hf it (by simp);have W:=Walks.range (prog:=X.prog) (w:=X.w) (I.ok.hd hc) it lo 1 n
  refine W.item i s _ _ hg st fun v h' tk hv st' kk=>?_
  obtain⟨t,rfl⟩:=hv;have I1:Inv X pins σ H {s with heap:=h',toks:=tk}:=I.turned (fun b o hb e=>kk b o (by simpa using hb) e) f0 f1 f3 f4 f5
  refine⟨_,rfl,zlr (s:={s with heap:=h',toks:=tk}) (n:="range_iterator") st' rfl rfl (by decide) ⟨.int (lo+i),H,I1,⟨t,?_⟩,⟨rfl,rfl⟩,st',fun b hb=>(hf b hb).1⟩⟩;rw[Int.mul_one]
 done:=by
  intro X hP hw hK hc i pins s σ H E I hf st hg;subst hP hw hK;obtain⟨f0,f1,f2,f3,f4,f5⟩:=hf it (by simp);exact wpAny_pyNext_range_end (I.ok.hd hc) st (by have:n<=i:=hg;omega) fun h' eb=>⟨rfl,I.turned (t':=s.toks) (fun b o hb e=>eb b o hb e) f0 f1 f3 f4 f5⟩
 self:=fun _ _ _ _ _ st h=>wcj st h
section
variable {X:Cx}{tg:Expr}
def zqn (K:W.Frag)(tl:TE):TI:=fun σ H R=>tl σ H fun x H1=>∃a,x=.ref a/\(∃xs,SqL K H1 a xs)/\R (Itl K a) H1
def iTup (K:W.Frag)(tl:TE):TI:=fun σ H R=>tl σ H fun x H1=>∃a,x=.ref a/\(∃xs,SqT K H1 a xs)/\R (Itt K a) H1
theorem zjv {l:Expr}{tl:TE}(hl:PE X l tl):PI X tg l (zqn X.K tl):=by
 intro pins s σ H R I h;refine thn (hl pins s σ H _ I h) fun v s1 ⟨x,H1,I1,r1,q1⟩ =>?_
 obtain⟨a,e,⟨xs,hq⟩,q⟩:=q1;subst e;cases r1;obtain⟨its,rv,p,hz⟩:=I1.list hq;refine wpAny_pyIter_list p.isList ?_;refine⟨s1.heap.objs.size,[s1.heap.objs.size],_,_,H1,rfl,I1.kept (t':=s1.toks) fun b o e=>wah _ e,zju a _,⟨_,waA _ rfl,rfl,rfl⟩,fun b hb=>?_,q⟩;have e:b=s1.heap.objs.size:=by simpa using hb
 subst e;exact I1.fpOk (wae _) (I1.hok.fresh (wae _))
theorem zmO {l:Expr}{tl:TE}(hl:PE X l tl):PI X tg l (iTup X.K tl):=by
 intro pins s σ H R I h;refine thn (hl pins s σ H _ I h) fun v s1 ⟨x,H1,I1,r1,q1⟩ =>?_
 obtain⟨a,e,⟨xs,hq⟩,q⟩:=q1;subst e;cases r1;obtain⟨its,rv,p,hz⟩:=I1.tuple hq;refine wcb (show s1.heap.IsTuple a its.toArray from p) ?_;refine⟨s1.heap.objs.size,[s1.heap.objs.size],_,_,H1,rfl,I1.kept (t':=s1.toks) fun b o e=>wah _ e,ziV a _,⟨_,waA _ rfl,rfl,rfl⟩,fun b hb=>?_,q⟩;have e:b=s1.heap.objs.size:=by simpa using hb
 subst e;exact I1.fpOk (wae _) (I1.hok.fresh (wae _))
theorem zls {pins:List (Addr×Obj)}{σ:St}{H:Hp}{s:Shared}{R:It->Hp->Prop}{E:Value->Shared->Prop}{lo hi:Int}{t u v:Tok}{tk:Nat}(I:Inv X pins σ H s)(h1:-(2 ^ 62)<=lo)(h2:lo<2 ^ 62)(h3:-(2 ^ 62)<=hi)(h4:hi<2 ^ 62)
 (q:R (Itr lo (hi - lo).toNat) H):wpAny (model X.prog X.w) X.A (pyIter (.ref s.heap.objs.size)) (PIE X pins σ tg R) E {s with heap:=s.heap.push {cls:=.type "range",data:=.fields #[.int lo t,.int hi u,.int 1 v]},toks:=tk}:=by
 refine wpAny_pyIter_range (IsRange.new ..) (small_one h1 h2 h3 h4) ?_;have I1:Inv X pins σ H {s with heap:=s.heap.push {cls:=.type "range",data:=.fields #[.int lo t,.int hi u,.int 1 v]},toks:=tk}:=I.kept fun b o e=>wah _ e
 refine⟨(s.heap.push {cls:=.type "range",data:=.fields #[.int lo t,.int hi u,.int 1 v]}).objs.size,[(s.heap.push {cls:=.type "range",data:=.fields #[.int lo t,.int hi u,.int 1 v]}).objs.size],_,_,H,rfl,
  I1.kept (t':=tk) fun b o e=>wah _ e,ziW _ lo (hi - lo).toNat,?_,fun b hb=>?_,q⟩
 ·have e1:lo+((0:Nat):Int)*1=lo:=by simp
  have e2:(((hi - lo).toNat:Nat):Int) - ((0:Nat):Int)=Builtin.Range.rangeSize lo hi 1:=by rw[rangeSize_one];split <;> omega
  show IsRangeIter _ _ (lo+((0:Nat):Int)*1) ((((hi - lo).toNat:Nat):Int) - ((0:Nat):Int)) 1
  rw[e1,e2];exact waA _ rfl
 ·have e:b=(s.heap.push {cls:=.type "range",data:=.fields #[.int lo t,.int hi u,.int 1 v]}).objs.size:=by simpa using hb
  subst e;exact I1.fpOk (wae _) (I1.hok.fresh (wae _))
def zqo (ta:TA):TI:=fun σ H R=>ta σ H fun vs H1=>∃j:Int,vs = [.int j]/\-(2 ^ 62)<=j/\j<2 ^ 62/\R (Itr 0 j.toNat) H1
theorem zgv {a:Expr}{ta:TA}{p pos:Pos}(hg:Gl X "range")(hm:X.mg "range"=none)(ha:PA X [a] ta)(hs:starEach [a] X.env = [(false,eval a X.env)]:=by rfl):PI X tg (.Call (.Name "range" p) [a] [] pos) (zqo ta):=by
 intro pins s σ H R I h;refine Call_ (zeK I hg hm boot_range (waV (thn (ha pos pins s σ H _ I h) fun us s1 ⟨vs,H1,I1,r1,q1⟩ =>?_) hs rfl));obtain⟨j,e,q1,q2,q⟩:=q1;subst e;cases r1 with
 | cons r rr=>
   cases rr;obtain⟨t,rfl⟩:=r;exact call_range_1 (zls I1 (by omega) (by omega) q1 q2 (by simpa using q))
def tFor (wi:TI)(g:TG)(tb:TS):TS:=fun D σ H=>wi σ H fun J H1=>∃W:Nat->Nat->St->Hp->Prop,(∃m,W 0 m σ H1)/\∀i m σ H,W i m σ H->
 (J.stop i H/\D.nx σ H)\/(J.go i H/\∃N:St->Hp->Prop,(∀σ' H',N σ' H'->∃m',m'<m/\W (i+1) m' σ' H')/\∀x H',J.yld i H x H'->g x σ H' fun σ2 H2=>tb {D with nx:=N,ct:=N,bk:=D.nx} σ2 H2)
def zgw (fp:List Addr)(h:Heap):List (Addr×Obj):=fp.filterMap fun b=>(h.get? b).map fun o=>(b,o)
theorem zcY {fp:List Addr}{h:Heap}{b:Addr}{o:Obj}(hb:b∈fp)(e:h.get? b=some o):(b,o)∈zgw fp h:=wbo.mpr ⟨b,hb,by rw[e];rfl⟩
theorem zjw {fp:List Addr}{h:Heap}{p:Addr×Obj}(hp:p∈zgw fp h):p.1∈fp/\h.get? p.1=some p.2:=by
 obtain⟨b,hb,e⟩:=wbo.mp hp;cases q:h.get? b with
 | none=>rw[q] at e;cases e
 | some o=>
   rw[q] at e;have e':(b,o)=p:=wau e
   subst e';exact⟨hb,q⟩
theorem Inv.pinned {pins:List (Addr×Obj)}{σ:St}{H:Hp}{s:Shared}{fp:List Addr}(I:Inv X pins σ H s)(hf:∀b∈fp,FpOk X pins H b)(ho:∀b∈fp,∃o,s.heap.get? b=some o/\∀v,o.data≠.cell v):Inv X (pins++zgw fp s.heap) σ H s:=
 I.pins_of fun p hp=>(waC.mp hp).elim (fun z=>I.pin p (waE _ z)) fun z=>by
  obtain⟨hb,e⟩:=zjw z;obtain⟨f0,f1,f2,_⟩:=hf p.1 hb;obtain⟨o,e',d⟩:=ho p.1 hb;rw[e] at e';cases e';exact⟨e,f0,f1,f2,d⟩
theorem Inv.unpinned {pins pl:List (Addr×Obj)}{σ:St}{H:Hp}{s:Shared}(I:Inv X (pins++pl) σ H s):Inv X pins σ H s:=I.pins_of fun p hp=>I.pin p (waE _ (wbz _ hp))
theorem zmP {iter:Expr}{body:List Stmt}{wi:TI}{g:TG}{tb:TS}{pos:Pos}(hp:PassesOwn (model X.prog X.w) X.A X.env X.xe)(hc:X.calm=true)(hi:PI X tg iter wi)(hg:PG X tg g)(hb:PSs X body tb)
 (hs:∀x,foldedSetIterable iter X.env x=pure x:=by intro _;rfl):PS X (.For tg iter body [] pos) (tFor wi g tb):=by
 intro pins s σ H D I h;refine wpAny_For (thn (hi pins s σ H _ I h) fun v s1 h1=>thn h1 fun itv s2 h2=>?_) hs;obtain⟨it,fp,tn,J,H2,e,I2,T,st2,f2,W,⟨m0,w0⟩,turn⟩:=h2;subst e;have stat:∀{H':Hp},(∀b∈fp,H' b=none)->∀b∈fp,FpOk X pins H' b:=fun hn b hb=>⟨hn b hb,(f2 b hb).2⟩
 refine codeAny_forLoop_any (fun n s'=>∃i σ' H',Inv X pins σ' H' s'/\tn i s'.heap/\(∀b∈fp,H' b=none)/\W i n σ' H') ?_ m0 ⟨0,σ,H2,I2,st2,fun b hb=>(f2 b hb).1,w0⟩;rintro n s3 ⟨i,σ3,H3,I3,st3,fr3,w3⟩;rcases turn i n σ3 H3 w3 with⟨stop,qn⟩ | ⟨go,N,hN,step⟩
 ·refine wbB hp (thn (T.done X rfl rfl rfl hc i pins s3 σ3 H3 X.xe I3 (stat fr3) st3 stop) fun r s4 ⟨hr,I4⟩ =>?_);subst hr;exact wcD ⟨σ3,H3,I4,qn⟩
 ·refine wbB hp (thn (T.item X rfl rfl rfl hc i pins s3 σ3 H3 X.xe I3 (stat fr3) st3 go) fun r s4 ⟨u,hr,h4⟩ =>?_);subst hr;refine wbB hp (thn h4 fun _ s5 ⟨x,H5,I5,r5,y5,st5,fr5⟩ =>?_);have I5':=I5.pinned (stat fr5) (T.obj _ _ st5)
  refine wbB hp (thn (hg _ s5 σ3 H5 x u _ I5' r5 (step x H5 y5)) fun _ s6 ⟨σ6,H6,I6,q6⟩ =>?_);refine wbB hp (thn (hb _ s6 σ6 H6 _ I6 q6) fun f s7 q7=>?_);have again:∀{σ7:St}{H7:Hp},Inv X (pins++zgw fp s5.heap) σ7 H7 s7->N σ7 H7->∃m,m<n/\∃i σ' H',Inv X pins σ' H' s7/\tn i s7.heap/\(∀b∈fp,H' b=none)/\W i m σ' H':=fun {σ7 H7} I7 n7=>by
   obtain⟨m',hm,w7⟩:=hN σ7 H7 n7;refine⟨m',hm,i+1,σ7,H7,I7.unpinned,T.keep _ _ _ st5 fun b hb o e=>(I7.pin (b,o) (waE _ (waE _ (zcY hb e)))).1,fun b hb=>?_,w7⟩;obtain⟨o,e,d⟩:=T.obj _ _ st5 b hb;exact(I7.pin (b,o) (waE _ (waE _ (zcY hb e)))).2.1
  cases f with
  | next=>obtain⟨σ7,H7,I7,n7⟩:=q7;exact again I7 n7
  | cont=>obtain⟨σ7,H7,I7,n7⟩:=q7;exact again I7 n7
  | brk=>obtain⟨σ7,H7,I7,q7⟩:=q7;exact⟨σ7,H7,I7.unpinned,q7⟩
  | ret v=>obtain⟨x7,σ7,H7,I7,r7,q7⟩:=q7;exact⟨x7,σ7,H7,I7.unpinned,r7,q7⟩
end
abbrev R2:=V->V->Hp->VK->Prop
def OpR (X:Cx)(f:Value->Value->Sem Value)(r:R2):Prop:=
 ∀(pins:List (Addr×Obj)) (s:Shared) (σ:St) (H:Hp) (x y:V) (v u:Value) (Q:VK),Inv X pins σ H s->RelV x v->RelV y u->r x y H Q->
  wpAny (model X.prog X.w) X.A (f v u) (EP X pins σ Q) X.xe s
def UnR (X:Cx)(f:Value->Sem Value)(r:V->Hp->VK->Prop):Prop:=
 ∀(pins:List (Addr×Obj)) (s:Shared) (σ:St) (H:Hp) (x:V) (v:Value) (Q:VK),Inv X pins σ H s->RelV x v->r x H Q->
  wpAny (model X.prog X.w) X.A (f v) (EP X pins σ Q) X.xe s
def zdV (X:Cx)(f:Value)(r:List V->Hp->VK->Prop):Prop:=
 ∀(pins:List (Addr×Obj)) (s:Shared) (σ:St) (H:Hp) (xs:List V) (us:List Value) (Q:VK),Inv X pins σ H s->Vals xs us->r xs H Q->
  wpAny (model X.prog X.w) X.A (call f us) (EP X pins σ Q) X.xe s
def TruR (X:Cx)(r:V->Hp->(Bool->Hp->Prop)->Prop):Prop:=
 ∀(pins:List (Addr×Obj)) (s:Shared) (σ:St) (H:Hp) (x:V) (v:Value) (Q:Bool->Hp->Prop),Inv X pins σ H s->RelV x v->r x H Q->
  wpAny (model X.prog X.w) X.A (truthy v) (TP X pins σ Q) X.xe s
def tOp (r:R2)(ta tb:TE):TE:=fun σ H Q=>ta σ H fun x H1=>tb σ H1 fun y H2=>r x y H2 Q
def tUn (r:V->Hp->VK->Prop)(ta:TE):TE:=fun σ H Q=>ta σ H fun x H1=>r x H1 Q
def rI (C:Int->Int->Prop)(g:Int->Int->V):R2:=fun x y H Q=>∃i j,x=.int i/\y=.int j/\C i j/\Q (g i j) H
def rI0 (g:Int->Int->V):R2:=fun x y H Q=>∃i j,x=.int i/\y=.int j/\Q (g i j) H
def rU (g:Int->V):V->Hp->VK->Prop:=fun x H Q=>∃i,x=.int i/\Q (g i) H
section
variable {X:Cx}{a b c:Expr}{ta tb tc:TE}{pos:Pos}
theorem binT (ha:PE X a ta)(hb:PE X b tb){pins:List (Addr×Obj)}{s:Shared}{σ:St}{H:Hp}{R:V->V->Hp->Prop}(I:Inv X pins σ H s)
 (h:ta σ H fun x H1=>tb σ H1 fun y H2=>R x y H2) {Q:Value->Shared->Prop}{f:Value->Value->Sem Value}
 (hf:∀v u s2 x y H2,Inv X pins σ H2 s2->RelV x v->RelV y u->R x y H2->wpAny (model X.prog X.w) X.A (f v u) Q X.xe s2) :
 wpAny (model X.prog X.w) X.A (eval a X.env) (fun v s₁=>wpAny (model X.prog X.w) X.A (eval b X.env) (fun u s₂=>wpAny (model X.prog X.w) X.A (f v u) Q X.xe s₂) X.xe s₁) X.xe s:=by
 refine thn (ha pins s σ H _ I h) fun v s1 ⟨x,H1,I1,r1,q1⟩ =>?_
 refine thn (hb pins s1 σ H1 _ I1 q1) fun u s2 ⟨y,H2,I2,r2,q2⟩ =>?_
 exact hf v u s2 x y H2 I2 r1 r2 q2
theorem zo4 {op:Operator}{r:R2}(ho:OpR X (binaryOp op) r)(ha:PE X a ta)(hb:PE X b tb):PE X (.BinOp a op b pos) (tOp r ta tb):=by
 intro pins s σ H Q I h;exact wpAny_BinOp (binT ha hb I h fun v u s2 x y H2 I2 rx ry q=>ho pins s2 σ H2 x y v u Q I2 rx ry q)
theorem zqp {op:UnaryOp}{r:V->Hp->VK->Prop}(ho:UnR X (unaryOp op) r)(ha:PE X a ta):PE X (.UnaryOp op a pos) (tUn r ta):=by
 intro pins s σ H Q I h;exact UnaryOp_ (thn (ha pins s σ H _ I h) fun v s1 ⟨x,H1,I1,r1,q1⟩ =>ho pins s1 σ H1 x v Q I1 r1 q1)
theorem opI {f:Value->Value->Sem Value}{C:Int->Int->Prop}{g:Int->Int->Int}
 (rule:∀(i j:Int) (t u:Tok) (s:Shared) (Q:Value->Shared->Prop) (E:Value->Shared->Prop),C i j->Q (.int (g i j) s.toks) {s with toks:=s.toks+1}->wpAny (model X.prog X.w) X.A (f (.int i t) (.int j u)) Q E s) :
 OpR X f (rI C fun i j=>.int (g i j)):=by
 intro pins s σ H x y v u Q I rx ry h;obtain⟨i,j,rfl,rfl,hc,q⟩:=h;obtain⟨t,rfl⟩:=rx;obtain⟨t',rfl⟩:=ry;exact rule i j t t' s _ _ hc ⟨.int (g i j),H,I.tok _,⟨_,rfl⟩,q⟩
theorem opI0 {f:Value->Value->Sem Value}{g:Int->Int->Int}
 (rule:∀(i j:Int) (t u:Tok) (s:Shared) (Q:Value->Shared->Prop) (E:Value->Shared->Prop),Q (.int (g i j) s.toks) {s with toks:=s.toks+1}->wpAny (model X.prog X.w) X.A (f (.int i t) (.int j u)) Q E s) :
 OpR X f (rI0 fun i j=>.int (g i j)):=by
 intro pins s σ H x y v u Q I rx ry h;obtain⟨i,j,rfl,rfl,q⟩:=h;obtain⟨t,rfl⟩:=rx;obtain⟨t',rfl⟩:=ry;exact rule i j t t' s _ _ ⟨.int (g i j),H,I.tok _,⟨_,rfl⟩,q⟩
theorem opB0 {f:Value->Value->Sem Value}{g:Int->Int->Bool}
 (rule:∀(i j:Int) (t u:Tok) (s:Shared) (Q:Value->Shared->Prop) (E:Value->Shared->Prop),Q (.bool (g i j)) s->wpAny (model X.prog X.w) X.A (f (.int i t) (.int j u)) Q E s) :
 OpR X f (rI0 fun i j=>.bl (g i j)):=by
 intro pins s σ H x y v u Q I rx ry h;obtain⟨i,j,rfl,rfl,q⟩:=h;obtain⟨t,rfl⟩:=rx;obtain⟨t',rfl⟩:=ry;exact rule i j t t' s _ _ ⟨.bl (g i j),H,I,rfl,q⟩
def CDiv (i j:Int):Prop:=0<j/\j<1073741824
def CPow (i j:Int):Prop:=0<=j/\j<=1000000/\i.natAbs<2 ^ 64
def CMul (i j:Int):Prop:=(-(2 ^ 64)<i/\i<2 ^ 64)\/(-(2 ^ 64)<j/\j<2 ^ 64)
theorem CMul.ok {i j:Int}(h:CMul i j):IntMulOk i j:=by
 rcases h with⟨h1,h2⟩ | ⟨h1,h2⟩
 ·exact .of_left (intBits_le_64 h1 h2)
 ·exact .of_right (intBits_le_64 h1 h2)
theorem op_add:OpR X (binaryOp .Add) (rI0 fun i j=>.int (i+j)):=opI0 fun _ _ _ _ _ _ _ q=>add_int q
theorem zcf:OpR X (binaryOp .Sub) (rI0 fun i j=>.int (i - j)):=opI0 fun _ _ _ _ _ _ _ q=>sub_int q
theorem op_mul:OpR X (binaryOp .Mult) (rI CMul fun i j=>.int (i*j)):=opI fun _ _ _ _ _ _ _ hc q=>mul_int q hc.ok
theorem zfU:OpR X (binaryOp .FloorDiv) (rI CDiv fun i j=>.int (i / j)):=opI fun i j _ _ _ _ _ hc q=>by
 have h1:(0:Int)<j:=hc.1
 have h2:j<1073741824:=hc.2
 exact floordiv_int (by omega) (by rw[Int.fdiv_eq_ediv_of_nonneg i (by omega)];exact q) (.inl (PyProof.noPylong_small (by omega)))
theorem zcK:OpR X (binaryOp .Mod) (rI (fun _ j=>0<j) fun i j=>.int (i % j)):=opI fun i j _ _ _ _ _ hc q=>by
 have h1:(0:Int)<j:=hc
 exact mod_int' (by omega) (by rw[Int.fmod_eq_emod_of_nonneg i (by omega)];exact q)
theorem zmQ:OpR X (binaryOp .Pow) (rI CPow fun i j=>.int (i ^ j.toNat)):=opI fun _ _ _ _ _ _ _ hc q=>pow_int_small hc.1 hc.2.1 hc.2.2 q
theorem unI {f:Value->Sem Value}{g:Int->Int}
 (rule:∀(i:Int) (t:Tok) (s:Shared) (Q:Value->Shared->Prop) (E:Value->Shared->Prop),Q (.int (g i) s.toks) {s with toks:=s.toks+1}->wpAny (model X.prog X.w) X.A (f (.int i t)) Q E s) :
 UnR X f (rU fun i=>.int (g i)):=by
 intro pins s σ H x v Q I rx h;obtain⟨i,rfl,q⟩:=h;obtain⟨t,rfl⟩:=rx;exact rule i t s _ _ ⟨.int (g i),H,I.tok _,⟨_,rfl⟩,q⟩
theorem zo5:UnR X (unaryOp .USub) (rU fun i=>.int (-i)):=unI fun _ _ _ _ _ q=>neg_int q
end
def scal:V->V->Bool
 | .non,.non=>true | .non,.int _=>true | .int _,.non=>true | .non,.bl _=>true | .bl _,.non=>true | .non,.str _=>true | .str _,.non=>true
 | .int _,.int _=>true | .bl _,.bl _=>true | .str _,.str _=>true | .byt _,.byt _=>true
 | .int _,.str _=>true | .str _,.int _=>true | .bl _,.str _=>true | .str _,.bl _=>true
 | _,_=>false
def rEq:R2:=fun x y H Q=>scal x y=true/\Q (.bl (decide (x=y))) H
theorem zeM {i j:Int}:decide (V.int i=V.int j)=(i == j):=by
 rw[waR];simp
theorem zgx {i j:Bool}:decide (V.bl i=V.bl j)=(i == j):=by
 rw[waR];simp
theorem zeN {i j:Str}:decide (V.str i=V.str j)=(i == j):=by
 rw[waR];simp
theorem znq {i j:Array UInt8}:decide (V.byt i=V.byt j)=(i.toList == j.toList):=by
 rw[waR];cases i;cases j;simp
section
variable {X:Cx}{a b c:Expr}{ta tb tc:TE}{pos:Pos}
theorem zbE {pins:List (Addr×Obj)}{σ:St}{H:Hp}{s:Shared}{Q:VK}{k k':Bool}(I:Inv X pins σ H s)(q:Q (.bl k) H)(e:k=k'):EP X pins σ Q (.bool k') s:=by
 subst e;exact⟨.bl k,H,I,rfl,q⟩
theorem op_eq:OpR X (compareOp .Eq) rEq:=by
 intro pins s σ H x y v u Q I rx ry h;obtain⟨hs,q⟩:=h;cases x with
 | non=>
   cases rx;cases y with
   | non=>cases ry;exact PySem.EqNone.eq_none_none (zbE I q (by simp))
   | bl j=>cases ry;exact PySem.EqNone.eq_none_bool (zbE I q (by simp))
   | int j=>obtain⟨t',rfl⟩:=ry;exact PySem.EqNone.eq_none_int (zbE I q (by simp))
   | str j=>obtain⟨t',rfl⟩:=ry;exact PySem.EqNone.eq_none_str (zbE I q (by simp))
   | _=>exact absurd (show false=true from hs) waD
 | bl i=>
   cases rx;cases y with
   | non=>cases ry;exact PySem.EqNone.eq_bool_none (zbE I q (by simp))
   | bl j=>cases ry;exact eq_bool (zbE I q zgx)
   | str j=>obtain⟨t',rfl⟩:=ry;exact PySem.EqMixed.eq_bool_str (zbE I q (by simp))
   | _=>exact absurd (show false=true from hs) waD
 | int i=>
   obtain⟨t,rfl⟩:=rx;cases y with
   | non=>cases ry;exact PySem.EqNone.eq_int_none (zbE I q (by simp))
   | int j=>obtain⟨t',rfl⟩:=ry;exact eq_int (zbE I q zeM)
   | str j=>obtain⟨t',rfl⟩:=ry;exact PySem.EqMixed.eq_int_str (zbE I q (by simp))
   | _=>exact absurd (show false=true from hs) waD
 | str i=>
   obtain⟨t,rfl⟩:=rx;cases y with
   | non=>cases ry;exact PySem.EqNone.eq_str_none (zbE I q (by simp))
   | bl j=>cases ry;exact PySem.EqMixed.eq_str_bool (zbE I q (by simp))
   | int j=>obtain⟨t',rfl⟩:=ry;exact PySem.EqMixed.eq_str_int (zbE I q (by simp))
   | str j=>obtain⟨t',rfl⟩:=ry;exact eq_str (zbE I q zeN)
   | _=>exact absurd (show false=true from hs) waD
 | byt i=>
   obtain⟨t,rfl⟩:=rx;cases y with
   | byt j=>obtain⟨t',rfl⟩:=ry;exact PySem.W.eq_bytes (zbE I q znq)
   | _=>exact absurd (show false=true from hs) waD
 | _=>cases y <;> exact absurd (show false=true from hs) waD
theorem zfq:OpR X (compareOp .Lt) (rI0 fun i j=>.bl (decide (i<j))):=opB0 fun _ _ _ _ _ _ _ q=>lt_int q
theorem zlu:OpR X (compareOp .Gt) (rI0 fun i j=>.bl (decide (j<i))):=opB0 fun _ _ _ _ _ _ _ q=>gt_int q
theorem zo6:OpR X (compareOp .GtE) (rI0 fun i j=>.bl (decide (j<=i))):=opB0 fun _ _ _ _ _ _ _ q=>ge_int q
theorem zjx:OpR X (compareOp .Is) (fun x y H Q=>y=.non/\Q (.bl (decide (x=.non))) H):=by
 intro pins s σ H x y v u Q I rx ry h;obtain⟨rfl,q⟩:=h;cases ry;refine is_none_gen (zbE I q ?_);cases x <;> first
  | (cases rx;rfl)
  | (obtain⟨t,rfl⟩:=rx;rfl)
theorem zhx:OpR X (compareOp .IsNot) (fun x y H Q=>y=.non/\Q (.bl (!decide (x=.non))) H):=by
 intro pins s σ H x y v u Q I rx ry h;obtain⟨rfl,q⟩:=h;cases ry;refine isnot_none_gen (zbE I q ?_);cases x <;> first
  | (cases rx;rfl)
  | (obtain⟨t,rfl⟩:=rx;rfl)
theorem OpR.or {f:Value->Value->Sem Value}{r r':R2}(h:OpR X f r)(h':OpR X f r'):OpR X f (fun x y H Q=>r x y H Q\/r' x y H Q):=by
 intro pins s σ H x y v u Q I rx ry q;rcases q with q | q
 ·exact h pins s σ H x y v u Q I rx ry q
 ·exact h' pins s σ H x y v u Q I rx ry q
theorem zaD (b:Expr){op:CmpOp}(h:op≠.In:=by decide)(h2:op≠.NotIn:=by decide):behindInMarks op b=false:=by
 have e1:(op == CmpOp.In)=false:=by cases op <;> first | rfl | exact absurd rfl h
 have e2:(op == CmpOp.NotIn)=false:=by cases op <;> first | rfl | exact absurd rfl h2
 cases b <;> simp[behindInMarks,e1,e2]
theorem znr {op:CmpOp}{r:R2}(ho:OpR X (compareOp op) r)(ha:PE X a ta)(hb:PE X b tb)(hm:behindInMarks op b=false):PE X (.Compare a [op] [b] pos) (tOp r ta tb):=by
 intro pins s σ H Q I h;exact wpAny_Compare1 (binT ha hb I h fun v u s2 x y H2 I2 rx ry q=>ho pins s2 σ H2 x y v u Q I2 rx ry q) hm
def zns (t:TE):TT:=fun σ H Q=>t σ H fun x H'=>∃k,x=.bl k/\Q k H'
theorem zjy {op:CmpOp}{r:R2}(ho:OpR X (compareOp op) r)(ha:PE X a ta)(hb:PE X b tb)(hm:behindInMarks op b=false):PT X (.Compare a [op] [b] pos) (zns (tOp r ta tb)):=by
 intro pins s σ H Q I h;refine wpAny_isTrue_Compare1 (thn (ha pins s σ H _ I h) fun v s1 ⟨x,H1,I1,r1,q1⟩ =>thn (hb pins s1 σ H1 _ I1 q1) fun u s2 ⟨y,H2,I2,r2,q2⟩ =>
  thn (ho pins s2 σ H2 x y v u _ I2 r1 r2 q2) fun c s3 ⟨z,H3,I3,r3,k,e,q3⟩ =>?_) hm
 subst e;cases r3;exact wbT ⟨H3,I3,q3⟩
def TruV (K:W.Frag)(x:V)(H:Hp)(k:Bool):Prop:=
 match x with
 | .non=>k=false
 | .bl b=>k=b
 | .int i=>k=(i != 0)
 | .str y=>y.length<=sizeLine/\k=((y.length:Int) != 0)
 | .byt y=>y.size<=sizeLine/\k=((y.size:Int) != 0)
 | .ref p=>(∃xs,SqL K H p xs/\k = !xs.isEmpty)\/(∃xs,SqT K H p xs/\k = !xs.isEmpty)\/∃kvs,H p=some (.dK kvs)/\k = !kvs.isEmpty
 | _=>False
theorem ziX {κ:Type}{kvs:List (κ×V)}{vs:List (κ×Value)}(r:KV kvs vs):(!vs.isEmpty) = !kvs.isEmpty:=by
 cases r <;> rfl
theorem zfA {xs:List V}{its:List Value}(r:Vals xs its):(!its.toArray.isEmpty) = !xs.isEmpty:=by
 cases r <;> simp
theorem zfB:(sizeLine:Nat)<2 ^ 63:=by rw[sizeLine_eq];decide
theorem zo7:TruR X (fun x H Q=>∃k,TruV X.K x H k/\Q k H):=by
 intro pins s σ H x v Q I rx h;obtain⟨k,e,q⟩:=h;have hl:=zfB
 have hs:sizeLine=16777216:=sizeLine_eq
 cases x with
 | non=>
   cases rx;have e':k=false:=e
   subst e';exact truthy_none ⟨H,I,q⟩
 | bl b=>
   cases rx;have e':k=b:=e
   subst e';exact wbT ⟨H,I,q⟩
 | int i=>
   obtain⟨t,rfl⟩:=rx;have e':k=(i != 0):=e
   subst e';exact PySem.P.truthy_int ⟨H,I,q⟩
 | str y=>
   obtain⟨t,rfl⟩:=rx;obtain⟨hy,e'⟩:y.length<=sizeLine/\k=((y.length:Int) != 0):=e;subst e';exact PySem.P.truthy_str (by omega) ⟨H,I.tok _,q⟩
 | byt y=>
   obtain⟨t,rfl⟩:=rx;obtain⟨hy,e'⟩:y.size<=sizeLine/\k=((y.size:Int) != 0):=e;subst e';exact PySem.W.truthy_bytes (by omega) ⟨H,I.tok _,q⟩
 | ref p=>
   cases rx;have e':(∃xs,SqL X.K H p xs/\k = !xs.isEmpty)\/(∃xs,SqT X.K H p xs/\k = !xs.isEmpty)\/∃kvs,H p=some (.dK kvs)/\k = !kvs.isEmpty:=e
   rcases e' with⟨xs,hx,e'⟩ | ⟨xs,hx,e'⟩ | ⟨kvs,hx,e'⟩
   ·subst e';obtain⟨its,r,pl,hz⟩:=I.list hx;have hlen:=r.length
    exact wpAny_truthy_list pl.isList (by simp only[wac];omega) ⟨H,I.tok _,by rw[zfA r];exact q⟩
   ·subst e';obtain⟨its,r,pl,hz⟩:=I.tuple hx;have hlen:=r.length
    exact truthy_tuple pl (by simp only[wac];omega) ⟨H,I.tok _,by rw[zfA r];exact q⟩
   ·subst e';obtain⟨hz,hS,vs,r,m⟩:kvs.length<=sizeLine/\(p == sysModules)=false/\∃vs,KV kvs vs/\s.heap.DictOf (zaO X.prog X.w) p vs:=I.hok p _ hx;have hlen:kvs.length=vs.length:=wbZ r
    exact wpAny_truthy_dict hS m (by omega) ⟨H,I.tok _,by rw[ziX r];exact q⟩
 | _=>exact(show False from e).elim
theorem zlv (ha:PE X a ta)(he:∀whole,isTrue a X.env whole=(do let v <-whole;standAt a.pos;holding [v] (truthy v))) :
 PT X a (fun σ H Q=>ta σ H fun x H'=>∃k,TruV X.K x H' k/\Q k H'):=by
 intro pins s σ H Q I h;exact isTrue_plain (thn (ha pins s σ H _ I h) fun v s1 ⟨x,H1,I1,r1,q1⟩ =>zo7 pins s1 σ H1 x v Q I1 r1 q1) (he _)
theorem op_add_str:OpR X (binaryOp .Add) (fun x y H Q=>∃i j,x=.str i/\y=.str j/\i.length+j.length<=sizeLine/\Q (.str (i++j)) H):=by
 intro pins s σ H x y v u Q I rx ry h;obtain⟨i,j,rfl,rfl,hz,q⟩:=h;obtain⟨t,rfl⟩:=rx;obtain⟨t',rfl⟩:=ry;exact add_str (fun t' tk=>⟨.str (i++j),H,I.tok _,⟨_,rfl⟩,q⟩) hz
theorem zfV {x:V}{us:List Value}(r:Vals [x] us):∃u,us = [u]/\RelV x u:=by
 cases r with
 | cons r1 r2=>cases r2;exact⟨_,rfl,r1⟩
theorem zo8 {x y:V}{us:List Value}(r:Vals [x,y] us):∃u w',us = [u,w']/\RelV x u/\RelV y w':=by
 cases r with
 | cons r1 r2=>
   cases r2 with
   | cons r3 r4=>cases r4;exact⟨_,_,rfl,r1,r3⟩
theorem zdq (hc:X.calm=true):zdV X (.builtin "max") (fun xs H Q=>∃i j,xs = [.int i,.int j]/\Q (.int (if j>i then j else i)) H):=by
 intro pins s σ H xs us Q I r h;obtain⟨i,j,rfl,q⟩:=h;obtain⟨u,w',rfl,⟨t,rfl⟩,⟨t',rfl⟩⟩:=zo8 r;refine max_two_ints (I.ok.hd hc) fun h' tk k=>⟨_,H,I.kept k,?_,q⟩
 by_cases hj:j>i
 ·rw[if_pos hj,if_pos hj];exact⟨_,rfl⟩
 ·rw[if_neg hj,if_neg hj];exact⟨_,rfl⟩
theorem zeO (hc:X.calm=true):zdV X (.builtin "min") (fun xs H Q=>∃i j,xs = [.int i,.int j]/\Q (.int (if j<i then j else i)) H):=by
 intro pins s σ H xs us Q I r h;obtain⟨i,j,rfl,q⟩:=h;obtain⟨u,w',rfl,⟨t,rfl⟩,⟨t',rfl⟩⟩:=zo8 r;refine min_two_ints (I.ok.hd hc) fun h' tk k=>⟨_,H,I.kept k,?_,q⟩
 by_cases hj:j<i
 ·rw[if_pos hj,if_pos hj];exact⟨_,rfl⟩
 ·rw[if_neg hj,if_neg hj];exact⟨_,rfl⟩
theorem zeP:zdV X (.type "int") (fun xs H Q=>(∃i,xs = [.int i]/\Q (.int i) H)\/∃k,xs = [.bl k]/\Q (.int (if k then 1 else 0)) H):=by
 intro pins s σ H xs us Q I r h;rcases h with⟨i,rfl,q⟩ | ⟨k,rfl,q⟩
 ·obtain⟨u,rfl,t,rfl⟩:=zfV r;exact call_int_int ⟨.int i,H,I,⟨_,rfl⟩,q⟩
 ·obtain⟨u,rfl,r1⟩:=zfV r;cases r1;exact call_int_bool ⟨.int (if k then 1 else 0),H,I.tok _,⟨_,rfl⟩,q⟩
def LenV (K:W.Frag)(x:V)(H:Hp)(n:Nat):Prop:=
 match x with
 | .str y=>y.length<=sizeLine/\n=y.length
 | .byt y=>y.size<=sizeLine/\n=y.size
 | .ref p=>(∃xs,SqL K H p xs/\n=xs.length)\/∃xs,SqT K H p xs/\n=xs.length
 | _=>False
theorem zb2:zdV X (.builtin "len") (fun xs H Q=>∃x n,xs = [x]/\LenV X.K x H n/\Q (.int n) H):=by
 intro pins s σ H xs us Q I r h;obtain⟨x,n,rfl,e,q⟩:=h;obtain⟨u,rfl,rx⟩:=zfV r;have hl:=zfB
 have hs:sizeLine=16777216:=sizeLine_eq
 cases x with
 | str y=>
   obtain⟨t,rfl⟩:=rx;obtain⟨hy,e'⟩:y.length<=sizeLine/\n=y.length:=e;subst e';exact len_str (by omega) ⟨.int _,H,I.tok _,⟨_,rfl⟩,q⟩
 | byt y=>
   obtain⟨t,rfl⟩:=rx;obtain⟨hy,e'⟩:y.size<=sizeLine/\n=y.size:=e;subst e';exact PySem.W.len_bytes (by omega) ⟨.int _,H,I.tok _,⟨_,rfl⟩,q⟩
 | ref p=>
   cases rx;have e':(∃xs,SqL X.K H p xs/\n=xs.length)\/∃xs,SqT X.K H p xs/\n=xs.length:=e
   rcases e' with⟨xs,hx,e'⟩ | ⟨xs,hx,e'⟩
   ·subst e';obtain⟨its,r',pl,hz⟩:=I.list hx;have hlen:=r'.length
    exact Calls.call_len_list pl.isList (by simp only[wac];omega) ⟨.int xs.length,H,I.tok _,⟨_,by simp only[wac];rw[hlen]⟩,q⟩
   ·subst e';obtain⟨its,r',pl,hz⟩:=I.tuple hx;have hlen:=r'.length
    exact len_tuple pl (by simp only[wac];omega) ⟨.int xs.length,H,I.tok _,⟨_,by simp only[wac];rw[hlen]⟩,q⟩
 | _=>exact(show False from e).elim
end
section
variable {prog:Program}{w:World}{A:Around}{E:Value->Shared->Prop}{s:Shared}{K:W.Frag}{x dx C f:Addr}{mA:Str->Option Value}{name:Str}{v:Value}
end
theorem RelO.some_of {v:V}{o:Option Value}(r:RelO (some v) o):∃u,o=some u/\RelV v u:=by
 cases o with
 | none=>exact(show False from r).elim
 | some u=>exact⟨u,rfl,r⟩
section
variable {P:Program}{w:World}{H H':Hp}{h h':Heap}{a C dx:Addr}{fs fs':List (Str×V)}
end
section
variable {X:Cx}{pins:List (Addr×Obj)}{σ:St}{H:Hp}{s:Shared}{a C dx:Addr}{fs:List (Str×V)}{f:Str}{v:V}{A:Around}{E:Value->Shared->Prop}
end
section
variable {X:Cx}{o e value:Expr}{f:Str}{pos pos' tpos:Pos}{ta tv:TE}
end
section
variable {X:Cx}{pins:List (Addr×Obj)}{σ:St}{H:Hp}{s:Shared}{A:Around}{E:Value->Shared->Prop}{Q:Value->Shared->Prop}{c:Value}{b:Bool}
end
structure Room (k:Nat)(A:Around):Prop where
 hd:A.handled=none
 dp:A.depth+3*k+5<recursionLimit
 un:A.units+16*k+200<cLine
 gd:A.guards=some []
theorem Room.mono {j k:Nat}{A:Around}(r:Room k A)(h:j<=k):Room j A:=⟨r.hd,by have:=r.dp;omega,by have:=r.un;omega,r.gd⟩
theorem Room.deeper {k:Nat}{A:Around}(r:Room (k+1) A)(env:Env):Room k (A.deeper env):=
 ⟨r.hd,by have:=r.dp;show A.depth+1+3*k+5<_;omega,by have:=r.un;show A.units+3+16*k+200<_;omega,r.gd⟩
theorem Room.depth {k:Nat}{A:Around}(r:Room k A):A.depth<recursionLimit:=by have:=r.dp;omega
theorem Room.units {k:Nat}{A:Around}(r:Room k A):A.units+64<cLine:=by have:=r.un;omega
def tNil:TA:=fun _ H Q=>Q [] H
def zo9 (ta:TE)(tr:TA):TA:=fun σ H Q=>ta σ H fun x H1=>tr σ H1 fun xs H2=>Q (x::xs) H2
section
variable {X:Cx}{e:Expr}{es:List Expr}{te:TE}{t:TA}{pos:Pos}
theorem zdr:PA X [] tNil:=fun _ _ _ _ H Q I h=>Calls.spliced_nil ⟨[],H,I,.nil,h⟩
theorem zcr (ha:PE X e te)(hr:PA X es t)(hs:starEach (e::es) X.env=(false,eval e X.env)::starEach es X.env:=by rfl):PA X (e::es) (zo9 te t):=by
 intro pos pins s σ H Q I h;rw[hs];show wpAny _ _ (spliced ((false,eval e X.env)::backTo pos (starEach es X.env))) _ _ s
 refine Calls.spliced_cons (thn (ha pins s σ H _ I h) fun u s1 ⟨x,H1,I1,r1,q1⟩ =>?_);exact thn (hr pos pins s1 σ H1 _ I1 q1) fun us s2 ⟨xs,H2,I2,r2,q2⟩ =>⟨x::xs,H2,I2,.cons r1 r2,q2⟩
def tTup (t:TA):TE:=fun σ H Q=>t σ H fun xs H1=>xs.length<=sizeLine/\∀p,H1 p=none->Q (.ref p) (upd H1 p (.tup xs))
def tLst (t:TA):TE:=fun σ H Q=>t σ H fun xs H1=>xs.length<=sizeLine/\∀p,H1 p=none->Q (.ref p) (upd H1 p (.lst xs))
theorem zjz {x1}(h:PA X es t):PE X (.Tuple es x1 pos) (tTup t):=by
 intro pins s σ H Q I hq;refine wpAny_Tuple_spliced (thn (h pos pins s σ H _ I hq) fun us s1 ⟨xs,H1,I1,r,z,q⟩ =>⟨by rw[<-r.length];exact z,?_⟩);have hf:H1 s1.heap.objs.size=none:=I1.hok.fresh (wae _)
 refine⟨.ref s1.heap.objs.size,upd H1 s1.heap.objs.size (.tup xs),I1.laid (t':=s1.toks) (fun b u e=>wah _ e) (wae _) ?_,rfl,q _ hf⟩;exact⟨z,us,r,⟨_,waA _ rfl,rfl,_,rfl⟩⟩
theorem zjA (h:PA X es t):PE X (.List es pos) (tLst t):=by
 intro pins s σ H Q I hq;refine wpAny_List_spliced (thn (h pos pins s σ H _ I hq) fun us s1 ⟨xs,H1,I1,r,z,q⟩ =>⟨by rw[<-r.length];exact z,?_⟩);have hf:H1 s1.heap.objs.size=none:=I1.hok.fresh (wae _)
 refine⟨.ref s1.heap.objs.size,upd H1 s1.heap.objs.size (.lst xs),I1.laid (t':=s1.toks) (fun b u e=>wah _ e) (wae _) ?_,rfl,q _ hf⟩;exact⟨z,us,0,r,waA _ rfl⟩
end
abbrev Sp:=List V->Hp->VK->XK->Prop
abbrev CXT:=List Env->Hp->Shared->XK->Value->Shared->Prop
structure Env0 (P:Program)(w:World)(K:W.Frag)(mg:Str->Option Value)(base:Heap)(A:Around)(outer:List Env)(s:Shared)(H:Hp):Prop where
 frames:A.frames=some outer
 mod:Mod K mg base
 bs:∀b o,base.get? b=some o->s.heap.get? b=some o/\H b=none
 bsz:base.objs.size<=s.heap.objs.size
 funs:s.heap.FunFrames base outer
 frf:∀b∈frs outer,H b=none
 hok:HOk P w H s.heap
 bare:AllBare s.gens
def CE (outer:List Env)(P:Program)(w:World)(H:Hp)(s:Shared)(Q:VK)(u:Value)(s':Shared):Prop:=
 ∃v H',s'.os=s.os/\AllBare s'.gens/\Un (frs outer) [] H H' s.heap s'.heap/\HOk P w H' s'.heap/\RelV v u/\Q v H'
def CR (CX:CXT)(outer:List Env)(P:Program)(w:World)(H:Hp)(s:Shared)(Q:VK)(E:XK)(r:Result)(s':Shared):Prop:=
 match r with
 | .ok (.ret u)=>CE outer P w H s Q u s'
 | .ok _=>False
 | .error e=>CX outer H s E e s'
structure FnOk (P:Program)(w:World)(K:W.Frag)(mg:Str->Option Value)(base:Heap)(CX:CXT)(k:Nat)(f:Addr)(fd:FuncData)(ps:List Str)(sp:Sp):Prop where
 len:∀vs H Q E,sp vs H Q E->vs.length=ps.length
 run:∀(A:Around) (outer:List Env) (s:Shared) (H:Hp) (args:Args) (us:List Value) (vs:List V) (Q:VK) (E:XK),Room k A->Env0 P w K mg base A outer s H->BindsTo s fd args (ps.zip us)->Vals vs us->sp vs H Q E->
  codeAny (model P w) A (.call (.ref f) args) (CR CX outer P w H s Q E) s
theorem FnOk.mono {P:Program}{w:World}{K:W.Frag}{mg:Str->Option Value}{base:Heap}{CX:CXT}{j k:Nat}{f:Addr}{fd:FuncData}{ps:List Str}{sp:Sp}(F:FnOk P w K mg base CX j f fd ps sp)(h:j<=k) :
 FnOk P w K mg base CX k f fd ps sp:=⟨F.len,fun A outer s H args us vs Q E hr=>F.run A outer s H args us vs Q E (hr.mono h)⟩
section
variable {X:Cx}{pins:List (Addr×Obj)}{σ:St}{H:Hp}{s s':Shared}
theorem Inv.env0 (I:Inv X pins σ H s):Env0 X.prog X.w X.K X.mg X.base X.A X.stack s H:=
 ⟨I.ok.frames,I.ok.mod,I.bs,waq I.ok.bsz I.sz,I.stack,I.stkFree,I.hok,I.bare⟩
theorem Inv.after {Q:VK}{u:Value}(I:Inv X pins σ H s)(h:CE X.stack X.prog X.w H s Q u s'):EP X pins σ Q u s':=by
 obtain⟨v,H',os,bare,un,hok,r,q⟩:=h;obtain⟨hh,g,d,t,os'⟩:=s';obtain rfl:os'=s.os:=os;exact⟨v,H',I.call (h':=hh) (g':=g) (d':=d) (t':=t) (ch:=[]) un hok bare (fun b z=>absurd z (by simp)),r,q⟩
end
def zlw (sp:Sp)(dvs:List V)(E:XK)(t:TA):TE:=fun σ H Q=>t σ H fun vs H1=>sp (vs++dvs) H1 Q E
def Binds (K:W.Frag)(fd:FuncData)(ps:List Str)(ds:List Value):Prop:=
 ∀(s:Shared) (us:List Value),K.In s.heap->(us++ds).length=ps.length->BindsTo s fd ⟨us,[]⟩ (ps.zip (us++ds))
theorem Binds.all {K:W.Frag}{fd:FuncData}{ps:List Str}(h:∀us:List Value,us.length=ps.length->bindArgs fd ⟨us,[]⟩=pure (ps.zip us)):Binds K fd ps []:=fun s us _ hl=>by
 rw[waJ] at hl⊢;exact .of_eq (h us hl)
def zjB (CX:CXT)(X:Cx)(E:XK):Prop:=∀(pins:List (Addr×Obj)) (σ:St) (H:Hp) (s:Shared) (e:Value) (s':Shared),Inv X pins σ H s->CX X.stack H s E e s'->X.xe e s'
section
variable {X:Cx}{CX:CXT}{k:Nat}{f C:Addr}{fd:FuncData}{ps:List Str}{sp:Sp}{dvs:List V}{ds:List Value}{E:XK}{x m:Str}{p pos apos:Pos}{e o:Expr}{es:List Expr}{ta:TE}{t:TA}
theorem zpa {pins:List (Addr×Obj)}{σ:St}{H:Hp}{s:Shared}{Q:VK}{us:List Value}{vs:List V}(F:FnOk X.prog X.w X.K X.mg X.base CX k f fd ps sp)(hr:Room k X.A)(hb:Binds X.K fd ps ds)(hd:Vals dvs ds)(hx:zjB CX X E)
 (I:Inv X pins σ H s) (r:Vals vs us) (h:sp (vs++dvs) H Q E):wpAny (model X.prog X.w) X.A (call (.ref f) us) (EP X pins σ Q) X.xe s:=by
 have r2:Vals (vs++dvs) (us++ds):=r.append hd
 have hl:(us++ds).length=ps.length:=by rw[<-r2.length];exact F.len _ _ _ _ h
 refine wpAny_call (codeAny_mono (F.run X.A X.stack s H ⟨us,[]⟩ (us++ds) (vs++dvs) Q E hr I.env0 (hb s us I.kIn hl) r2 h) fun r s' hq=>?_);cases r with
 | error e=>exact hx pins σ H s e s' I hq
 | ok fl=>
   cases fl with
   | ret u=>exact I.after hq
   | next=>exact False.elim hq
   | brk=>exact False.elim hq
   | cont=>exact False.elim hq
theorem znt (F:FnOk X.prog X.w X.K X.mg X.base CX k f fd ps sp)(hr:Room k X.A)(hg:Gl X x)(hm:X.mg x=some (.ref f))(hk:W.keepIn X.K (.ref f)=true)(hb:Binds X.K fd ps ds)(hd:Vals dvs ds)(hx:zjB CX X E)
 (ha:PA X (e::es) t) (hdb:(x == ("__debug__" : Str))=false:=by decide) (he:starEach (e::es) X.env=(false,eval e X.env)::starEach es X.env:=by rfl) (hpl:(backTo pos (starEach es X.env)).any (·.1)=false:=by rfl) :
 PE X (.Call (.Name x p) (e::es) [] pos) (zlw sp dvs E t):=by
 intro pins s σ H Q I h;refine wbw (zhw I hg hm ?_ hdb);refine PySem.W.callWith_K (h₀:=X.base) I.ok.mod.kin hk (thn (ha pos pins s σ H _ I h) fun us s1 ⟨vs,H1,I1,r,q⟩ =>⟨I1.kIn,?_⟩) he hpl;exact zpa F hr hb hd hx I1 r q
end
section
variable {X:Cx}{CX:CXT}{k:Nat}{f C:Addr}{fd:FuncData}{ps ks:List Str}{sp:Sp}{E:XK}{x m:Str}{p pos apos kpos:Pos}{e o:Expr}{es:List Expr}{kws:List Keyword}{te ta:TE}{t tk:TA}{nm:Option Str}
variable {g:List Value->List Value->List Value}{gV:List V->List V->List V}
end
structure FnScope (N P:List Str)(sc:Scope):Prop where
 kind:sc.kind=.function
 co:sc.isCoroutine=false
 gen:sc.isGenerator=false
 nd:N.Nodup
 pre:N.take P.length=P
 par:∀x∈P,sc.names.lookup x=some .local\/sc.names.lookup x=some .cell
 nofree:∀y∈sc.names,y.2≠.free
theorem zgy {kindOf:Str->Option NameKind}{x:Str}:∀{binds:List (Str×Value)}{m:Str->Option Value},(∀v,(x,v)∉binds)->bindL kindOf binds m x=m x
 | [],_,_=>rfl
 | (n,v)::r,m,h=>by
   unfold bindL;rw[zgy fun w hw=>h w (wak _ hw)];split
   ·have:x≠n:=by rintro rfl;exact h v war
    simp[this]
   ·rfl
theorem zgz {kindOf:Str->Option NameKind}{x:Str}:∀{binds:List (Str×Value)}{m:Str->Option Value},(∀v,(x,v)∉binds)->bindC kindOf binds m x=m x
 | [],_,_=>rfl
 | (n,v)::r,m,h=>by
   unfold bindC;rw[zgz fun w hw=>h w (wak _ hw)];split
   ·rfl
   ·have:x≠n:=by rintro rfl;exact h v war
    simp[this]
theorem zgA {kindOf:Str->Option NameKind}{x:Str}{v:Value}:∀{P:List Str}{vs:List Value}{i:Nat}{m:Str->Option Value},P.Nodup->P[i]?=some x->vs[i]?=some v->kindOf x=some .local->
 bindL kindOf (P.zip vs) m x=some v
 | [],_,_,_,_,h,_,_=>by simp at h
 | _::_,[],_,_,_,_,h,_=>by simp at h
 | p::P,w::vs,0,m,nd,h1,h2,hk=>by
   simp at h1 h2;subst h1;subst h2;show bindL kindOf ((p,w)::P.zip vs) m p=_
   unfold bindL;rw[zgy fun v hv=>(waK.mp nd).1 (List.of_mem_zip hv).1,if_pos hk];simp
 | p::P,w::vs,i+1,m,nd,h1,h2,hk=>by
   show bindL kindOf ((p,w)::P.zip vs) m x=_
   unfold bindL;exact zgA (i:=i) (waK.mp nd).2 (by simpa using h1) (by simpa using h2) hk
theorem zgB {kindOf:Str->Option NameKind}{x:Str}{v:Value}:∀{P:List Str}{vs:List Value}{i:Nat}{m:Str->Option Value},P.Nodup->P[i]?=some x->vs[i]?=some v->kindOf x≠some .local->
 bindC kindOf (P.zip vs) m x=some v
 | [],_,_,_,_,h,_,_=>by simp at h
 | _::_,[],_,_,_,_,h,_=>by simp at h
 | p::P,w::vs,0,m,nd,h1,h2,hk=>by
   simp at h1 h2;subst h1;subst h2;show bindC kindOf ((p,w)::P.zip vs) m p=_
   unfold bindC;rw[zgz fun v hv=>(waK.mp nd).1 (List.of_mem_zip hv).1,if_neg hk];simp
 | p::P,w::vs,i+1,m,nd,h1,h2,hk=>by
   show bindC kindOf ((p,w)::P.zip vs) m x=_
   unfold bindC;exact zgB (i:=i) (waK.mp nd).2 (by simpa using h1) (by simpa using h2) hk
def start (N:List Str)(vs:List V):St:=vs.map some++List.replicate (N.length - vs.length) none
def cxOf (CX:CXT)(P:Program)(w:World)(K:W.Frag)(mg:Str->Option Value)(base:Heap)(N:List Str)(qual:Str)(scope:Scope)(f:Addr)(cd:Value)(A:Around)(outer:List Env)(s:Shared)(H:Hp)(E:XK):Cx where
 prog:=P
 w:=w
 K:=K
 mg:=mg
 base:=base
 A:=A.deeper (envOfC qual scope s.heap.objs.size f cd)
 N:=N
 s₀:=s
 Hz:=H
 env:=envOfC qual scope s.heap.objs.size f cd
 outer:=outer
 stack:=envOfC qual scope s.heap.objs.size f cd::outer
 ex:=[]
 calm:=true
 fn:=fun _=>true
 pn:=[]
 xe:=fun e s'=>wpAny (model P w) (A.deeper (envOfC qual scope s.heap.objs.size f cd)) (leaving (envOfC qual scope s.heap.objs.size f cd) e) (fun _ s''=>CX outer H s E e s'') (fun e' s''=>CX outer H s E e' s'') s'
theorem zev {sc:Scope}{n:Nat}{x:Str}(h:sc.names.lookup x=some .cell):∃c,(cellsFrom n sc.names []).lookup x=some c:=by
 have q:=PySem.W.cellsFrom_some sc.names n [] (.inl h)
 exact wbc.mp q
theorem zjC {CX:CXT}{P:Program}{w:World}{K:W.Frag}{mg:Str->Option Value}{base:Heap}{N ps:List Str}{qual:Str}{scope:Scope}{f:Addr}{cd:Value}{A:Around}{outer:List Env}{s s1:Shared}{H:Hp}{E:XK}{us:List Value}{vs:List V}
 (S:FnScope N ps scope) (hd:A.handled=none) (e0:Env0 P w K mg base A outer s H) (hl:vs.length=ps.length) (r:Vals vs us)
 (x:InCallC s s.heap.objs.size (bindL (envOfC qual scope s.heap.objs.size f cd).kindOf (ps.zip us) fun _=>none) (cellsFrom (s.heap.objs.size+1) scope.names []) (bindC (envOfC qual scope s.heap.objs.size f cd).kindOf (ps.zip us) fun _=>none) s1) :
 Inv (cxOf CX P w K mg base N qual scope f cd A outer s H E) [] (start N vs) H s1:=by
 have hpl:ps.length<=N.length:=by have:=wbg List.length S.pre;rw[wbq] at this;omega
 obtain⟨h1,tk,rfl,hk⟩:=x.done;have noA:∀b:Addr,b∉(cxOf CX P w K mg base N qual scope f cd A outer s H E).ex:=fun b z=>absurd (show b∈([]:List Addr) from z) (by simp)
 refine⟨⟨e0.mod,S.kind,rfl,rfl,wae _,fun y z c h1 h2=>?_,fun y hy=>?_,fun y c _ h=>?_,fun _=>hd,Around.frames_deeper e0.frames,.inr ⟨rfl,rfl⟩,fun b z=>absurd z (noA b),e0.bs,e0.bsz,fun b _ _=>noA b,fun b z=>absurd z (noA b),e0.funs,e0.frf⟩,
  rfl,e0.bare,Un.kept hk,⟨_,x.toInCall.ns,fun i y v h1 h2 h3=>?_⟩,fun y c h=>⟨_,x.cell y c h⟩,e0.hok.fresh (wae _),fun y c h=>?_,fun p hp=>absurd (show p∈([]:List (Addr×Obj)) from hp) (by simp),e0.hok.kept hk,?_⟩
 ·exact name_of_addr x.apart (wbE h1) (wbE h2)
 ·have hy:scope.names.lookup y=some .cell\/scope.names.lookup y=some .free:=hy
  rcases hy with hy | hy
  ·exact zev hy
  ·exact absurd rfl (S.nofree _ (wbE hy))
 ·exact wbs (x.above y c (wbE h))
 ·have hi:i<vs.length:=by
   unfold start at h2;by_cases hi:i<vs.length
   ·exact hi
   ·rw[waI (by simpa using hi)] at h2;rw[wbF] at h2;split at h2 <;> cases h2
  have ha:vs[i]?=some v:=by
   unfold start at h2;rw[waB (by simpa using hi),wag] at h2;cases e:vs[i]? with
   | none=>rw[e] at h2;cases h2
   | some a=>rw[e] at h2;cases h2;rfl
  obtain⟨u,hu,rv⟩:=r.get ha;have hp:ps[i]?=some y:=by
   rw[<-S.pre,List.getElem?_take_of_lt (by omega)];exact h1
  have ndP:ps.Nodup:=by rw[<-S.pre];exact S.nd.sublist (List.take_sublist _ _)
  refine⟨u,rv,?_⟩;rcases S.par y (wal hp) with k | k
  ·exact .inl ⟨k,zgA ndP hp hu k⟩
  ·obtain⟨c,e⟩:=zev (n:=s.heap.objs.size+1) k;refine .inr ⟨.inl k,c,e,?_⟩;have q:=x.cell y c e
   rw[zgB ndP hp hu (by show scope.names.lookup y≠_;rw[k];decide)] at q;exact q
 ·exact e0.hok.fresh (wbs (x.above y c (wbE h)))
 ·unfold start;show _=N.length
  rw[wam,wao,wbP];omega
theorem zqq {CX:CXT}{P:Program}{w:World}{K:W.Frag}{mg:Str->Option Value}{base:Heap}{k:Nat}{f:Addr}{name qual:Str}{params:Arguments}{body:List Stmt}{scope:Scope}{dV kV doc pm cdv ct oc:Value}{an od:Option Addr}
 {osl:Array (Option Value)}{N ps:List Str}{sp:Sp}(lk:K.lookup f=some ⟨oc,od,.func (W.fnOf name qual params body scope dV kV doc pm an cdv ct),osl⟩) (hcd:W.codeIn K cdv qual=true) (S:FnScope N ps scope)
 (len:∀vs H Q E,sp vs H Q E->vs.length=ps.length)
 (hbody:∀(A:Around) (outer:List Env) (s:Shared) (H:Hp) (vs:List V) (Q:VK) (E:XK),Room k (A.deeper (envOfC qual scope s.heap.objs.size f cdv))->sp vs H Q E->
  ∃t,PSs (cxOf CX P w K mg base N qual scope f cdv A outer s H E) body t/\t {nx:=fun _ H'=>Q .non H',rt:=Q} (start N vs) H) :
 FnOk P w K mg base CX (k+1) f (W.fnOf name qual params body scope dV kV doc pm an cdv ct) ps sp:=by
 refine⟨len,fun A outer s H args us vs Q E hr e0 hb r hsp=>?_⟩;have hl:=len _ _ _ _ hsp
 have KX:K.In s.heap:=e0.mod.kin.keeps fun b o e=>(e0.bs b o e).1
 have lim:s.heap.NoLimit:=e0.mod.nolimit.keeps fun b o e=>(e0.bs b o e).1
 have hkind:∀y∈ps.zip us,scope.names.lookup y.1=some .local\/(scope.names.lookup y.1=some .cell/\((cellsFrom (s.heap.objs.size+1) scope.names []).lookup y.1).isSome=true):=fun⟨n,v⟩ hy=>by
  rcases S.par n (List.of_mem_zip hy).1 with q | q
  ·exact .inl q
  ·exact .inr ⟨q,PySem.W.cellsFrom_some _ _ _ (.inl q)⟩
 refine codeAny_call_function hr.depth (KX _ _ lk) rfl S.co S.gen rfl (PySem.W.codeRec_of KX hcd) (hb _ _ _ _ ?_);refine wpAny_newFunctionEnv_cells S.kind hkind fun env he s1 x=>?_
 subst he;refine⟨lim.keeps x.toInCall.keep,codeAny_func ?_⟩;obtain⟨t,ht,hq⟩:=hbody A outer s H vs Q E (hr.deeper _) hsp;have I:Inv (cxOf CX P w K mg base N qual scope f cdv A outer s H E) [] (start N vs) H s1:=zjC S hr.hd e0 hl r x
 refine wbu (ht [] s1 (start N vs) H _ I hq) (fun fl s' hs=>?_) fun e s' hs=>hs
 have fin:∀{σ':St}{H':Hp}{v:V}{u:Value},Inv (cxOf CX P w K mg base N qual scope f cdv A outer s H E) [] σ' H' s'->RelV v u->Q v H'->CE outer P w H s Q u s':=
  fun {σ' H' v u} J rv q=>⟨v,H',J.os,J.bare,J.base,J.hok,rv,q⟩
 cases fl with
 | ret u=>
   obtain⟨v,σ',H',J,rv,q⟩:=hs;exact fin J rv q
 | next=>
   obtain⟨σ',H',J,q⟩:=hs;exact fin (v:=V.non) (u:=Value.none) J rfl q
 | brk=>
   obtain⟨_,_,_,q⟩:=hs;exact False.elim q
 | cont=>
   obtain⟨_,_,_,q⟩:=hs;exact False.elim q
section
variable {X:Cx}{x:Str}{p pos:Pos}{e:Expr}{es:List Expr}{t:TA}{id T:String}{r:List V->Hp->VK->Prop}
def tCB (r:List V->Hp->VK->Prop)(t:TA):TE:=fun σ H Q=>t σ H fun vs H1=>r vs H1 Q
theorem zlx (hc:zdV X (.builtin id) r)(hg:Gl X x)(hm:X.mg x=none)(hv:bootBuiltins x=some (.builtin id))(ha:PA X (e::es) t)(hn:x≠"__name__":=by decide)(hdb:(x == ("__debug__" : Str))=false:=by decide)
 (he:starEach (e::es) X.env=(false,eval e X.env)::starEach es X.env:=by rfl) (hpl:(backTo pos (starEach es X.env)).any (·.1)=false:=by rfl):PE X (.Call (.Name x p) (e::es) [] pos) (tCB r t):=by
 intro pins s σ H Q I h;refine wbw (zeK I hg hm hv ?_ hn hdb);exact PyProof.Rows.callWith_builtin1 (thn (ha pos pins s σ H _ I h) fun us s1 ⟨vs,H1,I1,r1,q1⟩ =>hc pins s1 σ H1 vs us Q I1 r1 q1) he hpl
theorem zgC (hc:zdV X (.type T) r)(hg:Gl X x)(hm:X.mg x=none)(hv:bootBuiltins x=some (.type T))(ha:PA X (e::es) t)(hn:x≠"__name__":=by decide)(hdb:(x == ("__debug__" : Str))=false:=by decide)
 (he:starEach (e::es) X.env=(false,eval e X.env)::starEach es X.env:=by rfl) (hpl:(backTo pos (starEach es X.env)).any (·.1)=false:=by rfl):PE X (.Call (.Name x p) (e::es) [] pos) (tCB r t):=by
 intro pins s σ H Q I h;refine wbw (zeK I hg hm hv ?_ hn hdb);exact waV (thn (ha pos pins s σ H _ I h) fun us s1 ⟨vs,H1,I1,r1,q1⟩ =>hc pins s1 σ H1 vs us Q I1 r1 q1) he hpl
end
end L2
namespace HT
open PySem PyProof.Rows
theorem zfW (A:Around)(s:Shared)(a:Int)(t:Tok)(c:Int)(u:Tok):∃e,SeqAt.EqAt A s (.int a t) (.int c u) e/\(e=true↔a=c):=
 ⟨(a == c),SeqAt.EqAt.int_int a t c u,by simp⟩
section
open PySem.SeqAt
open PySem.AutoSeq1 (wpAny_loadPart')
open PySem.MeetsSeq PySem.MeetsSeq2 PySem.MeetsSeq3
end
section
variable {prog:Program}{w:World}{A:Around}{E:Value->Shared->Prop}{s:Shared}
theorem cat_tup {t b:Addr}{vs ws:List Value}{Q:Value->Shared->Prop}(ht:IsTup s.heap t vs.toArray)(hb:IsTup s.heap b ws.toArray)(hv:vs≠[])
 (h1:ws = []->Q (.ref t) s) (h2:ws≠[]->Q (.ref s.heap.objs.size) {s with heap:=s.heap.push {cls:=.type "tuple",data:=.seq (vs++ws).toArray}})
 (hsz:vs.length+ws.length<=sizeLine):wpAny (model prog w) A (binaryOp .Add (.ref t) (.ref b)) Q E s:=by
 obtain⟨⟨cls,dd,data,sl⟩,ho,hc,n,hd⟩:=id ht;obtain⟨⟨cls2,dd2,data2,sl2⟩,ho2,hc2,n2,hd2⟩:=id hb;simp only at hc hd hc2 hd2;subst hc hd hc2 hd2;have e:vs.toArray++ws.toArray=(vs++ws).toArray:=by simp
 by_cases hw:ws = []
 ·exact concat_meets ⟨_,ho,rfl⟩ ⟨_,ho2,rfl⟩ noFill_tuple_add seq_tuple_add wck wcc (wbY _ _)
   (tuple_addW1 t b vs.toArray ws.toArray n n2 dd dd2 sl sl2 (by simpa using hv) (by simp[hw])) ⟨ho,ho2,h1 hw⟩
 ·refine concat_meets ⟨_,ho,rfl⟩ ⟨_,ho2,rfl⟩ noFill_tuple_add seq_tuple_add wck wcc (wbY _ _)
   (tuple_addW2 t b vs.toArray ws.toArray n n2 dd dd2 sl sl2 (by simpa using hv) (by simpa using hw) (by rw[wac,wac];exact hsz)) ⟨ho,ho2,?_⟩
  rw[e];exact h2 hw
def sIx (n d:Nat):Option Int->Nat
 | none=>d
 | some v=>if v<0 then(v+(n:Int)).toNat else min v.toNat n
theorem sIx_nat (n d k:Nat):sIx n d (some (k:Int))=min k n:=by
 show(if(k:Int)<0 then((k:Int)+(n:Int)).toNat else min (k:Int).toNat n)=min k n
 rw[if_neg (by omega),wcm]
theorem zpb (n d:Nat)(hd:d<=n)(o:Option Int):sIx n d o<=n:=by
 cases o with
 | none=>exact hd
 | some v=>
   show(if v<0 then(v+(n:Int)).toNat else min v.toNat n)<=n
   by_cases hv:v<0
   ·rw[if_pos hv];omega
   ·rw[if_neg hv];exact Nat.min_le_right _ _
theorem zjD (v:Int)(n d:Nat):(if v<0 then max (v+(n:Int)) 0 else min v (n:Int))=((sIx n d (some v):Nat):Int):=by
 show(if v<0 then max (v+(n:Int)) 0 else min v (n:Int))=(((if v<0 then(v+(n:Int)).toNat else min v.toNat n):Nat):Int)
 by_cases hv:v<0
 ·simp only[if_pos hv];omega
 ·simp only[if_neg hv];omega
theorem ziY (lo hi:Option Int)(n:Nat):Builtin.Slice.sliceAdjust lo hi 1 (n:Int)=(((sIx n 0 lo:Nat):Int),((sIx n n hi:Nat):Int)):=by
 have h1:¬((1:Int)<0):=by omega
 unfold Builtin.Slice.sliceAdjust;simp only[h1,if_false];refine Prod.ext ?_ ?_
 ·cases lo with
  | none=>rfl
  | some v=>exact zjD v n 0
 ·cases hi with
  | none=>rfl
  | some v=>exact zjD v n n
theorem ziZ (i j:Nat):Builtin.Slice.slicePlaces (i:Int) (j:Int) 1=j - i:=by
 unfold Builtin.Slice.slicePlaces;have h1:(1:Int)>0:=by omega
 simp only[h1,if_true,Int.ediv_one];split <;> omega
theorem zfC {v:Value}{o:Option Int}{Q:Option Int->Shared->Prop}(p:IsPart v o)(h:Q o s):wpAny (model prog w) A (Builtin.Slice.slicePartIndex v) Q E s:=by
 cases p with
 | none=>exact slicePart_none h
 | int i t=>exact slicePart_int h
theorem zel {sl:Addr}{vl vu:Value}{lo hi:Option Int}{n:Nat}{Q:Int×Int×Nat->Shared->Prop}(hs:s.heap.IsSliceOf sl vl vu .none)(pl:IsPart vl lo)(pu:IsPart vu hi)
 (h:Q (((sIx n 0 lo:Nat):Int),1,sIx n n hi - sIx n 0 lo) s):wpAny (model prog w) A (Builtin.Slice.sliceApplied (.ref sl) (pure (n:Int))) Q E s:=by
 obtain⟨os,hos,hcs,hds⟩:=id hs;unfold Builtin.Slice.sliceApplied Builtin.Slice.sliceFields;refine wad (wad (wcn hos hds (x:=vl) rfl (wad (wcn hos hds (x:=vu) rfl (wad (wcn hos hds (x:=.none) rfl (waz ?_)))))));refine wad (slicePart_none ?_);show wpAny _ _ (if((1:Int) == 0)=true then _ else _) _ _ s
 rw[if_neg (by decide)];refine wad (zfC pl (wad (zfC pu (wad (waz ?_)))));show wpAny _ _ (match Builtin.Slice.sliceAdjust lo hi 1 (n:Int) with | (lo,hi)=>pure (lo,(1:Int),Builtin.Slice.slicePlaces lo hi 1)) _ _ s
 rw[ziY lo hi n];show wpAny _ _ (pure (((sIx n 0 lo:Nat):Int),(1:Int),Builtin.Slice.slicePlaces ((sIx n 0 lo:Nat):Int) ((sIx n n hi:Nat):Int) 1)) _ _ s
 rw[ziZ];exact waz h
theorem zly (xs:Array Value)(i k:Nat):((List.range k).filterMap fun(m:Nat)=>xs[((i:Int)+(m:Int)*1).toNat]?).toArray=((xs.toList.drop i).take k).toArray:=by
 have e:(fun(m:Nat)=>xs[((i:Int)+(m:Int)*1).toNat]?)=fun m=>xs[i+m]?:=by
  funext m
  have:((i:Int)+(m:Int)*1).toNat=i+m:=by omega
  rw[this]
 rw[e];have:=pick_run xs i k
 rw[List.filterMap_map] at this;have e2:((fun x=>xs[x]?)∘fun x=>i+x)=fun m=>xs[i+m]?:=rfl
 rw[e2] at this;rw[this]
theorem getItem_tuple_cut {t sl:Addr}{items:Array Value}{vl vu:Value}{lo hi:Option Int}{Q:Value->Shared->Prop}(ht:IsTup s.heap t items)(hs:s.heap.IsSliceOf sl vl vu .none)(pl:IsPart vl lo)(pu:IsPart vu hi)
 (hw:¬(sIx items.size 0 lo=0/\sIx items.size items.size hi=items.size))
 (h:Q (.ref s.heap.objs.size) {s with heap:=s.heap.push {cls:=.type "tuple",data:=.seq ((items.toList.drop (sIx items.size 0 lo)).take (sIx items.size items.size hi - sIx items.size 0 lo)).toArray}})
 (hsz:items.size<=sizeLine):wpAny (model prog w) A (getItem (.ref t) (.ref sl)) Q E s:=by
 have htake:sizeOk (.seq ((items.toList.drop (sIx items.size 0 lo)).take (sIx items.size items.size hi - sIx items.size 0 lo)).toArray):=by
  show((items.toList.drop (sIx items.size 0 lo)).take (sIx items.size items.size hi - sIx items.size 0 lo)).toArray.size<=sizeLine
  rw[wac,wbq,wcy,wcC];omega
 have hj:sIx items.size items.size hi<=items.size:=zpb _ _ (wae _) hi
 obtain⟨os,hos,hcs,hds⟩:=id hs;have hTs:s.TypeIs (.ref sl) "slice":=⟨os,hos,hcs⟩
 unfold getItem;try with_reducible refine wca ?_
 first | refine wad (waz ?_) | skip
 refine wad (wpAny_sequenceKey ht.typeIs (by decide) ?_);refine wad (wcd (name:=Str.ofString "__getitem__") ht.typeIs PyProof.Rows.slot_tuple_getitem
  (wpAny_call_entry PyProof.Rows.slot_tuple_getitem ht.typeIs entry_tuple_getitem ?_ (args_tuple_getitem _ _)))
 show wpAny _ _ (Builtin.Tuple.tupleItemsOf (.ref t) >>= _) _ _ s
 refine wad (tupleItemsOf_ ht ?_);refine wad (wpAny_typeOf hTs ?_);rw[if_pos (by decide)];refine wad (zel hs pl pu ?_);have hno:¬((((sIx items.size 0 lo:Nat):Int) == 0&&(1:Int) == 1&&(sIx items.size items.size hi - sIx items.size 0 lo) == items.size)=true):=by
  intro q;rw[waj,waj] at q;have q1:((sIx items.size 0 lo:Nat):Int)=0:=eq_of_beq q.1.1
  have q2:sIx items.size items.size hi - sIx items.size 0 lo=items.size:=eq_of_beq q.2
  exact hw ⟨by omega,by omega⟩
 show wpAny _ _ (if(((sIx items.size 0 lo:Nat):Int) == 0&&(1:Int) == 1&&(sIx items.size items.size hi - sIx items.size 0 lo) == items.size)=true then _ else _) _ _ s
 rw[if_neg hno,zly];first
  | exact wad (m:=Builtin.Tuple.tupleExact _) (wbi (waz ⟨_,rfl,waz h⟩) htake)
  | exact wad (m:=Builtin.Tuple.tupleExact _) (wbi (wad (waz (waz ⟨_,rfl,waz h⟩))) htake)
  | exact wad (wad (m:=Builtin.Tuple.tupleExact _) (wbi (waz (waz ⟨_,rfl,waz h⟩)) htake))
  | exact wad (wad (m:=Builtin.Tuple.tupleExact _) (wbi (waz ⟨_,rfl,waz h⟩) htake))
end
end HT
namespace L2
open PySem PySem.Spec PyProof.Rows
abbrev TO:=St->Hp->(Option Int->Hp->Prop)->Prop
def PO (X:Cx)(e:Option Expr)(t:TO):Prop:=
 ∀(pins:List (Addr×Obj)) (s:Shared) (σ:St) (H:Hp) (Q:Option Int->Hp->Prop),Inv X pins σ H s->t σ H Q->
  wpAny (model X.prog X.w) X.A (evalPart e X.env) (fun u s'=>∃o H',Inv X pins σ H' s'/\IsPart u o/\Q o H') X.xe s
def znu:TO:=fun _ H Q=>Q none H
def zqr (t:TE):TO:=fun σ H Q=>t σ H fun x H1=>∃i,x=.int i/\Q (some i) H1
section
variable {X:Cx}{e:Expr}{te:TE}{lo hi:Option Expr}{tl th:TO}{pos p2:Pos}
theorem zjE:PO X none znu:=by
 intro pins s σ H Q I h;rw[evalPart_none];exact waz ⟨none,H,I,.none,h⟩
theorem zjF (h:PE X e te):PO X (some e) (zqr te):=by
 intro pins s σ H Q I hw;rw[evalPart_some];refine thn (h pins s σ H _ I hw) fun u s1 ⟨x,H1,I1,r1,q1⟩ =>?_
 obtain⟨i,rfl,q⟩:=q1;obtain⟨t,rfl⟩:=r1;exact⟨some i,H1,I1,.int i t,q⟩
def SlR (X:Cx)(r:V->Option Int->Option Int->Hp->VK->Prop):Prop:=
 ∀(pins:List (Addr×Obj)) (s:Shared) (σ:St) (H:Hp) (x:V) (v vl vu:Value) (lo hi:Option Int) (sl:Addr) (Q:VK),Inv X pins σ H s->RelV x v->s.heap.IsSliceOf sl vl vu .none->IsPart vl lo->IsPart vu hi->r x lo hi H Q->
  ∃T id,typeLookup (.type T) "__getitem__"=pure (some (.builtin id))/\s.TypeIs v T/\wpAny (model X.prog X.w) X.A (getItem v (.ref sl)) (EP X pins σ Q) X.xe s
theorem SlR.or {r r':V->Option Int->Option Int->Hp->VK->Prop}(h:SlR X r)(h':SlR X r'):SlR X (fun x lo hi H Q=>r x lo hi H Q\/r' x lo hi H Q):=by
 intro pins s σ H x v vl vu lo hi sl Q I rx hs pl pu q;rcases q with q | q
 ·exact h pins s σ H x v vl vu lo hi sl Q I rx hs pl pu q
 ·exact h' pins s σ H x v vl vu lo hi sl Q I rx hs pl pu q
def tSl (r:V->Option Int->Option Int->Hp->VK->Prop)(te:TE)(tl th:TO):TE:=fun σ H Q=>te σ H fun x H1=>tl σ H1 fun l H2=>th σ H2 fun u H3=>r x l u H3 Q
theorem zfX {r:V->Option Int->Option Int->Hp->VK->Prop}(hr:SlR X r)(he:PE X e te)(hl:PO X lo tl)(hu:PO X hi th):PE X (.Subscript e (.Slice lo hi none p2) pos) (tSl r te tl th):=by
 intro pins s σ H Q I h;refine Subscript_ (thn (he pins s σ H _ I h) fun v s1 ⟨x,H1,I1,r1,q1⟩ =>?_);refine wpAny_Slice (thn (hl pins s1 σ H1 _ I1 q1) fun vl s2 ⟨l,H2,I2,pl,q2⟩ =>thn (hu pins s2 σ H2 _ I2 q2) fun vu s3 ⟨u,H3,I3,pu,q3⟩ =>?_);rw[evalPart_none];refine waz ?_;have I4:Inv X pins σ H3 {s3 with heap:=s3.heap.push {cls:=.type "slice",data:=.fields #[vl,vu,.none]}}:=I3.kept (t':=s3.toks) fun b ob q=>wah _ q
 obtain⟨T,id,hT,ht,hg⟩:=hr pins {s3 with heap:=s3.heap.push {cls:=.type "slice",data:=.fields #[vl,vu,.none]}} σ H3 x v vl vu l u s3.heap.objs.size Q I4 r1 (Heap.IsSliceOf.new ..) pl pu q3;show wpAny (model X.prog X.w) X.A (subscriptTail e (.Slice lo hi none p2) v (.ref s3.heap.objs.size)) (EP X pins σ Q) X.xe {s3 with heap:=s3.heap.push {cls:=.type "slice",data:=.fields #[vl,vu,.none]}}
 exact tail_any (ops:=[.ref s3.heap.objs.size,v]) ht hT hg (by with_unfolding_all rfl)
def cutV (xs:List V)(lo hi:Option Int):List V:=(xs.drop (HT.sIx xs.length 0 lo)).take (HT.sIx xs.length xs.length hi - HT.sIx xs.length 0 lo)
theorem zeQ (xs:List V)(lo hi:Option Int):(cutV xs lo hi).length<=xs.length:=by
 unfold cutV;rw[wbq,wcy];omega
def rSlT (K:W.Frag):V->Option Int->Option Int->Hp->VK->Prop:=fun x lo hi H Q=>∃a xs,x=.ref a/\SqT K H a xs/\
 ¬(HT.sIx xs.length 0 lo=0/\HT.sIx xs.length xs.length hi=xs.length)/\∀p,H p=none->Q (.ref p) (upd H p (.tup (cutV xs lo hi)))
theorem sl_tup:SlR X (rSlT X.K):=by
 intro pins s σ H x v vl vu lo hi sl Q I rx hs pl pu h;obtain⟨a,xs,rfl,hx,hw,q⟩:=h;cases rx;obtain⟨its,r,ht,hz⟩:=I.tuple hx;have hlen:its.toArray.size=xs.length:=by rw[wac];exact r.length.symm
 refine⟨"tuple",_,PyProof.Rows.slot_tuple_getitem.lookup,ht.typeIs,?_⟩;refine HT.getItem_tuple_cut ht hs pl pu (by rw[hlen];exact hw) ?_ (by rw[hlen];exact hz);rw[hlen];refine⟨.ref s.heap.objs.size,_,I.laid (t':=s.toks) (o:=.tup (cutV xs lo hi)) (fun b ob q=>wah _ q) (wae _) ?_,rfl,q _ (I.hok.fresh (wae _))⟩;exact⟨waq (zeQ xs lo hi) hz,_,(r.drop (HT.sIx xs.length 0 lo)).take (HT.sIx xs.length xs.length hi - HT.sIx xs.length 0 lo),IsTup.new _ _⟩
def zqs (K:W.Frag):R2:=fun x y H Q=>∃a b xs ys,x=.ref a/\y=.ref b/\SqT K H a xs/\SqT K H b ys/\xs≠[]/\xs.length+ys.length<=sizeLine/\
 (ys = []->Q (.ref a) H)/\(ys≠[]->∀p,H p=none->Q (.ref p) (upd H p (.tup (xs++ys))))
theorem Vals.nil_iff {xs:List V}{us:List Value}(r:Vals xs us):us = []↔xs = []:=by
 cases r with
 | nil=>simp
 | cons _ _=>simp
theorem znv:OpR X (binaryOp .Add) (zqs X.K):=by
 intro pins s σ H x y v u Q I rx ry h;obtain⟨a,b,xs,ys,rfl,rfl,ha,hb,hx,hz,q1,q2⟩:=h;cases rx;cases ry;obtain⟨its,r1,p1,_⟩:=I.tuple ha;obtain⟨its2,r2,p2,_⟩:=I.tuple hb;refine HT.cat_tup p1 p2 (fun z=>hx (r1.nil_iff.mp z)) (fun z=>⟨.ref a,H,I,rfl,q1 (r2.nil_iff.mp z)⟩) (fun z=>?_) (by rw[<-r1.length,<-r2.length];exact hz);refine⟨.ref s.heap.objs.size,_,I.laid (t':=s.toks) (o:=.tup (xs++ys)) (fun b ob q=>wah _ q) (wae _) ?_,rfl,q2 (fun w=>z (r2.nil_iff.mpr w)) _ (I.hok.fresh (wae _))⟩;exact⟨by rw[wam];exact hz,_,r1.append r2,IsTup.new _ _⟩
end
def ixN (n:Nat)(i:Int):Option Nat:=if 0<=i then(if i<n then some i.toNat else none) else if -(n:Int)<=i then some (i+n).toNat else none
def atI {α:Type}(xs:List α)(i:Int):Option α:=(ixN xs.length i).bind fun j=>xs[j]?
theorem zjG {n:Nat}{i:Int}{j:Nat}(h:ixN n i=some j):seqIndex? i n=some j/\j<n/\-(n:Int)<=i/\i<n:=by
 unfold ixN at h;by_cases h0:0<=i
 ·rw[if_pos h0] at h;by_cases h1:i<n
  ·rw[if_pos h1] at h;have e:i.toNat=j:=wau h
   exact⟨by rw[seqIndex_of h0 h1,e],by omega,by omega,h1⟩
  ·rw[if_neg h1] at h;cases h
 ·rw[if_neg h0] at h;by_cases h1:-(n:Int)<=i
  ·rw[if_pos h1] at h;have e:(i+n).toNat=j:=wau h
   exact⟨by rw[seqIndex_neg (by omega) h1,e],by omega,h1,by omega⟩
  ·rw[if_neg h1] at h;cases h
theorem zhy {α:Type}{xs:List α}{i:Int}{v:α}(h:atI xs i=some v):∃j,seqIndex? i xs.length=some j/\xs[j]?=some v/\j<xs.length/\-(xs.length:Int)<=i/\i<xs.length:=by
 unfold atI at h;cases e:ixN xs.length i with
 | none=>rw[e] at h;cases h
 | some j=>
   rw[e] at h;obtain⟨h1,h2,h3,h4⟩:=zjG e;exact⟨j,h1,h,h2,h3,h4⟩
theorem zat {α:Type}{xs:List α}{j:Nat}{v:α}(h:xs[j]?=some v):atI xs (j:Int)=some v:=by
 have hj:j<xs.length:=(wab.mp h).1
 have e:ixN xs.length (j:Int)=some j:=by
  unfold ixN;rw[if_pos (by omega),if_pos (by omega)];simp
 unfold atI;rw[e];exact h
def zeR (b:Expr):Prop:=∀o i,subscripted b false o i=operate [o,i] (getItem o i)
def IxR (X:Cx)(r:R2):Prop:=
 ∀(value slice:Expr) (pins:List (Addr×Obj)) (s:Shared) (σ:St) (H:Hp) (x y:V) (v u:Value) (Q:VK),Inv X pins σ H s->RelV x v->RelV y u->r x y H Q->
  subscripted slice false v u=operate [v,u] (getItem v u)->wpAny (model X.prog X.w) X.A (subscriptTail value slice v u) (EP X pins σ Q) X.xe s
def MtR (X:Cx)(id:String)(r:V->List V->Hp->VK->Prop):Prop:=
 ∀(pins:List (Addr×Obj)) (s:Shared) (σ:St) (H:Hp) (x:V) (xs:List V) (v:Value) (us:List Value) (Q:VK),Inv X pins σ H s->RelV x v->Vals xs us->r x xs H Q->
  wpAny (model X.prog X.w) X.A (call (.builtin id) (v::us)) (EP X pins σ Q) X.xe s
section
variable {X:Cx}{a b:Expr}{ta tb:TE}{pos:Pos}
theorem IxR.or {r r':R2}(h:IxR X r)(h':IxR X r'):IxR X (fun x y H Q=>r x y H Q\/r' x y H Q):=by
 intro value slice pins s σ H x y v u Q I rx ry q hs;rcases q with q | q
 ·exact h value slice pins s σ H x y v u Q I rx ry q hs
 ·exact h' value slice pins s σ H x y v u Q I rx ry q hs
theorem zlz {r:R2}(hr:IxR X r)(ha:PE X a ta)(hb:PE X b tb)(hs:zeR b):PE X (.Subscript a b pos) (tOp r ta tb):=by
 intro pins s σ H Q I h;exact Subscript_ (binT ha hb I h fun v u s2 x y H2 I2 rx ry q=>hr a b pins s2 σ H2 x y v u Q I2 rx ry q (hs _ _))
def rIxL (K:W.Frag):R2:=fun x y H Q=>∃p xs i v,x=.ref p/\y=.int i/\SqL K H p xs/\atI xs i=some v/\Q v H
def rIxT (K:W.Frag):R2:=fun x y H Q=>∃p xs i v,x=.ref p/\y=.int i/\SqT K H p xs/\atI xs i=some v/\Q v H
def rIxS:R2:=fun x y H Q=>∃z i c,x=.str z/\y=.int i/\z.length<=sizeLine/\atI z.cps.toList i=some c/\Q (.str ⟨#[c]⟩) H
theorem ix_list:IxR X (rIxL X.K):=by
 intro value slice pins s σ H x y v u Q I rx ry h hs;obtain⟨p,xs,i,z,rfl,rfl,hq,he,q⟩:=h;cases rx;obtain⟨t,rfl⟩:=ry;obtain⟨its,r,pl,hz⟩:=I.list hq;obtain⟨j,h1,h2,h3,h4,h5⟩:=zhy he;obtain⟨w,ew,rw'⟩:=r.get h2;have hl:=r.length
 have hn:=zfB
 have fin:EP X pins σ Q w s:=⟨z,H,I,rw',q⟩
 by_cases h0:0<=i
 ·have hj:i.toNat=j:=by
   rw[seqIndex_of h0 h5] at h1;exact wau h1
  exact item_listR pl.isList h0 (by omega) (by rw[hj];simpa using ew) fin hs
 ·have hj:(i+(its.toArray.size:Int)).toNat=j:=by
   rw[seqIndex_neg (by omega) h4] at h1;rw[wac,<-hl];exact wau h1
  exact subscriptTail_builtinR (x:=w) pl.isList.typeIs slot_list_getitem.lookup
   (wpAny_getItem_list_neg (Q:=fun r s'=>r=w/\EP X pins σ Q r s') pl.isList (by omega) (by rw[wac] <;> omega) (by omega) (by rw[hj];simpa using ew) ⟨rfl,fin⟩) hs
theorem ix_tup:IxR X (rIxT X.K):=by
 intro value slice pins s σ H x y v u Q I rx ry h hs;obtain⟨p,xs,i,z,rfl,rfl,hq,he,q⟩:=h;cases rx;obtain⟨t,rfl⟩:=ry;obtain⟨its,r,pl,hz⟩:=I.tuple hq;obtain⟨j,h1,h2,h3,h4,h5⟩:=zhy he;obtain⟨w,ew,rw'⟩:=r.get h2;have hl:=r.length
 have hn:=zfB
 have fin:EP X pins σ Q w s:=⟨z,H,I,rw',q⟩
 exact subscriptTail_builtinR (x:=w) pl.typeIs slot_tuple_getitem.lookup
  (getItem_tuple (j:=j) (Q:=fun r s'=>r=w/\EP X pins σ Q r s') pl (by omega) (by omega) (by rw[wac,<-hl];exact h1) (by simpa using ew) ⟨rfl,fin⟩) hs
theorem zpc:IxR X rIxS:=by
 intro value slice pins s σ H x y v u Q I rx ry h hs;obtain⟨z,i,c,rfl,rfl,hz,he,q⟩:=h;obtain⟨t,rfl⟩:=rx;obtain⟨t',rfl⟩:=ry;obtain⟨j,h1,h2,h3,h4,h5⟩:=zhy he;have hl:z.cps.toList.length=z.length:=by simp[Str.length]
 rw[hl] at h1 h4 h5;have hn:=zfB
 exact tail_any (typeIs_str s z t) slot_str_getitem.lookup (getItem_str (c:=c) (by
  have e1:decide (i < -(2 ^ 63:Int))=false:=waw (by omega)
  have e2:decide (i≥2 ^ 63)=false:=waw (by omega)
  rw[e1,e2,Bool.or_false]) (by rw[h1];simpa using h2) ⟨.str ⟨#[c]⟩,H,I.tok _,⟨_,rfl⟩,q⟩) hs
def rIx (K:W.Frag):R2:=fun x y H Q=>rIxL K x y H Q\/rIxT K x y H Q\/rIxS x y H Q
theorem zij:IxR X (rIx X.K):=ix_list.or (ix_tup.or zpc)
theorem zi0 (its:List Value)(n j:Nat)(u:Value):Obj.mapSeq (·.setIfInBounds j u) {cls:=.type "list",data:=.seq its.toArray n} = {cls:=.type "list",data:=.seq (its.set j u).toArray n}:=by
 simp[Obj.mapSeq]
theorem Inv.lst {pins:List (Addr×Obj)}{σ:St}{H:Hp}{s:Shared}{p:Addr}{xs:List V}(I:Inv X pins σ H s)(h:H p=some (.lst xs)) :
 ∃(its:List Value) (n:Nat),Vals xs its/\s.heap.get? p=some {cls:=.type "list",data:=.seq its.toArray n}/\xs.length<=sizeLine:=by
 obtain⟨z,its,n,r,e⟩:=I.hok p _ h;exact⟨its,n,r,e,z⟩
theorem Inv.lstUpd {pins:List (Addr×Obj)}{σ:St}{H:Hp}{s:Shared}{p:Addr}{xs ys:List V}{its its':List Value}{n n':Nat}{f:Obj->Obj}(I:Inv X pins σ H s)(h:H p=some (.lst xs))
 (ho:s.heap.get? p=some {cls:=.type "list",data:=.seq its.toArray n}) (hf:f {cls:=.type "list",data:=.seq its.toArray n} = {cls:=.type "list",data:=.seq its'.toArray n'}) (r:Vals ys its') (hz:ys.length<=sizeLine) (t:Nat) :
 Inv X pins σ (upd H p (.lst ys)) {s with heap:=s.heap.update p f,toks:=t}:=by
 have e:(s.heap.update p f).get? p=some {cls:=.type "list",data:=.seq its'.toArray n'}:=by
  rw[wbQ f ho (by rw[hf] <;> rfl),hf]
 refine I.write (x:=p) (e:=p) (by rw[h];trivial) (.inl rfl) (fun b u hb q=>(waO _ _ (Ne.symm hb)).trans q) ⟨_,e⟩ ?_;exact⟨hz,its',n',r,e⟩
def zqt:V->V->V->Hp->(Hp->Prop)->Prop:=fun o i v H Q=>∃p xs k j,o=.ref p/\i=.int k/\H p=some (.lst xs)/\ixN xs.length k=some j/\Q (upd H p (.lst (xs.set j v)))
theorem zik:PSet X zqt:=by
 intro pins s σ H o i v ov iv u Q I ro ri rv h;obtain⟨p,xs,k,j,rfl,rfl,hp,hj,q⟩:=h;cases ro;obtain⟨t,rfl⟩:=ri;obtain⟨its,n,r,ho,hz⟩:=I.lst hp;obtain⟨h1,h2,h3,h4⟩:=zjG hj;have hl:=r.length
 have hn:=zfB
 have I':Inv X pins σ (upd H p (.lst (xs.set j v))) {s with heap:=s.heap.update p (Obj.mapSeq (·.setIfInBounds j u))}:=
  I.lstUpd hp ho (zi0 its n j u) (r.set rv j) (by rw[List.length_set];exact hz) s.toks
 by_cases h0:0<=k
 ·have hk:k.toNat=j:=by
   rw[seqIndex_of h0 h4] at h1;exact wau h1
  exact PySem.W.ki_setAt ho h0 (by omega) (by rw[wac,<-hl];exact h4) (by rw[hk];exact⟨_,I',q⟩)
 ·have hk:(k+(its.toArray.size:Int)).toNat=j:=by
   rw[seqIndex_neg (by omega) h3] at h1;rw[wac,<-hl];exact wau h1
  exact PySem.W.ki_setBack ho (by omega) (by rw[wac,<-hl];exact h3) (by omega) (by rw[hk];exact⟨_,I',q⟩)
theorem zgD (lo hi:Option Int)(n:Nat):(sliceBounds lo hi none n).1=((HT.sIx n 0 lo:Nat):Int)/\(sliceBounds lo hi none n).2.1=((HT.sIx n n hi:Nat):Int)/\(sliceBounds lo hi none n).2.2=1:=by
 refine⟨?_,?_,rfl⟩
 ·cases lo with
  | none=>simp[sliceBounds,HT.sIx]
  | some i=>
    simp only[sliceBounds,HT.sIx,Option.getD_none,show(1:Int)>0 by decide,if_true];by_cases h:i<0
    ·simp only[h,if_true] <;> omega
    ·simp only[h,if_false] <;> omega
 ·cases hi with
  | none=>simp[sliceBounds,HT.sIx]
  | some i=>
    simp only[sliceBounds,HT.sIx,Option.getD_none,show(1:Int)>0 by decide,if_true];by_cases h:i<0
    ·simp only[h,if_true] <;> omega
    ·simp only[h,if_false] <;> omega
theorem zfY (its:List Value)(lo hi:Option Int):slicePick its.toArray lo hi none=((its.drop (HT.sIx its.length 0 lo)).take (HT.sIx its.length its.length hi - HT.sIx its.length 0 lo)).toArray:=by
 obtain⟨h1,h2,h3⟩:=zgD lo hi its.toArray.size;unfold slicePick;rw[h1,h2,h3];simp only[sliceRange_one,pick_run,wac] <;> rfl
def rSlL (K:W.Frag):V->Option Int->Option Int->Hp->VK->Prop:=fun x lo hi H Q=>∃a xs,x=.ref a/\SqL K H a xs/\∀p,H p=none->Q (.ref p) (upd H p (.lst (cutV xs lo hi)))
theorem sl_list:SlR X (rSlL X.K):=by
 intro pins s σ H x v vl vu lo hi sl Q I rx hs pl pu h;obtain⟨a,xs,rfl,hx,q⟩:=h;cases rx;obtain⟨its,r,ht,hz⟩:=I.list hx;have hlen:=r.length
 refine⟨"list",_,slot_list_getitem.lookup,ht.isList.typeIs,?_⟩;refine wpAny_getItem_list_slice ht.isList hs pl pu .none (by simp) ?_ (by rw[wac] <;> omega);rw[zfY,<-hlen];refine⟨.ref s.heap.objs.size,_,I.laid (t':=s.toks) (o:=.lst (cutV xs lo hi)) (fun b ob q=>wah _ q) (wae _) ?_,rfl,q _ (I.hok.fresh (wae _))⟩;exact⟨waq (zeQ xs lo hi) hz,_,0,(r.drop (HT.sIx xs.length 0 lo)).take (HT.sIx xs.length xs.length hi - HT.sIx xs.length 0 lo),waA _ rfl⟩
def zfr:V->Bool
 | .non=>true
 | .bl _=>true
 | .int _=>true
 | .str _=>true
 | _=>false
def eqV:V->V->Bool
 | .non,.non=>true
 | .bl a,.bl b=>a == b
 | .bl a,.int b=>(if a then 1 else 0) == b
 | .int a,.bl b=>a == (if b then 1 else 0)
 | .int a,.int b=>a == b
 | .str a,.str b=>a == b
 | _,_=>false
theorem zmR {A:Around}{s:Shared}{y x:V}{u v:Value}(ry:RelV y u)(rx:RelV x v)(fy:zfr y=true)(fx:zfr x=true):SeqAt.EqAt A s u v (eqV y x):=by
 cases y with
 | non=>
   cases ry;cases x with
   | non=>cases rx;exact wcE _
   | bl b=>cases rx;exact SeqAt.EqAt.none_bool b
   | int b=>obtain⟨t,rfl⟩:=rx;exact SeqAt.EqAt.none_int b t
   | str b=>obtain⟨t,rfl⟩:=rx;exact SeqAt.EqAt.none_str b t
   | _=>exact absurd (show false=true from fx) waD
 | bl a=>
   cases ry;cases x with
   | non=>cases rx;exact SeqAt.EqAt.bool_none a
   | bl b=>cases rx;exact SeqAt.EqAt.bool_bool a b
   | int b=>obtain⟨t,rfl⟩:=rx;exact SeqAt.EqAt.bool_int a b t
   | str b=>obtain⟨t,rfl⟩:=rx;exact SeqAt.EqAt.bool_str a b t
   | _=>exact absurd (show false=true from fx) waD
 | int a=>
   obtain⟨t',rfl⟩:=ry;cases x with
   | non=>cases rx;exact SeqAt.EqAt.int_none a t'
   | bl b=>cases rx;exact SeqAt.EqAt.int_bool a t' b
   | int b=>obtain⟨t,rfl⟩:=rx;exact SeqAt.EqAt.int_int a t' b t
   | str b=>obtain⟨t,rfl⟩:=rx;exact SeqAt.EqAt.int_str a t' b t
   | _=>exact absurd (show false=true from fx) waD
 | str a=>
   obtain⟨t',rfl⟩:=ry;cases x with
   | non=>cases rx;exact SeqAt.EqAt.str_none a t'
   | bl b=>cases rx;exact SeqAt.EqAt.str_bool a t' b
   | int b=>obtain⟨t,rfl⟩:=rx;exact SeqAt.EqAt.str_int a t' b t
   | str b=>obtain⟨t,rfl⟩:=rx;exact SeqAt.EqAt.str_str a t' b t
   | _=>exact absurd (show false=true from fx) waD
 | _=>exact absurd (show false=true from fy) waD
def eqU (x:V)(u:Value):Bool:=match u with
 | .none=>eqV .non x
 | .bool b=>eqV (.bl b) x
 | .int i _=>eqV (.int i) x
 | .str z _=>eqV (.str z) x
 | _=>false
theorem zmS {x y:V}{u:Value}(r:RelV y u)(f:zfr y=true):eqU x u=eqV y x:=by
 cases y with
 | non=>cases r;rfl
 | bl b=>cases r;rfl
 | int i=>obtain⟨t,rfl⟩:=r;rfl
 | str z=>obtain⟨t,rfl⟩:=r;rfl
 | _=>exact absurd (show false=true from f) waD
theorem zhz {x:V}:∀{xs:List V}{us:List Value},Vals xs us->xs.all zfr=true->us.any (eqU x)=xs.any fun y=>eqV y x
 | _,_,.nil,_=>rfl
 | y::xs,u::us,.cons r t,f=>by
   rw[wbm,waj] at f;rw[wce,wce,zmS r f.1,zhz t f.2]
theorem zfZ {A:Around}{s:Shared}{x:V}{v:Value}(rx:RelV x v)(fx:zfr x=true):∀{xs:List V}{us:List Value},Vals xs us->xs.all zfr=true->∀u∈us,SeqAt.EqAt A s u v (eqU x u)
 | _,_,.nil,_=>fun u hu=>by cases hu
 | y::xs,u::us,.cons r t,f=>fun u' hu=>by
   rw[wbm,waj] at f;rcases was.mp hu with rfl | hu
   ·rw[zmS r f.1];exact zmR r rx f.1 fx
   ·exact zfZ rx fx t f.2 u' hu
def inV (x:V)(xs:List V):Bool:=xs.any fun y=>eqV y x
def rIn (K:W.Frag)(neg:Bool):R2:=fun x y H Q=>∃p xs,y=.ref p/\(SqL K H p xs\/SqT K H p xs)/\zfr x=true/\xs.all zfr=true/\Q (.bl (if neg then !inV x xs else inV x xs)) H
theorem zgE:OpR X (compareOp .NotIn) (rIn X.K true):=by
 intro pins s σ H x y v u Q I rx ry h;obtain⟨p,xs,rfl,hq,fx,fs,q⟩:=h;cases ry;rcases hq with hq | hq
 ·obtain⟨its,r,pl,hz⟩:=I.list hq;refine SeqAt.notIn_listAt (eqU x) pl.isList (fun w hw=>zfZ rx fx r fs w (by simpa using hw)) ⟨.bl _,H,I,rfl,?_⟩;rw[show its.toArray.any (eqU x)=its.any (eqU x) by simp,zhz r fs];exact q
 ·obtain⟨its,r,pl,hz⟩:=I.tuple hq;refine SeqAt.notIn_tupleAt (eqU x) pl (fun w hw=>zfZ rx fx r fs w (by simpa using hw)) ⟨.bl _,H,I,rfl,?_⟩;rw[show its.toArray.any (eqU x)=its.any (eqU x) by simp,zhz r fs];exact q
theorem zgF:zdV X (.type "list") (fun xs H Q=>∃p ys,xs = [.ref p]/\(SqL X.K H p ys\/SqT X.K H p ys)/\∀l,H l=none->Q (.ref l) (upd H l (.lst ys))):=by
 intro pins s σ H xs us Q I r h;obtain⟨p,ys,rfl,hq,q⟩:=h;obtain⟨u,rfl,rx⟩:=zfV r;cases rx;have fin:∀(its:List Value),Vals ys its->ys.length<=sizeLine->∀(h':Heap) (c':Nat),(∀b o',s.heap.get? b=some o'->h'.get? b=some o')->
  h'.get? s.heap.objs.size=some {cls:=.type "list",dict:=none,data:=.seq its.toArray c',slots:=#[]}->EP X pins σ Q (.ref s.heap.objs.size) {s with heap:=h'}:=fun its r' hz h' c' kp e=>
  ⟨.ref s.heap.objs.size,_,I.laid (t':=s.toks) kp (wae _) (show ObjOk X.prog X.w _ h' _ (.lst ys) from⟨hz,its,c',r',e⟩),rfl,q _ (I.hok.fresh (wae _))⟩
 rcases hq with hq | hq
 ·obtain⟨its,r',pl,hz⟩:=I.list hq;have hlen:=r'.length
  obtain⟨o,ho,hc,n,hd⟩:=pl.isList;exact call_list_seq p (.inl rfl) ho hc hd (fun h' c' kp e=>fin its r' hz h' c' kp e) (by simp only[wac] <;> omega)
 ·obtain⟨its,r',pl,hz⟩:=I.tuple hq;have hlen:=r'.length
  obtain⟨o,ho,hc,n,hd⟩:=pl;exact call_list_seq p (.inr rfl) ho hc hd (fun h' c' kp e=>fin its r' hz h' c' kp e) (by simp only[wac] <;> omega)
theorem zds:zdV X (.type "tuple") (fun xs H Q=>∃p ys,xs = [.ref p]/\((SqL X.K H p ys/\∀l,H l=none->Q (.ref l) (upd H l (.tup ys)))\/(SqT X.K H p ys/\Q (.ref p) H))):=by
 intro pins s σ H xs us Q I r h;obtain⟨p,ys,rfl,h⟩:=h;obtain⟨u,rfl,rx⟩:=zfV r;cases rx;rcases h with⟨hq,q⟩ | ⟨hq,q⟩
 ·obtain⟨its,r',pl,hz⟩:=I.list hq;have hlen:=r'.length
  refine call_tuple_list pl.isList (fun h' kp=>?_) (by simp only[wac] <;> omega);have I1:Inv X pins σ H {s with heap:=h'}:=I.kept (t':=s.toks) kp
  have I2:Inv X pins σ (upd H h'.objs.size (.tup ys)) {s with heap:=h'.push {cls:=.type "tuple",data:=.seq its.toArray}}:=
   I1.laid (t':=s.toks) (fun b o e=>wah _ e) (wae _) (show ObjOk X.prog X.w _ _ _ (.tup ys) from⟨hz,its,r',IsTup.new _ _⟩)
  exact⟨.ref h'.objs.size,_,I2,rfl,q _ (I1.hok.fresh (wae _))⟩
 ·obtain⟨its,r',pl,hz⟩:=I.tuple hq;exact call_tuple_same pl ⟨.ref p,H,I,rfl,q⟩
def tyV (K:W.Frag)(T:String)(x:V)(H:Hp):Prop:=match x with
 | .str _=>T = "str"
 | .int _=>T = "int"
 | .ref p=>(T = "list"/\∃xs,SqL K H p xs)\/(T = "tuple"/\∃o,K.lookup p=some o/\o.cls=.type "tuple"/\o.dict=none)\/
  (T = "dict"/\((∃kvs,H p=some (.dK kvs))\/∃kvs,H p=some (.dT kvs)))\/(T = "set"/\∃S n,H p=some (.set S n))
 | _=>False
theorem zpd {pins:List (Addr×Obj)}{σ:St}{H:Hp}{s:Shared}{T:String}{x:V}{v:Value}(I:Inv X pins σ H s)(r:RelV x v)(ty:tyV X.K T x H) :
 s.TypeIs v T/\∀a,v=.ref a->∃ob,s.heap.get? a=some ob/\ob.dict=none:=by
 cases x with
 | str z=>
   obtain⟨t,rfl⟩:=r;cases(show T = "str" from ty);exact⟨typeIs_str s z t,fun _ e=>nomatch e⟩
 | int i=>
   obtain⟨t,rfl⟩:=r;cases(show T = "int" from ty);exact⟨typeIs_int s i t,fun _ e=>nomatch e⟩
 | ref p=>
   cases r;rcases ty with⟨rfl,xs,hq⟩ | ⟨rfl,o,hk,hc,hd⟩ | ⟨rfl,hk⟩ | ⟨rfl,S,n,hk⟩
   ·obtain⟨its,_,pl,_⟩:=I.list hq;refine⟨pl.isList.typeIs,fun a e=>?_⟩;cases e;obtain⟨o,n,e,c,hd,_⟩:=pl;exact⟨o,e,hd⟩
   ·refine⟨⟨o,I.kIn p o hk,hc⟩,fun a e=>?_⟩;cases e;exact⟨o,I.kIn _ o hk,hd⟩
   ·have z:∃o,s.heap.get? p=some o/\o.ExactDict:=by
     rcases hk with⟨kvs,hk⟩ | ⟨kvs,hk⟩
     ·obtain⟨_,_,_,_,o,_,_,e,ex,_⟩:=I.hok p _ hk;exact⟨o,e,ex⟩
     ·obtain⟨_,_,_,_,o,_,_,e,ex,_⟩:=I.hok p _ hk;exact⟨o,e,ex⟩
    obtain⟨o,e,ex⟩:=z;refine⟨⟨o,e,ex.1⟩,fun a e2=>?_⟩;cases e2;exact⟨o,e,ex.2.1⟩
   ·obtain⟨o,_,_,_,e,ex,_⟩:=I.hok p _ hk;refine⟨⟨o,e,ex.1⟩,fun a e2=>?_⟩;cases e2;exact⟨o,e,ex.2.1⟩
 | _=>exact False.elim ty
def tBM (K:W.Frag)(T:String)(r:V->List V->Hp->VK->Prop)(to:TE)(t:TA):TE:=fun σ H Q=>to σ H fun x H1=>tyV K T x H1/\t σ H1 fun xs H2=>r x xs H2 Q
variable {o e:Expr}{es:List Expr}{to:TE}{t:TA}{name:Str}{apos cpos:Pos}{T id:String}{r:V->List V->Hp->VK->Prop}
theorem znw (pa:PlainAttrs T)(slot:Slot T name id)(hty:typeOf (.builtin id)=pure (.type "method_descriptor"))(hm:MtR X id r)(ho:PE X o to)(ha:PA X (e::es) t)
 (hbase:attributeBase o name X.env (eval o X.env)=eval o X.env:=by rfl)
 (hfew:((backTo cpos (starEach (e::es) X.env)).all (fun x=>!x.1)&&(backToKw cpos (keywordEach [] X.env)).all (fun x=>x.1.isSome)
  && decide ((e::es).length+([]:List Keyword).length+(if([]:List Keyword).isEmpty then 0 else 1)<30))=true:=by rfl)
 (hline:(apos.endLine == cpos.line)=true:=by rfl) (hs:starEach (e::es) X.env=(false,eval e X.env)::starEach es X.env:=by rfl) (hplain:(backTo cpos (starEach es X.env)).any (·.1)=false:=by rfl) :
 PE X (.Call (.Attribute o name apos) (e::es) [] cpos) (tBM X.K T r to t):=by
 intro pins s σ H Q I h;refine wpAny_Call_method_late hbase hfew hline rfl (thn (ho pins s σ H _ I h) fun v s1 ⟨x,H1,I1,r1,ty,q1⟩ =>?_);obtain⟨h1,h2⟩:=zpd I1 r1 ty;refine⟨T,id,pa,slot,hty,h1,h2,?_⟩;have hA:=ha cpos pins s1 σ H1 _ I1 q1
 rw[hs] at hA⊢;refine Calls.callWith_builtin (by show(false||(backTo cpos (starEach es X.env)).any (·.1))=false;rw[hplain] <;> rfl) (Calls.evalArgs_plain ?_);exact thn hA fun us s2 ⟨vs,H2,I2,r2,q2⟩ =>hm pins s2 σ H2 x vs v us Q I2 r1 r2 q2
end
def MtM (X:Cx)(id:String)(r:V->List V->Hp->VK->Prop):Prop:=
 ∀(pins:List (Addr×Obj)) (s:Shared) (σ:St) (H:Hp) (x:V) (xs:List V) (v:Value) (us:List Value) (Q:VK),Inv X pins σ H s->RelV x v->Vals xs us->r x xs H Q->
  wpAny (model X.prog X.w) X.A (call (.builtin id) (v::us)) (EP X pins σ Q) X.xe s
theorem Vals.one:∀{x:V}{us:List Value},Vals [x] us->∃u,us = [u]/\RelV x u
 | _,_,.cons r .nil=>⟨_,rfl,r⟩
theorem Vals.reverse {xs:List V}{us:List Value}(h:Vals xs us):Vals xs.reverse us.reverse:=by
 induction h with
 | nil=>exact .nil
 | cons r t ih=>rw[wco,wco];exact Vals.append ih (.cons r .nil)
theorem Vals.rep {xs:List V}{us:List Value}(h:Vals xs us):∀k:Nat,Vals (List.replicate k xs).flatten (List.replicate k us).flatten
 | 0=>.nil
 | k+1=>by
   rw[wbb,wbb,wbC,wbC];exact Vals.append h (Vals.rep h k)
theorem zgG (its:List Value):∀(k:Nat) (acc:List Value),
 List.foldl (fun x1 x2=>x1++x2) acc.toArray (List.replicate k its.toArray)=(acc++(List.replicate k its).flatten).toArray
 | 0,acc=>by simp
 | k+1,acc=>by
   have e:acc.toArray++its.toArray=(acc++its).toArray:=by simp
   have e2:(acc++its)++(List.replicate k its).flatten=acc++(List.replicate (k+1) its).flatten:=by
    rw[wbb,wbC,wbU]
   rw[<-e2,<-zgG its k (acc++its),<-e,wbb,List.foldl_cons]
section
variable {X:Cx}{pins:List (Addr×Obj)}{σ:St}{H:Hp}{s:Shared}{l b:Addr}{xs ys zs:List V}
theorem Inv.lset {its its':List Value}{n:Nat}{f:Array Value->Array Value}{t':Nat}(I:Inv X pins σ H s)(hH:H l=some (.lst xs))
 (e:s.heap.get? l=some {cls:=.type "list",data:=.seq its.toArray n}) (hf:f its.toArray=its'.toArray) (hv:Vals ys its') (hz:ys.length<=sizeLine) :
 Inv X pins σ (upd H l (.lst ys)) {s with heap:=s.heap.update l (Obj.mapSeq f),toks:=t'}:=by
 have q:=PySem.IsL.update e f
 rw[hf] at q;refine I.write (x:=l) (e:=l) (by rw[hH];exact trivial) (.inl rfl) (fun b' u hb hu=>(waO s.heap (Obj.mapSeq f) (Ne.symm hb)).trans hu) ⟨_,q⟩ ?_;exact⟨hz,its',_,hv,q⟩
theorem Inv.lnew {its:List Value}{t':Nat}(I:Inv X pins σ H s)(hv:Vals ys its)(hz:ys.length<=sizeLine) :
 Inv X pins σ (upd H s.heap.objs.size (.lst ys)) {s with heap:=s.heap.push {cls:=.type "list",data:=.seq its.toArray},toks:=t'}:=
 I.laid (fun _ _ q=>wah _ q) (wae _) ⟨hz,its,0,hv,waA _ rfl⟩
theorem Inv.fresh (I:Inv X pins σ H s):H s.heap.objs.size=none:=I.hok.fresh (wae _)
theorem Inv.lstM (I:Inv X pins σ H s)(hH:H l=some (.lst xs)):xs.length<=sizeLine/\∃(its:List Value) (n:Nat),Vals xs its/\xs.length=its.length/\s.heap.get? l=some {cls:=.type "list",data:=.seq its.toArray n}:=by
 obtain⟨z,its,n,r,e⟩:=I.hok l _ hH;exact⟨z,its,n,r,r.length,e⟩
theorem zil {n:Nat}(h:n<=sizeLine):Builtin.List.listTooLong n=false:=by
 unfold Builtin.List.listTooLong;exact waw (by omega)
end
section
variable {X:Cx}
def zf0:V->List V->Hp->VK->Prop:=fun x vs H Q=>∃l xs y,x=.ref l/\vs = [y]/\H l=some (.lst xs)/\xs.length<sizeLine/\Q .non (upd H l (.lst (xs++[y])))
theorem zgH:MtM X "list.append" zf0:=by
 intro pins s σ H x vs v us Q I rx rv h;obtain⟨l,xs,y,rfl,rfl,hH,hz,q⟩:=h;cases rx;obtain⟨u,rfl,ru⟩:=rv.one;obtain⟨z,its,n,r,hl,e⟩:=I.lstM hH;refine call_meets F.slot_list_append ⟨_,e,rfl⟩ F.entry_list_append (F.args_list_append_2 _ _) (PySem.list_append l its.toArray n u (by rw[wac];omega)) ⟨e,?_⟩;refine⟨.non,_,I.lset (its':=its++[u]) hH e (by simp) (r.append (.cons ru .nil)) ?_,rfl,q⟩;rw[wam,wct];omega
def zjH:V->List V->Hp->VK->Prop:=fun x vs H Q=>∃l b xs zs,x=.ref l/\vs = [.ref b]/\H l=some (.lst xs)/\H b=some (.lst zs)/\xs.length+zs.length<=sizeLine/\Q .non (upd H l (.lst (xs++zs)))
theorem zjI:MtM X "list.extend" zjH:=by
 intro pins s σ H x vs v us Q I rx rv h;obtain⟨l,b,xs,zs,rfl,rfl,hH,hB,hz,q⟩:=h;cases rx;obtain⟨u,rfl,ru⟩:=rv.one;cases ru;obtain⟨z,its,n,r,hl,e⟩:=I.lstM hH;obtain⟨z2,its2,n2,r2,hl2,e2⟩:=I.lstM hB;have hsz:its.toArray.size+its2.toArray.size<=sizeLine:=by rw[wac,wac];omega
 have hlong:¬(!its.toArray.isEmpty&&Builtin.List.listTooLong (its.toArray.size+its2.toArray.size))=true:=by
  rw[zil hsz,Bool.and_false];exact waD
 refine call_meets F.slot_list_extend ⟨_,e,rfl⟩ F.entry_list_extend (F.args_list_extend_2 _ _)
  (AutoSeq1.list_extend_list_list_0 l its.toArray n b its2.toArray n2 hlong (by rw[wac];omega) (by omega)) ⟨e,e2,?_⟩
 refine⟨.non,_,I.lset (its':=its++its2) hH e (by simp) (r.append r2) ?_,rfl,q⟩;rw[wam];omega
def rCat:R2:=fun x y H Q=>∃l b xs zs,x=.ref l/\y=.ref b/\H l=some (.lst xs)/\H b=some (.lst zs)/\xs.length+zs.length<=sizeLine/\∀p,H p=none->Q (.ref p) (upd H p (.lst (xs++zs)))
theorem op_cat:OpR X (binaryOp .Add) rCat:=by
 intro pins s σ H x y v u Q I rx ry h;obtain⟨l,b,xs,zs,rfl,rfl,hH,hB,hz,q⟩:=h;cases rx;cases ry;obtain⟨z,its,n,r,hl,e⟩:=I.lstM hH;obtain⟨z2,its2,n2,r2,hl2,e2⟩:=I.lstM hB;refine PySem.P.add_list e e2 ?_ (by rw[wac,wac];omega);have ea:its.toArray++its2.toArray=(its++its2).toArray:=by simp
 rw[ea];exact⟨.ref _,_,I.lnew (t':=s.toks) (r.append r2) (by rw[wam];omega),rfl,q _ I.fresh⟩
def rRep:R2:=fun x y H Q=>∃l k xs,x=.ref l/\y=.int k/\H l=some (.lst xs)/\-(2 ^ 63)<=k/\k<2 ^ 63/\xs.length*k.toNat<=sizeLine/\
 ∀p,H p=none->Q (.ref p) (upd H p (.lst (List.replicate k.toNat xs).flatten))
theorem znx {α:Type}(xs:List α)(k:Nat):(List.replicate k xs).flatten.length=k*xs.length:=by
 induction k with
 | zero=>simp
 | succ k ih=>rw[wbb,wbC,wam,ih,Nat.succ_mul,Nat.add_comm]
theorem zpe:OpR X (binaryOp .Mult) rRep:=by
 intro pins s σ H x y v u Q I rx ry h;obtain⟨l,k,xs,rfl,rfl,hH,h1,h2,hz,q⟩:=h;cases rx;obtain⟨t,rfl⟩:=ry;obtain⟨z,its,n,r,hl,e⟩:=I.lstM hH;have hlen:its.toArray.size*k.toNat<=sizeLine:=by rw[wac,<-hl];exact hz
 have hcap:¬its.toArray.size*k.toNat>(2 ^ 63 - 1) / 8:=by
  have:(sizeLine:Nat)<=(2 ^ 63 - 1) / 8:=by decide
  omega
 have hfit:¬(!Builtin.List.listFitsIndex k)=true:=by
  rw[fitsIndex_both h1 h2];exact waD
 have hlong:¬Builtin.List.listTooLong (its.toArray.size*k.toNat)=true:=by
  rw[zil hlen];exact waD
 have hnew:List.foldl (fun x1 x2=>x1++x2) #[] (List.replicate (if its.toArray.isEmpty=true then 0 else k.toNat) its.toArray)=(List.replicate k.toNat its).flatten.toArray:=by
  have f0:∀m:Nat,List.foldl (fun x1 x2=>x1++x2) #[] (List.replicate m its.toArray)=(List.replicate m its).flatten.toArray:=fun m=>by
   have:=zgG its m []
   rw[wcf] at this;exact this
  rw[f0];cases its with
  | nil=>simp
  | cons a r'=>rw[if_neg (by simp)]
 refine wpAny_binaryOp_repeat_ref (T:="list") (U:="int") (by decide) ⟨_,e,rfl⟩ (fun s'=>typeIs_int s' k t) noFill_list_mul F.fills_int_mul F.slot_int_rmul repeat_list F.slot_int_index.lookup
  (call_meets F.slot_int_rmul (typeIs_int s k t) F.entry_int_rmul (F.args_int_rmul_2 _ _) (int___rmul___int_list k t l its.toArray n)
   ⟨e,rfl,⟨_,e,rfl⟩,call_meets F.slot_list_mul ⟨_,e,rfl⟩ F.entry_list_mul (F.args_list_mul_2 _ _) (AutoListH.list___mul___list_int_3 l its.toArray n k t hfit hcap hlong) ⟨e,?_⟩⟩)
 rw[hnew];exact⟨.ref _,_,I.lnew (t':=s.toks) (r.rep k.toNat) (by rw[znx,Nat.mul_comm];exact hz),rfl,q _ I.fresh⟩
end
section
variable {prog:Program}{w:World}{A:Around}{E:Value->Shared->Prop}{s:Shared}
end
section
variable {X:Cx}
end
end L2
namespace Att
open PySem PySem.W PySem.Calls PyProof.Rows
theorem zeS {P:Params}{h:Heap}:∀(ns:List Int) (vs:List Value),WellAll P h vs (ns.map WData.int)->IntsAre vs ns:=by
 intro ns;induction ns with
 | nil=>
   intro vs w;rw[List.map_nil] at w;cases w;exact .nil
 | cons n ns ih=>
   intro vs w;rw[wav] at w;cases w with
   | cons a b=>
     cases a;exact .cons _ _ (ih _ b)
theorem zjJ {l:OpenLaw}{n:Nat}(hn:l.most=some n){P:Params}{h:Heap}{args:List WData}{vals:List Value}
 (hpre:l.row.toRowW.claim.pre args=true) (hwl:WellAll P h vals args) :
 ∃a vs ns,vals = [Value.ref a]/\args = [WData.list (ns.map WData.int)]/\h.get? a=some {cls:=.type "list",data:=.seq vs.toArray}/\IntsAre vs ns/\ns.length<=n:=by
 have hsh:WShape.hasAll [] args [.list .int]=true:=(pre_splitW hpre).1
 have hc:l.pre.holds [] {args:=args}=true:=(pre_splitW hpre).2
 obtain⟨d,r,rfl,h1,h2⟩:=hasAllW_cons hsh;obtain rfl:=hasAllW_nil h2;obtain⟨xs,rfl,h3⟩:=hasW_list h1;obtain⟨ns,rfl⟩:=items_int h3;have hlen:ns.length<=n:=by
  unfold OpenLaw.pre at hc;have h4:(WTm.not (.lt (.lit (.int (n:Int))) (.len (.arg 0)))).holds [] {args:=[.list (ns.map .int)]}=true:=by
   have h4:=(holds_andW hc).1
   rw[hn] at h4;exact h4
  have h5:=condW_of h4 (w_not (w_lt w_lit (w_len_list (w_arg rfl))))
  rw[wao] at h5;refine Nat.le_of_not_lt fun q=>?_
  have q':(n:Int)<((ns.length:Nat):Int):=by omega
  first
   | (rw[waH q'] at h5;exact absurd h5 (by decide))
   | (simp at h5;omega)
 cases hwl with
 | cons w1 w2=>
   cases w2;cases w1 with
   | list ho hall=>exact⟨_,_,ns,rfl,rfl,ho,zeS ns _ hall,hlen⟩
theorem zjK (l:OpenLaw)(args:List WData):l.row.toRowW.claim.post args (.bool true) args=true:=
 postW_of (r:=l.row.toRowW) (X:=(true == true))
  (show WShape.has [] (.bool true) .bool=true by first | rfl | decide | simp[WShape.has,WShape.arms,WShape.armsAll])
  (show(WTm.eq .res (.lit (.bool true))).value [] {args:=args,res:=some (.bool true),after:=args}=some (.bool (true == true)) from w_eq_bool (w_res rfl) w_lit) rfl
theorem attach_call {l:OpenLaw}{n:Nat}{q:Program}{loose:List Str}{XP:(Str->Option Value)->Heap->Prop}{YP:World->Heap->Prop}{d:DefRec}
 (hn:l.most=some n) (hdf:d.params.defaults = [])
 (call:∀(w:World) (s₀ s₁:Shared) (mg mb:Str->Option Value) (fa:Addr) (o:Obj) (pm cd doc:Value) (a:Addr) (vs:List Value) (ns:List Int),
  Ground q loose [] XP w s₀ mg mb s₁.heap->YP w s₁.heap->
  s₁.heap.get? fa=some o->o.data=.func (docDef d.name d.params d.body d.scope pm cd doc)->s₁.heap.CodeRec cd d.name->mg d.name=some (.ref fa)->
  s₁.heap.get? a=some {cls:=.type "list",data:=.seq vs.toArray}->IntsAre vs ns->ns.length<=n->s₁.gens = #[]->
  codeAny (model l.prog w) callerA (.call (.ref fa) ⟨[.ref a],[]⟩) (fun r s'=>r=.ok (.ret (.bool true))/\OldK s₁.heap s'.heap/\s'.os=s₁.os/\AllBare s'.gens) s₁) :
 WalkO q loose XP YP l.row.toRowW d [] (fun f vs=>PySem.call f vs):=by
 intro w s₀ s₁ mg mb G Y fa o pm cd doc dV kV ho hd hcd hD hmg hg args vals as hpre hlay hrd hwl hlo;obtain rfl:dV=.none:=Dflts.none hD hdf;obtain rfl:kV=.none:=Dflts.noKw hD;obtain⟨a,vs,ns,rfl,rfl,hobj,hints,hlen⟩:=zjJ hn hpre hwl;refine enter_call (codeAny_mono (call w s₀ s₁ mg mb fa o pm cd doc a vs ns G Y ho (fd_plain hd) hcd hmg hobj hints hlen hg) fun r s' hq=>?_);obtain⟨rfl,h2,h3,h4⟩:=hq;exact⟨.inl ⟨.bool true,.bool true,[],rfl,fun _=>rfl,.bool true,zjK l _,fun _=>⟨List.Pairwise.nil,fun _ hm=>(nomatch hm)⟩⟩,h2,h3,h4⟩
section
variable {prog:Program}{w:World}{A:Around}{E:Value->Shared->Prop}{s:Shared}{K:Frag}
end
end Att
namespace L2
open PySem PySem.Spec PyProof.Rows
theorem zgI:∀{vs:List Value}{ns:List Int},IntsAre vs ns->Vals (ns.map V.int) vs
 | _,_,.nil=>.nil
 | _,_,.cons n t h=>.cons ⟨t,rfl⟩ (zgI h)
def Only (H:Hp):Prop:=∀b,H b=none\/∃o xs,H b=some (.frz o (.lst xs))
theorem zlA {P:Program}{w:World}{K:W.Frag}{mg mb:Str->Option Value}{CX:CXT}{k:Nat}{fa a:Addr}{fd:FuncData}{x:Str}{sp:Sp}{s₁:Shared}{vs:List Value}{ns:List Int}
 (KX:K.In s₁.heap) (hns:s₁.heap.Ns mainGlobals mg) (hb:s₁.heap.Ns builtinsNs mb) (hbb:∀x:Str,x≠"__name__"->mb x=bootBuiltins x) (hlim:s₁.heap.NoLimit) (hg:s₁.gens = #[])
 (ha:s₁.heap.get? a=some {cls:=.type "list",data:=.seq vs.toArray}) (hi:IntsAre vs ns) (hl:ns.length<=sizeLine) (hr:Room k callerA)
 (F:∀base:Heap,K.In base->base.Ns mainGlobals mg->FnOk P w K mg base CX k fa fd [x] sp) (hbind:∀(s:Shared) (u:Value),BindsTo s fd ⟨[u],[]⟩ [(x,u)])
 (hsp:∀H:Hp,Only H->SqL K H a (ns.map V.int)->sp [.ref a] H (fun v _=>v=.bl true) fun _ _ _=>False)
 (hCX:∀H e s',CX [] H s₁ (fun _ _ _=>False) e s'->False) :
 codeAny (model P w) callerA (.call (.ref fa) ⟨[.ref a],[]⟩) (fun r s'=>r=.ok (.ret (.bool true))/\OldK s₁.heap s'.heap/\s'.os=s₁.os/\AllBare s'.gens) s₁:=by
 have rv:=zgI hi
 have lenV:=hi.length
 have core:∀H:Hp,Only H->SqL K H a (ns.map V.int)->HOk P w H s₁.heap->(∀b,H b≠none->b=a)->(H a≠none->K.lookup a=none)->
  codeAny (model P w) callerA (.call (.ref fa) ⟨[.ref a],[]⟩) (fun r s'=>r=.ok (.ret (.bool true))/\OldK s₁.heap s'.heap/\s'.os=s₁.os/\AllBare s'.gens) s₁:=by
  intro H hO hS hok hA hK;have base_of:∀{b:Addr}{o:Obj},s₁.heap.get? b=some o->H b=none->(hidT s₁.heap H).get? b=some o:=fun e n=>zlk e n
  have noA:∀{b:Addr}{o:Obj}{es:Array DictEntry}{ep:Nat},s₁.heap.get? b=some o->o.data=.dict es ep->H b=none:=fun {b o es ep} e d=>by
   cases q:H b with
   | none=>rfl
   | some u=>
     have e':b=a:=hA b (by rw[q];simp)
     subst e';rw[ha] at e;cases e;have d':Data.seq vs.toArray _=Data.dict es ep:=d
     cases d'
  have nsK:∀{b:Addr}{m:Str->Option Value},s₁.heap.Ns b m->(hidT s₁.heap H).Ns b m:=fun {b m} ⟨o,es,ep,e,d,r⟩ =>⟨o,es,ep,base_of e (noA e d),d,r⟩
  have hKb:K.In (hidT s₁.heap H):=fun b o e=>base_of (KX b o e) (by
   cases q:H b with
   | none=>rfl
   | some u=>
     have e':b=a:=hA b (by rw[q];simp)
     subst e';rw[hK (by rw[q];simp)] at e;cases e)
  have hM:Mod K mg (hidT s₁.heap H):=⟨hKb,nsK hns,⟨mb,nsK hb,hbb⟩,let ⟨mc,h1,h2⟩:=hlim;⟨mc,nsK h1,h2⟩⟩
  have e0:Env0 P w K mg (hidT s₁.heap H) callerA [] s₁ H:=⟨rfl,hM,fun b o e=>znm e,wcu (zjp _ _),trivial,fun b hb=>absurd (show b∈([]:List Addr) from hb) (by simp),hok,.of_eq hg⟩
  refine codeAny_mono ((F _ hKb (nsK hns)).run callerA [] s₁ H ⟨[.ref a],[]⟩ [.ref a] [.ref a] _ _ hr e0 (hbind s₁ (.ref a)) (.cons rfl .nil) (hsp H hO hS)) fun r s' h=>?_
  cases r with
  | error e=>exact(hCX H e s' h).elim
  | ok fl=>
    cases fl with
    | next=>exact False.elim h
    | brk=>exact False.elim h
    | cont=>exact False.elim h
    | ret u=>
      obtain⟨v,H',os,bare,un,hok',r',q⟩:=h;have q':v=.bl true:=q
      subst q';obtain rfl:u=Value.bool true:=r';refine⟨rfl,OldK.of_keep fun b o e=>?_,os,bare⟩;cases q:H b with
      | none=>exact un.keep b o e q (by intro z;exact absurd (show b∈([]:List Addr) from z) (by simp)) (by simp)
      | some u=>
        rcases hO b with z | ⟨ob,xs,z⟩
        ·rw[q] at z;cases z
        ·have z2:=un.frzs b ob _ z
         obtain⟨e1,_⟩:=hok b _ z;obtain⟨e2,_⟩:=hok' b _ z2;rw[e] at e1;cases e1;exact e2
 cases hk:K.lookup a with
 | some o=>
   have e:=KX a o hk
   rw[ha] at e;cases e;refine core (fun _=>none) (fun _=>.inl rfl) (.inr ⟨_,vs.toArray,_,hk,rfl,rfl,rfl,by rw[wac,lenV];exact hl,by simpa using rv⟩) (fun b u z=>by have z':(none:Option HO)=some u:=z;cases z') (fun b z=>absurd rfl z) fun z=>absurd rfl z
 | none=>
   refine core (fun b=>if b=a then some (.frz {cls:=.type "list",data:=.seq vs.toArray} (.lst (ns.map V.int))) else none) (fun b=>?_) (.inl (.inr ⟨{cls:=.type "list",data:=.seq vs.toArray},if_pos rfl⟩)) (fun b u z=>?_) (fun b z=>?_) fun _=>hk
   ·by_cases hb:b=a
    ·exact .inr ⟨_,_,if_pos hb⟩
    ·exact .inl (if_neg hb)
   ·by_cases hb:b=a
    ·have z':=(if_pos hb).symm.trans z
     cases z';subst hb;exact⟨ha,by rw[wao];exact hl,vs,_,rv,ha⟩
    ·have z':=(if_neg hb).symm.trans z
     cases z'
   ·by_cases hb:b=a
    ·exact hb
    ·exact absurd (if_neg hb) z
theorem zny {l:PySem.W.OpenLaw}{n k:Nat}{q:Program}{loose:List Str}{XP:(Str->Option Value)->Heap->Prop}{YP:World->Heap->Prop}{d:DefRec}{K:Params->W.Frag}{CX:World->CXT}{sp:World->Sp}{x:Str}
 (hn:l.most=some n) (hn2:n<=sizeLine) (hdf:d.params.defaults = []) (hr:Room k callerA)
 (hY:∀(w:World) (h:Heap),YP w h->(K w.params).In h)
 (F:∀(w:World) (mg:Str->Option Value) (fa:Addr) (h:Heap),(K w.params).In h->h.Ns mainGlobals mg->mg d.name=some (.ref fa)->
  ∃fd:FuncData,(∀(s:Shared) (u:Value),BindsTo s fd ⟨[u],[]⟩ [(x,u)])/\
   ∀base:Heap,(K w.params).In base->base.Ns mainGlobals mg->FnOk l.prog w (K w.params) mg base (CX w) k fa fd [x] (sp w))
 (hsp:∀(w:World) (H:Hp) (a:Addr) (ns:List Int),ns.length<=n->Only H->SqL (K w.params) H a (ns.map V.int)->sp w [.ref a] H (fun v _=>v=.bl true) fun _ _ _=>False)
 (hCX:∀(w:World) (H:Hp) (s:Shared) (e:Value) (s':Shared),CX w [] H s (fun _ _ _=>False) e s'->False) :
 PySem.W.WalkO q loose XP YP l.row.toRowW d [] (fun f vs=>PySem.call f vs):=by
 refine Att.attach_call hn hdf fun w s₀ s₁ mg mb fa o pm cd doc a vs ns G Y ho hd hcd hmg hobj hints hlen hg=>?_
 have KX:=hY w _ Y
 obtain⟨fd,hb,hF⟩:=F w mg fa _ KX G.T.g hmg;exact zlA KX G.T.g G.T.b G.T.builtins G.T.nolimit hg hobj hints (waq hlen hn2) hr hF hb (fun H hO hS=>hsp w H a ns hlen hO hS) fun H e s'=>hCX w H s₁ e s'
theorem walk_ofK {l:PySem.W.OpenLaw}{n k:Nat}{q:Program}{loose:List Str}{XP:(Str->Option Value)->Heap->Prop}{YP:World->Heap->Prop}{d:DefRec}{K:Params->W.Frag}{CX:CXT}{sp:W.Frag->Sp}{x:Str}
 (hn:l.most=some n) (hn2:n<=sizeLine) (hdf:d.params.defaults = []) (hr:Room k callerA)
 (hY:∀(w:World) (h:Heap),YP w h->(K w.params).In h)
 (F:∀(w:World) (mg:Str->Option Value) (fa:Addr) (h:Heap),(K w.params).In h->h.Ns mainGlobals mg->mg d.name=some (.ref fa)->
  ∃fd:FuncData,(∀(s:Shared) (u:Value),BindsTo s fd ⟨[u],[]⟩ [(x,u)])/\
   ∀base:Heap,(K w.params).In base->base.Ns mainGlobals mg->FnOk l.prog w (K w.params) mg base CX k fa fd [x] (sp (K w.params)))
 (hsp:∀(K:W.Frag) (H:Hp) (a:Addr) (ns:List Int),ns.length<=n->Only H->SqL K H a (ns.map V.int)->sp K [.ref a] H (fun v _=>v=.bl true) fun _ _ _=>False)
 (hCX:∀(H:Hp) (s:Shared) (e:Value) (s':Shared),CX [] H s (fun _ _ _=>False) e s'->False) :
 PySem.W.WalkO q loose XP YP l.row.toRowW d [] (fun f vs=>PySem.call f vs):=
 zny (K:=K) (CX:=fun _=>CX) (sp:=fun w=>sp (K w.params)) hn hn2 hdf hr hY F (fun w H a ns h1 h2 h3=>hsp (K w.params) H a ns h1 h2 h3) fun _ H s e s'=>hCX H s e s'
def zdb (s:Stmt):Arguments:=match s with
 | .FunctionDef _ a _ _ _ _ _ _ _ _=>a
 | _=>{posonlyargs:=[],args:=[],vararg:=none,kwonlyargs:=[],kw_defaults:=[],kwarg:=none,defaults:=[]}
def zbv (s:Stmt):List Stmt:=match s with
 | .FunctionDef _ _ b _ _ _ _ _ _ _=>b
 | _=>[]
def zae (s:Stmt):Scope:=match s with
 | .FunctionDef _ _ _ _ _ _ sc _ _ _=>sc
 | _=>{kind:=.function,names:=[],isGenerator:=false,isCoroutine:=false}
abbrev CX0:CXT:=fun _ _ _ _ _ _=>False
abbrev E0:XK:=fun _ _ _=>False
theorem zqu {X:Cx}:zjB CX0 X E0:=fun _ _ _ _ _ _ _ h=>h.elim
structure Fun (K:W.Frag)(x qual:Str)(st:Stmt)(f:Addr)(fd:FuncData):Prop where
 ex:∃(oc:Value) (od:Option Addr) (kV doc pm:Value) (an:Option Addr) (cdv ct:Value) (osl:Array (Option Value)),
  fd=W.fnOf x qual (zdb st) (zbv st) (zae st) .none kV doc pm an cdv ct/\K.lookup f=some ⟨oc,od,.func fd,osl⟩ /\W.codeIn K cdv qual=true
 kp:W.keepIn K (.ref f)=true
section
variable {P:Program}{w:World}{K:W.Frag}{mg:Str->Option Value}{base:Heap}
theorem Fun.ok {x qual:Str}{st:Stmt}{f:Addr}{fd:FuncData}{N ps:List Str}{k:Nat}{sp:Sp}(F:Fun K x qual st f fd)(S:FnScope N ps (zae st))(len:∀vs H Q E,sp vs H Q E->vs.length=ps.length)
 (hbody:∀(cdv:Value) (A:Around) (outer:List Env) (s:Shared) (H:Hp) (vs:List V) (Q:VK) (E:XK),Room k (A.deeper (envOfC qual (zae st) s.heap.objs.size f cdv))->sp vs H Q E->
  ∃t,PSs (cxOf CX0 P w K mg base N qual (zae st) f cdv A outer s H E).nox (zbv st) t/\t {nx:=fun _ H'=>Q .non H',rt:=Q} (start N vs) H):FnOk P w K mg base CX0 (k+1) f fd ps sp:=by
 obtain⟨oc,od,kV,doc,pm,an,cdv,ct,osl,rfl,lk,hcd⟩:=F.ex;refine zqq lk hcd S len fun A outer s H vs Q E hr hsp=>?_
 obtain⟨t,h,q⟩:=hbody cdv A outer s H vs Q E hr hsp;exact⟨t,h.nox,q⟩
theorem Fun.binds {x qual:Str}{st:Stmt}{f:Addr}{fd:FuncData}{ps:List Str}(F:Fun K x qual st f fd)
 (h:∀(kV doc pm:Value) (an:Option Addr) (cdv ct:Value) (us:List Value),us.length=ps.length->bindArgs (W.fnOf x qual (zdb st) (zbv st) (zae st) .none kV doc pm an cdv ct) ⟨us,[]⟩=pure (ps.zip us)):Binds K fd ps []:=by
 obtain⟨oc,od,kV,doc,pm,an,cdv,ct,osl,rfl,lk,hcd⟩:=F.ex;exact .all (h kV doc pm an cdv ct)
theorem zmT {x qual:Str}{st:Stmt}{f:Addr}{oc:Value}{od an:Option Addr}{osl:Array (Option Value)}{kV doc pm cdv ct:Value}(l:K.lookup f=some ⟨oc,od,.func (W.fnOf x qual (zdb st) (zbv st) (zae st) .none kV doc pm an cdv ct),osl⟩)
 (c:W.codeIn K cdv qual=true) (k:W.keepIn K (.ref f)=true):Fun K x qual st f (W.fnOf x qual (zdb st) (zbv st) (zae st) .none kV doc pm an cdv ct):=⟨⟨oc,od,kV,doc,pm,an,cdv,ct,osl,rfl,l,c⟩,k⟩
end
theorem zem {A:Around}{k:Nat}(hr:Room k A):A.units+1<cLine:=wbe (Nat.add_le_add_left (by decide:1<=64) _) hr.units
section
variable {X:Cx}
theorem pv (i:Nat){x:Str}{pos:Pos}(hN:X.N[i]?=some x:=by rfl)(hv:Vis X.env.scope x:=by first | exact Or.inl rfl | exact Or.inr (Or.inl rfl) | exact Or.inr (Or.inr rfl))(hd:(x == ("__debug__" : Str))=false:=by decide)
 (hcd:(x == ("__classdict__" : Str))=false:=by decide):PE X (.Name x pos) (tVar i):=zb1 hN hv hd hcd
end
theorem iteF {A B:Prop}(h:B):if false=true then A else B:=by
 rw[if_neg waD];exact h
theorem iteT {A B:Prop}(h:A):if true=true then A else B:=by
 rw[if_pos rfl];exact h
def Same (H H':Hp):Prop:=∀b o,H b=some o->H' b=some o
theorem Same.refl (H:Hp):Same H H:=fun _ _ h=>h
theorem Same.trans {H H1 H2:Hp}(a:Same H H1)(b:Same H1 H2):Same H H2:=fun c o h=>b c o (a c o h)
theorem Same.free {H H':Hp}(e:Same H H'){l:Addr}(h:H' l=Option.none):H l=Option.none:=by
 cases q:H l with
 | none=>rfl
 | some o=>
   rw[e l o q] at h;cases h
theorem Same.seq {K:W.Frag}{H H':Hp}{a:Addr}{xs:List V}(e:Same H H')(h:SqL K H a xs):SqL K H' a xs:=by
 rcases h with(h | ⟨o,h⟩) | h
 ·exact .inl (.inl (e _ _ h))
 ·exact .inl (.inr ⟨o,e _ _ h⟩)
 ·exact .inr h
end L2
namespace L2
open PySem PySem.Spec PyProof PyProof.Rows
section
variable {X:Cx}{pins:List (Addr×Obj)}{σ:St}{H:Hp}{s:Shared}
end
section
variable {X:Cx}{a b c:Expr}{ta tb tc:TE}{pos:Pos}
def rSlS:V->Option Int->Option Int->Hp->VK->Prop:=fun x lo hi H Q=>∃z,x=.str z/\z.length<=sizeLine/\Q (.str (Txt.slice z lo hi)) H
theorem zmU:SlR X rSlS:=by
 intro pins s σ H x v vl vu lo hi sl Q I rx hs pl pu h;obtain⟨z,rfl,hz,q⟩:=h;obtain⟨t,rfl⟩:=rx;refine⟨"str",_,F.slot_str_getitem.lookup,typeIs_str _ _ _,?_⟩;obtain⟨o,e1,e2,e3⟩:=hs;cases pl with
 | none=>
   cases pu with
   | none=>exact wbG (l:=none) (u:=none) (st:=none) ⟨o,e1,e2,e3⟩ rfl (post_val_or_str ⟨waq (Txt.slice_le z _ _) hz,fun t' k=>⟨.str (Txt.slice z none none),H,I.tok _,⟨_,rfl⟩,q⟩⟩)
   | int j uj=>exact wbG (l:=none) (u:=some (j,uj)) (st:=none) ⟨o,e1,e2,e3⟩ rfl (post_val_or_str ⟨waq (Txt.slice_le z _ _) hz,fun t' k=>⟨.str (Txt.slice z none (some j)),H,I.tok _,⟨_,rfl⟩,q⟩⟩)
 | int i ui=>
   cases pu with
   | none=>exact wbG (l:=some (i,ui)) (u:=none) (st:=none) ⟨o,e1,e2,e3⟩ rfl (post_val_or_str ⟨waq (Txt.slice_le z _ _) hz,fun t' k=>⟨.str (Txt.slice z (some i) none),H,I.tok _,⟨_,rfl⟩,q⟩⟩)
   | int j uj=>exact wbG (l:=some (i,ui)) (u:=some (j,uj)) (st:=none) ⟨o,e1,e2,e3⟩ rfl (post_val_or_str ⟨waq (Txt.slice_le z _ _) hz,fun t' k=>⟨.str (Txt.slice z (some i) (some j)),H,I.tok _,⟨_,rfl⟩,q⟩⟩)
theorem zhA {z:Str}{n:Int}(h1:-1000<=n)(h2:n<=1000)(h3:z.length<=1000):MulOk z n:=by
 refine⟨?_,fun h _=>?_,fun h _=>?_⟩
 ·have e1:¬n < -(2 ^ 63:Int):=by omega
  have e2:¬n≥2 ^ 63:=by omega
  rw[waw e1,waw e2];rfl
 ·have:(1000:Int)<=(2 ^ 63 - 1) / n:=by
   rw[Int.le_ediv_iff_mul_le (by omega)];omega
  omega
 ·have h4:z.length*n.toNat<=1000*1000:=Nat.mul_le_mul h3 (by omega)
  unfold PySem.Builtin.Str.tooLong;simp only[decide_eq_false_iff_not];have:sizeLine=16777216:=sizeLine_eq
  omega
theorem op_rep_str:OpR X (binaryOp .Mult) (fun x y H Q=>∃z n,x=.str z/\y=.int n/\-1000<=n/\n<=1000/\z.length<=1000/\Q (.str (Txt.mul z n)) H):=by
 intro pins s σ H x y v u Q I rx ry h;obtain⟨z,n,rfl,rfl,h1,h2,h3,q⟩:=h;obtain⟨t,rfl⟩:=rx;obtain⟨t',rfl⟩:=ry;exact SB.mul (zhA h1 h2 h3) fun t' k=>⟨.str (Txt.mul z n),H,I.tok _,⟨_,rfl⟩,q⟩
end
theorem ObjOk.there {P:Program}{w:World}{H:Hp}{h:Heap}{a:Addr}{o:HO}(x:ObjOk P w H h a o):∃ob,h.get? a=some ob:=by
 induction o with
 | lst xs=>obtain⟨z,its,n,r,e⟩:=x;exact⟨_,e⟩
 | tup xs=>obtain⟨z,its,r,ob,e,c⟩:=x;exact⟨_,e⟩
 | dK kvs=>obtain⟨z,y,vs,r,ob,es,ep,e,c⟩:=x;exact⟨_,e⟩
 | dT kvs=>obtain⟨z,y,xs,r,ob,es,ep,e,c⟩:=x;exact⟨_,e⟩
 | set S n=>obtain⟨ob,es,ep,t,e,c⟩:=x;exact⟨_,e⟩
 | ins C dx fs=>obtain⟨d,z,ne,e,_⟩:=x;exact⟨_,e⟩
 | own y=>exact x
 | xd fs=>obtain⟨mA,⟨od,es,ep,e,c⟩,r⟩:=x;exact⟨_,e⟩
 | rng lo hi=>obtain⟨t,u,v,e⟩:=x;exact⟨_,e⟩
 | frz ob u ih=>exact⟨_,x.1⟩
 | tbl ps=>obtain⟨_,e,_⟩:=x;exact⟨_,e⟩
 | met f y=>exact⟨_,x⟩
 | ext φ=>exact x.2.1
section
variable {P:Program}{w:World}{K:W.Frag}{mg:Str->Option Value}{base:Heap}
end
def PTs (X:Cx)(ifs:List Expr)(t:TT):Prop:=
 ∀(pins:List (Addr×Obj)) (s:Shared) (σ:St) (H:Hp) (Q:Bool->Hp->Prop),Inv X pins σ H s->t σ H Q->
  wpAny (model X.prog X.w) X.A (forIn ifs true fun c r=>if r=true then do let ok <-isTrue c X.env (eval c X.env);pure (ForInStep.yield ok) else pure (ForInStep.yield r)) (TP X pins σ Q) X.xe s
def znz:TT:=fun _ H Q=>Q true H
theorem zjL {X:Cx}:PTs X [] znz:=fun _ _ _ H _ I h=>wpAny_tests_nil ⟨H,I,h⟩
def cxC (X:Cx)(scope:Scope)(cl:List (Str×Addr))(NC:List Str)(C:Addr)(s0:Shared)(H0:Hp)(ex:List Addr)(pn:List (Addr×Obj)):Cx where
 prog:=X.prog
 w:=X.w
 K:=X.K
 mg:=X.mg
 base:=X.base
 A:=X.A
 N:=NC
 s₀:=s0
 Hz:=H0
 env:=compEnvC scope cl C X.env
 outer:=X.stack
 stack:=X.stack
 ex:=ex
 fn:=fun _=>false
 calm:=true
 pn:=pn
 xe:=fun _ _=>False
def pick (σ:St)(fr:List (Option Nat)):St:=fr.map fun o=>o.bind fun j=>(σ[j]?).join
theorem zjM {prog:Program}{w:World}{A:Around}{R:Result->Shared->Prop}{s:Shared}{elt target iter:Expr}{ifs:List Expr}{scope:Scope}{pos:Pos}{it acc:Value}{env:Env}(I:Nat->Shared->Prop)
 (turn:∀n s,I n s->wpAny (model prog w) A (pyNext it) (fun r s1=>
  (r=none->R (.ok .next) s1)/\∀v,r=some v->wpAny (model prog w) A (letOwnedTupleGo target it v) (fun _ s2=>wpAny (model prog w) A (assign target env v) (fun _ s3=>
   wpAny (model prog w) A (forIn ifs true fun c r=>if r=true then do let ok <-isTrue c env (eval c env);pure (ForInStep.yield ok) else pure (ForInStep.yield r)) (fun ok s4=>
    (ok=true->wpAny (model prog w) A (eval elt env) (fun x s5=>wpAny (model prog w) A (call (.builtin "list.append") [acc,x]) (fun _ s6=>∃m,m<n/\I m s6) (fun _ _=>False) s5) (fun _ _=>False) s4)/\
    (ok=false->∃m,m<n/\I m s4)) (fun _ _=>False) s3) (fun _ _=>False) s2) (fun _ _=>False) s1) (fun _ _=>False) s)
 (n:Nat) (h:I n s):codeAny (model prog w) A (.compLoop (.ListComp elt [⟨target,iter,ifs,0⟩] scope pos) 0 it acc env) R s:=by
 refine codeAny_loop rfl I (fun n s hI=>?_) n h;refine wpAny_noted (m:=compTurn (.ListComp elt [⟨target,iter,ifs,0⟩] scope pos) 0 it acc env) ?_;rw[compTurn_list];refine wad (wpAny_standAt (wad (wbu (turn n s hI) (fun r s1 h1=>?_) fun _ _ f=>f.elim)));cases r with
 | none=>exact waz (h1.1 rfl)
 | some v=>
   refine wad (wbu (h1.2 v rfl) (fun _ s2 h2=>?_) fun _ _ f=>f.elim);refine wad (wbu h2 (fun _ s3 h3=>?_) fun _ _ f=>f.elim);refine wad (wbu h3 (fun ok s4 h4=>?_) fun _ _ f=>f.elim);cases ok with
   | false=>exact waz ⟨rfl,h4.2 rfl⟩
   | true=>exact wad (wad (wbu (h4.1 rfl) (fun x s5 h5=>wad (wbu h5 (fun _ s6 h6=>waz (waz ⟨rfl,h6⟩)) fun _ _ f=>f.elim)) fun _ _ f=>f.elim))
def tGen {τ:Type}(ac:τ->HO)(t0:τ)(fr:List (Option Nat))(wi:TI)(g:TG)(tt:TT)(tel:Addr->τ->St->Hp->(τ->Hp->Prop)->Prop):TE:=fun σ H Q=>wi σ H fun J H1=>∀D,H1 D=none->∃W:Nat->Nat->τ->St->Hp->Prop,
 (∃m,W 0 m t0 (pick σ fr) (upd H1 D (ac t0)))/\∀i m ys σ2 H2,W i m ys σ2 H2->H2 D=some (ac ys)->
  (J.stop i H2/\Q (.ref D) H2)\/(J.go i H2/\∃N:τ->St->Hp->Prop,(∀zs σ' H',N zs σ' H'->∃m',m'<m/\W (i+1) m' zs σ' H')/\∀x H3,J.yld i H2 x H3->g x σ2 H3 fun σ4 H4=>tt σ4 H4 fun ok H5=>
   (ok=true->tel D ys σ4 H5 fun zs H6=>N zs σ4 H6)/\
   (ok=false->H5 D=some (ac ys)/\N ys σ4 H5))
def telL (te:TE)(D:Addr)(ys:List V)(σ:St)(H:Hp)(Q:List V->Hp->Prop):Prop:=te σ H fun v H6=>H6 D=some (.lst ys)/\ys.length<sizeLine/\Q (ys++[v]) (upd H6 D (.lst (ys++[v])))
def zgJ (fr:List (Option Nat))(wi:TI)(g:TG)(tt:TT)(te:TE):TE:=tGen HO.lst [] fr wi g tt (telL te)
abbrev ElR:=Env->Addr->(Shared->Prop)->Shared->Prop
def zqv (P:Program)(w:World)(A:Around)(cexp tg:Expr)(ifs:List Expr)(EL:ElR):Prop:=∀{R:Result->Shared->Prop}{s:Shared}{it:Value}{D:Addr}{env:Env}(I:Nat->Shared->Prop)
    (_:∀n s,I n s->wpAny (model P w) A (pyNext it) (fun r s1=>
     (r=none->R (.ok .next) s1)/\∀v,r=some v->wpAny (model P w) A (letOwnedTupleGo tg it v) (fun _ s2=>wpAny (model P w) A (assign tg env v) (fun _ s3=>
      wpAny (model P w) A (forIn ifs true fun c r=>if r=true then do let ok <-isTrue c env (eval c env);pure (ForInStep.yield ok) else pure (ForInStep.yield r)) (fun ok s4=>
       (ok=true->EL env D (fun s6=>∃m,m<n/\I m s6) s4)/\
       (ok=false->∃m,m<n/\I m s4)) (fun _ _=>False) s3) (fun _ _=>False) s2) (fun _ _=>False) s1) (fun _ _=>False) s)
    (n:Nat) (_:I n s),codeAny (model P w) A (.compLoop cexp 0 it (.ref D) env) R s
def zpf (P:Program)(w:World)(A:Around)(cexp:Expr):Prop:=∀{R:Result->Shared->Prop}{s:Shared}{it acc:Value}{env:Env},codeAny (model P w) A (.compLoop cexp 0 it acc env) R s->
    wpAny (model P w) A (pyIter it) (fun it' s'=>codeAny (model P w) A (.compLoop cexp 0 it' acc env) R s') (notedBy (model P w) A env fun x s'=>R (.error x) s') s->codeAny (model P w) A (.compStart cexp 0 it acc env) R s
theorem zlB {X:Cx}{τ:Type}{ac:τ->HO}{t0:τ}{Tn:String}{dt:Data}{cexp:Expr}{EL:ElR}{tel:Addr->τ->St->Hp->(τ->Hp->Prop)->Prop}{use:Option (Value->Sem Unit)}{R:Value->Shared->Prop}{pins:List (Addr×Obj)}{s:Shared}{σ:St}{H:Hp}{Q:VK}{cpos:Pos}{iter tg:Expr}{ifs:List Expr}{scope:Scope}{cl:List (Str×Addr)}{NC:List Str}{fr:List (Option Nat)}{wi:TI}{g:TG}{tt:TT}{RR:Hp->Prop}(hRR:∀pins σ H s,Inv X pins σ H s->RR H)(hcalm:X.calm=true)(hi:PI X tg iter wi)
 (hclos:closureFor scope X.env=pure cl) (hcell:∀y∈scope.names,y.2≠.cell) (hkind:scope.kind=.function) (hnames:∀y∈scope.names,y.2=.local->scope.names.lookup y.1=some .local)
 (hcl:∀x c,cl.lookup x=some c->X.env.cells.lookup x=some c)
 (hhas:∀x,((compEnvC scope cl 0 X.env).kindOf x=some .cell\/(compEnvC scope cl 0 X.env).kindOf x=some .free)->∃c,cl.lookup x=some c)
 (hfr:∀(i:Nat) (x:Str) (j:Nat),NC[i]?=some x->fr[i]?=some (some j)->X.N[j]?=some x/\Vis X.env.scope x/\X.env.kindOf x≠some .local/\((compEnvC scope cl 0 X.env).kindOf x=some .cell\/(compEnvC scope cl 0 X.env).kindOf x=some .free))
 (hlen:fr.length=NC.length)
 (hg:∀C s0 H0 ex pn,PG (cxC X scope cl NC C s0 H0 ex pn) tg g) (ht:∀C s0 H0 ex pn,PTs (cxC X scope cl NC C s0 H0 ex pn) ifs tt) (hcls:clausesOf cexp = [⟨tg,iter,ifs,0⟩]) (hd:sizeOk dt)
 (hob:∀{pins σ H H' s},Inv X pins σ H s->ObjOk X.prog X.w H' (s.heap.push {cls:=.type Tn,dict:=none,data:=dt}) s.heap.objs.size (ac t0)) (LP:zqv X.prog X.w X.A cexp tg ifs EL) (SR:zpf X.prog X.w X.A cexp)
 (hel:∀C s0 H0 ex pn,RR H0->∀(pins:List (Addr×Obj)) (D:Addr) (ys:τ) (s:Shared) (σ:St) (H:Hp) (Po:Shared->Prop) (F:τ->Hp->Prop),Inv (cxC X scope cl NC C s0 H0 ex pn) pins σ H s->tel D ys σ H F->
  (∀s' zs H',Inv (cxC X scope cl NC C s0 H0 ex pn) pins σ H' s'->H' D=some (ac zs)->F zs H'->Po s')->EL (compEnvC scope cl C X.env) D Po s)
 (hs:∀x,foldedSetIterable iter X.env x=pure x) (I:Inv X pins σ H s) (h:tGen ac t0 fr wi g tt tel σ H Q)
 (hfin:∀(C D:Addr) (H':Hp) (s':Shared) (m:Str->Option Value),Inv X pins σ H' s'->s'.heap.Ns C m->FpOk X pins H' C->Q (.ref D) H'->compPost (model X.prog X.w) X.A X.xe use R (.ref D) C (.ok .next) s') :
 wpAny (model X.prog X.w) X.A (comprehension cexp scope X.env cpos (newObj (.type Tn) dt none) false (eval iter X.env) use) R X.xe s:=by
 refine wpAny_comprehension_free (use:=use) (g:=⟨tg,iter,ifs,0⟩) (gs:=[]) hcls hs hclos hkind hnames (thn (hi pins s σ H _ I h) fun v s1 h1=>thn h1 fun itv s2 h2=>?_);obtain⟨it,fp,tn,J,H1,e,I2,T,st2,f2,hW⟩:=h2;subst e;refine wbi (wpAny_newFunctionEnv hcell (by intro y hy;simp at hy) (fun h4 hn4 hs4=>?_) hkind) hd;have hD0:H1 s2.heap.objs.size=none:=I2.hok.fresh (wae _)
 obtain⟨W,⟨m0,w0⟩,turn⟩:=hW s2.heap.objs.size hD0;generalize hDe:s2.heap.objs.size=D at hD0 w0 turn;generalize h3e:s2.heap.push {cls:=.type Tn,dict:=none,data:=dt}=h3 at hn4 hs4;have sz3:h3.objs.size=D+1:=by rw[<-h3e,wcI,hDe]
 have k3:∀b o,s2.heap.get? b=some o->h3.get? b=some o:=fun b o e=>by rw[<-h3e];exact wah _ e
 have ltD:∀{b:Addr}{o:Obj},s2.heap.get? b=some o->b<D:=fun e=>by rw[<-hDe];exact wax e
 have I3:Inv X pins σ (upd H1 D (ac t0)) {s2 with heap:=h3}:=I2.laid (h':=h3) (t':=s2.toks) k3 (wcu hDe) (by rw[<-h3e,<-hDe];exact hob I2)
 have rH:=hRR _ _ _ _ I3
 generalize hCe:h3.objs.size=C at hn4 hs4;have k4:∀b o,h3.get? b=some o->h4.get? b=some o:=fun b o e=>hs4.extBut b o (fun z=>by rw[z,<-hCe] at e;exact absurd (wax e) (waQ _)) (wah _ e)
 have ltC:∀{b:Addr}{o:Obj},h3.get? b=some o->b<C:=fun e=>by rw[<-hCe];exact wax e
 have hne:∀(c:Env->Addr),True:=fun _=>trivial
 have okC:(cxC X scope cl NC C {s2 with heap:=h3} (upd H1 D (ac t0)) fp (X.pn++pins)).Ok:=by
  refine⟨I.ok.mod,?_,I.ok.glob,I.ok.blt,wcu hCe,fun x y c h1 h2=>I.ok.inj x y c (hcl x c h1) (hcl y c h2),fun x hx=>hhas x hx,fun x c hf _=>(by cases hf),fun _=>I.ok.hd hcalm,I.ok.frames,.inl rfl,fun b hb=>⟨?_,fun x c e=>?_⟩,fun b o e=>I3.bs b o e,?_,fun b o e hb=>?_,fun b hb hf=>?_,?_,fun b hb=>I3.stkFree b hb⟩
  ·show(relabel scope X.env).kind=.function
   exact hkind
  ·obtain⟨o,eo,_⟩:=T.obj _ _ st2 b hb;exact waL (ltC (k3 b o eo))
  ·exact(f2 b hb).2.2.2.2.1 x c (hcl x c e)
  ·exact waq I.ok.bsz I3.sz
  ·obtain⟨e1,_⟩:=I.ok.bs b o e;have f:=f2 b hb
   rcases f.2.2.2.1 with z | z
   ·exact I.ok.noex b o e z
   ·exact absurd (wan (wax e1) z) (waQ _)
  ·rcases was.mp (I2.stkSub b hf) with z | z
   ·exact(f2 b hb).2.1 z
   ·exact(f2 b hb).2.2.1 z
  ·exact I3.stack
 have IC:Inv (cxC X scope cl NC C {s2 with heap:=h3} (upd H1 D (ac t0)) fp (X.pn++pins)) [] (pick σ fr) (upd H1 D (ac t0)) {s2 with heap:=h4,toks:=s2.toks+([]:List (Str×Value)).length}:=by
  refine⟨okC,rfl,I2.bare,Un.kept k4,⟨_,hn4,fun i x v hN hv hvis=>?_⟩,fun x c e=>?_,?_,fun x c e=>I3.freeC x c (hcl x c e),fun p hp=>?_,I3.hok.kept k4,?_⟩
  ·have hfi:∃j,fr[i]?=some (some j)/\σ[j]?=some (some v):=by
    unfold pick at hv;rw[wag] at hv;cases e1:fr[i]? with
    | none=>rw[e1] at hv;cases hv
    | some o=>
      rw[e1] at hv;cases o with
      | none=>cases hv
      | some j=>
        refine⟨j,rfl,?_⟩;have hv':(σ[j]?).join=some v:=wau hv
        cases e2:σ[j]? with
        | none=>rw[e2] at hv';cases hv'
        | some w'=>rw[e2] at hv';exact wbg some hv'
   obtain⟨j,hj,hσ⟩:=hfi;obtain⟨q1,q2,q3,q4⟩:=hfr i x j hN hj;obtain⟨m,hm,hl⟩:=I3.loc;obtain⟨u,ru,lk⟩:=hl j x v q1 hσ q2;refine⟨u,ru,?_⟩;rcases lk with⟨z,_⟩ | ⟨_,c,ec,ic⟩
   ·exact absurd z q3
   ·obtain⟨c',ec'⟩:=hhas x q4;have:c'=c:=by rw[hcl x c' ec'] at ec;exact wau ec
    subst this;obtain⟨oc,h1,h2⟩:=ic;exact .inr ⟨q4,c',ec',oc,k4 _ _ h1,h2⟩
  ·obtain⟨v,oc,h1,h2⟩:=I3.cell x c (hcl x c e);exact⟨v,oc,k4 _ _ h1,h2⟩
  ·show upd H1 D (ac t0) C=none
   exact I3.hok.fresh (wcu hCe)
  ·have hp':p∈X.pn++pins:=by simpa[cxC] using hp
   obtain⟨e1,e2,e3,e4,e5⟩:=I3.pin p hp';refine⟨k4 _ _ e1,e2,waL (ltC e1),fun z=>?_,e5⟩;rcases was.mp (I2.stkSub p.1 z) with z' | z'
   ·exact e3 z'
   ·exact e4 z'
  ·unfold pick;rw[wao];exact hlen
 have fC:∀b∈fp,FpOk (cxC X scope cl NC C {s2 with heap:=h3} (upd H1 D (ac t0)) fp (X.pn++pins)) [] H1 b:=fun b hb=>by
  obtain⟨q1,q2,q3,q4,q5,q6⟩:=f2 b hb;obtain⟨o,eo,_⟩:=T.obj _ _ st2 b hb;refine⟨q1,waL (ltC (k3 b o eo)),fun z=>?_,.inl hb,fun x c e=>q5 x c (hcl x c e),fun p hp=>q6 p (by simpa[cxC] using hp)⟩;rcases was.mp (I2.stkSub b z) with z' | z'
  ·exact q2 z'
  ·exact q3 z'
 have stat:∀{H':Hp},(∀b∈fp,H' b=none)->∀b∈fp,FpOk (cxC X scope cl NC C {s2 with heap:=h3} (upd H1 D (ac t0)) fp (X.pn++pins)) [] H' b:=fun hn b hb=>⟨hn b hb,(fC b hb).2⟩
 have fD:∀b∈fp,b≠D:=fun b hb z=>by
  obtain⟨o,eo,_⟩:=T.obj _ _ st2 b hb;have:=ltD eo
  rw[z] at this;exact absurd this (waQ _)
 have st4:tn 0 h4:=T.keep _ _ _ st2 fun b hb o e=>k4 b o (k3 b o e)
 have fin:∀{σ':St}{H':Hp}{s':Shared},Inv (cxC X scope cl NC C {s2 with heap:=h3} (upd H1 D (ac t0)) fp (X.pn++pins)) [] σ' H' s'->Q (.ref D) H'->compPost (model X.prog X.w) X.A X.xe use R (.ref D) C (.ok .next) s':=fun {σ' H' s'} I' q'=>by
  obtain⟨m,hm,_⟩:=I'.loc;have hfp:FpOk X pins H' C:=⟨I'.free,(I3.fpOk (wcu hCe) (I3.hok.fresh (wcu hCe))).2⟩
  refine hfin C D H' s' m ?_ hm hfp q';have nC:∀{b:Addr}{o:Obj},s2.heap.get? b=some o->b≠C:=fun e=>waL (ltC (k3 _ _ e))
  have nD:∀{b:Addr}{o:Obj},s2.heap.get? b=some o->b≠D:=fun e=>waL (ltD e)
  refine I2.call' (s':=s') (ch:=fp) ?_ ⟨fun b o e n hf hx=>?_,fun b o e n hf hx=>?_,fun b o e n hx=>?_,fun b o e hx=>?_,fun b xs e=>?_,fun b o u e=>?_,fun b ps e=>?_⟩ (fun b u e=>?_) I'.bare fun b hb=>?_
  ·exact I'.os
  ·exact(I'.base.keep b o (k3 b o e) (by show upd H1 D _ b=none;rw[zak (nD e)];exact n) hf hx)
  ·obtain⟨sl,z⟩:=I'.base.slot b o (k3 b o e) (by show upd H1 D _ b=none;rw[zak (nD e)];exact n) hf hx;exact⟨sl,z⟩
  ·exact I'.base.free b o (k3 b o e) (by show upd H1 D _ b=none;rw[zak (nD e)];exact n) hx
  ·obtain⟨o',z⟩:=I'.base.there b o (k3 b o e) hx;exact⟨o',z⟩
  ·exact I'.base.tups b xs (by show upd H1 D _ b=_;rw[zak (za5 e hD0)];exact e)
  ·exact I'.base.frzs b o u (by show upd H1 D _ b=_;rw[zak (za5 e hD0)];exact e)
  ·exact I'.base.tbls b ps (by show upd H1 D _ b=_;rw[zak (za5 e hD0)];exact e)
  ·exact I'.hok b u e
  ·obtain⟨q1,q2,q3,q4,q5,q6⟩:=f2 b hb;exact⟨q4,q2,q5,q6⟩
 have loop:codeAny (model X.prog X.w) X.A (.compLoop cexp 0 (.ref it) (.ref D) (compEnvC scope cl C X.env)) (compPost (model X.prog X.w) X.A X.xe use R (.ref D) C) {s2 with heap:=h4,toks:=s2.toks+([]:List (Str×Value)).length}:=by
  refine LP (fun n s'=>∃i ys σ' H',Inv (cxC X scope cl NC C {s2 with heap:=h3} (upd H1 D (ac t0)) fp (X.pn++pins)) [] σ' H' s'/\tn i s'.heap/\(∀b∈fp,H' b=none)/\H' D=some (ac ys)/\W i n ys σ' H') ?_ m0 ⟨0,t0,_,_,IC,st4,fun b hb=>by rw[zak (fD b hb)];exact(f2 b hb).1,zah,w0⟩;rintro n s3 ⟨i,ys,σ3,H3,J3,st3,fr3,hD3,w3⟩;rcases turn i n ys σ3 H3 w3 hD3 with⟨stop,qn⟩ | ⟨go,N,hN,step⟩
  ·refine thn (T.done (cxC X scope cl NC C {s2 with heap:=h3} (upd H1 D (ac t0)) fp (X.pn++pins)) rfl rfl rfl rfl i [] s3 σ3 H3 _ J3 (stat fr3) st3 stop) fun r s4 ⟨hr,J4⟩ =>⟨fun _=>fin J4 qn,fun v z=>?_⟩
   rw[hr] at z;cases z
  ·refine thn (T.item (cxC X scope cl NC C {s2 with heap:=h3} (upd H1 D (ac t0)) fp (X.pn++pins)) rfl rfl rfl rfl i [] s3 σ3 H3 _ J3 (stat fr3) st3 go) fun r s4 ⟨u,hr,h4'⟩ =>⟨fun z=>?_,fun v z=>?_⟩
   ·rw[hr] at z;cases z
   rw[hr] at z;cases z;refine thn h4' fun _ s5 ⟨x,H5,J5,r5,y5,st5,fr5⟩ =>?_
   have J5':=J5.pinned (stat fr5) (T.obj _ _ st5)
   refine thn (hg C _ _ fp _ _ s5 σ3 H5 x _ _ J5' r5 (step x H5 y5)) fun _ s6 ⟨σ6,H6,J6,q6⟩ =>?_
   have back:∀{σ7:St}{H7:Hp}{s7:Shared},Inv (cxC X scope cl NC C {s2 with heap:=h3} (upd H1 D (ac t0)) fp (X.pn++pins)) ([]++zgw fp s5.heap) σ7 H7 s7->tn (i+1) s7.heap/\∀b∈fp,H7 b=none:=fun {σ7 H7 s7} J7=>
    ⟨T.keep _ _ _ st5 fun b hb o e=>(J7.pin (b,o) (waE _ (waE _ (zcY hb e)))).1,fun b hb=>by
     obtain⟨o,e,d⟩:=T.obj _ _ st5 b hb;exact(J7.pin (b,o) (waE _ (waE _ (zcY hb e)))).2.1⟩
   refine thn (ht C _ _ fp _ _ s6 σ6 H6 _ J6 q6) fun ok s7 ⟨H7,J7,q7⟩ =>⟨fun hok=>?_,fun hok=>?_⟩
   ·refine hel C _ _ fp _ rH _ D ys s7 σ6 H7 _ _ J7 (q7.1 hok) fun s9 zs H9 J9 hD9 n9=>?_
    obtain⟨m',hm,w8⟩:=hN _ _ _ n9;obtain⟨b1,b2⟩:=back J9;exact⟨m',hm,i+1,_,_,_,J9.unpinned,b1,b2,hD9,w8⟩
   ·obtain⟨hD7,n7⟩:=q7.2 hok;obtain⟨m',hm,w7⟩:=hN _ _ _ n7;obtain⟨b1,b2⟩:=back J7;exact⟨m',hm,i+1,_,_,_,J7.unpinned,b1,b2,hD7,w7⟩
 exact SR loop (T.self X.A 0 _ _ _ st4 loop)
theorem zim {X:Cx}{use:Option (Value->Sem Unit)}{R:Value->Shared->Prop}{pins:List (Addr×Obj)}{s:Shared}{σ:St}{H:Hp}{Q:VK}{cpos:Pos}{elt iter tg:Expr}{ifs:List Expr}{scope:Scope}{pos:Pos}{cl:List (Str×Addr)}{NC:List Str}{fr:List (Option Nat)}{wi:TI}{g:TG}{tt:TT}{te:TE}{RR:Hp->Prop}(hRR:∀pins σ H s,Inv X pins σ H s->RR H)(hcalm:X.calm=true)(hi:PI X tg iter wi)
 (hclos:closureFor scope X.env=pure cl) (hcell:∀y∈scope.names,y.2≠.cell) (hkind:scope.kind=.function) (hnames:∀y∈scope.names,y.2=.local->scope.names.lookup y.1=some .local)
 (hcl:∀x c,cl.lookup x=some c->X.env.cells.lookup x=some c)
 (hhas:∀x,((compEnvC scope cl 0 X.env).kindOf x=some .cell\/(compEnvC scope cl 0 X.env).kindOf x=some .free)->∃c,cl.lookup x=some c)
 (hfr:∀(i:Nat) (x:Str) (j:Nat),NC[i]?=some x->fr[i]?=some (some j)->X.N[j]?=some x/\Vis X.env.scope x/\X.env.kindOf x≠some .local/\((compEnvC scope cl 0 X.env).kindOf x=some .cell\/(compEnvC scope cl 0 X.env).kindOf x=some .free))
 (hlen:fr.length=NC.length)
 (hg:∀C s0 H0 ex pn,PG (cxC X scope cl NC C s0 H0 ex pn) tg g) (ht:∀C s0 H0 ex pn,PTs (cxC X scope cl NC C s0 H0 ex pn) ifs tt) (he:∀C s0 H0 ex pn,RR H0->PE (cxC X scope cl NC C s0 H0 ex pn) elt te)
 (hs:∀x,foldedSetIterable iter X.env x=pure x) (I:Inv X pins σ H s) (h:zgJ fr wi g tt te σ H Q)
 (hfin:∀(C D:Addr) (H':Hp) (s':Shared) (m:Str->Option Value),Inv X pins σ H' s'->s'.heap.Ns C m->FpOk X pins H' C->Q (.ref D) H'->compPost (model X.prog X.w) X.A X.xe use R (.ref D) C (.ok .next) s') :
 wpAny (model X.prog X.w) X.A (comprehension (.ListComp elt [⟨tg,iter,ifs,0⟩] scope pos) scope X.env cpos (newList []) false (eval iter X.env) use) R X.xe s:=by
 refine zlB (Tn:="list") (dt:=.seq ([]:List Value).toArray) (ac:=HO.lst) (t0:=[]) (tel:=telL te) (EL:=fun env D Q s=>wpAny (model X.prog X.w) X.A (eval elt env) (fun x s5=>wpAny (model X.prog X.w) X.A (call (.builtin "list.append") [.ref D,x]) (fun _ s6=>Q s6) (fun _ _=>False) s5) (fun _ _=>False) s)
  hRR hcalm hi hclos hcell hkind hnames hcl hhas hfr hlen hg ht rfl (by size_fits) (fun I=>⟨wbj _,[],0,.nil,waA _ rfl⟩) (fun I turn n h=>zjM I turn n h) (fun a b=>codeAny_compStart_list (rest:=[]) a b) (fun C s0 H0 ex pn rH pins D ys s σ H Po F J q k=>?_) hs I h hfin
 refine thn (he C _ _ _ _ rH _ s σ H _ J q) fun xv s8 ⟨v,H8,J8,r8,hD8,hz,n8⟩ =>?_
 refine thn (zgH (X:=cxC X scope cl NC C s0 H0 ex pn) _ s8 σ H8 (.ref D) [v] (.ref D) [xv] (fun _ H9=>H9=upd H8 D (.lst (ys++[v]))) J8 rfl (.cons r8 .nil) ⟨D,ys,v,rfl,rfl,hD8,hz,rfl⟩) fun _ s9 ⟨_,H9,J9,_,e9⟩ =>?_
 subst e9;exact k s9 _ _ J9 zah n8
theorem zlC {X:Cx}{elt iter tg:Expr}{ifs:List Expr}{scope:Scope}{pos:Pos}{cl:List (Str×Addr)}{NC:List Str}{fr:List (Option Nat)}{wi:TI}{g:TG}{tt:TT}{te:TE}{RR:Hp->Prop}(hRR:∀pins σ H s,Inv X pins σ H s->RR H)(hcalm:X.calm=true)(hi:PI X tg iter wi)
 (hclos:closureFor scope X.env=pure cl) (hcell:∀y∈scope.names,y.2≠.cell) (hkind:scope.kind=.function) (hnames:∀y∈scope.names,y.2=.local->scope.names.lookup y.1=some .local)
 (hcl:∀x c,cl.lookup x=some c->X.env.cells.lookup x=some c)
 (hhas:∀x,((compEnvC scope cl 0 X.env).kindOf x=some .cell\/(compEnvC scope cl 0 X.env).kindOf x=some .free)->∃c,cl.lookup x=some c)
 (hfr:∀(i:Nat) (x:Str) (j:Nat),NC[i]?=some x->fr[i]?=some (some j)->X.N[j]?=some x/\Vis X.env.scope x/\X.env.kindOf x≠some .local/\((compEnvC scope cl 0 X.env).kindOf x=some .cell\/(compEnvC scope cl 0 X.env).kindOf x=some .free))
 (hlen:fr.length=NC.length)
 (hg:∀C s0 H0 ex pn,PG (cxC X scope cl NC C s0 H0 ex pn) tg g) (ht:∀C s0 H0 ex pn,PTs (cxC X scope cl NC C s0 H0 ex pn) ifs tt) (he:∀C s0 H0 ex pn,RR H0->PE (cxC X scope cl NC C s0 H0 ex pn) elt te)
 (hs:∀x,foldedSetIterable iter X.env x=pure x:=by intro _;rfl):PE X (.ListComp elt [⟨tg,iter,ifs,0⟩] scope pos) (zgJ fr wi g tt te):=by
 intro pins s σ H Q I h;rw[eval_ListComp];refine zim (use:=none) (R:=EP X pins σ Q) hRR hcalm hi hclos hcell hkind hnames hcl hhas hfr hlen hg ht he hs I h fun C D H' s' m I' hm hfp q=>?_
 obtain⟨f0,f1,f2,f3,f4,f5⟩:=hfp;exact⟨m,hm,fun h' hs'=>⟨.ref D,H',I'.turned (t':=s'.toks) (fun b o hb e=>hs'.extBut b o hb e) f0 f1 f3 f4 f5,rfl,q⟩⟩
theorem pgC (i:Nat){X:Cx}{scope:Scope}{cl:List (Str×Addr)}{NC:List Str}{C:Addr}{s0:Shared}{H0:Hp}{ex:List Addr}{pn:List (Addr×Obj)}{x:Str}{pos:Pos}(nd:NC.Nodup)(hi:NC[i]?=some x)(hx:scope.names.lookup x=some .local) :
 PG (cxC X scope cl NC C s0 H0 ex pn) (.Name x pos) (zeL i):=zjs (X:=cxC X scope cl NC C s0 H0 ex pn) nd hi (.inl (lookup_relabel_local hx)) (.inr (lookup_relabel_local hx))
end L2
namespace En
open PySem
open AutoSeq1 (wpAny_loadPart')
section
variable {prog:Program}{w:World}{A:Around}{E:Value->Shared->Prop}{s:Shared}
theorem znA {it t:Addr}{i:Nat}{items:Array Value}{x:Value}{Q:Value->Shared->Prop}(a1:s.heap.IsTupleIter it t i)(a2:s.heap.IsTuple t items)(a3:items[i]?=some x)
 (q:∀h',h'.IsTupleIter it t (i+1)->Heap.SameBut it s.heap h'->Q x {s with heap:=h'}):wpAny (model prog w) A (Builtin.SmallTypes.nextOf (.ref it)) Q E s:=by
 obtain⟨o,b1,b2,b3⟩:=id a1;obtain⟨ot,c1,_,n,c2⟩:=a2;unfold Builtin.SmallTypes.nextOf;have body:wpAny (model prog w) A.in1 (Builtin.«tuple_iterator.__next__» ⟨[.ref it],[]⟩) (fun f s'=>∃v,f=.done (.ret v)/\Q v s') E s:=by
  show wpAny _ _ (do let v <-field (.ref it) 0;_) _ _ s
  refine wad (wcn b1 b3 (x:=.ref t) rfl ?_);show wpAny _ _ (ite ((Value.ref t == Value.none)=true) _ _) _ _ s
  rw[if_neg (show ¬(Value.ref t == Value.none)=true by intro z;cases z)];show wpAny _ _ (do let v <-field (.ref it) 1;_) _ _ s
  refine wad (wcn b1 b3 (x:=.int i 0) rfl ?_);show wpAny _ _ (do let v <-seqItems? (.ref t);_) _ _ s
  refine wad (wcr c1 c2 ?_);simp only[wcm,a3];refine wad (wpAny_setField b1 b3 (by simp) (waz ⟨x,rfl,q _ ⟨_,wbQ _ b1 (Obj.isFreed_of_fields (Obj.data_mapFields b3 _)),(Obj.cls_mapFields ..).trans b2,?_⟩ (Heap.SameBut.update ..)⟩));rw[Obj.data_mapFields b3];simp[rawInt]
 have nx:=F.slot_tuple_iterator_next
 exact wad (wcd (name:=Str.ofString "__next__") a1.typeIs nx (wpAny_call_entry nx a1.typeIs F.entry_tuple_iterator_next (wbu body (fun f s' ⟨v,e,h⟩ =>⟨v,e,waz h⟩) fun _ _ x=>x) (F.args_tuple_iterator_next_1 _)))
theorem zmV {it t:Addr}{i:Nat}{items:Array Value}{Q:Value->Shared->Prop}(hh:A.handled=none)(a1:s.heap.IsTupleIter it t i)(a2:s.heap.IsTuple t items)(a3:items[i]?=none)
 (q:∀h' e,Heap.ExtBut it s.heap h'->(∃o,h'.get? e=some o/\o.cls=.type "StopIteration")->E (.ref e) {s with heap:=h'}):wpAny (model prog w) A (Builtin.SmallTypes.nextOf (.ref it)) Q E s:=by
 obtain⟨o,b1,b2,b3⟩:=id a1;obtain⟨ot,c1,_,n,c2⟩:=a2;unfold Builtin.SmallTypes.nextOf;have nx:=F.slot_tuple_iterator_next
 refine wad (wcd (name:=Str.ofString "__next__") a1.typeIs nx (wpAny_call_entry nx a1.typeIs F.entry_tuple_iterator_next ?_ (F.args_tuple_iterator_next_1 _)));show wpAny _ _ (do let v <-field (.ref it) 0;_) _ _ s
 refine wad (wcn b1 b3 (x:=.ref t) rfl ?_);show wpAny _ _ (ite ((Value.ref t == Value.none)=true) _ _) _ _ s
 rw[if_neg (show ¬(Value.ref t == Value.none)=true by intro z;cases z)];show wpAny _ _ (do let v <-field (.ref it) 1;_) _ _ s
 refine wad (wcn b1 b3 (x:=.int i 0) rfl ?_);show wpAny _ _ (do let v <-seqItems? (.ref t);_) _ _ s
 refine wad (wcr c1 c2 ?_);simp only[wcm,a3];refine wad (wpAny_rule (wad (wpAny_setField b1 b3 (by simp) ?_)));show wpAny _ _ (do let x <-newExc (.type "StopIteration") [];_) _ _ _
 refine wad ?_;simp only[newExc,newTuple];refine wad (wbi ?_ (by size_fits));refine wad (m:=firstArgMember _ _) (wpAny_of_eq (a:=Value.none) (by first | rfl | (simp only[firstArgMember];rfl)) ?_);refine wbi ?_ (by size_fits);simp only[raiseNew];refine wad (wpAny_handled ?_);first | rw[show A.in1.handled=none from hh] | rw[hh]
 exact wad (waz (wpAny_throw (q _ _ (((Heap.SameBut.update ..).extBut.push _).push _) ⟨_,waA _ rfl,rfl⟩)))
end
theorem draws_tuple {prog:Program}{w:World}{A:Around}(hh:A.handled=none)(it t:Addr)(hne:t≠it)(items:Array Value) :
 Draws prog w A it [it,t] items.size (fun i v=>items[i]?=some v) (fun i h=>h.IsTupleIter it t i/\h.IsTuple t items) where
 live:=fun _ _ st=>let ⟨o,ho,_⟩:=st.1;⟨o,ho⟩
 frame:=fun _ _ _ ⟨⟨o,e,r⟩,⟨o',e',r'⟩⟩ hk=>⟨⟨o,hk it (by simp) o e,r⟩,⟨o',hk t (by simp) o' e',r'⟩⟩
 item:=fun i s Q E hi st hQ=>znA st.1 st.2 (x:=items[i]) (by simp[hi]) fun h' a b=>hQ _ h' s.toks (by simp[hi]) ⟨a,st.2.extBut b.extBut hne⟩ b
 done:=fun s Q E st hE=>zmV hh st.1 st.2 (by simp) hE
theorem draws_end {prog:Program}{w:World}{A:Around}(hh:A.handled=none)(it t:Addr)(i:Nat)(items:Array Value)(hx:items[i]?=none) :
 Draws prog w A it [it,t] i (fun i v=>items[i]?=some v) (fun j h=>j=i/\h.IsTupleIter it t i/\h.IsTuple t items) where
 live:=fun _ _ st=>let ⟨o,ho,_⟩:=st.2.1;⟨o,ho⟩
 frame:=fun _ _ _ ⟨hj,⟨o,e,r⟩,⟨o',e',r'⟩⟩ hk=>⟨hj,⟨o,hk it (by simp) o e,r⟩,⟨o',hk t (by simp) o' e',r'⟩⟩
 item:=fun j s Q E hi st hQ=>by rw[st.1] at hi;exact absurd hi (waQ _)
 done:=fun s Q E st hE=>zmV hh st.2.1 st.2.2 hx hE
theorem zjN (t:Addr)(items:Array Value)(n:Nat)(dct:Option Addr)(sl:Array (Option Value)) :
 Meets (Builtin.«enumerate.__new__» ⟨[.type "enumerate",.ref t],[]⟩) (fun _ R s=>s.heap.get? t=some {cls:=.type "tuple",dict:=dct,data:=.seq items n,slots:=sl}/\
  R (.ok (.ret (.ref (s.heap.push {cls:=.type "tuple_iterator",data:=.fields #[.ref t,.int 0 0]}).objs.size)))
    {s with heap:=(s.heap.push {cls:=.type "tuple_iterator",data:=.fields #[.ref t,.int 0 0]}).push {cls:=.type "enumerate",data:=.fields #[.none,.bool false,.ref s.heap.objs.size,rawInt 0,.none,.none]}}):=
 .of_wp fun prog w A R s h=>by
  obtain⟨hp,g,d,tk,os⟩:=s;obtain⟨hl,h⟩:=h;have hsub:=PySem.sub_enumerate
  have hL:Heap.IsTuple (Shared.heap ⟨hp,g,d,tk,os⟩) t items:=⟨_,hl,rfl,n,rfl⟩
  wp_walk using waZ hl
  refine wpAny_stack_any fun st=>waz ?_
  split
  ·rename_i c _ _ _ _ _
   cases(c == Value.type "enumerate")
   ·wp_walk using waZ hl,wcb hL
    exact⟨_,rfl,h⟩
   ·wp_walk using waZ hl,wcb hL
    exact⟨_,rfl,h⟩
  ·wp_walk using waZ hl,wcb hL
   exact⟨_,rfl,h⟩
theorem call_enum {prog:Program}{w:World}{A:Around}{E:Value->Shared->Prop}{s:Shared}{t:Addr}{items:Array Value}{Q:Value->Shared->Prop}(hL:s.heap.IsTuple t items)
 (h:∀h',IsEnum h' (s.heap.objs.size+1) s.heap.objs.size 0 .none->h'.IsTupleIter s.heap.objs.size t 0->h'.objs.size=s.heap.objs.size+2->
  (∀b o,s.heap.get? b=some o->h'.get? b=some o)->Q (.ref (s.heap.objs.size+1)) {s with heap:=h'}) :
 wpAny (model prog w) A (call (.type "enumerate") [.ref t]) Q E s:=by
 obtain⟨⟨c,dct,dt,sl⟩,hl,hc,n,hd⟩:=hL;obtain rfl:c=.type "tuple":=hc;obtain rfl:dt=.seq items n:=hd;refine callType_new F.called_enumerate (by decide) (F.typeCall_enumerate_1 _) (F.newCall_enumerate_1 _) (fun obj=>F.args_object_init_2 obj _) F.entry_enumerate_new (zjN t items n dct sl) ⟨hl,?_⟩;have hz:(s.heap.push {cls:=.type "tuple_iterator",data:=.fields #[.ref t,.int 0 0]}).objs.size=s.heap.objs.size+1:=wcI ..
 have q:=waA (s.heap.push {cls:=.type "tuple_iterator",data:=.fields #[.ref t,.int 0 0]}) (o:={cls:=.type "enumerate",data:=.fields #[.none,.bool false,.ref s.heap.objs.size,rawInt 0,.none,.none]}) rfl
 show _/\_
 rw[hz] at q⊢;exact⟨⟨_,q,rfl⟩,h _ q ⟨_,wah _ (waA _ rfl),rfl,rfl⟩ (by rw[wcI,hz]) fun b o x=>wah _ (wah _ x)⟩
end En
namespace L2
open PySem PySem.Spec PyProof PyProof.Rows
theorem Inv.laidF {X:Cx}{pins:List (Addr×Obj)}{σ:St}{H:Hp}{s:Shared}{h':Heap}{t':Nat}{fp:List Addr}{D:Addr}{o:HO}(I:Inv X pins σ H s)(hf:∀b∈fp,FpOk X pins H b)(k:∀b o,b∉fp->s.heap.get? b=some o->h'.get? b=some o)
 (hth:∀b∈fp,∃o,h'.get? b=some o) (hD:s.heap.get? D=none) (new:ObjOk X.prog X.w (upd H D o) h' D o):H D=none/\Inv X pins σ (upd H D o) {s with heap:=h',toks:=t'}:=by
 have hHD:H D=none:=by
  cases e:H D with
  | none=>rfl
  | some u=>
    obtain⟨ob,q⟩:=(I.hok D u e).there;rw[hD] at q;cases q
 refine⟨hHD,?_⟩;have nit:∀b u,H b=some u->b∉fp:=fun b u e z=>by rw[(hf b z).1] at e;cases e
 have nD:∀b u,H b=some u->b≠D:=fun b u e z=>by rw[z,hHD] at e;cases e
 have nD':∀b ob,s.heap.get? b=some ob->b≠D:=fun b u e z=>by rw[z,hD] at e;cases e
 refine I.step (g':=s.gens) (d':=s.drawn) (t':=t') (ch:=fp) (fun b hb=>?_) (fun b o _ _ hc e _=>k b o hc e) (fun b o _ _ hc e _=>⟨o.slots,k b o hc e⟩) (fun b ob _ e n=>by rw[zak (nD' b ob e)];exact n)
  (fun b o hc e=>⟨o,k b o hc e⟩) (fun b _ e=>by rw[zak (nD b _ e)];exact e) (fun b _ _ e=>by rw[zak (nD b _ e)];exact e) (fun b ps e=>⟨#[],by rw[zak (nD b _ e),e];simp⟩) (fun m hm=>?_) (fun b u e=>?_) I.bare
 ·obtain⟨f0,f1,f2,f3,f4,f5⟩:=hf b hb;exact⟨f3,f1,f4,f5⟩
 ·obtain⟨o,es,ep,ho,r⟩:=hm;exact⟨o,es,ep,k _ o (fun z=>(hf _ z).2.1 rfl) ho,r⟩
 ·by_cases z:b=D
  ·subst z;rw[zah] at e;cases e;exact new
  ·rw[zak z] at e;refine(I.hok b u e).stay (fun c v hc q=>k c v ?_ q) (fun c q=>by rw[zak (nD c _ q)];exact q) fun c _ _ q=>by rw[zak (nD c _ q)];exact q
   rcases hc with z | z
   ·rw[z];exact nit b u e
   ·exact nit c _ z
def Ite (K:W.Frag)(a:Addr):It:=
 ⟨fun i H=>∃xs x,SqT K H a xs/\xs[i]?=some x,fun i H x H'=>∃p,H p=none/\x=.ref p/\∀xs,SqT K H a xs->∃y,xs[i]?=some y/\H'=upd H p (.tup [.int (i:Nat),y]),fun i H=>∃xs,SqT K H a xs/\xs.length<=i⟩
theorem zjO {P:Program}{w:World}{K:W.Frag}{elts:List Expr}{x1}{tpos:Pos}(a e it:Addr)(hei:e≠it)(hae:a≠e)(hai:a≠it) :
 Turn P w K (.Tuple elts x1 tpos) (Ite K a) [e,it] e (fun i h=>(∃old,IsEnum h e it (i:Nat) old)/\h.IsTupleIter it a i) where
 mem:=by simp
 obj:=fun i h st b hb=>by
  obtain⟨⟨old,e1⟩,o,e2,c,d⟩:=st;rcases was.mp hb with z | z
  ·subst z;exact⟨_,e1,fun v z=>by cases z⟩
  ·have z:=waf.mp z
   subst z;exact⟨o,e2,fun v z=>by rw[d] at z;cases z⟩
 keep:=fun i h h' st k=>by
  obtain⟨⟨old,e1⟩,o,e2,c,d⟩:=st;exact⟨⟨old,k e (by simp) _ e1⟩,o,k it (by simp) _ e2,c,d⟩
 item:=by
  intro X hP hw hK hc i pins s σ H E I hf st hg;subst hP hw hK;obtain⟨⟨old,en⟩,ti⟩:=st;obtain⟨xs,x,hq,hx⟩:=hg;obtain⟨its,rv,p,hz⟩:=I.tuple hq;obtain⟨u,hu,ru⟩:=rv.get hx;have hl:=rv.length
  have hlt:i<its.toArray.size:=by
   rw[wac,<-hl];exact(wab.mp hx).1
  have hh:X.A.in1.handled=none:=I.ok.hd hc
  refine wpAny_pyNext_enum_itemD (En.draws_tuple (A:=X.A.in1) hh it a hai its.toArray) en ⟨ti,p⟩ hlt hei (by simp[hei,Ne.symm hae]) fun y h' tk hy en' st' tup sz k=>?_
  have ey:y=u:=by
   have hy':its[i]?=some y:=by simpa using hy
   rw[hu] at hy';exact(wau hy').symm
  subst ey;refine⟨_,rfl,wpAny_letOwnedTupleGo_enum en' fun h2 en2 sb2=>?_⟩;have frS:s.heap.get? s.heap.objs.size=none:=by
   cases q:s.heap.get? s.heap.objs.size with
   | none=>rfl
   | some o=>exact absurd (wax q) (waQ _)
  have neS:∀b∈[e,it],b≠s.heap.objs.size:=fun b hb z=>by
   rcases was.mp hb with q | q
   ·have en1:=(show s.heap.get? e=some _ from en)
    rw[<-z,q,en1] at frS;cases frS
   ·obtain⟨o,e2,_⟩:=ti;rw[<-z,waf.mp q,e2] at frS;cases frS
  obtain⟨hn,I1⟩:=I.laidF (h':=h2) (t':=tk+1) (fp:=[e,it]) (D:=s.heap.objs.size) (o:=.tup [.int (i:Nat),x]) hf (fun b o hb q=>sb2.extBut b o (fun z=>hb (by simp[z])) (k b o (fun z=>hb (by simp[z])) (fun z=>hb (by simp[z])) q))
   (fun b hb=>by
    rcases was.mp hb with q | q
    ·subst q;exact⟨_,en2⟩
    ·have q:=waf.mp q
     subst q;obtain⟨o,e2,_⟩:=st'.1;exact⟨o,sb2.extBut _ o (Ne.symm hei) e2⟩) frS
   ⟨by show 2<=sizeLine;decide,[.int (i:Nat) tk,y],.cons ⟨_,rfl⟩ (.cons ru .nil),⟨_,sb2.extBut _ _ (neS e (by simp)).symm tup,rfl,_,rfl⟩⟩
  refine⟨.ref s.heap.objs.size,_,I1,rfl,⟨_,hn,rfl,fun ys hy=>⟨x,by rw[I.tuple_inj hy hq];exact hx,rfl⟩⟩,⟨⟨_,en2⟩,?_⟩,fun b hb=>?_⟩
  ·obtain⟨o,e2,c,d⟩:=st'.1;exact⟨o,sb2.extBut _ o (Ne.symm hei) e2,c,d⟩
  ·rw[zak (neS b hb)];exact(hf b hb).1
 done:=by
  intro X hP hw hK hc i pins s σ H E I hf st hg;subst hP hw hK;obtain⟨⟨old,en⟩,ti⟩:=st;obtain⟨xs,hq,hx⟩:=hg;obtain⟨its,rv,p,hz⟩:=I.tuple hq;obtain⟨f0,f1,f2,f3,f4,f5⟩:=hf it (by simp);have hl:=rv.length
  have hh:X.A.in1.handled=none:=I.ok.hd hc
  refine wpAny_pyNext_enum_endD (En.draws_end (A:=X.A.in1) hh it a i its.toArray (by simp;omega)) en ⟨rfl,ti,p⟩ fun h' eb=>⟨rfl,I.turned (t':=s.toks) (fun b o hb e=>eb b o hb e) f0 f1 f3 f4 f5⟩
 self:=fun _ _ _ _ _ st h=>by
  obtain⟨⟨old,en⟩,_⟩:=st;exact wcp en h
def zqw (K:W.Frag)(ta:TA):TI:=fun σ H R=>ta σ H fun vs H1=>∃a,vs = [.ref a]/\(∃xs,SqT K H1 a xs)/\R (Ite K a) H1
theorem zjP {X:Cx}{elts:List Expr}{x1}{tpos:Pos}{l:Expr}{ta:TA}{p pos:Pos}(hg:Gl X "enumerate")(hm:X.mg "enumerate"=none)(ha:PA X [l] ta)(hs:starEach [l] X.env = [(false,eval l X.env)]:=by rfl) :
 PI X (.Tuple elts x1 tpos) (.Call (.Name "enumerate" p) [l] [] pos) (zqw X.K ta):=by
 intro pins s σ H R I h;refine wbw (zeK I hg hm boot_enumerate ?_ (by decide) (by decide));refine waV (thn (ha pos pins s σ H _ I h) fun us s1 ⟨vs,H1,I1,rv,q1⟩ =>?_) hs rfl;obtain⟨a,e,⟨xs,hq⟩,q⟩:=q1;subst e;obtain⟨u,rfl,r1⟩:=zfV rv;obtain rfl:u=Value.ref a:=r1;obtain⟨its,rv,pt,hz⟩:=I1.tuple hq;refine En.call_enum pt fun h' en ti sz k=>?_
 have alt:a<s1.heap.objs.size:=pt.lt
 refine wcp en ⟨s1.heap.objs.size+1,[s1.heap.objs.size+1,s1.heap.objs.size],_,_,H1,rfl,I1.kept (t':=s1.toks) k,zjO a _ _ (Nat.succ_ne_self _) (waL (wcq alt)) (waL alt),⟨⟨_,en⟩,ti⟩,fun b hb=>?_,q⟩;rcases was.mp hb with z | z
 ·subst z;exact I1.fpOk (Nat.le_succ _) (I1.hok.fresh (Nat.le_succ _))
 ·have z:=waf.mp z
  subst z;exact I1.fpOk (wae _) (I1.hok.fresh (wae _))
section
variable {X:Cx}
theorem znB:OpR X (binaryOp .Add) (fun x y H Q=>∃a b ys,x=.ref a/\y=.ref b/\SqT X.K H a []/\SqT X.K H b ys/\Q (.ref b) H):=by
 intro pins s σ H x y v u Q I rx ry h;obtain⟨a,b,ys,rfl,rfl,ha,hb,q⟩:=h;cases rx;cases ry;obtain⟨its,r1,p1,_⟩:=I.tuple ha;obtain⟨its2,r2,p2,_⟩:=I.tuple hb;have e1:its = []:=r1.nil_iff.mpr rfl
 subst e1;obtain⟨⟨c1,d1,dt1,s1⟩,g1,g2,n1,g3⟩:=p1;obtain⟨⟨c2,d2,dt2,s2⟩,k1,k2,n2,k3⟩:=p2;obtain rfl:c1=.type "tuple":=g2;obtain rfl:c2=.type "tuple":=k2;obtain rfl:dt1=.seq _ n1:=g3;obtain rfl:dt2=.seq _ n2:=k3;exact concat_meets ⟨_,g1,rfl⟩ ⟨_,k1,rfl⟩ noFill_tuple_add seq_tuple_add wck wcc (wbY _ _) (tuple_addW0 a b _ _ n1 n2 d1 d2 s1 s2 rfl) ⟨g1,k1,⟨.ref b,H,I,rfl,q⟩⟩
def zpg (K:W.Frag):R2:=fun x y H Q=>∃a b xs ys,x=.ref a/\y=.ref b/\SqT K H a xs/\SqT K H b ys/\ys≠[]/\xs.length+ys.length<=sizeLine/\
 (xs = []->Q (.ref b) H)/\(xs≠[]->∀p,H p=none->Q (.ref p) (upd H p (.tup (xs++ys))))
theorem znC:OpR X (binaryOp .Add) (zpg X.K):=by
 intro pins s σ H x y v u Q I rx ry h;obtain⟨a,b,xs,ys,rfl,rfl,ha,hb,hy,hz,q1,q2⟩:=h;by_cases hx:xs = []
 ·subst hx;exact znB pins s σ H _ _ v u Q I rx ry ⟨a,b,ys,rfl,rfl,ha,hb,q1 rfl⟩
 ·exact znv pins s σ H _ _ v u Q I rx ry ⟨a,b,xs,ys,rfl,rfl,ha,hb,hx,hz,fun z=>absurd z hy,fun _=>q2 hx⟩
end
theorem zdt {H:Hp}{p:Addr}(h:H p=none)(o:HO):Same H (upd H p o):=fun b u q=>by rw[zak (za5 q h)];exact q
end L2
namespace Sh
open PySem L2
namespace Tr
end Tr
theorem Paired.app {α β:Type}{F:α->β->Prop}:∀{a c:List α}{b d:List β},Paired F a b->Paired F c d->Paired F (a++c) (b++d)
 | _,_,_,_,.nil,s=>s
 | _,_,_,_,.cons r t,s=>.cons r (Paired.app t s)
end Sh
namespace SO
open PySem PySem.W PyProof.Rows
section
variable {k:Nat->Int}{N:Nat}
end
end SO
namespace L2
open PySem PySem.Spec PyProof PyProof.Rows PySem.W
section
variable {X:Cx}{pins:List (Addr×Obj)}{σ:St}{H:Hp}{s:Shared}
end
section
variable {X:Cx}{pins:List (Addr×Obj)}{σ:St}{H:Hp}{s:Shared}
end
end L2
namespace L2
open PySem PySem.Spec PyProof.Rows
section
variable {κ:Type}[DecidableEq κ]
def valV (kvs:List (κ×V))(k:κ):Option V:=(kvs.find? fun kv=>decide (kv.1=k)).map (·.2)
def putK (kvs:List (κ×V))(k:κ)(v:V):List (κ×V):=
 if(kvs.any fun kv=>decide (kv.1=k))=true then kvs.map (fun kv=>if kv.1=k then(kv.1,v) else kv) else kvs++[(k,v)]
theorem zf1 {p:κ×V}{r:List (κ×V)}{k:κ}(e:p.1=k):valV (p::r) k=some p.2:=by simp[valV,wbD,e]
theorem zf2 {p:κ×V}{r:List (κ×V)}{k:κ}(e:¬p.1=k):valV (p::r) k=valV r k:=by simp[valV,wbD,e]
theorem zin (k:κ):∀kvs:List (κ×V),(kvs.any fun kv=>decide (kv.1=k))=(valV kvs k).isSome
 | []=>rfl
 | p::r=>by
   rw[wce];by_cases e:p.1=k
   ·simp only[zf1 e,waH e,Bool.true_or,Option.isSome_some]
   ·rw[zf2 e,waw e,Bool.false_or];exact zin k r
theorem zdc (kvs:List (κ×V))(k:κ)(v:V):(putK kvs k v).length<=kvs.length+1:=by
 unfold putK;split
 ·rw[wao];omega
 ·rw[wam,waS,wbR];omega
theorem RelO.isSome_eq {o:Option V}{u:Option Value}(r:RelO o u):o.isSome=u.isSome:=by
 cases o with
 | none=>cases u with
   | none=>rfl
   | some _=>exact(show False from r).elim
 | some _=>cases u with
   | none=>exact(show False from r).elim
   | some _=>rfl
theorem KV.val {kvs:List (κ×V)}{vs:List (κ×Value)}(r:KV kvs vs)(k:κ):RelO (valV kvs k) (valueAt vs k):=by
 unfold KV at r;induction r with
 | nil=>exact True.intro
 | @cons p q ps qs h t ih=>
   obtain⟨h1,h2⟩:=h;by_cases e:p.1=k
   ·have e':q.1=k:=h1.symm.trans e
    have b:valueAt (q::qs) k=some q.2:=by simp[valueAt,wbD,e']
    rw[zf1 e,b];exact h2
   ·have e':¬q.1=k:=fun z=>e (h1.trans z)
    have b:valueAt (q::qs) k=valueAt qs k:=by simp[valueAt,wbD,e']
    rw[zf2 e,b];exact ih
theorem KV.any {kvs:List (κ×V)}{vs:List (κ×Value)}(r:KV kvs vs)(k:κ):(kvs.any fun kv=>decide (kv.1=k))=vs.any fun kv=>decide (kv.1=k):=by
 unfold KV at r;induction r with
 | nil=>rfl
 | cons h t ih=>rw[wce,wce,ih,h.1]
theorem KV.repl {kvs:List (κ×V)}{vs:List (κ×Value)}(r:KV kvs vs)(k:κ){y:V}{u:Value}(ry:RelV y u) :
 KV (kvs.map fun kv=>if kv.1=k then(kv.1,y) else kv) (vs.map fun kv=>if kv.1=k then(kv.1,u) else kv):=by
 unfold KV at r⊢;induction r with
 | nil=>exact .nil
 | @cons p q ps qs h t ih=>
   rw[wav,wav];refine .cons ?_ ih;obtain⟨h1,h2⟩:=h;by_cases e:p.1=k
   ·rw[if_pos e,if_pos (h1.symm.trans e)];exact⟨h1,ry⟩
   ·rw[if_neg e,if_neg (fun z=>e (h1.trans z))];exact⟨h1,h2⟩
theorem KV.put {kvs:List (κ×V)}{vs:List (κ×Value)}(r:KV kvs vs)(k:κ){y:V}{u:Value}(ry:RelV y u):KV (putK kvs k y) (stored vs k u):=by
 unfold putK stored;rw[r.any k];by_cases e:(vs.any fun kv=>decide (kv.1=k))=true
 ·rw[if_pos e,if_pos e];exact r.repl k ry
 ·rw[if_neg e,if_neg e];exact Paired.snoc r ⟨rfl,ry⟩
theorem KV.length {kvs:List (κ×V)}{vs:List (κ×Value)}(r:KV kvs vs):kvs.length=vs.length:=wbZ r
end
theorem zhB {P:Program}{w:World}{k:Key}{u:Value}(r:RelV (kV k) u):(zaO P w).is k u=true:=by
 cases k with
 | inl i=>obtain⟨t,e⟩:=(show ∃t,u=Value.int i t from r);subst e;exact zhv P w i t
 | inr x=>obtain⟨t,e⟩:=(show ∃t,u=Value.str x t from r);subst e;exact zda P w x t
theorem zgK {P:Program}{w:World}:∀{ks:List Key}{us:List Value},Vals (ks.map kV) us->ItemsAre (zaO P w) ks us
 | [],_,r=>by rw[List.map_nil] at r;cases r;exact .nil
 | k::ks,_,r=>by
   rw[wav] at r;cases r with
   | cons h t=>exact .cons (zhB h) (zgK t)
abbrev KT (H:Hp):List (List Key×V)->List (List Key×Addr×Value)->Prop:=Paired fun p q=>p.1=q.1/\H q.2.1=some (.tup (p.1.map kV))/\RelV p.2 q.2.2
theorem KT.val {H:Hp}{kvs:List (List Key×V)}{xs:List (List Key×Addr×Value)}(r:KT H kvs xs)(k:List Key):RelO (valV kvs k) ((atKey xs k).map (·.2)):=by
 induction r with
 | nil=>exact True.intro
 | @cons p q ps qs h t ih=>
   obtain⟨h1,_,h2⟩:=h;by_cases e:p.1=k
   ·have e':q.1=k:=h1.symm.trans e
    have b:atKey (q::qs) k=some q.2:=by simp[atKey,wbD,e']
    rw[zf1 e,b];exact h2
   ·have e':¬q.1=k:=fun z=>e (h1.trans z)
    have b:atKey (q::qs) k=atKey qs k:=by simp[atKey,wbD,e']
    rw[zf2 e,b];exact ih
theorem KT.repl {H:Hp}{kvs:List (List Key×V)}{xs:List (List Key×Addr×Value)}(r:KT H kvs xs)(k:List Key){y:V}{u:Value}(ry:RelV y u) :
 KT H (kvs.map fun kv=>if kv.1=k then(kv.1,y) else kv) (xs.map (putAt k u)):=by
 induction r with
 | nil=>exact .nil
 | @cons p q ps qs h t ih=>
   rw[wav,wav];refine .cons ?_ ih;obtain⟨h1,h2,h3⟩:=h;unfold putAt;by_cases e:p.1=k
   ·rw[if_pos e,if_pos (h1.symm.trans e)];exact⟨h1,h2,ry⟩
   ·rw[if_neg e,if_neg (fun z=>e (h1.trans z))];exact⟨h1,h2,h3⟩
theorem KT.put {H:Hp}{kvs:List (List Key×V)}{xs:List (List Key×Addr×Value)}(r:KT H kvs xs)(k:List Key){b:Addr}{y:V}{u:Value}(hb:H b=some (.tup (k.map kV)))(ry:RelV y u) :
 KT H (putK kvs k y) (storedH xs k b u):=by
 have e:(kvs.any fun kv=>decide (kv.1=k))=(atKey xs k).isSome:=by
  rw[zin,(r.val k).isSome_eq,wbV]
 unfold putK storedH;rw[e];by_cases q:(atKey xs k).isSome=true
 ·rw[if_pos q,if_pos q];exact r.repl k ry
 ·rw[if_neg q,if_neg q];exact Paired.snoc r ⟨rfl,hb,ry⟩
theorem KT.keeps {H H':Hp}{kvs:List (List Key×V)}{xs:List (List Key×Addr×Value)}(r:KT H kvs xs)(ht:∀b ys,H b=some (.tup ys)->H' b=some (.tup ys)):KT H' kvs xs:=
 Paired.mapP r fun _ _ z=>⟨z.1,ht _ _ z.2.1,z.2.2⟩
section
variable {P:Program}{w:World}{H:Hp}{h:Heap}{a:Addr}
theorem zph {u:HO}(ok:HOk P w H h)(e:Rd H a u):ObjOk P w H h a u:=e.ok ok
theorem zjQ {kvs:List (Key×V)}(ok:HOk P w H h)(e:Rd H a (.dK kvs)):kvs.length<=sizeLine/\(a == sysModules)=false/\∃vs,KV kvs vs/\h.DictOf (zaO P w) a vs:=
 show ObjOk P w H h a (.dK kvs) from zph ok e
theorem zpi {kvs:List (Key×V)}(ok:HOk P w H h)(e:H a=some (.dK kvs)):kvs.length<=sizeLine/\(a == sysModules)=false/\∃vs,KV kvs vs/\h.DictOf (zaO P w) a vs:=zjQ ok (.inl e)
theorem zgL {ks:List Key}(ok:HOk P w H h)(e:H a=some (.tup (ks.map kV))):(tupleKind (zaO P w)).is h ks a:=by
 obtain⟨_,its,r,o,h1,h2,n,h3⟩:=(show ObjOk P w H h a (.tup (ks.map kV)) from ok a _ e)
 exact⟨o,its.toArray,n,h1,h2,h3,by simpa using zgK r⟩
theorem zjR {kvs:List (List Key×V)}(ok:HOk P w H h)(e:Rd H a (.dT kvs)):kvs.length<=sizeLine/\(a == sysModules)=false/\
 ∃xs,KT H kvs xs/\h.DictOfH (tupleKind (zaO P w)) a xs:=by
 obtain⟨z,y,xs,r,o,es,ep,h1,h2,h3,h4,h5⟩:=(show ObjOk P w H h a (.dT kvs) from zph ok e)
 refine⟨z,y,xs,r,o,es,ep,h1,h2,h3,h4,fun x hx=>?_,h5⟩;have all:∀{l:List (List Key×V)}{m:List (List Key×Addr×Value)},KT H l m->∀x∈m,(tupleKind (zaO P w)).is h x.1 x.2.1:=by
  intro l m q;induction q with
  | nil=>intro x hx;exact nomatch hx
  | @cons p q ps qs hq t ih=>
    intro x hx;rcases was.mp hx with e | hx
    ·subst e;exact zgL ok (by rw[<-hq.1];exact hq.2.1)
    ·exact ih x hx
 exact all r x hx
theorem zqx {kvs:List (List Key×V)}(ok:HOk P w H h)(e:H a=some (.dT kvs)):kvs.length<=sizeLine/\(a == sysModules)=false/\
 ∃xs,KT H kvs xs/\h.DictOfH (tupleKind (zaO P w)) a xs:=zjR ok (.inl e)
end
def DGet (H:Hp)(a:Addr)(y:V)(r:Option V):Prop:=
 (∃kvs k,Rd H a (.dK kvs)/\y=kV k/\r=valV kvs k)\/∃kvs k b,Rd H a (.dT kvs)/\y=.ref b/\H b=some (.tup (k.map kV))/\r=valV kvs k
def DPut (H:Hp)(a:Addr)(y v:V)(H':Hp):Prop:=
 (∃kvs k,H a=some (.dK kvs)/\y=kV k/\kvs.length<sizeLine/\H'=upd H a (.dK (putK kvs k v)))\/
 ∃kvs k b,H a=some (.dT kvs)/\y=.ref b/\H b=some (.tup (k.map kV))/\kvs.length<sizeLine/\H'=upd H a (.dT (putK kvs k v))
theorem DGet.k {H:Hp}{a:Addr}{kvs:List (Key×V)}{k:Key}(e:H a=some (.dK kvs)):DGet H a (kV k) (valV kvs k):=.inl ⟨kvs,k,.inl e,rfl,rfl⟩
theorem DGet.t {H:Hp}{a b:Addr}{kvs:List (List Key×V)}{k:List Key}(e:H a=some (.dT kvs))(eb:H b=some (.tup (k.map kV))):DGet H a (.ref b) (valV kvs k):=.inr ⟨kvs,k,b,.inl e,rfl,eb,rfl⟩
theorem DPut.t {H:Hp}{a b:Addr}{kvs:List (List Key×V)}{k:List Key}{v:V}(e:H a=some (.dT kvs))(eb:H b=some (.tup (k.map kV)))(hl:kvs.length<sizeLine) :
 DPut H a (.ref b) v (upd H a (.dT (putK kvs k v))):=.inr ⟨kvs,k,b,e,rfl,eb,hl,rfl⟩
section
variable {X:Cx}{pins:List (Addr×Obj)}{σ:St}{H:Hp}{s:Shared}{a:Addr}{y v:V}{u r:Value}{o:Option V}{A:Around}{E:Value->Shared->Prop}
theorem Inv.big (I:Inv X pins σ H s):sysModules<s.heap.objs.size:=by
 have h:mainGlobals<s.heap.objs.size:=(I.mod.glob.keeps I.bk).lt
 exact Nat.lt_trans (by decide) h
theorem zjS {Q:Value->Shared->Prop}(hu:A.units+1<cLine)(I:Inv X pins σ H s)(g:DGet H a y (some v))(ry:RelV y u)(h:∀w' s',Inv X pins σ H s'->RelV v w'->Q w' s') :
 wpAny (model X.prog X.w) A (getItem (.ref a) u) Q E s:=by
 rcases g with⟨kvs,k,e,ey,l⟩ | ⟨kvs,k,b,e,ey,eb,l⟩
 ·subst ey;obtain⟨z,hd,vs,rel,dd⟩:=zjQ I.hok e;obtain⟨w',hw,rw'⟩:=RelO.some_of (v:=v) (o:=valueAt vs k) (by rw[l];exact rel.val k);exact wpAny_getItem_of (zhB ry) dd.mapOf hw (h w' _ (I.tok _) rw')
 ·subst ey;cases(show u=Value.ref b from ry);obtain⟨z,hd,xs,rel,dd⟩:=zjR I.hok e;obtain⟨w',hw,rw'⟩:=RelO.some_of (v:=v) (o:=(atKey xs k).map (·.2)) (by rw[l];exact rel.val k);obtain⟨p,hp,hp2⟩:=wbh.mp hw;refine wpAny_getItem_heap (tupleKind_room_in1 hu) (zgL I.hok eb) dd hp ?_;rw[hp2];exact h w' _ (I.tok _) rw'
theorem d_in {Q:Value->Shared->Prop}(hu:A.units+1<cLine)(I:Inv X pins σ H s)(g:DGet H a y o)(ry:RelV y u)(h:∀s',Inv X pins σ H s'->Q (.bool o.isSome) s') :
 wpAny (model X.prog X.w) A (compareOp .In u (.ref a)) Q E s:=by
 rcases g with⟨kvs,k,e,ey,l⟩ | ⟨kvs,k,b,e,ey,eb,l⟩
 ·subst ey;obtain⟨z,hd,vs,rel,dd⟩:=zjQ I.hok e;refine wpAny_in_of (zhB ry) hd dd.mapOf ?_;rw[<-(rel.val k).isSome_eq,<-l];exact h _ (I.tok _)
 ·subst ey;cases(show u=Value.ref b from ry);obtain⟨z,hd,xs,rel,dd⟩:=zjR I.hok e;refine wpAny_in_heap (tupleKind_room_in1 hu) (zgL I.hok eb) hd dd ?_;have q:=(rel.val k).isSome_eq
  rw[wbV] at q;rw[<-q,<-l];exact h _ (I.tok _)
theorem zjT {Q:Value->Shared->Prop}(hu:A.units+1<cLine)(I:Inv X pins σ H s)(g:DGet H a y o)(ry:RelV y u)(h:∀s',Inv X pins σ H s'->Q (.bool (!o.isSome)) s') :
 wpAny (model X.prog X.w) A (compareOp .NotIn u (.ref a)) Q E s:=by
 rcases g with⟨kvs,k,e,ey,l⟩ | ⟨kvs,k,b,e,ey,eb,l⟩
 ·subst ey;obtain⟨z,hd,vs,rel,dd⟩:=zjQ I.hok e;refine wpAny_notIn_of (zhB ry) hd dd.mapOf ?_;rw[<-(rel.val k).isSome_eq,<-l];exact h _ (I.tok _)
 ·subst ey;cases(show u=Value.ref b from ry);obtain⟨z,hd,xs,rel,dd⟩:=zjR I.hok e;refine wpAny_notIn_heap (tupleKind_room_in1 hu) (zgL I.hok eb) hd dd ?_;have q:=(rel.val k).isSome_eq
  rw[wbV] at q;rw[<-q,<-l];exact h _ (I.tok _)
theorem zhC {h':Heap}{t':Nat}{ob:HO}(I:Inv X pins σ H s)(mu:Mut (H a))(hs:Heap.SameBut a s.heap h')(he:∃q,h'.get? a=some q)(new:ObjOk X.prog X.w (upd H a ob) h' a ob) :
 Inv X pins σ (upd H a ob) {s with heap:=h',toks:=t'}:=
 I.write (x:=a) (e:=a) mu (.inl rfl) (fun b q hb z=>(hs.2 b hb).trans z) he new
theorem zmW {P:Program}{w:World}{H':Hp}{h':Heap}{kvs:List (Key×V)}{vs:List (Key×Value)}(z:kvs.length<=sizeLine)(hd:(a == sysModules)=false)(rel:KV kvs vs)(dd:h'.DictOf (zaO P w) a vs) :
 ObjOk P w H' h' a (.dK kvs):=⟨z,hd,vs,rel,dd⟩
theorem zjU {H':Hp}{Q:Unit->Shared->Prop}(hu:A.units+1<cLine)(I:Inv X pins σ H s)(g:DPut H a y v H')(ry:RelV y u)(rv:RelV v r)(h:∀s',Inv X pins σ H' s'->Q () s') :
 wpAny (model X.prog X.w) A (setItem (.ref a) u r) Q E s:=by
 rcases g with⟨kvs,k,e,ey,l,eH⟩ | ⟨kvs,k,b,e,ey,eb,l,eH⟩
 ·subst ey eH;obtain⟨z,hd,vs,rel,dd⟩:=zpi I.hok e;have hz:vs.length<=sizeLine:=by rw[<-rel.length];exact z
  have hl:(putK kvs k v).length<=sizeLine:=by have:=zdc kvs k v;omega
  refine wpAny_setItem_pairs (hsz:=hz) (zhB ry) dd fun h' dd' hs=>h _ ?_
  have he:∃q,h'.get? a=some q:=let ⟨q,_,_,hq,_⟩:=dd';⟨q,hq⟩
  exact zhC I (by rw[e];exact True.intro) hs he (zmW hl hd (rel.put k rv) dd')
 ·subst ey eH;cases(show u=Value.ref b from ry);obtain⟨z,hd,xs,rel,dd⟩:=zqx I.hok e;have hz:xs.length<=sizeLine:=by rw[<-wbZ rel];exact z
  have hl:(putK kvs k v).length<=sizeLine:=by have:=zdc kvs k v;omega
  refine wpAny_setItem_heap (hsz:=hz) (tupleKind_room_in1 hu) (zgL I.hok eb) dd fun h' dd' hs=>h _ ?_
  obtain⟨q,es,ep,hq,h2,h3,h4,_,h5⟩:=dd';refine zhC I (by rw[e];exact True.intro) hs ⟨q,hq⟩ ⟨hl,hd,_,(rel.put k eb rv).keeps fun c ys ec=>?_,q,es,ep,hq,h2,h3,h4,h5⟩;rw[zak (zqi ec e (fun z=>nomatch z))];exact ec
end
section
variable {X:Cx}{pins:List (Addr×Obj)}{σ:St}{H:Hp}{s:Shared}{a:Addr}{kvs:List (Key×V)}{k:Key}{u:Value}{A:Around}{E:Value->Shared->Prop}
end
def NoSl (i:Expr):Prop:=∀ov iv,subscripted i false ov iv=operate [ov,iv] (getItem ov iv)
theorem zjV {prog:Program}{w:World}{A:Around}{E:Value->Shared->Prop}{s:Shared}{env:Env}{value slice:Expr}{pos:Pos}{T id:String}{Q:Value->Shared->Prop}
 (hl:typeLookup (.type T) "__getitem__"=pure (some (.builtin id))) (hs:NoSl slice)
 (h:wpAny (model prog w) A (eval value env) (fun o s₁=>wpAny (model prog w) A (eval slice env) (fun i s₂=>s₂.TypeIs o T/\wpAny (model prog w) A (getItem o i) Q E s₂) E s₁) E s) :
 wpAny (model prog w) A (eval (.Subscript value slice pos) env) Q E s:=by
 refine Subscript_ (wbu h (fun o s₁ h₁=>wbu h₁ (fun i s₂ h₂=>?_) fun _ _ x=>x) fun _ _ x=>x);obtain⟨hT,h₂⟩:=h₂;unfold subscriptTail;refine wad ?_;rw[getitemInPython_of_ne hT.not_modules];refine wad (wpAny_specialOf hT hl ?_);have fin:wpAny (model prog w) A (subscripted slice false o i) (fun r s₃=>wpAny (model prog w) A (letTemporaryGo value o r >>= fun _=>pure r) Q E s₃) E s₂:=by
  rw[hs o i];exact wpAny_operating (wbu h₂ (fun r s₃ h₃=>wad (wpAny_letTemporaryGo (waz h₃))) fun _ _ x=>x)
 first
  | exact waz (wad fin)
  | exact wad (waz (wad fin))
  | exact wad fin
theorem zhD {X:Cx}{pins:List (Addr×Obj)}{σ:St}{H:Hp}{s:Shared}{a:Addr}{y:V}{o:Option V}(I:Inv X pins σ H s)(g:DGet H a y o):s.TypeIs (.ref a) "dict":=by
 rcases g with⟨kvs,k,e,_,_⟩ | ⟨kvs,k,b,e,_,_,_⟩
 ·obtain⟨_,_,vs,_,dd⟩:=zjQ I.hok e;exact dd.typeIs
 ·obtain⟨_,_,xs,_,dd⟩:=zjR I.hok e;exact dd.typeIs
def zqy (td ty:TE):TE:=fun σ H Q=>td σ H fun x H1=>ty σ H1 fun y H2=>∃a v,x=.ref a/\DGet H2 a y (some v)/\Q v H2
def tDIn (ty td:TE):TE:=fun σ H Q=>ty σ H fun y H1=>td σ H1 fun x H2=>∃a o,x=.ref a/\DGet H2 a y o/\Q (.bl o.isSome) H2
def znD (ty td:TE):TE:=fun σ H Q=>ty σ H fun y H1=>td σ H1 fun x H2=>∃a o,x=.ref a/\DGet H2 a y o/\Q (.bl (!o.isSome)) H2
def zqz (td ty tv:TE):TS:=fun D σ H=>tv σ H fun v H1=>td σ H1 fun x H2=>ty σ H2 fun y H3=>∃a H4,x=.ref a/\DPut H3 a y v H4/\D.nx σ H4
section
variable {X:Cx}{o i e value:Expr}{pos pos' tpos:Pos}{td ty tv:TE}
theorem znE (hu:X.A.units+1<cLine)(ho:PE X o td)(hi:PE X i ty)(hs:NoSl i):PE X (.Subscript o i pos) (zqy td ty):=by
 intro pins s σ H Q I h;refine zjV PySem.F.slot_dict_getitem.lookup hs (thn (ho pins s σ H _ I h) fun u s1 ⟨x,H1,I1,rx,q1⟩ =>thn (hi pins s1 σ H1 _ I1 q1) fun iv s2 ⟨y,H2,I2,ry,a,v,ex,g,q2⟩ =>?_);subst ex;obtain rfl:u=Value.ref a:=rx;exact⟨zhD I2 g,zjS hu I2 g ry fun w' s3 I3 rw'=>⟨v,H2,I3,rw',q2⟩⟩
theorem zpj (hu:X.A.units+1<cLine)(hi:PE X i ty)(ho:PE X o td):PC X .In i o (tDIn ty td):=by
 intro pins s σ H Q I h;refine thn (hi pins s σ H _ I h) fun iv s1 ⟨y,H1,I1,ry,q1⟩ =>thn (ho pins s1 σ H1 _ I1 q1) fun u s2 ⟨x,H2,I2,rx,a,ov,ex,g,q2⟩ =>?_
 subst ex;obtain rfl:u=Value.ref a:=rx;exact d_in hu I2 g ry fun s3 I3=>⟨.bl ov.isSome,H2,I3,rfl,q2⟩
theorem zjW (hu:X.A.units+1<cLine)(hi:PE X i ty)(ho:PE X o td):PC X .NotIn i o (znD ty td):=by
 intro pins s σ H Q I h;refine thn (hi pins s σ H _ I h) fun iv s1 ⟨y,H1,I1,ry,q1⟩ =>thn (ho pins s1 σ H1 _ I1 q1) fun u s2 ⟨x,H2,I2,rx,a,ov,ex,g,q2⟩ =>?_
 subst ex;obtain rfl:u=Value.ref a:=rx;exact zjT hu I2 g ry fun s3 I3=>⟨.bl (!ov.isSome),H2,I3,rfl,q2⟩
theorem zjX (hu:X.A.units+1<cLine)(ho:PE X o td)(hi:PE X i ty)(hv:PE X value tv)(hs:swapsWith value (some (.Subscript o i pos')) pos.line X.env=pure false) :
 PS X (.Assign [.Subscript o i pos'] value pos) (zqz td ty tv):=by
 intro pins s σ H D I h;refine wpAny_Assign_Subscript (thn (hv pins s σ H _ I h) fun r s1 ⟨v,H1,I1,rv,q1⟩ =>thn (ho pins s1 σ H1 _ I1 q1) fun u s2 ⟨x,H2,I2,rx,q2⟩ =>thn (hi pins s2 σ H2 _ I2 q2) fun iv s3 ⟨y,H3,I3,ry,a,H4,ex,g,q3⟩ =>?_) hs;subst ex;obtain rfl:u=Value.ref a:=rx;exact zjU hu I3 g ry rv fun s4 I4=>⟨σ,H4,I4,q3⟩
end
theorem zio {P:Program}{w:World}{H:Hp}(h:Heap)(hb:sysModules<h.objs.size):ObjOk P w H (h.push {cls:=.type "dict",data:=.dict #[]}) h.objs.size (.dK []):=
 ⟨wbj _,beq_eq_false_iff_ne.mpr (Ne.symm (waL hb)),[],.nil,Heap.DictOf.new h⟩
theorem zlD {P:Program}{w:World}{H:Hp}(h:Heap)(hb:sysModules<h.objs.size):ObjOk P w H (h.push {cls:=.type "dict",data:=.dict #[]}) h.objs.size (.dT []):=
 ⟨wbj _,beq_eq_false_iff_ne.mpr (Ne.symm (waL hb)),[],.nil,_,#[],0,waA _ rfl,⟨rfl,rfl,rfl⟩,rfl,rfl,wba⟩
def zpk:TE:=fun _ H Q=>∀p,H p=none->Q (.ref p) (upd H p (.dK []))
def zpl:TE:=fun _ H Q=>∀p,H p=none->Q (.ref p) (upd H p (.dT []))
section
variable {X:Cx}{pos:Pos}
theorem zlE:PE X (.Dict [] [] pos) zpk:=fun pins s σ H Q I h=>
 wpAny_Dict_empty ⟨.ref s.heap.objs.size,_,I.laid (a:=s.heap.objs.size) (o:=.dK []) (t':=s.toks) (fun _ _ q=>wah _ q) (wae _) (zio s.heap I.big),rfl,h _ (I.hok.fresh (wae _))⟩
theorem zlF:PE X (.Dict [] [] pos) zpl:=fun pins s σ H Q I h=>
 wpAny_Dict_empty ⟨.ref s.heap.objs.size,_,I.laid (a:=s.heap.objs.size) (o:=.dT []) (t':=s.toks) (fun _ _ q=>wah _ q) (wae _) (zlD s.heap I.big),rfl,h _ (I.hok.fresh (wae _))⟩
end
def zjY:List (TE×TE)->St->Hp->(List (V×V)->Hp->Prop)->Prop
 | [],_,H,Q=>Q [] H
 | (tk,tv)::r,σ,H,Q=>tk σ H fun x H1=>tv σ H1 fun y H2=>zjY r σ H2 fun ps H3=>Q ((x,y)::ps) H3
abbrev VV:List (V×V)->List (Value×Value)->Prop:=Paired fun p q=>RelV p.1 q.1/\RelV p.2 q.2
def PPs (X:Cx)(pos:Pos)(keys:List (Option Expr))(values:List Expr)(trs:List (TE×TE)):Prop:=
 ∀(pins:List (Addr×Obj)) (s:Shared) (σ:St) (H:Hp) (Q:List (V×V)->Hp->Prop),Inv X pins σ H s->zjY trs σ H Q->
  wpAny (model X.prog X.w) X.A (evalPairs (pairTrees keys values X.env pos)) (fun vs s'=>∃ps H',Inv X pins σ H' s'/\VV ps vs/\Q ps H') X.xe s
theorem znF {X:Cx}{pos:Pos}:PPs X pos [] [] []:=fun pins s σ H Q I h=>pairTrees_nil_walk ⟨[],H,I,.nil,h⟩
theorem zf3 {X:Cx}{pos:Pos}{k v:Expr}{ks:List (Option Expr)}{vs:List Expr}{tk tv:TE}{trs:List (TE×TE)}(hk:PE X k tk)(hv:PE X v tv)(hr:PPs X pos ks vs trs) :
 PPs X pos (some k::ks) (v::vs) ((tk,tv)::trs):=fun pins s σ H Q I h=>
 pairTrees_cons_walk (thn (hk pins s σ H _ I h) fun u s1 ⟨x,H1,I1,rx,q1⟩ =>thn (hv pins s1 σ H1 _ I1 q1) fun w2 s2 ⟨y,H2,I2,ry,q2⟩ =>
  thn (hr pins s2 σ H2 _ I2 q2) fun ws s3 ⟨ps,H3,I3,rel,q3⟩ =>⟨(x,y)::ps,H3,I3,.cons ⟨rx,ry⟩ rel,q3⟩)
def zgM (kvs more:List (Key×V)):List (Key×V):=more.foldl (fun acc kv=>putK acc kv.1 kv.2) kvs
theorem KV.merge:∀{more:List (Key×V)}{rs:List (Key×Value)}{kvs:List (Key×V)}{vs:List (Key×Value)},KV more rs->KV kvs vs->KV (zgM kvs more) (merged vs rs):=by
 intro more rs kvs vs r;unfold KV at r;induction r generalizing kvs vs with
 | nil=>intro q;exact q
 | @cons p q ps qs h t ih=>
   intro r0;have e:KV (putK kvs p.1 p.2) (stored vs q.1 q.2):=by
    have:=r0.put p.1 h.2
    rw[<-h.1];exact this
   exact ih e
theorem zdu:∀(more kvs:List (Key×V)),(zgM kvs more).length<=kvs.length+more.length
 | [],kvs=>by show kvs.length<=kvs.length+0;omega
 | p::r,kvs=>by
   have h1:=zdu r (putK kvs p.1 p.2)
   have h2:=zdc kvs p.1 p.2
   show(zgM (putK kvs p.1 p.2) r).length<=_
   rw[waS];omega
theorem zfD {P:Program}{w:World}:∀{kvs:List (Key×V)}{ws:List (Value×Value)},VV (kvs.map fun kv=>(kV kv.1,kv.2)) ws->∃rs,Carries (zaO P w) ws rs/\KV kvs rs
 | [],_,r=>by rw[List.map_nil] at r;cases r;exact⟨[],True.intro,.nil⟩
 | p::kvs,_,r=>by
   rw[wav] at r;cases r with
   | @cons a b as bs h t=>
     obtain⟨rs,c,q⟩:=zfD (P:=P) (w:=w) t;obtain⟨b1,b2⟩:=b;exact⟨(p.1,b2)::rs,⟨zhB h.1,rfl,c⟩,.cons ⟨rfl,h.2⟩ q⟩
def zqA (trs:List (TE×TE)):TE:=fun σ H Q=>∀p,H p=none->zjY trs σ (upd H p (.dK [])) fun ps H2=>H2 p=some (.dK [])/\∃kvs:List (Key×V),ps=kvs.map (fun kv=>(kV kv.1,kv.2))/\kvs.length<=15/\Q (.ref p) (upd H2 p (.dK (zgM [] kvs)))
theorem znG {X:Cx}{pos:Pos}{keys:List (Option Expr)}{values:List Expr}{trs:List (TE×TE)}(h:PPs X pos keys values trs)(hall:keys.all (·.isSome)=true)(hl:keys.length=values.length)(h0:keys≠[])
 (h15:keys.length<=15):PE X (.Dict keys values pos) (zqA trs):=by
 intro pins s σ H Q I q;have hn:=I.hok.fresh (wae s.heap.objs.size)
 have I1:=I.laid (a:=s.heap.objs.size) (o:=.dK []) (h':=s.heap.push {cls:=.type "dict",data:=.dict #[]}) (t':=s.toks) (fun _ _ q=>wah _ q) (wae _) (zio s.heap I.big)
 refine wpAny_Dict_walk (knd:=zaO X.prog X.w) hall hl h0 h15 (thn (h pins _ σ _ _ I1 (q _ hn)) fun ws s2 ⟨ps,H2,I2,rel,e,kvs,ep,lk,q2⟩ =>?_);subst ep;obtain⟨rs,c,rk⟩:=zfD (P:=X.prog) (w:=X.w) rel;obtain⟨z,hd,vs0,r0,dd⟩:=zpi I2.hok e;cases r0;refine⟨rs,c,dd,fun h' dd' hs=>⟨.ref s.heap.objs.size,_,?_,rfl,q2⟩⟩;have hz:(zgM [] kvs).length<=sizeLine:=by
  have h1:=zdu kvs []
  rw[wbR] at h1;rw[sizeLine_eq];omega
 have he:∃q,h'.get? s.heap.objs.size=some q:=let ⟨q,_,_,hq,_⟩:=dd';⟨q,hq⟩
 exact zhC I2 (by rw[e];exact True.intro) hs he (zmW hz hd (rk.merge .nil) dd')
section
variable {X:Cx}{pins:List (Addr×Obj)}{σ:St}{H:Hp}{s:Shared}{a:Addr}{y d:V}{u r:Value}{o:Option V}{A:Around}{E:Value->Shared->Prop}
end
section
variable {X:Cx}{o e f:Expr}{apos cpos:Pos}{td ty tx:TE}
end
section
variable {X:Cx}{pins:List (Addr×Obj)}{σ:St}{H:Hp}{s:Shared}{a:Addr}{kvs:List (Key×V)}{A:Around}{E:Value->Shared->Prop}
end
section
variable {X:Cx}{pins:List (Addr×Obj)}{σ:St}{H:Hp}{s:Shared}{a:Addr}{y:V}{u:Value}{A:Around}{E:Value->Shared->Prop}
end
end L2
namespace L2
open PySem PySem.Spec PyProof PyProof.Rows
def zcG:V->Bool
 | .int _=>true
 | .str _=>true
 | .non=>true
 | _=>false
theorem zfE {x:V}(h:zcG x=true):zfr x=true:=by cases x <;> first | rfl | cases h
theorem zjZ {x y:V}(hx:zcG x=true)(hy:zcG y=true):eqV x y=decide (x=y):=by
 cases x <;> first | (cases hx;done) | (cases y <;> first | (cases hy;done) | (rw[waR];simp[eqV]))
theorem zlG {xs ys:List V}(e:Nat->Bool)(he:∀j x y,xs[j]?=some x->ys[j]?=some y->e j=decide (x=y)):((List.range (min xs.length ys.length)).all e&&(xs.length == ys.length))=decide (xs=ys):=by
 rw[waR];simp only[waj,waF,wbd,beq_iff_eq,decide_eq_true_eq];constructor
 ·rintro⟨h1,h2⟩;refine List.ext_getElem? fun j=>?_
  by_cases hj:j<xs.length
  ·have hj2:j<ys.length:=by omega
   have q:=h1 j (by omega)
   rw[he j _ _ (waa hj) (waa hj2)] at q;rw[waa hj,waa hj2,wbk q]
  ·rw[waG (by omega),waG (by omega)]
 ·rintro rfl;refine⟨fun j hj=>?_,rfl⟩;have hj':j<xs.length:=by omega
  rw[he j _ _ (waa hj') (waa hj')];simp
section
variable {X:Cx}
def eqAt (xs ys:List V)(j:Nat):Bool:=match xs[j]?,ys[j]? with | some x,some y=>eqV x y | _,_=>true
theorem zgN {xs ys:List V}{j:Nat}{x y:V}(h1:xs[j]?=some x)(h2:ys[j]?=some y):eqAt xs ys j=eqV x y:=by unfold eqAt;rw[h1,h2]
theorem zgO {A:Around}{s:Shared}{xs ys:List V}{us vs:List Value}(r1:Vals xs us)(r2:Vals ys vs)(f1:xs.all zcG=true)(f2:ys.all zcG=true)(j:Nat)(h1:j<us.toArray.size)(h2:j<vs.toArray.size) :
 SeqAt.EqAt A s us.toArray[j] vs.toArray[j] (eqAt xs ys j):=by
 have l1:=r1.length
 have l2:=r2.length
 simp only[wac] at h1 h2;have g1:j<xs.length:=by omega
 have g2:j<ys.length:=by omega
 obtain⟨u,e1,q1⟩:=r1.get (waa g1);obtain⟨v,e2,q2⟩:=r2.get (waa g2);rw[waa h1] at e1;rw[waa h2] at e2;have p1:=waF.mp f1 _ (wbJ g1)
 have p2:=waF.mp f2 _ (wbJ g2)
 rw[zgN (waa g1) (waa g2)];simp only[List.getElem_toArray];rw[wau e1,wau e2];exact zmR q1 q2 (zfE p1) (zfE p2)
theorem zfF {xs ys:List V}(f1:xs.all zcG=true)(f2:ys.all zcG=true):((List.range (min xs.length ys.length)).all (eqAt xs ys)&&(xs.length == ys.length))=decide (xs=ys):=
 zlG _ fun j x y h1 h2=>by
  rw[zgN h1 h2];exact zjZ (waF.mp f1 _ (wal h1)) (waF.mp f2 _ (wal h2))
def rEqT (K:W.Frag)(neg:Bool):R2:=fun x y H Q=>∃a b xs ys,x=.ref a/\y=.ref b/\SqT K H a xs/\SqT K H b ys/\xs.all zcG=true/\ys.all zcG=true/\Q (.bl (if neg then !decide (xs=ys) else decide (xs=ys))) H
theorem zpm (hu:X.A.units<cLine):OpR X (compareOp .Eq) (rEqT X.K false):=by
 intro pins s σ H x y v u Q I rx ry h;obtain⟨a,b,xs,ys,rfl,rfl,ha,hb,f1,f2,q⟩:=h;cases rx;cases ry;obtain⟨its,r1,p1,_⟩:=I.tuple ha;obtain⟨its2,r2,p2,_⟩:=I.tuple hb;refine SeqAt.eq_tupleAt (e:=eqAt xs ys) p1 p2 hu (fun j h1 h2=>zgO r1 r2 f1 f2 j h1 h2) ⟨.bl _,H,I,rfl,?_⟩;rw[wac,wac,<-r1.length,<-r2.length,zfF f1 f2];exact q
def rEqL (K:W.Frag)(neg:Bool):R2:=fun x y H Q=>∃a b xs ys,x=.ref a/\y=.ref b/\SqL K H a xs/\SqL K H b ys/\xs.all zcG=true/\ys.all zcG=true/\Q (.bl (if neg then !decide (xs=ys) else decide (xs=ys))) H
theorem zpn (hu:X.A.units<cLine):OpR X (compareOp .Eq) (rEqL X.K false):=by
 intro pins s σ H x y v u Q I rx ry h;obtain⟨a,b,xs,ys,rfl,rfl,ha,hb,f1,f2,q⟩:=h;cases rx;cases ry;obtain⟨its,r1,p1,_⟩:=I.list ha;obtain⟨its2,r2,p2,_⟩:=I.list hb;by_cases hz:xs.length=ys.length
 ·refine SeqAt.eq_listAt (e:=eqAt xs ys) p1.isList p2.isList (by rw[wac,wac,<-r1.length,<-r2.length];exact hz) hu (fun j h1 h2=>zgO r1 r2 f1 f2 j h1 h2) ⟨.bl _,H,I,rfl,?_⟩;have e:=zfF f1 f2
  rw[<-hz,Nat.min_self,beq_self_eq_true,Bool.and_true] at e;rw[wac,<-r1.length,e];exact q
 ·have hne:decide (xs=ys)=false:=waw fun z=>hz (wbg List.length z)
  have q':Q (.bl (decide (xs=ys))) H:=q
  rw[hne] at q';exact SeqAt.eq_list_lengthsAt p1.isList p2.isList (by rw[wac,wac,<-r1.length,<-r2.length];simpa using hz) hu ⟨.bl false,H,I,rfl,q'⟩
def tRev (K:W.Frag)(te:TE):TE:=fun σ H Q=>te σ H fun x H1=>∃a xs,x=.ref a/\SqL K H1 a xs/\∀p,H1 p=none->Q (.ref p) (upd H1 p (.lst xs.reverse))
theorem zpo {e:Expr}{te:TE}{p2 p3 p4 pos:Pos}{j:Nat}(he:PE X e te):PE X (.Subscript e (.Slice none none (some (.UnaryOp .USub (.Constant (.int 1) j p3) p4)) p2) pos) (tRev X.K te):=by
 intro pins s σ H Q I h;refine Subscript_ (thn (he pins s σ H _ I h) fun v s1 ⟨x,H1,I1,r1,q1⟩ =>?_);obtain⟨a,xs,rfl,hx,q⟩:=q1;cases r1;refine wpAny_Slice ?_;rw[evalPart_none];refine waz ?_;refine waz ?_;rw[evalPart_some];refine UnaryOp_ (wpAny_Constant_int ?_);refine PyProof.Rows.neg_int ?_;obtain⟨its,r,ht,hz⟩:=I1.list hx;have hlen:=r.length
 have I4:Inv X pins σ H1 {s1 with heap:=s1.heap.push {cls:=.type "slice",data:=.fields #[.none,.none,.int (-1) (s1.toks+1)]},toks:=s1.toks+1+1}:=I1.kept (t':=s1.toks+1+1) fun b ob q=>wah _ q
 obtain⟨its4,r4,ht4,hz4⟩:=I4.list hx;have hlen4:=r4.length
 refine tail_any (ops:=[.ref a,.ref s1.heap.objs.size]) ht4.isList.typeIs slot_list_getitem.lookup ?_ (by with_unfolding_all rfl);refine wpAny_getItem_list_slice ht4.isList (Heap.IsSliceOf.new s1.heap .none .none (.int (-1) (s1.toks+1))) .none .none (.int (-1) _) (by simp) ?_ (by rw[wac] <;> omega);rw[PySem.W.krv_pick];refine⟨.ref _,_,I4.laid (t':=s1.toks+1+1) (o:=.lst xs.reverse) (fun b ob q=>wah _ q) (wae _) ?_,rfl,q _ (I4.hok.fresh (wae _))⟩;exact⟨by rw[wbH];exact hz,its4.reverse,0,r4.reverse,waA (s1.heap.push {cls:=.type "slice",data:=.fields #[.none,.none,.int (-1) (s1.toks+1)]}) (o:={cls:=.type "list",data:=.seq its4.reverse.toArray}) rfl⟩
end
structure Cal (P:Program)(w:World)(K:W.Frag)(mg:Str->Option Value)(base:Heap)(k:Nat)(x:Str)(ps:List Str)(sp:Sp):Prop where
 ex:∃(f:Addr) (fd:FuncData),FnOk P w K mg base CX0 k f fd ps sp/\Binds K fd ps []/\W.keepIn K (.ref f)=true/\mg x=some (.ref f)
section
variable {X:Cx}{k:Nat}{x:Str}{ps:List Str}{sp:Sp}{t:TA}{p pos:Pos}{e:Expr}{es:List Expr}
theorem pc {k':Nat}(C:Cal X.prog X.w X.K X.mg X.base k x ps sp)(hr:Room k' X.A)(ha:PA X (e::es) t)(hk:k<=k':=by decide)(hg:Gl X x:=by rfl)(hdb:(x == ("__debug__" : Str))=false:=by decide)
 (he:starEach (e::es) X.env=(false,eval e X.env)::starEach es X.env:=by rfl) (hpl:(backTo pos (starEach es X.env)).any (·.1)=false:=by rfl):PE X (.Call (.Name x p) (e::es) [] pos) (zlw sp [] E0 t):=by
 obtain⟨f,fd,a,b,c,d⟩:=C.ex;exact znt (a.mono hk) hr hg d c b .nil zqu ha hdb he hpl
end
def zcZ:List Str:=["len","range","min","max","int","str","bool","list","tuple","isinstance","any","all","enumerate","abs","sorted","dict","ord","chr","reversed"]
def Blt (mg:Str->Option Value):Prop:=∀x∈zcZ,mg x=none
theorem Blt.get {mg:Str->Option Value}(B:Blt mg)(x:Str)(h:x∈zcZ:=by decide +kernel):mg x=none:=B x h
theorem zaR {P:Program}{w:World}{K:W.Frag}{mg:Str->Option Value}{base:Heap}{k:Nat}{x:Str}{ps:List Str}{sp:Sp}{f:Addr}{fd:FuncData}(h:FnOk P w K mg base CX0 k f fd ps sp)(b:Binds K fd ps [])(c:W.keepIn K (.ref f)=true)(d:mg x=some (.ref f)) :
 Cal P w K mg base k x ps sp:=⟨f,fd,h,b,c,d⟩
section
variable {X:Cx}{r:List V->Hp->VK->Prop}{t:TA}{p pos:Pos}{e:Expr}{es:List Expr}{id T:String}{x:Str}
theorem pb (hc:zdV X (.builtin id) r)(B:Blt X.mg)(hv:bootBuiltins x=some (.builtin id))(ha:PA X (e::es) t)(hB:x∈zcZ:=by decide +kernel)(hg:Gl X x:=by rfl)(hn:x≠"__name__":=by decide)(hdb:(x == ("__debug__" : Str))=false:=by decide)
 (he:starEach (e::es) X.env=(false,eval e X.env)::starEach es X.env:=by rfl) (hpl:(backTo pos (starEach es X.env)).any (·.1)=false:=by rfl):PE X (.Call (.Name x p) (e::es) [] pos) (tCB r t):=
 zlx hc hg (B x hB) hv ha hn hdb he hpl
theorem pty (hc:zdV X (.type T) r)(B:Blt X.mg)(hv:bootBuiltins x=some (.type T))(ha:PA X (e::es) t)(hB:x∈zcZ:=by decide +kernel)(hg:Gl X x:=by rfl)(hn:x≠"__name__":=by decide)(hdb:(x == ("__debug__" : Str))=false:=by decide)
 (he:starEach (e::es) X.env=(false,eval e X.env)::starEach es X.env:=by rfl) (hpl:(backTo pos (starEach es X.env)).any (·.1)=false:=by rfl):PE X (.Call (.Name x p) (e::es) [] pos) (tCB r t):=
 zgC hc hg (B x hB) hv ha hn hdb he hpl
theorem papp {o:Expr}{to:TE}{apos cpos:Pos}(ho:PE X o to)(ha:PA X [e] t)
 (hbase:attributeBase o "append" X.env (eval o X.env)=eval o X.env:=by rfl)
 (hfew:((backTo cpos (starEach [e] X.env)).all (fun x=>!x.1)&&(backToKw cpos (keywordEach [] X.env)).all (fun x=>x.1.isSome)
  && decide ([e].length+([]:List Keyword).length+(if([]:List Keyword).isEmpty then 0 else 1)<30))=true:=by rfl)
 (hline:(apos.endLine == cpos.line)=true:=by rfl) (hs:starEach [e] X.env = [(false,eval e X.env)]:=by rfl) :
 PE X (.Call (.Attribute o "append" apos) [e] [] cpos) (tBM X.K "list" zf0 to t):=
 znw PySem.F.plainAttrs_list PySem.F.slot_list_append PySem.F.type_list_append zgH ho ha hbase hfew hline hs rfl
end
end L2
namespace Rv
open PySem PySem.Spec PyProof PyProof.Rows
open Sem (wp)
theorem zdv:Slot "reversed" "__init__" "object.__init__":=
 .of (owner:="object") (n:="__init__") (by rw[typeLookup_type,builtinLookup_eq_fast];kernel_rfl) (by decide +kernel) (by decide +kernel) (by decide +kernel)
  (by first | exact .inl (by decide +kernel) | exact .inr (by decide +kernel)) (by rw[isSubtype_type];kernel_rfl)
theorem zeg:mroOf (.type "reversed")=pure [.type "reversed",.type "object"]:=by rw[mroOf_type];kernel_rfl
theorem zdd:typeLookup (.type "reversed") "__new__"=pure (some (.builtin "reversed.__new__")):=by rw[typeLookup_type,builtinLookup_eq_fast];kernel_rfl
theorem called_reversed:TypeCalled "reversed" "reversed.__new__" "object.__init__":=
 ⟨by decide +kernel,by decide +kernel,⟨_,_,zeg⟩,madeBy_type zeg zdd (by decide +kernel),by decide +kernel,by rw[isSubtype_type];kernel_rfl,zdv⟩
theorem typeCall_reversed_1 (a:Value):checkTypeCall "reversed" ⟨[a],[]⟩=pure ():=by kernel_rfl
theorem newCall_reversed_1 (a:Value):checkBuiltinCall "reversed.__new__" ⟨[.type "reversed",a],[]⟩=pure ():=by kernel_rfl
theorem entry_reversed_new:entryFor table "reversed.__new__"=some Builtin.«reversed.__new__»:=entryFor_of_tree (by kernel_rfl)
theorem sub_ri:isSubtype (.type "range_iterator") (.type "reversed")=pure false:=by rw[isSubtype_type];kernel_rfl
section
variable {prog:Program}{w:World}{A:Around}{E:Value->Shared->Prop}{s:Shared}
theorem callType_else {T T' newId initId:String}{Bn:Builtin}{args:List Value}{S:PySem.Spec}{Q Q₁:Value->Shared->Prop}(ft:TypeCalled T newId initId)
 (hct:checkTypeCall T ⟨args,[]⟩=pure ()) (hcn:checkBuiltinCall newId ⟨.type T::args,[]⟩=pure ())
 (entryN:entryFor table newId=some Bn) (g:Meets (Bn ⟨.type T::args,[]⟩) S) (hsub':isSubtype (.type T') (.type T)=pure false)
 (h:S A.in1 (wants Q₁ E) s) (hnext:∀obj s₁,Q₁ obj s₁->s₁.TypeIs obj T'/\Q obj s₁) :
 wpAny (model prog w) A (call (.type T) args) Q E s:=by
 obtain⟨c,tl,hmro⟩:=ft.mro;have hmade:=ft.made
 have hsub:=ft.sub
 refine wpAny_call (codeAny_of_tree ?_);show wpAny _ _ (callAny (.type T) _) _ _ _
 refine waz ⟨Code.quiet_builtin _ (by decide +kernel),wcF F.entry_type_call ?_⟩;rw[Around.under_plain (weight_type_call_type T args []) (units_type_call_type T args [])];have h1:=ft.notType
 have h2:=ft.canCreate
 repeat (any_goals (first | assumption | wp_step))
 refine codeAny_mono (codeAny_call_builtin ft.plain entryN (wpAny_of_eq hcn (g prog w A.in1 _ s h))) fun r s₁ hr=>?_
 cases r with
 | error e=>exact hr
 | ok fl=>
   cases fl with
   | ret obj=>
     obtain⟨hT,hq⟩:=hnext _ _ hr;repeat (any_goals (first | assumption | wp_step))
   | _=>exact hr.elim
end
theorem zlH (r:Addr)(lo hi:Int)(t u v:Tok)(hs:(Builtin.Range.rangeFitsLong lo&&Builtin.Range.rangeFitsLong hi&&Builtin.Range.rangeFitsLong 1&&Builtin.Range.rangeFitsLong (-1)&&Builtin.Range.rangeFitsLong (lo - 1)&&Builtin.Range.rangeFitsLong (Builtin.Range.rangeSize lo hi 1))=true) :
 Meets (Builtin.«range.__reversed__» ⟨[.ref r],[]⟩) (fun _ R s=>s.heap.get? r=some {cls:=.type "range",data:=.fields #[.int lo t,.int hi u,.int 1 v]}/\
  R (.ok (.ret (.ref s.heap.objs.size))) {s with heap:=s.heap.push {cls:=.type "range_iterator",data:=.fields #[rawInt (lo+(Builtin.Range.rangeSize lo hi 1 - 1)*1),rawInt (Builtin.Range.rangeSize lo hi 1),rawInt (-1)]}}):=
 .of_wp fun prog w A R s h=>by
  obtain⟨hp,g,d,tk,os⟩:=s;obtain⟨hl,h⟩:=h;wp_walk using waZ hl
  rw[hs,if_pos rfl];exact⟨_,rfl,h⟩
theorem meets_new_range (r:Addr)(lo hi:Int)(t u v:Tok)(hs:(Builtin.Range.rangeFitsLong lo&&Builtin.Range.rangeFitsLong hi&&Builtin.Range.rangeFitsLong 1&&Builtin.Range.rangeFitsLong (-1)&&Builtin.Range.rangeFitsLong (lo - 1)&&Builtin.Range.rangeFitsLong (Builtin.Range.rangeSize lo hi 1))=true) :
 Meets (Builtin.«reversed.__new__» ⟨[.type "reversed",.ref r],[]⟩) (fun _ R s=>s.heap.get? r=some {cls:=.type "range",data:=.fields #[.int lo t,.int hi u,.int 1 v]}/\
  R (.ok (.ret (.ref s.heap.objs.size))) {s with heap:=s.heap.push {cls:=.type "range_iterator",data:=.fields #[rawInt (lo+(Builtin.Range.rangeSize lo hi 1 - 1)*1),rawInt (Builtin.Range.rangeSize lo hi 1),rawInt (-1)]}}):=
 .of_wp fun prog w A R s h=>by
  obtain⟨hp,g,d,tk,os⟩:=s;obtain⟨hl,h⟩:=h;have hsub:=called_reversed.sub
  have hT:Shared.TypeIs ⟨hp,g,d,tk,os⟩ (.ref r) "range":=⟨_,hl,rfl⟩
  wp_walk using waZ hl
  rw[F.slot_range_reversed.lookup];refine waz ?_;show wpAny _ _ (bindSpecial (.builtin "range.__reversed__") (Value.ref r) >>= _) _ _ _
  rw[F.slot_range_reversed.bind];refine wad (waz ?_);refine wad (wpAny_rule ?_);refine wad (m:=call (.builtin "range.__reversed__") [Value.ref r]) (call_meets F.slot_range_reversed hT F.entry_range_reversed (F.args_range_reversed_1 _) (zlH r lo hi t u v hs) ⟨hl,?_⟩);exact waz ⟨_,rfl,h⟩
end Rv
namespace L2
open PySem PySem.Spec PyProof PyProof.Rows
def Itd (hi:Int)(n:Nat):It:=⟨fun i _=>i<n,fun i H x H'=>H'=H/\x=.int (hi - i),fun i _=>n<=i⟩
theorem zj0 {P:Program}{w:World}{K:W.Frag}{tg:Expr}(it:Addr)(lo:Int)(n:Nat):Turn P w K tg (Itd lo n) [it] it (fun i h=>IsRangeIter h it (lo+(i:Nat)*(-1)) ((n:Int) - (i:Nat)) (-1)) where
 mem:=by simp
 obj:=fun i h st b hb=>by
  have e:b=it:=by simpa using hb
  subst e;exact⟨_,st,fun v z=>by
   have z':Data.fields _=Data.cell v:=z
   cases z'⟩
 keep:=fun i h h' st k=>k it (by simp) _ st
 item:=by
  intro X hP hw hK hc i pins s σ H E I hf st hg;subst hP hw hK;obtain⟨f0,f1,f2,f3,f4,f5⟩:=hf it (by simp);have W:=Walks.range (prog:=X.prog) (w:=X.w) (I.ok.hd hc) it lo (-1) n
  refine W.item i s _ _ hg st fun v h' tk hv st' kk=>?_
  obtain⟨t,rfl⟩:=hv;have I1:Inv X pins σ H {s with heap:=h',toks:=tk}:=I.turned (fun b o hb e=>kk b o (by simpa using hb) e) f0 f1 f3 f4 f5
  refine⟨_,rfl,zlr (s:={s with heap:=h',toks:=tk}) (n:="range_iterator") st' rfl rfl (by decide) ⟨.int (lo - i),H,I1,⟨t,?_⟩,⟨rfl,rfl⟩,st',fun b hb=>(hf b hb).1⟩⟩;rw[Int.mul_neg,Int.mul_one] <;> rfl
 done:=by
  intro X hP hw hK hc i pins s σ H E I hf st hg;subst hP hw hK;obtain⟨f0,f1,f2,f3,f4,f5⟩:=hf it (by simp);exact wpAny_pyNext_range_end (I.ok.hd hc) st (by have:n<=i:=hg;omega) fun h' eb=>⟨rfl,I.turned (t':=s.toks) (fun b o hb e=>eb b o hb e) f0 f1 f3 f4 f5⟩
 self:=fun _ _ _ _ _ st h=>wcj st h
section
variable {X:Cx}{tg:Expr}
theorem zfs {prog:Program}{w:World}{A:Around}{E:Value->Shared->Prop}{s:Shared}{r:Addr}{lo hi:Int}{t u v:Tok}{Q:Value->Shared->Prop}(hr:s.heap.get? r=some {cls:=.type "range",data:=.fields #[.int lo t,.int hi u,.int 1 v]})
 (h1:-(2 ^ 62)<=lo) (h2:lo<2 ^ 62) (h3:-(2 ^ 62)<=hi) (h4:hi<2 ^ 62)
 (q:Q (.ref s.heap.objs.size) {s with heap:=s.heap.push {cls:=.type "range_iterator",data:=.fields #[rawInt (lo+(Builtin.Range.rangeSize lo hi 1 - 1)*1),rawInt (Builtin.Range.rangeSize lo hi 1),rawInt (-1)]}}) :
 wpAny (model prog w) A (call (.type "reversed") [.ref r]) Q E s:=by
 refine Rv.callType_else (T':="range_iterator") (Q₁:=fun v s1=>v=.ref s.heap.objs.size/\s1 = {s with heap:=s.heap.push {cls:=.type "range_iterator",data:=.fields #[rawInt (lo+(Builtin.Range.rangeSize lo hi 1 - 1)*1),rawInt (Builtin.Range.rangeSize lo hi 1),rawInt (-1)]}}) Rv.called_reversed (Rv.typeCall_reversed_1 _) (Rv.newCall_reversed_1 _) Rv.entry_reversed_new (Rv.meets_new_range r lo hi t u v ?_) Rv.sub_ri ⟨hr,rfl,rfl⟩ ?_
 ·have e2:Builtin.Range.rangeSize lo hi 1=(((hi - lo).toNat:Nat):Int):=by rw[rangeSize_one];split <;> omega
  rw[e2];have f:∀k:Int,-(2 ^ 63)<=k->k<2 ^ 63->Builtin.Range.rangeFitsLong k=true:=fun k a b=>by unfold Builtin.Range.rangeFitsLong;simp only[waj,decide_eq_true_eq];omega
  rw[f lo (by omega) (by omega),f hi (by omega) (by omega),f 1 (by decide) (by decide),f (-1) (by decide) (by decide),f (lo - 1) (by omega) (by omega),f _ (by omega) (by omega)];rfl
 ·rintro obj s1 ⟨rfl,rfl⟩;exact⟨⟨_,waA _ rfl,rfl⟩,q⟩
def zqB (ta:TA):TI:=fun σ H R=>ta σ H fun vs H1=>∃j:Int,vs = [.int j]/\0<=j/\j<2 ^ 62/\R (Itd (j - 1) j.toNat) H1
theorem znH {a:Expr}{ta:TA}{p p2 pos pos2:Pos}(hg:Gl X "range")(hm:X.mg "range"=none)(hg2:Gl X "reversed")(hm2:X.mg "reversed"=none)(ha:PA X [a] ta)(hs:starEach [a] X.env = [(false,eval a X.env)]:=by rfl)
 (hs2:starEach [.Call (.Name "range" p) [a] [] pos] X.env = [(false,eval (.Call (.Name "range" p) [a] [] pos) X.env)]:=by rfl):PI X tg (.Call (.Name "reversed" p2) [.Call (.Name "range" p) [a] [] pos] [] pos2) (zqB ta):=by
 intro pins s σ H R I h;refine wbw (zeK I hg2 hm2 boot_reversed ?_ (by decide) (by decide));refine waV ?_ hs2 rfl;rw[hs2];refine Calls.spliced_cons ?_;refine Call_ (zeK I hg hm boot_range (waV (thn (ha pos pins s σ H _ I h) fun us s1 ⟨vs,H1,I1,r1,q1⟩ =>?_) hs rfl));obtain⟨j,e,q1,q2,q⟩:=q1;subst e;cases r1 with
 | cons r rr=>
   cases rr;obtain⟨t,rfl⟩:=r;refine call_range_1 ?_;refine Calls.spliced_nil ?_;have I2:Inv X pins σ H1 {s1 with heap:=s1.heap.push {cls:=.type "range",data:=.fields #[.int 0 s1.toks,.int j t,.int 1 (s1.toks+1)]},toks:=s1.toks+1+1}:=I1.kept (t':=s1.toks+1+1) fun b o e=>wah _ e
   refine zfs (waA _ rfl) (by decide) (by decide) (by omega) q2 ?_;have e2:Builtin.Range.rangeSize 0 j 1=((j.toNat:Nat):Int):=by rw[rangeSize_one];split <;> omega
   rw[e2];generalize hg9:s1.heap.push {cls:=.type "range",data:=.fields #[.int 0 s1.toks,.int j t,.int 1 (s1.toks+1)]}=g9 at I2
   ·rw[show(0:Int)+((j.toNat:Nat) - 1)*1=(j - 1)+((0:Nat):Int)*(-1) by omega,show((j.toNat:Nat):Int)=((j.toNat:Nat):Int) - ((0:Nat):Int) by omega];refine wcj (it:=g9.objs.size) (waA _ rfl) ?_;refine⟨g9.objs.size,[g9.objs.size],_,_,H1,rfl,I2.kept (t':=s1.toks+1+1) fun b o e=>wah _ e,zj0 _ (j - 1) j.toNat,?_,fun b hb=>?_,q⟩
    ·exact waA _ rfl
    ·have e:b=g9.objs.size:=by simpa using hb
     subst e;exact I2.fpOk (wae _) (I2.hok.fresh (wae _))
end
theorem zgP:∀{ts:List Str}{us:List Value},Vals (ts.map V.str) us->∃l:List (Str×Tok),us=strValues l/\l.map (·.1)=ts
 | [],us,r=>by cases r;exact⟨[],rfl,rfl⟩
 | t::ts,us,r=>by
   cases r with
   | cons r1 r2=>
     obtain⟨tk,rfl⟩:=r1;obtain⟨l,rfl,e⟩:=zgP r2;exact⟨(t,tk)::l,rfl,by simp[e]⟩
section
variable {X:Cx}
def zpp (K:W.Frag):V->List V->Hp->VK->Prop:=fun x xs H Q=>∃(sep:Str) (l:Addr) (ts:List Str) (B:Nat),x=.str sep/\xs = [.ref l]/\SqL K H l (ts.map V.str)/\(∀y∈ts,y.length<=B)/\ts.length*B+ts.length*sep.length<=16777216/\Q (.str (Txt.join sep ts)) H
theorem znI:MtR X "str.join" (zpp X.K):=by
 intro pins s σ H x xs v us Q I rx rs h;obtain⟨sep,l,ts,B,rfl,rfl,hl,hB,hz,q⟩:=h;obtain⟨t,rfl⟩:=rx;obtain⟨u,rfl,ru⟩:=zfV rs;obtain rfl:u=Value.ref l:=ru;obtain⟨its,rv,pl,_⟩:=I.list hl;obtain⟨ls,rfl,e⟩:=zgP rv;have hok:JoinOk sep ts=true:=by
  unfold JoinOk;rw[StrLaws.joinFits (sep:=sep) hB hz];rfl
 exact SC.join pl.isList e hok fun t' k=>⟨.str _,H,I.tok _,⟨_,rfl⟩,q⟩
theorem zqC {e o:Expr}{to:TE}{t:TA}{apos cpos:Pos}(ho:PE X o to)(ha:PA X [e] t)
 (hbase:attributeBase o "join" X.env (eval o X.env)=eval o X.env:=by rfl)
 (hfew:((backTo cpos (starEach [e] X.env)).all (fun x=>!x.1)&&(backToKw cpos (keywordEach [] X.env)).all (fun x=>x.1.isSome)
  && decide ([e].length+([]:List Keyword).length+(if([]:List Keyword).isEmpty then 0 else 1)<30))=true:=by rfl)
 (hline:(apos.endLine == cpos.line)=true:=by rfl) (hs:starEach [e] X.env = [(false,eval e X.env)]:=by rfl) :
 PE X (.Call (.Attribute o "join" apos) [e] [] cpos) (tBM X.K "str" (zpp X.K) to t):=
 znw PySem.F.plainAttrs_str PySem.F.slot_str_join PySem.F.type_str_join znI ho ha hbase hfew hline hs rfl
end
def clo (cells:List (Str×Addr)):List (Str×NameKind)->List (Str×Addr)->List (Str×Addr)
 | [],acc=>acc
 | (n,k)::r,acc=>clo cells r (if(k == NameKind.free)=true then(n,(cells.lookup n).getD 0)::acc else acc)
theorem zj1 {env:Env}:∀(names:List (Str×NameKind)) (acc:List (Str×Addr)),(∀y∈names,y.2=.free->∃c,env.cells.lookup y.1=some c)->
 (forIn names acc fun(x:Str×NameKind) (cs:List (Str×Addr))=>match x with | (name,kind)=>if(kind == NameKind.free)=true then(do let c <-cellOf env name;pure (ForInStep.yield ((name,c)::cs))) else(pure (ForInStep.yield cs):Sem _))=pure (clo env.cells names acc)
 | [],acc,_=>rfl
 | (n,k)::r,acc,h=>by
   rw[List.forIn_cons];have ih:=zj1 (env:=env) r
   by_cases hk:(k == NameKind.free)=true
   ·obtain⟨c,hc⟩:=h (n,k) (war ..) (by cases k <;> first | rfl | cases hk);have e1:cellOf env n=pure c:=by unfold cellOf;rw[hc]
    show(if(k == NameKind.free)=true then _ else _) >>= _=_
    rw[if_pos hk,e1];show(forIn r ((n,c)::acc) _:Sem _)=pure (clo env.cells r (if(k == NameKind.free)=true then _ else _))
    rw[if_pos hk,hc];exact ih _ fun y hy=>h y (wak _ hy)
   ·show(if(k == NameKind.free)=true then _ else _) >>= _=_
    rw[if_neg hk];show(forIn r acc _:Sem _)=pure (clo env.cells r (if(k == NameKind.free)=true then _ else _))
    rw[if_neg hk];exact ih _ fun y hy=>h y (wak _ hy)
theorem zmX {env:Env}{scope:Scope}(h:∀y∈scope.names,y.2=.free->∃c,env.cells.lookup y.1=some c):closureFor scope env=pure (clo env.cells scope.names []):=by
 have e:=zj1 (env:=env) scope.names [] h
 unfold closureFor;show(forIn scope.names ([]:List (Str×Addr)) _ >>= fun cs=>pure cs)=_
 have e2:(forIn scope.names ([]:List (Str×Addr)) (fun(x:Str×NameKind) (cs:List (Str×Addr))=>match x with | (name,kind)=>if(kind == NameKind.free)=true then(do let c <-cellOf env name;pure (ForInStep.yield ((name,c)::cs))) else(pure (ForInStep.yield cs):Sem _)) >>= fun cs=>pure cs)=pure (clo env.cells scope.names []):=by
  rw[e];rfl
 exact e2
theorem zhE (cells:List (Str×Addr)):∀(names:List (Str×NameKind)) (acc:List (Str×Addr)),(∀x c,acc.lookup x=some c->cells.lookup x=some c)->(∀y∈names,y.2=.free->∃c,cells.lookup y.1=some c)->
 ∀x c,(clo cells names acc).lookup x=some c->cells.lookup x=some c
 | [],acc,h,_,x,c,e=>h x c e
 | (n,k)::r,acc,h,hf,x,c,e=>by
   refine zhE cells r _ (fun y d e'=>?_) (fun y hy=>hf y (wak _ hy)) x c e;by_cases hk:(k == NameKind.free)=true
   ·rw[if_pos hk,wbr] at e';obtain⟨c',hc⟩:=hf (n,k) (war ..) (by cases k <;> first | rfl | cases hk);cases hy:y == n with
    | true=>
      rw[hy] at e';have:y=n:=by simpa using hy
      rw[this,hc];rw[hc] at e';exact e'
    | false=>rw[hy] at e';exact h y d e'
   ·rw[if_neg hk] at e';exact h y d e'
theorem zhF (cells:List (Str×Addr)):∀(names:List (Str×NameKind)) (acc:List (Str×Addr)) (x:Str),((∃c,acc.lookup x=some c)\/(x,NameKind.free)∈names)->∃c,(clo cells names acc).lookup x=some c
 | [],acc,x,h=>by
   rcases h with h | h
   ·exact h
   ·cases h
 | (n,k)::r,acc,x,h=>by
   refine zhF cells r _ x ?_;rcases h with⟨c,h⟩ | h
   ·left
    by_cases hk:(k == NameKind.free)=true
    ·rw[if_pos hk,wbr];cases hy:x == n with
     | true=>exact⟨_,rfl⟩
     | false=>exact⟨c,h⟩
    ·rw[if_neg hk];exact⟨c,h⟩
   ·rcases was.mp h with h | h
    ·left
     cases h;rw[if_pos (by rfl),wbr,beq_self_eq_true];exact⟨_,rfl⟩
    ·exact .inr h
theorem zdW {κ β:Type}[BEq κ][LawfulBEq κ]:∀{l:List (κ×β)}{x:κ}{k:β},l.lookup x=some k->(x,k)∈l
 | [],x,k,h=>by cases h
 | (n,k')::r,x,k,h=>by
   rw[wbr] at h;cases hx:x == n with
   | true=>
     rw[hx] at h;cases h;have:x=n:=by simpa using hx
     rw[this];exact war ..
   | false=>rw[hx] at h;exact wak _ (zdW h)
theorem zbS {env:Env}:∀(l:List (Str×NameKind)),(∀y∈l,y.2≠.cell)->∀x k,(l.map fun(n,k)=>if(k == NameKind.free&&env.scope.kind == .function&&env.kindOf n == some .cell) then(n,NameKind.cell) else(n,k)).lookup x=some k->(k=.cell\/k=.free)->l.lookup x=some .free
 | [],_,x,k,e,_=>by cases e
 | (n,k0)::r,h,x,k,e,hk=>by
   rw[wav] at e;have h0:k0≠.cell:=h _ (war ..)
   rw[wbr];cases hx:x == n with
   | true=>
     cases k0 with
     | free=>rfl
     | cell=>exact absurd rfl h0
     | _=>
       exfalso
       obtain rfl:x=n:=by simpa using hx
       rw[wbr] at e;rcases hk with rfl | rfl <;> (revert e;simp)
   | false=>
     refine zbS (env:=env) r (fun y hy=>h y (wak _ hy)) x k ?_ hk;rw[wbr] at e;have:(x == (if(k0 == NameKind.free&&env.scope.kind == .function&&env.kindOf n == some .cell)=true then(n,NameKind.cell) else(n,k0)).1)=false:=by split <;> exact hx
     rw[this] at e;exact e
theorem zbF {env:Env}(hf:env.scope.kind=.function):∀(l:List (Str×NameKind)) (x:Str),l.lookup x=some .free->env.kindOf x=some .cell->(l.map fun(n,k)=>if(k == NameKind.free&&env.scope.kind == .function&&env.kindOf n == some .cell) then(n,NameKind.cell) else(n,k)).lookup x=some .cell
 | [],x,e,_=>by cases e
 | (n,k0)::r,x,e,hk=>by
   rw[wav];rw[wbr] at e⊢;cases hx:x == n with
   | true=>
     rw[hx] at e;cases e;have hn:x=n:=by simpa using hx
     have hk':(env.kindOf n == some NameKind.cell)=true:=by rw[<-hn,hk];rfl
     have hcond:(NameKind.free == NameKind.free&&env.scope.kind == .function&&env.kindOf n == some .cell)=true:=by
      rw[hf,hk'];rfl
     simp only[hcond,if_true,hx]
   | false=>
     rw[hx] at e;have:(x == (if(k0 == NameKind.free&&env.scope.kind == .function&&env.kindOf n == some .cell)=true then(n,NameKind.cell) else(n,k0)).1)=false:=by split <;> exact hx
     simp only[this];exact zbF hf r x e hk
def zf4 (N:List Str)(sc:List (Str×NameKind))(names:List (Str×NameKind))(NC:List Str)(fr:List (Option Nat)):Bool:=
 (NC.zip fr).all fun p=>match p.2 with | none=>true | some j=>(N[j]? == some p.1)&&(sc.lookup p.1 == some .cell)&&(names.lookup p.1 == some .free)
theorem zj2 (N:List Str)(st:Stmt){X:Cx}{elt iter tg:Expr}{ifs:List Expr}{scope:Scope}{pos:Pos}{NC:List Str}(fr:List (Option Nat)){wi:TI}{g:TG}{tt:TT}{te:TE}{RR:Hp->Prop}(hRR:∀pins σ H s,Inv X pins σ H s->RR H)(hcalm:X.calm=true)(hi:PI X tg iter wi)
 (hcells:∀x,X.env.scope.names.lookup x=some .cell->∃c,X.env.cells.lookup x=some c) (hfk:X.env.scope.kind=.function) (hN:X.N=N) (hsc:X.env.scope.names=(zae st).names)
 (hfree':∀y∈scope.names,y.2=.free->(zae st).names.lookup y.1=some .cell) (hcell:∀y∈scope.names,y.2≠.cell) (hkind:scope.kind=.function) (hnames:∀y∈scope.names,y.2=.local->scope.names.lookup y.1=some .local)
 (hfr':zf4 N (zae st).names scope.names NC fr=true) (hlen:fr.length=NC.length)
 (hg:∀cl C s0 H0 ex pn,PG (cxC X scope cl NC C s0 H0 ex pn) tg g) (ht:∀cl C s0 H0 ex pn,PTs (cxC X scope cl NC C s0 H0 ex pn) ifs tt) (he:∀cl C s0 H0 ex pn,RR H0->PE (cxC X scope cl NC C s0 H0 ex pn) elt te)
 (hs:∀x,foldedSetIterable iter X.env x=pure x:=by intro _;rfl):PE X (.ListComp elt [⟨tg,iter,ifs,0⟩] scope pos) (zgJ fr wi g tt te):=by
 have hfree:∀y∈scope.names,y.2=.free->X.env.scope.names.lookup y.1=some .cell:=by rw[hsc];exact hfree'
 have hfr:zf4 X.N X.env.scope.names scope.names NC fr=true:=by rw[hsc,hN];exact hfr'
 have hc:∀y∈scope.names,y.2=.free->∃c,X.env.cells.lookup y.1=some c:=fun y hy h=>hcells _ (hfree y hy h)
 refine zlC (cl:=clo X.env.cells scope.names []) hRR hcalm hi (zmX hc) hcell hkind hnames (fun x c e=>zhE _ _ _ (fun _ _ z=>by cases z) hc x c e) (fun x hx=>?_) (fun i x j h1 h2=>?_) hlen (hg _) (ht _) (he _) hs
 ·refine zhF _ _ _ x (.inr (zdW ?_));rcases hx with e | e
  ·exact zbS scope.names hcell x _ e (.inl rfl)
  ·exact zbS scope.names hcell x _ e (.inr rfl)
 ·have hm:(x,some j)∈NC.zip fr:=by
   have hi1:=(wab.mp h1).1
   have:(NC.zip fr)[i]?=some (x,some j):=by rw[List.getElem?_zip_eq_some];exact⟨h1,h2⟩
   exact wal this
  have q:=waF.mp hfr _ hm
  have q':((X.N[j]? == some x)&&(X.env.scope.names.lookup x == some .cell)&&(scope.names.lookup x == some .free))=true:=q
  simp only[waj,beq_iff_eq] at q';obtain⟨⟨q1,q2⟩,q3⟩:=q';refine⟨q1,.inr (.inl q2),?_,.inl (zbF hfk scope.names x q3 q2)⟩;intro z;have z':X.env.scope.names.lookup x=some .local:=z
  rw[q2] at z';cases z'
theorem pvC (i:Nat){X:Cx}{scope:Scope}{cl:List (Str×Addr)}{NC:List Str}{C:Addr}{s0:Shared}{H0:Hp}{ex:List Addr}{pn:List (Addr×Obj)}{x:Str}{pos:Pos}(hi:NC[i]?=some x)(hfk:X.env.scope.kind=.function)
 (h1:scope.names.lookup x=some .free) (h2:X.env.scope.names.lookup x=some .cell) (hd:(x == ("__debug__" : Str))=false:=by decide) (hcd:(x == ("__classdict__" : Str))=false:=by decide):PE (cxC X scope cl NC C s0 H0 ex pn) (.Name x pos) (tVar i):=
 zb1 (X:=cxC X scope cl NC C s0 H0 ex pn) hi (.inr (.inl (zbF hfk scope.names x h1 h2))) hd hcd
section
variable {X:Cx}{scope:Scope}{cl:List (Str×Addr)}{NC:List Str}{C:Addr}{s0:Shared}{H0:Hp}{ex:List Addr}{pn:List (Addr×Obj)}
end
theorem zlI (N:List Str)(st:Stmt){X:Cx}{i:Nat}{x:Str}{elt iter tg:Expr}{ifs:List Expr}{scope:Scope}{pos pos' cp:Pos}{NC:List Str}(fr:List (Option Nat)){wi:TI}{g:TG}{tt:TT}{te:TE}(hND:X.N.Nodup)(hix:X.N[i]?=some x)(hx:Loc X.env.scope x)
 {RR:Hp->Prop}(hRR:∀pins σ H s,Inv X pins σ H s->RR H) (hcalm:X.calm=true) (hi:PI X tg iter wi)
 (hcells:∀x,X.env.scope.names.lookup x=some .cell->∃c,X.env.cells.lookup x=some c) (hfk:X.env.scope.kind=.function) (hN:X.N=N) (hsc:X.env.scope.names=(zae st).names)
 (hfree':∀y∈scope.names,y.2=.free->(zae st).names.lookup y.1=some .cell) (hcell:∀y∈scope.names,y.2≠.cell) (hkind:scope.kind=.function) (hnames:∀y∈scope.names,y.2=.local->scope.names.lookup y.1=some .local)
 (hfr':zf4 N (zae st).names scope.names NC fr=true) (hlen:fr.length=NC.length)
 (hg:∀cl C s0 H0 ex pn,PG (cxC X scope cl NC C s0 H0 ex pn) tg g) (ht:∀cl C s0 H0 ex pn,PTs (cxC X scope cl NC C s0 H0 ex pn) ifs tt) (he:∀cl C s0 H0 ex pn,RR H0->PE (cxC X scope cl NC C s0 H0 ex pn) elt te)
 (hs:∀x,foldedSetIterable iter X.env x=pure x:=by intro _;rfl) (hsw:swapsWith (.ListComp elt [⟨tg,iter,ifs,0⟩] scope cp) (some (.Name x pos')) pos.line X.env=pure true:=by rfl)
 (hf:X.fn x=true\/X.env.scope.names.lookup x=some .local:=by first | exact .inl rfl | exact .inr rfl | assumption) :
 PS X (.Assign [.Name x pos'] (.ListComp elt [⟨tg,iter,ifs,0⟩] scope cp) pos) (tAsg (zgJ fr wi g tt te) (zeL i)):=by
 intro pins s σ H D I h;rw[exec_Assign_Name_used _ _ _ _ hsw];refine wad (wpAny_standAt ?_);rw[arm_evalThenUse_ListComp];have hfree:∀y∈scope.names,y.2=.free->X.env.scope.names.lookup y.1=some .cell:=by rw[hsc];exact hfree'
 have hfr:zf4 X.N X.env.scope.names scope.names NC fr=true:=by rw[hsc,hN];exact hfr'
 have hc:∀y∈scope.names,y.2=.free->∃c,X.env.cells.lookup y.1=some c:=fun y hy h=>hcells _ (hfree y hy h)
 refine wad (wad (zim (cl:=clo X.env.cells scope.names []) (Q:=fun x H1=>zeL i x σ H1 D.nx) (R:=fun _ s'=>wpAny (model X.prog X.w) X.A (pure ()) (fun _ s₁=>wpAny (model X.prog X.w) X.A (pure Flow.next) (SP X pins D) X.xe s₁) X.xe s') hRR hcalm hi (zmX hc) hcell hkind hnames (fun x c e=>zhE _ _ _ (fun _ _ z=>by cases z) hc x c e) (fun x hx=>?_) (fun i x j h1 h2=>?_) hlen (hg _) (ht _) (he _) hs I h ?_))
 ·refine zhF _ _ _ x (.inr (zdW ?_));rcases hx with e | e
  ·exact zbS scope.names hcell x _ e (.inl rfl)
  ·exact zbS scope.names hcell x _ e (.inr rfl)
 ·have hm:(x,some j)∈NC.zip fr:=by
   have:(NC.zip fr)[i]?=some (x,some j):=by rw[List.getElem?_zip_eq_some];exact⟨h1,h2⟩
   exact wal this
  have q:=waF.mp hfr _ hm
  have q':((X.N[j]? == some x)&&(X.env.scope.names.lookup x == some .cell)&&(scope.names.lookup x == some .free))=true:=q
  simp only[waj,beq_iff_eq] at q';obtain⟨⟨q1,q2⟩,q3⟩:=q';refine⟨q1,.inr (.inl q2),?_,.inl (zbF hfk scope.names x q3 q2)⟩;intro z;have z':X.env.scope.names.lookup x=some .local:=z
  rw[q2] at z';cases z'
 ·intro C Da H' s' m I' hns hfp q;show wpAny _ _ (assign (.Name x pos') X.env (.ref Da)) _ _ _
  refine wpAny_assign_Name (zgs I' hND hix hx (show RelV (.ref Da) (.ref Da) from rfl) (fun s2 I2 hsb=>?_) hf);obtain⟨f0,f1,f2,f3,f4,f5⟩:=hfp;obtain⟨a,hsb,ha⟩:=hsb;have hCa:C≠a:=by
   rcases ha with rfl | ha
   ·exact f1
   ·exact fun z=>f4 x a ha z.symm
  obtain⟨o,es,ep,ho,r⟩:=hns;refine⟨m,⟨o,es,ep,hsb.extBut C o hCa ho,r⟩,fun h' hs'=>?_⟩;refine waz (waz ⟨_,H',?_,q⟩);exact I2.turned (t':=s2.toks) (fun b o hb e=>hs'.extBut b o hb e) f0 f1 f3 f4 f5
theorem znJ (N:List Str)(st:Stmt){X:Cx}{i:Nat}{x:Str}{elt iter tg:Expr}{ifs:List Expr}{scope:Scope}{pos pos' cp:Pos}{NC:List Str}(fr:List (Option Nat)){wi:TI}{g:TG}{tt:TT}{te:TE}(hND:X.N.Nodup)(hix:X.N[i]?=some x)(hx:Loc X.env.scope x)
 (hcalm:X.calm=true) (hi:PI X tg iter wi)
 (hcells:∀x,X.env.scope.names.lookup x=some .cell->∃c,X.env.cells.lookup x=some c) (hfk:X.env.scope.kind=.function) (hN:X.N=N) (hsc:X.env.scope.names=(zae st).names)
 (hfree':∀y∈scope.names,y.2=.free->(zae st).names.lookup y.1=some .cell) (hcell:∀y∈scope.names,y.2≠.cell) (hkind:scope.kind=.function) (hnames:∀y∈scope.names,y.2=.local->scope.names.lookup y.1=some .local)
 (hfr':zf4 N (zae st).names scope.names NC fr=true) (hlen:fr.length=NC.length)
 (hg:∀cl C s0 H0 ex pn,PG (cxC X scope cl NC C s0 H0 ex pn) tg g) (ht:∀cl C s0 H0 ex pn,PTs (cxC X scope cl NC C s0 H0 ex pn) ifs tt) (he:∀cl C s0 H0 ex pn,PE (cxC X scope cl NC C s0 H0 ex pn) elt te)
 (hs:∀x,foldedSetIterable iter X.env x=pure x:=by intro _;rfl) (hsw:swapsWith (.ListComp elt [⟨tg,iter,ifs,0⟩] scope cp) (some (.Name x pos')) pos.line X.env=pure true:=by rfl)
 (hf:X.fn x=true\/X.env.scope.names.lookup x=some .local:=by first | exact .inl rfl | exact .inr rfl | assumption) :
 PS X (.Assign [.Name x pos'] (.ListComp elt [⟨tg,iter,ifs,0⟩] scope cp) pos) (tAsg (zgJ fr wi g tt te) (zeL i)):=
 zlI (RR:=fun _=>True) N st fr hND hix hx (fun _ _ _ _ _=>trivial) hcalm hi hcells hfk hN hsc hfree' hcell hkind hnames hfr' hlen hg ht (fun cl C s0 H0 ex pn _=>he cl C s0 H0 ex pn) hs hsw hf
end L2
namespace Mn
open PySem PySem.Spec PyProof PyProof.Rows
open Sem (wp)
section
variable {prog:Program}{w:World}{A:Around}{R:Result->Shared->Prop}{I:Addr}{fp wr:List Addr}{n:Nat}{P:Nat->Value->Prop}{St:Nat->Heap->Prop}
end
section
variable {prog:Program}{w:World}{A:Around}{E:Value->Shared->Prop}{s:Shared}
end
section
open PySem.SeqAt
open PySem.AutoSeq1 (wpAny_loadPart')
open PySem.MeetsSeq PySem.MeetsSeq2 PySem.MeetsSeq3
inductive CmpV (A:Around)(s:Shared):List Value->List Value->Bool->Prop
 | nil:CmpV A s [] [] false
 | same {x y:Value}{xs ys:List Value}{r:Bool}(he:SeqAt.EqAt A s x y true) (t:CmpV A s xs ys r):CmpV A s (x::xs) (y::ys) r
 | here {x y:Value}{xs ys:List Value}{r:Bool}(he:SeqAt.EqAt A s x y false) (hl:xs.length=ys.length) (h:∀prog w E Q,Q (.bool r) s->wpAny (model prog w) A (richCompare .Lt x y) Q E s):CmpV A s (x::xs) (y::ys) r
theorem CmpV.len {A:Around}{s:Shared}{xs ys:List Value}{r:Bool}(h:CmpV A s xs ys r):xs.length=ys.length:=by
 induction h with
 | nil=>rfl
 | same _ _ ih=>simp[ih]
 | here _ hl _=>simp[hl]
theorem lt_tuple (l b:Addr)(items items2:Array Value)(n n2:Nat)(dd dd2:Option Addr)(sl sl2:Array (Option Value))(r:Bool) :
 Meets (Builtin.«tuple.__lt__» ⟨[.ref l,.ref b],[]⟩)
  (fun A R s=>s.heap.get? l=some {cls:=.type "tuple",dict:=dd,data:=.seq items n,slots:=sl}/\s.heap.get? b=some {cls:=.type "tuple",dict:=dd2,data:=.seq items2 n2,slots:=sl2}/\
   CmpV A.in1 s items.toList items2.toList r/\R (.ok (.ret (.bool r))) s):=
 .of_wp fun prog w A R s h=>by
  obtain⟨hp,g,d,tk,os⟩:=s;obtain⟨hl,hb,hc,h⟩:=h;have f2:=AutoSeq1.sub_tuple_tuple
  have zz:items.size=items2.size:=by have:=hc.len;simpa using this
  wp_walk using waZ hl,waZ hb,wpAny_forIn_list _ (fun rest b s'=>b.1=none/\s'=⟨hp,g,d,tk,os⟩ /\∃(vs ws:List Value),rest=vs.zip ws/\CmpV A.in1 ⟨hp,g,d,tk,os⟩ vs ws r) _
  case turn=>
   rintro⟨y,x⟩ rest b s' ⟨hb',rfl,vs,ws,hz,hc'⟩;cases hc' with
   | nil=>rw[List.zip_nil_left] at hz;cases hz
   | same he t=>
     rw[wbx] at hz;injection hz with hyx hrest
     injection hyx with hy hx
     subst hy hx;refine wad (he prog w _ _ ?_);wp_walk
     exact⟨rfl,rfl,_,_,hrest,t⟩
   | here he hlen hri0=>
     rw[wbx] at hz;injection hz with hyx hrest
     injection hyx with hy hx
     subst hy hx;refine wad (he prog w _ _ ?_);have hri:=hri0 prog w
     wp_walk using hri
     exact⟨_,rfl,by simpa using h⟩
  case fin=>
   rintro⟨b1,b2⟩ s' ⟨hb',rfl,vs,ws,hz,hc'⟩;simp only at hb';subst hb';have hv:r=decide (items.size<items2.size):=by
    cases hc' with
    | nil=>rw[zz];exact(waw (waQ _)).symm
    | same he t=>rw[wbx] at hz;cases hz
    | here he _ _=>rw[wbx] at hz;cases hz
   rw[hv] at h;wp_walk
   exact⟨_,rfl,by simpa[Builtin.Tuple.tupleCompareSizes] using h⟩
  case h=>
   exact⟨rfl,rfl,items.toList,items2.toList,rfl,hc⟩
end
end Mn
namespace L2
open PySem PySem.Spec PyProof PyProof.Rows
section
variable {X:Cx}
end
section
variable {X:Cx}{kx vx iter tg:Expr}{ifs:List Expr}{scope:Scope}{pos:Pos}{NC:List Str}{wi:TI}{g:TG}{tt:TT}{tk tv:TE}
end
end L2
namespace HT
open PySem PySem.Spec PyProof PyProof.Rows L2
section
variable {prog:Program}{w:World}{A:Around}{E:Value->Shared->Prop}{s:Shared}
end
end HT
namespace L2
open PySem PySem.Spec PyProof PyProof.Rows
end L2
namespace En
open PySem PySem.Spec PyProof PyProof.Rows
theorem draws_endL {prog:Program}{w:World}{A:Around}(hh:A.handled=none)(it t:Addr)(i:Nat)(items:Array Value)(hx:items[i]?=none) :
 Draws prog w A it [it,t] i (fun i v=>items[i]?=some v) (fun j h=>j=i/\h.IsListIter it t i/\h.IsList t items) where
 live:=fun _ _ st=>let ⟨o,ho,_⟩:=st.2.1;⟨o,ho⟩
 frame:=fun _ _ _ ⟨hj,⟨o,e,r⟩,⟨o',e',r'⟩⟩ hk=>⟨hj,⟨o,hk it (by simp) o e,r⟩,⟨o',hk t (by simp) o' e',r'⟩⟩
 item:=fun j s Q E hi st hQ=>by rw[st.1] at hi;exact absurd hi (waQ _)
 done:=fun s Q E st hE=>wpAny_nextOf_list_end hh st.2.1 st.2.2 hx hE
end En
namespace L2
open PySem PySem.Spec PyProof PyProof.Rows
def IteL (K:W.Frag)(a:Addr):It:=
 ⟨fun i H=>∃xs x,SqL K H a xs/\xs[i]?=some x,fun i H x H'=>∃p,H p=none/\x=.ref p/\∀xs,SqL K H a xs->∃y,xs[i]?=some y/\H'=upd H p (.tup [.int (i:Nat),y]),fun i H=>∃xs,SqL K H a xs/\xs.length<=i⟩
theorem zi1 {P:Program}{w:World}{K:W.Frag}{elts:List Expr}{x1}{tpos:Pos}(a e it:Addr)(hei:e≠it)(hae:a≠e)(hai:a≠it) :
 Turn P w K (.Tuple elts x1 tpos) (IteL K a) [e,it] e (fun i h=>(∃old,IsEnum h e it (i:Nat) old)/\h.IsListIter it a i) where
 mem:=by simp
 obj:=fun i h st b hb=>by
  obtain⟨⟨old,e1⟩,o,e2,c,d⟩:=st;rcases was.mp hb with z | z
  ·subst z;exact⟨_,e1,fun v z=>by cases z⟩
  ·have z:=waf.mp z
   subst z;exact⟨o,e2,fun v z=>by rw[d] at z;cases z⟩
 keep:=fun i h h' st k=>by
  obtain⟨⟨old,e1⟩,o,e2,c,d⟩:=st;exact⟨⟨old,k e (by simp) _ e1⟩,o,k it (by simp) _ e2,c,d⟩
 item:=by
  intro X hP hw hK hc i pins s σ H E I hf st hg;subst hP hw hK;obtain⟨⟨old,en⟩,ti⟩:=st;obtain⟨xs,x,hq,hx⟩:=hg;obtain⟨its,rv,p,hz⟩:=I.list hq;obtain⟨u,hu,ru⟩:=rv.get hx;have hl:=rv.length
  have hlt:i<its.toArray.size:=by
   rw[wac,<-hl];exact(wab.mp hx).1
  have hh:X.A.in1.handled=none:=I.ok.hd hc
  refine wpAny_pyNext_enum_itemD (Draws.list (A:=X.A.in1) hh it a hai its.toArray) en ⟨ti,p.isList⟩ hlt hei (by simp[hei,Ne.symm hae]) fun y h' tk hy en' st' tup sz k=>?_
  have ey:y=u:=by
   have hy':its[i]?=some y:=by simpa using hy
   rw[hu] at hy';exact(wau hy').symm
  subst ey;refine⟨_,rfl,wpAny_letOwnedTupleGo_enum en' fun h2 en2 sb2=>?_⟩;have frS:s.heap.get? s.heap.objs.size=none:=by
   cases q:s.heap.get? s.heap.objs.size with
   | none=>rfl
   | some o=>exact absurd (wax q) (waQ _)
  have neS:∀b∈[e,it],b≠s.heap.objs.size:=fun b hb z=>by
   rcases was.mp hb with q | q
   ·have en1:=(show s.heap.get? e=some _ from en)
    rw[<-z,q,en1] at frS;cases frS
   ·obtain⟨o,e2,_⟩:=ti;rw[<-z,waf.mp q,e2] at frS;cases frS
  obtain⟨hn,I1⟩:=I.laidF (h':=h2) (t':=tk+1) (fp:=[e,it]) (D:=s.heap.objs.size) (o:=.tup [.int (i:Nat),x]) hf (fun b o hb q=>sb2.extBut b o (fun z=>hb (by simp[z])) (k b o (fun z=>hb (by simp[z])) (fun z=>hb (by simp[z])) q))
   (fun b hb=>by
    rcases was.mp hb with q | q
    ·subst q;exact⟨_,en2⟩
    ·have q:=waf.mp q
     subst q;obtain⟨o,e2,_⟩:=st'.1;exact⟨o,sb2.extBut _ o (Ne.symm hei) e2⟩) frS
   ⟨by show 2<=sizeLine;decide,[.int (i:Nat) tk,y],.cons ⟨_,rfl⟩ (.cons ru .nil),⟨_,sb2.extBut _ _ (neS e (by simp)).symm tup,rfl,_,rfl⟩⟩
  refine⟨.ref s.heap.objs.size,_,I1,rfl,⟨_,hn,rfl,fun ys hy=>⟨x,by rw[I.list_inj hy hq];exact hx,rfl⟩⟩,⟨⟨_,en2⟩,?_⟩,fun b hb=>?_⟩
  ·obtain⟨o,e2,c,d⟩:=st'.1;exact⟨o,sb2.extBut _ o (Ne.symm hei) e2,c,d⟩
  ·rw[zak (neS b hb)];exact(hf b hb).1
 done:=by
  intro X hP hw hK hc i pins s σ H E I hf st hg;subst hP hw hK;obtain⟨⟨old,en⟩,ti⟩:=st;obtain⟨xs,hq,hx⟩:=hg;obtain⟨its,rv,p,hz⟩:=I.list hq;obtain⟨f0,f1,f2,f3,f4,f5⟩:=hf it (by simp);have hl:=rv.length
  have hh:X.A.in1.handled=none:=I.ok.hd hc
  refine wpAny_pyNext_enum_endD (En.draws_endL (A:=X.A.in1) hh it a i its.toArray (by simp;omega)) en ⟨rfl,ti,p.isList⟩ fun h' eb=>⟨rfl,I.turned (t':=s.toks) (fun b o hb e=>eb b o hb e) f0 f1 f3 f4 f5⟩
 self:=fun _ _ _ _ _ st h=>by
  obtain⟨⟨old,en⟩,_⟩:=st;exact wcp en h
def zpq (K:W.Frag)(ta:TA):TI:=fun σ H R=>ta σ H fun vs H1=>∃a,vs = [.ref a]/\(∃xs,SqL K H1 a xs)/\R (IteL K a) H1
theorem zlJ {X:Cx}{elts:List Expr}{x1}{tpos:Pos}{l:Expr}{ta:TA}{p pos:Pos}(hg:Gl X "enumerate")(hm:X.mg "enumerate"=none)(ha:PA X [l] ta)(hs:starEach [l] X.env = [(false,eval l X.env)]:=by rfl) :
 PI X (.Tuple elts x1 tpos) (.Call (.Name "enumerate" p) [l] [] pos) (zpq X.K ta):=by
 intro pins s σ H R I h;refine wbw (zeK I hg hm boot_enumerate ?_ (by decide) (by decide));refine waV (thn (ha pos pins s σ H _ I h) fun us s1 ⟨vs,H1,I1,rv,q1⟩ =>?_) hs rfl;obtain⟨a,e,⟨xs,hq⟩,q⟩:=q1;subst e;obtain⟨u,rfl,r1⟩:=zfV rv;obtain rfl:u=Value.ref a:=r1;obtain⟨its,rv,pt,hz⟩:=I1.list hq;refine call_enumerate_list pt.isList fun h' en ti sz k=>?_
 have alt:a<s1.heap.objs.size:=let ⟨o,n,e,_⟩:=pt;wax e
 refine wcp en ⟨s1.heap.objs.size+1,[s1.heap.objs.size+1,s1.heap.objs.size],_,_,H1,rfl,I1.kept (t':=s1.toks) k,zi1 a _ _ (Nat.succ_ne_self _) (waL (wcq alt)) (waL alt),⟨⟨_,en⟩,ti⟩,fun b hb=>?_,q⟩;rcases was.mp hb with z | z
 ·subst z;exact I1.fpOk (Nat.le_succ _) (I1.hok.fresh (Nat.le_succ _))
 ·have z:=waf.mp z
  subst z;exact I1.fpOk (wae _) (I1.hok.fresh (wae _))
end L2
namespace VD
open PySem PySem.Spec PyProof PyProof.Rows L2
inductive D where
 | non | bl (b:Bool) | int (i:Int) | str (x:Str) | tup (ds:List D) | lst (ds:List D) | dct (ks:List Key) (ds:List D) | dcu (ks:List (List Key)) (ds:List D) | scr (p:Addr) | exc (c:Str) (ns:List Str) (ds:List D)
mutual
def D.beq:D->D->Bool
 | .non,.non=>true
 | .bl a,.bl b=>a == b
 | .int a,.int b=>a == b
 | .str a,.str b=>a == b
 | .tup a,.tup b=>D.beqL a b
 | .lst a,.lst b=>D.beqL a b
 | .dct ks a,.dct ls b=>decide (ks=ls)&&D.beqL a b
 | .dcu ks a,.dcu ls b=>decide (ks=ls)&&D.beqL a b
 | .scr a,.scr b=>a == b
 | .exc c ns a,.exc c' ms b=>c == c'&&decide (ns=ms)&&D.beqL a b
 | _,_=>false
def D.beqL:List D->List D->Bool
 | [],[]=>true
 | a::as,b::bs=>D.beq a b&&D.beqL as bs
 | _,_=>false
end
mutual
theorem D.beq_iff:∀(a b:D),D.beq a b=true↔a=b
 | .non,b=>by cases b <;> simp[D.beq]
 | .bl _,b=>by cases b <;> simp[D.beq]
 | .int _,b=>by cases b <;> simp[D.beq]
 | .str _,b=>by cases b <;> simp[D.beq]
 | .tup xs,b=>by cases b <;> simp[D.beq,D.beqL_iff xs]
 | .lst xs,b=>by cases b <;> simp[D.beq,D.beqL_iff xs]
 | .dct ks xs,b=>by cases b <;> simp[D.beq,D.beqL_iff xs]
 | .dcu ks xs,b=>by cases b <;> simp[D.beq,D.beqL_iff xs]
 | .scr _,b=>by cases b <;> simp[D.beq]
 | .exc c ns xs,b=>by cases b <;> simp[D.beq,D.beqL_iff xs,and_assoc]
theorem D.beqL_iff:∀(a b:List D),D.beqL a b=true↔a=b
 | [],b=>by cases b <;> simp[D.beqL]
 | x::xs,b=>by
   cases b with
   | nil=>simp[D.beqL]
   | cons y ys=>simp[D.beqL,D.beq_iff x y,D.beqL_iff xs ys]
end
instance:DecidableEq D:=fun a b=>decidable_of_iff _ (D.beq_iff a b)
instance:Inhabited D:=⟨.non⟩
def Exh (K:W.Frag)(H:Hp)(J:Addr->Prop)(a:Addr)(c:Str)(ns:List Str)(vs:List V):Prop:=
 J a/\∃oa C,W.nsIn K mainGlobals c=some (some (.ref C))/\H a=some (.frz oa (.ext fun _=>True))/\oa.cls=.ref C/\PySem.W.notCls oa=true/\
   ((ns = []/\vs = []/\oa.dict=none)\/∃d od,oa.dict=some d/\J d/\H d=some (.frz od (.xd (ns.zip vs)))/\ns.length=vs.length)
mutual
inductive Rp (K:W.Frag)(H:Hp)(J:Addr->Prop):V->D->Prop
 | non:Rp K H J .non .non
 | bl (b:Bool):Rp K H J (.bl b) (.bl b)
 | int (i:Int):Rp K H J (.int i) (.int i)
 | str (x:Str):Rp K H J (.str x) (.str x)
 | scr (p:Addr):Rp K H J (.ref p) (.scr p)
 | tup {p:Addr}{vs:List V}{ds:List D}(h:SqT K H p vs) (r:RpL K H J vs ds):Rp K H J (.ref p) (.tup ds)
 | lst {p:Addr}{vs:List V}{ds:List D}(h:H p=some (.lst vs)) (j:J p) (r:RpL K H J vs ds):Rp K H J (.ref p) (.lst ds)
 | dct {p:Addr}{kvs:List (Key×V)}{vs:List V}{ks:List Key}{ds:List D}(h:H p=some (.dK kvs)) (j:J p) (ek:kvs.map (·.1)=ks) (ev:kvs.map (·.2)=vs) (r:RpL K H J vs ds):Rp K H J (.ref p) (.dct ks ds)
 | dcu {p:Addr}{kvs:List (List Key×V)}{vs:List V}{ks:List (List Key)}{ds:List D}(h:H p=some (.dT kvs)) (j:J p) (ek:kvs.map (·.1)=ks) (ev:kvs.map (·.2)=vs) (r:RpL K H J vs ds):Rp K H J (.ref p) (.dcu ks ds)
 | exc {p:Addr}{c:Str}{ns:List Str}{vs:List V}{ds:List D}(h:Exh K H J p c ns vs) (r:RpL K H J vs ds):Rp K H J (.ref p) (.exc c ns ds)
inductive RpL (K:W.Frag)(H:Hp)(J:Addr->Prop):List V->List D->Prop
 | nil:RpL K H J [] []
 | cons {v:V}{d:D}{vs:List V}{ds:List D}(h:Rp K H J v d) (t:RpL K H J vs ds):RpL K H J (v::vs) (d::ds)
end
structure Keep (K:W.Frag)(H:Hp)(J:Addr->Prop)(H':Hp)(J':Addr->Prop):Prop where
 jj:∀a,J a->J' a
 jo:∀p o,J p->H p=some o->H' p=some o
 tp:∀p vs,SqT K H p vs->SqT K H' p vs
section
variable {K:W.Frag}{H H' H1 H2 Hz:Hp}{J J' J1 J2 Jz:Addr->Prop}
theorem Keep.refl:Keep K H J H J:=⟨fun _ h=>h,fun _ _ _ h=>h,fun _ _ h=>h⟩
theorem Keep.trans (a:Keep K H J H1 J1)(b:Keep K H1 J1 H2 J2):Keep K H J H2 J2:=⟨fun p h=>b.jj p (a.jj p h),fun p o j h=>b.jo p o (a.jj p j) (a.jo p o j h),fun p vs h=>b.tp p vs (a.tp p vs h)⟩
theorem Exh.keep {a:Addr}{c:Str}{ns:List Str}{vs:List V}(k:Keep K H J H' J')(h:Exh K H J a c ns vs):Exh K H' J' a c ns vs:=by
 obtain⟨j,oa,C,h1,h2,h3,h4,h5⟩:=h;refine⟨k.jj _ j,oa,C,h1,k.jo _ _ j h2,h3,h4,h5.imp (fun h=>h) fun⟨d,od,h6,h7,h8,h9⟩ =>⟨d,od,h6,k.jj _ h7,k.jo _ _ h7 h8,h9⟩⟩
mutual
theorem Rp.keep {v:V}{d:D}(k:Keep K H J H' J'):Rp K H J v d->Rp K H' J' v d
 | .non=>.non
 | .bl b=>.bl b
 | .int i=>.int i
 | .str x=>.str x
 | .scr p=>.scr p
 | .tup h r=>.tup (k.tp _ _ h) (RpL.keep k r)
 | .lst h j r=>.lst (k.jo _ _ j h) (k.jj _ j) (RpL.keep k r)
 | .dct h j ek ev r=>.dct (k.jo _ _ j h) (k.jj _ j) ek ev (RpL.keep k r)
 | .dcu h j ek ev r=>.dcu (k.jo _ _ j h) (k.jj _ j) ek ev (RpL.keep k r)
 | .exc h r=>.exc (h.keep k) (RpL.keep k r)
theorem RpL.keep {vs:List V}{ds:List D}(k:Keep K H J H' J'):RpL K H J vs ds->RpL K H' J' vs ds
 | .nil=>.nil
 | .cons h t=>.cons (Rp.keep k h) (RpL.keep k t)
end
theorem zlK (h:Same H H')(p:Addr)(vs:List V):SqT K H p vs->SqT K H' p vs:=by
 rintro((h1 | ⟨o,h1⟩) | h1)
 ·exact .inl (.inl (h _ _ h1))
 ·exact .inl (.inr ⟨o,h _ _ h1⟩)
 ·exact .inr h1
structure Up (H:Hp)(J:Addr->Prop)(H':Hp)(J':Addr->Prop):Prop where
 same:Same H H'
 jj:∀a,J a->J' a
 jn:∀a,J' a->J a\/H a=none
 ja:∀a,J' a->H' a≠none
theorem Up.keep (u:Up H J H' J'):Keep K H J H' J':=⟨u.jj,fun p o _ h=>u.same p o h,zlK u.same⟩
theorem Up.refl (ja:∀a,J a->H a≠none):Up H J H J:=⟨Same.refl H,fun _ h=>h,fun _ h=>.inl h,ja⟩
theorem Up.trans (a:Up H J H1 J1)(b:Up H1 J1 H2 J2):Up H J H2 J2:=⟨a.same.trans b.same,fun p h=>b.jj p (a.jj p h),fun p h=>by
 rcases b.jn p h with h | h
 ·exact a.jn p h
 ·exact .inr (a.same.free h),b.ja⟩
theorem Up.new {p:Addr}(ja:∀a,J a->H a≠none)(hp:H p=none)(o:HO):Up H J (upd H p o) J:=
 ⟨zdt hp o,fun _ h=>h,fun _ h=>.inl h,fun a h=>by
  by_cases e:a=p
  ·subst e;rw[zah];simp
  ·rw[zak e];exact ja a h⟩
theorem Up.newJ {p:Addr}(ja:∀a,J a->H a≠none)(hp:H p=none)(o:HO):Up H J (upd H p o) (fun a=>J a\/a=p):=
 ⟨zdt hp o,fun _ h=>.inl h,fun a h=>by rcases h with h | h;exact .inl h;subst h;exact .inr hp,fun a h=>by
  by_cases e:a=p
  ·subst e;rw[zah];simp
  ·rw[zak e];rcases h with h | h;exact ja a h;exact absurd h e⟩
theorem RpL.length:∀{vs:List V}{ds:List D},RpL K H J vs ds->vs.length=ds.length
 | _,_,.nil=>rfl
 | _,_,.cons _ t=>by simp[RpL.length t]
theorem RpL.get:∀{vs:List V}{ds:List D}{i:Nat}{d:D},RpL K H J vs ds->ds[i]?=some d->∃v,vs[i]?=some v/\Rp K H J v d
 | _,_,_,_,.nil,e=>by simp at e
 | _,_,0,_,.cons h _,e=>by simp at e;subst e;exact⟨_,rfl,h⟩
 | _,_,i+1,d,.cons _ t,e=>by
   obtain⟨v,h1,h2⟩:=RpL.get (i:=i) (d:=d) t (by simpa using e);exact⟨v,by simpa using h1,h2⟩
theorem RpL.append:∀{vs us:List V}{ds es:List D},RpL K H J vs ds->RpL K H J us es->RpL K H J (vs++us) (ds++es)
 | _,_,_,_,.nil,s=>s
 | _,_,_,_,.cons h t,s=>.cons h (RpL.append t s)
theorem RpL.take:∀{vs:List V}{ds:List D}(n:Nat),RpL K H J vs ds->RpL K H J (vs.take n) (ds.take n)
 | _,_,0,_=>.nil
 | _,_,_+1,.nil=>.nil
 | _,_,n+1,.cons h t=>.cons h (RpL.take n t)
theorem RpL.drop:∀{vs:List V}{ds:List D}(n:Nat),RpL K H J vs ds->RpL K H J (vs.drop n) (ds.drop n)
 | _,_,0,h=>h
 | _,_,_+1,.nil=>.nil
 | _,_,n+1,.cons _ t=>RpL.drop n t
theorem RpL.reverse:∀{vs:List V}{ds:List D},RpL K H J vs ds->RpL K H J vs.reverse ds.reverse
 | _,_,.nil=>.nil
 | _,_,.cons h t=>by
   rw[wco,wco];exact(RpL.reverse t).append (.cons h .nil)
theorem RpL.set:∀{vs:List V}{ds:List D}(i:Nat) {v:V}{d:D},RpL K H J vs ds->Rp K H J v d->RpL K H J (vs.set i v) (ds.set i d)
 | _,_,_,_,_,.nil,_=>.nil
 | _,_,0,_,_,.cons _ t,h=>.cons h t
 | _,_,i+1,_,_,.cons q t,h=>.cons q (RpL.set i t h)
theorem RpL.at {vs:List V}{ds:List D}{i:Int}{d:D}(r:RpL K H J vs ds)(h:atI ds i=some d):∃v,atI vs i=some v/\Rp K H J v d:=by
 unfold atI at h⊢;rw[r.length];cases e:ixN ds.length i with
 | none=>rw[e] at h;cases h
 | some j=>rw[e] at h;exact r.get h
end
mutual
inductive RpU (K:W.Frag)(H:Hp)(J:Addr->Prop):Nat->V->D->List Addr->Prop
 | frz {v:V}{d:D}(h:Rp K H J v d):RpU K H J 0 v d []
 | lst {n:Nat}{a:Addr}{vs:List V}{ds:List D}{A:List Addr}(h:H a=some (.lst vs)) (r:RpUL K H J n vs ds A):RpU K H J (n+1) (.ref a) (.lst ds) (a::A)
 | dct {n:Nat}{a:Addr}{kvs:List (Key×V)}{vs:List V}{ks:List Key}{ds:List D}{A:List Addr}(h:H a=some (.dK kvs)) (ek:kvs.map (·.1)=ks) (ev:kvs.map (·.2)=vs) (r:RpUL K H J n vs ds A):RpU K H J (n+1) (.ref a) (.dct ks ds) (a::A)
 | dcu {n:Nat}{a:Addr}{kvs:List (List Key×V)}{vs:List V}{ks:List (List Key)}{ds:List D}{A:List Addr}(h:H a=some (.dT kvs)) (ek:kvs.map (·.1)=ks) (ev:kvs.map (·.2)=vs) (r:RpUL K H J n vs ds A):RpU K H J (n+1) (.ref a) (.dcu ks ds) (a::A)
inductive RpUL (K:W.Frag)(H:Hp)(J:Addr->Prop):Nat->List V->List D->List Addr->Prop
 | nil {n:Nat}:RpUL K H J n [] [] []
 | cons {n:Nat}{v:V}{d:D}{vs:List V}{ds:List D}{A B:List Addr}(h:RpU K H J n v d A) (t:RpUL K H J n vs ds B):RpUL K H J n (v::vs) (d::ds) (A++B)
end
def MutO:HO->Prop
 | .lst _=>True
 | .dK _=>True
 | .dT _=>True
 | _=>False
section
variable {K:W.Frag}{H H' H1 H2 Hz:Hp}{J J' J1 J2 Jz:Addr->Prop}
mutual
theorem RpU.keep {n:Nat}{v:V}{d:D}{A:List Addr}(k:Keep K H J H' J')(hA:∀b∈A,∀o,H b=some o->H' b=some o):RpU K H J n v d A->RpU K H' J' n v d A
 | .frz h=>.frz (h.keep k)
 | .lst h r=>.lst (hA _ war _ h) (RpUL.keep k (fun b hb=>hA b (wak _ hb)) r)
 | .dct h ek ev r=>.dct (hA _ war _ h) ek ev (RpUL.keep k (fun b hb=>hA b (wak _ hb)) r)
 | .dcu h ek ev r=>.dcu (hA _ war _ h) ek ev (RpUL.keep k (fun b hb=>hA b (wak _ hb)) r)
theorem RpUL.keep {n:Nat}{vs:List V}{ds:List D}{A:List Addr}(k:Keep K H J H' J')(hA:∀b∈A,∀o,H b=some o->H' b=some o):RpUL K H J n vs ds A->RpUL K H' J' n vs ds A
 | .nil=>.nil
 | .cons h t=>.cons (RpU.keep k (fun b hb=>hA b (wbz _ hb)) h) (RpUL.keep k (fun b hb=>hA b (waE _ hb)) t)
end
mutual
theorem RpU.some {n:Nat}{v:V}{d:D}{A:List Addr}:RpU K H J n v d A->∀b∈A,∃o,H b=Option.some o/\MutO o
 | .frz _=>fun b hb=>absurd hb (by simp)
 | .lst h r=>fun b hb=>by
   rcases was.mp hb with rfl | hb
   ·exact⟨_,h,trivial⟩
   ·exact RpUL.some r b hb
 | .dct h _ _ r=>fun b hb=>by
   rcases was.mp hb with rfl | hb
   ·exact⟨_,h,trivial⟩
   ·exact RpUL.some r b hb
 | .dcu h _ _ r=>fun b hb=>by
   rcases was.mp hb with rfl | hb
   ·exact⟨_,h,trivial⟩
   ·exact RpUL.some r b hb
theorem RpUL.some {n:Nat}{vs:List V}{ds:List D}{A:List Addr}:RpUL K H J n vs ds A->∀b∈A,∃o,H b=Option.some o/\MutO o
 | .nil=>fun b hb=>absurd hb (by simp)
 | .cons h t=>fun b hb=>by
   rcases waC.mp hb with hb | hb
   ·exact RpU.some h b hb
   ·exact RpUL.some t b hb
end
mutual
theorem RpU.rp {n:Nat}{v:V}{d:D}{A:List Addr}(j:∀a,J a->J' a)(hA:∀b∈A,J' b):RpU K H J n v d A->Rp K H J' v d
 | .frz h=>h.keep ⟨j,fun _ _ _ h=>h,fun _ _ h=>h⟩
 | .lst h r=>.lst h (hA _ war) (RpUL.rp j (fun b hb=>hA b (wak _ hb)) r)
 | .dct h ek ev r=>.dct h (hA _ war) ek ev (RpUL.rp j (fun b hb=>hA b (wak _ hb)) r)
 | .dcu h ek ev r=>.dcu h (hA _ war) ek ev (RpUL.rp j (fun b hb=>hA b (wak _ hb)) r)
theorem RpUL.rp {n:Nat}{vs:List V}{ds:List D}{A:List Addr}(j:∀a,J a->J' a)(hA:∀b∈A,J' b):RpUL K H J n vs ds A->RpL K H J' vs ds
 | .nil=>.nil
 | .cons h t=>.cons (RpU.rp j (fun b hb=>hA b (wbz _ hb)) h) (RpUL.rp j (fun b hb=>hA b (waE _ hb)) t)
end
theorem RpUL.zero:∀{vs:List V}{ds:List D}{A:List Addr},RpUL K H J 0 vs ds A->RpL K H J vs ds/\A = []
 | _,_,_,.nil=>⟨.nil,rfl⟩
 | _,_,_,.cons (.frz h) t=>by
   obtain⟨r,e⟩:=RpUL.zero t;subst e;exact⟨.cons h r,rfl⟩
theorem RpUL.of:∀{vs:List V}{ds:List D},RpL K H J vs ds->RpUL K H J 0 vs ds []
 | _,_,.nil=>.nil
 | _,_,.cons h t=>.cons (A:=[]) (B:=[]) (.frz h) (RpUL.of t)
theorem RpU.zero {v:V}{d:D}{A:List Addr}(h:RpU K H J 0 v d A):Rp K H J v d/\A = []:=by
 cases h with | frz h=>exact⟨h,rfl⟩
theorem RpU.one {v:V}{ds:List D}{A:List Addr}(h:RpU K H J 1 v (.lst ds) A):∃a vs,v=.ref a/\A = [a]/\H a=Option.some (.lst vs)/\RpL K H J vs ds:=by
 cases h with
 | lst h r=>obtain⟨r',rfl⟩:=r.zero;exact⟨_,_,rfl,rfl,h,r'⟩
theorem RpU.oneD {v:V}{ks:List Key}{ds:List D}{A:List Addr}(h:RpU K H J 1 v (.dct ks ds) A):∃a kvs vs,v=.ref a/\A = [a]/\H a=Option.some (.dK kvs)/\kvs.map (·.1)=ks/\kvs.map (·.2)=vs/\RpL K H J vs ds:=by
 cases h with
 | dct h e1 e2 r=>obtain⟨r',rfl⟩:=r.zero;exact⟨_,_,_,rfl,rfl,h,e1,e2,r'⟩
theorem RpU.oneT {v:V}{ks:List (List Key)}{ds:List D}{A:List Addr}(h:RpU K H J 1 v (.dcu ks ds) A):∃a kvs vs,v=.ref a/\A = [a]/\H a=Option.some (.dT kvs)/\kvs.map (·.1)=ks/\kvs.map (·.2)=vs/\RpL K H J vs ds:=by
 cases h with
 | dcu h e1 e2 r=>obtain⟨r',rfl⟩:=r.zero;exact⟨_,_,_,rfl,rfl,h,e1,e2,r'⟩
theorem RpUL.length {n:Nat}:∀{vs:List V}{ds:List D}{A:List Addr},RpUL K H J n vs ds A->vs.length=ds.length
 | _,_,_,.nil=>rfl
 | _,_,_,.cons _ t=>by simp[RpUL.length t]
theorem RpUL.append {n:Nat}:∀{vs us:List V}{ds es:List D}{A B:List Addr},RpUL K H J n vs ds A->RpUL K H J n us es B->RpUL K H J n (vs++us) (ds++es) (A++B)
 | _,_,_,_,_,_,.nil,s=>s
 | _,_,_,_,_,_,.cons h t,s=>by rw[wbU];exact .cons h (RpUL.append t s)
theorem RpUL.split {n:Nat}:∀{vs:List V}{ds:List D}{A:List Addr}(i:Nat) {d:D},RpUL K H J n vs ds A->ds[i]?=Option.some d->∃v A1 A2 A3,vs[i]?=Option.some v/\A=A1++(A2++A3)/\RpU K H J n v d A2/\
 ∀(H':Hp) (J':Addr->Prop) (u:V) (e:D) (B:List Addr),Keep K H J H' J'->(∀b∈A1++A3,∀o,H b=Option.some o->H' b=Option.some o)->RpU K H' J' n u e B->RpUL K H' J' n (vs.set i u) (ds.set i e) (A1++(B++A3))
 | _,_,_,_,_,.nil,e=>by simp at e
 | _,_,_,0,_,.cons (A:=A) (B:=B) h t,e=>by
   simp at e;subst e;exact⟨_,[],A,B,rfl,rfl,h,fun H' J' u e C k hk r=>RpUL.cons (A:=C) (B:=B) r (t.keep k (fun b hb=>hk b (by simpa using hb)))⟩
 | _,_,_,i+1,d,.cons (A:=A) (B:=B) h t,e=>by
   obtain⟨v,A1,A2,A3,hv,rfl,hr,up⟩:=RpUL.split i t (by simpa using e);refine⟨v,A++A1,A2,A3,by simpa using hv,by simp,hr,fun H' J' u e C k hk r=>?_⟩;rw[wbU];exact .cons (h.keep k (fun b hb=>hk b (by simp[hb]))) (up H' J' u e C k (fun b hb=>hk b (by simp at hb⊢;rcases hb with hb | hb <;> simp[hb])) r)
def RpW (K:W.Frag)(H:Hp)(J:Addr->Prop)(v:V)(d:D):Prop:=Rp K H J v d\/∃A,RpU K H J 1 v d A
theorem RpW.lst {v:V}{ds:List D}(h:RpW K H J v (.lst ds)):∃p vs,v=.ref p/\H p=some (.lst vs)/\RpL K H J vs ds:=by
 rcases h with h | ⟨A,h⟩
 ·cases h with | lst h j r=>exact⟨_,_,rfl,h,r⟩
 ·obtain⟨a,vs,rfl,_,h,r⟩:=h.one;exact⟨a,vs,rfl,h,r⟩
theorem RpW.tup {v:V}{ds:List D}(h:RpW K H J v (.tup ds)):∃p vs,v=.ref p/\SqT K H p vs/\RpL K H J vs ds:=by
 rcases h with h | ⟨A,h⟩
 ·cases h with | tup h r=>exact⟨_,_,rfl,h,r⟩
 ·cases h
theorem RpW.dct {v:V}{ks:List Key}{ds:List D}(h:RpW K H J v (.dct ks ds)):∃p kvs vs,v=.ref p/\H p=some (.dK kvs)/\kvs.map (·.1)=ks/\kvs.map (·.2)=vs/\RpL K H J vs ds:=by
 rcases h with h | ⟨A,h⟩
 ·cases h with | dct h j e1 e2 r=>exact⟨_,_,_,rfl,h,e1,e2,r⟩
 ·obtain⟨a,kvs,vs,rfl,_,h,e1,e2,r⟩:=h.oneD;exact⟨a,kvs,vs,rfl,h,e1,e2,r⟩
theorem RpW.dcu {v:V}{ks:List (List Key)}{ds:List D}(h:RpW K H J v (.dcu ks ds)):∃p kvs vs,v=.ref p/\H p=some (.dT kvs)/\kvs.map (·.1)=ks/\kvs.map (·.2)=vs/\RpL K H J vs ds:=by
 rcases h with h | ⟨A,h⟩
 ·cases h with | dcu h j e1 e2 r=>exact⟨_,_,_,rfl,h,e1,e2,r⟩
 ·obtain⟨a,kvs,vs,rfl,_,h,e1,e2,r⟩:=h.oneT;exact⟨a,kvs,vs,rfl,h,e1,e2,r⟩
theorem RpW.int {v:V}{i:Int}(h:RpW K H J v (.int i)):v=.int i:=by
 rcases h with h | ⟨A,h⟩ <;> cases h
 rfl
theorem RpW.str {v:V}{i:Str}(h:RpW K H J v (.str i)):v=.str i:=by
 rcases h with h | ⟨A,h⟩ <;> cases h
 rfl
theorem RpW.bl {v:V}{i:Bool}(h:RpW K H J v (.bl i)):v=.bl i:=by
 rcases h with h | ⟨A,h⟩ <;> cases h
 rfl
theorem RpW.non {v:V}(h:RpW K H J v .non):v=.non:=by
 rcases h with h | ⟨A,h⟩ <;> cases h
 rfl
end
inductive SV where
 | un | val (d:D) | own (n:Nat) (d:D) | par (n:Nat) (d:D)
abbrev En:=List SV
structure Pr where
 ps:List (Nat×Addr×Nat)
 fpo:Nat->List Addr
def Pr.no:Pr:=⟨[],fun _=>[]⟩
def Pr.has (O:Pr)(b:Addr):Prop:=∃i,b∈O.fpo i
def OwAt (K:W.Frag)(Hz H:Hp)(J:Addr->Prop)(O:List Addr)(x:Option (Option V))(A:List Addr):Option SV->Prop
 | some (.own n d)=>(∃v,x=some (some v)/\RpU K H J n v d A)/\∀b∈A,Hz b=none
 | some (.par n d)=>(∃v,x=some (some v)/\RpU K H J n v d A)/\∀b∈A,Hz b=none\/b∈O
 | _=>A = []
structure Ow (K:W.Frag)(Hz:Hp)(O:Pr)(ρ:En)(σ:L2.St)(H:Hp)(J:Addr->Prop)(fp:Nat->List Addr):Prop where
 at':∀i,OwAt K Hz H J (O.fpo i) (σ[i]?) (fp i) (ρ[i]?)
 nd:∀i,(fp i).Nodup
 nj:∀i,∀b∈fp i,¬J b
 dj:∀i j,i≠j->∀b∈fp i,b∉fp j
structure ST (K:W.Frag)(Hz:Hp)(Jz:Addr->Prop)(O:Pr)(ρ:En)(σ:L2.St)(H:Hp)(J:Addr->Prop):Prop where
 same:∀b o,¬O.has b->Hz b=some o->H b=some o
 j0:∀a,Jz a->J a
 jn:∀a,J a->Jz a\/Hz a=none
 ja:∀a,J a->H a≠none
 len:σ.length=ρ.length
 vl:∀(i:Nat) (d:D),ρ[i]?=some (.val d)->∃v,σ[i]?=some (some v)/\Rp K H J v d
 ow:∃fp,Ow K Hz O ρ σ H J fp
 ps:∀q∈O.ps,σ[q.1]?=some (some (.ref q.2.1))/\∃d,ρ[q.1]?=some (.par q.2.2 d)
 al:∀b,Hz b≠none->H b≠none
section
variable {K:W.Frag}{H H' H1 H2 Hz:Hp}{J J' J1 J2 Jz:Addr->Prop}{ρ:En}{σ:L2.St}{O:Pr}
theorem OwAt.ru {B:List Addr}{x:Option (Option V)}{A:List Addr}{s:Option SV}(h:OwAt K Hz H J B x A s):∀b∈A,∃o,H b=some o/\MutO o:=by
 match s,h with
 | some (.own n d),⟨⟨v,_,r⟩,_⟩ =>exact r.some
 | some (.par n d),⟨⟨v,_,r⟩,_⟩ =>exact r.some
 | none,h=>cases h;simp
 | some .un,h=>cases h;simp
 | some (.val _),h=>cases h;simp
theorem OwAt.keep {B:List Addr}{x:Option (Option V)}{A:List Addr}{s:Option SV}(k:Keep K H J H' J')(hA:∀b∈A,∀o,H b=some o->H' b=some o)(h:OwAt K Hz H J B x A s):OwAt K Hz H' J' B x A s:=by
 match s,h with
 | some (.own n d),⟨⟨v,e,r⟩,q⟩ =>exact⟨⟨v,e,r.keep k hA⟩,q⟩
 | some (.par n d),⟨⟨v,e,r⟩,q⟩ =>exact⟨⟨v,e,r.keep k hA⟩,q⟩
 | none,h=>exact h
 | some .un,h=>exact h
 | some (.val _),h=>exact h
theorem ST.up (s:ST K Hz Jz O ρ σ H J)(u:Up H J H' J'):ST K Hz Jz O ρ σ H' J' where
 same:=fun b o hb h=>u.same b o (s.same b o hb h)
 j0:=fun a h=>u.jj a (s.j0 a h)
 jn:=fun a h=>by
  rcases u.jn a h with h | h
  ·exact s.jn a h
  ·right
   cases e:Hz a with
   | none=>rfl
   | some o=>
     exact absurd h (s.al a (by rw[e];simp))
 ja:=u.ja
 len:=s.len
 vl:=fun i d h=>let ⟨v,e,r⟩:=s.vl i d h;⟨v,e,r.keep u.keep⟩
 ow:=by
  obtain⟨fp,w⟩:=s.ow;refine⟨fp,fun i=>(w.at' i).keep u.keep fun b _=>u.same b,w.nd,fun i b hb j=>?_,w.dj⟩;rcases u.jn b j with j | j
  ·exact w.nj i b hb j
  ·obtain⟨o,e,_⟩:=(w.at' i).ru b hb;rw[e] at j;cases j
 ps:=s.ps
 al:=fun b h=>by
  cases e:H b with
  | none=>exact absurd e (s.al b h)
  | some o=>rw[u.same b o e];simp
theorem zdX {α:Type}{l:List α}{i j:Nat}{x y:α}(h:(l.set i x)[j]?=some y):(j=i/\y=x)\/(j≠i/\l[j]?=some y):=by
 by_cases e:j=i
 ·subst e;by_cases hl:j<l.length
  ·rw[wat hl] at h;exact .inl ⟨rfl,(wau h).symm⟩
  ·rw[waG (by simp;omega)] at h;cases h
 ·rw[wai (Ne.symm e)] at h;exact .inr ⟨e,h⟩
def zhG (fp:Nat->List Addr)(i:Nat)(A:List Addr):Nat->List Addr:=fun j=>if j=i then A else fp j
theorem za1 {fp:Nat->List Addr}{i:Nat}{A:List Addr}:zhG fp i A i=A:=if_pos rfl
theorem zbB {fp:Nat->List Addr}{i j:Nat}{A:List Addr}(h:j≠i):zhG fp i A j=fp j:=if_neg h
theorem Ow.put {fp:Nat->List Addr}{ρ':En}{σ':L2.St}{i:Nat}{A:List Addr}(w:Ow K Hz O ρ σ H J fp)(k:Keep K H J H' J')(hs:∀j,j≠i->∀b∈fp j,∀o,H b=some o->H' b=some o)
 (hj:∀j,j≠i->∀b∈fp j,¬J' b) (hρ:∀j,j≠i->ρ'[j]?=ρ[j]?) (hσ:∀j,j≠i->σ'[j]?=σ[j]?) (hi:OwAt K Hz H' J' (O.fpo i) (σ'[i]?) A (ρ'[i]?)) (nd:A.Nodup) (nj:∀b∈A,¬J' b) (dj:∀j,j≠i->∀b∈A,b∉fp j) :
 Ow K Hz O ρ' σ' H' J' (zhG fp i A) where
 at':=fun j=>by
  by_cases e:j=i
  ·subst e;rw[za1];exact hi
  ·rw[zbB e,hρ j e,hσ j e];exact(w.at' j).keep k (hs j e)
 nd:=fun j=>by
  by_cases e:j=i
  ·subst e;rw[za1];exact nd
  ·rw[zbB e];exact w.nd j
 nj:=fun j b hb=>by
  by_cases e:j=i
  ·subst e;rw[za1] at hb;exact nj b hb
  ·rw[zbB e] at hb;exact hj j e b hb
 dj:=fun j l ne b hb=>by
  by_cases e:j=i
  ·subst e;rw[za1] at hb;rw[zbB (Ne.symm ne)];exact dj l (Ne.symm ne) b hb
  ·rw[zbB e] at hb;by_cases e2:l=i
   ·subst e2;rw[za1];exact fun hb2=>dj j e b hb2 hb
   ·rw[zbB e2];exact w.dj j l ne b hb
theorem ST.psNe {i:Nat}(s:ST K Hz Jz O ρ σ H J)(hp:∀n d,ρ[i]?≠some (.par n d)):∀q∈O.ps,q.1≠i:=fun q hq e=>by
 obtain⟨_,d,h⟩:=s.ps q hq;exact hp _ d (e▸h)
theorem ST.set {i:Nat}{v:V}{d:D}(s:ST K Hz Jz O ρ σ H J)(r:Rp K H J v d)(hi:i<ρ.length)(hp:∀n d,ρ[i]?≠some (.par n d)):ST K Hz Jz O (ρ.set i (.val d)) (σ.set i (some v)) H J where
 same:=s.same
 j0:=s.j0
 jn:=s.jn
 ja:=s.ja
 len:=by simp[s.len]
 vl:=fun j e h=>by
  rcases zdX h with⟨rfl,he⟩ | ⟨ne,h⟩
  ·cases he;exact⟨v,wat (by rw[s.len];exact hi),r⟩
  ·rw[wai (Ne.symm ne)];exact s.vl j e h
 ow:=by
  obtain⟨fp,w⟩:=s.ow;refine⟨_,w.put (i:=i) (A:=[]) Keep.refl (fun _ _ _ _ _ h=>h) (fun j _=>w.nj j) (fun j e=>wai (Ne.symm e)) (fun j e=>wai (Ne.symm e)) ?_ wba (by simp) (by simp)⟩;rw[wat hi];rfl
 ps:=fun q hq=>by
  have e:=s.psNe hp q hq
  rw[wai (Ne.symm e),wai (Ne.symm e)];exact s.ps q hq
 al:=s.al
theorem ST.drop {i:Nat}(s:ST K Hz Jz O ρ σ H J)(hp:∀n d,ρ[i]?≠some (.par n d)):ST K Hz Jz O (ρ.set i .un) σ H J where
 same:=s.same
 j0:=s.j0
 jn:=s.jn
 ja:=s.ja
 len:=by simp[s.len]
 vl:=fun j e h=>by
  rcases zdX h with⟨rfl,he⟩ | ⟨ne,h⟩
  ·cases he
  ·exact s.vl j e h
 ow:=by
  obtain⟨fp,w⟩:=s.ow;refine⟨_,w.put (i:=i) (A:=[]) Keep.refl (fun _ _ _ _ _ h=>h) (fun j _=>w.nj j) (fun j e=>wai (Ne.symm e)) (fun _ _=>rfl) ?_ wba (by simp) (by simp)⟩;by_cases hi:i<ρ.length
  ·rw[wat hi];rfl
  ·have z:(List.set ρ i SV.un)[i]?=none:=waG (by simp;omega)
   rw[z];rfl
 ps:=fun q hq=>by
  have e:=s.psNe hp q hq
  rw[wai (Ne.symm e)];exact s.ps q hq
 al:=s.al
theorem ST.setOwn {i n:Nat}{v:V}{d:D}{A:List Addr}(s:ST K Hz Jz O ρ σ H1 J1)(u:Up H1 J1 H J)(fr:∀b∈A,H1 b=none)(r:RpU K H J n v d A)(nd:A.Nodup)(nj:∀b∈A,¬J b)(hi:i<ρ.length)(hp:∀n d,ρ[i]?≠some (.par n d)) :
 ST K Hz Jz O (ρ.set i (.own n d)) (σ.set i (some v)) H J:=by
 have s':=s.up u
 refine⟨s'.same,s'.j0,s'.jn,s'.ja,by simp[s.len],fun j e h=>?_,?_,fun q hq=>?_,s'.al⟩
 ·rcases zdX h with⟨rfl,he⟩ | ⟨ne,h⟩
  ·cases he
  ·rw[wai (Ne.symm ne)];exact s'.vl j e h
 ·obtain⟨fp,w⟩:=s.ow;have h0:∀b∈A,Hz b=none:=fun b hb=>by
   cases e:Hz b with
   | none=>rfl
   | some o=>exact absurd (fr b hb) (s.al b (by rw[e];simp))
  refine⟨_,w.put (i:=i) (A:=A) u.keep (fun j _ b _ o=>u.same b o) (fun j _ b hb jb=>?_) (fun j e=>wai (Ne.symm e)) (fun j e=>wai (Ne.symm e)) ?_ nd nj (fun j _ b hb hb2=>?_)⟩
  ·rcases u.jn b jb with jb | jb
   ·exact w.nj j b hb jb
   ·obtain⟨o,e,_⟩:=(w.at' j).ru b hb;rw[e] at jb;cases jb
  ·rw[wat hi,wat (by rw[s.len];exact hi)];exact⟨⟨v,rfl,r⟩,h0⟩
  ·obtain⟨o,e,_⟩:=(w.at' j).ru b hb2;rw[fr b hb] at e;cases e
 ·have e:=s.psNe hp q hq
  rw[wai (Ne.symm e),wai (Ne.symm e)];exact s.ps q hq
def ownD:Option SV->Option (Nat×D)
 | some (.own n d)=>some (n,d)
 | some (.par n d)=>some (n,d)
 | _=>none
def putD (s:Option SV)(d:D):SV:=match s with
 | some (.own n _)=>.own n d
 | some (.par n _)=>.par n d
 | _=>.un
theorem zf5 {A:List Addr}(hm:∀b∈A,∃o,H b=some o/\MutO o)(nj:∀b∈A,¬J b)(hs:∀b o,b∉A->H b=some o->H' b=some o)(jj:∀a,J a->J' a):Keep K H J H' J':=⟨jj,fun p o j h=>hs p o (fun hp=>nj p hp j) h,fun p vs h=>by
 rcases h with(h | ⟨u,h⟩) | h
 ·exact .inl (.inl (hs p _ (fun hp=>by obtain⟨o,e,m⟩:=hm p hp;rw[h] at e;cases e;exact m) h))
 ·exact .inl (.inr ⟨u,hs p _ (fun hp=>by obtain⟨o,e,m⟩:=hm p hp;rw[h] at e;cases e;exact m) h⟩)
 ·exact .inr h⟩
theorem ST.chg {i n:Nat}{d:D}(s:ST K Hz Jz O ρ σ H J)(h0:ownD (ρ[i]?)=some (n,d)):∃v A,σ[i]?=some (some v)/\RpU K H J n v d A/\A.Nodup/\(∀b∈A,¬J b)/\
 ∀(H':Hp) (J':Addr->Prop) (d':D) (A':List Addr),(∀b o,b∉A->H b=some o->H' b=some o)->(∀b,H b≠none->H' b≠none)->(∀a,J a->J' a)->(∀a,J' a->J a\/H a=none)->(∀a,J' a->H' a≠none)->
  RpU K H' J' n v d' A'->A'.Nodup->(∀b∈A',¬J' b)->(∀b∈A',b∈A\/H b=none)->ST K Hz Jz O (ρ.set i (putD (ρ[i]?) d')) σ H' J'/\Keep K H J H' J':=by
 obtain⟨fp,w⟩:=s.ow;have hat:=w.at' i
 have hi:i<ρ.length:=by
  by_cases hi:i<ρ.length
  ·exact hi
  ·rw[waG (by omega)] at h0;cases h0
 have main:(∃v,σ[i]?=some (some v)/\RpU K H J n v d (fp i))/\(∀b∈fp i,Hz b=none\/b∈O.fpo i):=by
  match hq:ρ[i]?,h0,hat with
  | some (.own m e),h0,hat=>cases h0;exact⟨hat.1,fun b hb=>.inl (hat.2 b hb)⟩
  | some (.par m e),h0,hat=>cases h0;exact hat
 obtain⟨⟨v,hv,r⟩,hfr⟩:=main;refine⟨v,fp i,hv,r,w.nd i,w.nj i,fun H' J' d' A' hs ha jj jn ja r' nd nj hA=>?_⟩;have kp:Keep K H J H' J':=zf5 (fun b hb=>hat.ru b hb) (w.nj i) hs jj
 have out:∀j,j≠i->∀b∈fp j,b∉fp i:=fun j e b hb hb2=>w.dj j i e b hb hb2
 have free:∀b,H b=none->Hz b=none:=fun b hb=>by
  cases e:Hz b with
  | none=>rfl
  | some o=>exact absurd hb (s.al b (by rw[e];simp))
 refine⟨⟨fun b o hb h=>hs b o (fun hb2=>?_) (s.same b o hb h),fun a h=>jj a (s.j0 a h),fun a h=>?_,ja,by simp[s.len],fun j e h=>?_,?_,fun q hq=>?_,fun b h=>ha b (s.al b h)⟩,kp⟩
 ·rcases hfr b hb2 with h2 | h2
  ·rw[h2] at h;cases h
  ·exact hb ⟨i,h2⟩
 ·rcases jn a h with h | h
  ·exact s.jn a h
  ·exact .inr (free a h)
 ·rcases zdX h with⟨rfl,he⟩ | ⟨ne,h⟩
  ·exfalso
   unfold putD at he;match hq:ρ[j]?,h0 with
   | some (.own m e),h0=>rw[hq] at he;cases he
   | some (.par m e),h0=>rw[hq] at he;cases he
  ·obtain⟨v,e1,r1⟩:=s.vl j e h;exact⟨v,e1,r1.keep kp⟩
 ·refine⟨_,w.put (i:=i) (A:=A') kp (fun j e b hb o ho=>hs b o (out j e b hb) ho) (fun j e b hb jb=>?_) (fun j e=>wai (Ne.symm e)) (fun _ _=>rfl) ?_ nd nj (fun j e b hb hb2=>?_)⟩
  ·rcases jn b jb with jb | jb
   ·exact w.nj j b hb jb
   ·obtain⟨o,e,_⟩:=(w.at' j).ru b hb;rw[e] at jb;cases jb
  ·rw[wat hi];match hq:ρ[i]?,h0,hat with
   | some (.own m e),h0,hat=>
     cases h0;refine⟨⟨v,hv,r'⟩,fun b hb=>?_⟩;rcases hA b hb with hb | hb
     ·exact hat.2 b hb
     ·exact free b hb
   | some (.par m e),h0,hat=>
     cases h0;refine⟨⟨v,hv,r'⟩,fun b hb=>?_⟩;rcases hA b hb with hb | hb
     ·exact hat.2 b hb
     ·exact .inl (free b hb)
  ·rcases hA b hb with hb | hb
   ·exact w.dj j i e b hb2 hb
   ·obtain⟨o,e,_⟩:=(w.at' j).ru b hb2;rw[hb] at e;cases e
 ·obtain⟨e1,e,h⟩:=s.ps q hq;refine⟨e1,?_⟩;by_cases e:q.1=i
  ·rw[e,wat hi];rw[e] at h;exact⟨d',by rw[h];rfl⟩
  ·rw[wai (Ne.symm e)];exact⟨_,h⟩
theorem ST.frz {i n:Nat}{d:D}(s:ST K Hz Jz O ρ σ H J)(h0:ρ[i]?=some (.own n d)):∃J',ST K Hz Jz O (ρ.set i (.val d)) σ H J'/\Keep K H J H J':=by
 obtain⟨fp,w⟩:=s.ow;have hat:=w.at' i
 rw[h0] at hat
 obtain⟨⟨v,hv,r⟩,hn⟩:=hat
 have hi:i<ρ.length:=(wab.mp h0).1
 have kp:Keep K H J H (fun b=>J b\/b∈fp i):=⟨fun _ h=>.inl h,fun _ _ _ h=>h,fun _ _ h=>h⟩
 refine⟨fun b=>J b\/b∈fp i,⟨s.same,fun b h=>.inl (s.j0 b h),fun b h=>?_,fun b h=>?_,by simp[s.len],fun j e h=>?_,?_,fun q hq=>?_,s.al⟩,kp⟩
 ·rcases h with h | h
  ·exact s.jn b h
  ·exact .inr (hn b h)
 ·rcases h with h | h
  ·exact s.ja b h
  ·obtain⟨o,e,_⟩:=r.some b h;rw[e];simp
 ·rcases zdX h with⟨rfl,he⟩ | ⟨ne,h⟩
  ·cases he;exact⟨v,hv,r.rp (fun _ h=>.inl h) (fun b hb=>.inr hb)⟩
  ·obtain⟨v,e1,r1⟩:=s.vl j e h;exact⟨v,e1,r1.keep kp⟩
 ·refine⟨_,w.put (i:=i) (A:=[]) kp (fun _ _ _ _ _ h=>h) (fun j e b hb jb=>?_) (fun j e=>wai (Ne.symm e)) (fun _ _=>rfl) ?_ wba (by simp) (by simp)⟩
  ·rcases jb with jb | jb
   ·exact w.nj j b hb jb
   ·exact w.dj j i e b hb jb
  ·rw[wat hi];rfl
 ·have e:=s.psNe (i:=i) (fun n d z=>by rw[h0] at z;cases z) q hq
  rw[wai (Ne.symm e)];exact s.ps q hq
def Weak (ρ' ρ:En):Prop:=ρ'.length=ρ.length/\∀(i:Nat),ρ'[i]?=ρ[i]?\/ρ'[i]?=some .un
def isUn:Option SV->Bool
 | some .un=>true
 | _=>false
theorem ST.weak {ρ':En}(s:ST K Hz Jz O ρ σ H J)(w:Weak ρ' ρ)(hO:O.ps = []):ST K Hz Jz O ρ' σ H J where
 same:=s.same
 j0:=s.j0
 jn:=s.jn
 ja:=s.ja
 len:=by rw[s.len,w.1]
 vl:=fun i d h=>by
  rcases w.2 i with e | e
  ·exact s.vl i d (e▸h)
  ·rw[e] at h;cases h
 ow:=by
  obtain⟨fp,o⟩:=s.ow;have key:∀i:Nat,(ρ'[i]?=some SV.un)\/ρ'[i]?=ρ[i]?:=fun i=>(w.2 i).symm
  refine⟨fun i=>if isUn (ρ'[i]?) then[] else fp i,fun i=>?_,fun i=>?_,fun i b hb=>?_,fun i j ne b hb=>?_⟩
  ·have q:=o.at' i
   rcases key i with e | e
   ·rw[e];rfl
   ·rw[e];cases z:ρ[i]? with
    | none=>rw[z] at q;exact q
    | some x=>
      rw[z] at q;cases x with
      | un=>rfl
      | val d=>exact q
      | own n d=>exact q
      | par n d=>exact q
  ·split
   ·exact wba
   ·exact o.nd i
  ·split at hb
   ·cases hb
   ·exact o.nj i b hb
  ·split at hb
   ·cases hb
   ·split
    ·simp
    ·exact o.dj i j ne b hb
 ps:=by rw[hO];simp
 al:=s.al
end
end VD
namespace VD
open PySem PySem.Spec PyProof PyProof.Rows L2
abbrev FE:=En->Option D
abbrev FT:=En->Option Bool
abbrev FA:=En->Option (List D)
def lim:Nat:=100000
theorem zeT:lim<sizeLine:=by decide
theorem zcg {n:Nat}(h:n<=lim):n<=sizeLine:=waq h (wbs zeT)
def mkL (ds:List D):Option D:=if ds.length<=lim then some (.lst ds) else none
def mkT (ds:List D):Option D:=if ds.length<=lim then some (.tup ds) else none
theorem zlL {ds:List D}{d:D}(h:mkL ds=some d):ds.length<=lim/\d=.lst ds:=by
 unfold mkL at h;by_cases e:ds.length<=lim
 ·rw[if_pos e] at h;exact⟨e,(wau h).symm⟩
 ·rw[if_neg e] at h;cases h
theorem zew {ds:List D}{d:D}(h:mkT ds=some d):ds.length<=lim/\d=.tup ds:=by
 unfold mkT at h;by_cases e:ds.length<=lim
 ·rw[if_pos e] at h;exact⟨e,(wau h).symm⟩
 ·rw[if_neg e] at h;cases h
section
variable (K:W.Frag)
def zj3 (H:Hp)(J:Addr->Prop)(d:D)(Q:VK):Prop:=∀v H' J',Up H J H' J'->Rp K H' J' v d->Q v H'
def zpr (H:Hp)(J:Addr->Prop)(d:D)(Q:VK):Prop:=∀v H' J',Up H J H' J'->RpW K H' J' v d->Q v H'
def zps (H:Hp)(J:Addr->Prop)(ds:List D)(Q:VK):Prop:=∀p vs H' J',Up H J H' J'->H p=none->¬J' p->H' p=some (.lst vs)->RpL K H' J' vs ds->Q (.ref p) H'
def zmY (H:Hp)(J:Addr->Prop)(b:Bool)(Q:Bool->Hp->Prop):Prop:=∀H' J',Up H J H' J'->Q b H'
def zpt (H:Hp)(J:Addr->Prop)(ds:List D)(Q:List V->Hp->Prop):Prop:=∀vs H' J',Up H J H' J'->RpL K H' J' vs ds->Q vs H'
def GoE (t:TE)(f:FE):Prop:=∀Hz Jz O ρ σ H J d Q,ST K Hz Jz O ρ σ H J->f ρ=some d->zj3 K H J d Q->t σ H Q
def GoW (t:TE)(f:FE):Prop:=∀Hz Jz O ρ σ H J d Q,ST K Hz Jz O ρ σ H J->f ρ=some d->zpr K H J d Q->t σ H Q
def GoN (t:TE)(f:FA):Prop:=∀Hz Jz O ρ σ H J d Q,ST K Hz Jz O ρ σ H J->f ρ=some d->zps K H J d Q->t σ H Q
def GoT (t:TT)(f:FT):Prop:=∀Hz Jz O ρ σ H J b Q,ST K Hz Jz O ρ σ H J->f ρ=some b->zmY H J b Q->t σ H Q
def GoA (t:TA)(f:FA):Prop:=∀Hz Jz O ρ σ H J ds Q,ST K Hz Jz O ρ σ H J->f ρ=some ds->zpt K H J ds Q->t σ H Q
end
def VE (X:Cx)(e:Expr)(f:FE):Prop:=∃t,PE X e t/\GoE X.K t f
def VW (X:Cx)(e:Expr)(f:FE):Prop:=∃t,PE X e t/\GoW X.K t f
def VN (X:Cx)(e:Expr)(f:FA):Prop:=∃t,PE X e t/\GoN X.K t f
def VT (X:Cx)(e:Expr)(f:FT):Prop:=∃t,PT X e t/\GoT X.K t f
def VP (X:Cx)(e:Expr)(f:FT):Prop:=∃t,PW X e t/\GoT X.K t f
def VA (X:Cx)(es:List Expr)(f:FA):Prop:=∃t,PA X es t/\GoA X.K t f
def RpWL (K:W.Frag)(H:Hp)(J:Addr->Prop):List V->List D->Prop
 | [],[]=>True
 | v::vs,d::ds=>RpW K H J v d/\RpWL K H J vs ds
 | _,_=>False
def GoAW (K:W.Frag)(t:TA)(f:FA):Prop:=∀Hz Jz O ρ σ H J ds Q,ST K Hz Jz O ρ σ H J->f ρ=some ds->(∀vs H' J',Up H J H' J'->RpWL K H' J' vs ds->Q vs H')->t σ H Q
def VAW (X:Cx)(es:List Expr)(f:FA):Prop:=∃t,PA X es t/\GoAW X.K t f
theorem RpW.up {K:W.Frag}{H H':Hp}{J J':Addr->Prop}{v:V}{d:D}(h:RpW K H J v d)(u:Up H J H' J'):RpW K H' J' v d:=by
 rcases h with h | ⟨A,h⟩
 ·exact .inl (h.keep u.keep)
 ·exact .inr ⟨A,h.keep u.keep fun b _ o=>u.same b o⟩
section
variable {X:Cx}{a b c e:Expr}{es rest:List Expr}{fa fb:FE}{ft fu:FT}{fl:FA}{pos p:Pos}
theorem VE.w (h:VE X a fa):VW X a fa:=by
 obtain⟨t,p,g⟩:=h;exact⟨t,p,fun Hz Jz O ρ σ H J d Q s e w=>g Hz Jz O ρ σ H J d Q s e fun v H' J' u r=>w v H' J' u (.inl r)⟩
def eVar (i:Nat):FE:=fun ρ=>match ρ[i]? with | some (.val d)=>some d | _=>none
def eRd (i:Nat):FE:=fun ρ=>match ρ[i]? with | some (.val d)=>some d | some (.own 1 d)=>some d | some (.par 1 d)=>some d | _=>none
theorem zmZ {K:W.Frag}{i:Nat}:GoE K (tVar i) (eVar i):=by
 intro Hz Jz O ρ σ H J d Q s e w;unfold eVar at e;split at e
 ·rename_i d' q
  cases e;obtain⟨v,hv,r⟩:=s.vl i _ q;exact⟨v,hv,w v H J (Up.refl s.ja) r⟩
 ·cases e
theorem ST.rd {K:W.Frag}{Hz H:Hp}{Jz J:Addr->Prop}{O:Pr}{ρ:En}{σ:L2.St}{i n:Nat}{d:D}(s:ST K Hz Jz O ρ σ H J)(h:ownD (ρ[i]?)=some (n,d)):∃v A,σ[i]?=some (some v)/\RpU K H J n v d A:=by
 obtain⟨v,A,h1,h2,_⟩:=s.chg h;exact⟨v,A,h1,h2⟩
theorem zpu {K:W.Frag}{i:Nat}:GoW K (tVar i) (eRd i):=by
 intro Hz Jz O ρ σ H J d Q s e w;unfold eRd at e;split at e
 ·rename_i d' q
  cases e;obtain⟨v,hv,r⟩:=s.vl i _ q;exact⟨v,hv,w v H J (Up.refl s.ja) (.inl r)⟩
 ·rename_i d' q
  cases e;obtain⟨v,A,hv,r⟩:=s.rd (i:=i) (n:=1) (d:=d) (by rw[q];rfl);exact⟨v,hv,w v H J (Up.refl s.ja) (.inr ⟨A,r⟩)⟩
 ·rename_i d' q
  cases e;obtain⟨v,A,hv,r⟩:=s.rd (i:=i) (n:=1) (d:=d) (by rw[q];rfl);exact⟨v,hv,w v H J (Up.refl s.ja) (.inr ⟨A,r⟩)⟩
 ·cases e
theorem vv (i:Nat){x:Str}{pos:Pos}(hN:X.N[i]?=some x:=by rfl)(hv:Vis X.env.scope x:=by first | exact Or.inl rfl | exact Or.inr (Or.inl rfl) | exact Or.inr (Or.inr rfl))(hd:(x == ("__debug__" : Str))=false:=by decide)
 (hcd:(x == ("__classdict__" : Str))=false:=by decide):VE X (.Name x pos) (eVar i):=⟨_,zb1 hN hv hd hcd,zmZ⟩
theorem vr (i:Nat){x:Str}{pos:Pos}(hN:X.N[i]?=some x:=by rfl)(hv:Vis X.env.scope x:=by first | exact Or.inl rfl | exact Or.inr (Or.inl rfl) | exact Or.inr (Or.inr rfl))(hd:(x == ("__debug__" : Str))=false:=by decide)
 (hcd:(x == ("__classdict__" : Str))=false:=by decide):VW X (.Name x pos) (eRd i):=⟨_,zb1 hN hv hd hcd,zpu⟩
theorem vvC (i:Nat){X:Cx}{scope:Scope}{cl:List (Str×Addr)}{NC:List Str}{C:Addr}{s0:Shared}{H0:Hp}{ex:List Addr}{pn:List (Addr×Obj)}{x:Str}{pos:Pos}(hi:NC[i]?=some x)(hfk:X.env.scope.kind=.function)
 (h1:scope.names.lookup x=some .free) (h2:X.env.scope.names.lookup x=some .cell) (hd:(x == ("__debug__" : Str))=false:=by decide) (hcd:(x == ("__classdict__" : Str))=false:=by decide):VE (cxC X scope cl NC C s0 H0 ex pn) (.Name x pos) (eVar i):=
 ⟨_,pvC i hi hfk h1 h2 hd hcd,zmZ⟩
def eK (d:D):FE:=fun _=>some d
theorem go_c {K:W.Frag}{v:V}{d:D}(h:∀H J,Rp K H J v d):GoE K (tC v) (eK d):=by
 intro Hz Jz O ρ σ H J d' Q s e w;cases e;exact w v H J (Up.refl s.ja) (h H J)
theorem zad {i j pos}:VE X (.Constant (.int i) j pos) (eK (.int i)):=⟨_,zig,go_c fun _ _=>.int i⟩
theorem zhH {i j pos}:VE X (.Constant (.bool i) j pos) (eK (.bl i)):=⟨_,zqj,go_c fun _ _=>.bl i⟩
theorem zaK {i j pos}:VE X (.Constant (.str i) j pos) (eK (.str i)):=⟨_,zgt,go_c fun _ _=>.str i⟩
theorem zcL {j pos}:VE X (.Constant .none j pos) (eK .non):=⟨_,zoW,go_c fun _ _=>.non⟩
structure GlobD (K:W.Frag)(mg:Str->Option Value)(x:Str)(d:D):Prop where
 ex:∃u v,mg x=some u/\RelV v u/\∀H J,Rp K H J v d
theorem zbh {x:Str}{d:D}{pos:Pos}(G:GlobD X.K X.mg x d)(hg:Gl X x:=by rfl)(hd:(x == ("__debug__" : Str))=false:=by decide):VE X (.Name x pos) (eK d):=by
 obtain⟨u,v,h1,h2,h3⟩:=G.ex;exact⟨_,znn hg h1 h2 hd,go_c h3⟩
def e2 (F:D->D->Option D)(f g:FE):FE:=fun ρ=>(f ρ).bind fun x=>(g ρ).bind fun y=>F x y
def e1 (F:D->Option D)(f:FE):FE:=fun ρ=>(f ρ).bind F
theorem bind_some {α β:Type}{o:Option α}{f:α->Option β}{b:β}(h:o.bind f=some b):∃a,o=some a/\f a=some b:=by
 cases o with
 | none=>cases h
 | some a=>exact⟨a,rfl,h⟩
def Im2 (K:W.Frag)(r:R2)(F:D->D->Option D):Prop:=∀H J x y d e d' Q,(∀a,J a->H a≠none)->RpW K H J x d->RpW K H J y e->F d e=some d'->zj3 K H J d' Q->r x y H Q
theorem zlM {K:W.Frag}{r:R2}{F:D->D->Option D}{ta tb:TE}(im:Im2 K r F)(ga:GoW K ta fa)(gb:GoW K tb fb):GoE K (tOp r ta tb) (e2 F fa fb):=by
 intro Hz Jz O ρ σ H J d Q s e w;obtain⟨x,ex,e⟩:=bind_some e;obtain⟨y,ey,e⟩:=bind_some e;refine ga Hz Jz O ρ σ H J x _ s ex fun v1 H1 J1 u1 r1=>?_
 refine gb Hz Jz O ρ σ H1 J1 y _ (s.up u1) ey fun v2 H2 J2 u2 r2=>?_
 exact im H2 J2 v1 v2 x y d Q u2.ja (r1.up u2) r2 e fun v3 H3 J3 u3 r3=>w v3 H3 J3 (u1.trans (u2.trans u3)) r3
theorem zax {op:Operator}{r:R2}{F:D->D->Option D}(ho:OpR X (binaryOp op) r)(im:Im2 X.K r F)(ha:VW X a fa)(hb:VW X b fb):VE X (.BinOp a op b pos) (e2 F fa fb):=by
 obtain⟨ta,pa,ga⟩:=ha;obtain⟨tb,pb,gb⟩:=hb;exact⟨_,zo4 ho pa pb,zlM im ga gb⟩
theorem zgQ {op:CmpOp}{r:R2}{F:D->D->Option D}(ho:OpR X (compareOp op) r)(im:Im2 X.K r F)(ha:VW X a fa)(hb:VW X b fb)(hm:behindInMarks op b=false):VE X (.Compare a [op] [b] pos) (e2 F fa fb):=by
 obtain⟨ta,pa,ga⟩:=ha;obtain⟨tb,pb,gb⟩:=hb;exact⟨_,znr ho pa pb hm,zlM im ga gb⟩
def dB:D->Option Bool
 | .bl b=>some b
 | _=>none
def t1 (f:FE):FT:=fun ρ=>(f ρ).bind dB
theorem znK {K:W.Frag}{t:TE}{f:FE}(g:GoE K t f):GoT K (zns t) (t1 f):=by
 intro Hz Jz O ρ σ H J d Q s e w;obtain⟨x,ex,e⟩:=bind_some e;refine g Hz Jz O ρ σ H J x _ s ex fun v H1 J1 u1 r1=>?_
 cases x with
 | bl k=>cases e;cases r1;exact⟨_,rfl,w H1 J1 u1⟩
 | _=>cases e
theorem zaC {op:CmpOp}{r:R2}{F:D->D->Option D}(ho:OpR X (compareOp op) r)(im:Im2 X.K r F)(ha:VW X a fa)(hb:VW X b fb)(hm:behindInMarks op b=false):VT X (.Compare a [op] [b] pos) (t1 (e2 F fa fb)):=by
 obtain⟨ta,pa,ga⟩:=ha;obtain⟨tb,pb,gb⟩:=hb;exact⟨_,zjy ho pa pb hm,znK (zlM im ga gb)⟩
def e3 (F G:D->D->Option D)(f g h:FE):FE:=fun ρ=>(f ρ).bind fun x=>(g ρ).bind fun y=>(F x y).bind fun z=>(dB z).bind fun k=>if k then(h ρ).bind fun w=>G y w else some (.bl false)
def dTru:D->Option Bool
 | .non=>some false
 | .bl b=>some b
 | .int i=>some (i != 0)
 | .str x=>if x.length<=lim then some ((x.length:Int) != 0) else none
 | .tup ds=>some (!ds.isEmpty)
 | .lst ds=>some (!ds.isEmpty)
 | .dct ks _=>some (!ks.isEmpty)
 | .scr _=>none
 | .exc _ _ _=>none
 | .dcu _ _=>none
def tT (f:FE):FT:=fun ρ=>(f ρ).bind dTru
theorem zeU {α β:Type}{xs:List α}{ys:List β}(h:xs.length=ys.length):xs.isEmpty=ys.isEmpty:=by
 cases xs <;> cases ys <;> first | rfl | cases h
theorem zpv {K:W.Frag}{H:Hp}{J:Addr->Prop}{v:V}{d:D}{k:Bool}(r:RpW K H J v d)(h:dTru d=some k):TruV K v H k:=by
 cases d with
 | non=>rw[r.non];cases h;rfl
 | bl b=>rw[r.bl];cases h;rfl
 | int b=>rw[r.int];cases h;rfl
 | str x=>
   rw[r.str];have h:(if x.length<=lim then some ((x.length:Int) != 0) else none)=some k:=h
   by_cases e:x.length<=lim
   ·rw[if_pos e] at h;cases h;exact⟨zcg e,rfl⟩
   ·rw[if_neg e] at h;cases h
 | tup ds=>obtain⟨p,vs,rfl,h1,h2⟩:=r.tup;cases h;exact .inr (.inl ⟨vs,h1,by rw[zeU h2.length]⟩)
 | lst ds=>obtain⟨p,vs,rfl,h1,h2⟩:=r.lst;cases h;exact .inl ⟨vs,SqL.of h1,by rw[zeU h2.length]⟩
 | scr p=>cases h
 | exc _ _ _=>cases h
 | dcu _ _=>cases h
 | dct ks ds=>
   obtain⟨p,kvs,vs,rfl,h1,h2,h3,h4⟩:=r.dct;cases h;refine .inr (.inr ⟨kvs,h1,?_⟩);rw[<-h2];cases kvs <;> rfl
theorem zj4 (ha:VW X a fa)(he:∀whole,isTrue a X.env whole=(do let v <-whole;standAt a.pos;holding [v] (truthy v)):=by intro _;rfl):VT X a (tT fa):=by
 obtain⟨ta,pa,ga⟩:=ha;refine⟨_,zlv pa he,?_⟩;intro Hz Jz O ρ σ H J d Q s e w;obtain⟨x,ex,e⟩:=bind_some e;refine ga Hz Jz O ρ σ H J x _ s ex fun v H1 J1 u1 r1=>?_
 exact⟨d,zpv r1 e,w H1 J1 u1⟩
def tAndF (f g:FT):FT:=fun ρ=>(f ρ).bind fun k=>if k then g ρ else some false
def tOrF (f g:FT):FT:=fun ρ=>(f ρ).bind fun k=>if k then some true else g ρ
def tNotF (f:FT):FT:=fun ρ=>(f ρ).bind fun k=>some (!k)
theorem zpw {K:W.Frag}{t u:TT}(g1:GoT K t ft)(g2:GoT K u fu):GoT K (tAnd t u) (tAndF ft fu):=by
 intro Hz Jz O ρ σ H J d Q s e w;obtain⟨k,ek,e⟩:=bind_some e;refine g1 Hz Jz O ρ σ H J k _ s ek fun H1 J1 u1=>?_
 cases k with
 | true=>exact iteT (g2 Hz Jz O ρ σ H1 J1 d Q (s.up u1) e fun H2 J2 u2=>w H2 J2 (u1.trans u2))
 | false=>have e':some false=some d:=e;cases e';exact iteF (w H1 J1 u1)
theorem zqD {K:W.Frag}{t u:TT}(g1:GoT K t ft)(g2:GoT K u fu):GoT K (tOr t u) (tOrF ft fu):=by
 intro Hz Jz O ρ σ H J d Q s e w;obtain⟨k,ek,e⟩:=bind_some e;refine g1 Hz Jz O ρ σ H J k _ s ek fun H1 J1 u1=>?_
 cases k with
 | true=>have e':some true=some d:=e;cases e';exact iteT (w H1 J1 u1)
 | false=>exact iteF (g2 Hz Jz O ρ σ H1 J1 d Q (s.up u1) e fun H2 J2 u2=>w H2 J2 (u1.trans u2))
theorem zf6 (h:VT X a ft):VP X (.BoolOp .And [a] pos) ft:=let ⟨t,p,g⟩:=h;⟨t,zjq p,g⟩
theorem ziq (h:VT X a ft):VP X (.BoolOp .Or [a] pos) ft:=let ⟨t,p,g⟩:=h;⟨t,zoX p,g⟩
theorem zgR (h:VT X a ft)(h2:VP X (.BoolOp .And (b::rest) pos) fu):VP X (.BoolOp .And (a::b::rest) pos) (tAndF ft fu):=let ⟨_,p,g⟩:=h;let ⟨_,p2,g2⟩:=h2;⟨_,zmL p p2,zpw g g2⟩
theorem zhI (h:VT X a ft)(h2:VP X (.BoolOp .Or (b::rest) pos) fu):VP X (.BoolOp .Or (a::b::rest) pos) (tOrF ft fu):=let ⟨_,p,g⟩:=h;let ⟨_,p2,g2⟩:=h2;⟨_,zqk p p2,zqD g g2⟩
theorem VP.t (h:VP X a ft):VT X a ft:=let ⟨t,p,g⟩:=h;⟨t,p.pt,g⟩
theorem zpx (h:VT X a ft):VT X (.UnaryOp .Not a pos) (tNotF ft):=by
 obtain⟨t,p,g⟩:=h;refine⟨_,zoY p,?_⟩;intro Hz Jz O ρ σ H J d Q s e w;obtain⟨k,ek,e⟩:=bind_some e;cases e;exact g Hz Jz O ρ σ H J k _ s ek fun H1 J1 u1=>w H1 J1 u1
def eNot (f:FE):FE:=fun ρ=>(t1 f ρ).bind fun k=>some (.bl (!k))
theorem zm0 (h:VE X a fa):VE X (.UnaryOp .Not a pos) (eNot fa):=by
 obtain⟨t,p,g⟩:=h;refine⟨_,zoZ p,?_⟩;intro Hz Jz O ρ σ H J d Q s e w;obtain⟨k,ek,e⟩:=bind_some e;obtain⟨x,ex,ek⟩:=bind_some ek;refine g Hz Jz O ρ σ H J x _ s ex fun v H1 J1 u1 r1=>?_
 cases x with
 | bl k'=>
   have ek':k'=k:=wau ek
   subst ek';cases r1;cases e;exact⟨_,rfl,w _ H1 J1 u1 (.bl _)⟩
 | _=>cases ek
def eIf (c:FT)(f g:FE):FE:=fun ρ=>(c ρ).bind fun k=>if k then f ρ else g ρ
theorem zi2 (hc:VT X c ft)(ha:VE X a fa)(hb:VE X b fb):VE X (.IfExp c a b pos) (eIf ft fa fb):=by
 obtain⟨t,p,g⟩:=hc;obtain⟨ta,pa,ga⟩:=ha;obtain⟨tb,pb,gb⟩:=hb;refine⟨_,zlm p pa pb,?_⟩;intro Hz Jz O ρ σ H J d Q s e w;obtain⟨k,ek,e⟩:=bind_some e;refine g Hz Jz O ρ σ H J k _ s ek fun H1 J1 u1=>?_
 cases k with
 | true=>exact iteT (ga Hz Jz O ρ σ H1 J1 d Q (s.up u1) e fun v2 H2 J2 u2 r2=>w v2 H2 J2 (u1.trans u2) r2)
 | false=>exact iteF (gb Hz Jz O ρ σ H1 J1 d Q (s.up u1) e fun v2 H2 J2 u2 r2=>w v2 H2 J2 (u1.trans u2) r2)
def aNil:FA:=fun _=>some []
def aCons (f:FE)(g:FA):FA:=fun ρ=>(f ρ).bind fun x=>(g ρ).bind fun xs=>some (x::xs)
theorem zag:VA X [] aNil:=⟨_,zdr,fun Hz Jz O ρ σ H J ds Q s e w=>by cases e;exact w [] H J (Up.refl s.ja) .nil⟩
theorem zaa (ha:VE X e fa)(hr:VA X es fl)(hs:starEach (e::es) X.env=(false,eval e X.env)::starEach es X.env:=by rfl):VA X (e::es) (aCons fa fl):=by
 obtain⟨t,p,g⟩:=ha;obtain⟨t2,p2,g2⟩:=hr;refine⟨_,zcr p p2 hs,?_⟩;intro Hz Jz O ρ σ H J ds Q s e w;obtain⟨x,ex,e⟩:=bind_some e;obtain⟨xs,exs,e⟩:=bind_some e;cases e;refine g Hz Jz O ρ σ H J x _ s ex fun v1 H1 J1 u1 r1=>?_
 refine g2 Hz Jz O ρ σ H1 J1 xs _ (s.up u1) exs fun vs H2 J2 u2 r2=>?_
 exact w _ H2 J2 (u1.trans u2) (.cons (r1.keep u2.keep) r2)
theorem zaV:VAW X [] aNil:=⟨_,zdr,fun Hz Jz O ρ σ H J ds Q s e w=>by cases e;exact w [] H J (Up.refl s.ja) trivial⟩
theorem zav (ha:VW X e fa)(hr:VAW X es fl)(hs:starEach (e::es) X.env=(false,eval e X.env)::starEach es X.env:=by rfl):VAW X (e::es) (aCons fa fl):=by
 obtain⟨t,p,g⟩:=ha;obtain⟨t2,p2,g2⟩:=hr;refine⟨_,zcr p p2 hs,?_⟩;intro Hz Jz O ρ σ H J ds Q s e w;obtain⟨x,ex,e⟩:=bind_some e;obtain⟨xs,exs,e⟩:=bind_some e;cases e;refine g Hz Jz O ρ σ H J x _ s ex fun v1 H1 J1 u1 r1=>?_
 refine g2 Hz Jz O ρ σ H1 J1 xs _ (s.up u1) exs fun vs H2 J2 u2 r2=>?_
 exact w _ H2 J2 (u1.trans u2) ⟨r1.up u2,r2⟩
def eTup (f:FA):FE:=fun ρ=>(f ρ).bind mkT
theorem zbg {x1}(h:VA X es fl):VE X (.Tuple es x1 pos) (eTup fl):=by
 obtain⟨t,p,g⟩:=h;refine⟨_,zjz p,?_⟩;intro Hz Jz O ρ σ H J d Q s e w;obtain⟨xs,exs,e⟩:=bind_some e;obtain⟨hl,rfl⟩:=zew e;refine g Hz Jz O ρ σ H J xs _ s exs fun vs H1 J1 u1 r1=>⟨by rw[r1.length];exact zcg hl,fun p hp=>?_⟩
 have un:=Up.new u1.ja hp (.tup vs)
 exact w _ _ _ (u1.trans un) (.tup (SqT.of zah) (r1.keep un.keep))
def aMk (f:FA):FA:=fun ρ=>(f ρ).bind fun ds=>if ds.length<=lim then some ds else none
theorem zlN {f:FA}{ρ:En}{ds:List D}(h:aMk f ρ=some ds):f ρ=some ds/\ds.length<=lim:=by
 obtain⟨xs,e1,e2⟩:=bind_some h;by_cases hl:xs.length<=lim
 ·rw[if_pos hl] at e2;cases e2;exact⟨e1,hl⟩
 ·rw[if_neg hl] at e2;cases e2
theorem zbT (h:VA X es fl):VN X (.List es pos) (aMk fl):=by
 obtain⟨t,p,g⟩:=h;refine⟨_,zjA p,?_⟩;intro Hz Jz O ρ σ H J ds Q s e w;obtain⟨e1,hl⟩:=zlN e;refine g Hz Jz O ρ σ H J ds _ s e1 fun vs H1 J1 u1 r1=>⟨by rw[r1.length];exact zcg hl,fun p hp=>?_⟩
 have un:=Up.new u1.ja hp (.lst vs)
 exact w p vs _ J1 (u1.trans un) (u1.same.free hp) (fun j=>u1.ja p j hp) zah (r1.keep un.keep)
def eL (f:FA):FE:=fun ρ=>(f ρ).bind fun ds=>some (.lst ds)
theorem zpy {K:W.Frag}{t:TE}{f:FA}(g:GoN K t f):GoE K t (eL f):=by
 intro Hz Jz O ρ σ H J d Q s e w;obtain⟨ds,e1,e⟩:=bind_some e;cases e;refine g Hz Jz O ρ σ H J ds _ s e1 fun p vs H1 J1 u1 hp nj h1 r1=>?_
 have kp:Keep K H1 J1 H1 (fun a=>J1 a\/a=p):=⟨fun _ h=>.inl h,fun _ _ _ h=>h,fun _ _ h=>h⟩
 refine w (.ref p) H1 (fun a=>J1 a\/a=p) ⟨u1.same,fun a h=>.inl (u1.jj a h),fun a h=>?_,fun a h=>?_⟩ (.lst h1 (.inr rfl) (r1.keep kp))
 ·rcases h with h | rfl
  ·exact u1.jn a h
  ·exact .inr hp
 ·rcases h with h | rfl
  ·exact u1.ja a h
  ·rw[h1];simp
theorem VN.ve {f:FA}(h:VN X a f):VE X a (eL f):=let ⟨_,p,g⟩:=h;⟨_,p,zpy g⟩
def spF (K:W.Frag)(F:List D->Option D):Sp:=fun vs H Q _=>∃J ds d,(∀a,J a->H a≠none)/\RpL K H J vs ds/\F ds=some d/\zj3 K H J d Q
def eCall (F:List D->Option D)(f:FA):FE:=fun ρ=>(f ρ).bind F
theorem zar {k k':Nat}{x:Str}{ps:List Str}{F:List D->Option D}(C:Cal X.prog X.w X.K X.mg X.base k x ps (spF X.K F))(hr:Room k' X.A)(ha:VA X (e::es) fl)(hk:k<=k':=by decide)(hg:Gl X x:=by rfl)(hdb:(x == ("__debug__" : Str))=false:=by decide)
 (he:starEach (e::es) X.env=(false,eval e X.env)::starEach es X.env:=by rfl) (hpl:(backTo pos (starEach es X.env)).any (·.1)=false:=by rfl):VE X (.Call (.Name x p) (e::es) [] pos) (eCall F fl):=by
 obtain⟨t,p,g⟩:=ha;refine⟨_,pc C hr p hk hg hdb he hpl,?_⟩;intro Hz Jz O ρ σ H J d Q s e w;obtain⟨ds,e1,e⟩:=bind_some e;refine g Hz Jz O ρ σ H J ds _ s e1 fun vs H1 J1 u1 r1=>?_
 refine⟨J1,ds,d,u1.ja,by rw[waJ];exact r1,e,fun v H2 J2 u2 r2=>w v H2 J2 (u1.trans u2) r2⟩
def ImC (K:W.Frag)(r:List V->Hp->VK->Prop)(F:List D->Option D):Prop:=∀H J vs ds d Q,(∀a,J a->H a≠none)->RpWL K H J vs ds->F ds=some d->zj3 K H J d Q->r vs H Q
theorem zpz {K:W.Frag}{r:List V->Hp->VK->Prop}{F:List D->Option D}{t:TA}(im:ImC K r F)(g:GoAW K t fl):GoE K (tCB r t) (eCall F fl):=by
 intro Hz Jz O ρ σ H J d Q s e w;obtain⟨ds,e1,e⟩:=bind_some e;refine g Hz Jz O ρ σ H J ds _ s e1 fun vs H1 J1 u1 r1=>?_
 exact im H1 J1 vs ds d Q u1.ja r1 e fun v H2 J2 u2 r2=>w v H2 J2 (u1.trans u2) r2
theorem ve_b {id:String}{x:Str}{r:List V->Hp->VK->Prop}{F:List D->Option D}(hc:zdV X (.builtin id) r)(im:ImC X.K r F)(B:Blt X.mg)(hv:bootBuiltins x=some (.builtin id))(ha:VAW X (e::es) fl)(hB:x∈zcZ:=by decide +kernel)(hg:Gl X x:=by rfl)(hn:x≠"__name__":=by decide)(hdb:(x == ("__debug__" : Str))=false:=by decide)
 (he:starEach (e::es) X.env=(false,eval e X.env)::starEach es X.env:=by rfl) (hpl:(backTo pos (starEach es X.env)).any (·.1)=false:=by rfl):VE X (.Call (.Name x p) (e::es) [] pos) (eCall F fl):=by
 obtain⟨t,p,g⟩:=ha;exact⟨_,pb hc B hv p hB hg hn hdb he hpl,zpz im g⟩
theorem zj5 {T:String}{x:Str}{r:List V->Hp->VK->Prop}{F:List D->Option D}(hc:zdV X (.type T) r)(im:ImC X.K r F)(B:Blt X.mg)(hv:bootBuiltins x=some (.type T))(ha:VAW X (e::es) fl)(hB:x∈zcZ:=by decide +kernel)(hg:Gl X x:=by rfl)(hn:x≠"__name__":=by decide)(hdb:(x == ("__debug__" : Str))=false:=by decide)
 (he:starEach (e::es) X.env=(false,eval e X.env)::starEach es X.env:=by rfl) (hpl:(backTo pos (starEach es X.env)).any (·.1)=false:=by rfl):VE X (.Call (.Name x p) (e::es) [] pos) (eCall F fl):=by
 obtain⟨t,p,g⟩:=ha;exact⟨_,pty hc B hv p hB hg hn hdb he hpl,zpz im g⟩
end
section
variable {K:W.Frag}{X:Cx}
def dAdd:D->D->Option D
 | .int i,.int j=>some (.int (i+j))
 | .str x,.str y=>if x.length+y.length<=lim then some (.str (x++y)) else none
 | .lst xs,.lst ys=>mkL (xs++ys)
 | .tup xs,.tup ys=>if ys = [] then none else mkT (xs++ys)
 | _,_=>none
def zpA (K:W.Frag):R2:=fun x y H Q=>(rI0 fun i j=>.int (i+j)) x y H Q\/(∃i j,x=.str i/\y=.str j/\i.length+j.length<=sizeLine/\Q (.str (i++j)) H)\/rCat x y H Q\/zpg K x y H Q
theorem za9:OpR X (binaryOp .Add) (zpA X.K):=op_add.or (op_add_str.or (op_cat.or znC))
theorem zaL:Im2 K (zpA K) dAdd:=by
 intro H J x y d e d' Q ja hx hy hF w;match d,e,hF with
 | .int i,.int j,hF=>
   cases hF;rw[hx.int,hy.int];exact .inl ⟨i,j,rfl,rfl,w _ H J (Up.refl ja) (.int _)⟩
 | .str a,.str b,hF=>
   have hF:(if a.length+b.length<=lim then some (D.str (a++b)) else none)=some d':=hF
   by_cases hl:a.length+b.length<=lim
   ·rw[if_pos hl] at hF;cases hF;rw[hx.str,hy.str];exact .inr (.inl ⟨a,b,rfl,rfl,zcg hl,w _ H J (Up.refl ja) (.str _)⟩)
   ·rw[if_neg hl] at hF;cases hF
 | .lst xs,.lst ys,hF=>
   have hF:mkL (xs++ys)=some d':=hF
   obtain⟨hl,rfl⟩:=zlL hF;obtain⟨p,vs,rfl,h1,r1⟩:=hx.lst;obtain⟨q,us,rfl,h2,r2⟩:=hy.lst;refine .inr (.inr (.inl ⟨p,q,vs,us,rfl,rfl,h1,h2,?_,fun c hc=>?_⟩))
   ·rw[r1.length,r2.length,<-wam];exact zcg hl
   ·have un:=Up.newJ ja hc (.lst (vs++us))
    exact w _ _ _ un (.lst zah (.inr rfl) ((r1.append r2).keep un.keep))
 | .tup xs,.tup ys,hF=>
   have hF:(if ys = [] then none else mkT (xs++ys))=some d':=hF
   by_cases hy0:ys = []
   ·rw[if_pos hy0] at hF;cases hF
   ·rw[if_neg hy0] at hF;obtain⟨hl,rfl⟩:=zew hF;obtain⟨p,vs,rfl,h1,r1⟩:=hx.tup;obtain⟨q,us,rfl,h2,r2⟩:=hy.tup;refine .inr (.inr (.inr ⟨p,q,vs,us,rfl,rfl,h1,h2,?_,?_,fun e=>?_,fun _ c hc=>?_⟩))
    ·rintro rfl;exact hy0 (waW.mp (by rw[<-r2.length];rfl))
    ·rw[r1.length,r2.length,<-wam];exact zcg hl
    ·subst e;obtain rfl:xs = []:=waW.mp (by rw[<-r1.length];rfl);exact w _ H J (Up.refl ja) (.tup h2 r2)
    ·have un:=Up.new ja hc (.tup (vs++us))
     exact w _ _ _ un (.tup (SqT.of zah) ((r1.append r2).keep un.keep))
def dI (C:Int->Int->Prop)[∀i j,Decidable (C i j)](g:Int->Int->D):D->D->Option D
 | .int i,.int j=>if C i j then some (g i j) else none
 | _,_=>none
theorem im_I {C:Int->Int->Prop}[∀i j,Decidable (C i j)]{g:Int->Int->V}{g':Int->Int->D}(hg:∀i j H J,Rp K H J (g i j) (g' i j)):Im2 K (rI C g) (dI C g'):=by
 intro H J x y d e d' Q ja hx hy hF w;match d,e,hF with
 | .int i,.int j,hF=>
   have hF:(if C i j then some (g' i j) else none)=some d':=hF
   by_cases hc:C i j
   ·rw[if_pos hc] at hF;cases hF;rw[hx.int,hy.int];exact⟨i,j,rfl,rfl,hc,w _ H J (Up.refl ja) (hg i j H J)⟩
   ·rw[if_neg hc] at hF;cases hF
def dI0 (g:Int->Int->D):D->D->Option D
 | .int i,.int j=>some (g i j)
 | _,_=>none
theorem zlO {g:Int->Int->V}{g':Int->Int->D}(hg:∀i j H J,Rp K H J (g i j) (g' i j)):Im2 K (rI0 g) (dI0 g'):=by
 intro H J x y d e d' Q ja hx hy hF w;match d,e,hF with
 | .int i,.int j,hF=>
   cases hF;rw[hx.int,hy.int];exact⟨i,j,rfl,rfl,w _ H J (Up.refl ja) (hg i j H J)⟩
instance (i j:Int):Decidable (CMul i j):=by unfold CMul;infer_instance
instance (i j:Int):Decidable (CDiv i j):=by unfold CDiv;infer_instance
instance (i j:Int):Decidable (CPow i j):=by unfold CPow;infer_instance
def dSub:=dI0 fun i j=>.int (i - j)
def dFdiv:=dI CDiv fun i j=>.int (i / j)
def dMod:=dI (fun _ j=>0<j) fun i j=>.int (i % j)
def dPow:=dI CPow fun i j=>.int (i ^ j.toNat)
def dLt:=dI0 fun i j=>.bl (decide (i<j))
def dGt:=dI0 fun i j=>.bl (decide (j<i))
def dGe:=dI0 fun i j=>.bl (decide (j<=i))
theorem zch:Im2 K (rI0 fun i j=>.int (i - j)) dSub:=zlO fun _ _ _ _=>.int _
theorem zf7:Im2 K (rI CDiv fun i j=>.int (i / j)) dFdiv:=im_I fun _ _ _ _=>.int _
theorem zcM:Im2 K (rI (fun _ j=>0<j) fun i j=>.int (i % j)) dMod:=im_I fun _ _ _ _=>.int _
theorem zm1:Im2 K (rI CPow fun i j=>.int (i ^ j.toNat)) dPow:=im_I fun _ _ _ _=>.int _
theorem zft:Im2 K (rI0 fun i j=>.bl (decide (i<j))) dLt:=zlO fun _ _ _ _=>.bl _
theorem zlP:Im2 K (rI0 fun i j=>.bl (decide (j<i))) dGt:=zlO fun _ _ _ _=>.bl _
theorem zpB:Im2 K (rI0 fun i j=>.bl (decide (j<=i))) dGe:=zlO fun _ _ _ _=>.bl _
def dMul:D->D->Option D
 | .int i,.int j=>if CMul i j then some (.int (i*j)) else none
 | .str z,.int n=>if -1000<=n/\n<=1000/\z.length<=1000 then some (.str (Txt.mul z n)) else none
 | .lst xs,.int k=>if 0<=k/\k<=1000/\xs.length<=1000 then some (.lst (List.replicate k.toNat xs).flatten) else none
 | _,_=>none
def zpC:R2:=fun x y H Q=>(rI CMul fun i j=>.int (i*j)) x y H Q\/(∃z n,x=.str z/\y=.int n/\-1000<=n/\n<=1000/\z.length<=1000/\Q (.str (Txt.mul z n)) H)\/rRep x y H Q
theorem zcs:OpR X (binaryOp .Mult) zpC:=op_mul.or (op_rep_str.or zpe)
theorem RpL.rep {H:Hp}{J:Addr->Prop}{vs:List V}{ds:List D}(r:RpL K H J vs ds):∀n:Nat,RpL K H J (List.replicate n vs).flatten (List.replicate n ds).flatten
 | 0=>.nil
 | n+1=>by
   rw[wbb,wbb,wbC,wbC];exact r.append (RpL.rep r n)
theorem zbo:Im2 K zpC dMul:=by
 intro H J x y d e d' Q ja hx hy hF w;match d,e,hF with
 | .int i,.int j,hF=>
   have hF:(if CMul i j then some (D.int (i*j)) else none)=some d':=hF
   by_cases hc:CMul i j
   ·rw[if_pos hc] at hF;cases hF;rw[hx.int,hy.int];exact .inl ⟨i,j,rfl,rfl,hc,w _ H J (Up.refl ja) (.int _)⟩
   ·rw[if_neg hc] at hF;cases hF
 | .str z,.int n,hF=>
   have hF:(if -1000<=n/\n<=1000/\z.length<=1000 then some (D.str (Txt.mul z n)) else none)=some d':=hF
   by_cases hc:-1000<=n/\n<=1000/\z.length<=1000
   ·rw[if_pos hc] at hF;cases hF;rw[hx.str,hy.int];exact .inr (.inl ⟨z,n,rfl,rfl,hc.1,hc.2.1,hc.2.2,w _ H J (Up.refl ja) (.str _)⟩)
   ·rw[if_neg hc] at hF;cases hF
 | .lst xs,.int n,hF=>
   have hF:(if 0<=n/\n<=1000/\xs.length<=1000 then some (D.lst (List.replicate n.toNat xs).flatten) else none)=some d':=hF
   by_cases hc:0<=n/\n<=1000/\xs.length<=1000
   ·rw[if_pos hc] at hF;cases hF;obtain⟨p,vs,rfl,h1,r1⟩:=hx.lst;rw[hy.int];refine .inr (.inr ⟨p,n,vs,rfl,rfl,h1,by omega,by omega,?_,fun c hc=>?_⟩)
    ·rw[r1.length];have h1:xs.length*n.toNat<=1000*1000:=Nat.mul_le_mul hc.2.2 (by omega)
     exact waq h1 (by decide)
    ·have un:=Up.newJ ja hc (.lst (List.replicate n.toNat vs).flatten)
     exact w _ _ _ un (.lst zah (.inr rfl) ((r1.rep _).keep un.keep))
   ·rw[if_neg hc] at hF;cases hF
def dV:D->V
 | .non=>.non
 | .bl b=>.bl b
 | .int i=>.int i
 | .str x=>.str x
 | _=>.ty ""
def zbZ:D->Bool
 | .non=>true
 | .bl _=>true
 | .int _=>true
 | .str _=>true
 | _=>false
def zba:D->Bool
 | .non=>true
 | .int _=>true
 | .str _=>true
 | _=>false
theorem zeV {d:D}(h:zba d=true):zbZ d=true:=by cases d <;> first | rfl | cases h
theorem Rp.flat {H:Hp}{J:Addr->Prop}{v:V}{d:D}(r:Rp K H J v d)(f:zbZ d=true):v=dV d:=by
 cases r <;> first | rfl | cases f
theorem RpW.flat {H:Hp}{J:Addr->Prop}{v:V}{d:D}(r:RpW K H J v d)(f:zbZ d=true):v=dV d:=by
 rcases r with r | ⟨A,r⟩
 ·exact r.flat f
 ·cases r <;> cases f
theorem RpL.flat {H:Hp}{J:Addr->Prop}:∀{vs:List V}{ds:List D},RpL K H J vs ds->ds.all zbZ=true->vs=ds.map dV
 | _,_,.nil,_=>rfl
 | _,_,.cons h t,f=>by
   rw[wbm,waj] at f;rw[wav,h.flat f.1,RpL.flat t f.2]
theorem zm2 {d e:D}(hd:zbZ d=true)(he:zbZ e=true):dV d=dV e↔d=e:=by
 cases d <;> first | (cases hd;done) | (cases e <;> first | (cases he;done) | simp[dV])
theorem zdY:∀{ds es:List D},ds.all zbZ=true->es.all zbZ=true->(ds.map dV=es.map dV↔ds=es)
 | [],[],_,_=>by simp
 | [],_::_,_,_=>by simp
 | _::_,[],_,_=>by simp
 | d::ds,e::es,h1,h2=>by
   rw[wbm,waj] at h1 h2;simp only[wav,List.cons.injEq,zm2 h1.1 h2.1,zdY h1.2 h2.2]
theorem zaE {ds:List D}(h:ds.all zba=true):ds.all zbZ=true:=by
 rw[waF] at h⊢;exact fun d hd=>zeV (h d hd)
theorem zci:∀{ds:List D},ds.all zba=true->(ds.map dV).all zcG=true
 | [],_=>rfl
 | d::ds,h=>by
   rw[wbm,waj] at h;rw[wav,wbm,waj];refine⟨?_,zci h.2⟩;cases d <;> first | rfl | (cases h.1)
theorem zgS:∀{ds:List D},ds.all zbZ=true->(ds.map dV).all zfr=true
 | [],_=>rfl
 | d::ds,h=>by
   rw[wbm,waj] at h;rw[wav,wbm,waj];refine⟨?_,zgS h.2⟩;cases d <;> first | rfl | (cases h.1)
def cmpB:D->D->Bool
 | .lst xs,.lst ys=>xs.all zba&&ys.all zba
 | .tup xs,.tup ys=>xs.all zba&&ys.all zba
 | .bl _,.int _=>false
 | .int _,.bl _=>false
 | d,e=>zbZ d&&zbZ e
def dEq (neg:Bool):D->D->Option D:=fun d e=>if cmpB d e=true then some (.bl (if neg then !decide (d=e) else decide (d=e))) else none
def rEqD (K:W.Frag):R2:=fun x y H Q=>rEq x y H Q\/rEqT K false x y H Q\/rEqL K false x y H Q
theorem opEq (hu:X.A.units<cLine):OpR X (compareOp .Eq) (rEqD X.K):=op_eq.or ((zpm hu).or (zpn hu))
theorem zal {p q:Prop}[Decidable p][Decidable q](h:p↔q):decide p=decide q:=by
 by_cases hp:p
 ·rw[waH hp,waH (h.mp hp)]
 ·rw[waw hp,waw (fun z=>hp (h.mpr z))]
theorem zlQ {d e:D}(h:cmpB d e=true):(zbZ d=true/\zbZ e=true/\scal (dV d) (dV e)=true)\/(∃xs ys,d=.tup xs/\e=.tup ys/\xs.all zba=true/\ys.all zba=true)\/(∃xs ys,d=.lst xs/\e=.lst ys/\xs.all zba=true/\ys.all zba=true):=by
 cases d <;> cases e <;> first
  | exact .inl ⟨rfl,rfl,rfl⟩
  | (cases h;done)
  | (refine .inr (.inl ⟨_,_,rfl,rfl,?_⟩);exact(waj _ _▸h))
  | (refine .inr (.inr ⟨_,_,rfl,rfl,?_⟩);exact(waj _ _▸h))
theorem zgT:Im2 K (rEqD K) (dEq false):=by
 intro H J x y d e d' Q ja hx hy hF w;unfold dEq at hF;by_cases hc:cmpB d e=true
 ·rw[if_pos hc] at hF;cases hF;rcases zlQ hc with⟨f1,f2,hs⟩ | ⟨xs,ys,rfl,rfl,f1,f2⟩ | ⟨xs,ys,rfl,rfl,f1,f2⟩
  ·rw[hx.flat f1,hy.flat f2];refine .inl ⟨hs,?_⟩;rw[zal (zm2 f1 f2)];exact w _ H J (Up.refl ja) (.bl _)
  ·obtain⟨p,vs,rfl,h1,r1⟩:=hx.tup;obtain⟨q,us,rfl,h2,r2⟩:=hy.tup;have e1:=r1.flat (zaE f1)
   have e2:=r2.flat (zaE f2)
   refine .inr (.inl ⟨p,q,vs,us,rfl,rfl,h1,h2,by rw[e1];exact zci f1,by rw[e2];exact zci f2,?_⟩);have:decide (vs=us)=decide (D.tup xs=D.tup ys):=zal (by rw[e1,e2,zdY (zaE f1) (zaE f2)];simp)
   simp only[wby,if_false];rw[this];exact w _ H J (Up.refl ja) (.bl _)
  ·obtain⟨p,vs,rfl,h1,r1⟩:=hx.lst;obtain⟨q,us,rfl,h2,r2⟩:=hy.lst;have e1:=r1.flat (zaE f1)
   have e2:=r2.flat (zaE f2)
   refine .inr (.inr ⟨p,q,vs,us,rfl,rfl,SqL.of h1,SqL.of h2,by rw[e1];exact zci f1,by rw[e2];exact zci f2,?_⟩);have:decide (vs=us)=decide (D.lst xs=D.lst ys):=zal (by rw[e1,e2,zdY (zaE f1) (zaE f2)];simp)
   simp only[wby,if_false];rw[this];exact w _ H J (Up.refl ja) (.bl _)
 ·rw[if_neg hc] at hF;cases hF
def dIn (neg:Bool):D->D->Option D
 | x,.lst ds=>if zba x=true/\ds.all zba=true then some (.bl (if neg then !decide (x∈ds) else decide (x∈ds))) else none
 | x,.tup ds=>if zba x=true/\ds.all zba=true then some (.bl (if neg then !decide (x∈ds) else decide (x∈ds))) else none
 | _,_=>none
theorem znL {x:D}{ds:List D}(hx:zba x=true)(hd:ds.all zba=true):inV (dV x) (ds.map dV)=decide (x∈ds):=by
 induction ds with
 | nil=>rfl
 | cons d ds ih=>
   rw[wbm,waj] at hd;have ih':=ih hd.2
   unfold inV at ih'⊢;rw[wav,wce,ih',waR];simp only[Bool.or_eq_true,decide_eq_true_eq,was];have e:eqV (dV d) (dV x)=true↔x=d:=by
    have h0:=hd.1
    cases d <;> first | (cases h0;done) | (cases x <;> first | (cases hx;done) | (constructor <;> intro h <;> simp_all [eqV,dV]))
   rw[e]
theorem zqE (neg:Bool):Im2 K (rIn K neg) (dIn neg):=by
 intro H J x y d e d' Q ja hx hy hF w;have go:∀(ds:List D) (p:Addr) (vs:List V),(if zba d=true/\ds.all zba=true then some (D.bl (if neg then !decide (d∈ds) else decide (d∈ds))) else none)=some d'->y=.ref p->(SqL K H p vs\/SqT K H p vs)->RpL K H J vs ds->rIn K neg x y H Q:=by
  intro ds p vs hF hp hs r;by_cases hc:zba d=true/\ds.all zba=true
  ·rw[if_pos hc] at hF;cases hF;have ex:=hx.flat (zeV hc.1)
   have es:=r.flat (zaE hc.2)
   refine⟨p,vs,hp,hs,?_,by rw[es];exact zgS (zaE hc.2),?_⟩
   ·rw[ex];have h0:=hc.1;cases d <;> first | rfl | cases h0
   ·rw[ex,es,znL hc.1 hc.2];exact w _ H J (Up.refl ja) (.bl _)
  ·rw[if_neg hc] at hF;cases hF
 cases e with
 | lst ds=>obtain⟨p,vs,rfl,h1,r1⟩:=hy.lst;exact go ds p vs hF rfl (.inl (SqL.of h1)) r1
 | tup ds=>obtain⟨p,vs,rfl,h1,r1⟩:=hy.tup;exact go ds p vs hF rfl (.inr h1) r1
 | _=>cases hF
def dIs (neg:Bool):D->D->Option D
 | d,.non=>some (.bl (if neg then !decide (d=.non) else decide (d=.non)))
 | _,_=>none
theorem zj6 {H:Hp}{J:Addr->Prop}{v:V}{d:D}(r:RpW K H J v d):v=.non↔d=.non:=by
 rcases r with r | ⟨A,r⟩
 ·cases r <;> simp
 ·cases r <;> simp
theorem znM:Im2 K (fun x y H Q=>y=.non/\Q (.bl (decide (x=.non))) H) (dIs false):=by
 intro H J x y d e d' Q ja hx hy hF w;cases e with
 | non=>
   cases hF;refine⟨hy.non,?_⟩;rw[zal (zj6 hx)];exact w _ H J (Up.refl ja) (.bl _)
 | _=>cases hF
theorem zhJ:Im2 K (fun x y H Q=>y=.non/\Q (.bl (!decide (x=.non))) H) (dIs true):=by
 intro H J x y d e d' Q ja hx hy hF w;cases e with
 | non=>
   cases hF;refine⟨hy.non,?_⟩;rw[zal (zj6 hx)];exact w _ H J (Up.refl ja) (.bl _)
 | _=>cases hF
def dIx:D->D->Option D
 | .lst ds,.int i=>atI ds i
 | .tup ds,.int i=>atI ds i
 | .str z,.int i=>if z.length<=lim then(atI z.cps.toList i).map fun c=>.str ⟨#[c]⟩ else none
 | _,_=>none
theorem zpD:Im2 K (rIx K) dIx:=by
 intro H J x y d e d' Q ja hx hy hF w;match d,e,hF with
 | .lst ds,.int i,hF=>
   have hF:atI ds i=some d':=hF
   obtain⟨p,vs,rfl,h1,r1⟩:=hx.lst;obtain⟨v,hv,rv⟩:=r1.at hF;rw[hy.int];exact .inl ⟨p,vs,i,v,rfl,rfl,SqL.of h1,hv,w v H J (Up.refl ja) rv⟩
 | .tup ds,.int i,hF=>
   have hF:atI ds i=some d':=hF
   obtain⟨p,vs,rfl,h1,r1⟩:=hx.tup;obtain⟨v,hv,rv⟩:=r1.at hF;rw[hy.int];exact .inr (.inl ⟨p,vs,i,v,rfl,rfl,h1,hv,w v H J (Up.refl ja) rv⟩)
 | .str z,.int i,hF=>
   have hF:(if z.length<=lim then(atI z.cps.toList i).map fun c=>D.str ⟨#[c]⟩ else none)=some d':=hF
   by_cases hl:z.length<=lim
   ·rw[if_pos hl] at hF;cases q:atI z.cps.toList i with
    | none=>rw[q] at hF;cases hF
    | some c=>
      rw[q] at hF;cases hF;rw[hx.str,hy.int];exact .inr (.inr ⟨z,i,c,rfl,rfl,zcg hl,q,w _ H J (Up.refl ja) (.str _)⟩)
   ·rw[if_neg hl] at hF;cases hF
variable {a b:Expr}{fa fb:FE}{pos p2:Pos}
theorem zaz (ha:VW X a fa)(hb:VW X b fb)(hs:zeR b:=by exact fun _ _=>rfl):VE X (.Subscript a b pos) (e2 dIx fa fb):=by
 obtain⟨ta,pa,ga⟩:=ha;obtain⟨tb,pb,gb⟩:=hb;exact⟨_,zlz zij pa pb hs,zlM zpD ga gb⟩
def cut {α:Type}(xs:List α)(lo hi:Option Int):List α:=(xs.drop (HT.sIx xs.length 0 lo)).take (HT.sIx xs.length xs.length hi - HT.sIx xs.length 0 lo)
theorem RpL.cut {H:Hp}{J:Addr->Prop}{vs:List V}{ds:List D}(r:RpL K H J vs ds)(lo hi:Option Int):RpL K H J (cutV vs lo hi) (VD.cut ds lo hi):=by
 unfold cutV VD.cut;rw[r.length];exact(r.drop _).take _
def dSl:D->Option Int->Option Int->Option D
 | .lst ds,lo,hi=>some (.lst (cut ds lo hi))
 | .tup ds,lo,hi=>if HT.sIx ds.length 0 lo=0/\HT.sIx ds.length ds.length hi=ds.length then none else some (.tup (cut ds lo hi))
 | .str z,lo,hi=>if z.length<=lim then some (.str (Txt.slice z lo hi)) else none
 | _,_,_=>none
abbrev FO:=En->Option (Option Int)
def GoO (K:W.Frag)(t:TO)(f:FO):Prop:=∀Hz Jz O ρ σ H J o Q,ST K Hz Jz O ρ σ H J->f ρ=some o->(∀H' J',Up H J H' J'->Q o H')->t σ H Q
def VO (X:Cx)(e:Option Expr)(f:FO):Prop:=∃t,PO X e t/\GoO X.K t f
def oN:FO:=fun _=>some none
def dInt:D->Option Int
 | .int i=>some i
 | _=>none
def oS (f:FE):FO:=fun ρ=>(f ρ).bind fun d=>(dInt d).bind fun i=>some (some i)
theorem zhK:VO X none oN:=⟨_,zjE,fun Hz Jz O ρ σ H J o Q s e w=>by cases e;exact w H J (Up.refl s.ja)⟩
theorem zeW (h:VE X a fa):VO X (some a) (oS fa):=by
 obtain⟨t,p,g⟩:=h;refine⟨_,zjF p,?_⟩;intro Hz Jz O ρ σ H J o Q s e w;obtain⟨d,e1,e⟩:=bind_some e;obtain⟨i,e2,e⟩:=bind_some e;cases e;refine g Hz Jz O ρ σ H J d _ s e1 fun v H1 J1 u1 r1=>?_
 cases d with
 | int k=>cases e2;cases r1;exact⟨_,rfl,w H1 J1 u1⟩
 | _=>cases e2
def eSl (f:FE)(lo hi:FO):FE:=fun ρ=>(f ρ).bind fun x=>(lo ρ).bind fun l=>(hi ρ).bind fun h=>dSl x l h
def rSlD (K:W.Frag):V->Option Int->Option Int->Hp->VK->Prop:=fun x lo hi H Q=>rSlL K x lo hi H Q\/rSlT K x lo hi H Q\/rSlS x lo hi H Q
theorem zir {lo hi:Option Expr}{fl fh:FO}(ha:VW X a fa)(hl:VO X lo fl)(hh:VO X hi fh):VE X (.Subscript a (.Slice lo hi none p2) pos) (eSl fa fl fh):=by
 obtain⟨t,p,g⟩:=ha;obtain⟨tl,pl,gl⟩:=hl;obtain⟨th,ph,gh⟩:=hh;refine⟨_,zfX (r:=rSlD X.K) (sl_list.or (sl_tup.or zmU)) p pl ph,?_⟩;intro Hz Jz O ρ σ H J d Q s e w;obtain⟨x,e1,e⟩:=bind_some e;obtain⟨l,e2,e⟩:=bind_some e;obtain⟨h,e3,e⟩:=bind_some e;refine g Hz Jz O ρ σ H J x _ s e1 fun v H1 J1 u1 r1=>?_
 refine gl Hz Jz O ρ σ H1 J1 l _ (s.up u1) e2 fun H2 J2 u2=>?_
 refine gh Hz Jz O ρ σ H2 J2 h _ (s.up (u1.trans u2)) e3 fun H3 J3 u3=>?_
 have r3:=r1.up (u2.trans u3)
 have u:=u1.trans (u2.trans u3)
 match x,e with
 | .lst ds,e=>
   cases e;obtain⟨p,vs,rfl,h1,rl⟩:=r3.lst;refine .inl ⟨p,vs,rfl,SqL.of h1,fun c hc=>?_⟩;have un:=Up.newJ u3.ja hc (.lst (cutV vs l h))
   exact w _ _ _ (u.trans un) (.lst zah (.inr rfl) ((rl.cut l h).keep un.keep))
 | .tup ds,e=>
   have e:(if HT.sIx ds.length 0 l=0/\HT.sIx ds.length ds.length h=ds.length then none else some (D.tup (cut ds l h)))=some d:=e
   by_cases hc:HT.sIx ds.length 0 l=0/\HT.sIx ds.length ds.length h=ds.length
   ·rw[if_pos hc] at e;cases e
   ·rw[if_neg hc] at e;cases e;obtain⟨p,vs,rfl,h1,rl⟩:=r3.tup;refine .inr (.inl ⟨p,vs,rfl,h1,by rw[rl.length];exact hc,fun c hc=>?_⟩);have un:=Up.new u3.ja hc (.tup (cutV vs l h))
    exact w _ _ _ (u.trans un) (.tup (SqT.of zah) ((rl.cut l h).keep un.keep))
 | .str z,e=>
   have e:(if z.length<=lim then some (D.str (Txt.slice z l h)) else none)=some d:=e
   by_cases hc:z.length<=lim
   ·rw[if_pos hc] at e;cases e;rw[r3.str];exact .inr (.inr ⟨z,rfl,zcg hc,w _ _ _ u (.str _)⟩)
   ·rw[if_neg hc] at e;cases e
def dLst:D->Option (List D)
 | .lst ds=>some ds
 | _=>none
def aRev (f:FE):FA:=fun ρ=>(f ρ).bind fun d=>(dLst d).bind fun ds=>some ds.reverse
theorem zm3 {p3 p4:Pos}{j:Nat}(ha:VW X a fa):VN X (.Subscript a (.Slice none none (some (.UnaryOp .USub (.Constant (.int 1) j p3) p4)) p2) pos) (aRev fa):=by
 obtain⟨t,p,g⟩:=ha;refine⟨_,zpo p,?_⟩;intro Hz Jz O ρ σ H J ds Q s e w;obtain⟨x,e1,e⟩:=bind_some e;obtain⟨xs,e2,e⟩:=bind_some e;cases e;refine g Hz Jz O ρ σ H J x _ s e1 fun v H1 J1 u1 r1=>?_
 cases x with
 | lst ds=>
   cases e2;obtain⟨p,vs,rfl,h1,rl⟩:=r1.lst;refine⟨p,vs,rfl,SqL.of h1,fun c hc=>?_⟩;have un:=Up.new u1.ja hc (.lst vs.reverse)
   exact w c _ _ _ (u1.trans un) (u1.same.free hc) (fun j=>u1.ja c j hc) zah (rl.reverse.keep un.keep)
 | _=>cases e2
def dNeg:D->Option D
 | .int i=>some (.int (-i))
 | _=>none
theorem zm4 (ha:VE X a fa):VE X (.UnaryOp .USub a pos) (e1 dNeg fa):=by
 obtain⟨t,p,g⟩:=ha;refine⟨_,zqp zo5 p,?_⟩;intro Hz Jz O ρ σ H J d Q s e w;obtain⟨x,e1,e⟩:=bind_some e;refine g Hz Jz O ρ σ H J x _ s e1 fun v H1 J1 u1 r1=>?_
 cases x with
 | int i=>cases e;cases r1;exact⟨i,rfl,w _ H1 J1 u1 (.int _)⟩
 | _=>cases e
theorem RpWL.one {H:Hp}{J:Addr->Prop}{vs:List V}{d:D}(h:RpWL K H J vs [d]):∃v,vs = [v]/\RpW K H J v d:=by
 match vs,h with
 | [v],h=>exact⟨v,rfl,h.1⟩
 | [],h=>exact h.elim
 | _::_::_,h=>exact h.2.elim
theorem RpWL.two {H:Hp}{J:Addr->Prop}{vs:List V}{d e:D}(h:RpWL K H J vs [d,e]):∃v u,vs = [v,u]/\RpW K H J v d/\RpW K H J u e:=by
 match vs,h with
 | [v,u],h=>exact⟨v,u,rfl,h.1,h.2.1⟩
 | [],h=>exact h.elim
 | [_],h=>exact h.2.elim
 | _::_::_::_,h=>exact h.2.2.elim
def bLen:List D->Option D
 | [.lst ds]=>some (.int ds.length)
 | [.tup ds]=>some (.int ds.length)
 | [.str z]=>if z.length<=lim then some (.int z.length) else none
 | _=>none
theorem zeh:ImC K (fun xs H Q=>∃x n,xs = [x]/\LenV K x H n/\Q (.int n) H) bLen:=by
 intro H J vs ds d Q ja r hF w;match ds,r,hF with
 | [.lst ds],r,hF=>
   obtain⟨v,rfl,rr⟩:=r.one;cases hF;obtain⟨p,us,rfl,h1,rl⟩:=rr.lst;refine⟨_,us.length,rfl,.inl ⟨us,SqL.of h1,rfl⟩,?_⟩;rw[rl.length];exact w _ H J (Up.refl ja) (.int _)
 | [.tup ds],r,hF=>
   obtain⟨v,rfl,rr⟩:=r.one;cases hF;obtain⟨p,us,rfl,h1,rl⟩:=rr.tup;refine⟨_,us.length,rfl,.inr ⟨us,h1,rfl⟩,?_⟩;rw[rl.length];exact w _ H J (Up.refl ja) (.int _)
 | [.str z],r,hF=>
   obtain⟨v,rfl,rr⟩:=r.one;have hF:(if z.length<=lim then some (D.int z.length) else none)=some d:=hF
   by_cases hl:z.length<=lim
   ·rw[if_pos hl] at hF;cases hF;rw[rr.str];exact⟨_,z.length,rfl,⟨zcg hl,rfl⟩,w _ H J (Up.refl ja) (.int _)⟩
   ·rw[if_neg hl] at hF;cases hF
def bMax:List D->Option D
 | [.int i,.int j]=>some (.int (if j>i then j else i))
 | _=>none
def bMin:List D->Option D
 | [.int i,.int j]=>some (.int (if j<i then j else i))
 | _=>none
theorem zis:ImC K (fun xs H Q=>∃i j,xs = [.int i,.int j]/\Q (.int (if j>i then j else i)) H) bMax:=by
 intro H J vs ds d Q ja r hF w;match ds,r,hF with
 | [.int i,.int j],r,hF=>obtain⟨v,u,rfl,q1,q2⟩:=r.two;cases hF;exact⟨i,j,by rw[q1.int,q2.int],w _ H J (Up.refl ja) (.int _)⟩
theorem zj7:ImC K (fun xs H Q=>∃i j,xs = [.int i,.int j]/\Q (.int (if j<i then j else i)) H) bMin:=by
 intro H J vs ds d Q ja r hF w;match ds,r,hF with
 | [.int i,.int j],r,hF=>obtain⟨v,u,rfl,q1,q2⟩:=r.two;cases hF;exact⟨i,j,by rw[q1.int,q2.int],w _ H J (Up.refl ja) (.int _)⟩
def bInt:List D->Option D
 | [.int i]=>some (.int i)
 | [.bl k]=>some (.int (if k then 1 else 0))
 | _=>none
theorem zj8:ImC K (fun xs H Q=>(∃i,xs = [.int i]/\Q (.int i) H)\/∃k,xs = [.bl k]/\Q (.int (if k then 1 else 0)) H) bInt:=by
 intro H J vs ds d Q ja r hF w;match ds,r,hF with
 | [.int i],r,hF=>obtain⟨v,rfl,rr⟩:=r.one;cases hF;exact .inl ⟨i,by rw[rr.int],w _ H J (Up.refl ja) (.int _)⟩
 | [.bl i],r,hF=>obtain⟨v,rfl,rr⟩:=r.one;cases hF;exact .inr ⟨i,by rw[rr.bl],w _ H J (Up.refl ja) (.int _)⟩
def bList:List D->Option D
 | [.lst ds]=>some (.lst ds)
 | [.tup ds]=>some (.lst ds)
 | _=>none
def bTuple:List D->Option D
 | [.lst ds]=>some (.tup ds)
 | [.tup ds]=>some (.tup ds)
 | _=>none
theorem zit:ImC K (fun xs H Q=>∃p ys,xs = [.ref p]/\((SqL K H p ys/\∀l,H l=none->Q (.ref l) (upd H l (.tup ys)))\/(SqT K H p ys/\Q (.ref p) H))) bTuple:=by
 intro H J vs ds d Q ja r hF w;match ds,r,hF with
 | [.lst ds],r,hF=>
   obtain⟨v,rfl,rr⟩:=r.one;cases hF;obtain⟨p,us,rfl,h1,rl⟩:=rr.lst;refine⟨p,us,rfl,.inl ⟨SqL.of h1,fun c hc=>?_⟩⟩;have un:=Up.new ja hc (.tup us)
   exact w _ _ _ un (.tup (SqT.of zah) (rl.keep un.keep))
 | [.tup ds],r,hF=>
   obtain⟨v,rfl,rr⟩:=r.one;cases hF;obtain⟨p,us,rfl,h1,rl⟩:=rr.tup;exact⟨p,us,rfl,.inr ⟨h1,w _ H J (Up.refl ja) (.tup h1 rl)⟩⟩
end
def Src (K:W.Frag)(I:It)(H:Hp)(J:Addr->Prop)(ds:List D):Prop:=∀H2 J2,Keep K H J H2 J2->(∀a,J2 a->H2 a≠none)->
 I.stop ds.length H2/\∀i d,ds[i]?=some d->I.go i H2/\∀x H3,I.yld i H2 x H3->∃J3,Up H2 J2 H3 J3/\Rp K H3 J3 x d
def GoI (K:W.Frag)(wi:TI)(f:FA):Prop:=∀Hz Jz O ρ σ H J ds R,ST K Hz Jz O ρ σ H J->f ρ=some ds->(∀I H' J',Up H J H' J'->Src K I H' J' ds->R I H')->wi σ H R
def VI (X:Cx)(tg iter:Expr)(f:FA):Prop:=∃wi,PI X tg iter wi/\GoI X.K wi f
section
variable {X:Cx}{K:W.Frag}{tg a b:Expr}{fa fb:FE}{fl:FA}{pos p:Pos}
theorem znN {wi wi':TI}{iter:Expr}(h:PI X tg iter wi)(h':PI X tg iter wi'):PI X tg iter (fun σ H R=>wi σ H R\/wi' σ H R):=by
 intro pins s σ H R I q;rcases q with q | q
 ·exact h pins s σ H R I q
 ·exact h' pins s σ H R I q
def dSeq:D->Option (List D)
 | .lst ds=>some ds
 | .tup ds=>some ds
 | _=>none
def aSeq (f:FE):FA:=fun ρ=>(f ρ).bind dSeq
theorem zcH (h:VE X a fa):VI X tg a (aSeq fa):=by
 obtain⟨t,p,g⟩:=h;refine⟨_,znN (zjv p) (zmO p),?_⟩;intro Hz Jz O ρ σ H J ds R s e w;obtain⟨x,e1,e⟩:=bind_some e;cases x with
 | lst xs=>
   cases e;refine .inl (g Hz Jz O ρ σ H J _ _ s e1 fun v H1 J1 u1 r1=>?_);cases r1 with
   | lst h j r=>
     refine⟨_,rfl,⟨_,SqL.of h⟩,w _ H1 J1 u1 fun H2 J2 k ja=>?_⟩;have h2:=k.jo _ _ j h
     refine⟨⟨_,SqL.of h2,by rw[r.length];exact wae _⟩,fun i d hd=>?_⟩;obtain⟨v,hv,rv⟩:=r.get hd;refine⟨⟨_,v,SqL.of h2,hv⟩,fun x H3 y=>?_⟩;obtain⟨rfl,y⟩:=y;have e:=y _ (SqL.of h2)
     rw[hv] at e;cases e;exact⟨J2,Up.refl ja,rv.keep k⟩
 | tup xs=>
   cases e;refine .inr (g Hz Jz O ρ σ H J _ _ s e1 fun v H1 J1 u1 r1=>?_);cases r1 with
   | tup h r=>
     refine⟨_,rfl,⟨_,h⟩,w _ H1 J1 u1 fun H2 J2 k ja=>?_⟩;have h2:=k.tp _ _ h
     refine⟨⟨_,h2,by rw[r.length];exact wae _⟩,fun i d hd=>?_⟩;obtain⟨v,hv,rv⟩:=r.get hd;refine⟨⟨_,v,h2,hv⟩,fun x H3 y=>?_⟩;obtain⟨rfl,y⟩:=y;have e:=y _ h2
     rw[hv] at e;cases e;exact⟨J2,Up.refl ja,rv.keep k⟩
 | _=>cases e
def zaN (lo:Int)(n:Nat):List D:=(List.range n).map fun(i:Nat)=>.int (lo+(i:Int))
theorem zgU {H:Hp}{J:Addr->Prop}(lo:Int)(n:Nat):Src K (Itr lo n) H J (zaN lo n):=by
 intro H2 J2 k ja;have hl:(zaN lo n).length=n:=by simp[zaN]
 rw[hl];refine⟨wae _,fun i d hd=>?_⟩;have hi:i<n:=by rw[<-hl];exact(wab.mp hd).1
 refine⟨hi,fun x H3 y=>?_⟩;obtain⟨rfl,rfl⟩:=y;unfold zaN at hd;rw[wag,wcG hi] at hd;cases hd;exact⟨J2,Up.refl ja,.int _⟩
def a1Int:List D->Option Int
 | [.int i]=>some i
 | _=>none
def aRng1 (f:FA):FA:=fun ρ=>(f ρ).bind fun l=>(a1Int l).bind fun j=>if -1000000<=j/\j<=1000000 then some (zaN 0 j.toNat) else none
theorem zdw (B:Blt X.mg)(ha:VA X [a] fl)(hg:Gl X "range":=by rfl)(hs:starEach [a] X.env = [(false,eval a X.env)]:=by rfl):VI X tg (.Call (.Name "range" p) [a] [] pos) (aRng1 fl):=by
 obtain⟨t,p,g⟩:=ha;refine⟨_,zgv hg (B.get "range") p hs,?_⟩;intro Hz Jz O ρ σ H J ds R s e w;obtain⟨l,e1,e⟩:=bind_some e;obtain⟨j,e2,e⟩:=bind_some e;by_cases hj:-1000000<=j/\j<=1000000
 ·rw[if_pos hj] at e;cases e;refine g Hz Jz O ρ σ H J _ _ s e1 fun vs H1 J1 u1 r1=>?_
  match l,e2,r1 with
  | [.int i],e2,r1=>
    cases e2;cases r1 with
    | cons h t=>cases t;cases h;exact⟨j,rfl,by omega,by omega,w _ H1 J1 u1 (zgU 0 _)⟩
 ·rw[if_neg hj] at e;cases e
def zen (ds:List D):List D:=ds.zipIdx.map fun p=>.tup [.int (p.2:Nat),p.1]
def a1Tup:List D->Option (List D)
 | [.tup ds]=>some ds
 | _=>none
def aEnum (f:FA):FA:=fun ρ=>(f ρ).bind fun l=>(a1Tup l).bind fun ds=>some (zen ds)
theorem zb3 (ds:List D):(zen ds).length=ds.length:=by simp[zen]
theorem zdx {ds:List D}{i:Nat}{d:D}(h:(zen ds)[i]?=some d):∃x,ds[i]?=some x/\d=.tup [.int (i:Nat),x]:=by
 unfold zen at h;rw[wag,List.getElem?_zipIdx] at h;cases q:ds[i]? with
 | none=>rw[q] at h;cases h
 | some x=>rw[q] at h;simp at h;exact⟨x,rfl,h.symm⟩
theorem zj9 {elts:List Expr}{x1}{tpos:Pos}(B:Blt X.mg)(ha:VA X [a] fl)(hg:Gl X "enumerate":=by rfl)(hs:starEach [a] X.env = [(false,eval a X.env)]:=by rfl):VI X (.Tuple elts x1 tpos) (.Call (.Name "enumerate" p) [a] [] pos) (aEnum fl):=by
 obtain⟨t,p,g⟩:=ha;refine⟨_,zjP hg (B.get "enumerate") p hs,?_⟩;intro Hz Jz O ρ σ H J ds R s e w;obtain⟨l,e1,e⟩:=bind_some e;obtain⟨xs,e2,e⟩:=bind_some e;cases e;refine g Hz Jz O ρ σ H J _ _ s e1 fun vs H1 J1 u1 r1=>?_
 match l,e2,r1 with
 | [.tup _],e2,r1=>
   cases e2;cases r1 with
   | cons h t=>
     cases t;cases h with
     | tup h r=>
       refine⟨_,rfl,⟨_,h⟩,w _ H1 J1 u1 fun H2 J2 k ja=>?_⟩;have h2:=k.tp _ _ h
       refine⟨⟨_,h2,by rw[r.length,zb3];exact wae _⟩,fun i d hd=>?_⟩;obtain⟨x,hx,rfl⟩:=zdx hd;obtain⟨v,hv,rv⟩:=r.get hx;refine⟨⟨_,v,h2,hv⟩,fun y H3 hy=>?_⟩;obtain⟨q,hn,rfl,hy⟩:=hy;obtain⟨y,ey,rfl⟩:=hy _ h2;rw[hv] at ey;cases ey;have un:=Up.new ja hn (.tup [.int (i:Nat),v])
       exact⟨J2,un,.tup (SqT.of zah) (.cons (.int _) (.cons ((rv.keep k).keep un.keep) .nil))⟩
end
abbrev FG:=D->En->Option En
abbrev FGs:=List D->En->Option En
def Only (is:List Nat)(ρ ρ':En):Prop:=ρ'.length=ρ.length/\∀j,j∉is->ρ'[j]?=ρ[j]?
def GoG (K:W.Frag)(g:TG)(is:List Nat)(f:FG):Prop:=(∀d ρ ρ',f d ρ=some ρ'->Only is ρ ρ')/\∀Hz Jz O ρ σ H J v d ρ' Q,ST K Hz Jz O ρ σ H J->Rp K H J v d->f d ρ=some ρ'->(∀σ',ST K Hz Jz O ρ' σ' H J->Q σ' H)->g v σ H Q
def GoGs (K:W.Frag)(g:TGs)(is:List Nat)(f:FGs):Prop:=(∀d ρ ρ',f d ρ=some ρ'->Only is ρ ρ')/\∀Hz Jz O ρ σ H J vs ds ρ' Q,ST K Hz Jz O ρ σ H J->RpL K H J vs ds->f ds ρ=some ρ'->(∀σ',ST K Hz Jz O ρ' σ' H J->Q σ' H)->g vs σ H Q
def VG (X:Cx)(tg:Expr)(is:List Nat)(f:FG):Prop:=∃g,PG X tg g/\GoG X.K g is f
def VGs (X:Cx)(tgs:List Expr)(is:List Nat)(f:FGs):Prop:=∃g,PGs X tgs g/\GoGs X.K g is f
def isPar:Option SV->Bool
 | some (.par _ _)=>true
 | _=>false
theorem zct {x:Option SV}(h:isPar x=false):∀n d,x≠some (.par n d):=fun n d e=>by rw[e] at h;cases h
def gN (i:Nat):FG:=fun d ρ=>if i<ρ.length/\isPar (ρ[i]?)=false then some (ρ.set i (.val d)) else none
def gNil':FGs:=fun ds ρ=>if ds = [] then some ρ else none
def gCons' (f:FG)(g:FGs):FGs:=fun ds ρ=>match ds with | d::r=>(f d ρ).bind fun ρ1=>g r ρ1 | []=>none
def gT (n:Nat)(f:FGs):FG:=fun d ρ=>match d with | .tup ds=>if ds.length=n then f ds ρ else none | _=>none
theorem zka {K:W.Frag}{i:Nat}:GoG K (zeL i) [i] (gN i):=by
 refine⟨fun d ρ ρ' h=>?_,fun Hz Jz O ρ σ H J v d ρ' Q s r e w=>?_⟩
 ·unfold gN at h;by_cases hi:i<ρ.length/\isPar (ρ[i]?)=false
  ·rw[if_pos hi] at h;cases h;exact⟨by simp,fun j hj=>wai (fun z=>hj (by simp[z]))⟩
  ·rw[if_neg hi] at h;cases h
 ·unfold gN at e;by_cases hi:i<ρ.length/\isPar (ρ[i]?)=false
  ·rw[if_pos hi] at e;cases e;exact w _ (s.set r hi.1 (zct hi.2))
  ·rw[if_neg hi] at e;cases e
theorem Only.trans {is js:List Nat}{ρ ρ1 ρ2:En}(a:Only is ρ ρ1)(b:Only js ρ1 ρ2):Only (is++js) ρ ρ2:=⟨b.1.trans a.1,fun j hj=>by
 rw[waC] at hj;rw[b.2 j (fun z=>hj (.inr z)),a.2 j (fun z=>hj (.inl z))]⟩
theorem znO {K:W.Frag}:GoGs K gNil [] gNil':=by
 refine⟨fun d ρ ρ' h=>?_,fun Hz Jz O ρ σ H J vs ds ρ' Q s r e w=>?_⟩
 ·unfold gNil' at h;by_cases hd:d = []
  ·rw[if_pos hd] at h;cases h;exact⟨rfl,fun _ _=>rfl⟩
  ·rw[if_neg hd] at h;cases h
 ·unfold gNil' at e;by_cases hd:ds = []
  ·rw[if_pos hd] at e;cases e;subst hd;cases r;exact⟨rfl,w _ s⟩
  ·rw[if_neg hd] at e;cases e
theorem zlR {K:W.Frag}{g:TG}{gs:TGs}{is js:List Nat}{f:FG}{fs:FGs}(h1:GoG K g is f)(h2:GoGs K gs js fs):GoGs K (zo2 g gs) (is++js) (gCons' f fs):=by
 refine⟨fun d ρ ρ' h=>?_,fun Hz Jz O ρ σ H J vs ds ρ' Q s r e w=>?_⟩
 ·cases d with
  | nil=>cases h
  | cons d r=>
    obtain⟨ρ1,e1,e2⟩:=bind_some (show((f d ρ).bind fun ρ1=>fs r ρ1)=some ρ' from h);exact(h1.1 _ _ _ e1).trans (h2.1 _ _ _ e2)
 ·cases ds with
  | nil=>cases e
  | cons d ds=>
    obtain⟨ρ1,e1,e2⟩:=bind_some (show((f d ρ).bind fun ρ1=>fs ds ρ1)=some ρ' from e);cases r with
    | cons r1 r2=>
      refine⟨_,_,rfl,h1.2 Hz Jz O ρ σ H J _ d ρ1 _ s r1 e1 fun σ1 s1=>?_⟩;exact h2.2 Hz Jz O ρ1 σ1 H J _ ds ρ' _ s1 r2 e2 w
theorem znP {K:W.Frag}{n:Nat}{gs:TGs}{is:List Nat}{fs:FGs}(h:GoGs K gs is fs):GoG K (gTup K n gs) is (gT n fs):=by
 refine⟨fun d ρ ρ' e=>?_,fun Hz Jz O ρ σ H J v d ρ' Q s r e w=>?_⟩
 ·cases d with
  | tup ds=>
    have e:(if ds.length=n then fs ds ρ else none)=some ρ':=e
    by_cases hn:ds.length=n
    ·rw[if_pos hn] at e;exact h.1 _ _ _ e
    ·rw[if_neg hn] at e;cases e
  | _=>cases e
 ·cases d with
  | tup ds=>
    have e:(if ds.length=n then fs ds ρ else none)=some ρ':=e
    by_cases hn:ds.length=n
    ·rw[if_pos hn] at e;cases r with
     | tup hq rl=>exact⟨_,_,rfl,hq,by rw[rl.length];exact hn,h.2 Hz Jz O ρ σ H J _ ds ρ' Q s rl e w⟩
    ·rw[if_neg hn] at e;cases e
  | _=>cases e
section
variable {X:Cx}{pos:Pos}
theorem znQ {i:Nat}{x:Str}(hN:X.N.Nodup)(hi:X.N[i]?=some x)(hx:Loc X.env.scope x)(hf:X.fn x=true\/X.env.scope.names.lookup x=some .local:=by first | exact .inl rfl | exact .inr rfl | assumption):VG X (.Name x pos) [i] (gN i):=⟨_,zjs hN hi hx hf,zka⟩
theorem zca:VGs X [] [] gNil':=⟨_,znp,znO⟩
theorem zaB {e:Expr}{es:List Expr}{is js:List Nat}{f:FG}{fs:FGs}(h1:VG X e is f)(h2:VGs X es js fs)(hs:(assignEach (e::es) X.env).map (·.2)=assign e X.env::(assignEach es X.env).map (·.2):=by rfl):VGs X (e::es) (is++js) (gCons' f fs):=by
 obtain⟨g,p,q⟩:=h1;obtain⟨gs,ps,qs⟩:=h2;exact⟨_,zlp p ps hs,zlR q qs⟩
theorem zc7 {es:List Expr}{k:Nat}{is:List Nat}{n:Nat}{fs:FGs}(hc:X.calm=true)(h:VGs X es is fs)(hn:(assignEach es X.env).length=n:=by rfl)(hst:(assignEach es X.env).findIdx? (·.1)=none:=by rfl):VG X (.Tuple es k pos) is (gT n fs):=by
 obtain⟨gs,ps,qs⟩:=h;exact⟨_,zo3 hc ps hn hst,znP qs⟩
theorem vgC (i:Nat){X:Cx}{scope:Scope}{cl:List (Str×Addr)}{NC:List Str}{C:Addr}{s0:Shared}{H0:Hp}{ex:List Addr}{pn:List (Addr×Obj)}{x:Str}{pos:Pos}(nd:NC.Nodup)(hi:NC[i]?=some x)(hx:scope.names.lookup x=some .local):VG (cxC X scope cl NC C s0 H0 ex pn) (.Name x pos) [i] (gN i):=⟨_,pgC i nd hi hx,zka⟩
end
def TEof (K:W.Frag)(f:FE):TE:=fun σ H Q=>∃Hz Jz O ρ J d,ST K Hz Jz O ρ σ H J/\f ρ=some d/\zj3 K H J d Q
def TTof (K:W.Frag)(f:FT):TT:=fun σ H Q=>∃Hz Jz O ρ J b,ST K Hz Jz O ρ σ H J/\f ρ=some b/\zmY H J b Q
def TGof (K:W.Frag)(f:FG):TG:=fun v σ H Q=>∃Hz Jz O ρ J d ρ',ST K Hz Jz O ρ σ H J/\Rp K H J v d/\f d ρ=some ρ'/\∀σ',ST K Hz Jz O ρ' σ' H J->Q σ' H
theorem VE.of {X:Cx}{e:Expr}{f:FE}(h:VE X e f):PE X e (TEof X.K f):=by
 obtain⟨t,p,g⟩:=h;rintro pins s σ H Q I ⟨Hz,Jz,O,ρ,J,d,s1,e1,w⟩;exact p pins s σ H Q I (g Hz Jz O ρ σ H J d Q s1 e1 w)
theorem VG.of {X:Cx}{e:Expr}{is:List Nat}{f:FG}(h:VG X e is f):PG X e (TGof X.K f):=by
 obtain⟨t,p,g⟩:=h;rintro pins s σ H v u Q I r ⟨Hz,Jz,O,ρ,J,d,ρ',s1,r1,e1,w⟩;exact p pins s σ H v u Q I r (g.2 Hz Jz O ρ σ H J v d ρ' Q s1 r1 e1 w)
def zb0 (ρ:En)(fr:List (Option Nat)):En:=fr.map fun o=>match o with
 | none=>.un
 | some j=>match ρ[j]? with
   | some (.val d)=>.val d
   | _=>.un
def zeo (f:D->Option (Option D)):List D->Option (List D)
 | []=>some []
 | d::r=>(f d).bind fun o=>(zeo f r).bind fun xs=>some (match o with | some x=>x::xs | none=>xs)
def zbC (ρ:En)(g:FG)(t:FT)(e:FE)(d:D):Option (Option D):=(g d ρ).bind fun ρ1=>(t ρ1).bind fun ok=>if ok then(e ρ1).bind fun x=>some (some x) else some none
def zgV (fr:List (Option Nat))(fi:FA)(g:FG)(t:FT)(e:FE):FA:=fun ρ=>(fi ρ).bind fun ds=>(zeo (zbC (zb0 ρ fr) g t e) ds).bind fun out=>if out.length<=lim then some out else none
def tTrue:FT:=fun _=>some true
def VTs (X:Cx)(ifs:List Expr)(f:FT):Prop:=PTs X ifs (TTof X.K f)
theorem zhL {X:Cx}:VTs X [] tTrue:=by
 rintro pins s σ H Q I ⟨Hz,Jz,O,ρ,J,d,s1,e1,w⟩;cases e1;exact zjL pins s σ H Q I (w H J (Up.refl s1.ja))
theorem ziu (σ:L2.St)(fr:List (Option Nat)):(pick σ fr).length=fr.length:=by simp[pick]
theorem zkb (ρ:En)(fr:List (Option Nat)):(zb0 ρ fr).length=fr.length:=by simp[zb0]
section
variable {K:W.Frag}{H H' H1 Hz:Hp}{J J' J1 Jz:Addr->Prop}{ρ:En}{σ:L2.St}
def Pr.blk (O:Pr):Pr:=⟨[],O.fpo⟩
theorem zeX (ρ:En)(fr:List (Option Nat)):∀i:Nat,ownD ((zb0 ρ fr)[i]?)=none:=by
 intro i;unfold zb0;rw[wag];cases q:fr[i]? with
 | none=>rfl
 | some o=>
   cases o with
   | none=>rfl
   | some j=>
     simp only[Option.map_some];cases z:ρ[j]? with
     | none=>rfl
     | some y=>cases y <;> rfl
theorem zkc {x:Option (Option V)}{s:Option SV}{O:List Addr}(h:ownD s=none):OwAt K Hz H J O x [] s:=by
 match s,h with
 | none,_=>rfl
 | some .un,_=>rfl
 | some (.val _),_=>rfl
theorem ST.pick {O:Pr}(s:ST K Hz Jz O ρ σ H J)(fr:List (Option Nat)):ST K Hz Jz O.blk (zb0 ρ fr) (pick σ fr) H J where
 same:=s.same
 j0:=s.j0
 jn:=s.jn
 ja:=s.ja
 al:=s.al
 ps:=fun q hq=>absurd hq (by simp[Pr.blk])
 ow:=⟨fun _=>[],fun i=>zkc (zeX ρ fr i),fun _=>wba,fun _ b hb=>absurd hb (by simp),fun _ _ _ b hb=>absurd hb (by simp)⟩
 len:=by rw[ziu,zkb]
 vl:=fun i d h=>by
  unfold zb0 at h;rw[wag] at h;cases q:fr[i]? with
  | none=>rw[q] at h;cases h
  | some o=>
    rw[q] at h;cases o with
    | none=>simp at h
    | some j=>
      simp only[Option.map_some,Option.some.injEq] at h;cases z:ρ[j]? with
      | none=>rw[z] at h;cases h
      | some y=>
        rw[z] at h;cases y with
        | val d'=>
          cases h;obtain⟨v,hv,r⟩:=s.vl j _ z;refine⟨v,?_,r⟩;show(fr.map _)[i]?=_
          rw[wag,q];simp[hv]
        | _=>cases h
def Mt:HO->Prop
 | .lst _=>True
 | .dK _=>True
 | _=>False
theorem zcb {D:Addr}{o0 o:HO}(hD:H D=some o0)(nj:¬J D)(hm:Mt o0:=by exact True.intro):Keep K H J (upd H D o) J:=⟨fun _ h=>h,fun p u j h=>by rw[zak (show p≠D from fun z=>nj (z▸j))];exact h,fun p vs h=>by
 rcases h with(h | ⟨u,h⟩) | h
 ·refine .inl (.inl ?_);rw[zak];exact h;rintro rfl;rw[h] at hD;cases hD;exact hm
 ·refine .inl (.inr ⟨u,?_⟩);rw[zak];exact h;rintro rfl;rw[h] at hD;cases hD;exact hm
 ·exact .inr h⟩
theorem OwAt.nil {x:Option (Option V)}{A:List Addr}{s:Option SV}{O:List Addr}(h:OwAt K Hz H J O x A s)(n:ownD s=none):A = []:=by
 match s,h,n with
 | none,h,_=>exact h
 | some .un,h,_=>exact h
 | some (.val _),h,_=>exact h
theorem ST.at {O:Pr}{D:Addr}{o0 o:HO}(s:ST K Hz Jz O ρ σ H J)(no:∀i:Nat,ownD (ρ[i]?)=none)(hD:H D=some o0)(nj:¬J D)(h0:Hz D=none)(hm:Mt o0:=by exact True.intro):ST K Hz Jz O ρ σ (upd H D o) J where
 same:=fun b u hb h=>by rw[zak (show b≠D from fun z=>by rw[z,h0] at h;cases h)];exact s.same b u hb h
 j0:=s.j0
 jn:=s.jn
 ja:=fun a h=>by
  by_cases e:a=D
  ·subst e;rw[zah];simp
  ·rw[zak e];exact s.ja a h
 al:=fun a h=>by
  by_cases e:a=D
  ·subst e;rw[zah];simp
  ·rw[zak e];exact s.al a h
 len:=s.len
 vl:=fun i d h=>let ⟨v,e,r⟩:=s.vl i d h;⟨v,e,r.keep (zcb hD nj hm)⟩
 ps:=s.ps
 ow:=by
  obtain⟨fp,w⟩:=s.ow;refine⟨fp,fun i=>(w.at' i).keep (zcb hD nj hm) fun b hb=>?_,w.nd,w.nj,w.dj⟩;rw[(w.at' i).nil (no i)] at hb;cases hb
theorem Up.at {D:Addr}{ys:List V}{o:HO}(u:Up H1 J1 H J)(h1:H1 D=none):Up H1 J1 (upd H D o) J:=⟨fun b v h=>by rw[zak (show b≠D from fun z=>by rw[z,h1] at h;cases h)];exact u.same b v h,u.jj,u.jn,fun a h=>by
 by_cases e:a=D
 ·subst e;rw[zah];simp
 ·rw[zak e];exact u.ja a h⟩
end
def apart (is:List Nat)(fr:List (Option Nat)):Bool:=is.all fun i=>fr[i]? == some none
theorem znR {ρ ρ1:En}{fr:List (Option Nat)}{is:List Nat}(o:Only is (zb0 ρ fr) ρ1)(h:apart is fr=true):Weak (zb0 ρ fr) ρ1:=by
 refine⟨o.1.symm,fun i=>?_⟩;by_cases hi:i∈is
 ·right
  have q:=waF.mp h i hi
  have q':fr[i]?=some none:=by simpa using q
  unfold zb0;rw[wag,q'];rfl
 ·left;exact(o.2 i hi).symm
theorem ST.free {K:W.Frag}{Hz H H1:Hp}{Jz J J1:Addr->Prop}{O:Pr}{ρ:En}{σ:L2.St}(s:ST K Hz Jz O ρ σ H J)(u:Up H J H1 J1){b:Addr}(h:H1 b=none):Hz b=none:=by
 cases e:Hz b with
 | none=>rfl
 | some o=>exact absurd h ((s.up u).al b (by rw[e];simp))
def SrcU (K:W.Frag)(I:It)(H:Hp)(J:Addr->Prop)(ds:List D):Prop:=∀H2 J2,Up H J H2 J2->(∀a,J2 a->H2 a≠none)->I.stop ds.length H2/\∀i d,ds[i]?=some d->I.go i H2/\∀x H3,I.yld i H2 x H3->∃J3,Up H2 J2 H3 J3/\Rp K H3 J3 x d
def GoIU (K:W.Frag)(wi:TI)(f:FA):Prop:=∀Hz Jz O ρ σ H J ds R,ST K Hz Jz O ρ σ H J->f ρ=some ds->(∀I H' J',Up H J H' J'->SrcU K I H' J' ds->R I H')->wi σ H R
theorem GoI.u {K:W.Frag}{wi:TI}{f:FA}(h:GoI K wi f):GoIU K wi f:=fun Hz Jz O ρ σ H J ds R s e w=>h Hz Jz O ρ σ H J ds R s e fun I H' J' u src=>w I H' J' u fun H2 J2 u2 ja=>src H2 J2 u2.keep ja
theorem zlS {K:W.Frag}{fr:List (Option Nat)}{wi:TI}{fi:FA}{g:FG}{is:List Nat}{ft:FT}{fe:FE}(hi:GoIU K wi fi)(hon:∀d ρ ρ',g d ρ=some ρ'->Only is ρ ρ')(hap:apart is fr=true) :
 GoN K (zgJ fr wi (TGof K g) (TTof K ft) (TEof K fe)) (zgV fr fi g ft fe):=by
 intro Hz Jz O ρ σ H J out Q s e w;obtain⟨ds,e1,e⟩:=bind_some e;obtain⟨out',e2,e⟩:=bind_some e;by_cases hl:out'.length<=lim
 ·rw[if_pos hl] at e;cases e;refine hi Hz Jz O ρ σ H J ds _ s e1 fun I H1 J1 u1 src=>?_
  intro Da hD;have hD0:Hz Da=none:=(s.free (u:=u1) hD)
  have nJ1:¬J1 Da:=fun j=>u1.ja Da j hD
  refine⟨fun i m ys σ2 H2=>m=ds.length - i/\i<=ds.length/\∃J2 dn rs,ST K Hz Jz O.blk (zb0 ρ fr) σ2 H2 J2/\Up H1 J1 H2 J2/\¬J2 Da/\Keep K H1 J1 H2 J2/\RpL K H2 J2 ys dn/\out=dn++rs/\zeo (zbC (zb0 ρ fr) g ft fe) (ds.drop i)=some rs,⟨ds.length,by simp,wbj _,?_⟩,?_⟩
  ·have un:=Up.new u1.ja hD (.lst [])
   exact⟨J1,[],out,((s.up u1).up un).pick fr,un,nJ1,un.keep,.nil,rfl,by simpa using e2⟩
  ·rintro i m ys σ2 H2 ⟨rfl,hil,J2,dn,rs,s2,u2,nj2,k2,r2,eo,ec⟩ hys;obtain⟨stop,turn⟩:=src H2 J2 u2 s2.ja;by_cases hlt:i<ds.length
   ·right
    have hd:ds[i]?=some ds[i]:=waa hlt
    generalize hdd:ds[i]=d at hd;obtain⟨go,yl⟩:=turn i d hd;have edrop:ds.drop i=d::ds.drop (i+1):=by rw[<-hdd];exact(wbN hlt).symm
    rw[edrop] at ec;obtain⟨o,eo1,ec⟩:=bind_some (show((zbC (zb0 ρ fr) g ft fe d).bind fun o=>(zeo (zbC (zb0 ρ fr) g ft fe) (ds.drop (i+1))).bind fun xs=>some (match o with | some x=>x::xs | none=>xs))=some rs from ec);obtain⟨rs',er,ec⟩:=bind_some ec;obtain⟨ρ1,eg,eo1⟩:=bind_some eo1;obtain⟨ok,et,eo1⟩:=bind_some eo1;refine⟨go,fun zs σ' H'=>∃J2 dn rs,ST K Hz Jz O.blk (zb0 ρ fr) σ' H' J2/\Up H1 J1 H' J2/\¬J2 Da/\Keep K H1 J1 H' J2/\RpL K H' J2 zs dn/\out=dn++rs/\zeo (zbC (zb0 ρ fr) g ft fe) (ds.drop (i+1))=some rs,fun zs σ' H' h=>⟨ds.length - (i+1),by omega,rfl,hlt,h⟩,fun x H3 y=>?_⟩;obtain⟨J3,u3,r3⟩:=yl x H3 y;have wk:Weak (zb0 ρ fr) ρ1:=znR (hon _ _ _ eg) hap
    refine⟨Hz,Jz,O.blk,zb0 ρ fr,J3,d,ρ1,s2.up u3,r3,eg,fun σ4 s4=>?_⟩;refine⟨Hz,Jz,O.blk,ρ1,J3,ok,s4,et,fun H5 J5 u5=>?_⟩;have s5:=s4.up u5
    have u25:=u3.trans u5
    have nj5:¬J5 Da:=fun j=>by
     rcases u25.jn Da j with j | j
     ·exact nj2 j
     ·rw[hys] at j;cases j
    have hy5:H5 Da=some (.lst ys):=u25.same _ _ hys
    refine⟨fun hok=>?_,fun hok=>?_⟩
    ·subst hok;rw[if_pos rfl] at eo1;obtain⟨xd,ex,eo1⟩:=bind_some eo1;cases eo1;cases ec;refine⟨Hz,Jz,O.blk,ρ1,J5,xd,s5,ex,fun v H6 J6 u6 r6=>?_⟩;have u26:=u25.trans u6
     have nj6:¬J6 Da:=fun j=>by
      rcases u6.jn Da j with j | j
      ·exact nj5 j
      ·rw[hy5] at j;cases j
     have hy6:H6 Da=some (.lst ys):=u6.same _ _ hy5
     have kA:Keep K H6 J6 (upd H6 Da (.lst (ys++[v]))) J6:=zcb hy6 nj6
     refine⟨hy6,?_,J6,dn++[xd],rs',?_,(u2.trans u26).at (ys:=ys) hD,nj6,(k2.trans u26.keep).trans kA,((r2.keep u26.keep).append (.cons r6 .nil)).keep kA,by rw[eo];simp,er⟩
     ·have:(dn++xd::rs').length<=lim:=by rw[<-eo];exact hl
      rw[wam,waS] at this;rw[r2.length];exact wan (by omega:dn.length<lim) (wbs zeT)
     ·exact((s5.up u6).weak wk rfl).at (zeX ρ fr) hy6 nj6 hD0
    ·subst hok;rw[if_neg (by simp)] at eo1;cases eo1;cases ec;exact⟨hy5,J5,dn,rs',s5.weak wk rfl,u2.trans u25,nj5,k2.trans u25.keep,r2.keep u25.keep,eo,er⟩
   ·left
    have hi':i=ds.length:=by omega
    subst hi';rw[wcz] at ec;cases ec;refine⟨stop,?_⟩;rw[waJ] at eo;subst eo;exact w Da ys H2 J2 (u1.trans u2) (u1.same.free hD) nj2 hys r2
 ·rw[if_neg hl] at e;cases e
theorem znS {K:W.Frag}{fr:List (Option Nat)}{wi:TI}{fi:FA}{g:FG}{is:List Nat}{ft:FT}{fe:FE}(hi:GoI K wi fi)(hon:∀d ρ ρ',g d ρ=some ρ'->Only is ρ ρ')(hap:apart is fr=true):GoN K (zgJ fr wi (TGof K g) (TTof K ft) (TEof K fe)) (zgV fr fi g ft fe):=zlS hi.u hon hap
theorem zlT (N:List Str)(st:Stmt){X:Cx}{elt iter tg:Expr}{ifs:List Expr}{scope:Scope}{pos:Pos}{NC:List Str}(fr:List (Option Nat)){fi:FA}{g:FG}{is:List Nat}{ft:FT}{fe:FE}{RR:Hp->Prop}(hRR:∀pins σ H s,Inv X pins σ H s->RR H)(hcalm:X.calm=true)(hi:VI X tg iter fi)
 (hcells:∀x,X.env.scope.names.lookup x=some .cell->∃c,X.env.cells.lookup x=some c) (hfk:X.env.scope.kind=.function) (hN:X.N=N) (hsc:X.env.scope.names=(zae st).names)
 (hfree':∀y∈scope.names,y.2=.free->(zae st).names.lookup y.1=some .cell) (hcell:∀y∈scope.names,y.2≠.cell) (hkind:scope.kind=.function) (hnames:∀y∈scope.names,y.2=.local->scope.names.lookup y.1=some .local)
 (hfr':zf4 N (zae st).names scope.names NC fr=true) (hlen:fr.length=NC.length) (hap:apart is fr=true)
 (hg:∀cl C s0 H0 ex pn,VG (cxC X scope cl NC C s0 H0 ex pn) tg is g) (ht:∀cl C s0 H0 ex pn,VTs (cxC X scope cl NC C s0 H0 ex pn) ifs ft) (he:∀cl C s0 H0 ex pn,RR H0->VE (cxC X scope cl NC C s0 H0 ex pn) elt fe)
 (hs:∀x,foldedSetIterable iter X.env x=pure x:=by intro _;rfl):VN X (.ListComp elt [⟨tg,iter,ifs,0⟩] scope pos) (zgV fr fi g ft fe):=by
 obtain⟨wi,pi,gi⟩:=hi;obtain⟨_,_,hon,_⟩:=hg [] 0 X.s₀ X.Hz [] [];exact⟨_,zj2 N st fr hRR hcalm pi hcells hfk hN hsc hfree' hcell hkind hnames hfr' hlen (fun cl C s0 H0 ex pn=>(hg cl C s0 H0 ex pn).of) (fun cl C s0 H0 ex pn=>show PTs (cxC X scope cl NC C s0 H0 ex pn) ifs (TTof X.K ft) from ht cl C s0 H0 ex pn) (fun cl C s0 H0 ex pn r=>(he cl C s0 H0 ex pn r).of) hs,znS gi hon hap⟩
theorem znT (N:List Str)(st:Stmt){X:Cx}{elt iter tg:Expr}{ifs:List Expr}{scope:Scope}{pos:Pos}{NC:List Str}(fr:List (Option Nat)){fi:FA}{g:FG}{is:List Nat}{ft:FT}{fe:FE}(hcalm:X.calm=true)(hi:VI X tg iter fi)
 (hcells:∀x,X.env.scope.names.lookup x=some .cell->∃c,X.env.cells.lookup x=some c) (hfk:X.env.scope.kind=.function) (hN:X.N=N) (hsc:X.env.scope.names=(zae st).names)
 (hfree':∀y∈scope.names,y.2=.free->(zae st).names.lookup y.1=some .cell) (hcell:∀y∈scope.names,y.2≠.cell) (hkind:scope.kind=.function) (hnames:∀y∈scope.names,y.2=.local->scope.names.lookup y.1=some .local)
 (hfr':zf4 N (zae st).names scope.names NC fr=true) (hlen:fr.length=NC.length) (hap:apart is fr=true)
 (hg:∀cl C s0 H0 ex pn,VG (cxC X scope cl NC C s0 H0 ex pn) tg is g) (ht:∀cl C s0 H0 ex pn,VTs (cxC X scope cl NC C s0 H0 ex pn) ifs ft) (he:∀cl C s0 H0 ex pn,VE (cxC X scope cl NC C s0 H0 ex pn) elt fe)
 (hs:∀x,foldedSetIterable iter X.env x=pure x:=by intro _;rfl):VN X (.ListComp elt [⟨tg,iter,ifs,0⟩] scope pos) (zgV fr fi g ft fe):=
 zlT (RR:=fun _=>True) N st fr (fun _ _ _ _ _=>trivial) hcalm hi hcells hfk hN hsc hfree' hcell hkind hnames hfr' hlen hap hg ht (fun cl C s0 H0 ex pn _=>he cl C s0 H0 ex pn) hs
inductive RV where
 | told (d:D) | new (n:Nat) (d:D)
inductive Out where
 | nx (ρ:En) | ret (r:RV) (ρ:En) | bk (ρ:En) | ct (ρ:En)
abbrev FS:=En->Option Out
def RtAt (K:W.Frag)(Hz:Hp)(O:Pr)(ρ:En)(σ:L2.St)(H:Hp)(J:Addr->Prop)(v:V):RV->Prop
 | .told d=>Rp K H J v d
 | .new n d=>∃A fp,Ow K Hz O ρ σ H J fp/\RpU K H J n v d A/\A.Nodup/\(∀b∈A,¬J b/\Hz b=none)/\∀i:Nat,∀b∈A,b∉fp i
def Fits (K:W.Frag)(Hz:Hp)(Jz:Addr->Prop)(O:Pr)(H:Hp)(J:Addr->Prop)(E:Ends):Out->Prop
 | .nx ρ'=>∀σ' H' J',ST K Hz Jz O ρ' σ' H' J'->Keep K H J H' J'->E.nx σ' H'
 | .bk ρ'=>∀σ' H' J',ST K Hz Jz O ρ' σ' H' J'->Keep K H J H' J'->E.bk σ' H'
 | .ct ρ'=>∀σ' H' J',ST K Hz Jz O ρ' σ' H' J'->Keep K H J H' J'->E.ct σ' H'
 | .ret r ρ'=>∀v σ' H' J',ST K Hz Jz O ρ' σ' H' J'->RtAt K Hz O ρ' σ' H' J' v r->E.rt v H'
theorem Fits.keep {K:W.Frag}{Hz:Hp}{Jz:Addr->Prop}{O:Pr}{H H1:Hp}{J J1:Addr->Prop}{E:Ends}(k:Keep K H J H1 J1):∀{o:Out},Fits K Hz Jz O H J E o->Fits K Hz Jz O H1 J1 E o
 | .nx _,h=>fun σ' H' J' s q=>h σ' H' J' s (k.trans q)
 | .bk _,h=>fun σ' H' J' s q=>h σ' H' J' s (k.trans q)
 | .ct _,h=>fun σ' H' J' s q=>h σ' H' J' s (k.trans q)
 | .ret _ _,h=>h
def GoS (K:W.Frag)(t:TS)(g:FS):Prop:=∀Hz Jz O ρ σ H J o E,ST K Hz Jz O ρ σ H J->g ρ=some o->Fits K Hz Jz O H J E o->t E σ H
def VS (X:Cx)(st:Stmt)(g:FS):Prop:=∃t,PS X st t/\GoS X.K t g
def VSs (X:Cx)(sts:List Stmt)(g:FS):Prop:=∃t,PSs X sts t/\GoS X.K t g
def gSeq (a b:FS):FS:=fun ρ=>(a ρ).bind fun o=>match o with
 | .nx ρ'=>b ρ'
 | .bk ρ'=>some (.bk ρ')
 | .ct ρ'=>some (.ct ρ')
 | .ret d ρ'=>some (.ret d ρ')
def gNx:FS:=fun ρ=>some (.nx ρ)
theorem RpL.one {K:W.Frag}{H:Hp}{J:Addr->Prop}{vs:List V}{d:D}(r:RpL K H J vs [d]):∃v,vs = [v]/\Rp K H J v d:=by
 cases r with
 | cons h t=>cases t;exact⟨_,rfl,h⟩
section
variable {X:Cx}{K:W.Frag}{st:Stmt}{sts:List Stmt}{g g2:FS}{pos:Pos}{e a:Expr}{fa:FE}{fl:FA}{ft:FT}
theorem zas:VSs X [] gNx:=⟨_,zno,fun Hz Jz O ρ σ H J o E s e w=>by cases e;exact w σ H J s Keep.refl⟩
theorem zpE {t u:TS}(h1:GoS K t g)(h2:GoS K u g2):GoS K (tSeq t u) (gSeq g g2):=by
 intro Hz Jz O ρ σ H J o E s e w;obtain⟨o1,e1,e⟩:=bind_some e;refine h1 Hz Jz O ρ σ H J o1 _ s e1 ?_;cases o1 with
 | nx ρ'=>exact fun σ' H' J' s' k=>h2 Hz Jz O ρ' σ' H' J' o E s' e (w.keep k)
 | bk ρ'=>cases e;exact w
 | ct ρ'=>cases e;exact w
 | ret d ρ'=>cases e;exact w
theorem zab (h1:VS X st g)(h2:VSs X sts g2):VSs X (st::sts) (gSeq g g2):=by
 obtain⟨t,p,q⟩:=h1;obtain⟨u,p2,q2⟩:=h2;exact⟨_,zih p p2,zpE q q2⟩
theorem zai (h:VS X st g):VSs X [st] g:=let ⟨t,p,q⟩:=h;⟨t,zjr p,q⟩
def frzE (i:Nat)(ρ:En):En:=match ρ[i]? with
 | some (.own _ d)=>ρ.set i (.val d)
 | _=>ρ
theorem zdZ (i:Nat)(h:VSs X sts g):VSs X sts (fun ρ=>g (frzE i ρ)):=by
 obtain⟨t,p,q⟩:=h;refine⟨t,p,fun Hz Jz O ρ σ H J o E s e w=>?_⟩;have e:g (frzE i ρ)=some o:=e
 unfold frzE at e;cases z:ρ[i]? with
 | none=>rw[z] at e;exact q Hz Jz O ρ σ H J o E s e w
 | some x=>
   rw[z] at e;cases x with
   | own n d=>
     obtain⟨J',s',k⟩:=s.frz z;exact q Hz Jz O _ σ H J' o E s' e (w.keep k)
   | _=>exact q Hz Jz O ρ σ H J o E s e w
def gNo:FS:=fun _=>none
theorem zex:VS X st gNo:=⟨_,zlo,fun Hz Jz O ρ σ H J o E s e w=>by cases e⟩
def gRet (f:FE):FS:=fun ρ=>(f ρ).bind fun d=>some (.ret (.told d) ρ)
theorem zaG (h:VE X e fa):VS X (.Return (some e) pos) (gRet fa):=by
 obtain⟨t,p,q⟩:=h;refine⟨_,zii p,fun Hz Jz O ρ σ H J o E s e w=>?_⟩;obtain⟨d,e1,e⟩:=bind_some e;cases e;exact q Hz Jz O ρ σ H J d _ s e1 fun v H' J' u r=>w v σ H' J' (s.up u) r
def gEx (f:FE):FS:=fun ρ=>(f ρ).bind fun _=>some (.nx ρ)
theorem zf8 (h:VE X e fa)(hs:swapsWith e none pos.line X.env=pure false:=by rfl):VS X (.Expr e pos) (gEx fa):=by
 obtain⟨t,p,q⟩:=h;refine⟨_,zfT p hs,fun Hz Jz O ρ σ H J o E s e w=>?_⟩;obtain⟨d,e1,e⟩:=bind_some e;cases e;exact q Hz Jz O ρ σ H J d _ s e1 fun v H' J' u r=>w σ H' J' (s.up u) u.keep
def gIf (c:FT)(a b:FS):FS:=fun ρ=>(c ρ).bind fun k=>if k then a ρ else b ρ
theorem zbG {c:Expr}{bs os:List Stmt}(hc:VT X c ft)(ha:VSs X bs g)(hb:VSs X os g2):VS X (.If c bs os pos) (gIf ft g g2):=by
 obtain⟨tc,pc,qc⟩:=hc;obtain⟨t,p,q⟩:=ha;obtain⟨u,p2,q2⟩:=hb;refine⟨_,zo0 pc p p2,fun Hz Jz O ρ σ H J o E s e w=>?_⟩;obtain⟨k,e1,e⟩:=bind_some e;refine qc Hz Jz O ρ σ H J k _ s e1 fun H1 J1 u1=>?_
 cases k with
 | true=>exact iteT (q Hz Jz O ρ σ H1 J1 o E (s.up u1) e (w.keep u1.keep))
 | false=>exact iteF (q2 Hz Jz O ρ σ H1 J1 o E (s.up u1) e (w.keep u1.keep))
def gSet (i:Nat)(f:FE):FS:=fun ρ=>(f ρ).bind fun d=>if i<ρ.length/\isPar (ρ[i]?)=false then some (.nx (ρ.set i (.val d))) else none
theorem zpF {i:Nat}{t:TE}(q:GoE K t fa):GoS K (tAsg t (zeL i)) (gSet i fa):=by
 intro Hz Jz O ρ σ H J o E s e w;obtain⟨d,e1,e⟩:=bind_some e;by_cases hi:i<ρ.length/\isPar (ρ[i]?)=false
 ·rw[if_pos hi] at e;cases e;exact q Hz Jz O ρ σ H J d _ s e1 fun v H' J' u r=>w _ H' J' ((s.up u).set r hi.1 (zct hi.2)) u.keep
 ·rw[if_neg hi] at e;cases e
theorem zpG {i:Nat}{x:Str}{pos':Pos}(hN:X.N.Nodup)(hi:X.N[i]?=some x)(hx:Loc X.env.scope x)(h:VE X e fa)(hs:swapsWith e (some (.Name x pos')) pos.line X.env=pure false:=by rfl)(hf:X.fn x=true\/X.env.scope.names.lookup x=some .local:=by first | exact .inl rfl | exact .inr rfl | assumption) :
 VS X (.Assign [.Name x pos'] e pos) (gSet i fa):=by
 obtain⟨t,p,q⟩:=h;exact⟨_,zgu hN hi hx p hs hf,zpF q⟩
def gOwn (i:Nat)(f:FA):FS:=fun ρ=>(f ρ).bind fun ds=>if i<ρ.length/\isPar (ρ[i]?)=false then some (.nx (ρ.set i (.own 1 (.lst ds)))) else none
theorem zpH {i:Nat}{t:TE}(q:GoN K t fl):GoS K (tAsg t (zeL i)) (gOwn i fl):=by
 intro Hz Jz O ρ σ H J o E s e w;obtain⟨ds,e1,e⟩:=bind_some e;by_cases hi:i<ρ.length/\isPar (ρ[i]?)=false
 ·rw[if_pos hi] at e;cases e;refine q Hz Jz O ρ σ H J ds _ s e1 fun p vs H' J' u hp nj h' r=>w _ H' J' (s.setOwn (A:=[p]) u (fun b hb=>by rw[waf.mp hb];exact hp) (.lst h' (RpUL.of r)) (by simp) (fun b hb=>by rw[waf.mp hb];exact nj) hi.1 (zct hi.2)) u.keep
 ·rw[if_neg hi] at e;cases e
def gRetO (i:Nat):FS:=fun ρ=>match ρ[i]? with
 | some (.own n d)=>some (.ret (.new n d) (ρ.set i .un))
 | _=>none
theorem ST.move {Hz H:Hp}{Jz J:Addr->Prop}{O:Pr}{ρ:En}{σ:L2.St}{i n:Nat}{d:D}(s:ST K Hz Jz O ρ σ H J)(h0:ρ[i]?=some (.own n d)):∃v,σ[i]?=some (some v)/\ST K Hz Jz O (ρ.set i .un) σ H J/\RtAt K Hz O (ρ.set i .un) σ H J v (.new n d):=by
 have hp:∀n d,ρ[i]?≠some (.par n d):=fun m e z=>by rw[h0] at z;cases z
 obtain⟨fp,w⟩:=s.ow;have hat:=w.at' i
 rw[h0] at hat
 obtain⟨⟨v,hv,r⟩,hn⟩:=hat
 have hi:i<ρ.length:=(wab.mp h0).1
 refine⟨v,hv,s.drop hp,fp i,zhG fp i [],w.put (i:=i) (A:=[]) Keep.refl (fun _ _ _ _ _ h=>h) (fun j _=>w.nj j) (fun j e=>wai (Ne.symm e)) (fun _ _=>rfl) ?_ wba (by simp) (by simp),r,w.nd i,fun b hb=>⟨w.nj i b hb,hn b hb⟩,fun j b hb=>?_⟩
 ·rw[wat hi];rfl
 ·by_cases e:j=i
  ·subst e;rw[za1];simp
  ·rw[zbB e];exact fun hb2=>w.dj j i e b hb2 hb
theorem znU (i:Nat){x:Str}{p:Pos}(hN:X.N[i]?=some x:=by rfl)(hv:Vis X.env.scope x:=by first | exact Or.inl rfl | exact Or.inr (Or.inl rfl) | exact Or.inr (Or.inr rfl))(hd:(x == ("__debug__" : Str))=false:=by decide)
 (hcd:(x == ("__classdict__" : Str))=false:=by decide):VS X (.Return (some (.Name x p)) pos) (gRetO i):=by
 refine⟨_,zii (zb1 hN hv hd hcd),fun Hz Jz O ρ σ H J o E s e w=>?_⟩;unfold gRetO at e;split at e
 ·rename_i n d z
  cases e;obtain⟨v,hv,s',r⟩:=s.move z;exact⟨v,hv,w v σ H J s' r⟩
 ·cases e
theorem zpI {i:Nat}{x:Str}{pos':Pos}(hN:X.N.Nodup)(hi:X.N[i]?=some x)(hx:Loc X.env.scope x)(h:VN X e fl)(hs:swapsWith e (some (.Name x pos')) pos.line X.env=pure false:=by rfl)(hf:X.fn x=true\/X.env.scope.names.lookup x=some .local:=by first | exact .inl rfl | exact .inr rfl | assumption) :
 VS X (.Assign [.Name x pos'] e pos) (gOwn i fl):=by
 obtain⟨t,p,q⟩:=h;exact⟨_,zgu hN hi hx p hs hf,zpH q⟩
def gAsg (f:FE)(g:FG):FS:=fun ρ=>(f ρ).bind fun d=>(g d ρ).bind fun ρ'=>some (.nx ρ')
theorem zgW {tg:Expr}{is:List Nat}{fg:FG}(h:VE X e fa)(hg:VG X tg is fg)(hs:swapsWithSole [tg] e pos.line X.env=pure false:=by rfl)(hw:swappedStores [tg] e X.env=pure none:=by rfl)(h1:(assignEach [tg] X.env).map (·.2) = [assign tg X.env]:=by rfl):VS X (.Assign [tg] e pos) (gAsg fa fg):=by
 obtain⟨t,p,q⟩:=h;obtain⟨u,p2,q2⟩:=hg;refine⟨_,zjt p p2 hs hw h1,fun Hz Jz O ρ σ H J o E s e w=>?_⟩;obtain⟨d,e1,e⟩:=bind_some e;obtain⟨ρ',e2,e⟩:=bind_some e;cases e;exact q Hz Jz O ρ σ H J d _ s e1 fun v H' J' u r=>q2.2 Hz Jz O ρ σ H' J' v d ρ' _ (s.up u) r e2 fun σ' s'=>w σ' H' J' s' u.keep
def setO (ρ:En)(i:Nat)(d:D):En:=ρ.set i (putD (ρ[i]?) d)
theorem ST.top {Hz H H':Hp}{Jz J:Addr->Prop}{O:Pr}{ρ:En}{σ:L2.St}{i:Nat}{ds es:List D}(s:ST K Hz Jz O ρ σ H J)(h0:ownD (ρ[i]?)=some (1,.lst ds)):∃a vs,σ[i]?=some (some (.ref a))/\H a=some (.lst vs)/\RpL K H J vs ds/\
 ∀(us:List V) (es:List D),RpL K H J us es->ST K Hz Jz O (setO ρ i (.lst es)) σ (upd H a (.lst us)) J/\Keep K H J (upd H a (.lst us)) J:=by
 obtain⟨v,A,hv,r,nd,nj,go⟩:=s.chg h0;obtain⟨a,vs,rfl,rfl,ha,rl⟩:=r.one;refine⟨a,vs,hv,ha,rl,fun us es re=>?_⟩;have nja:¬J a:=nj a (by simp)
 have kp:Keep K H J (upd H a (.lst us)) J:=zcb ha nja
 refine go (upd H a (.lst us)) J (.lst es) [a] (fun b o hb h=>?_) (fun b h=>?_) (fun _ h=>h) (fun _ h=>.inl h) (fun b h=>?_) (.lst zah (RpUL.of (re.keep kp))) (by simp) nj (fun b hb=>.inl hb)
 ·rw[zak (fun z=>hb (by simp[z]))];exact h
 ·by_cases e:b=a
  ·subst e;rw[zah];simp
  ·rw[zak e];exact h
 ·by_cases e:b=a
  ·subst e;rw[zah];simp
  ·rw[zak e];exact s.ja b h
def gApp (i:Nat)(f:FE):FS:=fun ρ=>(f ρ).bind fun d=>match ownD (ρ[i]?) with
 | some (1,.lst ds)=>if ds.length<lim then some (.nx (setO ρ i (.lst (ds++[d])))) else none
 | _=>none
theorem zpJ {i:Nat}{t:TA}(q:GoA K t fl)(f:FE)(hf:∀ρ d,f ρ=some d->fl ρ=some [d]):GoS K (zln (tBM K "list" zf0 (tVar i) t)) (gApp i f):=by
 intro Hz Jz O ρ σ H J o E s e w;obtain⟨d,e1,e⟩:=bind_some e;split at e
 ·rename_i ds z
  by_cases hl:ds.length<lim
  ·rw[if_pos hl] at e;cases e;obtain⟨a,vs,ha,hv,_,_⟩:=s.top (H':=H) (es:=[]) z;refine⟨.ref a,ha,.inl ⟨rfl,vs,SqL.of hv⟩,q Hz Jz O ρ σ H J [d] _ s (hf ρ d e1) fun ws H1 J1 u1 r1=>?_⟩;obtain⟨v,rfl,rv⟩:=r1.one;obtain⟨a',vs',ha',hv',rl,go⟩:=(s.up u1).top (H':=H) (es:=[]) z;rw[ha] at ha';cases ha';refine⟨a,vs',v,rfl,rfl,hv',by rw[rl.length];exact wan hl (wbs zeT),?_⟩;obtain⟨s2,k2⟩:=go (vs'++[v]) (ds++[d]) (rl.append (.cons rv .nil));exact w σ _ J1 s2 (u1.keep.trans k2)
  ·rw[if_neg hl] at e;cases e
 ·cases e
theorem zdy (i:Nat){x:Str}{xp apos cpos:Pos}(h:VE X e fa)(hN:X.N[i]?=some x:=by rfl)(hv:Vis X.env.scope x:=by first | exact Or.inl rfl | exact Or.inr (Or.inl rfl) | exact Or.inr (Or.inr rfl))(hd:(x == ("__debug__" : Str))=false:=by decide)
 (hcd:(x == ("__classdict__" : Str))=false:=by decide) (h1:starEach [e] X.env=(false,eval e X.env)::starEach [] X.env:=by rfl)
 (hbase:attributeBase (.Name x xp) "append" X.env (eval (.Name x xp) X.env)=eval (.Name x xp) X.env:=by rfl)
 (hfew:((backTo cpos (starEach [e] X.env)).all (fun x=>!x.1)&&(backToKw cpos (keywordEach [] X.env)).all (fun x=>x.1.isSome)
  && decide ([e].length+([]:List Keyword).length+(if([]:List Keyword).isEmpty then 0 else 1)<30))=true:=by rfl)
 (hline:(apos.endLine == cpos.line)=true:=by rfl) (hs:starEach [e] X.env = [(false,eval e X.env)]:=by rfl) (hsw:swapsWith (.Call (.Attribute (.Name x xp) "append" apos) [e] [] cpos) none pos.line X.env=pure false:=by rfl) :
 VS X (.Expr (.Call (.Attribute (.Name x xp) "append" apos) [e] [] cpos) pos) (gApp i fa):=by
 obtain⟨t,p,q⟩:=zaa h zag h1;refine⟨_,zfT (papp (zb1 hN hv hd hcd) p hbase hfew hline hs) hsw,zpJ q fa fun ρ d e=>?_⟩;show((fa ρ).bind fun x=>(aNil ρ).bind fun xs=>some (x::xs))=some [d]
 rw[e];rfl
def gExt (i:Nat)(f:FE):FS:=fun ρ=>(f ρ).bind fun d=>match d,ownD (ρ[i]?) with
 | .lst es,some (1,.lst ds)=>if(ds++es).length<=lim then some (.nx (setO ρ i (.lst (ds++es)))) else none
 | _,_=>none
theorem zpK {i:Nat}{t:TA}(q:GoA K t fl)(f:FE)(hf:∀ρ d,f ρ=some d->fl ρ=some [d]):GoS K (zln (tBM K "list" zjH (tVar i) t)) (gExt i f):=by
 intro Hz Jz O ρ σ H J o E s e w;obtain⟨d,e1,e⟩:=bind_some e;split at e
 ·rename_i es ds z
  by_cases hl:(ds++es).length<=lim
  ·rw[if_pos hl] at e;cases e;obtain⟨a,vs,ha,hv,_,_⟩:=s.top (H':=H) (es:=[]) z;refine⟨.ref a,ha,.inl ⟨rfl,vs,SqL.of hv⟩,q Hz Jz O ρ σ H J [.lst es] _ s (hf ρ _ e1) fun ws H1 J1 u1 r1=>?_⟩;obtain⟨v,rfl,rv⟩:=r1.one;obtain⟨b,us,rfl,hb,rb⟩:=RpW.lst (.inl rv);obtain⟨a',vs',ha',hv',rl,go⟩:=(s.up u1).top (H':=H) (es:=[]) z;rw[ha] at ha';cases ha';refine⟨a,b,vs',us,rfl,rfl,hv',hb,by rw[rl.length,rb.length,<-wam];exact zcg hl,?_⟩;obtain⟨s2,k2⟩:=go (vs'++us) (ds++es) (rl.append rb);exact w σ _ J1 s2 (u1.keep.trans k2)
  ·rw[if_neg hl] at e;cases e
 ·cases e
theorem zm5 (i:Nat){x:Str}{xp apos cpos:Pos}(h:VE X e fa)(hN:X.N[i]?=some x:=by rfl)(hv:Vis X.env.scope x:=by first | exact Or.inl rfl | exact Or.inr (Or.inl rfl) | exact Or.inr (Or.inr rfl))(hd:(x == ("__debug__" : Str))=false:=by decide)
 (hcd:(x == ("__classdict__" : Str))=false:=by decide) (h1:starEach [e] X.env=(false,eval e X.env)::starEach [] X.env:=by rfl)
 (hbase:attributeBase (.Name x xp) "extend" X.env (eval (.Name x xp) X.env)=eval (.Name x xp) X.env:=by rfl)
 (hfew:((backTo cpos (starEach [e] X.env)).all (fun x=>!x.1)&&(backToKw cpos (keywordEach [] X.env)).all (fun x=>x.1.isSome)
  && decide ([e].length+([]:List Keyword).length+(if([]:List Keyword).isEmpty then 0 else 1)<30))=true:=by rfl)
 (hline:(apos.endLine == cpos.line)=true:=by rfl) (hs:starEach [e] X.env = [(false,eval e X.env)]:=by rfl) (hsw:swapsWith (.Call (.Attribute (.Name x xp) "extend" apos) [e] [] cpos) none pos.line X.env=pure false:=by rfl) :
 VS X (.Expr (.Call (.Attribute (.Name x xp) "extend" apos) [e] [] cpos) pos) (gExt i fa):=by
 obtain⟨t,p,q⟩:=zaa h zag h1;refine⟨_,zfT (znw PySem.F.plainAttrs_list PySem.F.slot_list_extend PySem.F.type_list_extend zjI (zb1 hN hv hd hcd) p hbase hfew hline hs rfl) hsw,zpK q fa fun ρ d e=>?_⟩;show((fa ρ).bind fun x=>(aNil ρ).bind fun xs=>some (x::xs))=some [d]
 rw[e];rfl
end
def forL (tg:FG)(b:FS):List D->En->Option Out
 | [],ρ=>some (.nx ρ)
 | d::r,ρ=>(tg d ρ).bind fun ρ1=>(b ρ1).bind fun o=>match o with
   | .nx ρ2=>forL tg b r ρ2
   | .ct ρ2=>forL tg b r ρ2
   | .bk ρ2=>some (.nx ρ2)
   | .ret d ρ2=>some (.ret d ρ2)
def gFor (fi:FA)(tg:FG)(b:FS):FS:=fun ρ=>(fi ρ).bind fun ds=>forL tg b ds ρ
section
variable {X:Cx}{K:W.Frag}{fi:FA}{g:FS}{pos:Pos}{ft:FT}
theorem zpL {wi:TI}{tb:TS}{tg:TG}{fg:FG}{is:List Nat}(hi:GoI K wi fi)(hg:GoG K tg is fg)(hb:GoS K tb g):GoS K (tFor wi tg tb) (gFor fi fg g):=by
 intro Hz Jz O ρ σ H J o E s e w;obtain⟨ds,e1,e⟩:=bind_some e;refine hi Hz Jz O ρ σ H J ds _ s e1 fun I H1 J1 u1 src=>?_
 refine⟨fun i m σ' H'=>m=ds.length - i/\i<=ds.length/\∃ρ' J',ST K Hz Jz O ρ' σ' H' J'/\Keep K H1 J1 H' J'/\forL fg g (ds.drop i) ρ'=some o,⟨ds.length,by simp,wbj _,ρ,J1,s.up u1,Keep.refl,by simpa using e⟩,?_⟩;rintro i m σ2 H2 ⟨rfl,hil,ρ2,J2,s2,k2,e2⟩;obtain⟨stop,turn⟩:=src H2 J2 k2 s2.ja;by_cases hlt:i<ds.length
 ·right
  have hd:ds[i]?=some ds[i]:=waa hlt
  generalize hdd:ds[i]=d at hd;obtain⟨go,yl⟩:=turn i d hd;have edrop:ds.drop i=d::ds.drop (i+1):=by rw[<-hdd];exact(wbN hlt).symm
  rw[edrop] at e2;unfold forL at e2;obtain⟨ρ3,eg,e2⟩:=bind_some e2;obtain⟨ob,eb,e2⟩:=bind_some e2;refine⟨go,fun σ' H'=>∃ρ' J',ST K Hz Jz O ρ' σ' H' J'/\Keep K H1 J1 H' J'/\forL fg g (ds.drop (i+1)) ρ'=some o,fun σ' H' h=>⟨ds.length - (i+1),by omega,rfl,hlt,h⟩,fun x H3 y=>?_⟩;obtain⟨J3,u3,r3⟩:=yl x H3 y;refine hg.2 Hz Jz O ρ2 σ2 H3 J3 x d ρ3 _ (s2.up u3) r3 eg fun σ4 s4=>?_
  refine hb Hz Jz O ρ3 σ4 H3 J3 ob _ s4 eb ?_;have k3:=k2.trans u3.keep
  cases ob with
  | nx ρ5=>exact fun σ5 H5 J5 s5 k5=>⟨ρ5,J5,s5,k3.trans k5,e2⟩
  | ct ρ5=>exact fun σ5 H5 J5 s5 k5=>⟨ρ5,J5,s5,k3.trans k5,e2⟩
  | bk ρ5=>cases e2;exact fun σ5 H5 J5 s5 k5=>w σ5 H5 J5 s5 ((u1.keep.trans k3).trans k5)
  | ret d ρ5=>cases e2;exact w
 ·left
  have hi':i=ds.length:=by omega
  subst hi';rw[wcz] at e2;cases e2;exact⟨stop,w σ2 H2 J2 s2 (u1.keep.trans k2)⟩
theorem zbt {tg iter:Expr}{body:List Stmt}{is:List Nat}{fg:FG}(hi:VI X tg iter fi)(hg:VG X tg is fg)(hb:VSs X body g)(hp:PassesOwn (model X.prog X.w) X.A X.env X.xe:=by exact PassesOwn.never)(hc:X.calm=true:=by rfl)
 (hs:∀x,foldedSetIterable iter X.env x=pure x:=by intro _;rfl):VS X (.For tg iter body [] pos) (gFor fi fg g):=by
 obtain⟨wi,p1,q1⟩:=hi;obtain⟨t,p2,q2⟩:=hg;obtain⟨tb,p3,q3⟩:=hb;exact⟨_,zmP hp hc p1 p2 p3 hs,zpL q1 q2 q3⟩
def zdz (c:FT)(b:FS):Nat->En->Option Out
 | 0,_=>none
 | n+1,ρ=>(c ρ).bind fun k=>if k then(b ρ).bind fun o=>match o with
   | .nx ρ2=>zdz c b n ρ2
   | .ct ρ2=>zdz c b n ρ2
   | .bk ρ2=>some (.nx ρ2)
   | .ret d ρ2=>some (.ret d ρ2)
   else some (.nx ρ)
def gWhile (c:FT)(b:FS)(fuel:En->Nat):FS:=fun ρ=>zdz c b (fuel ρ) ρ
theorem zlU {tc:TT}{tb:TS}{fuel:En->Nat}(hc:GoT K tc ft)(hb:GoS K tb g):GoS K (zmN tc tb) (gWhile ft g fuel):=by
 intro Hz Jz O ρ σ H J o E s e w;refine⟨fun m σ' H'=>∃ρ' J',ST K Hz Jz O ρ' σ' H' J'/\Keep K H J H' J'/\zdz ft g m ρ'=some o,⟨fuel ρ,ρ,J,s,Keep.refl,e⟩,?_⟩;rintro m σ2 H2 ⟨ρ2,J2,s2,k2,e2⟩;cases m with
 | zero=>cases e2
 | succ n=>
   unfold zdz at e2;obtain⟨k,ek,e2⟩:=bind_some e2;refine hc Hz Jz O ρ2 σ2 H2 J2 k _ s2 ek fun H3 J3 u3=>?_
   have s3:=s2.up u3
   have k3:=k2.trans u3.keep
   cases k with
   | true=>
     refine iteT ?_;rw[if_pos rfl] at e2;obtain⟨ob,eb,e2⟩:=bind_some e2;refine⟨fun σ' H'=>∃ρ' J',ST K Hz Jz O ρ' σ' H' J'/\Keep K H J H' J'/\zdz ft g n ρ'=some o,fun σ' H' h=>⟨n,Nat.lt_succ_self n,h⟩,?_⟩;refine hb Hz Jz O ρ2 σ2 H3 J3 ob _ s3 eb ?_;cases ob with
     | nx ρ5=>exact fun σ5 H5 J5 s5 k5=>⟨ρ5,J5,s5,k3.trans k5,e2⟩
     | ct ρ5=>exact fun σ5 H5 J5 s5 k5=>⟨ρ5,J5,s5,k3.trans k5,e2⟩
     | bk ρ5=>cases e2;exact fun σ5 H5 J5 s5 k5=>w σ5 H5 J5 s5 (k3.trans k5)
     | ret d ρ5=>cases e2;exact w
   | false=>
     refine iteF ?_;rw[if_neg (by simp)] at e2;cases e2;exact w σ2 H3 J3 s3 k3
theorem ziv {c:Expr}{body:List Stmt}(fuel:En->Nat)(hc:VT X c ft)(hb:VSs X body g)(hp:PassesOwn (model X.prog X.w) X.A X.env X.xe:=by exact PassesOwn.never):VS X (.While c body [] pos) (gWhile ft g fuel):=by
 obtain⟨t,p2,q2⟩:=hc;obtain⟨tb,p3,q3⟩:=hb;exact⟨_,zlq hp p2 p3,zlU q2 q3⟩
end
def outF:Option Out->Option D
 | some (.ret (.told d) _)=>some d
 | some (.ret (.new _ d) _)=>some d
 | some (.nx _)=>some .non
 | _=>none
def runF (n:Nat)(k:Nat)(g:FS):List D->Option D:=fun ds=>if ds.length=k then outF (g (ds.map SV.val++List.replicate (n - k) .un)) else none
section
variable {P:Program}{w:World}{K:W.Frag}{mg:Str->Option Value}{base:Heap}
theorem ST.out {Hz H:Hp}{Jz J:Addr->Prop}{ρ:En}{σ:L2.St}(s:ST K Hz Jz Pr.no ρ σ H J):Up Hz Jz H J:=⟨fun b o=>s.same b o (fun⟨_,h⟩ =>by simp[Pr.no] at h),s.j0,s.jn,s.ja⟩
theorem ziw {N:List Str}{H:Hp}{J:Addr->Prop}{vs:List V}{ds:List D}(ja:∀a,J a->H a≠none)(r:RpL K H J vs ds):ST K H J Pr.no (ds.map SV.val++List.replicate (N.length - ds.length) .un) (start N vs) H J where
 same:=fun _ _ _ h=>h
 j0:=fun _ h=>h
 jn:=fun _ h=>.inl h
 ja:=ja
 al:=fun _ h=>h
 ps:=fun q hq=>absurd hq (by simp[Pr.no])
 len:=by simp[L2.start,r.length]
 vl:=fun i x h=>by
  rw[List.getElem?_append] at h;by_cases hi:i<(ds.map SV.val).length
  ·rw[if_pos hi,wag] at h;cases q:ds[i]? with
   | none=>rw[q] at h;cases h
   | some d=>
     rw[q] at h;cases h;obtain⟨v,hv,rv⟩:=r.get q;refine⟨v,?_,rv⟩;unfold L2.start;rw[waB (by simp at hi⊢;rw[r.length];exact hi),wag,hv];rfl
  ·rw[if_neg hi] at h;have:=wal h
   cases List.eq_of_mem_replicate this
 ow:=⟨fun _=>[],fun i=>zkc (by
  cases h:(List.map SV.val ds++List.replicate (N.length - ds.length) SV.un)[i]? with
  | none=>rfl
  | some x=>
    rcases waC.mp (wal h) with h | h
    ·obtain⟨d',_,h⟩:=waN.mp h;subst h;rfl
    ·cases List.eq_of_mem_replicate h;rfl),fun _=>wba,fun _ b hb=>absurd hb (by simp),fun _ _ _ b hb=>absurd hb (by simp)⟩
theorem zeY {x qual:Str}{st:Stmt}{f:Addr}{fd:FuncData}{N ps:List Str}{k:Nat}{g:FS}(F:Fun K x qual st f fd)(S:FnScope N ps (zae st))
 (hbody:∀(cdv:Value) (A:Around) (outer:List Env) (s:Shared) (H:Hp) (E:XK),Room k (A.deeper (envOfC qual (zae st) s.heap.objs.size f cdv))->VSs (cxOf CX0 P w K mg base N qual (zae st) f cdv A outer s H E).nox (zbv st) g) :
 FnOk P w K mg base CX0 (k+1) f fd ps (spF K (runF N.length ps.length g)):=by
 refine F.ok S (fun vs H Q E h=>?_) (fun cdv A outer s H vs Q E hr h=>?_)
 ·obtain⟨J,ds,d,ja,r,e,w⟩:=h;unfold runF at e;by_cases hl:ds.length=ps.length
  ·rw[r.length];exact hl
  ·rw[if_neg hl] at e;cases e
 ·obtain⟨J,ds,d,ja,r,e,w⟩:=h;unfold runF at e;by_cases hl:ds.length=ps.length
  ·rw[if_pos hl] at e;obtain⟨t,p,q⟩:=hbody cdv A outer s H E hr;refine⟨t,p,?_⟩;rw[<-hl] at e;have s0:=ziw (N:=N) ja r
   cases z:g (ds.map SV.val++List.replicate (N.length - ds.length) .un) with
   | none=>rw[z] at e;cases e
   | some o=>
     rw[z] at e;refine q H J Pr.no _ _ H J o _ s0 z ?_;cases o with
     | nx ρ'=>cases e;exact fun σ' H' J' s' k'=>w .non H' J' s'.out .non
     | ret r ρ'=>
       cases r with
       | told d'=>cases e;exact fun v σ' H' J' s' r'=>w v H' J' s'.out r'
       | new n d'=>
         cases e;rintro v σ' H' J' s' ⟨B,fp,_,ru,_,hb,_⟩;have u:=s'.out
         refine w v H' (fun b=>J' b\/b∈B) ⟨u.same,fun a h=>.inl (u.jj a h),fun a h=>?_,fun a h=>?_⟩ (ru.rp (fun _ h=>.inl h) (fun b hb=>.inr hb))
         ·rcases h with h | h
          ·exact u.jn a h
          ·exact .inr (hb a h).2
         ·rcases h with h | h
          ·exact u.ja a h
          ·obtain⟨o,e,_⟩:=ru.some a h;rw[e];simp
     | bk _=>cases e
     | ct _=>cases e
  ·rw[if_neg hl] at e;cases e
end
def gFrz (i:Nat)(g:FS):FS:=fun ρ=>g (frzE i ρ)
theorem zix {P:Program}{w:World}{K:W.Frag}{mg:Str->Option Value}{base:Heap}{f:Addr}{fd:FuncData}{ps:List Str}{x:Str}{b:(List D->Option D)->List D->Option D}{m:Nat->List D->Option D}(h0:∀ds,m 0 ds=none)(hs:∀n,m (n+1)=b (m n))
 (bd:Binds K fd ps []) (kp:W.keepIn K (.ref f)=true) (mx:mg x=some (.ref f)) {k:Nat}(hlen:∀n ds d,m n ds=some d->ds.length=ps.length)
 (step:∀{n:Nat}{self:List D->Option D},Cal P w K mg base (k+n) x ps (spF K self)->FnOk P w K mg base CX0 (k+n+1) f fd ps (spF K (b self))):∀n,FnOk P w K mg base CX0 (k+n) f fd ps (spF K (m n))
 | 0=>by
   refine⟨fun vs H Q E h=>?_,fun A outer s H args us vs Q E _ _ _ _ h=>?_⟩
   ·obtain⟨J,ds,d,_,_,e,_⟩:=h;rw[h0] at e;cases e
   ·obtain⟨J,ds,d,_,_,e,_⟩:=h;rw[h0] at e;cases e
 | n+1=>by
   rw[hs];exact step ⟨f,fd,zix h0 hs bd kp mx hlen step n,bd,kp,mx⟩
section
variable {K:W.Frag}{mg:Str->Option Value}
theorem zey {x:Str}{n:Int}{t:Tok}(h:mg x=some (.int n t)):GlobD K mg x (.int n):=⟨_,.int n,h,⟨t,rfl⟩,fun _ _=>.int n⟩
theorem zlV {x:Str}{p:Addr}{o:Obj}{its:Array Value}{n:Nat}{vs:List V}{ds:List D}(h:mg x=some (.ref p))(l:K.lookup p=some o)(hc:o.cls=.type "tuple")(hd:o.data=.seq its n)(hz:its.size<=sizeLine)(hv:Vals vs its.toList)(hr:∀H J,RpL K H J vs ds):GlobD K mg x (.tup ds):=
 ⟨_,.ref p,h,rfl,fun H J=>.tup (.inr ⟨o,its,n,l,hc,hd,hz,hv⟩) (hr H J)⟩
end
def isK (k T:String):Bool:=k == T||(k == "bool"&&T == "int")
section
variable {K:W.Frag}{H H':Hp}{J J':Addr->Prop}
end
abbrev FX:=En->Option (D×En)
abbrev FR:=En->Option (RV×En)
abbrev FTX:=En->Option (Bool×En)
abbrev FAX:=En->Option (List D×En)
section
variable (K:W.Frag)
def GoX (t:TE)(f:FX):Prop:=∀Hz Jz O ρ σ H J d ρ' Q,ST K Hz Jz O ρ σ H J->f ρ=some (d,ρ')->(∀v H' J',ST K Hz Jz O ρ' σ H' J'->Keep K H J H' J'->Rp K H' J' v d->Q v H')->t σ H Q
def GoR (t:TE)(f:FR):Prop:=∀Hz Jz O ρ σ H J r ρ' Q,ST K Hz Jz O ρ σ H J->f ρ=some (r,ρ')->(∀v H' J',ST K Hz Jz O ρ' σ H' J'->Keep K H J H' J'->RtAt K Hz O ρ' σ H' J' v r->Q v H')->t σ H Q
def GoTX (t:TT)(f:FTX):Prop:=∀Hz Jz O ρ σ H J b ρ' Q,ST K Hz Jz O ρ σ H J->f ρ=some (b,ρ')->(∀H' J',ST K Hz Jz O ρ' σ H' J'->Keep K H J H' J'->Q b H')->t σ H Q
def GoAX (t:TA)(f:FAX):Prop:=∀Hz Jz O ρ σ H J ds ρ' Q,ST K Hz Jz O ρ σ H J->f ρ=some (ds,ρ')->(∀vs H' J',ST K Hz Jz O ρ' σ H' J'->Keep K H J H' J'->RpL K H' J' vs ds->Q vs H')->t σ H Q
end
def VX (X:Cx)(e:Expr)(f:FX):Prop:=∃t,PE X e t/\GoX X.K t f
def VR (X:Cx)(e:Expr)(f:FR):Prop:=∃t,PE X e t/\GoR X.K t f
def VTX (X:Cx)(e:Expr)(f:FTX):Prop:=∃t,PT X e t/\GoTX X.K t f
def VPX (X:Cx)(e:Expr)(f:FTX):Prop:=∃t,PW X e t/\GoTX X.K t f
def VAX (X:Cx)(es:List Expr)(f:FAX):Prop:=∃t,PA X es t/\GoAX X.K t f
section
variable {X:Cx}{K:W.Frag}{a b c e:Expr}{es rest:List Expr}{fa fb fc:FX}{fe:FE}{ft fu:FTX}{fl:FAX}{fr:FR}{pos p p2:Pos}
def xE (f:FE):FX:=fun ρ=>(f ρ).bind fun d=>some (d,ρ)
theorem VE.x (h:VE X e fe):VX X e (xE fe):=by
 obtain⟨t,p,g⟩:=h;refine⟨t,p,fun Hz Jz O ρ σ H J d _ Q s e w=>?_⟩;obtain⟨d',e1,e⟩:=bind_some e;cases e;exact g Hz Jz O ρ σ H J d Q s e1 fun v H' J' u r=>w v H' J' (s.up u) u.keep r
def xT (f:FT):FTX:=fun ρ=>(f ρ).bind fun d=>some (d,ρ)
theorem VT.x {f:FT}(h:VT X e f):VTX X e (xT f):=by
 obtain⟨t,p,g⟩:=h;refine⟨t,p,fun Hz Jz O ρ σ H J d _ Q s e w=>?_⟩;obtain⟨d',e1,e⟩:=bind_some e;cases e;exact g Hz Jz O ρ σ H J d Q s e1 fun H' J' u=>w H' J' (s.up u) u.keep
def xA (f:FA):FAX:=fun ρ=>(f ρ).bind fun d=>some (d,ρ)
theorem VA.x {f:FA}(h:VA X es f):VAX X es (xA f):=by
 obtain⟨t,p,g⟩:=h;refine⟨t,p,fun Hz Jz O ρ σ H J d _ Q s e w=>?_⟩;obtain⟨d',e1,e⟩:=bind_some e;cases e;exact g Hz Jz O ρ σ H J d Q s e1 fun v H' J' u r=>w v H' J' (s.up u) u.keep r
theorem zlW {Hz H H':Hp}{Jz J J':Addr->Prop}{O:Pr}{ρ:En}{σ:L2.St}{p:Addr}{vs:List V}{ds:List D}(s:ST K Hz Jz O ρ σ H J)(u:Up H J H' J')(hp:H p=none)(nj:¬J' p)(h':H' p=some (.lst vs))(r:RpL K H' J' vs ds):RtAt K Hz O ρ σ H' J' (.ref p) (.new 1 (.lst ds)):=by
 obtain⟨fp0,ow0⟩:=s.ow;refine⟨[p],fp0,⟨fun i=>(ow0.at' i).keep u.keep fun b _=>u.same b,ow0.nd,fun i b hb jb=>?_,ow0.dj⟩,.lst h' (RpUL.of r),by simp,fun b hb=>?_,fun i b hb hb2=>?_⟩
 ·rcases u.jn b jb with jb | jb
  ·exact ow0.nj i b hb jb
  ·obtain⟨o,e,_⟩:=(ow0.at' i).ru b hb;rw[e] at jb;cases jb
 ·rw[waf.mp hb];refine⟨nj,?_⟩;cases e:Hz p with
  | none=>rfl
  | some o=>exact absurd hp (s.al p (by rw[e];simp))
 ·rw[waf.mp hb] at hb2;obtain⟨o,e,_⟩:=(ow0.at' i).ru p hb2;rw[hp] at e;cases e
def RV.d:RV->D
 | .told d=>d
 | .new _ d=>d
def xR (f:FR):FX:=fun ρ=>(f ρ).bind fun q=>some (q.1.d,q.2)
theorem ST.tell {Hz H:Hp}{Jz J:Addr->Prop}{O:Pr}{ρ:En}{σ:L2.St}{v:V}{r:RV}(s:ST K Hz Jz O ρ σ H J)(q:RtAt K Hz O ρ σ H J v r):∃J',ST K Hz Jz O ρ σ H J'/\Keep K H J H J'/\Rp K H J' v r.d:=by
 cases r with
 | told d=>exact⟨J,s,Keep.refl,q⟩
 | new n d=>
   obtain⟨A,fp,ow,r,nd,hA,dj⟩:=q;have kp:Keep K H J H (fun b=>J b\/b∈A):=⟨fun _ h=>.inl h,fun _ _ _ h=>h,fun _ _ h=>h⟩
   refine⟨fun b=>J b\/b∈A,⟨s.same,fun b h=>.inl (s.j0 b h),fun b h=>?_,fun b h=>?_,s.len,fun j e h=>?_,⟨fp,fun i=>(ow.at' i).keep kp fun _ _ _ h=>h,ow.nd,fun i b hb jb=>?_,ow.dj⟩,s.ps,s.al⟩,kp,r.rp (fun _ h=>.inl h) (fun b hb=>.inr hb)⟩
   ·rcases h with h | h
    ·exact s.jn b h
    ·exact .inr (hA b h).2
   ·rcases h with h | h
    ·exact s.ja b h
    ·obtain⟨o,e,_⟩:=r.some b h;rw[e];simp
   ·obtain⟨v,e1,r1⟩:=s.vl j e h;exact⟨v,e1,r1.keep kp⟩
   ·rcases jb with jb | jb
    ·exact ow.nj i b hb jb
    ·exact dj i b jb hb
theorem VR.x (h:VR X e fr):VX X e (xR fr):=by
 obtain⟨t,p,g⟩:=h;refine⟨t,p,fun Hz Jz O ρ σ H J d _ Q s e w=>?_⟩;obtain⟨⟨r,ρ1⟩,e1,e⟩:=bind_some e;cases e;refine g Hz Jz O ρ σ H J r _ Q s e1 fun v H' J' s' k q=>?_
 obtain⟨J2,s2,k2,r2⟩:=s'.tell q;exact w v H' J2 s2 (k.trans k2) r2
def x2 (F:D->D->Option D)(f g:FX):FX:=fun ρ=>(f ρ).bind fun q=>(g q.2).bind fun r=>(F q.1 r.1).bind fun d=>some (d,r.2)
theorem zkd {r:R2}{F:D->D->Option D}{ta tb:TE}(im:Im2 K r F)(ga:GoX K ta fa)(gb:GoX K tb fb):GoX K (tOp r ta tb) (x2 F fa fb):=by
 intro Hz Jz O ρ σ H J d ρ' Q s e w;obtain⟨⟨x,ρ1⟩,ex,e⟩:=bind_some e;obtain⟨⟨y,ρ2⟩,ey,e⟩:=bind_some e;obtain⟨z,ez,e⟩:=bind_some e;cases e;refine ga Hz Jz O ρ σ H J x _ _ s ex fun v1 H1 J1 s1 k1 r1=>?_
 refine gb Hz Jz O ρ1 σ H1 J1 y _ _ s1 ey fun v2 H2 J2 s2 k2 r2=>?_
 exact im H2 J2 v1 v2 x y d Q s2.ja (.inl (r1.keep k2)) (.inl r2) ez fun v3 H3 J3 u3 r3=>w v3 H3 J3 (s2.up u3) ((k1.trans k2).trans u3.keep) r3
theorem zcN {op:Operator}{r:R2}{F:D->D->Option D}(ho:OpR X (binaryOp op) r)(im:Im2 X.K r F)(ha:VX X a fa)(hb:VX X b fb):VX X (.BinOp a op b pos) (x2 F fa fb):=by
 obtain⟨ta,pa,ga⟩:=ha;obtain⟨tb,pb,gb⟩:=hb;exact⟨_,zo4 ho pa pb,zkd im ga gb⟩
def xt1 (f:FX):FTX:=fun ρ=>(f ρ).bind fun q=>(dB q.1).bind fun k=>some (k,q.2)
theorem zlX {t:TE}(g:GoX K t fa):GoTX K (zns t) (xt1 fa):=by
 intro Hz Jz O ρ σ H J d ρ' Q s e w;obtain⟨⟨x,ρ1⟩,ex,e⟩:=bind_some e;obtain⟨k,ek,e⟩:=bind_some e;cases e;refine g Hz Jz O ρ σ H J x _ _ s ex fun v H1 J1 s1 k1 r1=>?_
 cases x with
 | bl k'=>cases ek;cases r1;exact⟨_,rfl,w H1 J1 s1 k1⟩
 | _=>cases ek
theorem zke {op:CmpOp}{r:R2}{F:D->D->Option D}(ho:OpR X (compareOp op) r)(im:Im2 X.K r F)(ha:VX X a fa)(hb:VX X b fb)(hm:behindInMarks op b=false):VTX X (.Compare a [op] [b] pos) (xt1 (x2 F fa fb)):=by
 obtain⟨ta,pa,ga⟩:=ha;obtain⟨tb,pb,gb⟩:=hb;exact⟨_,zjy ho pa pb hm,zlX (zkd im ga gb)⟩
def xtAnd (f g:FTX):FTX:=fun ρ=>(f ρ).bind fun q=>if q.1 then g q.2 else some (false,q.2)
theorem znV {t u:TT}(g1:GoTX K t ft)(g2:GoTX K u fu):GoTX K (tAnd t u) (xtAnd ft fu):=by
 intro Hz Jz O ρ σ H J d ρ' Q s e w;obtain⟨⟨k,ρ1⟩,ek,e⟩:=bind_some e;refine g1 Hz Jz O ρ σ H J k _ _ s ek fun H1 J1 s1 k1=>?_
 cases k with
 | true=>exact iteT (g2 Hz Jz O _ σ H1 J1 d _ Q s1 e fun H2 J2 s2 k2=>w H2 J2 s2 (k1.trans k2))
 | false=>have e':some (false,ρ1)=some (d,ρ'):=e;cases e';exact iteF (w H1 J1 s1 k1)
theorem zlY (h:VTX X a ft):VPX X (.BoolOp .And [a] pos) ft:=let ⟨t,p,g⟩:=h;⟨t,zjq p,g⟩
theorem znW (h:VTX X a ft)(h2:VPX X (.BoolOp .And (b::rest) pos) fu):VPX X (.BoolOp .And (a::b::rest) pos) (xtAnd ft fu):=let ⟨_,p,g⟩:=h;let ⟨_,p2,g2⟩:=h2;⟨_,zmL p p2,znV g g2⟩
theorem VPX.t (h:VPX X a ft):VTX X a ft:=let ⟨t,p,g⟩:=h;⟨t,p.pt,g⟩
def axNil:FAX:=fun ρ=>some ([],ρ)
def axCons (f:FX)(g:FAX):FAX:=fun ρ=>(f ρ).bind fun q=>(g q.2).bind fun r=>some (q.1::r.1,r.2)
theorem zcu:VAX X [] axNil:=⟨_,zdr,fun Hz Jz O ρ σ H J ds ρ' Q s e w=>by cases e;exact w [] H J s Keep.refl .nil⟩
theorem zap (ha:VX X e fa)(hr:VAX X es fl)(hs:starEach (e::es) X.env=(false,eval e X.env)::starEach es X.env:=by rfl):VAX X (e::es) (axCons fa fl):=by
 obtain⟨t,p,g⟩:=ha;obtain⟨t2,p2,g2⟩:=hr;refine⟨_,zcr p p2 hs,?_⟩;intro Hz Jz O ρ σ H J ds ρ' Q s e w;obtain⟨⟨x,ρ1⟩,ex,e⟩:=bind_some e;obtain⟨⟨xs,ρ2⟩,exs,e⟩:=bind_some e;cases e;refine g Hz Jz O ρ σ H J x _ _ s ex fun v1 H1 J1 s1 k1 r1=>?_
 refine g2 Hz Jz O ρ1 σ H1 J1 xs _ _ s1 exs fun vs H2 J2 s2 k2 r2=>?_
 exact w _ H2 J2 s2 (k1.trans k2) (.cons (r1.keep k2) r2)
def xTup (f:FAX):FX:=fun ρ=>(f ρ).bind fun q=>(mkT q.1).bind fun d=>some (d,q.2)
theorem zgX {x1}(h:VAX X es fl):VX X (.Tuple es x1 pos) (xTup fl):=by
 obtain⟨t,p,g⟩:=h;refine⟨_,zjz p,?_⟩;intro Hz Jz O ρ σ H J d ρ' Q s e w;obtain⟨⟨xs,ρ1⟩,exs,e⟩:=bind_some e;obtain⟨d',ed,e⟩:=bind_some e;cases e;obtain⟨hl,rfl⟩:=zew ed;refine g Hz Jz O ρ σ H J xs _ _ s exs fun vs H1 J1 s1 k1 r1=>⟨by rw[r1.length];exact zcg hl,fun p hp=>?_⟩
 have un:=Up.new s1.ja hp (.tup vs)
 exact w _ _ _ (s1.up un) (k1.trans un.keep) (.tup (SqT.of zah) (r1.keep un.keep))
def xLst (f:FAX):FR:=fun ρ=>(f ρ).bind fun q=>if q.1.length<=lim then some (.new 1 (.lst q.1),q.2) else none
theorem zm6 (h:VAX X es fl):VR X (.List es pos) (xLst fl):=by
 obtain⟨t,p,g⟩:=h;refine⟨_,zjA p,?_⟩;intro Hz Jz O ρ σ H J d ρ' Q s e w;obtain⟨⟨xs,ρ1⟩,exs,e⟩:=bind_some e;by_cases hl:xs.length<=lim
 ·have e:(if xs.length<=lim then some (RV.new 1 (.lst xs),ρ1) else none)=some (d,ρ'):=e
  rw[if_pos hl] at e;cases e;refine g Hz Jz O ρ σ H J xs _ _ s exs fun vs H1 J1 s1 k1 r1=>⟨by rw[r1.length];exact zcg hl,fun p hp=>?_⟩
  have un:=Up.new s1.ja hp (.lst vs)
  exact w _ _ _ (s1.up un) (k1.trans un.keep) (zlW s1 un hp (fun j=>s1.ja p j hp) zah (r1.keep un.keep))
 ·have e:(if xs.length<=lim then some (RV.new 1 (.lst xs),ρ1) else none)=some (d,ρ'):=e
  rw[if_neg hl] at e;cases e
theorem zlZ (ha:VX X a fa)(hb:VX X b fb)(hs:zeR b:=by exact fun _ _=>rfl):VX X (.Subscript a b pos) (x2 dIx fa fb):=by
 obtain⟨ta,pa,ga⟩:=ha;obtain⟨tb,pb,gb⟩:=hb;exact⟨_,zlz zij pa pb hs,zkd zpD ga gb⟩
def x1 (F:D->Option D)(f:FX):FX:=fun ρ=>(f ρ).bind fun q=>(F q.1).bind fun d=>some (d,q.2)
def xCall (F:List D->Option D)(f:FAX):FX:=fun ρ=>(f ρ).bind fun q=>(F q.1).bind fun d=>some (d,q.2)
theorem znX {k k':Nat}{x:Str}{ps:List Str}{F:List D->Option D}(C:Cal X.prog X.w X.K X.mg X.base k x ps (spF X.K F))(hr:Room k' X.A)(ha:VAX X (e::es) fl)(hk:k<=k':=by decide)(hg:Gl X x:=by rfl)(hdb:(x == ("__debug__" : Str))=false:=by decide)
 (he:starEach (e::es) X.env=(false,eval e X.env)::starEach es X.env:=by rfl) (hpl:(backTo pos (starEach es X.env)).any (·.1)=false:=by rfl):VX X (.Call (.Name x p) (e::es) [] pos) (xCall F fl):=by
 obtain⟨t,p,g⟩:=ha;refine⟨_,pc C hr p hk hg hdb he hpl,?_⟩;intro Hz Jz O ρ σ H J d ρ' Q s e w;obtain⟨⟨ds,ρ1⟩,e1,e⟩:=bind_some e;obtain⟨y,e2,e⟩:=bind_some e;cases e;refine g Hz Jz O ρ σ H J ds _ _ s e1 fun vs H1 J1 s1 k1 r1=>?_
 refine⟨J1,ds,d,s1.ja,by rw[waJ];exact r1,e2,fun v H2 J2 u2 r2=>w v H2 J2 (s1.up u2) (k1.trans u2.keep) r2⟩
end
section
variable {X:Cx}{K:W.Frag}{H H' H1 H2 Hz:Hp}{J J' J1 J2 Jz:Addr->Prop}{ρ ρ':En}{σ:L2.St}{O:Pr}
theorem ST.chgsG {fp fp':Nat->List Addr}{is:Nat->Bool}(s:ST K Hz Jz O ρ σ H J)(w:Ow K Hz O ρ σ H J fp)(hl:ρ'.length=ρ.length)(h1:∀j,is j=false->ρ'[j]?=ρ[j]?/\fp' j=fp j)
 (h2:∀i,is i=true->∃n d d' v,ownD (ρ[i]?)=some (n,d)/\ρ'[i]?=some (putD (ρ[i]?) d')/\σ[i]?=some (some v)/\RpU K H' J' n v d' (fp' i)/\∀b∈fp' i,b∈fp i\/(Hz b=none/\∀j,b∉fp j))
 (nd:∀i,is i=true->(fp' i).Nodup) (nj:∀i,is i=true->∀b∈fp' i,¬J' b) (dj:∀i j,is i=true->is j=true->i≠j->∀b∈fp' i,b∉fp' j)
 (hs:∀b o,(∀i,is i=true->b∉fp i)->H b=some o->H' b=some o) (ha:∀b,H b≠none->H' b≠none) (jj:∀a,J a->J' a) (jn:∀a,J' a->J a\/H a=none) (ja:∀a,J' a->H' a≠none) :
 ST K Hz Jz O ρ' σ H' J'/\Ow K Hz O ρ' σ H' J' fp'/\Keep K H J H' J':=by
 have free:∀b,H b=none->Hz b=none:=fun b hb=>by
  cases e:Hz b with
  | none=>rfl
  | some o=>exact absurd hb (s.al b (by rw[e];simp))
 have kp:Keep K H J H' J':=⟨jj,fun p o j h=>hs p o (fun i _ hp=>w.nj i p hp j) h,fun p vs h=>by
  have ne:∀o,H p=some o->¬MutO o->∀i,is i=true->p∉fp i:=fun o ho nm i _ hp=>by
   obtain⟨o',e,m⟩:=(w.at' i).ru p hp;rw[ho] at e;cases e;exact nm m
  rcases h with(h | ⟨u,h⟩) | h
  ·exact .inl (.inl (hs p _ (ne _ h (fun z=>z)) h))
  ·exact .inl (.inr ⟨u,hs p _ (ne _ h (fun z=>z)) h⟩)
  ·exact .inr h⟩
 have slot:∀i,is i=true->∀b∈fp i,Hz b=none\/b∈O.fpo i:=fun i hi b hb=>by
  obtain⟨n,d,d',v,e1,_⟩:=h2 i hi;have q:=w.at' i
  match z:ρ[i]?,e1,q with
  | some (.own m e),_,q=>exact .inl (q.2 b hb)
  | some (.par m e),_,q=>exact q.2 b hb
 have ow':Ow K Hz O ρ' σ H' J' fp':=by
  refine⟨fun i=>?_,fun i=>?_,fun i b hb=>?_,fun i j ne b hb hb2=>?_⟩
  ·cases hi:is i with
   | false=>
     rw[(h1 i hi).1,(h1 i hi).2];exact(w.at' i).keep kp fun b hb o ho=>hs b o (fun j hj hb2=>w.dj i j (fun z=>by subst z;rw[hi] at hj;cases hj) b hb hb2) ho
   | true=>
     obtain⟨n,d,d',v,e1,e2,e3,e4,e5⟩:=h2 i hi;rw[e2];have q:=w.at' i
     match z:ρ[i]?,e1,q with
     | some (.own m e),e1,q=>
       cases e1;refine⟨⟨v,e3,e4⟩,fun b hb=>?_⟩;rcases e5 b hb with hb | hb
       ·exact q.2 b hb
       ·exact hb.1
     | some (.par m e),e1,q=>
       cases e1;refine⟨⟨v,e3,e4⟩,fun b hb=>?_⟩;rcases e5 b hb with hb | hb
       ·exact q.2 b hb
       ·exact .inl hb.1
  ·cases hi:is i with
   | false=>rw[(h1 i hi).2];exact w.nd i
   | true=>exact nd i hi
  ·cases hi:is i with
   | false=>
     rw[(h1 i hi).2] at hb;intro jb;rcases jn b jb with jb | jb
     ·exact w.nj i b hb jb
     ·obtain⟨o,e,_⟩:=(w.at' i).ru b hb;rw[e] at jb;cases jb
   | true=>exact nj i hi b hb
  ·have cross:∀i j,i≠j->is i=true->is j=false->b∈fp' i->b∈fp' j->False:=fun i j ne hi hj hb hb2=>by
    rw[(h1 j hj).2] at hb2;obtain⟨_,_,_,_,_,_,_,_,e5⟩:=h2 i hi;rcases e5 b hb with h | h
    ·exact w.dj i j ne b h hb2
    ·exact h.2 j hb2
   cases hi:is i with
   | true=>
     cases hj:is j with
     | true=>exact dj i j hi hj ne b hb hb2
     | false=>exact cross i j ne hi hj hb hb2
   | false=>
     cases hj:is j with
     | true=>exact cross j i (Ne.symm ne) hj hi hb2 hb
     | false=>
       rw[(h1 i hi).2] at hb;rw[(h1 j hj).2] at hb2;exact w.dj i j ne b hb hb2
 refine⟨⟨fun b o hb h=>hs b o (fun i hi hb2=>?_) (s.same b o hb h),fun a h=>jj a (s.j0 a h),fun a h=>?_,ja,by rw[hl];exact s.len,fun j e h=>?_,⟨fp',ow'⟩,fun q hq=>?_,fun b h=>ha b (s.al b h)⟩,ow',kp⟩
 ·rcases slot i hi b hb2 with h2 | h2
  ·rw[h2] at h;cases h
  ·exact hb ⟨i,h2⟩
 ·rcases jn a h with h | h
  ·exact s.jn a h
  ·exact .inr (free a h)
 ·cases hj:is j with
  | false=>
    rw[(h1 j hj).1] at h;obtain⟨v,e1,r1⟩:=s.vl j e h;exact⟨v,e1,r1.keep kp⟩
  | true=>
    obtain⟨n,d,d',v,e1,e2,_⟩:=h2 j hj;rw[e2] at h;match z:ρ[j]?,e1 with
    | some (.own m e),_=>rw[z] at h;cases h
    | some (.par m e),_=>rw[z] at h;cases h
 ·obtain⟨e1,d,h⟩:=s.ps q hq;refine⟨e1,?_⟩;cases hj:is q.1 with
  | false=>rw[(h1 _ hj).1];exact⟨d,h⟩
  | true=>
    obtain⟨n,d0,d',v,_,e2,_⟩:=h2 _ hj;rw[e2,h];exact⟨d',rfl⟩
theorem ST.chgs {fp fp':Nat->List Addr}{is:Nat->Bool}(s:ST K Hz Jz O ρ σ H J)(w:Ow K Hz O ρ σ H J fp)(hl:ρ'.length=ρ.length)(h1:∀j,is j=false->ρ'[j]?=ρ[j]?/\fp' j=fp j)
 (h2:∀i,is i=true->∃n d d' v,ownD (ρ[i]?)=some (n,d)/\ρ'[i]?=some (putD (ρ[i]?) d')/\σ[i]?=some (some v)/\RpU K H' J' n v d' (fp' i)/\∀b∈fp' i,b∈fp i\/H b=none)
 (nd:∀i,is i=true->(fp' i).Nodup) (nj:∀i,is i=true->∀b∈fp' i,¬J' b) (dj:∀i j,is i=true->is j=true->i≠j->∀b∈fp' i,b∉fp' j)
 (hs:∀b o,(∀i,is i=true->b∉fp i)->H b=some o->H' b=some o) (ha:∀b,H b≠none->H' b≠none) (jj:∀a,J a->J' a) (jn:∀a,J' a->J a\/H a=none) (ja:∀a,J' a->H' a≠none) :
 ST K Hz Jz O ρ' σ H' J'/\Ow K Hz O ρ' σ H' J' fp'/\Keep K H J H' J':=by
 refine s.chgsG w hl h1 (fun i hi=>?_) nd nj dj hs ha jj jn ja;obtain⟨n,d,d',v,e1,e2,e3,e4,e5⟩:=h2 i hi;refine⟨n,d,d',v,e1,e2,e3,e4,fun b hb=>?_⟩;rcases e5 b hb with h | h
 ·exact .inl h
 ·right
  refine⟨?_,fun j hj=>?_⟩
  ·cases e:Hz b with
   | none=>rfl
   | some o=>exact absurd h (s.al b (by rw[e];simp))
  ·obtain⟨o,e,_⟩:=(w.at' j).ru b hj;rw[h] at e;cases e
def zqF (K:W.Frag)(H:Hp)(J:Addr->Prop)(k:Option (Option Nat))(v:Option V)(d:Option D)(A:List Addr):Prop:=match k with
 | some none=>∃u e,v=some u/\d=some e/\Rp K H J u e/\A = []
 | some (some n)=>∃a e,v=some (.ref a)/\d=some e/\RpU K H J n (.ref a) e A
 | none=>A = []
structure ArgsG (K:W.Frag)(H:Hp)(J:Addr->Prop)(ks:List (Option Nat))(vs:List V)(ds:List D)(fp:Nat->List Addr):Prop where
 l1:vs.length=ks.length
 l2:ds.length=ks.length
 at':∀i,zqF K H J (ks[i]?) (vs[i]?) (ds[i]?) (fp i)
 nd:∀i,(fp i).Nodup
 nj:∀i,∀b∈fp i,¬J b
 dj:∀i j,i≠j->∀b∈fp i,b∉fp j
def ResG (K:W.Frag)(H:Hp)(H':Hp)(J':Addr->Prop)(fp':Nat->List Addr)(v:V):RV->Prop
 | .told d=>Rp K H' J' v d
 | .new n d=>∃A,RpU K H' J' n v d A/\A.Nodup/\(∀b∈A,¬J' b/\H b=none)/\∀i:Nat,∀b∈A,b∉fp' i
structure PostG (K:W.Frag)(H:Hp)(J:Addr->Prop)(ks:List (Option Nat))(vs:List V)(fp:Nat->List Addr)(r:RV)(es:List D)(v:V)(H':Hp)(J':Addr->Prop)(fp':Nat->List Addr):Prop where
 hs:∀b o,(∀i,b∉fp i)->H b=some o->H' b=some o
 al:∀b,H b≠none->H' b≠none
 jj:∀a,J a->J' a
 jn:∀a,J' a->J a\/H a=none
 ja:∀a,J' a->H' a≠none
 own:∀i n,ks[i]?=some (some n)->∃a e,vs[i]?=some (.ref a)/\es[i]?=some e/\RpU K H' J' n (.ref a) e (fp' i)/\∀b∈fp' i,b∈fp i\/H b=none
 nd:∀i,(fp' i).Nodup
 nj:∀i,∀b∈fp' i,¬J' b
 dj:∀i j,i≠j->∀b∈fp' i,b∉fp' j
 res:ResG K H H' J' fp' v r
def spG (K:W.Frag)(ks:List (Option Nat))(F:List D->Option (RV×List D)):Sp:=fun vs H Q _=>∃J ds r es fp,(∀a,J a->H a≠none)/\ArgsG K H J ks vs ds fp/\F ds=some (r,es)/\∀v H' J' fp',PostG K H J ks vs fp r es v H' J' fp'->Q v H'
def inSl:List (Option Nat)->List D->En
 | none::ks,d::ds=>.val d::inSl ks ds
 | some n::ks,d::ds=>.par n d::inSl ks ds
 | _,_=>[]
def slOf:Option (Option Nat)->Option D->Option SV
 | some none,some d=>some (.val d)
 | some (some n),some d=>some (.par n d)
 | _,_=>none
theorem zf9:∀(ks:List (Option Nat)) (ds:List D) (i:Nat),ks.length=ds.length->(inSl ks ds)[i]?=slOf (ks[i]?) (ds[i]?)
 | [],[],i,_=>by simp[inSl,slOf]
 | none::ks,d::ds,0,_=>by simp[inSl,slOf]
 | some n::ks,d::ds,0,_=>by simp[inSl,slOf]
 | none::ks,d::ds,i+1,h=>by simpa[inSl] using zf9 ks ds i (by simpa using h)
 | some n::ks,d::ds,i+1,h=>by simpa[inSl] using zf9 ks ds i (by simpa using h)
 | [],_::_,_,h=>by simp at h
 | _::_,[],_,h=>by simp at h
theorem zdA:∀(ks:List (Option Nat)) (ds:List D),ks.length=ds.length->(inSl ks ds).length=ks.length
 | [],[],_=>rfl
 | none::ks,d::ds,h=>by simp[inSl,zdA ks ds (by simpa using h)]
 | some n::ks,d::ds,h=>by simp[inSl,zdA ks ds (by simpa using h)]
 | [],_::_,h=>by simp at h
 | _::_,[],h=>by simp at h
def outSl:List (Option Nat)->En->Option (List D)
 | [],_=>some []
 | none::ks,_::ρ=>(outSl ks ρ).bind fun es=>some (.non::es)
 | some _::ks,.par _ d::ρ=>(outSl ks ρ).bind fun es=>some (d::es)
 | _,_=>none
theorem zeZ:∀{ks:List (Option Nat)}{ρ:En}{es:List D}{i n:Nat}{m:Nat}{d:D},outSl ks ρ=some es->ks[i]?=some (some n)->ρ[i]?=some (.par m d)->es[i]?=some d
 | [],_,_,_,_,_,_,_,h,_=>by simp at h
 | none::ks,x::ρ,es,i,n,m,d,e,h1,h2=>by
   obtain⟨es',e1,e⟩:=bind_some (show((outSl ks ρ).bind fun es=>some (D.non::es))=some es from e);cases e;match i,h1,h2 with
   | 0,h1,_=>simp at h1
   | i+1,h1,h2=>simpa using zeZ (n:=n) (m:=m) e1 (by simpa using h1) (by simpa using h2)
 | some k::ks,.par m' d'::ρ,es,i,n,m,d,e,h1,h2=>by
   obtain⟨es',e1,e⟩:=bind_some (show((outSl ks ρ).bind fun es=>some (d'::es))=some es from e);cases e;match i,h1,h2 with
   | 0,h1,h2=>simp at h2;simp[h2.2]
   | i+1,h1,h2=>simpa using zeZ (n:=n) (m:=m) e1 (by simpa using h1) (by simpa using h2)
def outG (ks:List (Option Nat)):Option Out->Option (RV×List D)
 | some (.ret r ρ)=>(outSl ks ρ).bind fun es=>some (r,es)
 | some (.nx ρ)=>(outSl ks ρ).bind fun es=>some (.told .non,es)
 | _=>none
def runG (n:Nat)(ks:List (Option Nat))(g:FS):List D->Option (RV×List D):=fun ds=>if ds.length=ks.length then outG ks (g (inSl ks ds++List.replicate (n - ks.length) .un)) else none
def psAt (i:Nat):Option (Option Nat)->Option V->Option (Nat×Addr×Nat)
 | some (some n),some (.ref a)=>some (i,a,n)
 | _,_=>none
def psOf (ks:List (Option Nat))(vs:List V):List (Nat×Addr×Nat):=(List.range ks.length).filterMap fun i=>psAt i (ks[i]?) (vs[i]?)
theorem mem_psOf {ks:List (Option Nat)}{vs:List V}{q:Nat×Addr×Nat}:q∈psOf ks vs↔ks[q.1]?=some (some q.2.2)/\vs[q.1]?=some (.ref q.2.1):=by
 unfold psOf;rw[wbo];constructor
 ·rintro⟨i,_,h⟩;unfold psAt at h;split at h
  ·rename_i n a h1 h2;cases h;exact⟨h1,h2⟩
  ·cases h
 ·rintro⟨h1,h2⟩;refine⟨q.1,wbd.mpr (wab.mp h1).1,?_⟩;rw[h1,h2];rfl
theorem zgY {N:List Str}{ks:List (Option Nat)}{vs:List V}{ds:List D}{fp:Nat->List Addr}(ja:∀a,J a->H a≠none)(r:ArgsG K H J ks vs ds fp) :
 ST K H J ⟨psOf ks vs,fp⟩ (inSl ks ds++List.replicate (N.length - ks.length) .un) (start N vs) H J:=by
 have get:∀i:Nat,(inSl ks ds++List.replicate (N.length - ks.length) SV.un)[i]?=slOf (ks[i]?) (ds[i]?)\/(ks[i]?=none/\((inSl ks ds++List.replicate (N.length - ks.length) SV.un)[i]?=some SV.un\/(inSl ks ds++List.replicate (N.length - ks.length) SV.un)[i]?=none)):=fun i=>by
  by_cases hi:i<ks.length
  ·left
   rw[waB (by rw[zdA ks ds r.l2.symm];exact hi),zf9 ks ds i r.l2.symm]
  ·right
   refine⟨waG (by omega),?_⟩;rw[waI (by rw[zdA ks ds r.l2.symm];omega),wbF];split
   ·exact .inl rfl
   ·exact .inr rfl
 have sg:∀(i:Nat) (v:V),vs[i]?=some v->(start N vs)[i]?=some (some v):=fun i v h=>by
  unfold L2.start;rw[waB (by simp;exact(wab.mp h).1),wag,h];rfl
 refine⟨fun _ _ _ h=>h,fun _ h=>h,fun _ h=>.inl h,ja,by simp[L2.start,r.l1,zdA ks ds r.l2.symm],fun i d h=>?_,⟨fp,fun i=>?_,r.nd,r.nj,r.dj⟩,fun q hq=>?_,fun _ h=>h⟩
 ·have q:=r.at' i
  rcases get i with e | ⟨_,e | e⟩
  ·rw[e] at h;match z:ks[i]?,y:ds[i]?,h,q with
   | some none,some e',h,q=>
     cases h;obtain⟨u,e,h1,h2,h3,_⟩:=q;cases h2;exact⟨u,sg i u h1,h3⟩
  ·rw[e] at h;cases h
  ·rw[e] at h;cases h
 ·have q:=r.at' i
  rcases get i with e | ⟨e0,e | e⟩
  ·rw[e];match z:ks[i]?,y:ds[i]?,q with
   | some none,some e',q=>obtain⟨_,_,_,_,_,h⟩:=q;exact h
   | some (some n),some e',q=>
     obtain⟨a,e,h1,h2,h3⟩:=q;cases h2;exact⟨⟨_,sg i _ h1,h3⟩,fun b hb=>.inr hb⟩
   | none,_,q=>exact q
   | some none,none,q=>obtain⟨_,_,_,h,_⟩:=q;cases h
   | some (some n),none,q=>obtain⟨_,_,_,h,_⟩:=q;cases h
  ·rw[e];rw[e0] at q;exact q
  ·rw[e];rw[e0] at q;exact q
 ·obtain⟨h1,h2⟩:=mem_psOf.mp hq;refine⟨sg _ _ h2,?_⟩;have q':=r.at' q.1
  rw[h1] at q';obtain⟨a,e,_,h3,_⟩:=q';rcases get q.1 with g | ⟨g,_⟩
  ·rw[g,h1,h3];exact⟨e,rfl⟩
  ·rw[h1] at g;cases g
end
section
variable {P:Program}{w:World}{K:W.Frag}{mg:Str->Option Value}{base:Heap}
theorem zl0 {ks:List (Option Nat)}{vs:List V}{ds:List D}{es:List D}{fp:Nat->List Addr}{r:RV}{H H':Hp}{J J':Addr->Prop}{ρ:En}{σ:L2.St}{v:V}(A:ArgsG K H J ks vs ds fp)(s:ST K H J ⟨psOf ks vs,fp⟩ ρ σ H' J')
 (q:RtAt K H ⟨psOf ks vs,fp⟩ ρ σ H' J' v r) (e:outSl ks ρ=some es):∃fp',PostG K H J ks vs fp r es v H' J' fp':=by
 have main:∀fp',Ow K H ⟨psOf ks vs,fp⟩ ρ σ H' J' fp'->ResG K H H' J' fp' v r->PostG K H J ks vs fp r es v H' J' fp':=fun fp' w hr=>
  ⟨fun b o hb h=>s.same b o (fun⟨i,hi⟩ =>hb i hi) h,s.al,s.j0,s.jn,s.ja,fun i n hk=>by
   have qa:=A.at' i
   rw[hk] at qa;obtain⟨a,e0,h1,_,_⟩:=qa;obtain⟨h2,d,h3⟩:=s.ps (i,a,n) (mem_psOf.mpr ⟨hk,h1⟩);have h2:σ[i]?=some (some (.ref a)):=h2
   have h3:ρ[i]?=some (.par n d):=h3
   have o:=w.at' i
   rw[h3] at o;obtain⟨⟨v',e1,ru⟩,hb⟩:=o;rw[h2] at e1;cases e1;exact⟨a,d,h1,zeZ e hk h3,ru,fun b hb'=>(hb b hb').symm⟩,w.nd,w.nj,w.dj,hr⟩
 cases r with
 | told d=>
   obtain⟨fp',w⟩:=s.ow;exact⟨fp',main fp' w q⟩
 | new n d=>
   obtain⟨B,fp',w,ru,nd,hb,dj⟩:=q;exact⟨fp',main fp' w ⟨B,ru,nd,hb,dj⟩⟩
theorem ze0 {x qual:Str}{st:Stmt}{f:Addr}{fd:FuncData}{N ps:List Str}{k:Nat}{g:FS}(ks:List (Option Nat))(F:Fun K x qual st f fd)(S:FnScope N ps (zae st))(hks:ks.length=ps.length)
 (hbody:∀(cdv:Value) (A:Around) (outer:List Env) (s:Shared) (H:Hp) (E:XK),Room k (A.deeper (envOfC qual (zae st) s.heap.objs.size f cdv))->VSs (cxOf CX0 P w K mg base N qual (zae st) f cdv A outer s H E).nox (zbv st) g) :
 FnOk P w K mg base CX0 (k+1) f fd ps (spG K ks (runG N.length ks g)):=by
 refine F.ok S (fun vs H Q E h=>?_) (fun cdv A outer s H vs Q E hr h=>?_)
 ·obtain⟨J,ds,r,es,fp,ja,a,e,w⟩:=h;rw[a.l1,hks]
 ·obtain⟨J,ds,r,es,fp,ja,a,e,w⟩:=h;unfold runG at e;rw[if_pos a.l2] at e;obtain⟨t,p,q⟩:=hbody cdv A outer s H E hr;refine⟨t,p,?_⟩;have s0:=zgY (N:=N) ja a
  cases z:g (inSl ks ds++List.replicate (N.length - ks.length) .un) with
  | none=>rw[z] at e;cases e
  | some o=>
    rw[z] at e;refine q H J _ _ _ H J o _ s0 z ?_;cases o with
    | nx ρ'=>
      obtain⟨es',e1,e⟩:=bind_some (show((outSl ks ρ').bind fun es=>some (RV.told D.non,es))=some (r,es) from e);cases e;intro σ' H' J' s' k';obtain⟨fp',pg⟩:=zl0 (v:=.non) (r:=.told .non) a s' .non e1;exact w _ _ _ _ pg
    | ret r' ρ'=>
      obtain⟨es',e1,e⟩:=bind_some (show((outSl ks ρ').bind fun es=>some (r',es))=some (r,es) from e);cases e;intro v σ' H' J' s' q';obtain⟨fp',pg⟩:=zl0 a s' q' e1;exact w _ _ _ _ pg
    | bk _=>cases e
    | ct _=>cases e
end
theorem RpU.isRef {K:W.Frag}{H:Hp}{J:Addr->Prop}{n:Nat}{v:V}{d:D}{A:List Addr}(h:RpU K H J (n+1) v d A):∃a,v=.ref a:=by
 cases h <;> exact⟨_,rfl⟩
abbrev FAG:=En->Option (List (Option D)×En)
def ArgV (K:W.Frag)(H:Hp)(J:Addr->Prop)(u:Option (Option V)):List V->List (Option D)->Prop
 | [],[]=>True
 | v::vs,none::as=>u=some (some v)/\ArgV K H J u vs as
 | v::vs,some d::as=>Rp K H J v d/\ArgV K H J u vs as
 | _,_=>False
def GoAG (K:W.Frag)(i:Nat)(t:TA)(f:FAG):Prop:=∀Hz Jz O ρ σ H J as ρ' Q,ST K Hz Jz O ρ σ H J->f ρ=some (as,ρ')->(∀vs H' J',ST K Hz Jz O ρ' σ H' J'->Keep K H J H' J'->ArgV K H' J' (σ[i]?) vs as->Q vs H')->t σ H Q
def VAG (X:Cx)(i:Nat)(es:List Expr)(f:FAG):Prop:=∃t,PA X es t/\GoAG X.K i t f
theorem ArgV.keep {K:W.Frag}{H H':Hp}{J J':Addr->Prop}{u:Option (Option V)}(k:Keep K H J H' J'):∀{vs:List V}{as:List (Option D)},ArgV K H J u vs as->ArgV K H' J' u vs as
 | [],[],_=>trivial
 | v::vs,none::as,h=>⟨h.1,ArgV.keep k h.2⟩
 | v::vs,some d::as,h=>⟨h.1.keep k,ArgV.keep k h.2⟩
 | [],_::_,h=>h.elim
 | _::_,[],h=>h.elim
theorem ArgV.length {K:W.Frag}{H:Hp}{J:Addr->Prop}{u:Option (Option V)}:∀{vs:List V}{as:List (Option D)},ArgV K H J u vs as->vs.length=as.length
 | [],[],_=>rfl
 | v::vs,none::as,h=>by simp[ArgV.length h.2]
 | v::vs,some d::as,h=>by simp[ArgV.length h.2]
 | [],_::_,h=>h.elim
 | _::_,[],h=>h.elim
theorem ArgV.get {K:W.Frag}{H:Hp}{J:Addr->Prop}{u:Option (Option V)}:∀{vs:List V}{as:List (Option D)}{j:Nat}{o:Option D},ArgV K H J u vs as->as[j]?=some o->∃v,vs[j]?=some v/\match o with | none=>u=some (some v) | some d=>Rp K H J v d
 | [],[],_,_,_,e=>by simp at e
 | v::vs,none::as,0,o,h,e=>by simp at e;subst e;exact⟨v,rfl,h.1⟩
 | v::vs,some d::as,0,o,h,e=>by simp at e;subst e;exact⟨v,rfl,h.1⟩
 | v::vs,none::as,j+1,o,h,e=>by simpa using ArgV.get (j:=j) (o:=o) h.2 (by simpa using e)
 | v::vs,some d::as,j+1,o,h,e=>by simpa using ArgV.get (j:=j) (o:=o) h.2 (by simpa using e)
 | [],_::_,_,_,h,_=>h.elim
 | _::_,[],_,_,h,_=>h.elim
section
variable {X:Cx}{K:W.Frag}{e:Expr}{es:List Expr}{fa:FX}{fl:FAG}{pos p:Pos}{i:Nat}
def agNil:FAG:=fun ρ=>some ([],ρ)
def agOwn (i:Nat)(f:FAG):FAG:=fun ρ=>if(ownD (ρ[i]?)).isSome=true then(f ρ).bind fun q=>some (none::q.1,q.2) else none
def agX (g:FX)(f:FAG):FAG:=fun ρ=>(g ρ).bind fun q=>(f q.2).bind fun r=>some (some q.1::r.1,r.2)
theorem zam:VAG X i [] agNil:=⟨_,zdr,fun Hz Jz O ρ σ H J ds ρ' Q s e w=>by cases e;exact w [] H J s Keep.refl trivial⟩
theorem zaX (ha:VX X e fa)(hr:VAG X i es fl)(hs:starEach (e::es) X.env=(false,eval e X.env)::starEach es X.env:=by rfl):VAG X i (e::es) (agX fa fl):=by
 obtain⟨t,p,g⟩:=ha;obtain⟨t2,p2,g2⟩:=hr;refine⟨_,zcr p p2 hs,?_⟩;intro Hz Jz O ρ σ H J ds ρ' Q s e w;obtain⟨⟨x,ρ1⟩,ex,e⟩:=bind_some e;obtain⟨⟨xs,ρ2⟩,exs,e⟩:=bind_some e;cases e;refine g Hz Jz O ρ σ H J x _ _ s ex fun v1 H1 J1 s1 k1 r1=>?_
 refine g2 Hz Jz O ρ1 σ H1 J1 xs _ _ s1 exs fun vs H2 J2 s2 k2 r2=>?_
 exact w _ H2 J2 s2 (k1.trans k2) ⟨r1.keep k2,r2⟩
theorem zan {x:Str}(hr:VAG X i es fl)(hN:X.N[i]?=some x:=by rfl)(hv:Vis X.env.scope x:=by first | exact Or.inl rfl | exact Or.inr (Or.inl rfl) | exact Or.inr (Or.inr rfl))(hd:(x == ("__debug__" : Str))=false:=by decide)(hcd:(x == ("__classdict__" : Str))=false:=by decide)
 (hs:starEach (.Name x p::es) X.env=(false,eval (.Name x p) X.env)::starEach es X.env:=by rfl):VAG X i (.Name x p::es) (agOwn i fl):=by
 obtain⟨t2,p2,g2⟩:=hr;refine⟨_,zcr (zb1 hN hv hd hcd) p2 hs,?_⟩;intro Hz Jz O ρ σ H J ds ρ' Q s e w;unfold agOwn at e;by_cases ho:(ownD (ρ[i]?)).isSome=true
 ·rw[if_pos ho] at e;obtain⟨⟨xs,ρ2⟩,exs,e⟩:=bind_some e;cases e;obtain⟨⟨n,d⟩,hq⟩:=wbc.mp ho;obtain⟨v,A,hv,_⟩:=s.rd hq;refine⟨v,hv,?_⟩;refine g2 Hz Jz O ρ σ H J xs _ _ s exs fun vs H2 J2 s2 k2 r2=>?_
  exact w _ H2 J2 s2 k2 ⟨hv,r2⟩
 ·rw[if_neg ho] at e;cases e
def agK (n:Nat):Option D->Option Nat
 | none=>some n
 | some _=>none
def xCallG (ks:List (Option Nat))(p i n:Nat)(F:List D->Option (RV×List D))(f:FAG):FR:=fun ρ=>(f ρ).bind fun q=>
 if q.1.map (agK n)=ks then match ownD (q.2[i]?) with
  | some (m,d)=>if m=n then(F (q.1.map fun o=>o.getD d)).bind fun r=>(r.2[p]?).bind fun e=>some (r.1,setO q.2 i e) else none
  | none=>none
 else none
theorem zbU {ρ:En}{i j:Nat}{d:D}(h:j≠i):(setO ρ i d)[j]?=ρ[j]?:=by
 unfold setO;exact wai (Ne.symm h)
theorem zl1 {ks:List (Option Nat)}{q n:Nat}{F:List D->Option (RV×List D)}{t:TA}(hp:ks[q]?=some (some n))(h1:∀(j m:Nat),ks[j]?=some (some m)->j=q)(hn:n≠0)(g:GoAG K i t fl)(E:XK):GoR K (zlw (spG K ks F) [] E t) (xCallG ks q i n F fl):=by
 intro Hz Jz O ρ σ H J r ρ' Q s e w;obtain⟨⟨as,ρ1⟩,e1,e⟩:=bind_some e;have eA:(if as.map (agK n)=ks then match ownD (ρ1[i]?) with
  | some (m,d)=>if m=n then(F (as.map fun o=>o.getD d)).bind fun r=>(r.2[q]?).bind fun e=>some (r.1,setO ρ1 i e) else none
  | none=>none
 else none)=some (r,ρ'):=e
 by_cases hk:as.map (agK n)=ks
 ·rw[if_pos hk] at eA;cases ho:ownD (ρ1[i]?) with
  | none=>rw[ho] at eA;cases eA
  | some md=>
    obtain⟨m,d⟩:=md;rw[ho] at eA;have eB:(if m=n then(F (as.map fun o=>o.getD d)).bind fun r=>(r.2[q]?).bind fun e=>some (r.1,setO ρ1 i e) else none)=some (r,ρ'):=eA
    by_cases hm:m=n
    ·rw[if_pos hm] at eB;subst hm;obtain⟨⟨r',es⟩,e2,eC⟩:=bind_some eB;obtain⟨d',e3,eD⟩:=bind_some eC;cases eD;refine g Hz Jz O ρ σ H J as ρ1 _ s e1 fun vs H1 J1 s1 k1 r1=>?_
     obtain⟨fp,ow⟩:=s1.ow;have hi:i<ρ1.length:=by
      by_cases hi:i<ρ1.length
      ·exact hi
      ·rw[waG (by omega)] at ho;cases ho
     have hat:∃v,σ[i]?=some (some v)/\RpU K H1 J1 m v d (fp i):=by
      have o:=ow.at' i
      match z:ρ1[i]?,ho,o with
      | some (.own _ _),ho,o=>cases ho;exact o.1
      | some (.par _ _),ho,o=>cases ho;exact o.1
     obtain⟨v,hv,ru⟩:=hat
     have asq:as[q]?=some none:=by
      have:=hp
      rw[<-hk,wag] at this;cases z:as[q]? with
      | none=>rw[z] at this;cases this
      | some o=>rw[z] at this;cases o with
        | none=>rfl
        | some _=>simp[agK] at this
     have mpos:∃a,v=.ref a:=by
      cases m with
      | zero=>exact absurd rfl hn
      | succ m=>exact ru.isRef
     obtain⟨a,rfl⟩:=mpos;have vq:vs[q]?=some (.ref a):=by
      obtain⟨u,h1,h2⟩:=r1.get asq;have h2:σ[i]?=some (some u):=h2
      rw[hv] at h2;cases h2;exact h1
     have args:ArgsG K H1 J1 ks vs (as.map fun o=>o.getD d) (fun j=>if j=q then fp i else[]):=by
      refine⟨by rw[r1.length,<-hk,wao],by rw[wao,<-hk,wao],fun j=>?_,fun j=>?_,fun j b hb=>?_,fun j l ne b hb=>?_⟩
      ·rw[<-hk,wag,wag];cases z:as[j]? with
       | none=>
         have:j≠q:=fun h=>by rw[h,asq] at z;cases z
         show(if j=q then fp i else[]) = []
         rw[if_neg this]
       | some o=>
         cases o with
         | none=>
           have:j=q:=h1 j m (by rw[<-hk,wag,z];rfl)
           subst this;exact⟨a,d,vq,rfl,by rw[if_pos rfl];exact ru⟩
         | some x=>
           have:j≠q:=fun h=>by rw[h,asq] at z;cases z
           obtain⟨u,h1,h2⟩:=r1.get z;exact⟨u,x,h1,rfl,h2,by rw[if_neg this]⟩
      ·split
       ·exact ow.nd i
       ·exact wba
      ·split at hb
       ·exact ow.nj i b hb
       ·cases hb
      ·split at hb
       ·rename_i z
        rw[if_neg (fun h=>ne (z.trans h.symm))];simp
       ·cases hb
     refine⟨J1,_,r',es,_,s1.ja,by rw[waJ];exact args,e2,fun v' H' J' fp' pg=>?_⟩;rw[waJ] at pg;obtain⟨a2,d2,h2,h3,ru2,hb2⟩:=pg.own q m hp;rw[vq] at h2;cases h2;rw[e3] at h3;cases h3;have hA:∀b:Addr,(∀j,b∉(if j=q then fp i else[]))↔b∉fp i:=fun b=>by
      constructor
      ·intro h;have:=h q;rwa [if_pos rfl] at this
      ·intro h j;split
       ·exact h
       ·simp
     have key:=s1.chgs (ρ':=setO ρ1 i d') (fp':=zhG fp i (fp' q)) (is:=fun j=>j == i) (H':=H') (J':=J') ow (by simp[setO]) (fun j hj=>?_) (fun j hj=>?_) (fun j hj=>?_) (fun j hj=>?_) (fun j l hj hl ne=>?_) (fun b o hb h=>pg.hs b o ((hA b).mpr (hb i (by simp))) h) pg.al pg.jj pg.jn pg.ja
     ·obtain⟨s2,ow2,k2⟩:=key;refine w v' H' J' s2 (k1.trans k2) ?_;have res:=pg.res
      cases r' with
      | told d0=>exact res
      | new n0 d0=>
        obtain⟨B,ruB,ndB,hB,djB⟩:=res;refine⟨B,zhG fp i (fp' q),ow2,ruB,ndB,fun b hb=>⟨(hB b hb).1,?_⟩,fun j b hb=>?_⟩
        ·cases z:Hz b with
         | none=>rfl
         | some o=>exact absurd (hB b hb).2 (s1.al b (by rw[z];simp))
        ·by_cases hj:j=i
         ·subst hj;rw[za1];exact djB q b hb
         ·rw[zbB hj];intro hb2;obtain⟨o,ho',_⟩:=(ow.at' j).ru b hb2;rw[(hB b hb).2] at ho';cases ho'
     ·have hj':j≠i:=by simpa using hj
      exact⟨zbU hj',zbB hj'⟩
     ·have hj':j=i:=by simpa using hj
      subst hj';refine⟨m,d,d',.ref a,ho,wat hi,hv,by rw[za1];exact ru2,fun b hb=>?_⟩;rw[za1] at hb;have:=hb2 b hb
      rwa [if_pos rfl] at this
     ·have hj':j=i:=by simpa using hj
      subst hj';rw[za1];exact pg.nd q
     ·have hj':j=i:=by simpa using hj
      subst hj';rw[za1];exact pg.nj q
     ·have hj':j=i:=by simpa using hj
      have hl':l=i:=by simpa using hl
      exact absurd (hj'.trans hl'.symm) ne
    ·rw[if_neg hm] at eB;cases eB
 ·rw[if_neg hk] at eA;cases eA
def zm7 (ks:List (Option Nat))(q:Nat):Bool:=(List.range ks.length).all fun j=>match ks[j]? with
 | some (some _)=>j == q
 | _=>true
theorem zkf {ks:List (Option Nat)}{q:Nat}(h:zm7 ks q=true)(j m:Nat)(hj:ks[j]?=some (some m)):j=q:=by
 have:=waF.mp h j (wbd.mpr (wab.mp hj).1)
 rw[hj] at this;simpa using this
theorem zao (q i n:Nat){k k':Nat}{x:Str}{ps:List Str}{ks:List (Option Nat)}{F:List D->Option (RV×List D)}(C:Cal X.prog X.w X.K X.mg X.base k x ps (spG X.K ks F))(hr:Room k' X.A)(ha:VAG X i (e::es) fl)(hp:ks[q]?=some (some n):=by rfl)(ho:zm7 ks q=true:=by decide)(hn:n≠0:=by decide)(hk:k<=k':=by decide)(hg:Gl X x:=by rfl)(hdb:(x == ("__debug__" : Str))=false:=by decide)
 (he:starEach (e::es) X.env=(false,eval e X.env)::starEach es X.env:=by rfl) (hpl:(backTo pos (starEach es X.env)).any (·.1)=false:=by rfl):VR X (.Call (.Name x p) (e::es) [] pos) (xCallG ks q i n F fl):=by
 obtain⟨t,p,g⟩:=ha;exact⟨_,pc C hr p hk hg hdb he hpl,zl1 hp (zkf ho) hn g _⟩
def xCallN (ks:List (Option Nat))(F:List D->Option (RV×List D))(f:FAX):FR:=fun ρ=>(f ρ).bind fun q=>(F q.1).bind fun r=>if q.1.length=ks.length then some (r.1,q.2) else none
theorem ArgsG.plain {H:Hp}{J:Addr->Prop}{vs:List V}{ds:List D}{ks:List (Option Nat)}(r:RpL K H J vs ds)(hk:ds.length=ks.length)(hn:ks.all (·.isNone)=true):ArgsG K H J ks vs ds (fun _=>[]):=by
 refine⟨by rw[r.length,hk],hk,fun j=>?_,fun _=>wba,fun _ b hb=>absurd hb (by simp),fun _ _ _ b hb=>absurd hb (by simp)⟩;cases z:ks[j]? with
 | none=>rfl
 | some o=>
   have:=waF.mp hn o (wal z)
   cases o with
   | some _=>cases this
   | none=>
     have hj:j<ds.length:=by rw[hk];exact(wab.mp z).1
     obtain⟨v,hv,rv⟩:=r.get (waa hj);exact⟨v,ds[j],hv,waa hj,rv,rfl⟩
theorem zl2 {fl:FAX}{ks:List (Option Nat)}{F:List D->Option (RV×List D)}{t:TA}(hn:ks.all (·.isNone)=true)(g:GoAX K t fl)(E:XK):GoR K (zlw (spG K ks F) [] E t) (xCallN ks F fl):=by
 intro Hz Jz O ρ σ H J r ρ' Q s e w;obtain⟨⟨ds,ρ1⟩,e1,eA⟩:=bind_some e;obtain⟨⟨r',es⟩,e2,eB⟩:=bind_some eA;have eB:(if ds.length=ks.length then some (r',ρ1) else none)=some (r,ρ'):=eB
 by_cases hl:ds.length=ks.length
 ·rw[if_pos hl] at eB;cases eB;refine g Hz Jz O ρ σ H J ds _ _ s e1 fun vs H1 J1 s1 k1 r1=>?_
  refine⟨J1,ds,_,es,_,s1.ja,by rw[waJ];exact ArgsG.plain r1 hl hn,e2,fun v H2 J2 fp' pg=>?_⟩;have u:Up H1 J1 H2 J2:=⟨fun b o h=>pg.hs b o (fun _=>by simp) h,pg.jj,pg.jn,pg.ja⟩
  refine w v H2 J2 (s1.up u) (k1.trans u.keep) ?_;have res:=pg.res
  cases r with
  | told d0=>exact res
  | new n0 d0=>
    obtain⟨B,ruB,ndB,hB,_⟩:=res;obtain⟨fp,ow⟩:=s1.ow;refine⟨B,fp,⟨fun i=>(ow.at' i).keep u.keep fun b _=>u.same b,ow.nd,fun i b hb jb=>?_,ow.dj⟩,ruB,ndB,fun b hb=>⟨(hB b hb).1,?_⟩,fun j b hb hb2=>?_⟩
    ·rcases u.jn b jb with jb | jb
     ·exact ow.nj i b hb jb
     ·obtain⟨o,e,_⟩:=(ow.at' i).ru b hb;rw[e] at jb;cases jb
    ·cases z:Hz b with
     | none=>rfl
     | some o=>exact absurd (hB b hb).2 (s1.al b (by rw[z];simp))
    ·obtain⟨o,ho,_⟩:=(ow.at' j).ru b hb2;rw[(hB b hb).2] at ho;cases ho
 ·rw[if_neg hl] at eB;cases eB
theorem zl3 {fl:FAX}{k k':Nat}{x:Str}{ps:List Str}{ks:List (Option Nat)}{F:List D->Option (RV×List D)}(C:Cal X.prog X.w X.K X.mg X.base k x ps (spG X.K ks F))(hr:Room k' X.A)(ha:VAX X (e::es) fl)(hn:ks.all (·.isNone)=true:=by rfl)(hk:k<=k':=by decide)(hg:Gl X x:=by rfl)(hdb:(x == ("__debug__" : Str))=false:=by decide)
 (he:starEach (e::es) X.env=(false,eval e X.env)::starEach es X.env:=by rfl) (hpl:(backTo pos (starEach es X.env)).any (·.1)=false:=by rfl):VR X (.Call (.Name x p) (e::es) [] pos) (xCallN ks F fl):=by
 obtain⟨t,p,g⟩:=ha;exact⟨_,pc C hr p hk hg hdb he hpl,zl2 hn g _⟩
end
section
variable {X:Cx}{K:W.Frag}{a b c e:Expr}{es:List Expr}{fa fb:FX}{fe:FE}{ft:FTX}{fl:FAX}{fr:FR}{g g2:FS}{pos p:Pos}
def gSetX (i:Nat)(f:FX):FS:=fun ρ=>(f ρ).bind fun q=>if i<q.2.length/\isPar (q.2[i]?)=false then some (.nx (q.2.set i (.val q.1))) else none
theorem zbb {i:Nat}{x:Str}{pos':Pos}(hN:X.N.Nodup)(hi:X.N[i]?=some x)(hx:Loc X.env.scope x)(h:VX X e fa)(hs:swapsWith e (some (.Name x pos')) pos.line X.env=pure false:=by rfl)(hf:X.fn x=true\/X.env.scope.names.lookup x=some .local:=by first | exact .inl rfl | exact .inr rfl | assumption) :
 VS X (.Assign [.Name x pos'] e pos) (gSetX i fa):=by
 obtain⟨t,p,q⟩:=h;refine⟨_,zgu hN hi hx p hs hf,?_⟩;intro Hz Jz O ρ σ H J o E s e w;obtain⟨⟨d,ρ1⟩,e1,eA⟩:=bind_some e;have eA:(if i<ρ1.length/\isPar (ρ1[i]?)=false then some (Out.nx (ρ1.set i (.val d))) else none)=some o:=eA
 by_cases hi:i<ρ1.length/\isPar (ρ1[i]?)=false
 ·rw[if_pos hi] at eA;cases eA;exact q Hz Jz O ρ σ H J d ρ1 _ s e1 fun v H' J' s' k r=>w _ H' J' (s'.set r hi.1 (zct hi.2)) k
 ·rw[if_neg hi] at eA;cases eA
theorem ST.take {Hz H:Hp}{Jz J:Addr->Prop}{O:Pr}{ρ:En}{σ:L2.St}{i n:Nat}{v:V}{d:D}(s:ST K Hz Jz O ρ σ H J)(q:RtAt K Hz O ρ σ H J v (.new n d))(hi:i<ρ.length)(hp:∀n d,ρ[i]?≠some (.par n d)):ST K Hz Jz O (ρ.set i (.own n d)) (σ.set i (some v)) H J:=by
 obtain⟨A,fp,w,r,nd,hA,dj⟩:=q;refine⟨s.same,s.j0,s.jn,s.ja,by simp[s.len],fun j e h=>?_,?_,fun q hq=>?_,s.al⟩
 ·rcases zdX h with⟨rfl,he⟩ | ⟨ne,h⟩
  ·cases he
  ·rw[wai (Ne.symm ne)];exact s.vl j e h
 ·refine⟨_,w.put (i:=i) (A:=A) Keep.refl (fun _ _ _ _ _ h=>h) (fun j _=>w.nj j) (fun j e=>wai (Ne.symm e)) (fun j e=>wai (Ne.symm e)) ?_ nd (fun b hb=>(hA b hb).1) (fun j _ b hb=>dj j b hb)⟩;rw[wat hi,wat (by rw[s.len];exact hi)];exact⟨⟨v,rfl,r⟩,fun b hb=>(hA b hb).2⟩
 ·have e:=s.psNe hp q hq
  rw[wai (Ne.symm e),wai (Ne.symm e)];exact s.ps q hq
def gOwnR (i:Nat)(f:FR):FS:=fun ρ=>(f ρ).bind fun q=>match q.1 with
 | .new n d=>if i<q.2.length/\isPar (q.2[i]?)=false then some (.nx (q.2.set i (.own n d))) else none
 | .told _=>none
theorem zhM {i:Nat}{x:Str}{pos':Pos}(hN:X.N.Nodup)(hi:X.N[i]?=some x)(hx:Loc X.env.scope x)(h:VR X e fr)(hs:swapsWith e (some (.Name x pos')) pos.line X.env=pure false:=by rfl)(hf:X.fn x=true\/X.env.scope.names.lookup x=some .local:=by first | exact .inl rfl | exact .inr rfl | assumption) :
 VS X (.Assign [.Name x pos'] e pos) (gOwnR i fr):=by
 obtain⟨t,p,q⟩:=h;refine⟨_,zgu hN hi hx p hs hf,?_⟩;intro Hz Jz O ρ σ H J o E s e w;obtain⟨⟨r,ρ1⟩,e1,eA⟩:=bind_some e;cases r with
 | told d=>cases eA
 | new n d=>
   have eA:(if i<ρ1.length/\isPar (ρ1[i]?)=false then some (Out.nx (ρ1.set i (.own n d))) else none)=some o:=eA
   by_cases hi:i<ρ1.length/\isPar (ρ1[i]?)=false
   ·rw[if_pos hi] at eA;cases eA;exact q Hz Jz O ρ σ H J _ ρ1 _ s e1 fun v H' J' s' k r=>w _ H' J' (s'.take r hi.1 (zct hi.2)) k
   ·rw[if_neg hi] at eA;cases eA
def gRetX (f:FX):FS:=fun ρ=>(f ρ).bind fun q=>some (.ret (.told q.1) q.2)
theorem ze1 (h:VX X e fa):VS X (.Return (some e) pos) (gRetX fa):=by
 obtain⟨t,p,q⟩:=h;refine⟨_,zii p,fun Hz Jz O ρ σ H J o E s e w=>?_⟩;obtain⟨⟨d,ρ1⟩,e1,eA⟩:=bind_some e;cases eA;exact q Hz Jz O ρ σ H J d ρ1 _ s e1 fun v H' J' s' k r=>w v σ H' J' s' r
def gIfX (c:FTX)(a b:FS):FS:=fun ρ=>(c ρ).bind fun q=>if q.1 then a q.2 else b q.2
theorem zm8 {bs os:List Stmt}(hc:VTX X c ft)(ha:VSs X bs g)(hb:VSs X os g2):VS X (.If c bs os pos) (gIfX ft g g2):=by
 obtain⟨tc,pc,qc⟩:=hc;obtain⟨t,p,q⟩:=ha;obtain⟨u,p2,q2⟩:=hb;refine⟨_,zo0 pc p p2,fun Hz Jz O ρ σ H J o E s e w=>?_⟩;obtain⟨⟨k,ρ1⟩,e1,eA⟩:=bind_some e;refine qc Hz Jz O ρ σ H J k ρ1 _ s e1 fun H1 J1 s1 k1=>?_
 cases k with
 | true=>exact iteT (q Hz Jz O ρ1 σ H1 J1 o E s1 eA (w.keep k1))
 | false=>exact iteF (q2 Hz Jz O ρ1 σ H1 J1 o E s1 eA (w.keep k1))
theorem zkg {ρ:En}{i n:Nat}{d:D}(h:ownD (ρ[i]?)=some (n,d)):i<ρ.length:=by
 by_cases hi:i<ρ.length
 ·exact hi
 ·rw[waG (by omega)] at h;cases h
def isL1:Option (Nat×D)->Bool
 | some (1,.lst _)=>true
 | _=>false
def gPutL (i:Nat)(fk:FE)(f:FX):FS:=fun ρ=>(f ρ).bind fun q=>(fk q.2).bind fun k=>(dInt k).bind fun k=>match ownD (q.2[i]?) with
 | some (1,.lst ds)=>(ixN ds.length k).bind fun j=>some (.nx (setO q.2 i (.lst (ds.set j q.1))))
 | _=>none
theorem znY (i:Nat){x:Str}{xp sp:Pos}{fk:FE}(h:VX X e fa)(hk:VE X a fk)(hN:X.N[i]?=some x:=by rfl)(hv:Vis X.env.scope x:=by first | exact Or.inl rfl | exact Or.inr (Or.inl rfl) | exact Or.inr (Or.inr rfl))(hd:(x == ("__debug__" : Str))=false:=by decide)(hcd:(x == ("__classdict__" : Str))=false:=by decide)
 (ha:∀v,assign (.Subscript (.Name x xp) a sp) X.env v=(do
  let ov <-holding [v] (eval (.Name x xp) X.env)
  let iv <-holding [v,ov] (eval a X.env)
  standAt sp
  holding [v,ov,iv] (setItem ov iv v)
  release [v,ov,iv] []):=by intro _;rfl)
 (hs:swapsWithSole [.Subscript (.Name x xp) a sp] e pos.line X.env=pure false:=by rfl) (hw:swappedStores [.Subscript (.Name x xp) a sp] e X.env=pure none:=by rfl) (h1:(assignEach [.Subscript (.Name x xp) a sp] X.env).map (·.2) = [assign (.Subscript (.Name x xp) a sp) X.env]:=by rfl) :
 VS X (.Assign [.Subscript (.Name x xp) a sp] e pos) (gPutL i fk fa):=by
 obtain⟨t,p,q⟩:=h;obtain⟨tk,pk,qk⟩:=hk;refine⟨_,zjt p (zmM (zb1 hN hv hd hcd) pk zik ha) hs hw h1,fun Hz Jz O ρ σ H J o E s e w=>?_⟩;obtain⟨⟨d,ρ1⟩,e1,eA⟩:=bind_some e;obtain⟨k,e2,eB⟩:=bind_some eA;obtain⟨kk,e3,eC⟩:=bind_some eB;refine q Hz Jz O ρ σ H J d ρ1 _ s e1 fun v H1 J1 s1 k1 r1=>?_
 split at eC
 ·rename_i ds z
  obtain⟨j,e4,eD⟩:=bind_some eC;cases eD;obtain⟨a0,vs0,ha0,_,_,_⟩:=s1.top (H':=H) (es:=[]) z;refine⟨.ref a0,ha0,?_⟩;refine qk Hz Jz O ρ1 σ H1 J1 k _ s1 e2 fun vk H2 J2 u2 rk=>?_
  have s2:=s1.up u2
  obtain⟨a1,vs1,ha1,hv1,rl,go⟩:=s2.top (H':=H) (es:=[]) z;rw[ha0] at ha1;cases ha1;cases k with
  | int k0=>
    cases e3;cases rk;refine⟨a0,vs1,kk,j,rfl,rfl,hv1,by rw[rl.length];exact e4,?_⟩;obtain⟨s3,k3⟩:=go (vs1.set j v) (ds.set j d) (rl.set j (r1.keep u2.keep));exact w σ _ J2 s3 ((k1.trans u2.keep).trans k3)
  | _=>cases e3
 ·cases eC
end
def GoIX (K:W.Frag)(wi:TI)(f:FAX):Prop:=∀Hz Jz O ρ σ H J ds ρ' R,ST K Hz Jz O ρ σ H J->f ρ=some (ds,ρ')->(∀I H' J',ST K Hz Jz O ρ' σ H' J'->Keep K H J H' J'->Src K I H' J' ds->R I H')->wi σ H R
def VIX (X:Cx)(tg iter:Expr)(f:FAX):Prop:=∃wi,PI X tg iter wi/\GoIX X.K wi f
def gForX (fi:FAX)(tg:FG)(b:FS):FS:=fun ρ=>(fi ρ).bind fun q=>forL tg b q.1 q.2
section
variable {X:Cx}{K:W.Frag}{fi fl:FAX}{fa:FX}{g:FS}{pos p:Pos}{ft:FT}{tg a b:Expr}
theorem znZ {wi:TI}{tb:TS}{tg:TG}{fg:FG}{is:List Nat}(hi:GoIX K wi fi)(hg:GoG K tg is fg)(hb:GoS K tb g):GoS K (tFor wi tg tb) (gForX fi fg g):=by
 intro Hz Jz O ρ σ H J o E s e w;obtain⟨⟨ds,ρ0⟩,e1,e⟩:=bind_some e;refine hi Hz Jz O ρ σ H J ds ρ0 _ s e1 fun I H1 J1 s1 k1 src=>?_
 refine⟨fun i m σ' H'=>m=ds.length - i/\i<=ds.length/\∃ρ' J',ST K Hz Jz O ρ' σ' H' J'/\Keep K H1 J1 H' J'/\forL fg g (ds.drop i) ρ'=some o,⟨ds.length,by simp,wbj _,ρ0,J1,s1,Keep.refl,by simpa using e⟩,?_⟩;rintro i m σ2 H2 ⟨rfl,hil,ρ2,J2,s2,k2,e2⟩;obtain⟨stop,turn⟩:=src H2 J2 k2 s2.ja;by_cases hlt:i<ds.length
 ·right
  have hd:ds[i]?=some ds[i]:=waa hlt
  generalize hdd:ds[i]=d at hd;obtain⟨go,yl⟩:=turn i d hd;have edrop:ds.drop i=d::ds.drop (i+1):=by rw[<-hdd];exact(wbN hlt).symm
  rw[edrop] at e2;unfold forL at e2;obtain⟨ρ3,eg,e2⟩:=bind_some e2;obtain⟨ob,eb,e2⟩:=bind_some e2;refine⟨go,fun σ' H'=>∃ρ' J',ST K Hz Jz O ρ' σ' H' J'/\Keep K H1 J1 H' J'/\forL fg g (ds.drop (i+1)) ρ'=some o,fun σ' H' h=>⟨ds.length - (i+1),by omega,rfl,hlt,h⟩,fun x H3 y=>?_⟩;obtain⟨J3,u3,r3⟩:=yl x H3 y;refine hg.2 Hz Jz O ρ2 σ2 H3 J3 x d ρ3 _ (s2.up u3) r3 eg fun σ4 s4=>?_
  refine hb Hz Jz O ρ3 σ4 H3 J3 ob _ s4 eb ?_;have k3:=k2.trans u3.keep
  cases ob with
  | nx ρ5=>exact fun σ5 H5 J5 s5 k5=>⟨ρ5,J5,s5,k3.trans k5,e2⟩
  | ct ρ5=>exact fun σ5 H5 J5 s5 k5=>⟨ρ5,J5,s5,k3.trans k5,e2⟩
  | bk ρ5=>cases e2;exact fun σ5 H5 J5 s5 k5=>w σ5 H5 J5 s5 ((k1.trans k3).trans k5)
  | ret d ρ5=>cases e2;exact w
 ·left
  have hi':i=ds.length:=by omega
  subst hi';rw[wcz] at e2;cases e2;exact⟨stop,w σ2 H2 J2 s2 (k1.trans k2)⟩
theorem zn0 {tg iter:Expr}{body:List Stmt}{is:List Nat}{fg:FG}(hi:VIX X tg iter fi)(hg:VG X tg is fg)(hb:VSs X body g)(hp:PassesOwn (model X.prog X.w) X.A X.env X.xe:=by exact PassesOwn.never)(hc:X.calm=true:=by rfl)
 (hs:∀x,foldedSetIterable iter X.env x=pure x:=by intro _;rfl):VS X (.For tg iter body [] pos) (gForX fi fg g):=by
 obtain⟨wi,p1,q1⟩:=hi;obtain⟨t,p2,q2⟩:=hg;obtain⟨tb,p3,q3⟩:=hb;exact⟨_,zmP hp hc p1 p2 p3 hs,znZ q1 q2 q3⟩
theorem zn1 {H:Hp}{J:Addr->Prop}{p:Addr}{vs:List V}{ds:List D}(h:H p=some (.lst vs))(j:J p)(r:RpL K H J vs ds):Src K (Itl K p) H J ds:=by
 intro H2 J2 k ja;have h2:=k.jo _ _ j h
 refine⟨⟨_,SqL.of h2,by rw[r.length];exact wae _⟩,fun i d hd=>?_⟩;obtain⟨v,hv,rv⟩:=r.get hd;refine⟨⟨_,v,SqL.of h2,hv⟩,fun x H3 y=>?_⟩;obtain⟨rfl,y⟩:=y;have e:=y _ (SqL.of h2)
 rw[hv] at e;cases e;exact⟨J2,Up.refl ja,rv.keep k⟩
theorem zn2 {H:Hp}{J:Addr->Prop}{p:Addr}{vs:List V}{ds:List D}(h:SqT K H p vs)(r:RpL K H J vs ds):Src K (Itt K p) H J ds:=by
 intro H2 J2 k ja;have h2:=k.tp _ _ h
 refine⟨⟨_,h2,by rw[r.length];exact wae _⟩,fun i d hd=>?_⟩;obtain⟨v,hv,rv⟩:=r.get hd;refine⟨⟨_,v,h2,hv⟩,fun x H3 y=>?_⟩;obtain⟨rfl,y⟩:=y;have e:=y _ h2
 rw[hv] at e;cases e;exact⟨J2,Up.refl ja,rv.keep k⟩
def axSeq (f:FX):FAX:=fun ρ=>(f ρ).bind fun q=>(dSeq q.1).bind fun ds=>some (ds,q.2)
theorem zn3 (h:VX X a fa):VIX X tg a (axSeq fa):=by
 obtain⟨t,p,g⟩:=h;refine⟨_,znN (zjv p) (zmO p),?_⟩;intro Hz Jz O ρ σ H J ds ρ' R s e w;obtain⟨⟨x,ρ1⟩,e1,eA⟩:=bind_some e;obtain⟨xs,e2,eB⟩:=bind_some eA;cases eB;cases x with
 | lst xs=>
   cases e2;refine .inl (g Hz Jz O ρ σ H J _ ρ1 _ s e1 fun v H1 J1 s1 k1 r1=>?_);cases r1 with
   | lst h j r=>exact⟨_,rfl,⟨_,SqL.of h⟩,w _ H1 J1 s1 k1 (zn1 h j r)⟩
 | tup xs=>
   cases e2;refine .inr (g Hz Jz O ρ σ H J _ ρ1 _ s e1 fun v H1 J1 s1 k1 r1=>?_);cases r1 with
   | tup h r=>exact⟨_,rfl,⟨_,h⟩,w _ H1 J1 s1 k1 (zn2 h r)⟩
 | _=>cases e2
def axRng1 (f:FAX):FAX:=fun ρ=>(f ρ).bind fun q=>(a1Int q.1).bind fun j=>if -1000000<=j/\j<=1000000 then some (zaN 0 j.toNat,q.2) else none
theorem zi3 (B:Blt X.mg)(ha:VAX X [a] fl)(hg:Gl X "range":=by rfl)(hs:starEach [a] X.env = [(false,eval a X.env)]:=by rfl):VIX X tg (.Call (.Name "range" p) [a] [] pos) (axRng1 fl):=by
 obtain⟨t,p,g⟩:=ha;refine⟨_,zgv hg (B.get "range") p hs,?_⟩;intro Hz Jz O ρ σ H J ds ρ' R s e w;obtain⟨⟨l,ρ1⟩,e1,eA⟩:=bind_some e;obtain⟨j,e2,eB⟩:=bind_some eA;by_cases hj:-1000000<=j/\j<=1000000
 ·rw[if_pos hj] at eB;cases eB;refine g Hz Jz O ρ σ H J l ρ1 _ s e1 fun vs H1 J1 s1 k1 r1=>?_
  match l,e2,r1 with
  | [.int i],e2,r1=>
    cases e2;cases r1 with
    | cons h t=>cases t;cases h;exact⟨j,rfl,by omega,by omega,w _ H1 J1 s1 k1 (zgU 0 _)⟩
 ·rw[if_neg hj] at eB;cases eB
def keyD:D->Option Key
 | .int i=>some (.inl i)
 | .str x=>some (.inr x)
 | _=>none
theorem zgZ {H:Hp}{J:Addr->Prop}{v:V}{d:D}{k:Key}(r:RpW K H J v d)(h:keyD d=some k):v=kV k:=by
 cases d with
 | int i=>cases h;exact r.int
 | str x=>cases h;exact r.str
 | _=>cases h
def dLook:List Key->List D->Key->Option D
 | k::ks,d::ds,j=>if k=j then some d else dLook ks ds j
 | _,_,_=>none
theorem zga {H:Hp}{J:Addr->Prop}:∀{kvs:List (Key×V)}{ks:List Key}{ds:List D}{j:Key}{d:D},kvs.map (·.1)=ks->RpL K H J (kvs.map (·.2)) ds->dLook ks ds j=some d->∃v,valV kvs j=some v/\Rp K H J v d
 | [],_,_,_,_,e,r,h=>by subst e;cases r;cases h
 | (k,v)::kvs,_,_,j,d,e,r,h=>by
   subst e;cases r with
   | cons h1 t=>
     unfold valV;rw[wbD];unfold dLook at h;rw[wav] at h;by_cases hk:k=j
     ·simp only[hk,if_true] at h;cases h;simp only[hk,decide_true];exact⟨v,rfl,h1⟩
     ·simp only[hk,if_false] at h;simp only[hk,decide_false];exact zga rfl t h
def dGet:D->D->Option D
 | .dct ks ds,k=>(keyD k).bind fun j=>dLook ks ds j
 | _,_=>none
theorem zbw {fd fk:FE}(hu:X.A.units+1<cLine)(ha:VW X a fd)(hb:VW X b fk)(hs:NoSl b:=by exact fun _ _=>rfl):VE X (.Subscript a b pos) (e2 dGet fd fk):=by
 obtain⟨t,p,g⟩:=ha;obtain⟨t2,p2,g2⟩:=hb;refine⟨_,znE hu p p2 hs,?_⟩;intro Hz Jz O ρ σ H J d Q s e w;obtain⟨x,ex,eA⟩:=bind_some e;obtain⟨y,ey,eB⟩:=bind_some eA;refine g Hz Jz O ρ σ H J x _ s ex fun v1 H1 J1 u1 r1=>?_
 refine g2 Hz Jz O ρ σ H1 J1 y _ (s.up u1) ey fun v2 H2 J2 u2 r2=>?_
 cases x with
 | dct ks ds=>
   obtain⟨j,ej,eC⟩:=bind_some (show((keyD y).bind fun j=>dLook ks ds j)=some d from eB);obtain⟨q,kvs,vs,rfl,h1,h2,h3,rl⟩:=(r1.up u2).dct;subst h3;obtain⟨v,hv,rv⟩:=zga h2 rl eC;refine⟨q,v,rfl,?_,w v H2 J2 (u1.trans u2) rv⟩;rw[zgZ r2 ej,<-hv];exact DGet.k h1
 | _=>cases eB
end
section
variable {X:Cx}{K:W.Frag}{a b c e:Expr}{es:List Expr}{fa fb:FX}{fe fk fv:FE}{fl:FA}{pos p p2:Pos}
theorem ST.top2 {Hz H:Hp}{Jz J:Addr->Prop}{O:Pr}{ρ:En}{σ:L2.St}{i j:Nat}{ds es:List D}(s:ST K Hz Jz O ρ σ H J)(h0:ownD (ρ[i]?)=some (2,.lst ds))(hj:ds[j]?=some (.lst es)):∃a vs b us,σ[i]?=some (some (.ref a))/\H a=some (.lst vs)/\vs.length=ds.length/\vs[j]?=some (.ref b)/\H b=some (.lst us)/\RpL K H J us es/\
 (∀(us':List V) (es':List D),RpL K H J us' es'->ST K Hz Jz O (setO ρ i (.lst (ds.set j (.lst es')))) σ (upd H b (.lst us')) J/\Keep K H J (upd H b (.lst us')) J)/\
 (∀(H':Hp) (J':Addr->Prop) (q:Addr) (us':List V) (es':List D),Up H J H' J'->H q=none->¬J' q->H' q=some (.lst us')->RpL K H' J' us' es'->ST K Hz Jz O (setO ρ i (.lst (ds.set j (.lst es')))) σ (upd H' a (.lst (vs.set j (.ref q)))) J'/\Keep K H J (upd H' a (.lst (vs.set j (.ref q)))) J'):=by
 obtain⟨v,A,hv,r,nd,nj,go⟩:=s.chg h0;cases r with
 | lst ha rl=>
   rename_i a vs A
   obtain⟨w,A1,A2,A3,hw,rfl,rw',up⟩:=rl.split j hj;obtain⟨b,us,rfl,rfl,hb,ru⟩:=rw'.one;have hab:a≠b:=by
    rintro rfl;have:=(waK.mp nd).1
    exact this (by simp)
   have ndA:=(waK.mp nd).2
   have naA:=(waK.mp nd).1
   have hb13:∀x∈A1++A3,x≠b:=by
    intro x hx z;subst z;rw[wbl] at ndA;obtain⟨n1,n2,n3⟩:=ndA;rw[wcv,waK] at n2;rcases waC.mp hx with h | h
    ·exact n3 x h x (by simp) rfl
    ·exact n2.1 h
   refine⟨a,vs,b,us,hv,ha,rl.length,hw,hb,ru,fun us' es' re=>?_,fun H' J' q us' es' u hq njq hq' re=>?_⟩
   ·have nja:¬J b:=nj b (by simp)
    have kp:Keep K H J (upd H b (.lst us')) J:=zcb hb nja
    refine go (upd H b (.lst us')) J (.lst (ds.set j (.lst es'))) (a::(A1++([b]++A3))) (fun c o hc h=>?_) (fun c h=>?_) (fun _ h=>h) (fun _ h=>.inl h) (fun c h=>?_) ?_ nd nj (fun c hc=>.inl hc)
    ·rw[zak (fun z=>hc (by simp[z]))];exact h
    ·by_cases z:c=b
     ·subst z;rw[zah];simp
     ·rw[zak z];exact h
    ·by_cases z:c=b
     ·subst z;rw[zah];simp
     ·rw[zak z];exact s.ja c h
    ·have vset:vs.set j (V.ref b)=vs:=by
      apply List.ext_getElem?;intro k;by_cases hk:k=j
      ·subst hk;rw[hw,wat (wab.mp hw).1]
      ·rw[wai (Ne.symm hk)]
     have:=up (upd H b (.lst us')) J (.ref b) (.lst es') [b] kp (fun c hc o ho=>by rw[zak (hb13 c hc)];exact ho) (.lst zah (RpUL.of (re.keep kp)))
     rw[vset] at this;exact .lst (by rw[zak hab];exact ha) this
   ·have haH':=u.same _ _ ha
    have hqa:q≠a:=by rintro rfl;rw[ha] at hq;cases hq
    have nja:¬J' a:=fun z=>by
     rcases u.jn a z with z | z
     ·exact nj a (by simp) z
     ·rw[ha] at z;cases z
    have kp:Keep K H' J' (upd H' a (.lst (vs.set j (.ref q)))) J':=zcb haH' nja
    have qfree:∀c∈a::(A1++([b]++A3)),c≠q:=by
     intro c hc z;subst z;rcases was.mp hc with rfl | hc
     ·rw[ha] at hq;cases hq
     ·obtain⟨o,e,_⟩:=rl.some c hc;rw[hq] at e;cases e
    refine(go (upd H' a (.lst (vs.set j (.ref q)))) J' (.lst (ds.set j (.lst es'))) (a::(A1++([q]++A3))) (fun c o hc h=>?_) (fun c h=>?_) u.jj u.jn (fun c h=>?_) ?_ ?_ (fun c hc=>?_) (fun c hc=>?_))
    ·rw[zak (fun z=>hc (by simp[z]))];exact u.same _ _ h
    ·by_cases z:c=a
     ·subst z;rw[zah];simp
     ·rw[zak z];cases e:H c with
      | none=>exact absurd e h
      | some o=>rw[u.same _ _ e];simp
    ·by_cases z:c=a
     ·subst z;rw[zah];simp
     ·rw[zak z];exact u.ja c h
    ·have:=up (upd H' a (.lst (vs.set j (.ref q)))) J' (.ref q) (.lst es') [q] (u.keep.trans kp) (fun c hc o ho=>by
      rw[zak (fun z=>naA (by rw[<-z];simp at hc⊢;rcases hc with hc | hc <;> simp[hc]))];exact u.same _ _ ho) (.lst (by rw[zak hqa];exact hq') (RpUL.of (re.keep kp)))
     exact .lst zah this
    ·have h1:q∉a::(A1++([b]++A3)):=fun z=>qfree q z rfl
     rw[wbl] at ndA;obtain⟨n1,n2,n3⟩:=ndA;rw[wcv,waK] at n2;simp only[was,waC,not_or,waf] at h1;refine waK.mpr ⟨?_,wbl.mpr ⟨n1,?_,?_⟩⟩
     ·simp only[waC,waf,not_or] at naA⊢;exact⟨naA.1,fun z=>h1.1 z.symm,naA.2.2⟩
     ·rw[wcv];exact waK.mpr ⟨h1.2.2.2,n2.2⟩
     ·intro x hx y hy z;subst z;rcases waC.mp hy with hy | hy
      ·rw[waf.mp hy] at hx;exact h1.2.1 hx
      ·exact n3 x hx x (by simp[hy]) rfl
    ·simp only[was,waC,List.not_mem_nil,or_false] at hc;have old:c∈a::(A1++([b]++A3))->¬J' c:=fun h z=>by
      rcases u.jn c z with z | z
      ·exact nj c h z
      ·rcases was.mp h with rfl | h
       ·rw[ha] at z;cases z
       ·obtain⟨o,e,_⟩:=rl.some c h;rw[z] at e;cases e
     rcases hc with rfl | hc | rfl | hc
     ·exact nja
     ·exact old (by simp[hc])
     ·exact njq
     ·exact old (by simp[hc])
    ·simp only[was,waC,List.not_mem_nil,or_false] at hc;rcases hc with rfl | hc | rfl | hc
     ·exact .inl (by simp)
     ·exact .inl (by simp[hc])
     ·exact .inr hq
     ·exact .inl (by simp[hc])
def eIx2 (i:Nat)(fk:FE):FE:=fun ρ=>(fk ρ).bind fun k=>(dInt k).bind fun k=>match ownD (ρ[i]?) with
 | some (2,.lst ds)=>(atI ds k).bind fun d=>match d with | .lst es=>some (.lst es) | _=>none
 | _=>none
theorem zkh (i:Nat){x:Str}{xp:Pos}(hk:VE X a fk)(hN:X.N[i]?=some x:=by rfl)(hv:Vis X.env.scope x:=by first | exact Or.inl rfl | exact Or.inr (Or.inl rfl) | exact Or.inr (Or.inr rfl))(hd:(x == ("__debug__" : Str))=false:=by decide)(hcd:(x == ("__classdict__" : Str))=false:=by decide)(hs:zeR a:=by exact fun _ _=>rfl) :
 VW X (.Subscript (.Name x xp) a pos) (eIx2 i fk):=by
 obtain⟨t,p,g⟩:=hk;refine⟨_,zlz zij (zb1 hN hv hd hcd) p hs,?_⟩;intro Hz Jz O ρ σ H J d Q s e w;obtain⟨k,e1,eA⟩:=bind_some e;obtain⟨kk,e2,eB⟩:=bind_some eA;split at eB
 ·rename_i ds z
  obtain⟨d1,e3,eC⟩:=bind_some eB;split at eC
  ·rename_i es
   cases eC;obtain⟨v,A,hv,r⟩:=s.rd z;refine⟨v,hv,?_⟩;refine g Hz Jz O ρ σ H J k _ s e1 fun vk H1 J1 u1 rk=>?_
   cases k with
   | int k0=>
     cases e2;cases rk;have r1:=r.keep u1.keep fun b _ o=>u1.same b o
     cases r1 with
     | lst ha rl=>
       unfold atI at e3;cases q:ixN ds.length kk with
       | none=>rw[q] at e3;cases e3
       | some j=>
         rw[q] at e3;obtain⟨u,A1,A2,A3,hu,_,ru,_⟩:=rl.split j e3;refine .inl ⟨_,_,kk,u,rfl,rfl,SqL.of ha,?_,w u H1 J1 u1 (.inr ⟨A2,ru⟩)⟩;unfold atI;rw[rl.length,q];exact hu
   | _=>cases e2
  ·cases eC
 ·cases eB
def zqW (i:Nat)(fk fv:FE):FS:=fun ρ=>(fk ρ).bind fun k=>(dInt k).bind fun k=>(fv ρ).bind fun d=>match ownD (ρ[i]?) with
 | some (2,.lst ds)=>(ixN ds.length k).bind fun j=>match ds[j]? with
   | some (.lst es)=>if es.length<lim then some (.nx (setO ρ i (.lst (ds.set j (.lst (es++[d])))))) else none
   | _=>none
 | _=>none
def gPut22 (i:Nat)(fk fm:FE)(f:FX):FS:=fun ρ=>(f ρ).bind fun q=>(fk q.2).bind fun k=>(dInt k).bind fun k=>(fm q.2).bind fun m=>(dInt m).bind fun m=>match ownD (q.2[i]?) with
 | some (2,.lst ds)=>(ixN ds.length k).bind fun j=>match ds[j]? with
   | some (.lst es)=>(ixN es.length m).bind fun l=>some (.nx (setO q.2 i (.lst (ds.set j (.lst (es.set l q.1))))))
   | _=>none
 | _=>none
theorem zl4 (i:Nat){x:Str}{xp sp sp2:Pos}{fm:FE}(h:VX X e fa)(hk:VE X a fk)(hm:VE X b fm)(hN:X.N[i]?=some x:=by rfl)(hv:Vis X.env.scope x:=by first | exact Or.inl rfl | exact Or.inr (Or.inl rfl) | exact Or.inr (Or.inr rfl))(hd:(x == ("__debug__" : Str))=false:=by decide)(hcd:(x == ("__classdict__" : Str))=false:=by decide)(hpi:zeR a:=by exact fun _ _=>rfl)
 (ha:∀v,assign (.Subscript (.Subscript (.Name x xp) a sp2) b sp) X.env v=(do
  let ov <-holding [v] (eval (.Subscript (.Name x xp) a sp2) X.env)
  let iv <-holding [v,ov] (eval b X.env)
  standAt sp
  holding [v,ov,iv] (setItem ov iv v)
  release [v,ov,iv] []):=by intro _;rfl)
 (hs:swapsWithSole [.Subscript (.Subscript (.Name x xp) a sp2) b sp] e pos.line X.env=pure false:=by rfl) (hw:swappedStores [.Subscript (.Subscript (.Name x xp) a sp2) b sp] e X.env=pure none:=by rfl) (h1:(assignEach [.Subscript (.Subscript (.Name x xp) a sp2) b sp] X.env).map (·.2) = [assign (.Subscript (.Subscript (.Name x xp) a sp2) b sp) X.env]:=by rfl) :
 VS X (.Assign [.Subscript (.Subscript (.Name x xp) a sp2) b sp] e pos) (gPut22 i fk fm fa):=by
 obtain⟨t,p,q⟩:=h;obtain⟨tk,pk,qk⟩:=hk;obtain⟨tm,pm,qm⟩:=hm;refine⟨_,zjt p (zmM (zlz zij (zb1 hN hv hd hcd) pk hpi) pm zik ha) hs hw h1,fun Hz Jz O ρ σ H J o E s e w=>?_⟩;obtain⟨⟨d,ρ1⟩,e1,eA⟩:=bind_some e;obtain⟨k,e2,eB⟩:=bind_some eA;obtain⟨kk,e3,eC⟩:=bind_some eB;obtain⟨m,e4,eD⟩:=bind_some eC;obtain⟨mm,e5,eE⟩:=bind_some eD;refine q Hz Jz O ρ σ H J d ρ1 _ s e1 fun v H1 J1 s1 k1 r1=>?_
 split at eE
 ·rename_i ds z
  obtain⟨j,e6,eF⟩:=bind_some eE;split at eF
  ·rename_i es ze
   obtain⟨l,e7,eG⟩:=bind_some eF;cases eG;obtain⟨v0,A0,hv0,r0⟩:=s1.rd z;refine⟨v0,hv0,?_⟩;refine qk Hz Jz O ρ1 σ H1 J1 k _ s1 e2 fun vk H2 J2 u2 rk=>?_
   cases k with
   | int k0=>
     cases e3;cases rk;have s2:=s1.up u2
     obtain⟨a1,vs1,b1,us1,ha1,hA1,hl1,hj1,hb1,ru1,_,_⟩:=s2.top2 z ze;rw[hv0] at ha1;cases ha1;refine .inl ⟨a1,vs1,kk,.ref b1,rfl,rfl,SqL.of hA1,by unfold atI;rw[hl1,e6];exact hj1,?_⟩;refine qm Hz Jz O ρ1 σ H2 J2 m _ s2 e4 fun vm H3 J3 u3 rm=>?_
     cases m with
     | int m0=>
       cases e5;cases rm;have s3:=s2.up u3
       obtain⟨a2,vs2,b2,us2,ha2,hA2,hl2,hj2,hb2,ru2,go,_⟩:=s3.top2 z ze;rw[hv0] at ha2;cases ha2;have hA12:=u3.same _ _ hA1
       rw[hA2] at hA12;cases hA12;rw[hj2] at hj1;cases hj1;refine⟨b1,us2,mm,l,rfl,rfl,hb2,by rw[ru2.length];exact e7,?_⟩;have u:=u2.trans u3
       obtain⟨s4,k4⟩:=go (us2.set l v) (es.set l d) (ru2.set l (r1.keep u.keep));exact w σ _ J3 s4 ((k1.trans u.keep).trans k4)
     | _=>cases e5
   | _=>cases e3
  ·cases eF
 ·cases eE
end
section
variable {X:Cx}{K:W.Frag}{elt iter tg:Expr}{ifs:List Expr}{scope:Scope}{pos:Pos}{NC:List Str}
end
section
variable {X:Cx}{K:W.Frag}{H H' H1 H2 Hz:Hp}{J J' J1 J2 Jz:Addr->Prop}{ρ ρ' ρ2:En}{σ σ2:L2.St}{O:Pr}{fp:Nat->List Addr}
def zpM:SV->Bool
 | .own _ _=>true
 | _=>false
def zfG (ρ:En):Bool:=ρ.all fun s=>!zpM s
theorem zki (h:zfG ρ=true)(i n:Nat)(d:D):ρ[i]?≠some (.own n d):=fun e=>by
 have:=waF.mp h _ (wal e)
 cases this
theorem ST.re (s:ST K Hz Jz O ρ σ H J)(w:Ow K Hz O ρ σ H J fp)(no:zfG ρ=true):ST K H J ⟨O.ps,fp⟩ ρ σ H J where
 same:=fun _ _ _ h=>h
 j0:=fun _ h=>h
 jn:=fun _ h=>.inl h
 ja:=s.ja
 len:=s.len
 vl:=s.vl
 ow:=⟨fp,fun i=>by
  have q:=w.at' i
  match z:ρ[i]?,q with
  | some (.own n d),_=>exact absurd z (zki no i n d)
  | some (.par n d),q=>exact⟨q.1,fun b hb=>.inr hb⟩
  | none,q=>exact q
  | some .un,q=>exact q
  | some (.val _),q=>exact q,w.nd,w.nj,w.dj⟩
 ps:=s.ps
 al:=fun _ h=>h
theorem Ow.free (s:ST K Hz Jz O ρ σ H J)(w:Ow K Hz O ρ σ H J fp)(i:Nat):∀b∈fp i,Hz b=none\/b∈O.fpo i:=fun b hb=>by
 have q:=w.at' i
 match z:ρ[i]?,q with
 | some (.own n d),q=>exact .inl (q.2 b hb)
 | some (.par n d),q=>exact q.2 b hb
 | none,q=>rw[show fp i = [] from q] at hb;cases hb
 | some .un,q=>rw[show fp i = [] from q] at hb;cases hb
 | some (.val _),q=>rw[show fp i = [] from q] at hb;cases hb
theorem ST.back (s:ST K Hz Jz O ρ σ H J){b:Addr}(h:H b=none):Hz b=none:=by
 cases e:Hz b with
 | none=>rfl
 | some o=>exact absurd h (s.al b (by rw[e];simp))
theorem Ow.trans {fp2:Nat->List Addr}(s:ST K Hz Jz O ρ σ H J)(w:Ow K Hz O ρ σ H J fp)(w2:Ow K H ⟨O.ps,fp⟩ ρ2 σ2 H2 J2 fp2):Ow K Hz O ρ2 σ2 H2 J2 fp2:=
 ⟨fun i=>by
  have q:=w2.at' i
  match z:ρ2[i]?,q with
  | some (.own n d),q=>exact⟨q.1,fun b hb=>s.back (q.2 b hb)⟩
  | some (.par n d),q=>
    refine⟨q.1,fun b hb=>?_⟩;rcases q.2 b hb with h | h
    ·exact .inl (s.back h)
    ·exact w.free s i b h
  | none,q=>exact q
  | some .un,q=>exact q
  | some (.val _),q=>exact q,w2.nd,w2.nj,w2.dj⟩
theorem ST.trans (s:ST K Hz Jz O ρ σ H J)(w:Ow K Hz O ρ σ H J fp)(s2:ST K H J ⟨O.ps,fp⟩ ρ2 σ2 H2 J2):ST K Hz Jz O ρ2 σ2 H2 J2 where
 same:=fun b o hb h=>s2.same b o (fun⟨i,hi⟩ =>by
  rcases w.free s i b hi with h' | h'
  ·rw[h'] at h;cases h
  ·exact hb ⟨i,h'⟩) (s.same b o hb h)
 j0:=fun a h=>s2.j0 a (s.j0 a h)
 jn:=fun a h=>by
  rcases s2.jn a h with h | h
  ·exact s.jn a h
  ·exact .inr (s.back h)
 ja:=s2.ja
 len:=s2.len
 vl:=s2.vl
 ow:=let ⟨fp2,w2⟩:=s2.ow;⟨fp2,w.trans s w2⟩
 ps:=s2.ps
 al:=fun b h=>s2.al b (s.al b h)
def zi4:Option SV->SV
 | some (.val d)=>.val d
 | some (.own n d)=>.par n d
 | some (.par n d)=>.par n d
 | _=>.un
def zg0 (ρ:En)(fr:List (Option Nat)):En:=fr.map fun o=>match o with
 | none=>.un
 | some j=>zi4 (ρ[j]?)
def psB (ρ:En)(σ:L2.St)(fr:List (Option Nat)):List (Nat×Addr×Nat):=(List.range fr.length).filterMap fun k=>match fr[k]? with
 | some (some j)=>psAt k (some ((ownD (ρ[j]?)).map (·.1))) ((σ[j]?).join)
 | _=>none
def fpB (fp:Nat->List Addr)(fr:List (Option Nat)):Nat->List Addr:=fun k=>match fr[k]? with
 | some (some j)=>fp j
 | _=>[]
theorem zg1:∀{fr:List (Option Nat)}{k l j:Nat},(fr.filterMap id).Nodup->fr[k]?=some (some j)->fr[l]?=some (some j)->k=l
 | none::fr,0,_,_,_,h,_=>by simp at h
 | none::fr,k+1,0,_,_,_,h=>by simp at h
 | none::fr,k+1,l+1,j,nd,h1,h2=>by rw[zg1 (fr:=fr) (k:=k) (l:=l) (j:=j) (by simpa using nd) (by simpa using h1) (by simpa using h2)]
 | some x::fr,0,0,_,_,_,_=>rfl
 | some x::fr,0,l+1,j,nd,h1,h2=>by
   simp at h1;subst h1;have:x∈fr.filterMap id:=wbo.mpr ⟨some x,wal (by simpa using h2),rfl⟩
   simp at nd this;exact absurd this nd.1
 | some x::fr,k+1,0,j,nd,h1,h2=>by
   simp at h2;subst h2;have:x∈fr.filterMap id:=wbo.mpr ⟨some x,wal (by simpa using h1),rfl⟩
   simp at nd this;exact absurd this nd.1
 | some x::fr,k+1,l+1,j,nd,h1,h2=>by
   rw[zg1 (fr:=fr) (k:=k) (l:=l) (j:=j) (by have:=nd;simp at this;simpa using this.2) (by simpa using h1) (by simpa using h2)]
 | [],_,_,_,_,h,_=>by simp at h
theorem ze2 {fr:List (Option Nat)}{k:Nat}:(zg0 ρ fr)[k]?=match fr[k]? with
 | some none=>some .un
 | some (some j)=>some (zi4 (ρ[j]?))
 | none=>none:=by
 unfold zg0;rw[wag];cases fr[k]? with
 | none=>rfl
 | some o=>cases o <;> rfl
theorem zez {fr:List (Option Nat)}{k j:Nat}(h:fr[k]?=some (some j)):(pick σ fr)[k]?=some ((σ[j]?).join):=by
 unfold pick;rw[wag,h];rfl
theorem ST.block {fr:List (Option Nat)}(s:ST K Hz Jz O ρ σ H J)(w:Ow K Hz O ρ σ H J fp)(hi:(fr.filterMap id).Nodup):ST K H J ⟨psB ρ σ fr,fpB fp fr⟩ (zg0 ρ fr) (L2.pick σ fr) H J where
 same:=fun _ _ _ h=>h
 j0:=fun _ h=>h
 jn:=fun _ h=>.inl h
 ja:=s.ja
 al:=fun _ h=>h
 len:=by rw[ziu];simp[zg0]
 vl:=fun k d h=>by
  rw[ze2] at h;cases z:fr[k]? with
  | none=>rw[z] at h;cases h
  | some o=>
    rw[z] at h;cases o with
    | none=>cases h
    | some j=>
      simp only[Option.some.injEq] at h;cases y:ρ[j]? with
      | none=>rw[y] at h;cases h
      | some x=>
        rw[y] at h;cases x with
        | val d'=>
          cases h;obtain⟨v,hv,r⟩:=s.vl j d y;refine⟨v,?_,r⟩;rw[zez z,hv];rfl
        | _=>cases h
 ow:=by
  refine⟨fpB fp fr,fun k=>?_,fun k=>?_,fun k b hb=>?_,fun k l ne b hb hb2=>?_⟩
  ·rw[ze2];show OwAt K H H J (fpB fp fr k) _ (fpB fp fr k) _
   cases z:fr[k]? with
   | none=>rw[show fpB fp fr k = [] by unfold fpB;rw[z]];rfl
   | some o=>
     cases o with
     | none=>rw[show fpB fp fr k = [] by unfold fpB;rw[z]];rfl
     | some j=>
       rw[show fpB fp fr k=fp j by unfold fpB;rw[z]];show OwAt K H H J (fp j) ((L2.pick σ fr)[k]?) (fp j) (some (zi4 (ρ[j]?)))
       have q:=w.at' j
       match y:ρ[j]?,q with
       | some (.own n d),q=>
         obtain⟨⟨v,e,r⟩,_⟩:=q;exact⟨⟨v,by rw[zez z,e];rfl,r⟩,fun b hb=>.inr hb⟩
       | some (.par n d),q=>
         obtain⟨⟨v,e,r⟩,_⟩:=q;exact⟨⟨v,by rw[zez z,e];rfl,r⟩,fun b hb=>.inr hb⟩
       | none,q=>exact q
       | some .un,q=>exact q
       | some (.val _),q=>exact q
  ·unfold fpB;split
   ·exact w.nd _
   ·exact wba
  ·unfold fpB at hb;split at hb
   ·exact w.nj _ b hb
   ·cases hb
  ·unfold fpB at hb hb2;split at hb
   ·rename_i j hj
    split at hb2
    ·rename_i j' hj'
     by_cases e:j=j'
     ·subst e;exact ne (zg1 hi hj hj')
     ·exact w.dj j j' e b hb hb2
    ·cases hb2
   ·cases hb
 ps:=fun q hq=>by
  unfold psB at hq;obtain⟨k,_,h⟩:=wbo.mp hq;split at h
  ·rename_i j hj
   unfold psAt at h;split at h
   ·rename_i n a h1 h2
    cases h;refine⟨by rw[zez hj,h2],?_⟩;rw[ze2,hj];have h1':(ownD (ρ[j]?)).map (·.1)=some n:=by simpa using h1
    match y:ρ[j]?,h1' with
    | some (.own m d),h1'=>cases h1';exact⟨d,by show some (zi4 (ρ[j]?))=_;rw[y];rfl⟩
    | some (.par m d),h1'=>cases h1';exact⟨d,by show some (zi4 (ρ[j]?))=_;rw[y];rfl⟩
   ·cases h
  ·cases h
def ownP (s:Option SV):Bool:=match ownD s with
 | some (_+1,_)=>true
 | _=>false
theorem zkj {s:Option SV}(h:ownP s=true):∃n d,ownD s=some (n+1,d):=by
 unfold ownP at h;split at h
 ·rename_i n d e;exact⟨n,d,e⟩
 ·cases h
def zbK:List (Option Nat)->En->En->En
 | none::fr,_::B,ρ=>zbK fr B ρ
 | some j::fr,.par _ d::B,ρ=>zbK fr B (if ownP (ρ[j]?)=true then setO ρ j d else ρ)
 | some _::fr,_::B,ρ=>zbK fr B ρ
 | _,_,ρ=>ρ
theorem ziy {i:Nat}{d:D}:(setO ρ i d).length=ρ.length:=by simp[setO]
theorem zcj:∀(fr:List (Option Nat)) (B ρ:En),(zbK fr B ρ).length=ρ.length
 | none::fr,_::B,ρ=>zcj fr B ρ
 | some j::fr,s::B,ρ=>by
   cases s with
   | par n d=>
     show(zbK fr B _).length=_
     rw[zcj fr B];split
     ·exact ziy
     ·rfl
   | un=>exact zcj fr B ρ
   | val _=>exact zcj fr B ρ
   | own _ _=>exact zcj fr B ρ
 | [],_,_=>by simp[zbK]
 | none::_,[],_=>by simp[zbK]
 | some _::_,[],_=>by simp[zbK]
theorem zcv:∀(fr:List (Option Nat)) (B ρ:En) (j:Nat),(∀k:Nat,fr[k]?≠some (some j))->(zbK fr B ρ)[j]?=ρ[j]?
 | none::fr,_::B,ρ,j,h=>zcv fr B ρ j fun k=>by simpa using h (k+1)
 | some i::fr,s::B,ρ,j,h=>by
   have hij:j≠i:=fun z=>h 0 (by simp[z])
   have h':∀k:Nat,fr[k]?≠some (some j):=fun k=>by simpa using h (k+1)
   cases s with
   | par n d=>
     show(zbK fr B _)[j]?=_
     rw[zcv fr B _ j h'];split
     ·exact zbU hij
     ·rfl
   | un=>exact zcv fr B ρ j h'
   | val _=>exact zcv fr B ρ j h'
   | own _ _=>exact zcv fr B ρ j h'
 | [],_,_,_,_=>by simp[zbK]
 | none::_,[],_,_,_=>by simp[zbK]
 | some _::_,[],_,_,_=>by simp[zbK]
theorem zc0:∀(fr:List (Option Nat)) (B ρ:En) (j k n:Nat) (d:D),(fr.filterMap id).Nodup->fr[k]?=some (some j)->B[k]?=some (.par n d)->ownP (ρ[j]?)=true->(zbK fr B ρ)[j]?=some (putD (ρ[j]?) d)
 | none::fr,_::B,ρ,j,0,n,d,_,h,_,_=>by simp at h
 | none::fr,_::B,ρ,j,k+1,n,d,nd,h,hB,ho=>zc0 fr B ρ j k n d (by simpa using nd) (by simpa using h) (by simpa using hB) ho
 | some i::fr,s::B,ρ,j,0,n,d,nd,h,hB,ho=>by
   simp at h hB;subst h;subst hB;show(zbK fr B (if ownP (ρ[i]?)=true then setO ρ i d else ρ))[i]?=_
   rw[if_pos ho,zcv fr B _ i]
   ·have hi:i<ρ.length:=by
     obtain⟨m,e,hm⟩:=zkj ho;exact zkg hm
    unfold setO;exact wat hi
   ·intro k hk;have:=zg1 (k:=0) (l:=k+1) (j:=i) nd (by simp) (by simpa using hk)
    omega
 | some i::fr,s::B,ρ,j,k+1,n,d,nd,h,hB,ho=>by
   have hij:j≠i:=fun z=>by
    have:=zg1 (k:=0) (l:=k+1) (j:=j) nd (by simp[z]) h
    omega
   have nd':(fr.filterMap id).Nodup:=by have:=nd;simp at this;simpa using this.2
   cases s with
   | par m e=>
     show(zbK fr B (if ownP (ρ[i]?)=true then setO ρ i e else ρ))[j]?=_
     have e1:(if ownP (ρ[i]?)=true then setO ρ i e else ρ)[j]?=ρ[j]?:=by
      split
      ·exact zbU hij
      ·rfl
     rw[zc0 fr B _ j k n d nd' (by simpa using h) (by simpa using hB) (by rw[e1];exact ho),e1]
   | un=>exact zc0 fr B ρ j k n d nd' (by simpa using h) (by simpa using hB) ho
   | val _=>exact zc0 fr B ρ j k n d nd' (by simpa using h) (by simpa using hB) ho
   | own _ _=>exact zc0 fr B ρ j k n d nd' (by simpa using h) (by simpa using hB) ho
 | [],_,_,_,_,_,_,_,h,_,_=>by simp at h
 | _::_,[],_,_,_,_,_,_,_,hB,_=>by simp at hB
theorem zc1:∀(fr:List (Option Nat)) (B ρ:En) (j:Nat),ownP (ρ[j]?)=false->(zbK fr B ρ)[j]?=ρ[j]?
 | none::fr,_::B,ρ,j,h=>zc1 fr B ρ j h
 | some i::fr,s::B,ρ,j,h=>by
   cases s with
   | par n d=>
     show(zbK fr B (if ownP (ρ[i]?)=true then setO ρ i d else ρ))[j]?=_
     have e1:(if ownP (ρ[i]?)=true then setO ρ i d else ρ)[j]?=ρ[j]?:=by
      split
      ·rename_i z
       exact zbU fun e=>by rw[e,z] at h;cases h
      ·rfl
     rw[zc1 fr B _ j (by rw[e1];exact h),e1]
   | un=>exact zc1 fr B ρ j h
   | val _=>exact zc1 fr B ρ j h
   | own _ _=>exact zc1 fr B ρ j h
 | [],_,_,_,_=>by simp[zbK]
 | none::_,[],_,_,_=>by simp[zbK]
 | some _::_,[],_,_,_=>by simp[zbK]
theorem ST.atO {D:Addr}{ys:List V}{o:HO}(s:ST K Hz Jz O ρ σ H J)(w:Ow K Hz O ρ σ H J fp)(hD:H D=some (.lst ys))(nj:¬J D)(h0:Hz D=none)(nf:∀i,D∉fp i):ST K Hz Jz O ρ σ (upd H D o) J/\Ow K Hz O ρ σ (upd H D o) J fp:=by
 have w':Ow K Hz O ρ σ (upd H D o) J fp:=⟨fun i=>(w.at' i).keep (zcb hD nj) fun b hb o' ho=>by rw[zak (show b≠D from fun z=>nf i (z▸hb))];exact ho,w.nd,w.nj,w.dj⟩
 refine⟨⟨fun b u hb h=>?_,s.j0,s.jn,fun a h=>?_,s.len,fun i d h=>let ⟨v,e,r⟩:=s.vl i d h;⟨v,e,r.keep (zcb hD nj)⟩,⟨fp,w'⟩,s.ps,fun a h=>?_⟩,w'⟩
 ·rw[zak (show b≠D from fun z=>by rw[z,h0] at h;cases h)];exact s.same b u hb h
 ·by_cases e:a=D
  ·subst e;rw[zah];simp
  ·rw[zak e];exact s.ja a h
 ·by_cases e:a=D
  ·subst e;rw[zah];simp
  ·rw[zak e];exact s.al a h
theorem Ow.up (s:ST K Hz Jz O ρ σ H J)(w:Ow K Hz O ρ σ H J fp)(u:Up H J H' J'):Ow K Hz O ρ σ H' J' fp:=by
 refine⟨fun i=>(w.at' i).keep u.keep fun b _=>u.same b,w.nd,fun i b hb j=>?_,w.dj⟩;rcases u.jn b j with j | j
 ·exact w.nj i b hb j
 ·obtain⟨o,e,_⟩:=(w.at' i).ru b hb;rw[e] at j;cases j
theorem zn4 {fr:List (Option Nat)}{k j n:Nat}{a:Addr}{d:D}(hk:fr[k]?=some (some j))(ho:ownD (ρ[j]?)=some (n,d))(hs:σ[j]?=some (some (.ref a))):(k,a,n)∈psB ρ σ fr:=by
 unfold psB;refine wbo.mpr ⟨k,wbd.mpr (wab.mp hk).1,?_⟩;rw[hk];show psAt k (some ((ownD (ρ[j]?)).map (·.1))) ((σ[j]?).join)=_
 rw[ho,hs];rfl
end
def TXof (K:W.Frag)(f:FX):TE:=fun σ H Q=>∃Hz Jz O ρ J d ρ',ST K Hz Jz O ρ σ H J/\f ρ=some (d,ρ')/\∀v H' J',ST K Hz Jz O ρ' σ H' J'->Keep K H J H' J'->Rp K H' J' v d->Q v H'
def zn5 (K:W.Frag)(f:FTX):TT:=fun σ H Q=>∃Hz Jz O ρ J b ρ',ST K Hz Jz O ρ σ H J/\f ρ=some (b,ρ')/\∀H' J',ST K Hz Jz O ρ' σ H' J'->Keep K H J H' J'->Q b H'
theorem VX.of {X:Cx}{e:Expr}{f:FX}(h:VX X e f):PE X e (TXof X.K f):=by
 obtain⟨t,p,g⟩:=h;rintro pins s σ H Q I ⟨Hz,Jz,O,ρ,J,d,ρ',s1,e1,w⟩;exact p pins s σ H Q I (g Hz Jz O ρ σ H J d ρ' Q s1 e1 w)
def xtTrue:FTX:=fun ρ=>some (true,ρ)
def VTsX (X:Cx)(ifs:List Expr)(f:FTX):Prop:=PTs X ifs (zn5 X.K f)
theorem zl5 {X:Cx}:VTsX X [] xtTrue:=by
 rintro pins s σ H Q I ⟨Hz,Jz,O,ρ,J,d,ρ',s1,e1,w⟩;cases e1;exact zjL pins s σ H Q I (w H J s1 Keep.refl)
def zcI (g:FG)(t:FTX)(e:FX):List D->En->Option (List D×En)
 | [],ρ=>some ([],ρ)
 | d::r,ρ=>if zfG ρ=true then(g d ρ).bind fun ρ1=>(t ρ1).bind fun q=>if q.1 then(e q.2).bind fun x=>(zcI g t e r x.2).bind fun y=>some (x.1::y.1,y.2) else zcI g t e r q.2 else none
def zg2 (fr:List (Option Nat))(fi:FAX)(g:FG)(t:FTX)(e:FX):FR:=fun ρ=>(fi ρ).bind fun q=>(zcI g t e q.1 (zg0 q.2 fr)).bind fun r=>if r.1.length<=lim then some (.new 1 (.lst r.1),zbK fr r.2 q.2) else none
section
variable {X:Cx}{K:W.Frag}
theorem ziz {fr:List (Option Nat)}{wi:TI}{fi:FAX}{g:FG}{ft:FTX}{fe:FX}(hi:GoIX K wi fi)(hin:(fr.filterMap id).Nodup) :
 GoR K (zgJ fr wi (TGof K g) (zn5 K ft) (TXof K fe)) (zg2 fr fi g ft fe):=by
 intro Hz Jz O ρ σ H J rr ρ' Q s e w;obtain⟨⟨ds,ρ1⟩,e1,eA⟩:=bind_some e;obtain⟨⟨out,ρe⟩,e2,eB⟩:=bind_some eA;have eB:(if out.length<=lim then some (RV.new 1 (.lst out),zbK fr ρe ρ1) else none)=some (rr,ρ'):=eB
 have e2:zcI g ft fe ds (zg0 ρ1 fr)=some (out,ρe):=e2
 by_cases hl:out.length<=lim
 ·rw[if_pos hl] at eB;cases eB;refine hi Hz Jz O ρ σ H J ds ρ1 _ s e1 fun I H1 J1 s1 k1 src=>?_
  intro Da hD;have hD0:Hz Da=none:=s1.back hD
  have nJ1:¬J1 Da:=fun j=>s1.ja Da j hD
  obtain⟨fp,ow1⟩:=s1.ow;have nfp:∀j,Da∉fp j:=fun j hj=>by
   obtain⟨o,eo,_⟩:=(ow1.at' j).ru Da hj;rw[hD] at eo;cases eo
  have un:=Up.new s1.ja hD (.lst [])
  have sB:=s1.block (fr:=fr) ow1 hin
  have sB0:=sB.up un
  refine⟨fun i m ys σ2 H2=>m=ds.length - i/\i<=ds.length/\∃J2 ρ2 fp2 dn rs,ST K H1 J1 ⟨psB ρ1 σ fr,fpB fp fr⟩ ρ2 σ2 H2 J2/\Ow K H1 ⟨psB ρ1 σ fr,fpB fp fr⟩ ρ2 σ2 H2 J2 fp2/\(∀k,Da∉fp2 k)/\Keep K H1 J1 H2 J2/\¬J2 Da/\RpL K H2 J2 ys dn/\out=dn++rs/\zcI g ft fe (ds.drop i) ρ2=some (rs,ρe),⟨ds.length,by simp,wbj _,?_⟩,?_⟩
  ·obtain⟨fpz,owz⟩:=sB.ow;have nz:∀k,Da∉fpz k:=fun k hk=>by
    obtain⟨o,eo,_⟩:=(owz.at' k).ru Da hk;rw[hD] at eo;cases eo
   exact⟨J1,zg0 ρ1 fr,fpz,[],out,sB0,owz.up sB un,nz,un.keep,nJ1,.nil,rfl,by simpa using e2⟩
  ·rintro i m ys σ2 H2 ⟨rfl,hil,J2,ρ2,fp2,dn,rs,s2,w2,nf2,k2,nj2,r2,eo,ec⟩ hys;obtain⟨stop,turn⟩:=src H2 J2 k2 s2.ja;by_cases hlt:i<ds.length
   ·right
    have hd:ds[i]?=some ds[i]:=waa hlt
    generalize hdd:ds[i]=d at hd;obtain⟨go,yl⟩:=turn i d hd;have edrop:ds.drop i=d::ds.drop (i+1):=by rw[<-hdd];exact(wbN hlt).symm
    rw[edrop] at ec;unfold zcI at ec;by_cases hno:zfG ρ2=true
    ·rw[if_pos hno] at ec;obtain⟨ρ3,eg,ec1⟩:=bind_some ec;obtain⟨⟨ok,ρ4⟩,et,ec2⟩:=bind_some ec1;have sR:=s2.re w2 hno
     refine⟨go,fun zs σ' H'=>∃J2 ρ2 fp2 dn rs,ST K H1 J1 ⟨psB ρ1 σ fr,fpB fp fr⟩ ρ2 σ' H' J2/\Ow K H1 ⟨psB ρ1 σ fr,fpB fp fr⟩ ρ2 σ' H' J2 fp2/\(∀k,Da∉fp2 k)/\Keep K H1 J1 H' J2/\¬J2 Da/\RpL K H' J2 zs dn/\out=dn++rs/\zcI g ft fe (ds.drop (i+1)) ρ2=some (rs,ρe),fun zs σ' H' h=>⟨ds.length - (i+1),by omega,rfl,hlt,h⟩,fun xv H3 y=>?_⟩;obtain⟨J3,u3,r3⟩:=yl xv H3 y;refine⟨H2,J2,_,ρ2,J3,d,ρ3,sR.up u3,r3,eg,fun σ4 s4=>?_⟩;refine⟨H2,J2,_,ρ3,J3,ok,ρ4,s4,et,fun H5 J5 s5 k5=>?_⟩;have keepDa:∀{ρx:En}{Hx:Hp}{Jx:Addr->Prop},ST K H2 J2 ⟨psB ρ1 σ fr,fp2⟩ ρx σ4 Hx Jx->Hx Da=some (.lst ys)/\¬Jx Da/\∀fpx,Ow K H2 ⟨psB ρ1 σ fr,fp2⟩ ρx σ4 Hx Jx fpx->∀k,Da∉fpx k:=fun {ρx Hx Jx} sx=>by
      refine⟨sx.same Da _ (fun⟨k,hk⟩ =>nf2 k hk) hys,fun jx=>?_,fun fpx wx k hk=>?_⟩
      ·rcases sx.jn Da jx with h | h
       ·exact nj2 h
       ·rw[hys] at h;cases h
      ·rcases wx.free sx k Da hk with h | h
       ·rw[hys] at h;cases h
       ·exact nf2 k h
     have k25:=u3.keep.trans k5
     cases ok with
     | true=>
       have ec2:((fe ρ4).bind fun x=>(zcI g ft fe (ds.drop (i+1)) x.2).bind fun y=>some (x.1::y.1,y.2))=some (rs,ρe):=ec2
       obtain⟨⟨x,ρ5⟩,ex,ec3⟩:=bind_some ec2;obtain⟨⟨rs',ρf⟩,er,ec4⟩:=bind_some ec3;cases ec4;refine⟨fun _=>?_,fun z=>by cases z⟩;refine⟨H2,J2,_,ρ4,J5,x,ρ5,s5,ex,fun v H6 J6 s6 k6 r6=>?_⟩;obtain⟨hy6,nj6,hf6⟩:=keepDa s6;have k26:=k25.trans k6
       obtain⟨fp6,w6⟩:=s6.ow;have sT:=s2.trans w2 s6
       have wT:=w2.trans s2 w6
       have kA:Keep K H6 J6 (upd H6 Da (.lst (ys++[v]))) J6:=zcb hy6 nj6
       obtain⟨sU,wU⟩:=sT.atO wT (o:=.lst (ys++[v])) hy6 nj6 hD (hf6 fp6 w6);refine⟨hy6,?_,J6,ρ5,fp6,dn++[x],rs',sU,wU,hf6 fp6 w6,(k2.trans k26).trans kA,nj6,((r2.keep k26).append (.cons r6 .nil)).keep kA,by rw[eo];simp,er⟩;have:(dn++x::rs').length<=lim:=by rw[<-eo];exact hl
       rw[wam,waS] at this;rw[r2.length];exact wan (by omega:dn.length<lim) (wbs zeT)
     | false=>
       have ec2:zcI g ft fe (ds.drop (i+1)) ρ4=some (rs,ρe):=ec2
       refine⟨fun z=>(by cases z),fun _=>?_⟩;obtain⟨hy5,nj5,hf5⟩:=keepDa s5;obtain⟨fp5,w5⟩:=s5.ow;exact⟨hy5,J5,ρ4,fp5,dn,rs,s2.trans w2 s5,w2.trans s2 w5,hf5 fp5 w5,k2.trans k25,nj5,r2.keep k25,eo,ec2⟩
    ·rw[if_neg hno] at ec;cases ec
   ·left
    have hi':i=ds.length:=by omega
    subst hi';rw[wcz] at ec;cases ec;refine⟨stop,?_⟩;rw[waJ] at eo;subst eo;have isK:∀j,(fr.contains (some j)&&ownP (ρ1[j]?))=true->∃k n d a d',fr[k]?=some (some j)/\fr.idxOf (some j)=k/\ownD (ρ1[j]?)=some (n,d)/\σ[j]?=some (some (.ref a))/\ρe[k]?=some (.par n d')/\RpU K H2 J2 n (.ref a) d' (fp2 k)/\∀b∈fp2 k,b∈fp j\/H1 b=none:=fun j hj=>by
     rw[waj] at hj;obtain⟨n,d,ho⟩:=zkj hj.2;have hm:some j∈fr:=by simpa using hj.1
     have hlt':=List.idxOf_lt_length_of_mem hm
     have hk:fr[fr.idxOf (some j)]?=some (some j):=by rw[waa hlt',List.getElem_idxOf]
     obtain⟨v,A,hv,r⟩:=s1.rd ho;obtain⟨a,rfl⟩:=r.isRef;obtain⟨h5,d',h6⟩:=s2.ps _ (zn4 hk ho hv);have h5:σ2[fr.idxOf (some j)]?=some (some (.ref a)):=h5
     have h6:ρe[fr.idxOf (some j)]?=some (.par (n+1) d'):=h6
     have q:=w2.at' (fr.idxOf (some j))
     rw[h6] at q;obtain⟨⟨v',e',r'⟩,hb'⟩:=q;rw[h5] at e';cases e';refine⟨_,n+1,d,a,d',hk,rfl,ho,hv,h6,r',fun b hb=>?_⟩;rcases hb' b hb with h | h
     ·exact .inr h
     ·left
      have h:b∈fpB fp fr (fr.idxOf (some j)):=h
      unfold fpB at h;rw[hk] at h;exact h
    have key:=s1.chgs (ρ':=zbK fr ρe ρ1) (fp':=fun j=>if(fr.contains (some j)&&ownP (ρ1[j]?))=true then fp2 (fr.idxOf (some j)) else fp j) (is:=fun j=>fr.contains (some j)&&ownP (ρ1[j]?)) (H':=H2) (J':=J2) ow1 (zcj fr ρe ρ1) (fun j hj=>?_) (fun j hj=>?_) (fun j hj=>?_) (fun j hj=>?_) (fun j l hj hl' ne=>?_) (fun b o hb h=>s2.same b o (fun⟨k,hk⟩ =>?_) h) s2.al s2.j0 s2.jn s2.ja
    ·obtain⟨s3,ow3,k3⟩:=key;refine w (.ref Da) H2 J2 s3 (k1.trans k3) ⟨[Da],_,ow3,.lst hys (RpUL.of r2),by simp,fun b hb=>?_,fun j b hb=>?_⟩
     ·rw[waf.mp hb];exact⟨nj2,hD0⟩
     ·rw[waf.mp hb];split
      ·exact nf2 _
      ·exact nfp j
    ·refine⟨?_,if_neg (by rw[hj];simp)⟩;rw[Bool.and_eq_false_iff] at hj;rcases hj with hj | hj
     ·exact zcv fr ρe ρ1 j fun k hk=>by
       have:some j∈fr:=wal hk
       simp[this] at hj
     ·exact zc1 fr ρe ρ1 j hj
    ·obtain⟨k,n,d,a,d',h1,h2,h3,h4,h5,h6,h7⟩:=isK j hj;have hP:ownP (ρ1[j]?)=true:=(waj _ _▸hj).2
     refine⟨n,d,d',.ref a,h3,zc0 fr ρe ρ1 j k n d' hin h1 h5 hP,h4,?_,?_⟩
     ·rw[if_pos hj,h2];exact h6
     ·rw[if_pos hj,h2];exact h7
    ·rw[if_pos hj];exact w2.nd _
    ·rw[if_pos hj];exact w2.nj _
    ·rw[if_pos hj,if_pos hl'];obtain⟨k,_,_,_,_,h1,h2,_⟩:=isK j hj;obtain⟨k',_,_,_,_,h1',h2',_⟩:=isK l hl';rw[h2,h2'];exact w2.dj k k' fun z=>by
      subst z;rw[h1] at h1';cases h1';exact ne rfl
    ·have hk:b∈fpB fp fr k:=hk
     unfold fpB at hk;split at hk
     ·rename_i j hj
      have ob:=ow1.at' j
      have hown:ownP (ρ1[j]?)=true:=by
       unfold ownP;match z:ρ1[j]?,ob with
       | some (.own (n+1) d),ob=>rfl
       | some (.par (n+1) d),ob=>rfl
       | some (.own 0 d),ob=>obtain⟨⟨_,_,r⟩,_⟩:=ob;rw[r.zero.2] at hk;cases hk
       | some (.par 0 d),ob=>obtain⟨⟨_,_,r⟩,_⟩:=ob;rw[r.zero.2] at hk;cases hk
       | none,ob=>rw[show fp j = [] from ob] at hk;cases hk
       | some .un,ob=>rw[show fp j = [] from ob] at hk;cases hk
       | some (.val _),ob=>rw[show fp j = [] from ob] at hk;cases hk
      have hm:fr.contains (some j)=true:=by simpa using wal hj
      exact hb j (by show(fr.contains (some j)&&ownP (ρ1[j]?))=true;rw[hm,hown];rfl) hk
     ·cases hk
 ·rw[if_neg hl] at eB;cases eB
end
def putKD (ks:List Key)(ds:List D)(j:Key)(d:D):List Key×List D:=if ks.any (fun k=>decide (k=j))=true then(ks,(ks.zip ds).map fun p=>if p.1=j then d else p.2) else(ks++[j],ds++[d])
section
variable {X:Cx}{K:W.Frag}{a b c e:Expr}{es:List Expr}{fa fb:FX}{fe fk fv:FE}{fl:FA}{fr:FR}{pos p p2:Pos}
theorem zn6 {H:Hp}{J:Addr->Prop}{kvs:List (Key×V)}{ks:List Key}{ds:List D}{j:Key}{v:V}{d:D}(e1:kvs.map (·.1)=ks)(r:RpL K H J (kvs.map (·.2)) ds)(rv:Rp K H J v d) :
 (putK kvs j v).map (·.1)=(putKD ks ds j d).1/\RpL K H J ((putK kvs j v).map (·.2)) (putKD ks ds j d).2:=by
 have hany:(kvs.any fun kv=>decide (kv.1=j))=ks.any (fun k=>decide (k=j)):=by
  rw[<-e1,List.any_map];rfl
 unfold putK putKD;rw[hany];by_cases h:ks.any (fun k=>decide (k=j))=true
 ·rw[if_pos h,if_pos h];constructor
  ·rw[<-e1,waM];apply wbI;intro kv _;simp only[Function.comp];split <;> rfl
  ·clear h hany
   show RpL K H J ((kvs.map fun kv=>if kv.1=j then(kv.1,v) else kv).map (·.2)) ((ks.zip ds).map fun p=>if p.1=j then d else p.2)
   induction kvs generalizing ks ds with
   | nil=>subst e1;cases r;exact .nil
   | cons kv kvs ih=>
     subst e1;cases r with
     | cons h t=>
       simp only[wav,wbx];refine .cons ?_ (ih rfl t);by_cases hk:kv.1=j
       ·simp only[hk,if_true];exact rv
       ·simp only[hk,if_false];exact h
 ·rw[if_neg h,if_neg h];constructor
  ·rw[wap,e1];rfl
  ·rw[wap];exact r.append (.cons rv .nil)
theorem ST.topD {Hz H:Hp}{Jz J:Addr->Prop}{O:Pr}{ρ:En}{σ:L2.St}{i:Nat}{ks:List Key}{ds:List D}(s:ST K Hz Jz O ρ σ H J)(h0:ownD (ρ[i]?)=some (1,.dct ks ds)):∃a kvs,σ[i]?=some (some (.ref a))/\H a=some (.dK kvs)/\kvs.map (·.1)=ks/\RpL K H J (kvs.map (·.2)) ds/\
 ∀(kvs':List (Key×V)) (ks':List Key) (es:List D),kvs'.map (·.1)=ks'->RpL K H J (kvs'.map (·.2)) es->ST K Hz Jz O (setO ρ i (.dct ks' es)) σ (upd H a (.dK kvs')) J/\Keep K H J (upd H a (.dK kvs')) J:=by
 obtain⟨v,A,hv,r,nd,nj,go⟩:=s.chg h0;obtain⟨a,kvs,vs,rfl,rfl,ha,e1,e2,rl⟩:=r.oneD;subst e2;refine⟨a,kvs,hv,ha,e1,rl,fun kvs' ks' es ek re=>?_⟩;have nja:¬J a:=nj a (by simp)
 have kp:Keep K H J (upd H a (.dK kvs')) J:=zf5 (A:=[a]) (fun b hb=>by rw[waf.mp hb];exact⟨_,ha,trivial⟩) nj (fun b o hb h=>by rw[zak (fun z=>hb (by simp[z]))];exact h) (fun _ h=>h)
 refine go (upd H a (.dK kvs')) J (.dct ks' es) [a] (fun b o hb h=>?_) (fun b h=>?_) (fun _ h=>h) (fun _ h=>.inl h) (fun b h=>?_) (.dct zah ek rfl (RpUL.of (re.keep kp))) (by simp) nj (fun b hb=>.inl hb)
 ·rw[zak (fun z=>hb (by simp[z]))];exact h
 ·by_cases e:b=a
  ·subst e;rw[zah];simp
  ·rw[zak e];exact h
 ·by_cases e:b=a
  ·subst e;rw[zah];simp
  ·rw[zak e];exact s.ja b h
def gPutD (i:Nat)(fk:FE)(f:FX):FS:=fun ρ=>(f ρ).bind fun q=>(fk q.2).bind fun k=>(keyD k).bind fun k=>match ownD (q.2[i]?) with
 | some (1,.dct ks ds)=>if ks.length<lim then some (.nx (setO q.2 i (.dct (putKD ks ds k q.1).1 (putKD ks ds k q.1).2))) else none
 | _=>none
theorem zgb (i:Nat){x:Str}{xp sp:Pos}(hu:X.A.units+1<cLine)(h:VX X e fa)(hk:VE X a fk)(hN:X.N[i]?=some x:=by rfl)(hv:Vis X.env.scope x:=by first | exact Or.inl rfl | exact Or.inr (Or.inl rfl) | exact Or.inr (Or.inr rfl))(hd:(x == ("__debug__" : Str))=false:=by decide)(hcd:(x == ("__classdict__" : Str))=false:=by decide)
 (hs:swapsWith e (some (.Subscript (.Name x xp) a sp)) pos.line X.env=pure false:=by rfl):VS X (.Assign [.Subscript (.Name x xp) a sp] e pos) (gPutD i fk fa):=by
 obtain⟨t,p,q⟩:=h;obtain⟨tk,pk,qk⟩:=hk;refine⟨_,zjX hu (zb1 hN hv hd hcd) pk p hs,fun Hz Jz O ρ σ H J o E s e w=>?_⟩;obtain⟨⟨d,ρ1⟩,e1,eA⟩:=bind_some e;obtain⟨k,e2,eB⟩:=bind_some eA;obtain⟨kk,e3,eC⟩:=bind_some eB;refine q Hz Jz O ρ σ H J d ρ1 _ s e1 fun v H1 J1 s1 k1 r1=>?_
 split at eC
 ·rename_i ks ds z
  by_cases hl:ks.length<lim
  ·rw[if_pos hl] at eC;cases eC;obtain⟨a0,_,ha0,_,_,_,_⟩:=s1.topD z;refine⟨.ref a0,ha0,?_⟩;refine qk Hz Jz O ρ1 σ H1 J1 k _ s1 e2 fun vk H2 J2 u2 rk=>?_
   have s2:=s1.up u2
   obtain⟨a1,kvs,ha1,hv1,ek,rl,go⟩:=s2.topD z;rw[ha0] at ha1;cases ha1;have hkv:=zgZ (.inl rk) e3
   subst hkv;obtain⟨p1,p2⟩:=zn6 (j:=kk) ek rl (r1.keep u2.keep);obtain⟨s3,k3⟩:=go (putK kvs kk v) _ _ p1 p2;refine⟨a0,_,rfl,.inl ⟨kvs,kk,hv1,rfl,?_,rfl⟩,w σ _ J2 s3 ((k1.trans u2.keep).trans k3)⟩;have:kvs.length=ks.length:=by rw[<-ek,wao]
   rw[this];exact wan hl (wbs zeT)
  ·rw[if_neg hl] at eC;cases eC
 ·cases eC
def aRevR (f:FA):FA:=fun ρ=>(f ρ).bind fun l=>(a1Int l).bind fun j=>if 0<=j/\j<=1000000 then some (zaN 0 j.toNat).reverse else none
theorem zl6 {H:Hp}{J:Addr->Prop}(n:Nat):Src K (Itd ((n:Int) - 1) n) H J (zaN 0 n).reverse:=by
 intro H2 J2 k ja;have hl:(zaN 0 n).length=n:=by simp[zaN]
 rw[wbH,hl];refine⟨wae _,fun i d hd=>?_⟩;have hi:i<n:=by
  have:=(wab.mp hd).1
  rwa [wbH,hl] at this
 refine⟨hi,fun x H3 y=>?_⟩;obtain⟨rfl,rfl⟩:=y;rw[List.getElem?_reverse (by rw[hl];exact hi),hl] at hd;unfold zaN at hd;rw[wag,wcG (by omega)] at hd;cases hd;refine⟨J2,Up.refl ja,?_⟩;have e:(n:Int) - 1 - (i:Int)=0+((n - 1 - i:Nat):Int):=by omega
 rw[e];exact .int _
theorem zkk {tg:Expr}{pos2:Pos}(B:Blt X.mg)(ha:VA X [a] fl)(hg:Gl X "range":=by rfl)(hg2:Gl X "reversed":=by rfl)(hs:starEach [a] X.env = [(false,eval a X.env)]:=by rfl)
 (hs2:starEach [.Call (.Name "range" p) [a] [] pos] X.env = [(false,eval (.Call (.Name "range" p) [a] [] pos) X.env)]:=by rfl):VI X tg (.Call (.Name "reversed" p2) [.Call (.Name "range" p) [a] [] pos] [] pos2) (aRevR fl):=by
 obtain⟨t,p,g⟩:=ha;refine⟨_,znH hg (B.get "range") hg2 (B.get "reversed") p hs hs2,?_⟩;intro Hz Jz O ρ σ H J ds R s e w;obtain⟨l,e1,eA⟩:=bind_some e;obtain⟨j,e2,eB⟩:=bind_some eA;by_cases hj:0<=j/\j<=1000000
 ·rw[if_pos hj] at eB;cases eB;refine g Hz Jz O ρ σ H J _ _ s e1 fun vs H1 J1 u1 r1=>?_
  match l,e2,r1 with
  | [.int i],e2,r1=>
    cases e2;cases r1 with
    | cons h t=>
      cases t;cases h;have ej:j - 1=((j.toNat:Nat):Int) - 1:=by omega
      refine⟨j,rfl,by omega,by omega,?_⟩;rw[ej];exact w _ H1 J1 u1 (zl6 _)
 ·rw[if_neg hj] at eB;cases eB
def zqX:List D->Option (List D)
 | [.lst ds]=>some ds
 | _=>none
def zg3:List D->Option (List Str)
 | []=>some []
 | .str x::ds=>(zg3 ds).bind fun xs=>some (x::xs)
 | _=>none
theorem ziA {H:Hp}{J:Addr->Prop}:∀{vs:List V}{ds:List D}{xs:List Str},RpL K H J vs ds->zg3 ds=some xs->vs=xs.map V.str
 | _,_,_,.nil,e=>by cases e;rfl
 | _,d::ds,_,.cons h t,e=>by
   cases d with
   | str b=>
     obtain⟨bs,e1,e⟩:=bind_some (show((zg3 ds).bind fun bs=>some (b::bs))=some _ from e);cases e;cases h;rw[wav,ziA t e1]
   | _=>cases e
def zkl (sep:Str):D->Option D
 | .lst ds=>(zg3 ds).bind fun ts=>if ts.length<=1000/\sep.length<=1000/\ts.all (fun t=>decide (t.length<=10000))=true then some (.str (Txt.join sep ts)) else none
 | _=>none
theorem zn7 {sep:Str}{j:Nat}{cp apos cpos:Pos}(h:VW X e fe)(h1:starEach [e] X.env=(false,eval e X.env)::starEach [] X.env:=by rfl)
 (hbase:attributeBase (.Constant (.str sep) j cp) "join" X.env (eval (.Constant (.str sep) j cp) X.env)=eval (.Constant (.str sep) j cp) X.env:=by rfl)
 (hfew:((backTo cpos (starEach [e] X.env)).all (fun x=>!x.1)&&(backToKw cpos (keywordEach [] X.env)).all (fun x=>x.1.isSome)
  && decide ([e].length+([]:List Keyword).length+(if([]:List Keyword).isEmpty then 0 else 1)<30))=true:=by rfl)
 (hline:(apos.endLine == cpos.line)=true:=by rfl) (hs:starEach [e] X.env = [(false,eval e X.env)]:=by rfl):VE X (.Call (.Attribute (.Constant (.str sep) j cp) "join" apos) [e] [] cpos) (e1 (zkl sep) fe):=by
 obtain⟨t,p,g⟩:=h;refine⟨_,zqC zgt (zcr p zdr h1) hbase hfew hline hs,fun Hz Jz O ρ σ H J d Q s e w=>?_⟩;obtain⟨x,ex,eA⟩:=bind_some e;refine⟨rfl,?_⟩;refine g Hz Jz O ρ σ H J x _ s ex fun v H1 J1 u1 r1=>?_
 cases x with
 | lst ds=>
   obtain⟨ts,e2,eB⟩:=bind_some (show((zg3 ds).bind fun ts=>if ts.length<=1000/\sep.length<=1000/\ts.all (fun t=>decide (t.length<=10000))=true then some (D.str (Txt.join sep ts)) else none)=some d from eA);by_cases hc:ts.length<=1000/\sep.length<=1000/\ts.all (fun t=>decide (t.length<=10000))=true
   ·rw[if_pos hc] at eB;cases eB;obtain⟨q,vs,rfl,h1',rl⟩:=r1.lst;refine⟨sep,q,ts,10000,rfl,rfl,by rw[<-ziA rl e2];exact SqL.of h1',fun y hy=>by simpa using waF.mp hc.2.2 y hy,?_,w _ H1 J1 u1 (.str _)⟩;have h2:ts.length*10000<=1000*10000:=Nat.mul_le_mul_right _ hc.1
    have h3:ts.length*sep.length<=1000*1000:=Nat.mul_le_mul hc.1 hc.2.1
    omega
   ·rw[if_neg hc] at eB;cases eB
 | _=>cases eA
end
section
variable {X:Cx}{K:W.Frag}{a b c e:Expr}{es:List Expr}{fa fb:FX}{fe fk fv:FE}{fl:FA}{fr:FR}{pos p p2:Pos}
def isL2:Option (Nat×D)->Bool
 | some (2,.lst _)=>true
 | _=>false
theorem zn8 {x:Option (Nat×D)}(h:isL2 x=true):∃ds,x=some (2,.lst ds):=by
 match x,h with
 | some (2,.lst ds),_=>exact⟨ds,rfl⟩
def gAppN2 (i:Nat)(f:FR):FS:=fun ρ=>if isL2 (ownD (ρ[i]?))=true then(f ρ).bind fun q=>match q.1,ownD (q.2[i]?) with
 | .new 1 d,some (2,.lst ds)=>if ds.length<lim then some (.nx (setO q.2 i (.lst (ds++[d])))) else none
 | _,_=>none
 else none
theorem zl7 {i:Nat}{t:TE}(q:GoR K t fr):GoS K (zln (tBM K "list" zf0 (tVar i) (zo9 t tNil))) (gAppN2 i fr):=by
 intro Hz Jz O ρ σ H J o E s e w;unfold gAppN2 at e;by_cases h0:isL2 (ownD (ρ[i]?))=true
 ·rw[if_pos h0] at e;obtain⟨ds0,z0⟩:=zn8 h0;obtain⟨⟨r,ρ1⟩,e1,eA⟩:=bind_some e;obtain⟨v0,A0,hv0,r0⟩:=s.rd z0;have hr0:∃a vs,v0=.ref a/\H a=some (.lst vs):=by
   cases r0 with
   | lst h _=>exact⟨_,_,rfl,h⟩
  obtain⟨a,vs0,rfl,hav⟩:=hr0;refine⟨.ref a,hv0,.inl ⟨rfl,vs0,SqL.of hav⟩,?_⟩;refine q Hz Jz O ρ σ H J r ρ1 _ s e1 fun v H1 J1 s1 k1 r1=>?_
  split at eA
  ·rename_i d ds hr hz
   have hr:r=.new 1 d:=hr
   have hz:ownD (ρ1[i]?)=some (2,.lst ds):=hz
   subst hr;by_cases hl:ds.length<lim
   ·rw[if_pos hl] at eA;cases eA;obtain⟨A,fp,ow,ru,nd,hA,djA⟩:=r1;have hi:=zkg hz
    have hat:∃v,σ[i]?=some (some v)/\RpU K H1 J1 2 v (.lst ds) (fp i):=by
     have o:=ow.at' i
     match z:ρ1[i]?,hz,o with
     | some (.own _ _),hz,o=>cases hz;exact o.1
     | some (.par _ _),hz,o=>cases hz;exact o.1
    obtain⟨v1,hv1,r2⟩:=hat
    rw[hv0] at hv1;cases hv1;generalize hfi:fp i=FI at r2;cases r2 with
    | lst ha1 rl=>
      rename_i vs1 B
      refine⟨a,vs1,v,rfl,rfl,ha1,by rw[rl.length];exact wan hl (wbs zeT),?_⟩;have naJ:¬J1 a:=ow.nj i a (by rw[hfi];simp)
      have naA:a∉A:=fun h=>djA i a h (by rw[hfi];simp)
      have nd_i:(a::B).Nodup:=by rw[<-hfi];exact ow.nd i
      have hm:∀b∈[a],∃o,H1 b=some o/\MutO o:=fun b hb=>by rw[waf.mp hb];exact⟨_,ha1,trivial⟩
      have kp:Keep K H1 J1 (upd H1 a (.lst (vs1++[v]))) J1:=zcb ha1 naJ
      have rnew:RpU K (upd H1 a (.lst (vs1++[v]))) J1 2 (.ref a) (.lst (ds++[d])) (a::(B++A)):=by
       refine .lst zah ?_;have r1':RpUL K H1 J1 1 [v] [d] A:=by
        have:=RpUL.cons (n:=1) ru (RpUL.nil (K:=K) (H:=H1) (J:=J1))
        simpa using this
       refine(rl.append r1').keep kp fun b hb o ho=>?_
       rw[zak];exact ho;rintro rfl;rcases waC.mp hb with hb | hb
       ·exact(waK.mp nd_i).1 hb
       ·exact naA hb
      have key:=s1.chgsG (ρ':=setO ρ1 i (.lst (ds++[d]))) (fp':=zhG fp i (a::(B++A))) (is:=fun j=>j == i) (H':=upd H1 a (.lst (vs1++[v]))) (J':=J1) ow ziy (fun j hj=>?_) (fun j hj=>?_) (fun j hj=>?_) (fun j hj=>?_) (fun j l hj hl ne=>?_) (fun b o hb h=>?_) (fun b h=>?_) (fun _ h=>h) (fun _ h=>.inl h) (fun b h=>?_)
      ·obtain⟨s2,_,k2⟩:=key;exact w σ _ J1 s2 (k1.trans k2)
      ·have hj':j≠i:=by simpa using hj
       exact⟨zbU hj',zbB hj'⟩
      ·have hj':j=i:=by simpa using hj
       subst hj';refine⟨2,_,_,.ref a,hz,wat hi,hv0,by rw[za1];exact rnew,fun b hb=>?_⟩;rw[za1] at hb;rcases was.mp hb with rfl | hb
       ·exact .inl (by rw[hfi];simp)
       ·rcases waC.mp hb with hb | hb
        ·exact .inl (by rw[hfi];simp[hb])
        ·exact .inr ⟨(hA b hb).2,fun j=>djA j b hb⟩
      ·have hj':j=i:=by simpa using hj
       subst hj';rw[za1];refine waK.mpr ⟨fun h=>?_,wbl.mpr ⟨(waK.mp nd_i).2,nd,fun x hx y hy z=>?_⟩⟩
       ·rcases waC.mp h with h | h
        ·exact(waK.mp nd_i).1 h
        ·exact naA h
       ·subst z;exact djA _ x hy (by rw[hfi];simp[hx])
      ·have hj':j=i:=by simpa using hj
       subst hj';rw[za1];intro b hb;rcases was.mp hb with rfl | hb
       ·exact naJ
       ·rcases waC.mp hb with hb | hb
        ·exact ow.nj _ b (by rw[hfi];simp[hb])
        ·exact(hA b hb).1
      ·have hj':j=i:=by simpa using hj
       have hl':l=i:=by simpa using hl
       exact absurd (hj'.trans hl'.symm) ne
      ·rw[zak];exact h;rintro rfl;exact hb i (by simp) (by rw[hfi];simp)
      ·by_cases z:b=a
       ·subst z;rw[zah];simp
       ·rw[zak z];exact h
      ·by_cases z:b=a
       ·subst z;rw[zah];simp
       ·rw[zak z];exact s1.ja b h
   ·rw[if_neg hl] at eA;cases eA
  ·cases eA
 ·rw[if_neg h0] at e;cases e
theorem zl8 (i:Nat){x:Str}{xp apos cpos:Pos}(h:VR X e fr)(hN:X.N[i]?=some x:=by rfl)(hv:Vis X.env.scope x:=by first | exact Or.inl rfl | exact Or.inr (Or.inl rfl) | exact Or.inr (Or.inr rfl))(hd:(x == ("__debug__" : Str))=false:=by decide)
 (hcd:(x == ("__classdict__" : Str))=false:=by decide) (h1:starEach [e] X.env=(false,eval e X.env)::starEach [] X.env:=by rfl)
 (hbase:attributeBase (.Name x xp) "append" X.env (eval (.Name x xp) X.env)=eval (.Name x xp) X.env:=by rfl)
 (hfew:((backTo cpos (starEach [e] X.env)).all (fun x=>!x.1)&&(backToKw cpos (keywordEach [] X.env)).all (fun x=>x.1.isSome)
  && decide ([e].length+([]:List Keyword).length+(if([]:List Keyword).isEmpty then 0 else 1)<30))=true:=by rfl)
 (hline:(apos.endLine == cpos.line)=true:=by rfl) (hs:starEach [e] X.env = [(false,eval e X.env)]:=by rfl) (hsw:swapsWith (.Call (.Attribute (.Name x xp) "append" apos) [e] [] cpos) none pos.line X.env=pure false:=by rfl) :
 VS X (.Expr (.Call (.Attribute (.Name x xp) "append" apos) [e] [] cpos) pos) (gAppN2 i fr):=by
 obtain⟨t,p,q⟩:=h;exact⟨_,zfT (papp (zb1 hN hv hd hcd) (zcr p zdr h1) hbase hfew hline hs) hsw,zl7 q⟩
end
section
variable {X:Cx}{K:W.Frag}{fa:FX}{fr:FR}
theorem zn9 {i:Nat}{t:TE}(q:GoX K t fa):GoS K (tAsg t (zeL i)) (gSetX i fa):=by
 intro Hz Jz O ρ σ H J o E s e w;obtain⟨⟨d,ρ1⟩,e1,eA⟩:=bind_some e;have eA:(if i<ρ1.length/\isPar (ρ1[i]?)=false then some (Out.nx (ρ1.set i (.val d))) else none)=some o:=eA
 by_cases hi:i<ρ1.length/\isPar (ρ1[i]?)=false
 ·rw[if_pos hi] at eA;cases eA;exact q Hz Jz O ρ σ H J d ρ1 _ s e1 fun v H' J' s' k r=>w _ H' J' (s'.set r hi.1 (zct hi.2)) k
 ·rw[if_neg hi] at eA;cases eA
theorem zoa {i:Nat}{t:TE}(q:GoR K t fr):GoS K (tAsg t (zeL i)) (gOwnR i fr):=by
 intro Hz Jz O ρ σ H J o E s e w;obtain⟨⟨r,ρ1⟩,e1,eA⟩:=bind_some e;cases r with
 | told d=>cases eA
 | new n d=>
   have eA:(if i<ρ1.length/\isPar (ρ1[i]?)=false then some (Out.nx (ρ1.set i (.own n d))) else none)=some o:=eA
   by_cases hi:i<ρ1.length/\isPar (ρ1[i]?)=false
   ·rw[if_pos hi] at eA;cases eA;exact q Hz Jz O ρ σ H J _ ρ1 _ s e1 fun v H' J' s' k r=>w _ H' J' (s'.take r hi.1 (zct hi.2)) k
   ·rw[if_neg hi] at eA;cases eA
theorem zqG {t:TE}(g:GoR K t fr):GoX K t (xR fr):=by
 intro Hz Jz O ρ σ H J d ρ' Q s e w;obtain⟨⟨r,ρ1⟩,e1,e⟩:=bind_some e;cases e;refine g Hz Jz O ρ σ H J r _ Q s e1 fun v H' J' s' k q=>?_
 obtain⟨J2,s2,k2,r2⟩:=s'.tell q;exact w v H' J2 s2 (k.trans k2) r2
theorem zl9 (N:List Str)(st:Stmt){i:Nat}{x:Str}{elt iter tg:Expr}{ifs:List Expr}{scope:Scope}{pos pos' cp:Pos}{NC:List Str}(fr:List (Option Nat)){fi:FAX}{g:FG}{is:List Nat}{ft:FTX}{fe:FX}(hND:X.N.Nodup)(hix:X.N[i]?=some x)(hx:Loc X.env.scope x)(hcalm:X.calm=true)(hi:VIX X tg iter fi)
 (hcells:∀x,X.env.scope.names.lookup x=some .cell->∃c,X.env.cells.lookup x=some c) (hfk:X.env.scope.kind=.function) (hN:X.N=N) (hsc:X.env.scope.names=(zae st).names)
 (hfree':∀y∈scope.names,y.2=.free->(zae st).names.lookup y.1=some .cell) (hcell:∀y∈scope.names,y.2≠.cell) (hkind:scope.kind=.function) (hnames:∀y∈scope.names,y.2=.local->scope.names.lookup y.1=some .local)
 (hfr':zf4 N (zae st).names scope.names NC fr=true) (hlen:fr.length=NC.length) (hin:(fr.filterMap id).Nodup)
 (hg:∀cl C s0 H0 ex pn,VG (cxC X scope cl NC C s0 H0 ex pn) tg is g) (ht:∀cl C s0 H0 ex pn,VTsX (cxC X scope cl NC C s0 H0 ex pn) ifs ft) (he:∀cl C s0 H0 ex pn,VX (cxC X scope cl NC C s0 H0 ex pn) elt fe)
 (hs:∀x,foldedSetIterable iter X.env x=pure x:=by intro _;rfl) (hsw:swapsWith (.ListComp elt [⟨tg,iter,ifs,0⟩] scope cp) (some (.Name x pos')) pos.line X.env=pure true:=by rfl)
 (hf:X.fn x=true\/X.env.scope.names.lookup x=some .local:=by first | exact .inl rfl | exact .inr rfl | assumption) :
 VS X (.Assign [.Name x pos'] (.ListComp elt [⟨tg,iter,ifs,0⟩] scope cp) pos) (gSetX i (xR (zg2 fr fi g ft fe)))/\VS X (.Assign [.Name x pos'] (.ListComp elt [⟨tg,iter,ifs,0⟩] scope cp) pos) (gOwnR i (zg2 fr fi g ft fe)):=by
 obtain⟨wi,pi,gi⟩:=hi;have p:=znJ N st (i:=i) (pos:=pos) (pos':=pos') (cp:=cp) fr hND hix hx hcalm pi hcells hfk hN hsc hfree' hcell hkind hnames hfr' hlen (fun cl C s0 H0 ex pn=>show PG (cxC X scope cl NC C s0 H0 ex pn) tg (TGof X.K g) from(hg cl C s0 H0 ex pn).of) (fun cl C s0 H0 ex pn=>show PTs (cxC X scope cl NC C s0 H0 ex pn) ifs (zn5 X.K ft) from ht cl C s0 H0 ex pn) (fun cl C s0 H0 ex pn=>show PE (cxC X scope cl NC C s0 H0 ex pn) elt (TXof X.K fe) from(he cl C s0 H0 ex pn).of) hs hsw hf
 exact⟨⟨_,p,zn9 (zqG (ziz gi hin))⟩,⟨_,p,zoa (ziz gi hin)⟩⟩
theorem vrC (i:Nat){scope:Scope}{cl:List (Str×Addr)}{NC:List Str}{C:Addr}{s0:Shared}{H0:Hp}{ex:List Addr}{pn:List (Addr×Obj)}{x:Str}{pos:Pos}(hi:NC[i]?=some x)(hfk:X.env.scope.kind=.function)
 (h1:scope.names.lookup x=some .free) (h2:X.env.scope.names.lookup x=some .cell) (hd:(x == ("__debug__" : Str))=false:=by decide) (hcd:(x == ("__classdict__" : Str))=false:=by decide):VW (cxC X scope cl NC C s0 H0 ex pn) (.Name x pos) (eRd i):=
 ⟨_,pvC i hi hfk h1 h2 hd hcd,zpu⟩
theorem zma (i:Nat){es:List Expr}{fl:FAG}{scope:Scope}{cl:List (Str×Addr)}{NC:List Str}{C:Addr}{s0:Shared}{H0:Hp}{ex:List Addr}{pn:List (Addr×Obj)}{x:Str}{p:Pos}(hr:VAG (cxC X scope cl NC C s0 H0 ex pn) i es fl)(hi:NC[i]?=some x)(hfk:X.env.scope.kind=.function)
 (h1:scope.names.lookup x=some .free) (h2:X.env.scope.names.lookup x=some .cell) (hd:(x == ("__debug__" : Str))=false:=by decide) (hcd:(x == ("__classdict__" : Str))=false:=by decide)
 (hs:starEach (.Name x p::es) (cxC X scope cl NC C s0 H0 ex pn).env=(false,eval (.Name x p) (cxC X scope cl NC C s0 H0 ex pn).env)::starEach es (cxC X scope cl NC C s0 H0 ex pn).env:=by rfl):VAG (cxC X scope cl NC C s0 H0 ex pn) i (.Name x p::es) (agOwn i fl):=
 zan hr hi (.inr (.inl (zbF hfk scope.names x h1 h2))) hd hcd hs
def xNil2:FR:=fun ρ=>some (.new 2 (.lst []),ρ)
theorem zob {pos:Pos}:VR X (.List [] pos) xNil2:=by
 refine⟨_,zjA zdr,fun Hz Jz O ρ σ H J rr ρ' Q s e w=>?_⟩;cases e;refine⟨wbj _,fun q hq=>?_⟩;have un:=Up.new s.ja hq (.lst [])
 obtain⟨fp,ow⟩:=s.ow;refine w _ _ J (s.up un) un.keep ⟨[q],fp,ow.up s un,.lst zah .nil,by simp,fun b hb=>?_,fun i b hb hb2=>?_⟩
 ·rw[waf.mp hb];exact⟨fun j=>s.ja q j hq,s.back hq⟩
 ·rw[waf.mp hb] at hb2;obtain⟨o,e,_⟩:=(ow.at' i).ru q hb2;rw[hq] at e;cases e
def xDnew:FR:=fun ρ=>some (.new 1 (.dct [] []),ρ)
theorem zoc {pos:Pos}:VR X (.Dict [] [] pos) xDnew:=by
 refine⟨_,zlE,fun Hz Jz O ρ σ H J rr ρ' Q s e w=>?_⟩;cases e;intro q hq;have un:=Up.new s.ja hq (.dK [])
 obtain⟨fp,ow⟩:=s.ow;refine w _ _ J (s.up un) un.keep ⟨[q],fp,ow.up s un,.dct zah rfl rfl .nil,by simp,fun b hb=>?_,fun i b hb hb2=>?_⟩
 ·rw[waf.mp hb];exact⟨fun j=>s.ja q j hq,s.back hq⟩
 ·rw[waf.mp hb] at hb2;obtain⟨o,e,_⟩:=(ow.at' i).ru q hb2;rw[hq] at e;cases e
end
def zod (ρ:En)(i:Nat):En:=if isPar (ρ[i]?)=false then ρ.set i .un else ρ
def dropE (is:List Nat)(ρ:En):En:=is.foldl zod ρ
theorem ST.dropE {K:W.Frag}{Hz H:Hp}{Jz J:Addr->Prop}{O:Pr}{σ:L2.St}:∀(is:List Nat) {ρ:En},ST K Hz Jz O ρ σ H J->ST K Hz Jz O (dropE is ρ) σ H J
 | [],_,s=>s
 | i::is,ρ,s=>by
   refine ST.dropE is (ρ:=zod ρ i) ?_;unfold zod;by_cases h:isPar (ρ[i]?)=false
   ·rw[if_pos h];exact s.drop fun n d z=>by rw[z] at h;cases h
   ·rw[if_neg h];exact s
def zpN (is:List Nat)(g:FS):FS:=fun ρ=>g (dropE is ρ)
section
variable {X:Cx}{sts:List Stmt}{g:FS}
theorem zb4 (is:List Nat)(h:VSs X sts g):VSs X sts (zpN is g):=by
 obtain⟨t,p,q⟩:=h;exact⟨t,p,fun Hz Jz O ρ σ H J o E s e w=>q Hz Jz O _ σ H J o E (s.dropE is) e w⟩
end
def EvS {R A:Type}(k:Out->Option R)(φ:A->Option R)(g:FS)(ρ:En)(a:Option A):Prop:=∀r,a.bind φ=some r->(g ρ).bind k=some r
def Step {α:Type}(g:FS)(ρ:En)(x:Option α)(ρ':α->En):Prop:=∀d,x=some d->g ρ=some (.nx (ρ' d))
def okS (i:Nat)(ρ:En):Bool:=decide (i<ρ.length) && !isPar (ρ[i]?)
theorem zfH {i:Nat}{ρ:En}(h:okS i ρ=true):i<ρ.length/\isPar (ρ[i]?)=false:=by
 unfold okS at h;simpa using h
section
variable {R A α S:Type}{k:Out->Option R}{φ:A->Option R}{g g2 a b:FS}{ρ:En}{x:Option α}{ρ':α->En}{c:FT}{e:FE}{fl:FA}
theorem zaf {β γ:Type}{x:Option β}{f:β->Option γ}{r:γ}(h:x.bind f=some r):∃y,x=some y/\f y=some r:=by
 cases x with
 | none=>cases h
 | some y=>exact⟨y,rfl,h⟩
theorem zau {K:α->Option A}(s:Step g ρ x ρ')(h:∀d,EvS k φ g2 (ρ' d) (K d)):EvS k φ (gSeq g g2) ρ (x.bind K):=fun r e=>by
 obtain⟨y,e,e2⟩:=zaf e;obtain⟨d,e0,e⟩:=zaf e;unfold gSeq;rw[s d e0];exact h d r (by rw[e];exact e2)
theorem zbH {a:Option A}(h:∀r,a.bind φ=some r->k (.nx ρ)=some r):EvS k φ gNx ρ a:=fun r e=>h r e
theorem zg4 {a:Option A}(h:EvS k φ g ρ a):EvS k φ (gSeq gNx g) ρ a:=h
theorem zm9 (i:Nat){a:Option A}(h:EvS k φ g (frzE i ρ) a):EvS k φ (fun ρ=>g (frzE i ρ)) ρ a:=h
theorem zcO (is:List Nat){a:Option A}(h:EvS k φ g (dropE is ρ) a):EvS k φ (zpN is g) ρ a:=h
theorem zqH {a' b':Option A}(h1:EvS k φ a ρ a')(h2:EvS k φ b ρ b'):EvS k φ (gIf c a b) ρ ((c ρ).bind fun t=>if t then a' else b'):=fun r e=>by
 obtain⟨y,e,e2⟩:=zaf e;obtain⟨t,e0,e⟩:=zaf e;unfold gIf;rw[e0,zOB];cases t with
 | true=>exact h1 r (by rw[if_pos rfl] at e;rw[e];exact e2)
 | false=>exact h2 r (by rw[if_neg (by decide)] at e;rw[e];exact e2)
def kx (k:Out->Option R):Out->Option R
 | .nx _=>none
 | o=>k o
theorem zpO {r:R}(h:(a ρ).bind (kx k)=some r):(gSeq a g ρ).bind k=some r:=by
 unfold gSeq;cases z:a ρ with
 | none=>rw[z] at h;cases h
 | some o=>rw[z] at h;cases o <;> first | cases h | exact h
theorem zei {a' b':Option A}(h1:EvS (kx k) φ a ρ a')(h2:EvS k φ (gSeq b g) ρ b'):EvS k φ (gSeq (gIf c a b) g) ρ ((c ρ).bind fun t=>if t then a' else b'):=fun r e=>by
 obtain⟨y,e,e2⟩:=zaf e;obtain⟨t,e0,e⟩:=zaf e;cases t with
 | true=>
   have:=zpO (g:=g) (h1 r (by rw[if_pos rfl] at e;rw[e];exact e2))
   unfold gSeq gIf at *;rw[e0];exact this
 | false=>
   have:=h2 r (by rw[if_neg (by decide)] at e;rw[e];exact e2)
   unfold gSeq gIf at *;rw[e0];exact this
theorem zqI {a':Option A}(h:a'=none):EvS k φ gNo ρ a':=fun r e=>by rw[h] at e;cases e
theorem zbu {K:D->Option A}(h:∀d r,(K d).bind φ=some r->k (.ret (.told d) ρ)=some r):EvS k φ (gRet e) ρ ((e ρ).bind K):=fun r z=>by
 obtain⟨y,z,z2⟩:=zaf z;obtain⟨d,e0,z⟩:=zaf z;unfold gRet;rw[e0];exact h d r (by rw[z];exact z2)
theorem zoe {i n:Nat}{d:D}{a':Option A}(hi:ρ[i]?=some (.own n d))(h:∀r,a'.bind φ=some r->k (.ret (.new n d) (ρ.set i .un))=some r):EvS k φ (gRetO i) ρ a':=fun r z=>by
 unfold gRetO;rw[hi];exact h r z
theorem zbk {i:Nat}(h:okS i ρ=true):Step (gSet i e) ρ (e ρ) fun d=>ρ.set i (.val d):=fun d z=>by
 unfold gSet;rw[z,zOB,if_pos (zfH h)]
theorem zmb:Step (gEx e) ρ (e ρ) fun _=>ρ:=fun d z=>by unfold gEx;rw[z];rfl
theorem zkm {i:Nat}(h:okS i ρ=true):Step (gOwn i fl) ρ (fl ρ) fun ds=>ρ.set i (.own 1 (.lst ds)):=fun d z=>by
 unfold gOwn;rw[z,zOB,if_pos (zfH h)]
def appL (xs:List D)(d:D):Option (List D):=if xs.length<lim then some (xs++[d]) else none
def extL (xs:List D)(d:D):Option (List D):=match d with | .lst es=>if(xs++es).length<=lim then some (xs++es) else none | _=>none
theorem zkn {i:Nat}{xs:List D}(h:ownD (ρ[i]?)=some (1,.lst xs)):Step (gApp i e) ρ ((e ρ).bind (appL xs)) fun ys=>setO ρ i (.lst ys):=fun d z=>by
 obtain⟨y,e0,z⟩:=zaf z;unfold gApp;rw[e0,zOB,h];unfold appL at z;split at z
 ·rename_i q;cases z;exact if_pos q
 ·cases z
theorem zpP {i:Nat}{xs:List D}(h:ownD (ρ[i]?)=some (1,.lst xs)):Step (gExt i e) ρ ((e ρ).bind (extL xs)) fun ys=>setO ρ i (.lst ys):=fun d z=>by
 obtain⟨y,e0,z⟩:=zaf z;unfold gExt;rw[e0,zOB,h];unfold extL at z;cases y <;> try cases z
 rename_i es
 have z:(if(xs++es).length<=lim then some (xs++es) else none)=some d:=z
 split at z
 ·rename_i q;cases z;exact if_pos q
 ·cases z
def k0:Out->Option En
 | .nx ρ=>some ρ
 | _=>none
def kL:Out->Option En
 | .nx ρ=>some ρ
 | .ct ρ=>some ρ
 | _=>none
theorem zmc {emb:S->En}{a' b':Option S}(h1:EvS k0 (fun s=>some (emb s)) a ρ a')(h2:EvS k0 (fun s=>some (emb s)) b ρ b'):Step (gIf c a b) ρ ((c ρ).bind fun t=>if t then a' else b') emb:=fun s z=>by
 have:=zqH (c:=c) h1 h2 (emb s) (by rw[z];rfl)
 obtain⟨o,e1,e2⟩:=zaf this;rw[e1];cases o <;> cases e2
 rfl
end
def Tg {α:Type}(tg:FG)(d:D)(ρ:En)(x:Option α)(ρ':α->En):Prop:=∀y,x=some y->tg d ρ=some (ρ' y)
section
variable {d:D}{ρ:En}
theorem tg_n {i:Nat}(h:okS i ρ=true):Tg (gN i) d ρ (some d) fun d=>ρ.set i (.val d):=fun y e=>by
 cases e;unfold gN;rw[if_pos (zfH h)]
def un2:D->Option (D×D)
 | .tup [a,b]=>some (a,b)
 | _=>none
def un4:D->Option (D×D×D×D)
 | .tup [a,b,c,d]=>some (a,b,c,d)
 | _=>none
theorem zmd {d:D}{y:D×D}(h:un2 d=some y):d=.tup [y.1,y.2]:=by
 unfold un2 at h;split at h
 ·cases h;rfl
 ·cases h
theorem zme {d:D}{y:D×D×D×D}(h:un4 d=some y):d=.tup [y.1,y.2.1,y.2.2.1,y.2.2.2]:=by
 unfold un4 at h;split at h
 ·cases h;rfl
 ·cases h
theorem zi5 {i:Nat}{d:D}{ρ:En}(h:okS i ρ=true):gN i d ρ=some (ρ.set i (.val d)):=by unfold gN;rw[if_pos (zfH h)]
theorem tg_2 {i j:Nat}(h1:okS i ρ=true)(h2:∀x,okS j (ρ.set i (.val x))=true):Tg (gT 2 (gCons' (gN i) (gCons' (gN j) gNil'))) d ρ (un2 d) fun y=>(ρ.set i (.val y.1)).set j (.val y.2):=fun y e=>by
 rw[zmd e];show((gN i y.1 ρ).bind fun ρ1=>(gN j y.2 ρ1).bind fun ρ2=>gNil' [] ρ2)=_
 rw[zi5 h1,zOB,zi5 (h2 _)];rfl
theorem tg_4 {i j l m:Nat}(h1:okS i ρ=true)(h2:∀x,okS j (ρ.set i (.val x))=true)(h3:∀x y,okS l ((ρ.set i (.val x)).set j (.val y))=true)(h4:∀x y z,okS m (((ρ.set i (.val x)).set j (.val y)).set l (.val z))=true):Tg (gT 4 (gCons' (gN i) (gCons' (gN j) (gCons' (gN l) (gCons' (gN m) gNil'))))) d ρ (un4 d) fun y=>(((ρ.set i (.val y.1)).set j (.val y.2.1)).set l (.val y.2.2.1)).set m (.val y.2.2.2):=fun y e=>by
 rw[zme e];show((gN i y.1 ρ).bind fun ρ1=>(gN j y.2.1 ρ1).bind fun ρ2=>(gN l y.2.2.1 ρ2).bind fun ρ3=>(gN m y.2.2.2 ρ3).bind fun ρ4=>gNil' [] ρ4)=_
 rw[zi5 h1,zOB,zi5 (h2 _),zOB,zi5 (h3 _ _),zOB,zi5 (h4 _ _ _)];rfl
theorem ziB {α:Type}{e:FE}{tg:FG}{x:D->Option α}{ρ':α->En}(h:∀d,Tg tg d ρ (x d) ρ'):Step (gAsg e tg) ρ ((e ρ).bind x) ρ':=fun y z=>by
 obtain⟨d,e0,z⟩:=zaf z;unfold gAsg;rw[e0,zOB,h d y z];rfl
end
def zcP {S:Type}(f:S->D->Option S):S->List D->Option S
 | s,[]=>some s
 | s,d::ds=>(f s d).bind fun s=>zcP f s ds
theorem zna {α S:Type}{ρ:En}{fi:FA}{tg:FG}{b:FS}{x:D->Option α}{emb:S->En}{ρ1:S->α->En}{step:S->α->Option S}{s0:S}(h0:emb s0=ρ)(ht:∀s d,Tg tg d (emb s) (x d) (ρ1 s))(hb:∀s y,EvS kL (fun s=>some (emb s)) b (ρ1 s y) (step s y)) :
 Step (gFor fi tg b) ρ ((fi ρ).bind (zcP (fun s d=>(x d).bind (step s)) s0)) emb:=fun s z=>by
 have key:∀(ds:List D) (s0:S),zcP (fun s d=>(x d).bind (step s)) s0 ds=some s->forL tg b ds (emb s0)=some (.nx (emb s)):=by
  intro ds;induction ds with
  | nil=>intro s0 q;cases q;rfl
  | cons d ds ih=>
    intro s0 q;obtain⟨s1,e1,q1⟩:=zaf q;obtain⟨y,e2,e5⟩:=zaf e1;have hb1:=hb s0 y (emb s1) (by rw[e5];rfl)
    obtain⟨o,e3,e4⟩:=zaf hb1;unfold forL;rw[ht s0 d y e2,zOB,e3,zOB];cases o <;> cases e4 <;> exact ih _ q1
 obtain⟨ds,e0,z1⟩:=zaf z;unfold gFor;rw[e0,zOB,<-h0];exact key ds s0 z1
inductive Fl (S A:Type) where
 | nx (s:S) | bk (s:S) | ret (a:A)
def zd0 {S A:Type}(f:S->D->Option (Fl S A)):S->List D->Option (Fl S A)
 | s,[]=>some (.nx s)
 | s,d::ds=>(f s d).bind fun o=>match o with
   | .nx s=>zd0 f s ds
   | .bk s=>some (.nx s)
   | .ret a=>some (.ret a)
def kR {R:Type}(k:Out->Option R):Out->Option (Fl En R)
 | .nx ρ=>some (.nx ρ)
 | .ct ρ=>some (.nx ρ)
 | .bk ρ=>some (.bk ρ)
 | .ret v ρ=>(k (.ret v ρ)).map .ret
def fR {S A R:Type}(φ:A->Option R)(emb:S->En):Fl S A->Option (Fl En R)
 | .nx s=>some (.nx (emb s))
 | .bk s=>some (.bk (emb s))
 | .ret a=>(φ a).map .ret
theorem zpQ {α S A R:Type}{k:Out->Option R}{φ:A->Option R}{ρ:En}{fi:FA}{tg:FG}{b g:FS}{x:D->Option α}{emb:S->En}{ρ1:S->α->En}{step:S->α->Option (Fl S A)}{K:S->Option A}{s0:S}(h0:emb s0=ρ)(ht:∀s d,Tg tg d (emb s) (x d) (ρ1 s))(hb:∀s y,EvS (kR k) (fR φ emb) b (ρ1 s y) (step s y))(hk:∀s,EvS k φ g (emb s) (K s)) :
 EvS k φ (gSeq (gFor fi tg b) g) ρ ((fi ρ).bind fun ds=>(zd0 (fun s d=>(x d).bind (step s)) s0 ds).bind fun o=>match o with | .nx s=>K s | .bk s=>K s | .ret a=>some a):=fun r z=>by
 have key:∀(ds:List D) (s0:S) (v:A) (o:Fl S A),zd0 (fun s d=>(x d).bind (step s)) s0 ds=some o->(match o with | .nx s=>K s | .bk s=>K s | .ret a=>some a)=some v->φ v=some r->((forL tg b ds (emb s0)).bind fun o=>match o with | .nx ρ'=>g ρ' | .bk ρ'=>some (.bk ρ') | .ct ρ'=>some (.ct ρ') | .ret d ρ'=>some (.ret d ρ')).bind k=some r:=by
  intro ds;induction ds with
  | nil=>
    intro s0 v o q1 q2 q3;cases q1;exact hk s0 r (by rw[show K s0=some v from q2];exact q3)
  | cons d ds ih=>
    intro s0 v o q1 q2 q3;obtain⟨o1,e1,q4⟩:=zaf q1;obtain⟨y,e2,e5⟩:=zaf e1;unfold forL;rw[ht s0 d y e2,zOB];cases o1 with
    | nx s1=>
      have hb1:=hb s0 y (.nx (emb s1)) (by rw[e5];rfl)
      obtain⟨ob,e3,e4⟩:=zaf hb1;rw[e3,zOB];have ih:=ih s1 v o q4 q2 q3
      cases ob with
      | nx ρ2=>cases e4;exact ih
      | ct ρ2=>cases e4;exact ih
      | bk ρ2=>cases e4
      | ret v ρ2=>
        have e4:(k (.ret v ρ2)).map Fl.ret=some (Fl.nx (emb s1)):=e4
        cases h:k (.ret v ρ2) <;> rw[h] at e4 <;> cases e4
    | bk s1=>
      cases q4;have q2:K s1=some v:=q2
      have hb1:=hb s0 y (.bk (emb s1)) (by rw[e5];rfl)
      obtain⟨ob,e3,e4⟩:=zaf hb1;rw[e3,zOB];cases ob with
      | nx ρ2=>cases e4
      | ct ρ2=>cases e4
      | bk ρ2=>cases e4;exact hk s1 r (by rw[q2];exact q3)
      | ret v ρ2=>
        have e4:(k (.ret v ρ2)).map Fl.ret=some (Fl.bk (emb s1)):=e4
        cases h:k (.ret v ρ2) <;> rw[h] at e4 <;> cases e4
    | ret a=>
      cases q4;cases q2;have hb1:=hb s0 y (.ret r) (by rw[e5];show(φ _).map Fl.ret=_;rw[q3];rfl)
      obtain⟨ob,e3,e4⟩:=zaf hb1;rw[e3,zOB];cases ob with
      | nx ρ2=>cases e4
      | ct ρ2=>cases e4
      | bk ρ2=>cases e4
      | ret v ρ2=>
        have e4:(k (.ret v ρ2)).map Fl.ret=some (Fl.ret r):=e4
        cases h:k (.ret v ρ2) with
        | none=>rw[h] at e4;cases e4
        | some r'=>rw[h] at e4;cases e4;exact h
 obtain⟨v,z1,z2⟩:=zaf z;obtain⟨ds,e0,z3⟩:=zaf z1;obtain⟨o,z4,z5⟩:=zaf z3;unfold gSeq gFor;rw[e0,zOB,<-h0];exact key ds s0 v o z4 z5 z2
def aC (x:Option D)(xs:Option (List D)):Option (List D):=x.bind fun d=>xs.bind fun ds=>some (d::ds)
def aN:Option (List D):=some []
def zmf (f:D->Option (Option D))(ds:List D):Option (List D):=(zeo f ds).bind fun out=>if out.length<=lim then some out else none
def zqJ (l:List D):Option (List D):=(a1Tup l).bind fun ds=>some (zen ds)
def flK {S A:Type}(K:S->Option A):Fl S A->Option A
 | .nx s=>K s
 | .bk s=>K s
 | .ret a=>some a
section
variable {α S A R:Type}{k:Out->Option R}{φ:A->Option R}{ρ:En}{fi:FA}{b g:FS}{emb:S->En}{s0:S}
theorem zhN {i:Nat}{step:S->D->Option S}(h0:emb s0=ρ)(hi:∀s,okS i (emb s)=true)(hb:∀s d,EvS kL (fun s=>some (emb s)) b ((emb s).set i (.val d)) (step s d)) :
 Step (gFor fi (gN i) b) ρ ((fi ρ).bind (zcP step s0)) emb:=
 zna (x:=fun d=>some d) (step:=step) h0 (fun s d=>tg_n (hi s)) hb
theorem zko {i j:Nat}{step:S->D×D->Option S}(h0:emb s0=ρ)(hi:∀s,okS i (emb s)=true)(hj:∀s x,okS j ((emb s).set i (.val x))=true)(hb:∀s y,EvS kL (fun s=>some (emb s)) b (((emb s).set i (.val y.1)).set j (.val y.2)) (step s y)) :
 Step (gFor fi (gT 2 (gCons' (gN i) (gCons' (gN j) gNil'))) b) ρ ((fi ρ).bind (zcP (fun s d=>(un2 d).bind (step s)) s0)) emb:=
 zna (x:=un2) (step:=step) h0 (fun s d=>tg_2 (hi s) (hj s)) hb
theorem zhO {i:Nat}{step:S->D->Option (Fl S A)}{K:S->Option A}(h0:emb s0=ρ)(hi:∀s,okS i (emb s)=true)(hb:∀s d,EvS (kR k) (fR φ emb) b ((emb s).set i (.val d)) (step s d))(hk:∀s,EvS k φ g (emb s) (K s)) :
 EvS k φ (gSeq (gFor fi (gN i) b) g) ρ ((fi ρ).bind fun ds=>(zd0 step s0 ds).bind (flK K)):=fun r z=>
 zpQ (x:=fun d=>some d) (step:=step) h0 (fun s d=>tg_n (hi s)) hb hk r (by
  rw[<-z];congr 1)
end
def zi6 (x k v:D):Option D:=(keyD k).bind fun k=>match x with
 | .dct ks ds=>if ks.length<lim then some (.dct (putKD ks ds k v).1 (putKD ks ds k v).2) else none
 | _=>none
theorem zof {i:Nat}{ρ:En}{fk f:FE}{x:D}(h:ownD (ρ[i]?)=some (1,x)):Step (gPutD i fk (xE f)) ρ ((f ρ).bind fun v=>(fk ρ).bind fun k=>zi6 x k v) fun y=>setO ρ i y:=fun d z=>by
 obtain⟨v,e0,z1⟩:=zaf z;obtain⟨kk,e1,z2⟩:=zaf z1;obtain⟨key,e2,z3⟩:=zaf z2;unfold gPutD xE;rw[e0,zOB,zOB];show(fk ρ).bind _=_
 rw[e1,zOB,e2,zOB];show(match ownD (ρ[i]?) with | some (1,.dct ks ds)=>_ | _=>_)=_
 rw[h];cases x <;> try cases z3
 rename_i ks ds
 have z3:(if ks.length<lim then some (D.dct (putKD ks ds key v).1 (putKD ks ds key v).2) else none)=some d:=z3
 split at z3
 ·rename_i q;cases z3;exact if_pos q
 ·cases z3
theorem zkp {i n:Nat}{ρ:En}{f:FR}{x:D}(hf:f ρ=some (.new n x,ρ))(h:okS i ρ=true):Step (gOwnR i f) ρ (some ()) fun _=>ρ.set i (.own n x):=fun d z=>by
 unfold gOwnR;rw[hf,zOB];exact if_pos (zfH h)
def kF:Out->Option D
 | .ret (.told d) _=>some d
 | .ret (.new _ d) _=>some d
 | .nx _=>some .non
 | _=>none
section
variable {P:Program}{w:World}{K:W.Frag}{mg:Str->Option Value}{base:Heap}
theorem zcQ {x qual:Str}{st:Stmt}{f:Addr}{fd:FuncData}{N ps:List Str}{k:Nat}{c:List D->Option D}(F:Fun K x qual st f fd)(S:FnScope N ps (zae st))(hlen:∀ds d,c ds=some d->ds.length=ps.length)
 (hbody:∀(cdv:Value) (A:Around) (outer:List Env) (s:Shared) (H:Hp) (E:XK),Room k (A.deeper (envOfC qual (zae st) s.heap.objs.size f cdv))->∃g,VSs (cxOf CX0 P w K mg base N qual (zae st) f cdv A outer s H E).nox (zbv st) g/\∀ds,ds.length=ps.length->EvS kF some g (ds.map SV.val++List.replicate (N.length - ps.length) .un) (c ds)):FnOk P w K mg base CX0 (k+1) f fd ps (spF K c):=by
 refine F.ok S (fun vs H Q E h=>?_) (fun cdv A outer s H vs Q E hr h=>?_)
 ·obtain⟨J,ds,d,ja,r,e,w⟩:=h;rw[r.length];exact hlen ds d e
 ·obtain⟨J,ds,d,ja,r,e,w⟩:=h;have hl:=hlen ds d e
  obtain⟨g,⟨t,p,q⟩,ev⟩:=hbody cdv A outer s H E hr;refine⟨t,p,?_⟩;have e:=ev ds hl d (by rw[e];rfl)
  rw[<-hl] at e;have s0:=ziw (N:=N) ja r
  cases z:g (ds.map SV.val++List.replicate (N.length - ds.length) .un) with
  | none=>rw[z] at e;cases e
  | some o=>
    rw[z] at e;refine q H J Pr.no _ _ H J o _ s0 z ?_;cases o with
    | nx ρ'=>cases e;exact fun σ' H' J' s' k'=>w .non H' J' s'.out .non
    | ret r ρ'=>
      cases r with
      | told d'=>cases e;exact fun v σ' H' J' s' r'=>w v H' J' s'.out r'
      | new n d'=>
        cases e;rintro v σ' H' J' s' ⟨B,fp,_,ru,_,hb,_⟩;have u:=s'.out
        refine w v H' (fun b=>J' b\/b∈B) ⟨u.same,fun a h=>.inl (u.jj a h),fun a h=>?_,fun a h=>?_⟩ (ru.rp (fun _ h=>.inl h) (fun b hb=>.inr hb))
        ·rcases h with h | h
         ·exact u.jn a h
         ·exact .inr (hb a h).2
        ·rcases h with h | h
         ·exact u.ja a h
         ·obtain⟨o,e,_⟩:=ru.some a h;rw[e];simp
    | bk _=>cases e
    | ct _=>cases e
end
def c0 (b:Option D):List D->Option D | []=>b | _=>none
def c1 (b:D->Option D):List D->Option D | [x]=>b x | _=>none
def c2 (b:D->D->Option D):List D->Option D | [x,y]=>b x y | _=>none
def c3 (b:D->D->D->Option D):List D->Option D | [x,y,z]=>b x y z | _=>none
def c4 (b:D->D->D->D->Option D):List D->Option D | [x,y,z,u]=>b x y z u | _=>none
def c5 (b:D->D->D->D->D->Option D):List D->Option D | [x,y,z,u,v]=>b x y z u v | _=>none
def c6 (b:D->D->D->D->D->D->Option D):List D->Option D | [x,y,z,u,v,t]=>b x y z u v t | _=>none
theorem zg5 {b:D->Option D}:∀ds d,c1 b ds=some d->ds.length=1:=fun ds d h=>by unfold c1 at h;split at h;rfl;cases h
theorem zg6 {b:D->D->Option D}:∀ds d,c2 b ds=some d->ds.length=2:=fun ds d h=>by unfold c2 at h;split at h;rfl;cases h
theorem zkq {b:D->D->D->Option D}:∀ds d,c3 b ds=some d->ds.length=3:=fun ds d h=>by unfold c3 at h;split at h;rfl;cases h
theorem zpR {b:D->D->D->D->Option D}:∀ds d,c4 b ds=some d->ds.length=4:=fun ds d h=>by unfold c4 at h;split at h;rfl;cases h
section
variable {R:Type}{k:Out->Option R}{φ:D->Option R}{g:FS}{n:List SV}
theorem zmg {b:D->Option D}(h:∀x,EvS k φ g (.val x::n) (b x)):∀ds:List D,ds.length=1->EvS k φ g (ds.map SV.val++n) (c1 b ds)
 | [x],_=>h x
theorem zog {b:D->D->Option D}(h:∀x y,EvS k φ g (.val x::.val y::n) (b x y)):∀ds:List D,ds.length=2->EvS k φ g (ds.map SV.val++n) (c2 b ds)
 | [x,y],_=>h x y
theorem zoh {b:D->D->D->Option D}(h:∀x y z,EvS k φ g (.val x::.val y::.val z::n) (b x y z)):∀ds:List D,ds.length=3->EvS k φ g (ds.map SV.val++n) (c3 b ds)
 | [x,y,z],_=>h x y z
theorem zqK {b:D->D->D->D->Option D}(h:∀x y z u,EvS k φ g (.val x::.val y::.val z::.val u::n) (b x y z u)):∀ds:List D,ds.length=4->EvS k φ g (ds.map SV.val++n) (c4 b ds)
 | [x,y,z,u],_=>h x y z u
end
mutual
inductive Rh (h:Heap):Value->D->Prop
 | non:Rh h .none .non
 | bl (b:Bool):Rh h (.bool b) (.bl b)
 | int (i:Int) (t:Tok):Rh h (.int i t) (.int i)
 | str (x:Str) (t:Tok):Rh h (.str x t) (.str x)
 | tup {l:Addr}{us:List Value}{ds:List D}(p:h.IsTuple l us.toArray) (r:RhL h us ds):Rh h (.ref l) (.tup ds)
 | lst {l:Addr}{us:List Value}{ds:List D}(p:h.IsList l us.toArray) (r:RhL h us ds):Rh h (.ref l) (.lst ds)
inductive RhL (h:Heap):List Value->List D->Prop
 | nil:RhL h [] []
 | cons {u:Value}{d:D}{us:List Value}{ds:List D}(a:Rh h u d) (t:RhL h us ds):RhL h (u::us) (d::ds)
end
mutual
def ndD:D->Bool
 | .dct _ _=>false
 | .scr _=>false
 | .exc _ _ _=>false
 | .dcu _ _=>false
 | .tup ds=>ndL ds
 | .lst ds=>ndL ds
 | _=>true
def ndL:List D->Bool
 | []=>true
 | d::ds=>ndD d&&ndL ds
end
mutual
def depD:D->Nat
 | .tup ds=>depL ds+1
 | .lst ds=>depL ds+1
 | _=>0
def depL:List D->Nat
 | []=>0
 | d::ds=>max (depD d) (depL ds)
end
mutual
def eqOk:D->D->Bool
 | .non,.non=>true
 | .non,.int _=>true
 | .non,.str _=>true
 | .int _,.non=>true
 | .str _,.non=>true
 | .int _,.int _=>true
 | .str _,.str _=>true
 | .int _,.str _=>true
 | .str _,.int _=>true
 | .bl _,.bl _=>true
 | .tup xs,.tup ys=>zhP xs ys
 | .lst xs,.lst ys=>zhP xs ys
 | .non,.tup _=>true
 | .tup _,.non=>true
 | .non,.lst _=>true
 | .lst _,.non=>true
 | _,_=>false
def zhP:List D->List D->Bool
 | x::xs,y::ys=>eqOk x y&&zhP xs ys
 | _,_=>true
end
section
variable {X:Cx}{pins:List (Addr×Obj)}{σ:L2.St}{H:Hp}{J:Addr->Prop}{s:Shared}
mutual
theorem Rp.rh (I:Inv X pins σ H s){v:V}{d:D}:Rp X.K H J v d->ndD d=true->∀{u:Value},RelV v u->Rh s.heap u d
 | .non,_,_,q=>by cases q;exact .non
 | .bl b,_,_,q=>by cases q;exact .bl b
 | .int i,_,_,q=>by obtain⟨t,rfl⟩:=q;exact .int i t
 | .str x,_,_,q=>by obtain⟨t,rfl⟩:=q;exact .str x t
 | .tup h r,n,_,q=>by
   cases q;obtain⟨its,rv,pt,_⟩:=I.tuple h;exact .tup pt (RpL.rh I r n rv)
 | .lst h j r,n,_,q=>by
   cases q;obtain⟨its,rv,pt,_⟩:=I.list (SqL.of h);exact .lst pt.isList (RpL.rh I r n rv)
 | .dct h j ek ev r,n,_,q=>by cases n
 | .scr p,n,_,q=>by cases n
 | .exc _ _,n,_,q=>by cases n
 | .dcu h j ek ev r,n,_,q=>by cases n
theorem RpL.rh (I:Inv X pins σ H s){vs:List V}{ds:List D}:RpL X.K H J vs ds->ndL ds=true->∀{us:List Value},Vals vs us->RhL s.heap us ds
 | .nil,_,us,q=>by cases q;exact .nil
 | .cons h t,n,us,q=>by
   have n:(ndD _&&ndL _)=true:=n
   rw[waj] at n;cases q with
   | cons q1 q2=>exact .cons (Rp.rh I h n.1 q1) (RpL.rh I t n.2 q2)
end
theorem RpW.rh (I:Inv X pins σ H s){v:V}{d:D}(r:RpW X.K H J v d)(n:ndD d=true){u:Value}(q:RelV v u):Rh s.heap u d:=by
 rcases r with r | ⟨A,r⟩
 ·exact r.rh I n q
 ·have w:RpW X.K H J v d:=.inr ⟨A,r⟩
  cases r with
  | lst h r=>
    obtain⟨p,vs,e,hp,rl⟩:=w.lst;cases e;cases q;obtain⟨its,rv,pt,_⟩:=I.list (SqL.of hp);exact .lst pt.isList (RpL.rh I rl n rv)
  | dct h ek ev r=>cases n
  | dcu h ek ev r=>cases n
end
section
variable {h:Heap}
theorem RhL.length:∀{us:List Value}{ds:List D},RhL h us ds->us.length=ds.length
 | _,_,.nil=>rfl
 | _,_,.cons _ t=>by simp[RhL.length t]
theorem RhL.get:∀{us:List Value}{ds:List D},RhL h us ds->∀(i:Nat) (hi:i<us.length) (hj:i<ds.length),Rh h us[i] ds[i]
 | _,_,.cons a _,0,_,_=>a
 | _,_,.cons _ t,i+1,hi,hj=>RhL.get t i (by simpa using hi) (by simpa using hj)
theorem ze3 {l:Addr}{us ws:List Value}(p:h.IsTuple l us.toArray)(q:h.IsTuple l ws.toArray):us=ws:=by
 obtain⟨o,e,_,_,d⟩:=p;obtain⟨o',e',_,_,d'⟩:=q;rw[e] at e';cases e';rw[d] at d';injection d' with d1 _
 simpa using wbg Array.toList d1
theorem zfI {l:Addr}{us ws:List Value}(p:h.IsList l us.toArray)(q:h.IsList l ws.toArray):us=ws:=by
 obtain⟨o,e,_,_,d⟩:=p;obtain⟨o',e',_,_,d'⟩:=q;rw[e] at e';cases e';rw[d] at d';injection d' with d1 _
 simpa using wbg Array.toList d1
theorem zc8 {l:Addr}{us ws:Array Value}(p:h.IsTuple l us)(q:h.IsList l ws):False:=by
 obtain⟨o,e,c,_⟩:=p;obtain⟨o',e',c',_⟩:=q;rw[e] at e';cases e';rw[c] at c';simp at c'
mutual
theorem Rh.inj:∀{d e:D}{u:Value},Rh h u d->Rh h u e->d=e
 | _,_,_,.non,q=>by cases q;rfl
 | _,_,_,.bl b,q=>by cases q;rfl
 | _,_,_,.int i t,q=>by cases q;rfl
 | _,_,_,.str x t,q=>by cases q;rfl
 | _,_,_,.tup p r,q=>by
   cases q with
   | tup p' r'=>cases ze3 p p';rw[RhL.inj r r']
   | lst p' r'=>exact(zc8 p p').elim
 | _,_,_,.lst p r,q=>by
   cases q with
   | lst p' r'=>cases zfI p p';rw[RhL.inj r r']
   | tup p' r'=>exact(zc8 p' p).elim
theorem RhL.inj:∀{ds es:List D}{us:List Value},RhL h us ds->RhL h us es->ds=es
 | _,_,_,.nil,q=>by cases q;rfl
 | _,_,_,.cons a t,q=>by
   cases q with
   | cons a' t'=>rw[Rh.inj a a',RhL.inj t t']
end
end
theorem ze4:∀{xs ys:List D},zhP xs ys=true->∀(i:Nat) (hi:i<xs.length) (hj:i<ys.length),eqOk xs[i] ys[i]=true
 | x::xs,y::ys,h,i,hi,hj=>by
   have h:(eqOk x y&&zhP xs ys)=true:=h
   rw[waj] at h;cases i with
   | zero=>exact h.1
   | succ i=>exact ze4 h.2 i (by simpa using hi) (by simpa using hj)
theorem zeA:∀{xs:List D}(i:Nat) (hi:i<xs.length),depD xs[i]<=depL xs
 | x::xs,i,hi=>by
   cases i with
   | zero=>exact Nat.le_max_left _ _
   | succ i=>exact waq (zeA i (by simpa using hi)) (Nat.le_max_right _ _)
theorem zb5 (xs ys:List D):((List.range (min xs.length ys.length)).all (fun j=>decide (xs[j]?=ys[j]?))&&xs.length == ys.length)=decide (xs=ys):=by
 rw[waR];simp only[waj,waF,wbd,decide_eq_true_eq,beq_iff_eq];constructor
 ·rintro⟨a,b⟩;refine List.ext_getElem? fun j=>?_
  by_cases hj:j<min xs.length ys.length
  ·exact a j hj
  ·rw[waG (by omega),waG (by omega)]
 ·rintro rfl;exact⟨fun _ _=>rfl,rfl⟩
theorem zck {p:Prop}[Decidable p](h:¬p):false=decide p:=(waw h).symm
theorem zkr {xs ys:List D}(j:Nat)(h1:j<xs.length)(h2:j<ys.length):decide (xs[j]=ys[j])=decide (xs[j]?=ys[j]?):=by
 rw[waa h1,waa h2];exact zal ⟨fun z=>by rw[z],fun z=>wau z⟩
theorem zeM (i j:Int):decide (D.int i=D.int j)=(i == j):=by rw[wcw];exact zal ⟨fun z=>by cases z;rfl,fun z=>by rw[z]⟩
theorem zeN (i j:Str):decide (D.str i=D.str j)=(i == j):=by rw[wcw];exact zal ⟨fun z=>by cases z;rfl,fun z=>by rw[z]⟩
theorem zgx (i j:Bool):decide (D.bl i=D.bl j)=(i == j):=by rw[wcw];exact zal ⟨fun z=>by cases z;rfl,fun z=>by rw[z]⟩
section
variable {A:Around}{s:Shared}
theorem ziC {v:Value}{e:D}(hu:A.units<cLine)(rv:Rh s.heap v e)(ho:eqOk .non e=true):SeqAt.EqAt A s .none v (decide (D.non=e)):=by
 cases rv with
 | non=>exact wcE _
 | bl b=>cases ho
 | int i t=>rw[<-zck (fun z=>by cases z)];exact SeqAt.EqAt.none_int _ _
 | str x t=>rw[<-zck (fun z=>by cases z)];exact SeqAt.EqAt.none_str _ _
 | tup p r=>rw[<-zck (fun z=>by cases z)];exact SeqAt.EqAt.none_tuple p hu
 | lst p r=>rw[<-zck (fun z=>by cases z)];exact SeqAt.EqAt.none_list p hu
theorem zks {v:Value}{e:D}{b:Bool}(rv:Rh s.heap v e)(ho:eqOk (.bl b) e=true):SeqAt.EqAt A s (.bool b) v (decide (D.bl b=e)):=by
 cases rv with
 | bl c=>rw[zgx];exact SeqAt.EqAt.bool_bool _ _
 | non=>cases ho
 | int i t=>cases ho
 | str x t=>cases ho
 | tup p r=>cases ho
 | lst p r=>cases ho
theorem zfW {v:Value}{e:D}{b:Int}{u:Tok}(rv:Rh s.heap v e)(ho:eqOk (.int b) e=true):SeqAt.EqAt A s (.int b u) v (decide (D.int b=e)):=by
 cases rv with
 | int i t=>rw[zeM];exact SeqAt.EqAt.int_int _ _ _ _
 | non=>rw[<-zck (fun z=>by cases z)];exact SeqAt.EqAt.int_none _ _
 | bl c=>cases ho
 | str x t=>rw[<-zck (fun z=>by cases z)];exact SeqAt.EqAt.int_str _ _ _ _
 | tup p r=>cases ho
 | lst p r=>cases ho
theorem ziD {v:Value}{e:D}{b:Str}{u:Tok}(rv:Rh s.heap v e)(ho:eqOk (.str b) e=true):SeqAt.EqAt A s (.str b u) v (decide (D.str b=e)):=by
 cases rv with
 | str i t=>rw[zeN];exact SeqAt.EqAt.str_str _ _ _ _
 | non=>rw[<-zck (fun z=>by cases z)];exact SeqAt.EqAt.str_none _ _
 | bl c=>cases ho
 | int x t=>rw[<-zck (fun z=>by cases z)];exact SeqAt.EqAt.str_int _ _ _ _
 | tup p r=>cases ho
 | lst p r=>cases ho
theorem zpS {l l':Addr}{us us':List Value}{ds ds':List D}(hu:A.units<cLine)(p:s.heap.IsTuple l us.toArray)(p':s.heap.IsTuple l' us'.toArray)(r:RhL s.heap us ds)(r':RhL s.heap us' ds')
 (he:∀j (h1:j<us.toArray.size) (h2:j<us'.toArray.size),SeqAt.EqAt A.in1 s us.toArray[j] us'.toArray[j] (decide (ds[j]?=ds'[j]?))):SeqAt.RcAt A s (.ref l) (.ref l') (decide (D.tup ds=D.tup ds')):=by
 have q:=SeqAt.RcAt.tuples p p' hu he
 rw[wac,wac,r.length,r'.length,zb5] at q;rw[zal (show D.tup ds=D.tup ds'↔ds=ds' from⟨fun z=>by cases z;rfl,fun z=>by rw[z]⟩)];exact q
theorem zpT {l l':Addr}{us us':List Value}{ds ds':List D}(hu:A.units<cLine)(p:s.heap.IsList l us.toArray)(p':s.heap.IsList l' us'.toArray)(r:RhL s.heap us ds)(r':RhL s.heap us' ds')
 (he:∀j (h1:j<us.toArray.size) (h2:j<us'.toArray.size),SeqAt.EqAt A.in1 s us.toArray[j] us'.toArray[j] (decide (ds[j]?=ds'[j]?))):SeqAt.RcAt A s (.ref l) (.ref l') (decide (D.lst ds=D.lst ds')):=by
 rw[zal (show D.lst ds=D.lst ds'↔ds=ds' from⟨fun z=>by cases z;rfl,fun z=>by rw[z]⟩)];by_cases hz:ds.length=ds'.length
 ·have hsz:us.toArray.size=us'.toArray.size:=by simp only[wac];rw[r.length,r'.length,hz]
  have q:=SeqAt.RcAt.lists p p' hsz hu he
  have e1:=zb5 ds ds'
  rw[hz,Nat.min_self,beq_self_eq_true,Bool.and_true,<-hz] at e1;rw[wac,r.length,e1] at q;exact q
 ·have q:=SeqAt.RcAt.lists_lengths p p' (by simp only[wac,r.length,r'.length];simpa using hz) hu
  rw[waw (fun z=>hz (by rw[z]))];exact q
end
theorem zkt:∀(n:Nat) {A:Around}{s:Shared}{u v:Value}{d e:D},depD d<=n->A.units+n<cLine->Rh s.heap u d->Rh s.heap v e->eqOk d e=true->SeqAt.EqAt A s u v (decide (d=e)):=by
 intro n;induction n with
 | zero=>
   intro A s u v d e hn hu ru rv ho;cases ru with
   | non=>exact ziC (by omega) rv ho
   | bl b=>exact zks rv ho
   | int i t=>exact zfW rv ho
   | str x t=>exact ziD rv ho
   | tup p r=>exact absurd hn (wbW _)
   | lst p r=>exact absurd hn (wbW _)
 | succ n ih=>
   intro A s u v d e hn hu ru rv ho;have hu0:A.units<cLine:=by omega
   have he:∀{us us':List Value}{ds ds':List D}(r:RhL s.heap us ds) (r':RhL s.heap us' ds') (hd:depL ds<=n) (ho:zhP ds ds'=true),∀j (h1:j<us.toArray.size) (h2:j<us'.toArray.size),SeqAt.EqAt A.in1 s us.toArray[j] us'.toArray[j] (decide (ds[j]?=ds'[j]?)):=fun {us us' ds ds'} r r' hd ho j h1 h2=>by
    simp only[wac] at h1 h2;have g1:j<ds.length:=by rw[<-r.length];exact h1
    have g2:j<ds'.length:=by rw[<-r'.length];exact h2
    have q:=ih (A:=A.in1) (waq (zeA j g1) hd) (show A.units+1+n<cLine by omega) (r.get j h1 g1) (r'.get j h2 g2) (ze4 ho j g1 g2)
    rw[zkr j g1 g2] at q;exact q
   cases ru with
   | non=>exact ziC hu0 rv ho
   | bl b=>exact zks rv ho
   | int i t=>exact zfW rv ho
   | str x t=>exact ziD rv ho
   | tup p r=>
     rename_i l us ds
     have hd:depL ds<=n:=waY hn
     cases rv with
     | tup p' r'=>
       rename_i l' us' ds'
       by_cases hl:l=l'
       ·subst hl;cases ze3 p p';rw[r.inj r',waH rfl];exact wcE _
       ·exact SeqAt.EqAt.of_refs hl (zpS hu0 p p' r r' (he r r' hd ho))
     | non=>rw[<-zck (fun z=>by cases z)];exact SeqAt.EqAt.tuple_none p hu0
     | bl c=>cases ho
     | int i t=>cases ho
     | str x t=>cases ho
     | lst p' r'=>cases ho
   | lst p r=>
     rename_i l us ds
     have hd:depL ds<=n:=waY hn
     cases rv with
     | lst p' r'=>
       rename_i l' us' ds'
       by_cases hl:l=l'
       ·subst hl;cases zfI p p';rw[r.inj r',waH rfl];exact wcE _
       ·exact SeqAt.EqAt.of_refs hl (zpT hu0 p p' r r' (he r r' hd ho))
     | non=>rw[<-zck (fun z=>by cases z)];exact SeqAt.EqAt.list_none p hu0
     | bl c=>cases ho
     | int i t=>cases ho
     | str x t=>cases ho
     | tup p' r'=>cases ho
end VD
namespace VD
open PySem PySem.Spec PyProof PyProof.Rows L2
section
variable {A:Around}{s:Shared}{u v:Value}{d e:D}
theorem zmh {n:Nat}(hu:A.units+1+n<cLine){us us':List Value}{ds ds':List D}(r:RhL s.heap us ds)(r':RhL s.heap us' ds')(hd:depL ds<=n)(ho:zhP ds ds'=true):∀j (h1:j<us.toArray.size) (h2:j<us'.toArray.size),SeqAt.EqAt A.in1 s us.toArray[j] us'.toArray[j] (decide (ds[j]?=ds'[j]?)):=fun j h1 h2=>by
 simp only[wac] at h1 h2;have g1:j<ds.length:=by rw[<-r.length];exact h1
 have g2:j<ds'.length:=by rw[<-r'.length];exact h2
 have q:=zkt n (A:=A.in1) (waq (zeA j g1) hd) hu (r.get j h1 g1) (r'.get j h2 g2) (ze4 ho j g1 g2)
 rw[zkr j g1 g2] at q;exact q
theorem zpU {n:Nat}(hu:A.units+1+n<cLine)(hn:depD d<=n+1)(ru:Rh s.heap u d)(rv:Rh s.heap v e)(ho:eqOk d e=true):SeqAt.RcAt A s u v (decide (d=e)):=by
 have hu0:A.units<cLine:=by omega
 cases ru with
 | non=>
   cases rv with
   | non=>exact SeqAt.RcAt.none_none
   | bl b=>cases ho
   | int i t=>rw[<-zck (fun z=>by cases z)];exact SeqAt.RcAt.none_int _ _
   | str x t=>rw[<-zck (fun z=>by cases z)];exact SeqAt.RcAt.none_str _ _
   | tup p r=>rw[<-zck (fun z=>by cases z)];exact SeqAt.RcAt.none_tuple p hu0
   | lst p r=>rw[<-zck (fun z=>by cases z)];exact SeqAt.RcAt.none_list p hu0
 | bl b=>
   cases rv with
   | bl c=>rw[zgx];exact SeqAt.RcAt.bool_bool _ _
   | non=>cases ho
   | int i t=>cases ho
   | str x t=>cases ho
   | tup p r=>cases ho
   | lst p r=>cases ho
 | int i t=>
   cases rv with
   | int i t=>rw[zeM];exact SeqAt.RcAt.int_int _ _ _ _
   | non=>rw[<-zck (fun z=>by cases z)];exact SeqAt.RcAt.int_none _ _
   | str x t=>rw[<-zck (fun z=>by cases z)];exact SeqAt.RcAt.int_str _ _ _ _
   | bl b=>cases ho
   | tup p r=>cases ho
   | lst p r=>cases ho
 | str x t=>
   cases rv with
   | str i t=>rw[zeN];exact SeqAt.RcAt.str_str _ _ _ _
   | non=>rw[<-zck (fun z=>by cases z)];exact SeqAt.RcAt.str_none _ _
   | int x t=>rw[<-zck (fun z=>by cases z)];exact SeqAt.RcAt.str_int _ _ _ _
   | bl b=>cases ho
   | tup p r=>cases ho
   | lst p r=>cases ho
 | tup p r=>
   cases rv with
   | tup p' r'=>exact zpS hu0 p p' r r' (zmh hu r r' (waY hn) ho)
   | non=>rw[<-zck (fun z=>by cases z)];exact SeqAt.RcAt.tuple_none p hu0
   | int i t=>cases ho
   | bl b=>cases ho
   | str x t=>cases ho
   | lst p r=>cases ho
 | lst p r=>
   cases rv with
   | lst p' r'=>exact zpT hu0 p p' r r' (zmh hu r r' (waY hn) ho)
   | non=>rw[<-zck (fun z=>by cases z)];exact SeqAt.RcAt.list_none p hu0
   | int i t=>cases ho
   | bl b=>cases ho
   | str x t=>cases ho
   | tup p r=>cases ho
theorem zfu {p:Prop}[Decidable p](h:¬p):true = !decide p:=by rw[waw h];rfl
theorem zmi {n:Nat}(hu:A.units+1+n<cLine)(hn:depD d<=n+1)(ru:Rh s.heap u d)(rv:Rh s.heap v e)(ho:eqOk d e=true):SeqAt.RcNeAt A s u v (!decide (d=e)):=by
 have hu0:A.units<cLine:=by omega
 cases ru with
 | non=>
   cases rv with
   | non=>rw[waH rfl];exact SeqAt.RcNeAt.none_none
   | bl b=>cases ho
   | int i t=>rw[<-zfu (fun z=>by cases z)];exact SeqAt.RcNeAt.none_int _ _
   | str x t=>rw[<-zfu (fun z=>by cases z)];exact SeqAt.RcNeAt.none_str _ _
   | tup p r=>rw[<-zfu (fun z=>by cases z)];exact SeqAt.RcNeAt.none_tuple p hu0
   | lst p r=>rw[<-zfu (fun z=>by cases z)];exact SeqAt.RcNeAt.none_list p hu0
 | bl b=>
   cases rv with
   | bl c=>rw[zgx];exact SeqAt.RcNeAt.bool_bool _ _
   | non=>cases ho
   | int i t=>cases ho
   | str x t=>cases ho
   | tup p r=>cases ho
   | lst p r=>cases ho
 | int i t=>
   cases rv with
   | int i t=>rw[zeM];exact SeqAt.RcNeAt.int_int _ _ _ _
   | non=>rw[<-zfu (fun z=>by cases z)];exact SeqAt.RcNeAt.int_none _ _
   | str x t=>rw[<-zfu (fun z=>by cases z)];exact SeqAt.RcNeAt.int_str _ _ _ _
   | bl b=>cases ho
   | tup p r=>cases ho
   | lst p r=>cases ho
 | str x t=>
   cases rv with
   | str i t=>rw[zeN];exact SeqAt.RcNeAt.str_str _ _ _ _
   | non=>rw[<-zfu (fun z=>by cases z)];exact SeqAt.RcNeAt.str_none _ _
   | int x t=>rw[<-zfu (fun z=>by cases z)];exact SeqAt.RcNeAt.str_int _ _ _ _
   | bl b=>cases ho
   | tup p r=>cases ho
   | lst p r=>cases ho
 | tup p r=>
   cases rv with
   | tup p' r'=>
     rename_i us ds l' us' ds'
     have q:=SeqAt.RcNeAt.tuples p p' hu0 (zmh hu r r' (waY hn) ho)
     rw[wac,wac,r.length,r'.length,zb5] at q;rw[zal (show D.tup ds=D.tup ds'↔ds=ds' from⟨fun z=>by cases z;rfl,fun z=>by rw[z]⟩)];exact q
   | non=>rw[<-zfu (fun z=>by cases z)];exact SeqAt.RcNeAt.tuple_none p hu0
   | int i t=>cases ho
   | bl b=>cases ho
   | str x t=>cases ho
   | lst p r=>cases ho
 | lst p r=>
   cases rv with
   | lst p' r'=>
     rename_i us ds l' us' ds'
     rw[zal (show D.lst ds=D.lst ds'↔ds=ds' from⟨fun z=>by cases z;rfl,fun z=>by rw[z]⟩)];by_cases hz:ds.length=ds'.length
     ·have hsz:us.toArray.size=us'.toArray.size:=by simp only[wac];rw[r.length,r'.length,hz]
      have q:=SeqAt.RcNeAt.lists p p' hsz hu0 (zmh hu r r' (waY hn) ho)
      have e1:=zb5 ds ds'
      rw[hz,Nat.min_self,beq_self_eq_true,Bool.and_true,<-hz] at e1;rw[wac,r.length,e1] at q;exact q
     ·have q:=SeqAt.RcNeAt.lists_lengths p p' (by simp only[wac,r.length,r'.length];simpa using hz) hu0
      rw[waw (fun z=>hz (by rw[z]))];exact q
   | non=>rw[<-zfu (fun z=>by cases z)];exact SeqAt.RcNeAt.list_none p hu0
   | int i t=>cases ho
   | bl b=>cases ho
   | str x t=>cases ho
   | tup p r=>cases ho
end
def eqC (d e:D):Bool:=eqOk d e&&ndD d&&ndD e&&decide (depD d<=40)
def dEqG (neg:Bool)(d e:D):Option D:=if eqC d e=true then some (.bl (if neg then !decide (d=e) else decide (d=e))) else none
def rEqG (K:W.Frag)(neg:Bool):R2:=fun x y H Q=>∃J d e,RpW K H J x d/\RpW K H J y e/\eqC d e=true/\Q (.bl (if neg then !decide (d=e) else decide (d=e))) H
theorem ziE {d e:D}(h:eqC d e=true):eqOk d e=true/\ndD d=true/\ndD e=true/\depD d<=40:=by
 unfold eqC at h;simp only[waj,decide_eq_true_eq] at h;exact⟨h.1.1.1,h.1.1.2,h.1.2,h.2⟩
section
variable {X:Cx}{K:W.Frag}{k:Nat}
theorem zmj (hr:Room k X.A):OpR X (compareOp .Eq) (rEqG X.K false):=by
 intro pins s σ H x y v u Q I rx ry ⟨J,d,e,r1,r2,hc,q⟩;obtain⟨ho,n1,n2,hd⟩:=ziE hc;have:=hr.units
 exact zpU (n:=40) (by omega) (by omega) (r1.rh I n1 rx) (r2.rh I n2 ry) ho _ _ _ _ ⟨.bl _,H,I,rfl,q⟩
theorem zku (hr:Room k X.A):OpR X (compareOp .NotEq) (rEqG X.K true):=by
 intro pins s σ H x y v u Q I rx ry ⟨J,d,e,r1,r2,hc,q⟩;obtain⟨ho,n1,n2,hd⟩:=ziE hc;have:=hr.units
 exact zmi (n:=40) (by omega) (by omega) (r1.rh I n1 rx) (r2.rh I n2 ry) ho _ _ _ _ ⟨.bl _,H,I,rfl,q⟩
theorem zdB (neg:Bool):Im2 K (rEqG K neg) (dEqG neg):=by
 intro H J x y d e d' Q ja hx hy hF w;unfold dEqG at hF;by_cases hc:eqC d e=true
 ·rw[if_pos hc] at hF;cases hF;exact⟨J,d,e,hx,hy,hc,w _ H J (Up.refl ja) (.bl _)⟩
 ·rw[if_neg hc] at hF;cases hF
end
def inC (x:D)(ds:List D):Bool:=ndD x&&ds.all fun y=>eqC y x
def hasK (ks:List Key)(j:Key):Bool:=ks.any fun k=>decide (k=j)
def dInG (neg:Bool):D->D->Option D
 | x,.lst ds=>if inC x ds=true then some (.bl (if neg then !decide (x∈ds) else decide (x∈ds))) else none
 | x,.tup ds=>if inC x ds=true then some (.bl (if neg then !decide (x∈ds) else decide (x∈ds))) else none
 | x,.dct ks _=>(keyD x).bind fun j=>some (.bl (if neg then !hasK ks j else hasK ks j))
 | _,_=>none
def zoi (K:W.Frag)(neg:Bool):R2:=fun x y H Q=>∃J d ds p vs,RpW K H J x d/\y=.ref p/\(SqL K H p vs\/SqT K H p vs)/\RpL K H J vs ds/\inC d ds=true/\Q (.bl (if neg then !decide (d∈ds) else decide (d∈ds))) H
open Classical in
noncomputable def zg7 (h:Heap)(u:Value):D:=if q:∃d,Rh h u d then q.choose else .non
theorem zg8 {h:Heap}{u:Value}{d:D}(r:Rh h u d):zg7 h u=d:=by
 unfold zg7;have q:∃d,Rh h u d:=⟨d,r⟩
 rw[dif_pos q];exact q.choose_spec.inj r
theorem RhL.mem {h:Heap}:∀{us:List Value}{ds:List D},RhL h us ds->∀u∈us,∃d∈ds,Rh h u d
 | _,_,.cons a t,u,hu=>by
   rcases was.mp hu with rfl | hu
   ·exact⟨_,war,a⟩
   ·obtain⟨d,hd,r⟩:=RhL.mem t u hu;exact⟨d,wak _ hd,r⟩
theorem RhL.map {h:Heap}:∀{us:List Value}{ds:List D},RhL h us ds->us.map (zg7 h)=ds
 | _,_,.nil=>rfl
 | _,_,.cons a t=>by rw[wav,zg8 a,RhL.map t]
theorem zhQ:∀{ds:List D},(∀d∈ds,ndD d=true)->ndL ds=true
 | [],_=>rfl
 | d::ds,h=>by
   show(ndD d&&ndL ds)=true
   rw[h d war,zhQ fun e he=>h e (wak _ he)];rfl
theorem zeB {h:Heap}{us:List Value}{ds:List D}(r:RhL h us ds)(x:D):us.toArray.any (fun y=>decide (zg7 h y=x))=decide (x∈ds):=by
 rw[List.any_toArray,<-r.map,waR];simp only[wbK,decide_eq_true_eq,waN]
section
variable {X:Cx}{K:W.Frag}{k:Nat}
theorem zeC {A:Around}{s:Shared}{us:List Value}{ds:List D}{x:Value}{d:D}(hu:A.units+1+40<cLine)(r:RhL s.heap us ds)(rx:Rh s.heap x d)(hc:∀y∈ds,eqC y d=true):∀y,y∈us.toArray->SeqAt.EqAt A.in1 s y x (decide (zg7 s.heap y=d)):=fun y hy=>by
 obtain⟨e,he,re⟩:=r.mem y (by simpa using hy);obtain⟨ho,_,_,hd⟩:=ziE (hc e he);rw[zg8 re];exact zkt 40 (A:=A.in1) hd hu re rx ho
theorem znb {x:D}{ds:List D}(h:inC x ds=true):ndD x=true/\(∀y∈ds,eqC y x=true)/\ndL ds=true:=by
 unfold inC at h;rw[waj,waF] at h;exact⟨h.1,h.2,zhQ fun y hy=>(ziE (h.2 y hy)).2.1⟩
theorem zpV (hr:Room k X.A):OpR X (compareOp .In) (zoi X.K false):=by
 intro pins s σ H x y v u Q I rx ry ⟨J,d,ds,p,vs,r1,e,hq,rl,hc,q⟩;subst e;cases ry;have hu:=hr.units
 obtain⟨n1,hc,n2⟩:=znb hc;rcases hq with hq | hq
 ·obtain⟨its,rv,pl,hz⟩:=I.list hq;refine SeqAt.in_listAt _ pl.isList (zeC (by omega) (rl.rh I n2 rv) (r1.rh I n1 rx) hc) ⟨.bl _,H,I,rfl,?_⟩;rw[zeB (rl.rh I n2 rv)];exact q
 ·obtain⟨its,rv,pl,hz⟩:=I.tuple hq;refine SeqAt.in_tupleAt _ pl (zeC (by omega) (rl.rh I n2 rv) (r1.rh I n1 rx) hc) ⟨.bl _,H,I,rfl,?_⟩;rw[zeB (rl.rh I n2 rv)];exact q
theorem zkv (hr:Room k X.A):OpR X (compareOp .NotIn) (zoi X.K true):=by
 intro pins s σ H x y v u Q I rx ry ⟨J,d,ds,p,vs,r1,e,hq,rl,hc,q⟩;subst e;cases ry;have hu:=hr.units
 obtain⟨n1,hc,n2⟩:=znb hc;rcases hq with hq | hq
 ·obtain⟨its,rv,pl,hz⟩:=I.list hq;refine SeqAt.notIn_listAt _ pl.isList (zeC (by omega) (rl.rh I n2 rv) (r1.rh I n1 rx) hc) ⟨.bl _,H,I,rfl,?_⟩;rw[zeB (rl.rh I n2 rv)];exact q
 ·obtain⟨its,rv,pl,hz⟩:=I.tuple hq;refine SeqAt.notIn_tupleAt _ pl (zeC (by omega) (rl.rh I n2 rv) (r1.rh I n1 rx) hc) ⟨.bl _,H,I,rfl,?_⟩;rw[zeB (rl.rh I n2 rv)];exact q
def rInD (neg:Bool):R2:=fun x y H Q=>∃a ov,y=.ref a/\DGet H a x ov/\Q (.bl (if neg then !ov.isSome else ov.isSome)) H
def rInG (K:W.Frag)(neg:Bool):R2:=fun x y H Q=>zoi K neg x y H Q\/rInD neg x y H Q
theorem zqL (hr:Room k X.A):OpR X (compareOp .In) (rInD false):=by
 intro pins s σ H x y v u Q I rx ry ⟨a,ov,e,g,q⟩;subst e;obtain rfl:u=Value.ref a:=ry;exact d_in (zem hr) I g rx fun s3 I3=>⟨.bl ov.isSome,H,I3,rfl,q⟩
theorem zmk (hr:Room k X.A):OpR X (compareOp .NotIn) (rInD true):=by
 intro pins s σ H x y v u Q I rx ry ⟨a,ov,e,g,q⟩;subst e;obtain rfl:u=Value.ref a:=ry;exact zjT (zem hr) I g rx fun s3 I3=>⟨.bl (!ov.isSome),H,I3,rfl,q⟩
theorem zml (hr:Room k X.A):OpR X (compareOp .In) (rInG X.K false):=(zpV hr).or (zqL hr)
theorem zeD (hr:Room k X.A):OpR X (compareOp .NotIn) (rInG X.K true):=(zkv hr).or (zmk hr)
theorem zkw {kvs:List (Key×V)}{j:Key}:(valV kvs j).isSome=hasK (kvs.map (·.1)) j:=by
 unfold valV hasK;rw[wbV,List.any_map,waR,List.find?_isSome,wbK];rfl
theorem zej (neg:Bool):Im2 K (rInG K neg) (dInG neg):=by
 intro H J x y d e d' Q ja hx hy hF w;cases e with
 | lst ds=>
   have hF:(if inC d ds=true then some (D.bl (if neg then !decide (d∈ds) else decide (d∈ds))) else none)=some d':=hF
   by_cases hc:inC d ds=true
   ·rw[if_pos hc] at hF;cases hF;obtain⟨p,vs,rfl,h1,r1⟩:=hy.lst;exact .inl ⟨J,d,ds,p,vs,hx,rfl,.inl (SqL.of h1),r1,hc,w _ H J (Up.refl ja) (.bl _)⟩
   ·rw[if_neg hc] at hF;cases hF
 | tup ds=>
   have hF:(if inC d ds=true then some (D.bl (if neg then !decide (d∈ds) else decide (d∈ds))) else none)=some d':=hF
   by_cases hc:inC d ds=true
   ·rw[if_pos hc] at hF;cases hF;obtain⟨p,vs,rfl,h1,r1⟩:=hy.tup;exact .inl ⟨J,d,ds,p,vs,hx,rfl,.inr h1,r1,hc,w _ H J (Up.refl ja) (.bl _)⟩
   ·rw[if_neg hc] at hF;cases hF
 | dct ks ds=>
   obtain⟨j,ej,hF⟩:=zaf (show((keyD d).bind fun j=>some (D.bl (if neg then !hasK ks j else hasK ks j)))=some d' from hF);cases hF;obtain⟨p,kvs,vs,rfl,h1,h2,h3,rl⟩:=hy.dct;refine .inr ⟨p,valV kvs j,rfl,?_,?_⟩
   ·rw[zgZ hx ej];exact DGet.k h1
   ·rw[zkw,h2];exact w _ H J (Up.refl ja) (.bl _)
 | _=>cases hF
end
end VD
namespace Mn
open PySem PySem.Spec PyProof PyProof.Rows
open Sem (wp)
def CmpUp (prog:Program)(w:World)(A:Around)(P:Nat->Value->Prop)(bt:Nat->Nat->Bool)(Kp:Heap->Prop)(n:Nat):Prop:=
 ∀j vi vj (s:Shared) (Q:Value->Shared->Prop) (E:Value->Shared->Prop),j+1<n->Kp s.heap->P (j+1) vi->P (argBest bt j) vj->Q (.bool (bt (j+1) (argBest bt j))) s->wpAny (model prog w) A (richCompare .Lt vi vj) Q E s
section
variable {prog:Program}{w:World}{A:Around}{R:Result->Shared->Prop}{I:Addr}{fp wr:List Addr}{n:Nat}{P:Nat->Value->Prop}{St:Nat->Heap->Prop}
theorem zqM (W:Walks prog w A.in1 I fp wr n P St)(bt:Nat->Nat->Bool){Kp:Heap->Prop}(hcmp:CmpUp prog w A.in1 P bt Kp n)(S:Addr)(hSf:S∉fp)(kw:List (Str×Value))
 (hkp:∀h h',(∀b o,b∉wr->b≠S->h.get? b=some o->h'.get? b=some o)->Kp h->Kp h') :
 ∀(k j:Nat) (s:Shared) (vb:Value) (c:Nat),n - (j+1)=k->j+1<=n->Kp s.heap->St (j+1) s.heap->P (argBest bt j) vb->
 s.heap.get? S=some {cls:=.type "list",dict:=none,data:=.seq #[vb,vb] c,slots:=#[]}->
 (∀v h' tk,P (argBest bt (n - 1)) v->(∀b o,b∉wr->b≠S->s.heap.get? b=some o->h'.get? b=some o)->R (.ok (.ret v)) {s with heap:=h',toks:=tk})->
 codeAny (model prog w) A (.builtin "min.loop" ⟨[.ref I,.none,.ref S],kw⟩) R s:=by
 have hSw:S∉wr:=fun h=>hSf (W.sub _ h)
 have hname:(toString "min"++toString ".loop" : String) = "min.loop":=by decide
 intro k;induction k with
 | zero=>
   intro j s vb c hk hj hK hst hPb hS hR;have hin:j+1=n:=by omega
   refine wcF F.entry_min_loop ?_;rw[wcA wbv _];show wpAny _ A.in1 (seqItems? (.ref S) >>= _) _ _ s
   refine wad (wcr hS rfl ?_);show wpAny _ A.in1 (tryCatch (pyNext (.ref I)) _ >>= _) _ _ s
   refine wad (wcs (W.done s _ _ (hin▸hst) fun h' tk hk'=>?_));have hS':=hk' S _ hSw hS
   show wpAny _ A.in1 (updateSeq S (fun _=>#[]) >>= _) _ _ _
   refine wad ?_;refine wpAny_updateSeq hS' rfl (wad (wpAny_letGo (waz ?_)));refine hR vb _ tk (by rw[<-hin];exact hPb) fun b o hbw hbS e=>(waO _ _ (Ne.symm hbS)).trans (hk' b o hbw e)
 | succ k ih=>
   intro j s vb c hk hj hK hst hPb hS hR;have hlt:j+1<n:=by omega
   refine wcF F.entry_min_loop ?_;rw[wcA wbv _];show wpAny _ A.in1 (seqItems? (.ref S) >>= _) _ _ s
   refine wad (wcr hS rfl ?_);show wpAny _ A.in1 (tryCatch (pyNext (.ref I)) _ >>= _) _ _ s
   refine wad (wcs (W.item (j+1) s _ _ hlt hst fun v h' tk hP hst' hk'=>?_));have hS':=hk' S _ hSw hS
   have hK':Kp h':=hkp _ _ (fun b o h1 _ e=>hk' b o h1 e) hK
   show wpAny _ A.in1 (tryCatch (holding [v,v] (richCompare .Lt v vb >>= _)) _ >>= _) _ _ _
   refine wad (wcs (wca (wad (hcmp j v vb _ _ _ hlt hK' hP hPb ?_))));refine wad (wca (wbT ?_));refine wad (wpAny_letGo (waz ?_));cases hb:bt (j+1) (argBest bt j) with
   | true=>
     simp only[if_true];refine wad ?_;refine wpAny_updateSeq hS' rfl (wad (wpAny_letGo ?_));rw[hname];refine waz ⟨plainId_quiet wbv _,ih (j+1) _ v _ (by omega) hlt (hkp _ _ (fun b o _ hbS e=>(waO _ _ (Ne.symm hbS)).trans e) hK') (W.frame _ _ _ hst' fun b hbf o e=>?_) (by simp only[argBest,hb,if_true];exact hP) (wbQ _ hS' rfl)
      fun v' h'' tk'' hP' hk''=>?_⟩
     ·exact(waO _ _ (fun h:S=b=>hSf (by rw[h];exact hbf))).trans e
     ·exact hR v' h'' tk'' hP' fun b o hbw hbS e=>hk'' b o hbw hbS ((waO _ _ (Ne.symm hbS)).trans (hk' b o hbw e))
   | false=>
     simp only[wby,if_false];refine wad (wpAny_letGo ?_);rw[hname];refine waz ⟨plainId_quiet wbv _,ih (j+1) _ vb c (by omega) hlt hK' hst' (by simp only[argBest,hb,wby,if_false];exact hPb) hS' fun v' h'' tk'' hP' hk''=>?_⟩;exact hR v' h'' tk'' hP' fun b o hbw hbS e=>hk'' b o hbw hbS (hk' b o hbw e)
theorem zpW (W:Walks prog w A.in1 I fp wr n P St)(bt:Nat->Nat->Bool){Kp:Heap->Prop}(hcmp:CmpUp prog w A.in1 P bt Kp n)(S:Addr)(hSf:S∉fp)(kw:List (Str×Value))
 (hkp:∀h h',(∀b o,b∉wr->b≠S->h.get? b=some o->h'.get? b=some o)->Kp h->Kp h') {s:Shared}{c:Nat}(hK:Kp s.heap) (hst:St 0 s.heap)
 (hS:s.heap.get? S=some {cls:=.type "list",dict:=none,data:=.seq #[] c,slots:=#[]}) (hn:0<n\/n=0/\∃d:Value,kw = [(("default" : Str),d)]/\∀h' tk,(∀b o,b∉wr->b≠S->s.heap.get? b=some o->h'.get? b=some o)->R (.ok (.ret d)) {s with heap:=h',toks:=tk})
 (hR:0<n->∀v h' tk,P (argBest bt (n - 1)) v->(∀b o,b∉wr->b≠S->s.heap.get? b=some o->h'.get? b=some o)->R (.ok (.ret v)) {s with heap:=h',toks:=tk}) :
 codeAny (model prog w) A (.builtin "min.loop" ⟨[.ref I,.none,.ref S],kw⟩) R s:=by
 have hSw:S∉wr:=fun h=>hSf (W.sub _ h)
 have hname:(toString "min"++toString ".loop" : String) = "min.loop":=by decide
 refine wcF F.entry_min_loop ?_;rw[wcA wbv _];show wpAny _ A.in1 (seqItems? (.ref S) >>= _) _ _ s
 refine wad (wcr hS rfl ?_);show wpAny _ A.in1 (tryCatch (pyNext (.ref I)) _ >>= _) _ _ s
 rcases hn with hn | ⟨hn,d,rfl,hR0⟩
 case inr=>
  refine wad (wcs (W.done s _ _ (by rw[hn];exact hst) fun h' tk hk'=>?_));refine wad (wpAny_rule (waz ?_));exact hR0 h' tk fun b o hbw _ e=>hk' b o hbw e
 refine wad (wcs (W.item 0 s _ _ (by omega) hst fun v h' tk hP hst' hk'=>?_));have hS':=hk' S _ hSw hS
 have hK':Kp h':=hkp _ _ (fun b o h1 _ e=>hk' b o h1 e) hK
 show wpAny _ A.in1 (updateSeq S (fun _=>#[v,v]) >>= _) _ _ _
 refine wad ?_;refine wpAny_updateSeq hS' rfl ?_;rw[hname];refine waz ⟨plainId_quiet wbv _,zqM W bt hcmp S hSf kw hkp _ 0 _ v _ rfl (by omega) (hkp _ _ (fun b o _ hbS e=>(waO _ _ (Ne.symm hbS)).trans e) hK') (W.frame _ _ _ hst' fun b hbf o e=>?_) hP (wbQ _ hS' rfl) fun v' h'' tk'' hP' hk''=>?_⟩
 ·exact(waO _ _ (fun h:S=b=>hSf (by rw[h];exact hbf))).trans e
 ·exact hR hn v' h'' tk'' hP' fun b o hbw hbS e=>hk'' b o hbw hbS ((waO _ _ (Ne.symm hbS)).trans (hk' b o hbw e))
end
section
variable {prog:Program}{w:World}{A:Around}{E:Value->Shared->Prop}{s:Shared}
theorem call_min1K {l:Addr}{items:Array Value}{Q:Value->Shared->Prop}(hh:A.handled=none)(hl:s.heap.IsList l items)(bt:Nat->Nat->Bool){Kp:Heap->Prop}(hcmp:CmpUp prog w A.in1 (fun i v=>items[i]?=some v) bt Kp items.size)(hn:0<items.size)(hK:Kp s.heap)
 (hkp:∀h h',(∀b o,b<s.heap.objs.size->h.get? b=some o->h'.get? b=some o)->Kp h->Kp h')
 (h1:∀v h' tk,items[argBest bt (items.size - 1)]?=some v->(∀b o,s.heap.get? b=some o->h'.get? b=some o)->Q v {s with heap:=h',toks:=tk}) :
 wpAny (model prog w) A (call (.builtin "min") [.ref l]) Q E s:=by
 have hname:(toString "min"++toString ".loop" : String) = "min.loop":=by decide
 have hlt:l<s.heap.objs.size:=by obtain⟨_,e,_⟩:=hl;exact wax e
 refine call_function_tree F.kind_min F.plain_min F.entry_min (F.args_min1 _) ?_;show wpAny _ A.in1 (Builtin.Builtins.bindParams "min" ["key","default"] 0 ⟨[],[]⟩ >>= _) _ _ s
 refine wad (wpAny_of_eq (show Builtin.Builtins.bindParams "min" ["key","default"] 0 ⟨[],[]⟩=pure [none,none] from rfl) ?_);refine wad (waz ?_);refine wad (wpAny_pyIter_list hl ?_);refine wad (wbi ?_);rw[hname];have hz:(s.heap.push {cls:=.type "list_iterator",data:=.fields #[.ref l,.int 0 0]}).objs.size=s.heap.objs.size+1:=wcI ..
 have hS1:(s.heap.push {cls:=.type "list_iterator",data:=.fields #[.ref l,.int 0 0]}).objs.size≠s.heap.objs.size:=by rw[hz];exact Nat.succ_ne_self _
 have hS2:∀b,b<s.heap.objs.size->b≠(s.heap.push {cls:=.type "list_iterator",data:=.fields #[.ref l,.int 0 0]}).objs.size:=fun b hb z=>by
  rw[z,hz] at hb;exact absurd hb (Nat.not_lt_of_lt (Nat.lt_succ_self _))
 have up:∀b o,s.heap.get? b=some o->((s.heap.push {cls:=.type "list_iterator",data:=.fields #[.ref l,.int 0 0]}).push {cls:=.type "list",dict:=none,data:=.seq ([]:List Value).toArray}).get? b=some o:=fun b o e=>wah _ (wah _ e)
 refine waz ⟨plainId_quiet wbv _,zpW (c:=0) (Walks.list (A:=A.in1) hh s.heap.objs.size l (waL hlt) items) bt hcmp ((s.heap.push {cls:=.type "list_iterator",data:=.fields #[.ref l,.int 0 0]}).objs.size) ?_ _ (fun h h' hk=>hkp h h' fun b o hb e=>hk b o ?_ ?_ e) ?_ ?_ ?_ (.inl hn) fun _=>?_⟩
 ·intro z;rcases was.mp z with z | z
  ·exact hS1 z
  ·exact hS2 _ hlt (waf.mp z).symm
 ·intro z;exact absurd hb (by rw[waf.mp z];exact waQ _)
 ·exact hS2 _ hb
 ·exact hkp _ _ (fun b o _ e=>up b o e) hK
 ·exact⟨⟨_,wah _ (waA _ rfl),rfl,rfl⟩,(hl.push _).push _⟩
 ·exact waA (s.heap.push {cls:=.type "list_iterator",data:=.fields #[.ref l,.int 0 0]}) (o:={cls:=.type "list",dict:=none,data:=.seq ([]:List Value).toArray}) rfl
 ·intro v h' tk hP hk;exact h1 v h' tk hP fun b o e=>hk b o (fun z=>absurd (wax e) (by rw[waf.mp z];exact waQ _)) (hS2 _ (wax e)) (up b o e)
end
end Mn
namespace VD
open PySem PySem.Spec PyProof PyProof.Rows L2
mutual
def ltD:D->D->Option Bool
 | .int a,.int b=>some (decide (a<b))
 | .tup xs,.tup ys=>ltL xs ys
 | _,_=>none
def ltL:List D->List D->Option Bool
 | [],[]=>some false
 | x::xs,y::ys=>if eqOk x y=true then(if x=y then ltL xs ys else if xs.length=ys.length then ltD x y else none) else none
 | _,_=>none
end
def RlAt (A:Around)(s:Shared)(u v:Value)(b:Bool):Prop:=∀(prog:Program) (w:World) (E:Value->Shared->Prop) (Q:Value->Shared->Prop),Q (.bool b) s->wpAny (model prog w) A (richCompare .Lt u v) Q E s
theorem znc:∀(n:Nat) {A:Around}{s:Shared}{u v:Value}{d e:D}{b:Bool},depD d<=n->A.units+n<cLine->Rh s.heap u d->Rh s.heap v e->ltD d e=some b->RlAt A s u v b:=by
 intro n;induction n with
 | zero=>
   intro A s u v d e b hn hu ru rv h;cases ru with
   | int i t=>
     cases rv with
     | int j r=>cases h;exact fun prog w E Q q=>PyProof.Rows.lt_int q
     | _=>cases h
   | tup p r=>exact absurd hn (wbW _)
   | lst p r=>exact absurd hn (wbW _)
   | _=>cases h
 | succ n ih=>
   intro A s u v d e b hn hu ru rv h;cases ru with
   | int i t=>
     cases rv with
     | int j r=>cases h;exact fun prog w E Q q=>PyProof.Rows.lt_int q
     | _=>cases h
   | tup p r=>
     rename_i l us ds
     have hd:depL ds<=n:=waY hn
     cases rv with
     | tup p' r'=>
       rename_i l' us' ds'
       have key:∀{us us':List Value}{ds ds':List D},RhL s.heap us ds->RhL s.heap us' ds'->depL ds<=n->ltL ds ds'=some b->Mn.CmpV A.in1 s us us' b:=by
        intro us us' ds;induction ds generalizing us us' with
        | nil=>
          intro ds' r r' hd h;cases ds' with
          | nil=>cases r;cases r';cases h;exact .nil
          | cons y ys=>cases h
        | cons x xs ih2=>
          intro ds' r r' hd h;cases ds' with
          | nil=>cases h
          | cons y ys=>
            cases r with
            | cons a t=>
              cases r' with
              | cons a' t'=>
                have h:(if eqOk x y=true then(if x=y then ltL xs ys else if xs.length=ys.length then ltD x y else none) else none)=some b:=h
                have hx:depD x<=n:=waq (Nat.le_max_left _ _) hd
                split at h
                ·rename_i ho
                 have eq:=zkt n (A:=A.in1) hx (show A.units+1+n<cLine by omega) a a' ho
                 split at h
                 ·rename_i exy
                  rw[waH exy] at eq;exact .same eq (ih2 t t' (waq (Nat.le_max_right _ _) hd) h)
                 ·rename_i exy
                  rw[waw exy] at eq;split at h
                  ·rename_i hl
                   exact .here eq (by rw[t.length,t'.length];exact hl) (ih (A:=A.in1) hx (show A.units+1+n<cLine by omega) a a' h)
                  ·cases h
                ·cases h
       have cv:=key r r' hd h
       intro prog w E Q q;obtain⟨⟨cls,dd,data,sl⟩,ho,hc,k,hdt⟩:=id p;obtain⟨⟨cls2,dd2,data2,sl2⟩,ho2,hc2,k2,hdt2⟩:=id p';simp only at hc hdt hc2 hdt2;subst hc hdt hc2 hdt2;exact richCompare_meets_room (op:=.Lt) ⟨_,ho,rfl⟩ ⟨_,ho2,rfl⟩ PySem.F.slot_tuple_lt PySem.F.entry_tuple_lt (PySem.F.args_tuple_lt_2 _ _) (Mn.lt_tuple l l' us.toArray us'.toArray k k2 dd dd2 sl sl2 b)
        ⟨ho,ho2,by simpa using cv,show Value.bool _≠Value.notImplemented/\Q (.bool _) s from⟨(fun x=>nomatch x),q⟩⟩ (by omega)
     | _=>cases h
   | _=>cases h
def zde (lt:Nat->Nat->Option Bool):Nat->Option Nat
 | 0=>some 0
 | k+1=>(zde lt k).bind fun m=>(lt (k+1) m).bind fun b=>some (if b then k+1 else m)
def ltIx (xs:List D)(a b:Nat):Option Bool:=(xs[a]?).bind fun x=>(xs[b]?).bind fun y=>ltD x y
def minL (xs:List D):Option D:=if xs = [] then none else(zde (ltIx xs) (xs.length - 1)).bind fun i=>xs[i]?
def minC (xs:List D):Bool:=ndL xs&&decide (depL xs<=40)
def zmm:List D->Option D
 | [.lst xs]=>if minC xs=true then minL xs else none
 | _=>none
def btOf (xs:List D)(a b:Nat):Bool:=(ltIx xs a b).getD false
theorem zdC {lt:Nat->Nat->Option Bool}:∀{k i:Nat},zde lt k=some i->i<=k
 | 0,i,h=>by cases h;exact wae _
 | k+1,i,h=>by
   obtain⟨m,e,h⟩:=zaf h;obtain⟨b,e2,h⟩:=zaf h;have:=zdC e
   cases h;split <;> omega
theorem zd1 {xs:List D}:∀{k i:Nat},zde (ltIx xs) k=some i->argBest (btOf xs) k=i/\∀j,j<k->∃b,ltIx xs (j+1) (argBest (btOf xs) j)=some b
 | 0,i,h=>by cases h;exact⟨rfl,fun j hj=>by omega⟩
 | k+1,i,h=>by
   obtain⟨m,e,h⟩:=zaf h;obtain⟨b,e2,h⟩:=zaf h;obtain⟨g1,g2⟩:=zd1 e;cases h;refine⟨?_,fun j hj=>?_⟩
   ·unfold argBest;rw[g1];unfold btOf;rw[e2];rfl
   ·by_cases hjk:j=k
    ·subst hjk;rw[g1];exact⟨b,e2⟩
    ·exact g2 j (by omega)
theorem zoj {xs:List D}(h:minC xs=true):ndL xs=true/\depL xs<=40:=by
 unfold minC at h;rw[waj,decide_eq_true_eq] at h;exact h
def zpX (K:W.Frag):List V->Hp->VK->Prop:=fun xs H Q=>∃J l vs ds i y,xs = [.ref l]/\SqL K H l vs/\RpL K H J vs ds/\minC ds=true/\ds≠[]/\zde (ltIx ds) (ds.length - 1)=some i/\vs[i]?=some y/\Q y H
section
variable {X:Cx}{K:W.Frag}{k:Nat}
theorem Rh.heap {h h':Heap}(hk:∀b o,h.get? b=some o->h'.get? b=some o){u:Value}{d:D}:Rh h u d->Rh h' u d:=by
 have tp:∀{l:Addr}{us:Array Value},h.IsTuple l us->h'.IsTuple l us:=fun⟨o,e,r⟩ =>⟨o,hk _ _ e,r⟩
 have ls:∀{l:Addr}{us:Array Value},h.IsList l us->h'.IsList l us:=fun⟨o,e,r⟩ =>⟨o,hk _ _ e,r⟩
 intro r;refine Rh.rec (motive_1:=fun u d _=>Rh h' u d) (motive_2:=fun us ds _=>RhL h' us ds) .non .bl .int .str (fun p _ q=>.tup (tp p) q) (fun p _ q=>.lst (ls p) q) .nil (fun _ _ a b=>.cons a b) r
theorem RhL.getO {h:Heap}{us:List Value}{ds:List D}(r:RhL h us ds){i:Nat}{u:Value}(e:us[i]?=some u):∃d,ds[i]?=some d/\Rh h u d:=by
 obtain⟨hi,rfl⟩:=wab.mp e;have hj:i<ds.length:=by rw[<-r.length];exact hi
 exact⟨_,waa hj,r.get i hi hj⟩
theorem zok {A:Around}{s:Shared}{its:List Value}{ds:List D}{i:Nat}(hu:A.units+40<cLine)(r:RhL s.heap its ds)(hd:depL ds<=40)(hm:zde (ltIx ds) (ds.length - 1)=some i) :
 Mn.CmpUp prog w A (fun i v=>its.toArray[i]?=some v) (btOf ds) (fun hp=>∀b o,s.heap.get? b=some o->hp.get? b=some o) its.toArray.size:=fun j vi vj s' Q E hj hK h1 h2 q=>by
 have h1:its[j+1]?=some vi:=by simpa using h1
 have h2:its[argBest (btOf ds) j]?=some vj:=by simpa using h2
 obtain⟨d1,e1,r1⟩:=r.getO h1;obtain⟨d2,e2,r2⟩:=r.getO h2;have hlen:=r.length
 obtain⟨b,hb⟩:=(zd1 hm).2 j (by rw[wac] at hj;omega);have hb2:=hb
 unfold ltIx at hb2;rw[e1,zOB,e2,zOB] at hb2;have hl1:depD d1<=40:=by
  obtain⟨g,rfl⟩:=wab.mp e1;exact waq (zeA _ g) hd
 have q:Q (.bool b) s':=by
  have:btOf ds (j+1) (argBest (btOf ds) j)=b:=by show(ltIx ds (j+1) (argBest (btOf ds) j)).getD false=b;rw[hb];rfl
  rw[this] at q;exact q
 exact znc 40 hl1 hu (r1.heap hK) (r2.heap hK) hb2 prog w E Q q
theorem zkx (hr:Room k X.A):zdV X (.builtin "min") (zpX X.K):=by
 intro pins s σ H xs us Q I r h;obtain⟨J,l,vs,ds,i,y,rfl,hs,rl,hc,hne,hm,hy,q⟩:=h;obtain⟨u,rfl,ru⟩:=zfV r;obtain rfl:u=Value.ref l:=ru;obtain⟨its,rv,pl,hz⟩:=I.list hs;obtain⟨n1,hd⟩:=zoj hc;have rh:=rl.rh I n1 rv
 have hlen:=rh.length
 have hu:=hr.units
 have hpos:0<ds.length:=wbX.mpr hne
 refine Mn.call_min1K (A:=X.A) (items:=its.toArray) hr.hd pl.isList (btOf ds) (zok (A:=X.A.in1) (show X.A.units+1+40<cLine by omega) rh hd hm) (by rw[wac];omega) (fun b o e=>e) (fun h h' hk' hK b o e=>hk' b o (wax e) (hK b o e)) ?_;intro v h' tk' hv kk;rw[wac,hlen,(zd1 hm).1] at hv;have hv':its[i]?=some v:=by simpa using hv
 obtain⟨v',e1,r1⟩:=rv.get hy;rw[hv'] at e1;cases e1;exact⟨y,H,I.kept (t':=tk') kk,r1,q⟩
theorem zol:ImC K (zpX K) zmm:=by
 intro H J vs ds d Q ja r hF w;match ds,r,hF with
 | [.lst xs],r,hF=>
   obtain⟨v,rfl,rr⟩:=r.one;obtain⟨p,us,rfl,h1,rl⟩:=rr.lst;have hF:(if minC xs=true then minL xs else none)=some d:=hF
   split at hF
   ·rename_i hc
    unfold minL at hF;split at hF
    ·cases hF
    ·rename_i hne
     obtain⟨i,e,hF⟩:=zaf hF;obtain⟨y,hy,ry⟩:=rl.get hF;exact⟨J,p,us,xs,i,y,rfl,SqL.of h1,rl,hc,hne,e,hy,w y H J (Up.refl ja) ry⟩
   ·cases hF
end
end VD
namespace VD
open PySem PySem.Spec PyProof PyProof.Rows L2
section
variable {X:Cx}{K:W.Frag}{k:Nat}
end
def EvX {S:Type}(f:FX)(ρ:En)(x:Option (D×S))(emb:S->En):Prop:=∀q,x=some q->f ρ=some (q.1,emb q.2)
def EvAX {S:Type}(f:FAX)(ρ:En)(x:Option (List D×S))(emb:S->En):Prop:=∀q,x=some q->f ρ=some (q.1,emb q.2)
def EvR {S:Type}(f:FR)(ρ:En)(x:Option (RV×S))(emb:S->En):Prop:=∀q,x=some q->f ρ=some (q.1,emb q.2)
def EvAG {S:Type}(f:FAG)(ρ:En)(x:Option (List (Option D)×S))(emb:S->En):Prop:=∀q,x=some q->f ρ=some (q.1,emb q.2)
section
variable {S:Type}{emb:S->En}{ρ:En}{s:S}{f g:FX}{x:Option (D×S)}{y:D×S->Option (D×S)}{e:FE}
theorem zpY {fr:FR}{xr:Option (RV×S)}(h1:EvR fr ρ xr emb):EvX (xR fr) ρ (xr.bind fun q=>some (q.1.d,q.2)) emb:=fun q z=>by
 obtain⟨a,e0,z⟩:=zaf z;cases z;unfold xR;rw[h1 a e0];rfl
theorem zpZ {fl:FA}(h:emb s=ρ):EvAX (xA fl) ρ ((fl ρ).bind fun d=>some (d,s)) emb:=fun q z=>by
 obtain⟨d,e0,z⟩:=zaf z;cases z;unfold xA;rw[e0,<-h];rfl
def zqN {S:Type}(F:List D->Option (RV×List D))(ks:List (Option Nat))(p n:Nat)(get:S->D)(put:S->D->S)(x:Option (List (Option D)×S)):Option (RV×S):=x.bind fun q=>if q.1.map (agK n)=ks then(F (q.1.map fun o=>o.getD (get q.2))).bind fun r=>(r.2[p]?).bind fun e=>some (r.1,put q.2 e) else none
theorem zqg {ks:List (Option Nat)}{p i n:Nat}{F:List D->Option (RV×List D)}{fg:FAG}{xg:Option (List (Option D)×S)}{get:S->D}{put:S->D->S}(h:EvAG fg ρ xg emb)(hg:∀s,ownD ((emb s)[i]?)=some (n,get s))(hp:∀s e,setO (emb s) i e=emb (put s e)):EvR (xCallG ks p i n F fg) ρ (zqN F ks p n get put xg) emb:=fun q z=>by
 obtain⟨a,e0,z⟩:=zaf z;split at z
 ·rename_i hk
  obtain⟨r,e1,z⟩:=zaf z;obtain⟨e,e2,z⟩:=zaf z;cases z;unfold xCallG;rw[h a e0,zOB];show(if a.1.map (agK n)=ks then match ownD ((emb a.2)[i]?) with
   | some (m,d)=>if m=n then(F (a.1.map fun o=>o.getD d)).bind fun r=>(r.2[p]?).bind fun e=>some (r.1,setO (emb a.2) i e) else none
   | none=>none
   else none)=_
  rw[if_pos hk,hg];show(if n=n then(F (a.1.map fun o=>o.getD (get a.2))).bind fun r=>(r.2[p]?).bind fun e=>some (r.1,setO (emb a.2) i e) else none)=_
  rw[if_pos rfl,e1,zOB,e2,zOB,hp]
 ·cases z
def zmn {S:Type}(F:List D->Option (RV×List D))(put:D->S)(as:List D):Option (RV×S):=(F as).bind fun r=>(r.2[0]?).bind fun e=>some (r.1,put e)
theorem zky {ks:List (Option Nat)}{i n:Nat}{F:List D->Option (RV×List D)}{fg:FAG}{as:List (Option D)}{d:D}{put:D->S}(h:fg ρ=some (as,ρ))(hk:as.map (agK n)=ks)(hg:ownD (ρ[i]?)=some (n,d))(hp:∀e,setO ρ i e=emb (put e)):EvR (xCallG ks 0 i n F fg) ρ (zmn F put (as.map fun o=>o.getD d)) emb:=fun q z=>by
 obtain⟨r,e1,z⟩:=zaf z;obtain⟨e,e2,z⟩:=zaf z;cases z;unfold xCallG;rw[h,zOB];show(if as.map (agK n)=ks then match ownD (ρ[i]?) with
  | some (m,d)=>if m=n then(F (as.map fun o=>o.getD d)).bind fun r=>(r.2[0]?).bind fun e=>some (r.1,setO ρ i e) else none
  | none=>none
  else none)=_
 rw[if_pos hk,hg];show(if n=n then(F (as.map fun o=>o.getD d)).bind fun r=>(r.2[0]?).bind fun e=>some (r.1,setO ρ i e) else none)=_
 rw[if_pos rfl,e1,zOB,e2,zOB,hp]
theorem zkz {ks:List (Option Nat)}{F:List D->Option (RV×List D)}{fa:FAX}{xa:Option (List D×S)}(h:EvAX fa ρ xa emb):EvR (xCallN ks F fa) ρ (xa.bind fun q=>(F q.1).bind fun r=>if q.1.length=ks.length then some (r.1,q.2) else none) emb:=fun q z=>by
 obtain⟨a,e0,z⟩:=zaf z;obtain⟨r,e1,z⟩:=zaf z;split at z
 ·rename_i hl
  cases z;unfold xCallN;rw[h a e0,zOB];show((F a.1).bind fun r=>if a.1.length=ks.length then some (r.1,emb a.2) else none)=_
  rw[e1,zOB,if_pos hl]
 ·cases z
theorem zom {i:Nat}(h:EvX f ρ x emb)(hi:∀s,okS i (emb s)=true):Step (gSetX i f) ρ x fun q=>(emb q.2).set i (.val q.1):=fun q z=>by
 unfold gSetX;rw[h q z,zOB];exact if_pos (zfH (hi q.2))
section
variable {R A:Type}{k:Out->Option R}{φ:A->Option R}{a b g':FS}
end
end
section
variable {S S0 α A R:Type}{emb:S->En}{emb0:S0->En}{ρ:En}{fi:FAX}{b g:FS}{tg:FG}{xa:Option (List D×S0)}{ini:S0->S}
theorem zmo (h:EvAX fi ρ xa emb0){q:List D×S0}(e:xa=some q):gForX fi tg b ρ=gFor (fun _=>some q.1) tg b (emb0 q.2):=by
 unfold gForX gFor;rw[h q e];rfl
theorem zmp {i:Nat}{k:Out->Option R}{φ:A->Option R}{step:S->D->Option (Fl S A)}{K:S->Option A}(h:EvAX fi ρ xa emb0)(h0:∀s,emb (ini s)=emb0 s)(hi:∀s,okS i (emb s)=true)(hb:∀s d,EvS (kR k) (fR φ emb) b ((emb s).set i (.val d)) (step s d))(hk:∀s,EvS k φ g (emb s) (K s)) :
 EvS k φ (gSeq (gForX fi (gN i) b) g) ρ (xa.bind fun q=>(zd0 step (ini q.2) q.1).bind (flK K)):=fun r z=>by
 obtain⟨v,z,z2⟩:=zaf z;obtain⟨q,e,z⟩:=zaf z;have:=zhO (fi:=fun _=>some q.1) (h0 q.2) hi hb hk r (by rw[zOB,z];exact z2)
 unfold gSeq at *;rw[zmo h e];exact this
theorem zmq {f:FX}{x0:Option (D×S0)}(h:EvX f ρ x0 emb0):EvAX (axSeq f) ρ (x0.bind fun q=>(dSeq q.1).bind fun ds=>some (ds,q.2)) emb0:=fun q z=>by
 obtain⟨a,e0,z⟩:=zaf z;obtain⟨ds,e1,z⟩:=zaf z;cases z;unfold axSeq;rw[h a e0,zOB];show((dSeq a.1).bind fun ds=>some (ds,emb0 a.2))=_
 rw[e1];rfl
end
def kG (ks:List (Option Nat)):Out->Option (RV×List D)
 | .ret r ρ=>(outSl ks ρ).bind fun es=>some (r,es)
 | .nx ρ=>(outSl ks ρ).bind fun es=>some (.told .non,es)
 | _=>none
section
variable {P:Program}{w:World}{K:W.Frag}{mg:Str->Option Value}{base:Heap}
theorem zon {x qual:Str}{st:Stmt}{f:Addr}{fd:FuncData}{N ps:List Str}{k:Nat}{c:List D->Option (RV×List D)}(ks:List (Option Nat))(F:Fun K x qual st f fd)(S:FnScope N ps (zae st))(hks:ks.length=ps.length)
 (hbody:∀(cdv:Value) (A:Around) (outer:List Env) (s:Shared) (H:Hp) (E:XK),Room k (A.deeper (envOfC qual (zae st) s.heap.objs.size f cdv))->∃g,VSs (cxOf CX0 P w K mg base N qual (zae st) f cdv A outer s H E).nox (zbv st) g/\∀ds,ds.length=ks.length->EvS (kG ks) some g (inSl ks ds++List.replicate (N.length - ks.length) .un) (c ds)) :
 FnOk P w K mg base CX0 (k+1) f fd ps (spG K ks c):=by
 refine F.ok S (fun vs H Q E h=>?_) (fun cdv A outer s H vs Q E hr h=>?_)
 ·obtain⟨J,ds,r,es,fp,ja,a,e,w⟩:=h;rw[a.l1,hks]
 ·obtain⟨J,ds,r,es,fp,ja,a,e,w⟩:=h;obtain⟨g,⟨t,p,q⟩,ev⟩:=hbody cdv A outer s H E hr;refine⟨t,p,?_⟩;have s0:=zgY (N:=N) ja a
  have e:=ev ds a.l2 (r,es) (by rw[e];rfl)
  cases z:g (inSl ks ds++List.replicate (N.length - ks.length) .un) with
  | none=>rw[z] at e;cases e
  | some o=>
    rw[z] at e;refine q H J _ _ _ H J o _ s0 z ?_;cases o with
    | nx ρ'=>
      obtain⟨es',e1,e⟩:=bind_some (show((outSl ks ρ').bind fun es=>some (RV.told D.non,es))=some (r,es) from e);cases e;intro σ' H' J' s' k';obtain⟨fp',pg⟩:=zl0 (v:=.non) (r:=.told .non) a s' .non e1;exact w _ _ _ _ pg
    | ret r' ρ'=>
      obtain⟨es',e1,e⟩:=bind_some (show((outSl ks ρ').bind fun es=>some (r',es))=some (r,es) from e);cases e;intro v σ' H' J' s' q';obtain⟨fp',pg⟩:=zl0 a s' q' e1;exact w _ _ _ _ pg
    | bk _=>cases e
    | ct _=>cases e
end
def g1 (b:D->Option (RV×List D)):List D->Option (RV×List D) | [x]=>b x | _=>none
def g2 (b:D->D->Option (RV×List D)):List D->Option (RV×List D) | [x,y]=>b x y | _=>none
def g3 (b:D->D->D->Option (RV×List D)):List D->Option (RV×List D) | [x,y,z]=>b x y z | _=>none
section
variable {R:Type}{k:Out->Option R}{φ:RV×List D->Option R}{g:FS}{n:List SV}{ks:List (Option Nat)}
theorem zqO {b:D->Option (RV×List D)}(h:∀x,EvS k φ g (inSl ks [x]++n) (b x)):∀ds:List D,ds.length=1->EvS k φ g (inSl ks ds++n) (g1 b ds)
 | [x],_=>h x
end
section
variable {X:Cx}{K:W.Frag}{k:Nat}
end
end VD
local macro_rules | `(tactic| simp [VDS]) => `(tactic| simp [VD.runF,VD.outF,VD.runG,VD.outG,VD.inSl,VD.outSl,VD.gSeq,VD.gEx,VD.gSet,VD.gAsg,VD.gIf,VD.gRet,VD.gNx,VD.gNo,VD.gOwn,VD.gFrz,VD.frzE,VD.gFor,VD.gWhile,VD.gRetO,VD.gSetX,VD.gOwnR,VD.gRetX,VD.gIfX,VD.gForX,VD.eVar,VD.eRd,VD.eK,VD.e1,VD.e2,VD.e3,VD.eIf,VD.eNot,VD.eTup,VD.eL,VD.eCall,VD.aNil,VD.aCons,VD.aMk,VD.t1,VD.tT,VD.tNotF,VD.tAndF,VD.tOrF,VD.tTrue,VD.dB,VD.dTru,VD.gN,VD.gT,VD.gNil',VD.gCons',VD.isPar,VD.dSub,VD.dLt,VD.dGt,VD.dGe,VD.dI0,VD.dI,VD.dFdiv,VD.dMod,VD.dPow,VD.dAdd,VD.mkT,VD.mkL,VD.aSeq,VD.dSeq,VD.eSl,VD.oN,VD.oS,VD.dInt,VD.dIs,VD.bLen,VD.bMax,VD.bMin,VD.bInt,VD.bList,VD.bTuple,VD.aRng1,VD.a1Int,VD.aEnum,VD.a1Tup,VD.dNeg,VD.aRev,VD.dLst,VD.aRevR,VD.xE,VD.xT,VD.xA,VD.xR,VD.RV.d,VD.x2,VD.xt1,VD.xtAnd,VD.axNil,VD.axCons,VD.xTup,VD.xLst,VD.x1,VD.xCall,VD.agNil,VD.agOwn,VD.agX,VD.agK,VD.xCallG,VD.xCallN,VD.ownD,VD.putD,VD.setO,VD.keyD,VD.dGet,VD.dLook,VD.putKD,VD.gPutD,VD.gPutL,VD.gApp,VD.gExt,VD.isL1,VD.gAppN2,VD.isL2,VD.eIx2,VD.gPut22,VD.xNil2,VD.xDnew,VD.axRng1,VD.axSeq,VD.xtTrue,Option.bind_some,Option.bind_none])
local macro_rules | `(tactic| simp [VDS,$as,*]) => `(tactic| simp [VD.runF,VD.outF,VD.runG,VD.outG,VD.inSl,VD.outSl,VD.gSeq,VD.gEx,VD.gSet,VD.gAsg,VD.gIf,VD.gRet,VD.gNx,VD.gNo,VD.gOwn,VD.gFrz,VD.frzE,VD.gFor,VD.gWhile,VD.gRetO,VD.gSetX,VD.gOwnR,VD.gRetX,VD.gIfX,VD.gForX,VD.eVar,VD.eRd,VD.eK,VD.e1,VD.e2,VD.e3,VD.eIf,VD.eNot,VD.eTup,VD.eL,VD.eCall,VD.aNil,VD.aCons,VD.aMk,VD.t1,VD.tT,VD.tNotF,VD.tAndF,VD.tOrF,VD.tTrue,VD.dB,VD.dTru,VD.gN,VD.gT,VD.gNil',VD.gCons',VD.isPar,VD.dSub,VD.dLt,VD.dGt,VD.dGe,VD.dI0,VD.dI,VD.dFdiv,VD.dMod,VD.dPow,VD.dAdd,VD.mkT,VD.mkL,VD.aSeq,VD.dSeq,VD.eSl,VD.oN,VD.oS,VD.dInt,VD.dIs,VD.bLen,VD.bMax,VD.bMin,VD.bInt,VD.bList,VD.bTuple,VD.aRng1,VD.a1Int,VD.aEnum,VD.a1Tup,VD.dNeg,VD.aRev,VD.dLst,VD.aRevR,VD.xE,VD.xT,VD.xA,VD.xR,VD.RV.d,VD.x2,VD.xt1,VD.xtAnd,VD.axNil,VD.axCons,VD.xTup,VD.xLst,VD.x1,VD.xCall,VD.agNil,VD.agOwn,VD.agX,VD.agK,VD.xCallG,VD.xCallN,VD.ownD,VD.putD,VD.setO,VD.keyD,VD.dGet,VD.dLook,VD.putKD,VD.gPutD,VD.gPutL,VD.gApp,VD.gExt,VD.isL1,VD.gAppN2,VD.isL2,VD.eIx2,VD.gPut22,VD.xNil2,VD.xDnew,VD.axRng1,VD.axSeq,VD.xtTrue,Option.bind_some,Option.bind_none,$as,*])
namespace GM
open PySem PySem.Spec PyProof PyProof.Rows L2 VD
structure Bx where
 x:Int
 y:Int
 wd:Int
 hg:Int
def Bx.d (b:Bx):D:=.tup [.int b.x,.int b.y,.int b.wd,.int b.hg]
def zep (gap s1 l1 s2 l2:Int):Option (Int×Int×Int):=
 if gap<0 then none else some (if max s1 s2≥min (s1+l1) (s2+l2) then 1 else 0,gap,max 0 (max s1 s2 - min (s1+l1) (s2+l2)))
def near (b o:Bx)(way:Str):Option (Int×Int×Int):=
 if way = "up" then zep (b.y - o.y - o.hg) b.x b.wd o.x o.wd
 else if way = "down" then zep (o.y - b.y - b.hg) b.x b.wd o.x o.wd
 else if way = "left" then zep (b.x - o.x - o.wd) b.y b.hg o.y o.hg
 else zep (o.x - b.x - b.wd) b.y b.hg o.y o.hg
def zeq (way:Str):Prop:=way = "up"\/way = "down"\/way = "left"\/way = "right"
theorem zgc (b o:Bx):near b o "up"=zep (b.y - o.y - o.hg) b.x b.wd o.x o.wd:=by unfold near;rw[if_pos rfl]
theorem zdD (b o:Bx):near b o "down"=zep (o.y - b.y - b.hg) b.x b.wd o.x o.wd:=by unfold near;rw[if_neg (by decide),if_pos rfl]
theorem zdE (b o:Bx):near b o "left"=zep (b.x - o.x - o.wd) b.y b.hg o.y o.hg:=by unfold near;rw[if_neg (by decide),if_neg (by decide),if_pos rfl]
theorem zc2 (b o:Bx):near b o "right"=zep (o.x - b.x - b.wd) b.y b.hg o.y o.hg:=by unfold near;rw[if_neg (by decide),if_neg (by decide),if_neg (by decide)]
theorem zcc (i j:Int):(if j>i then j else i)=max i j:=by omega
theorem zcR (i j:Int):(if j<i then j else i)=min i j:=by omega
structure Row where
 deep:Nat
 name:Str
 box:Bx
 word:Str
 rank:Int
 head:Option Str
def zmr:Option Str->D
 | none=>.non
 | some x=>.str x
def Row.d (r:Row):D:=.lst [.int r.deep,.str r.name,r.box.d,.str r.word,.int r.rank,zmr r.head]
def zaT (L:List Row):D:=.lst (L.map Row.d)
def za7 (ds:Nat->Nat)(cur:Nat):Nat->List Nat
 | 0=>[]
 | n+1=>if ds n<cur then za7 ds (ds n) n++[n] else za7 ds cur n
def dsOf (L:List Row)(k:Nat):Nat:=((L[k]?).map (·.deep)).getD 0
def above (L:List Row)(k:Nat):List Nat:=za7 (dsOf L) (dsOf L k) k
theorem ze5 (ds:Nat->Nat):∀(n cur j:Nat),j∈za7 ds cur n->j<n
 | 0,cur,j,h=>by cases h
 | n+1,cur,j,h=>by
   unfold za7 at h;by_cases c:ds n<cur
   ·rw[if_pos c] at h;rcases waC.mp h with h | h
    ·exact wcq (ze5 ds n _ j h)
    ·rw[waf.mp h];exact Nat.lt_succ_self n
   ·rw[if_neg c] at h;exact wcq (ze5 ds n _ j h)
theorem zcw (ds:Nat->Nat):∀(n cur:Nat),(za7 ds cur n).length<=n
 | 0,cur=>wbj _
 | n+1,cur=>by
   unfold za7;by_cases c:ds n<cur
   ·rw[if_pos c,wam];have:=zcw ds n (ds n)
    simp;omega
   ·rw[if_neg c];exact Nat.le_succ_of_le (zcw ds n cur)
theorem ziF {L:List Row}{k j:Nat}(h:j∈above L k):j<k:=ze5 _ _ _ _ h
def zdF (L:List Row)(k:Nat):Bool:=(above L k++[k]).all fun j=>decide ((L[j]?).map (·.word)=some ("free" : Str))
def zdf (L:List Row):List Nat:=(List.range L.length).filter (zdF L)
def zaQ (L:List Row)(k:Nat):Int:=match (above L k).getLast? with | some j=>(j:Int) | none=>-1
theorem zhR {L:List Row}{k:Nat}(h:k<L.length):dsOf L k=L[k].deep:=by unfold dsOf;rw[waa h];rfl
def natD (j:Nat):D:=.int (j:Int)
def zdg (L:List Row)(j:Nat):Bool:=decide ((L[j]?).map (·.word)=some ("free" : Str))
abbrev abcS:Str:="abcdefghijklmnopqrstuvwxyz"
theorem zp0 {i:Int}(h0:0<=i)(h1:i<26):atI abcS.cps.toList i=some (97+i.toNat):=by
 have k:∀n:Fin 26,abcS.cps.toList[n.val]?=some (97+n.val):=by decide +kernel
 have hn:i.toNat<26:=by omega
 have e:i=((i.toNat:Nat):Int):=by omega
 rw[e];exact zat (k ⟨i.toNat,hn⟩)
def sg (c:Nat):Str:=⟨#[c]⟩
theorem zhS (c:Nat)(n:Int)(h:1<=n):(Txt.mul (sg c) n).cps.toList=List.replicate n.toNat c:=by
 unfold Txt.mul;rw[if_neg (by omega)];by_cases h1:n=1
 ·subst h1;rfl
 ·have:(n == 1||(sg c).length == 0)=false:=by
   have:(n == 1)=false:=by simpa using h1
   rw[this];rfl
  rw[this,if_neg (by decide)];have key:∀(k:Nat) (acc:Array Nat),((List.replicate k (sg c).cps).foldl (·++·) acc).toList=acc.toList++List.replicate k c:=by
   intro k;induction k with
   | zero=>intro acc;simp
   | succ k ih=>
     intro acc;rw[wbb,List.foldl_cons,ih];show(acc++#[c]).toList++_=_
     rw[Array.toList_append,wbU];rfl
  show((List.replicate n.toNat (sg c).cps).foldl (·++·) #[]).toList=_
  rw[key];rfl
theorem zoo {c d:Nat}{n m:Int}(hn:1<=n)(hm:1<=m)(e:Txt.mul (sg c) n=Txt.mul (sg d) m):n=m/\c=d:=by
 have q:=wbg (fun(s:Str)=>s.cps.toList) e
 simp only[zhS c n hn,zhS d m hm] at q;have l:=wbg List.length q
 rw[wbP,wbP] at l;refine⟨by omega,?_⟩;have h0:c∈List.replicate m.toNat d:=by rw[<-q];exact List.mem_replicate.mpr ⟨by omega,rfl⟩
 exact(List.mem_replicate.mp h0).2
theorem zop (c:Nat)(n:Int)(h:1<=n):(Txt.mul (sg c) n).length=n.toNat:=by
 have:=wbg List.length (zhS c n h)
 rw[wbP] at this;simpa[Str.length] using this
theorem zms (cs:List Nat):Txt.join "" (cs.map sg)=⟨cs.toArray⟩:=by
 have key:∀(r:List Nat) (acc:Array Nat),((r.map sg).foldl (fun acc (p:Str)=>acc++(Str.ofString "").cps++p.cps) acc)=acc++r.toArray:=by
  intro r;induction r with
  | nil=>intro acc;simp
  | cons c r ih=>
    intro acc;rw[wav,List.foldl_cons,ih];show(acc++#[]++#[c])++r.toArray=_
    simp
 cases cs with
 | nil=>rfl
 | cons c r=>
   show(⟨((r.map sg).foldl (fun acc (p:Str)=>acc++(Str.ofString "").cps++p.cps) (sg c).cps)⟩:Str)=_
   rw[key];congr 1;show #[c]++r.toArray=_
   simp
theorem zbV {α:Type}{f:Nat->α}:∀(m:Nat),(∀i j,i<j->j<m->f i≠f j)->((List.range m).map f).Nodup
 | 0,_=>by simp
 | m+1,h=>by
   rw[List.range_succ,wap];refine wbl.mpr ⟨zbV m fun i j hi hj=>h i j hi (by omega),by simp,fun a ha b hb=>?_⟩;obtain⟨i,hi,rfl⟩:=waN.mp ha;have:=waf.mp hb
   subst this;exact h i m (wbd.mp hi) (by omega)
def nmA (first k:Nat):Str:=Txt.mul (sg (97+(first+k / 8) % 26)) (1+(k % 8:Nat))
def nmB (cs:List Nat)(at_ first step k:Nat):Str:=⟨(cs.set at_ (97+(first+step*k) % 26)).toArray⟩
theorem zoq {first i j:Nat}(hij:i<j)(hj:j<208):nmA first i≠nmA first j:=fun e=>by
 obtain⟨e1,e2⟩:=zoo (by omega) (by omega) e;omega
theorem zor {cs:List Nat}{at_ first step i j:Nat}(ha:at_<cs.length)(hs:step=1\/step=7\/step=25)(hij:i<j)(hj:j<26):nmB cs at_ first step i≠nmB cs at_ first step j:=fun e=>by
 have q:=wbg (fun(s:Str)=>s.cps.toList) e
 have q':cs.set at_ (97+(first+step*i) % 26)=cs.set at_ (97+(first+step*j) % 26):=q
 have g:=wbg (fun l=>l[at_]?) q'
 simp only[wat ha,Option.some.injEq] at g;rcases hs with rfl | rfl | rfl <;> omega
theorem zb6 {ds ds':Nat->Nat}:∀(n cur:Nat),(∀j,j<n->ds j=ds' j)->za7 ds cur n=za7 ds' cur n
 | 0,_,_=>rfl
 | n+1,cur,h=>by
   have e:=h n (by omega)
   unfold za7;rw[e];by_cases c:ds' n<cur
   ·rw[if_pos c,if_pos c,zb6 n _ fun j hj=>h j (by omega)]
   ·rw[if_neg c,if_neg c,zb6 n _ fun j hj=>h j (by omega)]
theorem zdG (L M:List Row){k:Nat}(h:k<L.length):dsOf (L++M) k=dsOf L k:=by unfold dsOf;rw[waB h]
theorem zi7 (L M:List Row){k:Nat}(h:k<L.length):above (L++M) k=above L k:=by
 unfold above;rw[zdG L M h];exact zb6 _ _ fun j hj=>zdG L M (by omega)
theorem zi8 (L:List Row)(r r':Row)(h:r.deep=r'.deep):above (L++[r]) L.length=above (L++[r']) L.length:=by
 have e:∀j,j<=L.length->dsOf (L++[r]) j=dsOf (L++[r']) j:=fun j hj=>by
  rcases Nat.lt_or_eq_of_le hj with h1 | h1
  ·rw[zdG _ _ h1,zdG _ _ h1]
  ·subst h1;unfold dsOf;simp[h]
 unfold above;rw[e _ (wae _)];exact zb6 _ _ fun j hj=>e j (by omega)
structure WF (L:List Row)(most:Nat):Prop where
 len:L.length<=most
 names:(L.map (·.name)).Nodup
 short:∀r∈L,r.name.length<=8
 deep:∀r∈L,r.deep<=4
 first:∀r,L[0]?=some r->r.deep=0
 step:∀k r r',L[k]?=some r->L[k+1]?=some r'->r'.deep<=r.deep+1
 box:∀r∈L,1<=r.box.wd/\1<=r.box.hg
 word:∀r∈L,r.word = "free"\/r.word = "shut"\/r.word = "hidden"
 rank:∀r∈L,0<=r.rank
 head:∀k r,L[k]?=some r->r.head=none\/∃j r',j<k/\j∉above L k/\L[j]?=some r'/\r.head=some r'.name
theorem WF.nil (most:Nat):WF [] most:=⟨wbj _,wba,by simp,by simp,by simp,by simp,by simp,by simp,by simp,by simp⟩
theorem WF.snoc {L:List Row}{most:Nat}(W:WF L most){r:Row}(hl:L.length<most)(hn:r.name∉L.map (·.name))(hs:r.name.length<=8)(hd:r.deep<=4)(hf:L = []->r.deep=0)(hst:∀r',L[L.length - 1]?=some r'->r.deep<=r'.deep+1)
 (hb:1<=r.box.wd/\1<=r.box.hg) (hw:r.word = "free"\/r.word = "shut"\/r.word = "hidden") (hr:0<=r.rank) (hh:r.head=none\/∃j r',j<L.length/\j∉above (L++[r]) L.length/\L[j]?=some r'/\r.head=some r'.name):WF (L++[r]) most:=by
 have mem:∀{p:Row->Prop},(∀x∈L,p x)->p r->∀x∈L++[r],p x:=fun h1 h2 x hx=>by
  rcases waC.mp hx with h | h
  ·exact h1 x h
  ·rw[waf.mp h];exact h2
 have at_:∀k x,(L++[r])[k]?=some x->(k<L.length/\L[k]?=some x)\/(k=L.length/\x=r):=fun k x h=>by
  by_cases c:k<L.length
  ·rw[waB c] at h;exact .inl ⟨c,h⟩
  ·rw[waI (by omega)] at h;by_cases c2:k=L.length
   ·subst c2;simp at h;exact .inr ⟨rfl,h.symm⟩
   ·rw[waG (by simp;omega)] at h;cases h
 refine⟨by rw[wam];simp;omega,?_,mem W.short hs,mem W.deep hd,fun x h=>?_,fun k x y h1 h2=>?_,mem W.box hb,mem W.word hw,mem W.rank hr,fun k x h=>?_⟩
 ·rw[wap];refine wbl.mpr ⟨W.names,by simp,fun a ha b hb e=>?_⟩;rw[wav,List.map_nil,waf] at hb;subst hb;subst e;exact hn ha
 ·rcases at_ 0 x h with⟨_,h1⟩ | ⟨h1,rfl⟩
  ·exact W.first x h1
  ·exact hf (waW.mp h1.symm)
 ·rcases at_ _ y h2 with⟨c,h3⟩ | ⟨c,rfl⟩
  ·rcases at_ k x h1 with⟨_,h4⟩ | ⟨c2,_⟩
   ·exact W.step k x y h4 h3
   ·omega
  ·rcases at_ k x h1 with⟨_,h4⟩ | ⟨c2,_⟩
   ·exact hst x (by rw[show L.length - 1=k by omega];exact h4)
   ·omega
 ·rcases at_ k x h with⟨c,h1⟩ | ⟨c,rfl⟩
  ·rw[zi7 L [r] c];rcases W.head k x h1 with h2 | ⟨j,r',h2,h3,h4,h5⟩
   ·exact .inl h2
   ·exact .inr ⟨j,r',h2,h3,by rw[waB (by omega)];exact h4,h5⟩
  ·subst c;rcases hh with h2 | ⟨j,r',h2,h3,h4,h5⟩
   ·exact .inl h2
   ·exact .inr ⟨j,r',h2,h3,by rw[waB h2];exact h4,h5⟩
inductive Tr where
 | mk (name:Str) (box:Bx) (word:Str) (rank:Int) (head:Option Str) (parts:List Tr)
namespace Tr
def name:Tr->Str | mk n _ _ _ _ _=>n
def box:Tr->Bx | mk _ x _ _ _ _=>x
def word:Tr->Str | mk _ _ x _ _ _=>x
def rank:Tr->Int | mk _ _ _ x _ _=>x
def head:Tr->Option Str | mk _ _ _ _ x _=>x
def parts:Tr->List Tr | mk _ _ _ _ _ x=>x
end Tr
mutual
def Tr.d:Tr->D
 | .mk n b w r h ps=>.tup [.str n,b.d,.str w,.int r,zmr h,.tup (trsD ps)]
def trsD:List Tr->List D
 | []=>[]
 | t::ts=>Tr.d t::trsD ts
end
theorem ziG:∀ts:List Tr,trsD ts=ts.map Tr.d
 | []=>rfl
 | t::ts=>by rw[trsD,wav,ziG ts]
theorem Tr.d_eq (t:Tr):t.d=.tup [.str t.name,t.box.d,.str t.word,.int t.rank,zmr t.head,.tup (t.parts.map Tr.d)]:=by
 cases t;rw[Tr.d,ziG];rfl
def zaU:Nat->List Int->Nat->List Tr->List (List Int×Tr)
 | _,_,_,[]=>[]
 | 0,_,_,_=>[]
 | d+1,o,i,t::r=>(o++[(i:Int)],t)::(zaU d (o++[(i:Int)]) 0 t.parts++zaU (d+1) o (i+1) r)
termination_by d _ _ ts=>(d,ts.length)
theorem zc3 (d:Nat)(o:List Int)(i:Nat):zaU d o i [] = []:=by cases d <;> simp[zaU]
theorem zcx (d:Nat)(o:List Int)(i:Nat)(t:Tr)(r:List Tr):zaU (d+1) o i (t::r)=(o++[(i:Int)],t)::(zaU d (o++[(i:Int)]) 0 t.parts++zaU (d+1) o (i+1) r):=by rw[zaU]
theorem zcy (d:Nat)(o:List Int):∀(i:Nat) (ts us:List Tr),zaU (d+1) o i (ts++us)=zaU (d+1) o i ts++zaU (d+1) o (i+ts.length) us
 | i,[],us=>by simp[zc3]
 | i,t::ts,us=>by
   rw[List.cons_append,zcx,zcx,zcy d o (i+1) ts us];have e:i+1+ts.length=i+(t::ts).length:=by simp;omega
   rw[e];simp
def zbs:Nat->Nat->List Tr->List (Nat×Tr)
 | _,_,[]=>[]
 | 0,_,_=>[]
 | n+1,d,t::r=>(d,t)::(zbs n (d+1) t.parts++zbs (n+1) d r)
termination_by n _ ts=>(n,ts.length)
theorem zcl (n d:Nat):zbs n d [] = []:=by cases n <;> simp[zbs]
theorem zbe (n d:Nat)(t:Tr)(r:List Tr):zbs (n+1) d (t::r)=(d,t)::(zbs n (d+1) t.parts++zbs (n+1) d r):=by rw[zbs]
theorem zek (n d:Nat):∀(ts us:List Tr),zbs (n+1) d (ts++us)=zbs (n+1) d ts++zbs (n+1) d us
 | [],us=>by simp[zcl]
 | t::ts,us=>by rw[List.cons_append,zbe,zbe,zek n d ts us];simp
def znd (r:Row)(p:Nat×Tr):Prop:=p.1=r.deep/\p.2.name=r.name/\p.2.word=r.word/\p.2.rank=r.rank/\p.2.head=r.head/\p.2.box=r.box
abbrev ze6:List Row->List (Nat×Tr)->Prop:=Paired znd
structure Seg (d:Nat)(M:List Row):Prop where
 few:M.length<=200
 low:∀r∈M,d<=r.deep/\r.deep<=4
 first:∀r,M[0]?=some r->r.deep=d
 step:∀k r r',M[k]?=some r->M[k+1]?=some r'->r'.deep<=r.deep+1
theorem getElem?_sub {M:List Row}{k e i:Nat}{r:Row}(h:((M.drop k).take (e - k))[i]?=some r):M[k+i]?=some r/\k+i<e:=by
 rw[List.getElem?_take] at h;split at h
 ·rw[List.getElem?_drop] at h;exact⟨h,by omega⟩
 ·cases h
theorem Seg.inner {d:Nat}{M:List Row}(S:Seg d M){k e:Nat}{r:Row}(hk:M[k]?=some r)(hr:r.deep=d)(hgt:∀j x,k<j->j<e->M[j]?=some x->d<x.deep):Seg (d+1) ((M.drop (k+1)).take (e - (k+1))):=by
 refine⟨by rw[wbq,wcy];have:=S.few;omega,fun x hx=>?_,fun x hx=>?_,fun i x y h1 h2=>?_⟩
 ·obtain⟨i,hi⟩:=wbA hx;obtain⟨q1,q2⟩:=getElem?_sub hi;exact⟨hgt _ x (by omega) q2 q1,(S.low x (wal q1)).2⟩
 ·obtain⟨q1,q2⟩:=getElem?_sub hx;have a:=hgt _ x (by omega) q2 q1
  have b:=S.step k r x hk (by simpa using q1)
  omega
 ·obtain⟨q1,_⟩:=getElem?_sub h1;obtain⟨q2,_⟩:=getElem?_sub h2;exact S.step _ x y q1 (by rw[show k+1+i+1=k+1+(i+1) by omega];exact q2)
theorem zi9 {M:List Row}{k e:Nat}{r:Row}(hk:M[k]?=some r)(he:k<e):M.take e=M.take k++r::(M.drop (k+1)).take (e - (k+1)):=by
 have hlt:=(wab.mp hk).1
 have hr:=(wab.mp hk).2
 have e1:e=k+(1+(e - (k+1))):=by omega
 conv=>lhs;rw[e1,List.take_add]
 congr 1;have:M.drop k=r::M.drop (k+1):=by rw[<-hr,List.drop_eq_getElem_cons hlt]
 rw[this,Nat.add_comm 1,List.take_succ_cons]
def szL:Nat->List Tr->Nat
 | _,[]=>0
 | 0,_=>0
 | n+1,t::r=>1+szL n t.parts+szL (n+1) r
termination_by n ts=>(n,ts.length)
theorem zhT (n:Nat):szL n []=0:=by cases n <;> simp[szL]
theorem zdH (n:Nat)(t:Tr)(r:List Tr):szL (n+1) (t::r)=1+szL n t.parts+szL (n+1) r:=by rw[szL]
structure Pos' where
 q:List Int
 as:List Tr
 js:List Nat
 t:Tr
def posL:Nat->List Int->Nat->List Tr->List Nat->Nat->List Tr->List Pos'
 | _,_,_,_,_,_,[]=>[]
 | 0,_,_,_,_,_,_=>[]
 | n+1,o,i,as,js,off,t::r=>⟨o++[(i:Int)],as,js,t⟩ ::(posL n (o++[(i:Int)]) 0 (as++[t]) (js++[off]) (off+1) t.parts++posL (n+1) o (i+1) as js (off+1+szL n t.parts) r)
termination_by n _ _ _ _ _ ts=>(n,ts.length)
theorem zbD (n:Nat)(o:List Int)(i:Nat)(as:List Tr)(js:List Nat)(off:Nat):posL n o i as js off [] = []:=by cases n <;> simp[posL]
theorem zaY (n:Nat)(o:List Int)(i:Nat)(as:List Tr)(js:List Nat)(off:Nat)(t:Tr)(r:List Tr):posL (n+1) o i as js off (t::r)=⟨o++[(i:Int)],as,js,t⟩ ::(posL n (o++[(i:Int)]) 0 (as++[t]) (js++[off]) (off+1) t.parts++posL (n+1) o (i+1) as js (off+1+szL n t.parts) r):=by rw[posL]
theorem zaJ {P:Nat->List Tr->Prop}(h0:∀n,P n [])(hz:∀t r,P 0 (t::r))(hs:∀n t r,P n t.parts->P (n+1) r->P (n+1) (t::r)):∀n ts,P n ts
 | n,[]=>h0 n
 | 0,t::r=>hz t r
 | n+1,t::r=>hs n t r (zaJ h0 hz hs n t.parts) (zaJ h0 hz hs (n+1) r)
termination_by n ts=>(n,ts.length)
theorem zbp (o:List Int)(i:Nat)(as:List Tr)(js:List Nat)(off:Nat)(t:Tr)(r:List Tr):posL 0 o i as js off (t::r) = []:=by simp[posL]
theorem zeE:∀(n:Nat) (ts:List Tr) (o:List Int) (i:Nat) (as:List Tr) (js:List Nat) (off:Nat),(posL n o i as js off ts).length=szL n ts:=
 zaJ (fun n o i as js off=>by rw[zbD,zhT];rfl) (fun t r o i as js off=>by rw[zbp];simp[szL]) fun n t r h1 h2 o i as js off=>by
  rw[zaY,zdH,waS,wam,h1,h2];omega
theorem zg9:∀(n:Nat) (ts:List Tr) (d:Nat),(zbs n d ts).length=szL n ts:=
 zaJ (fun n d=>by rw[zcl,zhT];rfl) (fun t r d=>by simp[zbs,szL]) fun n t r h1 h2 d=>by
  rw[zbe,zdH,waS,wam,h1,h2];omega
theorem zhU:∀(n:Nat) (ts:List Tr) (o:List Int) (i:Nat) (as:List Tr) (js:List Nat) (off:Nat),(posL n o i as js off ts).map (fun e=>(e.q,e.t))=zaU n o i ts:=
 zaJ (fun n o i as js off=>by rw[zbD,zc3];rfl) (fun t r o i as js off=>by rw[zbp];simp[zaU]) fun n t r h1 h2 o i as js off=>by
  rw[zaY,zcx,wav,wap,h1,h2]
theorem zkA:∀(n:Nat) (ts:List Tr) (o:List Int) (i:Nat) (as:List Tr) (js:List Nat) (off d:Nat),as.length=d->(posL n o i as js off ts).map (fun e=>(e.as.length,e.t))=zbs n d ts:=
 zaJ (fun n o i as js off d h=>by rw[zbD,zcl];rfl) (fun t r o i as js off d h=>by rw[zbp];simp[zbs]) fun n t r h1 h2 o i as js off d h=>by
  rw[zaY,zbe,wav,wap,h1 _ _ _ _ _ (d+1) (by simp[h]),h2 _ _ _ _ _ d h,h]
inductive Wk:List Tr->List Int->List Tr->Tr->Prop
 | here {full:List Tr}{i:Nat}{t:Tr}(h:full[i]?=some t):Wk full [(i:Int)] [] t
 | down {full:List Tr}{i:Nat}{t u:Tr}{q:List Int}{as:List Tr}(h:full[i]?=some t) (w:Wk t.parts q as u):Wk full ((i:Int)::q) (t::as) u
theorem zkB:∀(n:Nat) (ts:List Tr) (o:List Int) (i:Nat) (as:List Tr) (js:List Nat) (off:Nat) (full:List Tr),full.drop i=ts->∀e∈posL n o i as js off ts,∃q' as',e.q=o++q'/\e.as=as++as'/\Wk full q' as' e.t:=
 zaJ (fun n o i as js off full h e he=>by rw[zbD] at he;cases he) (fun t r o i as js off full h e he=>by rw[zbp] at he;cases he) fun n t r h1 h2 o i as js off full h e he=>by
  have hi:full[i]?=some t:=by
   have:(full.drop i)[0]?=some t:=by rw[h];rfl
   rw[List.getElem?_drop] at this;simpa using this
  have hr:full.drop (i+1)=r:=by
   have:(full.drop i).drop 1=r:=by rw[h];rfl
   rw[List.drop_drop] at this;exact this
  rw[zaY] at he;rcases was.mp he with rfl | he
  ·exact⟨[(i:Int)],[],rfl,by simp,.here hi⟩
  ·rcases waC.mp he with he | he
   ·obtain⟨q',as',e1,e2,w⟩:=h1 _ _ _ _ _ t.parts rfl e he;exact⟨(i:Int)::q',t::as',by rw[e1];simp,by rw[e2];simp,.down hi w⟩
   ·exact h2 _ _ _ _ _ full hr e he
theorem ze7 {ds:Nat->Nat}{cur:Nat}:∀(m off:Nat),(∀j,off<=j->j<off+m->cur<=ds j)->za7 ds cur (off+m)=za7 ds cur off
 | 0,off,_=>rfl
 | m+1,off,h=>by
   show(if ds (off+m)<cur then _ else _)=_
   rw[if_neg (by have:=h (off+m) (by omega) (by omega);omega)];exact ze7 m off fun j h1 h2=>h j h1 (by omega)
theorem zkC:∀(n:Nat) (ts:List Tr) (d:Nat),∀p∈zbs n d ts,d<=p.1:=
 zaJ (fun n d p hp=>by rw[zcl] at hp;cases hp) (fun t r d p hp=>by simp[zbs] at hp) fun n t r h1 h2 d p hp=>by
  rw[zbe] at hp;rcases was.mp hp with rfl | hp
  ·exact wae _
  ·rcases waC.mp hp with hp | hp
   ·exact Nat.le_of_succ_le (h1 _ p hp)
   ·exact h2 _ p hp
theorem zja:∀(n:Nat) (ts:List Tr) (o:List Int) (i:Nat) (as:List Tr) (js:List Nat) (off d:Nat) (ds:Nat->Nat),(∀k p,(zbs n d ts)[k]?=some p->ds (off+k)=p.1)->js=za7 ds d off->
 ∀k e,(posL n o i as js off ts)[k]?=some e->e.js=za7 ds (ds (off+k)) (off+k):=
 zaJ (fun n o i as js off d ds h hj k e he=>by rw[zbD] at he;cases he) (fun t r o i as js off d ds h hj k e he=>by rw[zbp] at he;cases he) fun n t r h1 h2 o i as js off d ds h hj k e he=>by
  rw[zaY] at he;have d0:ds off=d:=by have:=h 0 (d,t) (by rw[zbe];rfl);simpa using this
  have lenC:=zeE n t.parts (o++[(i:Int)]) 0 (as++[t]) (js++[off]) (off+1)
  have lenF:=zg9 n t.parts (d+1)
  cases k with
  | zero=>
    simp at he;subst he;rw[Nat.add_zero,d0];exact hj
  | succ k=>
    rw[waX] at he;have hc:∀k p,(zbs n (d+1) t.parts)[k]?=some p->ds (off+1+k)=p.1:=fun k p hp=>by
     have hk:=(wab.mp hp).1
     have:=h (k+1) p (by rw[zbe,waX,waB hk];exact hp)
     rw[show off+1+k=off+(k+1) by omega];exact this
    have hj1:js++[off]=za7 ds (d+1) (off+1):=by
     show _=(if ds off<d+1 then _ else _)
     rw[if_pos (by omega),d0,<-hj]
    by_cases c:k<szL n t.parts
    ·rw[waB (by rw[lenC];exact c)] at he;have:=h1 _ _ _ _ _ (d+1) ds hc hj1 k e he
     rw[show off+(k+1)=off+1+k by omega];exact this
    ·rw[waI (by rw[lenC];omega),lenC] at he;have hr:∀k p,(zbs (n+1) d r)[k]?=some p->ds (off+1+szL n t.parts+k)=p.1:=fun k p hp=>by
      have:=h (1+szL n t.parts+k) p (by
       rw[zbe,show 1+szL n t.parts+k=(szL n t.parts+k)+1 by omega,waX,waI (by rw[lenF];omega),lenF,Nat.add_sub_cancel_left];exact hp)
      rw[show off+1+szL n t.parts+k=off+(1+szL n t.parts+k) by omega];exact this
     have hj2:js=za7 ds d (off+1+szL n t.parts):=by
      rw[show off+1+szL n t.parts=off+(1+szL n t.parts) by omega,ze7 (1+szL n t.parts) off fun j g1 g2=>?_]
      ·exact hj
      ·by_cases z:j=off
       ·rw[z,d0];exact wae _
       ·have hk:j - off - 1<(zbs n (d+1) t.parts).length:=by rw[lenF];omega
        have:=hc (j - off - 1) _ (waa hk)
        rw[show off+1+(j - off - 1)=j by omega] at this;rw[this];exact Nat.le_of_succ_le (zkC n t.parts (d+1) _ (wbJ hk))
     have:=h2 _ _ _ _ _ d ds hr hj2 (k - szL n t.parts) e he
     rw[show off+(k+1)=off+1+szL n t.parts+(k - szL n t.parts) by omega];exact this
theorem zc4:∀(n:Nat) (ts:List Tr) (o:List Int) (i:Nat) (as:List Tr) (js:List Nat) (off:Nat) (G:Nat->Option Tr),(∀k e,(posL n o i as js off ts)[k]?=some e->G (off+k)=some e.t)->js.map G=as.map some->
 ∀e∈posL n o i as js off ts,e.js.map G=e.as.map some:=
 zaJ (fun n o i as js off G h hj e he=>by rw[zbD] at he;cases he) (fun t r o i as js off G h hj e he=>by rw[zbp] at he;cases he) fun n t r h1 h2 o i as js off G h hj e he=>by
  have lenC:=zeE n t.parts (o++[(i:Int)]) 0 (as++[t]) (js++[off]) (off+1)
  have g0:G off=some t:=by have:=h 0 _ (by rw[zaY];rfl);simpa using this
  rw[zaY] at he;rcases was.mp he with rfl | he
  ·exact hj
  ·rcases waC.mp he with he | he
   ·refine h1 _ _ _ _ _ G (fun k e hk=>?_) (by rw[wap,wap,hj];simp[g0]) e he;have hkl:=(wab.mp hk).1
    have:=h (k+1) e (by rw[zaY,waX,waB hkl];exact hk)
    rw[show off+1+k=off+(k+1) by omega];exact this
   ·refine h2 _ _ _ _ _ G (fun k e hk=>?_) hj e he;have:=h (1+szL n t.parts+k) e (by
     rw[zaY,show 1+szL n t.parts+k=(szL n t.parts+k)+1 by omega,waX,waI (by rw[lenC];omega),lenC,Nat.add_sub_cancel_left];exact hk)
    rw[show off+1+szL n t.parts+k=off+(1+szL n t.parts+k) by omega];exact this
theorem zhV:∀(n:Nat) (ts:List Tr) (o:List Int) (i:Nat) (as:List Tr) (js:List Nat) (off:Nat),∀e∈posL n o i as js off ts,e.js=js\/∃m rest,e.js=js++m::rest/\off<=m/\m<off+szL n ts:=
 zaJ (fun n o i as js off e he=>by rw[zbD] at he;cases he) (fun t r o i as js off e he=>by rw[zbp] at he;cases he) fun n t r h1 h2 o i as js off e he=>by
  rw[zaY] at he;rw[zdH];rcases was.mp he with rfl | he
  ·exact .inl rfl
  ·rcases waC.mp he with he | he
   ·rcases h1 _ _ _ _ _ e he with h | ⟨m,rest,h,_,_⟩
    ·exact .inr ⟨off,[],h,wae _,by omega⟩
    ·exact .inr ⟨off,m::rest,by rw[h];simp,wae _,by omega⟩
   ·rcases h2 _ _ _ _ _ e he with h | ⟨m,rest,h,q1,q2⟩
    ·exact .inl h
    ·exact .inr ⟨m,rest,h,by omega,by omega⟩
theorem zfJ:∀(n:Nat) (ts:List Tr) (o:List Int) (i:Nat) (as:List Tr) (js:List Nat) (off:Nat),(n=0->ts = [])->((posL n o i as js off ts).filter (fun e=>e.js == js)).map (·.t)=ts:=
 zaJ (fun n o i as js off _=>by rw[zbD];rfl) (fun t r o i as js off h=>by cases h rfl) fun n t r h1 h2 o i as js off h=>by
  rw[zaY,wcg (by simp),wbp,wav,wap];have e1:(posL n (o++[(i:Int)]) 0 (as++[t]) (js++[off]) (off+1) t.parts).filter (fun e=>e.js == js) = []:=by
   rw[wcl];intro e he hq;have hq':e.js=js:=by simpa using hq
   rcases zhV n t.parts _ _ _ _ _ e he with z | ⟨m,rest,z,_⟩
   ·rw[hq'] at z;have:=wbg List.length z;simp at this
   ·rw[hq'] at z;have:=wbg List.length z;simp at this
  rw[e1,h2 _ _ _ _ _ (fun z=>by cases z)];rfl
def Fits:Nat->List Tr->Prop
 | 0,ts=>ts = []
 | n+1,ts=>∀t∈ts,Fits n t.parts
theorem zkD {js x y:List Nat}{a b:Nat}(h:a≠b):js++a::x≠js++b::y:=fun e=>by
 have:=List.append_cancel_left e
 exact h (List.cons.inj this).1
theorem ze8 {js x:List Nat}{a:Nat}:js≠js++a::x:=fun e=>by
 have:=wbg List.length e
 simp at this
theorem zjb:∀(n:Nat) (ts:List Tr) (o:List Int) (i:Nat) (as:List Tr) (js:List Nat) (off:Nat),Fits n ts->∀(k:Nat) (e:Pos'),(posL n o i as js off ts)[k]?=some e->
 ((posL n o i as js off ts).filter (fun x=>x.js == e.js++[off+k])).map (·.t)=e.t.parts:=
 zaJ (fun n o i as js off _ k e he=>by rw[zbD] at he;cases he) (fun t r o i as js off _ k e he=>by rw[zbp] at he;cases he) fun n t r h1 h2 o i as js off hf k e he=>by
  have lenC:=zeE n t.parts (o++[(i:Int)]) 0 (as++[t]) (js++[off]) (off+1)
  have jsC:=zhV n t.parts (o++[(i:Int)]) 0 (as++[t]) (js++[off]) (off+1)
  have jsR:=zhV (n+1) r o (i+1) as js (off+1+szL n t.parts)
  have hfC:Fits n t.parts:=hf t (war ..)
  have hfR:Fits (n+1) r:=fun x hx=>hf x (wak _ hx)
  have rootsC:=zfJ n t.parts (o++[(i:Int)]) 0 (as++[t]) (js++[off]) (off+1) (fun z=>by subst z;exact hfC)
  have ihC:=h1 (o++[(i:Int)]) 0 (as++[t]) (js++[off]) (off+1) hfC
  have ihR:=h2 o (i+1) as js (off+1+szL n t.parts) hfR
  rw[zaY] at he⊢;generalize posL n (o++[(i:Int)]) 0 (as++[t]) (js++[off]) (off+1) t.parts=C at *;generalize hR:posL (n+1) o (i+1) as js (off+1+szL n t.parts) r=R at *;have nilC:∀w:List Nat,(∀x,w≠js++off::x)->C.filter (fun x=>x.js == w) = []:=fun w hw=>by
   rw[wcl];intro x hx hq;have hq':x.js=w:=by simpa using hq
   rcases jsC x hx with z | ⟨m,rest,z,_⟩
   ·exact hw [] (by rw[<-hq',z])
   ·exact hw (m::rest) (by rw[<-hq',z];simp)
  have nilR:∀w:List Nat,w≠js->(∀m x,off+1+szL n t.parts<=m->w≠js++m::x)->R.filter (fun x=>x.js == w) = []:=fun w h0 hw=>by
   rw[wcl];intro x hx hq;have hq':x.js=w:=by simpa using hq
   rcases jsR x hx with z | ⟨m,rest,z,g,_⟩
   ·exact h0 (by rw[<-hq',z])
   ·exact hw m rest g (by rw[<-hq',z])
  have head0:∀w:List Nat,w≠js->∀tl:List Pos',((⟨o++[(i:Int)],as,js,t⟩:Pos')::tl).filter (fun x=>x.js == w)=tl.filter (fun x=>x.js == w):=fun w hw tl=>by
   rw[wch];simpa using Ne.symm hw
  cases k with
  | zero=>
    simp at he;subst he;show((_::(C++R)).filter (fun x=>x.js == js++[off+0])).map (·.t)=t.parts
    rw[Nat.add_zero,head0 _ (fun z=>ze8 z.symm),wbp,nilR _ (fun z=>ze8 z.symm) (fun m x g=>zkD (by omega)),waJ];exact rootsC
  | succ k=>
    rw[waX] at he;by_cases c:k<szL n t.parts
    ·rw[waB (by rw[lenC];exact c)] at he;have em:=wal he
     have ejs:∃x,e.js++[off+(k+1)]=js++off::x:=by
      rcases jsC e em with z | ⟨m,rest,z,_⟩
      ·exact⟨[off+(k+1)],by rw[z];simp⟩
      ·exact⟨m::(rest++[off+(k+1)]),by rw[z];simp⟩
     obtain⟨x,ejs⟩:=ejs;rw[head0 _ (by rw[ejs];exact fun z=>ze8 z.symm),wbp,nilR _ (by rw[ejs];exact fun z=>ze8 z.symm) (fun m y g=>by rw[ejs];exact zkD (by omega)),waJ];have:=ihC k e he
     rw[show off+(k+1)=off+1+k by omega];exact this
    ·rw[waI (by rw[lenC];omega),lenC] at he;have em:=wal he
     have ejs:∃m x,off<m/\e.js++[off+(k+1)]=js++m::x:=by
      rcases jsR e em with z | ⟨m,rest,z,g,_⟩
      ·exact⟨off+(k+1),[],by omega,by rw[z]⟩
      ·exact⟨m,rest++[off+(k+1)],by omega,by rw[z];simp⟩
     obtain⟨m,x,hm,ejs⟩:=ejs;rw[head0 _ (by rw[ejs];exact fun z=>ze8 z.symm),wbp,nilC _ (fun y=>by rw[ejs];exact zkD (by omega)),wcf];have:=ihR (k - szL n t.parts) e he
     rw[show off+(k+1)=off+1+szL n t.parts+(k - szL n t.parts) by omega];exact this
structure On (ts:List Tr)(L:List Row):Prop where
 fits:Fits 5 ts
 mat:ze6 L (zbs 5 0 ts)
 names:(L.map (·.name)).Nodup
def psOf (ts:List Tr):List Pos':=posL 5 [] 0 [] [] 0 ts
theorem Paired.at {α β:Type}{F:α->β->Prop}:∀{xs:List α}{ys:List β},Paired F xs ys->∀{i:Nat}{x:α}{y:β},xs[i]?=some x->ys[i]?=some y->F x y
 | _,_,.nil,i,x,y,h,_=>by cases h
 | _,_,.cons r t,0,x,y,h1,h2=>by simp at h1 h2;subst h1;subst h2;exact r
 | _,_,.cons r t,i+1,x,y,h1,h2=>Paired.at t (by simpa using h1) (by simpa using h2)
section
variable {ts:List Tr}{L:List Row}
theorem ziH (ts:List Tr):(psOf ts).length=szL 5 ts:=zeE ..
theorem On.len (O:On ts L):(psOf ts).length=L.length:=by rw[ziH,wbZ O.mat,zg9]
theorem zkE (ts:List Tr):(psOf ts).map (fun e=>(e.as.length,e.t))=zbs 5 0 ts:=zkA 5 ts [] 0 [] [] 0 0 rfl
theorem zcz (ts:List Tr):(psOf ts).map (fun e=>(e.q,e.t))=zaU 5 [] 0 ts:=zhU 5 ts [] 0 [] [] 0
theorem On.row (O:On ts L){k:Nat}{e:Pos'}(he:(psOf ts)[k]?=some e):∃R,L[k]?=some R/\znd R (e.as.length,e.t):=by
 have hk:=(wab.mp he).1
 rw[O.len] at hk;refine⟨L[k],waa hk,Paired.at O.mat (waa hk) ?_⟩;rw[<-zkE,wag,he];rfl
theorem On.pos (O:On ts L){k:Nat}(hk:k<L.length):∃e,(psOf ts)[k]?=some e:=⟨_,waa (by rw[O.len];exact hk)⟩
theorem On.ds (O:On ts L):∀(k:Nat) (p:Nat×Tr),(zbs 5 0 ts)[k]?=some p->dsOf L (0+k)=p.1:=fun k p hp=>by
 have hk:=(wab.mp hp).1
 have hL:k<L.length:=by rw[wbZ O.mat];exact hk
 rw[wbf,zhR hL];exact(Paired.at O.mat (waa hL) hp).1.symm
theorem On.js (O:On ts L){k:Nat}{e:Pos'}(he:(psOf ts)[k]?=some e):e.js=above L k:=by
 have:=zja 5 ts [] 0 [] [] 0 0 (dsOf L) O.ds rfl k e he
 rw[wbf] at this;exact this
theorem On.walk {k:Nat}{e:Pos'}(he:(psOf ts)[k]?=some e):Wk ts e.q e.as e.t:=by
 obtain⟨q',as',e1,e2,w⟩:=zkB 5 ts [] 0 [] [] 0 ts rfl e (wal he);rw[wcf] at e1 e2;rw[e1,e2];exact w
def zaj (L:List Row)(j:Nat):Str:=((L[j]?).map (·.name)).getD (Str.ofString "")
theorem zcm {L:List Row}{j:Nat}{R:Row}(h:L[j]?=some R):zaj L j=R.name:=by unfold zaj;rw[h];rfl
theorem On.name (O:On ts L){k:Nat}{e:Pos'}(he:(psOf ts)[k]?=some e):e.t.name=zaj L k:=by
 obtain⟨R,h1,h2⟩:=O.row he;rw[zcm h1];exact h2.2.1
theorem On.around (O:On ts L){k:Nat}{e:Pos'}(he:(psOf ts)[k]?=some e):e.as.map (·.name)=(above L k).map (zaj L):=by
 have:=zc4 5 ts [] 0 [] [] 0 (fun j=>((psOf ts)[j]?).map (·.t)) (fun k e h=>by rw[wbf];show((psOf ts)[k]?).map (·.t)=_;rw[show(psOf ts)[k]?=some e from h];rfl) rfl e (wal he)
 rw[O.js he] at this;have e2:(e.as.map some).map (fun o:Option Tr=>(o.map (·.name)).getD (Str.ofString ""))=((above L k).map (fun j=>((psOf ts)[j]?).map (·.t))).map (fun o:Option Tr=>(o.map (·.name)).getD (Str.ofString "")):=by rw[this]
 rw[waM,waM] at e2;refine Eq.trans ?_ (e2.trans ?_)
 ·rfl
 ·refine wbI fun j hj=>?_
  have hk:=(wab.mp he).1
  have hjl:j<L.length:=by have:=ziF hj;rw[O.len] at hk;omega
  obtain⟨e',he'⟩:=O.pos hjl;show((((psOf ts)[j]?).map (·.t)).map (·.name)).getD (Str.ofString "")=_
  rw[he',<-O.name he'];rfl
def kids (L:List Row)(p:Int):List Nat:=(List.range L.length).filter fun j=>decide (zaQ L j=p)
theorem zbi {α β:Type}(f:α->β)(g:Nat->β)(p:α->Bool)(q:Nat->Bool):∀(n:Nat) (xs:List α),xs.length=n->(∀j x,xs[j]?=some x->p x=q j/\f x=g j)->(xs.filter p).map f=((List.range n).filter q).map g
 | 0,xs,hl,_=>by rw[waW.mp hl];rfl
 | n+1,xs,hl,h=>by
   have hn:n<xs.length:=by omega
   have ex:xs=xs.take n++[xs[n]]:=by
    conv=>lhs;rw[<-List.take_append_drop n xs,List.drop_eq_getElem_cons hn,List.drop_eq_nil_of_le (by omega)]
   have h0:=h n xs[n] (waa hn)
   rw[ex,wbp,wap,zbi f g p q n (xs.take n) (by rw[wbq];omega) (fun j y hy=>by
    rw[List.getElem?_take] at hy;split at hy
    ·exact h j y hy
    ·cases hy),List.range_succ,wbp,wap]
   congr 1;by_cases c:p xs[n]=true
   ·rw[wcg c,wcg (by rw[<-h0.1];exact c)];show[f xs[n]] = [g n]
    rw[h0.2]
   ·rw[wch c,wch (by rw[<-h0.1];exact c)];rfl
theorem zdh (ds:Nat->Nat)(cur n:Nat):za7 ds cur (n+1)=if ds n<cur then za7 ds (ds n) n++[n] else za7 ds cur n:=rfl
theorem ze9 {ds:Nat->Nat}:∀(n cur m:Nat),(za7 ds cur n).getLast?=some m->za7 ds cur n=za7 ds (ds m) m++[m]
 | 0,cur,m,h=>by cases h
 | n+1,cur,m,h=>by
   rw[zdh] at h⊢;by_cases c:ds n<cur
   ·rw[if_pos c] at h⊢;rw[List.getLast?_append] at h;simp at h;subst h;rfl
   ·rw[if_neg c] at h⊢;exact ze9 n cur m h
theorem zd2 (L:List Row)(j k:Nat):zaQ L j=(k:Int)↔above L j=above L k++[k]:=by
 unfold zaQ;constructor
 ·intro h;cases e:(above L j).getLast? with
  | none=>rw[e] at h;have h':(-1:Int)=(k:Int):=h;omega
  | some m=>
    rw[e] at h;have h':(m:Int)=(k:Int):=h
    have:m=k:=by omega
    subst this;exact ze9 _ _ _ e
 ·intro h;rw[h,List.getLast?_append];rfl
theorem zcA (L:List Row)(j:Nat):zaQ L j = -1↔above L j = []:=by
 unfold zaQ;constructor
 ·intro h;cases e:(above L j).getLast? with
  | none=>simpa using e
  | some m=>rw[e] at h;have h':(m:Int) = -1:=h;omega
 ·intro h;rw[h];rfl
end
end GM
namespace GM
open PySem PySem.Spec PyProof PyProof.Rows L2 VD
theorem ziI {tg:FG}{b:FS}:∀{ds:List D}(I:Nat->En->Prop) (k:Nat) {ρ:En},I k ρ->(∀i d ρ,ds[i]?=some d->I (k+i) ρ->∃ρ1 ρ2,tg d ρ=some ρ1/\b ρ1=some (.nx ρ2)/\I (k+i+1) ρ2)->∃ρ',forL tg b ds ρ=some (.nx ρ')/\I (k+ds.length) ρ'
 | [],I,k,ρ,h0,_=>⟨ρ,rfl,h0⟩
 | d::ds,I,k,ρ,h0,h=>by
   obtain⟨ρ1,ρ2,e1,e2,h2⟩:=h 0 d ρ rfl (by simpa using h0);obtain⟨ρ',e3,h3⟩:=ziI (ds:=ds) I (k+1) (ρ:=ρ2) (by simpa using h2) (fun i d ρ hi hI=>by
    obtain⟨ρ1,ρ2,a,b,c⟩:=h (i+1) d ρ (by simpa using hi) (by rw[show k+(i+1)=k+1+i by omega];exact hI);exact⟨ρ1,ρ2,a,b,by rw[show k+1+i+1=k+(i+1)+1 by omega];exact c⟩)
   refine⟨ρ',?_,by rw[show k+(d::ds).length=k+1+ds.length by simp;omega];exact h3⟩;show((tg d ρ).bind fun ρ1=>(b ρ1).bind fun o=>_)=_
   rw[e1,zOB,e2,zOB];exact e3
theorem zcn {tg:FG}{b:FS}{ds:List D}(I:Nat->En->Prop){ρ:En}(h0:I 0 ρ)(h:∀i d ρ,ds[i]?=some d->I i ρ->∃ρ1 ρ2,tg d ρ=some ρ1/\b ρ1=some (.nx ρ2)/\I (i+1) ρ2):∃ρ',forL tg b ds ρ=some (.nx ρ')/\I ds.length ρ':=by
 obtain⟨ρ',e,hI⟩:=ziI (tg:=tg) (b:=b) (ds:=ds) I 0 h0 (fun i d ρ hd hI=>by simpa using h i d ρ hd (by simpa using hI));exact⟨ρ',e,by simpa using hI⟩
theorem zbQ {n:Nat}{i:Nat}{d:D}(h:(zaN 0 n)[i]?=some d):i<n/\d=.int (i:Int):=by
 have hl:(zaN 0 n).length=n:=by simp[zaN]
 have hi:i<n:=by rw[<-hl];exact(wab.mp h).1
 refine⟨hi,?_⟩;unfold zaN at h;rw[wag,wcG hi] at h;simp at h;exact h.symm
theorem zco (n:Nat):(zaN 0 n).length=n:=by simp[zaN]
theorem zjc (n:Nat):zaN 0 n=(List.range n).map fun(i:Nat)=>.int (i:Int):=by
 unfold zaN;simp
theorem zd3 {c:FT}{b:FS}(I:En->Prop)(μ:En->Nat)(ht:∀ρ,I ρ->∃k,c ρ=some k)(hs:∀ρ,I ρ->c ρ=some true->∃ρ',b ρ=some (.nx ρ')/\I ρ'/\μ ρ'<μ ρ):∀(n:Nat) {ρ:En},I ρ->μ ρ<n->∃ρ',zdz c b n ρ=some (.nx ρ')/\I ρ'/\c ρ'=some false
 | 0,ρ,_,h=>absurd h (by omega)
 | n+1,ρ,hI,h=>by
   obtain⟨k,hk⟩:=ht ρ hI;cases k with
   | false=>exact⟨ρ,by unfold zdz;rw[hk];rfl,hI,hk⟩
   | true=>
     obtain⟨ρ1,e1,h1,hm⟩:=hs ρ hI hk;obtain⟨ρ',e2,h2⟩:=zd3 I μ ht hs n h1 (by omega);refine⟨ρ',?_,h2⟩;unfold zdz;rw[hk,zOB,if_pos rfl,e1,zOB];exact e2
theorem zfa {f:D->Option (Option D)}{g:D->D}:∀{ds:List D},(∀d∈ds,f d=some (some (g d)))->zeo f ds=some (ds.map g)
 | [],_=>rfl
 | d::ds,h=>by
   show((f d).bind fun o=>_)=_
   rw[h d (by simp),zOB,zfa fun x hx=>h x (by simp[hx])];rfl
theorem zos {α:Type}{xs:List α}{i:Int}(h0:0<=i)(h1:i<xs.length):∃x,xs[i.toNat]?=some x/\atI xs i=some x:=by
 have hi:i.toNat<xs.length:=by omega
 refine⟨xs[i.toNat],waa hi,?_⟩;have e:i=((i.toNat:Nat):Int):=by omega
 have h:=zat (xs:=xs) (waa hi)
 rw[<-e] at h;exact h
def fdD (cs:List Int)(n l:Int):D:=.dct [.inr "cells",.inr "at",.inr "left"] [.lst (cs.map D.int),.int n,.int l]
def FeedOk (d:D)(B:Int):Prop:=∃cs n l,d=fdD cs n l/\0<=n/\n<=B/\0<=l/\cs.length<=63
theorem FeedOk.mono {d:D}{B B':Int}(h:FeedOk d B)(hb:B<=B'):FeedOk d B':=by
 obtain⟨cs,n,l,e,h1,h2,h3⟩:=h;exact⟨cs,n,l,e,h1,by omega,h3⟩
theorem nk1:(Str.ofString "cells"=Str.ofString "left")=False:=eq_false (by decide)
theorem nk2:(Str.ofString "at"=Str.ofString "left")=False:=eq_false (by decide)
theorem nk3:(Str.ofString "cells"=Str.ofString "at")=False:=eq_false (by decide)
theorem nk4:(Str.ofString "left"=Str.ofString "at")=False:=eq_false (by decide)
theorem nk5:(Str.ofString "at"=Str.ofString "cells")=False:=eq_false (by decide)
theorem zfK {g:FG}{t:FTX}{e:FX}:∀{ds:List D}(I:Nat->List D->En->Prop) (k:Nat) (pre:List D) {ρ:En},I k pre ρ->(∀i d xs ρ,ds[i]?=some d->I (k+i) xs ρ->zfG ρ=true/\∃ρ1 x ρ2,g d ρ=some ρ1/\t ρ1=some (true,ρ1)/\e ρ1=some (x,ρ2)/\I (k+i+1) (xs++[x]) ρ2)->
 ∃xs ρ',zcI g t e ds ρ=some (xs,ρ')/\I (k+ds.length) (pre++xs) ρ'
 | [],I,k,pre,ρ,h0,_=>⟨[],ρ,rfl,by simpa using h0⟩
 | d::ds,I,k,pre,ρ,h0,h=>by
   obtain⟨hn,ρ1,x,ρ2,e1,e2,e3,h2⟩:=h 0 d pre ρ rfl (by simpa using h0);obtain⟨xs,ρ',e4,h4⟩:=zfK (ds:=ds) I (k+1) (pre++[x]) (ρ:=ρ2) (by simpa using h2) (fun i d xs ρ hi hI=>by
    obtain⟨a0,ρ1,x,ρ2,a,b,c,d'⟩:=h (i+1) d xs ρ (by simpa using hi) (by rw[show k+(i+1)=k+1+i by omega];exact hI);exact⟨a0,ρ1,x,ρ2,a,b,c,by rw[show k+1+i+1=k+(i+1)+1 by omega];exact d'⟩)
   refine⟨x::xs,ρ',?_,by rw[show k+(d::ds).length=k+1+ds.length by simp;omega];simpa using h4⟩;unfold zcI;rw[if_pos hn,e1,zOB,e2,zOB];simp[e3,e4]
theorem zkF (ts:List Str):zg3 (ts.map D.str)=some ts:=by
 induction ts with
 | nil=>rfl
 | cons t ts ih=>rw[wav];show((zg3 (ts.map D.str)).bind fun xs=>some (t::xs))=_;rw[ih];rfl
theorem zmt:abcS.length<=lim:=by decide +kernel
theorem zkG {i:Int}(h0:0<=i)(h1:i<26):dIx (.str abcS) (.int i)=some (.str (sg (97+i.toNat))):=by
 show(if abcS.length<=lim then(atI abcS.cps.toList i).map fun c=>D.str ⟨#[c]⟩ else none)=_
 rw[if_pos zmt,zp0 h0 h1];rfl
theorem zne (c:Nat):(sg c).length=1:=rfl
theorem zp1 (c:Nat){n:Int}(h0:-1000<=n)(h1:n<=1000):dMul (.str (sg c)) (.int n)=some (.str (Txt.mul (sg c) n)):=by
 show(if -1000<=n/\n<=1000/\(sg c).length<=1000 then some (D.str (Txt.mul (sg c) n)) else none)=_
 rw[if_pos ⟨h0,h1,by rw[zne];decide⟩]
theorem zot {cs:List Nat}(h:cs.length<=1000):zkl "" (.lst (cs.map fun c=>D.str (sg c)))=some (.str ⟨cs.toArray⟩):=by
 have e:(cs.map fun c=>D.str (sg c))=(cs.map sg).map D.str:=by rw[waM];rfl
 show((zg3 (cs.map fun c=>D.str (sg c))).bind fun ts=>_)=_
 rw[e,zkF,zOB,if_pos,zms];refine⟨by rw[wao];exact h,by decide,?_⟩;rw[List.all_map,waF];intro c _;simp[zne]
theorem zfb {L:List Row}{j:Nat}{r:Row}(h:L[j]?=some r):dIx (zaT L) (.int (j:Int))=some r.d:=by
 show atI (L.map Row.d) (j:Int)=_
 exact zat (by rw[wag,h];rfl)
theorem znf {L:List Row}{j:Nat}{r:Row}(h:L[j]?=some r):atI (L.map Row.d) (j:Int)=some r.d:=zat (by rw[wag,h];rfl)
theorem zkH (r:Row):dIx r.d (.int 0)=some (.int r.deep):=zat (j:=0) rfl
theorem zqP (r:Row):dIx r.d (.int 1)=some (.str r.name):=zat (j:=1) rfl
theorem zou (r:Row):dIx r.d (.int 2)=some r.box.d:=zat (j:=2) rfl
theorem zmu {k i:Nat}{d:D}(h:(zaN 0 k).reverse[i]?=some d):i<k/\d=.int ((k - 1 - i:Nat):Int):=by
 have hl:(zaN 0 k).length=k:=by simp[zaN]
 have hi:i<k:=by
  have:=(wab.mp h).1
  rwa [wbH,hl] at this
 refine⟨hi,?_⟩;rw[List.getElem?_reverse (by rw[hl];exact hi),hl] at h;exact(zbQ h).2
theorem zdI {α:Type}{f:List D->D->Option (List D)}(h:α->D)(p:α->Bool)(g:α->D):∀{xs:List α}{acc:List D},acc.length+xs.length<=10000->(∀acc x,x∈xs->acc.length<lim->f acc (h x)=some (if p x then acc++[g x] else acc))->zcP f acc (xs.map h)=some (acc++(xs.filter p).map g)
 | [],acc,_,_=>by show some acc=_;simp
 | x::xs,acc,hl,hf=>by
   rw[waS] at hl;show(f acc (h x)).bind _=_
   rw[hf acc x war (wbe (by omega:acc.length<=10000) (by decide)),zOB];cases hp:p x with
   | true=>
     refine Eq.trans (zdI h p g (xs:=xs) (acc:=acc++[g x]) (by rw[wam,wct];omega) fun a y hy=>hf a y (wak _ hy)) ?_;simp[hp]
   | false=>
     refine Eq.trans (zdI h p g (xs:=xs) (acc:=acc) (by omega) fun a y hy=>hf a y (wak _ hy)) ?_;simp[hp]
theorem zd4 {S A α:Type}{f:S->D->Option (Fl S A)}(h:α->D):∀{xs:List α}{s:S},(∀x,x∈xs->f s (h x)=some (.nx s))->zd0 f s (xs.map h)=some (.nx s)
 | [],s,_=>rfl
 | x::xs,s,hf=>by
   show(f s (h x)).bind _=_
   rw[hf x war,zOB];exact zd4 h fun y hy=>hf y (wak _ hy)
theorem zhW {xs:List D}{d:D}(h:xs.length<lim):appL xs d=some (xs++[d]):=if_pos h
theorem zkI {α:Type}{f:D->Option (Option D)}(h:α->D)(g:α->D){xs:List α}(hl:xs.length<=10000)(hf:∀x,x∈xs->f (h x)=some (some (g x))):zmf f (xs.map h)=some (xs.map g):=by
 unfold zmf;have:zeo f (xs.map h)=some (xs.map g):=by
  clear hl
  induction xs with
  | nil=>rfl
  | cons x xs ih=>
    show(f (h x)).bind _=_
    rw[hf x war,zOB];show(zeo f (xs.map h)).bind _=_
    rw[ih fun y hy=>hf y (wak _ hy)];rfl
 rw[this,zOB,if_pos];rw[wao];exact waq hl (by decide)
theorem zha {α:Type}(f:α->D)(xs:List α):zen (xs.map f)=xs.zipIdx.map fun p=>.tup [.int (p.2:Nat),f p.1]:=by
 unfold zen;rw[List.zipIdx_map,waM];rfl
theorem zcd {α:Type}(xs:List α)(n:Nat):(xs.zipIdx n).map (·.1)=xs:=by
 induction xs generalizing n with
 | nil=>rfl
 | cons x xs ih=>rw[List.zipIdx_cons,wav,ih]
theorem zgd (x y:Str):dEqG false (.str x) (.str y)=some (.bl (decide (x=y))):=by
 show(if eqC (.str x) (.str y)=true then some (D.bl (if false=true then !decide (D.str x=D.str y) else decide (D.str x=D.str y))) else none)=_
 rw[if_pos (by rfl),if_neg (by decide),zal (show D.str x=D.str y↔x=y from⟨fun h=>by cases h;rfl,fun h=>by rw[h]⟩)]
theorem zmv (x y:Str):dEqG true (.str x) (.str y)=some (.bl (!decide (x=y))):=by
 show(if eqC (.str x) (.str y)=true then some (D.bl (if true=true then !decide (D.str x=D.str y) else decide (D.str x=D.str y))) else none)=_
 rw[if_pos (by rfl),if_pos rfl,zal (show D.str x=D.str y↔x=y from⟨fun h=>by cases h;rfl,fun h=>by rw[h]⟩)]
theorem zmw (x y:Int):dEqG false (.int x) (.int y)=some (.bl (decide (x=y))):=by
 show(if eqC (.int x) (.int y)=true then some (D.bl (if false=true then !decide (D.int x=D.int y) else decide (D.int x=D.int y))) else none)=_
 rw[if_pos (by rfl),if_neg (by decide),zal (show D.int x=D.int y↔x=y from⟨fun h=>by cases h;rfl,fun h=>by rw[h]⟩)]
theorem zdJ {d:D}(h:eqC d d=true)(neg:Bool):dEqG neg d d=some (.bl (!neg)):=by
 unfold dEqG;rw[if_pos h,waH rfl];cases neg <;> rfl
def lex3 (t u:Int×Int×Int):Bool:=decide (t.1<u.1)||(decide (t.1=u.1)&&(decide (t.2.1<u.2.1)||(decide (t.2.1=u.2.1)&&decide (t.2.2<u.2.2))))
def trD (t:Int×Int×Int):D:=.tup [.int t.1,.int t.2.1,.int t.2.2]
theorem trD_inj {t u:Int×Int×Int}:trD t=trD u↔t=u:=by
 constructor
 ·intro h;obtain⟨a,b,c⟩:=t;obtain⟨a',b',c'⟩:=u;cases h;rfl
 ·intro h;rw[h]
theorem zge {a b:Int}{xs ys:List D}(hl:xs.length=ys.length):ltL (.int a::xs) (.int b::ys)=if a=b then ltL xs ys else some (decide (a<b)):=by
 rw[ltL,if_pos (by rfl)];by_cases h:a=b
 ·rw[if_pos (by rw[h]),if_pos h]
 ·rw[if_neg (by intro z;cases z;exact h rfl),if_neg h,if_pos hl,ltD]
theorem zp2 (t u:Int×Int×Int):ltD (trD t) (trD u)=some (lex3 t u):=by
 obtain⟨a,b,c⟩:=t;obtain⟨a',b',c'⟩:=u;show ltL [.int a,.int b,.int c] [.int a',.int b',.int c']=_
 rw[zge (show[D.int b,.int c].length = [D.int b',.int c'].length from rfl)];unfold lex3;by_cases h:a=a'
 ·rw[if_pos h,zge (show[D.int c].length = [D.int c'].length from rfl)];by_cases h2:b=b'
  ·rw[if_pos h2,zge (show([]:List D).length=([]:List D).length from rfl)];by_cases h3:c=c'
   ·rw[if_pos h3];simp[ltL,h,h2,h3]
   ·rw[if_neg h3];simp[h,h2]
  ·rw[if_neg h2];simp[h,h2]
 ·rw[if_neg h];simp[h]
theorem zkJ {t u:Int×Int×Int}{n m:Int}{xs ys:List D}(hl:xs.length=ys.length)(hx:n=m->ltL xs ys=some false):ltD (.tup (trD t::.int n::xs)) (.tup (trD u::.int m::ys))=some (if t=u then decide (n<m) else lex3 t u):=by
 rw[ltD,ltL,if_pos (by rfl)];by_cases h:t=u
 ·rw[if_pos (by rw[h]),if_pos h,zge hl];by_cases h2:n=m
  ·rw[if_pos h2,hx h2,h2];simp
  ·rw[if_neg h2]
 ·rw[if_neg (fun z=>h (trD_inj.mp z)),if_neg h,if_pos (by simp[hl]),zp2]
theorem zfc {lt lt':Nat->Nat->Option Bool}:∀{k:Nat},(∀a b,a<=k->b<=k->lt a b=lt' a b)->zde lt k=zde lt' k
 | 0,_=>rfl
 | k+1,h=>by
   unfold zde;rw[zfc fun a b ha hb=>h a b (by omega) (by omega)];cases e:zde lt' k with
   | none=>rfl
   | some m=>
     rw[zOB,zOB,h (k+1) m (wae _) (Nat.le_succ_of_le (zdC e))]
theorem zfL {lt:Nat->Nat->Option Bool}:∀{k:Nat},(∀a b,a<=k->b<=k->(lt a b).isSome=true)->∃i,zde lt k=some i
 | 0,_=>⟨0,rfl⟩
 | k+1,h=>by
   obtain⟨m,e⟩:=zfL (lt:=lt) (k:=k) fun a b ha hb=>h a b (by omega) (by omega)
   obtain⟨b,eb⟩:=wbc.mp (h (k+1) m (wae _) (Nat.le_succ_of_le (zdC e)));exact⟨_,by unfold zde;rw[e,zOB,eb];rfl⟩
theorem zfM {α:Type}{f:List D->D->Option (List D)}{m:Nat}(h:α->D)(g:α->List D):∀{xs:List α}{acc:List D},acc.length+m*xs.length<=10000->(∀acc x,x∈xs->acc.length+m<=10000->f acc (h x)=some (acc++g x))->(∀x,(g x).length<=m)->zcP f acc (xs.map h)=some (acc++xs.flatMap g)
 | [],acc,_,_,_=>by show some acc=_;simp
 | x::xs,acc,hl,hf,hg=>by
   rw[waS,Nat.mul_succ] at hl;show(f acc (h x)).bind _=_
   rw[hf acc x war (by omega),zOB];have:=hg x
   refine Eq.trans (zfM h g (xs:=xs) (acc:=acc++g x) (by rw[wam];omega) (fun a y hy=>hf a y (wak _ hy)) hg) ?_;simp
theorem zhb {S α:Type}{f:S->D->Option S}(h:α->D)(G:List α->S){xs:List α}(hf:∀pre x post,xs=pre++x::post->f (G pre) (h x)=some (G (pre++[x]))):∀(pre post:List α),xs=pre++post->zcP f (G pre) (post.map h)=some (G xs)
 | pre,[],e=>by rw[e,waJ];rfl
 | pre,x::post,e=>by
   show(f (G pre) (h x)).bind _=_
   rw[hf pre x post e,zOB];exact zhb h G hf (pre++[x]) post (by rw[e];simp)
def dctD {α:Type}(key:α->Key)(val:α->D)(xs:List α):D:=.dct (xs.map key) (xs.map val)
theorem zkK {α:Type}{key:α->Key}{val:α->D}{xs:List α}{kd:D}{x:α}(hk:keyD kd=some (key x))(hn:key x∉xs.map key)(hl:xs.length<=10000):zi6 (dctD key val xs) kd (val x)=some (dctD key val (xs++[x])):=by
 show((keyD kd).bind fun k=>if(xs.map key).length<lim then some (D.dct (putKD (xs.map key) (xs.map val) k (val x)).1 (putKD (xs.map key) (xs.map val) k (val x)).2) else none)=_
 rw[hk,zOB,if_pos (by rw[wao];exact wbe hl (by decide))];unfold putKD;rw[if_neg (by
  rw[wbK];rintro⟨y,hy,e⟩;exact hn ((wbk e)▸hy))]
 unfold dctD;rw[wap,wap];rfl
theorem zhc {α:Type}{key:α->Key}{val:α->D}:∀{xs:List α}{x:α},(xs.map key).Nodup->x∈xs->dLook (xs.map key) (xs.map val) (key x)=some (val x)
 | y::xs,x,hn,hx=>by
   rw[wav,waK] at hn;rw[wav,wav,dLook];rcases was.mp hx with rfl | hx
   ·rw[if_pos rfl]
   ·rw[if_neg (fun e:key y=key x=>hn.1 (by rw[e];exact waN.mpr ⟨x,hx,rfl⟩))];exact zhc hn.2 hx
theorem hasK_mem {ks:List Key}{j:Key}:hasK ks j=true↔j∈ks:=by
 unfold hasK;rw[wbK];constructor
 ·rintro⟨y,hy,e⟩;exact(wbk e)▸hy
 ·intro h;exact⟨j,h,waH rfl⟩
end GM
namespace VD
open PySem PySem.Spec PyProof PyProof.Rows L2 PySem.W
section
variable {X:Cx}{a:Expr}{fa:FE}
end
section
variable {X:Cx}{a b e:Expr}{es:List Expr}{fa fb:FE}{fl:FA}{p pos:Pos}{Pc:Hp->Prop}
end
section
variable {P:Program}{w:World}{K:W.Frag}{mg:Str->Option Value}{base:Heap}{Pc:Hp->Prop}
end
end VD
namespace L2
open PySem PySem.Spec PyProof PyProof.Rows
section
variable {X:Cx}
end
end L2
namespace VD
open PySem PySem.Spec PyProof PyProof.Rows L2 PySem.W
section
variable {X:Cx}{a b e:Expr}{fa fb:FE}
end
end VD
namespace HT
open PySem PySem.Spec PyProof PyProof.Rows
section
variable {prog:Program}{w:World}{A:Around}{E:Value->Shared->Prop}{s:Shared}
end
end HT
namespace L2
open PySem PySem.Spec PyProof PyProof.Rows
section
variable {X:Cx}
end
end L2
namespace VD
open PySem PySem.Spec PyProof PyProof.Rows L2 PySem.W
section
variable {X:Cx}{a:Expr}{fa:FE}{p2 pos:Pos}
end
end VD
namespace VD
open PySem PySem.Spec PyProof PyProof.Rows L2
section
variable {ρ:En}{xs:List D}{i:Nat}{fk fv:FE}{f:FA}
end
section
variable {S:Type}{emb:S->En}{ρ:En}{s:S}{f:FX}{x:Option (D×S)}
end
end VD
namespace VD
open PySem PySem.Spec PyProof PyProof.Rows L2 PySem.W
section
variable {X:Cx}{a b e e1':Expr}{es:List Expr}{fa fb:FE}{fl:FA}{p pos:Pos}{Pc:Hp->Prop}
end
end VD
namespace VD
open PySem PySem.Spec PyProof PyProof.Rows L2
structure GDct (P:Program)(w:World)(K:W.Frag)(mg:Str->Option Value)(x:Str)(ks:List Key)(ds:List D):Prop where
 ex:∃(p:Addr) (o:Obj) (es:Array DictEntry) (ep:Nat) (kvs:List (Key×V)) (vs:List (Key×Value)),mg x=some (.ref p)/\K.lookup p=some o/\o.ExactDict/\o.data=.dict es ep/\KeysOf (zaO P w) es/\Pairs (zaO P w) es.toList vs/\(vs.map (·.1)).Nodup/\KV kvs vs/\kvs.map (·.1)=ks/\∀H J,RpL K H J (kvs.map (·.2)) ds
section
variable {X:Cx}{i b:Expr}{ty:TE}{pos p':Pos}{x:Str}
def tGD (kvs:List (Key×V))(ty:TE):TE:=fun σ H Q=>ty σ H fun y H1=>∃k v,y=kV k/\valV kvs k=some v/\Q v H1
theorem zmx {p:Addr}{o:Obj}{es:Array DictEntry}{ep:Nat}{kvs:List (Key×V)}{vs:List (Key×Value)}(hm:X.mg x=some (.ref p))(hl:X.K.lookup p=some o)(hx:o.ExactDict)(hd:o.data=.dict es ep)(h1:KeysOf (zaO X.prog X.w) es)(h2:Pairs (zaO X.prog X.w) es.toList vs)(h3:(vs.map (·.1)).Nodup)(h4:KV kvs vs)
 (hi:PE X i ty) (hs:NoSl i) (hg:Gl X x) (hdb:(x == ("__debug__" : Str))=false):PE X (.Subscript (.Name x p') i pos) (tGD kvs ty):=by
 intro pins s σ H Q I h;refine zjV PySem.F.slot_dict_getitem.lookup hs (zhw I hg hm (thn (hi pins s σ H _ I h) fun iv s2 ⟨y,H2,I2,ry,k,v,ey,ev,q⟩ =>?_) hdb);subst ey;have dd:s2.heap.DictOf (zaO X.prog X.w) p vs:=⟨o,es,ep,I2.kIn _ _ hl,hx,hd,h1,h2,h3⟩
 obtain⟨w',hw,rw'⟩:=RelO.some_of (v:=v) (o:=valueAt vs k) (by rw[<-ev];exact h4.val k);exact⟨dd.typeIs,wpAny_getItem_of (zhB ry) dd.mapOf hw ⟨v,H2,I2.tok _,rw',q⟩⟩
theorem zmy {ks:List Key}{ds:List D}{fk:FE}(G:GDct X.prog X.w X.K X.mg x ks ds)(hb:VW X b fk)(hg:Gl X x:=by rfl)(hdb:(x == ("__debug__" : Str))=false:=by decide)(hs:NoSl b:=by exact fun _ _=>rfl):VE X (.Subscript (.Name x p') b pos) (e1 (dGet (.dct ks ds)) fk):=by
 obtain⟨p,o,es,ep,kvs,vs,hm,hl,hx,hd,h1,h2,h3,h4,h5,h6⟩:=G.ex;obtain⟨t2,p2,g2⟩:=hb;refine⟨_,zmx hm hl hx hd h1 h2 h3 h4 p2 hs hg hdb,?_⟩;intro Hz Jz O ρ σ H J d Q s e w;obtain⟨y,ey,eB⟩:=bind_some e;refine g2 Hz Jz O ρ σ H J y _ s ey fun v2 H2 J2 u2 r2=>?_
 obtain⟨j,ej,eC⟩:=bind_some (show((keyD y).bind fun j=>dLook ks ds j)=some d from eB);obtain⟨v,hv,rv⟩:=zga h5 (h6 H2 J2) eC;exact⟨j,v,zgZ r2 ej,hv,w v H2 J2 u2 rv⟩
end
def entS (w:World)(e:DictEntry)(k v:Str):Prop:=∃t u,e.key=.str k t/\e.val=.str v u/\e.hash=hashStr w k
inductive EntS (w:World):List DictEntry->List (Str×Str)->Prop
 | nil:EntS w [] []
 | cons {e:DictEntry}{k v:Str}{es:List DictEntry}{kvs:List (Str×Str)}(h:entS w e k v) (t:EntS w es kvs):EntS w (e::es) ((k,v)::kvs)
theorem zov {P:Program}{w:World}{K:W.Frag}{mg:Str->Option Value}{x:Str}{p:Addr}{es:Array DictEntry}{ep:Nat}{kvs:List (Str×Str)}(hm:mg x=some (.ref p))(hl:K.lookup p=some ⟨.type "dict",none,.dict es ep,#[]⟩)(he:EntS w es.toList kvs)(hn:(kvs.map (·.1)).Nodup):GDct P w K mg x (kvs.map fun q=>.inr q.1) (kvs.map fun q=>.str q.2):=by
 have key:∀{l:List DictEntry}{kvs:List (Str×Str)},EntS w l kvs->(∀e∈l,∃k,(zaO P w).is k e.key=true/\e.hash=(zaO P w).hash k)/\∃vs,Pairs (zaO P w) l vs/\vs.map (·.1)=kvs.map (fun q=>Sum.inr q.1)/\KV (kvs.map fun q=>((Sum.inr q.1:Key),V.str q.2)) vs:=by
  intro l kvs h;induction h with
  | nil=>exact⟨fun e h=>(by cases h),[],Pairs.nil,rfl,Paired.nil⟩
  | @cons e k v es kvs h t ih=>
    obtain⟨t1,t2,h1,h2,h3⟩:=h;obtain⟨i1,vs,i2,i3,i4⟩:=ih;refine⟨fun e' he=>?_,(.inr k,.str v t2)::vs,.cons (by rw[h1];exact zda P w k t1) h2 i2,by rw[wav,i3];rfl,.cons ⟨rfl,⟨t2,rfl⟩⟩ i4⟩;rcases was.mp he with rfl | he
    ·exact⟨.inr k,by rw[h1];exact zda P w k t1,h3⟩
    ·exact i1 e' he
 obtain⟨k1,vs,k2,k3,k4⟩:=key he;refine⟨p,_,es,ep,kvs.map fun q=>((Sum.inr q.1:Key),V.str q.2),vs,hm,hl,⟨rfl,rfl,rfl⟩,rfl,fun e h=>k1 e (Array.mem_toList_iff.mpr h),k2,?_,k4,by rw[waM];rfl,fun H J=>?_⟩
 ·rw[k3];have:(kvs.map fun q=>(Sum.inr q.1:Key))=(kvs.map (·.1)).map Sum.inr:=by rw[waM];rfl
  rw[this];exact List.Pairwise.map _ (fun a b h e=>h (wcJ e)) hn
 ·clear he hn k1 k2 k3 k4
  induction kvs with
  | nil=>exact .nil
  | cons q kvs ih=>exact .cons (.str _) ih
section
variable {X:Cx}{e:Expr}{fa:FE}{fl:FA}{pos pos':Pos}{x:Str}
theorem vsS (i:Nat)(hN:X.N.Nodup)(h:VE X e fa)(hi:X.N[i]?=some x:=by rfl)(hx:Loc X.env.scope x:=by first | exact Or.inl rfl | exact Or.inr rfl)(hs:swapsWith e (some (.Name x pos')) pos.line X.env=pure false:=by rfl)(hf:X.fn x=true\/X.env.scope.names.lookup x=some .local:=by first | exact .inl rfl | exact .inr rfl | assumption) :
 VS X (.Assign [.Name x pos'] e pos) (gSet i fa):=zpG hN hi hx h hs hf
theorem vsO (i:Nat)(hN:X.N.Nodup)(h:VN X e fl)(hi:X.N[i]?=some x:=by rfl)(hx:Loc X.env.scope x:=by first | exact Or.inl rfl | exact Or.inr rfl)(hs:swapsWith e (some (.Name x pos')) pos.line X.env=pure false:=by rfl)(hf:X.fn x=true\/X.env.scope.names.lookup x=some .local:=by first | exact .inl rfl | exact .inr rfl | assumption) :
 VS X (.Assign [.Name x pos'] e pos) (gOwn i fl):=zpI hN hi hx h hs hf
theorem vgN (i:Nat)(hN:X.N.Nodup)(hi:X.N[i]?=some x:=by rfl)(hx:Loc X.env.scope x:=by first | exact Or.inl rfl | exact Or.inr rfl)(hf:X.fn x=true\/X.env.scope.names.lookup x=some .local:=by first | exact .inl rfl | exact .inr rfl | assumption):VG X (.Name x pos) [i] (gN i):=znQ hN hi hx hf
theorem vgc (i:Nat){X:Cx}{scope:Scope}{cl:List (Str×Addr)}{NC:List Str}{C:Addr}{s0:Shared}{H0:Hp}{ex:List Addr}{pn:List (Addr×Obj)}{x:Str}{pos:Pos}(nd:NC.Nodup:=by decide +kernel)(hi:NC[i]?=some x:=by rfl)(hx:scope.names.lookup x=some .local:=by rfl):VG (cxC X scope cl NC C s0 H0 ex pn) (.Name x pos) [i] (gN i):=vgC i nd hi hx
theorem fsc {N P:List Str}{sc:Scope}(a:sc.kind=.function:=by rfl)(b:sc.isCoroutine=false:=by rfl)(c:sc.isGenerator=false:=by rfl)(d:N.Nodup:=by decide +kernel)(e:N.take P.length=P:=by rfl)(f:∀x∈P,sc.names.lookup x=some .local\/sc.names.lookup x=some .cell:=by decide +kernel)(g:∀y∈sc.names,y.2≠.free:=by decide +kernel):FnScope N P sc:=⟨a,b,c,d,e,f,g⟩
theorem vnC (N:List Str)(st:Stmt){X:Cx}{elt iter tg:Expr}{ifs:List Expr}{scope:Scope}{pos:Pos}{NC:List Str}(fr:List (Option Nat)){fi:FA}{g:FG}{is:List Nat}{ft:FT}{fe:FE}(hi:VI X tg iter fi)
 (hg:∀{cl C s0 H0 ex pn},VG (cxC X scope cl NC C s0 H0 ex pn) tg is g) (ht:∀{cl C s0 H0 ex pn},VTs (cxC X scope cl NC C s0 H0 ex pn) ifs ft) (he:∀{cl C s0 H0 ex pn},VE (cxC X scope cl NC C s0 H0 ex pn) elt fe)
 (hcalm:X.calm=true:=by rfl) (hcells:∀x,X.env.scope.names.lookup x=some .cell->∃c,X.env.cells.lookup x=some c:=by exact fun x h=>zev h) (hfk:X.env.scope.kind=.function:=by rfl) (hN:X.N=N:=by rfl) (hsc:X.env.scope.names=(zae st).names:=by rfl)
 (hfree':∀y∈scope.names,y.2=.free->(zae st).names.lookup y.1=some .cell:=by decide +kernel) (hcell:∀y∈scope.names,y.2≠.cell:=by decide +kernel) (hkind:scope.kind=.function:=by rfl) (hnames:∀y∈scope.names,y.2=.local->scope.names.lookup y.1=some .local:=by decide +kernel)
 (hfr':zf4 N (zae st).names scope.names NC fr=true:=by decide +kernel) (hlen:fr.length=NC.length:=by rfl) (hap:apart is fr=true:=by decide)
 (hs:∀x,foldedSetIterable iter X.env x=pure x:=by intro _;rfl):VN X (.ListComp elt [⟨tg,iter,ifs,0⟩] scope pos) (zgV fr fi g ft fe):=
 znT N st fr hcalm hi hcells hfk hN hsc hfree' hcell hkind hnames hfr' hlen hap (fun _ _ _ _ _ _=>hg) (fun _ _ _ _ _ _=>ht) (fun _ _ _ _ _ _=>he) hs
end
end VD
namespace EX
open PySem PySem.Spec PySem.W PyProof.Rows
section
variable {prog:Program}{w:World}{A:Around}{E:Value->Shared->Prop}{h:Heap}{g:Array GenState}{d:Drawn}{t:Nat}{os:OsState}
variable {nm q:Str}{C N:Addr}{bs bm bmB:List Value}{hdct:Bool}{sn:List Str}{sub:List Value}{ab:Bool}{col:Option Bool}{dd:Option Addr}{k0 k1 k2 k3 k5:Option Value}{B newId initId:String}
end
section
variable {prog:Program}{w:World}{A:Around}{E:Value->Shared->Prop}{h:Heap}{g:Array GenState}{d:Drawn}{t:Nat}{os:OsState}
variable {nm q:Str}{C N:Addr}{bs bm bmB:List Value}{hdct:Bool}{sn:List Str}{sub:List Value}{ab:Bool}{col:Option Bool}{dd:Option Addr}{k0 k1 k2 k3 k5:Option Value}{B newId:String}
end
section
variable {prog:Program}{w:World}{A:Around}{E:Value->Shared->Prop}{h:Heap}{g:Array GenState}{d:Drawn}{t:Nat}{os:OsState}
variable {C N:Addr}{bm:List Value}{K:Frag}{env:Env}{body:List Stmt}{p0 p1 ap cp:Pos}{J:Expr}{f cda cc e t0:Addr}{of ocd:Obj}{fd:FuncData}{ar:Arg}{vs:Array Value}{file:Str}{tf:Tok}{mg mb m:Str->Option Value}{dx:Option Addr}
end
open Builtin.ObjectAttr
section
variable {prog:Program}{w:World}{A:Around}{E:Value->Shared->Prop}{h:Heap}{g:Array GenState}{d:Drawn}{t:Nat}{os:OsState}
variable {C N x:Addr}{K:Frag}{o:Obj}{name:Str}{v:Value}{Q:Unit->Shared->Prop}{R:Result->Shared->Prop}{s:Shared}
end
section
variable {prog:Program}{w:World}{A:Around}{E:Value->Shared->Prop}{h:Heap}{g:Array GenState}{d:Drawn}{t:Nat}{os:OsState}
variable {C N fI:Addr}{bm:List Value}{slf x nm:Str}{J:Expr}{fd:FuncData}{K:Frag}
end
end EX
namespace EX
open PySem PySem.Spec PyProof.Rows L2
def XAt (h0:Heap)(H:Hp)(h:Heap)(e:Addr)(cls:Value)(dx:Option Addr):Prop:=
 h0.objs.size<=e/\H e=none/\(∀d,dx=some d->h0.objs.size<=d)/\∃vs sl,h.get? e=some ⟨cls,dx,.fields vs,sl⟩ /\(vs[1]?=some .none\/∃T oT ts,vs[1]?=some (.ref T)/\T≠e/\h0.objs.size<=T/\H T=none/\h.get? T=some oT/\oT.data=.fields ts/\ts[3]?=some .none)
section
variable {M:Model}{A:Around}{E:Value->Shared->Prop}{s:Shared}{h0 base:Heap}{H:Hp}{env:Env}{outer:List Env}{L e:Addr}{cls:Value}{dx:Option Addr}{vs:Array Value}{sl:Array (Option Value)}
end
def CXE (P:Program)(w:World):CXT:=fun outer H s E e s'=>∃a cls dx H',e=.ref a/\XAt s.heap H' s'.heap a cls dx/\s'.os=s.os/\AllBare s'.gens/\Un (frs outer) [] H H' s.heap s'.heap/\HOk P w H' s'.heap/\E cls dx H'
section
variable {M:Model}{A:Around}{E:Value->Shared->Prop}{env:Env}
variable {nm q:Str}{C N:Addr}{bs bm:List Value}{hdct:Bool}{sn:List Str}{sub:List Value}{ab:Bool}{col:Option Bool}{dd:Option Addr}{k0 k1 k2 k3 k5:Option Value}{newId:String}
end
section
variable {X:Cx}{C N fI:Addr}{bm:List Value}{slf x nm cn:Str}{J e:Expr}{fd:FuncData}{te:TA}{E:XK}{np cp pos:Pos}{k:Nat}
end
def XP (X:Cx)(pins:List (Addr×Obj))(σ:L2.St)(E:XK)(e:Value)(s':Shared):Prop:=∃H1 s1,Inv X pins σ H1 s1/\CXE X.prog X.w X.stack H1 s1 E e s'
section
variable {X:Cx}{pins:List (Addr×Obj)}{σ:L2.St}{E:XK}{e:Value}{s':Shared}{Ex:Value->Shared->Prop}
end
section
variable {X:Cx}{pins:List (Addr×Obj)}{σ:L2.St}{H:Hp}{s:Shared}
end
section
variable {X:Cx}{pins:List (Addr×Obj)}{σ:L2.St}{H:Hp}{s:Shared}
end
section
variable {X:Cx}{pins:List (Addr×Obj)}{σ:L2.St}{H:Hp}{s:Shared}{e:Value}
end
section
variable {X:Cx}{T n:Str}{tp hp pos:Pos}{body suite:List Stmt}{b₀:Stmt}{CT:Addr}{i:Nat}{tb:TX}{th:TS}
end
section
variable {X:Cx}{k:Nat}{f:Addr}{fd:FuncData}{ps:List Str}{sp:Sp}{dvs:List V}{ds:List Value}{x:Str}{p pos:Pos}{e:Expr}{es:List Expr}{t:TA}{te:TEX}
end
end EX
namespace EX
open PySem PySem.Spec PySem.W PyProof.Rows
section
variable {prog:Program}{w:World}{A:Around}{E:Value->Shared->Prop}{h:Heap}{g:Array GenState}{d:Drawn}{t:Nat}{os:OsState}
variable {C x:Addr}{K:Frag}{ox:Obj}{od:Option Obj}{name:Str}{v:Value}{expr:Bool}{Q:Value->Shared->Prop}
end
section
variable {prog:Program}{w:World}{A:Around}{E:Value->Shared->Prop}{h:Heap}{g:Array GenState}{d:Drawn}{t:Nat}{os:OsState}
variable {C x:Addr}{K:Frag}{ox:Obj}{od:Option Obj}
end
section
variable {prog:Program}{w:World}{K:Frag}{fd:FuncData}{fI:Addr}{x p y:Str}{tk0:Tok}{h0:Heap}{cp np fp jp:Pos}{k:Nat}
end
end EX
namespace EX
open PySem PySem.Spec PyProof.Rows L2
section
variable {X:Cx}{pins:List (Addr×Obj)}{σ:L2.St}{H:Hp}{s:Shared}{A:Around}{E:Value->Shared->Prop}{C a d:Addr}{oa od:Obj}{f:Str}{fs:List (Str×V)}{v:V}{expr:Bool}{Q:Value->Shared->Prop}
end
end EX
namespace EX
open PySem PySem.Spec PySem.W PyProof.Rows
section
variable {prog:Program}{w:World}{A:Around}{E:Value->Shared->Prop}{h:Heap}{g:Array GenState}{d:Drawn}{t:Nat}{os:OsState}
variable {nm q:Str}{C N:Addr}{bs bm bmB:List Value}{hdct:Bool}{sn:List Str}{sub:List Value}{ab:Bool}{col:Option Bool}{dd:Option Addr}{k0 k1 k2 k3 k5:Option Value}{B newId initId:String}
end
open L2
section
variable {X:Cx}{C N:Addr}{bm:List Value}{cn:Str}{e:Expr}{te:TA}{E:XK}{np cp pos:Pos}{k:Nat}
end
section
variable {X:Cx}{pins:List (Addr×Obj)}{σ:L2.St}{H:Hp}{s:Shared}{A:Around}{E:Value->Shared->Prop}{C a:Addr}{oa:Obj}{Q:Value->Shared->Prop}
end
end EX
namespace VD
open PySem PySem.Spec PyProof PyProof.Rows L2 EX
section
variable {K:W.Frag}{H H' H1 Hz:Hp}{J J' J1 Jz:Addr->Prop}{O:Pr}{ρ:En}{σ:L2.St}{x:D}{E:XK}
end
section
variable {X:Cx}{k k':Nat}{x:Str}{ps:List Str}{F:List D->Option D}{e:Expr}{es:List Expr}{fl:FA}{f:FE}{p pos:Pos}
end
section
variable {X:Cx}{E:XK}{st:Stmt}{sts:List Stmt}{g g2:FS}{pos:Pos}{e a:Expr}{fa:FE}{fl:FA}{ft:FT}
end
section
variable {X:Cx}{E:XK}{c nm:Str}{ok:D->Bool}{e:Expr}{fa:FE}{k:Nat}{np cp pos:Pos}
end
section
variable {X:Cx}{body ss:List Stmt}{e:Expr}{pos:Pos}{f fx:FE}{ft:FT}
end
section
variable {X:Cx}{a e:Expr}{fa:FE}{p q pos:Pos}{T:Str}{cv:V}{u:Value}{tab:List (Str×Bool)}
end
section
variable {X:Cx}{E:XK}{fa:FE}{pos:Pos}
end
section
variable {K:W.Frag}{mg:Str->Option Value}{c T f:Str}{C CT:Addr}{cv:Value}{b:Bool}{tab:List (Str×Bool)}{Cs:List Addr}{cs:List Str}
end
section
variable {X:Cx}{e a b c:Expr}{es:List Expr}{f fx:FE}{fa:FE}{ft:FT}{pos:Pos}
end
section
variable {X:Cx}{k k':Nat}{x:Str}{p:Pos}{es fs:List Expr}{e ie:Expr}{fl:FA}{fi:FE}{g:List D->Option D}{gs:List (List D->Option D)}{pos lp sp:Pos}
end
section
variable {prog:Program}{w:World}{K:W.Frag}{fd:FuncData}{fI:Addr}{x p:Str}{cp np fp jp:Pos}{k:Nat}
end
section
variable {X:Cx}{k k':Nat}{x:Str}{ps:List Str}{F:List D->Option D}{e:Expr}{es:List Expr}{fl:FA}{f:FE}{p pos:Pos}{Pc:Hp->Prop}
end
variable {X:Cx}{f:FE}{e:Expr}{es:List Expr}{fl:FA}{p pos:Pos}
end VD
namespace VD
open PySem PySem.Spec PyProof PyProof.Rows L2
section
variable {X:Cx}{kx vx iter tg:Expr}{scope:Scope}{pos:Pos}{NC:List Str}{fi:FA}{g:FG}{is:List Nat}{fk fv:FE}
end
end VD
namespace EX
open PySem PySem.Spec PySem.W PyProof.Rows
section
variable {prog:Program}{w:World}{K:Frag}{fd:FuncData}{fI:Addr}{x p q y:Str}{tk0:Tok}{h0:Heap}{cp cq np fp jp:Pos}{k k2:Nat}
end
end EX
namespace VD
open PySem PySem.Spec PyProof PyProof.Rows L2 EX
section
variable {X:Cx}{E:XK}{c:Str}{e:Expr}{fa:FE}{k:Nat}{np cp pos:Pos}
end
end VD
namespace VD
open PySem PySem.Spec PyProof PyProof.Rows L2
section
variable {X:Cx}{tg a b:Expr}{fa fb:FE}{pos:Pos}
end
section
variable {X:Cx}{a b:Expr}{fa fb:FE}{pos p2:Pos}
end
end VD
namespace VD
open PySem PySem.Spec PyProof PyProof.Rows L2 EX
end VD
namespace VD
open PySem PySem.Spec PyProof PyProof.Rows L2
def zqQ:List D->Option (List D)
 | [.lst ds]=>some ds
 | [.tup ds]=>some ds
 | _=>none
def zkL (l:List D):Option (List D):=(zqQ l).bind fun ds=>some (zen ds)
def zp3 (f:FA):FA:=fun ρ=>(f ρ).bind zkL
section
variable {X:Cx}{a b:Expr}{fl:FA}{pos p p2:Pos}
theorem zmz {elts:List Expr}{x1}{tpos:Pos}(B:Blt X.mg)(ha:VA X [a] fl)(hg:Gl X "enumerate":=by rfl)(hs:starEach [a] X.env = [(false,eval a X.env)]:=by rfl):VI X (.Tuple elts x1 tpos) (.Call (.Name "enumerate" p) [a] [] pos) (zp3 fl):=by
 obtain⟨t,q,g⟩:=ha;refine⟨_,znN (zlJ hg (B.get "enumerate") q hs) (zjP hg (B.get "enumerate") q hs),?_⟩;intro Hz Jz O ρ σ H J ds R s e w;obtain⟨l,e1,e⟩:=bind_some e;obtain⟨xs,e2,e⟩:=bind_some e;cases e;match l,e2 with
 | [.lst _],e2=>
   cases e2;refine .inl (g Hz Jz O ρ σ H J _ _ s e1 fun vs H1 J1 u1 r1=>?_);cases r1 with
   | cons h t=>
     cases t;cases h with
     | lst h j r=>
       refine⟨_,rfl,⟨_,SqL.of h⟩,w _ H1 J1 u1 fun H2 J2 k ja=>?_⟩;have h2:=SqL.of (K:=X.K) (k.jo _ _ j h)
       refine⟨⟨_,h2,by rw[r.length,zb3];exact wae _⟩,fun i d hd=>?_⟩;obtain⟨x,hx,rfl⟩:=zdx hd;obtain⟨v,hv,rv⟩:=r.get hx;refine⟨⟨_,v,h2,hv⟩,fun y H3 hy=>?_⟩;obtain⟨q,hn,rfl,hy⟩:=hy;obtain⟨y,ey,rfl⟩:=hy _ h2;rw[hv] at ey;cases ey;have un:=Up.new ja hn (.tup [.int (i:Nat),v])
       exact⟨J2,un,.tup (SqT.of zah) (.cons (.int _) (.cons ((rv.keep k).keep un.keep) .nil))⟩
 | [.tup _],e2=>
   cases e2;refine .inr (g Hz Jz O ρ σ H J _ _ s e1 fun vs H1 J1 u1 r1=>?_);cases r1 with
   | cons h t=>
     cases t;cases h with
     | tup h r=>
       refine⟨_,rfl,⟨_,h⟩,w _ H1 J1 u1 fun H2 J2 k ja=>?_⟩;have h2:=k.tp _ _ h
       refine⟨⟨_,h2,by rw[r.length,zb3];exact wae _⟩,fun i d hd=>?_⟩;obtain⟨x,hx,rfl⟩:=zdx hd;obtain⟨v,hv,rv⟩:=r.get hx;refine⟨⟨_,v,h2,hv⟩,fun y H3 hy=>?_⟩;obtain⟨q,hn,rfl,hy⟩:=hy;obtain⟨y,ey,rfl⟩:=hy _ h2;rw[hv] at ey;cases ey;have un:=Up.new ja hn (.tup [.int (i:Nat),v])
       exact⟨J2,un,.tup (SqT.of zah) (.cons (.int _) (.cons ((rv.keep k).keep un.keep) .nil))⟩
end
def kysD:List D->Option (List Key)
 | []=>some []
 | d::ds=>(keyD d).bind fun k=>(kysD ds).bind fun ks=>some (k::ks)
def tkD:D->Option (List Key)
 | .tup ds=>kysD ds
 | _=>none
def hasU (ks:List (List Key))(j:List Key):Bool:=ks.any fun k=>decide (k=j)
def dInT (neg:Bool):D->D->Option D
 | x,.dcu ks _=>(tkD x).bind fun j=>some (.bl (if neg then !hasU ks j else hasU ks j))
 | _,_=>none
def zer (ks:List (List Key))(ds:List D)(j:List Key)(d:D):List (List Key)×List D:=if ks.any (fun k=>decide (k=j))=true then(ks,(ks.zip ds).map fun p=>if p.1=j then d else p.2) else(ks++[j],ds++[d])
section
variable {X:Cx}{K:W.Frag}{a b e:Expr}{es:List Expr}{fa fb fk:FE}{fv:FX}{fl:FA}{pos p2:Pos}{H H':Hp}{J J':Addr->Prop}
theorem zkM:∀{vs:List V}{ds:List D}{ks:List Key},RpL K H J vs ds->kysD ds=some ks->vs=ks.map kV
 | _,_,_,.nil,h=>by cases h;rfl
 | _,_,_,.cons a t,h=>by
   obtain⟨k,e1,h⟩:=zaf h;obtain⟨ks,e2,h⟩:=zaf h;cases h;rw[wav,zgZ (.inl a) e1,zkM t e2]
def GoKy (K:W.Frag)(t:TE)(f:FE):Prop:=∀Hz Jz O ρ σ H J d ks Q,ST K Hz Jz O ρ σ H J->f ρ=some d->tkD d=some ks->(∀q H' J',Up H J H' J'->H' q=some (.tup (ks.map kV))->Q (.ref q) H')->t σ H Q
def VKy (X:Cx)(e:Expr)(f:FE):Prop:=∃t,PE X e t/\GoKy X.K t f
theorem zp4 {x1}(h:VA X es fl):VKy X (.Tuple es x1 pos) (eTup fl):=by
 obtain⟨t,p,g⟩:=h;refine⟨_,zjz p,?_⟩;intro Hz Jz O ρ σ H J d ks Q s e ek w;obtain⟨xs,exs,e⟩:=bind_some e;obtain⟨hl,rfl⟩:=zew e;refine g Hz Jz O ρ σ H J xs _ s exs fun vs H1 J1 u1 r1=>⟨by rw[r1.length];exact zcg hl,fun q hq=>?_⟩
 have un:=Up.new u1.ja hq (.tup vs)
 exact w q _ _ (u1.trans un) (by rw[zah,zkM r1 ek])
theorem ziJ {lo hi:Option Expr}{fl fh:FO}(ha:VW X a fa)(hl:VO X lo fl)(hh:VO X hi fh):VKy X (.Subscript a (.Slice lo hi none p2) pos) (eSl fa fl fh):=by
 obtain⟨t,p,g⟩:=ha;obtain⟨tl,pl,gl⟩:=hl;obtain⟨th,ph,gh⟩:=hh;refine⟨_,zfX (r:=rSlD X.K) (sl_list.or (sl_tup.or zmU)) p pl ph,?_⟩;intro Hz Jz O ρ σ H J d ks Q s e ek w;obtain⟨x,e1,e⟩:=bind_some e;obtain⟨l,e2,e⟩:=bind_some e;obtain⟨h,e3,e⟩:=bind_some e;refine g Hz Jz O ρ σ H J x _ s e1 fun v H1 J1 u1 r1=>?_
 refine gl Hz Jz O ρ σ H1 J1 l _ (s.up u1) e2 fun H2 J2 u2=>?_
 refine gh Hz Jz O ρ σ H2 J2 h _ (s.up (u1.trans u2)) e3 fun H3 J3 u3=>?_
 have r3:=r1.up (u2.trans u3)
 have u:=u1.trans (u2.trans u3)
 match x,e with
 | .lst ds,e=>cases e;cases ek
 | .tup ds,e=>
   have e:(if HT.sIx ds.length 0 l=0/\HT.sIx ds.length ds.length h=ds.length then none else some (D.tup (cut ds l h)))=some d:=e
   by_cases hc:HT.sIx ds.length 0 l=0/\HT.sIx ds.length ds.length h=ds.length
   ·rw[if_pos hc] at e;cases e
   ·rw[if_neg hc] at e;cases e;obtain⟨p,vs,rfl,h1,rl⟩:=r3.tup;refine .inr (.inl ⟨p,vs,rfl,h1,by rw[rl.length];exact hc,fun c hc=>?_⟩);have un:=Up.new u3.ja hc (.tup (cutV vs l h))
    exact w c _ _ (u.trans un) (by rw[zah,zkM (rl.cut l h) ek])
 | .str z,e=>
   have e:(if z.length<=lim then some (D.str (Txt.slice z l h)) else none)=some d:=e
   by_cases hc:z.length<=lim
   ·rw[if_pos hc] at e;cases e;cases ek
   ·rw[if_neg hc] at e;cases e
theorem ziK {kvs:List (List Key×V)}{j:List Key}:(valV kvs j).isSome=hasU (kvs.map (·.1)) j:=by
 unfold valV hasU;rw[wbV,List.any_map,waR,List.find?_isSome,wbK];rfl
theorem zp5 (hu:X.A.units+1<cLine)(ha:VKy X a fa)(hb:VW X b fb)(hm:behindInMarks .In b=false:=by rfl):VT X (.Compare a [.In] [b] pos) (t1 (e2 (dInT false) fa fb)):=by
 obtain⟨t,p,g⟩:=ha;obtain⟨t2,p2,g2⟩:=hb;refine⟨_,zmK (zpj hu p p2) hm,fun Hz Jz O ρ σ H J k Q s e w=>?_⟩;obtain⟨d,e,eB⟩:=bind_some e;obtain⟨x,e1,e⟩:=bind_some e;obtain⟨y,e2,e⟩:=bind_some e;cases y with
 | dcu ks ds=>
   obtain⟨j,ej,e⟩:=bind_some (show((tkD x).bind fun j=>some (D.bl (hasU ks j)))=some d from e);cases e;cases eB;refine g Hz Jz O ρ σ H J x j _ s e1 ej fun q H1 J1 u1 hq=>?_
   refine g2 Hz Jz O ρ σ H1 J1 _ _ (s.up u1) e2 fun v H2 J2 u2 r2=>?_
   obtain⟨z,kvs,vs,rfl,h1,h2,h3,rl⟩:=r2.dcu;refine⟨z,valV kvs j,rfl,DGet.t h1 (u2.same _ _ hq),_,rfl,?_⟩;rw[ziK,h2];exact w H2 J2 (u1.trans u2)
 | _=>cases e
theorem zkN (hu:X.A.units+1<cLine)(ha:VKy X a fa)(hb:VW X b fb)(hm:behindInMarks .NotIn b=false:=by rfl):VT X (.Compare a [.NotIn] [b] pos) (t1 (e2 (dInT true) fa fb)):=by
 obtain⟨t,p,g⟩:=ha;obtain⟨t2,p2,g2⟩:=hb;refine⟨_,zmK (zjW hu p p2) hm,fun Hz Jz O ρ σ H J k Q s e w=>?_⟩;obtain⟨d,e,eB⟩:=bind_some e;obtain⟨x,e1,e⟩:=bind_some e;obtain⟨y,e2,e⟩:=bind_some e;cases y with
 | dcu ks ds=>
   obtain⟨j,ej,e⟩:=bind_some (show((tkD x).bind fun j=>some (D.bl (!hasU ks j)))=some d from e);cases e;cases eB;refine g Hz Jz O ρ σ H J x j _ s e1 ej fun q H1 J1 u1 hq=>?_
   refine g2 Hz Jz O ρ σ H1 J1 _ _ (s.up u1) e2 fun v H2 J2 u2 r2=>?_
   obtain⟨z,kvs,vs,rfl,h1,h2,h3,rl⟩:=r2.dcu;refine⟨z,valV kvs j,rfl,DGet.t h1 (u2.same _ _ hq),_,rfl,?_⟩;rw[ziK,h2];exact w H2 J2 (u1.trans u2)
 | _=>cases e
def zqR:FR:=fun ρ=>some (.new 1 (.dcu [] []),ρ)
theorem zow {pos:Pos}:VR X (.Dict [] [] pos) zqR:=by
 refine⟨_,zlF,fun Hz Jz O ρ σ H J rr ρ' Q s e w=>?_⟩;cases e;intro q hq;have un:=Up.new s.ja hq (.dT [])
 obtain⟨fp,ow⟩:=s.ow;refine w _ _ J (s.up un) un.keep ⟨[q],fp,ow.up s un,.dcu zah rfl rfl .nil,by simp,fun b hb=>?_,fun i b hb hb2=>?_⟩
 ·rw[waf.mp hb];exact⟨fun j=>s.ja q j hq,s.back hq⟩
 ·rw[waf.mp hb] at hb2;obtain⟨o,e,_⟩:=(ow.at' i).ru q hb2;rw[hq] at e;cases e
theorem zmA {kvs:List (List Key×V)}{ks:List (List Key)}{ds:List D}{j:List Key}{v:V}{d:D}(e1:kvs.map (·.1)=ks)(r:RpL K H J (kvs.map (·.2)) ds)(rv:Rp K H J v d) :
 (putK kvs j v).map (·.1)=(zer ks ds j d).1/\RpL K H J ((putK kvs j v).map (·.2)) (zer ks ds j d).2:=by
 have hany:(kvs.any fun kv=>decide (kv.1=j))=ks.any (fun k=>decide (k=j)):=by
  rw[<-e1,List.any_map];rfl
 unfold putK zer;rw[hany];by_cases h:ks.any (fun k=>decide (k=j))=true
 ·rw[if_pos h,if_pos h];constructor
  ·rw[<-e1,waM];apply wbI;intro kv _;simp only[Function.comp];split <;> rfl
  ·clear h hany
   show RpL K H J ((kvs.map fun kv=>if kv.1=j then(kv.1,v) else kv).map (·.2)) ((ks.zip ds).map fun p=>if p.1=j then d else p.2)
   induction kvs generalizing ks ds with
   | nil=>subst e1;cases r;exact .nil
   | cons kv kvs ih=>
     subst e1;cases r with
     | cons h t=>
       simp only[wav,wbx];refine .cons ?_ (ih rfl t);by_cases hk:kv.1=j
       ·simp only[hk,if_true];exact rv
       ·simp only[hk,if_false];exact h
 ·rw[if_neg h,if_neg h];constructor
  ·rw[wap,e1];rfl
  ·rw[wap];exact r.append (.cons rv .nil)
theorem ST.topU {Hz:Hp}{Jz:Addr->Prop}{O:Pr}{ρ:En}{σ:L2.St}{i:Nat}{ks:List (List Key)}{ds:List D}(s:ST K Hz Jz O ρ σ H J)(h0:ownD (ρ[i]?)=some (1,.dcu ks ds)):∃a kvs,σ[i]?=some (some (.ref a))/\H a=some (.dT kvs)/\kvs.map (·.1)=ks/\RpL K H J (kvs.map (·.2)) ds/\
 ∀(kvs':List (List Key×V)) (ks':List (List Key)) (es:List D),kvs'.map (·.1)=ks'->RpL K H J (kvs'.map (·.2)) es->ST K Hz Jz O (setO ρ i (.dcu ks' es)) σ (upd H a (.dT kvs')) J/\Keep K H J (upd H a (.dT kvs')) J:=by
 obtain⟨v,A,hv,r,nd,nj,go⟩:=s.chg h0;obtain⟨a,kvs,vs,rfl,rfl,ha,e1,e2,rl⟩:=r.oneT;subst e2;refine⟨a,kvs,hv,ha,e1,rl,fun kvs' ks' es ek re=>?_⟩;have nja:¬J a:=nj a (by simp)
 have kp:Keep K H J (upd H a (.dT kvs')) J:=zf5 (A:=[a]) (fun b hb=>by rw[waf.mp hb];exact⟨_,ha,trivial⟩) nj (fun b o hb h=>by rw[zak (fun z=>hb (by simp[z]))];exact h) (fun _ h=>h)
 refine go (upd H a (.dT kvs')) J (.dcu ks' es) [a] (fun b o hb h=>?_) (fun b h=>?_) (fun _ h=>h) (fun _ h=>.inl h) (fun b h=>?_) (.dcu zah ek rfl (RpUL.of (re.keep kp))) (by simp) nj (fun b hb=>.inl hb)
 ·rw[zak (fun z=>hb (by simp[z]))];exact h
 ·by_cases e:b=a
  ·subst e;rw[zah];simp
  ·rw[zak e];exact h
 ·by_cases e:b=a
  ·subst e;rw[zah];simp
  ·rw[zak e];exact s.ja b h
def zox (i:Nat)(fk:FE)(f:FX):FS:=fun ρ=>(f ρ).bind fun q=>(fk q.2).bind fun k=>(tkD k).bind fun k=>match ownD (q.2[i]?) with
 | some (1,.dcu ks ds)=>if ks.length<lim then some (.nx (setO q.2 i (.dcu (zer ks ds k q.1).1 (zer ks ds k q.1).2))) else none
 | _=>none
theorem zoy (i:Nat){x:Str}{xp sp:Pos}(hu:X.A.units+1<cLine)(h:VX X e fv)(hk:VKy X a fk)(hN:X.N[i]?=some x:=by rfl)(hv:Vis X.env.scope x:=by first | exact Or.inl rfl | exact Or.inr (Or.inl rfl) | exact Or.inr (Or.inr rfl))(hd:(x == ("__debug__" : Str))=false:=by decide)(hcd:(x == ("__classdict__" : Str))=false:=by decide)
 (hs:swapsWith e (some (.Subscript (.Name x xp) a sp)) pos.line X.env=pure false:=by rfl):VS X (.Assign [.Subscript (.Name x xp) a sp] e pos) (zox i fk fv):=by
 obtain⟨t,p,q⟩:=h;obtain⟨tk,pk,qk⟩:=hk;refine⟨_,zjX hu (zb1 hN hv hd hcd) pk p hs,fun Hz Jz O ρ σ H J o E s e w=>?_⟩;obtain⟨⟨d,ρ1⟩,e1,eA⟩:=bind_some e;obtain⟨k,e2,eB⟩:=bind_some eA;obtain⟨kk,e3,eC⟩:=bind_some eB;refine q Hz Jz O ρ σ H J d ρ1 _ s e1 fun v H1 J1 s1 k1 r1=>?_
 split at eC
 ·rename_i ks ds z
  by_cases hl:ks.length<lim
  ·rw[if_pos hl] at eC;cases eC;obtain⟨a0,_,ha0,_,_,_,_⟩:=s1.topU z;refine⟨.ref a0,ha0,?_⟩;refine qk Hz Jz O ρ1 σ H1 J1 k kk _ s1 e2 e3 fun q2 H2 J2 u2 rk=>?_
   have s2:=s1.up u2
   obtain⟨a1,kvs,ha1,hv1,ek,rl,go⟩:=s2.topU z;rw[ha0] at ha1;cases ha1;obtain⟨p1,p2⟩:=zmA (j:=kk) ek rl (r1.keep u2.keep);obtain⟨s3,k3⟩:=go (putK kvs kk v) _ _ p1 p2;refine⟨a0,_,rfl,DPut.t hv1 rk ?_,w σ _ J2 s3 ((k1.trans u2.keep).trans k3)⟩;have:kvs.length=ks.length:=by rw[<-ek,wao]
   rw[this];exact wan hl (wbs zeT)
  ·rw[if_neg hl] at eC;cases eC
 ·cases eC
def zoz (x k v:D):Option D:=(tkD k).bind fun k=>match x with
 | .dcu ks ds=>if ks.length<lim then some (.dcu (zer ks ds k v).1 (zer ks ds k v).2) else none
 | _=>none
theorem zoA {i:Nat}{ρ:En}{fk f:FE}{x:D}(h:ownD (ρ[i]?)=some (1,x)):Step (zox i fk (xE f)) ρ ((f ρ).bind fun v=>(fk ρ).bind fun k=>zoz x k v) fun y=>setO ρ i y:=fun d z=>by
 obtain⟨v,e0,z1⟩:=zaf z;obtain⟨kk,e1,z2⟩:=zaf z1;obtain⟨key,e2,z3⟩:=zaf z2;unfold zox xE;rw[e0,zOB,zOB];show(fk ρ).bind _=_
 rw[e1,zOB,e2,zOB];show(match ownD (ρ[i]?) with | some (1,.dcu ks ds)=>_ | _=>_)=_
 rw[h];cases x <;> try cases z3
 rename_i ks ds
 have z3:(if ks.length<lim then some (D.dcu (zer ks ds key v).1 (zer ks ds key v).2) else none)=some d:=z3
 split at z3
 ·rename_i q;cases z3;exact if_pos q
 ·cases z3
def dLtG (x y:D):Option D:=if(ndD x&&ndD y&&decide (depD x<=40))=true then(ltD x y).bind fun b=>some (.bl b) else none
def rLtG (K:W.Frag):R2:=fun x y H Q=>∃J d e b,RpW K H J x d/\RpW K H J y e/\ndD d=true/\ndD e=true/\depD d<=40/\ltD d e=some b/\Q (.bl b) H
theorem zqS {k:Nat}(hr:Room k X.A):OpR X (compareOp .Lt) (rLtG X.K):=by
 intro pins s σ H x y v u Q I rx ry ⟨J,d,e,b,r1,r2,n1,n2,hd,hl,q⟩;have hu:=hr.units
 exact znc 40 (A:=X.A) hd (by omega) (r1.rh I n1 rx) (r2.rh I n2 ry) hl _ _ _ _ ⟨.bl b,H,I,rfl,q⟩
theorem zp6:Im2 K (rLtG K) dLtG:=by
 intro H J x y d e d' Q ja hx hy hF w;unfold dLtG at hF;by_cases hc:(ndD d&&ndD e&&decide (depD d<=40))=true
 ·rw[if_pos hc] at hF;obtain⟨b,hb,hF⟩:=zaf hF;cases hF;rw[waj,waj,decide_eq_true_eq] at hc;exact⟨J,d,e,b,hx,hy,hc.1.1,hc.1.2,hc.2,hb,w _ H J (Up.refl ja) (.bl _)⟩
 ·rw[if_neg hc] at hF;cases hF
end
end VD
namespace GX
open PySem PySem.Spec PyProof PyProof.Rows L2
section
variable {prog:Program}{w:World}{A:Around}{elt target iter:Expr}{scope:Scope}{pos:Pos}{it:Value}{cenv:Env}{n:Nat}{P:Nat->Value->Prop}{Mid St:GP}{Dn:Shared->Prop}
end
section
variable {prog:Program}{w:World}{A:Around}{R:Result->Shared->Prop}{I:Addr}{n:Nat}{P:Nat->Value->Prop}{Wt:GP}{Fin:Shared->Prop}{tr:Nat->Bool}
end
section
variable {prog:Program}{w:World}{A:Around}{E:Value->Shared->Prop}{s:Shared}{a:Addr}{n:Nat}{P:Nat->Value->Prop}{Wt:GP}{Fin:Shared->Prop}{tr:Nat->Bool}{Q:Value->Shared->Prop}
end
end GX
namespace GX
open PySem PySem.Spec PyProof PyProof.Rows L2 PySem.W
section
variable {X:Cx}{elt tg iter:Expr}{scope:Scope}{gpos:Pos}{cl:List (Str×Addr)}{NC:List Str}{fr:List (Option Nat)}{g:TG}{te:TE}
end
end GX
namespace VD
open PySem PySem.Spec PyProof PyProof.Rows L2 PySem.W GX
end VD
namespace VD
open PySem PySem.Spec PyProof PyProof.Rows L2 PySem.W GX EX
end VD
namespace Pg
open PySem L2
def top (i:Nat):Stmt:=PySem.Challenge.pw_focuswalk_k52_whole_nearer_or_ahead.main.body.getD i (.Pass ⟨0,0,0,0⟩)
abbrev zkO:Stmt:=top 7
abbrev zbL:Stmt:=top 8
abbrev zfd:Stmt:=top 9
abbrev zd5:Stmt:=top 10
abbrev zfe:Stmt:=top 16
abbrev zd6:Stmt:=top 17
abbrev zd7:Stmt:=top 18
abbrev zcB:Stmt:=top 19
abbrev zc5:Stmt:=top 20
abbrev zce:Stmt:=top 21
abbrev zbW:Stmt:=top 22
abbrev zff:Stmt:=top 24
abbrev zb7:Stmt:=top 25
abbrev zcC:Stmt:=top 26
abbrev zbx:Stmt:=top 27
abbrev zfg:Stmt:=top 30
abbrev zd8:Stmt:=top 31
abbrev zgf:Stmt:=top 33
abbrev zdi:Stmt:=top 35
abbrev zdj:Stmt:=top 36
abbrev zcS:Stmt:=top 37
abbrev zcT:Stmt:=top 38
abbrev zd9:Stmt:=top 39
abbrev zcD:Stmt:=top 40
abbrev zdk:Stmt:=top 41
abbrev zbI:Stmt:=top 42
abbrev zb8:Stmt:=top 43
abbrev zdl:Stmt:=top 44
abbrev zdm:Stmt:=top 45
abbrev zbq:Stmt:=top 48
abbrev zfh:Stmt:=top 49
end Pg
namespace Pg
open PySem PySem.Spec PyProof PyProof.Rows L2 VD
section
variable {P:Program}{w:World}{K:W.Frag}{mg:Str->Option Value}{base:Heap}{f g:Addr}{fd gd:FuncData}
def zbX (self:List D->Option D):List D->Option D:=runF 6 2
    (gSeq (gOwn 2 (aMk aNil))
    (gSeq (gFor (aEnum (aCons (eVar 0) aNil)) (gT 2 (gCons' (gN 3) (gCons' (gN 4) gNil')))
    (gSeq (gSet 5 (e2 dAdd (eRd 1) (eTup (aCons (eVar 3) aNil))))
     (gSeq (gApp 2 (eTup (aCons (eVar 5) (aCons (eVar 4) aNil))))
     (gExt 2 (eCall self (aCons (e2 dIx (eRd 4) (eK (.int 5))) (aCons (eVar 5) aNil)))))))
    (gFrz 2 (gRet (eVar 2)))))
def zaw:Nat->List D->Option D
 | 0=>fun _=>none
 | n+1=>zbX (zaw n)
theorem sc_placed_within:FnScope ["parts","outer_place","pairs","number","part","place"] ["parts","outer_place"] (zae zbW):=fsc
theorem zes (F:Fun K "placed_within" "placed_within" zbW f fd)(B:Blt mg){n:Nat}{self:List D->Option D}(C_placed_within:Cal P w K mg base n "placed_within" ["parts","outer_place"] (spF K self))(G_PARTS:GlobD K mg "PARTS" (.int 5)):FnOk P w K mg base CX0 (n+1) f fd ["parts","outer_place"] (spF K (zbX self)):=
 zeY F sc_placed_within fun cdv A outer s H E hr=>by
  have nd:=sc_placed_within.nd
  exact(zab (vsO 2 nd (zbT zag))
  (zab (zbt (zj9 B (zaa (vv 0) zag)) (zc7 rfl (zaB (vgN 3 nd) (zaB (vgN 4 nd) zca)))
  (zab (vsS 5 nd (zax za9 zaL (vr 1) (VE.w (zbg (zaa (vv 3) zag)))))
   (zab (zdy 2 (zbg (zaa (vv 5) (zaa (vv 4) zag))))
   (zai (zm5 2 (zar (hk:=wae _) C_placed_within hr (zaa (zaz (vr 4) (VE.w (zbh G_PARTS))) (zaa (vv 5) zag))))))))
  (zdZ 2 (zai (zaG (vv 2))))))
def zaF:List D->Option D:=runF 1 1
    (gRet (eCall (zaw 8) (aCons (eVar 0) (aCons (eTup aNil) aNil))))
theorem zfi:FnScope ["sheet"] ["sheet"] (zae zce):=fsc
theorem zfj (F:Fun K "placed_parts" "placed_parts" zce f fd)(B:Blt mg)(C_placed_within:Cal P w K mg base 8 "placed_within" ["parts","outer_place"] (spF K (zaw 8))):FnOk P w K mg base CX0 (8+1) f fd ["sheet"] (spF K zaF):=
 zeY F zfi fun cdv A outer s H E hr=>by
  exact(zai (zaG (zar C_placed_within hr (zaa (vv 0) (zaa (zbg zag) zag)))))
def zby:List D->Option D:=runF 1 1
    (gRet (eL (zgV [none,none] (aSeq (eCall zaF (aCons (eVar 0) aNil))) (gT 2 (gCons' (gN 0) (gCons' (gN 1) gNil'))) tTrue (eVar 1))))
theorem zhX:FnScope ["sheet"] ["sheet"] (zae zc5):=fsc
theorem zhY (F:Fun K "parts_of" "parts_of" zc5 f fd)(B:Blt mg)(C_placed_parts:Cal P w K mg base 9 "placed_parts" ["sheet"] (spF K zaF)):FnOk P w K mg base CX0 (9+1) f fd ["sheet"] (spF K zby):=
 zeY F zhX fun cdv A outer s H E hr=>by
  exact(zai (zaG (VN.ve (vnC ["sheet"] zc5 (NC:=["place","part"]) [none,none] (zcH (zar C_placed_parts hr (zaa (vv 0) zag))) ((zc7 (n:=2) rfl (zaB (vgc 0) (zaB (vgc 1) zca)))) (zhL) ((vv 1))))))
def zdK:List D->Option D:=runF 3 2
    (gSeq (gFor (aSeq (eCall zby (aCons (eVar 0) aNil))) (gN 2)
    (gIf (t1 (e2 (dEq false) (e2 dIx (eRd 2) (eK (.int 0))) (eRd 1)))
     (gRet (eVar 2))
     gNx))
    gNo)
theorem sc_part_of:FnScope ["sheet","name","part"] ["sheet","name"] (zae zfe):=fsc
theorem zjd (F:Fun K "part_of" "part_of" zfe f fd)(B:Blt mg)(C_parts_of:Cal P w K mg base 10 "parts_of" ["sheet"] (spF K zby))(G_NAME:GlobD K mg "NAME" (.int 0)):FnOk P w K mg base CX0 (10+1) f fd ["sheet","name"] (spF K zdK):=
 zeY F sc_part_of fun cdv A outer s H E hr=>by
  have nd:=sc_part_of.nd
  have hu:=wbt (zem hr)
  exact(zab (zbt (zcH (zar C_parts_of hr (zaa (vv 0) zag))) (vgN 2 nd)
  (zai (zbG (zaC (opEq hu) zgT (VE.w (zaz (vr 2) (VE.w (zbh G_NAME)))) (vr 1) (zaD _))
   (zai (zaG (vv 2)))
   zas)))
  (zai zex))
def zbz:List D->Option D:=runF 4 2
    (gSeq (gFor (aSeq (eCall zaF (aCons (eVar 0) aNil))) (gT 2 (gCons' (gN 2) (gCons' (gN 3) gNil')))
    (gIf (t1 (e2 (dEq false) (e2 dIx (eRd 3) (eK (.int 0))) (eRd 1)))
     (gRet (eVar 2))
     gNx))
    gNo)
theorem sc_place_of:FnScope ["sheet","name","place","part"] ["sheet","name"] (zae zd6):=fsc
theorem zhZ (F:Fun K "place_of" "place_of" zd6 f fd)(B:Blt mg)(C_placed_parts:Cal P w K mg base 9 "placed_parts" ["sheet"] (spF K zaF))(G_NAME:GlobD K mg "NAME" (.int 0)):FnOk P w K mg base CX0 (10+1) f fd ["sheet","name"] (spF K zbz):=
 zeY F sc_place_of fun cdv A outer s H E hr=>by
  have nd:=sc_place_of.nd
  have hu:=wbt (zem hr)
  exact(zab (zbt (zcH (zar C_placed_parts hr (zaa (vv 0) zag))) (zc7 rfl (zaB (vgN 2 nd) (zaB (vgN 3 nd) zca)))
  (zai (zbG (zaC (opEq hu) zgT (VE.w (zaz (vr 3) (VE.w (zbh G_NAME)))) (vr 1) (zaD _))
   (zai (zaG (vv 2)))
   zas)))
  (zai zex))
def zbl:List D->Option D:=runF 5 2
    (gSeq (gOwn 2 (aMk aNil))
    (gSeq (gSet 3 (eVar 0))
    (gSeq (gFor (aSeq (eCall zbz (aCons (eVar 0) (aCons (eVar 1) aNil)))) (gN 4)
    (gSeq (gApp 2 (e2 dIx (eRd 3) (eRd 4)))
     (gSet 3 (e2 dIx (e2 dIx (eRd 3) (eRd 4)) (eK (.int 5))))))
    (gFrz 2 (gRet (eVar 2))))))
theorem sc_chain_of:FnScope ["sheet","name","chain","parts","number"] ["sheet","name"] (zae zd7):=fsc
theorem zh0 (F:Fun K "chain_of" "chain_of" zd7 f fd)(B:Blt mg)(C_place_of:Cal P w K mg base 11 "place_of" ["sheet","name"] (spF K zbz))(G_PARTS:GlobD K mg "PARTS" (.int 5)):FnOk P w K mg base CX0 (11+1) f fd ["sheet","name"] (spF K zbl):=
 zeY F sc_chain_of fun cdv A outer s H E hr=>by
  have nd:=sc_chain_of.nd
  exact(zab (vsO 2 nd (zbT zag))
  (zab (vsS 3 nd (vv 0))
  (zab (zbt (zcH (zar C_place_of hr (zaa (vv 0) (zaa (vv 1) zag)))) (vgN 4 nd)
  (zab (zdy 2 (zaz (vr 3) (vr 4)))
   (zai (vsS 3 nd (zaz (VE.w (zaz (vr 3) (vr 4))) (VE.w (zbh G_PARTS)))))))
  (zdZ 2 (zai (zaG (vv 2)))))))
def zbN (p_sheet p_name:D):Option D:=
 (Option.bind (zbl [p_sheet,p_name]) fun(x1:D)=>(Option.bind (Option.bind (Option.bind (Option.bind (bLen [x1]) fun v3=>((dEqG false) v3 (.int 1))) dB) fun k2=>if k2 then(some p_sheet) else(Option.bind (Option.bind (dNeg (.int 2)) fun v4=>(dIx x1 v4)) fun v5=>(dIx v5 (.int 5)))) fun(r6:D)=>(some r6)))
def zbO:List D->Option D:=c2 zbN
theorem sc_level_parts:FnScope ["sheet","name","chain"] ["sheet","name"] (zae zcB):=fsc
theorem zfv (F:Fun K "level_parts" "level_parts" zcB f fd)(B:Blt mg)(C_chain_of:Cal P w K mg base 12 "chain_of" ["sheet","name"] (spF K zbl))(G_PARTS:GlobD K mg "PARTS" (.int 5)):FnOk P w K mg base CX0 (12+1) f fd ["sheet","name"] (spF K zbO):=
 zcQ F sc_level_parts zg6 fun cdv A outer s H E hr=>by
  have nd:=sc_level_parts.nd
  refine⟨_,(zab (vsS 2 nd (zar C_chain_of hr (zaa (vv 0) (zaa (vv 1) zag)))) (zai (zaG (zi2 (zaC (zmj hr) (zdB false) (VE.w (ve_b zb2 zeh B boot_len (zav (vr 2) zaV))) (VE.w zad) (zaD _)) (vv 0) (zaz (VE.w (zaz (vr 2) (VE.w (zm4 zad)))) (VE.w (zbh G_PARTS))))))),zog ?_⟩;intro p_sheet p_name;unfold zbN;exact(zau (zbk rfl) fun x1=>(zbu fun _ _ h=>h))
def zcp:List D->Option D:=runF 5 2
    (gSeq (gSet 2 (eCall zbl (aCons (eVar 0) (aCons (eVar 1) aNil))))
    (gSeq (gFor (aSeq (eTup (aCons (eK (.str "hidden")) (aCons (eK (.str "shut")) aNil)))) (gN 3)
    (gFor (aSeq (eVar 2)) (gN 4)
     (gIf (t1 (e2 (dEq false) (e2 dIx (eRd 4) (eK (.int 2))) (eRd 3)))
      (gRet (eTup (aCons (eVar 3) (aCons (e2 dIx (eRd 4) (eK (.int 0))) aNil))))
      gNx)))
    (gRet (eK .non))))
theorem sc_why_not:FnScope ["sheet","name","chain","word","part"] ["sheet","name"] (zae zff):=fsc
theorem zje (F:Fun K "why_not" "why_not" zff f fd)(B:Blt mg)(C_chain_of:Cal P w K mg base 12 "chain_of" ["sheet","name"] (spF K zbl))(G_WORD:GlobD K mg "WORD" (.int 2))(G_NAME:GlobD K mg "NAME" (.int 0)):FnOk P w K mg base CX0 (12+1) f fd ["sheet","name"] (spF K zcp):=
 zeY F sc_why_not fun cdv A outer s H E hr=>by
  have nd:=sc_why_not.nd
  have hu:=wbt (zem hr)
  exact(zab (vsS 2 nd (zar C_chain_of hr (zaa (vv 0) (zaa (vv 1) zag))))
  (zab (zbt (zcH (zbg (zaa zaK (zaa zaK zag)))) (vgN 3 nd)
  (zai (zbt (zcH (vv 2)) (vgN 4 nd)
   (zai (zbG (zaC (opEq hu) zgT (VE.w (zaz (vr 4) (VE.w (zbh G_WORD)))) (vr 3) (zaD _))
    (zai (zaG (zbg (zaa (vv 3) (zaa (zaz (vr 4) (VE.w (zbh G_NAME))) zag)))))
    zas)))))
  (zai (zaG zcL))))
def zbf:List D->Option D:=runF 3 2
    (gSeq (gSet 2 (eCall zcp (aCons (eVar 0) (aCons (eVar 1) aNil))))
    (gIf (t1 (e2 (dIs true) (eRd 2) (eK .non)))
    gNo
    gNx))
theorem sc_refuse_not_open:FnScope ["sheet","name","why"] ["sheet","name"] (zae zbx):=fsc
theorem zdL (F:Fun K "refuse_not_open" "refuse_not_open" zbx f fd)(B:Blt mg)(C_why_not:Cal P w K mg base 13 "why_not" ["sheet","name"] (spF K zcp)):FnOk P w K mg base CX0 (13+1) f fd ["sheet","name"] (spF K zbf):=
 zeY F sc_refuse_not_open fun cdv A outer s H E hr=>by
  have nd:=sc_refuse_not_open.nd
  exact(zab (vsS 2 nd (zar C_why_not hr (zaa (vv 0) (zaa (vv 1) zag))))
  (zai (zbG (zaC zhx zhJ (vr 2) (VE.w zcL) (zaD _))
  (zai zex)
  zas)))
def zcJ (p_way:D):Option D:=
 (Option.bind (Option.bind ((dInG true) p_way (.tup [(.str "up"),(.str "down"),(.str "left"),(.str "right")])) dB) fun k1=>if k1 then none else(some D.non))
def zaq:List D->Option D:=c1 zcJ
theorem zea:FnScope ["way"] ["way"] (zae zbL):=fsc
theorem zeb (F:Fun K "refuse_no_side" "refuse_no_side" zbL f fd)(B:Blt mg)(G_SIDES:GlobD K mg "SIDES" (.tup [(.str "up"),(.str "down"),(.str "left"),(.str "right")])):FnOk P w K mg base CX0 (0+1) f fd ["way"] (spF K zaq):=
 zcQ F zea zg5 fun cdv A outer s H E hr=>by
  refine⟨_,(zab (zbG (zaC (zeD hr) (zej true) (vr 0) (VE.w (zbh G_SIDES)) rfl) (zai zex) zas) zas),zmg ?_⟩;intro p_way;unfold zcJ;exact(zei (zqI rfl) (zg4 (zbH fun _ h=>h)))
def zhd (p_box p_upright:D):Option D:=
 (Option.bind (un4 p_box) fun(y1:D×D×D×D)=>(Option.bind (Option.bind (dTru p_upright) fun k2=>if k2 then(Option.bind (aC (some y1.2.1) (aC (dAdd y1.2.1 y1.2.2.2) aN)) mkT) else(Option.bind (aC (some y1.1) (aC (dAdd y1.1 y1.2.2.1) aN)) mkT)) fun(r3:D)=>(some r3)))
def zbJ:List D->Option D:=c2 zhd
theorem sc_stretch:FnScope ["box","upright","left","top","wide","high"] ["box","upright"] (zae zfd):=fsc
theorem zjf (F:Fun K "stretch" "stretch" zfd f fd)(B:Blt mg):FnOk P w K mg base CX0 (0+1) f fd ["box","upright"] (spF K zbJ):=
 zcQ F sc_stretch zg6 fun cdv A outer s H E hr=>by
  have nd:=sc_stretch.nd
  refine⟨_,(zab (zgW (vv 0) (zc7 rfl (zaB (vgN 2 nd) (zaB (vgN 3 nd) (zaB (vgN 4 nd) (zaB (vgN 5 nd) zca)))))) (zai (zaG (zi2 (zj4 (vr 1)) (zbg (zaa (vv 3) (zaa (zax za9 zaL (vr 3) (vr 5)) zag))) (zbg (zaa (vv 2) (zaa (zax za9 zaL (vr 2) (vr 4)) zag))))))),zog ?_⟩;intro p_box p_upright;unfold zhd;exact(zau (ziB fun _=>tg_4 rfl (fun _=>rfl) (fun _ _=>rfl) (fun _ _ _=>rfl)) fun y1=>(zbu fun _ _ h=>h))
def zfN (p_one p_other:D):Option D:=
 (Option.bind (Option.bind (Option.bind (aC (dIx p_one (.int 0)) (aC (dIx p_other (.int 0)) aN)) bMax) fun v1=>(Option.bind (Option.bind (aC (dIx p_one (.int 1)) (aC (dIx p_other (.int 1)) aN)) bMin) fun v2=>(dSub v1 v2))) fun(r3:D)=>(some r3))
def zec:List D->Option D:=c2 zfN
theorem zh1:FnScope ["one","other"] ["one","other"] (zae zd5):=fsc
theorem zh2 (F:Fun K "apart_by" "apart_by" zd5 f fd)(B:Blt mg):FnOk P w K mg base CX0 (0+1) f fd ["one","other"] (spF K zec):=
 zcQ F zh1 zg6 fun cdv A outer s H E hr=>by
  refine⟨_,(zai (zaG (zax zcf zch (VE.w (ve_b (zdq rfl) zis B boot_max (zav (VE.w (zaz (vr 0) (VE.w zad))) (zav (VE.w (zaz (vr 1) (VE.w zad))) zaV)))) (VE.w (ve_b (zeO rfl) zj7 B boot_min (zav (VE.w (zaz (vr 0) (VE.w zad))) (zav (VE.w (zaz (vr 1) (VE.w zad))) zaV))))))),zog ?_⟩;intro p_one p_other;unfold zfN;exact(zbu fun _ _ h=>h)
def zc9 (p_box p_other p_way:D):Option D:=
 (Option.bind (zaq [p_way]) fun(u1:D)=>(Option.bind ((dInG false) p_way (.tup [(.str "up"),(.str "down")])) fun(x2:D)=>(Option.bind (Option.bind (zbJ [p_box,x2]) un2) fun(y3:D×D)=>(Option.bind (Option.bind (zbJ [p_other,x2]) un2) fun(y4:D×D)=>(Option.bind (Option.bind (Option.bind ((dInG false) p_way (.tup [(.str "up"),(.str "left")])) dB) fun k5=>if k5 then(dSub y3.1 y4.2) else(dSub y4.1 y3.2)) fun(x6:D)=>(Option.bind (Option.bind (dLt x6 (.int 0)) dB) fun k7=>if k7 then(Option.bind (some D.non) fun(r8:D)=>(some r8)) else(Option.bind (Option.bind (aC (Option.bind (aC (some p_box) (aC (Option.bind (dB x2) fun k9=>some (.bl (!k9))) aN)) zbJ) (aC (Option.bind (aC (some p_other) (aC (Option.bind (dB x2) fun k10=>some (.bl (!k10))) aN)) zbJ) aN)) zec) fun(x11:D)=>(Option.bind (Option.bind (Option.bind (dLt x11 (.int 0)) dB) fun k12=>if k12 then(some (.int 0)) else(some (.int 1))) fun(x13:D)=>(Option.bind (Option.bind (aC (some x13) (aC (some x6) (aC (bMax [x11,(.int 0)]) aN))) mkT) fun(r14:D)=>(some r14))))))))))
def zfO:List D->Option D:=c3 zc9
theorem sc_lies:FnScope ["box","other","way","upright","start","end","other_start","other_end","gap","apart","beam"] ["box","other","way"] (zae zkO):=fsc
theorem zoB (F:Fun K "lies" "lies" zkO f fd)(B:Blt mg)(C_refuse_no_side:Cal P w K mg base 1 "refuse_no_side" ["way"] (spF K zaq))(C_stretch:Cal P w K mg base 1 "stretch" ["box","upright"] (spF K zbJ))(C_apart_by:Cal P w K mg base 1 "apart_by" ["one","other"] (spF K zec)):FnOk P w K mg base CX0 (1+1) f fd ["box","other","way"] (spF K zfO):=
 zcQ F sc_lies zkq fun cdv A outer s H E hr=>by
  have nd:=sc_lies.nd
  refine⟨_,(zab (zf8 (zar C_refuse_no_side hr (zaa (vv 2) zag))) (zab (vsS 3 nd (zgQ (zml hr) (zej false) (vr 2) (VE.w (zbg (zaa zaK (zaa zaK zag)))) rfl)) (zab (zgW (zar C_stretch hr (zaa (vv 0) (zaa (vv 3) zag))) (zc7 rfl (zaB (vgN 4 nd) (zaB (vgN 5 nd) zca)))) (zab (zgW (zar C_stretch hr (zaa (vv 1) (zaa (vv 3) zag))) (zc7 rfl (zaB (vgN 6 nd) (zaB (vgN 7 nd) zca)))) (zab (vsS 8 nd (zi2 (zaC (zml hr) (zej false) (vr 2) (VE.w (zbg (zaa zaK (zaa zaK zag)))) rfl) (zax zcf zch (vr 4) (vr 7)) (zax zcf zch (vr 6) (vr 5)))) (zab (zbG (zaC zfq zft (vr 8) (VE.w zad) (zaD _)) (zai (zaG zcL)) zas) (zab (vsS 9 nd (zar C_apart_by hr (zaa (zar C_stretch hr (zaa (vv 0) (zaa (zm0 (vv 3)) zag))) (zaa (zar C_stretch hr (zaa (vv 1) (zaa (zm0 (vv 3)) zag))) zag)))) (zab (vsS 10 nd (zi2 (zaC zfq zft (vr 9) (VE.w zad) (zaD _)) zad zad)) (zai (zaG (zbg (zaa (vv 10) (zaa (vv 8) (zaa (ve_b (zdq rfl) zis B boot_max (zav (vr 9) (zav (VE.w zad) zaV))) zag)))))))))))))),zoh ?_⟩;intro p_box p_other p_way;unfold zc9;exact(zau zmb fun u1=>(zau (zbk rfl) fun x2=>(zau (ziB fun _=>tg_2 rfl (fun _=>rfl)) fun y3=>(zau (ziB fun _=>tg_2 rfl (fun _=>rfl)) fun y4=>(zau (zbk rfl) fun x6=>(zei (zbu fun _ _ h=>h) (zg4 (zau (zbk rfl) fun x11=>(zau (zbk rfl) fun x13=>(zbu fun _ _ h=>h))))))))))
def zdM (p_sheet p_name p_way:D):Option D:=
 (Option.bind (zaq [p_way]) fun(u1:D)=>(Option.bind (zbf [p_sheet,p_name]) fun(u2:D)=>(Option.bind (Option.bind (zdK [p_sheet,p_name]) fun v3=>(dIx v3 (.int 1))) fun(x4:D)=>(Option.bind (some ([]:List D)) fun(x5:List D)=>(Option.bind (Option.bind (Option.bind (aC (zbO [p_sheet,p_name]) aN) zqJ) (zcP (fun(s6:List D) (d17:D)=>Option.bind (un2 d17) fun(y7:D×D)=>(Option.bind (Option.bind (aC (some x4) (aC (dIx y7.2 (.int 1)) (aC (some p_way) aN))) zfO) fun(x8:D)=>(Option.bind (Option.bind (Option.bind (Option.bind ((dIs true) x8 D.non) dB) fun k11=>if k11 then(Option.bind (Option.bind (dIx y7.2 (.int 2)) fun v10=>((dEqG false) v10 (.str "free"))) dB) else some false) fun k9=>if k9 then(Option.bind (Option.bind (Option.bind (aC (some x8) (aC (some y7.1) (aC (dIx y7.2 (.int 0)) aN))) mkT) (appL s6)) fun(x12:List D)=>(some x12)) else(some s6)) fun(s13:List D)=>(some s13)))) x5)) fun(s6:List D)=>(Option.bind (Option.bind (dTru (.lst s6)) fun k14=>if k14 then(Option.bind (zmm [(.lst s6)]) fun v15=>(dIx v15 (.int 2))) else(some D.non)) fun(r16:D)=>(some r16)))))))
def zaS:List D->Option D:=c3 zdM
theorem sc_nearest:FnScope ["sheet","name","way","box","rows","number","other","near"] ["sheet","name","way"] (zae zfg):=fsc
theorem zjg (F:Fun K "nearest" "nearest" zfg f fd)(B:Blt mg)(C_refuse_no_side:Cal P w K mg base 1 "refuse_no_side" ["way"] (spF K zaq))(C_refuse_not_open:Cal P w K mg base 14 "refuse_not_open" ["sheet","name"] (spF K zbf))(C_part_of:Cal P w K mg base 11 "part_of" ["sheet","name"] (spF K zdK))(C_level_parts:Cal P w K mg base 13 "level_parts" ["sheet","name"] (spF K zbO))(C_lies:Cal P w K mg base 2 "lies" ["box","other","way"] (spF K zfO))(G_BOX:GlobD K mg "BOX" (.int 1))(G_WORD:GlobD K mg "WORD" (.int 2))(G_NAME:GlobD K mg "NAME" (.int 0)):FnOk P w K mg base CX0 (14+1) f fd ["sheet","name","way"] (spF K zaS):=
 zcQ F sc_nearest zkq fun cdv A outer s H E hr=>by
  have nd:=sc_nearest.nd
  refine⟨_,(zab (zf8 (zar C_refuse_no_side hr (zaa (vv 2) zag))) (zab (zf8 (zar C_refuse_not_open hr (zaa (vv 0) (zaa (vv 1) zag)))) (zab (vsS 3 nd (zaz (VE.w (zar C_part_of hr (zaa (vv 0) (zaa (vv 1) zag)))) (VE.w (zbh G_BOX)))) (zab (vsO 4 nd (zbT zag)) (zab (zbt (zj9 B (zaa (zar C_level_parts hr (zaa (vv 0) (zaa (vv 1) zag))) zag)) (zc7 rfl (zaB (vgN 5 nd) (zaB (vgN 6 nd) zca))) (zab (vsS 7 nd (zar C_lies hr (zaa (vv 3) (zaa (zaz (vr 6) (VE.w (zbh G_BOX))) (zaa (vv 2) zag))))) (zab (zbG (VP.t (zgR (zaC zhx zhJ (vr 7) (VE.w zcL) (zaD _)) (zf6 (zaC (zmj hr) (zdB false) (VE.w (zaz (vr 6) (VE.w (zbh G_WORD)))) (VE.w zaK) (zaD _))))) (zab (zdy 4 (zbg (zaa (vv 7) (zaa (vv 5) (zaa (zaz (vr 6) (VE.w (zbh G_NAME))) zag))))) zas) zas) (zb4 [5,6,7] zas)))) (zai (zaG (zi2 (zj4 (vr 4)) (zaz (VE.w (ve_b (zkx hr) zol B boot_min (zav (vr 4) zaV))) (VE.w zad)) zcL)))))))),zoh ?_⟩;intro p_sheet p_name p_way;unfold zdM;exact(zau zmb fun u1=>(zau zmb fun u2=>(zau (zbk rfl) fun x4=>(zau (zkm rfl) fun x5=>(zau (zko (emb:=(fun(s6:List D)=>[.val p_sheet,.val p_name,.val p_way,.val x4,.own 1 (.lst s6),.un,.un,.un])) rfl (fun _=>rfl) (fun _ _=>rfl) fun s6 y7=>(zau (zbk rfl) fun x8=>(zau (zmc (emb:=(fun(s13:List D)=>[.val p_sheet,.val p_name,.val p_way,.val x4,.own 1 (.lst s13),.val y7.1,.val y7.2,.val x8])) (zau (zkn rfl) fun x12=>(zbH fun _ h=>h)) (zbH fun _ h=>h)) fun s13=>(zcO [5,6,7] (zbH fun _ h=>h))))) fun s6=>(zbu fun _ _ h=>h))))))
def zfP (p_way:D):Option D:=
 (Option.bind (zaq [p_way]) fun(u1:D)=>(Option.bind (dGet (.dct [.inr "up",.inr "down",.inr "left",.inr "right"] [.str "down",.str "up",.str "right",.str "left"]) p_way) fun(r2:D)=>(some r2)))
def zaZ:List D->Option D:=c1 zfP
theorem zh3:FnScope ["way"] ["way"] (zae zd8):=fsc
theorem zh4 (F:Fun K "opposite" "opposite" zd8 f fd)(B:Blt mg)(C_refuse_no_side:Cal P w K mg base 1 "refuse_no_side" ["way"] (spF K zaq))(G_OPPOSITES:GDct P w K mg "OPPOSITES" [.inr "up",.inr "down",.inr "left",.inr "right"] [.str "down",.str "up",.str "right",.str "left"]):FnOk P w K mg base CX0 (1+1) f fd ["way"] (spF K zaZ):=
 zcQ F zh3 zg5 fun cdv A outer s H E hr=>by
  refine⟨_,(zab (zf8 (zar C_refuse_no_side hr (zaa (vv 0) zag))) (zai (zaG (zmy G_OPPOSITES (vr 0))))),zmg ?_⟩;intro p_way;unfold zfP;exact(zau zmb fun u1=>(zbu fun _ _ h=>h))
def zbP (self:List D->Option D)(p_parts:D):Option D:=
 (Option.bind (some ([]:List D)) fun(x1:List D)=>(Option.bind (Option.bind (dSeq p_parts) (zcP (fun(s2:List D) (d3:D)=>(Option.bind (Option.bind (Option.bind (Option.bind (dIx d3 (.int 2)) fun v5=>((dEqG false) v5 (.str "free"))) dB) fun k4=>if k4 then(Option.bind (appL s2 d3) fun(x6:List D)=>(Option.bind (Option.bind (Option.bind (aC (dIx d3 (.int 5)) aN) self) (extL x6)) fun(x7:List D)=>(some x7))) else(some s2)) fun(s8:List D)=>(some s8))) x1)) fun(s2:List D)=>(Option.bind (some (.lst s2)) fun(r9:D)=>(some r9))))
def zcE (self:List D->Option D):List D->Option D:=c1 (zbP self)
def zaH:Nat->List D->Option D
 | 0=>fun _=>none
 | n+1=>zcE (zaH n)
theorem sc_open_tuples:FnScope ["parts","tuples","part"] ["parts"] (zae zcC):=fsc
theorem zfw (F:Fun K "open_tuples" "open_tuples" zcC f fd)(B:Blt mg){n:Nat}{self:List D->Option D}(C_open_tuples:Cal P w K mg base n "open_tuples" ["parts"] (spF K self))(G_WORD:GlobD K mg "WORD" (.int 2))(G_PARTS:GlobD K mg "PARTS" (.int 5)):FnOk P w K mg base CX0 (n+1) f fd ["parts"] (spF K (zcE self)):=
 zcQ F sc_open_tuples zg5 fun cdv A outer s H E hr=>by
  have nd:=sc_open_tuples.nd
  refine⟨_,(zab (vsO 1 nd (zbT zag)) (zab (zbt (zcH (vv 0)) (vgN 2 nd) (zab (zbG (zaC (zmj hr) (zdB false) (VE.w (zaz (vr 2) (VE.w (zbh G_WORD)))) (VE.w zaK) (zaD _)) (zab (zdy 1 (vv 2)) (zab (zm5 1 (zar (hk:=wae _) C_open_tuples hr (zaa (zaz (vr 2) (VE.w (zbh G_PARTS))) zag))) zas)) zas) (zb4 [2] zas))) (zdZ 1 (zai (zaG (vv 1)))))),zmg ?_⟩;intro p_parts;unfold zbP;exact(zau (zkm rfl) fun x1=>(zau (zhN (emb:=(fun(s2:List D)=>[.val p_parts,.own 1 (.lst s2),.un])) rfl (fun _=>rfl) fun s2 d3=>(zau (zmc (emb:=(fun(s8:List D)=>[.val p_parts,.own 1 (.lst s8),.val d3])) (zau (zkn rfl) fun x6=>(zau (zpP rfl) fun x7=>(zbH fun _ h=>h))) (zbH fun _ h=>h)) fun s8=>(zcO [2] (zbH fun _ h=>h)))) fun s2=>(zm9 1 (zbu fun _ _ h=>h))))
def zb9 (p_sheet:D):Option D:=
 (Option.bind (Option.bind (Option.bind (Option.bind ((zaH 8) [p_sheet]) dSeq) (zmf (fun d1=>(Option.bind (dIx d1 (.int 0)) fun z=>some (some z))))) fun ds=>some (.lst ds)) fun(r2:D)=>(some r2))
def zbc:List D->Option D:=c1 zb9
theorem zgg:FnScope ["sheet"] ["sheet"] (zae zb7):=fsc
theorem zgh (F:Fun K "open_parts" "open_parts" zb7 f fd)(B:Blt mg)(C_open_tuples:Cal P w K mg base 8 "open_tuples" ["parts"] (spF K (zaH 8)))(G_NAME:GlobD K mg "NAME" (.int 0)):FnOk P w K mg base CX0 (8+1) f fd ["sheet"] (spF K zbc):=
 zcQ F zgg zg5 fun cdv A outer s H E hr=>by
  refine⟨_,(zai (zaG (VN.ve (vnC ["sheet"] zb7 (NC:=["part"]) [none] (zcH (zar C_open_tuples hr (zaa (vv 0) zag))) ((vgc 0)) (zhL) ((zaz (vr 0) (VE.w (zbh G_NAME)))))))),zmg ?_⟩;intro p_sheet;unfold zb9;exact(zbu fun _ _ h=>h)
def zeF (p_sheet:D):Option (RV×List D):=
 (Option.bind (some ([]:List D)) fun(x1:List D)=>(Option.bind (Option.bind (Option.bind (zbc [p_sheet]) dSeq) (zcP (fun(s2:List D) (d3:D)=>(Option.bind (Option.bind (some [(.str "up"),(.str "down"),(.str "left"),(.str "right")]) (zcP (fun(s4:List D) (d5:D)=>(Option.bind (zaS [p_sheet,d3,d5]) fun(x6:D)=>(Option.bind (Option.bind (Option.bind ((dIs false) x6 D.non) dB) fun k7=>if k7 then(some d3) else(Option.bind (aC (some p_sheet) (aC (some x6) (aC (zaZ [d5]) aN))) zaS)) fun(x8:D)=>(Option.bind (Option.bind (Option.bind ((dEqG true) x8 d3) dB) fun k9=>if k9 then(Option.bind (appL s4 (.tup [d3,d5,x6,x8])) fun(x10:List D)=>(some x10)) else(some s4)) fun(s11:List D)=>(some s11))))) s2)) fun(s4:List D)=>(some s4))) x1)) fun(s2:List D)=>(some ((.new 1 (.lst s2)),[.non]))))
def zdN:List D->Option (RV×List D):=g1 zeF
theorem sc_strays:FnScope ["sheet","rows","name","way","to","back"] ["sheet"] (zae zgf):=fsc
theorem zkP (F:Fun K "strays" "strays" zgf f fd)(B:Blt mg)(C_open_parts:Cal P w K mg base 9 "open_parts" ["sheet"] (spF K zbc))(C_nearest:Cal P w K mg base 15 "nearest" ["sheet","name","way"] (spF K zaS))(C_opposite:Cal P w K mg base 2 "opposite" ["way"] (spF K zaZ))(G_SIDES:GlobD K mg "SIDES" (.tup [(.str "up"),(.str "down"),(.str "left"),(.str "right")])):FnOk P w K mg base CX0 (15+1) f fd ["sheet"] (spG K [none] zdN):=
 zon [none] F sc_strays rfl fun cdv A outer s H E hr=>by
  have nd:=sc_strays.nd
  refine⟨_,(zab (vsO 1 nd (zbT zag)) (zab (zbt (zcH (zar C_open_parts hr (zaa (vv 0) zag))) (vgN 2 nd) (zab (zbt (zcH (zbh G_SIDES)) (vgN 3 nd) (zab (vsS 4 nd (zar C_nearest hr (zaa (vv 0) (zaa (vv 2) (zaa (vv 3) zag))))) (zab (vsS 5 nd (zi2 (zaC zjx znM (vr 4) (VE.w zcL) (zaD _)) (vv 2) (zar C_nearest hr (zaa (vv 0) (zaa (vv 4) (zaa (zar C_opposite hr (zaa (vv 3) zag)) zag)))))) (zab (zbG (zaC (zku hr) (zdB true) (vr 5) (vr 2) (zaD _)) (zab (zdy 1 (zbg (zaa (vv 2) (zaa (vv 3) (zaa (vv 4) (zaa (vv 5) zag)))))) zas) zas) (zb4 [3,4,5] zas))))) (zb4 [2,3,4,5] zas))) (zai (znU 1)))),zqO ?_⟩;intro p_sheet;unfold zeF;exact(zau (zkm rfl) fun x1=>(zau (zhN (emb:=(fun(s2:List D)=>[.val p_sheet,.own 1 (.lst s2),.un,.un,.un,.un])) rfl (fun _=>rfl) fun s2 d3=>(zau (zhN (emb:=(fun(s4:List D)=>[.val p_sheet,.own 1 (.lst s4),.val d3,.un,.un,.un])) rfl (fun _=>rfl) fun s4 d5=>(zau (zbk rfl) fun x6=>(zau (zbk rfl) fun x8=>(zau (zmc (emb:=(fun(s11:List D)=>[.val p_sheet,.own 1 (.lst s11),.val d3,.val d5,.val x6,.val x8])) (zau (zkn rfl) fun x10=>(zbH fun _ h=>h)) (zbH fun _ h=>h)) fun s11=>(zcO [3,4,5] (zbH fun _ h=>h)))))) fun s4=>(zcO [2,3,4,5] (zbH fun _ h=>h)))) fun s2=>(zoe rfl fun _ h=>h)))
theorem zhe:FnScope ["_law_script"] ["_law_script"] (zae zdi):=fsc
def zac:List D->Option (RV×List D):=runG 6 [some 1,none]
    (gSeq (gIf (t1 (e2 dGt (e2 dGet (eRd 0) (eK (.str "left"))) (eK (.int 0))))
    (gSeq (gSet 2 (e2 dMod (e2 dGet (eRd 0) (eK (.str "left"))) (eRd 1)))
     (gSeq (gPutD 0 (eK (.str "left")) (xE (e2 dFdiv (e2 dGet (eRd 0) (eK (.str "left"))) (eRd 1))))
     (gRet (eVar 2))))
    gNx)
    (gSeq (gSet 3 (e2 dGet (eRd 0) (eK (.str "at"))))
    (gSeq (gPutD 0 (eK (.str "at")) (xE (e2 dAdd (eRd 3) (eK (.int 1)))))
    (gSeq (gSet 4 (eVar 3))
    (gSeq (gIf (t1 (e2 dGt (eCall bLen (aCons (e2 dGet (eRd 0) (eK (.str "cells"))) aNil)) (eK (.int 0))))
    (gSet 4 (e2 dIx (e2 dGet (eRd 0) (eK (.str "cells"))) (e2 dMod (eRd 3) (eCall bLen (aCons (e2 dGet (eRd 0) (eK (.str "cells"))) aNil)))))
    gNx)
    (gSeq (gIf (tAndF (t1 (e2 dGe (eRd 4) (e2 dPow (eK (.int 10)) (eK (.int 18))))) (t1 (e2 dLt (eRd 3) (eCall bLen (aCons (e2 dGet (eRd 0) (eK (.str "cells"))) aNil)))))
    (gSeq (gPutD 0 (eK (.str "left")) (xE (e2 dFdiv (eRd 4) (eRd 1))))
     (gRet (e2 dMod (eRd 4) (eRd 1))))
    gNx)
    (gSeq (gSet 5 (e2 dMod (e2 dMul (e2 dAdd (e2 dAdd (e2 dAdd (e2 dMod (eRd 4) (eK (.int 1000003))) (e2 dMul (e2 dMul (eK (.int 61)) (eRd 3)) (eRd 3))) (e2 dMul (eK (.int 7)) (eRd 3))) (eK (.int 1))) (eK (.int 48271))) (eK (.int 999983))))
    (gRet (e2 dMod (e2 dFdiv (e2 dMod (e2 dMul (e2 dMod (e2 dAdd (e2 dMul (eRd 5) (eK (.int 69621))) (e2 dMul (eK (.int 7919)) (eRd 3))) (eK (.int 1999993))) (eK (.int 16807))) (eK (.int 524287))) (eK (.int 5))) (eRd 1))))))))))
theorem scLdraw:FnScope ["_law_feed_here","_law_many","_law_found","_law_at","_law_cell","_law_number"] ["_law_feed_here","_law_many"] (zae zdj):=fsc
theorem zhf (F:Fun K "_law_draw" "_law_draw" zdj f fd)(B:Blt mg):FnOk P w K mg base CX0 (0+1) f fd ["_law_feed_here","_law_many"] (spG K [some 1,none] zac):=
 ze0 [some 1,none] F scLdraw rfl fun cdv A outer s H E hr=>by
  have nd:=scLdraw.nd
  have hu2:=zem hr
  exact(zab (zbG (zaC zlu zlP (VE.w (zbw hu2 (vr 0) (VE.w zaK))) (VE.w zad) (zaD _))
  (zab (vsS 2 nd (zax zcK zcM (VE.w (zbw hu2 (vr 0) (VE.w zaK))) (vr 1)))
   (zab (zgb 0 hu2 (VE.x (zax zfU zf7 (VE.w (zbw hu2 (vr 0) (VE.w zaK))) (vr 1))) zaK)
   (zai (zaG (vv 2)))))
  zas)
  (zab (vsS 3 nd (zbw hu2 (vr 0) (VE.w zaK)))
  (zab (zgb 0 hu2 (VE.x (zax za9 zaL (vr 3) (VE.w zad))) zaK)
  (zab (vsS 4 nd (vv 3))
  (zab (zbG (zaC zlu zlP (VE.w (ve_b zb2 zeh B boot_len (zav (VE.w (zbw hu2 (vr 0) (VE.w zaK))) zaV))) (VE.w zad) (zaD _))
  (zai (vsS 4 nd (zaz (VE.w (zbw hu2 (vr 0) (VE.w zaK))) (VE.w (zax zcK zcM (vr 3) (VE.w (ve_b zb2 zeh B boot_len (zav (VE.w (zbw hu2 (vr 0) (VE.w zaK))) zaV))))))))
  zas)
  (zab (zbG (VP.t (zgR (zaC zo6 zpB (vr 4) (VE.w (zax zmQ zm1 (VE.w zad) (VE.w zad))) (zaD _)) (zf6 (zaC zfq zft (vr 3) (VE.w (ve_b zb2 zeh B boot_len (zav (VE.w (zbw hu2 (vr 0) (VE.w zaK))) zaV))) (zaD _)))))
  (zab (zgb 0 hu2 (VE.x (zax zfU zf7 (vr 4) (vr 1))) zaK)
   (zai (zaG (zax zcK zcM (vr 4) (vr 1)))))
  zas)
  (zab (vsS 5 nd (zax zcK zcM (VE.w (zax zcs zbo (VE.w (zax za9 zaL (VE.w (zax za9 zaL (VE.w (zax za9 zaL (VE.w (zax zcK zcM (vr 4) (VE.w zad))) (VE.w (zax zcs zbo (VE.w (zax zcs zbo (VE.w zad) (vr 3))) (vr 3))))) (VE.w (zax zcs zbo (VE.w zad) (vr 3))))) (VE.w zad))) (VE.w zad))) (VE.w zad)))
  (zai (zaG (zax zcK zcM (VE.w (zax zfU zf7 (VE.w (zax zcK zcM (VE.w (zax zcs zbo (VE.w (zax zcK zcM (VE.w (zax za9 zaL (VE.w (zax zcs zbo (vr 5) (VE.w zad))) (VE.w (zax zcs zbo (VE.w zad) (vr 3))))) (VE.w zad))) (VE.w zad))) (VE.w zad))) (VE.w zad))) (vr 1)))))))))))
def zay:List D->Option (RV×List D):=runG 4 [some 1,none]
    (gSeq (gSet 2 (eK (.int 0)))
    (gSeq (gFor (aRng1 (aCons (eVar 1) aNil)) (gN 3)
    (gSetX 2 (x2 dAdd (xE (e2 dMul (eRd 2) (eK (.int 100000)))) (xR (xCallG [some 1,none] 0 0 1 zac (agOwn 0 (agX (xE (eK (.int 100000))) agNil)))))))
    (gRet (eVar 2))))
theorem scLgreat:FnScope ["_law_feed_here","_law_pieces","_law_number","_law_k"] ["_law_feed_here","_law_pieces"] (zae zcS):=fsc
theorem zgi (F:Fun K "_law_great" "_law_great" zcS f fd)(B:Blt mg)(CLdraw:Cal P w K mg base 1 "_law_draw" ["_law_feed_here","_law_many"] (spG K [some 1,none] zac)):FnOk P w K mg base CX0 (1+1) f fd ["_law_feed_here","_law_pieces"] (spG K [some 1,none] zay):=
 ze0 [some 1,none] F scLgreat rfl fun cdv A outer s H E hr=>by
  have nd:=scLgreat.nd
  exact(zab (vsS 2 nd zad)
  (zab (zbt (zdw B (zaa (vv 1) zag)) (vgN 3 nd)
  (zai (zbb (i:=2) nd rfl (Or.inl rfl) (zcN za9 zaL (VE.x (zax zcs zbo (vr 2) (VE.w zad))) (VR.x (zao 0 0 1 CLdraw hr (zan (zaX (VE.x zad) zam))))))))
  (zai (zaG (vv 2)))))
def zbd:List D->Option (RV×List D):=runG 2 [some 1]
    (gSeq (gSetX 1 (xR (xCallG [some 1,none] 0 0 1 zac (agOwn 0 (agX (xE (eK (.int 4))) agNil)))))
    (gSeq (gIf (t1 (e2 dLt (eRd 1) (eK (.int 2))))
    (gRet (eTup (aCons (eK (.int 1)) (aCons (eK (.int 0)) (aCons (eK (.int 0)) aNil)))))
    gNx)
    (gSeq (gIf (t1 (e2 (dEq false) (eRd 1) (eK (.int 2))))
    (gRetX (xTup (axCons (x2 dAdd (xE (eK (.int 1))) (xR (xCallG [some 1,none] 0 0 1 zac (agOwn 0 (agX (xE (eK (.int 9))) agNil))))) (axCons (x2 dSub (xR (xCallG [some 1,none] 0 0 1 zac (agOwn 0 (agX (xE (eK (.int 201))) agNil)))) (xE (eK (.int 100)))) (axCons (x2 dSub (xR (xCallG [some 1,none] 0 0 1 zac (agOwn 0 (agX (xE (eK (.int 201))) agNil)))) (xE (eK (.int 100)))) axNil)))))
    gNx)
    (gRetX (xTup (axCons (x2 dAdd (xE (eK (.int 1))) (xR (xCallG [some 1,none] 0 0 1 zay (agOwn 0 (agX (xE (eK (.int 8))) agNil))))) (axCons (x2 dSub (xR (xCallG [some 1,none] 0 0 1 zay (agOwn 0 (agX (xE (eK (.int 11))) agNil)))) (xR (xCallG [some 1,none] 0 0 1 zay (agOwn 0 (agX (xE (eK (.int 11))) agNil))))) (axCons (x2 dSub (xR (xCallG [some 1,none] 0 0 1 zay (agOwn 0 (agX (xE (eK (.int 11))) agNil)))) (xR (xCallG [some 1,none] 0 0 1 zay (agOwn 0 (agX (xE (eK (.int 11))) agNil))))) axNil))))))))
theorem scLscale:FnScope ["_law_feed_here","_law_way"] ["_law_feed_here"] (zae zcT):=fsc
theorem zgj (F:Fun K "_law_scale" "_law_scale" zcT f fd)(B:Blt mg)(CLdraw:Cal P w K mg base 1 "_law_draw" ["_law_feed_here","_law_many"] (spG K [some 1,none] zac))(CLgreat:Cal P w K mg base 2 "_law_great" ["_law_feed_here","_law_pieces"] (spG K [some 1,none] zay)):FnOk P w K mg base CX0 (2+1) f fd ["_law_feed_here"] (spG K [some 1] zbd):=
 ze0 [some 1] F scLscale rfl fun cdv A outer s H E hr=>by
  have nd:=scLscale.nd
  have hu:=wbt (zem hr)
  exact(zab (zbb (i:=1) nd rfl (Or.inl rfl) (VR.x (zao 0 0 1 CLdraw hr (zan (zaX (VE.x zad) zam)))))
  (zab (zbG (zaC zfq zft (vr 1) (VE.w zad) (zaD _))
  (zai (zaG (zbg (zaa zad (zaa zad (zaa zad zag))))))
  zas)
  (zab (zbG (zaC (opEq hu) zgT (vr 1) (VE.w zad) (zaD _))
  (zai (ze1 (zgX (zap (zcN za9 zaL (VE.x zad) (VR.x (zao 0 0 1 CLdraw hr (zan (zaX (VE.x zad) zam))))) (zap (zcN zcf zch (VR.x (zao 0 0 1 CLdraw hr (zan (zaX (VE.x zad) zam)))) (VE.x zad)) (zap (zcN zcf zch (VR.x (zao 0 0 1 CLdraw hr (zan (zaX (VE.x zad) zam)))) (VE.x zad)) zcu))))))
  zas)
  (zai (ze1 (zgX (zap (zcN za9 zaL (VE.x zad) (VR.x (zao 0 0 1 CLgreat hr (zan (zaX (VE.x zad) zam))))) (zap (zcN zcf zch (VR.x (zao 0 0 1 CLgreat hr (zan (zaX (VE.x zad) zam)))) (VR.x (zao 0 0 1 CLgreat hr (zan (zaX (VE.x zad) zam))))) (zap (zcN zcf zch (VR.x (zao 0 0 1 CLgreat hr (zan (zaX (VE.x zad) zam)))) (VR.x (zao 0 0 1 CLgreat hr (zan (zaX (VE.x zad) zam))))) zcu)))))))))
def za6:List D->Option (RV×List D):=runG 4 [some 1,none]
    (gSeq (gIf (t1 (e2 (dEq false) (eRd 1) (eK (.int 0))))
    (gSeq (gSetX 2 (xR (xCallG [some 1,none] 0 0 1 zac (agOwn 0 (agX (xE (eK (.int 3))) agNil)))))
     (gSeq (gSetX 3 (xR (xCallG [some 1,none] 0 0 1 zac (agOwn 0 (agX (xE (eK (.int 3))) agNil)))))
     (gRet (eTup (aCons (e2 dIx (eL (aMk (aCons (eK (.int 0)) (aCons (eK (.int 2)) (aCons (eK (.int 5)) aNil))))) (eRd 2)) (aCons (e2 dIx (eL (aMk (aCons (eK (.int 0)) (aCons (eK (.int 3)) (aCons (eK (.int 4)) aNil))))) (eRd 3)) (aCons (e2 dIx (eL (aMk (aCons (eK (.int 2)) (aCons (eK (.int 3)) (aCons (eK (.int 1)) aNil))))) (eRd 2)) (aCons (e2 dIx (eL (aMk (aCons (eK (.int 2)) (aCons (eK (.int 1)) (aCons (eK (.int 2)) aNil))))) (eRd 3)) aNil))))))))
    gNx)
    (gSeq (gIf (t1 (e2 (dEq false) (eRd 1) (eK (.int 1))))
    (gRetX (xTup (axCons (xR (xCallG [some 1,none] 0 0 1 zac (agOwn 0 (agX (xE (eK (.int 9))) agNil)))) (axCons (xR (xCallG [some 1,none] 0 0 1 zac (agOwn 0 (agX (xE (eK (.int 9))) agNil)))) (axCons (x2 dAdd (xE (eK (.int 1))) (xR (xCallG [some 1,none] 0 0 1 zac (agOwn 0 (agX (xE (eK (.int 4))) agNil))))) (axCons (x2 dAdd (xE (eK (.int 1))) (xR (xCallG [some 1,none] 0 0 1 zac (agOwn 0 (agX (xE (eK (.int 4))) agNil))))) axNil))))))
    gNx)
    (gSeq (gIf (t1 (e2 (dEq false) (eRd 1) (eK (.int 2))))
    (gRetX (xTup (axCons (x2 dMul (xE (eK (.int 2))) (xR (xCallG [some 1,none] 0 0 1 zac (agOwn 0 (agX (xE (eK (.int 8))) agNil))))) (axCons (xR (xCallG [some 1,none] 0 0 1 zac (agOwn 0 (agX (xE (eK (.int 2))) agNil)))) (axCons (x2 dAdd (xE (eK (.int 1))) (xR (xCallG [some 1,none] 0 0 1 zac (agOwn 0 (agX (xE (eK (.int 2))) agNil))))) (axCons (x2 dAdd (xE (eK (.int 1))) (xR (xCallG [some 1,none] 0 0 1 zac (agOwn 0 (agX (xE (eK (.int 3))) agNil))))) axNil))))))
    gNx)
    (gRetX (xTup (axCons (x2 dMul (xE (eK (.int 3))) (xR (xCallG [some 1,none] 0 0 1 zac (agOwn 0 (agX (xE (eK (.int 4))) agNil))))) (axCons (x2 dMul (xE (eK (.int 3))) (xR (xCallG [some 1,none] 0 0 1 zac (agOwn 0 (agX (xE (eK (.int 4))) agNil))))) (axCons (xE (eK (.int 2))) (axCons (xE (eK (.int 2))) axNil)))))))))
theorem scLbox:FnScope ["_law_feed_here","_law_style","_law_column","_law_line"] ["_law_feed_here","_law_style"] (zae zd9):=fsc
theorem zh5 (F:Fun K "_law_box" "_law_box" zd9 f fd)(B:Blt mg)(CLdraw:Cal P w K mg base 1 "_law_draw" ["_law_feed_here","_law_many"] (spG K [some 1,none] zac)):FnOk P w K mg base CX0 (1+1) f fd ["_law_feed_here","_law_style"] (spG K [some 1,none] za6):=
 ze0 [some 1,none] F scLbox rfl fun cdv A outer s H E hr=>by
  have nd:=scLbox.nd
  have hu:=wbt (zem hr)
  exact(zab (zbG (zaC (opEq hu) zgT (vr 1) (VE.w zad) (zaD _))
  (zab (zbb (i:=2) nd rfl (Or.inl rfl) (VR.x (zao 0 0 1 CLdraw hr (zan (zaX (VE.x zad) zam)))))
   (zab (zbb (i:=3) nd rfl (Or.inl rfl) (VR.x (zao 0 0 1 CLdraw hr (zan (zaX (VE.x zad) zam)))))
   (zai (zaG (zbg (zaa (zaz (VE.w (VN.ve (zbT (zaa zad (zaa zad (zaa zad zag)))))) (vr 2)) (zaa (zaz (VE.w (VN.ve (zbT (zaa zad (zaa zad (zaa zad zag)))))) (vr 3)) (zaa (zaz (VE.w (VN.ve (zbT (zaa zad (zaa zad (zaa zad zag)))))) (vr 2)) (zaa (zaz (VE.w (VN.ve (zbT (zaa zad (zaa zad (zaa zad zag)))))) (vr 3)) zag)))))))))
  zas)
  (zab (zbG (zaC (opEq hu) zgT (vr 1) (VE.w zad) (zaD _))
  (zai (ze1 (zgX (zap (VR.x (zao 0 0 1 CLdraw hr (zan (zaX (VE.x zad) zam)))) (zap (VR.x (zao 0 0 1 CLdraw hr (zan (zaX (VE.x zad) zam)))) (zap (zcN za9 zaL (VE.x zad) (VR.x (zao 0 0 1 CLdraw hr (zan (zaX (VE.x zad) zam))))) (zap (zcN za9 zaL (VE.x zad) (VR.x (zao 0 0 1 CLdraw hr (zan (zaX (VE.x zad) zam))))) zcu)))))))
  zas)
  (zab (zbG (zaC (opEq hu) zgT (vr 1) (VE.w zad) (zaD _))
  (zai (ze1 (zgX (zap (zcN zcs zbo (VE.x zad) (VR.x (zao 0 0 1 CLdraw hr (zan (zaX (VE.x zad) zam))))) (zap (VR.x (zao 0 0 1 CLdraw hr (zan (zaX (VE.x zad) zam)))) (zap (zcN za9 zaL (VE.x zad) (VR.x (zao 0 0 1 CLdraw hr (zan (zaX (VE.x zad) zam))))) (zap (zcN za9 zaL (VE.x zad) (VR.x (zao 0 0 1 CLdraw hr (zan (zaX (VE.x zad) zam))))) zcu)))))))
  zas)
  (zai (ze1 (zgX (zap (zcN zcs zbo (VE.x zad) (VR.x (zao 0 0 1 CLdraw hr (zan (zaX (VE.x zad) zam))))) (zap (zcN zcs zbo (VE.x zad) (VR.x (zao 0 0 1 CLdraw hr (zan (zaX (VE.x zad) zam))))) (zap (VE.x zad) (zap (VE.x zad) zcu))))))))))
def za2:List D->Option D:=runF 5 2
    (gSeq (gAsg (eVar 1) (gT 3 (gCons' (gN 2) (gCons' (gN 3) (gCons' (gN 4) gNil')))))
    (gRet (eTup (aCons (e2 dAdd (e2 dMul (e2 dIx (eRd 0) (eK (.int 0))) (eRd 2)) (eRd 3)) (aCons (e2 dAdd (e2 dMul (e2 dIx (eRd 0) (eK (.int 1))) (eRd 2)) (eRd 4)) (aCons (e2 dMul (e2 dIx (eRd 0) (eK (.int 2))) (eRd 2)) (aCons (e2 dMul (e2 dIx (eRd 0) (eK (.int 3))) (eRd 2)) aNil)))))))
theorem scLscaled:FnScope ["_law_box_here","_law_scale_here","_law_times","_law_right","_law_down"] ["_law_box_here","_law_scale_here"] (zae zcD):=fsc
theorem zfx (F:Fun K "_law_scaled" "_law_scaled" zcD f fd)(B:Blt mg):FnOk P w K mg base CX0 (0+1) f fd ["_law_box_here","_law_scale_here"] (spF K za2):=
 zeY F scLscaled fun cdv A outer s H E hr=>by
  have nd:=scLscaled.nd
  exact(zab (zgW (vv 1) (zc7 rfl (zaB (vgN 2 nd) (zaB (vgN 3 nd) (zaB (vgN 4 nd) zca)))))
  (zai (zaG (zbg (zaa (zax za9 zaL (VE.w (zax zcs zbo (VE.w (zaz (vr 0) (VE.w zad))) (vr 2))) (vr 3)) (zaa (zax za9 zaL (VE.w (zax zcs zbo (VE.w (zaz (vr 0) (VE.w zad))) (vr 2))) (vr 4)) (zaa (zax zcs zbo (VE.w (zaz (vr 0) (VE.w zad))) (vr 2)) (zaa (zax zcs zbo (VE.w (zaz (vr 0) (VE.w zad))) (vr 2)) zag))))))))
def zaW (pLbox_here pLother pLway:D):Option D:=
 (Option.bind (Option.bind (aC ((dInG false) pLway (.tup [(.str "up"),(.str "down")])) aN) bInt) fun(x1:D)=>(Option.bind (Option.bind (Option.bind (dIx pLother x1) fun v2=>(Option.bind (dIx pLbox_here x1) fun v3=>(dSub v2 v3))) fun v5=>(Option.bind (Option.bind (dAdd x1 (.int 2)) fun v4=>(dIx pLbox_here v4)) fun v6=>(dSub v5 v6))) fun(x7:D)=>(Option.bind (Option.bind (Option.bind ((dInG false) pLway (.tup [(.str "up"),(.str "left")])) dB) fun k8=>if k8 then(Option.bind (Option.bind (Option.bind (dIx pLbox_here x1) fun v9=>(Option.bind (dIx pLother x1) fun v10=>(dSub v9 v10))) fun v12=>(Option.bind (Option.bind (dAdd x1 (.int 2)) fun v11=>(dIx pLother v11)) fun v13=>(dSub v12 v13))) fun(x14:D)=>(some x14)) else(some x7)) fun(s15:D)=>(Option.bind (Option.bind (dLt s15 (.int 0)) dB) fun k16=>if k16 then(Option.bind (some D.non) fun(r17:D)=>(some r17)) else(Option.bind (dSub (.int 1) x1) fun(x18:D)=>(Option.bind (Option.bind (aC (dIx pLbox_here x18) (aC (dIx pLother x18) aN)) bMax) fun(x19:D)=>(Option.bind (Option.bind (aC (Option.bind (dIx pLbox_here x18) fun v21=>(Option.bind (Option.bind (dAdd x18 (.int 2)) fun v20=>(dIx pLbox_here v20)) fun v22=>(dAdd v21 v22))) (aC (Option.bind (dIx pLother x18) fun v24=>(Option.bind (Option.bind (dAdd x18 (.int 2)) fun v23=>(dIx pLother v23)) fun v25=>(dAdd v24 v25))) aN)) bMin) fun(x26:D)=>(Option.bind (Option.bind (aC (Option.bind (aC (dGe x19 x26) aN) bInt) (aC (some s15) (aC (Option.bind (aC (some (.int 0)) (aC (dSub x19 x26) aN)) bMax) aN))) mkT) fun(r27:D)=>(some r27)))))))))
def za3:List D->Option D:=c3 zaW
theorem scLnear:FnScope ["_law_box_here","_law_other","_law_way","_law_at","_law_gap","_law_side","_law_low","_law_high"] ["_law_box_here","_law_other","_law_way"] (zae zdk):=fsc
theorem zhg (F:Fun K "_law_near" "_law_near" zdk f fd)(B:Blt mg):FnOk P w K mg base CX0 (0+1) f fd ["_law_box_here","_law_other","_law_way"] (spF K za3):=
 zcQ F scLnear zkq fun cdv A outer s H E hr=>by
  have nd:=scLnear.nd
  refine⟨_,(zab (vsS 3 nd (zj5 zeP zj8 B boot_int (zav (VE.w (zgQ (zml hr) (zej false) (vr 2) (VE.w (zbg (zaa zaK (zaa zaK zag)))) rfl)) zaV))) (zab (vsS 4 nd (zax zcf zch (VE.w (zax zcf zch (VE.w (zaz (vr 1) (vr 3))) (VE.w (zaz (vr 0) (vr 3))))) (VE.w (zaz (vr 0) (VE.w (zax za9 zaL (vr 3) (VE.w zad))))))) (zab (zbG (zaC (zml hr) (zej false) (vr 2) (VE.w (zbg (zaa zaK (zaa zaK zag)))) rfl) (zab (vsS 4 nd (zax zcf zch (VE.w (zax zcf zch (VE.w (zaz (vr 0) (vr 3))) (VE.w (zaz (vr 1) (vr 3))))) (VE.w (zaz (vr 1) (VE.w (zax za9 zaL (vr 3) (VE.w zad))))))) zas) zas) (zab (zbG (zaC zfq zft (vr 4) (VE.w zad) (zaD _)) (zai (zaG zcL)) zas) (zab (vsS 5 nd (zax zcf zch (VE.w zad) (vr 3))) (zab (vsS 6 nd (ve_b (zdq rfl) zis B boot_max (zav (VE.w (zaz (vr 0) (vr 5))) (zav (VE.w (zaz (vr 1) (vr 5))) zaV)))) (zab (vsS 7 nd (ve_b (zeO rfl) zj7 B boot_min (zav (VE.w (zax za9 zaL (VE.w (zaz (vr 0) (vr 5))) (VE.w (zaz (vr 0) (VE.w (zax za9 zaL (vr 5) (VE.w zad))))))) (zav (VE.w (zax za9 zaL (VE.w (zaz (vr 1) (vr 5))) (VE.w (zaz (vr 1) (VE.w (zax za9 zaL (vr 5) (VE.w zad))))))) zaV)))) (zai (zaG (zbg (zaa (zj5 zeP zj8 B boot_int (zav (VE.w (zgQ zo6 zpB (vr 6) (vr 7) (zaD _))) zaV)) (zaa (vv 4) (zaa (ve_b (zdq rfl) zis B boot_max (zav (VE.w zad) (zav (VE.w (zax zcf zch (vr 6) (vr 7))) zaV))) zag))))))))))))),zoh ?_⟩;intro pLbox_here pLother pLway;unfold zaW;exact(zau (zbk rfl) fun x1=>(zau (zbk rfl) fun x7=>(zau (zmc (emb:=(fun(s15:D)=>[.val pLbox_here,.val pLother,.val pLway,.val x1,.val s15,.un,.un,.un])) (zau (zbk rfl) fun x14=>(zbH fun _ h=>h)) (zbH fun _ h=>h)) fun s15=>(zei (zbu fun _ _ h=>h) (zg4 (zau (zbk rfl) fun x18=>(zau (zbk rfl) fun x19=>(zau (zbk rfl) fun x26=>(zbu fun _ _ h=>h)))))))))
def zbm:List D->Option (RV×List D):=runG 9 [some 1,none]
    (gSeq (gSet 2 (eK (.str "abcdefghijklmnopqrstuvwxyz")))
    (gSeq (gSetX 3 (xR (xCallG [some 1,none] 0 0 1 zac (agOwn 0 (agX (xE (eK (.int 26))) agNil)))))
    (gSeq (gIfX (xt1 (x2 (dEq false) (xR (xCallG [some 1,none] 0 0 1 zac (agOwn 0 (agX (xE (eK (.int 3))) agNil)))) (xE (eK (.int 0)))))
    (gRet (eL (zgV [none,some 2,some 3] (aRng1 (aCons (eVar 1) aNil)) (gN 0) tTrue (e2 dMul (e2 dIx (eRd 1) (e2 dMod (e2 dAdd (eRd 2) (e2 dFdiv (eRd 0) (eK (.int 8)))) (eK (.int 26)))) (e2 dAdd (eK (.int 1)) (e2 dMod (eRd 0) (eK (.int 8))))))))
    gNx)
    (gSeq (gOwnR 4 (zg2 [none,some 0,some 2] (axRng1 (axCons (x2 dAdd (xE (eK (.int 1))) (xR (xCallG [some 1,none] 0 0 1 zac (agOwn 0 (agX (xE (eK (.int 8))) agNil))))) axNil)) (gN 0) xtTrue (x2 dIx (xE (eVar 2)) (xR (xCallG [some 1,none] 0 1 1 zac (agOwn 1 (agX (xE (eK (.int 26))) agNil)))))))
    (gSeq (gSetX 5 (xR (xCallG [some 1,none] 0 0 1 zac (agOwn 0 (agX (xE (eCall bLen (aCons (eRd 4) aNil))) agNil)))))
    (gSeq (gSetX 6 (x2 dIx (xE (eL (aMk (aCons (eK (.int 1)) (aCons (eK (.int 7)) (aCons (eK (.int 25)) aNil)))))) (xR (xCallG [some 1,none] 0 0 1 zac (agOwn 0 (agX (xE (eK (.int 3))) agNil))))))
    (gSeq (gOwn 7 (aMk aNil))
    (gSeq (gFor (aRng1 (aCons (eVar 1) aNil)) (gN 8)
    (gSeq (gPutL 4 (eVar 5) (xE (e2 dIx (eRd 2) (e2 dMod (e2 dAdd (eRd 3) (e2 dMul (eRd 6) (eRd 8))) (eK (.int 26))))))
     (gApp 7 (e1 (zkl "") (eRd 4)))))
    (gFrz 7 (gRet (eVar 7)))))))))))
theorem scLnames:FnScope ["_law_feed_here","_law_many","_law_letters","_law_first","_law_base","_law_at","_law_step","_law_names_here","_law_k"] ["_law_feed_here","_law_many"] (zae zbI):=fsc
theorem zgk (F:Fun K "_law_names" "_law_names" zbI f fd)(B:Blt mg)(CLdraw:Cal P w K mg base 1 "_law_draw" ["_law_feed_here","_law_many"] (spG K [some 1,none] zac)):FnOk P w K mg base CX0 (1+1) f fd ["_law_feed_here","_law_many"] (spG K [some 1,none] zbm):=
 ze0 [some 1,none] F scLnames rfl fun cdv A outer s H E hr=>by
  have nd:=scLnames.nd
  have hu:=wbt (zem hr)
  exact(zab (vsS 2 nd zaK)
  (zab (zbb (i:=3) nd rfl (Or.inr rfl) (VR.x (zao 0 0 1 CLdraw hr (zan (zaX (VE.x zad) zam)))))
  (zab (zm8 (zke (opEq hu) zgT (VR.x (zao 0 0 1 CLdraw hr (zan (zaX (VE.x zad) zam)))) (VE.x zad) (zaD _))
  (zai (zaG (VN.ve (vnC ["_law_feed_here","_law_many","_law_letters","_law_first","_law_base","_law_at","_law_step","_law_names_here","_law_k"] zbI (NC:=["_law_k","_law_letters","_law_first"]) [none,some 2,some 3] (zdw B (zaa (vv 1) zag)) ((vgc 0)) (zhL) ((zax zcs zbo (VE.w (zaz (vrC 1 rfl rfl rfl rfl) (VE.w (zax zcK zcM (VE.w (zax za9 zaL (vrC 2 rfl rfl rfl rfl) (VE.w (zax zfU zf7 (vr 0) (VE.w zad))))) (VE.w zad))))) (VE.w (zax za9 zaL (VE.w zad) (VE.w (zax zcK zcM (vr 0) (VE.w zad)))))))))))
  zas)
  (zab (And.right (zl9 ["_law_feed_here","_law_many","_law_letters","_law_first","_law_base","_law_at","_law_step","_law_names_here","_law_k"] zbI (i:=4) (NC:=["_law_k","_law_feed_here","_law_letters"]) [none,some 0,some 2] nd rfl (Or.inl rfl) rfl (zi3 B (zap (zcN za9 zaL (VE.x zad) (VR.x (zao 0 0 1 CLdraw hr (zan (zaX (VE.x zad) zam))))) zcu)) (fun x h=>zev h) rfl rfl rfl (by decide +kernel) (by decide +kernel) rfl (by decide +kernel) (by decide +kernel) rfl (by decide) (fun cl C s0 H0 ex pn=>(vgc 0)) (fun cl C s0 H0 ex pn=>zl5) (fun cl C s0 H0 ex pn=>(zlZ (VE.x (vvC 2 rfl rfl rfl rfl)) (VR.x (zao 0 1 1 CLdraw hr (zma 1 (zaX (VE.x zad) zam) rfl rfl rfl rfl)))))))
  (zab (zbb (i:=5) nd rfl (Or.inl rfl) (VR.x (zao 0 0 1 CLdraw hr (zan (zaX (VE.x (ve_b zb2 zeh B boot_len (zav (vr 4) zaV))) zam)))))
  (zab (zbb (i:=6) nd rfl (Or.inl rfl) (zlZ (VE.x (VN.ve (zbT (zaa zad (zaa zad (zaa zad zag)))))) (VR.x (zao 0 0 1 CLdraw hr (zan (zaX (VE.x zad) zam))))))
  (zab (vsO 7 nd (zbT zag))
  (zab (zbt (zdw B (zaa (vv 1) zag)) (vgN 8 nd)
  (zab (znY 4 (VE.x (zaz (vr 2) (VE.w (zax zcK zcM (VE.w (zax za9 zaL (vr 3) (VE.w (zax zcs zbo (vr 6) (vr 8))))) (VE.w zad))))) (vv 5))
   (zai (zdy 7 (zn7 (vr 4))))))
  (zdZ 7 (zai (zaG (vv 7))))))))))))
def zcU:List D->Option D:=runF 5 2
    (gSeq (gOwn 2 (aMk aNil))
    (gSeq (gSet 3 (e2 dIx (e2 dIx (eRd 0) (eRd 1)) (eK (.int 0))))
    (gSeq (gFor (aRevR (aCons (eVar 1) aNil)) (gN 4)
    (gIf (t1 (e2 dLt (e2 dIx (e2 dIx (eRd 0) (eRd 4)) (eK (.int 0))) (eRd 3)))
     (gSeq (gApp 2 (eVar 4))
      (gSet 3 (e2 dIx (e2 dIx (eRd 0) (eRd 4)) (eK (.int 0)))))
     gNx))
    (gRet (eL (aRev (eRd 2)))))))
theorem scLabove:FnScope ["_law_rows_here","_law_k","_law_found","_law_deep","_law_j"] ["_law_rows_here","_law_k"] (zae zb8):=fsc
theorem zgl (F:Fun K "_law_above" "_law_above" zb8 f fd)(B:Blt mg):FnOk P w K mg base CX0 (0+1) f fd ["_law_rows_here","_law_k"] (spF K zcU):=
 zeY F scLabove fun cdv A outer s H E hr=>by
  have nd:=scLabove.nd
  exact(zab (vsO 2 nd (zbT zag))
  (zab (vsS 3 nd (zaz (VE.w (zaz (vr 0) (vr 1))) (VE.w zad)))
  (zab (zbt (zkk B (zaa (vv 1) zag)) (vgN 4 nd)
  (zai (zbG (zaC zfq zft (VE.w (zaz (VE.w (zaz (vr 0) (vr 4))) (VE.w zad))) (vr 3) (zaD _))
   (zab (zdy 2 (vv 4))
    (zai (vsS 3 nd (zaz (VE.w (zaz (vr 0) (vr 4))) (VE.w zad)))))
   zas)))
  (zai (zaG (VN.ve (zm3 (vr 2))))))))
def za4:List D->Option (RV×List D):=runG 5 [some 2,none]
    (gSeq (gOwn 2 (aMk aNil))
    (gSeq (gSet 3 (e2 dIx (eIx2 0 (eVar 1)) (eK (.int 0))))
    (gSeq (gFor (aRevR (aCons (eVar 1) aNil)) (gN 4)
    (gIf (t1 (e2 dLt (e2 dIx (eIx2 0 (eVar 4)) (eK (.int 0))) (eRd 3)))
     (gSeq (gApp 2 (eVar 4))
      (gSet 3 (e2 dIx (eIx2 0 (eVar 4)) (eK (.int 0)))))
     gNx))
    (gRet (eL (aRev (eRd 2)))))))
theorem zfy (F:Fun K "_law_above" "_law_above" zb8 f fd)(B:Blt mg):FnOk P w K mg base CX0 (0+1) f fd ["_law_rows_here","_law_k"] (spG K [some 2,none] za4):=
 ze0 [some 2,none] F scLabove rfl fun cdv A outer s H E hr=>by
  have nd:=scLabove.nd
  exact(zab (vsO 2 nd (zbT zag))
  (zab (vsS 3 nd (zaz (zkh 0 (vv 1)) (VE.w zad)))
  (zab (zbt (zkk B (zaa (vv 1) zag)) (vgN 4 nd)
  (zai (zbG (zaC zfq zft (VE.w (zaz (zkh 0 (vv 4)) (VE.w zad))) (vr 3) (zaD _))
   (zab (zdy 2 (vv 4))
    (zai (vsS 3 nd (zaz (zkh 0 (vv 4)) (VE.w zad)))))
   zas)))
  (zai (zaG (VN.ve (zm3 (vr 2))))))))
def zbA:List D->Option (RV×List D):=runG 13 [some 1,none]
    (gSeq (gSetX 2 (xR (xCallG [some 1,none] 0 0 1 zac (agOwn 0 (agX (xE (e2 dAdd (eRd 1) (eK (.int 1)))) agNil)))))
    (gSeq (gSetX 3 (xR (xCallG [some 1,none] 0 0 1 zbm (agOwn 0 (agX (xE (eVar 2)) agNil)))))
    (gSeq (gSetX 4 (xR (xCallG [some 1,none] 0 0 1 zac (agOwn 0 (agX (xE (eK (.int 4))) agNil)))))
    (gSeq (gSetX 5 (xR (xCallG [some 1] 0 0 1 zbd (agOwn 0 agNil))))
    (gSeq (gSetX 6 (xR (xCallG [some 1,none] 0 0 1 zac (agOwn 0 (agX (xE (eK (.int 3))) agNil)))))
    (gSeq (gOwnR 7 xNil2)
    (gSeq (gSet 8 (e1 dNeg (eK (.int 1))))
    (gSeq (gFor (aRng1 (aCons (eVar 2) aNil)) (gN 9)
    (gSeq (gSetX 8 (x2 dMul (xR (xCallG [some 1,none] 0 0 1 zac (agOwn 0 (agX (xE (eCall bMin (aCons (e2 dAdd (eRd 8) (eK (.int 2))) (aCons (eK (.int 5)) aNil)))) agNil)))) (xE (eCall bInt (aCons (e2 dGt (eRd 6) (eK (.int 0))) aNil)))))
     (gSeq (gSetX 10 (x2 dIx (xE (eL (aMk (aCons (eK (.str "free")) (aCons (eK (.str "shut")) (aCons (eK (.str "free")) (aCons (eK (.str "free")) (aCons (eK (.str "hidden")) (aCons (eK (.str "free")) (aCons (eK (.str "free")) (aCons (eK (.str "free")) aNil))))))))))) (xR (xCallG [some 1,none] 0 0 1 zac (agOwn 0 (agX (xE (eK (.int 8))) agNil))))))
     (gSeq (gSetX 11 (x2 dIx (xR (xLst (axCons (xE (eK (.int 0))) (axCons (xE (eK (.int 0))) (axCons (xE (eK (.int 1))) (axCons (xE (eK (.int 2))) (axCons (xR (xCallG [some 1,none] 0 0 1 zac (agOwn 0 (agX (xE (eK (.int 5))) agNil)))) (axCons (x2 dAdd (xE (e2 dPow (eK (.int 10)) (eK (.int 59)))) (xR (xCallG [some 1,none] 0 0 1 zac (agOwn 0 (agX (xE (eK (.int 3))) agNil))))) axNil)))))))) (xR (xCallG [some 1,none] 0 0 1 zac (agOwn 0 (agX (xE (eK (.int 6))) agNil))))))
     (gSeq (gAppN2 7 (xLst (axCons (xE (eVar 8)) (axCons (xE (e2 dIx (eRd 3) (eRd 9))) (axCons (xCall za2 (axCons (xR (xCallG [some 1,none] 0 0 1 za6 (agOwn 0 (agX (xE (eVar 4)) agNil)))) (axCons (xE (eVar 5)) axNil))) (axCons (xE (eVar 10)) (axCons (xE (eVar 11)) (axCons (xE (eK .non)) axNil))))))))
     (gSeq (gSetX 12 (xR (xCallG [some 1,none] 0 0 1 zac (agOwn 0 (agX (xE (e2 dAdd (e2 dMul (eK (.int 3)) (eRd 9)) (eK (.int 1)))) agNil)))))
     (gIfX (xtAnd (xT (t1 (e2 dLt (eRd 12) (eRd 9)))) (xt1 (x2 (dIn true) (xE (eVar 12)) (xR (xCallG [some 2,none] 0 7 2 za4 (agOwn 7 (agX (xE (eVar 9)) agNil)))))))
     (gPut22 7 (eVar 9) (eK (.int 5)) (xE (e2 dIx (eRd 3) (eRd 12))))
     gNx)))))))
    (gFrz 7 (gRet (eVar 7)))))))))))
theorem scLrows:FnScope ["_law_feed_here","_law_most","_law_many","_law_names_here","_law_style","_law_scale_here","_law_flat","_law_rows_here","_law_deep","_law_k","_law_word","_law_rank","_law_head"] ["_law_feed_here","_law_most"] (zae zdl):=fsc
theorem zhh (F:Fun K "_law_rows" "_law_rows" zdl f fd)(B:Blt mg)(CLdraw:Cal P w K mg base 1 "_law_draw" ["_law_feed_here","_law_many"] (spG K [some 1,none] zac))(CLnames:Cal P w K mg base 2 "_law_names" ["_law_feed_here","_law_many"] (spG K [some 1,none] zbm))(CLscale:Cal P w K mg base 3 "_law_scale" ["_law_feed_here"] (spG K [some 1] zbd))(CLscaled:Cal P w K mg base 1 "_law_scaled" ["_law_box_here","_law_scale_here"] (spF K za2))(CLbox:Cal P w K mg base 2 "_law_box" ["_law_feed_here","_law_style"] (spG K [some 1,none] za6))(CLabove2:Cal P w K mg base 1 "_law_above" ["_law_rows_here","_law_k"] (spG K [some 2,none] za4)):FnOk P w K mg base CX0 (3+1) f fd ["_law_feed_here","_law_most"] (spG K [some 1,none] zbA):=
 ze0 [some 1,none] F scLrows rfl fun cdv A outer s H E hr=>by
  have nd:=scLrows.nd
  exact(zab (zbb (i:=2) nd rfl (Or.inl rfl) (VR.x (zao 0 0 1 CLdraw hr (zan (zaX (VE.x (zax za9 zaL (vr 1) (VE.w zad))) zam)))))
  (zab (zbb (i:=3) nd rfl (Or.inl rfl) (VR.x (zao 0 0 1 CLnames hr (zan (zaX (VE.x (vv 2)) zam)))))
  (zab (zbb (i:=4) nd rfl (Or.inl rfl) (VR.x (zao 0 0 1 CLdraw hr (zan (zaX (VE.x zad) zam)))))
  (zab (zbb (i:=5) nd rfl (Or.inl rfl) (VR.x (zao 0 0 1 CLscale hr (zan zam))))
  (zab (zbb (i:=6) nd rfl (Or.inl rfl) (VR.x (zao 0 0 1 CLdraw hr (zan (zaX (VE.x zad) zam)))))
  (zab (zhM (i:=7) nd rfl (Or.inl rfl) zob)
  (zab (vsS 8 nd (zm4 zad))
  (zab (zbt (zdw B (zaa (vv 2) zag)) (vgN 9 nd)
  (zab (zbb (i:=8) nd rfl (Or.inl rfl) (zcN zcs zbo (VR.x (zao 0 0 1 CLdraw hr (zan (zaX (VE.x (ve_b (zeO rfl) zj7 B boot_min (zav (VE.w (zax za9 zaL (vr 8) (VE.w zad))) (zav (VE.w zad) zaV)))) zam)))) (VE.x (zj5 zeP zj8 B boot_int (zav (VE.w (zgQ zlu zlP (vr 6) (VE.w zad) (zaD _))) zaV)))))
   (zab (zbb (i:=10) nd rfl (Or.inl rfl) (zlZ (VE.x (VN.ve (zbT (zaa zaK (zaa zaK (zaa zaK (zaa zaK (zaa zaK (zaa zaK (zaa zaK (zaa zaK zag))))))))))) (VR.x (zao 0 0 1 CLdraw hr (zan (zaX (VE.x zad) zam))))))
   (zab (zbb (i:=11) nd rfl (Or.inl rfl) (zlZ (VR.x (zm6 (zap (VE.x zad) (zap (VE.x zad) (zap (VE.x zad) (zap (VE.x zad) (zap (VR.x (zao 0 0 1 CLdraw hr (zan (zaX (VE.x zad) zam)))) (zap (zcN za9 zaL (VE.x (zax zmQ zm1 (VE.w zad) (VE.w zad))) (VR.x (zao 0 0 1 CLdraw hr (zan (zaX (VE.x zad) zam))))) zcu)))))))) (VR.x (zao 0 0 1 CLdraw hr (zan (zaX (VE.x zad) zam))))))
   (zab (zl8 7 (zm6 (zap (VE.x (vv 8)) (zap (VE.x (zaz (vr 3) (vr 9))) (zap (znX CLscaled hr (zap (VR.x (zao 0 0 1 CLbox hr (zan (zaX (VE.x (vv 4)) zam)))) (zap (VE.x (vv 5)) zcu))) (zap (VE.x (vv 10)) (zap (VE.x (vv 11)) (zap (VE.x zcL) zcu))))))))
   (zab (zbb (i:=12) nd rfl (Or.inl rfl) (VR.x (zao 0 0 1 CLdraw hr (zan (zaX (VE.x (zax za9 zaL (VE.w (zax zcs zbo (VE.w zad) (vr 9))) (VE.w zad))) zam)))))
   (zai (zm8 (VPX.t (znW (VT.x (zaC zfq zft (vr 12) (vr 9) (zaD _))) (zlY (zke zgE (zqE true) (VE.x (vv 12)) (VR.x (zao 0 7 2 CLabove2 hr (zan (zaX (VE.x (vv 9)) zam)))) rfl))))
   (zai (zl4 7 (VE.x (zaz (vr 3) (vr 12))) (vv 9) zad))
   zas))))))))
  (zdZ 7 (zai (zaG (vv 7))))))))))))
def zcF (self:List D->Option D):List D->Option D:=runF 5 2
    (gSeq (gOwn 2 (aMk aNil))
    (gSeq (gSet 3 (eK (.int 0)))
    (gSeq (gWhile (t1 (e2 dLt (eRd 3) (eCall bLen (aCons (eRd 0) aNil))))
    (gSeq (gSet 4 (e2 dAdd (eRd 3) (eK (.int 1))))
     (gSeq (gWhile (tAndF (t1 (e2 dLt (eRd 4) (eCall bLen (aCons (eRd 0) aNil)))) (t1 (e2 dGt (e2 dIx (e2 dIx (eRd 0) (eRd 4)) (eK (.int 0))) (eRd 1))))
     (gSet 4 (e2 dAdd (eRd 4) (eK (.int 1)))) (fun _=>1000))
     (gSeq (gApp 2 (e2 dAdd (eCall bTuple (aCons (eSl (e2 dIx (eRd 0) (eRd 3)) (oS (eK (.int 1))) oN) aNil)) (eTup (aCons (eCall self (aCons (eSl (eRd 0) (oS (e2 dAdd (eRd 3) (eK (.int 1)))) (oS (eVar 4))) (aCons (e2 dAdd (eRd 1) (eK (.int 1))) aNil))) aNil))))
     (gSet 3 (eVar 4))))) (fun _=>1000))
    (gRet (eCall bTuple (aCons (eRd 2) aNil))))))
def zbj:Nat->List D->Option D
 | 0=>fun _=>none
 | n+1=>zcF (zbj n)
theorem scLhung:FnScope ["_law_rows_here","_law_deep","_law_parts","_law_k","_law_end"] ["_law_rows_here","_law_deep"] (zae zdm):=fsc
theorem zhi (F:Fun K "_law_hung" "_law_hung" zdm f fd)(B:Blt mg){n:Nat}{self:List D->Option D}(CLhung:Cal P w K mg base n "_law_hung" ["_law_rows_here","_law_deep"] (spF K self)):FnOk P w K mg base CX0 (n+1) f fd ["_law_rows_here","_law_deep"] (spF K (zcF self)):=
 zeY F scLhung fun cdv A outer s H E hr=>by
  have nd:=scLhung.nd
  exact(zab (vsO 2 nd (zbT zag))
  (zab (vsS 3 nd zad)
  (zab (ziv (fun _=>1000) (zaC zfq zft (vr 3) (VE.w (ve_b zb2 zeh B boot_len (zav (vr 0) zaV))) (zaD _))
  (zab (vsS 4 nd (zax za9 zaL (vr 3) (VE.w zad)))
   (zab (ziv (fun _=>1000) (VP.t (zgR (zaC zfq zft (vr 4) (VE.w (ve_b zb2 zeh B boot_len (zav (vr 0) zaV))) (zaD _)) (zf6 (zaC zlu zlP (VE.w (zaz (VE.w (zaz (vr 0) (vr 4))) (VE.w zad))) (vr 1) (zaD _)))))
   (zai (vsS 4 nd (zax za9 zaL (vr 4) (VE.w zad)))))
   (zab (zdy 2 (zax za9 zaL (VE.w (zj5 zds zit B boot_tuple (zav (VE.w (zir (VE.w (zaz (vr 0) (vr 3))) (zeW zad) zhK)) zaV))) (VE.w (zbg (zaa (zar (hk:=wae _) CLhung hr (zaa (zir (vr 0) (zeW (zax za9 zaL (vr 3) (VE.w zad))) (zeW (vv 4))) (zaa (zax za9 zaL (vr 1) (VE.w zad)) zag))) zag)))))
   (zai (vsS 3 nd (vv 4)))))))
  (zai (zaG (zj5 zds zit B boot_tuple (zav (vr 2) zaV)))))))
def za8 (pLsheet pLrows_here pLnumbers pLstray:D):Option D:=
 (Option.bind (un4 pLstray) fun(y1:D×D×D×D)=>(Option.bind (Option.bind (Option.bind ((dInG true) y1.1 pLnumbers) dB) fun k5=>if k5 then some true else(Option.bind (Option.bind ((dInG true) y1.2.2.1 pLnumbers) dB) fun k4=>if k4 then some true else(Option.bind (Option.bind ((dInG true) y1.2.2.2 pLnumbers) dB) fun k3=>if k3 then some true else(Option.bind ((dEqG false) y1.2.2.2 y1.1) dB)))) fun k2=>if k2 then(Option.bind (some (.bl false)) fun(r6:D)=>(some r6)) else(Option.bind (Option.bind (Option.bind (Option.bind (zaS [pLsheet,y1.1,y1.2.1]) fun v10=>((dEqG true) v10 y1.2.2.1)) dB) fun k9=>if k9 then some true else(Option.bind (Option.bind (Option.bind (aC (some pLsheet) (aC (some y1.2.2.1) (aC (zaZ [y1.2.1]) aN))) zaS) fun v8=>((dEqG true) v8 y1.2.2.2)) dB)) fun k7=>if k7 then(Option.bind (some (.bl false)) fun(r11:D)=>(some r11)) else(Option.bind (Option.bind (Option.bind (dGet pLnumbers y1.2.2.1) fun v12=>(dIx pLrows_here v12)) fun v13=>(dIx v13 (.int 2))) fun(x14:D)=>(Option.bind (Option.bind (aC (some x14) (aC (Option.bind (Option.bind (dGet pLnumbers y1.1) fun v15=>(dIx pLrows_here v15)) fun v16=>(dIx v16 (.int 2))) (aC (zaZ [y1.2.1]) aN))) za3) fun(x17:D)=>(Option.bind (Option.bind (aC (some x14) (aC (Option.bind (Option.bind (dGet pLnumbers y1.2.2.2) fun v18=>(dIx pLrows_here v18)) fun v19=>(dIx v19 (.int 2))) (aC (zaZ [y1.2.1]) aN))) za3) fun(x20:D)=>(Option.bind (Option.bind (Option.bind ((dIs false) x17 D.non) dB) fun k22=>if k22 then some true else(Option.bind ((dIs false) x20 D.non) dB)) fun k21=>if k21 then(Option.bind (some (.bl false)) fun(r23:D)=>(some r23)) else(Option.bind (Option.bind (Option.bind (aC (some x20) (aC (dGet pLnumbers y1.2.2.2) aN)) mkT) fun v24=>(Option.bind (Option.bind (aC (some x17) (aC (dGet pLnumbers y1.1) aN)) mkT) fun v25=>(dLtG v24 v25))) fun(r26:D)=>(some r26)))))))))
def zaM:List D->Option D:=c4 za8
theorem scLstray_right:FnScope ["_law_sheet","_law_rows_here","_law_numbers","_law_stray","_law_name","_law_way","_law_to","_law_back","_law_box_here","_law_mine","_law_other"] ["_law_sheet","_law_rows_here","_law_numbers","_law_stray"] (zae zbq):=fsc
theorem zdn (F:Fun K "_law_stray_right" "_law_stray_right" zbq f fd)(B:Blt mg)(C_nearest:Cal P w K mg base 15 "nearest" ["sheet","name","way"] (spF K zaS))(C_opposite:Cal P w K mg base 2 "opposite" ["way"] (spF K zaZ))(CLnear:Cal P w K mg base 1 "_law_near" ["_law_box_here","_law_other","_law_way"] (spF K za3)):FnOk P w K mg base CX0 (16+1) f fd ["_law_sheet","_law_rows_here","_law_numbers","_law_stray"] (spF K zaM):=
 zcQ F scLstray_right zpR fun cdv A outer s H E hr=>by
  have nd:=scLstray_right.nd
  have hu2:=zem hr
  refine⟨_,(zab (zgW (vv 3) (zc7 rfl (zaB (vgN 4 nd) (zaB (vgN 5 nd) (zaB (vgN 6 nd) (zaB (vgN 7 nd) zca)))))) (zab (zbG (VP.t (zhI (zaC (zeD hr) (zej true) (vr 4) (vr 2) rfl) (zhI (zaC (zeD hr) (zej true) (vr 6) (vr 2) rfl) (zhI (zaC (zeD hr) (zej true) (vr 7) (vr 2) rfl) (ziq (zaC (zmj hr) (zdB false) (vr 7) (vr 4) (zaD _))))))) (zai (zaG zhH)) zas) (zab (zbG (VP.t (zhI (zaC (zku hr) (zdB true) (VE.w (zar C_nearest hr (zaa (vv 0) (zaa (vv 4) (zaa (vv 5) zag))))) (vr 6) (zaD _)) (ziq (zaC (zku hr) (zdB true) (VE.w (zar C_nearest hr (zaa (vv 0) (zaa (vv 6) (zaa (zar C_opposite hr (zaa (vv 5) zag)) zag))))) (vr 7) (zaD _))))) (zai (zaG zhH)) zas) (zab (vsS 8 nd (zaz (VE.w (zaz (vr 1) (VE.w (zbw hu2 (vr 2) (vr 6))))) (VE.w zad))) (zab (vsS 9 nd (zar CLnear hr (zaa (vv 8) (zaa (zaz (VE.w (zaz (vr 1) (VE.w (zbw hu2 (vr 2) (vr 4))))) (VE.w zad)) (zaa (zar C_opposite hr (zaa (vv 5) zag)) zag))))) (zab (vsS 10 nd (zar CLnear hr (zaa (vv 8) (zaa (zaz (VE.w (zaz (vr 1) (VE.w (zbw hu2 (vr 2) (vr 7))))) (VE.w zad)) (zaa (zar C_opposite hr (zaa (vv 5) zag)) zag))))) (zab (zbG (VP.t (zhI (zaC zjx znM (vr 9) (VE.w zcL) (zaD _)) (ziq (zaC zjx znM (vr 10) (VE.w zcL) (zaD _))))) (zai (zaG zhH)) zas) (zai (zaG (zgQ (zqS hr) zp6 (VE.w (zbg (zaa (vv 10) (zaa (zbw hu2 (vr 2) (vr 7)) zag)))) (VE.w (zbg (zaa (vv 9) (zaa (zbw hu2 (vr 2) (vr 4)) zag)))) (zaD _))))))))))),zqK ?_⟩;intro pLsheet pLrows_here pLnumbers pLstray;unfold za8;exact(zau (ziB fun _=>tg_4 rfl (fun _=>rfl) (fun _ _=>rfl) (fun _ _ _=>rfl)) fun y1=>(zei (zbu fun _ _ h=>h) (zg4 (zei (zbu fun _ _ h=>h) (zg4 (zau (zbk rfl) fun x14=>(zau (zbk rfl) fun x17=>(zau (zbk rfl) fun x20=>(zei (zbu fun _ _ h=>h) (zg4 (zbu fun _ _ h=>h)))))))))))
def zkQ (p_feed:D):Option D:=
 (Option.bind (Option.bind (zmn zbA ((fun(s:D) e=>e) p_feed) [p_feed,(.int 7)]) fun q2=>some (q2.1.d,q2.2)) fun(q3:D×D)=>(Option.bind ((zbj 8) [q3.1,(.int 0)]) fun(x4:D)=>(Option.bind (some ()) fun(u5:Unit)=>(Option.bind (Option.bind (zkL [q3.1]) (zcP (fun(s6:D) (d64:D)=>Option.bind (un2 d64) fun(y7:D×D)=>(Option.bind (Option.bind (dIx y7.2 (.int 1)) fun v8=>(zi6 s6 v8 y7.1)) fun(x9:D)=>(some x9))) (.dct [] []))) fun(s6:D)=>(Option.bind (some ()) fun(u10:Unit)=>(Option.bind (Option.bind (Option.bind (Option.bind (Option.bind (some [x4]) fun d=>some (d,())) fun q34=>Option.bind (zdN q34.1) fun r35=>if q34.1.length=1 then some (r35.1,q34.2) else none) fun q36=>some (q36.1.d,q36.2)) fun q37=>Option.bind (dSeq q37.1) fun ds=>some (ds,q37.2)) fun q62=>Option.bind (zd0 (fun(s38:D) (d39:D)=>(Option.bind (Option.bind (Option.bind (Option.bind (bLen [d39]) fun v45=>((dEqG true) v45 (.int 4))) dB) fun k44=>if k44 then some true else(Option.bind (Option.bind (Option.bind (dSl d39 none (some 2)) fun v43=>(dInT false v43 s38)) dB) fun k42=>if k42 then some true else(Option.bind (Option.bind (zaM [x4,q3.1,s6,d39]) dTru) fun k41=>some (!k41)))) fun k40=>if k40 then(Option.bind (some (.bl false)) fun(r46:D)=>(some (Fl.ret r46:Fl (D) (D)))) else(Option.bind (Option.bind (dSl d39 none (some 2)) fun v47=>(zoz s38 v47 (.bl true))) fun(x48:D)=>(some (Fl.nx x48:Fl (D) (D)))))) (.dcu [] []) q62.1) (flK fun(s38:D)=>(Option.bind (Option.bind (zbc [x4]) dSeq) fun ds61=>Option.bind ((zd0 (fun(s49:Unit) (d50:D)=>(Option.bind (some [(.str "up"),(.str "down"),(.str "left"),(.str "right")]) fun ds59=>Option.bind ((zd0 (fun(s51:Unit) (d52:D)=>(Option.bind (zaS [x4,d50,d52]) fun(x53:D)=>(Option.bind (Option.bind (Option.bind ((dIs true) x53 D.non) dB) fun k57=>if k57 then(Option.bind (Option.bind (dInT true (.tup [d50,d52]) s38) dB) fun k56=>if k56 then(Option.bind (Option.bind (Option.bind (aC (some x4) (aC (some x53) (aC (zaZ [d52]) aN))) zaS) fun v55=>((dEqG true) v55 d50)) dB) else some false) else some false) fun k54=>if k54 then(Option.bind (some (.bl false)) fun(r58:D)=>(some (Fl.ret (Fl.ret r58:Fl (Unit) (D)):Fl (Unit) (Fl (Unit) (D))))) else(some (Fl.nx ():Fl (Unit) (Fl (Unit) (D))))))) ()) ds59) (flK fun(s51:Unit)=>(some (Fl.nx ():Fl (Unit) (D)))))) ()) ds61) (flK fun(s49:Unit)=>(Option.bind (some (.bl true)) fun(r60:D)=>(some r60)))))))))))
theorem sc_law:FnScope ["_law_script","_law_feed_here","_law_rows_here","_law_sheet","_law_numbers","_law_k","_law_row","_law_told","_law_stray","_law_name","_law_way","_law_to"] ["_law_script"] (zae zfh):=fsc
end
end Pg
namespace Pg
open PySem PyProof PyProof.Rows L2 VD GM
theorem zaA {d:D}{B m:Int}(F:FeedOk d B)(hB:B<=1000000)(m0:0<m)(m1:m<1073741824):∃r d',zac [d,.int m]=some (.told (.int r),[d',.non])/\0<=r/\r<m/\FeedOk d' (B+1):=by
 obtain⟨cs,n,l,rfl,n0,n1,l0,hcs⟩:=F;have hm:(0<m/\m<1073741824)=True:=eq_true ⟨m0,m1⟩
 by_cases hl:0<l
 ·refine⟨l % m,fdD cs n (l / m),?_,wcH _ (by omega),wci _ m0,cs,n,l / m,rfl,n0,by omega,Int.ediv_nonneg l0 (by omega),hcs⟩;simp[VDS,zac,fdD,nk1,nk2,nk3,nk4,nk5,hl,m0,CDiv,m1,lim]
 ·have hl':l=0:=by omega
  subst hl';have num:∀c:Int,∃x,0<=(((c % 1000003+61*n*n+7*n+1)*48271 % 999983*69621+7919*n) % 1999993*16807 % 524287 / 5 % m)/\(((c % 1000003+61*n*n+7*n+1)*48271 % 999983*69621+7919*n) % 1999993*16807 % 524287 / 5 % m)<m/\x=(0:Int):=fun c=>⟨0,wcH _ (by omega),wci _ m0,rfl⟩
  have c61:CMul 61 n:=.inl ⟨by decide,by decide⟩
  have c61n:CMul (61*n) n:=.inr ⟨by omega,by omega⟩
  have c7:CMul 7 n:=.inl ⟨by decide,by decide⟩
  have c48:∀a:Int,CMul a 48271:=fun a=>.inr ⟨by decide,by decide⟩
  have c69:∀a:Int,CMul a 69621:=fun a=>.inr ⟨by decide,by decide⟩
  have c79:CMul 7919 n:=.inl ⟨by decide,by decide⟩
  have c16:∀a:Int,CMul a 16807:=fun a=>.inr ⟨by decide,by decide⟩
  have cd5:∀a:Int,CDiv a 5:=fun a=>⟨by decide,by decide⟩
  have cdm:∀a:Int,CDiv a m:=fun a=>⟨m0,m1⟩
  have cp:CPow 10 18:=⟨by decide,by decide,by decide⟩
  by_cases hz:cs.length=0
  ·have:cs = []:=waW.mp hz
   subst this;have hn18:¬(1000000000000000000:Int)<=n:=by omega
   refine⟨_,fdD [] (n+1) 0,?_,(num n).choose_spec.1,(num n).choose_spec.2.1,[],n+1,0,rfl,by omega,by omega,by omega,hcs⟩;simp[VDS,zac,fdD,nk1,nk2,nk3,nk4,nk5,m0,m1,lim,dMul,c61,c61n,c7,c48,c69,c79,c16,cd5,cdm,cp,hn18]
  ·have hpos:(0:Int)<cs.length:=by omega
   have hposN:0<cs.length:=by omega
   have i0:0<=n % (cs.length:Int):=wcH _ (by omega)
   have i1:n % (cs.length:Int)<cs.length:=wci _ hpos
   obtain⟨x,hx,ha⟩:=zos (xs:=cs.map D.int) (i:=n % (cs.length:Int)) i0 (by rw[wao];exact i1);obtain⟨c,rfl⟩:∃c,x=.int c:=by
    rw[wag] at hx;cases q:cs[(n % (cs.length:Int)).toNat]? with
    | none=>rw[q] at hx;cases hx
    | some c=>rw[q] at hx;exact⟨c,(wau hx).symm⟩
   have ix:dIx (.lst (cs.map D.int)) (.int (n % (cs.length:Int)))=some (.int c):=ha
   by_cases hc:(1000000000000000000:Int)<=c/\n<(cs.length:Int)
   ·refine⟨c % m,fdD cs (n+1) (c / m),?_,wcH _ (by omega),wci _ m0,cs,n+1,c / m,rfl,by omega,by omega,Int.ediv_nonneg (by omega) (by omega),hcs⟩;simp[VDS,zac,fdD,nk1,nk2,nk3,nk4,nk5,m0,m1,lim,dMul,cdm,cp,ix,hposN,hc.1,hc.2]
   ·refine⟨_,fdD cs (n+1) 0,?_,(num c).choose_spec.1,(num c).choose_spec.2.1,cs,n+1,0,rfl,by omega,by omega,by omega,hcs⟩;by_cases h18:(1000000000000000000:Int)<=c
    ·have hn:¬n<(cs.length:Int):=fun h=>hc ⟨h18,h⟩
     simp[VDS,zac,fdD,nk1,nk2,nk3,nk4,nk5,m0,m1,lim,dMul,c61,c61n,c7,c48,c69,c79,c16,cd5,cdm,cp,ix,hposN,h18,hn]
    ·simp[VDS,zac,fdD,nk1,nk2,nk3,nk4,nk5,m0,m1,lim,dMul,c61,c61n,c7,c48,c69,c79,c16,cd5,cdm,cp,ix,hposN,h18]
theorem zdO {d:D}{B:Int}{k:Nat}(F:FeedOk d B)(hk:k<=20)(hB:B<=900000):∃r d',zay [d,.int (k:Int)]=some (.told (.int r),[d',.non])/\0<=r/\FeedOk d' (B+k):=by
 have key:=zcn (tg:=gN 3) (b:=gSetX 2 (x2 dAdd (xE (e2 dMul (eRd 2) (eK (.int 100000)))) (xR (xCallG [some 1,none] 0 0 1 zac (agOwn 0 (agX (xE (eK (.int 100000))) agNil)))))) (ds:=zaN 0 k)
  (fun i ρ=>∃r d' x,ρ = [.par 1 d',.val (.int (k:Int)),.val (.int r),x]/\0<=r/\FeedOk d' (B+i)/\isPar (some x)=false) (ρ:=[.par 1 d,.val (.int (k:Int)),.val (.int 0),.un]) ⟨0,d,.un,rfl,Int.le_refl _,by simpa using F,rfl⟩ (fun i x ρ hx h=>by
   obtain⟨hi,rfl⟩:=zbQ hx;obtain⟨r,d',y,rfl,r0,F',hy⟩:=h;obtain⟨r2,d2,e,h0,h1,F2⟩:=zaA (m:=100000) F' (by omega) (by decide) (by decide);have cm:CMul r 100000:=.inr ⟨by decide,by decide⟩
   refine⟨[.par 1 d',.val (.int (k:Int)),.val (.int r),.val (.int i)],[.par 1 d2,.val (.int (k:Int)),.val (.int (r*100000+r2)),.val (.int i)],?_,?_,_,_,_,rfl,by omega,?_,rfl⟩
   ·simp[gN,hy]
   ·simp[VDS,dMul,cm,e]
   ·rw[show B+((i+1:Nat):Int)=B+i+1 by omega];exact F2)
 obtain⟨ρ',e,r,d',x,rfl,r0,F',_⟩:=key;rw[zco] at F';refine⟨r,d',?_,r0,F'⟩;have hk0:(0:Int)<=k/\(k:Int)<=1000000:=by omega
 have hk1:-1000000<=(k:Int)/\(k:Int)<=1000000:=by omega
 have e':=e
 simp[zay,runG,inSl,gSeq,gSet,eK,isPar,gFor,aRng1,aCons,aNil,eVar,a1Int,hk1,e',outG,outSl,gRet]
theorem zmB {d:D}{B:Int}(F:FeedOk d B)(hB:B<=800000):∃t r n d',zbd [d]=some (.told (.tup [.int t,.int r,.int n]),[d'])/\1<=t/\FeedOk d' (B+60):=by
 obtain⟨w,d1,z1,w0,w1,F1⟩:=zaA (m:=4) F (by omega) (by decide) (by decide);by_cases h1:w<2
 ·refine⟨1,0,0,d1,?_,by omega,F1.mono (by omega)⟩;simp[VDS,zbd,z1,h1,lim]
 ·by_cases h2:w=2
  ·subst h2;obtain⟨a,d2,z2,a0,a1,F2⟩:=zaA (m:=9) F1 (by omega) (by decide) (by decide);obtain⟨b,d3,z3,b0,b1,F3⟩:=zaA (m:=201) F2 (by omega) (by decide) (by decide);obtain⟨c,d4,z4,c0,c1,F4⟩:=zaA (m:=201) F3 (by omega) (by decide) (by decide);refine⟨1+a,b - 100,c - 100,d4,?_,by omega,F4.mono (by omega)⟩;simp[VDS,zbd,z1,z2,z3,z4,lim,dEq,cmpB,zbZ]
  ·obtain⟨a,d2,z2,a0,F2⟩:=zdO (k:=8) F1 (by decide) (by omega);obtain⟨b,d3,z3,b0,F3⟩:=zdO (k:=11) F2 (by decide) (by omega);obtain⟨b',d4,z4,b0',F4⟩:=zdO (k:=11) F3 (by decide) (by omega);obtain⟨c,d5,z5,c0,F5⟩:=zdO (k:=11) F4 (by decide) (by omega);obtain⟨c',d6,z6,c0',F6⟩:=zdO (k:=11) F5 (by decide) (by omega);refine⟨1+a,b - b',c - c',d6,?_,by omega,F6.mono (by omega)⟩;have z2':zay [d1,.int 8]=_:=z2
   have z3':zay [d2,.int 11]=_:=z3
   have z4':zay [d3,.int 11]=_:=z4
   have z5':zay [d4,.int 11]=_:=z5
   have z6':zay [d5,.int 11]=_:=z6
   simp[VDS,zbd,z1,z2',z3',z4',z5',z6',h1,h2,lim,dEq,cmpB,zbZ]
theorem zeG {x y z k lo hi:Int}(h0:0<=k)(h1:k<3)(hx:lo<=x/\x<=hi)(hy:lo<=y/\y<=hi)(hz:lo<=z/\z<=hi):∃v:Int,dIx (.lst [.int x,.int y,.int z]) (.int k)=some (.int v)/\lo<=v/\v<=hi:=by
 have ek:k=((k.toNat:Nat):Int):=by omega
 have hk:k.toNat<3:=by omega
 rw[ek];match k.toNat,hk with
 | 0,_=>exact⟨x,zat rfl,hx⟩
 | 1,_=>exact⟨y,zat rfl,hy⟩
 | 2,_=>exact⟨z,zat rfl,hz⟩
theorem zp7 {d:D}{B st:Int}(F:FeedOk d B)(hB:B<=800000):∃x y wd hg d',za6 [d,.int st]=some (.told (.tup [.int x,.int y,.int wd,.int hg]),[d',.non])/\(0<=x/\x<=20/\0<=y/\y<=20/\1<=wd/\wd<=20/\1<=hg/\hg<=20)/\FeedOk d' (B+4):=by
 have cm:∀(a b:Int),0<=b->b<10->CMul a b:=fun a b h1 h2=>.inr ⟨by omega,by omega⟩
 by_cases h0:st=0
 ·subst h0;obtain⟨c,d1,z1,c0,c1,F1⟩:=zaA (m:=3) F (by omega) (by decide) (by decide);obtain⟨l,d2,z2,l0,l1,F2⟩:=zaA (m:=3) F1 (by omega) (by decide) (by decide);obtain⟨x,ex,x0,x1⟩:=zeG (x:=0) (y:=2) (z:=5) (lo:=0) (hi:=20) c0 c1 (by decide) (by decide) (by decide);obtain⟨y,ey,y0,y1⟩:=zeG (x:=0) (y:=3) (z:=4) (lo:=0) (hi:=20) l0 l1 (by decide) (by decide) (by decide);obtain⟨wd,ew,w0,w1⟩:=zeG (x:=2) (y:=3) (z:=1) (lo:=1) (hi:=20) c0 c1 (by decide) (by decide) (by decide);obtain⟨hg,eh,g0,g1⟩:=zeG (x:=2) (y:=1) (z:=2) (lo:=1) (hi:=20) l0 l1 (by decide) (by decide) (by decide);refine⟨x,y,wd,hg,d2,?_,⟨x0,x1,y0,y1,w0,w1,g0,g1⟩,F2.mono (by omega)⟩;simp[VDS,za6,z1,z2,ex,ey,ew,eh,lim,dEq,cmpB,zbZ]
 ·by_cases h1:st=1
  ·subst h1;obtain⟨a,d1,z1,a0,a1,F1⟩:=zaA (m:=9) F (by omega) (by decide) (by decide);obtain⟨b,d2,z2,b0,b1,F2⟩:=zaA (m:=9) F1 (by omega) (by decide) (by decide);obtain⟨c,d3,z3,c0,c1,F3⟩:=zaA (m:=4) F2 (by omega) (by decide) (by decide);obtain⟨g,d4,z4,g0,g1,F4⟩:=zaA (m:=4) F3 (by omega) (by decide) (by decide);refine⟨a,b,1+c,1+g,d4,?_,by omega,F4.mono (by omega)⟩;simp[VDS,za6,z1,z2,z3,z4,lim,dEq,cmpB,zbZ]
  ·by_cases h2:st=2
   ·subst h2;obtain⟨a,d1,z1,a0,a1,F1⟩:=zaA (m:=8) F (by omega) (by decide) (by decide);obtain⟨b,d2,z2,b0,b1,F2⟩:=zaA (m:=2) F1 (by omega) (by decide) (by decide);obtain⟨c,d3,z3,c0,c1,F3⟩:=zaA (m:=2) F2 (by omega) (by decide) (by decide);obtain⟨g,d4,z4,g0,g1,F4⟩:=zaA (m:=3) F3 (by omega) (by decide) (by decide);refine⟨2*a,b,1+c,1+g,d4,?_,by omega,F4.mono (by omega)⟩;simp[VDS,za6,z1,z2,z3,z4,lim,dEq,cmpB,zbZ,dMul,cm _ a a0 (by omega)]
   ·obtain⟨a,d1,z1,a0,a1,F1⟩:=zaA (m:=4) F (by omega) (by decide) (by decide);obtain⟨b,d2,z2,b0,b1,F2⟩:=zaA (m:=4) F1 (by omega) (by decide) (by decide);refine⟨3*a,3*b,2,2,d2,?_,by omega,F2.mono (by omega)⟩;simp[VDS,za6,z1,z2,h0,h1,h2,lim,dEq,cmpB,zbZ,dMul,cm _ a a0 (by omega),cm _ b b0 (by omega)]
theorem zkR {x y wd hg t r n:Int}(h:0<=x/\x<=20/\0<=y/\y<=20/\1<=wd/\wd<=20/\1<=hg/\hg<=20)(ht:1<=t):∃b:Bx,za2 [.tup [.int x,.int y,.int wd,.int hg],.tup [.int t,.int r,.int n]]=some b.d/\1<=b.wd/\1<=b.hg:=by
 have cm:∀a:Int,0<=a->a<=20->CMul a t:=fun a h1 h2=>.inl ⟨by omega,by omega⟩
 have pos:∀a:Int,1<=a->1<=a*t:=fun a ha=>by
  have:1*1<=a*t:=Int.mul_le_mul ha ht (by omega) (by omega)
  omega
 have a0:∀(p q u v:D),dIx (.tup [p,q,u,v]) (.int 0)=some p:=fun _ _ _ _=>zat (j:=0) rfl
 have a1:∀(p q u v:D),dIx (.tup [p,q,u,v]) (.int 1)=some q:=fun _ _ _ _=>zat (j:=1) rfl
 have a2:∀(p q u v:D),dIx (.tup [p,q,u,v]) (.int 2)=some u:=fun _ _ _ _=>zat (j:=2) rfl
 have a3:∀(p q u v:D),dIx (.tup [p,q,u,v]) (.int 3)=some v:=fun _ _ _ _=>zat (j:=3) rfl
 refine⟨⟨x*t+r,y*t+n,wd*t,hg*t⟩,?_,pos wd h.2.2.2.2.1,pos hg h.2.2.2.2.2.2.1⟩;simp[VDS,za2,a0,a1,a2,a3,dMul,cm x h.1 h.2.1,cm y h.2.2.1 h.2.2.2.1,cm wd (by omega) h.2.2.2.2.2.1,cm hg (by omega) h.2.2.2.2.2.2.2,lim,Bx.d]
theorem zoC {S:D}(hS:∀i:Int,0<=i->i<26->dIx S (.int i)=some (.str (sg (97+i.toNat)))){d3:D}{B:Int}(n:Nat)(hn:n<=8)(F3:FeedOk d3 B)(hB:B<=800010):∃(cs:List Nat) (d4:D) (x:SV),
 zcI (gN 0) xtTrue (x2 dIx (xE (eVar 2)) (xR (xCallG [some 1,none] 0 1 1 zac (agOwn 1 (agX (xE (eK (.int 26))) agNil))))) (zaN 0 n) [.un,.par 1 d3,.val S]=some (cs.map (fun c=>D.str (sg c)),[x,.par 1 d4,.val S])/\cs.length=n/\FeedOk d4 (B+n):=by
 have base:=zfK (g:=gN 0) (t:=xtTrue) (e:=x2 dIx (xE (eVar 2)) (xR (xCallG [some 1,none] 0 1 1 zac (agOwn 1 (agX (xE (eK (.int 26))) agNil))))) (ds:=zaN 0 n)
  (fun i xs ρ=>∃(cs:List Nat) (d':D) (x:SV),xs=cs.map (fun c=>D.str (sg c))/\cs.length=i/\ρ = [x,.par 1 d',.val S]/\isPar (some x)=false/\zpM x=false/\FeedOk d' (B+i)) 0 [] (ρ:=[.un,.par 1 d3,.val S])
  ⟨[],d3,.un,rfl,rfl,rfl,rfl,rfl,by simpa using F3⟩ (fun i x xs ρ hx h=>by
   obtain⟨hi,rfl⟩:=zbQ hx;obtain⟨cs,d',x,rfl,hl,rfl,hp,ho,F'⟩:=h;rw[wbf] at hl F';obtain⟨r,d4,z4,r0,r1,F4⟩:=zaA (m:=26) F' (by omega) (by decide) (by decide);refine⟨by simp only[zfG,wbm,ho];rfl,[.val (.int i),.par 1 d',.val S],.str (sg (97+r.toNat)),[.val (.int i),.par 1 d4,.val S],?_,rfl,?_,cs++[97+r.toNat],d4,_,by simp,by simp[hl],rfl,rfl,rfl,?_⟩
   ·simp[gN,hp]
   ·simp[VDS,z4,hS r r0 r1]
   ·rw[show B+((0+i+1:Nat):Int)=B+(i:Int)+1 by omega];exact F4)
 obtain⟨xs,ρb,eb,cs,d4,xb,hxs,hcs,rfl,_,_,F4⟩:=base;rw[wcf] at hxs;subst hxs;rw[zco,wbf] at hcs F4;exact⟨cs,d4,xb,eb,hcs,F4⟩
theorem zkS {S d6 ch M:D}{bb LL:List D}{fI aI sI iI:Int}{at_:Nat}(cmul:CMul sI iI)(hq:dIx S (.int ((fI+sI*iI) % 26))=some ch)(ixl:ixN bb.length aI=some at_) :
 gPutL 4 (eVar 5) (xE (e2 dIx (eRd 2) (e2 dMod (e2 dAdd (eRd 3) (e2 dMul (eRd 6) (eRd 8))) (eK (.int 26))))) [.par 1 d6,.val M,.val S,.val (.int fI),.own 1 (.lst bb),.val (.int aI),.val (.int sI),.own 1 (.lst LL),.val (.int iI)]=some (.nx [.par 1 d6,.val M,.val S,.val (.int fI),.own 1 (.lst (bb.set at_ ch)),.val (.int aI),.val (.int sI),.own 1 (.lst LL),.val (.int iI)]):=by
 simp[gPutL,xE,e2,eRd,eVar,eK,dAdd,dMod,dI,dMul,cmul,dInt,ownD,setO,putD,hq,ixl]
theorem zqT {S d6:D}{m f at_ st i:Nat}{cs:List Nat}{v:Nat}{x:SV}(hS:∀i:Int,0<=i->i<26->dIx S (.int i)=some (.str (sg (97+i.toNat))))(hcs8:cs.length<=8)(hat:at_<cs.length)(hi:i<1000)(hp:isPar (some x)=false) :
 gSeq (gPutL 4 (eVar 5) (xE (e2 dIx (eRd 2) (e2 dMod (e2 dAdd (eRd 3) (e2 dMul (eRd 6) (eRd 8))) (eK (.int 26)))))) (gApp 7 (e1 (zkl "") (eRd 4))) [.par 1 d6,.val (.int (m:Int)),.val S,.val (.int (f:Int)),.own 1 (.lst ((cs.set at_ v).map fun c=>D.str (sg c))),.val (.int (at_:Int)),.val (.int (st:Int)),.own 1 (.lst (((List.range i).map (nmB cs at_ f st)).map D.str)),.val (.int (i:Int))] =
 some (.nx [.par 1 d6,.val (.int (m:Int)),.val S,.val (.int (f:Int)),.own 1 (.lst ((cs.set at_ (97+(((f:Int)+(st:Int)*(i:Int)) % 26).toNat)).map fun c=>D.str (sg c))),.val (.int (at_:Int)),.val (.int (st:Int)),.own 1 (.lst (((List.range (i+1)).map (nmB cs at_ f st)).map D.str)),.val (.int (i:Int))]):=by
 have q0:0<=((f:Int)+(st:Int)*(i:Int)) % 26:=by omega
 have q1:((f:Int)+(st:Int)*(i:Int)) % 26<26:=by omega
 have cmul:CMul (st:Int) (i:Int):=.inr ⟨by omega,by omega⟩
 have ixl:ixN cs.length (at_:Int)=some at_:=by
  unfold ixN;rw[if_pos (by omega),if_pos (by omega)];simp
 have enew:(((cs.set at_ v).map fun c=>D.str (sg c)).set at_ (.str (sg (97+(((f:Int)+(st:Int)*(i:Int)) % 26).toNat))))=(cs.set at_ (97+(((f:Int)+(st:Int)*(i:Int)) % 26).toNat)).map fun c=>D.str (sg c):=by
  rw[<-List.map_set,List.set_set]
 have hj:=zot (cs:=cs.set at_ (97+(((f:Int)+(st:Int)*(i:Int)) % 26).toNat)) (by rw[List.length_set];omega)
 have enm:(⟨(cs.set at_ (97+(((f:Int)+(st:Int)*(i:Int)) % 26).toNat)).toArray⟩:Str)=nmB cs at_ f st i:=by
  unfold nmB;have:(((f:Int)+(st:Int)*(i:Int)) % 26).toNat=(f+st*i) % 26:=by
   have e:(f:Int)+(st:Int)*(i:Int)=((f+st*i:Nat):Int):=by simp
   rw[e];omega
  rw[this]
 rw[enm] at hj;have hlim:i<lim:=wan hi (by decide)
 have hq:=hS _ q0 q1
 have er:((List.range (i+1)).map (nmB cs at_ f st)).map D.str=((List.range i).map (nmB cs at_ f st)).map D.str++[.str (nmB cs at_ f st i)]:=by
  rw[List.range_succ,wap,wap];rfl
 rw[er,<-enew];rw[<-enew] at hj;generalize hLL:((List.range i).map (nmB cs at_ f st)).map D.str=LL;have hll:LL.length<lim:=by rw[<-hLL];simpa using hlim
 have hbl:((cs.set at_ v).map fun c=>D.str (sg c)).length=cs.length:=by simp
 generalize ((cs.set at_ v).map fun c=>D.str (sg c))=bb at hbl hj⊢;generalize nmB cs at_ f st i=nm at hj⊢;generalize D.str (sg (97+(((f:Int)+(st:Int)*(i:Int)) % 26).toNat))=ch at hq hj⊢;have e5:=zkS (S:=S) (d6:=d6) (M:=.int (m:Int)) (LL:=LL) (bb:=bb) (aI:=(at_:Int)) cmul hq (by rw[hbl];exact ixl)
 show((gPutL 4 _ _ _).bind fun o=>_)=_
 rw[e5,zOB];simp[gApp,e1,eRd,ownD,setO,putD,hj,hll]
theorem zmC {d:D}{B:Int}{m:Nat}(F:FeedOk d B)(hB:B<=800000)(hm:m<=26):∃(ts:List Str) (d':D),zbm [d,.int (m:Int)]=some (.told (.lst (ts.map D.str)),[d',.non])/\ts.length=m/\ts.Nodup/\(∀t∈ts,t.length<=8)/\FeedOk d' (B+20):=by
 obtain⟨f,d1,z1,f0,f1,F1⟩:=zaA (m:=26) F (by omega) (by decide) (by decide);obtain⟨c,d2,z2,c0,c1,F2⟩:=zaA (m:=3) F1 (by omega) (by decide) (by decide);obtain⟨f,rfl⟩:∃n:Nat,f=n:=⟨f.toNat,by omega⟩
 have hm1:-1000000<=(m:Int)/\(m:Int)<=1000000:=by omega
 by_cases hc:c=0
 ·subst hc;refine⟨(List.range m).map (nmA f),d2,?_,by simp,zbV m fun i j hij hj=>zoq hij (by omega),fun t ht=>?_,F2.mono (by omega)⟩
  ·have key:zeo (zbC (zb0 [.par 1 d2,.val (.int (m:Int)),.val (.str abcS),.val (.int (f:Int)),.un,.un,.un,.un,.un] [none,some 2,some 3]) (gN 0) tTrue (e2 dMul (e2 dIx (eRd 1) (e2 dMod (e2 dAdd (eRd 2) (e2 dFdiv (eRd 0) (eK (.int 8)))) (eK (.int 26)))) (e2 dAdd (eK (.int 1)) (e2 dMod (eRd 0) (eK (.int 8)))))) (zaN 0 m)=some ((zaN 0 m).map fun x=>match x with | .int i=>.str (nmA f i.toNat) | _=>.non):=by
    refine zfa fun x hx=>?_
    obtain⟨i,hi⟩:=wbA hx;obtain⟨hi,rfl⟩:=zbQ hi;have q0:0<=((f:Int)+(i:Int) / 8) % 26:=by omega
    have q1:((f:Int)+(i:Int) / 8) % 26<26:=by omega
    have eA:Txt.mul (sg (97+(((f:Int)+(i:Int) / 8) % 26).toNat)) (1+(i:Int) % 8)=nmA f i:=by
     unfold nmA;congr 2
    have cd:CDiv (i:Int) 8:=⟨by decide,by decide⟩
    simp[VDS,zbC,zb0,cd,zkG q0 q1,zp1 _ (show -1000<=1+(i:Int) % 8 by omega) (show 1+(i:Int) % 8<=1000 by omega),eA]
   have el:(zaN 0 m).map (fun x=>match x with | .int i=>D.str (nmA f i.toNat) | _=>.non)=((List.range m).map (nmA f)).map D.str:=by
    rw[zjc,waM,waM];apply wbI;intro i _;simp
   have hl:m<=lim:=waq hm (by decide)
   simp[zbm,runG,inSl,gSeq,gSet,gSetX,gIfX,xt1,x2,xR,xCallG,agOwn,agX,agNil,xE,eK,ownD,agK,z1,z2,setO,putD,isPar,RV.d,dEq,cmpB,zbZ,dB,gRet,eL,zgV,aRng1,aCons,aNil,eVar,a1Int,hm1,key,el,hl,outG,outSl]
  ·obtain⟨i,_,rfl⟩:=waN.mp ht;unfold nmA;rw[zop _ _ (by omega)];omega
 ·obtain⟨w,d3,z3,w0,w1,F3⟩:=zaA (m:=8) F2 (by omega) (by decide) (by decide);obtain⟨cs,d4,xb,eb,hcs,F4⟩:=zoC (S:=.str abcS) (fun i h0 h1=>zkG h0 h1) (1+w).toNat (by omega) F3 (by omega);have hw:(0:Int)<(cs.length:Int):=by omega
  obtain⟨at_,d5,z5,a0,a1,F5⟩:=zaA (m:=(cs.length:Int)) F4 (by omega) hw (by omega);obtain⟨at_,rfl⟩:∃n:Nat,at_=n:=⟨at_.toNat,by omega⟩
  obtain⟨sp,d6,z6,s0,s1,F6⟩:=zaA (m:=3) F5 (by omega) (by decide) (by decide);obtain⟨st,hst,est⟩:∃st:Nat,(st=1\/st=7\/st=25)/\dIx (.lst [.int 1,.int 7,.int 25]) (.int sp)=some (.int (st:Int)):=by
   have ek:sp=((sp.toNat:Nat):Int):=by omega
   have hk:sp.toNat<3:=by omega
   rw[ek];match sp.toNat,hk with
   | 0,_=>exact⟨1,.inl rfl,zat (j:=0) rfl⟩
   | 1,_=>exact⟨7,.inr (.inl rfl),zat (j:=1) rfl⟩
   | 2,_=>exact⟨25,.inr (.inr rfl),zat (j:=2) rfl⟩
  have hat:at_<cs.length:=by omega
  have hcs8:cs.length<=8:=by omega
  have loop:=zcn (tg:=gN 8) (b:=gSeq (gPutL 4 (eVar 5) (xE (e2 dIx (eRd 2) (e2 dMod (e2 dAdd (eRd 3) (e2 dMul (eRd 6) (eRd 8))) (eK (.int 26)))))) (gApp 7 (e1 (zkl "") (eRd 4)))) (ds:=zaN 0 m)
   (fun i ρ=>∃(bs:List Nat) (x:SV),ρ = [.par 1 d6,.val (.int (m:Int)),.val (.str abcS),.val (.int (f:Int)),.own 1 (.lst (bs.map fun c=>D.str (sg c))),.val (.int (at_:Int)),.val (.int (st:Int)),.own 1 (.lst (((List.range i).map (nmB cs at_ f st)).map D.str)),x]/\(∃v,bs=cs.set at_ v)/\isPar (some x)=false)
   (ρ:=[.par 1 d6,.val (.int (m:Int)),.val (.str abcS),.val (.int (f:Int)),.own 1 (.lst (cs.map fun c=>D.str (sg c))),.val (.int (at_:Int)),.val (.int (st:Int)),.own 1 (.lst []),.un])
   ⟨cs,.un,rfl,⟨cs[at_],by simp⟩,rfl⟩ (fun i x ρ hx h=>by
    obtain⟨hi,rfl⟩:=zbQ hx;obtain⟨bs,x,rfl,⟨v,rfl⟩,hp⟩:=h;refine⟨_,_,?_,zqT (S:=.str abcS) (v:=v) (fun i h0 h1=>zkG h0 h1) hcs8 hat (by omega) hp,_,_,rfl,⟨_,rfl⟩,rfl⟩;simp[gN,hp])
  obtain⟨ρ',el,bs,x,rfl,_,_⟩:=loop;rw[zco] at el;refine⟨(List.range m).map (nmB cs at_ f st),d6,?_,by simp,zbV m fun i j hij hj=>zor hat hst hij (by omega),fun t ht=>?_,F6.mono (by omega)⟩
  ·have hw1:-1000000<=1+w/\1+w<=1000000:=by omega
   have hll:cs.length<=lim:=waq hcs8 (by decide)
   have l3:(3:Nat)<=lim:=by decide
   have l0:(0:Nat)<=lim:=by decide
   simp[zbm,runG,inSl,gSeq,gSet,gSetX,gOwnR,gIfX,xt1,x2,xR,xCallG,agOwn,agX,agNil,xE,eK,ownD,agK,z1,z2,z3,z5,z6,setO,putD,isPar,RV.d,dEq,cmpB,zbZ,dB,hc,gNx,zg2,axRng1,axCons,axNil,dAdd,a1Int,hw1,zg0,zi4,eb,hll,zbK,ownP,eCall,bLen,aCons,aNil,eRd,eVar,eL,aMk,l3,est,gOwn,gFor,aRng1,hm1,el,gFrz,frzE,gRet,outG,outSl]
  ·obtain⟨i,_,rfl⟩:=waN.mp ht;show(cs.set at_ _).toArray.size<=8
   simp;omega
theorem zjh {R kD rd:D}{fd:List D}{dp j g:Int}(hr:dIx R (.int j)=some rd)(h0:dIx rd (.int 0)=some (.int g))(hl:fd.length<lim) :
 gIf (t1 (e2 dLt (e2 dIx (e2 dIx (eRd 0) (eRd 4)) (eK (.int 0))) (eRd 3))) (gSeq (gApp 2 (eVar 4)) (gSet 3 (e2 dIx (e2 dIx (eRd 0) (eRd 4)) (eK (.int 0))))) gNx [.val R,.val kD,.own 1 (.lst fd),.val (.int dp),.val (.int j)] =
 some (.nx (if g<dp then[.val R,.val kD,.own 1 (.lst (fd++[.int j])),.val (.int g),.val (.int j)] else[.val R,.val kD,.own 1 (.lst fd),.val (.int dp),.val (.int j)])):=by
 by_cases h:g<dp
 ·simp[VDS,hr,h0,hl,h]
 ·simp[VDS,hr,h0,hl,h]
theorem zh6 {kD rd:D}{rs:List D}{fd:List D}{dp j g:Int}{es:List D}(hr:atI rs j=some (.lst es))(h0:dIx (.lst es) (.int 0)=some (.int g))(hl:fd.length<lim) :
 gIf (t1 (e2 dLt (e2 dIx (eIx2 0 (eVar 4)) (eK (.int 0))) (eRd 3))) (gSeq (gApp 2 (eVar 4)) (gSet 3 (e2 dIx (eIx2 0 (eVar 4)) (eK (.int 0))))) gNx [.par 2 (.lst rs),.val kD,.own 1 (.lst fd),.val (.int dp),.val (.int j)] =
 some (.nx (if g<dp then[.par 2 (.lst rs),.val kD,.own 1 (.lst (fd++[.int j])),.val (.int g),.val (.int j)] else[.par 2 (.lst rs),.val kD,.own 1 (.lst fd),.val (.int dp),.val (.int j)])):=by
 by_cases h:g<dp
 ·simp[VDS,hr,h0,hl,h]
 ·simp[VDS,hr,h0,hl,h]
theorem zfQ {L:List Row}{k:Nat}(hk:k<L.length)(hL:L.length<=1000)(s0:SV)(b:FS)(hb:∀(j:Nat) (fd:List D) (dp:Int) (r:Row),L[j]?=some r->fd.length<lim->b [s0,.val (.int (k:Int)),.own 1 (.lst fd),.val (.int dp),.val (.int (j:Int))] =
 some (.nx (if((r.deep:Nat):Int)<dp then[s0,.val (.int (k:Int)),.own 1 (.lst (fd++[.int (j:Int)])),.val (.int ((r.deep:Nat):Int)),.val (.int (j:Int))] else[s0,.val (.int (k:Int)),.own 1 (.lst fd),.val (.int dp),.val (.int (j:Int))]))) :
 ∃(fd:List Nat) (dp:Nat) (x:SV),forL (gN 4) b (zaN 0 k).reverse [s0,.val (.int (k:Int)),.own 1 (.lst []),.val (.int ((L[k].deep:Nat):Int)),.un]=some (.nx [s0,.val (.int (k:Int)),.own 1 (.lst (fd.map natD)),.val (.int (dp:Int)),x])/\above L k=fd.reverse:=by
 have loop:=zcn (tg:=gN 4) (b:=b) (ds:=(zaN 0 k).reverse)
  (fun i ρ=>∃(fd:List Nat) (dp:Nat) (x:SV),ρ = [s0,.val (.int (k:Int)),.own 1 (.lst (fd.map natD)),.val (.int (dp:Int)),x]/\za7 (dsOf L) (dsOf L k) k=za7 (dsOf L) dp (k - i)++fd.reverse/\fd.length<=i/\isPar (some x)=false)
  (ρ:=[s0,.val (.int (k:Int)),.own 1 (.lst []),.val (.int ((L[k].deep:Nat):Int)),.un]) ⟨[],_,.un,rfl,by rw[zhR hk];simp,wae _,rfl⟩ (fun i x ρ hx h=>by
   obtain⟨hi,rfl⟩:=zmu hx;obtain⟨fd,dp,x,rfl,ha,hf,hp⟩:=h;have hj:k - 1 - i<L.length:=by omega
   have ks:k - i=(k - 1 - i)+1:=by omega
   have ds:=zhR hj
   have hlim:(fd.map natD).length<lim:=by
    rw[wao];exact wbe hf (wan hi (waq (wbs hk) (waq hL (by decide))))
   have tb:=hb (k - 1 - i) (fd.map natD) (dp:Int) _ (waa hj) hlim
   refine⟨[s0,.val (.int (k:Int)),.own 1 (.lst (fd.map natD)),.val (.int (dp:Int)),.val (.int ((k - 1 - i:Nat):Int))],_,by simp[gN,hp],tb,?_⟩;by_cases hlt:(L[k - 1 - i].deep:Nat)<dp
   ·rw[if_pos (by omega)];refine⟨fd++[k - 1 - i],L[k - 1 - i].deep,_,by rw[wap];rfl,?_,by simp;omega,rfl⟩;rw[ha,ks,zdh,if_pos (by rw[ds];exact hlt),ds,show k - (i+1)=k - 1 - i by omega];simp
   ·rw[if_neg (by omega)];refine⟨fd,dp,_,rfl,?_,by omega,rfl⟩;rw[ha,ks,zdh,if_neg (by rw[ds];exact hlt),show k - (i+1)=k - 1 - i by omega])
 obtain⟨ρ',e,fd,dp,x,rfl,ha,_,_⟩:=loop;refine⟨fd,dp,x,e,?_⟩;unfold above;rw[ha,wbH,zco,Nat.sub_self];rfl
theorem zqh {L:List Row}{k:Nat}(hk:k<L.length)(hL:L.length<=1000):zcU [zaT L,.int (k:Int)]=some (.lst ((above L k).map natD)):=by
 obtain⟨fd,dp,x,e,ha⟩:=zfQ hk hL (.val (zaT L)) _ (fun j fd dp r hr hl=>zjh (zfb hr) (zkH r) hl);have rk:=zfb (waa hk)
 have hk1:(0:Int)<=k/\(k:Int)<=1000000:=by omega
 rw[ha];simp[zcU,runF,gSeq,gOwn,aMk,aNil,gSet,e2,eRd,eK,isPar,rk,zkH,gFor,aRevR,aCons,eVar,a1Int,hk1,e,gRet,eL,aRev,dLst,outF]
theorem zkT {L:List Row}{k:Nat}(hk:k<L.length)(hL:L.length<=1000):za4 [zaT L,.int (k:Int)]=some (.told (.lst ((above L k).map natD)),[zaT L,.non]):=by
 obtain⟨fd,dp,x,e,ha⟩:=zfQ hk hL (.par 2 (zaT L)) _ (fun j fd dp r hr hl=>zh6 (kD:=.int (k:Int)) (rd:=.non) (znf hr) (zkH r) hl);have rk:=znf (waa hk)
 have r0:=zkH L[k]
 have hk1:(0:Int)<=k/\(k:Int)<=1000000:=by omega
 rw[ha];generalize hR:Row.d L[k]=R at rk r0;obtain⟨es,rfl⟩:∃es,R=.lst es:=⟨_,hR.symm⟩
 simp only[zaT] at e⊢;simp[za4,runG,inSl,gSeq,gOwn,aMk,aNil,gSet,e2,eIx2,ownD,dInt,eRd,eK,isPar,rk,r0,gFor,aRevR,aCons,eVar,a1Int,hk1,e,gRet,eL,aRev,dLst,outG,outSl]
theorem zaI {a b:FS}{ρ ρ':En}(h:a ρ=some (.nx ρ')):gSeq a b ρ=b ρ':=by unfold gSeq;rw[h];rfl
theorem zmD {w:Int}(h0:0<=w)(h1:w<8):∃x:Str,dIx (.lst [.str "free",.str "shut",.str "free",.str "free",.str "hidden",.str "free",.str "free",.str "free"]) (.int w)=some (.str x)/\(x = "free"\/x = "shut"\/x = "hidden"):=by
 have ek:w=((w.toNat:Nat):Int):=by omega
 have hk:w.toNat<8:=by omega
 rw[ek];match w.toNat,hk with
 | 0,_=>exact⟨_,zat (j:=0) rfl,.inl rfl⟩
 | 1,_=>exact⟨_,zat (j:=1) rfl,.inr (.inl rfl)⟩
 | 2,_=>exact⟨_,zat (j:=2) rfl,.inl rfl⟩
 | 3,_=>exact⟨_,zat (j:=3) rfl,.inl rfl⟩
 | 4,_=>exact⟨_,zat (j:=4) rfl,.inr (.inr rfl)⟩
 | 5,_=>exact⟨_,zat (j:=5) rfl,.inl rfl⟩
 | 6,_=>exact⟨_,zat (j:=6) rfl,.inl rfl⟩
 | 7,_=>exact⟨_,zat (j:=7) rfl,.inl rfl⟩
theorem zmE {a b c:Int}(ha:0<=a)(hb:0<=b)(h0:0<=c)(h1:c<6):∃x:Int,dIx (.lst [.int 0,.int 0,.int 1,.int 2,.int a,.int b]) (.int c)=some (.int x)/\0<=x:=by
 have ek:c=((c.toNat:Nat):Int):=by omega
 have hk:c.toNat<6:=by omega
 rw[ek];match c.toNat,hk with
 | 0,_=>exact⟨_,zat (j:=0) rfl,by decide⟩
 | 1,_=>exact⟨_,zat (j:=1) rfl,by decide⟩
 | 2,_=>exact⟨_,zat (j:=2) rfl,by decide⟩
 | 3,_=>exact⟨_,zat (j:=3) rfl,by decide⟩
 | 4,_=>exact⟨_,zat (j:=4) rfl,ha⟩
 | 5,_=>exact⟨_,zat (j:=5) rfl,hb⟩
abbrev rS1:FS:=gSetX 8 (x2 dMul (xR (xCallG [some 1,none] 0 0 1 zac (agOwn 0 (agX (xE (eCall bMin (aCons (e2 dAdd (eRd 8) (eK (.int 2))) (aCons (eK (.int 5)) aNil)))) agNil)))) (xE (eCall bInt (aCons (e2 dGt (eRd 6) (eK (.int 0))) aNil))))
abbrev rS2:FS:=gSetX 10 (x2 dIx (xE (eL (aMk (aCons (eK (.str "free")) (aCons (eK (.str "shut")) (aCons (eK (.str "free")) (aCons (eK (.str "free")) (aCons (eK (.str "hidden")) (aCons (eK (.str "free")) (aCons (eK (.str "free")) (aCons (eK (.str "free")) aNil))))))))))) (xR (xCallG [some 1,none] 0 0 1 zac (agOwn 0 (agX (xE (eK (.int 8))) agNil)))))
abbrev rS3:FS:=gSetX 11 (x2 dIx (xR (xLst (axCons (xE (eK (.int 0))) (axCons (xE (eK (.int 0))) (axCons (xE (eK (.int 1))) (axCons (xE (eK (.int 2))) (axCons (xR (xCallG [some 1,none] 0 0 1 zac (agOwn 0 (agX (xE (eK (.int 5))) agNil)))) (axCons (x2 dAdd (xE (e2 dPow (eK (.int 10)) (eK (.int 59)))) (xR (xCallG [some 1,none] 0 0 1 zac (agOwn 0 (agX (xE (eK (.int 3))) agNil))))) axNil)))))))) (xR (xCallG [some 1,none] 0 0 1 zac (agOwn 0 (agX (xE (eK (.int 6))) agNil)))))
abbrev rS4:FS:=gAppN2 7 (xLst (axCons (xE (eVar 8)) (axCons (xE (e2 dIx (eRd 3) (eRd 9))) (axCons (xCall za2 (axCons (xR (xCallG [some 1,none] 0 0 1 za6 (agOwn 0 (agX (xE (eVar 4)) agNil)))) (axCons (xE (eVar 5)) axNil))) (axCons (xE (eVar 10)) (axCons (xE (eVar 11)) (axCons (xE (eK .non)) axNil)))))))
abbrev rS5:FS:=gSetX 12 (xR (xCallG [some 1,none] 0 0 1 zac (agOwn 0 (agX (xE (e2 dAdd (e2 dMul (eK (.int 3)) (eRd 9)) (eK (.int 1)))) agNil))))
abbrev rS6:FS:=gIfX (xtAnd (xT (t1 (e2 dLt (eRd 12) (eRd 9)))) (xt1 (x2 (dIn true) (xE (eVar 12)) (xR (xCallG [some 2,none] 0 7 2 za4 (agOwn 7 (agX (xE (eVar 9)) agNil))))))) (gPut22 7 (eVar 9) (eK (.int 5)) (xE (e2 dIx (eRd 3) (eRd 12)))) gNx
abbrev zc6:FS:=gSeq rS1 (gSeq rS2 (gSeq rS3 (gSeq rS4 (gSeq rS5 rS6))))
theorem rs1 {d d1 a1 a2 a3 a4 a5 R ix:D}{fl dp q mm:Int}{x10 x11 x12:SV}(hmm:(if(5:Int)<dp+2 then 5 else dp+2)=mm)(z1:zac [d,.int mm]=some (.told (.int q),[d1,.non])) :
 rS1 [.par 1 d,.val a1,.val a2,.val a3,.val a4,.val a5,.val (.int fl),.own 2 R,.val (.int dp),.val ix,x10,x11,x12] =
 some (.nx [.par 1 d1,.val a1,.val a2,.val a3,.val a4,.val a5,.val (.int fl),.own 2 R,.val (.int (q*(if 0<fl then 1 else 0))),.val ix,x10,x11,x12]):=by
 have c1:CMul q 1:=.inr ⟨by decide,by decide⟩
 have c0:CMul q 0:=.inr ⟨by decide,by decide⟩
 by_cases hf:0<fl
 ·simp[VDS,hmm,z1,hf,dMul,c1]
 ·simp[VDS,hmm,z1,hf,dMul,c0]
theorem rs2 {d d2 a1 a2 a3 a4 a5 a6 R a8 ix:D}{w:Int}{wd:Str}{x10 x11 x12:SV}(p10:isPar (some x10)=false)(z2:zac [d,.int 8]=some (.told (.int w),[d2,.non]))(ew:dIx (.lst [.str "free",.str "shut",.str "free",.str "free",.str "hidden",.str "free",.str "free",.str "free"]) (.int w)=some (.str wd)) :
 rS2 [.par 1 d,.val a1,.val a2,.val a3,.val a4,.val a5,.val a6,.own 2 R,.val a8,.val ix,x10,x11,x12] =
 some (.nx [.par 1 d2,.val a1,.val a2,.val a3,.val a4,.val a5,.val a6,.own 2 R,.val a8,.val ix,.val (.str wd),x11,x12]):=by
 have h8:8<=lim:=by decide
 simp[VDS,z2,ew,h8];exact p10
theorem rs3 {d d3 d4 d5 a1 a2 a3 a4 a5 a6 R a8 ix y10:D}{ra rb rc rk:Int}{x11 x12:SV}(p11:isPar (some x11)=false)(z3:zac [d,.int 5]=some (.told (.int ra),[d3,.non]))(z4:zac [d3,.int 3]=some (.told (.int rb),[d4,.non]))(z5:zac [d4,.int 6]=some (.told (.int rc),[d5,.non]))
 (ek:dIx (.lst [.int 0,.int 0,.int 1,.int 2,.int ra,.int (100000000000000000000000000000000000000000000000000000000000+rb)]) (.int rc)=some (.int rk)) :
 rS3 [.par 1 d,.val a1,.val a2,.val a3,.val a4,.val a5,.val a6,.own 2 R,.val a8,.val ix,.val y10,x11,x12] =
 some (.nx [.par 1 d5,.val a1,.val a2,.val a3,.val a4,.val a5,.val a6,.own 2 R,.val a8,.val ix,.val y10,.val (.int rk),x12]):=by
 have cp:CPow 10 59:=⟨by decide,by decide,by decide⟩
 have h6:6<=lim:=by decide
 simp[VDS,cp,z3,z4,z5,ek,h6];exact p11
theorem rs4 {d d6 a1 a2 a3 a4 sc a6 bxD bb a8 ix y10 y11 nm:D}{rs:List D}{x12:SV}(z6:za6 [d,a4]=some (.told bxD,[d6,.non]))(z7:za2 [bxD,sc]=some bb)(nmix:dIx a3 ix=some nm)(hl:rs.length<lim) :
 rS4 [.par 1 d,.val a1,.val a2,.val a3,.val a4,.val sc,.val a6,.own 2 (.lst rs),.val a8,.val ix,.val y10,.val y11,x12] =
 some (.nx [.par 1 d6,.val a1,.val a2,.val a3,.val a4,.val sc,.val a6,.own 2 (.lst (rs++[.lst [a8,nm,bb,y10,y11,.non]])),.val a8,.val ix,.val y10,.val y11,x12]):=by
 have h6:6<=lim:=by decide
 simp[VDS,z6,z7,nmix,h6,hl]
theorem rs5 {d d7 a1 a2 a3 a4 a5 a6 R a8 y10 y11:D}{k r:Int}{x12:SV}(p12:isPar (some x12)=false)(cm:CMul 3 k)(z8:zac [d,.int (3*k+1)]=some (.told (.int r),[d7,.non])) :
 rS5 [.par 1 d,.val a1,.val a2,.val a3,.val a4,.val a5,.val a6,.own 2 R,.val a8,.val (.int k),.val y10,.val y11,x12] =
 some (.nx [.par 1 d7,.val a1,.val a2,.val a3,.val a4,.val a5,.val a6,.own 2 R,.val a8,.val (.int k),.val y10,.val y11,.val (.int r)]):=by
 simp[VDS,z8,dMul,cm];exact p12
theorem zkU {n j:Nat}(h:j<n):ixN n (j:Int)=some j:=by
 unfold ixN;rw[if_pos (by omega),if_pos (by omega)];rfl
theorem rs6 {d a1 a2 a3 a4 a5 a6 a8 y10 y11 hd:D}{rs:List D}{es:List D}{k r:Int}{ab:List D}{b:Bool}{j:Nat}(hk:k=j)(z9:za4 [.lst rs,.int k]=some (.told (.lst ab),[.lst rs,.non]))(hin:dIn true (.int r) (.lst ab)=some (.bl b))(hd1:r<k->dIx a3 (.int r)=some hd)(hj:rs[j]?=some (.lst es))(hes:es.length=6) :
 rS6 [.par 1 d,.val a1,.val a2,.val a3,.val a4,.val a5,.val a6,.own 2 (.lst rs),.val a8,.val (.int k),.val y10,.val y11,.val (.int r)] =
 some (.nx [.par 1 d,.val a1,.val a2,.val a3,.val a4,.val a5,.val a6,.own 2 (.lst (if r<k/\b=true then rs.set j (.lst (es.set 5 hd)) else rs)),.val a8,.val (.int k),.val y10,.val y11,.val (.int r)]):=by
 by_cases h:r<k
 ·have hjl:j<rs.length:=(wab.mp hj).1
  have i1:ixN rs.length (k:Int)=some j:=by rw[hk];exact zkU hjl
  have i2:ixN es.length (5:Int)=some 5:=zkU (j:=5) (by rw[hes];decide)
  cases b with
  | true=>simp[VDS,h,z9,hin,hd1 h,hj,i1,i2]
  | false=>simp[VDS,h,z9,hin]
 ·simp[VDS,h]
theorem zng {r:Int}{ab:List Nat}:dIn true (.int r) (.lst (ab.map natD))=some (.bl (!decide (D.int r∈ab.map natD))):=by
 show(if zba (.int r)=true/\(ab.map natD).all zba=true then _ else none)=_
 rw[if_pos ⟨rfl,by rw[List.all_map,waF];intro j _;rfl⟩];rfl
theorem zeH {F:List D->Option (RV×List D)}{d a v d':D}{i:Nat}{fe:FE}{ρ:En}(he:fe (.par 1 d::ρ)=some a)(z:F [d,a]=some (.told v,[d',.non]))(hi:i<ρ.length)(hp:isPar (ρ[i]?)=false):gSetX (i+1) (xR (xCallG [some 1,none] 0 0 1 F (agOwn 0 (agX (xE fe) agNil)))) (.par 1 d::ρ)=some (.nx (.par 1 d'::ρ.set i (.val v))):=by
 simp[gSetX,xR,xCallG,agOwn,agX,agNil,agK,xE,ownD,setO,putD,RV.d,he,z,hi];rw[<-waa hi];exact hp
theorem zkV {F:List D->Option (RV×List D)}{d v d':D}{i:Nat}{ρ:En}(z:F [d]=some (.told v,[d']))(hi:i<ρ.length)(hp:isPar (ρ[i]?)=false):gSetX (i+1) (xR (xCallG [some 1] 0 0 1 F (agOwn 0 agNil))) (.par 1 d::ρ)=some (.nx (.par 1 d'::ρ.set i (.val v))):=by
 simp[gSetX,xR,xCallG,agOwn,agX,agNil,agK,xE,ownD,setO,putD,RV.d,z,hi];rw[<-waa hi];exact hp
theorem zkW {d mo m:D}{B:Int}{L:List Row}{ts:List Str}{st fl dp t r n:Int}{x10 x11 x12:SV}{most:Nat}(F:FeedOk d B)(hB:B<=150000)(W:WF L most)(hm:L.length<most)(hmo:most<=200)(hts:L.length<ts.length)(hnd:ts.Nodup)(hsh:∀t∈ts,t.length<=8)(hnm:L.map (·.name)=ts.take L.length)
 (hdp0:L = []->dp = -1) (hdp:∀r',L[L.length - 1]?=some r'->dp=r'.deep) (ht:1<=t) (p10:isPar (some x10)=false) (p11:isPar (some x11)=false) (p12:isPar (some x12)=false) :
 ∃(w:Row) (d':D) (x10' x11' x12':SV),WF (L++[w]) most/\(L++[w]).map (·.name)=ts.take (L.length+1)/\FeedOk d' (B+20)/\isPar (some x10')=false/\isPar (some x11')=false/\isPar (some x12')=false/\
 zc6 [.par 1 d,.val mo,.val m,.val (.lst (ts.map D.str)),.val (.int st),.val (.tup [.int t,.int r,.int n]),.val (.int fl),.own 2 (zaT L),.val (.int dp),.val (.int (L.length:Int)),x10,x11,x12] =
 some (.nx [.par 1 d',.val mo,.val m,.val (.lst (ts.map D.str)),.val (.int st),.val (.tup [.int t,.int r,.int n]),.val (.int fl),.own 2 (zaT (L++[w])),.val (.int (w.deep:Int)),.val (.int (L.length:Int)),x10',x11',x12']):=by
 have hdb:-1<=dp/\dp<=4:=by
  by_cases h:L = []
  ·rw[hdp0 h];omega
  ·have hl:L.length - 1<L.length:=by have:=wbX.mpr h;omega
   have e:=waa hl
   have q:=hdp _ e
   have q2:=W.deep _ (wbJ hl)
   omega
 have hmb:0<(if(5:Int)<dp+2 then 5 else dp+2)/\(if(5:Int)<dp+2 then 5 else dp+2)<=5/\(if(5:Int)<dp+2 then 5 else dp+2)<=dp+2:=by split <;> omega
 generalize hmm:(if(5:Int)<dp+2 then 5 else dp+2)=mm at hmb;obtain⟨q,d1,z1,q0,q1,F1⟩:=zaA (m:=mm) F (by omega) (by omega) (by omega);obtain⟨w8,d2,z2,w0,w1,F2⟩:=zaA (m:=8) F1 (by omega) (by decide) (by decide);obtain⟨wd,ew,hw⟩:=zmD w0 w1;obtain⟨ra,d3,z3,ra0,ra1,F3⟩:=zaA (m:=5) F2 (by omega) (by decide) (by decide);obtain⟨rb,d4,z4,rb0,rb1,F4⟩:=zaA (m:=3) F3 (by omega) (by decide) (by decide);obtain⟨rc,d5,z5,rc0,rc1,F5⟩:=zaA (m:=6) F4 (by omega) (by decide) (by decide);obtain⟨rk,ek,k0⟩:=zmE (a:=ra) (b:=100000000000000000000000000000000000000000000000000000000000+rb) ra0 (by omega) rc0 rc1;obtain⟨bx,by_,bw,bh,d6,z6,hbx,F6⟩:=zp7 (st:=st) F5 (by omega);obtain⟨bb,z7,b1,b2⟩:=zkR (t:=t) (r:=r) (n:=n) hbx ht;have nmix:dIx (.lst (ts.map D.str)) (.int (L.length:Int))=some (.str ts[L.length]):=zat (by rw[wag,waa hts];rfl)
 have hll:L.length<lim:=wbe (waq W.len hmo) (by decide)
 obtain⟨dn,hdn,hdn1,hdn2⟩:∃dn:Nat,q*(if 0<fl then 1 else 0)=(dn:Int)/\(dn:Int)<=dp+1/\dn<=4:=by
  by_cases hf:0<fl
  ·exact⟨q.toNat,by rw[if_pos hf];omega,by omega,by omega⟩
  ·exact⟨0,by rw[if_neg hf];omega,by omega,by omega⟩
 obtain⟨g,d7,z8,g0,g1,F7⟩:=zaA (m:=3*(L.length:Int)+1) F6 (by omega) (by omega) (by omega);have e0:=rs1 (a1:=mo) (a2:=m) (a3:=.lst (ts.map D.str)) (a4:=.int st) (a5:=.tup [.int t,.int r,.int n]) (fl:=fl) (R:=zaT L) (ix:=.int (L.length:Int)) (x10:=x10) (x11:=x11) (x12:=x12) hmm z1
 rw[hdn] at e0;let w0r:Row:=⟨dn,ts[L.length],bb,wd,rk,none⟩
 have hrows:zaT (L++[w0r])=.lst (L.map Row.d++[D.lst [.int (dn:Int),.str ts[L.length],bb.d,.str wd,.int rk,.non]]):=by
  unfold zaT;rw[wap];rfl
 have hlen:(L++[w0r]).length=L.length+1:=by simp
 have z9:=zkT (L:=L++[w0r]) (k:=L.length) (by omega) (by omega)
 rw[hrows] at z9;have cm:CMul 3 (L.length:Int):=.inl ⟨by decide,by decide⟩
 have notin:ts[L.length]∉L.map (·.name):=by
  rw[hnm];intro h;obtain⟨i,hi,e⟩:=List.getElem_of_mem h;rw[wbq] at hi;rw[List.getElem_take] at e;exact wbn.mp hnd i L.length (by omega) hts (by omega) e
 have mk:∀hd:Option Str,(hd=none\/∃j r',j<L.length/\j∉above (L++[(⟨dn,ts[L.length],bb,wd,rk,hd⟩:Row)]) L.length/\L[j]?=some r'/\hd=some r'.name)->WF (L++[(⟨dn,ts[L.length],bb,wd,rk,hd⟩:Row)]) most/\(L++[(⟨dn,ts[L.length],bb,wd,rk,hd⟩:Row)]).map (·.name)=ts.take (L.length+1):=fun hd hh=>by
  refine⟨W.snoc hm notin (hsh _ (wbJ hts)) hdn2 (fun h=>?_) (fun r' hr=>?_) ⟨b1,b2⟩ hw k0 hh,?_⟩
  ·have:=hdp0 h
   show dn=0
   omega
  ·have:=hdp r' hr
   show dn<=r'.deep+1
   omega
  ·rw[wap,hnm,List.take_succ,waa hts];rfl
 have run:∀(hd:D) (b:Bool),dIn true (.int g) (.lst ((above (L++[w0r]) L.length).map natD))=some (.bl b)->(g<(L.length:Int)->dIx (.lst (ts.map D.str)) (.int g)=some hd)->
  zc6 [.par 1 d,.val mo,.val m,.val (.lst (ts.map D.str)),.val (.int st),.val (.tup [.int t,.int r,.int n]),.val (.int fl),.own 2 (zaT L),.val (.int dp),.val (.int (L.length:Int)),x10,x11,x12] =
  some (.nx [.par 1 d7,.val mo,.val m,.val (.lst (ts.map D.str)),.val (.int st),.val (.tup [.int t,.int r,.int n]),.val (.int fl),.own 2 (.lst (if g<(L.length:Int)/\b=true then(L.map Row.d++[D.lst [.int (dn:Int),.str ts[L.length],bb.d,.str wd,.int rk,.non]]).set L.length (D.lst (List.set (α:=D) [.int (dn:Int),.str ts[L.length],bb.d,.str wd,.int rk,.non] 5 hd)) else(L.map Row.d++[D.lst [.int (dn:Int),.str ts[L.length],bb.d,.str wd,.int rk,.non]]))),.val (.int (dn:Int)),.val (.int (L.length:Int)),.val (.str wd),.val (.int rk),.val (.int g)]):=fun hd b hin hd1=>by
  unfold zc6;rw[zaI e0,zaI (rs2 p10 z2 ew),zaI (rs3 p11 z3 z4 z5 ek)];unfold zaT;rw[zaI (rs4 z6 z7 nmix (by rw[wao];exact hll)),zaI (rs5 p12 cm z8)];exact rs6 rfl z9 hin hd1 (by rw[waI (by rw[wao];exact wae _),wao,Nat.sub_self];rfl) rfl
 have setl:∀(es es':D),(L.map Row.d++[es]).set L.length es'=L.map Row.d++[es']:=fun es es'=>by
  rw[List.set_append_right _ _ (by rw[wao];exact wae _),wao,Nat.sub_self];rfl
 by_cases hg:g<(L.length:Int)
 ·obtain⟨j,rfl⟩:∃j:Nat,g=j:=⟨g.toNat,by omega⟩
  have hj:j<L.length:=by omega
  have hjt:j<ts.length:=by omega
  have hix:dIx (.lst (ts.map D.str)) (.int (j:Int))=some (.str ts[j]):=zat (by rw[wag,waa hjt];rfl)
  have hnj:L[j].name=ts[j]:=by
   have h1:(L.map (·.name))[j]?=some L[j].name:=by rw[wag,waa hj];rfl
   rw[hnm,List.getElem?_take_of_lt hj,waa hjt] at h1;exact(wau h1).symm
  have rn:=run (.str ts[j]) _ zng (fun _=>hix)
  by_cases hin:D.int (j:Int)∈(above (L++[w0r]) L.length).map natD
  ·obtain⟨a,b⟩:=mk none (.inl rfl);refine⟨_,d7,.val (.str wd),.val (.int rk),.val (.int (j:Int)),a,b,F7.mono (by omega),rfl,rfl,rfl,?_⟩;rw[rn];rw[if_neg (by simp[hin])];rw[<-hrows]
  ·have hnot:j∉above (L++[w0r]) L.length:=fun h=>hin (waN.mpr ⟨j,h,rfl⟩)
   obtain⟨a,b⟩:=mk (some ts[j]) (.inr ⟨j,L[j],hj,by rw[zi8 L ⟨dn,ts[L.length],bb,wd,rk,some ts[j]⟩ w0r rfl];exact hnot,waa hj,by rw[hnj]⟩);refine⟨_,d7,.val (.str wd),.val (.int rk),.val (.int (j:Int)),a,b,F7.mono (by omega),rfl,rfl,rfl,?_⟩;rw[rn];rw[if_pos ⟨hg,by simp[hin]⟩,setl];unfold zaT;rw[wap];rfl
 ·obtain⟨a,b⟩:=mk none (.inl rfl);refine⟨_,d7,.val (.str wd),.val (.int rk),.val (.int g),a,b,F7.mono (by omega),rfl,rfl,rfl,?_⟩;rw[run .non _ zng (fun h=>absurd h hg),if_neg (fun h=>hg h.1),<-hrows]
theorem zoD {d:D}{B:Int}{most:Nat}(F:FeedOk d B)(hB:B<=100000)(hmo:most<=26):∃(L:List Row) (d':D),zbA [d,.int (most:Int)]=some (.told (zaT L),[d',.non])/\WF L most/\FeedOk d' (B+2000):=by
 obtain⟨m,d1,z1,m0,m1,F1⟩:=zaA (m:=(most:Int)+1) F (by omega) (by omega) (by omega);obtain⟨m,rfl⟩:∃k:Nat,m=k:=⟨m.toNat,by omega⟩
 obtain⟨ts,d2,z2,hl,hnd,hsh,F2⟩:=zmC (m:=m) F1 (by omega) (by omega);obtain⟨st,d3,z3,_,_,F3⟩:=zaA (m:=4) F2 (by omega) (by decide) (by decide);obtain⟨t,r,n,d4,z4,ht,F4⟩:=zmB F3 (by omega);obtain⟨fl,d5,z5,_,_,F5⟩:=zaA (m:=3) F4 (by omega) (by decide) (by decide);have loop:=zcn (tg:=gN 9) (b:=zc6) (ds:=zaN 0 m)
  (fun i ρ=>∃(L:List Row) (dp:Int) (d':D) (x9 x10 x11 x12:SV),ρ = [.par 1 d',.val (.int (most:Int)),.val (.int (m:Int)),.val (.lst (ts.map D.str)),.val (.int st),.val (.tup [.int t,.int r,.int n]),.val (.int fl),.own 2 (zaT L),.val (.int dp),x9,x10,x11,x12]/\WF L most/\L.length=i/\L.map (·.name)=ts.take i/\FeedOk d' (B+200+20*i)/\
   (L = []->dp = -1)/\(∀r',L[L.length - 1]?=some r'->dp=r'.deep)/\isPar (some x9)=false/\isPar (some x10)=false/\isPar (some x11)=false/\isPar (some x12)=false)
  (ρ:=[.par 1 d5,.val (.int (most:Int)),.val (.int (m:Int)),.val (.lst (ts.map D.str)),.val (.int st),.val (.tup [.int t,.int r,.int n]),.val (.int fl),.own 2 (zaT []),.val (.int (-1)),.un,.un,.un,.un])
  ⟨[],-1,d5,.un,.un,.un,.un,rfl,WF.nil most,rfl,rfl,F5.mono (by omega),fun _=>rfl,fun r' h=>by simp at h,rfl,rfl,rfl,rfl⟩ (fun i x ρ hx h=>by
   obtain⟨hi,rfl⟩:=zbQ hx;obtain⟨L,dp,d',x9,x10,x11,x12,rfl,W,hL,hn,F',h0,h1,p9,p10,p11,p12⟩:=h;subst hL;obtain⟨w,d'',y10,y11,y12,W',hn',F'',s10,s11,s12,e⟩:=zkW (mo:=.int (most:Int)) (m:=.int (m:Int)) (st:=st) (fl:=fl) (r:=r) (n:=n) F' (by omega) W (by omega) (by omega) (by omega) hnd hsh hn h0 h1 ht p10 p11 p12;refine⟨_,_,by simp[gN];exact p9,e,L++[w],w.deep,d'',_,y10,y11,y12,rfl,W',by simp,hn',F''.mono (by omega),fun h=>by simp at h,fun r' hr=>?_,rfl,s10,s11,s12⟩;rw[wam,wct,Nat.add_sub_cancel,waI (wae _),Nat.sub_self] at hr;cases hr;rfl)
 obtain⟨ρ',e,L,dp,d',x9,x10,x11,x12,rfl,W,hL,_,F',_⟩:=loop;rw[zco] at hL F';refine⟨L,d',?_,W,F'.mono (by omega)⟩;have hm1:-1000000<=(m:Int)/\(m:Int)<=1000000:=by omega
 simp only[zaT] at e⊢;have e':forL (gN 9) zc6 (zaN 0 m) [.par 1 d5,.val (.int (most:Int)),.val (.int (m:Int)),.val (.lst (ts.map D.str)),.val (.int st),.val (.tup [.int t,.int r,.int n]),.val (.int fl),.own 2 (.lst []),.val (.int (-1)),.un,.un,.un,.un]=_:=e
 unfold zbA;show outG _ (gSeq _ _ [.par 1 d,.val (.int (most:Int)),.un,.un,.un,.un,.un,.un,.un,.un,.un,.un,.un])=_
 rw[zaI (zeH (i:=1) rfl z1 (by simp) rfl)];show outG _ (gSeq _ _ [.par 1 d1,.val (.int (most:Int)),.val (.int (m:Int)),.un,.un,.un,.un,.un,.un,.un,.un,.un,.un])=_
 rw[zaI (zeH (i:=2) rfl z2 (by simp) rfl)];show outG _ (gSeq _ _ [.par 1 d2,.val (.int (most:Int)),.val (.int (m:Int)),.val (.lst (ts.map D.str)),.un,.un,.un,.un,.un,.un,.un,.un,.un])=_
 rw[zaI (zeH (i:=3) rfl z3 (by simp) rfl)];show outG _ (gSeq _ _ [.par 1 d3,.val (.int (most:Int)),.val (.int (m:Int)),.val (.lst (ts.map D.str)),.val (.int st),.un,.un,.un,.un,.un,.un,.un,.un])=_
 rw[zaI (zkV (i:=4) z4 (by simp) rfl)];show outG _ (gSeq _ _ [.par 1 d4,.val (.int (most:Int)),.val (.int (m:Int)),.val (.lst (ts.map D.str)),.val (.int st),.val (.tup [.int t,.int r,.int n]),.un,.un,.un,.un,.un,.un,.un])=_
 rw[zaI (zeH (i:=5) rfl z5 (by simp) rfl)];show outG _ (gSeq _ _ [.par 1 d5,.val (.int (most:Int)),.val (.int (m:Int)),.val (.lst (ts.map D.str)),.val (.int st),.val (.tup [.int t,.int r,.int n]),.val (.int fl),.un,.un,.un,.un,.un,.un])=_
 rw[zaI (ρ':=[.par 1 d5,.val (.int (most:Int)),.val (.int (m:Int)),.val (.lst (ts.map D.str)),.val (.int st),.val (.tup [.int t,.int r,.int n]),.val (.int fl),.own 2 (.lst []),.un,.un,.un,.un,.un]) rfl,
  zaI (ρ':=[.par 1 d5,.val (.int (most:Int)),.val (.int (m:Int)),.val (.lst (ts.map D.str)),.val (.int st),.val (.tup [.int t,.int r,.int n]),.val (.int fl),.own 2 (.lst []),.val (.int (-1)),.un,.un,.un,.un]) rfl]
 rw[zaI (by
  show(aRng1 (aCons (eVar 2) aNil) _).bind (fun ds=>forL (gN 9) zc6 ds _)=_
  simp only[aRng1,aCons,aNil,eVar,waX,List.getElem?_cons_zero,zOB,a1Int,if_pos hm1,wcm];exact e')]
 simp[gFrz,frzE,gRet,eVar,outG,outSl]
theorem zmF {xs:List D}{i j:Nat}(hi:i<=j)(hj:j<=xs.length):VD.cut xs (some (i:Int)) (some (j:Int))=(xs.drop i).take (j - i):=by
 unfold VD.cut;rw[HT.sIx_nat,HT.sIx_nat,Nat.min_eq_left hj,Nat.min_eq_left (by omega)]
abbrev hC1:FT:=t1 (e2 dLt (eRd 3) (eCall bLen (aCons (eRd 0) aNil)))
abbrev hC2:FT:=tAndF (t1 (e2 dLt (eRd 4) (eCall bLen (aCons (eRd 0) aNil)))) (t1 (e2 dGt (e2 dIx (e2 dIx (eRd 0) (eRd 4)) (eK (.int 0))) (eRd 1)))
abbrev hB2:FS:=gSet 4 (e2 dAdd (eRd 4) (eK (.int 1)))
abbrev hA (self:List D->Option D):FS:=gApp 2 (e2 dAdd (eCall bTuple (aCons (eSl (e2 dIx (eRd 0) (eRd 3)) (oS (eK (.int 1))) oN) aNil)) (eTup (aCons (eCall self (aCons (eSl (eRd 0) (oS (e2 dAdd (eRd 3) (eK (.int 1)))) (oS (eVar 4))) (aCons (e2 dAdd (eRd 1) (eK (.int 1))) aNil))) aNil)))
theorem hc1 {M:List Row}{d k:Int}{p x4:SV}(hM:M.length<=1000):hC1 [.val (zaT M),.val (.int d),p,.val (.int k),x4]=some (decide (k<(M.length:Int))):=by
 have hl:M.length<=lim:=waq hM (by decide)
 simp[VDS,hC1,zaT,hl]
theorem hc2 {M:List Row}{d:Nat}{e:Nat}{p x3:SV}(hM:M.length<=1000):∃b,hC2 [.val (zaT M),.val (.int (d:Int)),p,x3,.val (.int (e:Int))]=some b/\(b=true↔∃r,M[e]?=some r/\d<r.deep):=by
 have hl:M.length<=lim:=waq hM (by decide)
 by_cases he:e<M.length
 ·have h:=zfb (waa he)
  have h0:=zkH M[e]
  refine⟨decide (d<M[e].deep),?_,by rw[waa he];simp⟩;simp only[zaT] at h⊢;simp[VDS,hC2,hl,he,h,h0]
 ·refine⟨false,?_,by rw[waG (by omega)];simp⟩;simp[VDS,hC2,zaT,hl,he]
theorem hb2 {R dD:D}{p x3:SV}{e:Int}:hB2 [.val R,.val dD,p,x3,.val (.int e)]=some (.nx [.val R,.val dD,p,x3,.val (.int (e+1))]):=by
 simp[VDS,hB2]
theorem ha {self:List D->Option D}{a b c d f:D}{x0:D}{rs ts rs2 us:List D}{k e dd:Int}(h:dIx (.lst rs) (.int k)=some (.lst [x0,a,b,c,d,f]))(hcut:VD.cut rs (some (k+1)) (some e)=rs2)(hs:self [.lst rs2,.int (dd+1)]=some (.tup us))(hl:ts.length<lim) :
 hA self [.val (.lst rs),.val (.int dd),.own 1 (.lst ts),.val (.int k),.val (.int e)]=some (.nx [.val (.lst rs),.val (.int dd),.own 1 (.lst (ts++[.tup [a,b,c,d,f,.tup us]])),.val (.int k),.val (.int e)]):=by
 have c1:VD.cut [x0,a,b,c,d,f] (some 1) none = [a,b,c,d,f]:=rfl
 have h6:6<=lim:=by decide
 have h1:1<=lim:=by decide
 simp[VDS,hA,dSl,h,hcut,hs,hl,c1,h6,h1]
def muK (n:Nat):En->Nat
 | [_,_,_,.val (.int k),_]=>n - k.toNat
 | _=>0
def muE (n:Nat):En->Nat
 | [_,_,_,_,.val (.int k)]=>n - k.toNat
 | _=>0
theorem zhj {self:List D->Option D}{c d:Nat}{M:List Row}(S:Seg d M)(hc:M≠[]->∃c',c=c'+1/\∀M',Seg (d+1) M'->∃ts,self [zaT M',.int ((d:Int)+1)]=some (.tup (ts.map Tr.d))/\Fits c' ts/\ze6 M' (zbs c' (d+1) ts)) :
 ∃ts:List Tr,zcF self [zaT M,.int (d:Int)]=some (.tup (ts.map Tr.d))/\Fits c ts/\ze6 M (zbs c d ts):=by
 have few:=S.few
 have loop:=zd3 (c:=hC1) (b:=gSeq (gSet 4 (e2 dAdd (eRd 3) (eK (.int 1)))) (gSeq (gWhile hC2 hB2 (fun _=>1000)) (gSeq (hA self) (gSet 3 (eVar 4)))))
  (fun ρ=>∃(k:Nat) (ts:List Tr) (x4:SV),ρ = [.val (zaT M),.val (.int (d:Int)),.own 1 (.lst (ts.map Tr.d)),.val (.int (k:Int)),x4]/\k<=M.length/\(∀r,M[k]?=some r->r.deep=d)/\ts.length<=k/\Fits c ts/\ze6 (M.take k) (zbs c d ts)/\isPar (some x4)=false)
  (muK M.length) (by
   rintro ρ ⟨k,ts,x4,rfl,_⟩;exact⟨_,hc1 (by omega)⟩) (by
   rintro ρ ⟨k,ts,x4,rfl,hk,hkd,htl,fit,mat,p4⟩ ht;rw[hc1 (by omega)] at ht;have hkl:k<M.length:=by have:=wbk (wau ht);omega
   have hrow:M[k]?=some M[k]:=waa hkl
   have hdk:=hkd _ hrow
   obtain⟨c',rfl,hself⟩:=hc (fun h=>by rw[h] at hkl;simp at hkl);have in_:=zd3 (c:=hC2) (b:=hB2) (fun ρ=>∃e:Nat,k<e/\e<=M.length/\(∀j x,k<j->j<e->M[j]?=some x->d<x.deep)/\ρ = [.val (zaT M),.val (.int (d:Int)),.own 1 (.lst (ts.map Tr.d)),.val (.int (k:Int)),.val (.int (e:Int))]) (muE M.length) (by
    rintro ρ ⟨e,_,_,_,rfl⟩;obtain⟨b,hb,_⟩:=hc2 (M:=M) (d:=d) (e:=e) (by omega);exact⟨b,hb⟩) (by
    rintro ρ ⟨e,h1,h2,h3,rfl⟩ ht;obtain⟨b,hb,hb2'⟩:=hc2 (M:=M) (d:=d) (e:=e) (p:=.own 1 (.lst (ts.map Tr.d))) (x3:=.val (.int (k:Int))) (by omega);rw[hb] at ht;obtain⟨r,hr,hd⟩:=hb2'.mp (wau ht);have hel:=(wab.mp hr).1
    refine⟨_,hb2,⟨e+1,by omega,by omega,fun j x j1 j2 hx=>?_,rfl⟩,?_⟩
    ·by_cases hj:j<e
     ·exact h3 j x j1 hj hx
     ·have:j=e:=by omega
      subst this;rw[hr] at hx;cases hx;exact hd
    ·show M.length - ((e:Int)+1).toNat<M.length - ((e:Int)).toNat
     omega) 1000 (ρ:=[.val (zaT M),.val (.int (d:Int)),.own 1 (.lst (ts.map Tr.d)),.val (.int (k:Int)),.val (.int ((k+1:Nat):Int))]) ⟨k+1,by omega,by omega,fun j x j1 j2=>by omega,rfl⟩ (by
     show M.length - (((k+1:Nat):Int)).toNat<1000
     omega)
   obtain⟨ρ',ew,⟨e,h1,h2,h3,rfl⟩,hex⟩:=in_;have hle:∀r,M[e]?=some r->r.deep<=d:=fun r hr=>by
    obtain⟨b,hb,hb2'⟩:=hc2 (M:=M) (d:=d) (e:=e) (p:=.own 1 (.lst (ts.map Tr.d))) (x3:=.val (.int (k:Int))) (by omega);rw[hb] at hex;have:b=false:=wau hex
    subst this;by_cases q:d<r.deep
    ·exact absurd (hb2'.mpr ⟨r,hr,q⟩) (by decide)
    ·omega
   obtain⟨us,eu,fitu,matu⟩:=hself _ (S.inner hrow hdk h3);have hrk:=zfb hrow
   have hcut:VD.cut (M.map Row.d) (some ((k:Int)+1)) (some (e:Int))=((M.drop (k+1)).take (e - (k+1))).map Row.d:=by
    rw[show((k:Int)+1)=((k+1:Nat):Int) from rfl,zmF (by omega) (by rw[wao];exact h2),List.map_take,List.map_drop]
   have ea:=ha (self:=self) (ts:=ts.map Tr.d) (dd:=(d:Int)) hrk hcut eu (by rw[wao];exact wbe (waq htl (waq hk few)) (by decide))
   refine⟨[.val (zaT M),.val (.int (d:Int)),.own 1 (.lst ((ts++[Tr.mk M[k].name M[k].box M[k].word M[k].rank M[k].head us]).map Tr.d)),.val (.int (e:Int)),.val (.int (e:Int))],?_,⟨e,_,_,rfl,h2,fun r hr=>?_,by rw[wam];simp;omega,?_,?_,rfl⟩,?_⟩
   ·rw[zaI (ρ':=[.val (zaT M),.val (.int (d:Int)),.own 1 (.lst (ts.map Tr.d)),.val (.int (k:Int)),.val (.int ((k+1:Nat):Int))]) (by simp[gSet,e2,eRd,eK,dAdd];exact p4)];rw[zaI (show gWhile hC2 hB2 (fun _=>1000) _=_ from ew)];show gSeq (hA self) (gSet 3 (eVar 4)) [.val (.lst (M.map Row.d)),.val (.int (d:Int)),.own 1 (.lst (ts.map Tr.d)),.val (.int (k:Int)),.val (.int (e:Int))]=_
    rw[zaI ea];have em:(ts.map Tr.d++[.tup [.str M[k].name,M[k].box.d,.str M[k].word,.int M[k].rank,zmr M[k].head,.tup (us.map Tr.d)]])=(ts++[Tr.mk M[k].name M[k].box M[k].word M[k].rank M[k].head us]).map Tr.d:=by
     rw[wap,List.map_singleton,Tr.d_eq];rfl
    rw[em];simp[gSet,eVar,isPar,zaT]
   ·have q1:=hle r hr
    have q2:=(S.low r (wal hr)).1
    omega
   ·intro t ht;rcases waC.mp ht with ht | ht
    ·exact fit t ht
    ·rw[waf.mp ht];exact fitu
   ·rw[zi9 hrow h1,zek,zbe,zcl,waJ];exact Sh.Paired.app mat (.cons ⟨hdk.symm,rfl,rfl,rfl,rfl,rfl⟩ matu)
   ·show M.length - ((e:Int)).toNat<M.length - ((k:Int)).toNat
    omega) 1000 (ρ:=[.val (zaT M),.val (.int (d:Int)),.own 1 (.lst []),.val (.int 0),.un]) ⟨0,[],.un,rfl,wbj _,S.first,wae _,(by cases c <;> simp[GM.Fits]),(by rw[zcl];exact .nil),rfl⟩ (by
    show M.length - ((0:Int)).toNat<1000
    omega)
 obtain⟨ρ',e,⟨k,ts,x4,rfl,hk,_,_,fit,mat,_⟩,hex⟩:=loop;rw[hc1 (by omega)] at hex;have hkl:k=M.length:=by have:=of_decide_eq_false (wau hex);omega
 subst hkl;rw[List.take_length] at mat
 refine⟨ts,?_,fit,mat⟩;show outF (gSeq (gOwn 2 (aMk aNil)) (gSeq (gSet 3 (eK (.int 0))) (gSeq (gWhile hC1 _ _) (gRet (eCall bTuple (aCons (eRd 2) aNil))))) [.val (zaT M),.val (.int (d:Int)),.un,.un,.un])=_
 rw[zaI (ρ':=[.val (zaT M),.val (.int (d:Int)),.own 1 (.lst []),.un,.un]) rfl,zaI (ρ':=[.val (zaT M),.val (.int (d:Int)),.own 1 (.lst []),.val (.int 0),.un]) rfl,zaI (show gWhile hC1 (gSeq (gSet 4 (e2 dAdd (eRd 3) (eK (.int 1)))) (gSeq (gWhile hC2 hB2 fun _=>1000) (gSeq (hA self) (gSet 3 (eVar 4))))) (fun _=>1000) [.val (zaT M),.val (.int (d:Int)),.own 1 (.lst []),.val (.int 0),.un]=_ from e)];rfl
theorem zkX:∀(c n d:Nat) (M:List Row),d+c=5->c+1<=n->Seg d M->∃ts:List Tr,zbj n [zaT M,.int (d:Int)]=some (.tup (ts.map Tr.d))/\Fits c ts/\ze6 M (zbs c d ts)
 | c,0,d,M,_,h,_=>absurd h (by omega)
 | 0,n+1,d,M,h1,h2,S=>zhj S (fun hne=>by
  obtain⟨r,hr⟩:=List.exists_mem_of_ne_nil M hne;have:=S.low r hr
  omega)
 | c+1,n+1,d,M,h1,h2,S=>zhj S (fun _=>⟨c,rfl,fun M' S'=>zkX c n (d+1) M' (by omega) (by omega) S'⟩)
theorem Seg.ofWF {L:List Row}{most:Nat}(W:WF L most)(hm:most<=200):Seg 0 L:=⟨waq W.len hm,fun r hr=>⟨wbj _,W.deep r hr⟩,W.first,W.step⟩
theorem zoE {L:List Row}{most:Nat}(W:WF L most)(hm:most<=200):∃ts:List Tr,zbj 8 [zaT L,.int 0]=some (.tup (ts.map Tr.d))/\On ts L:=by
 obtain⟨ts,e,f,m⟩:=zkX 5 8 0 L rfl (by decide) (Seg.ofWF W hm);exact⟨ts,e,f,m,W.names⟩
def pD (p:List Int×Tr):D:=.tup [.tup (p.1.map D.int),p.2.d]
theorem tr_0 (t:Tr):dIx t.d (.int 0)=some (.str t.name):=by rw[Tr.d_eq];exact zat (j:=0) rfl
theorem tr_2 (t:Tr):dIx t.d (.int 2)=some (.str t.word):=by rw[Tr.d_eq];exact zat (j:=2) rfl
theorem tr_5 (t:Tr):dIx t.d (.int 5)=some (.tup (t.parts.map Tr.d)):=by rw[Tr.d_eq];exact zat (j:=5) rfl
theorem zfk {tg:FG}{b:FS}{v:RV}:∀{ds:List D}(I:En->Prop) {ρ:En},I ρ->∀{k:Nat}{d:D},ds[k]?=some d->(∀i x ρ,i<k->ds[i]?=some x->I ρ->∃ρ1 ρ2,tg x ρ=some ρ1/\b ρ1=some (.nx ρ2)/\I ρ2)->(∀ρ,I ρ->∃ρ1 ρ2,tg d ρ=some ρ1/\b ρ1=some (.ret v ρ2))->∃ρ',forL tg b ds ρ=some (.ret v ρ')
 | [],I,ρ,h0,k,d,hk,_,_=>by simp at hk
 | x::ds,I,ρ,h0,0,d,hk,_,h2=>by
   have:x=d:=by simpa using hk
   subst this;obtain⟨ρ1,ρ2,a,c⟩:=h2 ρ h0;refine⟨ρ2,?_⟩;show((tg x ρ).bind fun ρ1=>(b ρ1).bind fun o=>_)=_
   rw[a,zOB,c,zOB]
 | x::ds,I,ρ,h0,k+1,d,hk,h1,h2=>by
   obtain⟨ρ1,ρ2,a,c,hI⟩:=h1 0 x ρ (by omega) rfl h0;obtain⟨ρ',e⟩:=zfk (ds:=ds) I hI (k:=k) (d:=d) (by simpa using hk) (fun i y ρ hi hy h=>h1 (i+1) y ρ (by omega) (by simpa using hy) h) h2;refine⟨ρ',?_⟩;show((tg x ρ).bind fun ρ1=>(b ρ1).bind fun o=>_)=_
   rw[a,zOB,c,zOB];exact e
theorem zgm {i:Nat}{d:D}{ρ:En}(hi:i<ρ.length)(hp:isPar (ρ[i]?)=false):gN i d ρ=some (ρ.set i (.val d)):=by unfold gN;rw[if_pos ⟨hi,hp⟩]
theorem gT34 {a b:D}{s0 s1 s2 x3 x4 x5:SV}(p3:isPar (some x3)=false)(p4:isPar (some x4)=false):gT 2 (gCons' (gN 3) (gCons' (gN 4) gNil')) (.tup [a,b]) [s0,s1,s2,x3,x4,x5]=some [s0,s1,s2,.val a,.val b,x5]:=by
 show((gN 3 a [s0,s1,s2,x3,x4,x5]).bind fun ρ1=>(gN 4 b ρ1).bind fun ρ2=>gNil' [] ρ2)=_
 rw[zgm (by simp) (by simpa using p3),zOB,zgm (by simp) (by simpa using p4)];rfl
theorem gT23 {a b:D}{s0 s1 x3 x4:SV}(p3:isPar (some x3)=false)(p4:isPar (some x4)=false):gT 2 (gCons' (gN 2) (gCons' (gN 3) gNil')) (.tup [a,b]) [s0,s1,x3,x4]=some [s0,s1,.val a,.val b]:=by
 show((gN 2 a [s0,s1,x3,x4]).bind fun ρ1=>(gN 3 b ρ1).bind fun ρ2=>gNil' [] ρ2)=_
 rw[zgm (by simp) (by simpa using p3),zOB,zgm (by simp) (by simpa using p4)];rfl
abbrev plB (self:List D->Option D):FS:=gSeq (gSet 5 (e2 dAdd (eRd 1) (eTup (aCons (eVar 3) aNil)))) (gSeq (gApp 2 (eTup (aCons (eVar 5) (aCons (eVar 4) aNil)))) (gExt 2 (eCall self (aCons (e2 dIx (eRd 4) (eK (.int 5))) (aCons (eVar 5) aNil)))))
theorem zoF {self:List D->Option D}{T t ps:D}{os fs ws:List D}{i:Int}{x3 x4 x5:SV}(hp:dIx t (.int 5)=some ps)(hs:self [ps,.tup (os++[.int i])]=some (.lst ws))(ho:os.length<100)(hl:fs.length+1+ws.length<=100000)(p5:isPar (some x5)=false) :
 plB self [.val T,.val (.tup os),.own 1 (.lst fs),.val (.int i),.val t,x5]=some (.nx [.val T,.val (.tup os),.own 1 (.lst (fs++.tup [.tup (os++[.int i]),t]::ws)),.val (.int i),.val t,.val (.tup (os++[.int i]))]):=by
 have h1:1<=lim:=by decide
 have h2:2<=lim:=by decide
 have h3:os.length+1<=lim:=waq (by omega:os.length+1<=100) (by decide)
 have h4:fs.length<lim:=wan (by omega:fs.length<100000) (by decide)
 have h5:fs.length+(ws.length+1)<=lim:=waq (by omega:fs.length+(ws.length+1)<=100000) (by decide)
 have h6:fs.length+1+ws.length<=lim:=waq hl (by decide)
 have p5':(match some x5 with | some (SV.par n d)=>true | x=>false)=false:=p5
 unfold plB;rw[zaI (ρ':=[.val T,.val (.tup os),.own 1 (.lst fs),.val (.int i),.val t,.val (.tup (os++[.int i]))]) (by simp[gSet,e2,eRd,eTup,aCons,aNil,eVar,dAdd,mkT,h1,h3];exact p5)];simp[VDS,hp,hs,h1,h2,h4,h5,h6]
theorem zhk:∀(c n:Nat) (ts:List Tr) (o:List Int),GM.Fits c ts->c<n->(zaU c o 0 ts).length<=1000->o.length+c<=50->zaw n [.tup (ts.map Tr.d),.tup (o.map D.int)]=some (.lst ((zaU c o 0 ts).map pD))
 | c,0,_,_,_,h,_,_=>absurd h (by omega)
 | c,n+1,ts,o,fit,hn,hlen,ho=>by
   have loop:=zcn (tg:=gT 2 (gCons' (gN 3) (gCons' (gN 4) gNil'))) (b:=plB (zaw n)) (ds:=zen (ts.map Tr.d))
    (fun i ρ=>∃x3 x4 x5:SV,ρ = [.val (.tup (ts.map Tr.d)),.val (.tup (o.map D.int)),.own 1 (.lst ((zaU c o 0 (ts.take i)).map pD)),x3,x4,x5]/\isPar (some x3)=false/\isPar (some x4)=false/\isPar (some x5)=false)
    (ρ:=[.val (.tup (ts.map Tr.d)),.val (.tup (o.map D.int)),.own 1 (.lst []),.un,.un,.un]) ⟨.un,.un,.un,by rw[List.take_zero,zc3];rfl,rfl,rfl,rfl⟩ (fun i x ρ hx h=>by
     obtain⟨y,hy,rfl⟩:=zdx hx;rw[wag] at hy;obtain⟨t,ht,rfl⟩:=wbh.mp hy;obtain⟨x3,x4,x5,rfl,p3,p4,p5⟩:=h;have hi:=(wab.mp ht).1
     cases c with
     | zero=>rw[show ts = [] from fit] at hi;simp at hi
     | succ c=>
       have etake:ts.take (i+1)=ts.take i++[t]:=by rw[List.take_succ,ht];rfl
       have hl2:(ts.take i).length=i:=by rw[wbq];omega
       have epl:zaU (c+1) o 0 (ts.take (i+1))=zaU (c+1) o 0 (ts.take i)++(o++[(i:Int)],t)::zaU c (o++[(i:Int)]) 0 t.parts:=by
        rw[etake,zcy,wbf,hl2,zcx,zc3,waJ]
       have hle:(zaU (c+1) o 0 (ts.take (i+1))).length<=(zaU (c+1) o 0 ts).length:=by
        conv=>rhs;rw[<-List.take_append_drop (i+1) ts,zcy,wam]
        omega
       rw[epl] at hle;simp only[wam,waS] at hle;have ih:=zhk c n t.parts (o++[(i:Int)]) (fit t (wal ht)) (by omega) (by omega) (by simp;omega)
       rw[wap] at ih;refine⟨[.val (.tup (ts.map Tr.d)),.val (.tup (o.map D.int)),.own 1 (.lst ((zaU (c+1) o 0 (ts.take i)).map pD)),.val (.int (i:Int)),.val t.d,x5],_,?_,zoF (x3:=.un) (x4:=.un) (tr_5 t) ih (by rw[wao];omega) (by rw[wao,wao];omega) p5,.val (.int (i:Int)),.val t.d,.val (.tup (o.map D.int++[.int (i:Int)])),?_,rfl,rfl,rfl⟩
       ·exact gT34 p3 p4
       ·rw[epl,wap];simp[pD])
   obtain⟨ρ',e,x3,x4,x5,rfl,_⟩:=loop;rw[zb3,wao,List.take_length] at e;show outF (gSeq (gOwn 2 (aMk aNil)) (gSeq (gFor (aEnum (aCons (eVar 0) aNil)) _ (plB (zaw n))) (gFrz 2 (gRet (eVar 2)))) [.val (.tup (ts.map Tr.d)),.val (.tup (o.map D.int)),.un,.un,.un,.un])=_
   rw[zaI (ρ':=[.val (.tup (ts.map Tr.d)),.val (.tup (o.map D.int)),.own 1 (.lst []),.un,.un,.un]) rfl,zaI (show gFor (aEnum (aCons (eVar 0) aNil)) (gT 2 (gCons' (gN 3) (gCons' (gN 4) gNil'))) (plB (zaw n)) [.val (.tup (ts.map Tr.d)),.val (.tup (o.map D.int)),.own 1 (.lst []),.un,.un,.un]=_ from e)];rfl
section
variable {ts:List Tr}{L:List Row}
theorem zcV (O:On ts L)(hL:L.length<=200):zaF [.tup (ts.map Tr.d)]=some (.lst ((zaU 5 [] 0 ts).map pD)):=by
 have hl:(zaU 5 [] 0 ts).length<=1000:=by rw[<-zcz,wao,O.len];omega
 have h:=zhk 5 8 ts [] O.fits (by decide) hl (by decide)
 show outF ((zaw 8 [.tup (ts.map Tr.d),.tup []]).bind fun d=>some (.ret (.told d) _))=_
 rw[show zaw 8 [.tup (ts.map Tr.d),.tup []]=_ from h];rfl
theorem zh7 (O:On ts L)(hL:L.length<=200):zby [.tup (ts.map Tr.d)]=some (.lst ((psOf ts).map fun e=>e.t.d)):=by
 have h:=zcV O hL
 have hl:(psOf ts).length<=lim:=by rw[O.len];exact waq hL (by decide)
 have hc:=zfa (f:=zbC (zb0 [.val (.tup (ts.map Tr.d))] [none,none]) (gT 2 (gCons' (gN 0) (gCons' (gN 1) gNil'))) tTrue (eVar 1)) (g:=fun d=>match d with | .tup [_,x]=>x | _=>.non) (ds:=(zaU 5 [] 0 ts).map pD) (by
  intro d hd;obtain⟨p,_,rfl⟩:=waN.mp hd;rfl)
 show outF (((((zaF [.tup (ts.map Tr.d)]).bind dSeq).bind fun ds=>(zeo (zbC _ _ _ _) ds).bind fun out=>if out.length<=lim then some out else none).bind fun l=>some (.lst l)).bind fun d=>some (.ret (.told d) _))=_
 rw[h,zOB];show outF ((((zeo (zbC (zb0 [.val (.tup (ts.map Tr.d))] [none,none]) (gT 2 (gCons' (gN 0) (gCons' (gN 1) gNil'))) tTrue (eVar 1)) ((zaU 5 [] 0 ts).map pD)).bind fun out=>if out.length<=lim then some out else none).bind fun l=>some (.lst l)).bind fun d=>some (.ret (.told d) _))=_
 rw[hc,zOB,waM,<-zcz,waM,if_pos (by rw[wao];exact hl)];rfl
theorem zhl (O:On ts L){j k:Nat}{e e':Pos'}(h1:(psOf ts)[j]?=some e)(h2:(psOf ts)[k]?=some e')(h:j<k):e.t.name≠e'.t.name:=by
 obtain⟨R,a1,a2⟩:=O.row h1;obtain⟨R',b1,b2⟩:=O.row h2;obtain⟨jl,jr⟩:=wab.mp a1;obtain⟨kl,kr⟩:=wab.mp b1;have:=wbn.mp O.names j k (by simpa using jl) (by simpa using kl) h
 rw[wbL,wbL,jr,kr] at this;rw[a2.2.1,b2.2.1];exact this
theorem zh8 (x y:Str):dEq false (.str x) (.str y)=some (.bl (decide (x=y))):=by
 show(if cmpB (.str x) (.str y)=true then some (D.bl (if false=true then !decide (D.str x=D.str y) else decide (D.str x=D.str y))) else none)=_
 rw[if_pos (by rfl),if_neg (by decide)];congr 2;exact zal ⟨fun h=>by cases h;rfl,fun h=>by rw[h]⟩
theorem zji (O:On ts L)(hL:L.length<=200){k:Nat}{e:Pos'}(he:(psOf ts)[k]?=some e):zdK [.tup (ts.map Tr.d),.str e.t.name]=some e.t.d:=by
 have tst:∀t:Tr,(t1 (e2 (dEq false) (e2 dIx (eRd 2) (eK (.int 0))) (eRd 1))) [.val (.tup (ts.map Tr.d)),.val (.str e.t.name),.val t.d]=some (decide (t.name=e.t.name)):=fun t=>by
  simp[t1,e2,eRd,eK,tr_0,zh8,dB]
 obtain⟨ρ',h⟩:=zfk (tg:=gN 2) (b:=gIf (t1 (e2 (dEq false) (e2 dIx (eRd 2) (eK (.int 0))) (eRd 1))) (gRet (eVar 2)) gNx) (v:=.told e.t.d) (ds:=(psOf ts).map fun e=>e.t.d) (fun ρ=>∃x,ρ = [.val (.tup (ts.map Tr.d)),.val (.str e.t.name),x]/\isPar (some x)=false) (ρ:=[.val (.tup (ts.map Tr.d)),.val (.str e.t.name),.un]) ⟨_,rfl,rfl⟩ (k:=k) (d:=e.t.d) (by rw[wag,he];rfl)
  (fun i x ρ hi hx ⟨y,hy,py⟩ =>by
   subst hy;rw[wag] at hx;obtain⟨e',he',rfl⟩:=wbh.mp hx;refine⟨[.val (.tup (ts.map Tr.d)),.val (.str e.t.name),.val e'.t.d],[.val (.tup (ts.map Tr.d)),.val (.str e.t.name),.val e'.t.d],by simp[gN];exact py,?_,_,rfl,rfl⟩;unfold gIf;rw[tst,waw (zhl O he' he hi)];rfl) (fun ρ ⟨y,hy,py⟩ =>by
   subst hy;refine⟨[.val (.tup (ts.map Tr.d)),.val (.str e.t.name),.val e.t.d],[.val (.tup (ts.map Tr.d)),.val (.str e.t.name),.val e.t.d],by simp[gN];exact py,?_⟩;unfold gIf;rw[tst,waH rfl];rfl)
 have hp:=zh7 O hL
 show outF (gSeq (gFor (aSeq (eCall zby (aCons (eVar 0) aNil))) (gN 2) (gIf (t1 (e2 (dEq false) (e2 dIx (eRd 2) (eK (.int 0))) (eRd 1))) (gRet (eVar 2)) gNx)) gNo [.val (.tup (ts.map Tr.d)),.val (.str e.t.name),.un])=_
 have hf:gFor (aSeq (eCall zby (aCons (eVar 0) aNil))) (gN 2) (gIf (t1 (e2 (dEq false) (e2 dIx (eRd 2) (eK (.int 0))) (eRd 1))) (gRet (eVar 2)) gNx) [.val (.tup (ts.map Tr.d)),.val (.str e.t.name),.un]=some (.ret (.told e.t.d) ρ'):=by
  show((zby [.tup (ts.map Tr.d)]).bind dSeq).bind (fun ds=>forL (gN 2) _ ds _)=_
  rw[hp];exact h
 unfold gSeq;rw[hf];rfl
theorem zh9 (O:On ts L)(hL:L.length<=200){k:Nat}{e:Pos'}(he:(psOf ts)[k]?=some e):zbz [.tup (ts.map Tr.d),.str e.t.name]=some (.tup (e.q.map D.int)):=by
 have tst:∀(q:D) (t:Tr),(t1 (e2 (dEq false) (e2 dIx (eRd 3) (eK (.int 0))) (eRd 1))) [.val (.tup (ts.map Tr.d)),.val (.str e.t.name),.val q,.val t.d]=some (decide (t.name=e.t.name)):=fun q t=>by
  simp[t1,e2,eRd,eK,tr_0,zh8,dB]
 have hpl:∀(i:Nat) (x:D),((zaU 5 [] 0 ts).map pD)[i]?=some x->∃e',(psOf ts)[i]?=some e'/\x=.tup [.tup (e'.q.map D.int),e'.t.d]:=fun i x hx=>by
  rw[<-zcz,waM,wag] at hx;obtain⟨e',he',rfl⟩:=wbh.mp hx;exact⟨e',he',rfl⟩
 obtain⟨ρ',h⟩:=zfk (tg:=gT 2 (gCons' (gN 2) (gCons' (gN 3) gNil'))) (b:=gIf (t1 (e2 (dEq false) (e2 dIx (eRd 3) (eK (.int 0))) (eRd 1))) (gRet (eVar 2)) gNx) (v:=.told (.tup (e.q.map D.int))) (ds:=(zaU 5 [] 0 ts).map pD) (fun ρ=>∃x y,ρ = [.val (.tup (ts.map Tr.d)),.val (.str e.t.name),x,y]/\isPar (some x)=false/\isPar (some y)=false) (ρ:=[.val (.tup (ts.map Tr.d)),.val (.str e.t.name),.un,.un]) ⟨_,_,rfl,rfl,rfl⟩ (k:=k) (d:=.tup [.tup (e.q.map D.int),e.t.d]) (by rw[<-zcz,waM,wag,he];rfl)
  (fun i x ρ hi hx ⟨y,z,hy,py,pz⟩ =>by
   subst hy;obtain⟨e',he',rfl⟩:=hpl i x hx;refine⟨[.val (.tup (ts.map Tr.d)),.val (.str e.t.name),.val (.tup (e'.q.map D.int)),.val e'.t.d],[.val (.tup (ts.map Tr.d)),.val (.str e.t.name),.val (.tup (e'.q.map D.int)),.val e'.t.d],gT23 py pz,?_,_,_,rfl,rfl,rfl⟩;unfold gIf;rw[tst,waw (zhl O he' he hi)];rfl) (fun ρ ⟨y,z,hy,py,pz⟩ =>by
   subst hy;refine⟨[.val (.tup (ts.map Tr.d)),.val (.str e.t.name),.val (.tup (e.q.map D.int)),.val e.t.d],[.val (.tup (ts.map Tr.d)),.val (.str e.t.name),.val (.tup (e.q.map D.int)),.val e.t.d],gT23 py pz,?_⟩;unfold gIf;rw[tst,waH rfl];rfl)
 have hp:=zcV O hL
 show outF (gSeq (gFor (aSeq (eCall zaF (aCons (eVar 0) aNil))) (gT 2 (gCons' (gN 2) (gCons' (gN 3) gNil'))) (gIf (t1 (e2 (dEq false) (e2 dIx (eRd 3) (eK (.int 0))) (eRd 1))) (gRet (eVar 2)) gNx)) gNo [.val (.tup (ts.map Tr.d)),.val (.str e.t.name),.un,.un])=_
 have hf:gFor (aSeq (eCall zaF (aCons (eVar 0) aNil))) (gT 2 (gCons' (gN 2) (gCons' (gN 3) gNil'))) (gIf (t1 (e2 (dEq false) (e2 dIx (eRd 3) (eK (.int 0))) (eRd 1))) (gRet (eVar 2)) gNx) [.val (.tup (ts.map Tr.d)),.val (.str e.t.name),.un,.un]=some (.ret (.told (.tup (e.q.map D.int))) ρ'):=by
  show((zaF [.tup (ts.map Tr.d)]).bind dSeq).bind (fun ds=>forL _ _ ds _)=_
  rw[hp];exact h
 unfold gSeq;rw[hf];rfl
end
theorem zdP {tg:FG}{b:FS}{d:D}{r:List D}{ρ ρ1 ρ2:En}(h1:tg d ρ=some ρ1)(h2:b ρ1=some (.nx ρ2)):forL tg b (d::r) ρ=forL tg b r ρ2:=by
 show((tg d ρ).bind fun ρ1=>(b ρ1).bind fun o=>_)=_
 rw[h1,zOB,h2,zOB]
abbrev chB:FS:=gSeq (gApp 2 (e2 dIx (eRd 3) (eRd 4))) (gSet 3 (e2 dIx (e2 dIx (eRd 3) (eRd 4)) (eK (.int 5))))
theorem zkY {S nm t ps T:D}{fs:List D}{i:Int}(h:dIx T (.int i)=some t)(h5:dIx t (.int 5)=some ps)(hl:fs.length<lim):chB [.val S,.val nm,.own 1 (.lst fs),.val T,.val (.int i)]=some (.nx [.val S,.val nm,.own 1 (.lst (fs++[t])),.val ps,.val (.int i)]):=by
 simp[VDS,chB,h,h5,hl]
theorem zkZ {S nm:D}:∀{us:List Tr}{q:List Int}{as:List Tr}{t:Tr},Wk us q as t->∀(fs:List D) (x:SV),isPar (some x)=false->fs.length+as.length+1<=100000->∃x',forL (gN 4) chB (q.map D.int) [.val S,.val nm,.own 1 (.lst fs),.val (.tup (us.map Tr.d)),x]=some (.nx [.val S,.val nm,.own 1 (.lst (fs++(as++[t]).map Tr.d)),.val (.tup (t.parts.map Tr.d)),x'])
 | _,_,_,_,.here (full:=full) (i:=i) (t:=t) h,fs,x,px,hl=>by
   have hix:dIx (.tup (full.map Tr.d)) (.int (i:Int))=some t.d:=zat (by rw[wag,h];rfl)
   have tu:=zkY (S:=S) (nm:=nm) hix (tr_5 t) (fs:=fs) (wan (by omega:fs.length<100000) (by decide))
   refine⟨.val (.int (i:Int)),?_⟩;exact(zdP (zgm (by simp) (by simpa using px)) tu).trans rfl
 | _,_,_,_,.down (full:=full) (i:=i) (t:=t) (u:=u) (q:=q) (as:=as) h w,fs,x,px,hl=>by
   have hix:dIx (.tup (full.map Tr.d)) (.int (i:Int))=some t.d:=zat (by rw[wag,h];rfl)
   have tu:=zkY (S:=S) (nm:=nm) hix (tr_5 t) (fs:=fs) (wan (by simp at hl;omega:fs.length<100000) (by decide))
   obtain⟨x',e⟩:=zkZ (S:=S) (nm:=nm) w (fs++[t.d]) (.val (.int (i:Int))) rfl (by simp at hl⊢;omega);refine⟨x',?_⟩;refine(zdP (zgm (by simp) (by simpa using px)) tu).trans (Eq.trans e ?_);simp
section
variable {ts:List Tr}{L:List Row}
theorem znh (O:On ts L){k:Nat}{e:Pos'}(he:(psOf ts)[k]?=some e):e.as.length=(above L k).length:=by
 have:=wbg List.length (O.around he)
 simpa using this
theorem zp8 (O:On ts L)(hL:L.length<=200){k:Nat}{e:Pos'}(he:(psOf ts)[k]?=some e):e.as.length<=200:=by
 rw[znh O he];have h:=zcw (dsOf L) k (dsOf L k)
 have hk:=(wab.mp he).1
 rw[O.len] at hk;unfold above;omega
theorem zfl (O:On ts L)(hL:L.length<=200){k:Nat}{e:Pos'}(he:(psOf ts)[k]?=some e):zbl [.tup (ts.map Tr.d),.str e.t.name]=some (.lst ((e.as++[e.t]).map Tr.d)):=by
 have few:=zp8 O hL he
 obtain⟨x',h⟩:=zkZ (S:=.tup (ts.map Tr.d)) (nm:=.str e.t.name) (On.walk he) [] .un rfl (by simp;omega);have hp:=zh9 O hL he
 show outF (gSeq (gOwn 2 (aMk aNil)) (gSeq (gSet 3 (eVar 0)) (gSeq (gFor (aSeq (eCall zbz (aCons (eVar 0) (aCons (eVar 1) aNil)))) (gN 4) chB) (gFrz 2 (gRet (eVar 2))))) [.val (.tup (ts.map Tr.d)),.val (.str e.t.name),.un,.un,.un])=_
 rw[zaI (ρ':=[.val (.tup (ts.map Tr.d)),.val (.str e.t.name),.own 1 (.lst []),.un,.un]) rfl,zaI (ρ':=[.val (.tup (ts.map Tr.d)),.val (.str e.t.name),.own 1 (.lst []),.val (.tup (ts.map Tr.d)),.un]) rfl];have hf:gFor (aSeq (eCall zbz (aCons (eVar 0) (aCons (eVar 1) aNil)))) (gN 4) chB [.val (.tup (ts.map Tr.d)),.val (.str e.t.name),.own 1 (.lst []),.val (.tup (ts.map Tr.d)),.un]=some (.nx [.val (.tup (ts.map Tr.d)),.val (.str e.t.name),.own 1 (.lst ((e.as++[e.t]).map Tr.d)),.val (.tup (e.t.parts.map Tr.d)),x']):=by
  show((zbz [.tup (ts.map Tr.d),.str e.t.name]).bind dSeq).bind (fun ds=>forL (gN 4) chB ds _)=_
  rw[hp];exact h
 rw[zaI hf];rfl
theorem zoG {tg:FG}{b:FS}{ds:List D}(I:En->Prop){ρ:En}(h0:I ρ)(h:∀d ρ,d∈ds->I ρ->∃ρ1 ρ2,tg d ρ=some ρ1/\b ρ1=some (.nx ρ2)/\I ρ2):∃ρ',forL tg b ds ρ=some (.nx ρ')/\I ρ':=by
 obtain⟨ρ',e,hI⟩:=zcn (tg:=tg) (b:=b) (ds:=ds) (fun _ ρ=>I ρ) h0 (fun i d ρ hd hI=>h d ρ (wal hd) hI);exact⟨ρ',e,hI⟩
theorem zjj (O:On ts L)(hL:L.length<=200){k:Nat}{e:Pos'}(he:(psOf ts)[k]?=some e)(hw:∀t∈e.as++[e.t],t.word=("free" : Str)):zcp [.tup (ts.map Tr.d),.str e.t.name]=some .non:=by
 have hch:=zfl O hL he
 have inner:∀(w:Str),w≠("free" : Str)->∀x4,isPar (some x4)=false->∃x',gFor (aSeq (eVar 2)) (gN 4) (gIf (t1 (e2 (dEq false) (e2 dIx (eRd 4) (eK (.int 2))) (eRd 3))) (gRet (eTup (aCons (eVar 3) (aCons (e2 dIx (eRd 4) (eK (.int 0))) aNil)))) gNx) [.val (.tup (ts.map Tr.d)),.val (.str e.t.name),.val (.lst ((e.as++[e.t]).map Tr.d)),.val (.str w),x4]=some (.nx [.val (.tup (ts.map Tr.d)),.val (.str e.t.name),.val (.lst ((e.as++[e.t]).map Tr.d)),.val (.str w),x'])/\isPar (some x')=false:=fun w hne x4 p4=>by
  obtain⟨ρ',h,x',rfl,px⟩:=zoG (tg:=gN 4) (b:=gIf (t1 (e2 (dEq false) (e2 dIx (eRd 4) (eK (.int 2))) (eRd 3))) (gRet (eTup (aCons (eVar 3) (aCons (e2 dIx (eRd 4) (eK (.int 0))) aNil)))) gNx) (ds:=(e.as++[e.t]).map Tr.d) (fun ρ=>∃x',ρ = [.val (.tup (ts.map Tr.d)),.val (.str e.t.name),.val (.lst ((e.as++[e.t]).map Tr.d)),.val (.str w),x']/\isPar (some x')=false) (ρ:=[.val (.tup (ts.map Tr.d)),.val (.str e.t.name),.val (.lst ((e.as++[e.t]).map Tr.d)),.val (.str w),x4]) ⟨x4,rfl,p4⟩ (fun d ρ hd ⟨x,hx,px⟩ =>by
   subst hx;obtain⟨t,ht,rfl⟩:=waN.mp hd;refine⟨_,[.val (.tup (ts.map Tr.d)),.val (.str e.t.name),.val (.lst ((e.as++[e.t]).map Tr.d)),.val (.str w),.val t.d],zgm (by simp) (by simpa using px),?_,_,rfl,rfl⟩;show((((dIx t.d (.int 2)).bind fun a=>dEq false a (.str w)).bind dB).bind fun k=>_)=_
   rw[tr_2,zOB,hw t ht,zh8,waw (fun h=>hne h.symm)];rfl)
  exact⟨x',h,px⟩
 obtain⟨x1,h1,p1⟩:=inner "hidden" (by decide) .un rfl;obtain⟨x2,h2,p2⟩:=inner "shut" (by decide) x1 p1;show outF (gSeq (gSet 2 (eCall zbl (aCons (eVar 0) (aCons (eVar 1) aNil)))) (gSeq (gFor (aSeq (eTup (aCons (eK (.str "hidden")) (aCons (eK (.str "shut")) aNil)))) (gN 3) (gFor (aSeq (eVar 2)) (gN 4) (gIf (t1 (e2 (dEq false) (e2 dIx (eRd 4) (eK (.int 2))) (eRd 3))) (gRet (eTup (aCons (eVar 3) (aCons (e2 dIx (eRd 4) (eK (.int 0))) aNil)))) gNx))) (gRet (eK .non))) [.val (.tup (ts.map Tr.d)),.val (.str e.t.name),.un,.un,.un])=_
 rw[zaI (ρ':=[.val (.tup (ts.map Tr.d)),.val (.str e.t.name),.val (.lst ((e.as++[e.t]).map Tr.d)),.un,.un]) (by
  show((zbl [.tup (ts.map Tr.d),.str e.t.name]).bind _)=_
  rw[hch];rfl)]
 rw[zaI (ρ':=[.val (.tup (ts.map Tr.d)),.val (.str e.t.name),.val (.lst ((e.as++[e.t]).map Tr.d)),.val (.str "shut"),x2]) (by
  exact(zdP (ρ:=[.val (.tup (ts.map Tr.d)),.val (.str e.t.name),.val (.lst ((e.as++[e.t]).map Tr.d)),.un,.un]) (zgm (i:=3) (d:=.str "hidden") (by simp) rfl) h1).trans ((zdP (ρ:=[.val (.tup (ts.map Tr.d)),.val (.str e.t.name),.val (.lst ((e.as++[e.t]).map Tr.d)),.val (.str "hidden"),x1]) (zgm (i:=3) (d:=.str "shut") (by simp) rfl) h2).trans rfl))]
 rfl
theorem zk0 (O:On ts L)(hL:L.length<=200){k:Nat}{e:Pos'}(he:(psOf ts)[k]?=some e)(hw:∀t∈e.as++[e.t],t.word=("free" : Str)):zbf [.tup (ts.map Tr.d),.str e.t.name]=some .non:=by
 have h:=zjj O hL he hw
 show outF (gSeq (gSet 2 (eCall zcp (aCons (eVar 0) (aCons (eVar 1) aNil)))) (gIf (t1 (e2 (dIs true) (eRd 2) (eK .non))) gNo gNx) [.val (.tup (ts.map Tr.d)),.val (.str e.t.name),.un])=_
 rw[zaI (ρ':=[.val (.tup (ts.map Tr.d)),.val (.str e.t.name),.val .non]) (by
  show((zcp [.tup (ts.map Tr.d),.str e.t.name]).bind _)=_
  rw[h];rfl)]
 rfl
end
section
variable {ts:List Tr}{L:List Row}
theorem zgn (O:On ts L){k:Nat}{e:Pos'}(he:(psOf ts)[k]?=some e):zdg L k=decide (e.t.word=("free" : Str)):=by
 obtain⟨R,h1,h2⟩:=O.row he;unfold zdg;rw[h1];refine zal ?_;rw[h2.2.2.1];simp
theorem zjk (O:On ts L){k:Nat}{e:Pos'}(he:(psOf ts)[k]?=some e)(ho:zdF L k=true):∀t∈e.as++[e.t],t.word=("free" : Str):=by
 have hall:∀j∈above L k++[k],zdg L j=true:=by
  unfold zdF at ho;exact waF.mp ho
 intro t ht;rcases waC.mp ht with h | h
 ·have:=zc4 5 ts [] 0 [] [] 0 (fun j=>((psOf ts)[j]?).map (·.t)) (fun k e h=>by rw[wbf];show((psOf ts)[k]?).map (·.t)=_;rw[show(psOf ts)[k]?=some e from h];rfl) rfl e (wal he)
  rw[O.js he] at this;have hm:some t∈e.as.map some:=waN.mpr ⟨t,h,rfl⟩
  rw[<-this] at hm;obtain⟨j,hj,hjt⟩:=waN.mp hm;obtain⟨e',he',rfl⟩:=wbh.mp hjt;have:=hall j (wbz _ hj)
  rw[zgn O he'] at this;exact wbk this
 ·rw[waf.mp h];have:=hall k (waE _ (waf.mpr rfl))
  rw[zgn O he] at this;exact wbk this
end
variable {L:List Row}
end Pg
namespace Pg
open PySem PyProof PyProof.Rows L2 VD GM
def fwT (t:Tr):Bool:=decide (t.word=("free" : Str))
def zdo:Nat->List Tr->List Tr
 | 0,_=>[]
 | n+1,ts=>ts.flatMap fun t=>if fwT t then t::zdo n t.parts else[]
theorem zed (n:Nat)(t:Tr)(ts:List Tr):zdo (n+1) (t::ts)=(if fwT t then t::zdo n t.parts else[])++zdo (n+1) ts:=by
 show List.flatMap _ (t::ts)=_
 rw[List.flatMap_cons];rfl
theorem zhm (n:Nat):zdo n [] = []:=by cases n <;> rfl
theorem ziL:∀(n:Nat) (ts:List Tr),(zdo n ts).length<=szL n ts:=
 zaJ (fun n=>by rw[zhm,zhT];exact wae _) (fun t r=>wbj _) fun n t r h1 h2=>by
  rw[zed,zdH,wam];split
  ·rw[waS];omega
  ·rw[wbR];omega
theorem zk1:∀(n:Nat) (ts:List Tr) (o:List Int) (i:Nat) (as:List Tr) (js:List Nat) (off:Nat),((posL n o i as js off ts).filter fun e=>(e.as++[e.t]).all fwT).map (·.t)=if as.all fwT then zdo n ts else[]:=
 zaJ (fun n o i as js off=>by rw[zbD,zhm];simp) (fun t r o i as js off=>by rw[zbp];simp[zdo]) fun n t r h1 h2 o i as js off=>by
  rw[zaY,List.filter_cons,wbp,zed];have e1:=h1 (o++[(i:Int)]) 0 (as++[t]) (js++[off]) (off+1)
  have e2:=h2 o (i+1) as js (off+1+szL n t.parts)
  have ea:(as++[t]).all fwT=(as.all fwT&&fwT t):=by rw[wbS];simp
  rw[ea] at e1;dsimp only[];rw[ea];cases ha:as.all fwT
  ·rw[ha] at e1 e2;simp only[Bool.false_and,wby,if_false] at e1 e2⊢;rw[wap,e1,e2];rfl
  ·rw[ha] at e1 e2;cases ht:fwT t
   ·rw[ht] at e1;simp only[Bool.true_and,wby,if_false,if_true] at e1 e2⊢;rw[wap,e1,e2]
   ·rw[ht] at e1;simp only[Bool.true_and,if_true] at e1 e2⊢;rw[wav,wap,e1,e2];rfl
section
variable {ts:List Tr}{L:List Row}
def wfO (o:Option Tr):Bool:=match o with
 | some t=>fwT t
 | none=>false
theorem zp9 (O:On ts L)(j:Nat):zdg L j=wfO (((psOf ts)[j]?).map (·.t)):=by
 cases h:(psOf ts)[j]? with
 | some e=>rw[zgn O h];rfl
 | none=>
   have:L.length<=j:=by rw[<-O.len];exact List.getElem?_eq_none_iff.mp h
   unfold zdg;rw[waG this];rfl
theorem zmG (O:On ts L){k:Nat}{e:Pos'}(he:(psOf ts)[k]?=some e):(e.as++[e.t]).all fwT=zdF L k:=by
 have h:=zc4 5 ts [] 0 [] [] 0 (fun j=>((psOf ts)[j]?).map (·.t)) (fun k e h=>by rw[wbf];show((psOf ts)[k]?).map (·.t)=_;rw[show(psOf ts)[k]?=some e from h];rfl) rfl e (wal he)
 rw[O.js he] at h;show _=(above L k++[k]).all (zdg L)
 rw[wbS,wbS];have h1:(above L k).all (zdg L)=((above L k).map fun j=>((psOf ts)[j]?).map (·.t)).all wfO:=by
  rw[List.all_map];exact wbg (fun f=>(above L k).all f) (funext fun j=>zp9 O j)
 rw[h1,h,List.all_map];congr 1;simp only[wbm,List.all_nil,Bool.and_true];rw[zgn O he];rfl
theorem zjl (O:On ts L):(zdo 5 ts).map (·.name)=(zdf L).map (zaj L):=by
 have h:=zk1 5 ts [] 0 [] [] 0
 rw[if_pos (by rfl)] at h;rw[<-h,waM];unfold zdf;rw[<-O.len];exact zbi _ _ _ _ _ _ rfl fun j x hx=>⟨zmG O hx,O.name hx⟩
theorem zhn:∀(c n:Nat) (ts:List Tr),Fits c ts->c<n->szL c ts<=1000->zaH n [.tup (ts.map Tr.d)]=some (.lst ((zdo c ts).map Tr.d))
 | c,0,_,_,h,_=>by omega
 | 0,n+1,ts,f,_,_=>by rw[show ts = [] from f];rfl
 | c+1,n+1,ts,f,hn,hl=>by
   show zbP (zaH n) (.tup (ts.map Tr.d))=_
   unfold zbP;rw[zOB];show Option.bind (Option.bind (some (ts.map Tr.d)) _) _=_
   rw[zOB];have key:∀(us:List Tr) (acc:List D),(∀t∈us,Fits c t.parts)->acc.length+szL (c+1) us<=1000->zcP (fun(s2:List D) (d3:D)=>(Option.bind (Option.bind (Option.bind (Option.bind (dIx d3 (.int 2)) fun v5=>((dEqG false) v5 (.str "free"))) dB) fun k4=>if k4 then(Option.bind (appL s2 d3) fun(x6:List D)=>(Option.bind (Option.bind (Option.bind (aC (dIx d3 (.int 5)) aN) (zaH n)) (extL x6)) fun(x7:List D)=>(some x7))) else(some s2)) fun(s8:List D)=>(some s8))) acc (us.map Tr.d)=some (acc++(zdo (c+1) us).map Tr.d):=by
    intro us;induction us with
    | nil=>intro acc _ _;show some acc=some (acc++[]);rw[waJ]
    | cons t us ih=>
      intro acc o hl;rw[zdH] at hl;have e:=zhn c n t.parts (o t war) (by omega) (by omega)
      have lo:=ziL c t.parts
      rw[zed,wap,<-wbU];show Option.bind (Option.bind (Option.bind (Option.bind (Option.bind (dIx t.d (.int 2)) fun v5=>((dEqG false) v5 (.str "free"))) dB) fun k4=>if k4 then(Option.bind (appL acc t.d) fun(x6:List D)=>(Option.bind (Option.bind (Option.bind (aC (dIx t.d (.int 5)) aN) (zaH n)) (extL x6)) fun(x7:List D)=>(some x7))) else(some acc)) fun(s8:List D)=>(some s8)) _=_
      have step:(Option.bind (Option.bind (Option.bind (Option.bind (dIx t.d (.int 2)) fun v5=>((dEqG false) v5 (.str "free"))) dB) fun k4=>if k4 then(Option.bind (appL acc t.d) fun(x6:List D)=>(Option.bind (Option.bind (Option.bind (aC (dIx t.d (.int 5)) aN) (zaH n)) (extL x6)) fun(x7:List D)=>(some x7))) else(some acc)) fun(s8:List D)=>(some s8))=some (acc++(if fwT t then t::zdo c t.parts else[]).map Tr.d):=by
       rw[tr_2,zOB,zgd,zOB];show(Option.bind (if fwT t=true then _ else _) _)=_
       cases hf:fwT t with
       | false=>show some acc=some (acc++[]);rw[waJ]
       | true=>
         rw[if_pos rfl,if_pos rfl,zhW (wbe (by omega:acc.length<=1000) (by decide)),zOB,tr_5];show Option.bind (Option.bind (Option.bind (zaH n [.tup (t.parts.map Tr.d)]) (extL (acc++[t.d]))) _) _=_
         rw[e,zOB];show Option.bind (Option.bind (if((acc++[t.d])++(zdo c t.parts).map Tr.d).length<=lim then some ((acc++[t.d])++(zdo c t.parts).map Tr.d) else none) _) _=_
         rw[if_pos (waq (by simp;omega:_<=1001) (by decide))];simp
      rw[step,zOB];refine ih _ (fun y hy=>o y (wak _ hy)) ?_;rw[wam,wao];split
      ·rw[waS];omega
      ·rw[wbR];omega
   rw[key ts [] f (by simpa using hl)];simp
theorem zdQ (O:On ts L)(hL:L.length<=200):zbc [.tup (ts.map Tr.d)]=some (.lst ((zdf L).map fun j=>.str (zaj L j))):=by
 have hz:szL 5 ts<=200:=by rw[<-ziH,O.len];exact hL
 have lo:=ziL 5 ts
 show zb9 (.tup (ts.map Tr.d))=_
 unfold zb9;rw[zhn 5 8 ts O.fits (by decide) (by omega),zOB];show Option.bind (Option.bind (zmf _ ((zdo 5 ts).map Tr.d)) _) _=_
 rw[zkI Tr.d (fun t=>.str t.name) (by omega) fun t _=>by rw[tr_0];rfl];rw[zOB,zOB];have:=wbg (List.map D.str) (zjl O)
 rw[waM,waM] at this;exact wbg (fun l=>some (D.lst l)) this
end
def zia:Option (Int×Int×Int)->D
 | none=>.non
 | some (a,g,c)=>.tup [.int a,.int g,.int c]
theorem zk2:zaq [.str "up"]=some .non:=by rfl
theorem zho:zaq [.str "down"]=some .non:=by rfl
theorem zhp:zaq [.str "left"]=some .non:=by rfl
theorem zfR:zaq [.str "right"]=some .non:=by rfl
theorem zoH {way:Str}(h:zeq way):zaq [.str way]=some .non:=by
 rcases h with rfl | rfl | rfl | rfl
 ·exact zk2
 ·exact zho
 ·exact zhp
 ·exact zfR
theorem zqa:dInG false (.str "up") (.tup [.str "up",.str "down"])=some (.bl true):=by rfl
theorem zk3:dInG false (.str "down") (.tup [.str "up",.str "down"])=some (.bl true):=by rfl
theorem zk4:dInG false (.str "left") (.tup [.str "up",.str "down"])=some (.bl false):=by rfl
theorem ziM:dInG false (.str "right") (.tup [.str "up",.str "down"])=some (.bl false):=by rfl
theorem zqb:dInG false (.str "up") (.tup [.str "up",.str "left"])=some (.bl true):=by rfl
theorem zk5:dInG false (.str "down") (.tup [.str "up",.str "left"])=some (.bl false):=by rfl
theorem zk6:dInG false (.str "left") (.tup [.str "up",.str "left"])=some (.bl true):=by rfl
theorem ziN:dInG false (.str "right") (.tup [.str "up",.str "left"])=some (.bl false):=by rfl
theorem zdR (b:Bx):zbJ [b.d,.bl true]=some (.tup [.int b.y,.int (b.y+b.hg)]):=rfl
theorem zdS (b:Bx):zbJ [b.d,.bl false]=some (.tup [.int b.x,.int (b.x+b.wd)]):=rfl
theorem zeI {gap a:Int}:(Option.bind (Option.bind (dLt (.int gap) (.int 0)) dB) fun k7=>if k7 then(Option.bind (some D.non) fun(r8:D)=>(some r8)) else(Option.bind (some (D.int a)) fun(x11:D)=>(Option.bind (Option.bind (Option.bind (dLt x11 (.int 0)) dB) fun k12=>if k12 then(some (.int 0)) else(some (.int 1))) fun(x13:D)=>(Option.bind (Option.bind (aC (some x13) (aC (some (.int gap)) (aC (bMax [x11,(.int 0)]) aN))) mkT) fun(r14:D)=>(some r14))))) =
 some (zia (if gap<0 then none else some (if a<0 then 0 else 1,gap,max a 0))):=by
 show(if decide (gap<0)=true then some D.non else Option.bind (Option.bind (some (decide (a<0))) fun k12=>if k12 then(some (D.int 0)) else(some (.int 1))) fun(x13:D)=>some (.tup [x13,.int gap,.int (if 0>a then 0 else a)]))=_
 by_cases hg:gap<0
 ·rw[if_pos (by simpa using hg),if_pos hg];rfl
 ·rw[if_neg (by simpa using hg),if_neg hg,zcc];by_cases ha:a<0
  ·rw[if_pos ha,waH ha];rfl
  ·rw[if_neg ha,waw ha];rfl
theorem zeJ (gap s1 l1 s2 l2:Int):(if gap<0 then none else some ((if max s1 s2 - min (s1+l1) (s2+l2)<0 then 0 else 1:Int),gap,max (max s1 s2 - min (s1+l1) (s2+l2)) 0))=zep gap s1 l1 s2 l2:=by
 unfold zep;by_cases hg:gap<0
 ·rw[if_pos hg,if_pos hg]
 ·rw[if_neg hg,if_neg hg];by_cases h:max s1 s2 - min (s1+l1) (s2+l2)<0
  ·rw[if_pos h,if_neg (by omega),Int.max_comm]
  ·rw[if_neg h,if_pos (by omega),Int.max_comm]
theorem zoI {way:Str}(h:zeq way)(b o:Bx):zfO [b.d,o.d,.str way]=some (zia (near b o way)):=by
 rcases h with rfl | rfl | rfl | rfl
 ·show zc9 b.d o.d (.str "up")=_
  unfold zc9;rw[zk2,zOB,zqa,zOB,zdR,zdR,zqb];refine Eq.trans (zeI (gap:=b.y - (o.y+o.hg)) (a:=(if o.x>b.x then o.x else b.x) - (if o.x+o.wd<b.x+b.wd then o.x+o.wd else b.x+b.wd))) ?_;rw[zcc,zcR,zgc,<-zeJ,show b.y - (o.y+o.hg)=b.y - o.y - o.hg by omega]
 ·show zc9 b.d o.d (.str "down")=_
  unfold zc9;rw[zho,zOB,zk3,zOB,zdR,zdR,zk5];refine Eq.trans (zeI (gap:=o.y - (b.y+b.hg)) (a:=(if o.x>b.x then o.x else b.x) - (if o.x+o.wd<b.x+b.wd then o.x+o.wd else b.x+b.wd))) ?_;rw[zcc,zcR,zdD,<-zeJ,show o.y - (b.y+b.hg)=o.y - b.y - b.hg by omega]
 ·show zc9 b.d o.d (.str "left")=_
  unfold zc9;rw[zhp,zOB,zk4,zOB,zdS,zdS,zk6];refine Eq.trans (zeI (gap:=b.x - (o.x+o.wd)) (a:=(if o.y>b.y then o.y else b.y) - (if o.y+o.hg<b.y+b.hg then o.y+o.hg else b.y+b.hg))) ?_;rw[zcc,zcR,zdE,<-zeJ,show b.x - (o.x+o.wd)=b.x - o.x - o.wd by omega]
 ·show zc9 b.d o.d (.str "right")=_
  unfold zc9;rw[zfR,zOB,ziM,zOB,zdS,zdS,ziN];refine Eq.trans (zeI (gap:=o.x - (b.x+b.wd)) (a:=(if o.y>b.y then o.y else b.y) - (if o.y+o.hg<b.y+b.hg then o.y+o.hg else b.y+b.hg))) ?_;rw[zcc,zcR,zc2,<-zeJ,show o.x - (b.x+b.wd)=o.x - b.x - b.wd by omega]
def trAt (ts:List Tr)(j:Nat):Tr:=(((psOf ts)[j]?).map (·.t)).getD (.mk "" ⟨0,0,0,0⟩ "" 0 none [])
section
variable {ts:List Tr}{L:List Row}
theorem zgo {j:Nat}{e:Pos'}(h:(psOf ts)[j]?=some e):trAt ts j=e.t:=by unfold trAt;rw[h];rfl
theorem zgp (O:On ts L){k:Nat}{e:Pos'}(he:(psOf ts)[k]?=some e):e.t.parts=(kids L (k:Int)).map (trAt ts):=by
 have h:=zjb 5 ts [] 0 [] [] 0 (O.fits) k e he
 rw[<-h,wbf];unfold kids;rw[<-O.len];refine zbi _ _ _ _ _ _ rfl fun j x hx=>⟨?_,(zgo hx).symm⟩
 have hx':(psOf ts)[j]?=some x:=hx
 rw[O.js hx',O.js he,waR];simp only[beq_iff_eq,decide_eq_true_eq];exact(zd2 L j k).symm
theorem zgq (O:On ts L):ts=(kids L (-1)).map (trAt ts):=by
 have h:=zfJ 5 ts [] 0 [] [] 0 (fun z=>by omega)
 conv=>lhs;rw[<-h]
 unfold kids;rw[<-O.len];refine zbi _ _ _ _ _ _ rfl fun j x hx=>⟨?_,(zgo hx).symm⟩
 have hx':(psOf ts)[j]?=some x:=hx
 rw[O.js hx',waR];simp only[beq_iff_eq,decide_eq_true_eq];exact(zcA L j).symm
def zbM (L:List Row)(j:Nat):Row:=(L[j]?).getD ⟨0,"",⟨0,0,0,0⟩,"",0,none⟩
theorem zbr {j:Nat}(h:j<L.length):L[j]?=some (zbM L j):=by
 unfold zbM;rw[waa h];rfl
theorem zib {p:Int}{j:Nat}(h:j∈kids L p):j<L.length/\zaQ L j=p:=by
 unfold kids at h;obtain⟨h1,h2⟩:=waU.mp h;exact⟨wbd.mp h1,wbk h2⟩
theorem ziO (O:On ts L){j:Nat}(h:j<L.length):(trAt ts j).name=zaj L j/\(trAt ts j).word=(zbM L j).word/\(trAt ts j).box=(zbM L j).box/\(zbM L j).name=zaj L j:=by
 obtain⟨e,he⟩:=O.pos h;obtain⟨R,h1,h2⟩:=O.row he;rw[zgo he];have e1:zbM L j=R:=by unfold zbM;rw[h1];rfl
 rw[e1,zcm h1];exact⟨h2.2.1,h2.2.2.1,h2.2.2.2.2.2,rfl⟩
theorem zfm {j k:Nat}(h:zaQ L j=zaQ L k):above L j=above L k:=by
 cases q:(above L k).getLast? with
 | none=>
   have hk:zaQ L k = -1:=by unfold zaQ;rw[q]
   rw[(zcA L j).mp (h.trans hk),(zcA L k).mp hk]
 | some m=>
   have hk:zaQ L k=(m:Int):=by unfold zaQ;rw[q]
   rw[(zd2 L j m).mp (h.trans hk),(zd2 L k m).mp hk]
theorem zk7 {j k:Nat}(h:zaQ L j=zaQ L k)(ho:zdF L k=true):zdF L j=zdg L j:=by
 have hk:(above L k++[k]).all (zdg L)=true:=ho
 show(above L j++[j]).all (zdg L)=_
 rw[zfm h,wbS];rw[wbS,waj] at hk;rw[hk.1];simp
theorem zk8 {j:Nat}(h:j<L.length):zdg L j=decide ((zbM L j).word=("free" : Str)):=by
 unfold zdg;rw[zbr h];exact zal ⟨fun z=>wau z,fun z=>wbg some z⟩
theorem zmH (O:On ts L)(hL:L.length<=200){k:Nat}(hk:k<L.length):zbO [.tup (ts.map Tr.d),.str (zaj L k)]=some (.tup (((kids L (zaQ L k)).map (trAt ts)).map Tr.d)):=by
 obtain⟨e,he⟩:=O.pos hk;have hc:=zfl O hL he
 have hn:=O.name he
 rw[hn] at hc;show zbN (.tup (ts.map Tr.d)) (.str (zaj L k))=_
 unfold zbN;rw[hc,zOB];have hw:=On.walk he
 show(Option.bind (Option.bind (Option.bind (some (D.int ((e.as++[e.t]).map Tr.d).length)) fun v3=>dEqG false v3 (.int 1)) dB) fun k2=>_).bind _=_
 rw[zOB,zmw];have hja:=O.js he
 have hal:e.as.length=(above L k).length:=znh O he
 by_cases h0:e.as = []
 ·have hab:above L k = []:=waW.mp (by rw[<-hal,h0];rfl)
  rw[waH (by rw[h0];rfl),(zcA L k).mpr hab,<-zgq O];rfl
 ·have hlen:((e.as++[e.t]).map Tr.d).length=e.as.length+1:=by simp
  have hpos:0<e.as.length:=wbX.mpr h0
  rw[waw (by rw[hlen];omega)];have hne:above L k≠[]:=fun z=>by rw[z] at hal;exact h0 (waW.mp hal)
  obtain⟨m,hm⟩:∃m,(above L k).getLast?=some m:=⟨_,List.getLast?_eq_some_getLast hne⟩
  have hml:m<L.length:=by have:=ziF (List.mem_of_getLast? hm);omega
  obtain⟨em,hem⟩:=O.pos hml;have hpk:zaQ L k=(m:Int):=by unfold zaQ;rw[hm]
  have hpn:=zc4 5 ts [] 0 [] [] 0 (fun j=>((psOf ts)[j]?).map (·.t)) (fun k e h=>by rw[wbf];show((psOf ts)[k]?).map (·.t)=_;rw[show(psOf ts)[k]?=some e from h];rfl) rfl e (wal he)
  rw[hja] at hpn;have hlast:e.as.getLast?=some em.t:=by
   have g:=wbg List.getLast? hpn
   rw[List.getLast?_map,List.getLast?_map,hm,Option.map_some] at g;rw[show(psOf ts)[m]?=some em from hem] at g;cases q:e.as.getLast? with
   | none=>rw[q] at g;cases g
   | some t=>rw[q] at g;simpa using g.symm
  have hat:atI ((e.as++[e.t]).map Tr.d) (-2)=some em.t.d:=by
   have hx:((e.as++[e.t]).map Tr.d)[e.as.length - 1]?=some em.t.d:=by
    rw[wag,waB (by omega),<-List.getLast?_eq_getElem?,hlast];rfl
   unfold atI;have:ixN ((e.as++[e.t]).map Tr.d).length (-2)=some (e.as.length - 1):=by
    rw[hlen];unfold ixN;rw[if_neg (by decide),if_pos (by omega)];congr 1;omega
   rw[this];exact hx
  show(Option.bind (dIx (.lst ((e.as++[e.t]).map Tr.d)) (.int (-2))) fun v5=>dIx v5 (.int 5)).bind (fun r6=>some r6)=_
  rw[show dIx (.lst ((e.as++[e.t]).map Tr.d)) (.int (-2))=some em.t.d from hat,zOB,tr_5,hpk,<-zgp O hem];rfl
end
theorem tr_1 (t:Tr):dIx t.d (.int 1)=some t.box.d:=by rw[Tr.d_eq];exact zat (j:=1) rfl
def zet (L:List Row)(k j:Nat)(way:Str):Option (Int×Int×Int):=near (zbM L k).box (zbM L j).box way
def zee (L:List Row)(k:Nat)(way:Str)(j:Nat):Bool:=(zet L k j way).isSome&&zdg L j
def trip (L:List Row)(k:Nat)(way:Str)(j:Nat):Int×Int×Int:=(zet L k j way).getD (0,0,0)
def zOf (L:List Row)(k:Nat)(way:Str):List (Nat×Nat):=((kids L (zaQ L k)).zipIdx).filter fun p=>zee L k way p.1
def zlt (L:List Row)(k:Nat)(way:Str)(a b:Nat):Option Bool:=((zOf L k way)[a]?).bind fun x=>((zOf L k way)[b]?).bind fun y=>some (if trip L k way x.1=trip L k way y.1 then decide (x.2<y.2) else lex3 (trip L k way x.1) (trip L k way y.1))
def zbY (L:List Row)(k:Nat)(way:Str):Option Nat:=if zOf L k way = [] then none else(zde (zlt L k way) ((zOf L k way).length - 1)).bind fun i=>((zOf L k way)[i]?).map (·.1)
def nmO (L:List Row):Option Nat->D
 | none=>.non
 | some j=>.str (zaj L j)
section
variable {ts:List Tr}{L:List Row}{k:Nat}{way:Str}
theorem zef {j:Nat}(h:(zet L k j way).isSome=true):zia (zet L k j way)=trD (trip L k way j):=by
 unfold trip;obtain⟨⟨a,b,c⟩,e⟩:=wbc.mp h;rw[e];rfl
theorem ziP (n:Nat):(List.range n).Pairwise (· < ·):=List.pairwise_lt_range
theorem zni:∀{xs:List Nat}{n:Nat},xs.Pairwise (· < ·)->(xs.zipIdx n).Pairwise fun a b=>a.1<b.1/\a.2<b.2
 | [],_,_=>by simp
 | x::xs,n,h=>by
   rw[List.zipIdx_cons];rw[List.pairwise_cons] at h⊢;refine⟨fun b hb=>?_,zni h.2⟩;have:=List.mem_zipIdx hb
   refine⟨h.1 _ (by rw[this.2.2];exact wbJ _),by omega⟩
theorem zk9 (L:List Row)(k:Nat)(way:Str):(zOf L k way).Pairwise fun a b=>a.1<b.1/\a.2<b.2:=by
 unfold zOf kids;exact(zni ((ziP _).filter _)).filter _
theorem zoJ {p:Nat×Nat}(h:p∈zOf L k way):p.1<L.length/\zaQ L p.1=zaQ L k/\zee L k way p.1=true:=by
 unfold zOf at h;obtain⟨h1,h2⟩:=waU.mp h;have h3:p.1∈kids L (zaQ L k):=by
  rw[<-zcd (kids L (zaQ L k)) 0];exact waN.mpr ⟨p,h1,rfl⟩
 exact⟨(zib h3).1,(zib h3).2,h2⟩
theorem znj {xs:List (Nat×Nat)}(h:xs.Pairwise fun a b=>a.1<b.1/\a.2<b.2){a b:Nat}{x y:Nat×Nat}(ha:xs[a]?=some x)(hb:xs[b]?=some y):(x.1<y.1↔x.2<y.2)/\(x.1=y.1↔x=y)/\(x.2=y.2↔x=y):=by
 obtain⟨la,rfl⟩:=wab.mp ha;obtain⟨lb,rfl⟩:=wab.mp hb;rw[wbn] at h;rcases Nat.lt_trichotomy a b with q | q | q
 ·have:=h a b la lb q
  refine⟨⟨fun _=>this.2,fun _=>this.1⟩,⟨fun z=>by omega,fun z=>by rw[z]⟩,⟨fun z=>by omega,fun z=>by rw[z]⟩⟩
 ·subst q;exact⟨⟨fun z=>absurd z (waQ _),fun z=>absurd z (waQ _)⟩,⟨fun _=>rfl,fun _=>rfl⟩,⟨fun _=>rfl,fun _=>rfl⟩⟩
 ·have:=h b a lb la q
  refine⟨⟨fun z=>by omega,fun z=>by omega⟩,⟨fun z=>by omega,fun z=>by rw[z]⟩,⟨fun z=>by omega,fun z=>by rw[z]⟩⟩
theorem zdT {α:Type}(f:α->D)(xs:List α)(h:∀x∈xs,ndD (f x)=true/\depD (f x)<=2):minC (xs.map f)=true:=by
 unfold minC;rw[waj,decide_eq_true_eq];refine⟨zhQ fun d hd=>?_,?_⟩
 ·obtain⟨x,hx,rfl⟩:=waN.mp hd;exact(h x hx).1
 ·induction xs with
  | nil=>exact wbj _
  | cons x xs ih=>exact Nat.max_le.mpr ⟨waq (h x war).2 (by decide),ih fun y hy=>h y (wak _ hy)⟩
theorem zla (f:Nat×Nat->D)(hm:minC ((zOf L k way).map f)=true)(hlt:∀(a b:Nat) (x y:Nat×Nat),(zOf L k way)[a]?=some x->(zOf L k way)[b]?=some y->ltD (f x) (f y)=some (if trip L k way x.1=trip L k way y.1 then decide (x.2<y.2) else lex3 (trip L k way x.1) (trip L k way y.1)))(hz:zOf L k way≠[]) :
 ∃i p,zde (zlt L k way) ((zOf L k way).length - 1)=some i/\(zOf L k way)[i]?=some p/\minL ((zOf L k way).map f)=some (f p)/\zbY L k way=some p.1:=by
 have hpos:0<(zOf L k way).length:=wbX.mpr hz
 obtain⟨i,hi⟩:=zfL (lt:=zlt L k way) (k:=(zOf L k way).length - 1) fun a b ha hb=>by
  unfold zlt;rw[waa (show a<(zOf L k way).length by omega),waa (show b<(zOf L k way).length by omega)];rfl
 have hil:=zdC hi
 have hp:(zOf L k way)[i]?=some (zOf L k way)[i]:=waa (by omega)
 refine⟨i,_,hi,hp,?_,?_⟩
 ·unfold minL;rw[if_neg (by simpa using hz),wao];rw[zfc (lt':=zlt L k way) fun a b ha hb=>?_,hi,zOB,wag,hp]
  ·rfl
  ·unfold ltIx zlt;have e1:=waa (show a<(zOf L k way).length by omega)
   have e2:=waa (show b<(zOf L k way).length by omega)
   rw[wag,wag,e1,e2];exact hlt a b _ _ e1 e2
 ·unfold zbY;rw[if_neg hz,hi,zOB,hp];rfl
theorem zlb (h:zOf L k way = []):zbY L k way=none:=if_pos h
def ngD (L:List Row)(k:Nat)(way:Str)(p:Nat×Nat):D:=.tup [trD (trip L k way p.1),.int (p.2:Nat),.str (zaj L p.1)]
theorem zoK {a b:Nat}{x y:Nat×Nat}(ha:(zOf L k way)[a]?=some x)(hb:(zOf L k way)[b]?=some y):ltD (ngD L k way x) (ngD L k way y)=some (if trip L k way x.1=trip L k way y.1 then decide (x.2<y.2) else lex3 (trip L k way x.1) (trip L k way y.1)):=by
 have pc:=znj (zk9 L k way) ha hb
 unfold ngD;rw[zkJ (xs:=[.str (zaj L x.1)]) (ys:=[.str (zaj L y.1)]) rfl fun h=>?_,zal (show((x.2:Nat):Int)<((y.2:Nat):Int)↔x.2<y.2 by omega)];have:x=y:=pc.2.2.mp (by omega)
 subst this;rw[ltL,if_pos (by rfl),if_pos rfl];rfl
theorem zbR (O:On ts L)(hL:L.length<=200)(hw:zeq way)(hk:k<L.length)(ho:zdF L k=true):zaS [.tup (ts.map Tr.d),.str (zaj L k),.str way]=some (nmO L (zbY L k way)):=by
 obtain⟨e,he⟩:=O.pos hk;have hn:=O.name he
 have hr:=zk0 O hL he (zjk O he ho)
 have hp:=zji O hL he
 rw[hn] at hr hp;have hb:e.t.box=(zbM L k).box:=by rw[<-zgo he];exact(ziO O hk).2.2.1
 show zdM (.tup (ts.map Tr.d)) (.str (zaj L k)) (.str way)=_
 unfold zdM;rw[zoH hw,zOB,hr,zOB,hp,zOB,tr_1,zOB,zOB,zmH O hL hk,hb];show(Option.bind (zcP _ [] (zen (((kids L (zaQ L k)).map (trAt ts)).map Tr.d))) _)=_
 rw[waM,zha];have few:(kids L (zaQ L k)).zipIdx.length<=200:=by
  rw[List.length_zipIdx];unfold kids;exact waq (wcx _ _) (by rw[List.length_range];exact hL)
 rw[zdI (acc:=[]) (fun p:Nat×Nat=>.tup [.int (p.2:Nat),(Tr.d∘trAt ts) p.1]) (fun p=>zee L k way p.1) (ngD L k way) (by rw[wbR];omega) (fun acc p hp hl=>?_)]
 ·rw[wcf,zOB];show(Option.bind (Option.bind (dTru (.lst ((zOf L k way).map (ngD L k way)))) _) _)=_
  by_cases hz:zOf L k way = []
  ·rw[hz,zlb hz];rfl
  ·obtain⟨i,q,h1,h2,h3,h4⟩:=zla (ngD L k way) (zdT _ _ fun x _=>⟨rfl,wae _⟩) (fun a b x y=>zoK) hz;have hne:(zOf L k way).map (ngD L k way)≠[]:=by simpa using hz
   rw[h4];have ht:dTru (.lst ((zOf L k way).map (ngD L k way)))=some true:=by
    cases hq:(zOf L k way).map (ngD L k way) with
    | nil=>exact absurd hq hne
    | cons _ _=>rfl
   rw[ht,zOB,if_pos rfl];have hm:zmm [.lst ((zOf L k way).map (ngD L k way))]=some (ngD L k way q):=by
    show(if minC _=true then minL _ else none)=_
    rw[if_pos (zdT _ _ fun x _=>⟨rfl,wae _⟩),h3]
   show(Option.bind (Option.bind (zmm [.lst ((zOf L k way).map (ngD L k way))]) fun v15=>dIx v15 (.int 2)) fun r=>some r)=_
   rw[hm];rw[zOB,show dIx (ngD L k way q) (.int 2)=some (.str (zaj L q.1)) from zat (j:=2) (xs:=[trD (trip L k way q.1),.int (q.2:Nat),.str (zaj L q.1)]) rfl];rfl
 ·have hj:p.1<L.length:=by
   have h3:p.1∈kids L (zaQ L k):=by
    rw[<-zcd (kids L (zaQ L k)) 0];exact waN.mpr ⟨p,hp,rfl⟩
   exact(zib h3).1
  obtain⟨a1,a2,a3,a4⟩:=ziO O hj;show(Option.bind (Option.bind (aC (some (zbM L k).box.d) (aC (dIx (trAt ts p.1).d (.int 1)) (aC (some (.str way)) aN))) zfO) _)=_
  rw[tr_1,a3];show(Option.bind (zfO [(zbM L k).box.d,(zbM L p.1).box.d,.str way]) _)=_
  rw[zoI hw,zOB];show(Option.bind (Option.bind (Option.bind (Option.bind (dIs true (zia (zet L k p.1 way)) D.non) dB) fun k10=>if k10 then(Option.bind (Option.bind (dIx (trAt ts p.1).d (.int 2)) fun v9=>(dEqG false v9 (.str "free"))) dB) else some false) fun k11=>if k11 then(Option.bind (Option.bind (Option.bind (aC (some (zia (zet L k p.1 way))) (aC (some (.int (p.2:Nat))) (aC (dIx (trAt ts p.1).d (.int 0)) aN))) mkT) (appL acc)) fun(x12:List D)=>(some x12)) else(some acc)) fun(s13:List D)=>(some s13))=_
  rw[tr_2,tr_0,zOB,zgd,a1,a2];unfold zee;rw[zk8 hj];cases hq:zet L k p.1 way with
  | none=>rfl
  | some t=>
    have hs:(zet L k p.1 way).isSome=true:=by rw[hq];rfl
    have hd:=zef hs
    rw[hq] at hd;rw[hd];show(Option.bind (Option.bind (some (decide ((zbM L p.1).word=("free" : Str)))) fun k11=>if k11 then _ else(some acc)) fun(s13:List D)=>(some s13))=_
    cases hf:decide ((zbM L p.1).word=("free" : Str)) with
    | false=>rfl
    | true=>
      show(Option.bind (Option.bind (appL acc (ngD L k way p)) fun(x12:List D)=>(some x12)) fun(s13:List D)=>(some s13))=_
      rw[zhW hl];rfl
end
theorem zdU {gap lo hi:Int}:(Option.bind (Option.bind (dLt (.int gap) (.int 0)) dB) fun k16=>if k16 then(Option.bind (some D.non) fun(r:D)=>some r) else(Option.bind (some (D.int lo)) fun(x19:D)=>(Option.bind (some (D.int hi)) fun(x26:D)=>(Option.bind (Option.bind (aC (Option.bind (aC (dGe x19 x26) aN) bInt) (aC (some (.int gap)) (aC (Option.bind (aC (some (.int 0)) (aC (dSub x19 x26) aN)) bMax) aN))) mkT) fun(r27:D)=>(some r27))))) =
 some (zia (if gap<0 then none else some (if lo≥hi then 1 else 0,gap,max 0 (lo - hi)))):=by
 show(if decide (gap<0)=true then some D.non else Option.bind (Option.bind (aC (bInt [.bl (decide (hi<=lo))]) (aC (some (.int gap)) (aC (some (.int (if lo - hi>0 then lo - hi else 0))) aN))) mkT) fun(r27:D)=>(some r27))=_
 by_cases hg:gap<0
 ·rw[if_pos (by simpa using hg),if_pos hg];rfl
 ·rw[if_neg (by simpa using hg),if_neg hg,zcc];by_cases ha:hi<=lo
  ·rw[if_pos ha,waH ha];rfl
  ·rw[if_neg ha,waw ha];rfl
theorem ziQ {way:Str}(h:zeq way)(b o:Bx):za3 [b.d,o.d,.str way]=some (zia (near b o way)):=by
 rcases h with rfl | rfl | rfl | rfl
 ·show zaW b.d o.d (.str "up")=_
  unfold zaW;rw[zqa,zqb];refine Eq.trans (zdU (gap:=b.y - o.y - o.hg) (lo:=(if o.x>b.x then o.x else b.x)) (hi:=(if o.x+o.wd<b.x+b.wd then o.x+o.wd else b.x+b.wd))) ?_;rw[zcc,zcR,zgc];rfl
 ·show zaW b.d o.d (.str "down")=_
  unfold zaW;rw[zk3,zk5];refine Eq.trans (zdU (gap:=o.y - b.y - b.hg) (lo:=(if o.x>b.x then o.x else b.x)) (hi:=(if o.x+o.wd<b.x+b.wd then o.x+o.wd else b.x+b.wd))) ?_;rw[zcc,zcR,zdD];rfl
 ·show zaW b.d o.d (.str "left")=_
  unfold zaW;rw[zk4,zk6];refine Eq.trans (zdU (gap:=b.x - o.x - o.wd) (lo:=(if o.y>b.y then o.y else b.y)) (hi:=(if o.y+o.hg<b.y+b.hg then o.y+o.hg else b.y+b.hg))) ?_;rw[zcc,zcR,zdE];rfl
 ·show zaW b.d o.d (.str "right")=_
  unfold zaW;rw[ziM,ziN];refine Eq.trans (zdU (gap:=o.x - b.x - b.wd) (lo:=(if o.y>b.y then o.y else b.y)) (hi:=(if o.y+o.hg<b.y+b.hg then o.y+o.hg else b.y+b.hg))) ?_;rw[zcc,zcR,zc2];rfl
section
variable {ts:List Tr}{L:List Row}{k:Nat}{way:Str}
theorem zcW {j:Nat}(h:j∈zdf L):j<L.length/\zdF L j=true:=by
 unfold zdf at h;obtain⟨h1,h2⟩:=waU.mp h;exact⟨wbd.mp h1,h2⟩
theorem zhq (L:List Row):(zdf L).length<=L.length:=by
 unfold zdf;exact waq (wcx _ _) (by rw[List.length_range];exact wae _)
theorem zcX {j:Nat}(h:zbY L k way=some j):j<L.length/\zaQ L j=zaQ L k/\zee L k way j=true:=by
 unfold zbY at h;split at h
 ·cases h
 ·obtain⟨i,_,h⟩:=zaf h;obtain⟨p,hp,rfl⟩:=wbh.mp h;exact zoJ (wal hp)
end
def opp (w:Str):Str:=if w = "up" then "down" else if w = "down" then "up" else if w = "left" then "right" else "left"
theorem zfn {w:Str}(h:zeq w):zeq (opp w):=by
 rcases h with rfl | rfl | rfl | rfl
 ·exact .inr (.inl (by decide +kernel))
 ·exact .inl (by decide +kernel)
 ·exact .inr (.inr (.inr (by decide +kernel)))
 ·exact .inr (.inr (.inl (by decide +kernel)))
theorem zdp {w:Str}(h:zeq w):zaZ [.str w]=some (.str (opp w)):=by
 rcases h with rfl | rfl | rfl | rfl <;> decide +kernel
theorem zbn (g a b c d:Int):(zep g a b c d).isSome = !decide (g<0):=by
 unfold zep;by_cases h:g<0
 ·rw[if_pos h,waH h];rfl
 ·rw[if_neg h,waw h];rfl
theorem ziR {w:Str}(h:zeq w)(b o:Bx):(near o b (opp w)).isSome=(near b o w).isSome:=by
 rcases h with rfl | rfl | rfl | rfl
 ·rw[show opp "up" = "down" by decide +kernel,zgc,zdD,zbn,zbn]
 ·rw[show opp "down" = "up" by decide +kernel,zgc,zdD,zbn,zbn]
 ·rw[show opp "left" = "right" by decide +kernel,zdE,zc2,zbn,zbn]
 ·rw[show opp "right" = "left" by decide +kernel,zdE,zc2,zbn,zbn]
theorem zlc {L:List Row}(hn:(L.map (·.name)).Nodup){i j:Nat}(hi:i<L.length)(hj:j<L.length)(h:zaj L i=zaj L j):i=j:=by
 rw[zcm (zbr hi),zcm (zbr hj)] at h;have e1:=zbr hi
 have e2:=zbr hj
 rw[waa hi] at e1;rw[waa hj] at e2;rw[<-wau e1,<-wau e2] at h;have pw:=wbn.mp hn
 rcases Nat.lt_trichotomy i j with q | q | q
 ·have:=pw i j (by simpa using hi) (by simpa using hj) q
  rw[wbL,wbL] at this;exact absurd h this
 ·exact q
 ·have:=pw j i (by simpa using hj) (by simpa using hi) q
  rw[wbL,wbL] at this;exact absurd h.symm this
section
variable {ts:List Tr}{L:List Row}{k:Nat}{way:Str}
theorem zjm (h:zOf L k way≠[]):∃j,zbY L k way=some j:=by
 obtain⟨i,q,h1,h2,h3,h4⟩:=zla (ngD L k way) (zdT _ _ fun x _=>⟨rfl,wae _⟩) (fun a b x y=>zoK) h;exact⟨_,h4⟩
theorem zcq (hk:k<L.length)(ho:zdF L k=true){j:Nat}(h:zbY L k way=some j):j<L.length/\zdF L j=true:=by
 obtain⟨h1,h2,h3⟩:=zcX h;refine⟨h1,?_⟩;rw[zk7 h2 ho];unfold zee at h3;rw[waj] at h3;exact h3.2
theorem zfS (ho:zdF L k=true):zdg L k=true:=by
 have:(above L k++[k]).all (zdg L)=true:=ho
 rw[wbS,waj] at this;simpa using this.2
theorem zhr (hw:zeq way)(hk:k<L.length)(ho:zdF L k=true){j:Nat}(h:zbY L k way=some j):∃b,zbY L j (opp way)=some b:=by
 obtain⟨h1,h2,h3⟩:=zcX h;refine zjm fun hz=>?_
 have hm:k∈kids L (zaQ L j):=waU.mpr ⟨wbd.mpr hk,waH h2.symm⟩
 obtain⟨i,hi⟩:=wbA hm;have hq:zee L j (opp way) k=true:=by
  unfold zee at h3⊢;rw[waj] at h3⊢;refine⟨?_,zfS ho⟩;unfold zet at h3⊢;rw[ziR hw];exact h3.1
 have:(k,i)∈zOf L j (opp way):=waU.mpr ⟨wbO.mpr hi,hq⟩
 rw[hz] at this;cases this
def stW (L:List Row)(k:Nat)(w:Str):Option D:=(zbY L k w).bind fun j=>(zbY L j (opp w)).bind fun b=>if b=k then none else some (.tup [.str (zaj L k),.str w,.str (zaj L j),.str (zaj L b)])
def ways4:List Str:=["up","down","left","right"]
theorem zfo:∀w∈ways4,zeq w:=fun w h=>by
 simp only[ways4,was,List.not_mem_nil,or_false] at h;exact h
def st1 (L:List Row)(k:Nat):List D:=(ways4.filter fun w=>(stW L k w).isSome).map fun w=>(stW L k w).getD .non
def stL (L:List Row):List D:=(zdf L).flatMap (st1 L)
theorem zld (L:List Row)(k:Nat):(st1 L k).length<=4:=by
 unfold st1;rw[wao];exact waq (wcx _ _) (by decide)
theorem zmI (h:zbY L k way=none):stW L k way=none:=by unfold stW;rw[h];rfl
theorem ziS {j b:Nat}(h:zbY L k way=some j)(h2:zbY L j (opp way)=some b):stW L k way=if b=k then none else some (.tup [.str (zaj L k),.str way,.str (zaj L j),.str (zaj L b)]):=by unfold stW;rw[h,zOB,h2,zOB]
theorem w4:[D.str "up",D.str "down",D.str "left",D.str "right"]=ways4.map D.str:=rfl
theorem zle (O:On ts L)(hL:L.length<=200):zdN [.tup (ts.map Tr.d)]=some (.new 1 (.lst (stL L)),[.non]):=by
 have hf:=zhq L
 show zeF (.tup (ts.map Tr.d))=_
 unfold zeF;rw[zOB,zdQ O hL];show Option.bind (Option.bind (some ((zdf L).map fun j=>D.str (zaj L j))) _) _=_
 rw[zOB,zfM (m:=4) (fun j=>D.str (zaj L j)) (st1 L) (acc:=[]) (by rw[wbR];omega) (fun acc k hk hl=>?_) (zld L)]
 ·rfl
 ·obtain⟨hkl,hko⟩:=zcW hk;rw[w4,zOB,zdI D.str (fun w=>(stW L k w).isSome) (fun w=>(stW L k w).getD .non) (by show acc.length+4<=10000;omega) fun acc w hw hl=>?_]
  ·rfl
  ·have hw:=zfo w hw
   rw[zbR O hL hw hkl hko,zOB];cases h1:zbY L k w with
   | none=>
     rw[zmI h1];show Option.bind (Option.bind (Option.bind (dEqG true (.str (zaj L k)) (.str (zaj L k))) dB) _) _=_
     rw[zdJ rfl];rfl
   | some j=>
     obtain⟨hjl,hjo⟩:=zcq hkl hko h1;obtain⟨b,h2⟩:=zhr hw hkl hko h1;obtain⟨hbl,hbo⟩:=zcq hjl hjo h2;show Option.bind (Option.bind (aC (some (.tup (ts.map Tr.d))) (aC (some (.str (zaj L j))) (aC (zaZ [.str w]) aN))) zaS) _=_
     rw[zdp hw];show Option.bind (zaS [.tup (ts.map Tr.d),.str (zaj L j),.str (opp w)]) _=_
     rw[zbR O hL (zfn hw) hjl hjo,h2,zOB,ziS h1 h2];show Option.bind (Option.bind (Option.bind (dEqG true (.str (zaj L b)) (.str (zaj L k))) dB) _) _=_
     rw[zmv];by_cases hb:b=k
     ·rw[if_pos hb,waH (by rw[hb])];rfl
     ·rw[if_neg hb,waw fun e=>hb (zlc O.names hbl hkl e)];show Option.bind (Option.bind (appL acc _) _) _=_
      rw[zhW hl];rfl
end
theorem zhs {k:Nat}{lt:Nat->Nat->Option Bool}{r:Nat->Nat->Bool}(hlt:∀a b,a<=k->b<=k->lt a b=some (r a b))(tr:∀a b c,a<=k->b<=k->c<=k->r a b=true->r b c=true->r a c=true)(tot:∀a b,a<=k->b<=k->a≠b->r a b=false->r b a=true):∀(n i:Nat),n<=k->zde lt n=some i->∀a,a<=n->a≠i->r i a=true
 | 0,i,_,h,a,ha,hne=>by cases h;omega
 | n+1,i,hn,h,a,ha,hne=>by
   obtain⟨m,e,h⟩:=zaf h;have hm:=zdC e
   rw[hlt _ _ hn (by omega),zOB] at h;have ih:=zhs hlt tr tot n m (by omega) e
   cases hb:r (n+1) m with
   | true=>
     rw[hb,if_pos rfl] at h;cases h;by_cases ham:a=m
     ·rw[ham];exact hb
     ·exact tr _ m _ hn (by omega) (by omega) hb (ih a (by omega) ham)
   | false=>
     rw[hb,if_neg (by decide)] at h;cases h;by_cases han:a=n+1
     ·rw[han];exact tot (n+1) i hn (by omega) (by omega) hb
     ·exact ih a (by omega) hne
def lt4 (t:Int×Int×Int)(n:Nat)(u:Int×Int×Int)(m:Nat):Prop:=t.1<u.1\/(t.1=u.1/\(t.2.1<u.2.1\/(t.2.1=u.2.1/\(t.2.2<u.2.2\/(t.2.2=u.2.2/\n<m)))))
theorem lt4_iff {t u:Int×Int×Int}{n m:Nat}:(if t=u then decide (n<m) else lex3 t u)=true↔lt4 t n u m:=by
 obtain⟨a,b,c⟩:=t;obtain⟨x,y,z⟩:=u;unfold lt4 lex3;by_cases h:(a,b,c)=(x,y,z)
 ·rw[if_pos h];cases h;simp
 ·rw[if_neg h];simp only[Bool.or_eq_true,waj,decide_eq_true_eq];simp only[Prod.mk.injEq] at h;omega
section
variable {ts:List Tr}{L:List Row}{k:Nat}{way:Str}
theorem zfp {a b:Nat}{x y:Nat×Nat}(ha:(zOf L k way)[a]?=some x)(hb:(zOf L k way)[b]?=some y):zlt L k way a b=some (if trip L k way x.1=trip L k way y.1 then decide (x.2<y.2) else lex3 (trip L k way x.1) (trip L k way y.1)):=by
 unfold zlt;rw[ha,hb];rfl
theorem zic {b c:Nat}(h:zbY L k way=some b)(hc:c<L.length)(hp:zaQ L c=zaQ L k)(hq:zee L k way c=true)(hne:c≠b):lt4 (trip L k way b) b (trip L k way c) c:=by
 have hm:c∈kids L (zaQ L k):=waU.mpr ⟨wbd.mpr hc,waH hp⟩
 obtain⟨i,hi⟩:=wbA hm;have hz:(c,i)∈zOf L k way:=waU.mpr ⟨wbO.mpr hi,hq⟩
 obtain⟨a,ha⟩:=wbA hz;have hne0:zOf L k way≠[]:=List.ne_nil_of_mem hz
 obtain⟨m,p,h1,h2,_,h4⟩:=zla (ngD L k way) (zdT _ _ fun x _=>⟨rfl,wae _⟩) (fun a b x y=>zoK) hne0;rw[h] at h4;cases h4;obtain⟨la,_⟩:=wab.mp ha;have at':∀a,a<=(zOf L k way).length - 1->∃x,(zOf L k way)[a]?=some x:=fun a h=>⟨_,waa (by omega)⟩
 have key:=zhs (k:=(zOf L k way).length - 1) (lt:=zlt L k way) (r:=fun a b=>(zlt L k way a b).getD false) (fun a b qa qb=>by
  obtain⟨x,hx⟩:=at' a qa;obtain⟨y,hy⟩:=at' b qb;show _=some ((zlt L k way a b).getD false)
  rw[zfp hx hy];rfl) (fun a b c qa qb qc e1 e2=>by
  obtain⟨x,hx⟩:=at' a qa;obtain⟨y,hy⟩:=at' b qb;obtain⟨z,hz⟩:=at' c qc;replace e1:(zlt L k way a b).getD false=true:=e1
  replace e2:(zlt L k way b c).getD false=true:=e2
  show(zlt L k way a c).getD false=true
  rw[zfp hx hy,wbM,lt4_iff] at e1;rw[zfp hy hz,wbM,lt4_iff] at e2;rw[zfp hx hz,wbM,lt4_iff];unfold lt4 at *;omega) (fun a b qa qb hab e1=>by
  obtain⟨x,hx⟩:=at' a qa;obtain⟨y,hy⟩:=at' b qb;have pw:=wbn.mp (zk9 L k way)
  have hxy:x.2≠y.2:=by
   obtain⟨la,rfl⟩:=wab.mp hx;obtain⟨lb,rfl⟩:=wab.mp hy;rcases Nat.lt_or_gt_of_ne hab with q | q
   ·have:=pw a b la lb q;omega
   ·have:=pw b a lb la q;omega
  replace e1:(zlt L k way a b).getD false=false:=e1
  show(zlt L k way b a).getD false=true
  rw[zfp hx hy,wbM] at e1;have e2:¬lt4 (trip L k way x.1) x.2 (trip L k way y.1) y.2:=fun z=>by rw[lt4_iff.mpr z] at e1;cases e1
  rw[zfp hy hx,wbM,lt4_iff];unfold lt4 at *;omega) _ m (wae _) h1 a (by omega) (by rintro rfl;rw[ha] at h2;cases h2;exact hne rfl)
 replace key:(zlt L k way m a).getD false=true:=key
 rw[zfp h2 ha,wbM,lt4_iff] at key;have pc:=(znj (zk9 L k way) h2 ha).1
 unfold lt4 at *;dsimp only at *;omega
theorem zqc (hw:zeq way)(hk:k<L.length)(ho:zdF L k=true){j:Nat}(h:zbY L k way=some j):zee L j (opp way) k=true:=by
 obtain⟨h1,h2,h3⟩:=zcX h;unfold zee at h3⊢;rw[waj] at h3⊢;refine⟨?_,zfS ho⟩;unfold zet at h3⊢;rw[ziR hw];exact h3.1
def nKey (p:Row×Nat):Key:=.inr p.1.name
def nVal (p:Row×Nat):D:=.int (p.2:Nat)
def numD (L:List Row):D:=dctD nKey nVal L.zipIdx
theorem znk (hn:(L.map (·.name)).Nodup):(L.zipIdx.map nKey).Nodup:=by
 have e:L.zipIdx.map nKey=(L.map (·.name)).map Sum.inr:=by
  conv=>rhs;rw[<-zcd L 0]
  rw[waM,waM];rfl
 rw[e];exact List.pairwise_map.mpr (hn.imp fun h z=>h (wcJ z))
theorem zqd (hn:(L.map (·.name)).Nodup)(hL:L.length<=200){f:D->D->Option D}(hf:∀s (R:Row) (i:Nat),f s (.tup [.int (i:Nat),R.d])=zi6 s (.str R.name) (.int (i:Nat))):Option.bind (zkL [zaT L]) (zcP f (.dct [] []))=some (numD L):=by
 show zcP f (.dct [] []) (zen (L.map Row.d))=_
 rw[zha];refine zhb (fun p:Row×Nat=>.tup [.int (p.2:Nat),p.1.d]) (dctD nKey nVal) (xs:=L.zipIdx) (fun pre x post e=>?_) [] L.zipIdx rfl;rw[hf];have nd:=znk hn
 rw[e,wap,wav] at nd;exact zkK (key:=nKey) (val:=nVal) (x:=x) rfl (fun h=>(wbl.mp nd).2.2 _ h _ war rfl) (by
  have:=wbg List.length e
  rw[List.length_zipIdx,wam] at this;omega)
theorem zlf (hk:k<L.length):(zbM L k,k)∈L.zipIdx:=wbO.mpr (zbr hk)
theorem zlg (hk:k<L.length):dInG true (.str (zaj L k)) (numD L)=some (.bl false):=by
 show some (D.bl (!hasK (L.zipIdx.map nKey) (.inr (zaj L k))))=_
 rw[hasK_mem.mpr (waN.mpr ⟨_,zlf hk,by unfold nKey;rw[zcm (zbr hk)]⟩)];rfl
theorem zid (hn:(L.map (·.name)).Nodup)(hk:k<L.length):dGet (numD L) (.str (zaj L k))=some (.int (k:Nat)):=by
 show dLook (L.zipIdx.map nKey) (L.zipIdx.map nVal) (.inr (zaj L k))=_
 have:=zhc (val:=nVal) (znk hn) (zlf hk)
 unfold nKey at this;dsimp only at this;rw[<-zcm (zbr hk)] at this;exact this
theorem aC3 {a b c:D}:aC (some a) (aC (some b) (aC (some c) aN))=some [a,b,c]:=rfl
theorem zqU (O:On ts L)(hL:L.length<=200)(hw:zeq way)(hk:k<L.length)(ho:zdF L k=true){j b:Nat}(h1:zbY L k way=some j)(h2:zbY L j (opp way)=some b)(hbk:b≠k) :
 zaM [.tup (ts.map Tr.d),zaT L,numD L,.tup [.str (zaj L k),.str way,.str (zaj L j),.str (zaj L b)]]=some (.bl true):=by
 obtain⟨hjl,hjo⟩:=zcq hk ho h1;obtain⟨hbl,hbo⟩:=zcq hjl hjo h2;have hn:=O.names
 have n1:=zbR O hL hw hk ho
 have n2:=zbR O hL (zfn hw) hjl hjo
 rw[h1] at n1;rw[h2] at n2;have hb:¬zaj L b=zaj L k:=fun e=>hbk (zlc hn hbl hk e)
 have q1:=zqc hw hk ho h1
 have q2:=(zcX h2).2.2
 have s1:(zet L j k (opp way)).isSome=true:=by unfold zee at q1;rw[waj] at q1;exact q1.1
 have s2:(zet L j b (opp way)).isSome=true:=by unfold zee at q2;rw[waj] at q2;exact q2.1
 have le:=zic h2 hk (zcX h1).2.1.symm q1 (fun e=>hbk e.symm)
 have l1:za3 [(zbM L j).box.d,(zbM L k).box.d,.str (opp way)]=some (trD (trip L j (opp way) k)):=by rw[ziQ (zfn hw),<-zef s1];rfl
 have l2:za3 [(zbM L j).box.d,(zbM L b).box.d,.str (opp way)]=some (trD (trip L j (opp way) b)):=by rw[ziQ (zfn hw),<-zef s2];rfl
 show za8 (.tup (ts.map Tr.d)) (zaT L) (numD L) (.tup [.str (zaj L k),.str way,.str (zaj L j),.str (zaj L b)])=_
 unfold za8;rw[show un4 (.tup [.str (zaj L k),.str way,.str (zaj L j),.str (zaj L b)])=some (.str (zaj L k),.str way,.str (zaj L j),.str (zaj L b)) from rfl,zOB];dsimp only[];rw[zlg hk,zlg hjl,zlg hbl,zgd,waw hb];show Option.bind (Option.bind (Option.bind (Option.bind (zaS [.tup (ts.map Tr.d),.str (zaj L k),.str way]) _) dB) _) _=_
 rw[n1,zdp hw,aC3,zid hn hjl,zid hn hk,zid hn hbl];simp only[zOB];rw[n2,zfb (zbr hjl),zfb (zbr hk),zfb (zbr hbl)];simp only[zOB];rw[zou,zou,zou];simp only[zOB];show Option.bind (Option.bind (Option.bind (dEqG true (.str (zaj L j)) (.str (zaj L j))) dB) fun k9=>if k9 then some true else Option.bind (dEqG true (.str (zaj L b)) (.str (zaj L b))) dB) _=_
 rw[zdJ rfl,zdJ rfl];show Option.bind (za3 [(zbM L j).box.d,(zbM L k).box.d,.str (opp way)]) _=_
 rw[l1,zOB];show Option.bind (za3 [(zbM L j).box.d,(zbM L b).box.d,.str (opp way)]) _=_
 rw[l2,zOB];show Option.bind (dLtG (.tup [trD (trip L j (opp way) b),.int (b:Nat)]) (.tup [trD (trip L j (opp way) k),.int (k:Nat)])) _=_
 unfold dLtG;rw[if_pos (show(ndD (.tup [trD (trip L j (opp way) b),.int (b:Nat)])&&ndD (.tup [trD (trip L j (opp way) k),.int (k:Nat)])&&decide (depD (.tup [trD (trip L j (opp way) b),.int (b:Nat)])<=40))=true from rfl),zkJ (xs:=[]) (ys:=[]) rfl fun _=>by rw[ltL],zal (show((b:Nat):Int)<((k:Nat):Int)↔b<k by omega),lt4_iff.mpr le];rfl
def kyD:D->List Key
 | .tup (.str a::.str b::_)=>[.inr a,.inr b]
 | _=>[]
def tdD (xs:List D):D:=.dcu (xs.map kyD) (xs.map fun _=>.bl true)
theorem zoL {d:D}(h:d∈stL L):∃k w,k∈zdf L/\w∈ways4/\stW L k w=some d:=by
 obtain⟨k,hk,hd⟩:=List.mem_flatMap.mp h;obtain⟨w,hw,rfl⟩:=waN.mp hd;obtain⟨hw1,hs⟩:=waU.mp hw;obtain⟨d,e⟩:=wbc.mp hs;exact⟨k,w,hk,hw1,by rw[e];rfl⟩
theorem znl {w:Str}{d:D}(h:stW L k w=some d):∃j b,zbY L k w=some j/\zbY L j (opp w)=some b/\b≠k/\d=.tup [.str (zaj L k),.str w,.str (zaj L j),.str (zaj L b)]:=by
 unfold stW at h;obtain⟨j,h1,h⟩:=zaf h;obtain⟨b,h2,h⟩:=zaf h;split at h
 ·cases h
 ·rename_i hb;cases h;exact⟨j,b,h1,h2,hb,rfl⟩
theorem zqe {w:Str}{d:D}(hk:k∈zdf L)(hw:w∈ways4)(h:stW L k w=some d):d∈stL L:=
 List.mem_flatMap.mpr ⟨k,hk,waN.mpr ⟨w,waU.mpr ⟨hw,by rw[h];rfl⟩,by rw[h];rfl⟩⟩
theorem zoM:(stL L).map kyD=(zdf L).flatMap fun k=>(ways4.filter fun w=>(stW L k w).isSome).map fun w=>[.inr (zaj L k),.inr w]:=by
 unfold stL;rw[List.map_flatMap];congr 1;funext k
 unfold st1;rw[waM];refine wbI fun w hw=>?_
 obtain⟨d,e⟩:=wbc.mp (waU.mp hw).2;obtain⟨j,b,_,_,_,rfl⟩:=znl e;show kyD ((stW L k w).getD .non)=_
 rw[e];rfl
theorem zqV (hn:(L.map (·.name)).Nodup):((stL L).map kyD).Nodup:=by
 rw[zoM];refine List.pairwise_flatMap.mpr ⟨fun k _=>List.pairwise_map.mpr ?_,?_⟩
 ·have nd:(ways4.filter fun w=>(stW L k w).isSome).Pairwise (·≠·):=(show ways4.Pairwise (·≠·) by decide +kernel).filter _
  refine nd.imp fun {a b} h z=>h ?_
  injection z with _ z
  injection z with z _
  exact wcJ z
 ·have:(zdf L).Pairwise (· < ·):=(ziP _).filter _
  refine List.Pairwise.imp_of_mem (fun {a b} ha hb h x hx y hy e=>?_) this;obtain⟨w,_,rfl⟩:=waN.mp hx;obtain⟨u,_,rfl⟩:=waN.mp hy;injection e with e _
  have:=zlc hn (zcW ha).1 (zcW hb).1 (wcJ e)
  omega
theorem zht {S A α:Type}{f:S->D->Option (Fl S A)}(h:α->D)(G:List α->S){xs:List α}(hf:∀pre x post,xs=pre++x::post->f (G pre) (h x)=some (.nx (G (pre++[x])))):∀(pre post:List α),xs=pre++post->zd0 f (G pre) (post.map h)=some (.nx (G xs))
 | pre,[],e=>by rw[e,waJ];rfl
 | pre,x::post,e=>by
   show(f (G pre) (h x)).bind _=_
   rw[hf pre x post e,zOB];exact zht h G hf (pre++[x]) post (by rw[e];simp)
theorem hasU_mem {ks:List (List Key)}{j:List Key}:hasU ks j=true↔j∈ks:=by
 unfold hasU;rw[wbK];exact⟨fun⟨y,hy,e⟩ =>(wbk e)▸hy,fun h=>⟨j,h,waH rfl⟩⟩
theorem zlh {ks:List (List Key)}{j:List Key}(h:j∉ks):hasU ks j=false:=Bool.eq_false_iff.mpr fun z=>h (hasU_mem.mp z)
theorem zoN (O:On ts L)(hL:L.length<=200){A:Type}{f:D->D->Option (Fl D A)}(hf:∀s d key,(d∈stL L)->(∃a b c e:Str,d=.tup [.str a,.str b,.str c,.str e]/\key=.tup [.str a,.str b])->zaM [.tup (ts.map Tr.d),zaT L,numD L,d]=some (.bl true)->dInT false key s=some (.bl false)->f s d=(zoz s key (.bl true)).bind fun x=>some (.nx x)):zd0 f (.dcu [] []) (stL L)=some (.nx (tdD (stL L))):=by
 have hn:=O.names
 have nd:=zqV hn
 have hlen:(stL L).length<=800:=by
  unfold stL;have:∀xs:List Nat,(xs.flatMap (st1 L)).length<=4*xs.length:=fun xs=>by
   induction xs with
   | nil=>exact wae _
   | cons x xs ih=>rw[List.flatMap_cons,wam,waS];have:=zld L x;omega
  have h1:=this (zdf L)
  have h2:=zhq L
  omega
 have:=zht (f:=f) id tdD (xs:=stL L) (fun pre d post e=>?_) [] (stL L) rfl
 ·rw[List.map_id] at this;exact this
 ·have hd:d∈stL L:=by rw[e];exact waE _ war
  obtain⟨k,w,hk,hw,hs⟩:=zoL hd;obtain⟨hkl,hko⟩:=zcW hk;have hway:=zfo w hw
  obtain⟨j,b,h1,h2,h3,rfl⟩:=znl hs;have hnew:[Sum.inr (zaj L k),Sum.inr w]∉pre.map kyD:=fun z=>by
   rw[e,wap,wav] at nd;exact(wbl.mp nd).2.2 _ z _ war rfl
  have hpre:pre.length<=800:=by
   have:=wbg List.length e
   rw[wam] at this;omega
  refine(hf (tdD pre) _ (.tup [.str (zaj L k),.str w]) hd ⟨_,_,_,_,rfl,rfl⟩ (zqU O hL hway hkl hko h1 h2 h3) ?_).trans ?_
  ·show some (D.bl (hasU (pre.map kyD) [.inr (zaj L k),.inr w]))=_
   rw[zlh hnew]
  ·show Option.bind (if(pre.map kyD).length<lim then some (D.dcu (zer (pre.map kyD) (pre.map fun _=>.bl true) [.inr (zaj L k),.inr w] (.bl true)).1 (zer (pre.map kyD) (pre.map fun _=>.bl true) [.inr (zaj L k),.inr w] (.bl true)).2) else none) _=_
   rw[if_pos (by rw[wao];exact wbe hpre (by decide)),zOB];unfold zer;have hany:((pre.map kyD).any fun k'=>decide (k' = [.inr (zaj L k),.inr w]))=false:=zlh hnew
   rw[hany,if_neg (by decide)];unfold tdD;rw[wap,wap];rfl
end
theorem zoO {F:List D->Option (RV×List D)}{d v d':D}{a:D}(z:F [d,a]=some (.told v,[d',.non])):(Option.bind (zmn F (fun e=>e) [d,a]) fun q=>some (q.1.d,q.2))=some (v,d'):=by unfold zmn;rw[z];rfl
theorem zqf (ms:List Int)(hm:ms.length<=63):zkQ (fdD ms 0 0)=some (.bl true):=by
 obtain⟨L,d1,z1,W,F1⟩:=zoD (most:=7) (d:=fdD ms 0 0) (B:=0) ⟨ms,0,0,rfl,by omega,by omega,by omega,hm⟩ (by omega) (by decide);replace z1:zbA [fdD ms 0 0,.int 7]=some (.told (zaT L),[d1,.non]):=z1
 have hL:L.length<=200:=waq W.len (by decide)
 obtain⟨ts,hs,O⟩:=zoE W (by decide);have hn:=O.names
 unfold zkQ;rw[zoO z1,zOB];try dsimp only[]
 rw[hs,zOB,zOB,zqd hn hL fun s R i=>?_,zOB,zOB]
 ·show Option.bind (Option.bind (Option.bind (Option.bind (zdN [.tup (ts.map Tr.d)]) _) _) _) _=_
  rw[zle O hL];show Option.bind (zd0 _ (D.dcu [] []) (stL L)) _=_
  rw[zoN O hL fun s d key hd hq h1 h2=>?_,zOB]
  ·show Option.bind (Option.bind (zbc [.tup (ts.map Tr.d)]) _) _=_
   rw[zdQ O hL];show Option.bind (zd0 _ () ((zdf L).map fun j=>D.str (zaj L j))) _=_
   rw[zd4 (fun j=>D.str (zaj L j)) fun k hk=>?_]
   ·rfl
   ·obtain⟨hkl,hko⟩:=zcW hk;rw[w4,zOB,zd4 D.str fun w hw=>?_]
    ·rfl
    ·have hway:=zfo w hw
     rw[zbR O hL hway hkl hko,zOB];cases h1:zbY L k w with
     | none=>rfl
     | some j=>
       obtain⟨hjl,hjo⟩:=zcq hkl hko h1;obtain⟨b,h2⟩:=zhr hway hkl hko h1;by_cases hb:b=k
       ·rw[zdp hway];show Option.bind (Option.bind (some (!hasU ((stL L).map kyD) [.inr (zaj L k),.inr w])) fun k56=>if k56 then(Option.bind (Option.bind (zaS [.tup (ts.map Tr.d),.str (zaj L j),.str (opp w)]) fun v55=>((dEqG true) v55 (.str (zaj L k)))) dB) else some false) _=_
        rw[zbR O hL (zfn hway) hjl hjo,h2,hb];show Option.bind (Option.bind (some (!hasU ((stL L).map kyD) [.inr (zaj L k),.inr w])) fun k56=>if k56 then(Option.bind (dEqG true (.str (zaj L k)) (.str (zaj L k))) dB) else some false) _=_
        rw[zdJ rfl,zOB];cases hasU ((stL L).map kyD) [.inr (zaj L k),.inr w] <;> rfl
       ·have hs:=ziS (L:=L) h1 h2
        rw[if_neg hb] at hs;have hh:dInT true (.tup [.str (zaj L k),.str w]) (tdD (stL L))=some (.bl false):=by
         show some (D.bl (!hasU ((stL L).map kyD) [.inr (zaj L k),.inr w]))=_
         rw[hasU_mem.mpr (show[Sum.inr (zaj L k),Sum.inr w]∈(stL L).map kyD from waN.mpr ⟨_,zqe hk hw hs,rfl⟩)];rfl
        rw[hh];rfl
  ·obtain⟨a,b,c,e,rfl,rfl⟩:=hq;show Option.bind (Option.bind (dInT false (.tup [.str a,.str b]) s) dB |>.bind fun k42=>if k42 then some true else(Option.bind (Option.bind (zaM [.tup (ts.map Tr.d),zaT L,numD L,.tup [.str a,.str b,.str c,.str e]]) dTru) fun k41=>some (!k41))) _=_
   rw[h2,h1];rfl
 ·show Option.bind (Option.bind (dIx R.d (.int 1)) _) _=_
  rw[zqP];show Option.bind (zi6 s (.str R.name) (.int (i:Nat))) _=_
  cases zi6 s (.str R.name) (.int (i:Nat)) <;> rfl
def zli (K:W.Frag):Sp:=fun vs H Q _=>∃(s:Addr) (ns:List Int),vs = [.ref s]/\SqL K H s (ns.map V.int)/\ns.length<=63/\∀(a c:Addr) (ms:List Int) (H':Hp),Same H H'->H' a=some (.dK [(.inr "cells",.ref c),(.inr "at",.int 0),(.inr "left",.int 0)])->H' c=some (.lst (ms.map V.int))->ms.length<=63->H a=none->H c=none->c≠a->Q (.ref a) H'
theorem zlj (ns:List Int)(lo hi:Option Int):∃ms:List Int,cutV (ns.map V.int) lo hi=ms.map V.int/\ms.length<=ns.length:=by
 refine⟨(ns.drop (HT.sIx (ns.map V.int).length 0 lo)).take (HT.sIx (ns.map V.int).length (ns.map V.int).length hi - HT.sIx (ns.map V.int).length 0 lo),?_,?_⟩
 ·unfold cutV;rw[List.map_take,List.map_drop]
 ·rw[wbq,wcy];omega
section
variable {P:Program}{w:World}{K:W.Frag}{mg:Str->Option Value}{base:Heap}{f g:Addr}{fd gd:FuncData}
theorem zmJ (F:Fun K "_law_feed" "_law_feed" zdi f fd)(ml:mg "list"=none):FnOk P w K mg base CX0 1 f fd ["_law_script"] (zli K):=by
 refine F.ok zhe (fun vs H Q E h=>?_) (fun cdv A outer s H vs Q E hr h=>?_)
 ·obtain⟨sc,ns,rfl,_⟩:=h;rfl
 obtain⟨sc,ns,rfl,hS,hl,fin⟩:=h;refine⟨_,zjr (zii (znG (zf3 zgt (zgC zgF rfl ml boot_list (zcr (zfX sl_list (pv 0) zjE (zjF zig)) zdr)) (zf3 zgt zig (zf3 zgt zig znF))) rfl rfl (by simp) (by decide))),?_⟩;intro a ha;have s1:=zdt ha (.dK [])
 refine⟨_,rfl,_,rfl,sc,_,rfl,s1.seq hS,fun p hp=>?_⟩;have s2:=zdt hp (.lst (cutV (ns.map V.int) none (some 63)))
 obtain⟨ms,em,hm⟩:=zlj ns none (some 63);refine⟨p,_,rfl,.inl (SqL.of zah),fun c hc=>?_⟩;have s3:=zdt hc (.lst (cutV (ns.map V.int) none (some 63)))
 have ea:=s3 _ _ (s2 _ _ (zah (H:=H) (a:=a) (o:=.dK [])))
 refine⟨ea,[(.inr "cells",.ref c),(.inr "at",.int 0),(.inr "left",.int 0)],rfl,(show 3<=15 by decide),?_⟩;have hca:c≠a:=fun z=>by rw[z] at hc;rw[s2 _ _ (zah (H:=H) (a:=a) (o:=.dK []))] at hc;cases hc
 have hcn:H c=none:=by
  cases z:H c with
  | none=>rfl
  | some o=>rw[s2 _ _ (s1 _ _ z)] at hc;cases hc
 refine fin a c ms _ ?_ zah ?_ (by omega) ha hcn hca
 ·exact fun b o e=>by rw[zak (za5 e ha)];exact s3 _ _ (s2 _ _ (s1 _ _ e))
 ·rw[zak hca,zah,em]
def spLaw (K:W.Frag):Sp:=fun vs H Q _=>∃(s:Addr) (ns:List Int),vs = [.ref s]/\ns.length<=63/\SqL K H s (ns.map V.int)/\∀H',Q (.bl true) H'
theorem ziT {H:Hp}{J:Addr->Prop}:∀ms:List Int,RpL K H J (ms.map V.int) (ms.map D.int)
 | []=>.nil
 | m::ms=>.cons (.int m) (ziT ms)
theorem zoP {H H1:Hp}{a c:Addr}{ms:List Int}{x:Option V}(s1:Same H H1)(h1:H1 a=some (.dK [(.inr "cells",.ref c),(.inr "at",.int 0),(.inr "left",.int 0)]))(h2:H1 c=some (.lst (ms.map V.int)))(ha:H a=none)(hc:H c=none)(hne:c≠a)(m:Nat) :
 ST K H (fun _=>False) Pr.no (.un::.own 1 (fdD ms 0 0)::List.replicate m .un) (x::some (.ref a)::List.replicate m none) H1 (fun b=>b=c) where
 same:=fun b o _ e=>s1 b o e
 j0:=fun _ h=>h.elim
 jn:=fun b h=>.inr (by rw[show b=c from h];exact hc)
 ja:=fun b h=>by rw[show b=c from h,h2];simp
 len:=by simp
 vl:=fun i d h=>by
  match i with
  | 0=>cases h
  | 1=>cases h
  | i+2=>
    have h:(List.replicate m SV.un)[i]?=some (.val d):=h
    rw[wbF] at h;split at h <;> cases h
 ow:=by
  have ru:RpU K H1 (fun b=>b=c) 1 (.ref a) (fdD ms 0 0) [a]:=RpU.dct (n:=0) (A:=[]) h1 rfl rfl (RpUL.cons (A:=[]) (B:=[]) (.frz (.lst h2 rfl (ziT ms))) (RpUL.cons (A:=[]) (B:=[]) (.frz (.int 0)) (RpUL.cons (A:=[]) (B:=[]) (.frz (.int 0)) .nil)))
  refine⟨fun i=>if i=1 then[a] else[],fun i=>?_,fun i=>?_,fun i b hb=>?_,fun i j hij b hb=>?_⟩
  ·match i with
   | 0=>rfl
   | 1=>exact⟨⟨.ref a,rfl,ru⟩,fun b hb=>by rw[waf.mp hb];exact ha⟩
   | i+2=>
     show OwAt K H H1 _ _ _ _ ((List.replicate m SV.un)[i]?)
     rw[wbF,if_neg (by omega:¬i+2=1)];by_cases hi:i<m
     ·rw[if_pos hi];rfl
     ·rw[if_neg hi];rfl
  ·show(if i=1 then[a] else[]).Nodup
   split <;> simp
  ·have hb:b∈(if i=1 then[a] else[]):=hb
   split at hb
   ·rw[waf.mp hb];exact fun z=>hne z.symm
   ·cases hb
  ·have hb:b∈(if i=1 then[a] else[]):=hb
   show b∉(if j=1 then[a] else[])
   split at hb
   ·rw[if_neg (by omega)];simp
   ·cases hb
 ps:=fun q hq=>absurd hq (by simp[Pr.no])
 al:=fun b h=>by
  cases z:H b with
  | none=>exact absurd z h
  | some o=>rw[s1 _ _ z];simp
theorem zoQ {H H1:Hp}{g:FS}{t:TS}{ρ:En}{σ:L2.St}{J:Addr->Prop}{Q:VK}(q:GoS K t g)(s:ST K H (fun _=>False) Pr.no ρ σ H1 J)(e:(g ρ).bind kF=some (.bl true))(fin:∀H',Q (.bl true) H'):t {nx:=fun _ H'=>Q .non H',rt:=Q} σ H1:=by
 obtain⟨o,e1,e2⟩:=zaf e;refine q H (fun _=>False) Pr.no ρ σ H1 J o _ s e1 ?_;cases o with
 | nx _=>cases e2
 | bk _=>cases e2
 | ct _=>cases e2
 | ret r ρ'=>
   cases r with
   | told d=>cases e2;exact fun v σ' H' J' s2 r=>by cases r;exact fin H'
   | new n d=>
     cases e2;rintro v σ' H' J' s2 ⟨A,fp,_,ru,_⟩;cases ru with
     | frz h=>cases h;exact fin H'
end
theorem zgr {n k:Nat}{g:FS}{ds:List D}{d:D}(h:runF n k g ds=some d):ds.length=k:=by
 unfold runF at h;by_cases hl:ds.length=k
 ·exact hl
 ·rw[if_neg hl] at h;cases h
end Pg
namespace Pg
open PySem PySem.Spec PyProof PyProof.Rows L2 VD GM
section
variable {P:Program}{w:World}{K:W.Frag}{mg:Str->Option Value}{base:Heap}{f g:Addr}{fd gd:FuncData}
theorem zoR (F:Fun K "law" "law" zfh f fd)(B:Blt mg)(CLfeed:Cal P w K mg base 1 "_law_feed" ["_law_script"] (zli K))(CLrows:Cal P w K mg base 4 "_law_rows" ["_law_feed_here","_law_most"] (spG K [some 1,none] zbA))(CLhung:Cal P w K mg base 8 "_law_hung" ["_law_rows_here","_law_deep"] (spF K (zbj 8)))(C_strays:Cal P w K mg base 16 "strays" ["sheet"] (spG K [none] zdN))(CLstray_right:Cal P w K mg base 17 "_law_stray_right" ["_law_sheet","_law_rows_here","_law_numbers","_law_stray"] (spF K zaM))(C_open_parts:Cal P w K mg base 9 "open_parts" ["sheet"] (spF K zbc))(C_nearest:Cal P w K mg base 15 "nearest" ["sheet","name","way"] (spF K zaS))(C_opposite:Cal P w K mg base 2 "opposite" ["way"] (spF K zaZ))(hx:∀ms:List Int,ms.length<=63->zkQ (fdD ms 0 0)=some (.bl true)):FnOk P w K mg base CX0 (17+1) f fd ["_law_script"] (spLaw K):=by
 refine F.ok sc_law (fun vs H Q E h=>?_) (fun cdv A outer s H vs Q E hr h=>?_)
 ·obtain⟨s,ns,rfl,_⟩:=h;rfl
 obtain⟨s',ns,rfl,hns,hs,fin⟩:=h;have nd:=sc_law.nd
 have hu:=wbt (zem hr)
 have hu2:=zem hr
 obtain⟨g,⟨t,p,q⟩,ev⟩:∃g,VSs (cxOf CX0 P w K mg base _ "law" (zae zfh) f cdv A outer s H E).nox ((zbv zfh).drop 1) g/\∀p_feed,EvS kF some g (.un::.own 1 p_feed::List.replicate 10 .un) (zkQ p_feed):=by
  refine⟨_,(zab (zbb (i:=2) nd rfl (Or.inl rfl) (VR.x (zao 0 1 1 CLrows hr (zan (zaX (VE.x zad) zam))))) (zab (vsS 3 nd (zar CLhung hr (zaa (vv 2) (zaa zad zag)))) (zab (zhM (i:=4) nd rfl (Or.inl rfl) zoc) (zab (zbt (zmz B (zaa (vv 2) zag)) (zc7 rfl (zaB (vgN 5 nd) (zaB (vgN 6 nd) zca))) (zab (zgb 4 hu2 (VE.x (vv 5)) (zaz (vr 6) (VE.w zad))) (zb4 [5,6] zas))) (zab (zhM (i:=7) nd rfl (Or.inl rfl) zow) (zdZ 4 (zab (zn0 (zn3 (VR.x (zl3 C_strays hr (VA.x (zaa (vv 3) zag))))) (vgN 8 nd) (zab (zbG (VP.t (zhI (zaC (zku hr) (zdB true) (VE.w (ve_b zb2 zeh B boot_len (zav (vr 8) zaV))) (VE.w zad) (zaD _)) (zhI (zp5 hu2 (ziJ (vr 8) zhK (zeW zad)) (vr 7)) (ziq (zpx (zj4 (VE.w (zar CLstray_right hr (zaa (vv 3) (zaa (vv 2) (zaa (vv 4) (zaa (vv 8) zag)))))))))))) (zai (zaG zhH)) zas) (zab (zoy 7 hu2 (VE.x zhH) (ziJ (vr 8) zhK (zeW zad))) (zb4 [8] zas)))) (zab (zbt (zcH (zar C_open_parts hr (zaa (vv 3) zag))) (vgN 9 nd) (zab (zbt (zcH (zbg (zaa zaK (zaa zaK (zaa zaK (zaa zaK zag)))))) (vgN 10 nd) (zab (vsS 11 nd (zar C_nearest hr (zaa (vv 3) (zaa (vv 9) (zaa (vv 10) zag))))) (zab (zbG (VP.t (zgR (zaC zhx zhJ (vr 11) (VE.w zcL) (zaD _)) (zgR (zkN hu2 (zp4 (zaa (vv 9) (zaa (vv 10) zag))) (vr 7)) (zf6 (zaC (zku hr) (zdB true) (VE.w (zar C_nearest hr (zaa (vv 3) (zaa (vv 11) (zaa (zar C_opposite hr (zaa (vv 10) zag)) zag))))) (vr 9) (zaD _)))))) (zai (zaG zhH)) zas) (zb4 [10,11] zas)))) (zb4 [9,10,11] zas))) (zai (zaG zhH)))))))))),fun p_feed=>?_⟩;unfold zkQ;exact(zau (zom (emb:=(fun(s1:D)=>[.un,.own 1 s1,.un,.un,.un,.un,.un,.un,.un,.un,.un,.un])) (zpY (zky (put:=((fun(s:D) e=>e) p_feed)) (as:=[none,some (.int 7)]) (d:=p_feed) rfl rfl rfl fun _=>rfl)) fun _=>rfl) fun q3=>(zau (zbk rfl) fun x4=>(zau (zkp rfl rfl) fun u5=>(zau (zko (emb:=(fun(s6:D)=>[.un,.own 1 q3.2,.val q3.1,.val x4,.own 1 s6,.un,.un,.un,.un,.un,.un,.un])) rfl (fun _=>rfl) (fun _ _=>rfl) fun s6 y7=>(zau (zof rfl) fun x9=>(zcO [5,6] (zbH fun _ h=>h)))) fun s6=>(zau (zkp rfl rfl) fun u10=>(zm9 4 (zmp (emb:=(fun(s38:D)=>[.un,.own 1 q3.2,.val q3.1,.val x4,.val s6,.un,.un,.own 1 s38,.un,.un,.un,.un])) (emb0:=(fun(s33:Unit)=>[.un,.own 1 q3.2,.val q3.1,.val x4,.val s6,.un,.un,.own 1 (.dcu [] []),.un,.un,.un,.un])) (ini:=(fun(z63:Unit)=>(.dcu [] []))) (zmq (zpY (zkz (zpZ rfl)))) (fun _=>rfl) (fun _=>rfl) (fun s38 d39=>(zei (zbu fun _ _ h=>h) (zg4 (zau (zoA rfl) fun x48=>(zcO [8] (zbH fun _ h=>h)))))) fun s38=>(zhO (emb:=(fun(s49:Unit)=>[.un,.own 1 q3.2,.val q3.1,.val x4,.val s6,.un,.un,.own 1 s38,.un,.un,.un,.un])) rfl (fun _=>rfl) (fun s49 d50=>(zhO (emb:=(fun(s51:Unit)=>[.un,.own 1 q3.2,.val q3.1,.val x4,.val s6,.un,.un,.own 1 s38,.un,.val d50,.un,.un])) rfl (fun _=>rfl) (fun s51 d52=>(zau (zbk rfl) fun x53=>(zei (zbu fun _ _ h=>h) (zg4 (zcO [10,11] (zbH fun _ h=>h)))))) fun s51=>(zcO [9,10,11] (zbH fun _ h=>h)))) fun s49=>(zbu fun _ _ h=>h)))))))))
 refine⟨_,zih (zgu (i:=1) nd rfl (Or.inl rfl) (pc CLfeed hr (zcr (pv 0) zdr))) p,?_⟩;refine⟨_,rfl,s',ns,rfl,hs,hns,fun a c ms H1 s1 h1 h2 hm ha hc hne=>?_⟩;exact zoQ q (zoP s1 h1 h2 ha hc hne 10) (ev (fdD ms 0 0) (.bl true) (by rw[hx ms hm];rfl)) fin
end
end Pg
namespace PySem.W.Fast
def tw14297307471214199481:=0
def tw11695090308044461664:=0
def tw16711311960609231040:=0
def tw9181203629572556843:=0
def tw12803792060878701994:=0
def tw13493276694004657189:=0
def tw14540225202620381546:=0
def tw16800337753760169474:=0
def tw11182918676582764444:=0
def tw1917222211065505434:=0
def tw14924495282355603060:=0
def tw15997488681645955020:=0
def tw9760314764253651205:=0
def tw9227693040050881193:=0
def tw13266278134094778371:=0
def tw10749007027175873254:=0
def tw7700419058847304126:=0
def tw11401466661603765590:=0
def tw15472139042652496029:=0
def tw11969408845592952205:=0
def tw17864985729315198100:=0
def tw15584639670615710749:=0
def tw11935903257586825961:=0
def tw10511537415050362637:=0
def tw12564110476640411123:=0
def tw14553995027424299401:=0
def tw10389980707138923335:=0
def tw7899124783704862609:=0
def tw12315326981734045236:=0
def tw9759667067985745657:=0
def tw8831441910217259940:=0
def tw8277930266332079371:=0
def tw7352530992424477451:=0
def tw12000990912038562138:=0
def tw13847242515571313917:=0
def tw226600832489599967:=0
def tw16304041202314241111:=0
def tw11404130552961838486:=0
def tw14607311973832558537:=0
def tw5248099118495575301:=0
def tw5393806434281775843:=0
def tw2774433833297927997:=0
def tw17142191645114031801:=0
def tw14468259236457534882:=0
def tw13047360971940025861:=0
def tw16985990416336620364:=0
def tw14271921813408565861:=0
def tw15202794572985268553:=0
def tw6442440014676286443:=0
def tw3863734470726923605:=0
def tw6699574349182694399:=0
def tw11251909459579891141:=0
def tw1657848375386554991:=0
def tw13160171029840926880:=0
def tw16561564475633713744:=0
def tw1412910531069299801:=0
def tw8731726898931014106:=0
def tw11520209288198915040:=0
def tw18392014956712150982:=0
def tw1527276081911048593:=0
def tw12169538126631232298:=0
def tw6659415352770956915:=0
def tw4990662806648634142:=0
def tw3866053279869202388:=0
def tw42813933932537533:=0
def tw10478832065691296909:=0
def tw3722263346081482538:=0
def tw18125956321130141315:=0
def tw8457469711851552557:=0
def tw12656266631484579678:=0
def tw4147597761724498762:=0
def tw5945825869856492505:=0
def tw17209847756644022272:=0
def tw7286229959136736484:=0
def tw6148626533114278192:=0
def tw11373055342373690446:=0
def tw10567478580305153110:=0
def tw244134302877265058:=0
def tw3107740840497283634:=0
def tw2753309211864591863:=0
def tw11850416381616204685:=0
def tw5691071592277725021:=0
def tw17216926360936360154:=0
def tw8000155328817820014:=0
def tw403289272077664756:=0
def tw3031363318021822472:=0
def tw4864933560536960495:=0
def tw12850076822975410584:=0
def tw5059611260347609628:=0
end PySem.W.Fast
namespace Pg
open PySem PySem.Spec PyProof PyProof.Rows L2 VD
theorem zaP {p:Str->Prop}{x:Str}{xs:List Str}(h:p x)(t:∀y∈xs,p y):∀y∈x::xs,p y:=fun y hy=>(was.mp hy).elim (fun e=>e▸h) (t y)
def FH (K:W.Frag)(x:Str)(st:Stmt)(f:Addr):Prop:=W.nsIn K mainGlobals x=some (some (.ref f))/\(∃fd,Fun K x x st f fd)/\W.keepIn K (.ref f)=true
theorem fh_mk {K:W.Frag}{x:Str}{st:Stmt}{f:Addr}{oc:Value}{od an:Option Addr}{osl:Array (Option Value)}{kV doc pm cdv ct:Value}(a:W.nsIn K mainGlobals x=some (some (.ref f)))(l:K.lookup f=some ⟨oc,od,.func (W.fnOf x x (zdb st) (zbv st) (zae st) .none kV doc pm an cdv ct),osl⟩)(c:W.codeIn K cdv x=true)(k:W.keepIn K (.ref f)=true):FH K x st f:=⟨a,⟨_,zmT l c k⟩,k⟩
theorem zeu:∀(n:Nat) (ds:List D) (d:D),zaw n ds=some d->ds.length=2
 | 0,_,_,e=>by cases e
 | n+1,ds,d,e=>by first | exact zg6 ds d e | exact zgr e
theorem zfz:∀(n:Nat) (ds:List D) (d:D),zaH n ds=some d->ds.length=1
 | 0,_,_,e=>by cases e
 | n+1,ds,d,e=>by first | exact zg5 ds d e | exact zgr e
theorem zhu:∀(n:Nat) (ds:List D) (d:D),zbj n ds=some d->ds.length=2
 | 0,_,_,e=>by cases e
 | n+1,ds,d,e=>by first | exact zg6 ds d e | exact zgr e
theorem all_mk {l:PySem.W.OpenLaw}{w:World}{K:W.Frag}{h:Heap}{mg:Str->Option Value}{fa f1 f2 f3 f4 f5 f6 f7 f8 f9 f10 f11 f12 f13 f14 f15 f16 f17 f18 f19 f20 f21 f22 f23 f24 f25 f26 f27 f28 f29 f30 f31:Addr}(X:K.In h)(N:h.Ns mainGlobals mg)(hfa:mg "law"=some (.ref fa))
 {od31 an31:Option Addr}{sl31:Array (Option Value)}{oc31 kV31 dc31 pm31 cd31 ct31:Value}
 (h1:FH K "placed_within" zbW f1)
 (h2:FH K "placed_parts" zce f2)
 (h3:FH K "parts_of" zc5 f3)
 (h4:FH K "part_of" zfe f4)
 (h5:FH K "place_of" zd6 f5)
 (h6:FH K "chain_of" zd7 f6)
 (h7:FH K "level_parts" zcB f7)
 (h8:FH K "why_not" zff f8)
 (h9:FH K "refuse_not_open" zbx f9)
 (h10:FH K "refuse_no_side" zbL f10)
 (h11:FH K "stretch" zfd f11)
 (h12:FH K "apart_by" zd5 f12)
 (h13:FH K "lies" zkO f13)
 (h14:FH K "nearest" zfg f14)
 (h15:FH K "opposite" zd8 f15)
 (h16:FH K "open_tuples" zcC f16)
 (h17:FH K "open_parts" zb7 f17)
 (h18:FH K "strays" zgf f18)
 (h19:FH K "_law_feed" zdi f19)
 (h20:FH K "_law_draw" zdj f20)
 (h21:FH K "_law_great" zcS f21)
 (h22:FH K "_law_scale" zcT f22)
 (h23:FH K "_law_box" zd9 f23)
 (h24:FH K "_law_scaled" zcD f24)
 (h25:FH K "_law_near" zdk f25)
 (h26:FH K "_law_names" zbI f26)
 (h27:FH K "_law_above" zb8 f27)
 (h28:FH K "_law_rows" zdl f28)
 (h29:FH K "_law_hung" zdm f29)
 (h30:FH K "_law_stray_right" zbq f30)
 (a31:W.nsIn K mainGlobals "law"=some (some (.ref f31))) (l31:K.lookup f31=some ⟨oc31,od31,.func (W.fnOf "law" "law" (zdb zfh) (zbv zfh) (zae zfh) .none kV31 dc31 pm31 an31 cd31 ct31),sl31⟩) (c31:W.codeIn K cd31 "law"=true) (k31:W.keepIn K (.ref f31)=true)
 (z0:W.nsIn K mainGlobals "len"=some none)
 (z1:W.nsIn K mainGlobals "range"=some none)
 (z2:W.nsIn K mainGlobals "min"=some none)
 (z3:W.nsIn K mainGlobals "max"=some none)
 (z4:W.nsIn K mainGlobals "int"=some none)
 (z5:W.nsIn K mainGlobals "str"=some none)
 (z6:W.nsIn K mainGlobals "bool"=some none)
 (z7:W.nsIn K mainGlobals "list"=some none)
 (z8:W.nsIn K mainGlobals "tuple"=some none)
 (z9:W.nsIn K mainGlobals "isinstance"=some none)
 (z10:W.nsIn K mainGlobals "any"=some none)
 (z11:W.nsIn K mainGlobals "all"=some none)
 (z12:W.nsIn K mainGlobals "enumerate"=some none)
 (z13:W.nsIn K mainGlobals "abs"=some none)
 (z14:W.nsIn K mainGlobals "sorted"=some none)
 (z15:W.nsIn K mainGlobals "dict"=some none)
 (z16:W.nsIn K mainGlobals "ord"=some none)
 (z17:W.nsIn K mainGlobals "chr"=some none)
 (z18:W.nsIn K mainGlobals "reversed"=some none)
 {tk_PARTS:Tok}
 {tk_NAME:Tok}
 {tk_WORD:Tok}
 {p_SIDES:Addr}{od_SIDES:Option Addr}{n_SIDES:Nat}{sl_SIDES:Array (Option Value)}{tk_SIDES_0 tk_SIDES_1 tk_SIDES_2 tk_SIDES_3:Tok}
 {tk_BOX:Tok}
 {p_OPPOSITES:Addr}{es_OPPOSITES:Array DictEntry}{ep_OPPOSITES:Nat}
 (g_PARTS:W.nsIn K mainGlobals "PARTS"=some (some (.int 5 tk_PARTS)))
 (g_NAME:W.nsIn K mainGlobals "NAME"=some (some (.int 0 tk_NAME)))
 (g_WORD:W.nsIn K mainGlobals "WORD"=some (some (.int 2 tk_WORD)))
 (g_SIDES:W.nsIn K mainGlobals "SIDES"=some (some (.ref p_SIDES)))
 (l_SIDES:K.lookup p_SIDES=some ⟨.type "tuple",od_SIDES,.seq #[.str "up" tk_SIDES_0,.str "down" tk_SIDES_1,.str "left" tk_SIDES_2,.str "right" tk_SIDES_3] n_SIDES,sl_SIDES⟩)
 (g_BOX:W.nsIn K mainGlobals "BOX"=some (some (.int 1 tk_BOX)))
 (g_OPPOSITES:W.nsIn K mainGlobals "OPPOSITES"=some (some (.ref p_OPPOSITES)))
 (l_OPPOSITES:K.lookup p_OPPOSITES=some ⟨.type "dict",none,.dict es_OPPOSITES ep_OPPOSITES,#[]⟩)
 (e_OPPOSITES:EntS w es_OPPOSITES.toList [("up","down"),("down","up"),("left","right"),("right","left")])
 : ∃fd:FuncData,(∀(s:Shared) (v:Value),BindsTo s fd ⟨[v],[]⟩ [("_law_script",v)])/\∀base:Heap,K.In base->base.Ns mainGlobals mg->FnOk l.prog w K mg base CX0 18 fa fd ["_law_script"] (spLaw K):=by
 have e:=hfa.symm.trans (waT X N a31)
 cases e;have G_PARTS:GlobD K mg "PARTS" (.int 5):=zey (waT X N g_PARTS)
 have G_NAME:GlobD K mg "NAME" (.int 0):=zey (waT X N g_NAME)
 have G_WORD:GlobD K mg "WORD" (.int 2):=zey (waT X N g_WORD)
 have G_SIDES:GlobD K mg "SIDES" (.tup [(.str "up"),(.str "down"),(.str "left"),(.str "right")]):=zlV (vs:=[.str "up",.str "down",.str "left",.str "right"]) (waT X N g_SIDES) l_SIDES rfl rfl (by show 4<=sizeLine;decide) (.cons ⟨_,rfl⟩ (.cons ⟨_,rfl⟩ (.cons ⟨_,rfl⟩ (.cons ⟨_,rfl⟩ (.nil))))) (fun _ _=>.cons (.str _) (.cons (.str _) (.cons (.str _) (.cons (.str _) (.nil)))))
 have G_BOX:GlobD K mg "BOX" (.int 1):=zey (waT X N g_BOX)
 have G_OPPOSITES:GDct l.prog w K mg "OPPOSITES" [.inr "up",.inr "down",.inr "left",.inr "right"] [.str "down",.str "up",.str "right",.str "left"]:=zov (waT X N g_OPPOSITES) l_OPPOSITES e_OPPOSITES (by decide)
 obtain⟨a1,⟨_,F1⟩,k1⟩:=h1;have b1:=F1.binds (ps:=["parts","outer_place"]) fun _ _ _ _ _ _ us hl=>match us,hl with | [_,_],_=>rfl
 have m1:=waT X N a1
 obtain⟨a2,⟨_,F2⟩,k2⟩:=h2;have b2:=F2.binds (ps:=["sheet"]) fun _ _ _ _ _ _ us hl=>match us,hl with | [_],_=>rfl
 have m2:=waT X N a2
 obtain⟨a3,⟨_,F3⟩,k3⟩:=h3;have b3:=F3.binds (ps:=["sheet"]) fun _ _ _ _ _ _ us hl=>match us,hl with | [_],_=>rfl
 have m3:=waT X N a3
 obtain⟨a4,⟨_,F4⟩,k4⟩:=h4;have b4:=F4.binds (ps:=["sheet","name"]) fun _ _ _ _ _ _ us hl=>match us,hl with | [_,_],_=>rfl
 have m4:=waT X N a4
 obtain⟨a5,⟨_,F5⟩,k5⟩:=h5;have b5:=F5.binds (ps:=["sheet","name"]) fun _ _ _ _ _ _ us hl=>match us,hl with | [_,_],_=>rfl
 have m5:=waT X N a5
 obtain⟨a6,⟨_,F6⟩,k6⟩:=h6;have b6:=F6.binds (ps:=["sheet","name"]) fun _ _ _ _ _ _ us hl=>match us,hl with | [_,_],_=>rfl
 have m6:=waT X N a6
 obtain⟨a7,⟨_,F7⟩,k7⟩:=h7;have b7:=F7.binds (ps:=["sheet","name"]) fun _ _ _ _ _ _ us hl=>match us,hl with | [_,_],_=>rfl
 have m7:=waT X N a7
 obtain⟨a8,⟨_,F8⟩,k8⟩:=h8;have b8:=F8.binds (ps:=["sheet","name"]) fun _ _ _ _ _ _ us hl=>match us,hl with | [_,_],_=>rfl
 have m8:=waT X N a8
 obtain⟨a9,⟨_,F9⟩,k9⟩:=h9;have b9:=F9.binds (ps:=["sheet","name"]) fun _ _ _ _ _ _ us hl=>match us,hl with | [_,_],_=>rfl
 have m9:=waT X N a9
 obtain⟨a10,⟨_,F10⟩,k10⟩:=h10;have b10:=F10.binds (ps:=["way"]) fun _ _ _ _ _ _ us hl=>match us,hl with | [_],_=>rfl
 have m10:=waT X N a10
 obtain⟨a11,⟨_,F11⟩,k11⟩:=h11;have b11:=F11.binds (ps:=["box","upright"]) fun _ _ _ _ _ _ us hl=>match us,hl with | [_,_],_=>rfl
 have m11:=waT X N a11
 obtain⟨a12,⟨_,F12⟩,k12⟩:=h12;have b12:=F12.binds (ps:=["one","other"]) fun _ _ _ _ _ _ us hl=>match us,hl with | [_,_],_=>rfl
 have m12:=waT X N a12
 obtain⟨a13,⟨_,F13⟩,k13⟩:=h13;have b13:=F13.binds (ps:=["box","other","way"]) fun _ _ _ _ _ _ us hl=>match us,hl with | [_,_,_],_=>rfl
 have m13:=waT X N a13
 obtain⟨a14,⟨_,F14⟩,k14⟩:=h14;have b14:=F14.binds (ps:=["sheet","name","way"]) fun _ _ _ _ _ _ us hl=>match us,hl with | [_,_,_],_=>rfl
 have m14:=waT X N a14
 obtain⟨a15,⟨_,F15⟩,k15⟩:=h15;have b15:=F15.binds (ps:=["way"]) fun _ _ _ _ _ _ us hl=>match us,hl with | [_],_=>rfl
 have m15:=waT X N a15
 obtain⟨a16,⟨_,F16⟩,k16⟩:=h16;have b16:=F16.binds (ps:=["parts"]) fun _ _ _ _ _ _ us hl=>match us,hl with | [_],_=>rfl
 have m16:=waT X N a16
 obtain⟨a17,⟨_,F17⟩,k17⟩:=h17;have b17:=F17.binds (ps:=["sheet"]) fun _ _ _ _ _ _ us hl=>match us,hl with | [_],_=>rfl
 have m17:=waT X N a17
 obtain⟨a18,⟨_,F18⟩,k18⟩:=h18;have b18:=F18.binds (ps:=["sheet"]) fun _ _ _ _ _ _ us hl=>match us,hl with | [_],_=>rfl
 have m18:=waT X N a18
 obtain⟨a19,⟨_,F19⟩,k19⟩:=h19;have b19:=F19.binds (ps:=["_law_script"]) fun _ _ _ _ _ _ us hl=>match us,hl with | [_],_=>rfl
 have m19:=waT X N a19
 obtain⟨a20,⟨_,F20⟩,k20⟩:=h20;have b20:=F20.binds (ps:=["_law_feed_here","_law_many"]) fun _ _ _ _ _ _ us hl=>match us,hl with | [_,_],_=>rfl
 have m20:=waT X N a20
 obtain⟨a21,⟨_,F21⟩,k21⟩:=h21;have b21:=F21.binds (ps:=["_law_feed_here","_law_pieces"]) fun _ _ _ _ _ _ us hl=>match us,hl with | [_,_],_=>rfl
 have m21:=waT X N a21
 obtain⟨a22,⟨_,F22⟩,k22⟩:=h22;have b22:=F22.binds (ps:=["_law_feed_here"]) fun _ _ _ _ _ _ us hl=>match us,hl with | [_],_=>rfl
 have m22:=waT X N a22
 obtain⟨a23,⟨_,F23⟩,k23⟩:=h23;have b23:=F23.binds (ps:=["_law_feed_here","_law_style"]) fun _ _ _ _ _ _ us hl=>match us,hl with | [_,_],_=>rfl
 have m23:=waT X N a23
 obtain⟨a24,⟨_,F24⟩,k24⟩:=h24;have b24:=F24.binds (ps:=["_law_box_here","_law_scale_here"]) fun _ _ _ _ _ _ us hl=>match us,hl with | [_,_],_=>rfl
 have m24:=waT X N a24
 obtain⟨a25,⟨_,F25⟩,k25⟩:=h25;have b25:=F25.binds (ps:=["_law_box_here","_law_other","_law_way"]) fun _ _ _ _ _ _ us hl=>match us,hl with | [_,_,_],_=>rfl
 have m25:=waT X N a25
 obtain⟨a26,⟨_,F26⟩,k26⟩:=h26;have b26:=F26.binds (ps:=["_law_feed_here","_law_many"]) fun _ _ _ _ _ _ us hl=>match us,hl with | [_,_],_=>rfl
 have m26:=waT X N a26
 obtain⟨a27,⟨_,F27⟩,k27⟩:=h27;have b27:=F27.binds (ps:=["_law_rows_here","_law_k"]) fun _ _ _ _ _ _ us hl=>match us,hl with | [_,_],_=>rfl
 have m27:=waT X N a27
 obtain⟨a28,⟨_,F28⟩,k28⟩:=h28;have b28:=F28.binds (ps:=["_law_feed_here","_law_most"]) fun _ _ _ _ _ _ us hl=>match us,hl with | [_,_],_=>rfl
 have m28:=waT X N a28
 obtain⟨a29,⟨_,F29⟩,k29⟩:=h29;have b29:=F29.binds (ps:=["_law_rows_here","_law_deep"]) fun _ _ _ _ _ _ us hl=>match us,hl with | [_,_],_=>rfl
 have m29:=waT X N a29
 obtain⟨a30,⟨_,F30⟩,k30⟩:=h30;have b30:=F30.binds (ps:=["_law_sheet","_law_rows_here","_law_numbers","_law_stray"]) fun _ _ _ _ _ _ us hl=>match us,hl with | [_,_,_,_],_=>rfl
 have m30:=waT X N a30
 have F31:=zmT (st:=zfh) l31 c31 k31
 have b31:=F31.binds (ps:=["_law_script"]) fun _ _ _ _ _ _ us hl=>match us,hl with | [_],_=>rfl
 have m31:=waT X N a31
 have B:Blt mg:=zaP (waP X N z0) (zaP (waP X N z1) (zaP (waP X N z2) (zaP (waP X N z3) (zaP (waP X N z4) (zaP (waP X N z5) (zaP (waP X N z6) (zaP (waP X N z7) (zaP (waP X N z8) (zaP (waP X N z9) (zaP (waP X N z10) (zaP (waP X N z11) (zaP (waP X N z12) (zaP (waP X N z13) (zaP (waP X N z14) (zaP (waP X N z15) (zaP (waP X N z16) (zaP (waP X N z17) (zaP (waP X N z18) (fun _ hy=>by cases hy)))))))))))))))))))
 refine⟨W.fnOf "law" "law" (zdb zfh) (zbv zfh) (zae zfh) .none kV31 dc31 pm31 an31 cd31 ct31,fun s v=>.of_eq rfl,fun base hk hn=>?_⟩;have g_placed_within:=zix (P:=l.prog) (w:=w) (K:=K) (mg:=mg) (base:=base) (x:="placed_within") (ps:=["parts","outer_place"]) (b:=zbX) (m:=zaw) (k:=0) (fun _=>rfl) (fun _=>rfl) b1 k1 m1 (zeu) (fun {n} {self} C=>by rw[wbf] at *;exact zes F1 B C G_PARTS) 8
 have C_placed_within:=zaR (x:="placed_within") g_placed_within b1 k1 m1
 have g_placed_parts:=zfj (P:=l.prog) (w:=w) (mg:=mg) (base:=base) F2 B C_placed_within
 have C_placed_parts:=zaR (x:="placed_parts") g_placed_parts b2 k2 m2
 have g_parts_of:=zhY (P:=l.prog) (w:=w) (mg:=mg) (base:=base) F3 B C_placed_parts
 have C_parts_of:=zaR (x:="parts_of") g_parts_of b3 k3 m3
 have g_part_of:=zjd (P:=l.prog) (w:=w) (mg:=mg) (base:=base) F4 B C_parts_of G_NAME
 have C_part_of:=zaR (x:="part_of") g_part_of b4 k4 m4
 have g_place_of:=zhZ (P:=l.prog) (w:=w) (mg:=mg) (base:=base) F5 B C_placed_parts G_NAME
 have C_place_of:=zaR (x:="place_of") g_place_of b5 k5 m5
 have g_chain_of:=zh0 (P:=l.prog) (w:=w) (mg:=mg) (base:=base) F6 B C_place_of G_PARTS
 have C_chain_of:=zaR (x:="chain_of") g_chain_of b6 k6 m6
 have g_level_parts:=zfv (P:=l.prog) (w:=w) (mg:=mg) (base:=base) F7 B C_chain_of G_PARTS
 have C_level_parts:=zaR (x:="level_parts") g_level_parts b7 k7 m7
 have g_why_not:=zje (P:=l.prog) (w:=w) (mg:=mg) (base:=base) F8 B C_chain_of G_WORD G_NAME
 have C_why_not:=zaR (x:="why_not") g_why_not b8 k8 m8
 have g_refuse_not_open:=zdL (P:=l.prog) (w:=w) (mg:=mg) (base:=base) F9 B C_why_not
 have C_refuse_not_open:=zaR (x:="refuse_not_open") g_refuse_not_open b9 k9 m9
 have g_refuse_no_side:=zeb (P:=l.prog) (w:=w) (mg:=mg) (base:=base) F10 B G_SIDES
 have C_refuse_no_side:=zaR (x:="refuse_no_side") g_refuse_no_side b10 k10 m10
 have g_stretch:=zjf (P:=l.prog) (w:=w) (mg:=mg) (base:=base) F11 B
 have C_stretch:=zaR (x:="stretch") g_stretch b11 k11 m11
 have g_apart_by:=zh2 (P:=l.prog) (w:=w) (mg:=mg) (base:=base) F12 B
 have C_apart_by:=zaR (x:="apart_by") g_apart_by b12 k12 m12
 have g_lies:=zoB (P:=l.prog) (w:=w) (mg:=mg) (base:=base) F13 B C_refuse_no_side C_stretch C_apart_by
 have C_lies:=zaR (x:="lies") g_lies b13 k13 m13
 have g_nearest:=zjg (P:=l.prog) (w:=w) (mg:=mg) (base:=base) F14 B C_refuse_no_side C_refuse_not_open C_part_of C_level_parts C_lies G_BOX G_WORD G_NAME
 have C_nearest:=zaR (x:="nearest") g_nearest b14 k14 m14
 have g_opposite:=zh4 (P:=l.prog) (w:=w) (mg:=mg) (base:=base) F15 B C_refuse_no_side G_OPPOSITES
 have C_opposite:=zaR (x:="opposite") g_opposite b15 k15 m15
 have g_open_tuples:=zix (P:=l.prog) (w:=w) (K:=K) (mg:=mg) (base:=base) (x:="open_tuples") (ps:=["parts"]) (b:=zcE) (m:=zaH) (k:=0) (fun _=>rfl) (fun _=>rfl) b16 k16 m16 (zfz) (fun {n} {self} C=>by rw[wbf] at *;exact zfw F16 B C G_WORD G_PARTS) 8
 have C_open_tuples:=zaR (x:="open_tuples") g_open_tuples b16 k16 m16
 have g_open_parts:=zgh (P:=l.prog) (w:=w) (mg:=mg) (base:=base) F17 B C_open_tuples G_NAME
 have C_open_parts:=zaR (x:="open_parts") g_open_parts b17 k17 m17
 have g_strays:=zkP (P:=l.prog) (w:=w) (mg:=mg) (base:=base) F18 B C_open_parts C_nearest C_opposite G_SIDES
 have C_strays:=zaR (x:="strays") g_strays b18 k18 m18
 have gLfeed:=zmJ (P:=l.prog) (w:=w) (mg:=mg) (base:=base) F19 (B.get "list")
 have CLfeed:=zaR (x:="_law_feed") gLfeed b19 k19 m19
 have gLdraw:=zhf (P:=l.prog) (w:=w) (mg:=mg) (base:=base) F20 B
 have CLdraw:=zaR (x:="_law_draw") gLdraw b20 k20 m20
 have gLgreat:=zgi (P:=l.prog) (w:=w) (mg:=mg) (base:=base) F21 B CLdraw
 have CLgreat:=zaR (x:="_law_great") gLgreat b21 k21 m21
 have gLscale:=zgj (P:=l.prog) (w:=w) (mg:=mg) (base:=base) F22 B CLdraw CLgreat
 have CLscale:=zaR (x:="_law_scale") gLscale b22 k22 m22
 have gLbox:=zh5 (P:=l.prog) (w:=w) (mg:=mg) (base:=base) F23 B CLdraw
 have CLbox:=zaR (x:="_law_box") gLbox b23 k23 m23
 have gLscaled:=zfx (P:=l.prog) (w:=w) (mg:=mg) (base:=base) F24 B
 have CLscaled:=zaR (x:="_law_scaled") gLscaled b24 k24 m24
 have gLnear:=zhg (P:=l.prog) (w:=w) (mg:=mg) (base:=base) F25 B
 have CLnear:=zaR (x:="_law_near") gLnear b25 k25 m25
 have gLnames:=zgk (P:=l.prog) (w:=w) (mg:=mg) (base:=base) F26 B CLdraw
 have CLnames:=zaR (x:="_law_names") gLnames b26 k26 m26
 have gLabove:=zgl (P:=l.prog) (w:=w) (mg:=mg) (base:=base) F27 B
 have CLabove:=zaR (x:="_law_above") gLabove b27 k27 m27
 have gLabove2:=zfy (P:=l.prog) (w:=w) (mg:=mg) (base:=base) F27 B
 have CLabove2:=zaR (x:="_law_above") gLabove2 b27 k27 m27
 have gLrows:=zhh (P:=l.prog) (w:=w) (mg:=mg) (base:=base) F28 B CLdraw CLnames CLscale CLscaled CLbox CLabove2
 have CLrows:=zaR (x:="_law_rows") gLrows b28 k28 m28
 have gLhung:=zix (P:=l.prog) (w:=w) (K:=K) (mg:=mg) (base:=base) (x:="_law_hung") (ps:=["_law_rows_here","_law_deep"]) (b:=zcF) (m:=zbj) (k:=0) (fun _=>rfl) (fun _=>rfl) b29 k29 m29 (zhu) (fun {n} {self} C=>by rw[wbf] at *;exact zhi F29 B C) 8
 have CLhung:=zaR (x:="_law_hung") gLhung b29 k29 m29
 have gLstray_right:=zdn (P:=l.prog) (w:=w) (mg:=mg) (base:=base) F30 B C_nearest C_opposite CLnear
 have CLstray_right:=zaR (x:="_law_stray_right") gLstray_right b30 k30 m30
 exact zoR (P:=l.prog) (w:=w) (mg:=mg) (base:=base) F31 B CLfeed CLrows CLhung C_strays CLstray_right C_open_parts C_nearest C_opposite zqf
end Pg
open PySem PySem.W PyProof.Rows
set_option maxRecDepth 100000 in
set_option maxHeartbeats 0 in
theorem PySem.Challenge.cw_focuswalk_k52_whole_nearer_or_ahead_holds : PySem.Challenge.rw_focuswalk_k52_whole_nearer_or_ahead.Holds := by
 w_on;o_law;k_head;(case hw=>w_witness2)
 k_fill
 refine L2.walk_ofK (l:=PySem.Challenge.rw_focuswalk_k52_whole_nearer_or_ahead) (n:=63) (k:=18) (x:="_law_script") (CX:=L2.CX0) (sp:=Pg.spLaw) rfl (by decide) rfl ⟨rfl,by decide,by decide,rfl⟩ (fun w h Y=>PySem.W.kIn_of Y) ?F (fun K H a ns hl hO hS=>⟨a,ns,rfl,hl,hS,fun _=>rfl⟩) (fun _ _ _ _ z=>z);case F=>
  intro w mg fa h KX N hmg;refine' Pg.all_mk KX N hmg (Pg.fh_mk ?a1 ?l1 ?c1 ?k1) (Pg.fh_mk ?a2 ?l2 ?c2 ?k2) (Pg.fh_mk ?a3 ?l3 ?c3 ?k3) (Pg.fh_mk ?a4 ?l4 ?c4 ?k4) (Pg.fh_mk ?a5 ?l5 ?c5 ?k5) (Pg.fh_mk ?a6 ?l6 ?c6 ?k6) (Pg.fh_mk ?a7 ?l7 ?c7 ?k7) (Pg.fh_mk ?a8 ?l8 ?c8 ?k8) (Pg.fh_mk ?a9 ?l9 ?c9 ?k9) (Pg.fh_mk ?a10 ?l10 ?c10 ?k10) (Pg.fh_mk ?a11 ?l11 ?c11 ?k11) (Pg.fh_mk ?a12 ?l12 ?c12 ?k12) (Pg.fh_mk ?a13 ?l13 ?c13 ?k13) (Pg.fh_mk ?a14 ?l14 ?c14 ?k14) (Pg.fh_mk ?a15 ?l15 ?c15 ?k15) (Pg.fh_mk ?a16 ?l16 ?c16 ?k16) (Pg.fh_mk ?a17 ?l17 ?c17 ?k17) (Pg.fh_mk ?a18 ?l18 ?c18 ?k18) (Pg.fh_mk ?a19 ?l19 ?c19 ?k19) (Pg.fh_mk ?a20 ?l20 ?c20 ?k20) (Pg.fh_mk ?a21 ?l21 ?c21 ?k21) (Pg.fh_mk ?a22 ?l22 ?c22 ?k22) (Pg.fh_mk ?a23 ?l23 ?c23 ?k23) (Pg.fh_mk ?a24 ?l24 ?c24 ?k24) (Pg.fh_mk ?a25 ?l25 ?c25 ?k25) (Pg.fh_mk ?a26 ?l26 ?c26 ?k26) (Pg.fh_mk ?a27 ?l27 ?c27 ?k27) (Pg.fh_mk ?a28 ?l28 ?c28 ?k28) (Pg.fh_mk ?a29 ?l29 ?c29 ?k29) (Pg.fh_mk ?a30 ?l30 ?c30 ?k30) ?a31 ?l31 ?c31 ?k31 ?z0 ?z1 ?z2 ?z3 ?z4 ?z5 ?z6 ?z7 ?z8 ?z9 ?z10 ?z11 ?z12 ?z13 ?z14 ?z15 ?z16 ?z17 ?z18 ?g_PARTS ?g_NAME ?g_WORD ?g_SIDES ?l_SIDES ?g_BOX ?g_OPPOSITES ?l_OPPOSITES ?e_OPPOSITES
  all_goals try first | k_is | kit_is | exact .cons ⟨_,_,rfl,rfl,rfl⟩ (.cons ⟨_,_,rfl,rfl,rfl⟩ (.cons ⟨_,_,rfl,rfl,rfl⟩ (.cons ⟨_,_,rfl,rfl,rfl⟩ (.nil))))

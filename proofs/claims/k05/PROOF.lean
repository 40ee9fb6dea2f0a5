import PyProof.Rows.All
import Wide.All
import OpenK.AllK
import Wide.FinOn
import Lean
import PyProof.EqAt
import PyProof.EqKinds
import PyProof.TupleCall
import KE.KSortTup
import KE.KLam
import PyProof.NeKinds
import PyProof.StrCalls2
import PyProof.StrLawsJoin
import PyProof.MinMaxWalk
import PyProof.Rows.CallKwBuiltin
import PyProof.DictCompW
import KE.KRevIter
import PyProof.FactsAll.list_3
import PyProof.ExcInit
import PyProof.ExcClass3
import PyProof.StationsW
import KE.KSuper
import PyProof.ExcBaseAll.ValueError
import PyProof.RulesAs
import PyProof.NsDelKeeps
import PyProof.ExcArgs
import KE.KIsAll
import PyProof.FString4
import PyProof.ExcClass2
import PyProof.StrWalks
import PyProof.GenQ
import PyProof.ConsumeS
import PyProof.CodeObjX
import PySem.Challenge.RW_focuswalk_k05_too_many_and_twice
set_option Elab.async false
set_option linter.all false
set_option maxRecDepth 100000
set_option maxHeartbeats 4000000
def waa:=@PySem.wpAny_bind
def wab:=@PySem.Heap.get?_push_of_some
def wac:=@List.size_toArray
def wad:=@PySem.wpAny_pure
def wae:=@List.getElem?_set_ne
def waf:=@PySem.Heap.lt_size
def wag:=@List.mem_cons_of_mem
def wah:=@List.mem_cons
def wai:=@List.getElem?_eq_some_iff
def waj:=@List.length_map
def wak:=@List.mem_cons_self
def wal:=@Nat.le_trans
def wam:=@Nat.lt_of_lt_of_le
def wan:=@Nat.le_refl
def wao:=@List.mem_singleton
def wap:=@List.length_append
def waq:=@decide_eq_false
def war:=@PySem.Heap.get?_push_size
def was:=@PySem.wpAny_mono
def wat:=@List.getElem?_eq_getElem
def wau:=@List.getElem?_set_self
def wav:=@Option.some.inj
def waw:=@List.getElem?_map
def wax:=@Nat.ne_of_lt
def way:=@List.mem_append_right
def waz:=@decide_eq_true
def waA:=@Bool.and_eq_true
def waB:=@List.all_eq_true
def waC:=@List.mem_append
def waD:=@List.mem_map
def waE:=@PySem.Heap.get?_update_other
def waF:=@PySem.W.mg_none_of
def waG:=@PySem.wpAny_Call_Name_kw
def waH:=@List.mem_of_getElem?
def waI:=@List.append_nil
def waJ:=@PySem.W.mg_of
def waK:=@List.map_cons
def waL:=@PyProof.Rows.callWith_type1
def waM:=@List.nodup_cons
def waN:=@List.append_assoc
def waO:=@List.getElem?_eq_none
def waP:=@Nat.lt_irrefl
def waQ:=@PySem.W.kia_one
def waR:=@PySem.Heap.get?_update_self
def waS:=@List.map_append
def waT:=@List.lookup_cons
def waU:=@List.nodup_nil
def waV:=@List.getElem?_append_right
def waW:=@Array.getElem?_eq_some_iff
def waX:=@List.getElem?_append_left
def waY:=@PySem.wpAny_holding
def waZ:=@PySem.wpAny_standAt
def wba:=@List.length_cons
def wbb:=@PySem.wpAny_field
def wbc:=@List.replicate_succ
def wbd:=@Nat.le_of_eq
def wbe:=@PySem.wpAny_loadPart_at
def wbf:=@PySem.wpAny_loadName_local
def wbg:=@Nat.le_of_lt
def wbh:=@Nat.le_of_succ_le_succ
def wbi:=@PySem.wpAny_truthy_bool
def wbj:=@PyProof.Rows.slot_tuple_getitem
def wbk:=@PySem.wpAny_newObj_type
def wbl:=@List.nodup_append
def wbm:=@PySem.wpAny_loadPart'
def wbn:=@PySem.Obj.data_mapFields
def wbo:=@List.length_take
def wbp:=@PySem.Heap.get?_none_of_le
def wbq:=@List.mem_range
def wbr:=@List.map_map
def wbs:=@of_decide_eq_true
def wbt:=@Bool.eq_iff_iff
def wbu:=@Nat.zero_le
def wbv:=@List.length_reverse
def wbw:=@Option.map_eq_some_iff
def wbx:=@List.getElem_cons_drop
def wby:=@PySem.Heap.size_after_update
def wbz:=@Bool.false_ne_true
def wbA:=@PySem.Calls.spliced_cons
def wbB:=@Nat.lt_of_le_of_lt
def wbC:=@PySem.Code.quiet_builtin
def wbD:=@Int.emod_lt_of_pos
def wbE:=@PySem.Heap.size_push
def wbF:=@List.getElem?_zip_eq_some
def wbG:=@PySem.codeAny_call_builtin
def wbH:=@PySem.wpAny_passesOwn
def wbI:=@List.flatten_cons
def wbJ:=@List.find?_cons
def wbK:=@PySem.mem_of_lookup
def wbL:=@PySem.wpAny_callSpecial?_slot
def wbM:=@PySem.wpAny_getItem_str_slice
def wbN:=@Nat.le_succ
def wbO:=@PySem.wpAny_call_entry
def wbP:=@List.any_eq_true
def wbQ:=@congrArg
def wbR:=@Bool.false_eq_true
def wbS:=@PySem.wpAny_Constant_str
def wbT:=@List.length_singleton
def wbU:=@PySem.Obj.isFreed_of_fields
def wbV:=@List.length_nil
def wbW:=@Int.emod_nonneg
def wbX:=@List.reverse_cons
def wbY:=@Int.toNat_natCast
def wbZ:=@PySem.Heap.get?_push_at
def wca:=@PySem.F.excBase_ValueError
def wcb:=@List.mem_append_left
def wcc:=@List.getElem?_of_mem
def wcd:=@PySem.wpAny_setField
def wce:=@List.drop_length
def wcf:=@PySem.wpAny_of_eq
def wcg:=@PySem.wpAny_isSubtype_exc
def wch:=@PySem.wpAny_call
def wci:=@PySem.F.args_tuple_add_2
def wcj:=@PySem.wpAny_execs_nil
def wck:=@PySem.wpAny_pyIter_tuple
def wcl:=@PySem.W.callWith_K
def wcm:=@PySem.F.entry_tuple_add
def wcn:=@PySem.wpAny_pyIter_rangeiter
def wco:=@PySem.F.slot_tuple_add
def wcp:=@PySem.wpAny_Name
def wcq:=@List.any_eq_false
def wcr:=@PySem.wpAny_pyIter_enum
def wcs:=@List.getElem?_inj
def wct:=@PySem.codeAny_mono
def wcu:=@List.singleton_append
def wcv:=@Bool.beq_eq_decide_eq
def wcw:=@List.length_filter_le
def wcx:=@List.not_mem_nil
def wcy:=@PySem.F.plain_all_loop
def wcz:=@PySem.Around.under_plainId
def wcA:=@PySem.W.based_of_top
def wcB:=@List.filterMap_cons
def wcC:=@Array.length_toList
def wcD:=@List.of_mem_zip
def wcE:=@PySem.codeAny_of_tree
def wcF:=@PySem.codeAny_builtin
def wcG:=@List.getElem?_range
def wcH:=@Nat.min_eq_left
def wcI:=@PySem.Sem.onRaise_eq_wrap
def wcJ:=@Nat.ne_of_gt
def wcK:=@PySem.wpAny_typeOf
def wcL:=@Nat.mul_le_mul
def wcM:=@PySem.wpAny_rule
def zOB {C B:Type _} (a:C) (f:C->Option B):Option.bind (some a) f=f a:=rfl
namespace L2
open PySem PySem.Spec PyProof.Rows
abbrev Key:=Sum Int Str
def zh6:Key->Value->Bool
|.inl k,v=>Value.isInt k v
|.inr x,v=>Value.isStrOf x v
def keyH (w:World):Key->Int
|.inl k=>hashInt k
|.inr x=>hashStr w x
def zaM:∀{k:Key}{v:Value},zh6 k v=true->(∃i t,k=Sum.inl i/\v=Value.int i t)\/(∃x t,k=Sum.inr x/\v=Value.str x t)
|.inl i,v,h=>by
   obtain⟨t,e⟩:=Value.isInt_shape (k:=i) (v:=v) h;exact .inl ⟨i,t,rfl,e⟩
|.inr x,v,h=>by
   obtain⟨t,e⟩:=Value.isStrOf_shape (x:=x) (v:=v) h;exact .inr ⟨x,t,rfl,e⟩
def ziR (i:Int)(t:Tok):zh6 (.inl i) (.int i t)=true:=by simp[zh6,Value.isInt]
def ziS (x:Str)(t:Tok):zh6 (.inr x) (.str x t)=true:=by simp[zh6,Value.isStrOf]
def zo7 (a b:Int):decide ((Sum.inl a:Key)=Sum.inl b)=(a == b):=by
 by_cases e:a=b
 .subst e;simp
 .have h:¬(Sum.inl a:Key)=Sum.inl b:=λq=>e (Sum.inl.inj q)
  rw[waq h];exact(beq_eq_false_iff_ne.mpr e).symm
def zo8 (a b:Str):decide ((Sum.inr a:Key)=Sum.inr b)=decide (a=b):=by
 by_cases e:a=b
 .subst e;simp
 .have h:¬(Sum.inr a:Key)=Sum.inr b:=λq=>e (Sum.inr.inj q)
  rw[waq h,waq e]
def zo9 (a:Int)(b:Str):decide ((Sum.inl a:Key)=Sum.inr b)=false:=waq (λq=>nomatch q)
def zpa (a:Str)(b:Int):decide ((Sum.inr a:Key)=Sum.inl b)=false:=waq (λq=>nomatch q)
def zbo (prog:Program)(w:World):PySem.KeyKind prog w Key where
 is:=zh6
 hash:=keyH w
 inj:=λv a b ha hb=>by
  rcases zaM ha with⟨i,t,rfl,rfl⟩|⟨x,t,rfl,rfl⟩
  .rcases zaM hb with⟨j,u,rfl,e⟩|⟨y,u,rfl,e⟩
   .injection e with e1 _;rw[e1]
   .exact nomatch e
  .rcases zaM hb with⟨j,u,rfl,e⟩|⟨y,u,rfl,e⟩
   .exact nomatch e
   .injection e with e1 _;rw[e1]
 byValue:=λk v h=>by
  rcases zaM h with⟨i,t,rfl,rfl⟩|⟨x,t,rfl,rfl⟩ <;> rfl
 pyHash:=λhv h=>by
  rcases zaM hv with⟨i,t,rfl,rfl⟩|⟨x,t,rfl,rfl⟩
  .exact wpAny_pyHash_int h
  .exact wpAny_pyHash_str h
 eqBool:=λhu hv h=>by
  rcases zaM hu with⟨i,t,rfl,rfl⟩|⟨x,t,rfl,rfl⟩
  .rcases zaM hv with⟨j,u,rfl,rfl⟩|⟨y,u,rfl,rfl⟩
   .rw[zo7] at h;exact wpAny_eqBool_int h
   .rw[zo9] at h;exact SeqAt.EqAt.int_str i t y u _ _ _ _ h
  .rcases zaM hv with⟨j,u,rfl,rfl⟩|⟨y,u,rfl,rfl⟩
   .rw[zpa] at h;exact SeqAt.EqAt.str_int x t j u _ _ _ _ h
   .rw[zo8] at h;exact wpAny_eqBool_str h
 «strs»:=λk x t v h=>by
  rcases zaM h with⟨i,u,rfl,e⟩|⟨y,u,rfl,e⟩
  .exact nomatch e
  .injection e with e1 _
   subst e1;cases v <;> rfl
def zgA (prog:Program)(w:World)(i:Int)(t:Tok):(zbo prog w).is (.inl i) (.int i t)=true:=ziR i t
def zgB (prog:Program)(w:World)(x:Str)(t:Tok):(zbo prog w).is (.inr x) (.str x t)=true:=ziS x t
inductive V where
|non|bl (b:Bool)|int (i:Int)|str (x:Str)|byt (b:Array UInt8)|flt (b:UInt64)|ref (a:Addr)|ty (n:String)
 deriving DecidableEq
def RelV:V->Value->Prop
|.non,u=>u=Value.none
|.bl b,u=>u=Value.bool b
|.int i,u=>∃t,u=Value.int i t
|.str x,u=>∃t,u=Value.str x t
|.byt b,u=>∃t,u=Value.bytes b t
|.flt b,u=>∃t,u=Value.float b t
|.ref a,u=>u=Value.ref a
|.ty n,u=>u=Value.type n
abbrev Vals:List V->List Value->Prop:=Paired RelV
theorem Vals.length {xs:List V}{us:List Value}(r:Vals xs us):xs.length=us.length:=Paired.length r
theorem Vals.get:∀{xs:List V}{us:List Value}{i:Nat}{x:V},Vals xs us->xs[i]?=some x->∃u,us[i]?=some u/\RelV x u
|_,_,_,_,.nil,e=>by simp at e
|_,_,0,_,.cons r _,e=>by simp at e;subst e;exact⟨_,rfl,r⟩
|_,_,i+1,x,.cons _ t,e=>by
   obtain⟨u,h1,h2⟩:=Vals.get (i:=i) (x:=x) t (by simpa using e);exact⟨u,by simpa using h1,h2⟩
theorem Vals.set {x:V}{u:Value}(r:RelV x u):∀{xs:List V}{us:List Value}(i:Nat),Vals xs us->Vals (xs.set i x) (us.set i u)
|_,_,_,.nil=>.nil
|_,_,0,.cons _ t=>.cons r t
|_,_,i+1,.cons q t=>.cons q (Vals.set r i t)
theorem Vals.append:∀{xs ys:List V}{us ws:List Value},Vals xs us->Vals ys ws->Vals (xs++ys) (us++ws)
|_,_,_,_,.nil,s=>s
|_,_,_,_,.cons r t,s=>.cons r (Vals.append t s)
theorem Vals.take:∀{xs:List V}{us:List Value}(n:Nat),Vals xs us->Vals (xs.take n) (us.take n)
|_,_,0,_=>.nil
|_,_,_+1,.nil=>.nil
|_,_,n+1,.cons r t=>.cons r (Vals.take n t)
theorem Vals.drop:∀{xs:List V}{us:List Value}(n:Nat),Vals xs us->Vals (xs.drop n) (us.drop n)
|_,_,0,r=>r
|_,_,_+1,.nil=>.nil
|_,_,n+1,.cons _ t=>Vals.drop n t
def Vals.none_of:∀{xs:List V}{us:List Value}{i:Nat},Vals xs us->xs[i]?=none->us[i]?=none:=λ{xs us i} r e=>by
 have h1:=r.length
 have h2:xs.length<=i:=List.getElem?_eq_none_iff.mp e
 exact List.getElem?_eq_none_iff.mpr (by omega)
def RelO:Option V->Option Value->Prop
|some v,some u=>RelV v u
|none,none=>True
|_,_=>False
def KV {A:Type}:List (A×V)->List (A×Value)->Prop:=Paired λ(p:A×V) (q:A×Value)=>p.1=q.1/\RelV p.2 q.2
def kV:Key->V
|.inl i=>.int i
|.inr x=>.str x
inductive HO where
|lst (xs:List V)
|tup (xs:List V)
|dK (kvs:List (Key×V))|dT (kvs:List (List Key×V))
|set (S:Int->Bool) (n:Nat)
|ins (C dx:Addr) (fs:List (Str×V))
|own (x:Addr)
|xd (fs:List (Str×V))
|met (f x:Addr)
|rng (lo hi:Int)
|frz (o:Obj) (u:HO)
|tbl (ps:Array Value)
|ext (B:Heap->Prop)
abbrev Hp:=Addr->Option HO
def upd (H:Hp)(a:Addr)(o:HO):Hp:=λb=>if b=a then some o else H b
def zai {H:Hp}{a:Addr}{o:HO}:upd H a o a=some o:=by unfold upd;rw[if_pos rfl]
def zah {H:Hp}{a b:Addr}{o:HO}(h:b≠a):upd H a o b=H b:=by unfold upd;rw[if_neg h]
def za6 {H:Hp}{a b:Addr}{o:HO}(h:H a=some o)(h':H b=none):a≠b:=by
 intro e;subst e;rw[h] at h';cases h'
section
variable (P:Program)(w:World)
def ObjOk (H:Hp)(h:Heap)(a:Addr):HO->Prop
|.lst xs=>xs.length<=sizeLine/\∃(its:List Value) (n:Nat),Vals xs its/\h.get? a=some {cls:=.type "list",data:=.seq its.toArray n}
|.tup xs=>xs.length<=sizeLine/\∃its:List Value,Vals xs its/\IsTup h a its.toArray
|.dK kvs=>kvs.length<=sizeLine/\(a == sysModules)=false/\∃vs,KV kvs vs/\h.DictOf (zbo P w) a vs
|.dT kvs=>kvs.length<=sizeLine/\(a == sysModules)=false/\∃xs:List (List Key×Addr×Value),
  Paired (λ(p:List Key×V) (q:List Key×Addr×Value)=>p.1=q.1/\H q.2.1=some (.tup (p.1.map kV))/\RelV p.2 q.2.2) kvs xs/\
  ∃o es ep,h.get? a=some o/\o.ExactDict/\o.data=.dict es ep/\es.toList=xs.map (entryOfKey (tupleKind (zbo P w)))/\(xs.map (·.1)).Nodup
|.set S n=>h.SetOf (intKind P w) a S n
|.ins C dx fs=>H dx=some (.own a)/\fs.length<=1000/\dx≠a/\h.get? a=some (PySem.W.instObj C dx)/\
  ∃mA,h.Ns1 dx mA/\(∀f,RelO (fs.lookup f) (mA f))/\PySem.Within mA (fs.map (·.1))
|.own _=>∃o,h.get? a=some o
|.xd fs=>∃mA,h.Ns1 a mA/\∀f,RelO (fs.lookup f) (mA f)
|.rng lo hi=>∃t u v,h.get? a=some {cls:=.type "range",data:=.fields #[.int lo t,.int hi u,.int 1 v]}
|.frz o u=>h.get? a=some o/\ObjOk H h a u
|.tbl ps=>∃qs:Array Value,h.get? a=some {cls:=.none,data:=.fields qs}/\TriplesOk qs.toList/\∀pos cv,codeAmong pos qs.toList=some cv->∃c' o u vs t q,cv=Value.ref c'/\H c'=some (.frz o u)/\o.data=.fields vs/\vs[1]?=some (Value.str q t)/\ps[0]?=some (Value.str q 0)
|.met f x=>h.get? a=some (PySem.W.methodObj (.ref f) (.ref x))
|.ext B=>B h/\(∃o,h.get? a=some o)/\∀h1 h2:Heap,B h1->(∀o,h1.get? a=some o->h2.get? a=some o)->B h2
def HOk (H:Hp)(h:Heap):Prop:=∀a o,H a=some o->ObjOk P w H h a o
end
section
variable {P:Program}{w:World}{H H':Hp}{h h':Heap}{a:Addr}{o:HO}
theorem ObjOk.lt (x:ObjOk P w H h a o):a<h.objs.size:=by
 cases o with
|lst xs=>obtain⟨_,_,_,_,e⟩:=x;exact waf e
|tup xs=>obtain⟨_,_,_,p⟩:=x;exact p.lt
|dK kvs=>obtain⟨_,_,_,_,o,_,_,e,_⟩:=x;exact waf e
|dT kvs=>obtain⟨_,_,_,_,o,_,_,e,_⟩:=x;exact waf e
|set S n=>obtain⟨o,_,_,_,e,_⟩:=x;exact waf e
|ins C dx fs=>obtain⟨_,_,_,e,_⟩:=x;exact waf e
|own y=>obtain⟨_,e⟩:=x;exact waf e
|xd fs=>obtain⟨_,⟨_,_,_,e,_⟩,_⟩:=x;exact waf e
|rng lo hi=>obtain⟨_,_,_,e⟩:=x;exact waf e
|frz ob u=>obtain⟨e,_⟩:=x;exact waf e
|tbl ps=>obtain⟨_,e,_⟩:=x;exact waf e
|met f y=>exact waf (show h.get? a=some _ from x)
|ext B=>obtain⟨_,⟨_,e⟩,_⟩:=x;exact waf e
theorem Paired.mapP {C B:Type}{F G:C->B->Prop}:∀{l₁:List C}{l₂:List B},Paired F l₁ l₂->(∀a b,F a b->G a b)->Paired G l₁ l₂
|_,_,.nil,_=>.nil
|_,_,.cons r t,f=>.cons (f _ _ r) (Paired.mapP t f)
def Cst:HO->Prop
|.tup _=>True
|.frz _ _=>True
|_=>False
def ObjOk.stay (x:ObjOk P w H h a o)(k:∀b u,(b=a\/H b=some (.own a))->h.get? b=some u->h'.get? b=some u)
 (ho:∀b,H b=some (.own a)->H' b=some (.own a)) (ht:∀b z,Cst z->H b=some z->H' b=some z):ObjOk P w H' h' a o:=by
 induction o with
|lst xs=>obtain⟨z,its,n,r,e⟩:=x;exact⟨z,its,n,r,k _ _ (.inl rfl) e⟩
|tup xs=>obtain⟨z,its,r,ob,e,c⟩:=x;exact⟨z,its,r,ob,k _ _ (.inl rfl) e,c⟩
|dK kvs=>obtain⟨z,y,vs,r,ob,es,ep,e,c⟩:=x;exact⟨z,y,vs,r,ob,es,ep,k _ _ (.inl rfl) e,c⟩
|dT kvs=>
   obtain⟨z,y,xs,r,ob,es,ep,e,c⟩:=x;exact⟨z,y,xs,Paired.mapP r λp q z=>⟨z.1,ht _ _ trivial z.2.1,z.2.2⟩,ob,es,ep,k _ _ (.inl rfl) e,c⟩
|set S n=>obtain⟨ob,es,ep,t,e,c⟩:=x;exact⟨ob,es,ep,t,k _ _ (.inl rfl) e,c⟩
|ins C dx fs=>
   obtain⟨d,z,ne,e,mA,⟨od,es,ep,e2,c⟩,r⟩:=x;exact⟨ho _ d,z,ne,k _ _ (.inl rfl) e,mA,⟨od,es,ep,k _ _ (.inr d) e2,c⟩,r⟩
|own y=>obtain⟨ob,e⟩:=x;exact⟨ob,k _ _ (.inl rfl) e⟩
|xd fs=>obtain⟨mA,⟨od,es,ep,e,c⟩,r⟩:=x;exact⟨mA,⟨od,es,ep,k _ _ (.inl rfl) e,c⟩,r⟩
|rng lo hi=>obtain⟨t,u,v,e⟩:=x;exact⟨t,u,v,k _ _ (.inl rfl) e⟩
|frz ob u ih=>obtain⟨e,q⟩:=x;exact⟨k _ _ (.inl rfl) e,ih q⟩
|tbl ps=>obtain⟨qs,e,r,rc⟩:=x;exact⟨qs,k a _ (.inl rfl) e,r,λpos cv q=>let ⟨c',o,u,vs,t,q',e1,e2,e3⟩:=rc pos cv q;⟨c',o,u,vs,t,q',e1,ht _ _ trivial e2,e3⟩⟩
|met f y=>
   have e:h.get? a=some (PySem.W.methodObj (.ref f) (.ref y)):=x
   show h'.get? a=some (PySem.W.methodObj (.ref f) (.ref y))
   exact k a _ (.inl rfl) e
|ext B=>obtain⟨p,⟨o,e⟩,st⟩:=x;exact⟨st _ _ p λo q=>k _ _ (.inl rfl) q,⟨o,k _ _ (.inl rfl) e⟩,st⟩
theorem HOk.lt (x:HOk P w H h)(e:H a=some o):a<h.objs.size:=(x a o e).lt
def HOk.fresh (x:HOk P w H h)(e:h.objs.size<=a):H a=none:=by
 cases q:H a with
|none=>rfl
|some u=>exact absurd (wam (x.lt q) e) (waP _)
def HOk.kept (x:HOk P w H h)(k:∀b u,h.get? b=some u->h'.get? b=some u):HOk P w H h':=λa o e=>
 (x a o e).stay (λb u _ q=>k b u q) (λ_ q=>q) λ_ _ _ q=>q
def HOk.laid (x:HOk P w H h)(k:∀b u,h.get? b=some u->h'.get? b=some u)(hp:h.objs.size<=a)(new:ObjOk P w (upd H a o) h' a o):HOk P w (upd H a o) h':=λb u e=>by
 have hn:=x.fresh hp
 by_cases hb:b=a
 .subst hb;rw[zai] at e;cases e;exact new
 .rw[zah hb] at e;exact(x b u e).stay (λc v _ q=>k c v q) (λc q=>by rw[zah (za6 q hn)];exact q) λc xs _ q=>by rw[zah (za6 q hn)];exact q
end
def Rd (H:Hp)(a:Addr)(u:HO):Prop:=H a=some u\/∃o,H a=some (.frz o u)
def Rd.ok {P:Program}{w:World}{H:Hp}{h:Heap}{a:Addr}{u:HO}(r:Rd H a u)(x:HOk P w H h):ObjOk P w H h a u:=by
 rcases r with r|⟨o,r⟩
 .exact x a u r
 .obtain⟨_,q⟩:=x a _ r;exact q
def Mut:Option HO->Prop
|some (.lst _)=>True
|some (.dK _)=>True
|some (.dT _)=>True
|some (.set _ _)=>True
|some (.ins _ _ _)=>True
|some (.ext _)=>True
|_=>False
section
variable {P:Program}{w:World}{H:Hp}{h h':Heap}{x e:Addr}{o':HO}
def HOk.write (ok:HOk P w H h)(mu:Mut (H x))(he:e=x\/H e=some (.own x))(k:∀b u,b≠e->h.get? b=some u->h'.get? b=some u)(heo:∃u,h'.get? e=some u)
 (new:ObjOk P w (upd H x o') h' x o'):HOk P w (upd H x o') h':=λb u q=>by
 have nown:∀c y,H c=some (.own y)->c≠x:=λc y r z=>by subst z;rw[r] at mu;exact mu
 have ntup:∀c o,Cst o->H c=some o->c≠x:=λc o hc r z=>by subst z;rw[r] at mu;cases o <;> first|exact mu|exact hc
 by_cases hb:b=x
 .subst hb;rw[zai] at q;cases q;exact new
 .rw[zah hb] at q;by_cases hbe:b=e
  .have q':H b=some (.own x):=by
    rcases he with z|z
    .exact absurd (hbe.trans z) hb
    .rw[hbe];exact z
   rw[q] at q';cases q';obtain⟨v,hv⟩:=heo;exact⟨v,by rw[hbe];exact hv⟩
  .refine(ok b u q).stay (λc v hc r=>k c v ?_ r) (λc r=>by rw[zah (nown c b r)];exact r) λc xs hc r=>by rw[zah (ntup c xs hc r)];exact r
   rcases hc with rfl|hc
   .exact hbe
   .rintro rfl;rcases he with z|z
    .exact nown c b hc z
    .rw[hc] at z;cases z;exact hb rfl
end
structure Un (fs ex:List Addr)(H H':Hp)(h h':Heap):Prop where
 keep:∀b o,h.get? b=some o->H b=none->b∉fs->b∉ex->h'.get? b=some o
 slot:∀b o,h.get? b=some o->H b=none->b∈fs->b∉ex->∃sl,h'.get? b=some {o with slots:=sl}
 free:∀b o,h.get? b=some o->H b=none->b∉ex->H' b=none
 there:∀b o,h.get? b=some o->b∉ex->∃o',h'.get? b=some o'
 tups:∀b xs,H b=some (.tup xs)->H' b=some (.tup xs)
 frzs:∀b o u,H b=some (.frz o u)->H' b=some (.frz o u)
 tbls:∀b ps,H b=some (.tbl ps)->∃more,H' b=some (.tbl (ps++more))
section
variable {fs fs' ex ex':List Addr}{H H1 H2:Hp}{h h1 h2 h':Heap}{a x e:Addr}{o:HO}
def Un.any (u:Un fs ex H H1 h h1){b:Addr}{ob:Obj}(q:h.get? b=some ob)(n:H b=none)(hx:b∉ex):∃sl,h1.get? b=some {ob with slots:=sl}:=by
 by_cases hb:b∈fs
 .exact u.slot b ob q n hb hx
 .exact⟨ob.slots,u.keep b ob q n hb hx⟩
def Un.kept (k:∀b u,h.get? b=some u->h'.get? b=some u):Un fs ex H H h h':=
 ⟨λb ob q _ _ _=>k b ob q,λb ob q _ _ _=>⟨ob.slots,k b ob q⟩,λ_ _ _ n _=>n,λb ob q _=>⟨ob,k b ob q⟩,λ_ _ q=>q,λ_ _ _ q=>q,λ_ ps q=>⟨#[],by rw[q];simp⟩⟩
def Un.refl:Un fs ex H H h h:=Un.kept λ_ _ q=>q
def Un.laid (k:∀b u,h.get? b=some u->h'.get? b=some u)(hp:h.objs.size<=a)(hn:H a=none):Un fs ex H (upd H a o) h h' where
 keep:=λb u q _ _ _=>k b u q
 slot:=λb u q _ _ _=>⟨u.slots,k b u q⟩
 free:=λb u q n _=>by rw[zah (wax (wam (waf q) hp))];exact n
 there:=λb u q _=>⟨u,k b u q⟩
 tups:=λb xs q=>by rw[zah (za6 q hn)];exact q
 frzs:=λb u xs q=>by rw[zah (za6 q hn)];exact q
 tbls:=λb ps q=>⟨#[],by rw[zah (za6 q hn),q];simp⟩
def Un.write (mu:Mut (H x))(he:e=x\/H e=some (.own x))(k:∀b u,b≠e->h.get? b=some u->h'.get? b=some u)(heo:∃u,h'.get? e=some u):Un fs ex H (upd H x o) h h':=by
 have hx:∀b,H b=none->b≠x:=λb n z=>by subst z;rw[n] at mu;exact mu
 have hb:∀b,H b=none->b≠e:=λb n z=>by
  subst z;rcases he with r|r
  .exact hx b n r
  .rw[n] at r;cases r
 have hm:∀b u,H b=some u->¬Mut (some u)->b≠x:=λb u q nm z=>by subst z;rw[q] at mu;exact nm mu
 refine⟨λb u q n _ _=>k b u (hb b n) q,λb u q n _ _=>⟨u.slots,k b u (hb b n) q⟩,λb u q n _=>by rw[zah (hx b n)];exact n,λb u q _=>?_,
  λb xs q=>by rw[zah (hm b _ q λz=>z)];exact q,λb u xs q=>by rw[zah (hm b _ q λz=>z)];exact q,λb ps q=>⟨#[],by rw[zah (hm b _ q λz=>z),q];simp⟩⟩
 by_cases hbe:b=e
 .subst hbe;exact heo
 .exact⟨u,k b u hbe q⟩
end
def trk (h:Heap)(H:Hp):List Addr:=(List.range h.objs.size).filter λa=>(H a).isSome
def hidT (h:Heap)(H:Hp):Heap:=PySem.W.hideAll h (trk h H)
def ziT (h:Heap)(H:Hp):(hidT h H).objs.size=h.objs.size:=PySem.W.hideAll_size _ _
def zk1 {h:Heap}{H:Hp}{b:Addr}{o:Obj}(e:h.get? b=some o)(n:H b=none):(hidT h H).get? b=some o:=
 PySem.W.hideAll_get _ e λhm=>by
  have q:(H b).isSome=true:=(List.mem_filter.mp hm).2
  rw[n] at q;simp at q
def znp {h:Heap}{H:Hp}{b:Addr}{o:Obj}(e:(hidT h H).get? b=some o):h.get? b=some o/\H b=none:=by
 have e':h.get? b=some o:=PySem.W.of_hideAll (trk h H) e
 refine⟨e',?_⟩;cases q:H b with
|none=>rfl
|some x=>
   have hm:b∈trk h H:=List.mem_filter.mpr ⟨wbq.mpr (waf e'),by simp[q]⟩
   have z:(hidT h H).get? b=none:=PySem.W.hideAll_none (trk h H) hm
   rw[z] at e;cases e
structure Mod (K:W.Frag)(mg:Str->Option Value)(base:Heap):Prop where
 kin:K.In base
 glob:base.Ns mainGlobals mg
 blt:∃mb,base.Ns builtinsNs mb/\∀x:Str,x≠"__name__"->mb x=bootBuiltins x
 nolimit:base.NoLimit
structure Cx where
 prog:Program
 w:World
 K:W.Frag
 mg:Str->Option Value
 base:Heap
 A:Around
 N:List Str
 s₀:Shared
 Hz:Hp
 env:Env
 outer:List Env
 stack:List Env
 ex:List Addr
 fn:Str->Bool
 calm:Bool
 pn:List (Addr×Obj)
 xe:Value->Shared->Prop
def frs (l:List Env):List Addr:=l.filterMap (·.frame)
abbrev Cx.fs (X:Cx):List Addr:=frs X.outer
def Vis (sc:Scope)(x:Str):Prop:=sc.names.lookup x=some .local\/sc.names.lookup x=some .cell\/sc.names.lookup x=some .free
def Loc (sc:Scope)(x:Str):Prop:=sc.names.lookup x=some .local\/sc.names.lookup x=some .cell
def Look (env:Env)(h:Heap)(m:Str->Option Value)(x:Str)(u:Value):Prop:=
 (env.kindOf x=some .local/\m x=some u)\/((env.kindOf x=some .cell\/env.kindOf x=some .free)/\∃c,env.cells.lookup x=some c/\h.IsCell c (some u))
structure Cx.Ok (X:Cx):Prop where
 mod:Mod X.K X.mg X.base
 kind:X.env.scope.kind=.function
 glob:X.env.globals=mainGlobals
 blt:X.env.builtins=builtinsNs
 above:X.s₀.heap.objs.size<=X.env.locals
 inj:∀x y c,X.env.cells.lookup x=some c->X.env.cells.lookup y=some c->x=y
 has:∀x,(X.env.kindOf x=some .cell\/X.env.kindOf x=some .free)->∃c,X.env.cells.lookup x=some c
 cab:∀x c,X.fn x=true->X.env.cells.lookup x=some c->X.s₀.heap.objs.size<=c
 hd:X.calm=true->X.A.handled=none
 frames:X.A.frames=some X.stack
 stk:X.stack=X.outer\/(X.stack=X.env::X.outer/\X.env.frame=some X.env.locals)
 exf:∀b∈X.ex,b≠X.env.locals/\∀x c,X.env.cells.lookup x=some c->c≠b
 bs:∀b o,X.base.get? b=some o->X.s₀.heap.get? b=some o/\X.Hz b=none
 bsz:X.base.objs.size<=X.s₀.heap.objs.size
 noex:∀b o,X.base.get? b=some o->b∉X.ex
 exfs:∀b∈X.ex,b∉X.fs
 funs:X.s₀.heap.FunFrames X.base X.outer
 frf:∀b∈X.fs,X.Hz b=none
structure Inv (X:Cx)(pins:List (Addr×Obj))(Y:List (Option V))(H:Hp)(s:Shared):Prop where
 ok:X.Ok
 os:s.os=X.s₀.os
 bare:AllBare s.gens
 base:Un X.fs X.ex X.Hz H X.s₀.heap s.heap
 loc:∃m,s.heap.Ns X.env.locals m/\∀(i:Nat) (x:Str) (v:V),X.N[i]?=some x->Y[i]?=some (some v)->Vis X.env.scope x->∃u,RelV v u/\Look X.env s.heap m x u
 cell:∀x c,X.env.cells.lookup x=some c->∃v,s.heap.IsCell c v
 free:H X.env.locals=none
 freeC:∀x c,X.env.cells.lookup x=some c->H c=none
 pin:∀p∈X.pn++pins,s.heap.get? p.1=some p.2/\H p.1=none/\p.1≠X.env.locals/\p.1∉X.fs/\∀v,p.2.data≠.cell v
 hok:HOk X.prog X.w H s.heap
 len:Y.length=X.N.length
section
variable {X:Cx}{pins:List (Addr×Obj)}{Y:List (Option V)}{H H':Hp}{s:Shared}{h':Heap}
def Cx.Ok.nofr (ok:X.Ok){b:Addr}{o:Obj}(e:X.base.get? b=some o):b∉X.fs:=λhb=>by
 have:=(ok.funs.mem hb).1
 rw[e] at this;cases this
theorem Inv.bs (I:Inv X pins Y H s):∀b o,X.base.get? b=some o->s.heap.get? b=some o/\H b=none:=λb o e=>
 ⟨I.base.keep b o (I.ok.bs b o e).1 (I.ok.bs b o e).2 (I.ok.nofr e) (I.ok.noex b o e),I.base.free b o (I.ok.bs b o e).1 (I.ok.bs b o e).2 (I.ok.noex b o e)⟩
def Inv.bk (I:Inv X pins Y H s):∀b o,X.base.get? b=some o->s.heap.get? b=some o:=λb o e=>(I.bs b o e).1
theorem Inv.mod (I:Inv X pins Y H s):Mod X.K X.mg X.base:=I.ok.mod
def Inv.kIn (I:Inv X pins Y H s):X.K.In s.heap:=I.ok.mod.kin.keeps I.bk
theorem Inv.nolimit (I:Inv X pins Y H s):s.heap.NoLimit:=I.ok.mod.nolimit.keeps I.bk
theorem Inv.lt (I:Inv X pins Y H s):X.env.locals<s.heap.objs.size:=let ⟨_,hn,_⟩:=I.loc;hn.lt
def Inv.sz (I:Inv X pins Y H s):X.s₀.heap.objs.size<=s.heap.objs.size:=wal I.ok.above (wbg I.lt)
def Inv.nofs (I:Inv X pins Y H s){a:Addr}(h:s.heap.objs.size<=a):a∉X.fs:=λhb=>by
 obtain⟨_,o,ho,_⟩:=I.ok.funs.mem hb;exact absurd (wam (waf ho) (wal I.sz h)) (waP _)
def Inv.cne (I:Inv X pins Y H s):∀x c,X.env.cells.lookup x=some c->c≠X.env.locals:=λx c e z=>by
 obtain⟨v,o,ho,hd⟩:=I.cell x c e;obtain⟨m,⟨o',es,ep,ho',hd',_⟩,_⟩:=I.loc;rw[z,ho'] at ho;cases ho;rw[hd'] at hd;cases hd
theorem Inv.funs (I:Inv X pins Y H s):s.heap.FunFrames X.base X.outer:=by
 have all:∀(l:List Env),(∀b∈frs l,b∈X.fs)->X.s₀.heap.FunFrames X.base l->s.heap.FunFrames X.base l:=by
  intro l;induction l with
 |nil=>intro _ _;trivial
 |cons env r ih=>
    intro hs hl;obtain⟨hk,⟨L,o,hf,hn,ho,hd⟩,hr⟩:=hl;have hL:L∈X.fs:=hs L (by unfold frs;rw[wcB,hf];exact wak)
    obtain⟨sl,e⟩:=I.base.slot L o ho (I.ok.frf L hL) hL λz=>I.ok.exfs L z hL
    exact⟨hk,⟨L,_,hf,hn,e,hd⟩,ih (λb hb=>hs b (by unfold frs;rw[wcB,hf];exact wag _ hb)) hr⟩
 exact all X.outer (λ_ hb=>hb) I.ok.funs
theorem Inv.stack (I:Inv X pins Y H s):s.heap.FunFrames X.base X.stack:=by
 rcases I.ok.stk with e|⟨e,hf⟩
 .rw[e];exact I.funs
 .rw[e];obtain⟨m,hn,_⟩:=I.loc;refine .cons (by rw[I.ok.kind];decide) hf hn ?_ I.funs;exact wbp (wal I.ok.bsz I.ok.above)
def Inv.stkSub (I:Inv X pins Y H s):∀b∈frs X.stack,b∈X.env.locals::X.fs:=λb hb=>by
 rcases I.ok.stk with e|⟨e,hf⟩
 .rw[e] at hb;exact wag _ hb
 .rw[e] at hb;unfold frs at hb;rw[wcB,hf] at hb;exact hb
def Inv.stkFree (I:Inv X pins Y H s):∀b∈frs X.stack,H b=none:=λb hb=>by
 rcases wah.mp (I.stkSub b hb) with e|hb
 .rw[e];exact I.free
 .obtain⟨_,o,ho,_⟩:=I.ok.funs.mem hb;exact I.base.free b o ho (I.ok.frf b hb) λz=>I.ok.exfs b z hb
def Inv.step {g':Array GenState}{t':Nat}{d':Drawn}{ch:List Addr}(I:Inv X pins Y H s)
 (hch:∀b∈ch,(b∈X.ex\/X.s₀.heap.objs.size<=b)/\b≠X.env.locals/\(∀x c,X.env.cells.lookup x=some c->c≠b)/\∀p∈X.pn++pins,p.1≠b)
 (keep:∀b o,b≠X.env.locals->b∉X.fs->b∉ch->s.heap.get? b=some o->H b=none->h'.get? b=some o)
 (slot:∀b o,b≠X.env.locals->b∈X.fs->b∉ch->s.heap.get? b=some o->H b=none->∃sl,h'.get? b=some {o with slots:=sl}) (free:∀b o,b∉ch->s.heap.get? b=some o->H b=none->H' b=none)
 (there:∀b o,b∉ch->s.heap.get? b=some o->∃o',h'.get? b=some o')
 (tups:∀b xs,H b=some (.tup xs)->H' b=some (.tup xs)) (frzs:∀b o u,H b=some (.frz o u)->H' b=some (.frz o u)) (tbls:∀b ps,H b=some (.tbl ps)->∃more,H' b=some (.tbl (ps++more)))
 (ns:∀m,s.heap.Ns X.env.locals m->h'.Ns X.env.locals m) (hok:HOk X.prog X.w H' h') (hg:AllBare g') :
 Inv X pins Y H' {s with heap:=h',gens:=g',drawn:=d',toks:=t'}:=by
 have neL:∀b o,X.s₀.heap.get? b=some o->b≠X.env.locals:=λb o e=>wax (wam (waf e) I.ok.above)
 have neC:∀b o,X.s₀.heap.get? b=some o->b∉X.ex->b∉ch:=λb o e hx hb=>by
  rcases(hch b hb).1 with z|z
  .exact hx z
  .exact absurd (wam (waf e) z) (waP _)
 have cellK:∀x c,X.env.cells.lookup x=some c->∀v,s.heap.IsCell c v->h'.IsCell c v:=λx c e v ⟨o,ho,hd⟩=>by
  have nch:c∉ch:=λz=>(hch c z).2.2.1 x c e rfl
  by_cases hc:c∈X.fs
  .obtain⟨sl,q⟩:=slot c o (I.cne x c e) hc nch ho (I.freeC x c e);exact⟨_,q,hd⟩
  .exact⟨o,keep c o (I.cne x c e) hc nch ho (I.freeC x c e),hd⟩
 refine⟨I.ok,I.os,hg,⟨λb o e n hb hx=>?_,λb o e n hb hx=>?_,λb o e n hx=>?_,λb o e hx=>?_,λb xs e=>tups b xs (I.base.tups b xs e),λb o xs e=>frzs b o xs (I.base.frzs b o xs e),λb ps e=>?_⟩,?_,λx c e=>?_,?_,λx c e=>?_,λp hp=>?_,hok,I.len⟩
 .exact keep b o (neL b o e) hb (neC b o e hx) (I.base.keep b o e n hb hx) (I.base.free b o e n hx)
 .obtain⟨sl,e1⟩:=I.base.slot b o e n hb hx;obtain⟨sl',e2⟩:=slot b _ (neL b o e) hb (neC b o e hx) e1 (I.base.free b o e n hx);exact⟨sl',e2⟩
 .obtain⟨o',e1⟩:=I.base.there b o e hx;exact free b o' (neC b o e hx) e1 (I.base.free b o e n hx)
 .obtain⟨o',e1⟩:=I.base.there b o e hx;exact there b o' (neC b o e hx) e1
 .obtain⟨m1,e1⟩:=I.base.tbls b ps e;obtain⟨m2,e2⟩:=tbls b _ e1;exact⟨m1++m2,by rw[e2,Array.append_assoc]⟩
 .obtain⟨m,hn,hl⟩:=I.loc;refine⟨m,ns m hn,λi x v e1 e2 e3=>?_⟩;obtain⟨u,r,l⟩:=hl i x v e1 e2 e3;refine⟨u,r,?_⟩;rcases l with l|⟨k,c,e,z⟩
  .exact .inl l
  .exact .inr ⟨k,c,e,cellK x c e _ z⟩
 .obtain⟨v,z⟩:=I.cell x c e;exact⟨v,cellK x c e v z⟩
 .obtain⟨m,⟨o,_,_,ho,_⟩,_⟩:=I.loc;exact free _ o (λz=>(hch _ z).2.1 rfl) ho I.free
 .obtain⟨v,o,ho,hd⟩:=I.cell x c e;exact free c o (λz=>(hch c z).2.2.1 x c e rfl) ho (I.freeC x c e)
 .obtain⟨e,n,ne,nf,d⟩:=I.pin p hp;have nch:p.1∉ch:=λz=>(hch p.1 z).2.2.2 p hp rfl
  exact⟨keep p.1 p.2 ne nf nch e n,free p.1 p.2 nch e n,ne,nf,d⟩
def Inv.un {t':Nat}(I:Inv X pins Y H s)(u:Un X.fs [] H H' s.heap h')(hok:HOk X.prog X.w H' h'):Inv X pins Y H' {s with heap:=h',toks:=t'}:=by
 obtain⟨m,⟨o,es,ep,ho,r⟩,_⟩:=id I.loc;obtain⟨sl,hL⟩:=u.any ho I.free (by simp);exact I.step (g':=s.gens) (d':=s.drawn) (ch:=[]) (λ_ z=>nomatch z) (λb o _ hb _ e n=>u.keep b o e n hb (by simp)) (λb o _ hb _ e n=>u.slot b o e n hb (by simp)) (λb o _ e n=>u.free b o e n (by simp)) (λb o _ e=>u.there b o e (by simp)) u.tups u.frzs u.tbls (λm' hm=>by
  obtain⟨o',es',ep',ho',r'⟩:=hm;rw[ho] at ho';cases ho';exact⟨_,es',ep',hL,r'⟩) hok I.bare
def Inv.call {g':Array GenState}{t':Nat}{d':Drawn}{ch:List Addr}(I:Inv X pins Y H s)(u:Un (frs X.stack) ch H H' s.heap h')(hok:HOk X.prog X.w H' h')(hg:AllBare g')
 (hch:∀b∈ch,(b∈X.ex\/X.s₀.heap.objs.size<=b)/\b≠X.env.locals/\(∀x c,X.env.cells.lookup x=some c->c≠b)/\∀p∈X.pn++pins,p.1≠b) :
 Inv X pins Y H' {s with heap:=h',gens:=g',drawn:=d',toks:=t'}:=by
 obtain⟨m,⟨o,es,ep,ho,r⟩,_⟩:=id I.loc;obtain⟨sl,hL⟩:=u.any ho I.free λz=>(hch _ z).2.1 rfl
 exact I.step (ch:=ch) hch (λb o hL hb hc e n=>u.keep b o e n (λz=>(wah.mp (I.stkSub b z)).elim hL hb) hc) (λb o _ _ hc e n=>u.any e n hc) (λb o hc e n=>u.free b o e n hc) (λb o hc e=>u.there b o e hc) u.tups u.frzs u.tbls (λm' hm=>by
  obtain⟨o',es',ep',ho',r'⟩:=hm;rw[ho] at ho';cases ho';exact⟨_,es',ep',hL,r'⟩) hok hg
def Inv.turned {t':Nat}{it:Addr}(I:Inv X pins Y H s)(k:∀b o,b≠it->s.heap.get? b=some o->h'.get? b=some o)(hn:H it=none)(hL:it≠X.env.locals)
 (h1:it∈X.ex\/X.s₀.heap.objs.size<=it) (h2:∀x c,X.env.cells.lookup x=some c->c≠it) (h3:∀p∈X.pn++pins,p.1≠it):Inv X pins Y H {s with heap:=h',toks:=t'}:=by
 have nit:∀b u,H b=some u->b≠it:=λb u e z=>by rw[z,hn] at e;cases e
 refine I.step (g':=s.gens) (d':=s.drawn) (ch:=[it]) (λb hb=>?_) (λb o _ _ hc e _=>k b o (λz=>hc (by simp[z])) e) (λb o _ _ hc e _=>⟨o.slots,k b o (λz=>hc (by simp[z])) e⟩) (λ_ _ _ _ n=>n)
  (λb o hc e=>⟨o,k b o (λz=>hc (by simp[z])) e⟩) (λ_ _ e=>e) (λ_ _ _ e=>e) (λb ps e=>⟨#[],by rw[e];simp⟩) (λm hm=>?_) (λb u e=>?_) I.bare
 .have e:b=it:=by simpa using hb
  subst e;exact⟨h1,hL,h2,h3⟩
 .obtain⟨o,es,ep,ho,r⟩:=hm;exact⟨o,es,ep,k _ o (Ne.symm hL) ho,r⟩
 .refine(I.hok b u e).stay (λc v hc q=>k c v ?_ q) (λ_ q=>q) λ_ _ _ q=>q
  rcases hc with z|z
  .rw[z];exact nit b u e
  .exact nit c _ z
def Inv.tok (I:Inv X pins Y H s)(t:Nat):Inv X pins Y H {s with toks:=t}:=I.un (h':=s.heap) (t':=t) Un.refl I.hok
theorem Inv.kept {t':Nat}(I:Inv X pins Y H s)(k:∀b u,s.heap.get? b=some u->h'.get? b=some u):Inv X pins Y H {s with heap:=h',toks:=t'}:=I.un (Un.kept k) (I.hok.kept k)
theorem Inv.laid {a:Addr}{o:HO}{t':Nat}(I:Inv X pins Y H s)(k:∀b u,s.heap.get? b=some u->h'.get? b=some u)(hp:s.heap.objs.size<=a)(new:ObjOk X.prog X.w (upd H a o) h' a o) :
 Inv X pins Y (upd H a o) {s with heap:=h',toks:=t'}:=I.un (Un.laid k hp (I.hok.fresh hp)) (I.hok.laid k hp new)
theorem Inv.write {x e:Addr}{o:HO}{t':Nat}(I:Inv X pins Y H s)(mu:Mut (H x))(he:e=x\/H e=some (.own x))(k:∀b u,b≠e->s.heap.get? b=some u->h'.get? b=some u)(heo:∃u,h'.get? e=some u)
 (new:ObjOk X.prog X.w (upd H x o) h' x o):Inv X pins Y (upd H x o) {s with heap:=h',toks:=t'}:=I.un (Un.write mu he k heo) (I.hok.write mu he k heo new)
def Inv.pins_of {pins':List (Addr×Obj)}(I:Inv X pins Y H s)(h:∀p∈pins',s.heap.get? p.1=some p.2/\H p.1=none/\p.1≠X.env.locals/\p.1∉X.fs/\∀v,p.2.data≠.cell v):Inv X pins' Y H s:=
 ⟨I.ok,I.os,I.bare,I.base,I.loc,I.cell,I.free,I.freeC,λp hp=>(waC.mp hp).elim (λz=>I.pin p (wcb _ z)) (h p),I.hok,I.len⟩
def ze2 {N:List Str}(hN:N.Nodup){i j:Nat}{x:Str}(a:N[i]?=some x)(b:N[j]?=some x):i=j:=by
 obtain⟨h1,e1⟩:=wai.mp a;obtain⟨h2,e2⟩:=wai.mp b;exact(List.getElem_inj hN).mp (e1.trans e2.symm)
def zea {M:Model}{A:Around}{E:Value->Shared->Prop}{i:Nat}{x:Str}{v:V}{u:Value}{Q:Unit->Shared->Prop}(I:Inv X pins Y H s)(hN:X.N.Nodup)(hi:X.N[i]?=some x)(hx:Loc X.env.scope x)(r:RelV v u)
 (h:∀s',Inv X pins (Y.set i (some v)) H s'->(∃a,Heap.SameBut a s.heap s'.heap/\(a=X.env.locals\/X.env.cells.lookup x=some a))->Q () s') (hf:X.fn x=true\/X.env.scope.names.lookup x=some .local:=by first|exact .inl rfl|exact .inr rfl|assumption):wpAny M A (storeName X.env x u) Q E s:=by
 obtain⟨m,hn,hl⟩:=id I.loc;have hcls:(X.env.scope.kind == .class||(X.env.scope.kind == .module&&X.env.locals != X.env.globals))=false:=by rw[I.ok.kind];rfl
 have hiσ:i<Y.length:=by rw[I.len];exact(wai.mp hi).1
 have cne:=I.cne
 have tracked:∀{a:Addr}{h':Heap},(∃o,s.heap.get? a=some o/\H a=none)->Heap.SameBut a s.heap h'->HOk X.prog X.w H h':=λ{a h'} ha hs b ob e=>by
  obtain⟨_,_,hfree⟩:=ha;refine(I.hok b ob e).stay (λc w' hc q=>(hs.2 c ?_).trans q) (λ_ q=>q) λ_ _ _ q=>q
  rintro rfl;rcases hc with rfl|hc
  .rw[hfree] at e;cases e
  .rw[hfree] at hc;cases hc
 rcases hx with hk|hk
 .refine wpAny_storeName_local hk hn (λh' hn' hs=>?_) hcls;obtain⟨oL,_,_,hoL,_⟩:=id hn;refine h _ ⟨I.ok,I.os,I.bare,⟨λb o e n hb hx=>?_,λb o e n hb hx=>?_,I.base.free,λb o e hx=>?_,I.base.tups,I.base.frzs,I.base.tbls⟩,⟨_,hn',λj y v' e1 e2 e3=>?_⟩,λy c e=>?_,I.free,I.freeC,λp hp=>?_,tracked ⟨oL,hoL,I.free⟩ hs,by simpa using I.len⟩ ⟨_,hs,.inl rfl⟩
  .exact(hs.2 b (wax (wam (waf e) I.ok.above))).trans (I.base.keep b o e n hb hx)
  .obtain⟨sl,e1⟩:=I.base.slot b o e n hb hx;exact⟨sl,(hs.2 b (wax (wam (waf e) I.ok.above))).trans e1⟩
  .obtain⟨o',e1⟩:=I.base.there b o e hx;exact⟨o',(hs.2 b (wax (wam (waf e) I.ok.above))).trans e1⟩
  .by_cases hj:j=i
   .subst hj;rw[hi] at e1;cases e1;rw[wau hiσ] at e2;cases e2;exact⟨u,r,.inl ⟨hk,by simp⟩⟩
   .rw[wae (Ne.symm hj)] at e2;obtain⟨u',r',q⟩:=hl j y v' e1 e2 e3;refine⟨u',r',?_⟩;rcases q with⟨k,e⟩|⟨k,c,e,z⟩
    .refine .inl ⟨k,?_⟩;have:y≠x:=λe=>hj (ze2 hN e1 (e▸hi))
     simp[this,e]
    .exact .inr ⟨k,c,e,z.sameBut hs (cne y c e)⟩
  .obtain⟨w',z⟩:=I.cell y c e;exact⟨w',z.sameBut hs (cne y c e)⟩
  .obtain⟨e,n,ne,nf,d⟩:=I.pin p hp;exact⟨(hs.2 p.1 ne).trans e,n,ne,nf,d⟩
 .have hfn:X.fn x=true:=by
   rcases hf with z|z
   .exact z
   .rw[z] at hk;cases hk
  obtain⟨c,hc⟩:=I.ok.has x (.inl hk);obtain⟨w',z⟩:=I.cell x c hc;refine wpAny_storeName_cell I.ok.kind hk hc z (λh' hc' hs=>?_);obtain⟨oc,hoc,hocd⟩:=id z;refine h {s with heap:=h'} ⟨I.ok,I.os,I.bare,⟨λb o e n hb hx=>?_,λb o e n hb hx=>?_,I.base.free,λb o e hx=>?_,I.base.tups,I.base.frzs,I.base.tbls⟩,⟨m,hn.sameBut hs (Ne.symm (cne x c hc)),λj y v' e1 e2 e3=>?_⟩,λy c' e=>?_,I.free,I.freeC,λp hp=>?_,tracked ⟨oc,hoc,I.freeC x c hc⟩ hs,by simpa using I.len⟩ ⟨c,hs,.inr hc⟩
  .exact(hs.2 b (wax (wam (waf e) (I.ok.cab x c hfn hc)))).trans (I.base.keep b o e n hb hx)
  .obtain⟨sl,e1⟩:=I.base.slot b o e n hb hx;exact⟨sl,(hs.2 b (wax (wam (waf e) (I.ok.cab x c hfn hc)))).trans e1⟩
  .obtain⟨o',e1⟩:=I.base.there b o e hx;exact⟨o',(hs.2 b (wax (wam (waf e) (I.ok.cab x c hfn hc)))).trans e1⟩
  .by_cases hj:j=i
   .subst hj;rw[hi] at e1;cases e1;rw[wau hiσ] at e2;cases e2;exact⟨u,r,.inr ⟨.inl hk,c,hc,hc'⟩⟩
   .rw[wae (Ne.symm hj)] at e2;obtain⟨u',r',q⟩:=hl j y v' e1 e2 e3;refine⟨u',r',?_⟩;rcases q with q|⟨k,c',e,z'⟩
    .exact .inl q
    .refine .inr ⟨k,c',e,z'.sameBut hs ?_⟩;rintro rfl;exact hj (ze2 hN e1 (I.ok.inj _ _ _ e hc▸hi))
  .by_cases hcc:c'=c
   .subst hcc;exact⟨_,hc'⟩
   .obtain⟨w2,z2⟩:=I.cell y c' e;exact⟨w2,z2.sameBut hs hcc⟩
  .obtain⟨e,n,ne,nf,d⟩:=I.pin p hp;refine⟨(hs.2 p.1 ?_).trans e,n,ne,nf,d⟩;intro q;rw[q,hoc] at e;have q':oc=p.2:=wav e
   exact d w' (by rw[<-q'];exact hocd)
def zd2 {M:Model}{A:Around}{E:Value->Shared->Prop}{i:Nat}{x:Str}{v:V}{u:Value}{Q:Unit->Shared->Prop}(I:Inv X pins Y H s)(hN:X.N.Nodup)(hi:X.N[i]?=some x)(hx:Loc X.env.scope x)(r:RelV v u)
 (h:∀s',Inv X pins (Y.set i (some v)) H s'->Q () s') (hf:X.fn x=true\/X.env.scope.names.lookup x=some .local:=by first|exact .inl rfl|exact .inr rfl|assumption):wpAny M A (storeName X.env x u) Q E s:=
 zea I hN hi hx r (λs' I' _=>h s' I') hf
def Inv.call' {s':Shared}{ch:List Addr}(I:Inv X pins Y H s)(ho:s'.os=s.os)(u:Un (frs X.stack) ch H H' s.heap s'.heap)(hok:HOk X.prog X.w H' s'.heap)(hg:AllBare s'.gens)
 (hch:∀b∈ch,(b∈X.ex\/X.s₀.heap.objs.size<=b)/\b≠X.env.locals/\(∀x c,X.env.cells.lookup x=some c->c≠b)/\∀p∈X.pn++pins,p.1≠b):Inv X pins Y H' s':=by
 obtain⟨h',g',d',t',o'⟩:=s';have e:o'=s.os:=ho
 subst e;exact I.call (g':=g') (t':=t') (d':=d') u hok hg hch
end
abbrev XK:=Value->Option Addr->Hp->Prop
abbrev St:=List (Option V)
abbrev VK:=V->Hp->Prop
abbrev TE:=St->Hp->VK->Prop
abbrev TT:=St->Hp->(Bool->Hp->Prop)->Prop
abbrev TA:=St->Hp->(List V->Hp->Prop)->Prop
structure Ends where
 nx:St->Hp->Prop
 rt:VK
 bk:St->Hp->Prop:=λ_ _=>False
 ct:St->Hp->Prop:=λ_ _=>False
abbrev TS:=Ends->St->Hp->Prop
def EP (X:Cx)(pins:List (Addr×Obj))(Y:St)(Q:VK)(u:Value)(s':Shared):Prop:=∃v H',Inv X pins Y H' s'/\RelV v u/\Q v H'
def TP (X:Cx)(pins:List (Addr×Obj))(Y:St)(Q:Bool->Hp->Prop)(b:Bool)(s':Shared):Prop:=∃H',Inv X pins Y H' s'/\Q b H'
def AP (X:Cx)(pins:List (Addr×Obj))(Y:St)(Q:List V->Hp->Prop)(us:List Value)(s':Shared):Prop:=∃vs H',Inv X pins Y H' s'/\Vals vs us/\Q vs H'
def SP (X:Cx)(pins:List (Addr×Obj))(D:Ends)(f:Flow)(s':Shared):Prop:=
 match f with
|.next=>∃Y' H',Inv X pins Y' H' s'/\D.nx Y' H'
|.brk=>∃Y' H',Inv X pins Y' H' s'/\D.bk Y' H'
|.cont=>∃Y' H',Inv X pins Y' H' s'/\D.ct Y' H'
|.ret u=>∃v Y' H',Inv X pins Y' H' s'/\RelV v u/\D.rt v H'
def PE (X:Cx)(e:Expr)(t:TE):Prop:=
 ∀(pins:List (Addr×Obj)) (s:Shared) (Y:St) (H:Hp) (Q:VK),Inv X pins Y H s->t Y H Q->wpAny (model X.prog X.w) X.A (eval e X.env) (EP X pins Y Q) X.xe s
def PT (X:Cx)(e:Expr)(t:TT):Prop:=
 ∀(pins:List (Addr×Obj)) (s:Shared) (Y:St) (H:Hp) (Q:Bool->Hp->Prop),Inv X pins Y H s->t Y H Q->wpAny (model X.prog X.w) X.A (isTrue e X.env (eval e X.env)) (TP X pins Y Q) X.xe s
def PW (X:Cx)(e:Expr)(t:TT):Prop:=
 ∀(whole:Sem Value) (pins:List (Addr×Obj)) (s:Shared) (Y:St) (H:Hp) (Q:Bool->Hp->Prop),Inv X pins Y H s->t Y H Q->wpAny (model X.prog X.w) X.A (isTrue e X.env whole) (TP X pins Y Q) X.xe s
def PW.pt {X:Cx}{e:Expr}{t:TT}(h:PW X e t):PT X e t:=h _
def PA (X:Cx)(es:List Expr)(t:TA):Prop:=
 ∀(pos:Pos) (pins:List (Addr×Obj)) (s:Shared) (Y:St) (H:Hp) (Q:List V->Hp->Prop),Inv X pins Y H s->t Y H Q->wpAny (model X.prog X.w) X.A (spliced (backTo pos (starEach es X.env))) (AP X pins Y Q) X.xe s
def PS (X:Cx)(st:Stmt)(t:TS):Prop:=
 ∀(pins:List (Addr×Obj)) (s:Shared) (Y:St) (H:Hp) (D:Ends),Inv X pins Y H s->t D Y H->wpAny (model X.prog X.w) X.A (exec st X.env) (SP X pins D) X.xe s
def PSs (X:Cx)(st:List Stmt)(t:TS):Prop:=
 ∀(pins:List (Addr×Obj)) (s:Shared) (Y:St) (H:Hp) (D:Ends),Inv X pins Y H s->t D Y H->wpAny (model X.prog X.w) X.A (execs st X.env) (SP X pins D) X.xe s
def thn {C:Type}{t:Sem C}{Q Q':C->Shared->Prop}{M:Model}{A:Around}{E:Value->Shared->Prop}{s:Shared}(h:wpAny M A t Q E s)(hQ:∀a s,Q a s->Q' a s):wpAny M A t Q' E s:=was h hQ λ_ _ x=>x
section
variable {X:Cx}
def bin {a b:Expr}{ta tb:TE}(ha:PE X a ta)(hb:PE X b tb){pins:List (Addr×Obj)}{s:Shared}{Y:St}{H:Hp}{R:V->V->Hp->Prop}(I:Inv X pins Y H s)(h:ta Y H λx H1=>tb Y H1 λy H2=>R x y H2)
 {C:Type}{Q:C->Shared->Prop}{f:Value->Value->Sem C}
 (hf:∀v u s2 x y H2,Inv X pins Y H2 s2->RelV x v->RelV y u->R x y H2->wpAny (model X.prog X.w) X.A (f v u) Q X.xe s2) :
 wpAny (model X.prog X.w) X.A (eval a X.env) (λv s₁=>wpAny (model X.prog X.w) X.A (eval b X.env) (λu s₂=>wpAny (model X.prog X.w) X.A (f v u) Q X.xe s₂) X.xe s₁) X.xe s:=by
 refine thn (ha pins s Y H _ I h) λv s1 ⟨x,H1,I1,r1,q1⟩=>?_
 refine thn (hb pins s1 Y H1 _ I1 q1) λu s2 ⟨y,H2,I2,r2,q2⟩=>?_
 exact hf v u s2 x y H2 I2 r1 r2 q2
def tVar (i:Nat):TE:=λY H Q=>∃v,Y[i]?=some (some v)/\Q v H
def tC (v:V):TE:=λ_ H Q=>Q v H
def zcA {i:Nat}{x:Str}{pos:Pos}(hN:X.N[i]?=some x)(hv:Vis X.env.scope x)(hd:(x == ("__debug__":Str))=false:=by decide)(hcd:(x == ("__classdict__":Str))=false:=by decide):PE X (.Name x pos) (tVar i):=by
 intro pins s Y H Q I h;obtain⟨v,e,h⟩:=h;obtain⟨m,hn,hl⟩:=I.loc;obtain⟨u,r,l⟩:=hl i x v hN e hv;have fin:EP X pins Y Q u s:=⟨v,H,I,r,h⟩
 rcases l with⟨hk,hm⟩|⟨hk,c,hc,hcell⟩
 .exact wcp (wbf I.ok.kind hk hn hm fin) hd
 .rcases hk with hk|hk
  .exact wcp (wpAny_loadName_cell I.ok.kind hk hc hcell fin) hd
  .exact wcp (wpAny_loadName_free I.ok.kind hk hc hcell fin hcd) hd
def zpb {i j pos}:PE X (.Constant (.int i) j pos) (tC (.int i)):=λ_ _ _ H _ I h=>wpAny_Constant_int ⟨.int i,H,I.tok _,⟨_,rfl⟩,h⟩
def zrb {b j pos}:PE X (.Constant (.bool b) j pos) (tC (.bl b)):=λ_ _ _ H _ I h=>Constant_bool ⟨.bl b,H,I,rfl,h⟩
def zpc {j pos}:PE X (.Constant .none j pos) (tC .non):=λ_ _ _ H _ I h=>Constant_none ⟨.non,H,I,rfl,h⟩
def zpd {x j pos}:PE X (.Constant (.str x) j pos) (tC (.str x)):=λ_ _ _ H _ I h=>Calls.Constant_str ⟨.str x,H,I.tok _,⟨_,rfl⟩,h⟩
def Gl (X:Cx)(x:Str):Prop:=X.env.kindOf x=some .globalImplicit
def zcD {E:Value->Shared->Prop}{pins:List (Addr×Obj)}{s:Shared}{Y:St}{H:Hp}{x:Str}{u:Value}{pos:Pos}{Q:Value->Shared->Prop}(I:Inv X pins Y H s)(hg:Gl X x)(hm:X.mg x=some u)(h:Q u s)
 (hd:(x == ("__debug__":Str))=false:=by decide):wpAny (model X.prog X.w) X.A (eval (.Name x pos) X.env) Q E s:=
 Calls.Name_function_global I.ok.kind hg (Calls.loadGlobal_global (by rw[I.ok.glob];exact I.mod.glob.keeps I.bk) hm h) hd
def zc7 {E:Value->Shared->Prop}{pins:List (Addr×Obj)}{s:Shared}{Y:St}{H:Hp}{x:Str}{u:Value}{pos:Pos}{Q:Value->Shared->Prop}(I:Inv X pins Y H s)(hg:Gl X x)(hm:X.mg x=none)(hv:bootBuiltins x=some u)(h:Q u s)
 (hn:x≠"__name__":=by decide) (hd:(x == ("__debug__":Str))=false:=by decide):wpAny (model X.prog X.w) X.A (eval (.Name x pos) X.env) Q E s:=by
 obtain⟨mb,h1,h2⟩:=I.mod.blt;exact Calls.Name_function_global I.ok.kind hg (Calls.loadGlobal_builtin (by rw[I.ok.glob];exact I.mod.glob.keeps I.bk) hm (by rw[I.ok.blt];exact h1.keeps I.bk) ((h2 x hn).trans hv) h) hd
def ziU {x:Str}{v:V}{u:Value}{pos:Pos}(hg:Gl X x)(hm:X.mg x=some u)(r:RelV v u)(hd:(x == ("__debug__":Str))=false:=by decide):PE X (.Name x pos) (tC v):=
 λ_ _ _ H _ I h=>zcD I hg hm ⟨v,H,I,r,h⟩ hd
def ziV {x:Str}{v:V}{u:Value}{pos:Pos}(hg:Gl X x)(hm:X.mg x=none)(hv:bootBuiltins x=some u)(r:RelV v u)(hn:x≠"__name__":=by decide)(hd:(x == ("__debug__":Str))=false:=by decide):PE X (.Name x pos) (tC v):=
 λ_ _ _ H _ I h=>zc7 I hg hm hv ⟨v,H,I,r,h⟩ hn hd
variable {a b:Expr}{ta tb:TE}{pos:Pos}
variable {tA tB':TT}{rest:List Expr}
def tAnd (t u:TT):TT:=λY H Q=>t Y H λc H1=>if c=true then u Y H1 Q else Q false H1
def tOr (t u:TT):TT:=λY H Q=>t Y H λc H1=>if c=true then Q true H1 else u Y H1 Q
def tNot (t:TT):TT:=λY H Q=>t Y H λc H1=>Q (!c) H1
def ziW (ha:PT X a tA):PW X (.BoolOp .And [a] pos) tA:=by
 intro wh pins s Y H Q I h;refine isTrue_and (thn (ha pins s Y H Q I h) λc s1 e=>?_);cases c with
|true=>exact isTrue_and_nil e
|false=>exact e
def zpe (ha:PT X a tA):PW X (.BoolOp .Or [a] pos) tA:=by
 intro wh pins s Y H Q I h;refine isTrue_or (thn (ha pins s Y H Q I h) λc s1 e=>?_);cases c with
|false=>exact isTrue_or_nil e
|true=>exact e
def zmv (ha:PT X a tA)(hb:PW X (.BoolOp .And (b::rest) pos) tB'):PW X (.BoolOp .And (a::b::rest) pos) (tAnd tA tB'):=by
 intro wh pins s Y H Q I h;refine isTrue_and (thn (ha pins s Y H _ I h) λc s1 ⟨H1,I1,q1⟩=>?_);cases c with
|true=>exact hb wh pins s1 Y H1 Q I1 q1
|false=>exact⟨H1,I1,q1⟩
def zrc (ha:PT X a tA)(hb:PW X (.BoolOp .Or (b::rest) pos) tB'):PW X (.BoolOp .Or (a::b::rest) pos) (tOr tA tB'):=by
 intro wh pins s Y H Q I h;refine isTrue_or (thn (ha pins s Y H _ I h) λc s1 ⟨H1,I1,q1⟩=>?_);cases c with
|true=>exact⟨H1,I1,q1⟩
|false=>exact hb wh pins s1 Y H1 Q I1 q1
def zpf (ha:PT X a tA):PT X (.UnaryOp .Not a pos) (tNot tA):=by
 intro pins s Y H Q I h;exact isTrue_not (ha pins s Y H (λc H1=>Q (!c) H1) I h)
def zrd (ta tb:TE):TE:=λY H Q=>ta Y H λx H1=>∃c,x=.bl c/\if c=true then tb Y H1 Q else Q (.bl false) H1
def tOrV (ta tb:TE):TE:=λY H Q=>ta Y H λx H1=>∃c,x=.bl c/\if c=true then Q (.bl true) H1 else tb Y H1 Q
def zre (ta:TE):TE:=λY H Q=>ta Y H λx H1=>∃c,x=.bl c/\Q (.bl (!c)) H1
def zpg {op}{t:TE}(h:PE X a t):PE X (.BoolOp op [a] pos) t:=λpins s Y H Q I hw=>BoolOp_one (h pins s Y H Q I hw)
def zph (ha:PE X a ta)(hb:PE X (.BoolOp .And (b::rest) pos) tb):PE X (.BoolOp .And (a::b::rest) pos) (zrd ta tb):=by
 intro pins s Y H Q I h;refine BoolOp_and (thn (ha pins s Y H _ I h) λv s1 ⟨x,H1,I1,r1,q1⟩=>?_);obtain⟨c,rfl,q1⟩:=q1;cases r1;refine wbi ?_;cases c with
|true=>exact hb pins s1 Y H1 Q I1 q1
|false=>exact⟨.bl false,H1,I1,rfl,q1⟩
def zrf (ha:PE X a ta)(hb:PE X (.BoolOp .Or (b::rest) pos) tb):PE X (.BoolOp .Or (a::b::rest) pos) (tOrV ta tb):=by
 intro pins s Y H Q I h;refine BoolOp_or (thn (ha pins s Y H _ I h) λv s1 ⟨x,H1,I1,r1,q1⟩=>?_);obtain⟨c,rfl,q1⟩:=q1;cases r1;refine wbi ?_;cases c with
|false=>exact hb pins s1 Y H1 Q I1 q1
|true=>exact⟨.bl true,H1,I1,rfl,q1⟩
def zpi (ha:PE X a ta):PE X (.UnaryOp .Not a pos) (zre ta):=by
 intro pins s Y H Q I h;refine UnaryOp_ (thn (ha pins s Y H _ I h) λv s1 ⟨x,H1,I1,r1,q1⟩=>?_);obtain⟨c,rfl,q1⟩:=q1;cases r1;exact not_of (wbi ⟨.bl (!c),H1,I1,rfl,q1⟩)
end
def SqL (K:W.Frag)(H:Hp)(a:Addr)(xs:List V):Prop:=
 Rd H a (.lst xs)\/
  ∃(o:Obj) (its:Array Value) (n:Nat),K.lookup a=some o/\o.cls=.type "list"/\o.dict=none/\o.data=.seq its n/\its.size<=sizeLine/\Vals xs its.toList
def SqT (K:W.Frag)(H:Hp)(a:Addr)(xs:List V):Prop:=
 Rd H a (.tup xs)\/
  ∃(o:Obj) (its:Array Value) (n:Nat),K.lookup a=some o/\o.cls=.type "tuple"/\o.data=.seq its n/\its.size<=sizeLine/\Vals xs its.toList
def absV:Value->Option V
|.none=>some .non
|.bool b=>some (.bl b)
|.int i _=>some (.int i)
|.str x _=>some (.str x)
|.bytes b _=>some (.byt b)
|.float b _=>some (.flt b)
|.ref a=>some (.ref a)
|.type n=>some (.ty n)
|_=>none
def RelV.abs {x:V}{u:Value}(r:RelV x u):absV u=some x:=by
 cases x with
|non=>cases r;rfl
|bl _=>cases r;rfl
|int _=>obtain⟨t,rfl⟩:=r;rfl
|str _=>obtain⟨t,rfl⟩:=r;rfl
|byt _=>obtain⟨t,rfl⟩:=r;rfl
|flt _=>obtain⟨t,rfl⟩:=r;rfl
|ref _=>cases r;rfl
|ty _=>cases r;rfl
def RelV.inj {x y:V}{u:Value}(r:RelV x u)(q:RelV y u):x=y:=wav (r.abs.symm.trans q.abs)
theorem Vals.inj:∀{xs ys:List V}{us:List Value},Vals xs us->Vals ys us->xs=ys
|_,_,_,.nil,.nil=>rfl
|_,_,_,.cons r t,.cons r' t'=>by rw[r.inj r',Vals.inj t t']
section
variable {X:Cx}{pins:List (Addr×Obj)}{Y:St}{H:Hp}{s:Shared}{a:Addr}{xs ys:List V}
def SqL.of {K:W.Frag}(h:H a=some (.lst xs)):SqL K H a xs:=.inl (.inl h)
def SqT.of {K:W.Frag}(h:H a=some (.tup xs)):SqT K H a xs:=.inl (.inl h)
def Inv.list (I:Inv X pins Y H s)(h:SqL X.K H a xs):∃its:List Value,Vals xs its/\PlainL s.heap a its.toArray/\xs.length<=sizeLine:=by
 rcases h with h|⟨o,its,n,hk,hc,hd,hs,hz,r⟩
 .obtain⟨z,its,n,r,e⟩:=h.ok I.hok;exact⟨its,r,⟨_,n,e,rfl,rfl,rfl⟩,z⟩
 .refine⟨its.toList,r,⟨o,n,I.kIn a o hk,hc,hd,by simpa using hs⟩,?_⟩;have e:=r.length
  simp only[wcC] at e;omega
def Inv.tuple (I:Inv X pins Y H s)(h:SqT X.K H a xs):∃its:List Value,Vals xs its/\IsTup s.heap a its.toArray/\xs.length<=sizeLine:=by
 rcases h with h|⟨o,its,n,hk,hc,hs,hz,r⟩
 .obtain⟨z,its,r,p⟩:=h.ok I.hok;exact⟨its,r,p,z⟩
 .refine⟨its.toList,r,⟨o,I.kIn a o hk,hc,n,by simpa using hs⟩,?_⟩;have e:=r.length
  simp only[wcC] at e;omega
def Inv.list_inj (I:Inv X pins Y H s)(h:SqL X.K H a xs)(h':SqL X.K H a ys):xs=ys:=by
 obtain⟨its,r,⟨o,n,e,_,_,d⟩,_⟩:=I.list h;obtain⟨its',r',⟨o',n',e',_,_,d'⟩,_⟩:=I.list h';rw[e] at e';cases e';rw[d] at d';injection d' with d1 _
 have:its=its':=by simpa using wbQ Array.toList d1
 subst this;exact r.inj r'
def Inv.tuple_inj (I:Inv X pins Y H s)(h:SqT X.K H a xs)(h':SqT X.K H a ys):xs=ys:=by
 obtain⟨its,r,⟨o,e,_,n,d⟩,_⟩:=I.tuple h;obtain⟨its',r',⟨o',e',_,n',d'⟩,_⟩:=I.tuple h';rw[e] at e';cases e';rw[d] at d';injection d' with d1 _
 have:its=its':=by simpa using wbQ Array.toList d1
 subst this;exact r.inj r'
end
abbrev Cx.wish (X:Cx)(E:Value->Shared->Prop):Cx:={X with xe:=E}
abbrev Cx.nox (X:Cx):Cx:=X.wish λ_ _=>False
theorem Cx.Ok.wish {X:Cx}(ok:X.Ok)(E:Value->Shared->Prop):(X.wish E).Ok:=
 ⟨ok.mod,ok.kind,ok.glob,ok.blt,ok.above,ok.inj,ok.has,ok.cab,ok.hd,ok.frames,ok.stk,ok.exf,ok.bs,ok.bsz,ok.noex,ok.exfs,ok.funs,ok.frf⟩
def Cx.Ok.unwish {X:Cx}{E:Value->Shared->Prop}(ok:(X.wish E).Ok):X.Ok:=
 ⟨ok.mod,ok.kind,ok.glob,ok.blt,ok.above,ok.inj,ok.has,ok.cab,ok.hd,ok.frames,ok.stk,ok.exf,ok.bs,ok.bsz,ok.noex,ok.exfs,ok.funs,ok.frf⟩
section
variable {X:Cx}{pins:List (Addr×Obj)}{Y:St}{H:Hp}{s:Shared}{E:Value->Shared->Prop}
theorem Inv.wish (I:Inv X pins Y H s)(E:Value->Shared->Prop):Inv (X.wish E) pins Y H s:=⟨I.ok.wish E,I.os,I.bare,I.base,I.loc,I.cell,I.free,I.freeC,I.pin,I.hok,I.len⟩
theorem Inv.unwish (I:Inv (X.wish E) pins Y H s):Inv X pins Y H s:=⟨I.ok.unwish,I.os,I.bare,I.base,I.loc,I.cell,I.free,I.freeC,I.pin,I.hok,I.len⟩
theorem SP.unwish {D:Ends}{f:Flow}{s':Shared}(h:SP (X.wish E) pins D f s'):SP X pins D f s':=by
 cases f with
|next=>obtain⟨Y',H',I,q⟩:=h;exact⟨Y',H',I.unwish,q⟩
|brk=>obtain⟨Y',H',I,q⟩:=h;exact⟨Y',H',I.unwish,q⟩
|cont=>obtain⟨Y',H',I,q⟩:=h;exact⟨Y',H',I.unwish,q⟩
|ret u=>obtain⟨v,Y',H',I,r,q⟩:=h;exact⟨v,Y',H',I.unwish,r,q⟩
theorem PSs.nox {st:List Stmt}{t:TS}(h:PSs X.nox st t):PSs X st t:=λpins s Y H D I hw=>
 was (h pins s Y H D (I.wish _) hw) (λ_ _ q=>q.unwish) λ_ _ z=>False.elim z
end
section
variable {X:Cx}{st:Stmt}{rest:List Stmt}{t u:TS}{e:Expr}{te:TE}{pos:Pos}
def zrg:TS:=λD Y H=>D.nx Y H
def tSeq (t u:TS):TS:=λD Y H=>t {D with nx:=u D} Y H
def ziX:PSs X [] zrg:=λ_ _ Y H _ I h=>wcj ⟨Y,H,I,h⟩
def ze3 (h1:PS X st t)(h2:PSs X rest u):PSs X (st::rest) (tSeq t u):=by
 intro pins s Y H D I h;refine wpAny_execs_cons (thn (h1 pins s Y H {D with nx:=u D} I h) λf s1 q=>?_);cases f with
|next=>
   obtain⟨Y',H',I',q⟩:=q;exact h2 pins s1 Y' H' D I' q
|ret v=>exact q
|brk=>exact q
|cont=>exact q
def ziY (h1:PS X st t):PSs X [st] t:=by
 intro pins s Y H D I h;refine wpAny_execs_cons (thn (h1 pins s Y H D I h) λf s1 q=>?_);cases f with
|next=>exact wcj q
|ret v=>exact q
|brk=>exact q
|cont=>exact q
def zrh:TS:=λD Y H=>D.ct Y H
def zgC:PS X (.Continue pos) zrh:=λ_ _ Y H _ I h=>wpAny_Continue ⟨Y,H,I,h⟩
def Inv.quiet {pins:List (Addr×Obj)}{Y:St}{H:Hp}{s:Shared}(I:Inv X pins Y H s):interactive X.env=false:=by simp[interactive,I.ok.kind]
def zk2 (te:TE):TS:=λD Y H=>te Y H λ_ H1=>D.nx Y H1
def zdA (he:PE X e te)(hs:swapsWith e none pos.line X.env=pure false:=by rfl):PS X (.Expr e pos) (zk2 te):=by
 intro pins s Y H D I h;exact wpAny_Expr_any (thn (he pins s Y H _ I h) λv s1 ⟨x,H1,I1,r1,q1⟩=>⟨Y,H1,I1,q1⟩) I.quiet hs
def tRet (te:TE):TS:=λD Y H=>te Y H D.rt
def zmw (he:PE X e te):PS X (.Return (some e) pos) (tRet te):=by
 intro pins s Y H D I h;exact wpAny_Return_some (thn (he pins s Y H _ I h) λv s1 ⟨x,H1,I1,r1,q1⟩=>⟨x,Y,H1,I1,r1,q1⟩)
def tIfS (c:TT)(t u:TS):TS:=λD Y H=>c Y H λb H1=>if b=true then t D Y H1 else u D Y H1
def znq {c:Expr}{a b:List Stmt}{tc:TT}(hc:PT X c tc)(ha:PSs X a t)(hb:PSs X b u):PS X (.If c a b pos) (tIfS tc t u):=by
 intro pins s Y H D I h;refine wpAny_If (thn (hc pins s Y H _ I h) λd s1 ⟨H1,I1,q1⟩=>?_);cases d with
|true=>exact ha pins s1 Y H1 D I1 q1
|false=>exact hb pins s1 Y H1 D I1 q1
def ziZ:TS:=λ_ _ _=>False
def zhl:PS X st ziZ:=λ_ _ _ _ _ _ h=>h.elim
def zi0 {sts:List Stmt}:PSs X sts ziZ:=λ_ _ _ _ _ _ h=>h.elim
end
abbrev TG:=V->St->Hp->(St->Hp->Prop)->Prop
abbrev TGs:=List V->St->Hp->(St->Hp->Prop)->Prop
def PG (X:Cx)(target:Expr)(t:TG):Prop:=
 ∀(pins:List (Addr×Obj)) (s:Shared) (Y:St) (H:Hp) (v:V) (u:Value) (Q:St->Hp->Prop),Inv X pins Y H s->RelV v u->t v Y H Q->
  wpAny (model X.prog X.w) X.A (assign target X.env u) (λ_ s'=>∃Y' H',Inv X pins Y' H' s'/\Q Y' H') X.xe s
def PGs (X:Cx)(ts:List Expr)(t:TGs):Prop:=
 ∀(pins:List (Addr×Obj)) (s:Shared) (Y:St) (H:Hp) (vs:List V) (us:List Value) (Q:St->Hp->Prop),Inv X pins Y H s->Vals vs us->t vs Y H Q->
  wpAny (model X.prog X.w) X.A (assignInOrder ((assignEach ts X.env).map (·.2)) us) (λ_ s'=>∃Y' H',Inv X pins Y' H' s'/\Q Y' H') X.xe s
abbrev TSet:=V->V->V->Hp->(Hp->Prop)->Prop
def PSet (X:Cx)(t:TSet):Prop:=
 ∀(pins:List (Addr×Obj)) (s:Shared) (Y:St) (H:Hp) (o i v:V) (ov iv u:Value) (Q:Hp->Prop),Inv X pins Y H s->RelV o ov->RelV i iv->RelV v u->t o i v H Q->
  wpAny (model X.prog X.w) X.A (setItem ov iv u) (λ_ s'=>∃H',Inv X pins Y H' s'/\Q H') X.xe s
section
variable {X:Cx}{pos:Pos}
def zdU (i:Nat):TG:=λv Y H Q=>Q (Y.set i (some v)) H
def zgD {i:Nat}{x:Str}(hN:X.N.Nodup)(hi:X.N[i]?=some x)(hx:Loc X.env.scope x)(hf:X.fn x=true\/X.env.scope.names.lookup x=some .local:=by first|exact .inl rfl|exact .inr rfl|assumption):PG X (.Name x pos) (zdU i):=by
 intro pins s Y H v u Q I r h;exact wpAny_assign_Name (zd2 I hN hi hx r (λs' I'=>⟨_,H,I',h⟩) hf)
def gNil:TGs:=λvs Y H Q=>vs = []/\Q Y H
def zpj (t:TG)(u:TGs):TGs:=λvs Y H Q=>∃v r,vs=v::r/\t v Y H λY' H'=>u r Y' H' Q
def znr:PGs X [] gNil:=by
 intro pins s Y H vs us Q I r h;obtain⟨e,h⟩:=h;subst e;cases r;exact assignInOrder_nil ⟨Y,H,I,h⟩
def zk4 {e:Expr}{es:List Expr}{t:TG}{u:TGs}(h1:PG X e t)(h2:PGs X es u)
 (hs:(assignEach (e::es) X.env).map (·.2)=assign e X.env::(assignEach es X.env).map (·.2):=by rfl):PGs X (e::es) (zpj t u):=by
 intro pins s Y H vs us Q I r h;obtain⟨v,vr,e1,h⟩:=h;subst e1;cases r with
|cons r rr=>
   rw[hs];refine assignInOrder_cons (thn (h1 pins s Y H _ _ _ I r h) λ_ s1 ⟨Y1,H1,I1,q1⟩=>?_);exact h2 pins s1 Y1 H1 _ _ Q I1 rr q1
def gTup (K:W.Frag)(n:Nat)(t:TGs):TG:=λv Y H Q=>∃a xs,v=.ref a/\SqT K H a xs/\xs.length=n/\t xs Y H Q
def zpk {es:List Expr}{k:Nat}{t:TGs}{n:Nat}(hc:X.calm=true)(h:PGs X es t)
 (hn:(assignEach es X.env).length=n:=by rfl) (hst:(assignEach es X.env).findIdx? (·.1)=none:=by rfl):PG X (.Tuple es k pos) (gTup X.K n t):=by
 intro pins s Y H v u Q I r hw;obtain⟨a,xs,e1,hq,hl,hw⟩:=hw;subst e1;cases r;obtain⟨its,rv,ht,hz⟩:=I.tuple hq;refine assign_Tuple_tuple (I.ok.hd hc) ht (by simp[hn,<-hl,rv.length]) hst λh' hx=>?_
 have I1:Inv X pins Y H {s with heap:=h'}:=I.kept (t':=s.toks) λb o e=>hx b o (wax (waf e)) e
 exact h pins _ Y H xs _ Q I1 (by simpa using rv) hw
def gSub (to ti:TE)(t:TSet):TG:=λv Y H Q=>to Y H λo H1=>ti Y H1 λi H2=>t o i v H2 λH3=>Q Y H3
def zmx {o i:Expr}{to ti:TE}{t:TSet}(ho:PE X o to)(hi:PE X i ti)(hs:PSet X t)
 (ha:∀v,assign (.Subscript o i pos) X.env v=(do
  let ov <-holding [v] (eval o X.env)
  let iv <-holding [v,ov] (eval i X.env)
  standAt pos
  holding [v,ov,iv] (setItem ov iv v)
  release [v,ov,iv] []):=by intro _;rfl):PG X (.Subscript o i pos) (gSub to ti t):=by
 intro pins s Y H v u Q I r h;rw[ha];refine waa (waY (thn (ho pins s Y H _ I h) λov s1 ⟨x,H1,I1,r1,q1⟩=>?_));refine waa (waY (thn (hi pins s1 Y H1 _ I1 q1) λiv s2 ⟨y,H2,I2,r2,q2⟩=>?_));refine waa (waZ (waa (waY (thn (hs pins s2 Y H2 x y v ov iv u _ I2 r1 r2 r q2) λ_ s3 ⟨H3,I3,q3⟩=>?_))));exact wpAny_release ⟨Y,H3,I3,q3⟩
def tAsg (te:TE)(g:TG):TS:=λD Y H=>te Y H λx H1=>g x Y H1 D.nx
def zi1 {tg e:Expr}{te:TE}{g:TG}(he:PE X e te)(hg:PG X tg g)(hs:swapsWithSole [tg] e pos.line X.env=pure false:=by rfl)(hw:swappedStores [tg] e X.env=pure none:=by rfl)
 (h1:(assignEach [tg] X.env).map (·.2) = [assign tg X.env]:=by rfl):PS X (.Assign [tg] e pos) (tAsg te g):=by
 intro pins s Y H D I h;refine wpAny_Assign_stores (thn (he pins s Y H _ I h) λv s1 ⟨x,H1,I1,r1,q1⟩=>?_) hs hw;rw[h1];exact thn (hg pins s1 Y H1 x v _ I1 r1 q1) λ_ s2 q=>q
def zhm {i:Nat}{x:Str}{e:Expr}{te:TE}{pos':Pos}(hN:X.N.Nodup)(hi:X.N[i]?=some x)(hx:Loc X.env.scope x)(he:PE X e te)(hs:swapsWith e (some (.Name x pos')) pos.line X.env=pure false:=by rfl)(hf:X.fn x=true\/X.env.scope.names.lookup x=some .local:=by first|exact .inl rfl|exact .inr rfl|assumption) :
 PS X (.Assign [.Name x pos'] e pos) (tAsg te (zdU i)):=by
 intro pins s Y H D I h;refine wpAny_Assign_Name (thn (he pins s Y H _ I h) λv s1 ⟨y,H1,I1,r1,q1⟩=>?_) hs;exact zd2 I1 hN hi hx r1 (λs2 I2=>⟨_,H1,I2,q1⟩) hf
end
section
variable {X:Cx}{pos:Pos}
def zmy (c:TT)(tb:TS):TS:=λD Y H=>∃W:Nat->St->Hp->Prop,(∃m,W m Y H)/\∀m Y H,W m Y H->
 c Y H λb H1=>if b=true then ∃N:St->Hp->Prop,(∀Y' H',N Y' H'->∃m',m'<m/\W m' Y' H')/\tb {D with nx:=N,ct:=N,bk:=D.nx} Y H1 else D.nx Y H1
def zk5 {c:Expr}{body:List Stmt}{tc:TT}{tb:TS}(hp:PassesOwn (model X.prog X.w) X.A X.env X.xe)(hc:PT X c tc)(hb:PSs X body tb):PS X (.While c body [] pos) (zmy tc tb):=by
 intro pins s Y H D I h;obtain⟨W,⟨m0,w0⟩,turn⟩:=h;refine wpAny_While (codeAny_whileLoop (λn s'=>∃Y' H',Inv X pins Y' H' s'/\W n Y' H') ?_ m0 ⟨Y,H,I,w0⟩);rintro n s1 ⟨Y1,H1,I1,w1⟩;refine wbH hp (thn (hc pins s1 Y1 H1 _ I1 (turn n Y1 H1 w1)) λb s2 ⟨H2,I2,q2⟩=>?_);cases b with
|true=>
   obtain⟨N,hN,q2⟩:=q2;rw[if_pos rfl];refine wbH hp (thn (hb pins s2 Y1 H2 _ I2 q2) λf s3 q3=>?_);cases f with
  |next=>
     obtain⟨Y3,H3,I3,n3⟩:=q3;obtain⟨m',hm,w3⟩:=hN Y3 H3 n3;exact⟨m',hm,Y3,H3,I3,w3⟩
  |cont=>
     obtain⟨Y3,H3,I3,n3⟩:=q3;obtain⟨m',hm,w3⟩:=hN Y3 H3 n3;exact⟨m',hm,Y3,H3,I3,w3⟩
  |brk=>exact q3
  |ret v=>exact q3
|false=>
   rw[if_neg wbz];exact wcj ⟨Y1,H2,I2,q2⟩
end
structure It where
 go:Nat->Hp->Prop
 yld:Nat->Hp->V->Hp->Prop
 stop:Nat->Hp->Prop
def FpOk (X:Cx)(pins:List (Addr×Obj))(H:Hp)(b:Addr):Prop:=
 H b=none/\b≠X.env.locals/\b∉X.fs/\(b∈X.ex\/X.s₀.heap.objs.size<=b)/\(∀x c,X.env.cells.lookup x=some c->c≠b)/\∀p∈X.pn++pins,p.1≠b
def Inv.fpOk {X:Cx}{pins:List (Addr×Obj)}{Y:St}{H H':Hp}{s:Shared}{b:Addr}(I:Inv X pins Y H s)(hb:s.heap.objs.size<=b)(hn:H' b=none):FpOk X pins H' b:=by
 refine⟨hn,wcJ (wam I.lt hb),I.nofs hb,.inr (wal I.sz hb),λx c e z=>?_,λp hp z=>?_⟩
 .obtain⟨v,q⟩:=I.cell x c e;exact absurd (wam q.lt (by rw[z];exact hb)) (waP _)
 .exact absurd (wam (waf (I.pin p hp).1) (by rw[z];exact hb)) (waP _)
structure Turn (P:Program)(w:World)(K:W.Frag)(tg:Expr)(J:It)(fp:List Addr)(it:Addr)(tn:Nat->Heap->Prop):Prop where
 mem:it∈fp
 obj:∀i h,tn i h->∀b∈fp,∃o,h.get? b=some o/\∀v,o.data≠.cell v
 keep:∀i h h',tn i h->(∀b∈fp,∀o,h.get? b=some o->h'.get? b=some o)->tn i h'
 item:∀(X:Cx),X.prog=P->X.w=w->X.K=K->X.calm=true->∀(i:Nat) (pins:List (Addr×Obj)) (s:Shared) (Y:St) (H:Hp) (E:Value->Shared->Prop),Inv X pins Y H s->(∀b∈fp,FpOk X pins H b)->tn i s.heap->J.go i H->
  wpAny (model P w) X.A (pyNext (.ref it)) (λr s1=>∃u,r=some u/\
   wpAny (model P w) X.A (letOwnedTupleGo tg (.ref it) u) (λ_ s2=>∃x H',Inv X pins Y H' s2/\RelV x u/\J.yld i H x H'/\tn (i+1) s2.heap/\∀b∈fp,H' b=none) E s1) E s
 done:∀(X:Cx),X.prog=P->X.w=w->X.K=K->X.calm=true->∀(i:Nat) (pins:List (Addr×Obj)) (s:Shared) (Y:St) (H:Hp) (E:Value->Shared->Prop),Inv X pins Y H s->(∀b∈fp,FpOk X pins H b)->tn i s.heap->J.stop i H->
  wpAny (model P w) X.A (pyNext (.ref it)) (λr s1=>r=none/\Inv X pins Y H s1) E s
 self:∀(A:Around) (i:Nat) (s:Shared) (Q:Value->Shared->Prop) (E:Value->Shared->Prop),tn i s.heap->Q (.ref it) s->wpAny (model P w) A (pyIter (.ref it)) Q E s
abbrev TI:=St->Hp->(It->Hp->Prop)->Prop
def PIE (X:Cx)(pins:List (Addr×Obj))(Y:St)(tg:Expr)(R:It->Hp->Prop)(itv:Value)(s2:Shared):Prop:=
 ∃(it:Addr) (fp:List Addr) (tn:Nat->Heap->Prop) (J:It) (H':Hp),itv=.ref it/\Inv X pins Y H' s2/\Turn X.prog X.w X.K tg J fp it tn/\tn 0 s2.heap/\(∀b∈fp,FpOk X pins H' b)/\R J H'
def PI (X:Cx)(tg iter:Expr)(wi:TI):Prop:=
 ∀(pins:List (Addr×Obj)) (s:Shared) (Y:St) (H:Hp) (R:It->Hp->Prop),Inv X pins Y H s->wi Y H R->
  wpAny (model X.prog X.w) X.A (eval iter X.env) (λv s1=>wpAny (model X.prog X.w) X.A (pyIter v) (PIE X pins Y tg R) X.xe s1) X.xe s
def zh7 {M:Model}{A:Around}{E:Value->Shared->Prop}{s:Shared}{tg:Expr}{it:Addr}{u:Value}{o:Obj}{n:String}{vs:Array Value}{Q:Unit->Shared->Prop}(ho:s.heap.get? it=some o)(hc:o.cls=.type n)(hd:o.data=.fields vs)
 (hn:["enumerate","zip","dict_itemiterator","dict_reverseitemiterator","odict_iterator","itertools.zip_longest","itertools.pairwise"].contains n=false) (hQ:Q () s):wpAny M A (letOwnedTupleGo tg (.ref it) u) Q E s:=by
 unfold letOwnedTupleGo;cases tg <;> first
 |exact wad hQ
 |(cases u <;> first
  |exact wad hQ
  |(refine waa (wpAny_load ho ?_)
    rw[hc,hd];show wpAny M A (if(["enumerate","zip","dict_itemiterator","dict_reverseitemiterator","odict_iterator","itertools.zip_longest","itertools.pairwise"].contains n&&vs[0]? == some (rawInt _))=true then _ else _) Q E s
    rw[if_neg (by intro h;rw[hn,Bool.false_and] at h;cases h)];exact wad hQ))
def Itl (K:W.Frag)(a:Addr):It:=
 ⟨λi H=>∃xs x,SqL K H a xs/\xs[i]?=some x,λi H x H'=>H'=H/\∀xs,SqL K H a xs->xs[i]?=some x,λi H=>∃xs,SqL K H a xs/\xs.length<=i⟩
def Itt (K:W.Frag)(a:Addr):It:=
 ⟨λi H=>∃xs x,SqT K H a xs/\xs[i]?=some x,λi H x H'=>H'=H/\∀xs,SqT K H a xs->xs[i]?=some x,λi H=>∃xs,SqT K H a xs/\xs.length<=i⟩
def Itr (lo:Int)(n:Nat):It:=⟨λi _=>i<n,λi H x H'=>H'=H/\x=.int (lo+i),λi _=>n<=i⟩
def zi2 {P:Program}{w:World}{K:W.Frag}{tg:Expr}(a it:Addr):Turn P w K tg (Itl K a) [it] it (λi h=>h.IsListIter it a i) where
 mem:=by simp
 obj:=λi h st b hb=>by
  have e:b=it:=by simpa using hb
  subst e;obtain⟨o,e,c,d⟩:=st;exact⟨o,e,λv z=>by rw[d] at z;cases z⟩
 keep:=λi h h' st k=>st.at λo e=>k it (by simp) o e
 item:=by
  intro X hP hw hK hc i pins s Y H E I hf st hg;subst hP hw hK;obtain⟨xs,x,hq,hx⟩:=hg;obtain⟨its,rv,p,hz⟩:=I.list hq;obtain⟨u,hu,ru⟩:=rv.get hx;obtain⟨f0,f1,f2,f3,f4,f5⟩:=hf it (by simp);refine wpAny_pyNext_list_item st p.isList (x:=u) (by simpa using hu) λh' st' sb=>?_
  have I1:Inv X pins Y H {s with heap:=h'}:=I.turned (t':=s.toks) (λb o hb e=>(sb.2 b hb).trans e) f0 f1 f3 f4 f5
  obtain⟨o,e,c,d⟩:=id st';exact⟨u,rfl,zh7 (s:={s with heap:=h'}) e c d (by decide) ⟨x,H,I1,ru,⟨rfl,λys hy=>by rw[I.list_inj hy hq];exact hx⟩,st',λb hb=>(hf b hb).1⟩⟩
 done:=by
  intro X hP hw hK hc i pins s Y H E I hf st hg;subst hP hw hK;obtain⟨xs,hq,hx⟩:=hg;obtain⟨its,rv,p,hz⟩:=I.list hq;obtain⟨f0,f1,f2,f3,f4,f5⟩:=hf it (by simp);have hl:=rv.length
  exact wpAny_pyNext_list_end (I.ok.hd hc) st p.isList (by simp;omega) λh' eb=>⟨rfl,I.turned (t':=s.toks) (λb o hb e=>eb b o hb e) f0 f1 f3 f4 f5⟩
 self:=λ_ _ _ _ _ st h=>wpAny_pyIter_listiter st h
def zh8 {P:Program}{w:World}{K:W.Frag}{tg:Expr}(a it:Addr):Turn P w K tg (Itt K a) [it] it (λi h=>h.IsTupleIter it a i) where
 mem:=by simp
 obj:=λi h st b hb=>by
  have e:b=it:=by simpa using hb
  subst e;obtain⟨o,e,c,d⟩:=st;exact⟨o,e,λv z=>by rw[d] at z;cases z⟩
 keep:=λi h h' st k=>st.at λo e=>k it (by simp) o e
 item:=by
  intro X hP hw hK hc i pins s Y H E I hf st hg;subst hP hw hK;obtain⟨xs,x,hq,hx⟩:=hg;obtain⟨its,rv,p,hz⟩:=I.tuple hq;obtain⟨u,hu,ru⟩:=rv.get hx;obtain⟨f0,f1,f2,f3,f4,f5⟩:=hf it (by simp);refine wpAny_pyNext_tuple_item st (show s.heap.IsTuple a its.toArray from p) (x:=u) (by simpa using hu) λh' st' sb=>?_
  have I1:Inv X pins Y H {s with heap:=h'}:=I.turned (t':=s.toks) (λb o hb e=>(sb.2 b hb).trans e) f0 f1 f3 f4 f5
  obtain⟨o,e,c,d⟩:=id st';exact⟨u,rfl,zh7 (s:={s with heap:=h'}) e c d (by decide) ⟨x,H,I1,ru,⟨rfl,λys hy=>by rw[I.tuple_inj hy hq];exact hx⟩,st',λb hb=>(hf b hb).1⟩⟩
 done:=by
  intro X hP hw hK hc i pins s Y H E I hf st hg;subst hP hw hK;obtain⟨xs,hq,hx⟩:=hg;obtain⟨its,rv,p,hz⟩:=I.tuple hq;obtain⟨f0,f1,f2,f3,f4,f5⟩:=hf it (by simp);have hl:=rv.length
  exact wpAny_pyNext_tuple_end (I.ok.hd hc) st (show s.heap.IsTuple a its.toArray from p) (by simp;omega) λh' eb=>⟨rfl,I.turned (t':=s.toks) (λb o hb e=>eb b o hb e) f0 f1 f3 f4 f5⟩
 self:=λ_ _ _ _ _ st h=>wpAny_pyIter_tupleiter st h
def zh9 {P:Program}{w:World}{K:W.Frag}{tg:Expr}(it:Addr)(lo:Int)(n:Nat):Turn P w K tg (Itr lo n) [it] it (λi h=>IsRangeIter h it (lo+(i:Nat)*1) ((n:Int) - (i:Nat)) 1) where
 mem:=by simp
 obj:=λi h st b hb=>by
  have e:b=it:=by simpa using hb
  subst e;exact⟨_,st,λv z=>by
   have z':Data.fields _=Data.cell v:=z
   cases z'⟩
 keep:=λi h h' st k=>k it (by simp) _ st
 item:=by
  intro X hP hw hK hc i pins s Y H E I hf st hg;subst hP hw hK;obtain⟨f0,f1,f2,f3,f4,f5⟩:=hf it (by simp);have W:=Walks.range (prog:=X.prog) (w:=X.w) (I.ok.hd hc) it lo 1 n
  refine W.item i s _ _ hg st λv h' tk hv st' kk=>?_
  obtain⟨t,rfl⟩:=hv;have I1:Inv X pins Y H {s with heap:=h',toks:=tk}:=I.turned (λb o hb e=>kk b o (by simpa using hb) e) f0 f1 f3 f4 f5
  refine⟨_,rfl,zh7 (s:={s with heap:=h',toks:=tk}) (n:="range_iterator") st' rfl rfl (by decide) ⟨.int (lo+i),H,I1,⟨t,?_⟩,⟨rfl,rfl⟩,st',λb hb=>(hf b hb).1⟩⟩;rw[Int.mul_one]
 done:=by
  intro X hP hw hK hc i pins s Y H E I hf st hg;subst hP hw hK;obtain⟨f0,f1,f2,f3,f4,f5⟩:=hf it (by simp);exact wpAny_pyNext_range_end (I.ok.hd hc) st (by have:n<=i:=hg;omega) λh' eb=>⟨rfl,I.turned (t':=s.toks) (λb o hb e=>eb b o hb e) f0 f1 f3 f4 f5⟩
 self:=λ_ _ _ _ _ st h=>wcn st h
section
variable {X:Cx}{tg:Expr}
def zri (K:W.Frag)(tl:TE):TI:=λY H R=>tl Y H λx H1=>∃a,x=.ref a/\(∃xs,SqL K H1 a xs)/\R (Itl K a) H1
def iTup (K:W.Frag)(tl:TE):TI:=λY H R=>tl Y H λx H1=>∃a,x=.ref a/\(∃xs,SqT K H1 a xs)/\R (Itt K a) H1
def zns {l:Expr}{tl:TE}(hl:PE X l tl):PI X tg l (zri X.K tl):=by
 intro pins s Y H R I h;refine thn (hl pins s Y H _ I h) λv s1 ⟨x,H1,I1,r1,q1⟩=>?_
 obtain⟨a,e,⟨xs,hq⟩,q⟩:=q1;subst e;cases r1;obtain⟨its,rv,p,hz⟩:=I1.list hq;refine wpAny_pyIter_list p.isList ?_;refine⟨s1.heap.objs.size,[s1.heap.objs.size],_,_,H1,rfl,I1.kept (t':=s1.toks) λb o e=>wab _ e,zi2 a _,⟨_,war _ rfl,rfl,rfl⟩,λb hb=>?_,q⟩;have e:b=s1.heap.objs.size:=by simpa using hb
 subst e;exact I1.fpOk (wan _) (I1.hok.fresh (wan _))
def zpl {l:Expr}{tl:TE}(hl:PE X l tl):PI X tg l (iTup X.K tl):=by
 intro pins s Y H R I h;refine thn (hl pins s Y H _ I h) λv s1 ⟨x,H1,I1,r1,q1⟩=>?_
 obtain⟨a,e,⟨xs,hq⟩,q⟩:=q1;subst e;cases r1;obtain⟨its,rv,p,hz⟩:=I1.tuple hq;refine wck (show s1.heap.IsTuple a its.toArray from p) ?_;refine⟨s1.heap.objs.size,[s1.heap.objs.size],_,_,H1,rfl,I1.kept (t':=s1.toks) λb o e=>wab _ e,zh8 a _,⟨_,war _ rfl,rfl,rfl⟩,λb hb=>?_,q⟩;have e:b=s1.heap.objs.size:=by simpa using hb
 subst e;exact I1.fpOk (wan _) (I1.hok.fresh (wan _))
def zk6 {pins:List (Addr×Obj)}{Y:St}{H:Hp}{s:Shared}{R:It->Hp->Prop}{E:Value->Shared->Prop}{lo hi:Int}{t u v:Tok}{tk:Nat}(I:Inv X pins Y H s)(h1:-(2 ^ 62)<=lo)(h2:lo<2 ^ 62)(h3:-(2 ^ 62)<=hi)(h4:hi<2 ^ 62)
 (q:R (Itr lo (hi - lo).toNat) H):wpAny (model X.prog X.w) X.A (pyIter (.ref s.heap.objs.size)) (PIE X pins Y tg R) E {s with heap:=s.heap.push {cls:=.type "range",data:=.fields #[.int lo t,.int hi u,.int 1 v]},toks:=tk}:=by
 refine wpAny_pyIter_range (IsRange.new ..) (small_one h1 h2 h3 h4) ?_;have I1:Inv X pins Y H {s with heap:=s.heap.push {cls:=.type "range",data:=.fields #[.int lo t,.int hi u,.int 1 v]},toks:=tk}:=I.kept λb o e=>wab _ e
 refine⟨(s.heap.push {cls:=.type "range",data:=.fields #[.int lo t,.int hi u,.int 1 v]}).objs.size,[(s.heap.push {cls:=.type "range",data:=.fields #[.int lo t,.int hi u,.int 1 v]}).objs.size],_,_,H,rfl,
  I1.kept (t':=tk) λb o e=>wab _ e,zh9 _ lo (hi - lo).toNat,?_,λb hb=>?_,q⟩
 .have e1:lo+((0:Nat):Int)*1=lo:=by simp
  have e2:(((hi - lo).toNat:Nat):Int) - ((0:Nat):Int)=Builtin.Range.rangeSize lo hi 1:=by rw[rangeSize_one];split <;> omega
  show IsRangeIter _ _ (lo+((0:Nat):Int)*1) ((((hi - lo).toNat:Nat):Int) - ((0:Nat):Int)) 1
  rw[e1,e2];exact war _ rfl
 .have e:b=(s.heap.push {cls:=.type "range",data:=.fields #[.int lo t,.int hi u,.int 1 v]}).objs.size:=by simpa using hb
  subst e;exact I1.fpOk (wan _) (I1.hok.fresh (wan _))
def zrj (ta:TA):TI:=λY H R=>ta Y H λvs H1=>∃j:Int,vs = [.int j]/\-(2 ^ 62)<=j/\j<2 ^ 62/\R (Itr 0 j.toNat) H1
def zi3 {a:Expr}{ta:TA}{p pos:Pos}(hg:Gl X "range")(hm:X.mg "range"=none)(ha:PA X [a] ta)(hs:starEach [a] X.env = [(false,eval a X.env)]:=by rfl):PI X tg (.Call (.Name "range" p) [a] [] pos) (zrj ta):=by
 intro pins s Y H R I h;refine Call_ (zc7 I hg hm boot_range (waL (thn (ha pos pins s Y H _ I h) λus s1 ⟨vs,H1,I1,r1,q1⟩=>?_) hs rfl));obtain⟨j,e,q1,q2,q⟩:=q1;subst e;cases r1 with
|cons r rr=>
   cases rr;obtain⟨t,rfl⟩:=r;exact call_range_1 (zk6 I1 (by omega) (by omega) q1 q2 (by simpa using q))
def tFor (wi:TI)(g:TG)(tb:TS):TS:=λD Y H=>wi Y H λJ H1=>∃W:Nat->Nat->St->Hp->Prop,(∃m,W 0 m Y H1)/\∀i m Y H,W i m Y H->
 (J.stop i H/\D.nx Y H)\/(J.go i H/\∃N:St->Hp->Prop,(∀Y' H',N Y' H'->∃m',m'<m/\W (i+1) m' Y' H')/\∀x H',J.yld i H x H'->g x Y H' λY2 H2=>tb {D with nx:=N,ct:=N,bk:=D.nx} Y2 H2)
def zfD (fp:List Addr)(h:Heap):List (Addr×Obj):=fp.filterMap λb=>(h.get? b).map λo=>(b,o)
def zbL {fp:List Addr}{h:Heap}{b:Addr}{o:Obj}(hb:b∈fp)(e:h.get? b=some o):(b,o)∈zfD fp h:=List.mem_filterMap.mpr ⟨b,hb,by rw[e];rfl⟩
def zi4 {fp:List Addr}{h:Heap}{p:Addr×Obj}(hp:p∈zfD fp h):p.1∈fp/\h.get? p.1=some p.2:=by
 obtain⟨b,hb,e⟩:=List.mem_filterMap.mp hp;cases q:h.get? b with
|none=>rw[q] at e;cases e
|some o=>
   rw[q] at e;have e':(b,o)=p:=wav e
   subst e';exact⟨hb,q⟩
def Inv.pinned {pins:List (Addr×Obj)}{Y:St}{H:Hp}{s:Shared}{fp:List Addr}(I:Inv X pins Y H s)(hf:∀b∈fp,FpOk X pins H b)(ho:∀b∈fp,∃o,s.heap.get? b=some o/\∀v,o.data≠.cell v):Inv X (pins++zfD fp s.heap) Y H s:=
 I.pins_of λp hp=>(waC.mp hp).elim (λz=>I.pin p (way _ z)) λz=>by
  obtain⟨hb,e⟩:=zi4 z;obtain⟨f0,f1,f2,_⟩:=hf p.1 hb;obtain⟨o,e',d⟩:=ho p.1 hb;rw[e] at e';cases e';exact⟨e,f0,f1,f2,d⟩
def Inv.unpinned {pins pl:List (Addr×Obj)}{Y:St}{H:Hp}{s:Shared}(I:Inv X (pins++pl) Y H s):Inv X pins Y H s:=I.pins_of λp hp=>I.pin p (way _ (wcb _ hp))
def zmz {iter:Expr}{body:List Stmt}{wi:TI}{g:TG}{tb:TS}{pos:Pos}(hp:PassesOwn (model X.prog X.w) X.A X.env X.xe)(hc:X.calm=true)(hi:PI X tg iter wi)(hg:PG X tg g)(hb:PSs X body tb)
 (hs:∀x,foldedSetIterable iter X.env x=pure x:=by intro _;rfl):PS X (.For tg iter body [] pos) (tFor wi g tb):=by
 intro pins s Y H D I h;refine wpAny_For (thn (hi pins s Y H _ I h) λv s1 h1=>thn h1 λitv s2 h2=>?_) hs;obtain⟨it,fp,tn,J,H2,e,I2,T,st2,f2,W,⟨m0,w0⟩,turn⟩:=h2;subst e;have stat:∀{H':Hp},(∀b∈fp,H' b=none)->∀b∈fp,FpOk X pins H' b:=λhn b hb=>⟨hn b hb,(f2 b hb).2⟩
 refine codeAny_forLoop_any (λn s'=>∃i Y' H',Inv X pins Y' H' s'/\tn i s'.heap/\(∀b∈fp,H' b=none)/\W i n Y' H') ?_ m0 ⟨0,Y,H2,I2,st2,λb hb=>(f2 b hb).1,w0⟩;rintro n s3 ⟨i,Y3,H3,I3,st3,fr3,w3⟩;rcases turn i n Y3 H3 w3 with⟨stop,qn⟩|⟨go,N,hN,step⟩
 .refine wbH hp (thn (T.done X rfl rfl rfl hc i pins s3 Y3 H3 X.xe I3 (stat fr3) st3 stop) λr s4 ⟨hr,I4⟩=>?_);subst hr;exact wcj ⟨Y3,H3,I4,qn⟩
 .refine wbH hp (thn (T.item X rfl rfl rfl hc i pins s3 Y3 H3 X.xe I3 (stat fr3) st3 go) λr s4 ⟨u,hr,h4⟩=>?_);subst hr;refine wbH hp (thn h4 λ_ s5 ⟨x,H5,I5,r5,y5,st5,fr5⟩=>?_);have I5':=I5.pinned (stat fr5) (T.obj _ _ st5)
  refine wbH hp (thn (hg _ s5 Y3 H5 x u _ I5' r5 (step x H5 y5)) λ_ s6 ⟨Y6,H6,I6,q6⟩=>?_);refine wbH hp (thn (hb _ s6 Y6 H6 _ I6 q6) λf s7 q7=>?_);have again:∀{Y7:St}{H7:Hp},Inv X (pins++zfD fp s5.heap) Y7 H7 s7->N Y7 H7->∃m,m<n/\∃i Y' H',Inv X pins Y' H' s7/\tn i s7.heap/\(∀b∈fp,H' b=none)/\W i m Y' H':=λ{Y7 H7} I7 n7=>by
   obtain⟨m',hm,w7⟩:=hN Y7 H7 n7;refine⟨m',hm,i+1,Y7,H7,I7.unpinned,T.keep _ _ _ st5 λb hb o e=>(I7.pin (b,o) (way _ (way _ (zbL hb e)))).1,λb hb=>?_,w7⟩;obtain⟨o,e,d⟩:=T.obj _ _ st5 b hb;exact(I7.pin (b,o) (way _ (way _ (zbL hb e)))).2.1
  cases f with
 |next=>obtain⟨Y7,H7,I7,n7⟩:=q7;exact again I7 n7
 |cont=>obtain⟨Y7,H7,I7,n7⟩:=q7;exact again I7 n7
 |brk=>obtain⟨Y7,H7,I7,q7⟩:=q7;exact⟨Y7,H7,I7.unpinned,q7⟩
 |ret v=>obtain⟨x7,Y7,H7,I7,r7,q7⟩:=q7;exact⟨x7,Y7,H7,I7.unpinned,r7,q7⟩
end
abbrev R2:=V->V->Hp->VK->Prop
def OpR (X:Cx)(f:Value->Value->Sem Value)(r:R2):Prop:=
 ∀(pins:List (Addr×Obj)) (s:Shared) (Y:St) (H:Hp) (x y:V) (v u:Value) (Q:VK),Inv X pins Y H s->RelV x v->RelV y u->r x y H Q->
  wpAny (model X.prog X.w) X.A (f v u) (EP X pins Y Q) X.xe s
def zc5 (X:Cx)(f:Value)(r:List V->Hp->VK->Prop):Prop:=
 ∀(pins:List (Addr×Obj)) (s:Shared) (Y:St) (H:Hp) (xs:List V) (us:List Value) (Q:VK),Inv X pins Y H s->Vals xs us->r xs H Q->
  wpAny (model X.prog X.w) X.A (call f us) (EP X pins Y Q) X.xe s
def TruR (X:Cx)(r:V->Hp->(Bool->Hp->Prop)->Prop):Prop:=
 ∀(pins:List (Addr×Obj)) (s:Shared) (Y:St) (H:Hp) (x:V) (v:Value) (Q:Bool->Hp->Prop),Inv X pins Y H s->RelV x v->r x H Q->
  wpAny (model X.prog X.w) X.A (truthy v) (TP X pins Y Q) X.xe s
def tOp (r:R2)(ta tb:TE):TE:=λY H Q=>ta Y H λx H1=>tb Y H1 λy H2=>r x y H2 Q
def rI (C:Int->Int->Prop)(g:Int->Int->V):R2:=λx y H Q=>∃i j,x=.int i/\y=.int j/\C i j/\Q (g i j) H
def rI0 (g:Int->Int->V):R2:=λx y H Q=>∃i j,x=.int i/\y=.int j/\Q (g i j) H
section
variable {X:Cx}{a b c:Expr}{ta tb tc:TE}{pos:Pos}
def binT (ha:PE X a ta)(hb:PE X b tb){pins:List (Addr×Obj)}{s:Shared}{Y:St}{H:Hp}{R:V->V->Hp->Prop}(I:Inv X pins Y H s)
 (h:ta Y H λx H1=>tb Y H1 λy H2=>R x y H2) {Q:Value->Shared->Prop}{f:Value->Value->Sem Value}
 (hf:∀v u s2 x y H2,Inv X pins Y H2 s2->RelV x v->RelV y u->R x y H2->wpAny (model X.prog X.w) X.A (f v u) Q X.xe s2) :
 wpAny (model X.prog X.w) X.A (eval a X.env) (λv s₁=>wpAny (model X.prog X.w) X.A (eval b X.env) (λu s₂=>wpAny (model X.prog X.w) X.A (f v u) Q X.xe s₂) X.xe s₁) X.xe s:=by
 refine thn (ha pins s Y H _ I h) λv s1 ⟨x,H1,I1,r1,q1⟩=>?_
 refine thn (hb pins s1 Y H1 _ I1 q1) λu s2 ⟨y,H2,I2,r2,q2⟩=>?_
 exact hf v u s2 x y H2 I2 r1 r2 q2
def zpm {op:Operator}{r:R2}(ho:OpR X (binaryOp op) r)(ha:PE X a ta)(hb:PE X b tb):PE X (.BinOp a op b pos) (tOp r ta tb):=by
 intro pins s Y H Q I h;exact wpAny_BinOp (binT ha hb I h λv u s2 x y H2 I2 rx ry q=>ho pins s2 Y H2 x y v u Q I2 rx ry q)
def opI {f:Value->Value->Sem Value}{C:Int->Int->Prop}{g:Int->Int->Int}
 (rule:∀(i j:Int) (t u:Tok) (s:Shared) (Q:Value->Shared->Prop) (E:Value->Shared->Prop),C i j->Q (.int (g i j) s.toks) {s with toks:=s.toks+1}->wpAny (model X.prog X.w) X.A (f (.int i t) (.int j u)) Q E s) :
 OpR X f (rI C λi j=>.int (g i j)):=by
 intro pins s Y H x y v u Q I rx ry h;obtain⟨i,j,rfl,rfl,hc,q⟩:=h;obtain⟨t,rfl⟩:=rx;obtain⟨t',rfl⟩:=ry;exact rule i j t t' s _ _ hc ⟨.int (g i j),H,I.tok _,⟨_,rfl⟩,q⟩
def opI0 {f:Value->Value->Sem Value}{g:Int->Int->Int}
 (rule:∀(i j:Int) (t u:Tok) (s:Shared) (Q:Value->Shared->Prop) (E:Value->Shared->Prop),Q (.int (g i j) s.toks) {s with toks:=s.toks+1}->wpAny (model X.prog X.w) X.A (f (.int i t) (.int j u)) Q E s) :
 OpR X f (rI0 λi j=>.int (g i j)):=by
 intro pins s Y H x y v u Q I rx ry h;obtain⟨i,j,rfl,rfl,q⟩:=h;obtain⟨t,rfl⟩:=rx;obtain⟨t',rfl⟩:=ry;exact rule i j t t' s _ _ ⟨.int (g i j),H,I.tok _,⟨_,rfl⟩,q⟩
def opB0 {f:Value->Value->Sem Value}{g:Int->Int->Bool}
 (rule:∀(i j:Int) (t u:Tok) (s:Shared) (Q:Value->Shared->Prop) (E:Value->Shared->Prop),Q (.bool (g i j)) s->wpAny (model X.prog X.w) X.A (f (.int i t) (.int j u)) Q E s) :
 OpR X f (rI0 λi j=>.bl (g i j)):=by
 intro pins s Y H x y v u Q I rx ry h;obtain⟨i,j,rfl,rfl,q⟩:=h;obtain⟨t,rfl⟩:=rx;obtain⟨t',rfl⟩:=ry;exact rule i j t t' s _ _ ⟨.bl (g i j),H,I,rfl,q⟩
def CDiv (i j:Int):Prop:=0<j/\j<1073741824
def CPow (i j:Int):Prop:=0<=j/\j<=1000000/\i.natAbs<2 ^ 64
def CMul (i j:Int):Prop:=(-(2 ^ 64)<i/\i<2 ^ 64)\/(-(2 ^ 64)<j/\j<2 ^ 64)
def CMul.ok {i j:Int}(h:CMul i j):IntMulOk i j:=by
 rcases h with⟨h1,h2⟩|⟨h1,h2⟩
 .exact .of_left (intBits_le_64 h1 h2)
 .exact .of_right (intBits_le_64 h1 h2)
def op_add:OpR X (binaryOp .Add) (rI0 λi j=>.int (i+j)):=opI0 λ_ _ _ _ _ _ _ q=>add_int q
def zmA:OpR X (binaryOp .Sub) (rI0 λi j=>.int (i - j)):=opI0 λ_ _ _ _ _ _ _ q=>sub_int q
def op_mul:OpR X (binaryOp .Mult) (rI CMul λi j=>.int (i*j)):=opI λ_ _ _ _ _ _ _ hc q=>mul_int q hc.ok
def zi5:OpR X (binaryOp .FloorDiv) (rI CDiv λi j=>.int (i / j)):=opI λi j _ _ _ _ _ hc q=>by
 have h1:(0:Int)<j:=hc.1
 have h2:j<1073741824:=hc.2
 exact floordiv_int (by omega) (by rw[Int.fdiv_eq_ediv_of_nonneg i (by omega)];exact q) (.inl (PyProof.noPylong_small (by omega)))
def zdL:OpR X (binaryOp .Mod) (rI (λ_ j=>0<j) λi j=>.int (i % j)):=opI λi j _ _ _ _ _ hc q=>by
 have h1:(0:Int)<j:=hc
 exact mod_int' (by omega) (by rw[Int.fmod_eq_emod_of_nonneg i (by omega)];exact q)
def zi6:OpR X (binaryOp .Pow) (rI CPow λi j=>.int (i ^ j.toNat)):=opI λ_ _ _ _ _ _ _ hc q=>pow_int_small hc.1 hc.2.1 hc.2.2 q
end
def ze4 {i j:Int}:decide (V.int i=V.int j)=(i == j):=by
 rw[wbt];simp
def zhn {i j:Bool}:decide (V.bl i=V.bl j)=(i == j):=by
 rw[wbt];simp
def ze5 {i j:Str}:decide (V.str i=V.str j)=(i == j):=by
 rw[wbt];simp
section
variable {X:Cx}{a b c:Expr}{ta tb tc:TE}{pos:Pos}
def zmB {pins:List (Addr×Obj)}{Y:St}{H:Hp}{s:Shared}{Q:VK}{k k':Bool}(I:Inv X pins Y H s)(q:Q (.bl k) H)(e:k=k'):EP X pins Y Q (.bool k') s:=by
 subst e;exact⟨.bl k,H,I,rfl,q⟩
def zpn:OpR X (compareOp .LtE) (rI0 λi j=>.bl (decide (i<=j))):=opB0 λ_ _ _ _ _ _ _ q=>le_int q
def zfE:OpR X (compareOp .Gt) (rI0 λi j=>.bl (decide (j<i))):=opB0 λ_ _ _ _ _ _ _ q=>gt_int q
def zk7:OpR X (compareOp .GtE) (rI0 λi j=>.bl (decide (j<=i))):=opB0 λ_ _ _ _ _ _ _ q=>ge_int q
def zi7:OpR X (compareOp .Is) (λx y H Q=>y=.non/\Q (.bl (decide (x=.non))) H):=by
 intro pins s Y H x y v u Q I rx ry h;obtain⟨rfl,q⟩:=h;cases ry;refine is_none_gen (zmB I q ?_);cases x <;> first
 |(cases rx;rfl)
 |(obtain⟨t,rfl⟩:=rx;rfl)
def zgE:OpR X (compareOp .IsNot) (λx y H Q=>y=.non/\Q (.bl (!decide (x=.non))) H):=by
 intro pins s Y H x y v u Q I rx ry h;obtain⟨rfl,q⟩:=h;cases ry;refine isnot_none_gen (zmB I q ?_);cases x <;> first
 |(cases rx;rfl)
 |(obtain⟨t,rfl⟩:=rx;rfl)
def OpR.or {f:Value->Value->Sem Value}{r r':R2}(h:OpR X f r)(h':OpR X f r'):OpR X f (λx y H Q=>r x y H Q\/r' x y H Q):=by
 intro pins s Y H x y v u Q I rx ry q;rcases q with q|q
 .exact h pins s Y H x y v u Q I rx ry q
 .exact h' pins s Y H x y v u Q I rx ry q
def zaz (b:Expr){op:CmpOp}(h:op≠.In:=by decide)(h2:op≠.NotIn:=by decide):behindInMarks op b=false:=by
 have e1:(op == CmpOp.In)=false:=by cases op <;> first|rfl|exact absurd rfl h
 have e2:(op == CmpOp.NotIn)=false:=by cases op <;> first|rfl|exact absurd rfl h2
 cases b <;> simp[behindInMarks,e1,e2]
def znt {op:CmpOp}{r:R2}(ho:OpR X (compareOp op) r)(ha:PE X a ta)(hb:PE X b tb)(hm:behindInMarks op b=false):PE X (.Compare a [op] [b] pos) (tOp r ta tb):=by
 intro pins s Y H Q I h;exact wpAny_Compare1 (binT ha hb I h λv u s2 x y H2 I2 rx ry q=>ho pins s2 Y H2 x y v u Q I2 rx ry q) hm
def zk8 (t:TE):TT:=λY H Q=>t Y H λx H'=>∃k,x=.bl k/\Q k H'
def zi8 {op:CmpOp}{r:R2}(ho:OpR X (compareOp op) r)(ha:PE X a ta)(hb:PE X b tb)(hm:behindInMarks op b=false):PT X (.Compare a [op] [b] pos) (zk8 (tOp r ta tb)):=by
 intro pins s Y H Q I h;refine wpAny_isTrue_Compare1 (thn (ha pins s Y H _ I h) λv s1 ⟨x,H1,I1,r1,q1⟩=>thn (hb pins s1 Y H1 _ I1 q1) λu s2 ⟨y,H2,I2,r2,q2⟩=>
  thn (ho pins s2 Y H2 x y v u _ I2 r1 r2 q2) λc s3 ⟨z,H3,I3,r3,k,e,q3⟩=>?_) hm
 subst e;cases r3;exact wbi ⟨H3,I3,q3⟩
def zmC (r r':R2)(ta tb tc:TE):TE:=λY H Q=>ta Y H λx H1=>tb Y H1 λy H2=>r x y H2 λz H3=>∃k,z=.bl k/\
 (if k=true then tc Y H3 λw' H4=>r' y w' H4 Q else Q (.bl false) H3)
def zk9 {op op':CmpOp}{r r':R2}(ho:OpR X (compareOp op) r)(ho':OpR X (compareOp op') r')(ha:PE X a ta)(hb:PE X b tb)(hc:PE X c tc)
 (hm:lastMarks [op,op'] [b,c]=false:=by with_unfolding_all rfl):PT X (.Compare a [op,op'] [b,c] pos) (zk8 (zmC r r' ta tb tc)):=by
 intro pins s Y H Q I h;refine isTrue_chain (thn (ha pins s Y H _ I h) λv s1 ⟨x,H1,I1,r1,q1⟩=>test_link (thn (hb pins s1 Y H1 _ I1 q1) λu s2 ⟨y,H2,I2,r2,q2⟩=>
  thn (ho pins s2 Y H2 x y v u _ I2 r1 r2 q2) λd s3 ⟨z,H3,I3,r3,k,e,q3⟩=>?_)) hm
 subst e;cases r3;refine wbi ?_;cases k with
|false=>
   obtain⟨k',e',q'⟩:=q3;cases e';exact ite_ff ⟨H3,I3,q'⟩
|true=>
   refine ite_tt (test_last (thn (hc pins s3 Y H3 _ I3 q3) λw' s4 ⟨z',H4,I4,r4,q4⟩=>thn (ho' pins s4 Y H4 y z' u w' _ I4 r2 r4 q4) λd' s5 ⟨z2,H5,I5,r5,k2,e2,q5⟩=>?_));subst e2;cases r5;exact wbi ⟨H5,I5,q5⟩
def TruV (K:W.Frag)(x:V)(H:Hp)(k:Bool):Prop:=
 match x with
|.non=>k=false
|.bl b=>k=b
|.int i=>k=(i != 0)
|.str y=>y.length<=sizeLine/\k=((y.length:Int) != 0)
|.byt y=>y.size<=sizeLine/\k=((y.size:Int) != 0)
|.ref p=>(∃xs,SqL K H p xs/\k = !xs.isEmpty)\/(∃xs,SqT K H p xs/\k = !xs.isEmpty)\/∃kvs,H p=some (.dK kvs)/\k = !kvs.isEmpty
|_=>False
def zia {A:Type}{kvs:List (A×V)}{vs:List (A×Value)}(r:KV kvs vs):(!vs.isEmpty) = !kvs.isEmpty:=by
 cases r <;> rfl
def zeO {xs:List V}{its:List Value}(r:Vals xs its):(!its.toArray.isEmpty) = !xs.isEmpty:=by
 cases r <;> simp
def zeb:(sizeLine:Nat)<2 ^ 63:=by rw[sizeLine_eq];decide
def zpo:TruR X (λx H Q=>∃k,TruV X.K x H k/\Q k H):=by
 intro pins s Y H x v Q I rx h;obtain⟨k,e,q⟩:=h;have hl:=zeb
 have hs:sizeLine=16777216:=sizeLine_eq
 cases x with
|non=>
   cases rx;have e':k=false:=e
   subst e';exact truthy_none ⟨H,I,q⟩
|bl b=>
   cases rx;have e':k=b:=e
   subst e';exact wbi ⟨H,I,q⟩
|int i=>
   obtain⟨t,rfl⟩:=rx;have e':k=(i != 0):=e
   subst e';exact PySem.P.truthy_int ⟨H,I,q⟩
|str y=>
   obtain⟨t,rfl⟩:=rx;obtain⟨hy,e'⟩:y.length<=sizeLine/\k=((y.length:Int) != 0):=e;subst e';exact PySem.P.truthy_str (by omega) ⟨H,I.tok _,q⟩
|byt y=>
   obtain⟨t,rfl⟩:=rx;obtain⟨hy,e'⟩:y.size<=sizeLine/\k=((y.size:Int) != 0):=e;subst e';exact PySem.W.truthy_bytes (by omega) ⟨H,I.tok _,q⟩
|ref p=>
   cases rx;have e':(∃xs,SqL X.K H p xs/\k = !xs.isEmpty)\/(∃xs,SqT X.K H p xs/\k = !xs.isEmpty)\/∃kvs,H p=some (.dK kvs)/\k = !kvs.isEmpty:=e
   rcases e' with⟨xs,hx,e'⟩|⟨xs,hx,e'⟩|⟨kvs,hx,e'⟩
   .subst e';obtain⟨its,r,pl,hz⟩:=I.list hx;have hlen:=r.length
    exact wpAny_truthy_list pl.isList (by simp only[wac];omega) ⟨H,I.tok _,by rw[zeO r];exact q⟩
   .subst e';obtain⟨its,r,pl,hz⟩:=I.tuple hx;have hlen:=r.length
    exact truthy_tuple pl (by simp only[wac];omega) ⟨H,I.tok _,by rw[zeO r];exact q⟩
   .subst e';obtain⟨hz,hS,vs,r,m⟩:kvs.length<=sizeLine/\(p == sysModules)=false/\∃vs,KV kvs vs/\s.heap.DictOf (zbo X.prog X.w) p vs:=I.hok p _ hx;have hlen:kvs.length=vs.length:=Paired.length r
    exact wpAny_truthy_dict hS m (by omega) ⟨H,I.tok _,by rw[zia r];exact q⟩
|_=>exact(show False from e).elim
def zla (ha:PE X a ta)(he:∀whole,isTrue a X.env whole=(do let v <-whole;standAt a.pos;holding [v] (truthy v))) :
 PT X a (λY H Q=>ta Y H λx H'=>∃k,TruV X.K x H' k/\Q k H'):=by
 intro pins s Y H Q I h;exact isTrue_plain (thn (ha pins s Y H _ I h) λv s1 ⟨x,H1,I1,r1,q1⟩=>zpo pins s1 Y H1 x v Q I1 r1 q1) (he _)
def op_add_str:OpR X (binaryOp .Add) (λx y H Q=>∃i j,x=.str i/\y=.str j/\i.length+j.length<=sizeLine/\Q (.str (i++j)) H):=by
 intro pins s Y H x y v u Q I rx ry h;obtain⟨i,j,rfl,rfl,hz,q⟩:=h;obtain⟨t,rfl⟩:=rx;obtain⟨t',rfl⟩:=ry;exact add_str (λt' tk=>⟨.str (i++j),H,I.tok _,⟨_,rfl⟩,q⟩) hz
def zib {x:V}{us:List Value}(r:Vals [x] us):∃u,us = [u]/\RelV x u:=by
 cases r with
|cons r1 r2=>cases r2;exact⟨_,rfl,r1⟩
def zlb {x y:V}{us:List Value}(r:Vals [x,y] us):∃u w',us = [u,w']/\RelV x u/\RelV y w':=by
 cases r with
|cons r1 r2=>
   cases r2 with
  |cons r3 r4=>cases r4;exact⟨_,_,rfl,r1,r3⟩
def zfF (hc:X.calm=true):zc5 X (.builtin "min") (λxs H Q=>∃i j,xs = [.int i,.int j]/\Q (.int (if j<i then j else i)) H):=by
 intro pins s Y H xs us Q I r h;obtain⟨i,j,rfl,q⟩:=h;obtain⟨u,w',rfl,⟨t,rfl⟩,⟨t',rfl⟩⟩:=zlb r;refine min_two_ints (I.ok.hd hc) λh' tk k=>⟨_,H,I.kept k,?_,q⟩
 by_cases hj:j<i
 .rw[if_pos hj,if_pos hj];exact⟨_,rfl⟩
 .rw[if_neg hj,if_neg hj];exact⟨_,rfl⟩
def LenV (K:W.Frag)(x:V)(H:Hp)(n:Nat):Prop:=
 match x with
|.str y=>y.length<=sizeLine/\n=y.length
|.byt y=>y.size<=sizeLine/\n=y.size
|.ref p=>(∃xs,SqL K H p xs/\n=xs.length)\/∃xs,SqT K H p xs/\n=xs.length
|_=>False
def zaW:zc5 X (.builtin "len") (λxs H Q=>∃x n,xs = [x]/\LenV X.K x H n/\Q (.int n) H):=by
 intro pins s Y H xs us Q I r h;obtain⟨x,n,rfl,e,q⟩:=h;obtain⟨u,rfl,rx⟩:=zib r;have hl:=zeb
 have hs:sizeLine=16777216:=sizeLine_eq
 cases x with
|str y=>
   obtain⟨t,rfl⟩:=rx;obtain⟨hy,e'⟩:y.length<=sizeLine/\n=y.length:=e;subst e';exact len_str (by omega) ⟨.int _,H,I.tok _,⟨_,rfl⟩,q⟩
|byt y=>
   obtain⟨t,rfl⟩:=rx;obtain⟨hy,e'⟩:y.size<=sizeLine/\n=y.size:=e;subst e';exact PySem.W.len_bytes (by omega) ⟨.int _,H,I.tok _,⟨_,rfl⟩,q⟩
|ref p=>
   cases rx;have e':(∃xs,SqL X.K H p xs/\n=xs.length)\/∃xs,SqT X.K H p xs/\n=xs.length:=e
   rcases e' with⟨xs,hx,e'⟩|⟨xs,hx,e'⟩
   .subst e';obtain⟨its,r',pl,hz⟩:=I.list hx;have hlen:=r'.length
    exact Calls.call_len_list pl.isList (by simp only[wac];omega) ⟨.int xs.length,H,I.tok _,⟨_,by simp only[wac];rw[hlen]⟩,q⟩
   .subst e';obtain⟨its,r',pl,hz⟩:=I.tuple hx;have hlen:=r'.length
    exact len_tuple pl (by simp only[wac];omega) ⟨.int xs.length,H,I.tok _,⟨_,by simp only[wac];rw[hlen]⟩,q⟩
|_=>exact(show False from e).elim
end
structure ObjM (h:Heap)(x dx C:Addr)(mA:Str->Option Value):Prop where
 obj:h.get? x=some (PySem.W.instObj C dx)
 ns:h.Ns1 dx mA
 ne:dx≠x
def zi9 {h:Heap}{dx:Addr}{mA:Str->Option Value}(n:h.Ns1 dx mA):∃od,h.get? dx=some od/\∀name,PySem.W.lookIn name od=some (mA name):=by
 obtain⟨o,es,ep,ho,hd,hk,_,hm⟩:=n;refine⟨o,ho,λname=>?_⟩;have e:=hm name
 unfold nsFind findBy at e;rw[<-Array.find?_toList] at e;unfold PySem.W.lookIn;rw[hd];dsimp only;split
 .rename_i y q
  rw[q] at e;exact wbQ some e
 .rename_i q
  rw[q] at e;have a:es.toList.any (·.refKey)=false:=by
   rw[wcq];intro y hy;obtain⟨z,t,hkey⟩:=hk y (Array.mem_toList_iff.mp hy);simp[DictEntry.refKey,hkey]
  have a':¬es.toList.any (·.refKey)=true:=by rw[a];exact wbz
  rw[if_neg a'];exact wbQ some e
def ObjM.look {h:Heap}{x dx C:Addr}{mA:Str->Option Value}(I:ObjM h x dx C mA):∃od,PySem.W.InstAt h x (PySem.W.instObj C dx) C (some od)/\∀name,PySem.W.lookIn name od=some (mA name):=
 let ⟨od,ho,hl⟩:=zi9 I.ns
 ⟨od,⟨I.obj,rfl,rfl,ho⟩,hl⟩
section
variable {prog:Program}{w:World}{A:Around}{E:Value->Shared->Prop}{s:Shared}{K:W.Frag}{x dx C f:Addr}{mA:Str->Option Value}{name:Str}{v:Value}
end
def RelO.some_of {v:V}{o:Option Value}(r:RelO (some v) o):∃u,o=some u/\RelV v u:=by
 cases o with
|none=>exact(show False from r).elim
|some u=>exact⟨u,rfl,r⟩
section
variable {P:Program}{w:World}{H H':Hp}{h h':Heap}{a C dx:Addr}{fs fs':List (Str×V)}
def znu (hok:HOk P w H h)(e:H a=some (.ins C dx fs)):∃mA,ObjM h a dx C mA/\(∀f,RelO (fs.lookup f) (mA f))/\PySem.Within mA (fs.map (·.1))/\fs.length<=1000/\H dx=some (.own a):=by
 obtain⟨d,z,ne,ob,mA,n,r,q⟩:=(show ObjOk P w H h a (.ins C dx fs) from hok a _ e)
 exact⟨mA,⟨ob,n,ne⟩,r,q,z,d⟩
end
structure Cls (K:W.Frag)(C:Addr):Prop where
 pg:PySem.W.plainGet K C Str.empty=true
 hd:PySem.W.hasDictIn K C=true
 po:PySem.W.plainOver K C=true
 sa:PySem.W.findIn K (.ref C) "__setattr__"=some (some (.builtin "object.__setattr__"))
def Cls.get {K:W.Frag}{C:Addr}(c:Cls K C)(f:Str):PySem.W.plainGet K C f=true:=c.pg
section
variable {X:Cx}{pins:List (Addr×Obj)}{Y:St}{H:Hp}{s:Shared}{a C dx:Addr}{fs:List (Str×V)}{f:Str}{v:V}{A:Around}{E:Value->Shared->Prop}
def znv {prog:Program}{w:World}{env:Env}{e:Expr}{f:Str}{pos:Pos}{s:Shared}{Q:Value->Shared->Prop}(hb:attributeBase e f env (eval e env)=eval e env)
 (h:wpAny (model prog w) A (eval e env) (λo s₁=>wpAny (model prog w) A (getAttr o f true) Q E s₁) E s):wpAny (model prog w) A (eval (.Attribute e f pos) env) Q E s:=
 Attribute_any_ h (by rw[arm_eval_Attribute,hb])
end
section
variable {X:Cx}{o e value:Expr}{f:Str}{pos pos' tpos:Pos}{ta tv:TE}
end
section
variable {X:Cx}{pins:List (Addr×Obj)}{Y:St}{H:Hp}{s:Shared}{A:Around}{E:Value->Shared->Prop}{Q:Value->Shared->Prop}{c:Value}{b:Bool}
inductive TyOf (K:W.Frag)(H:Hp):V->Value->Prop where
|non:TyOf K H .non (.type "NoneType")
|bl (x:Bool):TyOf K H (.bl x) (.type "bool")
|int (i:Int):TyOf K H (.int i) (.type "int")
|str (x:Str):TyOf K H (.str x) (.type "str")
|flt (x:UInt64):TyOf K H (.flt x) (.type "float")
|lst {a:Addr}{xs:List V}(e:H a=some (.lst xs)):TyOf K H (.ref a) (.type "list")
|frz {a:Addr}{o:Obj}{xs:List V}(e:H a=some (.frz o (.lst xs))):TyOf K H (.ref a) (.type "list")
|tup {a:Addr}{xs:List V}(e:H a=some (.tup xs)):TyOf K H (.ref a) (.type "tuple")
|dK {a:Addr}{kvs:List (Key×V)}(e:H a=some (.dK kvs)):TyOf K H (.ref a) (.type "dict")
|dT {a:Addr}{kvs:List (List Key×V)}(e:H a=some (.dT kvs)):TyOf K H (.ref a) (.type "dict")
|ins {a C dx:Addr}{fs:List (Str×V)}(e:H a=some (.ins C dx fs)) (cl:Cls K C) (ha:PySem.W.findIn K (.ref C) "__class__"=some (some (.builtin "object.__class__")))
  (hn:PySem.W.specialIn K (.builtin "object.__class__") "__get__"=some (some (.builtin "getset_descriptor.__get__"))) (htk:PySem.W.takesIn K (.builtin "object.__class__")=some true)
  (hm:PySem.W.mroIn K C (.type "object")=some true):TyOf K H (.ref a) (.ref C)
def zja {x:V}{u t:Value}(I:Inv X pins Y H s)(rx:RelV x u)(ty:TyOf X.K H x t)(e:PySem.W.kitOne X.K t c=some b)(h:∀tk,Q (.bool b) {s with toks:=tk}) :
 wpAny (model X.prog X.w) A (call (.builtin "isinstance") [u,c]) Q E s:=by
 cases ty with
|non=>cases(show u=Value.none from rx);exact waQ PySem.W.kitx_none I.kIn True.intro e (λz=>nomatch z) h
|bl y=>cases(show u=Value.bool y from rx);exact waQ PySem.W.kitx_bool I.kIn True.intro e (λz=>nomatch z) h
|int i=>obtain⟨t,q⟩:=(show ∃t,u=Value.int i t from rx);cases q;exact waQ PySem.W.kitx_int I.kIn True.intro e (λz=>nomatch z) h
|str y=>obtain⟨t,q⟩:=(show ∃t,u=Value.str y t from rx);cases q;exact waQ PySem.W.kitx_str I.kIn True.intro e (λz=>nomatch z) h
|flt y=>obtain⟨t,q⟩:=(show ∃t,u=Value.float y t from rx);cases q;exact waQ PySem.W.kitx_float I.kIn True.intro e (λz=>nomatch z) h
|@lst a xs ea=>
   cases(show u=Value.ref a from rx);obtain⟨_,_,n,_,h1⟩:=(show ObjOk X.prog X.w H s.heap a (.lst xs) from I.hok a _ ea)
   exact waQ PySem.W.kitx_list I.kIn ⟨_,h1,rfl⟩ e (λz=>nomatch z) h
|@frz a ob xs ea=>
   cases(show u=Value.ref a from rx);obtain⟨_,_,_,n,_,h1⟩:=(show ObjOk X.prog X.w H s.heap a (.frz ob (.lst xs)) from I.hok a _ ea)
   exact waQ PySem.W.kitx_list I.kIn ⟨_,h1,rfl⟩ e (λz=>nomatch z) h
|@tup a xs ea=>
   cases(show u=Value.ref a from rx);obtain⟨_,_,_,p⟩:=(show ObjOk X.prog X.w H s.heap a (.tup xs) from I.hok a _ ea)
   obtain⟨o,h1,h2,_⟩:=p;exact waQ PySem.W.kitx_tuple I.kIn ⟨o,h1,h2⟩ e (λz=>nomatch z) h
|@dK a kvs ea=>
   cases(show u=Value.ref a from rx);obtain⟨_,_,vs,_,p⟩:=(show ObjOk X.prog X.w H s.heap a (.dK kvs) from I.hok a _ ea)
   obtain⟨o,es,ep,h1,h2,_⟩:=p;exact waQ PySem.W.kitx_dict I.kIn ⟨o,h1,h2.1⟩ e (λz=>nomatch z) h
|@dT a kvs ea=>
   cases(show u=Value.ref a from rx);obtain⟨_,_,xs,_,o,es,ep,h1,h2,_⟩:=(show ObjOk X.prog X.w H s.heap a (.dT kvs) from I.hok a _ ea)
   exact waQ PySem.W.kitx_dict I.kIn ⟨o,h1,h2.1⟩ e (λz=>nomatch z) h
|@ins a C dx fs ea cl ha hn htk hm=>
   cases(show u=Value.ref a from rx);obtain⟨mA,O,_⟩:=znu I.hok ea;obtain⟨od,J,_⟩:=O.look;exact waQ (PySem.W.kitx_own (cl.get _) cl.hd ha hn htk hm) I.kIn J e (λz=>nomatch z) h
end
structure Room (k:Nat)(A:Around):Prop where
 hd:A.handled=none
 dp:A.depth+3*k+5<recursionLimit
 un:A.units+16*k+200<cLine
 gd:A.guards=some []
def Room.mono {j k:Nat}{A:Around}(r:Room k A)(h:j<=k):Room j A:=⟨r.hd,by have:=r.dp;omega,by have:=r.un;omega,r.gd⟩
theorem Room.deeper {k:Nat}{A:Around}(r:Room (k+1) A)(env:Env):Room k (A.deeper env):=
 ⟨r.hd,by have:=r.dp;show A.depth+1+3*k+5<_;omega,by have:=r.un;show A.units+3+16*k+200<_;omega,r.gd⟩
def make_units {A:Around}{C:Addr}{us:List Value}{kw:List (Str×Value)}:(A.under (.builtin "type.__call__" ⟨.ref C::us,kw⟩)).units=A.units+1:=by
 first|rfl|simp[Around.under,Code.cUnits,Code.frames,Code.isFrame]
theorem Room.depth {k:Nat}{A:Around}(r:Room k A):A.depth<recursionLimit:=by have:=r.dp;omega
theorem Room.units {k:Nat}{A:Around}(r:Room k A):A.units+64<cLine:=by have:=r.un;omega
def tNil:TA:=λ_ H Q=>Q [] H
def zlc (ta:TE)(tr:TA):TA:=λY H Q=>ta Y H λx H1=>tr Y H1 λxs H2=>Q (x::xs) H2
section
variable {X:Cx}{e:Expr}{es:List Expr}{te:TE}{t:TA}{pos:Pos}
def zc8:PA X [] tNil:=λ_ _ _ _ H Q I h=>Calls.spliced_nil ⟨[],H,I,.nil,h⟩
def zbg (ha:PE X e te)(hr:PA X es t)(hs:starEach (e::es) X.env=(false,eval e X.env)::starEach es X.env:=by rfl):PA X (e::es) (zlc te t):=by
 intro pos pins s Y H Q I h;rw[hs];show wpAny _ _ (spliced ((false,eval e X.env)::backTo pos (starEach es X.env))) _ _ s
 refine wbA (thn (ha pins s Y H _ I h) λu s1 ⟨x,H1,I1,r1,q1⟩=>?_);exact thn (hr pos pins s1 Y H1 _ I1 q1) λus s2 ⟨xs,H2,I2,r2,q2⟩=>⟨x::xs,H2,I2,.cons r1 r2,q2⟩
def tTup (t:TA):TE:=λY H Q=>t Y H λxs H1=>xs.length<=sizeLine/\∀p,H1 p=none->Q (.ref p) (upd H1 p (.tup xs))
def tLst (t:TA):TE:=λY H Q=>t Y H λxs H1=>xs.length<=sizeLine/\∀p,H1 p=none->Q (.ref p) (upd H1 p (.lst xs))
def zmD {x1}(h:PA X es t):PE X (.Tuple es x1 pos) (tTup t):=by
 intro pins s Y H Q I hq;refine wpAny_Tuple_spliced (thn (h pos pins s Y H _ I hq) λus s1 ⟨xs,H1,I1,r,z,q⟩=>⟨by rw[<-r.length];exact z,?_⟩);have hf:H1 s1.heap.objs.size=none:=I1.hok.fresh (wan _)
 refine⟨.ref s1.heap.objs.size,upd H1 s1.heap.objs.size (.tup xs),I1.laid (t':=s1.toks) (λb u e=>wab _ e) (wan _) ?_,rfl,q _ hf⟩;exact⟨z,us,r,⟨_,war _ rfl,rfl,_,rfl⟩⟩
def zmE (h:PA X es t):PE X (.List es pos) (tLst t):=by
 intro pins s Y H Q I hq;refine wpAny_List_spliced (thn (h pos pins s Y H _ I hq) λus s1 ⟨xs,H1,I1,r,z,q⟩=>⟨by rw[<-r.length];exact z,?_⟩);have hf:H1 s1.heap.objs.size=none:=I1.hok.fresh (wan _)
 refine⟨.ref s1.heap.objs.size,upd H1 s1.heap.objs.size (.lst xs),I1.laid (t':=s1.toks) (λb u e=>wab _ e) (wan _) ?_,rfl,q _ hf⟩;exact⟨z,us,0,r,war _ rfl⟩
end
abbrev Sp:=List V->Hp->VK->XK->Prop
abbrev CXT:=List Env->Hp->Shared->XK->Value->Shared->Prop
structure Env0 (P:Program)(w:World)(K:W.Frag)(mg:Str->Option Value)(base:Heap)(A:Around)(outer:List Env)(s:Shared)(H:Hp):Prop where
 frames:A.frames=some outer
 mod:Mod K mg base
 bs:∀b o,base.get? b=some o->s.heap.get? b=some o/\H b=none
 bsz:base.objs.size<=s.heap.objs.size
 funs:s.heap.FunFrames base outer
 frf:∀b∈frs outer,H b=none
 hok:HOk P w H s.heap
 bare:AllBare s.gens
def CE (outer:List Env)(P:Program)(w:World)(H:Hp)(s:Shared)(Q:VK)(u:Value)(s':Shared):Prop:=
 ∃v H',s'.os=s.os/\AllBare s'.gens/\Un (frs outer) [] H H' s.heap s'.heap/\HOk P w H' s'.heap/\RelV v u/\Q v H'
def CR (CX:CXT)(outer:List Env)(P:Program)(w:World)(H:Hp)(s:Shared)(Q:VK)(E:XK)(r:Result)(s':Shared):Prop:=
 match r with
|.ok (.ret u)=>CE outer P w H s Q u s'
|.ok _=>False
|.error e=>CX outer H s E e s'
structure FnOk (P:Program)(w:World)(K:W.Frag)(mg:Str->Option Value)(base:Heap)(CX:CXT)(k:Nat)(f:Addr)(fd:FuncData)(ps:List Str)(sp:Sp):Prop where
 len:∀vs H Q E,sp vs H Q E->vs.length=ps.length
 run:∀(A:Around) (outer:List Env) (s:Shared) (H:Hp) (args:Args) (us:List Value) (vs:List V) (Q:VK) (E:XK),Room k A->Env0 P w K mg base A outer s H->BindsTo s fd args (ps.zip us)->Vals vs us->sp vs H Q E->
  codeAny (model P w) A (.call (.ref f) args) (CR CX outer P w H s Q E) s
theorem FnOk.mono {P:Program}{w:World}{K:W.Frag}{mg:Str->Option Value}{base:Heap}{CX:CXT}{j k:Nat}{f:Addr}{fd:FuncData}{ps:List Str}{sp:Sp}(F:FnOk P w K mg base CX j f fd ps sp)(h:j<=k) :
 FnOk P w K mg base CX k f fd ps sp:=⟨F.len,λA outer s H args us vs Q E hr=>F.run A outer s H args us vs Q E (hr.mono h)⟩
section
variable {X:Cx}{pins:List (Addr×Obj)}{Y:St}{H:Hp}{s s':Shared}
def Inv.env0 (I:Inv X pins Y H s):Env0 X.prog X.w X.K X.mg X.base X.A X.stack s H:=
 ⟨I.ok.frames,I.ok.mod,I.bs,wal I.ok.bsz I.sz,I.stack,I.stkFree,I.hok,I.bare⟩
def Inv.after {Q:VK}{u:Value}(I:Inv X pins Y H s)(h:CE X.stack X.prog X.w H s Q u s'):EP X pins Y Q u s':=by
 obtain⟨v,H',os,bare,un,hok,r,q⟩:=h;obtain⟨hh,g,d,t,os'⟩:=s';obtain rfl:os'=s.os:=os;exact⟨v,H',I.call (h':=hh) (g':=g) (d':=d) (t':=t) (ch:=[]) un hok bare (λb z=>absurd z (by simp)),r,q⟩
end
def zic (sp:Sp)(dvs:List V)(E:XK)(t:TA):TE:=λY H Q=>t Y H λvs H1=>sp (vs++dvs) H1 Q E
def Binds (K:W.Frag)(fd:FuncData)(ps:List Str)(ds:List Value):Prop:=
 ∀(s:Shared) (us:List Value),K.In s.heap->(us++ds).length=ps.length->BindsTo s fd ⟨us,[]⟩ (ps.zip (us++ds))
def Binds.all {K:W.Frag}{fd:FuncData}{ps:List Str}(h:∀us:List Value,us.length=ps.length->bindArgs fd ⟨us,[]⟩=pure (ps.zip us)):Binds K fd ps []:=λs us _ hl=>by
 rw[waI] at hl⊢;exact .of_eq (h us hl)
def zho (CX:CXT)(X:Cx)(E:XK):Prop:=∀(pins:List (Addr×Obj)) (Y:St) (H:Hp) (s:Shared) (e:Value) (s':Shared),Inv X pins Y H s->CX X.stack H s E e s'->X.xe e s'
section
variable {X:Cx}{CX:CXT}{k:Nat}{f C:Addr}{fd:FuncData}{ps:List Str}{sp:Sp}{dvs:List V}{ds:List Value}{E:XK}{x m:Str}{p pos apos:Pos}{e o:Expr}{es:List Expr}{ta:TE}{t:TA}
def zmF {pins:List (Addr×Obj)}{Y:St}{H:Hp}{s:Shared}{Q:VK}{us:List Value}{vs:List V}(F:FnOk X.prog X.w X.K X.mg X.base CX k f fd ps sp)(hr:Room k X.A)(hb:Binds X.K fd ps ds)(hd:Vals dvs ds)(hx:zho CX X E)
 (I:Inv X pins Y H s) (r:Vals vs us) (h:sp (vs++dvs) H Q E):wpAny (model X.prog X.w) X.A (call (.ref f) us) (EP X pins Y Q) X.xe s:=by
 have r2:Vals (vs++dvs) (us++ds):=r.append hd
 have hl:(us++ds).length=ps.length:=by rw[<-r2.length];exact F.len _ _ _ _ h
 refine wch (wct (F.run X.A X.stack s H ⟨us,[]⟩ (us++ds) (vs++dvs) Q E hr I.env0 (hb s us I.kIn hl) r2 h) λr s' hq=>?_);cases r with
|error e=>exact hx pins Y H s e s' I hq
|ok fl=>
   cases fl with
  |ret u=>exact I.after hq
  |next=>exact False.elim hq
  |brk=>exact False.elim hq
  |cont=>exact False.elim hq
def znw (F:FnOk X.prog X.w X.K X.mg X.base CX k f fd ps sp)(hr:Room k X.A)(hg:Gl X x)(hm:X.mg x=some (.ref f))(hk:W.keepIn X.K (.ref f)=true)(hb:Binds X.K fd ps ds)(hd:Vals dvs ds)(hx:zho CX X E)
 (ha:PA X (e::es) t) (hdb:(x == ("__debug__":Str))=false:=by decide) (he:starEach (e::es) X.env=(false,eval e X.env)::starEach es X.env:=by rfl) (hpl:(backTo pos (starEach es X.env)).any (·.1)=false:=by rfl) :
 PE X (.Call (.Name x p) (e::es) [] pos) (zic sp dvs E t):=by
 intro pins s Y H Q I h;refine waG (zcD I hg hm ?_ hdb);refine wcl (h₀:=X.base) I.ok.mod.kin hk (thn (ha pos pins s Y H _ I h) λus s1 ⟨vs,H1,I1,r,q⟩=>⟨I1.kIn,?_⟩) he hpl;exact zmF F hr hb hd hx I1 r q
end
section
variable {X:Cx}{CX:CXT}{k:Nat}{f C:Addr}{fd:FuncData}{ps ks:List Str}{sp:Sp}{E:XK}{x m:Str}{p pos apos kpos:Pos}{e o:Expr}{es:List Expr}{kws:List Keyword}{te ta:TE}{t tk:TA}{nm:Option Str}
variable {g:List Value->List Value->List Value}{gV:List V->List V->List V}
end
structure FnScope (N P:List Str)(sc:Scope):Prop where
 kind:sc.kind=.function
 co:sc.isCoroutine=false
 gen:sc.isGenerator=false
 nd:N.Nodup
 pre:N.take P.length=P
 par:∀x∈P,sc.names.lookup x=some .local\/sc.names.lookup x=some .cell
 nofree:∀y∈sc.names,y.2≠.free
theorem zfG {kindOf:Str->Option NameKind}{x:Str}:∀{binds:List (Str×Value)}{m:Str->Option Value},(∀v,(x,v)∉binds)->bindL kindOf binds m x=m x
|[],_,_=>rfl
|(n,v)::r,m,h=>by
   unfold bindL;rw[zfG λw hw=>h w (wag _ hw)];split
   .have:x≠n:=by rintro rfl;exact h v wak
    simp[this]
   .rfl
theorem zfH {kindOf:Str->Option NameKind}{x:Str}:∀{binds:List (Str×Value)}{m:Str->Option Value},(∀v,(x,v)∉binds)->bindC kindOf binds m x=m x
|[],_,_=>rfl
|(n,v)::r,m,h=>by
   unfold bindC;rw[zfH λw hw=>h w (wag _ hw)];split
   .rfl
   .have:x≠n:=by rintro rfl;exact h v wak
    simp[this]
theorem zfI {kindOf:Str->Option NameKind}{x:Str}{v:Value}:∀{P:List Str}{vs:List Value}{i:Nat}{m:Str->Option Value},P.Nodup->P[i]?=some x->vs[i]?=some v->kindOf x=some .local->
 bindL kindOf (P.zip vs) m x=some v
|[],_,_,_,_,h,_,_=>by simp at h
|_::_,[],_,_,_,_,h,_=>by simp at h
|p::P,w::vs,0,m,nd,h1,h2,hk=>by
   simp at h1 h2;subst h1;subst h2;show bindL kindOf ((p,w)::P.zip vs) m p=_
   unfold bindL;rw[zfG λv hv=>(waM.mp nd).1 (wcD hv).1,if_pos hk];simp
|p::P,w::vs,i+1,m,nd,h1,h2,hk=>by
   show bindL kindOf ((p,w)::P.zip vs) m x=_
   unfold bindL;exact zfI (i:=i) (waM.mp nd).2 (by simpa using h1) (by simpa using h2) hk
theorem zfJ {kindOf:Str->Option NameKind}{x:Str}{v:Value}:∀{P:List Str}{vs:List Value}{i:Nat}{m:Str->Option Value},P.Nodup->P[i]?=some x->vs[i]?=some v->kindOf x≠some .local->
 bindC kindOf (P.zip vs) m x=some v
|[],_,_,_,_,h,_,_=>by simp at h
|_::_,[],_,_,_,_,h,_=>by simp at h
|p::P,w::vs,0,m,nd,h1,h2,hk=>by
   simp at h1 h2;subst h1;subst h2;show bindC kindOf ((p,w)::P.zip vs) m p=_
   unfold bindC;rw[zfH λv hv=>(waM.mp nd).1 (wcD hv).1,if_neg hk];simp
|p::P,w::vs,i+1,m,nd,h1,h2,hk=>by
   show bindC kindOf ((p,w)::P.zip vs) m x=_
   unfold bindC;exact zfJ (i:=i) (waM.mp nd).2 (by simpa using h1) (by simpa using h2) hk
def start (N:List Str)(vs:List V):St:=vs.map some++List.replicate (N.length - vs.length) none
def cxOf (CX:CXT)(P:Program)(w:World)(K:W.Frag)(mg:Str->Option Value)(base:Heap)(N:List Str)(qual:Str)(scope:Scope)(f:Addr)(cd:Value)(A:Around)(outer:List Env)(s:Shared)(H:Hp)(E:XK):Cx where
 prog:=P
 w:=w
 K:=K
 mg:=mg
 base:=base
 A:=A.deeper (envOfC qual scope s.heap.objs.size f cd)
 N:=N
 s₀:=s
 Hz:=H
 env:=envOfC qual scope s.heap.objs.size f cd
 outer:=outer
 stack:=envOfC qual scope s.heap.objs.size f cd::outer
 ex:=[]
 calm:=true
 fn:=λ_=>true
 pn:=[]
 xe:=λe s'=>wpAny (model P w) (A.deeper (envOfC qual scope s.heap.objs.size f cd)) (leaving (envOfC qual scope s.heap.objs.size f cd) e) (λ_ s''=>CX outer H s E e s'') (λe' s''=>CX outer H s E e' s'') s'
def zbX {sc:Scope}{n:Nat}{x:Str}(h:sc.names.lookup x=some .cell):∃c,(cellsFrom n sc.names []).lookup x=some c:=by
 have q:=PySem.W.cellsFrom_some sc.names n [] (.inl h)
 exact Option.isSome_iff_exists.mp q
def zjb {CX:CXT}{P:Program}{w:World}{K:W.Frag}{mg:Str->Option Value}{base:Heap}{N ps:List Str}{qual:Str}{scope:Scope}{f:Addr}{cd:Value}{A:Around}{outer:List Env}{s s1:Shared}{H:Hp}{E:XK}{us:List Value}{vs:List V}
 (S:FnScope N ps scope) (hd:A.handled=none) (e0:Env0 P w K mg base A outer s H) (hl:vs.length=ps.length) (r:Vals vs us)
 (x:InCallC s s.heap.objs.size (bindL (envOfC qual scope s.heap.objs.size f cd).kindOf (ps.zip us) λ_=>none) (cellsFrom (s.heap.objs.size+1) scope.names []) (bindC (envOfC qual scope s.heap.objs.size f cd).kindOf (ps.zip us) λ_=>none) s1) :
 Inv (cxOf CX P w K mg base N qual scope f cd A outer s H E) [] (start N vs) H s1:=by
 have hpl:ps.length<=N.length:=by have:=wbQ List.length S.pre;rw[wbo] at this;omega
 obtain⟨h1,tk,rfl,hk⟩:=x.done;have noA:∀b:Addr,b∉(cxOf CX P w K mg base N qual scope f cd A outer s H E).ex:=λb z=>absurd (show b∈([]:List Addr) from z) (by simp)
 refine⟨⟨e0.mod,S.kind,rfl,rfl,wan _,λy z c h1 h2=>?_,λy hy=>?_,λy c _ h=>?_,λ_=>hd,Around.frames_deeper e0.frames,.inr ⟨rfl,rfl⟩,λb z=>absurd z (noA b),e0.bs,e0.bsz,λb _ _=>noA b,λb z=>absurd z (noA b),e0.funs,e0.frf⟩,
  rfl,e0.bare,Un.kept hk,⟨_,x.toInCall.ns,λi y v h1 h2 h3=>?_⟩,λy c h=>⟨_,x.cell y c h⟩,e0.hok.fresh (wan _),λy c h=>?_,λp hp=>absurd (show p∈([]:List (Addr×Obj)) from hp) (by simp),e0.hok.kept hk,?_⟩
 .exact name_of_addr x.apart (wbK h1) (wbK h2)
 .have hy:scope.names.lookup y=some .cell\/scope.names.lookup y=some .free:=hy
  rcases hy with hy|hy
  .exact zbX hy
  .exact absurd rfl (S.nofree _ (wbK hy))
 .exact wbg (x.above y c (wbK h))
 .have hi:i<vs.length:=by
   unfold start at h2;by_cases hi:i<vs.length
   .exact hi
   .rw[waV (by simpa using hi)] at h2;rw[List.getElem?_replicate] at h2;split at h2 <;> cases h2
  have ha:vs[i]?=some v:=by
   unfold start at h2;rw[waX (by simpa using hi),waw] at h2;cases e:vs[i]? with
  |none=>rw[e] at h2;cases h2
  |some a=>rw[e] at h2;cases h2;rfl
  obtain⟨u,hu,rv⟩:=r.get ha;have hp:ps[i]?=some y:=by
   rw[<-S.pre,List.getElem?_take_of_lt (by omega)];exact h1
  have ndP:ps.Nodup:=by rw[<-S.pre];exact S.nd.sublist (List.take_sublist _ _)
  refine⟨u,rv,?_⟩;rcases S.par y (waH hp) with k|k
  .exact .inl ⟨k,zfI ndP hp hu k⟩
  .obtain⟨c,e⟩:=zbX (n:=s.heap.objs.size+1) k;refine .inr ⟨.inl k,c,e,?_⟩;have q:=x.cell y c e
   rw[zfJ ndP hp hu (by show scope.names.lookup y≠_;rw[k];decide)] at q;exact q
 .exact e0.hok.fresh (wbg (x.above y c (wbK h)))
 .unfold start;show _=N.length
  rw[wap,waj,List.length_replicate];omega
def zld {CX:CXT}{P:Program}{w:World}{K:W.Frag}{mg:Str->Option Value}{base:Heap}{k:Nat}{f:Addr}{name qual:Str}{params:Arguments}{body:List Stmt}{scope:Scope}{dV kV doc pm cdv ct oc:Value}{an od:Option Addr}
 {osl:Array (Option Value)}{N ps:List Str}{sp:Sp}(lk:K.lookup f=some ⟨oc,od,.func (W.fnOf name qual params body scope dV kV doc pm an cdv ct),osl⟩) (hcd:W.codeIn K cdv qual=true) (S:FnScope N ps scope)
 (len:∀vs H Q E,sp vs H Q E->vs.length=ps.length)
 (hbody:∀(A:Around) (outer:List Env) (s:Shared) (H:Hp) (vs:List V) (Q:VK) (E:XK),Room k (A.deeper (envOfC qual scope s.heap.objs.size f cdv))->sp vs H Q E->
  ∃t,PSs (cxOf CX P w K mg base N qual scope f cdv A outer s H E) body t/\t {nx:=λ_ H'=>Q .non H',rt:=Q} (start N vs) H) :
 FnOk P w K mg base CX (k+1) f (W.fnOf name qual params body scope dV kV doc pm an cdv ct) ps sp:=by
 refine⟨len,λA outer s H args us vs Q E hr e0 hb r hsp=>?_⟩;have hl:=len _ _ _ _ hsp
 have KX:K.In s.heap:=e0.mod.kin.keeps λb o e=>(e0.bs b o e).1
 have lim:s.heap.NoLimit:=e0.mod.nolimit.keeps λb o e=>(e0.bs b o e).1
 have hkind:∀y∈ps.zip us,scope.names.lookup y.1=some .local\/(scope.names.lookup y.1=some .cell/\((cellsFrom (s.heap.objs.size+1) scope.names []).lookup y.1).isSome=true):=λ⟨n,v⟩ hy=>by
  rcases S.par n (wcD hy).1 with q|q
  .exact .inl q
  .exact .inr ⟨q,PySem.W.cellsFrom_some _ _ _ (.inl q)⟩
 refine codeAny_call_function hr.depth (KX _ _ lk) rfl S.co S.gen rfl (PySem.W.codeRec_of KX hcd) (hb _ _ _ _ ?_);refine wpAny_newFunctionEnv_cells S.kind hkind λenv he s1 x=>?_
 subst he;refine⟨lim.keeps x.toInCall.keep,codeAny_func ?_⟩;obtain⟨t,ht,hq⟩:=hbody A outer s H vs Q E (hr.deeper _) hsp;have I:Inv (cxOf CX P w K mg base N qual scope f cdv A outer s H E) [] (start N vs) H s1:=zjb S hr.hd e0 hl r x
 refine was (ht [] s1 (start N vs) H _ I hq) (λfl s' hs=>?_) λe s' hs=>hs
 have fin:∀{Y':St}{H':Hp}{v:V}{u:Value},Inv (cxOf CX P w K mg base N qual scope f cdv A outer s H E) [] Y' H' s'->RelV v u->Q v H'->CE outer P w H s Q u s':=
  λ{Y' H' v u} J rv q=>⟨v,H',J.os,J.bare,J.base,J.hok,rv,q⟩
 cases fl with
|ret u=>
   obtain⟨v,Y',H',J,rv,q⟩:=hs;exact fin J rv q
|next=>
   obtain⟨Y',H',J,q⟩:=hs;exact fin (v:=V.non) (u:=Value.none) J rfl q
|brk=>
   obtain⟨_,_,_,q⟩:=hs;exact False.elim q
|cont=>
   obtain⟨_,_,_,q⟩:=hs;exact False.elim q
section
variable {X:Cx}{x:Str}{p pos:Pos}{e:Expr}{es:List Expr}{t:TA}{id T:String}{r:List V->Hp->VK->Prop}
def tCB (r:List V->Hp->VK->Prop)(t:TA):TE:=λY H Q=>t Y H λvs H1=>r vs H1 Q
def zle (hc:zc5 X (.builtin id) r)(hg:Gl X x)(hm:X.mg x=none)(hv:bootBuiltins x=some (.builtin id))(ha:PA X (e::es) t)(hn:x≠"__name__":=by decide)(hdb:(x == ("__debug__":Str))=false:=by decide)
 (he:starEach (e::es) X.env=(false,eval e X.env)::starEach es X.env:=by rfl) (hpl:(backTo pos (starEach es X.env)).any (·.1)=false:=by rfl):PE X (.Call (.Name x p) (e::es) [] pos) (tCB r t):=by
 intro pins s Y H Q I h;refine waG (zc7 I hg hm hv ?_ hn hdb);exact PyProof.Rows.callWith_builtin1 (thn (ha pos pins s Y H _ I h) λus s1 ⟨vs,H1,I1,r1,q1⟩=>hc pins s1 Y H1 vs us Q I1 r1 q1) he hpl
def zjc (hc:zc5 X (.type T) r)(hg:Gl X x)(hm:X.mg x=none)(hv:bootBuiltins x=some (.type T))(ha:PA X (e::es) t)(hn:x≠"__name__":=by decide)(hdb:(x == ("__debug__":Str))=false:=by decide)
 (he:starEach (e::es) X.env=(false,eval e X.env)::starEach es X.env:=by rfl) (hpl:(backTo pos (starEach es X.env)).any (·.1)=false:=by rfl):PE X (.Call (.Name x p) (e::es) [] pos) (tCB r t):=by
 intro pins s Y H Q I h;refine waG (zc7 I hg hm hv ?_ hn hdb);exact waL (thn (ha pos pins s Y H _ I h) λus s1 ⟨vs,H1,I1,r1,q1⟩=>hc pins s1 Y H1 vs us Q I1 r1 q1) he hpl
end
end L2
namespace HT
open PySem PyProof.Rows
def ze6 (A:Around)(s:Shared)(a:Int)(t:Tok)(c:Int)(u:Tok):∃e,SeqAt.EqAt A s (.int a t) (.int c u) e/\(e=true↔a=c):=
 ⟨(a == c),SeqAt.EqAt.int_int a t c u,by simp⟩
section
open PySem.SeqAt
open PySem.AutoSeq1 (wpAny_loadPart')
open PySem.MeetsSeq PySem.MeetsSeq2 PySem.MeetsSeq3
end
section
variable {prog:Program}{w:World}{A:Around}{E:Value->Shared->Prop}{s:Shared}
def cat_tup {t b:Addr}{vs ws:List Value}{Q:Value->Shared->Prop}(ht:IsTup s.heap t vs.toArray)(hb:IsTup s.heap b ws.toArray)(hv:vs≠[])
 (h1:ws = []->Q (.ref t) s) (h2:ws≠[]->Q (.ref s.heap.objs.size) {s with heap:=s.heap.push {cls:=.type "tuple",data:=.seq (vs++ws).toArray}})
 (hsz:vs.length+ws.length<=sizeLine):wpAny (model prog w) A (binaryOp .Add (.ref t) (.ref b)) Q E s:=by
 obtain⟨⟨cls,dd,data,sl⟩,ho,hc,n,hd⟩:=id ht;obtain⟨⟨cls2,dd2,data2,sl2⟩,ho2,hc2,n2,hd2⟩:=id hb;simp only at hc hd hc2 hd2;subst hc hd hc2 hd2;have e:vs.toArray++ws.toArray=(vs++ws).toArray:=by simp
 by_cases hw:ws = []
 .exact concat_meets ⟨_,ho,rfl⟩ ⟨_,ho2,rfl⟩ noFill_tuple_add seq_tuple_add wco wcm (wci _ _)
   (tuple_addW1 t b vs.toArray ws.toArray n n2 dd dd2 sl sl2 (by simpa using hv) (by simp[hw])) ⟨ho,ho2,h1 hw⟩
 .refine concat_meets ⟨_,ho,rfl⟩ ⟨_,ho2,rfl⟩ noFill_tuple_add seq_tuple_add wco wcm (wci _ _)
   (tuple_addW2 t b vs.toArray ws.toArray n n2 dd dd2 sl sl2 (by simpa using hv) (by simpa using hw) (by rw[wac,wac];exact hsz)) ⟨ho,ho2,?_⟩
  rw[e];exact h2 hw
def sIx (n d:Nat):Option Int->Nat
|none=>d
|some v=>if v<0 then(v+(n:Int)).toNat else min v.toNat n
def zpp (n d:Nat)(hd:d<=n)(o:Option Int):sIx n d o<=n:=by
 cases o with
|none=>exact hd
|some v=>
   show(if v<0 then(v+(n:Int)).toNat else min v.toNat n)<=n
   by_cases hv:v<0
   .rw[if_pos hv];omega
   .rw[if_neg hv];exact Nat.min_le_right _ _
def zjd (v:Int)(n d:Nat):(if v<0 then max (v+(n:Int)) 0 else min v (n:Int))=((sIx n d (some v):Nat):Int):=by
 show(if v<0 then max (v+(n:Int)) 0 else min v (n:Int))=(((if v<0 then(v+(n:Int)).toNat else min v.toNat n):Nat):Int)
 by_cases hv:v<0
 .simp only[if_pos hv];omega
 .simp only[if_neg hv];omega
def zid (lo hi:Option Int)(n:Nat):Builtin.Slice.sliceAdjust lo hi 1 (n:Int)=(((sIx n 0 lo:Nat):Int),((sIx n n hi:Nat):Int)):=by
 have h1:¬((1:Int)<0):=by omega
 unfold Builtin.Slice.sliceAdjust;simp only[h1,if_false];refine Prod.ext ?_ ?_
 .cases lo with
 |none=>rfl
 |some v=>exact zjd v n 0
 .cases hi with
 |none=>rfl
 |some v=>exact zjd v n n
def zie (i j:Nat):Builtin.Slice.slicePlaces (i:Int) (j:Int) 1=j - i:=by
 unfold Builtin.Slice.slicePlaces;have h1:(1:Int)>0:=by omega
 simp only[h1,if_true,Int.ediv_one];split <;> omega
def zeP {v:Value}{o:Option Int}{Q:Option Int->Shared->Prop}(p:IsPart v o)(h:Q o s):wpAny (model prog w) A (Builtin.Slice.slicePartIndex v) Q E s:=by
 cases p with
|none=>exact slicePart_none h
|int i t=>exact slicePart_int h
def zcB {sl:Addr}{vl vu:Value}{lo hi:Option Int}{n:Nat}{Q:Int×Int×Nat->Shared->Prop}(hs:s.heap.IsSliceOf sl vl vu .none)(pl:IsPart vl lo)(pu:IsPart vu hi)
 (h:Q (((sIx n 0 lo:Nat):Int),1,sIx n n hi - sIx n 0 lo) s):wpAny (model prog w) A (Builtin.Slice.sliceApplied (.ref sl) (pure (n:Int))) Q E s:=by
 obtain⟨os,hos,hcs,hds⟩:=id hs;unfold Builtin.Slice.sliceApplied Builtin.Slice.sliceFields;refine waa (waa (wbb hos hds (x:=vl) rfl (waa (wbb hos hds (x:=vu) rfl (waa (wbb hos hds (x:=.none) rfl (wad ?_)))))));refine waa (slicePart_none ?_);show wpAny _ _ (if((1:Int) == 0)=true then _ else _) _ _ s
 rw[if_neg (by decide)];refine waa (zeP pl (waa (zeP pu (waa (wad ?_)))));show wpAny _ _ (match Builtin.Slice.sliceAdjust lo hi 1 (n:Int) with|(lo,hi)=>pure (lo,(1:Int),Builtin.Slice.slicePlaces lo hi 1)) _ _ s
 rw[zid lo hi n];show wpAny _ _ (pure (((sIx n 0 lo:Nat):Int),(1:Int),Builtin.Slice.slicePlaces ((sIx n 0 lo:Nat):Int) ((sIx n n hi:Nat):Int) 1)) _ _ s
 rw[zie];exact wad h
def zlf (xs:Array Value)(i k:Nat):((List.range k).filterMap λ(m:Nat)=>xs[((i:Int)+(m:Int)*1).toNat]?).toArray=((xs.toList.drop i).take k).toArray:=by
 have e:(λ(m:Nat)=>xs[((i:Int)+(m:Int)*1).toNat]?)=λm=>xs[i+m]?:=by
  funext m
  have:((i:Int)+(m:Int)*1).toNat=i+m:=by omega
  rw[this]
 rw[e];have:=pick_run xs i k
 rw[List.filterMap_map] at this;have e2:((λx=>xs[x]?)∘λx=>i+x)=λm=>xs[i+m]?:=rfl
 rw[e2] at this;rw[this]
def getItem_tuple_cut {t sl:Addr}{items:Array Value}{vl vu:Value}{lo hi:Option Int}{Q:Value->Shared->Prop}(ht:IsTup s.heap t items)(hs:s.heap.IsSliceOf sl vl vu .none)(pl:IsPart vl lo)(pu:IsPart vu hi)
 (hw:¬(sIx items.size 0 lo=0/\sIx items.size items.size hi=items.size))
 (h:Q (.ref s.heap.objs.size) {s with heap:=s.heap.push {cls:=.type "tuple",data:=.seq ((items.toList.drop (sIx items.size 0 lo)).take (sIx items.size items.size hi - sIx items.size 0 lo)).toArray}})
 (hsz:items.size<=sizeLine):wpAny (model prog w) A (getItem (.ref t) (.ref sl)) Q E s:=by
 have htake:sizeOk (.seq ((items.toList.drop (sIx items.size 0 lo)).take (sIx items.size items.size hi - sIx items.size 0 lo)).toArray):=by
  show((items.toList.drop (sIx items.size 0 lo)).take (sIx items.size items.size hi - sIx items.size 0 lo)).toArray.size<=sizeLine
  rw[wac,wbo,List.length_drop,wcC];omega
 have hj:sIx items.size items.size hi<=items.size:=zpp _ _ (wan _) hi
 obtain⟨os,hos,hcs,hds⟩:=id hs;have hTs:s.TypeIs (.ref sl) "slice":=⟨os,hos,hcs⟩
 unfold getItem;try with_reducible refine waY ?_
 first|refine waa (wad ?_)|skip
 refine waa (wpAny_sequenceKey ht.typeIs (by decide) ?_);refine waa (wbL (name:=Str.ofString "__getitem__") ht.typeIs wbj
  (wbO wbj ht.typeIs entry_tuple_getitem ?_ (args_tuple_getitem _ _)))
 show wpAny _ _ (Builtin.Tuple.tupleItemsOf (.ref t) >>= _) _ _ s
 refine waa (tupleItemsOf_ ht ?_);refine waa (wcK hTs ?_);rw[if_pos (by decide)];refine waa (zcB hs pl pu ?_);have hno:¬((((sIx items.size 0 lo:Nat):Int) == 0&&(1:Int) == 1&&(sIx items.size items.size hi - sIx items.size 0 lo) == items.size)=true):=by
  intro q;rw[waA,waA] at q;have q1:((sIx items.size 0 lo:Nat):Int)=0:=eq_of_beq q.1.1
  have q2:sIx items.size items.size hi - sIx items.size 0 lo=items.size:=eq_of_beq q.2
  exact hw ⟨by omega,by omega⟩
 show wpAny _ _ (if(((sIx items.size 0 lo:Nat):Int) == 0&&(1:Int) == 1&&(sIx items.size items.size hi - sIx items.size 0 lo) == items.size)=true then _ else _) _ _ s
 rw[if_neg hno,zlf];first
 |exact waa (m:=Builtin.Tuple.tupleExact _) (wbk (wad ⟨_,rfl,wad h⟩) htake)
 |exact waa (m:=Builtin.Tuple.tupleExact _) (wbk (waa (wad (wad ⟨_,rfl,wad h⟩))) htake)
 |exact waa (waa (m:=Builtin.Tuple.tupleExact _) (wbk (wad (wad ⟨_,rfl,wad h⟩)) htake))
 |exact waa (waa (m:=Builtin.Tuple.tupleExact _) (wbk (wad ⟨_,rfl,wad h⟩) htake))
end
end HT
namespace L2
open PySem PySem.Spec PyProof.Rows
abbrev TO:=St->Hp->(Option Int->Hp->Prop)->Prop
def PO (X:Cx)(e:Option Expr)(t:TO):Prop:=
 ∀(pins:List (Addr×Obj)) (s:Shared) (Y:St) (H:Hp) (Q:Option Int->Hp->Prop),Inv X pins Y H s->t Y H Q->
  wpAny (model X.prog X.w) X.A (evalPart e X.env) (λu s'=>∃o H',Inv X pins Y H' s'/\IsPart u o/\Q o H') X.xe s
def znx:TO:=λ_ H Q=>Q none H
def zrk (t:TE):TO:=λY H Q=>t Y H λx H1=>∃i,x=.int i/\Q (some i) H1
section
variable {X:Cx}{e:Expr}{te:TE}{lo hi:Option Expr}{tl th:TO}{pos p2:Pos}
def zny:PO X none znx:=by
 intro pins s Y H Q I h;rw[evalPart_none];exact wad ⟨none,H,I,.none,h⟩
def znz (h:PE X e te):PO X (some e) (zrk te):=by
 intro pins s Y H Q I hw;rw[evalPart_some];refine thn (h pins s Y H _ I hw) λu s1 ⟨x,H1,I1,r1,q1⟩=>?_
 obtain⟨i,rfl,q⟩:=q1;obtain⟨t,rfl⟩:=r1;exact⟨some i,H1,I1,.int i t,q⟩
def SlR (X:Cx)(r:V->Option Int->Option Int->Hp->VK->Prop):Prop:=
 ∀(pins:List (Addr×Obj)) (s:Shared) (Y:St) (H:Hp) (x:V) (v vl vu:Value) (lo hi:Option Int) (sl:Addr) (Q:VK),Inv X pins Y H s->RelV x v->s.heap.IsSliceOf sl vl vu .none->IsPart vl lo->IsPart vu hi->r x lo hi H Q->
  ∃T id,typeLookup (.type T) "__getitem__"=pure (some (.builtin id))/\s.TypeIs v T/\wpAny (model X.prog X.w) X.A (getItem v (.ref sl)) (EP X pins Y Q) X.xe s
def SlR.or {r r':V->Option Int->Option Int->Hp->VK->Prop}(h:SlR X r)(h':SlR X r'):SlR X (λx lo hi H Q=>r x lo hi H Q\/r' x lo hi H Q):=by
 intro pins s Y H x v vl vu lo hi sl Q I rx hs pl pu q;rcases q with q|q
 .exact h pins s Y H x v vl vu lo hi sl Q I rx hs pl pu q
 .exact h' pins s Y H x v vl vu lo hi sl Q I rx hs pl pu q
def tSl (r:V->Option Int->Option Int->Hp->VK->Prop)(te:TE)(tl th:TO):TE:=λY H Q=>te Y H λx H1=>tl Y H1 λl H2=>th Y H2 λu H3=>r x l u H3 Q
def zhp {r:V->Option Int->Option Int->Hp->VK->Prop}(hr:SlR X r)(he:PE X e te)(hl:PO X lo tl)(hu:PO X hi th):PE X (.Subscript e (.Slice lo hi none p2) pos) (tSl r te tl th):=by
 intro pins s Y H Q I h;refine Subscript_ (thn (he pins s Y H _ I h) λv s1 ⟨x,H1,I1,r1,q1⟩=>?_);refine wpAny_Slice (thn (hl pins s1 Y H1 _ I1 q1) λvl s2 ⟨l,H2,I2,pl,q2⟩=>thn (hu pins s2 Y H2 _ I2 q2) λvu s3 ⟨u,H3,I3,pu,q3⟩=>?_);rw[evalPart_none];refine wad ?_;have I4:Inv X pins Y H3 {s3 with heap:=s3.heap.push {cls:=.type "slice",data:=.fields #[vl,vu,.none]}}:=I3.kept (t':=s3.toks) λb ob q=>wab _ q
 obtain⟨T,id,hT,ht,hg⟩:=hr pins {s3 with heap:=s3.heap.push {cls:=.type "slice",data:=.fields #[vl,vu,.none]}} Y H3 x v vl vu l u s3.heap.objs.size Q I4 r1 (Heap.IsSliceOf.new ..) pl pu q3;show wpAny (model X.prog X.w) X.A (subscriptTail e (.Slice lo hi none p2) v (.ref s3.heap.objs.size)) (EP X pins Y Q) X.xe {s3 with heap:=s3.heap.push {cls:=.type "slice",data:=.fields #[vl,vu,.none]}}
 exact tail_any (ops:=[.ref s3.heap.objs.size,v]) ht hT hg (by with_unfolding_all rfl)
def cutV (xs:List V)(lo hi:Option Int):List V:=(xs.drop (HT.sIx xs.length 0 lo)).take (HT.sIx xs.length xs.length hi - HT.sIx xs.length 0 lo)
def zec (xs:List V)(lo hi:Option Int):(cutV xs lo hi).length<=xs.length:=by
 unfold cutV;rw[wbo,List.length_drop];omega
def rSlT (K:W.Frag):V->Option Int->Option Int->Hp->VK->Prop:=λx lo hi H Q=>∃a xs,x=.ref a/\SqT K H a xs/\
 ¬(HT.sIx xs.length 0 lo=0/\HT.sIx xs.length xs.length hi=xs.length)/\∀p,H p=none->Q (.ref p) (upd H p (.tup (cutV xs lo hi)))
def sl_tup:SlR X (rSlT X.K):=by
 intro pins s Y H x v vl vu lo hi sl Q I rx hs pl pu h;obtain⟨a,xs,rfl,hx,hw,q⟩:=h;cases rx;obtain⟨its,r,ht,hz⟩:=I.tuple hx;have hlen:its.toArray.size=xs.length:=by rw[wac];exact r.length.symm
 refine⟨"tuple",_,PyProof.Rows.slot_tuple_getitem.lookup,ht.typeIs,?_⟩;refine HT.getItem_tuple_cut ht hs pl pu (by rw[hlen];exact hw) ?_ (by rw[hlen];exact hz);rw[hlen];refine⟨.ref s.heap.objs.size,_,I.laid (t':=s.toks) (o:=.tup (cutV xs lo hi)) (λb ob q=>wab _ q) (wan _) ?_,rfl,q _ (I.hok.fresh (wan _))⟩;exact⟨wal (zec xs lo hi) hz,_,(r.drop (HT.sIx xs.length 0 lo)).take (HT.sIx xs.length xs.length hi - HT.sIx xs.length 0 lo),IsTup.new _ _⟩
def zrl (K:W.Frag):R2:=λx y H Q=>∃a b xs ys,x=.ref a/\y=.ref b/\SqT K H a xs/\SqT K H b ys/\xs≠[]/\xs.length+ys.length<=sizeLine/\
 (ys = []->Q (.ref a) H)/\(ys≠[]->∀p,H p=none->Q (.ref p) (upd H p (.tup (xs++ys))))
def Vals.nil_iff {xs:List V}{us:List Value}(r:Vals xs us):us = []↔xs = []:=by
 cases r with
|nil=>simp
|cons _ _=>simp
def znA:OpR X (binaryOp .Add) (zrl X.K):=by
 intro pins s Y H x y v u Q I rx ry h;obtain⟨a,b,xs,ys,rfl,rfl,ha,hb,hx,hz,q1,q2⟩:=h;cases rx;cases ry;obtain⟨its,r1,p1,_⟩:=I.tuple ha;obtain⟨its2,r2,p2,_⟩:=I.tuple hb;refine HT.cat_tup p1 p2 (λz=>hx (r1.nil_iff.mp z)) (λz=>⟨.ref a,H,I,rfl,q1 (r2.nil_iff.mp z)⟩) (λz=>?_) (by rw[<-r1.length,<-r2.length];exact hz);refine⟨.ref s.heap.objs.size,_,I.laid (t':=s.toks) (o:=.tup (xs++ys)) (λb ob q=>wab _ q) (wan _) ?_,rfl,q2 (λw=>z (r2.nil_iff.mpr w)) _ (I.hok.fresh (wan _))⟩;exact⟨by rw[wap];exact hz,_,r1.append r2,IsTup.new _ _⟩
end
def ixN (n:Nat)(i:Int):Option Nat:=if 0<=i then(if i<n then some i.toNat else none) else if -(n:Int)<=i then some (i+n).toNat else none
def atI {C:Type}(xs:List C)(i:Int):Option C:=(ixN xs.length i).bind λj=>xs[j]?
def zje {n:Nat}{i:Int}{j:Nat}(h:ixN n i=some j):seqIndex? i n=some j/\j<n/\-(n:Int)<=i/\i<n:=by
 unfold ixN at h;by_cases h0:0<=i
 .rw[if_pos h0] at h;by_cases h1:i<n
  .rw[if_pos h1] at h;have e:i.toNat=j:=wav h
   exact⟨by rw[seqIndex_of h0 h1,e],by omega,by omega,h1⟩
  .rw[if_neg h1] at h;cases h
 .rw[if_neg h0] at h;by_cases h1:-(n:Int)<=i
  .rw[if_pos h1] at h;have e:(i+n).toNat=j:=wav h
   exact⟨by rw[seqIndex_neg (by omega) h1,e],by omega,h1,by omega⟩
  .rw[if_neg h1] at h;cases h
def zgF {C:Type}{xs:List C}{i:Int}{v:C}(h:atI xs i=some v):∃j,seqIndex? i xs.length=some j/\xs[j]?=some v/\j<xs.length/\-(xs.length:Int)<=i/\i<xs.length:=by
 unfold atI at h;cases e:ixN xs.length i with
|none=>rw[e] at h;cases h
|some j=>
   rw[e] at h;obtain⟨h1,h2,h3,h4⟩:=zje e;exact⟨j,h1,h,h2,h3,h4⟩
def za7 {C:Type}{xs:List C}{j:Nat}{v:C}(h:xs[j]?=some v):atI xs (j:Int)=some v:=by
 have hj:j<xs.length:=(wai.mp h).1
 have e:ixN xs.length (j:Int)=some j:=by
  unfold ixN;rw[if_pos (by omega),if_pos (by omega)];simp
 unfold atI;rw[e];exact h
def zdb (b:Expr):Prop:=∀o i,subscripted b false o i=operate [o,i] (getItem o i)
def IxR (X:Cx)(r:R2):Prop:=
 ∀(value slice:Expr) (pins:List (Addr×Obj)) (s:Shared) (Y:St) (H:Hp) (x y:V) (v u:Value) (Q:VK),Inv X pins Y H s->RelV x v->RelV y u->r x y H Q->
  subscripted slice false v u=operate [v,u] (getItem v u)->wpAny (model X.prog X.w) X.A (subscriptTail value slice v u) (EP X pins Y Q) X.xe s
def MtR (X:Cx)(id:String)(r:V->List V->Hp->VK->Prop):Prop:=
 ∀(pins:List (Addr×Obj)) (s:Shared) (Y:St) (H:Hp) (x:V) (xs:List V) (v:Value) (us:List Value) (Q:VK),Inv X pins Y H s->RelV x v->Vals xs us->r x xs H Q->
  wpAny (model X.prog X.w) X.A (call (.builtin id) (v::us)) (EP X pins Y Q) X.xe s
section
variable {X:Cx}{a b:Expr}{ta tb:TE}{pos:Pos}
def IxR.or {r r':R2}(h:IxR X r)(h':IxR X r'):IxR X (λx y H Q=>r x y H Q\/r' x y H Q):=by
 intro value slice pins s Y H x y v u Q I rx ry q hs;rcases q with q|q
 .exact h value slice pins s Y H x y v u Q I rx ry q hs
 .exact h' value slice pins s Y H x y v u Q I rx ry q hs
def zif {r:R2}(hr:IxR X r)(ha:PE X a ta)(hb:PE X b tb)(hs:zdb b):PE X (.Subscript a b pos) (tOp r ta tb):=by
 intro pins s Y H Q I h;exact Subscript_ (binT ha hb I h λv u s2 x y H2 I2 rx ry q=>hr a b pins s2 Y H2 x y v u Q I2 rx ry q (hs _ _))
def rIxL (K:W.Frag):R2:=λx y H Q=>∃p xs i v,x=.ref p/\y=.int i/\SqL K H p xs/\atI xs i=some v/\Q v H
def rIxT (K:W.Frag):R2:=λx y H Q=>∃p xs i v,x=.ref p/\y=.int i/\SqT K H p xs/\atI xs i=some v/\Q v H
def rIxS:R2:=λx y H Q=>∃z i c,x=.str z/\y=.int i/\z.length<=sizeLine/\atI z.cps.toList i=some c/\Q (.str ⟨#[c]⟩) H
def ix_list:IxR X (rIxL X.K):=by
 intro value slice pins s Y H x y v u Q I rx ry h hs;obtain⟨p,xs,i,z,rfl,rfl,hq,he,q⟩:=h;cases rx;obtain⟨t,rfl⟩:=ry;obtain⟨its,r,pl,hz⟩:=I.list hq;obtain⟨j,h1,h2,h3,h4,h5⟩:=zgF he;obtain⟨w,ew,rw'⟩:=r.get h2;have hl:=r.length
 have hn:=zeb
 have fin:EP X pins Y Q w s:=⟨z,H,I,rw',q⟩
 by_cases h0:0<=i
 .have hj:i.toNat=j:=by
   rw[seqIndex_of h0 h5] at h1;exact wav h1
  exact item_listR pl.isList h0 (by omega) (by rw[hj];simpa using ew) fin hs
 .have hj:(i+(its.toArray.size:Int)).toNat=j:=by
   rw[seqIndex_neg (by omega) h4] at h1;rw[wac,<-hl];exact wav h1
  exact subscriptTail_builtinR (x:=w) pl.isList.typeIs slot_list_getitem.lookup
   (wpAny_getItem_list_neg (Q:=λr s'=>r=w/\EP X pins Y Q r s') pl.isList (by omega) (by rw[wac] <;> omega) (by omega) (by rw[hj];simpa using ew) ⟨rfl,fin⟩) hs
def ix_tup:IxR X (rIxT X.K):=by
 intro value slice pins s Y H x y v u Q I rx ry h hs;obtain⟨p,xs,i,z,rfl,rfl,hq,he,q⟩:=h;cases rx;obtain⟨t,rfl⟩:=ry;obtain⟨its,r,pl,hz⟩:=I.tuple hq;obtain⟨j,h1,h2,h3,h4,h5⟩:=zgF he;obtain⟨w,ew,rw'⟩:=r.get h2;have hl:=r.length
 have hn:=zeb
 have fin:EP X pins Y Q w s:=⟨z,H,I,rw',q⟩
 exact subscriptTail_builtinR (x:=w) pl.typeIs slot_tuple_getitem.lookup
  (getItem_tuple (j:=j) (Q:=λr s'=>r=w/\EP X pins Y Q r s') pl (by omega) (by omega) (by rw[wac,<-hl];exact h1) (by simpa using ew) ⟨rfl,fin⟩) hs
def zpq:IxR X rIxS:=by
 intro value slice pins s Y H x y v u Q I rx ry h hs;obtain⟨z,i,c,rfl,rfl,hz,he,q⟩:=h;obtain⟨t,rfl⟩:=rx;obtain⟨t',rfl⟩:=ry;obtain⟨j,h1,h2,h3,h4,h5⟩:=zgF he;have hl:z.cps.toList.length=z.length:=by simp[Str.length]
 rw[hl] at h1 h4 h5;have hn:=zeb
 exact tail_any (typeIs_str s z t) slot_str_getitem.lookup (getItem_str (c:=c) (by
  have e1:decide (i < -(2 ^ 63:Int))=false:=waq (by omega)
  have e2:decide (i≥2 ^ 63)=false:=waq (by omega)
  rw[e1,e2,Bool.or_false]) (by rw[h1];simpa using h2) ⟨.str ⟨#[c]⟩,H,I.tok _,⟨_,rfl⟩,q⟩) hs
def rIx (K:W.Frag):R2:=λx y H Q=>rIxL K x y H Q\/rIxT K x y H Q\/rIxS x y H Q
def zfK:IxR X (rIx X.K):=ix_list.or (ix_tup.or zpq)
def zig (its:List Value)(n j:Nat)(u:Value):Obj.mapSeq (·.setIfInBounds j u) {cls:=.type "list",data:=.seq its.toArray n} = {cls:=.type "list",data:=.seq (its.set j u).toArray n}:=by
 simp[Obj.mapSeq]
theorem Inv.lst {pins:List (Addr×Obj)}{Y:St}{H:Hp}{s:Shared}{p:Addr}{xs:List V}(I:Inv X pins Y H s)(h:H p=some (.lst xs)) :
 ∃(its:List Value) (n:Nat),Vals xs its/\s.heap.get? p=some {cls:=.type "list",data:=.seq its.toArray n}/\xs.length<=sizeLine:=by
 obtain⟨z,its,n,r,e⟩:=I.hok p _ h;exact⟨its,n,r,e,z⟩
def Inv.lstUpd {pins:List (Addr×Obj)}{Y:St}{H:Hp}{s:Shared}{p:Addr}{xs ys:List V}{its its':List Value}{n n':Nat}{f:Obj->Obj}(I:Inv X pins Y H s)(h:H p=some (.lst xs))
 (ho:s.heap.get? p=some {cls:=.type "list",data:=.seq its.toArray n}) (hf:f {cls:=.type "list",data:=.seq its.toArray n} = {cls:=.type "list",data:=.seq its'.toArray n'}) (r:Vals ys its') (hz:ys.length<=sizeLine) (t:Nat) :
 Inv X pins Y (upd H p (.lst ys)) {s with heap:=s.heap.update p f,toks:=t}:=by
 have e:(s.heap.update p f).get? p=some {cls:=.type "list",data:=.seq its'.toArray n'}:=by
  rw[waR f ho (by rw[hf] <;> rfl),hf]
 refine I.write (x:=p) (e:=p) (by rw[h];trivial) (.inl rfl) (λb u hb q=>(waE _ _ (Ne.symm hb)).trans q) ⟨_,e⟩ ?_;exact⟨hz,its',n',r,e⟩
def zrm:V->V->V->Hp->(Hp->Prop)->Prop:=λo i v H Q=>∃p xs k j,o=.ref p/\i=.int k/\H p=some (.lst xs)/\ixN xs.length k=some j/\Q (upd H p (.lst (xs.set j v)))
def zhq:PSet X zrm:=by
 intro pins s Y H o i v ov iv u Q I ro ri rv h;obtain⟨p,xs,k,j,rfl,rfl,hp,hj,q⟩:=h;cases ro;obtain⟨t,rfl⟩:=ri;obtain⟨its,n,r,ho,hz⟩:=I.lst hp;obtain⟨h1,h2,h3,h4⟩:=zje hj;have hl:=r.length
 have hn:=zeb
 have I':Inv X pins Y (upd H p (.lst (xs.set j v))) {s with heap:=s.heap.update p (Obj.mapSeq (·.setIfInBounds j u))}:=
  I.lstUpd hp ho (zig its n j u) (r.set rv j) (by rw[List.length_set];exact hz) s.toks
 by_cases h0:0<=k
 .have hk:k.toNat=j:=by
   rw[seqIndex_of h0 h4] at h1;exact wav h1
  exact PySem.W.ki_setAt ho h0 (by omega) (by rw[wac,<-hl];exact h4) (by rw[hk];exact⟨_,I',q⟩)
 .have hk:(k+(its.toArray.size:Int)).toNat=j:=by
   rw[seqIndex_neg (by omega) h3] at h1;rw[wac,<-hl];exact wav h1
  exact PySem.W.ki_setBack ho (by omega) (by rw[wac,<-hl];exact h3) (by omega) (by rw[hk];exact⟨_,I',q⟩)
def zfL (lo hi:Option Int)(n:Nat):(sliceBounds lo hi none n).1=((HT.sIx n 0 lo:Nat):Int)/\(sliceBounds lo hi none n).2.1=((HT.sIx n n hi:Nat):Int)/\(sliceBounds lo hi none n).2.2=1:=by
 refine⟨?_,?_,rfl⟩
 .cases lo with
 |none=>simp[sliceBounds,HT.sIx]
 |some i=>
    simp only[sliceBounds,HT.sIx,Option.getD_none,show(1:Int)>0 by decide,if_true];by_cases h:i<0
    .simp only[h,if_true] <;> omega
    .simp only[h,if_false] <;> omega
 .cases hi with
 |none=>simp[sliceBounds,HT.sIx]
 |some i=>
    simp only[sliceBounds,HT.sIx,Option.getD_none,show(1:Int)>0 by decide,if_true];by_cases h:i<0
    .simp only[h,if_true] <;> omega
    .simp only[h,if_false] <;> omega
def ze7 (its:List Value)(lo hi:Option Int):slicePick its.toArray lo hi none=((its.drop (HT.sIx its.length 0 lo)).take (HT.sIx its.length its.length hi - HT.sIx its.length 0 lo)).toArray:=by
 obtain⟨h1,h2,h3⟩:=zfL lo hi its.toArray.size;unfold slicePick;rw[h1,h2,h3];simp only[sliceRange_one,pick_run,wac] <;> rfl
def rSlL (K:W.Frag):V->Option Int->Option Int->Hp->VK->Prop:=λx lo hi H Q=>∃a xs,x=.ref a/\SqL K H a xs/\∀p,H p=none->Q (.ref p) (upd H p (.lst (cutV xs lo hi)))
def sl_list:SlR X (rSlL X.K):=by
 intro pins s Y H x v vl vu lo hi sl Q I rx hs pl pu h;obtain⟨a,xs,rfl,hx,q⟩:=h;cases rx;obtain⟨its,r,ht,hz⟩:=I.list hx;have hlen:=r.length
 refine⟨"list",_,slot_list_getitem.lookup,ht.isList.typeIs,?_⟩;refine wpAny_getItem_list_slice ht.isList hs pl pu .none (by simp) ?_ (by rw[wac] <;> omega);rw[ze7,<-hlen];refine⟨.ref s.heap.objs.size,_,I.laid (t':=s.toks) (o:=.lst (cutV xs lo hi)) (λb ob q=>wab _ q) (wan _) ?_,rfl,q _ (I.hok.fresh (wan _))⟩;exact⟨wal (zec xs lo hi) hz,_,0,(r.drop (HT.sIx xs.length 0 lo)).take (HT.sIx xs.length xs.length hi - HT.sIx xs.length 0 lo),war _ rfl⟩
def zfM:zc5 X (.builtin "len") (λxs H Q=>∃p ys,xs = [.ref p]/\(SqL X.K H p ys\/SqT X.K H p ys)/\Q (.int ys.length) H):=by
 intro pins s Y H xs us Q I r h;obtain⟨p,ys,rfl,hq,q⟩:=h;obtain⟨u,rfl,rx⟩:=zib r;cases rx;have hn:=zeb
 rcases hq with hq|hq
 .obtain⟨its,r',pl,hz⟩:=I.list hq;have hlen:=r'.length
  exact Calls.call_len_list pl.isList (by simp only[wac] <;> omega) ⟨.int ys.length,H,I.tok _,⟨s.toks+1,by rw[wac,hlen]⟩,q⟩
 .obtain⟨its,r',pl,hz⟩:=I.tuple hq;have hlen:=r'.length
  exact len_tuple pl (by simp only[wac] <;> omega) ⟨.int ys.length,H,I.tok _,⟨s.toks+1,by rw[wac,hlen]⟩,q⟩
def zdk:zc5 X (.type "tuple") (λxs H Q=>∃p ys,xs = [.ref p]/\((SqL X.K H p ys/\∀l,H l=none->Q (.ref l) (upd H l (.tup ys)))\/(SqT X.K H p ys/\Q (.ref p) H))):=by
 intro pins s Y H xs us Q I r h;obtain⟨p,ys,rfl,h⟩:=h;obtain⟨u,rfl,rx⟩:=zib r;cases rx;rcases h with⟨hq,q⟩|⟨hq,q⟩
 .obtain⟨its,r',pl,hz⟩:=I.list hq;have hlen:=r'.length
  refine call_tuple_list pl.isList (λh' kp=>?_) (by simp only[wac] <;> omega);have I1:Inv X pins Y H {s with heap:=h'}:=I.kept (t':=s.toks) kp
  have I2:Inv X pins Y (upd H h'.objs.size (.tup ys)) {s with heap:=h'.push {cls:=.type "tuple",data:=.seq its.toArray}}:=
   I1.laid (t':=s.toks) (λb o e=>wab _ e) (wan _) (show ObjOk X.prog X.w _ _ _ (.tup ys) from⟨hz,its,r',IsTup.new _ _⟩)
  exact⟨.ref h'.objs.size,_,I2,rfl,q _ (I1.hok.fresh (wan _))⟩
 .obtain⟨its,r',pl,hz⟩:=I.tuple hq;exact call_tuple_same pl ⟨.ref p,H,I,rfl,q⟩
def tyV (K:W.Frag)(T:String)(x:V)(H:Hp):Prop:=match x with
|.str _=>T = "str"
|.int _=>T = "int"
|.ref p=>(T = "list"/\∃xs,SqL K H p xs)\/(T = "tuple"/\∃o,K.lookup p=some o/\o.cls=.type "tuple"/\o.dict=none)\/
  (T = "dict"/\((∃kvs,H p=some (.dK kvs))\/∃kvs,H p=some (.dT kvs)))\/(T = "set"/\∃S n,H p=some (.set S n))
|_=>False
def zpr {pins:List (Addr×Obj)}{Y:St}{H:Hp}{s:Shared}{T:String}{x:V}{v:Value}(I:Inv X pins Y H s)(r:RelV x v)(ty:tyV X.K T x H) :
 s.TypeIs v T/\∀a,v=.ref a->∃ob,s.heap.get? a=some ob/\ob.dict=none:=by
 cases x with
|str z=>
   obtain⟨t,rfl⟩:=r;cases(show T = "str" from ty);exact⟨typeIs_str s z t,λ_ e=>nomatch e⟩
|int i=>
   obtain⟨t,rfl⟩:=r;cases(show T = "int" from ty);exact⟨typeIs_int s i t,λ_ e=>nomatch e⟩
|ref p=>
   cases r;rcases ty with⟨rfl,xs,hq⟩|⟨rfl,o,hk,hc,hd⟩|⟨rfl,hk⟩|⟨rfl,S,n,hk⟩
   .obtain⟨its,_,pl,_⟩:=I.list hq;refine⟨pl.isList.typeIs,λa e=>?_⟩;cases e;obtain⟨o,n,e,c,hd,_⟩:=pl;exact⟨o,e,hd⟩
   .refine⟨⟨o,I.kIn p o hk,hc⟩,λa e=>?_⟩;cases e;exact⟨o,I.kIn _ o hk,hd⟩
   .have z:∃o,s.heap.get? p=some o/\o.ExactDict:=by
     rcases hk with⟨kvs,hk⟩|⟨kvs,hk⟩
     .obtain⟨_,_,_,_,o,_,_,e,ex,_⟩:=I.hok p _ hk;exact⟨o,e,ex⟩
     .obtain⟨_,_,_,_,o,_,_,e,ex,_⟩:=I.hok p _ hk;exact⟨o,e,ex⟩
    obtain⟨o,e,ex⟩:=z;refine⟨⟨o,e,ex.1⟩,λa e2=>?_⟩;cases e2;exact⟨o,e,ex.2.1⟩
   .obtain⟨o,_,_,_,e,ex,_⟩:=I.hok p _ hk;refine⟨⟨o,e,ex.1⟩,λa e2=>?_⟩;cases e2;exact⟨o,e,ex.2.1⟩
|_=>exact False.elim ty
def tBM (K:W.Frag)(T:String)(r:V->List V->Hp->VK->Prop)(to:TE)(t:TA):TE:=λY H Q=>to Y H λx H1=>tyV K T x H1/\t Y H1 λxs H2=>r x xs H2 Q
variable {o e:Expr}{es:List Expr}{to:TE}{t:TA}{name:Str}{apos cpos:Pos}{T id:String}{r:V->List V->Hp->VK->Prop}
def zps (pa:PlainAttrs T)(slot:Slot T name id)(hty:typeOf (.builtin id)=pure (.type "method_descriptor"))(hm:MtR X id r)(ho:PE X o to)(ha:PA X (e::es) t)
 (hbase:attributeBase o name X.env (eval o X.env)=eval o X.env:=by rfl)
 (hfew:((backTo cpos (starEach (e::es) X.env)).all (λx=>!x.1)&&(backToKw cpos (keywordEach [] X.env)).all (λx=>x.1.isSome)
  && decide ((e::es).length+([]:List Keyword).length+(if([]:List Keyword).isEmpty then 0 else 1)<30))=true:=by rfl)
 (hline:(apos.endLine == cpos.line)=true:=by rfl) (hs:starEach (e::es) X.env=(false,eval e X.env)::starEach es X.env:=by rfl) (hplain:(backTo cpos (starEach es X.env)).any (·.1)=false:=by rfl) :
 PE X (.Call (.Attribute o name apos) (e::es) [] cpos) (tBM X.K T r to t):=by
 intro pins s Y H Q I h;refine wpAny_Call_method_late hbase hfew hline rfl (thn (ho pins s Y H _ I h) λv s1 ⟨x,H1,I1,r1,ty,q1⟩=>?_);obtain⟨h1,h2⟩:=zpr I1 r1 ty;refine⟨T,id,pa,slot,hty,h1,h2,?_⟩;have hA:=ha cpos pins s1 Y H1 _ I1 q1
 rw[hs] at hA⊢;refine Calls.callWith_builtin (by show(false||(backTo cpos (starEach es X.env)).any (·.1))=false;rw[hplain] <;> rfl) (Calls.evalArgs_plain ?_);exact thn hA λus s2 ⟨vs,H2,I2,r2,q2⟩=>hm pins s2 Y H2 x vs v us Q I2 r1 r2 q2
end
def MtM (X:Cx)(id:String)(r:V->List V->Hp->VK->Prop):Prop:=
 ∀(pins:List (Addr×Obj)) (s:Shared) (Y:St) (H:Hp) (x:V) (xs:List V) (v:Value) (us:List Value) (Q:VK),Inv X pins Y H s->RelV x v->Vals xs us->r x xs H Q->
  wpAny (model X.prog X.w) X.A (call (.builtin id) (v::us)) (EP X pins Y Q) X.xe s
def Vals.one:∀{x:V}{us:List Value},Vals [x] us->∃u,us = [u]/\RelV x u
|_,_,.cons r .nil=>⟨_,rfl,r⟩
theorem Vals.reverse {xs:List V}{us:List Value}(h:Vals xs us):Vals xs.reverse us.reverse:=by
 induction h with
|nil=>exact .nil
|cons r t ih=>rw[wbX,wbX];exact Vals.append ih (.cons r .nil)
theorem Vals.rep {xs:List V}{us:List Value}(h:Vals xs us):∀k:Nat,Vals (List.replicate k xs).flatten (List.replicate k us).flatten
|0=>.nil
|k+1=>by
   rw[wbc,wbc,wbI,wbI];exact Vals.append h (Vals.rep h k)
theorem zfN (its:List Value):∀(k:Nat) (acc:List Value),
 List.foldl (λx1 x2=>x1++x2) acc.toArray (List.replicate k its.toArray)=(acc++(List.replicate k its).flatten).toArray
|0,acc=>by simp
|k+1,acc=>by
   have e:acc.toArray++its.toArray=(acc++its).toArray:=by simp
   have e2:(acc++its)++(List.replicate k its).flatten=acc++(List.replicate (k+1) its).flatten:=by
    rw[wbc,wbI,waN]
   rw[<-e2,<-zfN its k (acc++its),<-e,wbc,List.foldl_cons]
section
variable {X:Cx}{pins:List (Addr×Obj)}{Y:St}{H:Hp}{s:Shared}{l b:Addr}{xs ys zs:List V}
def Inv.lset {its its':List Value}{n:Nat}{f:Array Value->Array Value}{t':Nat}(I:Inv X pins Y H s)(hH:H l=some (.lst xs))
 (e:s.heap.get? l=some {cls:=.type "list",data:=.seq its.toArray n}) (hf:f its.toArray=its'.toArray) (hv:Vals ys its') (hz:ys.length<=sizeLine) :
 Inv X pins Y (upd H l (.lst ys)) {s with heap:=s.heap.update l (Obj.mapSeq f),toks:=t'}:=by
 have q:=PySem.IsL.update e f
 rw[hf] at q;refine I.write (x:=l) (e:=l) (by rw[hH];exact trivial) (.inl rfl) (λb' u hb hu=>(waE s.heap (Obj.mapSeq f) (Ne.symm hb)).trans hu) ⟨_,q⟩ ?_;exact⟨hz,its',_,hv,q⟩
def Inv.lnew {its:List Value}{t':Nat}(I:Inv X pins Y H s)(hv:Vals ys its)(hz:ys.length<=sizeLine) :
 Inv X pins Y (upd H s.heap.objs.size (.lst ys)) {s with heap:=s.heap.push {cls:=.type "list",data:=.seq its.toArray},toks:=t'}:=
 I.laid (λ_ _ q=>wab _ q) (wan _) ⟨hz,its,0,hv,war _ rfl⟩
theorem Inv.fresh (I:Inv X pins Y H s):H s.heap.objs.size=none:=I.hok.fresh (wan _)
def Inv.lstM (I:Inv X pins Y H s)(hH:H l=some (.lst xs)):xs.length<=sizeLine/\∃(its:List Value) (n:Nat),Vals xs its/\xs.length=its.length/\s.heap.get? l=some {cls:=.type "list",data:=.seq its.toArray n}:=by
 obtain⟨z,its,n,r,e⟩:=I.hok l _ hH;exact⟨z,its,n,r,r.length,e⟩
def zhr {n:Nat}(h:n<=sizeLine):Builtin.List.listTooLong n=false:=by
 unfold Builtin.List.listTooLong;exact waq (by omega)
end
section
variable {X:Cx}
def ze8:V->List V->Hp->VK->Prop:=λx vs H Q=>∃l xs y,x=.ref l/\vs = [y]/\H l=some (.lst xs)/\xs.length<sizeLine/\Q .non (upd H l (.lst (xs++[y])))
def zfO:MtM X "list.append" ze8:=by
 intro pins s Y H x vs v us Q I rx rv h;obtain⟨l,xs,y,rfl,rfl,hH,hz,q⟩:=h;cases rx;obtain⟨u,rfl,ru⟩:=rv.one;obtain⟨z,its,n,r,hl,e⟩:=I.lstM hH;refine call_meets F.slot_list_append ⟨_,e,rfl⟩ F.entry_list_append (F.args_list_append_2 _ _) (PySem.list_append l its.toArray n u (by rw[wac];omega)) ⟨e,?_⟩;refine⟨.non,_,I.lset (its':=its++[u]) hH e (by simp) (r.append (.cons ru .nil)) ?_,rfl,q⟩;rw[wap,wbT];omega
def zjf:V->List V->Hp->VK->Prop:=λx vs H Q=>∃l b xs zs,x=.ref l/\vs = [.ref b]/\H l=some (.lst xs)/\H b=some (.lst zs)/\xs.length+zs.length<=sizeLine/\Q .non (upd H l (.lst (xs++zs)))
def zjg:MtM X "list.extend" zjf:=by
 intro pins s Y H x vs v us Q I rx rv h;obtain⟨l,b,xs,zs,rfl,rfl,hH,hB,hz,q⟩:=h;cases rx;obtain⟨u,rfl,ru⟩:=rv.one;cases ru;obtain⟨z,its,n,r,hl,e⟩:=I.lstM hH;obtain⟨z2,its2,n2,r2,hl2,e2⟩:=I.lstM hB;have hsz:its.toArray.size+its2.toArray.size<=sizeLine:=by rw[wac,wac];omega
 have hlong:¬(!its.toArray.isEmpty&&Builtin.List.listTooLong (its.toArray.size+its2.toArray.size))=true:=by
  rw[zhr hsz,Bool.and_false];exact wbz
 refine call_meets F.slot_list_extend ⟨_,e,rfl⟩ F.entry_list_extend (F.args_list_extend_2 _ _)
  (AutoSeq1.list_extend_list_list_0 l its.toArray n b its2.toArray n2 hlong (by rw[wac];omega) (by omega)) ⟨e,e2,?_⟩
 refine⟨.non,_,I.lset (its':=its++its2) hH e (by simp) (r.append r2) ?_,rfl,q⟩;rw[wap];omega
def rCat:R2:=λx y H Q=>∃l b xs zs,x=.ref l/\y=.ref b/\H l=some (.lst xs)/\H b=some (.lst zs)/\xs.length+zs.length<=sizeLine/\∀p,H p=none->Q (.ref p) (upd H p (.lst (xs++zs)))
def op_cat:OpR X (binaryOp .Add) rCat:=by
 intro pins s Y H x y v u Q I rx ry h;obtain⟨l,b,xs,zs,rfl,rfl,hH,hB,hz,q⟩:=h;cases rx;cases ry;obtain⟨z,its,n,r,hl,e⟩:=I.lstM hH;obtain⟨z2,its2,n2,r2,hl2,e2⟩:=I.lstM hB;refine PySem.P.add_list e e2 ?_ (by rw[wac,wac];omega);have ea:its.toArray++its2.toArray=(its++its2).toArray:=by simp
 rw[ea];exact⟨.ref _,_,I.lnew (t':=s.toks) (r.append r2) (by rw[wap];omega),rfl,q _ I.fresh⟩
def rRep:R2:=λx y H Q=>∃l k xs,x=.ref l/\y=.int k/\H l=some (.lst xs)/\-(2 ^ 63)<=k/\k<2 ^ 63/\xs.length*k.toNat<=sizeLine/\
 ∀p,H p=none->Q (.ref p) (upd H p (.lst (List.replicate k.toNat xs).flatten))
def znB {C:Type}(xs:List C)(k:Nat):(List.replicate k xs).flatten.length=k*xs.length:=by
 induction k with
|zero=>simp
|succ k ih=>rw[wbc,wbI,wap,ih,Nat.succ_mul,Nat.add_comm]
def zpt:OpR X (binaryOp .Mult) rRep:=by
 intro pins s Y H x y v u Q I rx ry h;obtain⟨l,k,xs,rfl,rfl,hH,h1,h2,hz,q⟩:=h;cases rx;obtain⟨t,rfl⟩:=ry;obtain⟨z,its,n,r,hl,e⟩:=I.lstM hH;have hlen:its.toArray.size*k.toNat<=sizeLine:=by rw[wac,<-hl];exact hz
 have hcap:¬its.toArray.size*k.toNat>(2 ^ 63 - 1) / 8:=by
  have:(sizeLine:Nat)<=(2 ^ 63 - 1) / 8:=by decide
  omega
 have hfit:¬(!Builtin.List.listFitsIndex k)=true:=by
  rw[fitsIndex_both h1 h2];exact wbz
 have hlong:¬Builtin.List.listTooLong (its.toArray.size*k.toNat)=true:=by
  rw[zhr hlen];exact wbz
 have hnew:List.foldl (λx1 x2=>x1++x2) #[] (List.replicate (if its.toArray.isEmpty=true then 0 else k.toNat) its.toArray)=(List.replicate k.toNat its).flatten.toArray:=by
  have f0:∀m:Nat,List.foldl (λx1 x2=>x1++x2) #[] (List.replicate m its.toArray)=(List.replicate m its).flatten.toArray:=λm=>by
   have:=zfN its m []
   rw[List.nil_append] at this;exact this
  rw[f0];cases its with
 |nil=>simp
 |cons a r'=>rw[if_neg (by simp)]
 refine wpAny_binaryOp_repeat_ref (T:="list") (U:="int") (by decide) ⟨_,e,rfl⟩ (λs'=>typeIs_int s' k t) noFill_list_mul F.fills_int_mul F.slot_int_rmul repeat_list F.slot_int_index.lookup
  (call_meets F.slot_int_rmul (typeIs_int s k t) F.entry_int_rmul (F.args_int_rmul_2 _ _) (int___rmul___int_list k t l its.toArray n)
   ⟨e,rfl,⟨_,e,rfl⟩,call_meets F.slot_list_mul ⟨_,e,rfl⟩ F.entry_list_mul (F.args_list_mul_2 _ _) (AutoListH.list___mul___list_int_3 l its.toArray n k t hfit hcap hlong) ⟨e,?_⟩⟩)
 rw[hnew];exact⟨.ref _,_,I.lnew (t':=s.toks) (r.rep k.toNat) (by rw[znB,Nat.mul_comm];exact hz),rfl,q _ I.fresh⟩
end
section
variable {prog:Program}{w:World}{A:Around}{E:Value->Shared->Prop}{s:Shared}
end
section
variable {X:Cx}
end
end L2
namespace Att
open PySem PySem.W PySem.Calls PyProof.Rows
def zed {P:Params}{h:Heap}:∀(ns:List Int) (vs:List Value),WellAll P h vs (ns.map WData.int)->IntsAre vs ns:=by
 intro ns;induction ns with
|nil=>
   intro vs w;rw[List.map_nil] at w;cases w;exact .nil
|cons n ns ih=>
   intro vs w;rw[waK] at w;cases w with
  |cons a b=>
     cases a;exact .cons _ _ (ih _ b)
def zjh {l:OpenLaw}{n:Nat}(hn:l.most=some n){P:Params}{h:Heap}{args:List WData}{vals:List Value}
 (hpre:l.row.toRowW.claim.pre args=true) (hwl:WellAll P h vals args) :
 ∃a vs ns,vals = [Value.ref a]/\args = [WData.list (ns.map WData.int)]/\h.get? a=some {cls:=.type "list",data:=.seq vs.toArray}/\IntsAre vs ns/\ns.length<=n:=by
 have hsh:WShape.hasAll [] args [.list .int]=true:=(pre_splitW hpre).1
 have hc:l.pre.holds [] {args:=args}=true:=(pre_splitW hpre).2
 obtain⟨d,r,rfl,h1,h2⟩:=hasAllW_cons hsh;obtain rfl:=hasAllW_nil h2;obtain⟨xs,rfl,h3⟩:=hasW_list h1;obtain⟨ns,rfl⟩:=items_int h3;have hlen:ns.length<=n:=by
  unfold OpenLaw.pre at hc;have h4:(WTm.not (.lt (.lit (.int (n:Int))) (.len (.arg 0)))).holds [] {args:=[.list (ns.map .int)]}=true:=by
   have h4:=(holds_andW hc).1
   rw[hn] at h4;exact h4
  have h5:=condW_of h4 (w_not (w_lt w_lit (w_len_list (w_arg rfl))))
  rw[waj] at h5;refine Nat.le_of_not_lt λq=>?_
  have q':(n:Int)<((ns.length:Nat):Int):=by omega
  first
  |(rw[waz q'] at h5;exact absurd h5 (by decide))
  |(simp at h5;omega)
 cases hwl with
|cons w1 w2=>
   cases w2;cases w1 with
  |list ho hall=>exact⟨_,_,ns,rfl,rfl,ho,zed ns _ hall,hlen⟩
def zji (l:OpenLaw)(args:List WData):l.row.toRowW.claim.post args (.bool true) args=true:=
 postW_of (r:=l.row.toRowW) (X:=(true == true))
  (show WShape.has [] (.bool true) .bool=true by first|rfl|decide|simp[WShape.has,WShape.arms,WShape.armsAll])
  (show(WTm.eq .res (.lit (.bool true))).value [] {args:=args,res:=some (.bool true),after:=args}=some (.bool (true == true)) from w_eq_bool (w_res rfl) w_lit) rfl
def attach_call {l:OpenLaw}{n:Nat}{q:Program}{loose:List Str}{XP:(Str->Option Value)->Heap->Prop}{YP:World->Heap->Prop}{d:DefRec}
 (hn:l.most=some n) (hdf:d.params.defaults = [])
 (call:∀(w:World) (s₀ s₁:Shared) (mg mb:Str->Option Value) (fa:Addr) (o:Obj) (pm cd doc:Value) (a:Addr) (vs:List Value) (ns:List Int),
  Ground q loose [] XP w s₀ mg mb s₁.heap->YP w s₁.heap->
  s₁.heap.get? fa=some o->o.data=.func (docDef d.name d.params d.body d.scope pm cd doc)->s₁.heap.CodeRec cd d.name->mg d.name=some (.ref fa)->
  s₁.heap.get? a=some {cls:=.type "list",data:=.seq vs.toArray}->IntsAre vs ns->ns.length<=n->s₁.gens=#[]->
  codeAny (model l.prog w) callerA (.call (.ref fa) ⟨[.ref a],[]⟩) (λr s'=>r=.ok (.ret (.bool true))/\OldK s₁.heap s'.heap/\s'.os=s₁.os/\AllBare s'.gens) s₁) :
 WalkO q loose XP YP l.row.toRowW d [] (λf vs=>PySem.call f vs):=by
 intro w s₀ s₁ mg mb G Y fa o pm cd doc dV kV ho hd hcd hD hmg hg args vals as hpre hlay hrd hwl hlo;obtain rfl:dV=.none:=Dflts.none hD hdf;obtain rfl:kV=.none:=Dflts.noKw hD;obtain⟨a,vs,ns,rfl,rfl,hobj,hints,hlen⟩:=zjh hn hpre hwl;refine enter_call (wct (call w s₀ s₁ mg mb fa o pm cd doc a vs ns G Y ho (fd_plain hd) hcd hmg hobj hints hlen hg) λr s' hq=>?_);obtain⟨rfl,h2,h3,h4⟩:=hq;exact⟨.inl ⟨.bool true,.bool true,[],rfl,λ_=>rfl,.bool true,zji l _,λ_=>⟨List.Pairwise.nil,λ_ hm=>(nomatch hm)⟩⟩,h2,h3,h4⟩
section
variable {prog:Program}{w:World}{A:Around}{E:Value->Shared->Prop}{s:Shared}{K:Frag}
end
end Att
namespace L2
open PySem PySem.Spec PyProof.Rows
theorem zfP:∀{vs:List Value}{ns:List Int},IntsAre vs ns->Vals (ns.map V.int) vs
|_,_,.nil=>.nil
|_,_,.cons n t h=>.cons ⟨t,rfl⟩ (zfP h)
def Only (H:Hp):Prop:=∀b,H b=none\/∃o xs,H b=some (.frz o (.lst xs))
def zcb (s:Stmt):Arguments:=match s with
|.FunctionDef _ a _ _ _ _ _ _ _ _=>a
|_=>{posonlyargs:=[],args:=[],vararg:=none,kwonlyargs:=[],kw_defaults:=[],kwarg:=none,defaults:=[]}
def zaV (s:Stmt):List Stmt:=match s with
|.FunctionDef _ _ b _ _ _ _ _ _ _=>b
|_=>[]
def zab (s:Stmt):Scope:=match s with
|.FunctionDef _ _ _ _ _ _ sc _ _ _=>sc
|_=>{kind:=.function,names:=[],isGenerator:=false,isCoroutine:=false}
abbrev CX0:CXT:=λ_ _ _ _ _ _=>False
abbrev E0:XK:=λ_ _ _=>False
def zpu {X:Cx}:zho CX0 X E0:=λ_ _ _ _ _ _ _ h=>h.elim
structure Fun (K:W.Frag)(x qual:Str)(st:Stmt)(f:Addr)(fd:FuncData):Prop where
 ex:∃(oc:Value) (od:Option Addr) (kV doc pm:Value) (an:Option Addr) (cdv ct:Value) (osl:Array (Option Value)),
  fd=W.fnOf x qual (zcb st) (zaV st) (zab st) .none kV doc pm an cdv ct/\K.lookup f=some ⟨oc,od,.func fd,osl⟩ /\W.codeIn K cdv qual=true
 kp:W.keepIn K (.ref f)=true
section
variable {P:Program}{w:World}{K:W.Frag}{mg:Str->Option Value}{base:Heap}
def Fun.ok {x qual:Str}{st:Stmt}{f:Addr}{fd:FuncData}{N ps:List Str}{k:Nat}{sp:Sp}(F:Fun K x qual st f fd)(S:FnScope N ps (zab st))(len:∀vs H Q E,sp vs H Q E->vs.length=ps.length)
 (hbody:∀(cdv:Value) (A:Around) (outer:List Env) (s:Shared) (H:Hp) (vs:List V) (Q:VK) (E:XK),Room k (A.deeper (envOfC qual (zab st) s.heap.objs.size f cdv))->sp vs H Q E->
  ∃t,PSs (cxOf CX0 P w K mg base N qual (zab st) f cdv A outer s H E).nox (zaV st) t/\t {nx:=λ_ H'=>Q .non H',rt:=Q} (start N vs) H):FnOk P w K mg base CX0 (k+1) f fd ps sp:=by
 obtain⟨oc,od,kV,doc,pm,an,cdv,ct,osl,rfl,lk,hcd⟩:=F.ex;refine zld lk hcd S len λA outer s H vs Q E hr hsp=>?_
 obtain⟨t,h,q⟩:=hbody cdv A outer s H vs Q E hr hsp;exact⟨t,h.nox,q⟩
def Fun.binds {x qual:Str}{st:Stmt}{f:Addr}{fd:FuncData}{ps:List Str}(F:Fun K x qual st f fd)
 (h:∀(kV doc pm:Value) (an:Option Addr) (cdv ct:Value) (us:List Value),us.length=ps.length->bindArgs (W.fnOf x qual (zcb st) (zaV st) (zab st) .none kV doc pm an cdv ct) ⟨us,[]⟩=pure (ps.zip us)):Binds K fd ps []:=by
 obtain⟨oc,od,kV,doc,pm,an,cdv,ct,osl,rfl,lk,hcd⟩:=F.ex;exact .all (h kV doc pm an cdv ct)
def zfQ {x qual:Str}{st:Stmt}{f:Addr}{oc:Value}{od an:Option Addr}{osl:Array (Option Value)}{kV doc pm cdv ct:Value}(l:K.lookup f=some ⟨oc,od,.func (W.fnOf x qual (zcb st) (zaV st) (zab st) .none kV doc pm an cdv ct),osl⟩)
 (c:W.codeIn K cdv qual=true) (k:W.keepIn K (.ref f)=true):Fun K x qual st f (W.fnOf x qual (zcb st) (zaV st) (zab st) .none kV doc pm an cdv ct):=⟨⟨oc,od,kV,doc,pm,an,cdv,ct,osl,rfl,l,c⟩,k⟩
end
def znC {A:Around}{k:Nat}(hr:Room k A):A.units+1<cLine:=wbB (Nat.add_le_add_left (by decide:1<=64) _) hr.units
section
variable {X:Cx}
end
def iteF {A B:Prop}(h:B):if false=true then A else B:=by
 rw[if_neg wbz];exact h
def iteT {A B:Prop}(h:A):if true=true then A else B:=by
 rw[if_pos rfl];exact h
def Same (H H':Hp):Prop:=∀b o,H b=some o->H' b=some o
def Same.refl (H:Hp):Same H H:=λ_ _ h=>h
def Same.trans {H H1 H2:Hp}(a:Same H H1)(b:Same H1 H2):Same H H2:=λc o h=>b c o (a c o h)
def Same.free {H H':Hp}(e:Same H H'){l:Addr}(h:H' l=Option.none):H l=Option.none:=by
 cases q:H l with
|none=>rfl
|some o=>
   rw[e l o q] at h;cases h
end L2
namespace L2
open PySem PySem.Spec PyProof PyProof.Rows
structure CodeK (K:W.Frag)(c P:Addr):Prop where
 ex:∃(o:Obj) (vs:Array Value) (file:Str) (tf:Tok) (flags:Int) (tg:Tok) (inF:Bool) (text:Int) (tt:Tok),K.lookup c=some o/\o.cls=.type "code"/\o.data=.fields vs/\vs[11]?=some (.ref P)/\vs.getD 11 .none=.ref P/\
  vs.getD 18 .none=.str file tf/\vs.getD 7 .none=.int flags tg/\vs.getD 9 .none=.bool inF/\vs.getD 10 .none=.int text tt/\c≠P
abbrev tabO (ps:Array Value):Obj:={cls:=.none,data:=.fields ps}
def CodeK.of {K:W.Frag}{c P:Addr}{h:Heap}{q:Str}(X:K.In h)(hc:W.codeIn K (.ref c) q=true)(B:Based h h c P #[]):CodeK K c P:=by
 have hl:∃o,K.lookup c=some o:=by
  unfold W.codeIn at hc;cases e:K.lookup c with
 |some o=>exact⟨o,rfl⟩
 |none=>simp only[e] at hc;cases hc
 obtain⟨o,lo⟩:=hl;obtain⟨⟨o1,vs1,a1,a2,a3,a4⟩,_⟩:=B.tab;obtain⟨o2,vs2,file,tf,flags,tg,inF,text,tt,op,b1,b2,b3,b4,b5,b6,b7,b8,b9,b10,b11⟩:=B.code;rw[X _ _ lo] at a1 b1;cases a1;cases b1;rw[a3] at b2;cases b2;exact⟨o,_,file,tf,flags,tg,inF,text,tt,lo,a2,a3,a4,b3,b4,b5,b6,b7,b11⟩
section
variable {X:Cx}{pins:List (Addr×Obj)}{Y:St}{H:Hp}{s:Shared}
def TabC (H:Hp)(ps qs:Array Value):Prop:=TriplesOk qs.toList/\∀pos cv,codeAmong pos qs.toList=some cv->∃c' o u vs t q,cv=Value.ref c'/\H c'=some (.frz o u)/\o.data=.fields vs/\vs[1]?=some (Value.str q t)/\ps[0]?=some (Value.str q 0)
def Inv.tblAt {P:Addr}{ps:Array Value}(I:Inv X pins Y H s)(h:H P=some (.tbl ps)):∃qs:Array Value,s.heap.get? P=some (tabO qs)/\TabC H ps qs:=I.hok P _ h
def Inv.ne_tbl {P b:Addr}{ps:Array Value}(h:H P=some (.tbl ps))(n:H b=none):b≠P:=λz=>by subst z;rw[h] at n;cases n
end
section
variable {X:Cx}{a b c:Expr}{ta tb tc:TE}{pos:Pos}
def rSlS:V->Option Int->Option Int->Hp->VK->Prop:=λx lo hi H Q=>∃z,x=.str z/\z.length<=sizeLine/\Q (.str (Txt.slice z lo hi)) H
def zmG:SlR X rSlS:=by
 intro pins s Y H x v vl vu lo hi sl Q I rx hs pl pu h;obtain⟨z,rfl,hz,q⟩:=h;obtain⟨t,rfl⟩:=rx;refine⟨"str",_,F.slot_str_getitem.lookup,typeIs_str _ _ _,?_⟩;obtain⟨o,e1,e2,e3⟩:=hs;cases pl with
|none=>
   cases pu with
  |none=>exact wbM (l:=none) (u:=none) (st:=none) ⟨o,e1,e2,e3⟩ rfl (post_val_or_str ⟨wal (Txt.slice_le z _ _) hz,λt' k=>⟨.str (Txt.slice z none none),H,I.tok _,⟨_,rfl⟩,q⟩⟩)
  |int j uj=>exact wbM (l:=none) (u:=some (j,uj)) (st:=none) ⟨o,e1,e2,e3⟩ rfl (post_val_or_str ⟨wal (Txt.slice_le z _ _) hz,λt' k=>⟨.str (Txt.slice z none (some j)),H,I.tok _,⟨_,rfl⟩,q⟩⟩)
|int i ui=>
   cases pu with
  |none=>exact wbM (l:=some (i,ui)) (u:=none) (st:=none) ⟨o,e1,e2,e3⟩ rfl (post_val_or_str ⟨wal (Txt.slice_le z _ _) hz,λt' k=>⟨.str (Txt.slice z (some i) none),H,I.tok _,⟨_,rfl⟩,q⟩⟩)
  |int j uj=>exact wbM (l:=some (i,ui)) (u:=some (j,uj)) (st:=none) ⟨o,e1,e2,e3⟩ rfl (post_val_or_str ⟨wal (Txt.slice_le z _ _) hz,λt' k=>⟨.str (Txt.slice z (some i) (some j)),H,I.tok _,⟨_,rfl⟩,q⟩⟩)
def zgG {z:Str}{n:Int}(h1:-1000<=n)(h2:n<=1000)(h3:z.length<=1000):MulOk z n:=by
 refine⟨?_,λh _=>?_,λh _=>?_⟩
 .have e1:¬n < -(2 ^ 63:Int):=by omega
  have e2:¬n≥2 ^ 63:=by omega
  rw[waq e1,waq e2];rfl
 .have:(1000:Int)<=(2 ^ 63 - 1) / n:=by
   rw[Int.le_ediv_iff_mul_le (by omega)];omega
  omega
 .have h4:z.length*n.toNat<=1000*1000:=wcL h3 (by omega)
  unfold PySem.Builtin.Str.tooLong;simp only[decide_eq_false_iff_not];have:sizeLine=16777216:=sizeLine_eq
  omega
def op_rep_str:OpR X (binaryOp .Mult) (λx y H Q=>∃z n,x=.str z/\y=.int n/\-1000<=n/\n<=1000/\z.length<=1000/\Q (.str (Txt.mul z n)) H):=by
 intro pins s Y H x y v u Q I rx ry h;obtain⟨z,n,rfl,rfl,h1,h2,h3,q⟩:=h;obtain⟨t,rfl⟩:=rx;obtain⟨t',rfl⟩:=ry;exact SB.mul (zgG h1 h2 h3) λt' k=>⟨.str (Txt.mul z n),H,I.tok _,⟨_,rfl⟩,q⟩
def zgH:zc5 X (.builtin "isinstance") (λxs H Q=>∃x n t k,xs = [x,.ty n]/\TyOf X.K H x t/\PySem.W.kitOne X.K t (.type n)=some k/\Q (.bl k) H):=by
 intro pins s Y H xs us Q I r h;obtain⟨x,n,t,k,rfl,ty,e,q⟩:=h;obtain⟨u,w',rfl,r1,r2⟩:=zlb r;obtain rfl:w'=Value.type n:=r2;exact zja I r1 ty e λtk=>⟨.bl k,H,I.tok _,rfl,q⟩
end
def ObjOk.there {P:Program}{w:World}{H:Hp}{h:Heap}{a:Addr}{o:HO}(x:ObjOk P w H h a o):∃ob,h.get? a=some ob:=by
 induction o with
|lst xs=>obtain⟨z,its,n,r,e⟩:=x;exact⟨_,e⟩
|tup xs=>obtain⟨z,its,r,ob,e,c⟩:=x;exact⟨_,e⟩
|dK kvs=>obtain⟨z,y,vs,r,ob,es,ep,e,c⟩:=x;exact⟨_,e⟩
|dT kvs=>obtain⟨z,y,xs,r,ob,es,ep,e,c⟩:=x;exact⟨_,e⟩
|set S n=>obtain⟨ob,es,ep,t,e,c⟩:=x;exact⟨_,e⟩
|ins C dx fs=>obtain⟨d,z,ne,e,_⟩:=x;exact⟨_,e⟩
|own y=>exact x
|xd fs=>obtain⟨mA,⟨od,es,ep,e,c⟩,r⟩:=x;exact⟨_,e⟩
|rng lo hi=>obtain⟨t,u,v,e⟩:=x;exact⟨_,e⟩
|frz ob u ih=>exact⟨_,x.1⟩
|tbl ps=>obtain⟨_,e,_⟩:=x;exact⟨_,e⟩
|met f y=>exact⟨_,x⟩
|ext B=>exact x.2.1
section
variable {P:Program}{w:World}{K:W.Frag}{mg:Str->Option Value}{base:Heap}
def Fun.okC {x qual:Str}{st:Stmt}{f:Addr}{fd:FuncData}{N ps:List Str}{k:Nat}{sp:Sp}(F:Fun K x qual st f fd)(S:FnScope N ps (zab st))(len:∀vs H Q E,sp vs H Q E->vs.length=ps.length)
 (hbody:∀(cdv:Value) (A:Around) (outer:List Env) (s:Shared) (H:Hp) (vs:List V) (Q:VK) (E:XK),fd.code=cdv->Room k (A.deeper (envOfC qual (zab st) s.heap.objs.size f cdv))->sp vs H Q E->
  ∃t,PSs (cxOf CX0 P w K mg base N qual (zab st) f cdv A outer s H E).nox (zaV st) t/\t {nx:=λ_ H'=>Q .non H',rt:=Q} (start N vs) H):FnOk P w K mg base CX0 (k+1) f fd ps sp:=by
 obtain⟨oc,od,kV,doc,pm,an,cdv,ct,osl,rfl,lk,hcd⟩:=F.ex;refine zld lk hcd S len λA outer s H vs Q E hr hsp=>?_
 obtain⟨t,h,q⟩:=hbody cdv A outer s H vs Q E rfl hr hsp;exact⟨t,h.nox,q⟩
end
structure Tabs (K:W.Frag)(h:Heap)(tb:List Addr):Prop where
 at_:∀P∈tb,∃c,h.TableAt c P #[]
 out:∀P∈tb,K.lookup P=none
def zjj {P:Program}{w:World}{K:W.Frag}{mg mb:Str->Option Value}{CX:CXT}{k:Nat}{fa a bm:Addr}{ob:Obj}{fd:FuncData}{x:Str}{sp:Sp}{s₁:Shared}{vs:List Value}{ns:List Int}{tb:List Addr}{nm:Addr->Array Value}
 (KX:K.In s₁.heap) (hns:s₁.heap.Ns mainGlobals mg) (hb:s₁.heap.Ns builtinsNs mb) (hbb:∀x:Str,x≠"__name__"->mb x=bootBuiltins x) (hlim:s₁.heap.NoLimit) (hg:s₁.gens=#[]) (hBM:BMod s₁.heap mainGlobals mg bm ob)
 (ha:s₁.heap.get? a=some {cls:=.type "list",data:=.seq vs.toArray}) (hi:IntsAre vs ns) (hl:ns.length<=sizeLine) (hr:Room k callerA) (hT:Tabs K s₁.heap tb)
 (F:∀base:Heap,K.In base->base.Ns mainGlobals mg->BMod base mainGlobals mg bm ob->FnOk P w K mg base CX k fa fd [x] sp) (hbind:∀(s:Shared) (u:Value),BindsTo s fd ⟨[u],[]⟩ [(x,u)])
 (hsp:∀H:Hp,(∀P∈tb,H P=some (.tbl (nm P)))->SqL K H a (ns.map V.int)->(H a≠none->∃o xs,H a=some (.frz o (.lst xs)))->sp [.ref a] H (λv _=>v=.bl true) λ_ _ _=>False)
 (hCX:∀H e s',CX [] H s₁ (λ_ _ _=>False) e s'->False) :
 codeAny (model P w) callerA (.call (.ref fa) ⟨[.ref a],[]⟩) (λr s'=>r=.ok (.ret (.bool true))/\OldK s₁.heap s'.heap/\s'.os=s₁.os/\AllBare s'.gens) s₁:=by
 have rv:=zfP hi
 have lenV:=hi.length
 have tabAt:∀P∈tb,s₁.heap.get? P=some (tabO #[]):=λP hP=>by obtain⟨c,h⟩:=hT.at_ P hP;exact h.2
 have aT:a∉tb:=λh=>by have:=tabAt a h;rw[ha] at this;cases this
 have core:∀H:Hp,(∀P∈tb,H P=some (.tbl (nm P)))->SqL K H a (ns.map V.int)->HOk P w H s₁.heap->(∀b,H b≠none->b=a\/b∈tb)->(H a≠none->K.lookup a=none/\∃o xs,H a=some (.frz o (.lst xs)))->
  codeAny (model P w) callerA (.call (.ref fa) ⟨[.ref a],[]⟩) (λr s'=>r=.ok (.ret (.bool true))/\OldK s₁.heap s'.heap/\s'.os=s₁.os/\AllBare s'.gens) s₁:=by
  intro H hTb hS hok hA hK;have base_of:∀{b:Addr}{o:Obj},s₁.heap.get? b=some o->H b=none->(hidT s₁.heap H).get? b=some o:=λe n=>zk1 e n
  have noA:∀{b:Addr}{o:Obj},s₁.heap.get? b=some o->o.cls≠.type "list"->(o.cls≠.none\/∃es ep,o.data=.dict es ep)->H b=none:=λ{b o} e d1 d2=>by
   cases q:H b with
  |none=>rfl
  |some u=>
     rcases hA b (by rw[q];simp) with e'|e'
     .subst e';rw[ha] at e;cases e;exact absurd rfl d1
     .rw[tabAt b e'] at e;cases e;rcases d2 with d|⟨es,ep,d⟩
      .exact absurd rfl d
      .cases d
  have noD:∀{b:Addr}{o:Obj}{es:Array DictEntry}{ep:Nat},s₁.heap.get? b=some o->o.data=.dict es ep->H b=none:=λ{b o es ep} e d=>by
   cases q:H b with
  |none=>rfl
  |some u=>
     rcases hA b (by rw[q];simp) with e'|e'
     .subst e';rw[ha] at e;cases e;have d':Data.seq vs.toArray _=Data.dict es ep:=d
      cases d'
     .rw[tabAt b e'] at e;cases e;cases d
  have nsK:∀{b:Addr}{m:Str->Option Value},s₁.heap.Ns b m->(hidT s₁.heap H).Ns b m:=λ{b m} ⟨o,es,ep,e,d,r⟩=>⟨o,es,ep,base_of e (noD e d),d,r⟩
  have hKb:K.In (hidT s₁.heap H):=λb o e=>base_of (KX b o e) (by
   cases q:H b with
  |none=>rfl
  |some u=>
     rcases hA b (by rw[q];simp) with e'|e'
     .subst e';rw[(hK (by rw[q];simp)).1] at e;cases e
     .rw[hT.out b e'] at e;cases e)
  have hM:Mod K mg (hidT s₁.heap H):=⟨hKb,nsK hns,⟨mb,nsK hb,hbb⟩,let ⟨mc,h1,h2⟩:=hlim;⟨mc,nsK h1,h2⟩⟩
  have hBM':BMod (hidT s₁.heap H) mainGlobals mg bm ob:=⟨nsK hBM.ns,hBM.name,hBM.ne,base_of hBM.obj (noA hBM.obj (by rw[hBM.cls];simp) (.inl (by rw[hBM.cls];simp))),hBM.cls,hBM.dict,hBM.data⟩
  have e0:Env0 P w K mg (hidT s₁.heap H) callerA [] s₁ H:=⟨rfl,hM,λb o e=>znp e,wbd (ziT _ _),trivial,λb hb=>absurd (show b∈([]:List Addr) from hb) (by simp),hok,.of_eq hg⟩
  refine wct ((F _ hKb (nsK hns) hBM').run callerA [] s₁ H ⟨[.ref a],[]⟩ [.ref a] [.ref a] _ _ hr e0 (hbind s₁ (.ref a)) (.cons rfl .nil) (hsp H hTb hS λz=>(hK z).2)) λr s' h=>?_
  cases r with
 |error e=>exact(hCX H e s' h).elim
 |ok fl=>
    cases fl with
   |next=>exact False.elim h
   |brk=>exact False.elim h
   |cont=>exact False.elim h
   |ret u=>
      obtain⟨v,H',os,bare,un,hok',r',q⟩:=h;have q':v=.bl true:=q
      subst q';obtain rfl:u=Value.bool true:=r';have key:∀b o,s₁.heap.get? b=some o->asItWas s₁.heap s'.heap b o:=λb o e=>by
       cases q:H b with
      |none=>exact .inl (un.keep b o e q (by intro z;exact absurd (show b∈([]:List Addr) from z) (by simp)) (by simp))
      |some u=>
         rcases hA b (by rw[q];simp) with e'|e'
         .subst e';obtain⟨_,oo,xs,z⟩:=hK (by rw[q];simp);have z2:=un.frzs b oo _ z
          obtain⟨e1,_⟩:=hok b _ z;obtain⟨e2,_⟩:=hok' b _ z2;rw[e] at e1;cases e1;exact .inl e2
         .obtain⟨more,z⟩:=un.tbls b _ (hTb b e');obtain⟨qs,e2,_⟩:=hok' b _ z;obtain⟨c,ht⟩:=hT.at_ b e';rw[tabAt b e'] at e;cases e;exact .inr (.inl ⟨ht.isCodeTable,rfl,#[],qs,rfl,by simpa using e2⟩)
      refine⟨rfl,⟨key,λb o e=>un.there b o e (by simp)⟩,os,bare⟩
 cases hk:K.lookup a with
|some o=>
   have e:=KX a o hk
   rw[ha] at e;cases e;refine core (λb=>if b∈tb then some (.tbl (nm b)) else none) (λP hP=>if_pos hP) (.inr ⟨_,vs.toArray,_,hk,rfl,rfl,rfl,by rw[wac,lenV];exact hl,by simpa using rv⟩) (λb u z=>?_) (λb z=>?_) λz=>absurd (if_neg aT) z
   .by_cases hb':b∈tb
    .have z':=(if_pos hb').symm.trans z
     cases z';exact⟨#[],tabAt b hb',trivial,λpos cv q=>by simp[codeAmong] at q⟩
    .have z':=(if_neg hb').symm.trans z
     cases z'
   .by_cases hb':b∈tb
    .exact .inr hb'
    .exact absurd (if_neg hb') z
|none=>
   have hA:∀b,(if b=a then some (HO.frz {cls:=.type "list",data:=.seq vs.toArray} (.lst (ns.map V.int))) else if b∈tb then some (.tbl (nm b)) else none:Option HO)≠none->b=a\/b∈tb:=λb z=>by
    by_cases h1:b=a
    .exact .inl h1
    .rw[if_neg h1] at z;by_cases h2:b∈tb
     .exact .inr h2
     .rw[if_neg h2] at z;exact absurd rfl z
   refine core (λb=>if b=a then some (.frz {cls:=.type "list",data:=.seq vs.toArray} (.lst (ns.map V.int))) else if b∈tb then some (.tbl (nm b)) else none) (λP hP=>?_) (.inl (.inr ⟨{cls:=.type "list",data:=.seq vs.toArray},if_pos rfl⟩)) (λb u z=>?_) hA λ_=>⟨hk,_,_,if_pos rfl⟩
   .have:P≠a:=λz=>aT (z▸hP)
    show(if P=a then _ else if P∈tb then _ else _)=_
    rw[if_neg this,if_pos hP]
   .by_cases hb':b=a
    .have z':=(if_pos hb').symm.trans z
     cases z';subst hb';exact⟨ha,by rw[waj];exact hl,vs,_,rv,ha⟩
    .have z':=(if_neg hb').symm.trans z
     by_cases h2:b∈tb
     .have z2:=(if_pos h2).symm.trans z'
      cases z2;exact⟨#[],tabAt b h2,trivial,λpos cv q=>by simp[codeAmong] at q⟩
     .have z2:=(if_neg h2).symm.trans z'
      cases z2
def zgI {K:W.Frag}{h:Heap}{mg:Str->Option Value}{c P:Addr}{ps:Array Value}(X:K.In h)(G:h.Ns mainGlobals mg)(B:Based h h c P ps)(hK:PySem.W.kb_classed K=true):K.lookup P=none:=by
 cases e:K.lookup P with
|none=>rfl
|some o=>
   have ha:=X P o e
   have q:=waB.mp hK (P,o) (PySem.W.kb_mem e)
   simp only[Bool.or_eq_true,decide_eq_true_eq,beq_iff_eq] at q;rcases q with(q|q)|q
   .exact absurd rfl (B.ne_of_cls ha q)
   .exact absurd q B.notStatics
   .exact absurd q.symm (B.ne_of_ns G)
def zlg {l:PySem.W.OpenLaw}{n k:Nat}{q:Program}{loose:List Str}{XP:(Str->Option Value)->Heap->Prop}{YP:World->Heap->Prop}{d:DefRec}{K:Params->W.Frag}{CX:World->CXT}{sp:World->List Addr->(Addr->Array Value)->Sp}{x:Str}
 (hn:l.most=some n) (hn2:n<=sizeLine) (hdf:d.params.defaults = []) (hr:Room k callerA)
 (hY:∀(w:World) (h:Heap),YP w h->(K w.params).In h)
 (F:∀(w:World) (mg mb:Str->Option Value) (mean:ExcName->Option Value) (fa:Addr) (h:Heap),(K w.params).In h->Top q (PySem.W.looseW q loose) mean mg mb h->mg d.name=some (.ref fa)->
  ∃(fd:FuncData) (tb:List Addr) (nm:Addr->Array Value),Tabs (K w.params) h tb/\(∀(s:Shared) (u:Value),BindsTo s fd ⟨[u],[]⟩ [(x,u)])/\
   ∀(base:Heap) (bm:Addr) (ob:Obj),(K w.params).In base->base.Ns mainGlobals mg->BMod base mainGlobals mg bm ob->FnOk l.prog w (K w.params) mg base (CX w) k fa fd [x] (sp w tb nm))
 (hsp:∀(w:World) (tb:List Addr) (nm:Addr->Array Value) (H:Hp) (a:Addr) (ns:List Int),ns.length<=n->(∀P∈tb,H P=some (.tbl (nm P)))->SqL (K w.params) H a (ns.map V.int)->(H a≠none->∃o xs,H a=some (.frz o (.lst xs)))->sp w tb nm [.ref a] H (λv _=>v=.bl true) λ_ _ _=>False)
 (hCX:∀(w:World) (H:Hp) (s:Shared) (e:Value) (s':Shared),CX w [] H s (λ_ _ _=>False) e s'->False) :
 PySem.W.WalkO q loose XP YP l.row.toRowW d [] (λf vs=>PySem.call f vs):=by
 refine Att.attach_call hn hdf λw s₀ s₁ mg mb fa o pm cd doc a vs ns G Y ho hd hcd hmg hobj hints hlen hg=>?_
 have KX:=hY w _ Y
 obtain⟨fd,tb,nm,hT,hb,hF⟩:=F w mg mb _ fa _ KX G.T hmg;obtain⟨bm,ob,hBM⟩:=PySem.W.bmod_of_top G.T;exact zjj KX G.T.g G.T.b G.T.builtins G.T.nolimit hg hBM hobj hints (wal hlen hn2) hr hT (λbase h1 h2 h3=>hF base bm ob h1 h2 h3) hb (λH hO hS hF=>hsp w tb nm H a ns hlen hO hS hF) λH e s'=>hCX w H s₁ e s'
def PTs (X:Cx)(ifs:List Expr)(t:TT):Prop:=
 ∀(pins:List (Addr×Obj)) (s:Shared) (Y:St) (H:Hp) (Q:Bool->Hp->Prop),Inv X pins Y H s->t Y H Q->
  wpAny (model X.prog X.w) X.A (forIn ifs true λc r=>if r=true then do let ok <-isTrue c X.env (eval c X.env);pure (ForInStep.yield ok) else pure (ForInStep.yield r)) (TP X pins Y Q) X.xe s
def znD:TT:=λ_ H Q=>Q true H
def znE {X:Cx}:PTs X [] znD:=λ_ _ _ H _ I h=>wpAny_tests_nil ⟨H,I,h⟩
def znF {X:Cx}{c:Expr}{t:TT}(h:PT X c t):PTs X [c] t:=λpins s Y H Q I hw=>wpAny_tests_one (h pins s Y H Q I hw)
def cxC (X:Cx)(scope:Scope)(cl:List (Str×Addr))(NC:List Str)(C:Addr)(s0:Shared)(H0:Hp)(ex:List Addr)(pn:List (Addr×Obj)):Cx where
 prog:=X.prog
 w:=X.w
 K:=X.K
 mg:=X.mg
 base:=X.base
 A:=X.A
 N:=NC
 s₀:=s0
 Hz:=H0
 env:=compEnvC scope cl C X.env
 outer:=X.stack
 stack:=X.stack
 ex:=ex
 fn:=λ_=>false
 calm:=true
 pn:=pn
 xe:=λ_ _=>False
def pick (Y:St)(fr:List (Option Nat)):St:=fr.map λo=>o.bind λj=>(Y[j]?).join
def zjk {prog:Program}{w:World}{A:Around}{R:Result->Shared->Prop}{s:Shared}{elt target iter:Expr}{ifs:List Expr}{scope:Scope}{pos:Pos}{it acc:Value}{env:Env}(I:Nat->Shared->Prop)
 (turn:∀n s,I n s->wpAny (model prog w) A (pyNext it) (λr s1=>
  (r=none->R (.ok .next) s1)/\∀v,r=some v->wpAny (model prog w) A (letOwnedTupleGo target it v) (λ_ s2=>wpAny (model prog w) A (assign target env v) (λ_ s3=>
   wpAny (model prog w) A (forIn ifs true λc r=>if r=true then do let ok <-isTrue c env (eval c env);pure (ForInStep.yield ok) else pure (ForInStep.yield r)) (λok s4=>
    (ok=true->wpAny (model prog w) A (eval elt env) (λx s5=>wpAny (model prog w) A (call (.builtin "list.append") [acc,x]) (λ_ s6=>∃m,m<n/\I m s6) (λ_ _=>False) s5) (λ_ _=>False) s4)/\
    (ok=false->∃m,m<n/\I m s4)) (λ_ _=>False) s3) (λ_ _=>False) s2) (λ_ _=>False) s1) (λ_ _=>False) s)
 (n:Nat) (h:I n s):codeAny (model prog w) A (.compLoop (.ListComp elt [⟨target,iter,ifs,0⟩] scope pos) 0 it acc env) R s:=by
 refine codeAny_loop rfl I (λn s hI=>?_) n h;refine wpAny_noted (m:=compTurn (.ListComp elt [⟨target,iter,ifs,0⟩] scope pos) 0 it acc env) ?_;rw[compTurn_list];refine waa (waZ (waa (was (turn n s hI) (λr s1 h1=>?_) λ_ _ f=>f.elim)));cases r with
|none=>exact wad (h1.1 rfl)
|some v=>
   refine waa (was (h1.2 v rfl) (λ_ s2 h2=>?_) λ_ _ f=>f.elim);refine waa (was h2 (λ_ s3 h3=>?_) λ_ _ f=>f.elim);refine waa (was h3 (λok s4 h4=>?_) λ_ _ f=>f.elim);cases ok with
  |false=>exact wad ⟨rfl,h4.2 rfl⟩
  |true=>exact waa (waa (was (h4.1 rfl) (λx s5 h5=>waa (was h5 (λ_ s6 h6=>wad (wad ⟨rfl,h6⟩)) λ_ _ f=>f.elim)) λ_ _ f=>f.elim))
def tGen {A:Type}(ac:A->HO)(t0:A)(fr:List (Option Nat))(wi:TI)(g:TG)(tt:TT)(tel:Addr->A->St->Hp->(A->Hp->Prop)->Prop):TE:=λY H Q=>wi Y H λJ H1=>∀D,H1 D=none->∃W:Nat->Nat->A->St->Hp->Prop,
 (∃m,W 0 m t0 (pick Y fr) (upd H1 D (ac t0)))/\∀i m ys Y2 H2,W i m ys Y2 H2->H2 D=some (ac ys)->
  (J.stop i H2/\Q (.ref D) H2)\/(J.go i H2/\∃N:A->St->Hp->Prop,(∀zs Y' H',N zs Y' H'->∃m',m'<m/\W (i+1) m' zs Y' H')/\∀x H3,J.yld i H2 x H3->g x Y2 H3 λY4 H4=>tt Y4 H4 λok H5=>
   (ok=true->tel D ys Y4 H5 λzs H6=>N zs Y4 H6)/\
   (ok=false->H5 D=some (ac ys)/\N ys Y4 H5))
def telL (te:TE)(D:Addr)(ys:List V)(Y:St)(H:Hp)(Q:List V->Hp->Prop):Prop:=te Y H λv H6=>H6 D=some (.lst ys)/\ys.length<sizeLine/\Q (ys++[v]) (upd H6 D (.lst (ys++[v])))
def zfR (fr:List (Option Nat))(wi:TI)(g:TG)(tt:TT)(te:TE):TE:=tGen HO.lst [] fr wi g tt (telL te)
abbrev ElR:=Env->Addr->(Shared->Prop)->Shared->Prop
def zpv (P:Program)(w:World)(A:Around)(cexp tg:Expr)(ifs:List Expr)(EL:ElR):Prop:=∀{R:Result->Shared->Prop}{s:Shared}{it:Value}{D:Addr}{env:Env}(I:Nat->Shared->Prop)
    (_:∀n s,I n s->wpAny (model P w) A (pyNext it) (λr s1=>
     (r=none->R (.ok .next) s1)/\∀v,r=some v->wpAny (model P w) A (letOwnedTupleGo tg it v) (λ_ s2=>wpAny (model P w) A (assign tg env v) (λ_ s3=>
      wpAny (model P w) A (forIn ifs true λc r=>if r=true then do let ok <-isTrue c env (eval c env);pure (ForInStep.yield ok) else pure (ForInStep.yield r)) (λok s4=>
       (ok=true->EL env D (λs6=>∃m,m<n/\I m s6) s4)/\
       (ok=false->∃m,m<n/\I m s4)) (λ_ _=>False) s3) (λ_ _=>False) s2) (λ_ _=>False) s1) (λ_ _=>False) s)
    (n:Nat) (_:I n s),codeAny (model P w) A (.compLoop cexp 0 it (.ref D) env) R s
def zpw (P:Program)(w:World)(A:Around)(cexp:Expr):Prop:=∀{R:Result->Shared->Prop}{s:Shared}{it acc:Value}{env:Env},codeAny (model P w) A (.compLoop cexp 0 it acc env) R s->
    wpAny (model P w) A (pyIter it) (λit' s'=>codeAny (model P w) A (.compLoop cexp 0 it' acc env) R s') (notedBy (model P w) A env λx s'=>R (.error x) s') s->codeAny (model P w) A (.compStart cexp 0 it acc env) R s
def zhs {X:Cx}{A:Type}{ac:A->HO}{t0:A}{Tn:String}{dt:Data}{cexp:Expr}{EL:ElR}{tel:Addr->A->St->Hp->(A->Hp->Prop)->Prop}{use:Option (Value->Sem Unit)}{R:Value->Shared->Prop}{pins:List (Addr×Obj)}{s:Shared}{Y:St}{H:Hp}{Q:VK}{cpos:Pos}{iter tg:Expr}{ifs:List Expr}{scope:Scope}{cl:List (Str×Addr)}{NC:List Str}{fr:List (Option Nat)}{wi:TI}{g:TG}{tt:TT}{RR:Hp->Prop}(hRR:∀pins Y H s,Inv X pins Y H s->RR H)(hcalm:X.calm=true)(hi:PI X tg iter wi)
 (hclos:closureFor scope X.env=pure cl) (hcell:∀y∈scope.names,y.2≠.cell) (hkind:scope.kind=.function) (hnames:∀y∈scope.names,y.2=.local->scope.names.lookup y.1=some .local)
 (hcl:∀x c,cl.lookup x=some c->X.env.cells.lookup x=some c)
 (hhas:∀x,((compEnvC scope cl 0 X.env).kindOf x=some .cell\/(compEnvC scope cl 0 X.env).kindOf x=some .free)->∃c,cl.lookup x=some c)
 (hfr:∀(i:Nat) (x:Str) (j:Nat),NC[i]?=some x->fr[i]?=some (some j)->X.N[j]?=some x/\Vis X.env.scope x/\X.env.kindOf x≠some .local/\((compEnvC scope cl 0 X.env).kindOf x=some .cell\/(compEnvC scope cl 0 X.env).kindOf x=some .free))
 (hlen:fr.length=NC.length)
 (hg:∀C s0 H0 ex pn,PG (cxC X scope cl NC C s0 H0 ex pn) tg g) (ht:∀C s0 H0 ex pn,PTs (cxC X scope cl NC C s0 H0 ex pn) ifs tt) (hcls:clausesOf cexp = [⟨tg,iter,ifs,0⟩]) (hd:sizeOk dt)
 (hob:∀{pins Y H H' s},Inv X pins Y H s->ObjOk X.prog X.w H' (s.heap.push {cls:=.type Tn,dict:=none,data:=dt}) s.heap.objs.size (ac t0)) (LP:zpv X.prog X.w X.A cexp tg ifs EL) (SR:zpw X.prog X.w X.A cexp)
 (hel:∀C s0 H0 ex pn,RR H0->∀(pins:List (Addr×Obj)) (D:Addr) (ys:A) (s:Shared) (Y:St) (H:Hp) (Po:Shared->Prop) (F:A->Hp->Prop),Inv (cxC X scope cl NC C s0 H0 ex pn) pins Y H s->tel D ys Y H F->
  (∀s' zs H',Inv (cxC X scope cl NC C s0 H0 ex pn) pins Y H' s'->H' D=some (ac zs)->F zs H'->Po s')->EL (compEnvC scope cl C X.env) D Po s)
 (hs:∀x,foldedSetIterable iter X.env x=pure x) (I:Inv X pins Y H s) (h:tGen ac t0 fr wi g tt tel Y H Q)
 (hfin:∀(C D:Addr) (H':Hp) (s':Shared) (m:Str->Option Value),Inv X pins Y H' s'->s'.heap.Ns C m->FpOk X pins H' C->Q (.ref D) H'->compPost (model X.prog X.w) X.A X.xe use R (.ref D) C (.ok .next) s') :
 wpAny (model X.prog X.w) X.A (comprehension cexp scope X.env cpos (newObj (.type Tn) dt none) false (eval iter X.env) use) R X.xe s:=by
 refine wpAny_comprehension_free (use:=use) (g:=⟨tg,iter,ifs,0⟩) (gs:=[]) hcls hs hclos hkind hnames (thn (hi pins s Y H _ I h) λv s1 h1=>thn h1 λitv s2 h2=>?_);obtain⟨it,fp,tn,J,H1,e,I2,T,st2,f2,hW⟩:=h2;subst e;refine wbk (wpAny_newFunctionEnv hcell (by intro y hy;simp at hy) (λh4 hn4 hs4=>?_) hkind) hd;have hD0:H1 s2.heap.objs.size=none:=I2.hok.fresh (wan _)
 obtain⟨W,⟨m0,w0⟩,turn⟩:=hW s2.heap.objs.size hD0;generalize hDe:s2.heap.objs.size=D at hD0 w0 turn;generalize h3e:s2.heap.push {cls:=.type Tn,dict:=none,data:=dt}=h3 at hn4 hs4;have sz3:h3.objs.size=D+1:=by rw[<-h3e,wbE,hDe]
 have k3:∀b o,s2.heap.get? b=some o->h3.get? b=some o:=λb o e=>by rw[<-h3e];exact wab _ e
 have ltD:∀{b:Addr}{o:Obj},s2.heap.get? b=some o->b<D:=λe=>by rw[<-hDe];exact waf e
 have I3:Inv X pins Y (upd H1 D (ac t0)) {s2 with heap:=h3}:=I2.laid (h':=h3) (t':=s2.toks) k3 (wbd hDe) (by rw[<-h3e,<-hDe];exact hob I2)
 have rH:=hRR _ _ _ _ I3
 generalize hCe:h3.objs.size=C at hn4 hs4;have k4:∀b o,h3.get? b=some o->h4.get? b=some o:=λb o e=>hs4.extBut b o (λz=>by rw[z,<-hCe] at e;exact absurd (waf e) (waP _)) (wab _ e)
 have ltC:∀{b:Addr}{o:Obj},h3.get? b=some o->b<C:=λe=>by rw[<-hCe];exact waf e
 have hne:∀(c:Env->Addr),True:=λ_=>trivial
 have okC:(cxC X scope cl NC C {s2 with heap:=h3} (upd H1 D (ac t0)) fp (X.pn++pins)).Ok:=by
  refine⟨I.ok.mod,?_,I.ok.glob,I.ok.blt,wbd hCe,λx y c h1 h2=>I.ok.inj x y c (hcl x c h1) (hcl y c h2),λx hx=>hhas x hx,λx c hf _=>(by cases hf),λ_=>I.ok.hd hcalm,I.ok.frames,.inl rfl,λb hb=>⟨?_,λx c e=>?_⟩,λb o e=>I3.bs b o e,?_,λb o e hb=>?_,λb hb hf=>?_,?_,λb hb=>I3.stkFree b hb⟩
  .show(relabel scope X.env).kind=.function
   exact hkind
  .obtain⟨o,eo,_⟩:=T.obj _ _ st2 b hb;exact wax (ltC (k3 b o eo))
  .exact(f2 b hb).2.2.2.2.1 x c (hcl x c e)
  .exact wal I.ok.bsz I3.sz
  .obtain⟨e1,_⟩:=I.ok.bs b o e;have f:=f2 b hb
   rcases f.2.2.2.1 with z|z
   .exact I.ok.noex b o e z
   .exact absurd (wam (waf e1) z) (waP _)
  .rcases wah.mp (I2.stkSub b hf) with z|z
   .exact(f2 b hb).2.1 z
   .exact(f2 b hb).2.2.1 z
  .exact I3.stack
 have IC:Inv (cxC X scope cl NC C {s2 with heap:=h3} (upd H1 D (ac t0)) fp (X.pn++pins)) [] (pick Y fr) (upd H1 D (ac t0)) {s2 with heap:=h4,toks:=s2.toks+([]:List (Str×Value)).length}:=by
  refine⟨okC,rfl,I2.bare,Un.kept k4,⟨_,hn4,λi x v hN hv hvis=>?_⟩,λx c e=>?_,?_,λx c e=>I3.freeC x c (hcl x c e),λp hp=>?_,I3.hok.kept k4,?_⟩
  .have hfi:∃j,fr[i]?=some (some j)/\Y[j]?=some (some v):=by
    unfold pick at hv;rw[waw] at hv;cases e1:fr[i]? with
   |none=>rw[e1] at hv;cases hv
   |some o=>
      rw[e1] at hv;cases o with
     |none=>cases hv
     |some j=>
        refine⟨j,rfl,?_⟩;have hv':(Y[j]?).join=some v:=wav hv
        cases e2:Y[j]? with
       |none=>rw[e2] at hv';cases hv'
       |some w'=>rw[e2] at hv';exact wbQ some hv'
   obtain⟨j,hj,hσ⟩:=hfi;obtain⟨q1,q2,q3,q4⟩:=hfr i x j hN hj;obtain⟨m,hm,hl⟩:=I3.loc;obtain⟨u,ru,lk⟩:=hl j x v q1 hσ q2;refine⟨u,ru,?_⟩;rcases lk with⟨z,_⟩|⟨_,c,ec,ic⟩
   .exact absurd z q3
   .obtain⟨c',ec'⟩:=hhas x q4;have:c'=c:=by rw[hcl x c' ec'] at ec;exact wav ec
    subst this;obtain⟨oc,h1,h2⟩:=ic;exact .inr ⟨q4,c',ec',oc,k4 _ _ h1,h2⟩
  .obtain⟨v,oc,h1,h2⟩:=I3.cell x c (hcl x c e);exact⟨v,oc,k4 _ _ h1,h2⟩
  .show upd H1 D (ac t0) C=none
   exact I3.hok.fresh (wbd hCe)
  .have hp':p∈X.pn++pins:=by simpa[cxC] using hp
   obtain⟨e1,e2,e3,e4,e5⟩:=I3.pin p hp';refine⟨k4 _ _ e1,e2,wax (ltC e1),λz=>?_,e5⟩;rcases wah.mp (I2.stkSub p.1 z) with z'|z'
   .exact e3 z'
   .exact e4 z'
  .unfold pick;rw[waj];exact hlen
 have fC:∀b∈fp,FpOk (cxC X scope cl NC C {s2 with heap:=h3} (upd H1 D (ac t0)) fp (X.pn++pins)) [] H1 b:=λb hb=>by
  obtain⟨q1,q2,q3,q4,q5,q6⟩:=f2 b hb;obtain⟨o,eo,_⟩:=T.obj _ _ st2 b hb;refine⟨q1,wax (ltC (k3 b o eo)),λz=>?_,.inl hb,λx c e=>q5 x c (hcl x c e),λp hp=>q6 p (by simpa[cxC] using hp)⟩;rcases wah.mp (I2.stkSub b z) with z'|z'
  .exact q2 z'
  .exact q3 z'
 have stat:∀{H':Hp},(∀b∈fp,H' b=none)->∀b∈fp,FpOk (cxC X scope cl NC C {s2 with heap:=h3} (upd H1 D (ac t0)) fp (X.pn++pins)) [] H' b:=λhn b hb=>⟨hn b hb,(fC b hb).2⟩
 have fD:∀b∈fp,b≠D:=λb hb z=>by
  obtain⟨o,eo,_⟩:=T.obj _ _ st2 b hb;have:=ltD eo
  rw[z] at this;exact absurd this (waP _)
 have st4:tn 0 h4:=T.keep _ _ _ st2 λb hb o e=>k4 b o (k3 b o e)
 have fin:∀{Y':St}{H':Hp}{s':Shared},Inv (cxC X scope cl NC C {s2 with heap:=h3} (upd H1 D (ac t0)) fp (X.pn++pins)) [] Y' H' s'->Q (.ref D) H'->compPost (model X.prog X.w) X.A X.xe use R (.ref D) C (.ok .next) s':=λ{Y' H' s'} I' q'=>by
  obtain⟨m,hm,_⟩:=I'.loc;have hfp:FpOk X pins H' C:=⟨I'.free,(I3.fpOk (wbd hCe) (I3.hok.fresh (wbd hCe))).2⟩
  refine hfin C D H' s' m ?_ hm hfp q';have nC:∀{b:Addr}{o:Obj},s2.heap.get? b=some o->b≠C:=λe=>wax (ltC (k3 _ _ e))
  have nD:∀{b:Addr}{o:Obj},s2.heap.get? b=some o->b≠D:=λe=>wax (ltD e)
  refine I2.call' (s':=s') (ch:=fp) ?_ ⟨λb o e n hf hx=>?_,λb o e n hf hx=>?_,λb o e n hx=>?_,λb o e hx=>?_,λb xs e=>?_,λb o u e=>?_,λb ps e=>?_⟩ (λb u e=>?_) I'.bare λb hb=>?_
  .exact I'.os
  .exact(I'.base.keep b o (k3 b o e) (by show upd H1 D _ b=none;rw[zah (nD e)];exact n) hf hx)
  .obtain⟨sl,z⟩:=I'.base.slot b o (k3 b o e) (by show upd H1 D _ b=none;rw[zah (nD e)];exact n) hf hx;exact⟨sl,z⟩
  .exact I'.base.free b o (k3 b o e) (by show upd H1 D _ b=none;rw[zah (nD e)];exact n) hx
  .obtain⟨o',z⟩:=I'.base.there b o (k3 b o e) hx;exact⟨o',z⟩
  .exact I'.base.tups b xs (by show upd H1 D _ b=_;rw[zah (za6 e hD0)];exact e)
  .exact I'.base.frzs b o u (by show upd H1 D _ b=_;rw[zah (za6 e hD0)];exact e)
  .exact I'.base.tbls b ps (by show upd H1 D _ b=_;rw[zah (za6 e hD0)];exact e)
  .exact I'.hok b u e
  .obtain⟨q1,q2,q3,q4,q5,q6⟩:=f2 b hb;exact⟨q4,q2,q5,q6⟩
 have loop:codeAny (model X.prog X.w) X.A (.compLoop cexp 0 (.ref it) (.ref D) (compEnvC scope cl C X.env)) (compPost (model X.prog X.w) X.A X.xe use R (.ref D) C) {s2 with heap:=h4,toks:=s2.toks+([]:List (Str×Value)).length}:=by
  refine LP (λn s'=>∃i ys Y' H',Inv (cxC X scope cl NC C {s2 with heap:=h3} (upd H1 D (ac t0)) fp (X.pn++pins)) [] Y' H' s'/\tn i s'.heap/\(∀b∈fp,H' b=none)/\H' D=some (ac ys)/\W i n ys Y' H') ?_ m0 ⟨0,t0,_,_,IC,st4,λb hb=>by rw[zah (fD b hb)];exact(f2 b hb).1,zai,w0⟩;rintro n s3 ⟨i,ys,Y3,H3,J3,st3,fr3,hD3,w3⟩;rcases turn i n ys Y3 H3 w3 hD3 with⟨stop,qn⟩|⟨go,N,hN,step⟩
  .refine thn (T.done (cxC X scope cl NC C {s2 with heap:=h3} (upd H1 D (ac t0)) fp (X.pn++pins)) rfl rfl rfl rfl i [] s3 Y3 H3 _ J3 (stat fr3) st3 stop) λr s4 ⟨hr,J4⟩=>⟨λ_=>fin J4 qn,λv z=>?_⟩
   rw[hr] at z;cases z
  .refine thn (T.item (cxC X scope cl NC C {s2 with heap:=h3} (upd H1 D (ac t0)) fp (X.pn++pins)) rfl rfl rfl rfl i [] s3 Y3 H3 _ J3 (stat fr3) st3 go) λr s4 ⟨u,hr,h4'⟩=>⟨λz=>?_,λv z=>?_⟩
   .rw[hr] at z;cases z
   rw[hr] at z;cases z;refine thn h4' λ_ s5 ⟨x,H5,J5,r5,y5,st5,fr5⟩=>?_
   have J5':=J5.pinned (stat fr5) (T.obj _ _ st5)
   refine thn (hg C _ _ fp _ _ s5 Y3 H5 x _ _ J5' r5 (step x H5 y5)) λ_ s6 ⟨Y6,H6,J6,q6⟩=>?_
   have back:∀{Y7:St}{H7:Hp}{s7:Shared},Inv (cxC X scope cl NC C {s2 with heap:=h3} (upd H1 D (ac t0)) fp (X.pn++pins)) ([]++zfD fp s5.heap) Y7 H7 s7->tn (i+1) s7.heap/\∀b∈fp,H7 b=none:=λ{Y7 H7 s7} J7=>
    ⟨T.keep _ _ _ st5 λb hb o e=>(J7.pin (b,o) (way _ (way _ (zbL hb e)))).1,λb hb=>by
     obtain⟨o,e,d⟩:=T.obj _ _ st5 b hb;exact(J7.pin (b,o) (way _ (way _ (zbL hb e)))).2.1⟩
   refine thn (ht C _ _ fp _ _ s6 Y6 H6 _ J6 q6) λok s7 ⟨H7,J7,q7⟩=>⟨λhok=>?_,λhok=>?_⟩
   .refine hel C _ _ fp _ rH _ D ys s7 Y6 H7 _ _ J7 (q7.1 hok) λs9 zs H9 J9 hD9 n9=>?_
    obtain⟨m',hm,w8⟩:=hN _ _ _ n9;obtain⟨b1,b2⟩:=back J9;exact⟨m',hm,i+1,_,_,_,J9.unpinned,b1,b2,hD9,w8⟩
   .obtain⟨hD7,n7⟩:=q7.2 hok;obtain⟨m',hm,w7⟩:=hN _ _ _ n7;obtain⟨b1,b2⟩:=back J7;exact⟨m',hm,i+1,_,_,_,J7.unpinned,b1,b2,hD7,w7⟩
 exact SR loop (T.self X.A 0 _ _ _ st4 loop)
def zht {X:Cx}{use:Option (Value->Sem Unit)}{R:Value->Shared->Prop}{pins:List (Addr×Obj)}{s:Shared}{Y:St}{H:Hp}{Q:VK}{cpos:Pos}{elt iter tg:Expr}{ifs:List Expr}{scope:Scope}{pos:Pos}{cl:List (Str×Addr)}{NC:List Str}{fr:List (Option Nat)}{wi:TI}{g:TG}{tt:TT}{te:TE}{RR:Hp->Prop}(hRR:∀pins Y H s,Inv X pins Y H s->RR H)(hcalm:X.calm=true)(hi:PI X tg iter wi)
 (hclos:closureFor scope X.env=pure cl) (hcell:∀y∈scope.names,y.2≠.cell) (hkind:scope.kind=.function) (hnames:∀y∈scope.names,y.2=.local->scope.names.lookup y.1=some .local)
 (hcl:∀x c,cl.lookup x=some c->X.env.cells.lookup x=some c)
 (hhas:∀x,((compEnvC scope cl 0 X.env).kindOf x=some .cell\/(compEnvC scope cl 0 X.env).kindOf x=some .free)->∃c,cl.lookup x=some c)
 (hfr:∀(i:Nat) (x:Str) (j:Nat),NC[i]?=some x->fr[i]?=some (some j)->X.N[j]?=some x/\Vis X.env.scope x/\X.env.kindOf x≠some .local/\((compEnvC scope cl 0 X.env).kindOf x=some .cell\/(compEnvC scope cl 0 X.env).kindOf x=some .free))
 (hlen:fr.length=NC.length)
 (hg:∀C s0 H0 ex pn,PG (cxC X scope cl NC C s0 H0 ex pn) tg g) (ht:∀C s0 H0 ex pn,PTs (cxC X scope cl NC C s0 H0 ex pn) ifs tt) (he:∀C s0 H0 ex pn,RR H0->PE (cxC X scope cl NC C s0 H0 ex pn) elt te)
 (hs:∀x,foldedSetIterable iter X.env x=pure x) (I:Inv X pins Y H s) (h:zfR fr wi g tt te Y H Q)
 (hfin:∀(C D:Addr) (H':Hp) (s':Shared) (m:Str->Option Value),Inv X pins Y H' s'->s'.heap.Ns C m->FpOk X pins H' C->Q (.ref D) H'->compPost (model X.prog X.w) X.A X.xe use R (.ref D) C (.ok .next) s') :
 wpAny (model X.prog X.w) X.A (comprehension (.ListComp elt [⟨tg,iter,ifs,0⟩] scope pos) scope X.env cpos (newList []) false (eval iter X.env) use) R X.xe s:=by
 refine zhs (Tn:="list") (dt:=.seq ([]:List Value).toArray) (ac:=HO.lst) (t0:=[]) (tel:=telL te) (EL:=λenv D Q s=>wpAny (model X.prog X.w) X.A (eval elt env) (λx s5=>wpAny (model X.prog X.w) X.A (call (.builtin "list.append") [.ref D,x]) (λ_ s6=>Q s6) (λ_ _=>False) s5) (λ_ _=>False) s)
  hRR hcalm hi hclos hcell hkind hnames hcl hhas hfr hlen hg ht rfl (by size_fits) (λI=>⟨wbu _,[],0,.nil,war _ rfl⟩) (λI turn n h=>zjk I turn n h) (λa b=>codeAny_compStart_list (rest:=[]) a b) (λC s0 H0 ex pn rH pins D ys s Y H Po F J q k=>?_) hs I h hfin
 refine thn (he C _ _ _ _ rH _ s Y H _ J q) λxv s8 ⟨v,H8,J8,r8,hD8,hz,n8⟩=>?_
 refine thn (zfO (X:=cxC X scope cl NC C s0 H0 ex pn) _ s8 Y H8 (.ref D) [v] (.ref D) [xv] (λ_ H9=>H9=upd H8 D (.lst (ys++[v]))) J8 rfl (.cons r8 .nil) ⟨D,ys,v,rfl,rfl,hD8,hz,rfl⟩) λ_ s9 ⟨_,H9,J9,_,e9⟩=>?_
 subst e9;exact k s9 _ _ J9 zai n8
def zlh {X:Cx}{elt iter tg:Expr}{ifs:List Expr}{scope:Scope}{pos:Pos}{cl:List (Str×Addr)}{NC:List Str}{fr:List (Option Nat)}{wi:TI}{g:TG}{tt:TT}{te:TE}{RR:Hp->Prop}(hRR:∀pins Y H s,Inv X pins Y H s->RR H)(hcalm:X.calm=true)(hi:PI X tg iter wi)
 (hclos:closureFor scope X.env=pure cl) (hcell:∀y∈scope.names,y.2≠.cell) (hkind:scope.kind=.function) (hnames:∀y∈scope.names,y.2=.local->scope.names.lookup y.1=some .local)
 (hcl:∀x c,cl.lookup x=some c->X.env.cells.lookup x=some c)
 (hhas:∀x,((compEnvC scope cl 0 X.env).kindOf x=some .cell\/(compEnvC scope cl 0 X.env).kindOf x=some .free)->∃c,cl.lookup x=some c)
 (hfr:∀(i:Nat) (x:Str) (j:Nat),NC[i]?=some x->fr[i]?=some (some j)->X.N[j]?=some x/\Vis X.env.scope x/\X.env.kindOf x≠some .local/\((compEnvC scope cl 0 X.env).kindOf x=some .cell\/(compEnvC scope cl 0 X.env).kindOf x=some .free))
 (hlen:fr.length=NC.length)
 (hg:∀C s0 H0 ex pn,PG (cxC X scope cl NC C s0 H0 ex pn) tg g) (ht:∀C s0 H0 ex pn,PTs (cxC X scope cl NC C s0 H0 ex pn) ifs tt) (he:∀C s0 H0 ex pn,RR H0->PE (cxC X scope cl NC C s0 H0 ex pn) elt te)
 (hs:∀x,foldedSetIterable iter X.env x=pure x:=by intro _;rfl):PE X (.ListComp elt [⟨tg,iter,ifs,0⟩] scope pos) (zfR fr wi g tt te):=by
 intro pins s Y H Q I h;rw[eval_ListComp];refine zht (use:=none) (R:=EP X pins Y Q) hRR hcalm hi hclos hcell hkind hnames hcl hhas hfr hlen hg ht he hs I h λC D H' s' m I' hm hfp q=>?_
 obtain⟨f0,f1,f2,f3,f4,f5⟩:=hfp;exact⟨m,hm,λh' hs'=>⟨.ref D,H',I'.turned (t':=s'.toks) (λb o hb e=>hs'.extBut b o hb e) f0 f1 f3 f4 f5,rfl,q⟩⟩
def pgC (i:Nat){X:Cx}{scope:Scope}{cl:List (Str×Addr)}{NC:List Str}{C:Addr}{s0:Shared}{H0:Hp}{ex:List Addr}{pn:List (Addr×Obj)}{x:Str}{pos:Pos}(nd:NC.Nodup)(hi:NC[i]?=some x)(hx:scope.names.lookup x=some .local) :
 PG (cxC X scope cl NC C s0 H0 ex pn) (.Name x pos) (zdU i):=zgD (X:=cxC X scope cl NC C s0 H0 ex pn) nd hi (.inl (lookup_relabel_local hx)) (.inr (lookup_relabel_local hx))
end L2
namespace En
open PySem
open AutoSeq1 (wpAny_loadPart')
section
variable {prog:Program}{w:World}{A:Around}{E:Value->Shared->Prop}{s:Shared}
def znG {it t:Addr}{i:Nat}{items:Array Value}{x:Value}{Q:Value->Shared->Prop}(a1:s.heap.IsTupleIter it t i)(a2:s.heap.IsTuple t items)(a3:items[i]?=some x)
 (q:∀h',h'.IsTupleIter it t (i+1)->Heap.SameBut it s.heap h'->Q x {s with heap:=h'}):wpAny (model prog w) A (Builtin.SmallTypes.nextOf (.ref it)) Q E s:=by
 obtain⟨o,b1,b2,b3⟩:=id a1;obtain⟨ot,c1,_,n,c2⟩:=a2;unfold Builtin.SmallTypes.nextOf;have body:wpAny (model prog w) A.in1 (Builtin.«tuple_iterator.__next__» ⟨[.ref it],[]⟩) (λf s'=>∃v,f=.done (.ret v)/\Q v s') E s:=by
  show wpAny _ _ (do let v <-field (.ref it) 0;_) _ _ s
  refine waa (wbb b1 b3 (x:=.ref t) rfl ?_);show wpAny _ _ (ite ((Value.ref t == Value.none)=true) _ _) _ _ s
  rw[if_neg (show ¬(Value.ref t == Value.none)=true by intro z;cases z)];show wpAny _ _ (do let v <-field (.ref it) 1;_) _ _ s
  refine waa (wbb b1 b3 (x:=.int i 0) rfl ?_);show wpAny _ _ (do let v <-seqItems? (.ref t);_) _ _ s
  refine waa (wpAny_seqItems c1 c2 ?_);simp only[wbY,a3];refine waa (wcd b1 b3 (by simp) (wad ⟨x,rfl,q _ ⟨_,waR _ b1 (wbU (wbn b3 _)),(Obj.cls_mapFields ..).trans b2,?_⟩ (Heap.SameBut.update ..)⟩));rw[wbn b3];simp[rawInt]
 have nx:=F.slot_tuple_iterator_next
 exact waa (wbL (name:=Str.ofString "__next__") a1.typeIs nx (wbO nx a1.typeIs F.entry_tuple_iterator_next (was body (λf s' ⟨v,e,h⟩=>⟨v,e,wad h⟩) λ_ _ x=>x) (F.args_tuple_iterator_next_1 _)))
def zmH {it t:Addr}{i:Nat}{items:Array Value}{Q:Value->Shared->Prop}(hh:A.handled=none)(a1:s.heap.IsTupleIter it t i)(a2:s.heap.IsTuple t items)(a3:items[i]?=none)
 (q:∀h' e,Heap.ExtBut it s.heap h'->(∃o,h'.get? e=some o/\o.cls=.type "StopIteration")->E (.ref e) {s with heap:=h'}):wpAny (model prog w) A (Builtin.SmallTypes.nextOf (.ref it)) Q E s:=by
 obtain⟨o,b1,b2,b3⟩:=id a1;obtain⟨ot,c1,_,n,c2⟩:=a2;unfold Builtin.SmallTypes.nextOf;have nx:=F.slot_tuple_iterator_next
 refine waa (wbL (name:=Str.ofString "__next__") a1.typeIs nx (wbO nx a1.typeIs F.entry_tuple_iterator_next ?_ (F.args_tuple_iterator_next_1 _)));show wpAny _ _ (do let v <-field (.ref it) 0;_) _ _ s
 refine waa (wbb b1 b3 (x:=.ref t) rfl ?_);show wpAny _ _ (ite ((Value.ref t == Value.none)=true) _ _) _ _ s
 rw[if_neg (show ¬(Value.ref t == Value.none)=true by intro z;cases z)];show wpAny _ _ (do let v <-field (.ref it) 1;_) _ _ s
 refine waa (wbb b1 b3 (x:=.int i 0) rfl ?_);show wpAny _ _ (do let v <-seqItems? (.ref t);_) _ _ s
 refine waa (wpAny_seqItems c1 c2 ?_);simp only[wbY,a3];refine waa (wcM (waa (wcd b1 b3 (by simp) ?_)));show wpAny _ _ (do let x <-newExc (.type "StopIteration") [];_) _ _ _
 refine waa ?_;simp only[newExc,newTuple];refine waa (wbk ?_ (by size_fits));refine waa (m:=firstArgMember _ _) (wcf (a:=Value.none) (by first|rfl|(simp only[firstArgMember];rfl)) ?_);refine wbk ?_ (by size_fits);simp only[raiseNew];refine waa (wpAny_handled ?_);first|rw[show A.in1.handled=none from hh]|rw[hh]
 exact waa (wad (wpAny_throw (q _ _ (((Heap.SameBut.update ..).extBut.push _).push _) ⟨_,war _ rfl,rfl⟩)))
end
def draws_tuple {prog:Program}{w:World}{A:Around}(hh:A.handled=none)(it t:Addr)(hne:t≠it)(items:Array Value) :
 Draws prog w A it [it,t] items.size (λi v=>items[i]?=some v) (λi h=>h.IsTupleIter it t i/\h.IsTuple t items) where
 live:=λ_ _ st=>let ⟨o,ho,_⟩:=st.1;⟨o,ho⟩
 frame:=λ_ _ _ ⟨⟨o,e,r⟩,⟨o',e',r'⟩⟩ hk=>⟨⟨o,hk it (by simp) o e,r⟩,⟨o',hk t (by simp) o' e',r'⟩⟩
 item:=λi s Q E hi st hQ=>znG st.1 st.2 (x:=items[i]) (by simp[hi]) λh' a b=>hQ _ h' s.toks (by simp[hi]) ⟨a,st.2.extBut b.extBut hne⟩ b
 done:=λs Q E st hE=>zmH hh st.1 st.2 (by simp) hE
def draws_end {prog:Program}{w:World}{A:Around}(hh:A.handled=none)(it t:Addr)(i:Nat)(items:Array Value)(hx:items[i]?=none) :
 Draws prog w A it [it,t] i (λi v=>items[i]?=some v) (λj h=>j=i/\h.IsTupleIter it t i/\h.IsTuple t items) where
 live:=λ_ _ st=>let ⟨o,ho,_⟩:=st.2.1;⟨o,ho⟩
 frame:=λ_ _ _ ⟨hj,⟨o,e,r⟩,⟨o',e',r'⟩⟩ hk=>⟨hj,⟨o,hk it (by simp) o e,r⟩,⟨o',hk t (by simp) o' e',r'⟩⟩
 item:=λj s Q E hi st hQ=>by rw[st.1] at hi;exact absurd hi (waP _)
 done:=λs Q E st hE=>zmH hh st.2.1 st.2.2 hx hE
def zjl (t:Addr)(items:Array Value)(n:Nat)(dct:Option Addr)(sl:Array (Option Value)) :
 Meets (Builtin.«enumerate.__new__» ⟨[.type "enumerate",.ref t],[]⟩) (λ_ R s=>s.heap.get? t=some {cls:=.type "tuple",dict:=dct,data:=.seq items n,slots:=sl}/\
  R (.ok (.ret (.ref (s.heap.push {cls:=.type "tuple_iterator",data:=.fields #[.ref t,.int 0 0]}).objs.size)))
    {s with heap:=(s.heap.push {cls:=.type "tuple_iterator",data:=.fields #[.ref t,.int 0 0]}).push {cls:=.type "enumerate",data:=.fields #[.none,.bool false,.ref s.heap.objs.size,rawInt 0,.none,.none]}}):=
 .of_wp λprog w A R s h=>by
  obtain⟨hp,g,d,tk,os⟩:=s;obtain⟨hl,h⟩:=h;have hsub:=PySem.sub_enumerate
  have hL:Heap.IsTuple (Shared.heap ⟨hp,g,d,tk,os⟩) t items:=⟨_,hl,rfl,n,rfl⟩
  wp_walk using wbm hl
  refine wpAny_stack_any λst=>wad ?_
  split
  .rename_i c _ _ _ _ _
   cases(c == Value.type "enumerate")
   .wp_walk using wbm hl,wck hL
    exact⟨_,rfl,h⟩
   .wp_walk using wbm hl,wck hL
    exact⟨_,rfl,h⟩
  .wp_walk using wbm hl,wck hL
   exact⟨_,rfl,h⟩
def call_enum {prog:Program}{w:World}{A:Around}{E:Value->Shared->Prop}{s:Shared}{t:Addr}{items:Array Value}{Q:Value->Shared->Prop}(hL:s.heap.IsTuple t items)
 (h:∀h',IsEnum h' (s.heap.objs.size+1) s.heap.objs.size 0 .none->h'.IsTupleIter s.heap.objs.size t 0->h'.objs.size=s.heap.objs.size+2->
  (∀b o,s.heap.get? b=some o->h'.get? b=some o)->Q (.ref (s.heap.objs.size+1)) {s with heap:=h'}) :
 wpAny (model prog w) A (call (.type "enumerate") [.ref t]) Q E s:=by
 obtain⟨⟨c,dct,dt,sl⟩,hl,hc,n,hd⟩:=hL;obtain rfl:c=.type "tuple":=hc;obtain rfl:dt=.seq items n:=hd;refine callType_new F.called_enumerate (by decide) (F.typeCall_enumerate_1 _) (F.newCall_enumerate_1 _) (λobj=>F.args_object_init_2 obj _) F.entry_enumerate_new (zjl t items n dct sl) ⟨hl,?_⟩;have hz:(s.heap.push {cls:=.type "tuple_iterator",data:=.fields #[.ref t,.int 0 0]}).objs.size=s.heap.objs.size+1:=wbE ..
 have q:=war (s.heap.push {cls:=.type "tuple_iterator",data:=.fields #[.ref t,.int 0 0]}) (o:={cls:=.type "enumerate",data:=.fields #[.none,.bool false,.ref s.heap.objs.size,rawInt 0,.none,.none]}) rfl
 show _/\_
 rw[hz] at q⊢;exact⟨⟨_,q,rfl⟩,h _ q ⟨_,wab _ (war _ rfl),rfl,rfl⟩ (by rw[wbE,hz]) λb o x=>wab _ (wab _ x)⟩
end En
namespace L2
open PySem PySem.Spec PyProof PyProof.Rows
def Inv.laidF {X:Cx}{pins:List (Addr×Obj)}{Y:St}{H:Hp}{s:Shared}{h':Heap}{t':Nat}{fp:List Addr}{D:Addr}{o:HO}(I:Inv X pins Y H s)(hf:∀b∈fp,FpOk X pins H b)(k:∀b o,b∉fp->s.heap.get? b=some o->h'.get? b=some o)
 (hth:∀b∈fp,∃o,h'.get? b=some o) (hD:s.heap.get? D=none) (new:ObjOk X.prog X.w (upd H D o) h' D o):H D=none/\Inv X pins Y (upd H D o) {s with heap:=h',toks:=t'}:=by
 have hHD:H D=none:=by
  cases e:H D with
 |none=>rfl
 |some u=>
    obtain⟨ob,q⟩:=(I.hok D u e).there;rw[hD] at q;cases q
 refine⟨hHD,?_⟩;have nit:∀b u,H b=some u->b∉fp:=λb u e z=>by rw[(hf b z).1] at e;cases e
 have nD:∀b u,H b=some u->b≠D:=λb u e z=>by rw[z,hHD] at e;cases e
 have nD':∀b ob,s.heap.get? b=some ob->b≠D:=λb u e z=>by rw[z,hD] at e;cases e
 refine I.step (g':=s.gens) (d':=s.drawn) (t':=t') (ch:=fp) (λb hb=>?_) (λb o _ _ hc e _=>k b o hc e) (λb o _ _ hc e _=>⟨o.slots,k b o hc e⟩) (λb ob _ e n=>by rw[zah (nD' b ob e)];exact n)
  (λb o hc e=>⟨o,k b o hc e⟩) (λb _ e=>by rw[zah (nD b _ e)];exact e) (λb _ _ e=>by rw[zah (nD b _ e)];exact e) (λb ps e=>⟨#[],by rw[zah (nD b _ e),e];simp⟩) (λm hm=>?_) (λb u e=>?_) I.bare
 .obtain⟨f0,f1,f2,f3,f4,f5⟩:=hf b hb;exact⟨f3,f1,f4,f5⟩
 .obtain⟨o,es,ep,ho,r⟩:=hm;exact⟨o,es,ep,k _ o (λz=>(hf _ z).2.1 rfl) ho,r⟩
 .by_cases z:b=D
  .subst z;rw[zai] at e;cases e;exact new
  .rw[zah z] at e;refine(I.hok b u e).stay (λc v hc q=>k c v ?_ q) (λc q=>by rw[zah (nD c _ q)];exact q) λc _ _ q=>by rw[zah (nD c _ q)];exact q
   rcases hc with z|z
   .rw[z];exact nit b u e
   .exact nit c _ z
def Ite (K:W.Frag)(a:Addr):It:=
 ⟨λi H=>∃xs x,SqT K H a xs/\xs[i]?=some x,λi H x H'=>∃p,H p=none/\x=.ref p/\∀xs,SqT K H a xs->∃y,xs[i]?=some y/\H'=upd H p (.tup [.int (i:Nat),y]),λi H=>∃xs,SqT K H a xs/\xs.length<=i⟩
def zjm {P:Program}{w:World}{K:W.Frag}{elts:List Expr}{x1}{tpos:Pos}(a e it:Addr)(hei:e≠it)(hae:a≠e)(hai:a≠it) :
 Turn P w K (.Tuple elts x1 tpos) (Ite K a) [e,it] e (λi h=>(∃old,IsEnum h e it (i:Nat) old)/\h.IsTupleIter it a i) where
 mem:=by simp
 obj:=λi h st b hb=>by
  obtain⟨⟨old,e1⟩,o,e2,c,d⟩:=st;rcases wah.mp hb with z|z
  .subst z;exact⟨_,e1,λv z=>by cases z⟩
  .have z:=wao.mp z
   subst z;exact⟨o,e2,λv z=>by rw[d] at z;cases z⟩
 keep:=λi h h' st k=>by
  obtain⟨⟨old,e1⟩,o,e2,c,d⟩:=st;exact⟨⟨old,k e (by simp) _ e1⟩,o,k it (by simp) _ e2,c,d⟩
 item:=by
  intro X hP hw hK hc i pins s Y H E I hf st hg;subst hP hw hK;obtain⟨⟨old,en⟩,ti⟩:=st;obtain⟨xs,x,hq,hx⟩:=hg;obtain⟨its,rv,p,hz⟩:=I.tuple hq;obtain⟨u,hu,ru⟩:=rv.get hx;have hl:=rv.length
  have hlt:i<its.toArray.size:=by
   rw[wac,<-hl];exact(wai.mp hx).1
  have hh:X.A.in1.handled=none:=I.ok.hd hc
  refine wpAny_pyNext_enum_itemD (En.draws_tuple (A:=X.A.in1) hh it a hai its.toArray) en ⟨ti,p⟩ hlt hei (by simp[hei,Ne.symm hae]) λy h' tk hy en' st' tup sz k=>?_
  have ey:y=u:=by
   have hy':its[i]?=some y:=by simpa using hy
   rw[hu] at hy';exact(wav hy').symm
  subst ey;refine⟨_,rfl,wpAny_letOwnedTupleGo_enum en' λh2 en2 sb2=>?_⟩;have frS:s.heap.get? s.heap.objs.size=none:=by
   cases q:s.heap.get? s.heap.objs.size with
  |none=>rfl
  |some o=>exact absurd (waf q) (waP _)
  have neS:∀b∈[e,it],b≠s.heap.objs.size:=λb hb z=>by
   rcases wah.mp hb with q|q
   .have en1:=(show s.heap.get? e=some _ from en)
    rw[<-z,q,en1] at frS;cases frS
   .obtain⟨o,e2,_⟩:=ti;rw[<-z,wao.mp q,e2] at frS;cases frS
  obtain⟨hn,I1⟩:=I.laidF (h':=h2) (t':=tk+1) (fp:=[e,it]) (D:=s.heap.objs.size) (o:=.tup [.int (i:Nat),x]) hf (λb o hb q=>sb2.extBut b o (λz=>hb (by simp[z])) (k b o (λz=>hb (by simp[z])) (λz=>hb (by simp[z])) q))
   (λb hb=>by
    rcases wah.mp hb with q|q
    .subst q;exact⟨_,en2⟩
    .have q:=wao.mp q
     subst q;obtain⟨o,e2,_⟩:=st'.1;exact⟨o,sb2.extBut _ o (Ne.symm hei) e2⟩) frS
   ⟨by show 2<=sizeLine;decide,[.int (i:Nat) tk,y],.cons ⟨_,rfl⟩ (.cons ru .nil),⟨_,sb2.extBut _ _ (neS e (by simp)).symm tup,rfl,_,rfl⟩⟩
  refine⟨.ref s.heap.objs.size,_,I1,rfl,⟨_,hn,rfl,λys hy=>⟨x,by rw[I.tuple_inj hy hq];exact hx,rfl⟩⟩,⟨⟨_,en2⟩,?_⟩,λb hb=>?_⟩
  .obtain⟨o,e2,c,d⟩:=st'.1;exact⟨o,sb2.extBut _ o (Ne.symm hei) e2,c,d⟩
  .rw[zah (neS b hb)];exact(hf b hb).1
 done:=by
  intro X hP hw hK hc i pins s Y H E I hf st hg;subst hP hw hK;obtain⟨⟨old,en⟩,ti⟩:=st;obtain⟨xs,hq,hx⟩:=hg;obtain⟨its,rv,p,hz⟩:=I.tuple hq;obtain⟨f0,f1,f2,f3,f4,f5⟩:=hf it (by simp);have hl:=rv.length
  have hh:X.A.in1.handled=none:=I.ok.hd hc
  refine wpAny_pyNext_enum_endD (En.draws_end (A:=X.A.in1) hh it a i its.toArray (by simp;omega)) en ⟨rfl,ti,p⟩ λh' eb=>⟨rfl,I.turned (t':=s.toks) (λb o hb e=>eb b o hb e) f0 f1 f3 f4 f5⟩
 self:=λ_ _ _ _ _ st h=>by
  obtain⟨⟨old,en⟩,_⟩:=st;exact wcr en h
def zrn (K:W.Frag)(ta:TA):TI:=λY H R=>ta Y H λvs H1=>∃a,vs = [.ref a]/\(∃xs,SqT K H1 a xs)/\R (Ite K a) H1
def zjn {X:Cx}{elts:List Expr}{x1}{tpos:Pos}{l:Expr}{ta:TA}{p pos:Pos}(hg:Gl X "enumerate")(hm:X.mg "enumerate"=none)(ha:PA X [l] ta)(hs:starEach [l] X.env = [(false,eval l X.env)]:=by rfl) :
 PI X (.Tuple elts x1 tpos) (.Call (.Name "enumerate" p) [l] [] pos) (zrn X.K ta):=by
 intro pins s Y H R I h;refine waG (zc7 I hg hm boot_enumerate ?_ (by decide) (by decide));refine waL (thn (ha pos pins s Y H _ I h) λus s1 ⟨vs,H1,I1,rv,q1⟩=>?_) hs rfl;obtain⟨a,e,⟨xs,hq⟩,q⟩:=q1;subst e;obtain⟨u,rfl,r1⟩:=zib rv;obtain rfl:u=Value.ref a:=r1;obtain⟨its,rv,pt,hz⟩:=I1.tuple hq;refine En.call_enum pt λh' en ti sz k=>?_
 have alt:a<s1.heap.objs.size:=pt.lt
 refine wcr en ⟨s1.heap.objs.size+1,[s1.heap.objs.size+1,s1.heap.objs.size],_,_,H1,rfl,I1.kept (t':=s1.toks) k,zjm a _ _ (Nat.succ_ne_self _) (wax (Nat.lt_succ_of_lt alt)) (wax alt),⟨⟨_,en⟩,ti⟩,λb hb=>?_,q⟩;rcases wah.mp hb with z|z
 .subst z;exact I1.fpOk (wbN _) (I1.hok.fresh (wbN _))
 .have z:=wao.mp z
  subst z;exact I1.fpOk (wan _) (I1.hok.fresh (wan _))
section
variable {X:Cx}
def znH:OpR X (binaryOp .Add) (λx y H Q=>∃a b ys,x=.ref a/\y=.ref b/\SqT X.K H a []/\SqT X.K H b ys/\Q (.ref b) H):=by
 intro pins s Y H x y v u Q I rx ry h;obtain⟨a,b,ys,rfl,rfl,ha,hb,q⟩:=h;cases rx;cases ry;obtain⟨its,r1,p1,_⟩:=I.tuple ha;obtain⟨its2,r2,p2,_⟩:=I.tuple hb;have e1:its = []:=r1.nil_iff.mpr rfl
 subst e1;obtain⟨⟨c1,d1,dt1,s1⟩,g1,g2,n1,g3⟩:=p1;obtain⟨⟨c2,d2,dt2,s2⟩,k1,k2,n2,k3⟩:=p2;obtain rfl:c1=.type "tuple":=g2;obtain rfl:c2=.type "tuple":=k2;obtain rfl:dt1=.seq _ n1:=g3;obtain rfl:dt2=.seq _ n2:=k3;exact concat_meets ⟨_,g1,rfl⟩ ⟨_,k1,rfl⟩ noFill_tuple_add seq_tuple_add wco wcm (wci _ _) (tuple_addW0 a b _ _ n1 n2 d1 d2 s1 s2 rfl) ⟨g1,k1,⟨.ref b,H,I,rfl,q⟩⟩
def zpx (K:W.Frag):R2:=λx y H Q=>∃a b xs ys,x=.ref a/\y=.ref b/\SqT K H a xs/\SqT K H b ys/\ys≠[]/\xs.length+ys.length<=sizeLine/\
 (xs = []->Q (.ref b) H)/\(xs≠[]->∀p,H p=none->Q (.ref p) (upd H p (.tup (xs++ys))))
def znI:OpR X (binaryOp .Add) (zpx X.K):=by
 intro pins s Y H x y v u Q I rx ry h;obtain⟨a,b,xs,ys,rfl,rfl,ha,hb,hy,hz,q1,q2⟩:=h;by_cases hx:xs = []
 .subst hx;exact znH pins s Y H _ _ v u Q I rx ry ⟨a,b,ys,rfl,rfl,ha,hb,q1 rfl⟩
 .exact znA pins s Y H _ _ v u Q I rx ry ⟨a,b,xs,ys,rfl,rfl,ha,hb,hx,hz,λz=>absurd z hy,λ_=>q2 hx⟩
end
def ze9 {H:Hp}{p:Addr}(h:H p=none)(o:HO):Same H (upd H p o):=λb u q=>by rw[zah (za6 q h)];exact q
end L2
namespace Sh
open PySem L2
namespace Tr
end Tr
end Sh
namespace SO
open PySem PySem.W PyProof.Rows
section
variable {k:Nat->Int}{N:Nat}
end
end SO
namespace L2
open PySem PySem.Spec PyProof PyProof.Rows PySem.W
section
variable {X:Cx}{pins:List (Addr×Obj)}{Y:St}{H:Hp}{s:Shared}
end
def zih {pos:Pos}{a b:Int}{c cv:Value}(l:List Value)(h:TriplesOk l):codeAmong pos (l++[rawInt a,rawInt b,c])=some cv->codeAmong pos l=some cv\/cv=c:=by
 fun_induction TriplesOk l with
|case1=>
   intro q;simp only[List.nil_append,codeAmong,rawInt] at q;split at q
   .cases q;exact .inr rfl
   .simp[codeAmong] at q
|case2 x t y u z rest ih=>
   intro q;simp only[List.cons_append,codeAmong] at q⊢;split at q
   .rename_i hc;rw[if_pos hc];exact .inl q
   .rename_i hc;rw[if_neg hc];exact ih h q
|case3 l h1 h2=>exact h.elim
section
variable {X:Cx}{pins:List (Addr×Obj)}{Y:St}{H:Hp}{s:Shared}
def CodeK.hd {K:W.Frag}{c P:Addr}{h:Heap}(hC:CodeK K c P)(x:K.In h):CodeHd h c P:=by
 obtain⟨o,vs,file,tf,flags,tg,inF,text,tt,l,e⟩:=hC.ex;exact⟨o,vs,file,tf,flags,tg,inF,text,tt,x _ _ l,e⟩
def Inv.grownC {P c':Addr}{ps qs:Array Value}{h':Heap}{t':Nat}{oc:Obj}{vs:Array Value}{t:Tok}{q:Str}{a b:Int}(I:Inv X pins Y H s)(hH:H P=some (.tbl ps))(hps:ps[0]?=some (Value.str q 0))(ht:TabC H ps qs)(k:∀b o,b≠P->s.heap.get? b=some o->h'.get? b=some o)
 (e:h'.get? P=some (tabO (qs++#[rawInt a,rawInt b,.ref c']))) (hc:s.heap.objs.size<=c') (ho:h'.get? c'=some oc) (hd:oc.data=.fields vs) (hv:vs[1]?=some (.str q t)) :
 Inv X pins Y (upd H c' (.frz oc (.ext λ_=>True))) {s with heap:=h',toks:=t'}:=by
 have hn:H c'=none:=I.hok.fresh hc
 have nP:∀b u,H b=some u->b≠c':=λb u q z=>by rw[z,hn] at q;cases q
 refine I.un ⟨λb o q n _ _=>k b o (Inv.ne_tbl hH n) q,λb o q n _ _=>⟨o.slots,k b o (Inv.ne_tbl hH n) q⟩,λb o q n _=>?_,λb o q _=>?_,λb xs q=>?_,λb o u q=>?_,λb qs q=>⟨#[],?_⟩⟩ λb u q=>?_
 .rw[zah (λ(z:b=c')=>by have e2:=waf q;rw[z] at e2;exact waP _ (wam e2 hc))];exact n
 .by_cases z:b=P
  .subst z;exact⟨_,e⟩
  .exact⟨o,k b o z q⟩
 .rw[zah (nP b _ q)];exact q
 .rw[zah (nP b _ q)];exact q
 .rw[zah (nP b _ q),q];simp
 .by_cases z0:b=c'
  .subst z0;rw[zai] at q;cases q;exact⟨ho,trivial,⟨_,ho⟩,λ_ _ _ _=>trivial⟩
  .rw[zah z0] at q;by_cases z:b=P
   .subst z;rw[hH] at q;cases q;refine⟨_,e,?_,λpos cv z=>?_⟩
    .simpa using TriplesOk_snoc a _ (.ref c') _ ht.1
    .rcases zih (a:=a) (b:=_) (c:=.ref c') qs.toList ht.1 (by simpa using z) with z|z
     .obtain⟨c2,o,u,vs,t,q',e1,e2,e3⟩:=ht.2 pos cv z;exact⟨c2,o,u,vs,t,q',e1,by rw[zah (nP _ _ e2)];exact e2,e3⟩
     .exact⟨c',oc,_,vs,t,q,z,zai,hd,hv,hps⟩
   .refine(I.hok b u q).stay (λc v hc q'=>k c v ?_ q') (λc q'=>by rw[zah (nP _ _ q')];exact q') λc xs _ q'=>by rw[zah (nP _ _ q')];exact q'
    rcases hc with r|r
    .rw[r];exact z
    .intro r';subst r';rw[hH] at r;cases r
end
end L2
namespace L2
open PySem PySem.Spec PyProof.Rows
section
variable {A:Type}[DecidableEq A]
def valV (kvs:List (A×V))(k:A):Option V:=(kvs.find? λkv=>decide (kv.1=k)).map (·.2)
def putK (kvs:List (A×V))(k:A)(v:V):List (A×V):=
 if(kvs.any λkv=>decide (kv.1=k))=true then kvs.map (λkv=>if kv.1=k then(kv.1,v) else kv) else kvs++[(k,v)]
def zhu {p:A×V}{r:List (A×V)}{k:A}(e:p.1=k):valV (p::r) k=some p.2:=by simp[valV,wbJ,e]
def zhv {p:A×V}{r:List (A×V)}{k:A}(e:¬p.1=k):valV (p::r) k=valV r k:=by simp[valV,wbJ,e]
def zgJ (kvs:List (A×V))(k:A)(v:V):(putK kvs k v).length<=kvs.length+1:=by
 unfold putK;split
 .rw[waj];omega
 .rw[wap,wba,wbV];omega
def RelO.isSome_eq {o:Option V}{u:Option Value}(r:RelO o u):o.isSome=u.isSome:=by
 cases o with
|none=>cases u with
  |none=>rfl
  |some _=>exact(show False from r).elim
|some _=>cases u with
  |none=>exact(show False from r).elim
  |some _=>rfl
def KV.val {kvs:List (A×V)}{vs:List (A×Value)}(r:KV kvs vs)(k:A):RelO (valV kvs k) (valueAt vs k):=by
 unfold KV at r;induction r with
|nil=>exact True.intro
|@cons p q ps qs h t ih=>
   obtain⟨h1,h2⟩:=h;by_cases e:p.1=k
   .have e':q.1=k:=h1.symm.trans e
    have b:valueAt (q::qs) k=some q.2:=by simp[valueAt,wbJ,e']
    rw[zhu e,b];exact h2
   .have e':¬q.1=k:=λz=>e (h1.trans z)
    have b:valueAt (q::qs) k=valueAt qs k:=by simp[valueAt,wbJ,e']
    rw[zhv e,b];exact ih
theorem KV.any {kvs:List (A×V)}{vs:List (A×Value)}(r:KV kvs vs)(k:A):(kvs.any λkv=>decide (kv.1=k))=vs.any λkv=>decide (kv.1=k):=by
 unfold KV at r;induction r with
|nil=>rfl
|cons h t ih=>rw[List.any_cons,List.any_cons,ih,h.1]
def KV.repl {kvs:List (A×V)}{vs:List (A×Value)}(r:KV kvs vs)(k:A){y:V}{u:Value}(ry:RelV y u) :
 KV (kvs.map λkv=>if kv.1=k then(kv.1,y) else kv) (vs.map λkv=>if kv.1=k then(kv.1,u) else kv):=by
 unfold KV at r⊢;induction r with
|nil=>exact .nil
|@cons p q ps qs h t ih=>
   rw[waK,waK];refine .cons ?_ ih;obtain⟨h1,h2⟩:=h;by_cases e:p.1=k
   .rw[if_pos e,if_pos (h1.symm.trans e)];exact⟨h1,ry⟩
   .rw[if_neg e,if_neg (λz=>e (h1.trans z))];exact⟨h1,h2⟩
def KV.put {kvs:List (A×V)}{vs:List (A×Value)}(r:KV kvs vs)(k:A){y:V}{u:Value}(ry:RelV y u):KV (putK kvs k y) (stored vs k u):=by
 unfold putK stored;rw[r.any k];by_cases e:(vs.any λkv=>decide (kv.1=k))=true
 .rw[if_pos e,if_pos e];exact r.repl k ry
 .rw[if_neg e,if_neg e];exact Paired.snoc r ⟨rfl,ry⟩
theorem KV.length {kvs:List (A×V)}{vs:List (A×Value)}(r:KV kvs vs):kvs.length=vs.length:=Paired.length r
end
def zjo {P:Program}{w:World}{k:Key}{u:Value}(r:RelV (kV k) u):(zbo P w).is k u=true:=by
 cases k with
|inl i=>obtain⟨t,e⟩:=(show ∃t,u=Value.int i t from r);subst e;exact zgA P w i t
|inr x=>obtain⟨t,e⟩:=(show ∃t,u=Value.str x t from r);subst e;exact zgB P w x t
theorem zfS {P:Program}{w:World}:∀{ks:List Key}{us:List Value},Vals (ks.map kV) us->ItemsAre (zbo P w) ks us
|[],_,r=>by rw[List.map_nil] at r;cases r;exact .nil
|k::ks,_,r=>by
   rw[waK] at r;cases r with
  |cons h t=>exact .cons (zjo h) (zfS t)
abbrev KT (H:Hp):List (List Key×V)->List (List Key×Addr×Value)->Prop:=Paired λp q=>p.1=q.1/\H q.2.1=some (.tup (p.1.map kV))/\RelV p.2 q.2.2
def KT.val {H:Hp}{kvs:List (List Key×V)}{xs:List (List Key×Addr×Value)}(r:KT H kvs xs)(k:List Key):RelO (valV kvs k) ((atKey xs k).map (·.2)):=by
 induction r with
|nil=>exact True.intro
|@cons p q ps qs h t ih=>
   obtain⟨h1,_,h2⟩:=h;by_cases e:p.1=k
   .have e':q.1=k:=h1.symm.trans e
    have b:atKey (q::qs) k=some q.2:=by simp[atKey,wbJ,e']
    rw[zhu e,b];exact h2
   .have e':¬q.1=k:=λz=>e (h1.trans z)
    have b:atKey (q::qs) k=atKey qs k:=by simp[atKey,wbJ,e']
    rw[zhv e,b];exact ih
section
variable {P:Program}{w:World}{H:Hp}{h:Heap}{a:Addr}
def zpy {u:HO}(ok:HOk P w H h)(e:Rd H a u):ObjOk P w H h a u:=e.ok ok
def zjp {kvs:List (Key×V)}(ok:HOk P w H h)(e:Rd H a (.dK kvs)):kvs.length<=sizeLine/\(a == sysModules)=false/\∃vs,KV kvs vs/\h.DictOf (zbo P w) a vs:=
 show ObjOk P w H h a (.dK kvs) from zpy ok e
def zro {kvs:List (Key×V)}(ok:HOk P w H h)(e:H a=some (.dK kvs)):kvs.length<=sizeLine/\(a == sysModules)=false/\∃vs,KV kvs vs/\h.DictOf (zbo P w) a vs:=zjp ok (.inl e)
def zhw {ks:List Key}(ok:HOk P w H h)(e:H a=some (.tup (ks.map kV))):(tupleKind (zbo P w)).is h ks a:=by
 obtain⟨_,its,r,o,h1,h2,n,h3⟩:=(show ObjOk P w H h a (.tup (ks.map kV)) from ok a _ e)
 exact⟨o,its.toArray,n,h1,h2,h3,by simpa using zfS r⟩
def zli {kvs:List (List Key×V)}(ok:HOk P w H h)(e:Rd H a (.dT kvs)):kvs.length<=sizeLine/\(a == sysModules)=false/\
 ∃xs,KT H kvs xs/\h.DictOfH (tupleKind (zbo P w)) a xs:=by
 obtain⟨z,y,xs,r,o,es,ep,h1,h2,h3,h4,h5⟩:=(show ObjOk P w H h a (.dT kvs) from zpy ok e)
 refine⟨z,y,xs,r,o,es,ep,h1,h2,h3,h4,λx hx=>?_,h5⟩;have all:∀{l:List (List Key×V)}{m:List (List Key×Addr×Value)},KT H l m->∀x∈m,(tupleKind (zbo P w)).is h x.1 x.2.1:=by
  intro l m q;induction q with
 |nil=>intro x hx;exact nomatch hx
 |@cons p q ps qs hq t ih=>
    intro x hx;rcases wah.mp hx with e|hx
    .subst e;exact zhw ok (by rw[<-hq.1];exact hq.2.1)
    .exact ih x hx
 exact all r x hx
end
def DGet (H:Hp)(a:Addr)(y:V)(r:Option V):Prop:=
 (∃kvs k,Rd H a (.dK kvs)/\y=kV k/\r=valV kvs k)\/∃kvs k b,Rd H a (.dT kvs)/\y=.ref b/\H b=some (.tup (k.map kV))/\r=valV kvs k
theorem DGet.k {H:Hp}{a:Addr}{kvs:List (Key×V)}{k:Key}(e:H a=some (.dK kvs)):DGet H a (kV k) (valV kvs k):=.inl ⟨kvs,k,.inl e,rfl,rfl⟩
section
variable {X:Cx}{pins:List (Addr×Obj)}{Y:St}{H:Hp}{s:Shared}{a:Addr}{y v:V}{u r:Value}{o:Option V}{A:Around}{E:Value->Shared->Prop}
def Inv.big (I:Inv X pins Y H s):sysModules<s.heap.objs.size:=by
 have h:mainGlobals<s.heap.objs.size:=(I.mod.glob.keeps I.bk).lt
 exact Nat.lt_trans (by decide) h
def zjq {Q:Value->Shared->Prop}(hu:A.units+1<cLine)(I:Inv X pins Y H s)(g:DGet H a y (some v))(ry:RelV y u)(h:∀w' s',Inv X pins Y H s'->RelV v w'->Q w' s') :
 wpAny (model X.prog X.w) A (getItem (.ref a) u) Q E s:=by
 rcases g with⟨kvs,k,e,ey,l⟩|⟨kvs,k,b,e,ey,eb,l⟩
 .subst ey;obtain⟨z,hd,vs,rel,dd⟩:=zjp I.hok e;obtain⟨w',hw,rw'⟩:=RelO.some_of (v:=v) (o:=valueAt vs k) (by rw[l];exact rel.val k);exact wpAny_getItem_of (zjo ry) dd.mapOf hw (h w' _ (I.tok _) rw')
 .subst ey;cases(show u=Value.ref b from ry);obtain⟨z,hd,xs,rel,dd⟩:=zli I.hok e;obtain⟨w',hw,rw'⟩:=RelO.some_of (v:=v) (o:=(atKey xs k).map (·.2)) (by rw[l];exact rel.val k);obtain⟨p,hp,hp2⟩:=wbw.mp hw;refine wpAny_getItem_heap (tupleKind_room_in1 hu) (zhw I.hok eb) dd hp ?_;rw[hp2];exact h w' _ (I.tok _) rw'
def d_in {Q:Value->Shared->Prop}(hu:A.units+1<cLine)(I:Inv X pins Y H s)(g:DGet H a y o)(ry:RelV y u)(h:∀s',Inv X pins Y H s'->Q (.bool o.isSome) s') :
 wpAny (model X.prog X.w) A (compareOp .In u (.ref a)) Q E s:=by
 rcases g with⟨kvs,k,e,ey,l⟩|⟨kvs,k,b,e,ey,eb,l⟩
 .subst ey;obtain⟨z,hd,vs,rel,dd⟩:=zjp I.hok e;refine wpAny_in_of (zjo ry) hd dd.mapOf ?_;rw[<-(rel.val k).isSome_eq,<-l];exact h _ (I.tok _)
 .subst ey;cases(show u=Value.ref b from ry);obtain⟨z,hd,xs,rel,dd⟩:=zli I.hok e;refine wpAny_in_heap (tupleKind_room_in1 hu) (zhw I.hok eb) hd dd ?_;have q:=(rel.val k).isSome_eq
  rw[Option.isSome_map] at q;rw[<-q,<-l];exact h _ (I.tok _)
def znJ {Q:Value->Shared->Prop}(hu:A.units+1<cLine)(I:Inv X pins Y H s)(g:DGet H a y o)(ry:RelV y u)(h:∀s',Inv X pins Y H s'->Q (.bool (!o.isSome)) s') :
 wpAny (model X.prog X.w) A (compareOp .NotIn u (.ref a)) Q E s:=by
 rcases g with⟨kvs,k,e,ey,l⟩|⟨kvs,k,b,e,ey,eb,l⟩
 .subst ey;obtain⟨z,hd,vs,rel,dd⟩:=zjp I.hok e;refine wpAny_notIn_of (zjo ry) hd dd.mapOf ?_;rw[<-(rel.val k).isSome_eq,<-l];exact h _ (I.tok _)
 .subst ey;cases(show u=Value.ref b from ry);obtain⟨z,hd,xs,rel,dd⟩:=zli I.hok e;refine wpAny_notIn_heap (tupleKind_room_in1 hu) (zhw I.hok eb) hd dd ?_;have q:=(rel.val k).isSome_eq
  rw[Option.isSome_map] at q;rw[<-q,<-l];exact h _ (I.tok _)
def znK {h':Heap}{t':Nat}{ob:HO}(I:Inv X pins Y H s)(mu:Mut (H a))(hs:Heap.SameBut a s.heap h')(he:∃q,h'.get? a=some q)(new:ObjOk X.prog X.w (upd H a ob) h' a ob) :
 Inv X pins Y (upd H a ob) {s with heap:=h',toks:=t'}:=
 I.write (x:=a) (e:=a) mu (.inl rfl) (λb q hb z=>(hs.2 b hb).trans z) he new
def zpz {P:Program}{w:World}{H':Hp}{h':Heap}{kvs:List (Key×V)}{vs:List (Key×Value)}(z:kvs.length<=sizeLine)(hd:(a == sysModules)=false)(rel:KV kvs vs)(dd:h'.DictOf (zbo P w) a vs) :
 ObjOk P w H' h' a (.dK kvs):=⟨z,hd,vs,rel,dd⟩
end
section
variable {X:Cx}{pins:List (Addr×Obj)}{Y:St}{H:Hp}{s:Shared}{a:Addr}{kvs:List (Key×V)}{k:Key}{u:Value}{A:Around}{E:Value->Shared->Prop}
end
def NoSl (i:Expr):Prop:=∀ov iv,subscripted i false ov iv=operate [ov,iv] (getItem ov iv)
def znL {prog:Program}{w:World}{A:Around}{E:Value->Shared->Prop}{s:Shared}{env:Env}{value slice:Expr}{pos:Pos}{T id:String}{Q:Value->Shared->Prop}
 (hl:typeLookup (.type T) "__getitem__"=pure (some (.builtin id))) (hs:NoSl slice)
 (h:wpAny (model prog w) A (eval value env) (λo s₁=>wpAny (model prog w) A (eval slice env) (λi s₂=>s₂.TypeIs o T/\wpAny (model prog w) A (getItem o i) Q E s₂) E s₁) E s) :
 wpAny (model prog w) A (eval (.Subscript value slice pos) env) Q E s:=by
 refine Subscript_ (was h (λo s₁ h₁=>was h₁ (λi s₂ h₂=>?_) λ_ _ x=>x) λ_ _ x=>x);obtain⟨hT,h₂⟩:=h₂;unfold subscriptTail;refine waa ?_;rw[getitemInPython_of_ne hT.not_modules];refine waa (wpAny_specialOf hT hl ?_);have fin:wpAny (model prog w) A (subscripted slice false o i) (λr s3=>wpAny (model prog w) A (letTemporaryGo value o r >>= λ_=>pure r) Q E s3) E s₂:=by
  rw[hs o i];exact wpAny_operating (was h₂ (λr s3 h3=>waa (wpAny_letTemporaryGo (wad h3))) λ_ _ x=>x)
 first
 |exact wad (waa fin)
 |exact waa (wad (waa fin))
 |exact waa fin
def zgK {X:Cx}{pins:List (Addr×Obj)}{Y:St}{H:Hp}{s:Shared}{a:Addr}{y:V}{o:Option V}(I:Inv X pins Y H s)(g:DGet H a y o):s.TypeIs (.ref a) "dict":=by
 rcases g with⟨kvs,k,e,_,_⟩|⟨kvs,k,b,e,_,_,_⟩
 .obtain⟨_,_,vs,_,dd⟩:=zjp I.hok e;exact dd.typeIs
 .obtain⟨_,_,xs,_,dd⟩:=zli I.hok e;exact dd.typeIs
def zrp (td ty:TE):TE:=λY H Q=>td Y H λx H1=>ty Y H1 λy H2=>∃a v,x=.ref a/\DGet H2 a y (some v)/\Q v H2
section
variable {X:Cx}{o i e value:Expr}{pos pos' tpos:Pos}{td ty tv:TE}
def znM (hu:X.A.units+1<cLine)(ho:PE X o td)(hi:PE X i ty)(hs:NoSl i):PE X (.Subscript o i pos) (zrp td ty):=by
 intro pins s Y H Q I h;refine znL PySem.F.slot_dict_getitem.lookup hs (thn (ho pins s Y H _ I h) λu s1 ⟨x,H1,I1,rx,q1⟩=>thn (hi pins s1 Y H1 _ I1 q1) λiv s2 ⟨y,H2,I2,ry,a,v,ex,g,q2⟩=>?_);subst ex;obtain rfl:u=Value.ref a:=rx;exact⟨zgK I2 g,zjq hu I2 g ry λw' s3 I3 rw'=>⟨v,H2,I3,rw',q2⟩⟩
end
def zlj {P:Program}{w:World}{H:Hp}(h:Heap)(hb:sysModules<h.objs.size):ObjOk P w H (h.push {cls:=.type "dict",data:=.dict #[]}) h.objs.size (.dK []):=
 ⟨wbu _,beq_eq_false_iff_ne.mpr (Ne.symm (wax hb)),[],.nil,Heap.DictOf.new h⟩
section
variable {X:Cx}{pos:Pos}
end
section
variable {X:Cx}{pins:List (Addr×Obj)}{Y:St}{H:Hp}{s:Shared}{a:Addr}{y d:V}{u r:Value}{o:Option V}{A:Around}{E:Value->Shared->Prop}
end
section
variable {X:Cx}{o e f:Expr}{apos cpos:Pos}{td ty tx:TE}
end
section
variable {X:Cx}{pins:List (Addr×Obj)}{Y:St}{H:Hp}{s:Shared}{a:Addr}{kvs:List (Key×V)}{A:Around}{E:Value->Shared->Prop}
end
section
variable {X:Cx}{pins:List (Addr×Obj)}{Y:St}{H:Hp}{s:Shared}{a:Addr}{y:V}{u:Value}{A:Around}{E:Value->Shared->Prop}
end
end L2
namespace L2
open PySem PySem.Spec PyProof PyProof.Rows
section
variable {X:Cx}
def zii (bs:List Bool):((List.range bs.length).any λi=>(bs[i]?).getD false)=bs.any id:=by
 rw[wbt,wbP,wbP];constructor
 .rintro⟨j,hj,h⟩;have hj':=wbq.mp hj
  rw[wat hj'] at h;exact⟨_,List.getElem_mem hj',h⟩
 .rintro⟨b,hb,h⟩;obtain⟨j,hj,rfl⟩:=List.getElem_of_mem hb;exact⟨j,wbq.mpr hj,by rw[wat hj];exact h⟩
def zeG (hh:X.A.handled=none):zc5 X (.builtin "any") (λxs H Q=>∃(p:Addr) (bs:List Bool),xs = [.ref p]/\SqL X.K H p (bs.map V.bl)/\Q (.bl (bs.any id)) H):=by
 intro pins s Y H xs us Q I r h;obtain⟨p,bs,rfl,hs,q⟩:=h;obtain⟨u,rfl,r1⟩:=zib r;obtain rfl:u=Value.ref p:=r1;obtain⟨its,rv,pl,hz⟩:=I.list hs;have hl:=pl.isList
 have hlt:p<s.heap.objs.size:=by obtain⟨_,e,_⟩:=hl;exact waf e
 refine call_any_walk (wpAny_pyIter_list hl ?_);refine⟨s.heap.objs.size,[s.heap.objs.size,p],[s.heap.objs.size],its.toArray.size,_,_,λi=>(bs[i]?).getD false,rfl,Walks.list (A:=X.A.in1) hh _ p (wax hlt) its.toArray,
  ⟨⟨_,war _ rfl,rfl,rfl⟩,hl.push _⟩,λi v s' Q' E' hP hQ=>?_,λh' tk hk=>?_⟩
 .have e:its[i]?=some v:=by simpa using hP
  cases eb:(bs.map V.bl)[i]? with
 |none=>have:=rv.none_of eb;rw[e] at this;cases this
 |some y=>
    obtain⟨u,e',ry⟩:=rv.get eb;rw[e] at e';cases e';rw[waw] at eb;cases eb':bs[i]? with
   |none=>rw[eb'] at eb;cases eb
   |some k=>
      rw[eb'] at eb;cases eb;obtain rfl:v=Value.bool k:=ry;simp only[eb',Option.getD_some] at hQ;exact wbi hQ
 .have e:((List.range its.toArray.size).any λi=>(bs[i]?).getD false)=bs.any id:=by
   rw[wac,<-rv.length,waj];exact zii bs
  rw[e];exact⟨.bl _,H,I.kept (t':=tk) (λb o e=>hk b o (λhm=>by rw[wao.mp hm] at e;exact waP _ (waf e)) (wab _ e)),rfl,q⟩
def tRev (K:W.Frag)(te:TE):TE:=λY H Q=>te Y H λx H1=>∃a xs,x=.ref a/\SqL K H1 a xs/\∀p,H1 p=none->Q (.ref p) (upd H1 p (.lst xs.reverse))
def zpA {e:Expr}{te:TE}{p2 p3 p4 pos:Pos}{j:Nat}(he:PE X e te):PE X (.Subscript e (.Slice none none (some (.UnaryOp .USub (.Constant (.int 1) j p3) p4)) p2) pos) (tRev X.K te):=by
 intro pins s Y H Q I h;refine Subscript_ (thn (he pins s Y H _ I h) λv s1 ⟨x,H1,I1,r1,q1⟩=>?_);obtain⟨a,xs,rfl,hx,q⟩:=q1;cases r1;refine wpAny_Slice ?_;rw[evalPart_none];refine wad ?_;refine wad ?_;rw[evalPart_some];refine UnaryOp_ (wpAny_Constant_int ?_);refine PyProof.Rows.neg_int ?_;obtain⟨its,r,ht,hz⟩:=I1.list hx;have hlen:=r.length
 have I4:Inv X pins Y H1 {s1 with heap:=s1.heap.push {cls:=.type "slice",data:=.fields #[.none,.none,.int (-1) (s1.toks+1)]},toks:=s1.toks+1+1}:=I1.kept (t':=s1.toks+1+1) λb ob q=>wab _ q
 obtain⟨its4,r4,ht4,hz4⟩:=I4.list hx;have hlen4:=r4.length
 refine tail_any (ops:=[.ref a,.ref s1.heap.objs.size]) ht4.isList.typeIs slot_list_getitem.lookup ?_ (by with_unfolding_all rfl);refine wpAny_getItem_list_slice ht4.isList (Heap.IsSliceOf.new s1.heap .none .none (.int (-1) (s1.toks+1))) .none .none (.int (-1) _) (by simp) ?_ (by rw[wac] <;> omega);rw[PySem.W.krv_pick];refine⟨.ref _,_,I4.laid (t':=s1.toks+1+1) (o:=.lst xs.reverse) (λb ob q=>wab _ q) (wan _) ?_,rfl,q _ (I4.hok.fresh (wan _))⟩;exact⟨by rw[wbv];exact hz,its4.reverse,0,r4.reverse,war (s1.heap.push {cls:=.type "slice",data:=.fields #[.none,.none,.int (-1) (s1.toks+1)]}) (o:={cls:=.type "list",data:=.seq its4.reverse.toArray}) rfl⟩
end
structure Cal (P:Program)(w:World)(K:W.Frag)(mg:Str->Option Value)(base:Heap)(k:Nat)(x:Str)(ps:List Str)(sp:Sp):Prop where
 ex:∃(f:Addr) (fd:FuncData),FnOk P w K mg base CX0 k f fd ps sp/\Binds K fd ps []/\W.keepIn K (.ref f)=true/\mg x=some (.ref f)
section
variable {X:Cx}{k:Nat}{x:Str}{ps:List Str}{sp:Sp}{t:TA}{p pos:Pos}{e:Expr}{es:List Expr}
def pc {k':Nat}(C:Cal X.prog X.w X.K X.mg X.base k x ps sp)(hr:Room k' X.A)(ha:PA X (e::es) t)(hk:k<=k':=by decide)(hg:Gl X x:=by rfl)(hdb:(x == ("__debug__":Str))=false:=by decide)
 (he:starEach (e::es) X.env=(false,eval e X.env)::starEach es X.env:=by rfl) (hpl:(backTo pos (starEach es X.env)).any (·.1)=false:=by rfl):PE X (.Call (.Name x p) (e::es) [] pos) (zic sp [] E0 t):=by
 obtain⟨f,fd,a,b,c,d⟩:=C.ex;exact znw (a.mono hk) hr hg d c b .nil zpu ha hdb he hpl
end
def zbY:List Str:=["len","range","min","max","int","str","bool","list","tuple","isinstance","any","all","enumerate","abs","sorted","dict","ord","chr","reversed"]
def Blt (mg:Str->Option Value):Prop:=∀x∈zbY,mg x=none
def Blt.get {mg:Str->Option Value}(B:Blt mg)(x:Str)(h:x∈zbY:=by decide +kernel):mg x=none:=B x h
def zaL {P:Program}{w:World}{K:W.Frag}{mg:Str->Option Value}{base:Heap}{k:Nat}{x:Str}{ps:List Str}{sp:Sp}{f:Addr}{fd:FuncData}(h:FnOk P w K mg base CX0 k f fd ps sp)(b:Binds K fd ps [])(c:W.keepIn K (.ref f)=true)(d:mg x=some (.ref f)) :
 Cal P w K mg base k x ps sp:=⟨f,fd,h,b,c,d⟩
section
variable {X:Cx}{r:List V->Hp->VK->Prop}{t:TA}{p pos:Pos}{e:Expr}{es:List Expr}{id T:String}{x:Str}
def pb (hc:zc5 X (.builtin id) r)(B:Blt X.mg)(hv:bootBuiltins x=some (.builtin id))(ha:PA X (e::es) t)(hB:x∈zbY:=by decide +kernel)(hg:Gl X x:=by rfl)(hn:x≠"__name__":=by decide)(hdb:(x == ("__debug__":Str))=false:=by decide)
 (he:starEach (e::es) X.env=(false,eval e X.env)::starEach es X.env:=by rfl) (hpl:(backTo pos (starEach es X.env)).any (·.1)=false:=by rfl):PE X (.Call (.Name x p) (e::es) [] pos) (tCB r t):=
 zle hc hg (B x hB) hv ha hn hdb he hpl
def pty (hc:zc5 X (.type T) r)(B:Blt X.mg)(hv:bootBuiltins x=some (.type T))(ha:PA X (e::es) t)(hB:x∈zbY:=by decide +kernel)(hg:Gl X x:=by rfl)(hn:x≠"__name__":=by decide)(hdb:(x == ("__debug__":Str))=false:=by decide)
 (he:starEach (e::es) X.env=(false,eval e X.env)::starEach es X.env:=by rfl) (hpl:(backTo pos (starEach es X.env)).any (·.1)=false:=by rfl):PE X (.Call (.Name x p) (e::es) [] pos) (tCB r t):=
 zjc hc hg (B x hB) hv ha hn hdb he hpl
def ptn {v:V}{u:Value}(B:Blt X.mg)(hv:bootBuiltins x=some u)(rl:RelV v u)(hB:x∈zbY:=by decide +kernel)(hg:Gl X x:=by rfl)(hn:x≠"__name__":=by decide)(hdb:(x == ("__debug__":Str))=false:=by decide):PE X (.Name x pos) (tC v):=
 ziV hg (B x hB) hv rl hn hdb
def papp {o:Expr}{to:TE}{apos cpos:Pos}(ho:PE X o to)(ha:PA X [e] t)
 (hbase:attributeBase o "append" X.env (eval o X.env)=eval o X.env:=by rfl)
 (hfew:((backTo cpos (starEach [e] X.env)).all (λx=>!x.1)&&(backToKw cpos (keywordEach [] X.env)).all (λx=>x.1.isSome)
  && decide ([e].length+([]:List Keyword).length+(if([]:List Keyword).isEmpty then 0 else 1)<30))=true:=by rfl)
 (hline:(apos.endLine == cpos.line)=true:=by rfl) (hs:starEach [e] X.env = [(false,eval e X.env)]:=by rfl) :
 PE X (.Call (.Attribute o "append" apos) [e] [] cpos) (tBM X.K "list" ze8 to t):=
 zps PySem.F.plainAttrs_list PySem.F.slot_list_append PySem.F.type_list_append zfO ho ha hbase hfew hline hs rfl
end
def zpB (K:W.Frag):List V->Hp->VK->Prop:=λxs H Q=>∃x n t k,xs = [x,.ty n]/\TyOf K H x t/\PySem.W.kitOne K t (.type n)=some k/\Q (.bl k) H
def znN {X:Cx}:zc5 X (.builtin "isinstance") (zpB X.K):=zgH
end L2
namespace Rv
open PySem PySem.Spec PyProof PyProof.Rows
open Sem (wp)
def zdl:Slot "reversed" "__init__" "object.__init__":=
 .of (owner:="object") (n:="__init__") (by rw[typeLookup_type,builtinLookup_eq_fast];kernel_rfl) (by decide +kernel) (by decide +kernel) (by decide +kernel)
  (by first|exact .inl (by decide +kernel)|exact .inr (by decide +kernel)) (by rw[isSubtype_type];kernel_rfl)
def zdM:mroOf (.type "reversed")=pure [.type "reversed",.type "object"]:=by rw[mroOf_type];kernel_rfl
def zdc:typeLookup (.type "reversed") "__new__"=pure (some (.builtin "reversed.__new__")):=by rw[typeLookup_type,builtinLookup_eq_fast];kernel_rfl
def called_reversed:TypeCalled "reversed" "reversed.__new__" "object.__init__":=
 ⟨by decide +kernel,by decide +kernel,⟨_,_,zdM⟩,madeBy_type zdM zdc (by decide +kernel),by decide +kernel,by rw[isSubtype_type];kernel_rfl,zdl⟩
def typeCall_reversed_1 (a:Value):checkTypeCall "reversed" ⟨[a],[]⟩=pure ():=by kernel_rfl
def newCall_reversed_1 (a:Value):checkBuiltinCall "reversed.__new__" ⟨[.type "reversed",a],[]⟩=pure ():=by kernel_rfl
def entry_reversed_new:entryFor table "reversed.__new__"=some Builtin.«reversed.__new__»:=entryFor_of_tree (by kernel_rfl)
def sub_ri:isSubtype (.type "range_iterator") (.type "reversed")=pure false:=by rw[isSubtype_type];kernel_rfl
section
variable {prog:Program}{w:World}{A:Around}{E:Value->Shared->Prop}{s:Shared}
def callType_else {T T' newId initId:String}{Bn:Builtin}{args:List Value}{S:PySem.Spec}{Q Q₁:Value->Shared->Prop}(ft:TypeCalled T newId initId)
 (hct:checkTypeCall T ⟨args,[]⟩=pure ()) (hcn:checkBuiltinCall newId ⟨.type T::args,[]⟩=pure ())
 (entryN:entryFor table newId=some Bn) (g:Meets (Bn ⟨.type T::args,[]⟩) S) (hsub':isSubtype (.type T') (.type T)=pure false)
 (h:S A.in1 (wants Q₁ E) s) (hnext:∀obj s₁,Q₁ obj s₁->s₁.TypeIs obj T'/\Q obj s₁) :
 wpAny (model prog w) A (call (.type T) args) Q E s:=by
 obtain⟨c,tl,hmro⟩:=ft.mro;have hmade:=ft.made
 have hsub:=ft.sub
 refine wch (wcE ?_);show wpAny _ _ (callAny (.type T) _) _ _ _
 refine wad ⟨wbC _ (by decide +kernel),wcF F.entry_type_call ?_⟩;rw[Around.under_plain (weight_type_call_type T args []) (units_type_call_type T args [])];have h1:=ft.notType
 have h2:=ft.canCreate
 repeat (any_goals (first|assumption|wp_step))
 refine wct (wbG ft.plain entryN (wcf hcn (g prog w A.in1 _ s h))) λr s₁ hr=>?_
 cases r with
|error e=>exact hr
|ok fl=>
   cases fl with
  |ret obj=>
     obtain⟨hT,hq⟩:=hnext _ _ hr;repeat (any_goals (first|assumption|wp_step))
  |_=>exact hr.elim
end
def zlk (r:Addr)(lo hi:Int)(t u v:Tok)(hs:(Builtin.Range.rangeFitsLong lo&&Builtin.Range.rangeFitsLong hi&&Builtin.Range.rangeFitsLong 1&&Builtin.Range.rangeFitsLong (-1)&&Builtin.Range.rangeFitsLong (lo - 1)&&Builtin.Range.rangeFitsLong (Builtin.Range.rangeSize lo hi 1))=true) :
 Meets (Builtin.«range.__reversed__» ⟨[.ref r],[]⟩) (λ_ R s=>s.heap.get? r=some {cls:=.type "range",data:=.fields #[.int lo t,.int hi u,.int 1 v]}/\
  R (.ok (.ret (.ref s.heap.objs.size))) {s with heap:=s.heap.push {cls:=.type "range_iterator",data:=.fields #[rawInt (lo+(Builtin.Range.rangeSize lo hi 1 - 1)*1),rawInt (Builtin.Range.rangeSize lo hi 1),rawInt (-1)]}}):=
 .of_wp λprog w A R s h=>by
  obtain⟨hp,g,d,tk,os⟩:=s;obtain⟨hl,h⟩:=h;wp_walk using wbm hl
  rw[hs,if_pos rfl];exact⟨_,rfl,h⟩
def meets_new_range (r:Addr)(lo hi:Int)(t u v:Tok)(hs:(Builtin.Range.rangeFitsLong lo&&Builtin.Range.rangeFitsLong hi&&Builtin.Range.rangeFitsLong 1&&Builtin.Range.rangeFitsLong (-1)&&Builtin.Range.rangeFitsLong (lo - 1)&&Builtin.Range.rangeFitsLong (Builtin.Range.rangeSize lo hi 1))=true) :
 Meets (Builtin.«reversed.__new__» ⟨[.type "reversed",.ref r],[]⟩) (λ_ R s=>s.heap.get? r=some {cls:=.type "range",data:=.fields #[.int lo t,.int hi u,.int 1 v]}/\
  R (.ok (.ret (.ref s.heap.objs.size))) {s with heap:=s.heap.push {cls:=.type "range_iterator",data:=.fields #[rawInt (lo+(Builtin.Range.rangeSize lo hi 1 - 1)*1),rawInt (Builtin.Range.rangeSize lo hi 1),rawInt (-1)]}}):=
 .of_wp λprog w A R s h=>by
  obtain⟨hp,g,d,tk,os⟩:=s;obtain⟨hl,h⟩:=h;have hsub:=called_reversed.sub
  have hT:Shared.TypeIs ⟨hp,g,d,tk,os⟩ (.ref r) "range":=⟨_,hl,rfl⟩
  wp_walk using wbm hl
  rw[F.slot_range_reversed.lookup];refine wad ?_;show wpAny _ _ (bindSpecial (.builtin "range.__reversed__") (Value.ref r) >>= _) _ _ _
  rw[F.slot_range_reversed.bind];refine waa (wad ?_);refine waa (wcM ?_);refine waa (m:=call (.builtin "range.__reversed__") [Value.ref r]) (call_meets F.slot_range_reversed hT F.entry_range_reversed (F.args_range_reversed_1 _) (zlk r lo hi t u v hs) ⟨hl,?_⟩);exact wad ⟨_,rfl,h⟩
end Rv
namespace L2
open PySem PySem.Spec PyProof PyProof.Rows
def Itd (hi:Int)(n:Nat):It:=⟨λi _=>i<n,λi H x H'=>H'=H/\x=.int (hi - i),λi _=>n<=i⟩
def zjr {P:Program}{w:World}{K:W.Frag}{tg:Expr}(it:Addr)(lo:Int)(n:Nat):Turn P w K tg (Itd lo n) [it] it (λi h=>IsRangeIter h it (lo+(i:Nat)*(-1)) ((n:Int) - (i:Nat)) (-1)) where
 mem:=by simp
 obj:=λi h st b hb=>by
  have e:b=it:=by simpa using hb
  subst e;exact⟨_,st,λv z=>by
   have z':Data.fields _=Data.cell v:=z
   cases z'⟩
 keep:=λi h h' st k=>k it (by simp) _ st
 item:=by
  intro X hP hw hK hc i pins s Y H E I hf st hg;subst hP hw hK;obtain⟨f0,f1,f2,f3,f4,f5⟩:=hf it (by simp);have W:=Walks.range (prog:=X.prog) (w:=X.w) (I.ok.hd hc) it lo (-1) n
  refine W.item i s _ _ hg st λv h' tk hv st' kk=>?_
  obtain⟨t,rfl⟩:=hv;have I1:Inv X pins Y H {s with heap:=h',toks:=tk}:=I.turned (λb o hb e=>kk b o (by simpa using hb) e) f0 f1 f3 f4 f5
  refine⟨_,rfl,zh7 (s:={s with heap:=h',toks:=tk}) (n:="range_iterator") st' rfl rfl (by decide) ⟨.int (lo - i),H,I1,⟨t,?_⟩,⟨rfl,rfl⟩,st',λb hb=>(hf b hb).1⟩⟩;rw[Int.mul_neg,Int.mul_one] <;> rfl
 done:=by
  intro X hP hw hK hc i pins s Y H E I hf st hg;subst hP hw hK;obtain⟨f0,f1,f2,f3,f4,f5⟩:=hf it (by simp);exact wpAny_pyNext_range_end (I.ok.hd hc) st (by have:n<=i:=hg;omega) λh' eb=>⟨rfl,I.turned (t':=s.toks) (λb o hb e=>eb b o hb e) f0 f1 f3 f4 f5⟩
 self:=λ_ _ _ _ _ st h=>wcn st h
section
variable {X:Cx}{tg:Expr}
def zeH {prog:Program}{w:World}{A:Around}{E:Value->Shared->Prop}{s:Shared}{r:Addr}{lo hi:Int}{t u v:Tok}{Q:Value->Shared->Prop}(hr:s.heap.get? r=some {cls:=.type "range",data:=.fields #[.int lo t,.int hi u,.int 1 v]})
 (h1:-(2 ^ 62)<=lo) (h2:lo<2 ^ 62) (h3:-(2 ^ 62)<=hi) (h4:hi<2 ^ 62)
 (q:Q (.ref s.heap.objs.size) {s with heap:=s.heap.push {cls:=.type "range_iterator",data:=.fields #[rawInt (lo+(Builtin.Range.rangeSize lo hi 1 - 1)*1),rawInt (Builtin.Range.rangeSize lo hi 1),rawInt (-1)]}}) :
 wpAny (model prog w) A (call (.type "reversed") [.ref r]) Q E s:=by
 refine Rv.callType_else (T':="range_iterator") (Q₁:=λv s1=>v=.ref s.heap.objs.size/\s1 = {s with heap:=s.heap.push {cls:=.type "range_iterator",data:=.fields #[rawInt (lo+(Builtin.Range.rangeSize lo hi 1 - 1)*1),rawInt (Builtin.Range.rangeSize lo hi 1),rawInt (-1)]}}) Rv.called_reversed (Rv.typeCall_reversed_1 _) (Rv.newCall_reversed_1 _) Rv.entry_reversed_new (Rv.meets_new_range r lo hi t u v ?_) Rv.sub_ri ⟨hr,rfl,rfl⟩ ?_
 .have e2:Builtin.Range.rangeSize lo hi 1=(((hi - lo).toNat:Nat):Int):=by rw[rangeSize_one];split <;> omega
  rw[e2];have f:∀k:Int,-(2 ^ 63)<=k->k<2 ^ 63->Builtin.Range.rangeFitsLong k=true:=λk a b=>by unfold Builtin.Range.rangeFitsLong;simp only[waA,decide_eq_true_eq];omega
  rw[f lo (by omega) (by omega),f hi (by omega) (by omega),f 1 (by decide) (by decide),f (-1) (by decide) (by decide),f (lo - 1) (by omega) (by omega),f _ (by omega) (by omega)];rfl
 .rintro obj s1 ⟨rfl,rfl⟩;exact⟨⟨_,war _ rfl,rfl⟩,q⟩
def zrq (ta:TA):TI:=λY H R=>ta Y H λvs H1=>∃j:Int,vs = [.int j]/\0<=j/\j<2 ^ 62/\R (Itd (j - 1) j.toNat) H1
def znO {a:Expr}{ta:TA}{p p2 pos pos2:Pos}(hg:Gl X "range")(hm:X.mg "range"=none)(hg2:Gl X "reversed")(hm2:X.mg "reversed"=none)(ha:PA X [a] ta)(hs:starEach [a] X.env = [(false,eval a X.env)]:=by rfl)
 (hs2:starEach [.Call (.Name "range" p) [a] [] pos] X.env = [(false,eval (.Call (.Name "range" p) [a] [] pos) X.env)]:=by rfl):PI X tg (.Call (.Name "reversed" p2) [.Call (.Name "range" p) [a] [] pos] [] pos2) (zrq ta):=by
 intro pins s Y H R I h;refine waG (zc7 I hg2 hm2 boot_reversed ?_ (by decide) (by decide));refine waL ?_ hs2 rfl;rw[hs2];refine wbA ?_;refine Call_ (zc7 I hg hm boot_range (waL (thn (ha pos pins s Y H _ I h) λus s1 ⟨vs,H1,I1,r1,q1⟩=>?_) hs rfl));obtain⟨j,e,q1,q2,q⟩:=q1;subst e;cases r1 with
|cons r rr=>
   cases rr;obtain⟨t,rfl⟩:=r;refine call_range_1 ?_;refine Calls.spliced_nil ?_;have I2:Inv X pins Y H1 {s1 with heap:=s1.heap.push {cls:=.type "range",data:=.fields #[.int 0 s1.toks,.int j t,.int 1 (s1.toks+1)]},toks:=s1.toks+1+1}:=I1.kept (t':=s1.toks+1+1) λb o e=>wab _ e
   refine zeH (war _ rfl) (by decide) (by decide) (by omega) q2 ?_;have e2:Builtin.Range.rangeSize 0 j 1=((j.toNat:Nat):Int):=by rw[rangeSize_one];split <;> omega
   rw[e2];generalize hg9:s1.heap.push {cls:=.type "range",data:=.fields #[.int 0 s1.toks,.int j t,.int 1 (s1.toks+1)]}=g9 at I2
   .rw[show(0:Int)+((j.toNat:Nat) - 1)*1=(j - 1)+((0:Nat):Int)*(-1) by omega,show((j.toNat:Nat):Int)=((j.toNat:Nat):Int) - ((0:Nat):Int) by omega];refine wcn (it:=g9.objs.size) (war _ rfl) ?_;refine⟨g9.objs.size,[g9.objs.size],_,_,H1,rfl,I2.kept (t':=s1.toks+1+1) λb o e=>wab _ e,zjr _ (j - 1) j.toNat,?_,λb hb=>?_,q⟩
    .exact war _ rfl
    .have e:b=g9.objs.size:=by simpa using hb
     subst e;exact I2.fpOk (wan _) (I2.hok.fresh (wan _))
end
section
variable {X:Cx}
end
def clo (cells:List (Str×Addr)):List (Str×NameKind)->List (Str×Addr)->List (Str×Addr)
|[],acc=>acc
|(n,k)::r,acc=>clo cells r (if(k == NameKind.free)=true then(n,(cells.lookup n).getD 0)::acc else acc)
theorem zjs {env:Env}:∀(names:List (Str×NameKind)) (acc:List (Str×Addr)),(∀y∈names,y.2=.free->∃c,env.cells.lookup y.1=some c)->
 (forIn names acc λ(x:Str×NameKind) (cs:List (Str×Addr))=>match x with|(name,kind)=>if(kind == NameKind.free)=true then(do let c <-cellOf env name;pure (ForInStep.yield ((name,c)::cs))) else(pure (ForInStep.yield cs):Sem _))=pure (clo env.cells names acc)
|[],acc,_=>rfl
|(n,k)::r,acc,h=>by
   rw[List.forIn_cons];have ih:=zjs (env:=env) r
   by_cases hk:(k == NameKind.free)=true
   .obtain⟨c,hc⟩:=h (n,k) (wak ..) (by cases k <;> first|rfl|cases hk);have e1:cellOf env n=pure c:=by unfold cellOf;rw[hc]
    show(if(k == NameKind.free)=true then _ else _) >>= _=_
    rw[if_pos hk,e1];show(forIn r ((n,c)::acc) _:Sem _)=pure (clo env.cells r (if(k == NameKind.free)=true then _ else _))
    rw[if_pos hk,hc];exact ih _ λy hy=>h y (wag _ hy)
   .show(if(k == NameKind.free)=true then _ else _) >>= _=_
    rw[if_neg hk];show(forIn r acc _:Sem _)=pure (clo env.cells r (if(k == NameKind.free)=true then _ else _))
    rw[if_neg hk];exact ih _ λy hy=>h y (wag _ hy)
def zhx {env:Env}{scope:Scope}(h:∀y∈scope.names,y.2=.free->∃c,env.cells.lookup y.1=some c):closureFor scope env=pure (clo env.cells scope.names []):=by
 have e:=zjs (env:=env) scope.names [] h
 unfold closureFor;show(forIn scope.names ([]:List (Str×Addr)) _ >>= λcs=>pure cs)=_
 have e2:(forIn scope.names ([]:List (Str×Addr)) (λ(x:Str×NameKind) (cs:List (Str×Addr))=>match x with|(name,kind)=>if(kind == NameKind.free)=true then(do let c <-cellOf env name;pure (ForInStep.yield ((name,c)::cs))) else(pure (ForInStep.yield cs):Sem _)) >>= λcs=>pure cs)=pure (clo env.cells scope.names []):=by
  rw[e];rfl
 exact e2
theorem zee (cells:List (Str×Addr)):∀(names:List (Str×NameKind)) (acc:List (Str×Addr)),(∀x c,acc.lookup x=some c->cells.lookup x=some c)->(∀y∈names,y.2=.free->∃c,cells.lookup y.1=some c)->
 ∀x c,(clo cells names acc).lookup x=some c->cells.lookup x=some c
|[],acc,h,_,x,c,e=>h x c e
|(n,k)::r,acc,h,hf,x,c,e=>by
   refine zee cells r _ (λy d e'=>?_) (λy hy=>hf y (wag _ hy)) x c e;by_cases hk:(k == NameKind.free)=true
   .rw[if_pos hk,waT] at e';obtain⟨c',hc⟩:=hf (n,k) (wak ..) (by cases k <;> first|rfl|cases hk);cases hy:y == n with
   |true=>
      rw[hy] at e';have:y=n:=by simpa using hy
      rw[this,hc];rw[hc] at e';exact e'
   |false=>rw[hy] at e';exact h y d e'
   .rw[if_neg hk] at e';exact h y d e'
theorem zef (cells:List (Str×Addr)):∀(names:List (Str×NameKind)) (acc:List (Str×Addr)) (x:Str),((∃c,acc.lookup x=some c)\/(x,NameKind.free)∈names)->∃c,(clo cells names acc).lookup x=some c
|[],acc,x,h=>by
   rcases h with h|h
   .exact h
   .cases h
|(n,k)::r,acc,x,h=>by
   refine zef cells r _ x ?_;rcases h with⟨c,h⟩|h
   .left
    by_cases hk:(k == NameKind.free)=true
    .rw[if_pos hk,waT];cases hy:x == n with
    |true=>exact⟨_,rfl⟩
    |false=>exact⟨c,h⟩
    .rw[if_neg hk];exact⟨c,h⟩
   .rcases wah.mp h with h|h
    .left
     cases h;rw[if_pos (by rfl),waT,beq_self_eq_true];exact⟨_,rfl⟩
    .exact .inr h
theorem zbM {A B:Type}[BEq A][LawfulBEq A]:∀{l:List (A×B)}{x:A}{k:B},l.lookup x=some k->(x,k)∈l
|[],x,k,h=>by cases h
|(n,k')::r,x,k,h=>by
   rw[waT] at h;cases hx:x == n with
  |true=>
     rw[hx] at h;cases h;have:x=n:=by simpa using hx
     rw[this];exact wak ..
  |false=>rw[hx] at h;exact wag _ (zbM h)
theorem zbc {env:Env}:∀(l:List (Str×NameKind)),(∀y∈l,y.2≠.cell)->∀x k,(l.map λ(n,k)=>if(k == NameKind.free&&env.scope.kind == .function&&env.kindOf n == some .cell) then(n,NameKind.cell) else(n,k)).lookup x=some k->(k=.cell\/k=.free)->l.lookup x=some .free
|[],_,x,k,e,_=>by cases e
|(n,k0)::r,h,x,k,e,hk=>by
   rw[waK] at e;have h0:k0≠.cell:=h _ (wak ..)
   rw[waT];cases hx:x == n with
  |true=>
     cases k0 with
    |free=>rfl
    |cell=>exact absurd rfl h0
    |_=>
       exfalso
       obtain rfl:x=n:=by simpa using hx
       rw[waT] at e;rcases hk with rfl|rfl <;> (revert e;simp)
  |false=>
     refine zbc (env:=env) r (λy hy=>h y (wag _ hy)) x k ?_ hk;rw[waT] at e;have:(x == (if(k0 == NameKind.free&&env.scope.kind == .function&&env.kindOf n == some .cell)=true then(n,NameKind.cell) else(n,k0)).1)=false:=by split <;> exact hx
     rw[this] at e;exact e
theorem zbA {env:Env}(hf:env.scope.kind=.function):∀(l:List (Str×NameKind)) (x:Str),l.lookup x=some .free->env.kindOf x=some .cell->(l.map λ(n,k)=>if(k == NameKind.free&&env.scope.kind == .function&&env.kindOf n == some .cell) then(n,NameKind.cell) else(n,k)).lookup x=some .cell
|[],x,e,_=>by cases e
|(n,k0)::r,x,e,hk=>by
   rw[waK];rw[waT] at e⊢;cases hx:x == n with
  |true=>
     rw[hx] at e;cases e;have hn:x=n:=by simpa using hx
     have hk':(env.kindOf n == some NameKind.cell)=true:=by rw[<-hn,hk];rfl
     have hcond:(NameKind.free == NameKind.free&&env.scope.kind == .function&&env.kindOf n == some .cell)=true:=by
      rw[hf,hk'];rfl
     simp only[hcond,if_true,hx]
  |false=>
     rw[hx] at e;have:(x == (if(k0 == NameKind.free&&env.scope.kind == .function&&env.kindOf n == some .cell)=true then(n,NameKind.cell) else(n,k0)).1)=false:=by split <;> exact hx
     simp only[this];exact zbA hf r x e hk
def zcn (N:List Str)(sc:List (Str×NameKind))(names:List (Str×NameKind))(NC:List Str)(fr:List (Option Nat)):Bool:=
 (NC.zip fr).all λp=>match p.2 with|none=>true|some j=>(N[j]? == some p.1)&&(sc.lookup p.1 == some .cell)&&(names.lookup p.1 == some .free)
def zjt (N:List Str)(st:Stmt){X:Cx}{elt iter tg:Expr}{ifs:List Expr}{scope:Scope}{pos:Pos}{NC:List Str}(fr:List (Option Nat)){wi:TI}{g:TG}{tt:TT}{te:TE}{RR:Hp->Prop}(hRR:∀pins Y H s,Inv X pins Y H s->RR H)(hcalm:X.calm=true)(hi:PI X tg iter wi)
 (hcells:∀x,X.env.scope.names.lookup x=some .cell->∃c,X.env.cells.lookup x=some c) (hfk:X.env.scope.kind=.function) (hN:X.N=N) (hsc:X.env.scope.names=(zab st).names)
 (hfree':∀y∈scope.names,y.2=.free->(zab st).names.lookup y.1=some .cell) (hcell:∀y∈scope.names,y.2≠.cell) (hkind:scope.kind=.function) (hnames:∀y∈scope.names,y.2=.local->scope.names.lookup y.1=some .local)
 (hfr':zcn N (zab st).names scope.names NC fr=true) (hlen:fr.length=NC.length)
 (hg:∀cl C s0 H0 ex pn,PG (cxC X scope cl NC C s0 H0 ex pn) tg g) (ht:∀cl C s0 H0 ex pn,PTs (cxC X scope cl NC C s0 H0 ex pn) ifs tt) (he:∀cl C s0 H0 ex pn,RR H0->PE (cxC X scope cl NC C s0 H0 ex pn) elt te)
 (hs:∀x,foldedSetIterable iter X.env x=pure x:=by intro _;rfl):PE X (.ListComp elt [⟨tg,iter,ifs,0⟩] scope pos) (zfR fr wi g tt te):=by
 have hfree:∀y∈scope.names,y.2=.free->X.env.scope.names.lookup y.1=some .cell:=by rw[hsc];exact hfree'
 have hfr:zcn X.N X.env.scope.names scope.names NC fr=true:=by rw[hsc,hN];exact hfr'
 have hc:∀y∈scope.names,y.2=.free->∃c,X.env.cells.lookup y.1=some c:=λy hy h=>hcells _ (hfree y hy h)
 refine zlh (cl:=clo X.env.cells scope.names []) hRR hcalm hi (zhx hc) hcell hkind hnames (λx c e=>zee _ _ _ (λ_ _ z=>by cases z) hc x c e) (λx hx=>?_) (λi x j h1 h2=>?_) hlen (hg _) (ht _) (he _) hs
 .refine zef _ _ _ x (.inr (zbM ?_));rcases hx with e|e
  .exact zbc scope.names hcell x _ e (.inl rfl)
  .exact zbc scope.names hcell x _ e (.inr rfl)
 .have hm:(x,some j)∈NC.zip fr:=by
   have hi1:=(wai.mp h1).1
   have:(NC.zip fr)[i]?=some (x,some j):=by rw[wbF];exact⟨h1,h2⟩
   exact waH this
  have q:=waB.mp hfr _ hm
  have q':((X.N[j]? == some x)&&(X.env.scope.names.lookup x == some .cell)&&(scope.names.lookup x == some .free))=true:=q
  simp only[waA,beq_iff_eq] at q';obtain⟨⟨q1,q2⟩,q3⟩:=q';refine⟨q1,.inr (.inl q2),?_,.inl (zbA hfk scope.names x q3 q2)⟩;intro z;have z':X.env.scope.names.lookup x=some .local:=z
  rw[q2] at z';cases z'
def pvC (i:Nat){X:Cx}{scope:Scope}{cl:List (Str×Addr)}{NC:List Str}{C:Addr}{s0:Shared}{H0:Hp}{ex:List Addr}{pn:List (Addr×Obj)}{x:Str}{pos:Pos}(hi:NC[i]?=some x)(hfk:X.env.scope.kind=.function)
 (h1:scope.names.lookup x=some .free) (h2:X.env.scope.names.lookup x=some .cell) (hd:(x == ("__debug__":Str))=false:=by decide) (hcd:(x == ("__classdict__":Str))=false:=by decide):PE (cxC X scope cl NC C s0 H0 ex pn) (.Name x pos) (tVar i):=
 zcA (X:=cxC X scope cl NC C s0 H0 ex pn) hi (.inr (.inl (zbA hfk scope.names x h1 h2))) hd hcd
section
variable {X:Cx}{scope:Scope}{cl:List (Str×Addr)}{NC:List Str}{C:Addr}{s0:Shared}{H0:Hp}{ex:List Addr}{pn:List (Addr×Obj)}
end
def zhy (N:List Str)(st:Stmt){X:Cx}{i:Nat}{x:Str}{elt iter tg:Expr}{ifs:List Expr}{scope:Scope}{pos pos' cp:Pos}{NC:List Str}(fr:List (Option Nat)){wi:TI}{g:TG}{tt:TT}{te:TE}(hND:X.N.Nodup)(hix:X.N[i]?=some x)(hx:Loc X.env.scope x)
 {RR:Hp->Prop}(hRR:∀pins Y H s,Inv X pins Y H s->RR H) (hcalm:X.calm=true) (hi:PI X tg iter wi)
 (hcells:∀x,X.env.scope.names.lookup x=some .cell->∃c,X.env.cells.lookup x=some c) (hfk:X.env.scope.kind=.function) (hN:X.N=N) (hsc:X.env.scope.names=(zab st).names)
 (hfree':∀y∈scope.names,y.2=.free->(zab st).names.lookup y.1=some .cell) (hcell:∀y∈scope.names,y.2≠.cell) (hkind:scope.kind=.function) (hnames:∀y∈scope.names,y.2=.local->scope.names.lookup y.1=some .local)
 (hfr':zcn N (zab st).names scope.names NC fr=true) (hlen:fr.length=NC.length)
 (hg:∀cl C s0 H0 ex pn,PG (cxC X scope cl NC C s0 H0 ex pn) tg g) (ht:∀cl C s0 H0 ex pn,PTs (cxC X scope cl NC C s0 H0 ex pn) ifs tt) (he:∀cl C s0 H0 ex pn,RR H0->PE (cxC X scope cl NC C s0 H0 ex pn) elt te)
 (hs:∀x,foldedSetIterable iter X.env x=pure x:=by intro _;rfl) (hsw:swapsWith (.ListComp elt [⟨tg,iter,ifs,0⟩] scope cp) (some (.Name x pos')) pos.line X.env=pure true:=by rfl)
 (hf:X.fn x=true\/X.env.scope.names.lookup x=some .local:=by first|exact .inl rfl|exact .inr rfl|assumption) :
 PS X (.Assign [.Name x pos'] (.ListComp elt [⟨tg,iter,ifs,0⟩] scope cp) pos) (tAsg (zfR fr wi g tt te) (zdU i)):=by
 intro pins s Y H D I h;rw[exec_Assign_Name_used _ _ _ _ hsw];refine waa (waZ ?_);rw[arm_evalThenUse_ListComp];have hfree:∀y∈scope.names,y.2=.free->X.env.scope.names.lookup y.1=some .cell:=by rw[hsc];exact hfree'
 have hfr:zcn X.N X.env.scope.names scope.names NC fr=true:=by rw[hsc,hN];exact hfr'
 have hc:∀y∈scope.names,y.2=.free->∃c,X.env.cells.lookup y.1=some c:=λy hy h=>hcells _ (hfree y hy h)
 refine waa (waa (zht (cl:=clo X.env.cells scope.names []) (Q:=λx H1=>zdU i x Y H1 D.nx) (R:=λ_ s'=>wpAny (model X.prog X.w) X.A (pure ()) (λ_ s₁=>wpAny (model X.prog X.w) X.A (pure Flow.next) (SP X pins D) X.xe s₁) X.xe s') hRR hcalm hi (zhx hc) hcell hkind hnames (λx c e=>zee _ _ _ (λ_ _ z=>by cases z) hc x c e) (λx hx=>?_) (λi x j h1 h2=>?_) hlen (hg _) (ht _) (he _) hs I h ?_))
 .refine zef _ _ _ x (.inr (zbM ?_));rcases hx with e|e
  .exact zbc scope.names hcell x _ e (.inl rfl)
  .exact zbc scope.names hcell x _ e (.inr rfl)
 .have hm:(x,some j)∈NC.zip fr:=by
   have:(NC.zip fr)[i]?=some (x,some j):=by rw[wbF];exact⟨h1,h2⟩
   exact waH this
  have q:=waB.mp hfr _ hm
  have q':((X.N[j]? == some x)&&(X.env.scope.names.lookup x == some .cell)&&(scope.names.lookup x == some .free))=true:=q
  simp only[waA,beq_iff_eq] at q';obtain⟨⟨q1,q2⟩,q3⟩:=q';refine⟨q1,.inr (.inl q2),?_,.inl (zbA hfk scope.names x q3 q2)⟩;intro z;have z':X.env.scope.names.lookup x=some .local:=z
  rw[q2] at z';cases z'
 .intro C Da H' s' m I' hns hfp q;show wpAny _ _ (assign (.Name x pos') X.env (.ref Da)) _ _ _
  refine wpAny_assign_Name (zea I' hND hix hx (show RelV (.ref Da) (.ref Da) from rfl) (λs2 I2 hsb=>?_) hf);obtain⟨f0,f1,f2,f3,f4,f5⟩:=hfp;obtain⟨a,hsb,ha⟩:=hsb;have hCa:C≠a:=by
   rcases ha with rfl|ha
   .exact f1
   .exact λz=>f4 x a ha z.symm
  obtain⟨o,es,ep,ho,r⟩:=hns;refine⟨m,⟨o,es,ep,hsb.extBut C o hCa ho,r⟩,λh' hs'=>?_⟩;refine wad (wad ⟨_,H',?_,q⟩);exact I2.turned (t':=s2.toks) (λb o hb e=>hs'.extBut b o hb e) f0 f1 f3 f4 f5
def znP (N:List Str)(st:Stmt){X:Cx}{i:Nat}{x:Str}{elt iter tg:Expr}{ifs:List Expr}{scope:Scope}{pos pos' cp:Pos}{NC:List Str}(fr:List (Option Nat)){wi:TI}{g:TG}{tt:TT}{te:TE}(hND:X.N.Nodup)(hix:X.N[i]?=some x)(hx:Loc X.env.scope x)
 (hcalm:X.calm=true) (hi:PI X tg iter wi)
 (hcells:∀x,X.env.scope.names.lookup x=some .cell->∃c,X.env.cells.lookup x=some c) (hfk:X.env.scope.kind=.function) (hN:X.N=N) (hsc:X.env.scope.names=(zab st).names)
 (hfree':∀y∈scope.names,y.2=.free->(zab st).names.lookup y.1=some .cell) (hcell:∀y∈scope.names,y.2≠.cell) (hkind:scope.kind=.function) (hnames:∀y∈scope.names,y.2=.local->scope.names.lookup y.1=some .local)
 (hfr':zcn N (zab st).names scope.names NC fr=true) (hlen:fr.length=NC.length)
 (hg:∀cl C s0 H0 ex pn,PG (cxC X scope cl NC C s0 H0 ex pn) tg g) (ht:∀cl C s0 H0 ex pn,PTs (cxC X scope cl NC C s0 H0 ex pn) ifs tt) (he:∀cl C s0 H0 ex pn,PE (cxC X scope cl NC C s0 H0 ex pn) elt te)
 (hs:∀x,foldedSetIterable iter X.env x=pure x:=by intro _;rfl) (hsw:swapsWith (.ListComp elt [⟨tg,iter,ifs,0⟩] scope cp) (some (.Name x pos')) pos.line X.env=pure true:=by rfl)
 (hf:X.fn x=true\/X.env.scope.names.lookup x=some .local:=by first|exact .inl rfl|exact .inr rfl|assumption) :
 PS X (.Assign [.Name x pos'] (.ListComp elt [⟨tg,iter,ifs,0⟩] scope cp) pos) (tAsg (zfR fr wi g tt te) (zdU i)):=
 zhy (RR:=λ_=>True) N st fr hND hix hx (λ_ _ _ _ _=>trivial) hcalm hi hcells hfk hN hsc hfree' hcell hkind hnames hfr' hlen hg ht (λcl C s0 H0 ex pn _=>he cl C s0 H0 ex pn) hs hsw hf
end L2
namespace Mn
open PySem PySem.Spec PyProof PyProof.Rows
open Sem (wp)
section
variable {prog:Program}{w:World}{A:Around}{R:Result->Shared->Prop}{I:Addr}{fp wr:List Addr}{n:Nat}{P:Nat->Value->Prop}{St:Nat->Heap->Prop}
end
section
variable {prog:Program}{w:World}{A:Around}{E:Value->Shared->Prop}{s:Shared}
end
section
open PySem.SeqAt
open PySem.AutoSeq1 (wpAny_loadPart')
open PySem.MeetsSeq PySem.MeetsSeq2 PySem.MeetsSeq3
end
end Mn
namespace L2
open PySem PySem.Spec PyProof PyProof.Rows
section
variable {X:Cx}
end
abbrev elD (P:Program)(w:World)(A:Around)(kx vx:Expr):ElR:=λenv D Q s=>wpAny (model P w) A (eval kx env) (λkv s4=>wpAny (model P w) A (eval vx env) (λvv s5=>wpAny (model P w) A (dictSet D kv vv) (λ_ s6=>Q s6) (λ_ _=>False) s5) (λ_ _=>False) s4) (λ_ _=>False) s
def zij {P:Program}{w:World}{A:Around}{kx vx tg iter:Expr}{ifs:List Expr}{scope:Scope}{pos:Pos}:zpv P w A (.DictComp kx vx [⟨tg,iter,ifs,0⟩] scope pos) tg ifs (elD P w A kx vx):=by
 intro R s it D env I turn n h;refine codeAny_loop rfl I (λn s hI=>?_) n h;refine wpAny_noted (m:=compTurn (.DictComp kx vx [⟨tg,iter,ifs,0⟩] scope pos) 0 it (.ref D) env) ?_;rw[compTurn_dict];refine waa (waZ (waa (was (turn n s hI) (λr s1 h1=>?_) λ_ _ f=>f.elim)));cases r with
|none=>exact wad (h1.1 rfl)
|some v=>
   refine waa (was (h1.2 v rfl) (λ_ s2 h2=>?_) λ_ _ f=>f.elim);refine waa (was h2 (λ_ s3 h3=>?_) λ_ _ f=>f.elim);refine waa (was h3 (λok s4 h4=>?_) λ_ _ f=>f.elim);cases ok with
  |false=>exact wad ⟨rfl,h4.2 rfl⟩
  |true=>exact waa (waa (was (h4.1 rfl) (λkv s5 h5=>waa (waY (was h5 (λvv s6 h6=>waa (waZ (waY (was h6 (λ_ s7 h7=>wad ⟨rfl,h7⟩) λ_ _ f=>f.elim)))) λ_ _ f=>f.elim))) λ_ _ f=>f.elim))
def telD (tk tv:TE)(D:Addr)(ys:List (Key×V))(Y:St)(H:Hp)(Q:List (Key×V)->Hp->Prop):Prop:=tk Y H λvk H6=>tv Y H6 λv H7=>∃k,vk=kV k/\H7 D=some (.dK ys)/\ys.length<sizeLine/\Q (putK ys k v) (upd H7 D (.dK (putK ys k v)))
def zju (fr:List (Option Nat))(wi:TI)(g:TG)(tt:TT)(tk tv:TE):TE:=tGen HO.dK [] fr wi g tt (telD tk tv)
section
variable {X:Cx}{kx vx iter tg:Expr}{ifs:List Expr}{scope:Scope}{pos:Pos}{NC:List Str}{wi:TI}{g:TG}{tt:TT}{tk tv:TE}
def zjv (N:List Str)(st:Stmt)(fr:List (Option Nat))(hcalm:X.calm=true)(hi:PI X tg iter wi)
 (hcells:∀x,X.env.scope.names.lookup x=some .cell->∃c,X.env.cells.lookup x=some c) (hfk:X.env.scope.kind=.function) (hN:X.N=N) (hsc:X.env.scope.names=(zab st).names)
 (hfree':∀y∈scope.names,y.2=.free->(zab st).names.lookup y.1=some .cell) (hcell:∀y∈scope.names,y.2≠.cell) (hkind:scope.kind=.function) (hnames:∀y∈scope.names,y.2=.local->scope.names.lookup y.1=some .local)
 (hfr':zcn N (zab st).names scope.names NC fr=true) (hlen:fr.length=NC.length)
 (hg:∀cl C s0 H0 ex pn,PG (cxC X scope cl NC C s0 H0 ex pn) tg g) (ht:∀cl C s0 H0 ex pn,PTs (cxC X scope cl NC C s0 H0 ex pn) ifs tt) (hk:∀cl C s0 H0 ex pn,PE (cxC X scope cl NC C s0 H0 ex pn) kx tk) (hv:∀cl C s0 H0 ex pn,PE (cxC X scope cl NC C s0 H0 ex pn) vx tv)
 (hs:∀x,foldedSetIterable iter X.env x=pure x) {pins:List (Addr×Obj)}{s:Shared}{Y:St}{H:Hp}{Q:VK}{cpos:Pos}{use:Option (Value->Sem Unit)}{R:Value->Shared->Prop}(I:Inv X pins Y H s) (h:zju fr wi g tt tk tv Y H Q)
 (hfin:∀(C D:Addr) (H':Hp) (s':Shared) (m:Str->Option Value),Inv X pins Y H' s'->s'.heap.Ns C m->FpOk X pins H' C->Q (.ref D) H'->compPost (model X.prog X.w) X.A X.xe use R (.ref D) C (.ok .next) s') :
 wpAny (model X.prog X.w) X.A (comprehension (.DictComp kx vx [⟨tg,iter,ifs,0⟩] scope pos) scope X.env cpos newDict false (eval iter X.env) use) R X.xe s:=by
 have hfree:∀y∈scope.names,y.2=.free->X.env.scope.names.lookup y.1=some .cell:=by rw[hsc];exact hfree'
 have hfr:zcn X.N X.env.scope.names scope.names NC fr=true:=by rw[hsc,hN];exact hfr'
 have hc:∀y∈scope.names,y.2=.free->∃c,X.env.cells.lookup y.1=some c:=λy hy h=>hcells _ (hfree y hy h)
 refine zhs (Tn:="dict") (dt:=.dict #[]) (ac:=HO.dK) (t0:=[]) (tel:=telD tk tv) (EL:=elD X.prog X.w X.A kx vx) (cl:=clo X.env.cells scope.names []) (fr:=fr) (NC:=NC) (RR:=λ_=>True)
  (λ_ _ _ _ _=>trivial) hcalm hi (zhx hc) hcell hkind hnames (λx c e=>zee _ _ _ (λ_ _ z=>by cases z) hc x c e) (λx hx=>?_) (λi x j h1 h2=>?_) hlen (hg _) (ht _) rfl (by size_fits) (λI=>zlj _ I.big) zij (λa b=>codeAny_compStart_dict (rest:=[]) a b) (λC s0 H0 ex pn rH pins D ys s Y H Po F J q k=>?_) hs I h hfin
 .refine zef _ _ _ x (.inr (zbM ?_));rcases hx with e|e
  .exact zbc scope.names hcell x _ e (.inl rfl)
  .exact zbc scope.names hcell x _ e (.inr rfl)
 .have hm:(x,some j)∈NC.zip fr:=by
   have:(NC.zip fr)[i]?=some (x,some j):=by rw[wbF];exact⟨h1,h2⟩
   exact waH this
  have q:=waB.mp hfr _ hm
  have q':((X.N[j]? == some x)&&(X.env.scope.names.lookup x == some .cell)&&(scope.names.lookup x == some .free))=true:=q
  simp only[waA,beq_iff_eq] at q';obtain⟨⟨q1,q2⟩,q3⟩:=q';refine⟨q1,.inr (.inl q2),?_,.inl (zbA hfk scope.names x q3 q2)⟩;intro z;have z':X.env.scope.names.lookup x=some .local:=z
  rw[q2] at z';cases z'
 .refine thn (hk _ C _ _ _ _ _ s Y H _ J q) λkv s4 ⟨vk,H6,J6,r6,q6⟩=>?_
  refine thn (hv _ C _ _ _ _ _ s4 Y H6 _ J6 q6) λvv s5 ⟨v,H7,J7,r7,kk,ek,hD,hz,n7⟩=>?_
  subst ek;obtain⟨z,hd,vs,rel,dd⟩:=zro J7.hok hD;have hz':vs.length<=sizeLine:=by rw[<-rel.length];exact z
  have hl:(putK ys kk v).length<=sizeLine:=by have:=zgJ ys kk v;omega
  refine wpAny_dictSet_pairs (hsz:=hz') (zjo r6) dd λh' dd' hs=>?_
  have he:∃q,h'.get? D=some q:=let ⟨q,_,_,hq,_⟩:=dd';⟨q,hq⟩
  exact k _ _ _ (znK J7 (by rw[hD];exact True.intro) hs he (zpz hl hd (rel.put kk r7) dd')) zai n7
def zll {i:Nat}{x:Str}{pos' cp:Pos}(hND:X.N.Nodup)(hix:X.N[i]?=some x)(hx:Loc X.env.scope x)(N:List Str)(st:Stmt)(fr:List (Option Nat))(hcalm:X.calm=true)(hi:PI X tg iter wi)
 (hcells:∀x,X.env.scope.names.lookup x=some .cell->∃c,X.env.cells.lookup x=some c) (hfk:X.env.scope.kind=.function) (hN:X.N=N) (hsc:X.env.scope.names=(zab st).names)
 (hfree':∀y∈scope.names,y.2=.free->(zab st).names.lookup y.1=some .cell) (hcell:∀y∈scope.names,y.2≠.cell) (hkind:scope.kind=.function) (hnames:∀y∈scope.names,y.2=.local->scope.names.lookup y.1=some .local)
 (hfr':zcn N (zab st).names scope.names NC fr=true) (hlen:fr.length=NC.length)
 (hg:∀cl C s0 H0 ex pn,PG (cxC X scope cl NC C s0 H0 ex pn) tg g) (ht:∀cl C s0 H0 ex pn,PTs (cxC X scope cl NC C s0 H0 ex pn) ifs tt) (hk:∀cl C s0 H0 ex pn,PE (cxC X scope cl NC C s0 H0 ex pn) kx tk) (hv:∀cl C s0 H0 ex pn,PE (cxC X scope cl NC C s0 H0 ex pn) vx tv)
 (hs:∀x,foldedSetIterable iter X.env x=pure x:=by intro _;rfl) (hsw:swapsWith (.DictComp kx vx [⟨tg,iter,ifs,0⟩] scope cp) (some (.Name x pos')) pos.line X.env=pure true:=by rfl)
 (hf:X.fn x=true\/X.env.scope.names.lookup x=some .local:=by first|exact .inl rfl|exact .inr rfl|assumption):PS X (.Assign [.Name x pos'] (.DictComp kx vx [⟨tg,iter,ifs,0⟩] scope cp) pos) (tAsg (zju fr wi g tt tk tv) (zdU i)):=by
 intro pins s Y H D I h;rw[exec_Assign_Name_used _ _ _ _ hsw];refine waa (waZ ?_);rw[arm_evalThenUse_DictComp];refine waa (waa (zjv N st fr hcalm hi hcells hfk hN hsc hfree' hcell hkind hnames hfr' hlen hg ht hk hv hs (Q:=λx H1=>zdU i x Y H1 D.nx) (R:=λ_ s'=>wpAny (model X.prog X.w) X.A (pure ()) (λ_ s₁=>wpAny (model X.prog X.w) X.A (pure Flow.next) (SP X pins D) X.xe s₁) X.xe s') I h ?_));intro C Da H' s' m I' hns hfp q;show wpAny _ _ (assign (.Name x pos') X.env (.ref Da)) _ _ _
 refine wpAny_assign_Name (zea I' hND hix hx (show RelV (.ref Da) (.ref Da) from rfl) (λs2 I2 hsb=>?_) hf);obtain⟨f0,f1,f2,f3,f4,f5⟩:=hfp;obtain⟨a,hsb,ha⟩:=hsb;have hCa:C≠a:=by
  rcases ha with rfl|ha
  .exact f1
  .exact λz=>f4 x a ha z.symm
 obtain⟨o,es,ep,ho,r⟩:=hns;refine⟨m,⟨o,es,ep,hsb.extBut C o hCa ho,r⟩,λh' hs'=>wad (wad ⟨_,H',?_,q⟩)⟩;exact I2.turned (t':=s2.toks) (λb o hb e=>hs'.extBut b o hb e) f0 f1 f3 f4 f5
end
end L2
namespace HT
open PySem PySem.Spec PyProof PyProof.Rows L2
section
variable {prog:Program}{w:World}{A:Around}{E:Value->Shared->Prop}{s:Shared}
def getItem_whole {t sl:Addr}{items:Array Value}{vl vu:Value}{lo hi:Option Int}{Q:Value->Shared->Prop}(ht:IsTup s.heap t items)(hs:s.heap.IsSliceOf sl vl vu .none)(pl:IsPart vl lo)(pu:IsPart vu hi)(h0:sIx items.size 0 lo=0)(h1:sIx items.size items.size hi=items.size)(h:Q (.ref t) s)(hsz:items.size<=sizeLine):wpAny (model prog w) A (getItem (.ref t) (.ref sl)) Q E s:=by
 obtain⟨os,hos,hcs,hds⟩:=id hs;have hTs:s.TypeIs (.ref sl) "slice":=⟨os,hos,hcs⟩
 unfold getItem;try with_reducible refine waY ?_
 try refine waa (wad ?_)
 refine waa (wpAny_sequenceKey ht.typeIs (by decide) ?_);refine waa (wbL (name:=Str.ofString "__getitem__") ht.typeIs wbj (wbO wbj ht.typeIs entry_tuple_getitem ?_ (args_tuple_getitem _ _)));show wpAny _ _ (Builtin.Tuple.tupleItemsOf (.ref t) >>= _) _ _ s
 refine waa (tupleItemsOf_ ht (waa (wcK hTs ?_)));rw[if_pos (by decide)];refine waa (zcB hs pl pu ?_);have hy:(((sIx items.size 0 lo:Nat):Int) == 0&&(1:Int) == 1&&(sIx items.size items.size hi - sIx items.size 0 lo) == items.size)=true:=by rw[h0,h1];simp
 show wpAny _ _ (if(((sIx items.size 0 lo:Nat):Int) == 0&&(1:Int) == 1&&(sIx items.size items.size hi - sIx items.size 0 lo) == items.size)=true then _ else _) _ _ s
 rw[if_pos hy];refine waa (was (Q:=λb s'=>b=true/\s'=s) ?_ (λb s1 hb=>?_) λ_ _ z=>z)
 .unfold Builtin.Tuple.tupleIsExact;exact waa (wcK ht.typeIs (wad ⟨by decide,rfl⟩))
 .obtain⟨rfl,rfl⟩:=hb;rw[if_pos rfl];exact waa (wcM (wad ⟨_,rfl,wad h⟩))
end
end HT
namespace L2
open PySem PySem.Spec PyProof PyProof.Rows
def rSlW (K:W.Frag):V->Option Int->Option Int->Hp->VK->Prop:=λx lo hi H Q=>∃a xs,x=.ref a/\SqT K H a xs/\HT.sIx xs.length 0 lo=0/\HT.sIx xs.length xs.length hi=xs.length/\Q x H
def zlm {X:Cx}:SlR X (rSlW X.K):=by
 intro pins s Y H x v vl vu lo hi sl Q I rx hs pl pu h;obtain⟨a,xs,rfl,hx,h0,h1,q⟩:=h;cases rx;obtain⟨its,r,ht,hz⟩:=I.tuple hx;have hlen:its.toArray.size=xs.length:=by rw[wac];exact r.length.symm
 exact⟨"tuple",_,PyProof.Rows.slot_tuple_getitem.lookup,ht.typeIs,HT.getItem_whole ht hs pl pu (by rw[hlen];exact h0) (by rw[hlen];exact h1) ⟨.ref a,H,I,rfl,q⟩ (by rw[hlen];exact hz)⟩
end L2
namespace En
open PySem PySem.Spec PyProof PyProof.Rows
def draws_endL {prog:Program}{w:World}{A:Around}(hh:A.handled=none)(it t:Addr)(i:Nat)(items:Array Value)(hx:items[i]?=none) :
 Draws prog w A it [it,t] i (λi v=>items[i]?=some v) (λj h=>j=i/\h.IsListIter it t i/\h.IsList t items) where
 live:=λ_ _ st=>let ⟨o,ho,_⟩:=st.2.1;⟨o,ho⟩
 frame:=λ_ _ _ ⟨hj,⟨o,e,r⟩,⟨o',e',r'⟩⟩ hk=>⟨hj,⟨o,hk it (by simp) o e,r⟩,⟨o',hk t (by simp) o' e',r'⟩⟩
 item:=λj s Q E hi st hQ=>by rw[st.1] at hi;exact absurd hi (waP _)
 done:=λs Q E st hE=>wpAny_nextOf_list_end hh st.2.1 st.2.2 hx hE
end En
namespace L2
open PySem PySem.Spec PyProof PyProof.Rows
def IteL (K:W.Frag)(a:Addr):It:=
 ⟨λi H=>∃xs x,SqL K H a xs/\xs[i]?=some x,λi H x H'=>∃p,H p=none/\x=.ref p/\∀xs,SqL K H a xs->∃y,xs[i]?=some y/\H'=upd H p (.tup [.int (i:Nat),y]),λi H=>∃xs,SqL K H a xs/\xs.length<=i⟩
def zik {P:Program}{w:World}{K:W.Frag}{elts:List Expr}{x1}{tpos:Pos}(a e it:Addr)(hei:e≠it)(hae:a≠e)(hai:a≠it) :
 Turn P w K (.Tuple elts x1 tpos) (IteL K a) [e,it] e (λi h=>(∃old,IsEnum h e it (i:Nat) old)/\h.IsListIter it a i) where
 mem:=by simp
 obj:=λi h st b hb=>by
  obtain⟨⟨old,e1⟩,o,e2,c,d⟩:=st;rcases wah.mp hb with z|z
  .subst z;exact⟨_,e1,λv z=>by cases z⟩
  .have z:=wao.mp z
   subst z;exact⟨o,e2,λv z=>by rw[d] at z;cases z⟩
 keep:=λi h h' st k=>by
  obtain⟨⟨old,e1⟩,o,e2,c,d⟩:=st;exact⟨⟨old,k e (by simp) _ e1⟩,o,k it (by simp) _ e2,c,d⟩
 item:=by
  intro X hP hw hK hc i pins s Y H E I hf st hg;subst hP hw hK;obtain⟨⟨old,en⟩,ti⟩:=st;obtain⟨xs,x,hq,hx⟩:=hg;obtain⟨its,rv,p,hz⟩:=I.list hq;obtain⟨u,hu,ru⟩:=rv.get hx;have hl:=rv.length
  have hlt:i<its.toArray.size:=by
   rw[wac,<-hl];exact(wai.mp hx).1
  have hh:X.A.in1.handled=none:=I.ok.hd hc
  refine wpAny_pyNext_enum_itemD (Draws.list (A:=X.A.in1) hh it a hai its.toArray) en ⟨ti,p.isList⟩ hlt hei (by simp[hei,Ne.symm hae]) λy h' tk hy en' st' tup sz k=>?_
  have ey:y=u:=by
   have hy':its[i]?=some y:=by simpa using hy
   rw[hu] at hy';exact(wav hy').symm
  subst ey;refine⟨_,rfl,wpAny_letOwnedTupleGo_enum en' λh2 en2 sb2=>?_⟩;have frS:s.heap.get? s.heap.objs.size=none:=by
   cases q:s.heap.get? s.heap.objs.size with
  |none=>rfl
  |some o=>exact absurd (waf q) (waP _)
  have neS:∀b∈[e,it],b≠s.heap.objs.size:=λb hb z=>by
   rcases wah.mp hb with q|q
   .have en1:=(show s.heap.get? e=some _ from en)
    rw[<-z,q,en1] at frS;cases frS
   .obtain⟨o,e2,_⟩:=ti;rw[<-z,wao.mp q,e2] at frS;cases frS
  obtain⟨hn,I1⟩:=I.laidF (h':=h2) (t':=tk+1) (fp:=[e,it]) (D:=s.heap.objs.size) (o:=.tup [.int (i:Nat),x]) hf (λb o hb q=>sb2.extBut b o (λz=>hb (by simp[z])) (k b o (λz=>hb (by simp[z])) (λz=>hb (by simp[z])) q))
   (λb hb=>by
    rcases wah.mp hb with q|q
    .subst q;exact⟨_,en2⟩
    .have q:=wao.mp q
     subst q;obtain⟨o,e2,_⟩:=st'.1;exact⟨o,sb2.extBut _ o (Ne.symm hei) e2⟩) frS
   ⟨by show 2<=sizeLine;decide,[.int (i:Nat) tk,y],.cons ⟨_,rfl⟩ (.cons ru .nil),⟨_,sb2.extBut _ _ (neS e (by simp)).symm tup,rfl,_,rfl⟩⟩
  refine⟨.ref s.heap.objs.size,_,I1,rfl,⟨_,hn,rfl,λys hy=>⟨x,by rw[I.list_inj hy hq];exact hx,rfl⟩⟩,⟨⟨_,en2⟩,?_⟩,λb hb=>?_⟩
  .obtain⟨o,e2,c,d⟩:=st'.1;exact⟨o,sb2.extBut _ o (Ne.symm hei) e2,c,d⟩
  .rw[zah (neS b hb)];exact(hf b hb).1
 done:=by
  intro X hP hw hK hc i pins s Y H E I hf st hg;subst hP hw hK;obtain⟨⟨old,en⟩,ti⟩:=st;obtain⟨xs,hq,hx⟩:=hg;obtain⟨its,rv,p,hz⟩:=I.list hq;obtain⟨f0,f1,f2,f3,f4,f5⟩:=hf it (by simp);have hl:=rv.length
  have hh:X.A.in1.handled=none:=I.ok.hd hc
  refine wpAny_pyNext_enum_endD (En.draws_endL (A:=X.A.in1) hh it a i its.toArray (by simp;omega)) en ⟨rfl,ti,p.isList⟩ λh' eb=>⟨rfl,I.turned (t':=s.toks) (λb o hb e=>eb b o hb e) f0 f1 f3 f4 f5⟩
 self:=λ_ _ _ _ _ st h=>by
  obtain⟨⟨old,en⟩,_⟩:=st;exact wcr en h
def zpC (K:W.Frag)(ta:TA):TI:=λY H R=>ta Y H λvs H1=>∃a,vs = [.ref a]/\(∃xs,SqL K H1 a xs)/\R (IteL K a) H1
def zln {X:Cx}{elts:List Expr}{x1}{tpos:Pos}{l:Expr}{ta:TA}{p pos:Pos}(hg:Gl X "enumerate")(hm:X.mg "enumerate"=none)(ha:PA X [l] ta)(hs:starEach [l] X.env = [(false,eval l X.env)]:=by rfl) :
 PI X (.Tuple elts x1 tpos) (.Call (.Name "enumerate" p) [l] [] pos) (zpC X.K ta):=by
 intro pins s Y H R I h;refine waG (zc7 I hg hm boot_enumerate ?_ (by decide) (by decide));refine waL (thn (ha pos pins s Y H _ I h) λus s1 ⟨vs,H1,I1,rv,q1⟩=>?_) hs rfl;obtain⟨a,e,⟨xs,hq⟩,q⟩:=q1;subst e;obtain⟨u,rfl,r1⟩:=zib rv;obtain rfl:u=Value.ref a:=r1;obtain⟨its,rv,pt,hz⟩:=I1.list hq;refine call_enumerate_list pt.isList λh' en ti sz k=>?_
 have alt:a<s1.heap.objs.size:=let ⟨o,n,e,_⟩:=pt;waf e
 refine wcr en ⟨s1.heap.objs.size+1,[s1.heap.objs.size+1,s1.heap.objs.size],_,_,H1,rfl,I1.kept (t':=s1.toks) k,zik a _ _ (Nat.succ_ne_self _) (wax (Nat.lt_succ_of_lt alt)) (wax alt),⟨⟨_,en⟩,ti⟩,λb hb=>?_,q⟩;rcases wah.mp hb with z|z
 .subst z;exact I1.fpOk (wbN _) (I1.hok.fresh (wbN _))
 .have z:=wao.mp z
  subst z;exact I1.fpOk (wan _) (I1.hok.fresh (wan _))
end L2
namespace VD
open PySem PySem.Spec PyProof PyProof.Rows L2
inductive D where
|non|bl (b:Bool)|int (i:Int)|str (x:Str)|tup (ds:List D)|lst (ds:List D)|dct (ks:List Key) (ds:List D)|scr (p:Addr)|exc (c:Str) (ns:List Str) (ds:List D)
mutual
def D.beq:D->D->Bool
|.non,.non=>true
|.bl a,.bl b=>a == b
|.int a,.int b=>a == b
|.str a,.str b=>a == b
|.tup a,.tup b=>D.beqL a b
|.lst a,.lst b=>D.beqL a b
|.dct ks a,.dct ls b=>decide (ks=ls)&&D.beqL a b
|.scr a,.scr b=>a == b
|.exc c ns a,.exc c' ms b=>c == c'&&decide (ns=ms)&&D.beqL a b
|_,_=>false
def D.beqL:List D->List D->Bool
|[],[]=>true
|a::as,b::bs=>D.beq a b&&D.beqL as bs
|_,_=>false
end
mutual
theorem D.beq_iff:∀(a b:D),D.beq a b=true↔a=b
|.non,b=>by cases b <;> simp[D.beq]
|.bl _,b=>by cases b <;> simp[D.beq]
|.int _,b=>by cases b <;> simp[D.beq]
|.str _,b=>by cases b <;> simp[D.beq]
|.tup xs,b=>by cases b <;> simp[D.beq,D.beqL_iff xs]
|.lst xs,b=>by cases b <;> simp[D.beq,D.beqL_iff xs]
|.dct ks xs,b=>by cases b <;> simp[D.beq,D.beqL_iff xs]
|.scr _,b=>by cases b <;> simp[D.beq]
|.exc c ns xs,b=>by cases b <;> simp[D.beq,D.beqL_iff xs,and_assoc]
theorem D.beqL_iff:∀(a b:List D),D.beqL a b=true↔a=b
|[],b=>by cases b <;> simp[D.beqL]
|x::xs,b=>by
   cases b with
  |nil=>simp[D.beqL]
  |cons y ys=>simp[D.beqL,D.beq_iff x y,D.beqL_iff xs ys]
end
instance:DecidableEq D:=λa b=>decidable_of_iff _ (D.beq_iff a b)
instance:Inhabited D:=⟨.non⟩
def Exh (K:W.Frag)(H:Hp)(J:Addr->Prop)(a:Addr)(c:Str)(ns:List Str)(vs:List V):Prop:=
 J a/\∃oa C,W.nsIn K mainGlobals c=some (some (.ref C))/\H a=some (.frz oa (.ext λ_=>True))/\oa.cls=.ref C/\PySem.W.notCls oa=true/\
   ((ns = []/\vs = []/\oa.dict=none)\/∃d od,oa.dict=some d/\J d/\H d=some (.frz od (.xd (ns.zip vs)))/\ns.length=vs.length)
mutual
inductive Rp (K:W.Frag)(H:Hp)(J:Addr->Prop):V->D->Prop
|non:Rp K H J .non .non
|bl (b:Bool):Rp K H J (.bl b) (.bl b)
|int (i:Int):Rp K H J (.int i) (.int i)
|str (x:Str):Rp K H J (.str x) (.str x)
|scr (p:Addr):Rp K H J (.ref p) (.scr p)
|tup {p:Addr}{vs:List V}{ds:List D}(h:SqT K H p vs) (r:RpL K H J vs ds):Rp K H J (.ref p) (.tup ds)
|lst {p:Addr}{vs:List V}{ds:List D}(h:H p=some (.lst vs)) (j:J p) (r:RpL K H J vs ds):Rp K H J (.ref p) (.lst ds)
|dct {p:Addr}{kvs:List (Key×V)}{vs:List V}{ks:List Key}{ds:List D}(h:H p=some (.dK kvs)) (j:J p) (ek:kvs.map (·.1)=ks) (ev:kvs.map (·.2)=vs) (r:RpL K H J vs ds):Rp K H J (.ref p) (.dct ks ds)
|exc {p:Addr}{c:Str}{ns:List Str}{vs:List V}{ds:List D}(h:Exh K H J p c ns vs) (r:RpL K H J vs ds):Rp K H J (.ref p) (.exc c ns ds)
inductive RpL (K:W.Frag)(H:Hp)(J:Addr->Prop):List V->List D->Prop
|nil:RpL K H J [] []
|cons {v:V}{d:D}{vs:List V}{ds:List D}(h:Rp K H J v d) (t:RpL K H J vs ds):RpL K H J (v::vs) (d::ds)
end
structure Keep (K:W.Frag)(H:Hp)(J:Addr->Prop)(H':Hp)(J':Addr->Prop):Prop where
 jj:∀a,J a->J' a
 jo:∀p o,J p->H p=some o->H' p=some o
 tp:∀p vs,SqT K H p vs->SqT K H' p vs
section
variable {K:W.Frag}{H H' H1 H2 Hz:Hp}{J J' J1 J2 Jz:Addr->Prop}
def Keep.refl:Keep K H J H J:=⟨λ_ h=>h,λ_ _ _ h=>h,λ_ _ h=>h⟩
def Keep.trans (a:Keep K H J H1 J1)(b:Keep K H1 J1 H2 J2):Keep K H J H2 J2:=⟨λp h=>b.jj p (a.jj p h),λp o j h=>b.jo p o (a.jj p j) (a.jo p o j h),λp vs h=>b.tp p vs (a.tp p vs h)⟩
def Exh.keep {a:Addr}{c:Str}{ns:List Str}{vs:List V}(k:Keep K H J H' J')(h:Exh K H J a c ns vs):Exh K H' J' a c ns vs:=by
 obtain⟨j,oa,C,h1,h2,h3,h4,h5⟩:=h;refine⟨k.jj _ j,oa,C,h1,k.jo _ _ j h2,h3,h4,h5.imp (λh=>h) λ⟨d,od,h6,h7,h8,h9⟩=>⟨d,od,h6,k.jj _ h7,k.jo _ _ h7 h8,h9⟩⟩
mutual
theorem Rp.keep {v:V}{d:D}(k:Keep K H J H' J'):Rp K H J v d->Rp K H' J' v d
|.non=>.non
|.bl b=>.bl b
|.int i=>.int i
|.str x=>.str x
|.scr p=>.scr p
|.tup h r=>.tup (k.tp _ _ h) (RpL.keep k r)
|.lst h j r=>.lst (k.jo _ _ j h) (k.jj _ j) (RpL.keep k r)
|.dct h j ek ev r=>.dct (k.jo _ _ j h) (k.jj _ j) ek ev (RpL.keep k r)
|.exc h r=>.exc (h.keep k) (RpL.keep k r)
theorem RpL.keep {vs:List V}{ds:List D}(k:Keep K H J H' J'):RpL K H J vs ds->RpL K H' J' vs ds
|.nil=>.nil
|.cons h t=>.cons (Rp.keep k h) (RpL.keep k t)
end
def zlo (h:Same H H')(p:Addr)(vs:List V):SqT K H p vs->SqT K H' p vs:=by
 rintro((h1|⟨o,h1⟩)|h1)
 .exact .inl (.inl (h _ _ h1))
 .exact .inl (.inr ⟨o,h _ _ h1⟩)
 .exact .inr h1
structure Up (H:Hp)(J:Addr->Prop)(H':Hp)(J':Addr->Prop):Prop where
 same:Same H H'
 jj:∀a,J a->J' a
 jn:∀a,J' a->J a\/H a=none
 ja:∀a,J' a->H' a≠none
def Up.keep (u:Up H J H' J'):Keep K H J H' J':=⟨u.jj,λp o _ h=>u.same p o h,zlo u.same⟩
theorem Up.refl (ja:∀a,J a->H a≠none):Up H J H J:=⟨Same.refl H,λ_ h=>h,λ_ h=>.inl h,ja⟩
theorem Up.trans (a:Up H J H1 J1)(b:Up H1 J1 H2 J2):Up H J H2 J2:=⟨a.same.trans b.same,λp h=>b.jj p (a.jj p h),λp h=>by
 rcases b.jn p h with h|h
 .exact a.jn p h
 .exact .inr (a.same.free h),b.ja⟩
def Up.new {p:Addr}(ja:∀a,J a->H a≠none)(hp:H p=none)(o:HO):Up H J (upd H p o) J:=
 ⟨ze9 hp o,λ_ h=>h,λ_ h=>.inl h,λa h=>by
  by_cases e:a=p
  .subst e;rw[zai];simp
  .rw[zah e];exact ja a h⟩
def Up.newJ {p:Addr}(ja:∀a,J a->H a≠none)(hp:H p=none)(o:HO):Up H J (upd H p o) (λa=>J a\/a=p):=
 ⟨ze9 hp o,λ_ h=>.inl h,λa h=>by rcases h with h|h;exact .inl h;subst h;exact .inr hp,λa h=>by
  by_cases e:a=p
  .subst e;rw[zai];simp
  .rw[zah e];rcases h with h|h;exact ja a h;exact absurd h e⟩
theorem RpL.length:∀{vs:List V}{ds:List D},RpL K H J vs ds->vs.length=ds.length
|_,_,.nil=>rfl
|_,_,.cons _ t=>by simp[RpL.length t]
theorem RpL.get:∀{vs:List V}{ds:List D}{i:Nat}{d:D},RpL K H J vs ds->ds[i]?=some d->∃v,vs[i]?=some v/\Rp K H J v d
|_,_,_,_,.nil,e=>by simp at e
|_,_,0,_,.cons h _,e=>by simp at e;subst e;exact⟨_,rfl,h⟩
|_,_,i+1,d,.cons _ t,e=>by
   obtain⟨v,h1,h2⟩:=RpL.get (i:=i) (d:=d) t (by simpa using e);exact⟨v,by simpa using h1,h2⟩
theorem RpL.append:∀{vs us:List V}{ds es:List D},RpL K H J vs ds->RpL K H J us es->RpL K H J (vs++us) (ds++es)
|_,_,_,_,.nil,s=>s
|_,_,_,_,.cons h t,s=>.cons h (RpL.append t s)
theorem RpL.take:∀{vs:List V}{ds:List D}(n:Nat),RpL K H J vs ds->RpL K H J (vs.take n) (ds.take n)
|_,_,0,_=>.nil
|_,_,_+1,.nil=>.nil
|_,_,n+1,.cons h t=>.cons h (RpL.take n t)
theorem RpL.drop:∀{vs:List V}{ds:List D}(n:Nat),RpL K H J vs ds->RpL K H J (vs.drop n) (ds.drop n)
|_,_,0,h=>h
|_,_,_+1,.nil=>.nil
|_,_,n+1,.cons _ t=>RpL.drop n t
theorem RpL.reverse:∀{vs:List V}{ds:List D},RpL K H J vs ds->RpL K H J vs.reverse ds.reverse
|_,_,.nil=>.nil
|_,_,.cons h t=>by
   rw[wbX,wbX];exact(RpL.reverse t).append (.cons h .nil)
theorem RpL.set:∀{vs:List V}{ds:List D}(i:Nat) {v:V}{d:D},RpL K H J vs ds->Rp K H J v d->RpL K H J (vs.set i v) (ds.set i d)
|_,_,_,_,_,.nil,_=>.nil
|_,_,0,_,_,.cons _ t,h=>.cons h t
|_,_,i+1,_,_,.cons q t,h=>.cons q (RpL.set i t h)
theorem RpL.at {vs:List V}{ds:List D}{i:Int}{d:D}(r:RpL K H J vs ds)(h:atI ds i=some d):∃v,atI vs i=some v/\Rp K H J v d:=by
 unfold atI at h⊢;rw[r.length];cases e:ixN ds.length i with
|none=>rw[e] at h;cases h
|some j=>rw[e] at h;exact r.get h
end
mutual
inductive RpU (K:W.Frag)(H:Hp)(J:Addr->Prop):Nat->V->D->List Addr->Prop
|frz {v:V}{d:D}(h:Rp K H J v d):RpU K H J 0 v d []
|lst {n:Nat}{a:Addr}{vs:List V}{ds:List D}{A:List Addr}(h:H a=some (.lst vs)) (r:RpUL K H J n vs ds A):RpU K H J (n+1) (.ref a) (.lst ds) (a::A)
|dct {n:Nat}{a:Addr}{kvs:List (Key×V)}{vs:List V}{ks:List Key}{ds:List D}{A:List Addr}(h:H a=some (.dK kvs)) (ek:kvs.map (·.1)=ks) (ev:kvs.map (·.2)=vs) (r:RpUL K H J n vs ds A):RpU K H J (n+1) (.ref a) (.dct ks ds) (a::A)
inductive RpUL (K:W.Frag)(H:Hp)(J:Addr->Prop):Nat->List V->List D->List Addr->Prop
|nil {n:Nat}:RpUL K H J n [] [] []
|cons {n:Nat}{v:V}{d:D}{vs:List V}{ds:List D}{A B:List Addr}(h:RpU K H J n v d A) (t:RpUL K H J n vs ds B):RpUL K H J n (v::vs) (d::ds) (A++B)
end
def MutO:HO->Prop
|.lst _=>True
|.dK _=>True
|_=>False
section
variable {K:W.Frag}{H H' H1 H2 Hz:Hp}{J J' J1 J2 Jz:Addr->Prop}
mutual
theorem RpU.keep {n:Nat}{v:V}{d:D}{A:List Addr}(k:Keep K H J H' J')(hA:∀b∈A,∀o,H b=some o->H' b=some o):RpU K H J n v d A->RpU K H' J' n v d A
|.frz h=>.frz (h.keep k)
|.lst h r=>.lst (hA _ wak _ h) (RpUL.keep k (λb hb=>hA b (wag _ hb)) r)
|.dct h ek ev r=>.dct (hA _ wak _ h) ek ev (RpUL.keep k (λb hb=>hA b (wag _ hb)) r)
theorem RpUL.keep {n:Nat}{vs:List V}{ds:List D}{A:List Addr}(k:Keep K H J H' J')(hA:∀b∈A,∀o,H b=some o->H' b=some o):RpUL K H J n vs ds A->RpUL K H' J' n vs ds A
|.nil=>.nil
|.cons h t=>.cons (RpU.keep k (λb hb=>hA b (wcb _ hb)) h) (RpUL.keep k (λb hb=>hA b (way _ hb)) t)
end
mutual
theorem RpU.some {n:Nat}{v:V}{d:D}{A:List Addr}:RpU K H J n v d A->∀b∈A,∃o,H b=Option.some o/\MutO o
|.frz _=>λb hb=>absurd hb (by simp)
|.lst h r=>λb hb=>by
   rcases wah.mp hb with rfl|hb
   .exact⟨_,h,trivial⟩
   .exact RpUL.some r b hb
|.dct h _ _ r=>λb hb=>by
   rcases wah.mp hb with rfl|hb
   .exact⟨_,h,trivial⟩
   .exact RpUL.some r b hb
theorem RpUL.some {n:Nat}{vs:List V}{ds:List D}{A:List Addr}:RpUL K H J n vs ds A->∀b∈A,∃o,H b=Option.some o/\MutO o
|.nil=>λb hb=>absurd hb (by simp)
|.cons h t=>λb hb=>by
   rcases waC.mp hb with hb|hb
   .exact RpU.some h b hb
   .exact RpUL.some t b hb
end
mutual
theorem RpU.rp {n:Nat}{v:V}{d:D}{A:List Addr}(j:∀a,J a->J' a)(hA:∀b∈A,J' b):RpU K H J n v d A->Rp K H J' v d
|.frz h=>h.keep ⟨j,λ_ _ _ h=>h,λ_ _ h=>h⟩
|.lst h r=>.lst h (hA _ wak) (RpUL.rp j (λb hb=>hA b (wag _ hb)) r)
|.dct h ek ev r=>.dct h (hA _ wak) ek ev (RpUL.rp j (λb hb=>hA b (wag _ hb)) r)
theorem RpUL.rp {n:Nat}{vs:List V}{ds:List D}{A:List Addr}(j:∀a,J a->J' a)(hA:∀b∈A,J' b):RpUL K H J n vs ds A->RpL K H J' vs ds
|.nil=>.nil
|.cons h t=>.cons (RpU.rp j (λb hb=>hA b (wcb _ hb)) h) (RpUL.rp j (λb hb=>hA b (way _ hb)) t)
end
theorem RpUL.zero:∀{vs:List V}{ds:List D}{A:List Addr},RpUL K H J 0 vs ds A->RpL K H J vs ds/\A = []
|_,_,_,.nil=>⟨.nil,rfl⟩
|_,_,_,.cons (.frz h) t=>by
   obtain⟨r,e⟩:=RpUL.zero t;subst e;exact⟨.cons h r,rfl⟩
theorem RpUL.of:∀{vs:List V}{ds:List D},RpL K H J vs ds->RpUL K H J 0 vs ds []
|_,_,.nil=>.nil
|_,_,.cons h t=>.cons (A:=[]) (B:=[]) (.frz h) (RpUL.of t)
def RpU.one {v:V}{ds:List D}{A:List Addr}(h:RpU K H J 1 v (.lst ds) A):∃a vs,v=.ref a/\A = [a]/\H a=Option.some (.lst vs)/\RpL K H J vs ds:=by
 cases h with
|lst h r=>obtain⟨r',rfl⟩:=r.zero;exact⟨_,_,rfl,rfl,h,r'⟩
def RpU.oneD {v:V}{ks:List Key}{ds:List D}{A:List Addr}(h:RpU K H J 1 v (.dct ks ds) A):∃a kvs vs,v=.ref a/\A = [a]/\H a=Option.some (.dK kvs)/\kvs.map (·.1)=ks/\kvs.map (·.2)=vs/\RpL K H J vs ds:=by
 cases h with
|dct h e1 e2 r=>obtain⟨r',rfl⟩:=r.zero;exact⟨_,_,_,rfl,rfl,h,e1,e2,r'⟩
theorem RpUL.length {n:Nat}:∀{vs:List V}{ds:List D}{A:List Addr},RpUL K H J n vs ds A->vs.length=ds.length
|_,_,_,.nil=>rfl
|_,_,_,.cons _ t=>by simp[RpUL.length t]
theorem RpUL.append {n:Nat}:∀{vs us:List V}{ds es:List D}{A B:List Addr},RpUL K H J n vs ds A->RpUL K H J n us es B->RpUL K H J n (vs++us) (ds++es) (A++B)
|_,_,_,_,_,_,.nil,s=>s
|_,_,_,_,_,_,.cons h t,s=>by rw[waN];exact .cons h (RpUL.append t s)
theorem RpUL.split {n:Nat}:∀{vs:List V}{ds:List D}{A:List Addr}(i:Nat) {d:D},RpUL K H J n vs ds A->ds[i]?=Option.some d->∃v A1 A2 A3,vs[i]?=Option.some v/\A=A1++(A2++A3)/\RpU K H J n v d A2/\
 ∀(H':Hp) (J':Addr->Prop) (u:V) (e:D) (B:List Addr),Keep K H J H' J'->(∀b∈A1++A3,∀o,H b=Option.some o->H' b=Option.some o)->RpU K H' J' n u e B->RpUL K H' J' n (vs.set i u) (ds.set i e) (A1++(B++A3))
|_,_,_,_,_,.nil,e=>by simp at e
|_,_,_,0,_,.cons (A:=A) (B:=B) h t,e=>by
   simp at e;subst e;exact⟨_,[],A,B,rfl,rfl,h,λH' J' u e C k hk r=>RpUL.cons (A:=C) (B:=B) r (t.keep k (λb hb=>hk b (by simpa using hb)))⟩
|_,_,_,i+1,d,.cons (A:=A) (B:=B) h t,e=>by
   obtain⟨v,A1,A2,A3,hv,rfl,hr,up⟩:=RpUL.split i t (by simpa using e);refine⟨v,A++A1,A2,A3,by simpa using hv,by simp,hr,λH' J' u e C k hk r=>?_⟩;rw[waN];exact .cons (h.keep k (λb hb=>hk b (by simp[hb]))) (up H' J' u e C k (λb hb=>hk b (by simp at hb⊢;rcases hb with hb|hb <;> simp[hb])) r)
def RpW (K:W.Frag)(H:Hp)(J:Addr->Prop)(v:V)(d:D):Prop:=Rp K H J v d\/∃A,RpU K H J 1 v d A
theorem RpW.lst {v:V}{ds:List D}(h:RpW K H J v (.lst ds)):∃p vs,v=.ref p/\H p=some (.lst vs)/\RpL K H J vs ds:=by
 rcases h with h|⟨A,h⟩
 .cases h with|lst h j r=>exact⟨_,_,rfl,h,r⟩
 .obtain⟨a,vs,rfl,_,h,r⟩:=h.one;exact⟨a,vs,rfl,h,r⟩
theorem RpW.tup {v:V}{ds:List D}(h:RpW K H J v (.tup ds)):∃p vs,v=.ref p/\SqT K H p vs/\RpL K H J vs ds:=by
 rcases h with h|⟨A,h⟩
 .cases h with|tup h r=>exact⟨_,_,rfl,h,r⟩
 .cases h
theorem RpW.dct {v:V}{ks:List Key}{ds:List D}(h:RpW K H J v (.dct ks ds)):∃p kvs vs,v=.ref p/\H p=some (.dK kvs)/\kvs.map (·.1)=ks/\kvs.map (·.2)=vs/\RpL K H J vs ds:=by
 rcases h with h|⟨A,h⟩
 .cases h with|dct h j e1 e2 r=>exact⟨_,_,_,rfl,h,e1,e2,r⟩
 .obtain⟨a,kvs,vs,rfl,_,h,e1,e2,r⟩:=h.oneD;exact⟨a,kvs,vs,rfl,h,e1,e2,r⟩
theorem RpW.int {v:V}{i:Int}(h:RpW K H J v (.int i)):v=.int i:=by
 rcases h with h|⟨A,h⟩ <;> cases h
 rfl
theorem RpW.str {v:V}{i:Str}(h:RpW K H J v (.str i)):v=.str i:=by
 rcases h with h|⟨A,h⟩ <;> cases h
 rfl
theorem RpW.bl {v:V}{i:Bool}(h:RpW K H J v (.bl i)):v=.bl i:=by
 rcases h with h|⟨A,h⟩ <;> cases h
 rfl
theorem RpW.non {v:V}(h:RpW K H J v .non):v=.non:=by
 rcases h with h|⟨A,h⟩ <;> cases h
 rfl
end
inductive SV where
|un|val (d:D)|own (n:Nat) (d:D)|par (n:Nat) (d:D)
abbrev En:=List SV
structure Pr where
 ps:List (Nat×Addr×Nat)
 fpo:Nat->List Addr
def Pr.no:Pr:=⟨[],λ_=>[]⟩
def Pr.has (O:Pr)(b:Addr):Prop:=∃i,b∈O.fpo i
def OwAt (K:W.Frag)(Hz H:Hp)(J:Addr->Prop)(O:List Addr)(x:Option (Option V))(A:List Addr):Option SV->Prop
|some (.own n d)=>(∃v,x=some (some v)/\RpU K H J n v d A)/\∀b∈A,Hz b=none
|some (.par n d)=>(∃v,x=some (some v)/\RpU K H J n v d A)/\∀b∈A,Hz b=none\/b∈O
|_=>A = []
structure Ow (K:W.Frag)(Hz:Hp)(O:Pr)(Z:En)(Y:L2.St)(H:Hp)(J:Addr->Prop)(fp:Nat->List Addr):Prop where
 at':∀i,OwAt K Hz H J (O.fpo i) (Y[i]?) (fp i) (Z[i]?)
 nd:∀i,(fp i).Nodup
 nj:∀i,∀b∈fp i,¬J b
 dj:∀i j,i≠j->∀b∈fp i,b∉fp j
structure ST (K:W.Frag)(Hz:Hp)(Jz:Addr->Prop)(O:Pr)(Z:En)(Y:L2.St)(H:Hp)(J:Addr->Prop):Prop where
 same:∀b o,¬O.has b->Hz b=some o->H b=some o
 j0:∀a,Jz a->J a
 jn:∀a,J a->Jz a\/Hz a=none
 ja:∀a,J a->H a≠none
 len:Y.length=Z.length
 vl:∀(i:Nat) (d:D),Z[i]?=some (.val d)->∃v,Y[i]?=some (some v)/\Rp K H J v d
 ow:∃fp,Ow K Hz O Z Y H J fp
 ps:∀q∈O.ps,Y[q.1]?=some (some (.ref q.2.1))/\∃d,Z[q.1]?=some (.par q.2.2 d)
 al:∀b,Hz b≠none->H b≠none
section
variable {K:W.Frag}{H H' H1 H2 Hz:Hp}{J J' J1 J2 Jz:Addr->Prop}{Z:En}{Y:L2.St}{O:Pr}
def OwAt.ru {B:List Addr}{x:Option (Option V)}{A:List Addr}{s:Option SV}(h:OwAt K Hz H J B x A s):∀b∈A,∃o,H b=some o/\MutO o:=by
 match s,h with
|some (.own n d),⟨⟨v,_,r⟩,_⟩=>exact r.some
|some (.par n d),⟨⟨v,_,r⟩,_⟩=>exact r.some
|none,h=>cases h;simp
|some .un,h=>cases h;simp
|some (.val _),h=>cases h;simp
theorem OwAt.keep {B:List Addr}{x:Option (Option V)}{A:List Addr}{s:Option SV}(k:Keep K H J H' J')(hA:∀b∈A,∀o,H b=some o->H' b=some o)(h:OwAt K Hz H J B x A s):OwAt K Hz H' J' B x A s:=by
 match s,h with
|some (.own n d),⟨⟨v,e,r⟩,q⟩=>exact⟨⟨v,e,r.keep k hA⟩,q⟩
|some (.par n d),⟨⟨v,e,r⟩,q⟩=>exact⟨⟨v,e,r.keep k hA⟩,q⟩
|none,h=>exact h
|some .un,h=>exact h
|some (.val _),h=>exact h
def ST.up (s:ST K Hz Jz O Z Y H J)(u:Up H J H' J'):ST K Hz Jz O Z Y H' J' where
 same:=λb o hb h=>u.same b o (s.same b o hb h)
 j0:=λa h=>u.jj a (s.j0 a h)
 jn:=λa h=>by
  rcases u.jn a h with h|h
  .exact s.jn a h
  .right
   cases e:Hz a with
  |none=>rfl
  |some o=>
     exact absurd h (s.al a (by rw[e];simp))
 ja:=u.ja
 len:=s.len
 vl:=λi d h=>let ⟨v,e,r⟩:=s.vl i d h;⟨v,e,r.keep u.keep⟩
 ow:=by
  obtain⟨fp,w⟩:=s.ow;refine⟨fp,λi=>(w.at' i).keep u.keep λb _=>u.same b,w.nd,λi b hb j=>?_,w.dj⟩;rcases u.jn b j with j|j
  .exact w.nj i b hb j
  .obtain⟨o,e,_⟩:=(w.at' i).ru b hb;rw[e] at j;cases j
 ps:=s.ps
 al:=λb h=>by
  cases e:H b with
 |none=>exact absurd e (s.al b h)
 |some o=>rw[u.same b o e];simp
def zdd {C:Type}{l:List C}{i j:Nat}{x y:C}(h:(l.set i x)[j]?=some y):(j=i/\y=x)\/(j≠i/\l[j]?=some y):=by
 by_cases e:j=i
 .subst e;by_cases hl:j<l.length
  .rw[wau hl] at h;exact .inl ⟨rfl,(wav h).symm⟩
  .rw[waO (by simp;omega)] at h;cases h
 .rw[wae (Ne.symm e)] at h;exact .inr ⟨e,h⟩
def zjw (fp:Nat->List Addr)(i:Nat)(A:List Addr):Nat->List Addr:=λj=>if j=i then A else fp j
def zbr {fp:Nat->List Addr}{i:Nat}{A:List Addr}:zjw fp i A i=A:=if_pos rfl
def zbZ {fp:Nat->List Addr}{i j:Nat}{A:List Addr}(h:j≠i):zjw fp i A j=fp j:=if_neg h
def Ow.put {fp:Nat->List Addr}{Z':En}{Y':L2.St}{i:Nat}{A:List Addr}(w:Ow K Hz O Z Y H J fp)(k:Keep K H J H' J')(hs:∀j,j≠i->∀b∈fp j,∀o,H b=some o->H' b=some o)
 (hj:∀j,j≠i->∀b∈fp j,¬J' b) (hρ:∀j,j≠i->Z'[j]?=Z[j]?) (hσ:∀j,j≠i->Y'[j]?=Y[j]?) (hi:OwAt K Hz H' J' (O.fpo i) (Y'[i]?) A (Z'[i]?)) (nd:A.Nodup) (nj:∀b∈A,¬J' b) (dj:∀j,j≠i->∀b∈A,b∉fp j) :
 Ow K Hz O Z' Y' H' J' (zjw fp i A) where
 at':=λj=>by
  by_cases e:j=i
  .subst e;rw[zbr];exact hi
  .rw[zbZ e,hρ j e,hσ j e];exact(w.at' j).keep k (hs j e)
 nd:=λj=>by
  by_cases e:j=i
  .subst e;rw[zbr];exact nd
  .rw[zbZ e];exact w.nd j
 nj:=λj b hb=>by
  by_cases e:j=i
  .subst e;rw[zbr] at hb;exact nj b hb
  .rw[zbZ e] at hb;exact hj j e b hb
 dj:=λj l ne b hb=>by
  by_cases e:j=i
  .subst e;rw[zbr] at hb;rw[zbZ (Ne.symm ne)];exact dj l (Ne.symm ne) b hb
  .rw[zbZ e] at hb;by_cases e2:l=i
   .subst e2;rw[zbr];exact λhb2=>dj j e b hb2 hb
   .rw[zbZ e2];exact w.dj j l ne b hb
def ST.psNe {i:Nat}(s:ST K Hz Jz O Z Y H J)(hp:∀n d,Z[i]?≠some (.par n d)):∀q∈O.ps,q.1≠i:=λq hq e=>by
 obtain⟨_,d,h⟩:=s.ps q hq;exact hp _ d (e▸h)
theorem ST.set {i:Nat}{v:V}{d:D}(s:ST K Hz Jz O Z Y H J)(r:Rp K H J v d)(hi:i<Z.length)(hp:∀n d,Z[i]?≠some (.par n d)):ST K Hz Jz O (Z.set i (.val d)) (Y.set i (some v)) H J where
 same:=s.same
 j0:=s.j0
 jn:=s.jn
 ja:=s.ja
 len:=by simp[s.len]
 vl:=λj e h=>by
  rcases zdd h with⟨rfl,he⟩|⟨ne,h⟩
  .cases he;exact⟨v,wau (by rw[s.len];exact hi),r⟩
  .rw[wae (Ne.symm ne)];exact s.vl j e h
 ow:=by
  obtain⟨fp,w⟩:=s.ow;refine⟨_,w.put (i:=i) (A:=[]) Keep.refl (λ_ _ _ _ _ h=>h) (λj _=>w.nj j) (λj e=>wae (Ne.symm e)) (λj e=>wae (Ne.symm e)) ?_ waU (by simp) (by simp)⟩;rw[wau hi];rfl
 ps:=λq hq=>by
  have e:=s.psNe hp q hq
  rw[wae (Ne.symm e),wae (Ne.symm e)];exact s.ps q hq
 al:=s.al
def ST.drop {i:Nat}(s:ST K Hz Jz O Z Y H J)(hp:∀n d,Z[i]?≠some (.par n d)):ST K Hz Jz O (Z.set i .un) Y H J where
 same:=s.same
 j0:=s.j0
 jn:=s.jn
 ja:=s.ja
 len:=by simp[s.len]
 vl:=λj e h=>by
  rcases zdd h with⟨rfl,he⟩|⟨ne,h⟩
  .cases he
  .exact s.vl j e h
 ow:=by
  obtain⟨fp,w⟩:=s.ow;refine⟨_,w.put (i:=i) (A:=[]) Keep.refl (λ_ _ _ _ _ h=>h) (λj _=>w.nj j) (λj e=>wae (Ne.symm e)) (λ_ _=>rfl) ?_ waU (by simp) (by simp)⟩;by_cases hi:i<Z.length
  .rw[wau hi];rfl
  .have z:(List.set Z i SV.un)[i]?=none:=waO (by simp;omega)
   rw[z];rfl
 ps:=λq hq=>by
  have e:=s.psNe hp q hq
  rw[wae (Ne.symm e)];exact s.ps q hq
 al:=s.al
def ST.setOwn {i n:Nat}{v:V}{d:D}{A:List Addr}(s:ST K Hz Jz O Z Y H1 J1)(u:Up H1 J1 H J)(fr:∀b∈A,H1 b=none)(r:RpU K H J n v d A)(nd:A.Nodup)(nj:∀b∈A,¬J b)(hi:i<Z.length)(hp:∀n d,Z[i]?≠some (.par n d)) :
 ST K Hz Jz O (Z.set i (.own n d)) (Y.set i (some v)) H J:=by
 have s':=s.up u
 refine⟨s'.same,s'.j0,s'.jn,s'.ja,by simp[s.len],λj e h=>?_,?_,λq hq=>?_,s'.al⟩
 .rcases zdd h with⟨rfl,he⟩|⟨ne,h⟩
  .cases he
  .rw[wae (Ne.symm ne)];exact s'.vl j e h
 .obtain⟨fp,w⟩:=s.ow;have h0:∀b∈A,Hz b=none:=λb hb=>by
   cases e:Hz b with
  |none=>rfl
  |some o=>exact absurd (fr b hb) (s.al b (by rw[e];simp))
  refine⟨_,w.put (i:=i) (A:=A) u.keep (λj _ b _ o=>u.same b o) (λj _ b hb jb=>?_) (λj e=>wae (Ne.symm e)) (λj e=>wae (Ne.symm e)) ?_ nd nj (λj _ b hb hb2=>?_)⟩
  .rcases u.jn b jb with jb|jb
   .exact w.nj j b hb jb
   .obtain⟨o,e,_⟩:=(w.at' j).ru b hb;rw[e] at jb;cases jb
  .rw[wau hi,wau (by rw[s.len];exact hi)];exact⟨⟨v,rfl,r⟩,h0⟩
  .obtain⟨o,e,_⟩:=(w.at' j).ru b hb2;rw[fr b hb] at e;cases e
 .have e:=s.psNe hp q hq
  rw[wae (Ne.symm e),wae (Ne.symm e)];exact s.ps q hq
def ownD:Option SV->Option (Nat×D)
|some (.own n d)=>some (n,d)
|some (.par n d)=>some (n,d)
|_=>none
def putD (s:Option SV)(d:D):SV:=match s with
|some (.own n _)=>.own n d
|some (.par n _)=>.par n d
|_=>.un
def zlp {A:List Addr}(hm:∀b∈A,∃o,H b=some o/\MutO o)(nj:∀b∈A,¬J b)(hs:∀b o,b∉A->H b=some o->H' b=some o)(jj:∀a,J a->J' a):Keep K H J H' J':=⟨jj,λp o j h=>hs p o (λhp=>nj p hp j) h,λp vs h=>by
 rcases h with(h|⟨u,h⟩)|h
 .exact .inl (.inl (hs p _ (λhp=>by obtain⟨o,e,m⟩:=hm p hp;rw[h] at e;cases e;exact m) h))
 .exact .inl (.inr ⟨u,hs p _ (λhp=>by obtain⟨o,e,m⟩:=hm p hp;rw[h] at e;cases e;exact m) h⟩)
 .exact .inr h⟩
def ST.chg {i n:Nat}{d:D}(s:ST K Hz Jz O Z Y H J)(h0:ownD (Z[i]?)=some (n,d)):∃v A,Y[i]?=some (some v)/\RpU K H J n v d A/\A.Nodup/\(∀b∈A,¬J b)/\
 ∀(H':Hp) (J':Addr->Prop) (d':D) (A':List Addr),(∀b o,b∉A->H b=some o->H' b=some o)->(∀b,H b≠none->H' b≠none)->(∀a,J a->J' a)->(∀a,J' a->J a\/H a=none)->(∀a,J' a->H' a≠none)->
  RpU K H' J' n v d' A'->A'.Nodup->(∀b∈A',¬J' b)->(∀b∈A',b∈A\/H b=none)->ST K Hz Jz O (Z.set i (putD (Z[i]?) d')) Y H' J'/\Keep K H J H' J':=by
 obtain⟨fp,w⟩:=s.ow;have hat:=w.at' i
 have hi:i<Z.length:=by
  by_cases hi:i<Z.length
  .exact hi
  .rw[waO (by omega)] at h0;cases h0
 have main:(∃v,Y[i]?=some (some v)/\RpU K H J n v d (fp i))/\(∀b∈fp i,Hz b=none\/b∈O.fpo i):=by
  match hq:Z[i]?,h0,hat with
 |some (.own m e),h0,hat=>cases h0;exact⟨hat.1,λb hb=>.inl (hat.2 b hb)⟩
 |some (.par m e),h0,hat=>cases h0;exact hat
 obtain⟨⟨v,hv,r⟩,hfr⟩:=main;refine⟨v,fp i,hv,r,w.nd i,w.nj i,λH' J' d' A' hs ha jj jn ja r' nd nj hA=>?_⟩;have kp:Keep K H J H' J':=zlp (λb hb=>hat.ru b hb) (w.nj i) hs jj
 have out:∀j,j≠i->∀b∈fp j,b∉fp i:=λj e b hb hb2=>w.dj j i e b hb hb2
 have free:∀b,H b=none->Hz b=none:=λb hb=>by
  cases e:Hz b with
 |none=>rfl
 |some o=>exact absurd hb (s.al b (by rw[e];simp))
 refine⟨⟨λb o hb h=>hs b o (λhb2=>?_) (s.same b o hb h),λa h=>jj a (s.j0 a h),λa h=>?_,ja,by simp[s.len],λj e h=>?_,?_,λq hq=>?_,λb h=>ha b (s.al b h)⟩,kp⟩
 .rcases hfr b hb2 with h2|h2
  .rw[h2] at h;cases h
  .exact hb ⟨i,h2⟩
 .rcases jn a h with h|h
  .exact s.jn a h
  .exact .inr (free a h)
 .rcases zdd h with⟨rfl,he⟩|⟨ne,h⟩
  .exfalso
   unfold putD at he;match hq:Z[j]?,h0 with
  |some (.own m e),h0=>rw[hq] at he;cases he
  |some (.par m e),h0=>rw[hq] at he;cases he
  .obtain⟨v,e1,r1⟩:=s.vl j e h;exact⟨v,e1,r1.keep kp⟩
 .refine⟨_,w.put (i:=i) (A:=A') kp (λj e b hb o ho=>hs b o (out j e b hb) ho) (λj e b hb jb=>?_) (λj e=>wae (Ne.symm e)) (λ_ _=>rfl) ?_ nd nj (λj e b hb hb2=>?_)⟩
  .rcases jn b jb with jb|jb
   .exact w.nj j b hb jb
   .obtain⟨o,e,_⟩:=(w.at' j).ru b hb;rw[e] at jb;cases jb
  .rw[wau hi];match hq:Z[i]?,h0,hat with
  |some (.own m e),h0,hat=>
     cases h0;refine⟨⟨v,hv,r'⟩,λb hb=>?_⟩;rcases hA b hb with hb|hb
     .exact hat.2 b hb
     .exact free b hb
  |some (.par m e),h0,hat=>
     cases h0;refine⟨⟨v,hv,r'⟩,λb hb=>?_⟩;rcases hA b hb with hb|hb
     .exact hat.2 b hb
     .exact .inl (free b hb)
  .rcases hA b hb with hb|hb
   .exact w.dj j i e b hb2 hb
   .obtain⟨o,e,_⟩:=(w.at' j).ru b hb2;rw[hb] at e;cases e
 .obtain⟨e1,e,h⟩:=s.ps q hq;refine⟨e1,?_⟩;by_cases e:q.1=i
  .rw[e,wau hi];rw[e] at h;exact⟨d',by rw[h];rfl⟩
  .rw[wae (Ne.symm e)];exact⟨_,h⟩
def ST.frz {i n:Nat}{d:D}(s:ST K Hz Jz O Z Y H J)(h0:Z[i]?=some (.own n d)):∃J',ST K Hz Jz O (Z.set i (.val d)) Y H J'/\Keep K H J H J':=by
 obtain⟨fp,w⟩:=s.ow;have hat:=w.at' i
 rw[h0] at hat
 obtain⟨⟨v,hv,r⟩,hn⟩:=hat
 have hi:i<Z.length:=(wai.mp h0).1
 have kp:Keep K H J H (λb=>J b\/b∈fp i):=⟨λ_ h=>.inl h,λ_ _ _ h=>h,λ_ _ h=>h⟩
 refine⟨λb=>J b\/b∈fp i,⟨s.same,λb h=>.inl (s.j0 b h),λb h=>?_,λb h=>?_,by simp[s.len],λj e h=>?_,?_,λq hq=>?_,s.al⟩,kp⟩
 .rcases h with h|h
  .exact s.jn b h
  .exact .inr (hn b h)
 .rcases h with h|h
  .exact s.ja b h
  .obtain⟨o,e,_⟩:=r.some b h;rw[e];simp
 .rcases zdd h with⟨rfl,he⟩|⟨ne,h⟩
  .cases he;exact⟨v,hv,r.rp (λ_ h=>.inl h) (λb hb=>.inr hb)⟩
  .obtain⟨v,e1,r1⟩:=s.vl j e h;exact⟨v,e1,r1.keep kp⟩
 .refine⟨_,w.put (i:=i) (A:=[]) kp (λ_ _ _ _ _ h=>h) (λj e b hb jb=>?_) (λj e=>wae (Ne.symm e)) (λ_ _=>rfl) ?_ waU (by simp) (by simp)⟩
  .rcases jb with jb|jb
   .exact w.nj j b hb jb
   .exact w.dj j i e b hb jb
  .rw[wau hi];rfl
 .have e:=s.psNe (i:=i) (λn d z=>by rw[h0] at z;cases z) q hq
  rw[wae (Ne.symm e)];exact s.ps q hq
def Weak (Z' Z:En):Prop:=Z'.length=Z.length/\∀(i:Nat),Z'[i]?=Z[i]?\/Z'[i]?=some .un
def isUn:Option SV->Bool
|some .un=>true
|_=>false
def ST.weak {Z':En}(s:ST K Hz Jz O Z Y H J)(w:Weak Z' Z)(hO:O.ps = []):ST K Hz Jz O Z' Y H J where
 same:=s.same
 j0:=s.j0
 jn:=s.jn
 ja:=s.ja
 len:=by rw[s.len,w.1]
 vl:=λi d h=>by
  rcases w.2 i with e|e
  .exact s.vl i d (e▸h)
  .rw[e] at h;cases h
 ow:=by
  obtain⟨fp,o⟩:=s.ow;have key:∀i:Nat,(Z'[i]?=some SV.un)\/Z'[i]?=Z[i]?:=λi=>(w.2 i).symm
  refine⟨λi=>if isUn (Z'[i]?) then[] else fp i,λi=>?_,λi=>?_,λi b hb=>?_,λi j ne b hb=>?_⟩
  .have q:=o.at' i
   rcases key i with e|e
   .rw[e];rfl
   .rw[e];cases z:Z[i]? with
   |none=>rw[z] at q;exact q
   |some x=>
      rw[z] at q;cases x with
     |un=>rfl
     |val d=>exact q
     |own n d=>exact q
     |par n d=>exact q
  .split
   .exact waU
   .exact o.nd i
  .split at hb
   .cases hb
   .exact o.nj i b hb
  .split at hb
   .cases hb
   .split
    .simp
    .exact o.dj i j ne b hb
 ps:=by rw[hO];simp
 al:=s.al
end
end VD
namespace VD
open PySem PySem.Spec PyProof PyProof.Rows L2
abbrev FE:=En->Option D
abbrev FT:=En->Option Bool
abbrev FA:=En->Option (List D)
def lim:Nat:=100000
def zeg:lim<sizeLine:=by decide
def zch {n:Nat}(h:n<=lim):n<=sizeLine:=wal h (wbg zeg)
def mkL (ds:List D):Option D:=if ds.length<=lim then some (.lst ds) else none
def mkT (ds:List D):Option D:=if ds.length<=lim then some (.tup ds) else none
def zlq {ds:List D}{d:D}(h:mkL ds=some d):ds.length<=lim/\d=.lst ds:=by
 unfold mkL at h;by_cases e:ds.length<=lim
 .rw[if_pos e] at h;exact⟨e,(wav h).symm⟩
 .rw[if_neg e] at h;cases h
def zfa {ds:List D}{d:D}(h:mkT ds=some d):ds.length<=lim/\d=.tup ds:=by
 unfold mkT at h;by_cases e:ds.length<=lim
 .rw[if_pos e] at h;exact⟨e,(wav h).symm⟩
 .rw[if_neg e] at h;cases h
section
variable (K:W.Frag)
def zgL (H:Hp)(J:Addr->Prop)(d:D)(Q:VK):Prop:=∀v H' J',Up H J H' J'->Rp K H' J' v d->Q v H'
def zpD (H:Hp)(J:Addr->Prop)(d:D)(Q:VK):Prop:=∀v H' J',Up H J H' J'->RpW K H' J' v d->Q v H'
def zmI (H:Hp)(J:Addr->Prop)(ds:List D)(Q:VK):Prop:=∀p vs H' J',Up H J H' J'->H p=none->¬J' p->H' p=some (.lst vs)->RpL K H' J' vs ds->Q (.ref p) H'
def zmJ (H:Hp)(J:Addr->Prop)(b:Bool)(Q:Bool->Hp->Prop):Prop:=∀H' J',Up H J H' J'->Q b H'
def zpE (H:Hp)(J:Addr->Prop)(ds:List D)(Q:List V->Hp->Prop):Prop:=∀vs H' J',Up H J H' J'->RpL K H' J' vs ds->Q vs H'
def GoE (t:TE)(f:FE):Prop:=∀Hz Jz O Z Y H J d Q,ST K Hz Jz O Z Y H J->f Z=some d->zgL K H J d Q->t Y H Q
def GoW (t:TE)(f:FE):Prop:=∀Hz Jz O Z Y H J d Q,ST K Hz Jz O Z Y H J->f Z=some d->zpD K H J d Q->t Y H Q
def GoN (t:TE)(f:FA):Prop:=∀Hz Jz O Z Y H J d Q,ST K Hz Jz O Z Y H J->f Z=some d->zmI K H J d Q->t Y H Q
def GoT (t:TT)(f:FT):Prop:=∀Hz Jz O Z Y H J b Q,ST K Hz Jz O Z Y H J->f Z=some b->zmJ H J b Q->t Y H Q
def GoA (t:TA)(f:FA):Prop:=∀Hz Jz O Z Y H J ds Q,ST K Hz Jz O Z Y H J->f Z=some ds->zpE K H J ds Q->t Y H Q
end
def VE (X:Cx)(e:Expr)(f:FE):Prop:=∃t,PE X e t/\GoE X.K t f
def VW (X:Cx)(e:Expr)(f:FE):Prop:=∃t,PE X e t/\GoW X.K t f
def VN (X:Cx)(e:Expr)(f:FA):Prop:=∃t,PE X e t/\GoN X.K t f
def VT (X:Cx)(e:Expr)(f:FT):Prop:=∃t,PT X e t/\GoT X.K t f
def VP (X:Cx)(e:Expr)(f:FT):Prop:=∃t,PW X e t/\GoT X.K t f
def VA (X:Cx)(es:List Expr)(f:FA):Prop:=∃t,PA X es t/\GoA X.K t f
def RpWL (K:W.Frag)(H:Hp)(J:Addr->Prop):List V->List D->Prop
|[],[]=>True
|v::vs,d::ds=>RpW K H J v d/\RpWL K H J vs ds
|_,_=>False
def GoAW (K:W.Frag)(t:TA)(f:FA):Prop:=∀Hz Jz O Z Y H J ds Q,ST K Hz Jz O Z Y H J->f Z=some ds->(∀vs H' J',Up H J H' J'->RpWL K H' J' vs ds->Q vs H')->t Y H Q
def VAW (X:Cx)(es:List Expr)(f:FA):Prop:=∃t,PA X es t/\GoAW X.K t f
def RpW.up {K:W.Frag}{H H':Hp}{J J':Addr->Prop}{v:V}{d:D}(h:RpW K H J v d)(u:Up H J H' J'):RpW K H' J' v d:=by
 rcases h with h|⟨A,h⟩
 .exact .inl (h.keep u.keep)
 .exact .inr ⟨A,h.keep u.keep λb _ o=>u.same b o⟩
section
variable {X:Cx}{a b c e:Expr}{es rest:List Expr}{fa fb:FE}{ft fu:FT}{fl:FA}{pos p:Pos}
theorem VE.w (h:VE X a fa):VW X a fa:=by
 obtain⟨t,p,g⟩:=h;exact⟨t,p,λHz Jz O Z Y H J d Q s e w=>g Hz Jz O Z Y H J d Q s e λv H' J' u r=>w v H' J' u (.inl r)⟩
def eVar (i:Nat):FE:=λZ=>match Z[i]? with|some (.val d)=>some d|_=>none
def eRd (i:Nat):FE:=λZ=>match Z[i]? with|some (.val d)=>some d|some (.own 1 d)=>some d|some (.par 1 d)=>some d|_=>none
def zpF {K:W.Frag}{i:Nat}:GoE K (tVar i) (eVar i):=by
 intro Hz Jz O Z Y H J d Q s e w;unfold eVar at e;split at e
 .rename_i d' q
  cases e;obtain⟨v,hv,r⟩:=s.vl i _ q;exact⟨v,hv,w v H J (Up.refl s.ja) r⟩
 .cases e
def ST.rd {K:W.Frag}{Hz H:Hp}{Jz J:Addr->Prop}{O:Pr}{Z:En}{Y:L2.St}{i n:Nat}{d:D}(s:ST K Hz Jz O Z Y H J)(h:ownD (Z[i]?)=some (n,d)):∃v A,Y[i]?=some (some v)/\RpU K H J n v d A:=by
 obtain⟨v,A,h1,h2,_⟩:=s.chg h;exact⟨v,A,h1,h2⟩
def zpG {K:W.Frag}{i:Nat}:GoW K (tVar i) (eRd i):=by
 intro Hz Jz O Z Y H J d Q s e w;unfold eRd at e;split at e
 .rename_i d' q
  cases e;obtain⟨v,hv,r⟩:=s.vl i _ q;exact⟨v,hv,w v H J (Up.refl s.ja) (.inl r)⟩
 .rename_i d' q
  cases e;obtain⟨v,A,hv,r⟩:=s.rd (i:=i) (n:=1) (d:=d) (by rw[q];rfl);exact⟨v,hv,w v H J (Up.refl s.ja) (.inr ⟨A,r⟩)⟩
 .rename_i d' q
  cases e;obtain⟨v,A,hv,r⟩:=s.rd (i:=i) (n:=1) (d:=d) (by rw[q];rfl);exact⟨v,hv,w v H J (Up.refl s.ja) (.inr ⟨A,r⟩)⟩
 .cases e
def vv (i:Nat){x:Str}{pos:Pos}(hN:X.N[i]?=some x:=by rfl)(hv:Vis X.env.scope x:=by first|exact Or.inl rfl|exact Or.inr (Or.inl rfl)|exact Or.inr (Or.inr rfl))(hd:(x == ("__debug__":Str))=false:=by decide)
 (hcd:(x == ("__classdict__":Str))=false:=by decide):VE X (.Name x pos) (eVar i):=⟨_,zcA hN hv hd hcd,zpF⟩
def vr (i:Nat){x:Str}{pos:Pos}(hN:X.N[i]?=some x:=by rfl)(hv:Vis X.env.scope x:=by first|exact Or.inl rfl|exact Or.inr (Or.inl rfl)|exact Or.inr (Or.inr rfl))(hd:(x == ("__debug__":Str))=false:=by decide)
 (hcd:(x == ("__classdict__":Str))=false:=by decide):VW X (.Name x pos) (eRd i):=⟨_,zcA hN hv hd hcd,zpG⟩
def eK (d:D):FE:=λ_=>some d
def go_c {K:W.Frag}{v:V}{d:D}(h:∀H J,Rp K H J v d):GoE K (tC v) (eK d):=by
 intro Hz Jz O Z Y H J d' Q s e w;cases e;exact w v H J (Up.refl s.ja) (h H J)
def zae {i j pos}:VE X (.Constant (.int i) j pos) (eK (.int i)):=⟨_,zpb,go_c λ_ _=>.int i⟩
def zaN {i j pos}:VE X (.Constant (.bool i) j pos) (eK (.bl i)):=⟨_,zrb,go_c λ_ _=>.bl i⟩
def zci {i j pos}:VE X (.Constant (.str i) j pos) (eK (.str i)):=⟨_,zpd,go_c λ_ _=>.str i⟩
def zcE {j pos}:VE X (.Constant .none j pos) (eK .non):=⟨_,zpc,go_c λ_ _=>.non⟩
structure GlobD (K:W.Frag)(mg:Str->Option Value)(x:Str)(d:D):Prop where
 ex:∃u v,mg x=some u/\RelV v u/\∀H J,Rp K H J v d
def zaI {x:Str}{d:D}{pos:Pos}(G:GlobD X.K X.mg x d)(hg:Gl X x:=by rfl)(hd:(x == ("__debug__":Str))=false:=by decide):VE X (.Name x pos) (eK d):=by
 obtain⟨u,v,h1,h2,h3⟩:=G.ex;exact⟨_,ziU hg h1 h2 hd,go_c h3⟩
def e2 (F:D->D->Option D)(f g:FE):FE:=λZ=>(f Z).bind λx=>(g Z).bind λy=>F x y
def e1 (F:D->Option D)(f:FE):FE:=λZ=>(f Z).bind F
def bind_some {C B:Type}{o:Option C}{f:C->Option B}{b:B}(h:o.bind f=some b):∃a,o=some a/\f a=some b:=by
 cases o with
|none=>cases h
|some a=>exact⟨a,rfl,h⟩
def Im2 (K:W.Frag)(r:R2)(F:D->D->Option D):Prop:=∀H J x y d e d' Q,(∀a,J a->H a≠none)->RpW K H J x d->RpW K H J y e->F d e=some d'->zgL K H J d' Q->r x y H Q
def zlr {K:W.Frag}{r:R2}{F:D->D->Option D}{ta tb:TE}(im:Im2 K r F)(ga:GoW K ta fa)(gb:GoW K tb fb):GoE K (tOp r ta tb) (e2 F fa fb):=by
 intro Hz Jz O Z Y H J d Q s e w;obtain⟨x,ex,e⟩:=bind_some e;obtain⟨y,ey,e⟩:=bind_some e;refine ga Hz Jz O Z Y H J x _ s ex λv1 H1 J1 u1 r1=>?_
 refine gb Hz Jz O Z Y H1 J1 y _ (s.up u1) ey λv2 H2 J2 u2 r2=>?_
 exact im H2 J2 v1 v2 x y d Q u2.ja (r1.up u2) r2 e λv3 H3 J3 u3 r3=>w v3 H3 J3 (u1.trans (u2.trans u3)) r3
def zaJ {op:Operator}{r:R2}{F:D->D->Option D}(ho:OpR X (binaryOp op) r)(im:Im2 X.K r F)(ha:VW X a fa)(hb:VW X b fb):VE X (.BinOp a op b pos) (e2 F fa fb):=by
 obtain⟨ta,pa,ga⟩:=ha;obtain⟨tb,pb,gb⟩:=hb;exact⟨_,zpm ho pa pb,zlr im ga gb⟩
def zb0 {op:CmpOp}{r:R2}{F:D->D->Option D}(ho:OpR X (compareOp op) r)(im:Im2 X.K r F)(ha:VW X a fa)(hb:VW X b fb)(hm:behindInMarks op b=false):VE X (.Compare a [op] [b] pos) (e2 F fa fb):=by
 obtain⟨ta,pa,ga⟩:=ha;obtain⟨tb,pb,gb⟩:=hb;exact⟨_,znt ho pa pb hm,zlr im ga gb⟩
def dB:D->Option Bool
|.bl b=>some b
|_=>none
def t1 (f:FE):FT:=λZ=>(f Z).bind dB
def zjx {K:W.Frag}{t:TE}{f:FE}(g:GoE K t f):GoT K (zk8 t) (t1 f):=by
 intro Hz Jz O Z Y H J d Q s e w;obtain⟨x,ex,e⟩:=bind_some e;refine g Hz Jz O Z Y H J x _ s ex λv H1 J1 u1 r1=>?_
 cases x with
|bl k=>cases e;cases r1;exact⟨_,rfl,w H1 J1 u1⟩
|_=>cases e
def zaP {op:CmpOp}{r:R2}{F:D->D->Option D}(ho:OpR X (compareOp op) r)(im:Im2 X.K r F)(ha:VW X a fa)(hb:VW X b fb)(hm:behindInMarks op b=false):VT X (.Compare a [op] [b] pos) (t1 (e2 F fa fb)):=by
 obtain⟨ta,pa,ga⟩:=ha;obtain⟨tb,pb,gb⟩:=hb;exact⟨_,zi8 ho pa pb hm,zjx (zlr im ga gb)⟩
def e3 (F G:D->D->Option D)(f g h:FE):FE:=λZ=>(f Z).bind λx=>(g Z).bind λy=>(F x y).bind λz=>(dB z).bind λk=>if k then(h Z).bind λw=>G y w else some (.bl false)
def zls {K:W.Frag}{r r':R2}{F G:D->D->Option D}{ta tb tc:TE}{fc:FE}(im:Im2 K r F)(im':Im2 K r' G)(ga:GoW K ta fa)(gb:GoW K tb fb)(gc:GoW K tc fc):GoE K (zmC r r' ta tb tc) (e3 F G fa fb fc):=by
 intro Hz Jz O Z Y H J d Q s e w;obtain⟨x,ex,e⟩:=bind_some e;obtain⟨y,ey,e⟩:=bind_some e;obtain⟨z,ez,e⟩:=bind_some e;obtain⟨k,ek,e⟩:=bind_some e;refine ga Hz Jz O Z Y H J x _ s ex λv1 H1 J1 u1 r1=>?_
 refine gb Hz Jz O Z Y H1 J1 y _ (s.up u1) ey λv2 H2 J2 u2 r2=>?_
 refine im H2 J2 v1 v2 x y z _ u2.ja (r1.up u2) r2 ez λv3 H3 J3 u3 r3=>?_
 cases z with
|bl k'=>
   have ek':k'=k:=wav ek
   subst ek';cases r3;refine⟨_,rfl,?_⟩;cases k' with
  |true=>
     refine iteT ?_;have e':((fc Z).bind λw=>G y w)=some d:=e
     obtain⟨q,eq,e'⟩:=bind_some e';refine gc Hz Jz O Z Y H3 J3 q _ (s.up (u1.trans (u2.trans u3))) eq λv4 H4 J4 u4 r4=>?_
     exact im' H4 J4 v2 v4 y q d Q u4.ja (r2.up (u3.trans u4)) r4 e' λv5 H5 J5 u5 r5=>w v5 H5 J5 (u1.trans (u2.trans (u3.trans (u4.trans u5)))) r5
  |false=>
     refine iteF ?_;have e':some (D.bl false)=some d:=e
     cases e';exact w _ H3 J3 (u1.trans (u2.trans u3)) (.bl false)
|_=>cases ek
def zlt {op op':CmpOp}{r r':R2}{F G:D->D->Option D}{fc:FE}(ho:OpR X (compareOp op) r)(im:Im2 X.K r F)(ho':OpR X (compareOp op') r')(im':Im2 X.K r' G)(ha:VW X a fa)(hb:VW X b fb)(hc:VW X c fc)(hm:lastMarks [op,op'] [b,c]=false:=by with_unfolding_all rfl):VT X (.Compare a [op,op'] [b,c] pos) (t1 (e3 F G fa fb fc)):=by
 obtain⟨ta,pa,ga⟩:=ha;obtain⟨tb,pb,gb⟩:=hb;obtain⟨tc,pc,gc⟩:=hc;exact⟨_,zk9 ho ho' pa pb pc hm,zjx (zls im im' ga gb gc)⟩
def dTru:D->Option Bool
|.non=>some false
|.bl b=>some b
|.int i=>some (i != 0)
|.str x=>if x.length<=lim then some ((x.length:Int) != 0) else none
|.tup ds=>some (!ds.isEmpty)
|.lst ds=>some (!ds.isEmpty)
|.dct ks _=>some (!ks.isEmpty)
|.scr _=>none
|.exc _ _ _=>none
def tT (f:FE):FT:=λZ=>(f Z).bind dTru
def zeh {C B:Type}{xs:List C}{ys:List B}(h:xs.length=ys.length):xs.isEmpty=ys.isEmpty:=by
 cases xs <;> cases ys <;> first|rfl|cases h
def zpH {K:W.Frag}{H:Hp}{J:Addr->Prop}{v:V}{d:D}{k:Bool}(r:RpW K H J v d)(h:dTru d=some k):TruV K v H k:=by
 cases d with
|non=>rw[r.non];cases h;rfl
|bl b=>rw[r.bl];cases h;rfl
|int b=>rw[r.int];cases h;rfl
|str x=>
   rw[r.str];have h:(if x.length<=lim then some ((x.length:Int) != 0) else none)=some k:=h
   by_cases e:x.length<=lim
   .rw[if_pos e] at h;cases h;exact⟨zch e,rfl⟩
   .rw[if_neg e] at h;cases h
|tup ds=>obtain⟨p,vs,rfl,h1,h2⟩:=r.tup;cases h;exact .inr (.inl ⟨vs,h1,by rw[zeh h2.length]⟩)
|lst ds=>obtain⟨p,vs,rfl,h1,h2⟩:=r.lst;cases h;exact .inl ⟨vs,SqL.of h1,by rw[zeh h2.length]⟩
|scr p=>cases h
|exc _ _ _=>cases h
|dct ks ds=>
   obtain⟨p,kvs,vs,rfl,h1,h2,h3,h4⟩:=r.dct;cases h;refine .inr (.inr ⟨kvs,h1,?_⟩);rw[<-h2];cases kvs <;> rfl
def za9 (ha:VW X a fa)(he:∀whole,isTrue a X.env whole=(do let v <-whole;standAt a.pos;holding [v] (truthy v)):=by intro _;rfl):VT X a (tT fa):=by
 obtain⟨ta,pa,ga⟩:=ha;refine⟨_,zla pa he,?_⟩;intro Hz Jz O Z Y H J d Q s e w;obtain⟨x,ex,e⟩:=bind_some e;refine ga Hz Jz O Z Y H J x _ s ex λv H1 J1 u1 r1=>?_
 exact⟨d,zpH r1 e,w H1 J1 u1⟩
def tAndF (f g:FT):FT:=λZ=>(f Z).bind λk=>if k then g Z else some false
def tOrF (f g:FT):FT:=λZ=>(f Z).bind λk=>if k then some true else g Z
def tNotF (f:FT):FT:=λZ=>(f Z).bind λk=>some (!k)
def zpI {K:W.Frag}{t u:TT}(g1:GoT K t ft)(g2:GoT K u fu):GoT K (tAnd t u) (tAndF ft fu):=by
 intro Hz Jz O Z Y H J d Q s e w;obtain⟨k,ek,e⟩:=bind_some e;refine g1 Hz Jz O Z Y H J k _ s ek λH1 J1 u1=>?_
 cases k with
|true=>exact iteT (g2 Hz Jz O Z Y H1 J1 d Q (s.up u1) e λH2 J2 u2=>w H2 J2 (u1.trans u2))
|false=>have e':some false=some d:=e;cases e';exact iteF (w H1 J1 u1)
def zrr {K:W.Frag}{t u:TT}(g1:GoT K t ft)(g2:GoT K u fu):GoT K (tOr t u) (tOrF ft fu):=by
 intro Hz Jz O Z Y H J d Q s e w;obtain⟨k,ek,e⟩:=bind_some e;refine g1 Hz Jz O Z Y H J k _ s ek λH1 J1 u1=>?_
 cases k with
|true=>have e':some true=some d:=e;cases e';exact iteT (w H1 J1 u1)
|false=>exact iteF (g2 Hz Jz O Z Y H1 J1 d Q (s.up u1) e λH2 J2 u2=>w H2 J2 (u1.trans u2))
def znQ (h:VT X a ft):VP X (.BoolOp .And [a] pos) ft:=let ⟨t,p,g⟩:=h;⟨t,ziW p,g⟩
def zfT (h:VT X a ft):VP X (.BoolOp .Or [a] pos) ft:=let ⟨t,p,g⟩:=h;⟨t,zpe p,g⟩
def zpJ (h:VT X a ft)(h2:VP X (.BoolOp .And (b::rest) pos) fu):VP X (.BoolOp .And (a::b::rest) pos) (tAndF ft fu):=let ⟨_,p,g⟩:=h;let ⟨_,p2,g2⟩:=h2;⟨_,zmv p p2,zpI g g2⟩
def zil (h:VT X a ft)(h2:VP X (.BoolOp .Or (b::rest) pos) fu):VP X (.BoolOp .Or (a::b::rest) pos) (tOrF ft fu):=let ⟨_,p,g⟩:=h;let ⟨_,p2,g2⟩:=h2;⟨_,zrc p p2,zrr g g2⟩
theorem VP.t (h:VP X a ft):VT X a ft:=let ⟨t,p,g⟩:=h;⟨t,p.pt,g⟩
def zbB (h:VT X a ft):VT X (.UnaryOp .Not a pos) (tNotF ft):=by
 obtain⟨t,p,g⟩:=h;refine⟨_,zpf p,?_⟩;intro Hz Jz O Z Y H J d Q s e w;obtain⟨k,ek,e⟩:=bind_some e;cases e;exact g Hz Jz O Z Y H J k _ s ek λH1 J1 u1=>w H1 J1 u1
def eAnd (f g:FE):FE:=λZ=>(t1 f Z).bind λk=>if k then g Z else some (.bl false)
def eOr (f g:FE):FE:=λZ=>(t1 f Z).bind λk=>if k then some (.bl true) else g Z
def eNot (f:FE):FE:=λZ=>(t1 f Z).bind λk=>some (.bl (!k))
def zdN {op}(h:VE X a fa):VE X (.BoolOp op [a] pos) fa:=let ⟨_,p,g⟩:=h;⟨_,zpg p,g⟩
def zdO (h:VE X a fa)(h2:VE X (.BoolOp .And (b::rest) pos) fb):VE X (.BoolOp .And (a::b::rest) pos) (eAnd fa fb):=by
 obtain⟨t,p,g⟩:=h;obtain⟨t2,p2,g2⟩:=h2;refine⟨_,zph p p2,?_⟩;intro Hz Jz O Z Y H J d Q s e w;obtain⟨k,ek,e⟩:=bind_some e;obtain⟨x,ex,ek⟩:=bind_some ek;refine g Hz Jz O Z Y H J x _ s ex λv H1 J1 u1 r1=>?_
 cases x with
|bl k'=>
   have ek':k'=k:=wav ek
   subst ek';cases r1;refine⟨_,rfl,?_⟩;cases k' with
  |true=>exact iteT (g2 Hz Jz O Z Y H1 J1 d Q (s.up u1) e λv2 H2 J2 u2 r2=>w v2 H2 J2 (u1.trans u2) r2)
  |false=>have e':some (D.bl false)=some d:=e;cases e';exact iteF (w _ H1 J1 u1 (.bl false))
|_=>cases ek
def zrs (h:VE X a fa)(h2:VE X (.BoolOp .Or (b::rest) pos) fb):VE X (.BoolOp .Or (a::b::rest) pos) (eOr fa fb):=by
 obtain⟨t,p,g⟩:=h;obtain⟨t2,p2,g2⟩:=h2;refine⟨_,zrf p p2,?_⟩;intro Hz Jz O Z Y H J d Q s e w;obtain⟨k,ek,e⟩:=bind_some e;obtain⟨x,ex,ek⟩:=bind_some ek;refine g Hz Jz O Z Y H J x _ s ex λv H1 J1 u1 r1=>?_
 cases x with
|bl k'=>
   have ek':k'=k:=wav ek
   subst ek';cases r1;refine⟨_,rfl,?_⟩;cases k' with
  |false=>exact iteF (g2 Hz Jz O Z Y H1 J1 d Q (s.up u1) e λv2 H2 J2 u2 r2=>w v2 H2 J2 (u1.trans u2) r2)
  |true=>have e':some (D.bl true)=some d:=e;cases e';exact iteT (w _ H1 J1 u1 (.bl true))
|_=>cases ek
def zpK (h:VE X a fa):VE X (.UnaryOp .Not a pos) (eNot fa):=by
 obtain⟨t,p,g⟩:=h;refine⟨_,zpi p,?_⟩;intro Hz Jz O Z Y H J d Q s e w;obtain⟨k,ek,e⟩:=bind_some e;obtain⟨x,ex,ek⟩:=bind_some ek;refine g Hz Jz O Z Y H J x _ s ex λv H1 J1 u1 r1=>?_
 cases x with
|bl k'=>
   have ek':k'=k:=wav ek
   subst ek';cases r1;cases e;exact⟨_,rfl,w _ H1 J1 u1 (.bl _)⟩
|_=>cases ek
def aNil:FA:=λ_=>some []
def aCons (f:FE)(g:FA):FA:=λZ=>(f Z).bind λx=>(g Z).bind λxs=>some (x::xs)
def zaf:VA X [] aNil:=⟨_,zc8,λHz Jz O Z Y H J ds Q s e w=>by cases e;exact w [] H J (Up.refl s.ja) .nil⟩
def zaa (ha:VE X e fa)(hr:VA X es fl)(hs:starEach (e::es) X.env=(false,eval e X.env)::starEach es X.env:=by rfl):VA X (e::es) (aCons fa fl):=by
 obtain⟨t,p,g⟩:=ha;obtain⟨t2,p2,g2⟩:=hr;refine⟨_,zbg p p2 hs,?_⟩;intro Hz Jz O Z Y H J ds Q s e w;obtain⟨x,ex,e⟩:=bind_some e;obtain⟨xs,exs,e⟩:=bind_some e;cases e;refine g Hz Jz O Z Y H J x _ s ex λv1 H1 J1 u1 r1=>?_
 refine g2 Hz Jz O Z Y H1 J1 xs _ (s.up u1) exs λvs H2 J2 u2 r2=>?_
 exact w _ H2 J2 (u1.trans u2) (.cons (r1.keep u2.keep) r2)
def zaO:VAW X [] aNil:=⟨_,zc8,λHz Jz O Z Y H J ds Q s e w=>by cases e;exact w [] H J (Up.refl s.ja) trivial⟩
def zav (ha:VW X e fa)(hr:VAW X es fl)(hs:starEach (e::es) X.env=(false,eval e X.env)::starEach es X.env:=by rfl):VAW X (e::es) (aCons fa fl):=by
 obtain⟨t,p,g⟩:=ha;obtain⟨t2,p2,g2⟩:=hr;refine⟨_,zbg p p2 hs,?_⟩;intro Hz Jz O Z Y H J ds Q s e w;obtain⟨x,ex,e⟩:=bind_some e;obtain⟨xs,exs,e⟩:=bind_some e;cases e;refine g Hz Jz O Z Y H J x _ s ex λv1 H1 J1 u1 r1=>?_
 refine g2 Hz Jz O Z Y H1 J1 xs _ (s.up u1) exs λvs H2 J2 u2 r2=>?_
 exact w _ H2 J2 (u1.trans u2) ⟨r1.up u2,r2⟩
def eTup (f:FA):FE:=λZ=>(f Z).bind mkT
def zaQ {x1}(h:VA X es fl):VE X (.Tuple es x1 pos) (eTup fl):=by
 obtain⟨t,p,g⟩:=h;refine⟨_,zmD p,?_⟩;intro Hz Jz O Z Y H J d Q s e w;obtain⟨xs,exs,e⟩:=bind_some e;obtain⟨hl,rfl⟩:=zfa e;refine g Hz Jz O Z Y H J xs _ s exs λvs H1 J1 u1 r1=>⟨by rw[r1.length];exact zch hl,λp hp=>?_⟩
 have un:=Up.new u1.ja hp (.tup vs)
 exact w _ _ _ (u1.trans un) (.tup (SqT.of zai) (r1.keep un.keep))
def aMk (f:FA):FA:=λZ=>(f Z).bind λds=>if ds.length<=lim then some ds else none
def zlu {f:FA}{Z:En}{ds:List D}(h:aMk f Z=some ds):f Z=some ds/\ds.length<=lim:=by
 obtain⟨xs,e1,e2⟩:=bind_some h;by_cases hl:xs.length<=lim
 .rw[if_pos hl] at e2;cases e2;exact⟨e1,hl⟩
 .rw[if_neg hl] at e2;cases e2
def zbI (h:VA X es fl):VN X (.List es pos) (aMk fl):=by
 obtain⟨t,p,g⟩:=h;refine⟨_,zmE p,?_⟩;intro Hz Jz O Z Y H J ds Q s e w;obtain⟨e1,hl⟩:=zlu e;refine g Hz Jz O Z Y H J ds _ s e1 λvs H1 J1 u1 r1=>⟨by rw[r1.length];exact zch hl,λp hp=>?_⟩
 have un:=Up.new u1.ja hp (.lst vs)
 exact w p vs _ J1 (u1.trans un) (u1.same.free hp) (λj=>u1.ja p j hp) zai (r1.keep un.keep)
def eL (f:FA):FE:=λZ=>(f Z).bind λds=>some (.lst ds)
def zmK {K:W.Frag}{t:TE}{f:FA}(g:GoN K t f):GoE K t (eL f):=by
 intro Hz Jz O Z Y H J d Q s e w;obtain⟨ds,e1,e⟩:=bind_some e;cases e;refine g Hz Jz O Z Y H J ds _ s e1 λp vs H1 J1 u1 hp nj h1 r1=>?_
 have kp:Keep K H1 J1 H1 (λa=>J1 a\/a=p):=⟨λ_ h=>.inl h,λ_ _ _ h=>h,λ_ _ h=>h⟩
 refine w (.ref p) H1 (λa=>J1 a\/a=p) ⟨u1.same,λa h=>.inl (u1.jj a h),λa h=>?_,λa h=>?_⟩ (.lst h1 (.inr rfl) (r1.keep kp))
 .rcases h with h|rfl
  .exact u1.jn a h
  .exact .inr hp
 .rcases h with h|rfl
  .exact u1.ja a h
  .rw[h1];simp
def VN.ve {f:FA}(h:VN X a f):VE X a (eL f):=let ⟨_,p,g⟩:=h;⟨_,p,zmK g⟩
def spF (K:W.Frag)(F:List D->Option D):Sp:=λvs H Q _=>∃J ds d,(∀a,J a->H a≠none)/\RpL K H J vs ds/\F ds=some d/\zgL K H J d Q
def eCall (F:List D->Option D)(f:FA):FE:=λZ=>(f Z).bind F
def zax {k k':Nat}{x:Str}{ps:List Str}{F:List D->Option D}(C:Cal X.prog X.w X.K X.mg X.base k x ps (spF X.K F))(hr:Room k' X.A)(ha:VA X (e::es) fl)(hk:k<=k':=by decide)(hg:Gl X x:=by rfl)(hdb:(x == ("__debug__":Str))=false:=by decide)
 (he:starEach (e::es) X.env=(false,eval e X.env)::starEach es X.env:=by rfl) (hpl:(backTo pos (starEach es X.env)).any (·.1)=false:=by rfl):VE X (.Call (.Name x p) (e::es) [] pos) (eCall F fl):=by
 obtain⟨t,p,g⟩:=ha;refine⟨_,pc C hr p hk hg hdb he hpl,?_⟩;intro Hz Jz O Z Y H J d Q s e w;obtain⟨ds,e1,e⟩:=bind_some e;refine g Hz Jz O Z Y H J ds _ s e1 λvs H1 J1 u1 r1=>?_
 refine⟨J1,ds,d,u1.ja,by rw[waI];exact r1,e,λv H2 J2 u2 r2=>w v H2 J2 (u1.trans u2) r2⟩
def ImC (K:W.Frag)(r:List V->Hp->VK->Prop)(F:List D->Option D):Prop:=∀H J vs ds d Q,(∀a,J a->H a≠none)->RpWL K H J vs ds->F ds=some d->zgL K H J d Q->r vs H Q
def zpL {K:W.Frag}{r:List V->Hp->VK->Prop}{F:List D->Option D}{t:TA}(im:ImC K r F)(g:GoAW K t fl):GoE K (tCB r t) (eCall F fl):=by
 intro Hz Jz O Z Y H J d Q s e w;obtain⟨ds,e1,e⟩:=bind_some e;refine g Hz Jz O Z Y H J ds _ s e1 λvs H1 J1 u1 r1=>?_
 exact im H1 J1 vs ds d Q u1.ja r1 e λv H2 J2 u2 r2=>w v H2 J2 (u1.trans u2) r2
def ve_b {id:String}{x:Str}{r:List V->Hp->VK->Prop}{F:List D->Option D}(hc:zc5 X (.builtin id) r)(im:ImC X.K r F)(B:Blt X.mg)(hv:bootBuiltins x=some (.builtin id))(ha:VAW X (e::es) fl)(hB:x∈zbY:=by decide +kernel)(hg:Gl X x:=by rfl)(hn:x≠"__name__":=by decide)(hdb:(x == ("__debug__":Str))=false:=by decide)
 (he:starEach (e::es) X.env=(false,eval e X.env)::starEach es X.env:=by rfl) (hpl:(backTo pos (starEach es X.env)).any (·.1)=false:=by rfl):VE X (.Call (.Name x p) (e::es) [] pos) (eCall F fl):=by
 obtain⟨t,p,g⟩:=ha;exact⟨_,pb hc B hv p hB hg hn hdb he hpl,zpL im g⟩
def zpM {T:String}{x:Str}{r:List V->Hp->VK->Prop}{F:List D->Option D}(hc:zc5 X (.type T) r)(im:ImC X.K r F)(B:Blt X.mg)(hv:bootBuiltins x=some (.type T))(ha:VAW X (e::es) fl)(hB:x∈zbY:=by decide +kernel)(hg:Gl X x:=by rfl)(hn:x≠"__name__":=by decide)(hdb:(x == ("__debug__":Str))=false:=by decide)
 (he:starEach (e::es) X.env=(false,eval e X.env)::starEach es X.env:=by rfl) (hpl:(backTo pos (starEach es X.env)).any (·.1)=false:=by rfl):VE X (.Call (.Name x p) (e::es) [] pos) (eCall F fl):=by
 obtain⟨t,p,g⟩:=ha;exact⟨_,pty hc B hv p hB hg hn hdb he hpl,zpL im g⟩
end
section
variable {K:W.Frag}{X:Cx}
def dAdd:D->D->Option D
|.int i,.int j=>some (.int (i+j))
|.str x,.str y=>if x.length+y.length<=lim then some (.str (x++y)) else none
|.lst xs,.lst ys=>mkL (xs++ys)
|.tup xs,.tup ys=>if ys = [] then none else mkT (xs++ys)
|_,_=>none
def zpN (K:W.Frag):R2:=λx y H Q=>(rI0 λi j=>.int (i+j)) x y H Q\/(∃i j,x=.str i/\y=.str j/\i.length+j.length<=sizeLine/\Q (.str (i++j)) H)\/rCat x y H Q\/zpx K x y H Q
def zbP:OpR X (binaryOp .Add) (zpN X.K):=op_add.or (op_add_str.or (op_cat.or znI))
def zaY:Im2 K (zpN K) dAdd:=by
 intro H J x y d e d' Q ja hx hy hF w;match d,e,hF with
|.int i,.int j,hF=>
   cases hF;rw[hx.int,hy.int];exact .inl ⟨i,j,rfl,rfl,w _ H J (Up.refl ja) (.int _)⟩
|.str a,.str b,hF=>
   have hF:(if a.length+b.length<=lim then some (D.str (a++b)) else none)=some d':=hF
   by_cases hl:a.length+b.length<=lim
   .rw[if_pos hl] at hF;cases hF;rw[hx.str,hy.str];exact .inr (.inl ⟨a,b,rfl,rfl,zch hl,w _ H J (Up.refl ja) (.str _)⟩)
   .rw[if_neg hl] at hF;cases hF
|.lst xs,.lst ys,hF=>
   have hF:mkL (xs++ys)=some d':=hF
   obtain⟨hl,rfl⟩:=zlq hF;obtain⟨p,vs,rfl,h1,r1⟩:=hx.lst;obtain⟨q,us,rfl,h2,r2⟩:=hy.lst;refine .inr (.inr (.inl ⟨p,q,vs,us,rfl,rfl,h1,h2,?_,λc hc=>?_⟩))
   .rw[r1.length,r2.length,<-wap];exact zch hl
   .have un:=Up.newJ ja hc (.lst (vs++us))
    exact w _ _ _ un (.lst zai (.inr rfl) ((r1.append r2).keep un.keep))
|.tup xs,.tup ys,hF=>
   have hF:(if ys = [] then none else mkT (xs++ys))=some d':=hF
   by_cases hy0:ys = []
   .rw[if_pos hy0] at hF;cases hF
   .rw[if_neg hy0] at hF;obtain⟨hl,rfl⟩:=zfa hF;obtain⟨p,vs,rfl,h1,r1⟩:=hx.tup;obtain⟨q,us,rfl,h2,r2⟩:=hy.tup;refine .inr (.inr (.inr ⟨p,q,vs,us,rfl,rfl,h1,h2,?_,?_,λe=>?_,λ_ c hc=>?_⟩))
    .rintro rfl;exact hy0 (List.length_eq_zero_iff.mp (by rw[<-r2.length];rfl))
    .rw[r1.length,r2.length,<-wap];exact zch hl
    .subst e;obtain rfl:xs = []:=List.length_eq_zero_iff.mp (by rw[<-r1.length];rfl);exact w _ H J (Up.refl ja) (.tup h2 r2)
    .have un:=Up.new ja hc (.tup (vs++us))
     exact w _ _ _ un (.tup (SqT.of zai) ((r1.append r2).keep un.keep))
def dI (C:Int->Int->Prop)[∀i j,Decidable (C i j)](g:Int->Int->D):D->D->Option D
|.int i,.int j=>if C i j then some (g i j) else none
|_,_=>none
def im_I {C:Int->Int->Prop}[∀i j,Decidable (C i j)]{g:Int->Int->V}{g':Int->Int->D}(hg:∀i j H J,Rp K H J (g i j) (g' i j)):Im2 K (rI C g) (dI C g'):=by
 intro H J x y d e d' Q ja hx hy hF w;match d,e,hF with
|.int i,.int j,hF=>
   have hF:(if C i j then some (g' i j) else none)=some d':=hF
   by_cases hc:C i j
   .rw[if_pos hc] at hF;cases hF;rw[hx.int,hy.int];exact⟨i,j,rfl,rfl,hc,w _ H J (Up.refl ja) (hg i j H J)⟩
   .rw[if_neg hc] at hF;cases hF
def dI0 (g:Int->Int->D):D->D->Option D
|.int i,.int j=>some (g i j)
|_,_=>none
def zlv {g:Int->Int->V}{g':Int->Int->D}(hg:∀i j H J,Rp K H J (g i j) (g' i j)):Im2 K (rI0 g) (dI0 g'):=by
 intro H J x y d e d' Q ja hx hy hF w;match d,e,hF with
|.int i,.int j,hF=>
   cases hF;rw[hx.int,hy.int];exact⟨i,j,rfl,rfl,w _ H J (Up.refl ja) (hg i j H J)⟩
instance (i j:Int):Decidable (CMul i j):=by unfold CMul;infer_instance
instance (i j:Int):Decidable (CDiv i j):=by unfold CDiv;infer_instance
instance (i j:Int):Decidable (CPow i j):=by unfold CPow;infer_instance
def dSub:=dI0 λi j=>.int (i - j)
def dFdiv:=dI CDiv λi j=>.int (i / j)
def dMod:=dI (λ_ j=>0<j) λi j=>.int (i % j)
def dPow:=dI CPow λi j=>.int (i ^ j.toNat)
def dLe:=dI0 λi j=>.bl (decide (i<=j))
def dGt:=dI0 λi j=>.bl (decide (j<i))
def dGe:=dI0 λi j=>.bl (decide (j<=i))
def zmL:Im2 K (rI0 λi j=>.int (i - j)) dSub:=zlv λ_ _ _ _=>.int _
def zjy:Im2 K (rI CDiv λi j=>.int (i / j)) dFdiv:=im_I λ_ _ _ _=>.int _
def zdP:Im2 K (rI (λ_ j=>0<j) λi j=>.int (i % j)) dMod:=im_I λ_ _ _ _=>.int _
def zjz:Im2 K (rI CPow λi j=>.int (i ^ j.toNat)) dPow:=im_I λ_ _ _ _=>.int _
def zpO:Im2 K (rI0 λi j=>.bl (decide (i<=j))) dLe:=zlv λ_ _ _ _=>.bl _
def zfU:Im2 K (rI0 λi j=>.bl (decide (j<i))) dGt:=zlv λ_ _ _ _=>.bl _
def zlw:Im2 K (rI0 λi j=>.bl (decide (j<=i))) dGe:=zlv λ_ _ _ _=>.bl _
def dMul:D->D->Option D
|.int i,.int j=>if CMul i j then some (.int (i*j)) else none
|.str z,.int n=>if -1000<=n/\n<=1000/\z.length<=1000 then some (.str (Txt.mul z n)) else none
|.lst xs,.int k=>if 0<=k/\k<=1000/\xs.length<=1000 then some (.lst (List.replicate k.toNat xs).flatten) else none
|_,_=>none
def zpP:R2:=λx y H Q=>(rI CMul λi j=>.int (i*j)) x y H Q\/(∃z n,x=.str z/\y=.int n/\-1000<=n/\n<=1000/\z.length<=1000/\Q (.str (Txt.mul z n)) H)\/rRep x y H Q
def zim:OpR X (binaryOp .Mult) zpP:=op_mul.or (op_rep_str.or zpt)
theorem RpL.rep {H:Hp}{J:Addr->Prop}{vs:List V}{ds:List D}(r:RpL K H J vs ds):∀n:Nat,RpL K H J (List.replicate n vs).flatten (List.replicate n ds).flatten
|0=>.nil
|n+1=>by
   rw[wbc,wbc,wbI,wbI];exact r.append (RpL.rep r n)
def zeQ:Im2 K zpP dMul:=by
 intro H J x y d e d' Q ja hx hy hF w;match d,e,hF with
|.int i,.int j,hF=>
   have hF:(if CMul i j then some (D.int (i*j)) else none)=some d':=hF
   by_cases hc:CMul i j
   .rw[if_pos hc] at hF;cases hF;rw[hx.int,hy.int];exact .inl ⟨i,j,rfl,rfl,hc,w _ H J (Up.refl ja) (.int _)⟩
   .rw[if_neg hc] at hF;cases hF
|.str z,.int n,hF=>
   have hF:(if -1000<=n/\n<=1000/\z.length<=1000 then some (D.str (Txt.mul z n)) else none)=some d':=hF
   by_cases hc:-1000<=n/\n<=1000/\z.length<=1000
   .rw[if_pos hc] at hF;cases hF;rw[hx.str,hy.int];exact .inr (.inl ⟨z,n,rfl,rfl,hc.1,hc.2.1,hc.2.2,w _ H J (Up.refl ja) (.str _)⟩)
   .rw[if_neg hc] at hF;cases hF
|.lst xs,.int n,hF=>
   have hF:(if 0<=n/\n<=1000/\xs.length<=1000 then some (D.lst (List.replicate n.toNat xs).flatten) else none)=some d':=hF
   by_cases hc:0<=n/\n<=1000/\xs.length<=1000
   .rw[if_pos hc] at hF;cases hF;obtain⟨p,vs,rfl,h1,r1⟩:=hx.lst;rw[hy.int];refine .inr (.inr ⟨p,n,vs,rfl,rfl,h1,by omega,by omega,?_,λc hc=>?_⟩)
    .rw[r1.length];have h1:xs.length*n.toNat<=1000*1000:=wcL hc.2.2 (by omega)
     exact wal h1 (by decide)
    .have un:=Up.newJ ja hc (.lst (List.replicate n.toNat vs).flatten)
     exact w _ _ _ un (.lst zai (.inr rfl) ((r1.rep _).keep un.keep))
   .rw[if_neg hc] at hF;cases hF
def dV:D->V
|.non=>.non
|.bl b=>.bl b
|.int i=>.int i
|.str x=>.str x
|_=>.ty ""
def zpQ:D->Bool
|.non=>true
|.bl _=>true
|.int _=>true
|.str _=>true
|_=>false
def zdQ:D->Bool
|.non=>true
|.int _=>true
|.str _=>true
|_=>false
def cmpB:D->D->Bool
|.lst xs,.lst ys=>xs.all zdQ&&ys.all zdQ
|.tup xs,.tup ys=>xs.all zdQ&&ys.all zdQ
|.bl _,.int _=>false
|.int _,.bl _=>false
|d,e=>zpQ d&&zpQ e
def zay {p q:Prop}[Decidable p][Decidable q](h:p↔q):decide p=decide q:=by
 by_cases hp:p
 .rw[waz hp,waz (h.mp hp)]
 .rw[waq hp,waq (λz=>hp (h.mpr z))]
def dIn (neg:Bool):D->D->Option D
|x,.lst ds=>if zdQ x=true/\ds.all zdQ=true then some (.bl (if neg then !decide (x∈ds) else decide (x∈ds))) else none
|x,.tup ds=>if zdQ x=true/\ds.all zdQ=true then some (.bl (if neg then !decide (x∈ds) else decide (x∈ds))) else none
|_,_=>none
def dIs (neg:Bool):D->D->Option D
|d,.non=>some (.bl (if neg then !decide (d=.non) else decide (d=.non)))
|_,_=>none
def zjA {H:Hp}{J:Addr->Prop}{v:V}{d:D}(r:RpW K H J v d):v=.non↔d=.non:=by
 rcases r with r|⟨A,r⟩
 .cases r <;> simp
 .cases r <;> simp
def znR:Im2 K (λx y H Q=>y=.non/\Q (.bl (decide (x=.non))) H) (dIs false):=by
 intro H J x y d e d' Q ja hx hy hF w;cases e with
|non=>
   cases hF;refine⟨hy.non,?_⟩;rw[zay (zjA hx)];exact w _ H J (Up.refl ja) (.bl _)
|_=>cases hF
def zgM:Im2 K (λx y H Q=>y=.non/\Q (.bl (!decide (x=.non))) H) (dIs true):=by
 intro H J x y d e d' Q ja hx hy hF w;cases e with
|non=>
   cases hF;refine⟨hy.non,?_⟩;rw[zay (zjA hx)];exact w _ H J (Up.refl ja) (.bl _)
|_=>cases hF
def dIx:D->D->Option D
|.lst ds,.int i=>atI ds i
|.tup ds,.int i=>atI ds i
|.str z,.int i=>if z.length<=lim then(atI z.cps.toList i).map λc=>.str ⟨#[c]⟩ else none
|_,_=>none
def znS:Im2 K (rIx K) dIx:=by
 intro H J x y d e d' Q ja hx hy hF w;match d,e,hF with
|.lst ds,.int i,hF=>
   have hF:atI ds i=some d':=hF
   obtain⟨p,vs,rfl,h1,r1⟩:=hx.lst;obtain⟨v,hv,rv⟩:=r1.at hF;rw[hy.int];exact .inl ⟨p,vs,i,v,rfl,rfl,SqL.of h1,hv,w v H J (Up.refl ja) rv⟩
|.tup ds,.int i,hF=>
   have hF:atI ds i=some d':=hF
   obtain⟨p,vs,rfl,h1,r1⟩:=hx.tup;obtain⟨v,hv,rv⟩:=r1.at hF;rw[hy.int];exact .inr (.inl ⟨p,vs,i,v,rfl,rfl,h1,hv,w v H J (Up.refl ja) rv⟩)
|.str z,.int i,hF=>
   have hF:(if z.length<=lim then(atI z.cps.toList i).map λc=>D.str ⟨#[c]⟩ else none)=some d':=hF
   by_cases hl:z.length<=lim
   .rw[if_pos hl] at hF;cases q:atI z.cps.toList i with
   |none=>rw[q] at hF;cases hF
   |some c=>
      rw[q] at hF;cases hF;rw[hx.str,hy.int];exact .inr (.inr ⟨z,i,c,rfl,rfl,zch hl,q,w _ H J (Up.refl ja) (.str _)⟩)
   .rw[if_neg hl] at hF;cases hF
variable {a b:Expr}{fa fb:FE}{pos p2:Pos}
def zaZ (ha:VW X a fa)(hb:VW X b fb)(hs:zdb b:=by exact λ_ _=>rfl):VE X (.Subscript a b pos) (e2 dIx fa fb):=by
 obtain⟨ta,pa,ga⟩:=ha;obtain⟨tb,pb,gb⟩:=hb;exact⟨_,zif zfK pa pb hs,zlr znS ga gb⟩
def cut {C:Type}(xs:List C)(lo hi:Option Int):List C:=(xs.drop (HT.sIx xs.length 0 lo)).take (HT.sIx xs.length xs.length hi - HT.sIx xs.length 0 lo)
theorem RpL.cut {H:Hp}{J:Addr->Prop}{vs:List V}{ds:List D}(r:RpL K H J vs ds)(lo hi:Option Int):RpL K H J (cutV vs lo hi) (VD.cut ds lo hi):=by
 unfold cutV VD.cut;rw[r.length];exact(r.drop _).take _
def dSl:D->Option Int->Option Int->Option D
|.lst ds,lo,hi=>some (.lst (cut ds lo hi))
|.tup ds,lo,hi=>if HT.sIx ds.length 0 lo=0/\HT.sIx ds.length ds.length hi=ds.length then none else some (.tup (cut ds lo hi))
|.str z,lo,hi=>if z.length<=lim then some (.str (Txt.slice z lo hi)) else none
|_,_,_=>none
abbrev FO:=En->Option (Option Int)
def GoO (K:W.Frag)(t:TO)(f:FO):Prop:=∀Hz Jz O Z Y H J o Q,ST K Hz Jz O Z Y H J->f Z=some o->(∀H' J',Up H J H' J'->Q o H')->t Y H Q
def VO (X:Cx)(e:Option Expr)(f:FO):Prop:=∃t,PO X e t/\GoO X.K t f
def oN:FO:=λ_=>some none
def dInt:D->Option Int
|.int i=>some i
|_=>none
def oS (f:FE):FO:=λZ=>(f Z).bind λd=>(dInt d).bind λi=>some (some i)
def zbp:VO X none oN:=⟨_,zny,λHz Jz O Z Y H J o Q s e w=>by cases e;exact w H J (Up.refl s.ja)⟩
def zbq (h:VE X a fa):VO X (some a) (oS fa):=by
 obtain⟨t,p,g⟩:=h;refine⟨_,znz p,?_⟩;intro Hz Jz O Z Y H J o Q s e w;obtain⟨d,e1,e⟩:=bind_some e;obtain⟨i,e2,e⟩:=bind_some e;cases e;refine g Hz Jz O Z Y H J d _ s e1 λv H1 J1 u1 r1=>?_
 cases d with
|int k=>cases e2;cases r1;exact⟨_,rfl,w H1 J1 u1⟩
|_=>cases e2
def eSl (f:FE)(lo hi:FO):FE:=λZ=>(f Z).bind λx=>(lo Z).bind λl=>(hi Z).bind λh=>dSl x l h
def rSlD (K:W.Frag):V->Option Int->Option Int->Hp->VK->Prop:=λx lo hi H Q=>rSlL K x lo hi H Q\/rSlT K x lo hi H Q\/rSlS x lo hi H Q
def zbh {lo hi:Option Expr}{fl fh:FO}(ha:VW X a fa)(hl:VO X lo fl)(hh:VO X hi fh):VE X (.Subscript a (.Slice lo hi none p2) pos) (eSl fa fl fh):=by
 obtain⟨t,p,g⟩:=ha;obtain⟨tl,pl,gl⟩:=hl;obtain⟨th,ph,gh⟩:=hh;refine⟨_,zhp (r:=rSlD X.K) (sl_list.or (sl_tup.or zmG)) p pl ph,?_⟩;intro Hz Jz O Z Y H J d Q s e w;obtain⟨x,e1,e⟩:=bind_some e;obtain⟨l,e2,e⟩:=bind_some e;obtain⟨h,e3,e⟩:=bind_some e;refine g Hz Jz O Z Y H J x _ s e1 λv H1 J1 u1 r1=>?_
 refine gl Hz Jz O Z Y H1 J1 l _ (s.up u1) e2 λH2 J2 u2=>?_
 refine gh Hz Jz O Z Y H2 J2 h _ (s.up (u1.trans u2)) e3 λH3 J3 u3=>?_
 have r3:=r1.up (u2.trans u3)
 have u:=u1.trans (u2.trans u3)
 match x,e with
|.lst ds,e=>
   cases e;obtain⟨p,vs,rfl,h1,rl⟩:=r3.lst;refine .inl ⟨p,vs,rfl,SqL.of h1,λc hc=>?_⟩;have un:=Up.newJ u3.ja hc (.lst (cutV vs l h))
   exact w _ _ _ (u.trans un) (.lst zai (.inr rfl) ((rl.cut l h).keep un.keep))
|.tup ds,e=>
   have e:(if HT.sIx ds.length 0 l=0/\HT.sIx ds.length ds.length h=ds.length then none else some (D.tup (cut ds l h)))=some d:=e
   by_cases hc:HT.sIx ds.length 0 l=0/\HT.sIx ds.length ds.length h=ds.length
   .rw[if_pos hc] at e;cases e
   .rw[if_neg hc] at e;cases e;obtain⟨p,vs,rfl,h1,rl⟩:=r3.tup;refine .inr (.inl ⟨p,vs,rfl,h1,by rw[rl.length];exact hc,λc hc=>?_⟩);have un:=Up.new u3.ja hc (.tup (cutV vs l h))
    exact w _ _ _ (u.trans un) (.tup (SqT.of zai) ((rl.cut l h).keep un.keep))
|.str z,e=>
   have e:(if z.length<=lim then some (D.str (Txt.slice z l h)) else none)=some d:=e
   by_cases hc:z.length<=lim
   .rw[if_pos hc] at e;cases e;rw[r3.str];exact .inr (.inr ⟨z,rfl,zch hc,w _ _ _ u (.str _)⟩)
   .rw[if_neg hc] at e;cases e
def dLst:D->Option (List D)
|.lst ds=>some ds
|_=>none
def aRev (f:FE):FA:=λZ=>(f Z).bind λd=>(dLst d).bind λds=>some ds.reverse
def zmM {p3 p4:Pos}{j:Nat}(ha:VW X a fa):VN X (.Subscript a (.Slice none none (some (.UnaryOp .USub (.Constant (.int 1) j p3) p4)) p2) pos) (aRev fa):=by
 obtain⟨t,p,g⟩:=ha;refine⟨_,zpA p,?_⟩;intro Hz Jz O Z Y H J ds Q s e w;obtain⟨x,e1,e⟩:=bind_some e;obtain⟨xs,e2,e⟩:=bind_some e;cases e;refine g Hz Jz O Z Y H J x _ s e1 λv H1 J1 u1 r1=>?_
 cases x with
|lst ds=>
   cases e2;obtain⟨p,vs,rfl,h1,rl⟩:=r1.lst;refine⟨p,vs,rfl,SqL.of h1,λc hc=>?_⟩;have un:=Up.new u1.ja hc (.lst vs.reverse)
   exact w c _ _ _ (u1.trans un) (u1.same.free hc) (λj=>u1.ja c j hc) zai (rl.reverse.keep un.keep)
|_=>cases e2
def RpWL.one {H:Hp}{J:Addr->Prop}{vs:List V}{d:D}(h:RpWL K H J vs [d]):∃v,vs = [v]/\RpW K H J v d:=by
 match vs,h with
|[v],h=>exact⟨v,rfl,h.1⟩
|[],h=>exact h.elim
|_::_::_,h=>exact h.2.elim
def RpWL.two {H:Hp}{J:Addr->Prop}{vs:List V}{d e:D}(h:RpWL K H J vs [d,e]):∃v u,vs = [v,u]/\RpW K H J v d/\RpW K H J u e:=by
 match vs,h with
|[v,u],h=>exact⟨v,u,rfl,h.1,h.2.1⟩
|[],h=>exact h.elim
|[_],h=>exact h.2.elim
|_::_::_::_,h=>exact h.2.2.elim
def bLen:List D->Option D
|[.lst ds]=>some (.int ds.length)
|[.tup ds]=>some (.int ds.length)
|[.str z]=>if z.length<=lim then some (.int z.length) else none
|_=>none
def zb1:ImC K (λxs H Q=>∃x n,xs = [x]/\LenV K x H n/\Q (.int n) H) bLen:=by
 intro H J vs ds d Q ja r hF w;match ds,r,hF with
|[.lst ds],r,hF=>
   obtain⟨v,rfl,rr⟩:=r.one;cases hF;obtain⟨p,us,rfl,h1,rl⟩:=rr.lst;refine⟨_,us.length,rfl,.inl ⟨us,SqL.of h1,rfl⟩,?_⟩;rw[rl.length];exact w _ H J (Up.refl ja) (.int _)
|[.tup ds],r,hF=>
   obtain⟨v,rfl,rr⟩:=r.one;cases hF;obtain⟨p,us,rfl,h1,rl⟩:=rr.tup;refine⟨_,us.length,rfl,.inr ⟨us,h1,rfl⟩,?_⟩;rw[rl.length];exact w _ H J (Up.refl ja) (.int _)
|[.str z],r,hF=>
   obtain⟨v,rfl,rr⟩:=r.one;have hF:(if z.length<=lim then some (D.int z.length) else none)=some d:=hF
   by_cases hl:z.length<=lim
   .rw[if_pos hl] at hF;cases hF;rw[rr.str];exact⟨_,z.length,rfl,⟨zch hl,rfl⟩,w _ H J (Up.refl ja) (.int _)⟩
   .rw[if_neg hl] at hF;cases hF
def bMax:List D->Option D
|[.int i,.int j]=>some (.int (if j>i then j else i))
|_=>none
def bMin:List D->Option D
|[.int i,.int j]=>some (.int (if j<i then j else i))
|_=>none
def zmN:ImC K (λxs H Q=>∃i j,xs = [.int i,.int j]/\Q (.int (if j<i then j else i)) H) bMin:=by
 intro H J vs ds d Q ja r hF w;match ds,r,hF with
|[.int i,.int j],r,hF=>obtain⟨v,u,rfl,q1,q2⟩:=r.two;cases hF;exact⟨i,j,by rw[q1.int,q2.int],w _ H J (Up.refl ja) (.int _)⟩
def bList:List D->Option D
|[.lst ds]=>some (.lst ds)
|[.tup ds]=>some (.lst ds)
|_=>none
def bTuple:List D->Option D
|[.lst ds]=>some (.tup ds)
|[.tup ds]=>some (.tup ds)
|_=>none
def zhz:ImC K (λxs H Q=>∃p ys,xs = [.ref p]/\((SqL K H p ys/\∀l,H l=none->Q (.ref l) (upd H l (.tup ys)))\/(SqT K H p ys/\Q (.ref p) H))) bTuple:=by
 intro H J vs ds d Q ja r hF w;match ds,r,hF with
|[.lst ds],r,hF=>
   obtain⟨v,rfl,rr⟩:=r.one;cases hF;obtain⟨p,us,rfl,h1,rl⟩:=rr.lst;refine⟨p,us,rfl,.inl ⟨SqL.of h1,λc hc=>?_⟩⟩;have un:=Up.new ja hc (.tup us)
   exact w _ _ _ un (.tup (SqT.of zai) (rl.keep un.keep))
|[.tup ds],r,hF=>
   obtain⟨v,rfl,rr⟩:=r.one;cases hF;obtain⟨p,us,rfl,h1,rl⟩:=rr.tup;exact⟨p,us,rfl,.inr ⟨h1,w _ H J (Up.refl ja) (.tup h1 rl)⟩⟩
def blsD:List D->Option (List Bool)
|[]=>some []
|.bl b::ds=>(blsD ds).bind λbs=>some (b::bs)
|_=>none
theorem zjB {H:Hp}{J:Addr->Prop}:∀{vs:List V}{ds:List D}{bs:List Bool},RpL K H J vs ds->blsD ds=some bs->vs=bs.map V.bl
|_,_,_,.nil,e=>by cases e;rfl
|_,d::ds,_,.cons h t,e=>by
   cases d with
  |bl b=>
     obtain⟨bs,e1,e⟩:=bind_some (show((blsD ds).bind λbs=>some (b::bs))=some _ from e);cases e;cases h;rw[waK,zjB t e1]
  |_=>cases e
def bAll:List D->Option D
|[.lst ds]=>(blsD ds).bind λbs=>some (.bl (bs.all id))
|_=>none
def bAny:List D->Option D
|[.lst ds]=>(blsD ds).bind λbs=>some (.bl (bs.any id))
|_=>none
def zpR:ImC K (λxs H Q=>∃(p:Addr) (bs:List Bool),xs = [.ref p]/\SqL K H p (bs.map V.bl)/\Q (.bl (bs.any id)) H) bAny:=by
 intro H J vs ds d Q ja r hF w;match ds,r,hF with
|[.lst ds],r,hF=>
   obtain⟨v,rfl,rr⟩:=r.one;obtain⟨bs,e1,e⟩:=bind_some (show((blsD ds).bind λbs=>some (D.bl (bs.any id)))=some d from hF);cases e;obtain⟨p,us,rfl,h1,rl⟩:=rr.lst;exact⟨p,bs,rfl,by rw[<-zjB rl e1];exact SqL.of h1,w _ H J (Up.refl ja) (.bl _)⟩
end
def Src (K:W.Frag)(I:It)(H:Hp)(J:Addr->Prop)(ds:List D):Prop:=∀H2 J2,Keep K H J H2 J2->(∀a,J2 a->H2 a≠none)->
 I.stop ds.length H2/\∀i d,ds[i]?=some d->I.go i H2/\∀x H3,I.yld i H2 x H3->∃J3,Up H2 J2 H3 J3/\Rp K H3 J3 x d
def GoI (K:W.Frag)(wi:TI)(f:FA):Prop:=∀Hz Jz O Z Y H J ds R,ST K Hz Jz O Z Y H J->f Z=some ds->(∀I H' J',Up H J H' J'->Src K I H' J' ds->R I H')->wi Y H R
def VI (X:Cx)(tg iter:Expr)(f:FA):Prop:=∃wi,PI X tg iter wi/\GoI X.K wi f
section
variable {X:Cx}{K:W.Frag}{tg a b:Expr}{fa fb:FE}{fl:FA}{pos p:Pos}
def zpS {wi wi':TI}{iter:Expr}(h:PI X tg iter wi)(h':PI X tg iter wi'):PI X tg iter (λY H R=>wi Y H R\/wi' Y H R):=by
 intro pins s Y H R I q;rcases q with q|q
 .exact h pins s Y H R I q
 .exact h' pins s Y H R I q
def dSeq:D->Option (List D)
|.lst ds=>some ds
|.tup ds=>some ds
|_=>none
def aSeq (f:FE):FA:=λZ=>(f Z).bind dSeq
def zbQ (h:VE X a fa):VI X tg a (aSeq fa):=by
 obtain⟨t,p,g⟩:=h;refine⟨_,zpS (zns p) (zpl p),?_⟩;intro Hz Jz O Z Y H J ds R s e w;obtain⟨x,e1,e⟩:=bind_some e;cases x with
|lst xs=>
   cases e;refine .inl (g Hz Jz O Z Y H J _ _ s e1 λv H1 J1 u1 r1=>?_);cases r1 with
  |lst h j r=>
     refine⟨_,rfl,⟨_,SqL.of h⟩,w _ H1 J1 u1 λH2 J2 k ja=>?_⟩;have h2:=k.jo _ _ j h
     refine⟨⟨_,SqL.of h2,by rw[r.length];exact wan _⟩,λi d hd=>?_⟩;obtain⟨v,hv,rv⟩:=r.get hd;refine⟨⟨_,v,SqL.of h2,hv⟩,λx H3 y=>?_⟩;obtain⟨rfl,y⟩:=y;have e:=y _ (SqL.of h2)
     rw[hv] at e;cases e;exact⟨J2,Up.refl ja,rv.keep k⟩
|tup xs=>
   cases e;refine .inr (g Hz Jz O Z Y H J _ _ s e1 λv H1 J1 u1 r1=>?_);cases r1 with
  |tup h r=>
     refine⟨_,rfl,⟨_,h⟩,w _ H1 J1 u1 λH2 J2 k ja=>?_⟩;have h2:=k.tp _ _ h
     refine⟨⟨_,h2,by rw[r.length];exact wan _⟩,λi d hd=>?_⟩;obtain⟨v,hv,rv⟩:=r.get hd;refine⟨⟨_,v,h2,hv⟩,λx H3 y=>?_⟩;obtain⟨rfl,y⟩:=y;have e:=y _ h2
     rw[hv] at e;cases e;exact⟨J2,Up.refl ja,rv.keep k⟩
|_=>cases e
def zbn (lo:Int)(n:Nat):List D:=(List.range n).map λ(i:Nat)=>.int (lo+(i:Int))
def zjC {H:Hp}{J:Addr->Prop}(lo:Int)(n:Nat):Src K (Itr lo n) H J (zbn lo n):=by
 intro H2 J2 k ja;have hl:(zbn lo n).length=n:=by simp[zbn]
 rw[hl];refine⟨wan _,λi d hd=>?_⟩;have hi:i<n:=by rw[<-hl];exact(wai.mp hd).1
 refine⟨hi,λx H3 y=>?_⟩;obtain⟨rfl,rfl⟩:=y;unfold zbn at hd;rw[waw,wcG hi] at hd;cases hd;exact⟨J2,Up.refl ja,.int _⟩
def a1Int:List D->Option Int
|[.int i]=>some i
|_=>none
def aRng1 (f:FA):FA:=λZ=>(f Z).bind λl=>(a1Int l).bind λj=>if -1000000<=j/\j<=1000000 then some (zbn 0 j.toNat) else none
def zei (B:Blt X.mg)(ha:VA X [a] fl)(hg:Gl X "range":=by rfl)(hs:starEach [a] X.env = [(false,eval a X.env)]:=by rfl):VI X tg (.Call (.Name "range" p) [a] [] pos) (aRng1 fl):=by
 obtain⟨t,p,g⟩:=ha;refine⟨_,zi3 hg (B.get "range") p hs,?_⟩;intro Hz Jz O Z Y H J ds R s e w;obtain⟨l,e1,e⟩:=bind_some e;obtain⟨j,e2,e⟩:=bind_some e;by_cases hj:-1000000<=j/\j<=1000000
 .rw[if_pos hj] at e;cases e;refine g Hz Jz O Z Y H J _ _ s e1 λvs H1 J1 u1 r1=>?_
  match l,e2,r1 with
 |[.int i],e2,r1=>
    cases e2;cases r1 with
   |cons h t=>cases t;cases h;exact⟨j,rfl,by omega,by omega,w _ H1 J1 u1 (zjC 0 _)⟩
 .rw[if_neg hj] at e;cases e
def zdV (ds:List D):List D:=ds.zipIdx.map λp=>.tup [.int (p.2:Nat),p.1]
def a1Tup:List D->Option (List D)
|[.tup ds]=>some ds
|_=>none
def aEnum (f:FA):FA:=λZ=>(f Z).bind λl=>(a1Tup l).bind λds=>some (zdV ds)
def zcF (ds:List D):(zdV ds).length=ds.length:=by simp[zdV]
def zej {ds:List D}{i:Nat}{d:D}(h:(zdV ds)[i]?=some d):∃x,ds[i]?=some x/\d=.tup [.int (i:Nat),x]:=by
 unfold zdV at h;rw[waw,List.getElem?_zipIdx] at h;cases q:ds[i]? with
|none=>rw[q] at h;cases h
|some x=>rw[q] at h;simp at h;exact⟨x,rfl,h.symm⟩
def znT {elts:List Expr}{x1}{tpos:Pos}(B:Blt X.mg)(ha:VA X [a] fl)(hg:Gl X "enumerate":=by rfl)(hs:starEach [a] X.env = [(false,eval a X.env)]:=by rfl):VI X (.Tuple elts x1 tpos) (.Call (.Name "enumerate" p) [a] [] pos) (aEnum fl):=by
 obtain⟨t,p,g⟩:=ha;refine⟨_,zjn hg (B.get "enumerate") p hs,?_⟩;intro Hz Jz O Z Y H J ds R s e w;obtain⟨l,e1,e⟩:=bind_some e;obtain⟨xs,e2,e⟩:=bind_some e;cases e;refine g Hz Jz O Z Y H J _ _ s e1 λvs H1 J1 u1 r1=>?_
 match l,e2,r1 with
|[.tup _],e2,r1=>
   cases e2;cases r1 with
  |cons h t=>
     cases t;cases h with
    |tup h r=>
       refine⟨_,rfl,⟨_,h⟩,w _ H1 J1 u1 λH2 J2 k ja=>?_⟩;have h2:=k.tp _ _ h
       refine⟨⟨_,h2,by rw[r.length,zcF];exact wan _⟩,λi d hd=>?_⟩;obtain⟨x,hx,rfl⟩:=zej hd;obtain⟨v,hv,rv⟩:=r.get hx;refine⟨⟨_,v,h2,hv⟩,λy H3 hy=>?_⟩;obtain⟨q,hn,rfl,hy⟩:=hy;obtain⟨y,ey,rfl⟩:=hy _ h2;rw[hv] at ey;cases ey;have un:=Up.new ja hn (.tup [.int (i:Nat),v])
       exact⟨J2,un,.tup (SqT.of zai) (.cons (.int _) (.cons ((rv.keep k).keep un.keep) .nil))⟩
end
abbrev FG:=D->En->Option En
abbrev FGs:=List D->En->Option En
def Only (is:List Nat)(Z Z':En):Prop:=Z'.length=Z.length/\∀j,j∉is->Z'[j]?=Z[j]?
def GoG (K:W.Frag)(g:TG)(is:List Nat)(f:FG):Prop:=(∀d Z Z',f d Z=some Z'->Only is Z Z')/\∀Hz Jz O Z Y H J v d Z' Q,ST K Hz Jz O Z Y H J->Rp K H J v d->f d Z=some Z'->(∀Y',ST K Hz Jz O Z' Y' H J->Q Y' H)->g v Y H Q
def GoGs (K:W.Frag)(g:TGs)(is:List Nat)(f:FGs):Prop:=(∀d Z Z',f d Z=some Z'->Only is Z Z')/\∀Hz Jz O Z Y H J vs ds Z' Q,ST K Hz Jz O Z Y H J->RpL K H J vs ds->f ds Z=some Z'->(∀Y',ST K Hz Jz O Z' Y' H J->Q Y' H)->g vs Y H Q
def VG (X:Cx)(tg:Expr)(is:List Nat)(f:FG):Prop:=∃g,PG X tg g/\GoG X.K g is f
def VGs (X:Cx)(tgs:List Expr)(is:List Nat)(f:FGs):Prop:=∃g,PGs X tgs g/\GoGs X.K g is f
def isPar:Option SV->Bool
|some (.par _ _)=>true
|_=>false
def zbs {x:Option SV}(h:isPar x=false):∀n d,x≠some (.par n d):=λn d e=>by rw[e] at h;cases h
def gN (i:Nat):FG:=λd Z=>if i<Z.length/\isPar (Z[i]?)=false then some (Z.set i (.val d)) else none
def gNil':FGs:=λds Z=>if ds = [] then some Z else none
def gCons' (f:FG)(g:FGs):FGs:=λds Z=>match ds with|d::r=>(f d Z).bind λZ1=>g r Z1|[]=>none
def gT (n:Nat)(f:FGs):FG:=λd Z=>match d with|.tup ds=>if ds.length=n then f ds Z else none|_=>none
def zgN {K:W.Frag}{i:Nat}:GoG K (zdU i) [i] (gN i):=by
 refine⟨λd Z Z' h=>?_,λHz Jz O Z Y H J v d Z' Q s r e w=>?_⟩
 .unfold gN at h;by_cases hi:i<Z.length/\isPar (Z[i]?)=false
  .rw[if_pos hi] at h;cases h;exact⟨by simp,λj hj=>wae (λz=>hj (by simp[z]))⟩
  .rw[if_neg hi] at h;cases h
 .unfold gN at e;by_cases hi:i<Z.length/\isPar (Z[i]?)=false
  .rw[if_pos hi] at e;cases e;exact w _ (s.set r hi.1 (zbs hi.2))
  .rw[if_neg hi] at e;cases e
theorem Only.trans {is js:List Nat}{Z Z1 Z2:En}(a:Only is Z Z1)(b:Only js Z1 Z2):Only (is++js) Z Z2:=⟨b.1.trans a.1,λj hj=>by
 rw[waC] at hj;rw[b.2 j (λz=>hj (.inr z)),a.2 j (λz=>hj (.inl z))]⟩
def znU {K:W.Frag}:GoGs K gNil [] gNil':=by
 refine⟨λd Z Z' h=>?_,λHz Jz O Z Y H J vs ds Z' Q s r e w=>?_⟩
 .unfold gNil' at h;by_cases hd:d = []
  .rw[if_pos hd] at h;cases h;exact⟨rfl,λ_ _=>rfl⟩
  .rw[if_neg hd] at h;cases h
 .unfold gNil' at e;by_cases hd:ds = []
  .rw[if_pos hd] at e;cases e;subst hd;cases r;exact⟨rfl,w _ s⟩
  .rw[if_neg hd] at e;cases e
def zlx {K:W.Frag}{g:TG}{gs:TGs}{is js:List Nat}{f:FG}{fs:FGs}(h1:GoG K g is f)(h2:GoGs K gs js fs):GoGs K (zpj g gs) (is++js) (gCons' f fs):=by
 refine⟨λd Z Z' h=>?_,λHz Jz O Z Y H J vs ds Z' Q s r e w=>?_⟩
 .cases d with
 |nil=>cases h
 |cons d r=>
    obtain⟨Z1,e1,e2⟩:=bind_some (show((f d Z).bind λZ1=>fs r Z1)=some Z' from h);exact(h1.1 _ _ _ e1).trans (h2.1 _ _ _ e2)
 .cases ds with
 |nil=>cases e
 |cons d ds=>
    obtain⟨Z1,e1,e2⟩:=bind_some (show((f d Z).bind λZ1=>fs ds Z1)=some Z' from e);cases r with
   |cons r1 r2=>
      refine⟨_,_,rfl,h1.2 Hz Jz O Z Y H J _ d Z1 _ s r1 e1 λY1 s1=>?_⟩;exact h2.2 Hz Jz O Z1 Y1 H J _ ds Z' _ s1 r2 e2 w
def znV {K:W.Frag}{n:Nat}{gs:TGs}{is:List Nat}{fs:FGs}(h:GoGs K gs is fs):GoG K (gTup K n gs) is (gT n fs):=by
 refine⟨λd Z Z' e=>?_,λHz Jz O Z Y H J v d Z' Q s r e w=>?_⟩
 .cases d with
 |tup ds=>
    have e:(if ds.length=n then fs ds Z else none)=some Z':=e
    by_cases hn:ds.length=n
    .rw[if_pos hn] at e;exact h.1 _ _ _ e
    .rw[if_neg hn] at e;cases e
 |_=>cases e
 .cases d with
 |tup ds=>
    have e:(if ds.length=n then fs ds Z else none)=some Z':=e
    by_cases hn:ds.length=n
    .rw[if_pos hn] at e;cases r with
    |tup hq rl=>exact⟨_,_,rfl,hq,by rw[rl.length];exact hn,h.2 Hz Jz O Z Y H J _ ds Z' Q s rl e w⟩
    .rw[if_neg hn] at e;cases e
 |_=>cases e
section
variable {X:Cx}{pos:Pos}
def znW {i:Nat}{x:Str}(hN:X.N.Nodup)(hi:X.N[i]?=some x)(hx:Loc X.env.scope x)(hf:X.fn x=true\/X.env.scope.names.lookup x=some .local:=by first|exact .inl rfl|exact .inr rfl|assumption):VG X (.Name x pos) [i] (gN i):=⟨_,zgD hN hi hx hf,zgN⟩
def zcc:VGs X [] [] gNil':=⟨_,znr,znU⟩
def zap {e:Expr}{es:List Expr}{is js:List Nat}{f:FG}{fs:FGs}(h1:VG X e is f)(h2:VGs X es js fs)(hs:(assignEach (e::es) X.env).map (·.2)=assign e X.env::(assignEach es X.env).map (·.2):=by rfl):VGs X (e::es) (is++js) (gCons' f fs):=by
 obtain⟨g,p,q⟩:=h1;obtain⟨gs,ps,qs⟩:=h2;exact⟨_,zk4 p ps hs,zlx q qs⟩
def zc9 {es:List Expr}{k:Nat}{is:List Nat}{n:Nat}{fs:FGs}(hc:X.calm=true)(h:VGs X es is fs)(hn:(assignEach es X.env).length=n:=by rfl)(hst:(assignEach es X.env).findIdx? (·.1)=none:=by rfl):VG X (.Tuple es k pos) is (gT n fs):=by
 obtain⟨gs,ps,qs⟩:=h;exact⟨_,zpk hc ps hn hst,znV qs⟩
def vgC (i:Nat){X:Cx}{scope:Scope}{cl:List (Str×Addr)}{NC:List Str}{C:Addr}{s0:Shared}{H0:Hp}{ex:List Addr}{pn:List (Addr×Obj)}{x:Str}{pos:Pos}(nd:NC.Nodup)(hi:NC[i]?=some x)(hx:scope.names.lookup x=some .local):VG (cxC X scope cl NC C s0 H0 ex pn) (.Name x pos) [i] (gN i):=⟨_,pgC i nd hi hx,zgN⟩
end
def TEof (K:W.Frag)(f:FE):TE:=λY H Q=>∃Hz Jz O Z J d,ST K Hz Jz O Z Y H J/\f Z=some d/\zgL K H J d Q
def TTof (K:W.Frag)(f:FT):TT:=λY H Q=>∃Hz Jz O Z J b,ST K Hz Jz O Z Y H J/\f Z=some b/\zmJ H J b Q
def TGof (K:W.Frag)(f:FG):TG:=λv Y H Q=>∃Hz Jz O Z J d Z',ST K Hz Jz O Z Y H J/\Rp K H J v d/\f d Z=some Z'/\∀Y',ST K Hz Jz O Z' Y' H J->Q Y' H
def VE.of {X:Cx}{e:Expr}{f:FE}(h:VE X e f):PE X e (TEof X.K f):=by
 obtain⟨t,p,g⟩:=h;rintro pins s Y H Q I ⟨Hz,Jz,O,Z,J,d,s1,e1,w⟩;exact p pins s Y H Q I (g Hz Jz O Z Y H J d Q s1 e1 w)
def VT.of {X:Cx}{e:Expr}{f:FT}(h:VT X e f):PT X e (TTof X.K f):=by
 obtain⟨t,p,g⟩:=h;rintro pins s Y H Q I ⟨Hz,Jz,O,Z,J,d,s1,e1,w⟩;exact p pins s Y H Q I (g Hz Jz O Z Y H J d Q s1 e1 w)
def VG.of {X:Cx}{e:Expr}{is:List Nat}{f:FG}(h:VG X e is f):PG X e (TGof X.K f):=by
 obtain⟨t,p,g⟩:=h;rintro pins s Y H v u Q I r ⟨Hz,Jz,O,Z,J,d,Z',s1,r1,e1,w⟩;exact p pins s Y H v u Q I r (g.2 Hz Jz O Z Y H J v d Z' Q s1 r1 e1 w)
def zaK (Z:En)(fr:List (Option Nat)):En:=fr.map λo=>match o with
|none=>.un
|some j=>match Z[j]? with
  |some (.val d)=>.val d
  |_=>.un
def zc6 (f:D->Option (Option D)):List D->Option (List D)
|[]=>some []
|d::r=>(f d).bind λo=>(zc6 f r).bind λxs=>some (match o with|some x=>x::xs|none=>xs)
def zco (Z:En)(g:FG)(t:FT)(e:FE)(d:D):Option (Option D):=(g d Z).bind λZ1=>(t Z1).bind λok=>if ok then(e Z1).bind λx=>some (some x) else some none
def zfb (fr:List (Option Nat))(fi:FA)(g:FG)(t:FT)(e:FE):FA:=λZ=>(fi Z).bind λds=>(zc6 (zco (zaK Z fr) g t e) ds).bind λout=>if out.length<=lim then some out else none
def tTrue:FT:=λ_=>some true
def VTs (X:Cx)(ifs:List Expr)(f:FT):Prop:=PTs X ifs (TTof X.K f)
def zdB {X:Cx}:VTs X [] tTrue:=by
 rintro pins s Y H Q I ⟨Hz,Jz,O,Z,J,d,s1,e1,w⟩;cases e1;exact znE pins s Y H Q I (w H J (Up.refl s1.ja))
def zjD {X:Cx}{c:Expr}{f:FT}(h:VT X c f):VTs X [c] f:=znF h.of
def zly (Y:L2.St)(fr:List (Option Nat)):(pick Y fr).length=fr.length:=by simp[pick]
def zjE (Z:En)(fr:List (Option Nat)):(zaK Z fr).length=fr.length:=by simp[zaK]
section
variable {K:W.Frag}{H H' H1 Hz:Hp}{J J' J1 Jz:Addr->Prop}{Z:En}{Y:L2.St}
def Pr.blk (O:Pr):Pr:=⟨[],O.fpo⟩
def zcp (Z:En)(fr:List (Option Nat)):∀i:Nat,ownD ((zaK Z fr)[i]?)=none:=by
 intro i;unfold zaK;rw[waw];cases q:fr[i]? with
|none=>rfl
|some o=>
   cases o with
  |none=>rfl
  |some j=>
     simp only[Option.map_some];cases z:Z[j]? with
    |none=>rfl
    |some y=>cases y <;> rfl
def zjF {x:Option (Option V)}{s:Option SV}{O:List Addr}(h:ownD s=none):OwAt K Hz H J O x [] s:=by
 match s,h with
|none,_=>rfl
|some .un,_=>rfl
|some (.val _),_=>rfl
theorem ST.pick {O:Pr}(s:ST K Hz Jz O Z Y H J)(fr:List (Option Nat)):ST K Hz Jz O.blk (zaK Z fr) (pick Y fr) H J where
 same:=s.same
 j0:=s.j0
 jn:=s.jn
 ja:=s.ja
 al:=s.al
 ps:=λq hq=>absurd hq (by simp[Pr.blk])
 ow:=⟨λ_=>[],λi=>zjF (zcp Z fr i),λ_=>waU,λ_ b hb=>absurd hb (by simp),λ_ _ _ b hb=>absurd hb (by simp)⟩
 len:=by rw[zly,zjE]
 vl:=λi d h=>by
  unfold zaK at h;rw[waw] at h;cases q:fr[i]? with
 |none=>rw[q] at h;cases h
 |some o=>
    rw[q] at h;cases o with
   |none=>simp at h
   |some j=>
      simp only[Option.map_some,Option.some.injEq] at h;cases z:Z[j]? with
     |none=>rw[z] at h;cases h
     |some y=>
        rw[z] at h;cases y with
       |val d'=>
          cases h;obtain⟨v,hv,r⟩:=s.vl j _ z;refine⟨v,?_,r⟩;show(fr.map _)[i]?=_
          rw[waw,q];simp[hv]
       |_=>cases h
def Mt:HO->Prop
|.lst _=>True
|.dK _=>True
|_=>False
def zcG {D:Addr}{o0 o:HO}(hD:H D=some o0)(nj:¬J D)(hm:Mt o0:=by exact True.intro):Keep K H J (upd H D o) J:=⟨λ_ h=>h,λp u j h=>by rw[zah (show p≠D from λz=>nj (z▸j))];exact h,λp vs h=>by
 rcases h with(h|⟨u,h⟩)|h
 .refine .inl (.inl ?_);rw[zah];exact h;rintro rfl;rw[h] at hD;cases hD;exact hm
 .refine .inl (.inr ⟨u,?_⟩);rw[zah];exact h;rintro rfl;rw[h] at hD;cases hD;exact hm
 .exact .inr h⟩
def OwAt.nil {x:Option (Option V)}{A:List Addr}{s:Option SV}{O:List Addr}(h:OwAt K Hz H J O x A s)(n:ownD s=none):A = []:=by
 match s,h,n with
|none,h,_=>exact h
|some .un,h,_=>exact h
|some (.val _),h,_=>exact h
theorem ST.at {O:Pr}{D:Addr}{o0 o:HO}(s:ST K Hz Jz O Z Y H J)(no:∀i:Nat,ownD (Z[i]?)=none)(hD:H D=some o0)(nj:¬J D)(h0:Hz D=none)(hm:Mt o0:=by exact True.intro):ST K Hz Jz O Z Y (upd H D o) J where
 same:=λb u hb h=>by rw[zah (show b≠D from λz=>by rw[z,h0] at h;cases h)];exact s.same b u hb h
 j0:=s.j0
 jn:=s.jn
 ja:=λa h=>by
  by_cases e:a=D
  .subst e;rw[zai];simp
  .rw[zah e];exact s.ja a h
 al:=λa h=>by
  by_cases e:a=D
  .subst e;rw[zai];simp
  .rw[zah e];exact s.al a h
 len:=s.len
 vl:=λi d h=>let ⟨v,e,r⟩:=s.vl i d h;⟨v,e,r.keep (zcG hD nj hm)⟩
 ps:=s.ps
 ow:=by
  obtain⟨fp,w⟩:=s.ow;refine⟨fp,λi=>(w.at' i).keep (zcG hD nj hm) λb hb=>?_,w.nd,w.nj,w.dj⟩;rw[(w.at' i).nil (no i)] at hb;cases hb
theorem Up.at {D:Addr}{ys:List V}{o:HO}(u:Up H1 J1 H J)(h1:H1 D=none):Up H1 J1 (upd H D o) J:=⟨λb v h=>by rw[zah (show b≠D from λz=>by rw[z,h1] at h;cases h)];exact u.same b v h,u.jj,u.jn,λa h=>by
 by_cases e:a=D
 .subst e;rw[zai];simp
 .rw[zah e];exact u.ja a h⟩
end
def apart (is:List Nat)(fr:List (Option Nat)):Bool:=is.all λi=>fr[i]? == some none
def zfc {Z Z1:En}{fr:List (Option Nat)}{is:List Nat}(o:Only is (zaK Z fr) Z1)(h:apart is fr=true):Weak (zaK Z fr) Z1:=by
 refine⟨o.1.symm,λi=>?_⟩;by_cases hi:i∈is
 .right
  have q:=waB.mp h i hi
  have q':fr[i]?=some none:=by simpa using q
  unfold zaK;rw[waw,q'];rfl
 .left;exact(o.2 i hi).symm
def ST.free {K:W.Frag}{Hz H H1:Hp}{Jz J J1:Addr->Prop}{O:Pr}{Z:En}{Y:L2.St}(s:ST K Hz Jz O Z Y H J)(u:Up H J H1 J1){b:Addr}(h:H1 b=none):Hz b=none:=by
 cases e:Hz b with
|none=>rfl
|some o=>exact absurd h ((s.up u).al b (by rw[e];simp))
def SrcU (K:W.Frag)(I:It)(H:Hp)(J:Addr->Prop)(ds:List D):Prop:=∀H2 J2,Up H J H2 J2->(∀a,J2 a->H2 a≠none)->I.stop ds.length H2/\∀i d,ds[i]?=some d->I.go i H2/\∀x H3,I.yld i H2 x H3->∃J3,Up H2 J2 H3 J3/\Rp K H3 J3 x d
def GoIU (K:W.Frag)(wi:TI)(f:FA):Prop:=∀Hz Jz O Z Y H J ds R,ST K Hz Jz O Z Y H J->f Z=some ds->(∀I H' J',Up H J H' J'->SrcU K I H' J' ds->R I H')->wi Y H R
theorem GoI.u {K:W.Frag}{wi:TI}{f:FA}(h:GoI K wi f):GoIU K wi f:=λHz Jz O Z Y H J ds R s e w=>h Hz Jz O Z Y H J ds R s e λI H' J' u src=>w I H' J' u λH2 J2 u2 ja=>src H2 J2 u2.keep ja
def zlz {K:W.Frag}{fr:List (Option Nat)}{wi:TI}{fi:FA}{g:FG}{is:List Nat}{ft:FT}{fe:FE}(hi:GoIU K wi fi)(hon:∀d Z Z',g d Z=some Z'->Only is Z Z')(hap:apart is fr=true) :
 GoN K (zfR fr wi (TGof K g) (TTof K ft) (TEof K fe)) (zfb fr fi g ft fe):=by
 intro Hz Jz O Z Y H J out Q s e w;obtain⟨ds,e1,e⟩:=bind_some e;obtain⟨out',e2,e⟩:=bind_some e;by_cases hl:out'.length<=lim
 .rw[if_pos hl] at e;cases e;refine hi Hz Jz O Z Y H J ds _ s e1 λI H1 J1 u1 src=>?_
  intro Da hD;have hD0:Hz Da=none:=(s.free (u:=u1) hD)
  have nJ1:¬J1 Da:=λj=>u1.ja Da j hD
  refine⟨λi m ys Y2 H2=>m=ds.length - i/\i<=ds.length/\∃J2 dn rs,ST K Hz Jz O.blk (zaK Z fr) Y2 H2 J2/\Up H1 J1 H2 J2/\¬J2 Da/\Keep K H1 J1 H2 J2/\RpL K H2 J2 ys dn/\out=dn++rs/\zc6 (zco (zaK Z fr) g ft fe) (ds.drop i)=some rs,⟨ds.length,by simp,wbu _,?_⟩,?_⟩
  .have un:=Up.new u1.ja hD (.lst [])
   exact⟨J1,[],out,((s.up u1).up un).pick fr,un,nJ1,un.keep,.nil,rfl,by simpa using e2⟩
  .rintro i m ys Y2 H2 ⟨rfl,hil,J2,dn,rs,s2,u2,nj2,k2,r2,eo,ec⟩ hys;obtain⟨stop,turn⟩:=src H2 J2 u2 s2.ja;by_cases hlt:i<ds.length
   .right
    have hd:ds[i]?=some ds[i]:=wat hlt
    generalize hdd:ds[i]=d at hd;obtain⟨go,yl⟩:=turn i d hd;have edrop:ds.drop i=d::ds.drop (i+1):=by rw[<-hdd];exact(wbx hlt).symm
    rw[edrop] at ec;obtain⟨o,eo1,ec⟩:=bind_some (show((zco (zaK Z fr) g ft fe d).bind λo=>(zc6 (zco (zaK Z fr) g ft fe) (ds.drop (i+1))).bind λxs=>some (match o with|some x=>x::xs|none=>xs))=some rs from ec);obtain⟨rs',er,ec⟩:=bind_some ec;obtain⟨Z1,eg,eo1⟩:=bind_some eo1;obtain⟨ok,et,eo1⟩:=bind_some eo1;refine⟨go,λzs Y' H'=>∃J2 dn rs,ST K Hz Jz O.blk (zaK Z fr) Y' H' J2/\Up H1 J1 H' J2/\¬J2 Da/\Keep K H1 J1 H' J2/\RpL K H' J2 zs dn/\out=dn++rs/\zc6 (zco (zaK Z fr) g ft fe) (ds.drop (i+1))=some rs,λzs Y' H' h=>⟨ds.length - (i+1),by omega,rfl,hlt,h⟩,λx H3 y=>?_⟩;obtain⟨J3,u3,r3⟩:=yl x H3 y;have wk:Weak (zaK Z fr) Z1:=zfc (hon _ _ _ eg) hap
    refine⟨Hz,Jz,O.blk,zaK Z fr,J3,d,Z1,s2.up u3,r3,eg,λY4 s4=>?_⟩;refine⟨Hz,Jz,O.blk,Z1,J3,ok,s4,et,λH5 J5 u5=>?_⟩;have s5:=s4.up u5
    have u25:=u3.trans u5
    have nj5:¬J5 Da:=λj=>by
     rcases u25.jn Da j with j|j
     .exact nj2 j
     .rw[hys] at j;cases j
    have hy5:H5 Da=some (.lst ys):=u25.same _ _ hys
    refine⟨λhok=>?_,λhok=>?_⟩
    .subst hok;rw[if_pos rfl] at eo1;obtain⟨xd,ex,eo1⟩:=bind_some eo1;cases eo1;cases ec;refine⟨Hz,Jz,O.blk,Z1,J5,xd,s5,ex,λv H6 J6 u6 r6=>?_⟩;have u26:=u25.trans u6
     have nj6:¬J6 Da:=λj=>by
      rcases u6.jn Da j with j|j
      .exact nj5 j
      .rw[hy5] at j;cases j
     have hy6:H6 Da=some (.lst ys):=u6.same _ _ hy5
     have kA:Keep K H6 J6 (upd H6 Da (.lst (ys++[v]))) J6:=zcG hy6 nj6
     refine⟨hy6,?_,J6,dn++[xd],rs',?_,(u2.trans u26).at (ys:=ys) hD,nj6,(k2.trans u26.keep).trans kA,((r2.keep u26.keep).append (.cons r6 .nil)).keep kA,by rw[eo];simp,er⟩
     .have:(dn++xd::rs').length<=lim:=by rw[<-eo];exact hl
      rw[wap,wba] at this;rw[r2.length];exact wam (by omega:dn.length<lim) (wbg zeg)
     .exact((s5.up u6).weak wk rfl).at (zcp Z fr) hy6 nj6 hD0
    .subst hok;rw[if_neg (by simp)] at eo1;cases eo1;cases ec;exact⟨hy5,J5,dn,rs',s5.weak wk rfl,u2.trans u25,nj5,k2.trans u25.keep,r2.keep u25.keep,eo,er⟩
   .left
    have hi':i=ds.length:=by omega
    subst hi';rw[wce] at ec;cases ec;refine⟨stop,?_⟩;rw[waI] at eo;subst eo;exact w Da ys H2 J2 (u1.trans u2) (u1.same.free hD) nj2 hys r2
 .rw[if_neg hl] at e;cases e
def zgO {K:W.Frag}{fr:List (Option Nat)}{wi:TI}{fi:FA}{g:FG}{is:List Nat}{ft:FT}{fe:FE}(hi:GoI K wi fi)(hon:∀d Z Z',g d Z=some Z'->Only is Z Z')(hap:apart is fr=true):GoN K (zfR fr wi (TGof K g) (TTof K ft) (TEof K fe)) (zfb fr fi g ft fe):=zlz hi.u hon hap
def zlA (N:List Str)(st:Stmt){X:Cx}{elt iter tg:Expr}{ifs:List Expr}{scope:Scope}{pos:Pos}{NC:List Str}(fr:List (Option Nat)){fi:FA}{g:FG}{is:List Nat}{ft:FT}{fe:FE}{RR:Hp->Prop}(hRR:∀pins Y H s,Inv X pins Y H s->RR H)(hcalm:X.calm=true)(hi:VI X tg iter fi)
 (hcells:∀x,X.env.scope.names.lookup x=some .cell->∃c,X.env.cells.lookup x=some c) (hfk:X.env.scope.kind=.function) (hN:X.N=N) (hsc:X.env.scope.names=(zab st).names)
 (hfree':∀y∈scope.names,y.2=.free->(zab st).names.lookup y.1=some .cell) (hcell:∀y∈scope.names,y.2≠.cell) (hkind:scope.kind=.function) (hnames:∀y∈scope.names,y.2=.local->scope.names.lookup y.1=some .local)
 (hfr':zcn N (zab st).names scope.names NC fr=true) (hlen:fr.length=NC.length) (hap:apart is fr=true)
 (hg:∀cl C s0 H0 ex pn,VG (cxC X scope cl NC C s0 H0 ex pn) tg is g) (ht:∀cl C s0 H0 ex pn,VTs (cxC X scope cl NC C s0 H0 ex pn) ifs ft) (he:∀cl C s0 H0 ex pn,RR H0->VE (cxC X scope cl NC C s0 H0 ex pn) elt fe)
 (hs:∀x,foldedSetIterable iter X.env x=pure x:=by intro _;rfl):VN X (.ListComp elt [⟨tg,iter,ifs,0⟩] scope pos) (zfb fr fi g ft fe):=by
 obtain⟨wi,pi,gi⟩:=hi;obtain⟨_,_,hon,_⟩:=hg [] 0 X.s₀ X.Hz [] [];exact⟨_,zjt N st fr hRR hcalm pi hcells hfk hN hsc hfree' hcell hkind hnames hfr' hlen (λcl C s0 H0 ex pn=>(hg cl C s0 H0 ex pn).of) (λcl C s0 H0 ex pn=>show PTs (cxC X scope cl NC C s0 H0 ex pn) ifs (TTof X.K ft) from ht cl C s0 H0 ex pn) (λcl C s0 H0 ex pn r=>(he cl C s0 H0 ex pn r).of) hs,zgO gi hon hap⟩
def znX (N:List Str)(st:Stmt){X:Cx}{elt iter tg:Expr}{ifs:List Expr}{scope:Scope}{pos:Pos}{NC:List Str}(fr:List (Option Nat)){fi:FA}{g:FG}{is:List Nat}{ft:FT}{fe:FE}(hcalm:X.calm=true)(hi:VI X tg iter fi)
 (hcells:∀x,X.env.scope.names.lookup x=some .cell->∃c,X.env.cells.lookup x=some c) (hfk:X.env.scope.kind=.function) (hN:X.N=N) (hsc:X.env.scope.names=(zab st).names)
 (hfree':∀y∈scope.names,y.2=.free->(zab st).names.lookup y.1=some .cell) (hcell:∀y∈scope.names,y.2≠.cell) (hkind:scope.kind=.function) (hnames:∀y∈scope.names,y.2=.local->scope.names.lookup y.1=some .local)
 (hfr':zcn N (zab st).names scope.names NC fr=true) (hlen:fr.length=NC.length) (hap:apart is fr=true)
 (hg:∀cl C s0 H0 ex pn,VG (cxC X scope cl NC C s0 H0 ex pn) tg is g) (ht:∀cl C s0 H0 ex pn,VTs (cxC X scope cl NC C s0 H0 ex pn) ifs ft) (he:∀cl C s0 H0 ex pn,VE (cxC X scope cl NC C s0 H0 ex pn) elt fe)
 (hs:∀x,foldedSetIterable iter X.env x=pure x:=by intro _;rfl):VN X (.ListComp elt [⟨tg,iter,ifs,0⟩] scope pos) (zfb fr fi g ft fe):=
 zlA (RR:=λ_=>True) N st fr (λ_ _ _ _ _=>trivial) hcalm hi hcells hfk hN hsc hfree' hcell hkind hnames hfr' hlen hap hg ht (λcl C s0 H0 ex pn _=>he cl C s0 H0 ex pn) hs
inductive RV where
|told (d:D)|new (n:Nat) (d:D)
inductive Out where
|nx (Z:En)|ret (r:RV) (Z:En)|bk (Z:En)|ct (Z:En)
abbrev FS:=En->Option Out
def RtAt (K:W.Frag)(Hz:Hp)(O:Pr)(Z:En)(Y:L2.St)(H:Hp)(J:Addr->Prop)(v:V):RV->Prop
|.told d=>Rp K H J v d
|.new n d=>∃A fp,Ow K Hz O Z Y H J fp/\RpU K H J n v d A/\A.Nodup/\(∀b∈A,¬J b/\Hz b=none)/\∀i:Nat,∀b∈A,b∉fp i
def Fits (K:W.Frag)(Hz:Hp)(Jz:Addr->Prop)(O:Pr)(H:Hp)(J:Addr->Prop)(E:Ends):Out->Prop
|.nx Z'=>∀Y' H' J',ST K Hz Jz O Z' Y' H' J'->Keep K H J H' J'->E.nx Y' H'
|.bk Z'=>∀Y' H' J',ST K Hz Jz O Z' Y' H' J'->Keep K H J H' J'->E.bk Y' H'
|.ct Z'=>∀Y' H' J',ST K Hz Jz O Z' Y' H' J'->Keep K H J H' J'->E.ct Y' H'
|.ret r Z'=>∀v Y' H' J',ST K Hz Jz O Z' Y' H' J'->RtAt K Hz O Z' Y' H' J' v r->E.rt v H'
def Fits.keep {K:W.Frag}{Hz:Hp}{Jz:Addr->Prop}{O:Pr}{H H1:Hp}{J J1:Addr->Prop}{E:Ends}(k:Keep K H J H1 J1):∀{o:Out},Fits K Hz Jz O H J E o->Fits K Hz Jz O H1 J1 E o
|.nx _,h=>λY' H' J' s q=>h Y' H' J' s (k.trans q)
|.bk _,h=>λY' H' J' s q=>h Y' H' J' s (k.trans q)
|.ct _,h=>λY' H' J' s q=>h Y' H' J' s (k.trans q)
|.ret _ _,h=>h
def GoS (K:W.Frag)(t:TS)(g:FS):Prop:=∀Hz Jz O Z Y H J o E,ST K Hz Jz O Z Y H J->g Z=some o->Fits K Hz Jz O H J E o->t E Y H
def VS (X:Cx)(st:Stmt)(g:FS):Prop:=∃t,PS X st t/\GoS X.K t g
def VSs (X:Cx)(sts:List Stmt)(g:FS):Prop:=∃t,PSs X sts t/\GoS X.K t g
def gSeq (a b:FS):FS:=λZ=>(a Z).bind λo=>match o with
|.nx Z'=>b Z'
|.bk Z'=>some (.bk Z')
|.ct Z'=>some (.ct Z')
|.ret d Z'=>some (.ret d Z')
def gNx:FS:=λZ=>some (.nx Z)
def RpL.one {K:W.Frag}{H:Hp}{J:Addr->Prop}{vs:List V}{d:D}(r:RpL K H J vs [d]):∃v,vs = [v]/\Rp K H J v d:=by
 cases r with
|cons h t=>cases t;exact⟨_,rfl,h⟩
section
variable {X:Cx}{K:W.Frag}{st:Stmt}{sts:List Stmt}{g g2:FS}{pos:Pos}{e a:Expr}{fa:FE}{fl:FA}{ft:FT}
def zal:VSs X [] gNx:=⟨_,ziX,λHz Jz O Z Y H J o E s e w=>by cases e;exact w Y H J s Keep.refl⟩
def zpT {t u:TS}(h1:GoS K t g)(h2:GoS K u g2):GoS K (tSeq t u) (gSeq g g2):=by
 intro Hz Jz O Z Y H J o E s e w;obtain⟨o1,e1,e⟩:=bind_some e;refine h1 Hz Jz O Z Y H J o1 _ s e1 ?_;cases o1 with
|nx Z'=>exact λY' H' J' s' k=>h2 Hz Jz O Z' Y' H' J' o E s' e (w.keep k)
|bk Z'=>cases e;exact w
|ct Z'=>cases e;exact w
|ret d Z'=>cases e;exact w
def zad (h1:VS X st g)(h2:VSs X sts g2):VSs X (st::sts) (gSeq g g2):=by
 obtain⟨t,p,q⟩:=h1;obtain⟨u,p2,q2⟩:=h2;exact⟨_,ze3 p p2,zpT q q2⟩
def zak (h:VS X st g):VSs X [st] g:=let ⟨t,p,q⟩:=h;⟨t,ziY p,q⟩
def frzE (i:Nat)(Z:En):En:=match Z[i]? with
|some (.own _ d)=>Z.set i (.val d)
|_=>Z
def zgP (i:Nat)(h:VSs X sts g):VSs X sts (λZ=>g (frzE i Z)):=by
 obtain⟨t,p,q⟩:=h;refine⟨t,p,λHz Jz O Z Y H J o E s e w=>?_⟩;have e:g (frzE i Z)=some o:=e
 unfold frzE at e;cases z:Z[i]? with
|none=>rw[z] at e;exact q Hz Jz O Z Y H J o E s e w
|some x=>
   rw[z] at e;cases x with
  |own n d=>
     obtain⟨J',s',k⟩:=s.frz z;exact q Hz Jz O _ Y H J' o E s' e (w.keep k)
  |_=>exact q Hz Jz O Z Y H J o E s e w
def gCt:FS:=λZ=>some (.ct Z)
def zek:VS X (.Continue pos) gCt:=⟨_,zgC,λHz Jz O Z Y H J o E s e w=>by cases e;exact w Y H J s Keep.refl⟩
def gNo:FS:=λ_=>none
def zd3:VS X st gNo:=⟨_,zhl,λHz Jz O Z Y H J o E s e w=>by cases e⟩
def gRet (f:FE):FS:=λZ=>(f Z).bind λd=>some (.ret (.told d) Z)
def zas (h:VE X e fa):VS X (.Return (some e) pos) (gRet fa):=by
 obtain⟨t,p,q⟩:=h;refine⟨_,zmw p,λHz Jz O Z Y H J o E s e w=>?_⟩;obtain⟨d,e1,e⟩:=bind_some e;cases e;exact q Hz Jz O Z Y H J d _ s e1 λv H' J' u r=>w v Y H' J' (s.up u) r
def gEx (f:FE):FS:=λZ=>(f Z).bind λ_=>some (.nx Z)
def zgQ (h:VE X e fa)(hs:swapsWith e none pos.line X.env=pure false:=by rfl):VS X (.Expr e pos) (gEx fa):=by
 obtain⟨t,p,q⟩:=h;refine⟨_,zdA p hs,λHz Jz O Z Y H J o E s e w=>?_⟩;obtain⟨d,e1,e⟩:=bind_some e;cases e;exact q Hz Jz O Z Y H J d _ s e1 λv H' J' u r=>w Y H' J' (s.up u) u.keep
def gIf (c:FT)(a b:FS):FS:=λZ=>(c Z).bind λk=>if k then a Z else b Z
def zbJ {c:Expr}{bs os:List Stmt}(hc:VT X c ft)(ha:VSs X bs g)(hb:VSs X os g2):VS X (.If c bs os pos) (gIf ft g g2):=by
 obtain⟨tc,pc,qc⟩:=hc;obtain⟨t,p,q⟩:=ha;obtain⟨u,p2,q2⟩:=hb;refine⟨_,znq pc p p2,λHz Jz O Z Y H J o E s e w=>?_⟩;obtain⟨k,e1,e⟩:=bind_some e;refine qc Hz Jz O Z Y H J k _ s e1 λH1 J1 u1=>?_
 cases k with
|true=>exact iteT (q Hz Jz O Z Y H1 J1 o E (s.up u1) e (w.keep u1.keep))
|false=>exact iteF (q2 Hz Jz O Z Y H1 J1 o E (s.up u1) e (w.keep u1.keep))
def gSet (i:Nat)(f:FE):FS:=λZ=>(f Z).bind λd=>if i<Z.length/\isPar (Z[i]?)=false then some (.nx (Z.set i (.val d))) else none
def zjG {i:Nat}{t:TE}(q:GoE K t fa):GoS K (tAsg t (zdU i)) (gSet i fa):=by
 intro Hz Jz O Z Y H J o E s e w;obtain⟨d,e1,e⟩:=bind_some e;by_cases hi:i<Z.length/\isPar (Z[i]?)=false
 .rw[if_pos hi] at e;cases e;exact q Hz Jz O Z Y H J d _ s e1 λv H' J' u r=>w _ H' J' ((s.up u).set r hi.1 (zbs hi.2)) u.keep
 .rw[if_neg hi] at e;cases e
def zpU {i:Nat}{x:Str}{pos':Pos}(hN:X.N.Nodup)(hi:X.N[i]?=some x)(hx:Loc X.env.scope x)(h:VE X e fa)(hs:swapsWith e (some (.Name x pos')) pos.line X.env=pure false:=by rfl)(hf:X.fn x=true\/X.env.scope.names.lookup x=some .local:=by first|exact .inl rfl|exact .inr rfl|assumption) :
 VS X (.Assign [.Name x pos'] e pos) (gSet i fa):=by
 obtain⟨t,p,q⟩:=h;exact⟨_,zhm hN hi hx p hs hf,zjG q⟩
def gOwn (i:Nat)(f:FA):FS:=λZ=>(f Z).bind λds=>if i<Z.length/\isPar (Z[i]?)=false then some (.nx (Z.set i (.own 1 (.lst ds)))) else none
def zmO {i:Nat}{t:TE}(q:GoN K t fl):GoS K (tAsg t (zdU i)) (gOwn i fl):=by
 intro Hz Jz O Z Y H J o E s e w;obtain⟨ds,e1,e⟩:=bind_some e;by_cases hi:i<Z.length/\isPar (Z[i]?)=false
 .rw[if_pos hi] at e;cases e;refine q Hz Jz O Z Y H J ds _ s e1 λp vs H' J' u hp nj h' r=>w _ H' J' (s.setOwn (A:=[p]) u (λb hb=>by rw[wao.mp hb];exact hp) (.lst h' (RpUL.of r)) (by simp) (λb hb=>by rw[wao.mp hb];exact nj) hi.1 (zbs hi.2)) u.keep
 .rw[if_neg hi] at e;cases e
def gRetN (f:FA):FS:=λZ=>(f Z).bind λds=>some (.ret (.new 1 (.lst ds)) Z)
def zfV (h:VN X e fl):VS X (.Return (some e) pos) (gRetN fl):=by
 obtain⟨t,p,q⟩:=h;refine⟨_,zmw p,λHz Jz O Z Y H J o E s e w=>?_⟩;obtain⟨ds,e1,e⟩:=bind_some e;cases e;refine q Hz Jz O Z Y H J ds _ s e1 λp vs H' J' u hp nj h' r=>?_
 obtain⟨fp,ow⟩:=(s.up u).ow;obtain⟨fp0,ow0⟩:=s.ow;have s':=s.up u
 refine w _ Y H' J' s' ⟨[p],fp0,⟨λi=>(ow0.at' i).keep u.keep λb _=>u.same b,ow0.nd,λi b hb jb=>?_,ow0.dj⟩,.lst h' (RpUL.of r),by simp,λb hb=>?_,λi b hb hb2=>?_⟩
 .rcases u.jn b jb with jb|jb
  .exact ow0.nj i b hb jb
  .obtain⟨o,e,_⟩:=(ow0.at' i).ru b hb;rw[e] at jb;cases jb
 .rw[wao.mp hb];refine⟨nj,?_⟩;cases e:Hz p with
 |none=>rfl
 |some o=>exact absurd hp (s.al p (by rw[e];simp))
 .rw[wao.mp hb] at hb2;obtain⟨o,e,_⟩:=(ow0.at' i).ru p hb2;rw[hp] at e;cases e
def zpV {i:Nat}{x:Str}{pos':Pos}(hN:X.N.Nodup)(hi:X.N[i]?=some x)(hx:Loc X.env.scope x)(h:VN X e fl)(hs:swapsWith e (some (.Name x pos')) pos.line X.env=pure false:=by rfl)(hf:X.fn x=true\/X.env.scope.names.lookup x=some .local:=by first|exact .inl rfl|exact .inr rfl|assumption) :
 VS X (.Assign [.Name x pos'] e pos) (gOwn i fl):=by
 obtain⟨t,p,q⟩:=h;exact⟨_,zhm hN hi hx p hs hf,zmO q⟩
def gAsg (f:FE)(g:FG):FS:=λZ=>(f Z).bind λd=>(g d Z).bind λZ'=>some (.nx Z')
def zpW {tg:Expr}{is:List Nat}{fg:FG}(h:VE X e fa)(hg:VG X tg is fg)(hs:swapsWithSole [tg] e pos.line X.env=pure false:=by rfl)(hw:swappedStores [tg] e X.env=pure none:=by rfl)(h1:(assignEach [tg] X.env).map (·.2) = [assign tg X.env]:=by rfl):VS X (.Assign [tg] e pos) (gAsg fa fg):=by
 obtain⟨t,p,q⟩:=h;obtain⟨u,p2,q2⟩:=hg;refine⟨_,zi1 p p2 hs hw h1,λHz Jz O Z Y H J o E s e w=>?_⟩;obtain⟨d,e1,e⟩:=bind_some e;obtain⟨Z',e2,e⟩:=bind_some e;cases e;exact q Hz Jz O Z Y H J d _ s e1 λv H' J' u r=>q2.2 Hz Jz O Z Y H' J' v d Z' _ (s.up u) r e2 λY' s'=>w Y' H' J' s' u.keep
def setO (Z:En)(i:Nat)(d:D):En:=Z.set i (putD (Z[i]?) d)
def ST.top {Hz H H':Hp}{Jz J:Addr->Prop}{O:Pr}{Z:En}{Y:L2.St}{i:Nat}{ds es:List D}(s:ST K Hz Jz O Z Y H J)(h0:ownD (Z[i]?)=some (1,.lst ds)):∃a vs,Y[i]?=some (some (.ref a))/\H a=some (.lst vs)/\RpL K H J vs ds/\
 ∀(us:List V) (es:List D),RpL K H J us es->ST K Hz Jz O (setO Z i (.lst es)) Y (upd H a (.lst us)) J/\Keep K H J (upd H a (.lst us)) J:=by
 obtain⟨v,A,hv,r,nd,nj,go⟩:=s.chg h0;obtain⟨a,vs,rfl,rfl,ha,rl⟩:=r.one;refine⟨a,vs,hv,ha,rl,λus es re=>?_⟩;have nja:¬J a:=nj a (by simp)
 have kp:Keep K H J (upd H a (.lst us)) J:=zcG ha nja
 refine go (upd H a (.lst us)) J (.lst es) [a] (λb o hb h=>?_) (λb h=>?_) (λ_ h=>h) (λ_ h=>.inl h) (λb h=>?_) (.lst zai (RpUL.of (re.keep kp))) (by simp) nj (λb hb=>.inl hb)
 .rw[zah (λz=>hb (by simp[z]))];exact h
 .by_cases e:b=a
  .subst e;rw[zai];simp
  .rw[zah e];exact h
 .by_cases e:b=a
  .subst e;rw[zai];simp
  .rw[zah e];exact s.ja b h
def gApp (i:Nat)(f:FE):FS:=λZ=>(f Z).bind λd=>match ownD (Z[i]?) with
|some (1,.lst ds)=>if ds.length<lim then some (.nx (setO Z i (.lst (ds++[d])))) else none
|_=>none
def zpX {i:Nat}{t:TA}(q:GoA K t fl)(f:FE)(hf:∀Z d,f Z=some d->fl Z=some [d]):GoS K (zk2 (tBM K "list" ze8 (tVar i) t)) (gApp i f):=by
 intro Hz Jz O Z Y H J o E s e w;obtain⟨d,e1,e⟩:=bind_some e;split at e
 .rename_i ds z
  by_cases hl:ds.length<lim
  .rw[if_pos hl] at e;cases e;obtain⟨a,vs,ha,hv,_,_⟩:=s.top (H':=H) (es:=[]) z;refine⟨.ref a,ha,.inl ⟨rfl,vs,SqL.of hv⟩,q Hz Jz O Z Y H J [d] _ s (hf Z d e1) λws H1 J1 u1 r1=>?_⟩;obtain⟨v,rfl,rv⟩:=r1.one;obtain⟨a',vs',ha',hv',rl,go⟩:=(s.up u1).top (H':=H) (es:=[]) z;rw[ha] at ha';cases ha';refine⟨a,vs',v,rfl,rfl,hv',by rw[rl.length];exact wam hl (wbg zeg),?_⟩;obtain⟨s2,k2⟩:=go (vs'++[v]) (ds++[d]) (rl.append (.cons rv .nil));exact w Y _ J1 s2 (u1.keep.trans k2)
  .rw[if_neg hl] at e;cases e
 .cases e
def zjH (i:Nat){x:Str}{xp apos cpos:Pos}(h:VE X e fa)(hN:X.N[i]?=some x:=by rfl)(hv:Vis X.env.scope x:=by first|exact Or.inl rfl|exact Or.inr (Or.inl rfl)|exact Or.inr (Or.inr rfl))(hd:(x == ("__debug__":Str))=false:=by decide)
 (hcd:(x == ("__classdict__":Str))=false:=by decide) (h1:starEach [e] X.env=(false,eval e X.env)::starEach [] X.env:=by rfl)
 (hbase:attributeBase (.Name x xp) "append" X.env (eval (.Name x xp) X.env)=eval (.Name x xp) X.env:=by rfl)
 (hfew:((backTo cpos (starEach [e] X.env)).all (λx=>!x.1)&&(backToKw cpos (keywordEach [] X.env)).all (λx=>x.1.isSome)
  && decide ([e].length+([]:List Keyword).length+(if([]:List Keyword).isEmpty then 0 else 1)<30))=true:=by rfl)
 (hline:(apos.endLine == cpos.line)=true:=by rfl) (hs:starEach [e] X.env = [(false,eval e X.env)]:=by rfl) (hsw:swapsWith (.Call (.Attribute (.Name x xp) "append" apos) [e] [] cpos) none pos.line X.env=pure false:=by rfl) :
 VS X (.Expr (.Call (.Attribute (.Name x xp) "append" apos) [e] [] cpos) pos) (gApp i fa):=by
 obtain⟨t,p,q⟩:=zaa h zaf h1;refine⟨_,zdA (papp (zcA hN hv hd hcd) p hbase hfew hline hs) hsw,zpX q fa λZ d e=>?_⟩;show((fa Z).bind λx=>(aNil Z).bind λxs=>some (x::xs))=some [d]
 rw[e];rfl
def gExt (i:Nat)(f:FE):FS:=λZ=>(f Z).bind λd=>match d,ownD (Z[i]?) with
|.lst es,some (1,.lst ds)=>if(ds++es).length<=lim then some (.nx (setO Z i (.lst (ds++es)))) else none
|_,_=>none
def zpY {i:Nat}{t:TA}(q:GoA K t fl)(f:FE)(hf:∀Z d,f Z=some d->fl Z=some [d]):GoS K (zk2 (tBM K "list" zjf (tVar i) t)) (gExt i f):=by
 intro Hz Jz O Z Y H J o E s e w;obtain⟨d,e1,e⟩:=bind_some e;split at e
 .rename_i es ds z
  by_cases hl:(ds++es).length<=lim
  .rw[if_pos hl] at e;cases e;obtain⟨a,vs,ha,hv,_,_⟩:=s.top (H':=H) (es:=[]) z;refine⟨.ref a,ha,.inl ⟨rfl,vs,SqL.of hv⟩,q Hz Jz O Z Y H J [.lst es] _ s (hf Z _ e1) λws H1 J1 u1 r1=>?_⟩;obtain⟨v,rfl,rv⟩:=r1.one;obtain⟨b,us,rfl,hb,rb⟩:=RpW.lst (.inl rv);obtain⟨a',vs',ha',hv',rl,go⟩:=(s.up u1).top (H':=H) (es:=[]) z;rw[ha] at ha';cases ha';refine⟨a,b,vs',us,rfl,rfl,hv',hb,by rw[rl.length,rb.length,<-wap];exact zch hl,?_⟩;obtain⟨s2,k2⟩:=go (vs'++us) (ds++es) (rl.append rb);exact w Y _ J1 s2 (u1.keep.trans k2)
  .rw[if_neg hl] at e;cases e
 .cases e
def zmP (i:Nat){x:Str}{xp apos cpos:Pos}(h:VE X e fa)(hN:X.N[i]?=some x:=by rfl)(hv:Vis X.env.scope x:=by first|exact Or.inl rfl|exact Or.inr (Or.inl rfl)|exact Or.inr (Or.inr rfl))(hd:(x == ("__debug__":Str))=false:=by decide)
 (hcd:(x == ("__classdict__":Str))=false:=by decide) (h1:starEach [e] X.env=(false,eval e X.env)::starEach [] X.env:=by rfl)
 (hbase:attributeBase (.Name x xp) "extend" X.env (eval (.Name x xp) X.env)=eval (.Name x xp) X.env:=by rfl)
 (hfew:((backTo cpos (starEach [e] X.env)).all (λx=>!x.1)&&(backToKw cpos (keywordEach [] X.env)).all (λx=>x.1.isSome)
  && decide ([e].length+([]:List Keyword).length+(if([]:List Keyword).isEmpty then 0 else 1)<30))=true:=by rfl)
 (hline:(apos.endLine == cpos.line)=true:=by rfl) (hs:starEach [e] X.env = [(false,eval e X.env)]:=by rfl) (hsw:swapsWith (.Call (.Attribute (.Name x xp) "extend" apos) [e] [] cpos) none pos.line X.env=pure false:=by rfl) :
 VS X (.Expr (.Call (.Attribute (.Name x xp) "extend" apos) [e] [] cpos) pos) (gExt i fa):=by
 obtain⟨t,p,q⟩:=zaa h zaf h1;refine⟨_,zdA (zps PySem.F.plainAttrs_list PySem.F.slot_list_extend PySem.F.type_list_extend zjg (zcA hN hv hd hcd) p hbase hfew hline hs rfl) hsw,zpY q fa λZ d e=>?_⟩;show((fa Z).bind λx=>(aNil Z).bind λxs=>some (x::xs))=some [d]
 rw[e];rfl
end
def forL (tg:FG)(b:FS):List D->En->Option Out
|[],Z=>some (.nx Z)
|d::r,Z=>(tg d Z).bind λZ1=>(b Z1).bind λo=>match o with
  |.nx Z2=>forL tg b r Z2
  |.ct Z2=>forL tg b r Z2
  |.bk Z2=>some (.nx Z2)
  |.ret d Z2=>some (.ret d Z2)
def gFor (fi:FA)(tg:FG)(b:FS):FS:=λZ=>(fi Z).bind λds=>forL tg b ds Z
section
variable {X:Cx}{K:W.Frag}{fi:FA}{g:FS}{pos:Pos}{ft:FT}
def zpZ {wi:TI}{tb:TS}{tg:TG}{fg:FG}{is:List Nat}(hi:GoI K wi fi)(hg:GoG K tg is fg)(hb:GoS K tb g):GoS K (tFor wi tg tb) (gFor fi fg g):=by
 intro Hz Jz O Z Y H J o E s e w;obtain⟨ds,e1,e⟩:=bind_some e;refine hi Hz Jz O Z Y H J ds _ s e1 λI H1 J1 u1 src=>?_
 refine⟨λi m Y' H'=>m=ds.length - i/\i<=ds.length/\∃Z' J',ST K Hz Jz O Z' Y' H' J'/\Keep K H1 J1 H' J'/\forL fg g (ds.drop i) Z'=some o,⟨ds.length,by simp,wbu _,Z,J1,s.up u1,Keep.refl,by simpa using e⟩,?_⟩;rintro i m Y2 H2 ⟨rfl,hil,Z2,J2,s2,k2,e2⟩;obtain⟨stop,turn⟩:=src H2 J2 k2 s2.ja;by_cases hlt:i<ds.length
 .right
  have hd:ds[i]?=some ds[i]:=wat hlt
  generalize hdd:ds[i]=d at hd;obtain⟨go,yl⟩:=turn i d hd;have edrop:ds.drop i=d::ds.drop (i+1):=by rw[<-hdd];exact(wbx hlt).symm
  rw[edrop] at e2;unfold forL at e2;obtain⟨Z3,eg,e2⟩:=bind_some e2;obtain⟨ob,eb,e2⟩:=bind_some e2;refine⟨go,λY' H'=>∃Z' J',ST K Hz Jz O Z' Y' H' J'/\Keep K H1 J1 H' J'/\forL fg g (ds.drop (i+1)) Z'=some o,λY' H' h=>⟨ds.length - (i+1),by omega,rfl,hlt,h⟩,λx H3 y=>?_⟩;obtain⟨J3,u3,r3⟩:=yl x H3 y;refine hg.2 Hz Jz O Z2 Y2 H3 J3 x d Z3 _ (s2.up u3) r3 eg λY4 s4=>?_
  refine hb Hz Jz O Z3 Y4 H3 J3 ob _ s4 eb ?_;have k3:=k2.trans u3.keep
  cases ob with
 |nx Z5=>exact λY5 H5 J5 s5 k5=>⟨Z5,J5,s5,k3.trans k5,e2⟩
 |ct Z5=>exact λY5 H5 J5 s5 k5=>⟨Z5,J5,s5,k3.trans k5,e2⟩
 |bk Z5=>cases e2;exact λY5 H5 J5 s5 k5=>w Y5 H5 J5 s5 ((u1.keep.trans k3).trans k5)
 |ret d Z5=>cases e2;exact w
 .left
  have hi':i=ds.length:=by omega
  subst hi';rw[wce] at e2;cases e2;exact⟨stop,w Y2 H2 J2 s2 (u1.keep.trans k2)⟩
def zdm {tg iter:Expr}{body:List Stmt}{is:List Nat}{fg:FG}(hi:VI X tg iter fi)(hg:VG X tg is fg)(hb:VSs X body g)(hp:PassesOwn (model X.prog X.w) X.A X.env X.xe:=by exact PassesOwn.never)(hc:X.calm=true:=by rfl)
 (hs:∀x,foldedSetIterable iter X.env x=pure x:=by intro _;rfl):VS X (.For tg iter body [] pos) (gFor fi fg g):=by
 obtain⟨wi,p1,q1⟩:=hi;obtain⟨t,p2,q2⟩:=hg;obtain⟨tb,p3,q3⟩:=hb;exact⟨_,zmz hp hc p1 p2 p3 hs,zpZ q1 q2 q3⟩
def zdR (c:FT)(b:FS):Nat->En->Option Out
|0,_=>none
|n+1,Z=>(c Z).bind λk=>if k then(b Z).bind λo=>match o with
  |.nx Z2=>zdR c b n Z2
  |.ct Z2=>zdR c b n Z2
  |.bk Z2=>some (.nx Z2)
  |.ret d Z2=>some (.ret d Z2)
   else some (.nx Z)
def gWhile (c:FT)(b:FS)(fuel:En->Nat):FS:=λZ=>zdR c b (fuel Z) Z
def zlB {tc:TT}{tb:TS}{fuel:En->Nat}(hc:GoT K tc ft)(hb:GoS K tb g):GoS K (zmy tc tb) (gWhile ft g fuel):=by
 intro Hz Jz O Z Y H J o E s e w;refine⟨λm Y' H'=>∃Z' J',ST K Hz Jz O Z' Y' H' J'/\Keep K H J H' J'/\zdR ft g m Z'=some o,⟨fuel Z,Z,J,s,Keep.refl,e⟩,?_⟩;rintro m Y2 H2 ⟨Z2,J2,s2,k2,e2⟩;cases m with
|zero=>cases e2
|succ n=>
   unfold zdR at e2;obtain⟨k,ek,e2⟩:=bind_some e2;refine hc Hz Jz O Z2 Y2 H2 J2 k _ s2 ek λH3 J3 u3=>?_
   have s3:=s2.up u3
   have k3:=k2.trans u3.keep
   cases k with
  |true=>
     refine iteT ?_;rw[if_pos rfl] at e2;obtain⟨ob,eb,e2⟩:=bind_some e2;refine⟨λY' H'=>∃Z' J',ST K Hz Jz O Z' Y' H' J'/\Keep K H J H' J'/\zdR ft g n Z'=some o,λY' H' h=>⟨n,Nat.lt_succ_self n,h⟩,?_⟩;refine hb Hz Jz O Z2 Y2 H3 J3 ob _ s3 eb ?_;cases ob with
    |nx Z5=>exact λY5 H5 J5 s5 k5=>⟨Z5,J5,s5,k3.trans k5,e2⟩
    |ct Z5=>exact λY5 H5 J5 s5 k5=>⟨Z5,J5,s5,k3.trans k5,e2⟩
    |bk Z5=>cases e2;exact λY5 H5 J5 s5 k5=>w Y5 H5 J5 s5 (k3.trans k5)
    |ret d Z5=>cases e2;exact w
  |false=>
     refine iteF ?_;rw[if_neg (by simp)] at e2;cases e2;exact w Y2 H3 J3 s3 k3
def zlC {c:Expr}{body:List Stmt}(fuel:En->Nat)(hc:VT X c ft)(hb:VSs X body g)(hp:PassesOwn (model X.prog X.w) X.A X.env X.xe:=by exact PassesOwn.never):VS X (.While c body [] pos) (gWhile ft g fuel):=by
 obtain⟨t,p2,q2⟩:=hc;obtain⟨tb,p3,q3⟩:=hb;exact⟨_,zk5 hp p2 p3,zlB q2 q3⟩
end
def zlD (N:List Str)(st:Stmt){X:Cx}{i:Nat}{x:Str}{elt iter tg:Expr}{ifs:List Expr}{scope:Scope}{pos pos' cp:Pos}{NC:List Str}(fr:List (Option Nat)){fi:FA}{g:FG}{is:List Nat}{ft:FT}{fe:FE}(hND:X.N.Nodup)(hix:X.N[i]?=some x)(hx:Loc X.env.scope x){RR:Hp->Prop}(hRR:∀pins Y H s,Inv X pins Y H s->RR H)(hcalm:X.calm=true)(hi:VI X tg iter fi)
 (hcells:∀x,X.env.scope.names.lookup x=some .cell->∃c,X.env.cells.lookup x=some c) (hfk:X.env.scope.kind=.function) (hN:X.N=N) (hsc:X.env.scope.names=(zab st).names)
 (hfree':∀y∈scope.names,y.2=.free->(zab st).names.lookup y.1=some .cell) (hcell:∀y∈scope.names,y.2≠.cell) (hkind:scope.kind=.function) (hnames:∀y∈scope.names,y.2=.local->scope.names.lookup y.1=some .local)
 (hfr':zcn N (zab st).names scope.names NC fr=true) (hlen:fr.length=NC.length) (hap:apart is fr=true)
 (hg:∀cl C s0 H0 ex pn,VG (cxC X scope cl NC C s0 H0 ex pn) tg is g) (ht:∀cl C s0 H0 ex pn,VTs (cxC X scope cl NC C s0 H0 ex pn) ifs ft) (he:∀cl C s0 H0 ex pn,RR H0->VE (cxC X scope cl NC C s0 H0 ex pn) elt fe)
 (hs:∀x,foldedSetIterable iter X.env x=pure x:=by intro _;rfl) (hsw:swapsWith (.ListComp elt [⟨tg,iter,ifs,0⟩] scope cp) (some (.Name x pos')) pos.line X.env=pure true:=by rfl)
 (hf:X.fn x=true\/X.env.scope.names.lookup x=some .local:=by first|exact .inl rfl|exact .inr rfl|assumption) :
 VS X (.Assign [.Name x pos'] (.ListComp elt [⟨tg,iter,ifs,0⟩] scope cp) pos) (gSet i (eL (zfb fr fi g ft fe)))/\VS X (.Assign [.Name x pos'] (.ListComp elt [⟨tg,iter,ifs,0⟩] scope cp) pos) (gOwn i (zfb fr fi g ft fe)):=by
 obtain⟨wi,pi,gi⟩:=hi;obtain⟨_,_,hon,_⟩:=hg [] 0 X.s₀ X.Hz [] [];have p:=zhy N st (i:=i) (pos:=pos) (pos':=pos') (cp:=cp) fr hND hix hx hRR hcalm pi hcells hfk hN hsc hfree' hcell hkind hnames hfr' hlen (λcl C s0 H0 ex pn=>show PG (cxC X scope cl NC C s0 H0 ex pn) tg (TGof X.K g) from(hg cl C s0 H0 ex pn).of) (λcl C s0 H0 ex pn=>show PTs (cxC X scope cl NC C s0 H0 ex pn) ifs (TTof X.K ft) from ht cl C s0 H0 ex pn) (λcl C s0 H0 ex pn r=>show PE (cxC X scope cl NC C s0 H0 ex pn) elt (TEof X.K fe) from(he cl C s0 H0 ex pn r).of) hs hsw hf
 exact⟨⟨_,p,zjG (zmK (zgO gi hon hap))⟩,⟨_,p,zmO (zgO gi hon hap)⟩⟩
def znY (N:List Str)(st:Stmt){X:Cx}{i:Nat}{x:Str}{elt iter tg:Expr}{ifs:List Expr}{scope:Scope}{pos pos' cp:Pos}{NC:List Str}(fr:List (Option Nat)){fi:FA}{g:FG}{is:List Nat}{ft:FT}{fe:FE}(hND:X.N.Nodup)(hix:X.N[i]?=some x)(hx:Loc X.env.scope x)(hcalm:X.calm=true)(hi:VI X tg iter fi)
 (hcells:∀x,X.env.scope.names.lookup x=some .cell->∃c,X.env.cells.lookup x=some c) (hfk:X.env.scope.kind=.function) (hN:X.N=N) (hsc:X.env.scope.names=(zab st).names)
 (hfree':∀y∈scope.names,y.2=.free->(zab st).names.lookup y.1=some .cell) (hcell:∀y∈scope.names,y.2≠.cell) (hkind:scope.kind=.function) (hnames:∀y∈scope.names,y.2=.local->scope.names.lookup y.1=some .local)
 (hfr':zcn N (zab st).names scope.names NC fr=true) (hlen:fr.length=NC.length) (hap:apart is fr=true)
 (hg:∀cl C s0 H0 ex pn,VG (cxC X scope cl NC C s0 H0 ex pn) tg is g) (ht:∀cl C s0 H0 ex pn,VTs (cxC X scope cl NC C s0 H0 ex pn) ifs ft) (he:∀cl C s0 H0 ex pn,VE (cxC X scope cl NC C s0 H0 ex pn) elt fe)
 (hs:∀x,foldedSetIterable iter X.env x=pure x:=by intro _;rfl) (hsw:swapsWith (.ListComp elt [⟨tg,iter,ifs,0⟩] scope cp) (some (.Name x pos')) pos.line X.env=pure true:=by rfl)
 (hf:X.fn x=true\/X.env.scope.names.lookup x=some .local:=by first|exact .inl rfl|exact .inr rfl|assumption) :
 VS X (.Assign [.Name x pos'] (.ListComp elt [⟨tg,iter,ifs,0⟩] scope cp) pos) (gSet i (eL (zfb fr fi g ft fe)))/\VS X (.Assign [.Name x pos'] (.ListComp elt [⟨tg,iter,ifs,0⟩] scope cp) pos) (gOwn i (zfb fr fi g ft fe)):=
 zlD (RR:=λ_=>True) N st fr hND hix hx (λ_ _ _ _ _=>trivial) hcalm hi hcells hfk hN hsc hfree' hcell hkind hnames hfr' hlen hap hg ht (λcl C s0 H0 ex pn _=>he cl C s0 H0 ex pn) hs hsw hf
section
variable {P:Program}{w:World}{K:W.Frag}{mg:Str->Option Value}{base:Heap}
def ST.out {Hz H:Hp}{Jz J:Addr->Prop}{Z:En}{Y:L2.St}(s:ST K Hz Jz Pr.no Z Y H J):Up Hz Jz H J:=⟨λb o=>s.same b o (λ⟨_,h⟩=>by simp[Pr.no] at h),s.j0,s.jn,s.ja⟩
def zd4 {N:List Str}{H:Hp}{J:Addr->Prop}{vs:List V}{ds:List D}(ja:∀a,J a->H a≠none)(r:RpL K H J vs ds):ST K H J Pr.no (ds.map SV.val++List.replicate (N.length - ds.length) .un) (start N vs) H J where
 same:=λ_ _ _ h=>h
 j0:=λ_ h=>h
 jn:=λ_ h=>.inl h
 ja:=ja
 al:=λ_ h=>h
 ps:=λq hq=>absurd hq (by simp[Pr.no])
 len:=by simp[L2.start,r.length]
 vl:=λi x h=>by
  rw[List.getElem?_append] at h;by_cases hi:i<(ds.map SV.val).length
  .rw[if_pos hi,waw] at h;cases q:ds[i]? with
  |none=>rw[q] at h;cases h
  |some d=>
     rw[q] at h;cases h;obtain⟨v,hv,rv⟩:=r.get q;refine⟨v,?_,rv⟩;unfold L2.start;rw[waX (by simp at hi⊢;rw[r.length];exact hi),waw,hv];rfl
  .rw[if_neg hi] at h;have:=waH h
   cases List.eq_of_mem_replicate this
 ow:=⟨λ_=>[],λi=>zjF (by
  cases h:(List.map SV.val ds++List.replicate (N.length - ds.length) SV.un)[i]? with
 |none=>rfl
 |some x=>
    rcases waC.mp (waH h) with h|h
    .obtain⟨d',_,h⟩:=waD.mp h;subst h;rfl
    .cases List.eq_of_mem_replicate h;rfl),λ_=>waU,λ_ b hb=>absurd hb (by simp),λ_ _ _ b hb=>absurd hb (by simp)⟩
end
def zfd {X:Cx}(hc:X.calm=true):zc5 X (.builtin "any") (λxs H Q=>∃(p:Addr) (bs:List Bool),xs = [.ref p]/\SqL X.K H p (bs.map V.bl)/\Q (.bl (bs.any id)) H):=λpins s Y H xs us Q I r h=>zeG (I.ok.hd hc) pins s Y H xs us Q I r h
theorem zmQ {P:Program}{w:World}{K:W.Frag}{mg:Str->Option Value}{base:Heap}{f:Addr}{fd:FuncData}{ps:List Str}{x:Str}{b:(List D->Option D)->List D->Option D}{m:Nat->List D->Option D}(h0:∀ds,m 0 ds=none)(hs:∀n,m (n+1)=b (m n))
 (bd:Binds K fd ps []) (kp:W.keepIn K (.ref f)=true) (mx:mg x=some (.ref f)) {k:Nat}(hlen:∀n ds d,m n ds=some d->ds.length=ps.length)
 (step:∀{n:Nat}{self:List D->Option D},Cal P w K mg base (k+n) x ps (spF K self)->FnOk P w K mg base CX0 (k+n+1) f fd ps (spF K (b self))):∀n,FnOk P w K mg base CX0 (k+n) f fd ps (spF K (m n))
|0=>by
   refine⟨λvs H Q E h=>?_,λA outer s H args us vs Q E _ _ _ _ h=>?_⟩
   .obtain⟨J,ds,d,_,_,e,_⟩:=h;rw[h0] at e;cases e
   .obtain⟨J,ds,d,_,_,e,_⟩:=h;rw[h0] at e;cases e
|n+1=>by
   rw[hs];exact step ⟨f,fd,zmQ h0 hs bd kp mx hlen step n,bd,kp,mx⟩
section
variable {K:W.Frag}{mg:Str->Option Value}
def zcS {x:Str}{n:Int}{t:Tok}(h:mg x=some (.int n t)):GlobD K mg x (.int n):=⟨_,.int n,h,⟨t,rfl⟩,λ_ _=>.int n⟩
def zlE {x n:Str}{t:Tok}(h:mg x=some (.str n t)):GlobD K mg x (.str n):=⟨_,.str n,h,⟨t,rfl⟩,λ_ _=>.str n⟩
def zlF {x:Str}{p:Addr}{o:Obj}{its:Array Value}{n:Nat}{vs:List V}{ds:List D}(h:mg x=some (.ref p))(l:K.lookup p=some o)(hc:o.cls=.type "tuple")(hd:o.data=.seq its n)(hz:its.size<=sizeLine)(hv:Vals vs its.toList)(hr:∀H J,RpL K H J vs ds):GlobD K mg x (.tup ds):=
 ⟨_,.ref p,h,rfl,λH J=>.tup (.inr ⟨o,its,n,l,hc,hd,hz,hv⟩) (hr H J)⟩
end
def tyD:D->String
|.non=>"NoneType"
|.bl _=>"bool"
|.int _=>"int"
|.str _=>"str"
|.tup _=>"tuple"
|.lst _=>"list"
|.dct _ _=>"dict"
|.scr _=>"list"
|.exc _ _ _=>"?"
def isK (k T:String):Bool:=k == T||(k == "bool"&&T == "int")
structure Kit (K:W.Frag)(T:String):Prop where
 non:PySem.W.kitOne K (.type "NoneType") (.type T)=some (isK "NoneType" T)
 bl:PySem.W.kitOne K (.type "bool") (.type T)=some (isK "bool" T)
 int:PySem.W.kitOne K (.type "int") (.type T)=some (isK "int" T)
 str:PySem.W.kitOne K (.type "str") (.type T)=some (isK "str" T)
 tup:PySem.W.kitOne K (.type "tuple") (.type T)=some (isK "tuple" T)
 lst:PySem.W.kitOne K (.type "list") (.type T)=some (isK "list" T)
 dct:PySem.W.kitOne K (.type "dict") (.type T)=some (isK "dict" T)
def zmR (K:W.Frag):List V->Hp->VK->Prop:=λxs H Q=>zpB K xs H Q\/∃a vs n k,xs = [.ref a,.ty n]/\SqT K H a vs/\PySem.W.kitOne K (.type "tuple") (.type n)=some k/\Q (.bl k) H
def zin {X:Cx}:zc5 X (.builtin "isinstance") (zmR X.K):=by
 intro pins s Y H xs us Q I r h;rcases h with h|⟨a,vs,n,k,rfl,hs,e,q⟩
 .exact znN pins s Y H xs us Q I r h
 .obtain⟨u,w',rfl,r1,r2⟩:=zlb r;obtain rfl:w'=Value.type n:=r2;obtain rfl:u=Value.ref a:=r1;obtain⟨its,_,p,_⟩:=I.tuple hs;obtain⟨o,h1,h2,_⟩:=p;exact waQ PySem.W.kitx_tuple I.kIn ⟨o,h1,h2⟩ e (λz=>nomatch z) λtk=>⟨.bl k,H,I.tok _,rfl,q⟩
def isD (T:String):D->Option D
|.scr _=>none
|.exc _ _ _=>none
|d=>some (.bl (isK (tyD d) T))
def zrt (T:String)(f:FE):FE:=λZ=>(f Z).bind (isD T)
def zde {T:String}{Ts:Str}{X:Cx}{a:Expr}{fa:FE}{p q pos:Pos}(KT:Kit X.K T)(B:Blt X.mg)(hv:bootBuiltins Ts=some (.type T))(ha:VW X a fa)(hBT:Ts∈zbY:=by decide +kernel)(hgT:Gl X Ts:=by rfl)(hnT:Ts≠"__name__":=by decide)(hdT:(Ts == ("__debug__":Str))=false:=by decide)(hg:Gl X "isinstance":=by rfl)
 (h1:starEach [a,.Name Ts q] X.env=(false,eval a X.env)::starEach [.Name Ts q] X.env:=by rfl) (h2:starEach [.Name Ts q] X.env=(false,eval (.Name Ts q) X.env)::starEach [] X.env:=by rfl)
 (hpl:(backTo pos (starEach [.Name Ts q] X.env)).any (·.1)=false:=by rfl):VE X (.Call (.Name "isinstance" p) [a,.Name Ts q] [] pos) (zrt T fa):=by
 obtain⟨t,pa,g⟩:=ha;refine⟨_,pb zin B boot_isinstance (zbg pa (zbg (ptn (v:=.ty T) (u:=.type T) B hv rfl hBT hgT hnT hdT) zc8 h2) h1) (by decide +kernel) hg (by decide) (by decide) h1 hpl,?_⟩;intro Hz Jz O Z Y H J d Q s e w;obtain⟨x,e1,e⟩:=bind_some e;refine g Hz Jz O Z Y H J x _ s e1 λv H1 J1 u1 r1=>?_
 show zmR X.K [v,.ty T] H1 Q
 cases x with
|scr p=>cases e
|exc _ _ _=>cases e
|non=>cases e;rw[r1.non];exact .inl ⟨_,_,_,_,rfl,.non,KT.non,w _ H1 J1 u1 (.bl _)⟩
|bl b=>cases e;rw[r1.bl];exact .inl ⟨_,_,_,_,rfl,.bl b,KT.bl,w _ H1 J1 u1 (.bl _)⟩
|int b=>cases e;rw[r1.int];exact .inl ⟨_,_,_,_,rfl,.int b,KT.int,w _ H1 J1 u1 (.bl _)⟩
|str b=>cases e;rw[r1.str];exact .inl ⟨_,_,_,_,rfl,.str b,KT.str,w _ H1 J1 u1 (.bl _)⟩
|tup ds=>cases e;obtain⟨a,vs,rfl,h1,_⟩:=r1.tup;exact .inr ⟨a,vs,T,_,rfl,h1,KT.tup,w _ H1 J1 u1 (.bl _)⟩
|lst ds=>cases e;obtain⟨a,vs,rfl,h1,_⟩:=r1.lst;exact .inl ⟨_,_,_,_,rfl,.lst h1,KT.lst,w _ H1 J1 u1 (.bl _)⟩
|dct ks ds=>cases e;obtain⟨a,kvs,vs,rfl,h1,_⟩:=r1.dct;exact .inl ⟨_,_,_,_,rfl,.dK h1,KT.dct,w _ H1 J1 u1 (.bl _)⟩
section
variable {K:W.Frag}{H H':Hp}{J J':Addr->Prop}
end
abbrev FX:=En->Option (D×En)
abbrev FR:=En->Option (RV×En)
abbrev FTX:=En->Option (Bool×En)
abbrev FAX:=En->Option (List D×En)
section
variable (K:W.Frag)
def GoX (t:TE)(f:FX):Prop:=∀Hz Jz O Z Y H J d Z' Q,ST K Hz Jz O Z Y H J->f Z=some (d,Z')->(∀v H' J',ST K Hz Jz O Z' Y H' J'->Keep K H J H' J'->Rp K H' J' v d->Q v H')->t Y H Q
def GoR (t:TE)(f:FR):Prop:=∀Hz Jz O Z Y H J r Z' Q,ST K Hz Jz O Z Y H J->f Z=some (r,Z')->(∀v H' J',ST K Hz Jz O Z' Y H' J'->Keep K H J H' J'->RtAt K Hz O Z' Y H' J' v r->Q v H')->t Y H Q
def GoTX (t:TT)(f:FTX):Prop:=∀Hz Jz O Z Y H J b Z' Q,ST K Hz Jz O Z Y H J->f Z=some (b,Z')->(∀H' J',ST K Hz Jz O Z' Y H' J'->Keep K H J H' J'->Q b H')->t Y H Q
def GoAX (t:TA)(f:FAX):Prop:=∀Hz Jz O Z Y H J ds Z' Q,ST K Hz Jz O Z Y H J->f Z=some (ds,Z')->(∀vs H' J',ST K Hz Jz O Z' Y H' J'->Keep K H J H' J'->RpL K H' J' vs ds->Q vs H')->t Y H Q
end
def VX (X:Cx)(e:Expr)(f:FX):Prop:=∃t,PE X e t/\GoX X.K t f
def VR (X:Cx)(e:Expr)(f:FR):Prop:=∃t,PE X e t/\GoR X.K t f
def VTX (X:Cx)(e:Expr)(f:FTX):Prop:=∃t,PT X e t/\GoTX X.K t f
def VPX (X:Cx)(e:Expr)(f:FTX):Prop:=∃t,PW X e t/\GoTX X.K t f
def VAX (X:Cx)(es:List Expr)(f:FAX):Prop:=∃t,PA X es t/\GoAX X.K t f
section
variable {X:Cx}{K:W.Frag}{a b c e:Expr}{es rest:List Expr}{fa fb fc:FX}{fe:FE}{ft fu:FTX}{fl:FAX}{fr:FR}{pos p p2:Pos}
def xE (f:FE):FX:=λZ=>(f Z).bind λd=>some (d,Z)
def VE.x (h:VE X e fe):VX X e (xE fe):=by
 obtain⟨t,p,g⟩:=h;refine⟨t,p,λHz Jz O Z Y H J d _ Q s e w=>?_⟩;obtain⟨d',e1,e⟩:=bind_some e;cases e;exact g Hz Jz O Z Y H J d Q s e1 λv H' J' u r=>w v H' J' (s.up u) u.keep r
def xT (f:FT):FTX:=λZ=>(f Z).bind λd=>some (d,Z)
def VT.x {f:FT}(h:VT X e f):VTX X e (xT f):=by
 obtain⟨t,p,g⟩:=h;refine⟨t,p,λHz Jz O Z Y H J d _ Q s e w=>?_⟩;obtain⟨d',e1,e⟩:=bind_some e;cases e;exact g Hz Jz O Z Y H J d Q s e1 λH' J' u=>w H' J' (s.up u) u.keep
def xA (f:FA):FAX:=λZ=>(f Z).bind λd=>some (d,Z)
def VA.x {f:FA}(h:VA X es f):VAX X es (xA f):=by
 obtain⟨t,p,g⟩:=h;refine⟨t,p,λHz Jz O Z Y H J d _ Q s e w=>?_⟩;obtain⟨d',e1,e⟩:=bind_some e;cases e;exact g Hz Jz O Z Y H J d Q s e1 λv H' J' u r=>w v H' J' (s.up u) u.keep r
def zlG {Hz H H':Hp}{Jz J J':Addr->Prop}{O:Pr}{Z:En}{Y:L2.St}{p:Addr}{vs:List V}{ds:List D}(s:ST K Hz Jz O Z Y H J)(u:Up H J H' J')(hp:H p=none)(nj:¬J' p)(h':H' p=some (.lst vs))(r:RpL K H' J' vs ds):RtAt K Hz O Z Y H' J' (.ref p) (.new 1 (.lst ds)):=by
 obtain⟨fp0,ow0⟩:=s.ow;refine⟨[p],fp0,⟨λi=>(ow0.at' i).keep u.keep λb _=>u.same b,ow0.nd,λi b hb jb=>?_,ow0.dj⟩,.lst h' (RpUL.of r),by simp,λb hb=>?_,λi b hb hb2=>?_⟩
 .rcases u.jn b jb with jb|jb
  .exact ow0.nj i b hb jb
  .obtain⟨o,e,_⟩:=(ow0.at' i).ru b hb;rw[e] at jb;cases jb
 .rw[wao.mp hb];refine⟨nj,?_⟩;cases e:Hz p with
 |none=>rfl
 |some o=>exact absurd hp (s.al p (by rw[e];simp))
 .rw[wao.mp hb] at hb2;obtain⟨o,e,_⟩:=(ow0.at' i).ru p hb2;rw[hp] at e;cases e
def RV.d:RV->D
|.told d=>d
|.new _ d=>d
def xR (f:FR):FX:=λZ=>(f Z).bind λq=>some (q.1.d,q.2)
def ST.tell {Hz H:Hp}{Jz J:Addr->Prop}{O:Pr}{Z:En}{Y:L2.St}{v:V}{r:RV}(s:ST K Hz Jz O Z Y H J)(q:RtAt K Hz O Z Y H J v r):∃J',ST K Hz Jz O Z Y H J'/\Keep K H J H J'/\Rp K H J' v r.d:=by
 cases r with
|told d=>exact⟨J,s,Keep.refl,q⟩
|new n d=>
   obtain⟨A,fp,ow,r,nd,hA,dj⟩:=q;have kp:Keep K H J H (λb=>J b\/b∈A):=⟨λ_ h=>.inl h,λ_ _ _ h=>h,λ_ _ h=>h⟩
   refine⟨λb=>J b\/b∈A,⟨s.same,λb h=>.inl (s.j0 b h),λb h=>?_,λb h=>?_,s.len,λj e h=>?_,⟨fp,λi=>(ow.at' i).keep kp λ_ _ _ h=>h,ow.nd,λi b hb jb=>?_,ow.dj⟩,s.ps,s.al⟩,kp,r.rp (λ_ h=>.inl h) (λb hb=>.inr hb)⟩
   .rcases h with h|h
    .exact s.jn b h
    .exact .inr (hA b h).2
   .rcases h with h|h
    .exact s.ja b h
    .obtain⟨o,e,_⟩:=r.some b h;rw[e];simp
   .obtain⟨v,e1,r1⟩:=s.vl j e h;exact⟨v,e1,r1.keep kp⟩
   .rcases jb with jb|jb
    .exact ow.nj i b hb jb
    .exact dj i b jb hb
def VR.x (h:VR X e fr):VX X e (xR fr):=by
 obtain⟨t,p,g⟩:=h;refine⟨t,p,λHz Jz O Z Y H J d _ Q s e w=>?_⟩;obtain⟨⟨r,Z1⟩,e1,e⟩:=bind_some e;cases e;refine g Hz Jz O Z Y H J r _ Q s e1 λv H' J' s' k q=>?_
 obtain⟨J2,s2,k2,r2⟩:=s'.tell q;exact w v H' J2 s2 (k.trans k2) r2
def x2 (F:D->D->Option D)(f g:FX):FX:=λZ=>(f Z).bind λq=>(g q.2).bind λr=>(F q.1 r.1).bind λd=>some (d,r.2)
def zjI {r:R2}{F:D->D->Option D}{ta tb:TE}(im:Im2 K r F)(ga:GoX K ta fa)(gb:GoX K tb fb):GoX K (tOp r ta tb) (x2 F fa fb):=by
 intro Hz Jz O Z Y H J d Z' Q s e w;obtain⟨⟨x,Z1⟩,ex,e⟩:=bind_some e;obtain⟨⟨y,Z2⟩,ey,e⟩:=bind_some e;obtain⟨z,ez,e⟩:=bind_some e;cases e;refine ga Hz Jz O Z Y H J x _ _ s ex λv1 H1 J1 s1 k1 r1=>?_
 refine gb Hz Jz O Z1 Y H1 J1 y _ _ s1 ey λv2 H2 J2 s2 k2 r2=>?_
 exact im H2 J2 v1 v2 x y d Q s2.ja (.inl (r1.keep k2)) (.inl r2) ez λv3 H3 J3 u3 r3=>w v3 H3 J3 (s2.up u3) ((k1.trans k2).trans u3.keep) r3
def zlH {op:Operator}{r:R2}{F:D->D->Option D}(ho:OpR X (binaryOp op) r)(im:Im2 X.K r F)(ha:VX X a fa)(hb:VX X b fb):VX X (.BinOp a op b pos) (x2 F fa fb):=by
 obtain⟨ta,pa,ga⟩:=ha;obtain⟨tb,pb,gb⟩:=hb;exact⟨_,zpm ho pa pb,zjI im ga gb⟩
def xt1 (f:FX):FTX:=λZ=>(f Z).bind λq=>(dB q.1).bind λk=>some (k,q.2)
def zlI {t:TE}(g:GoX K t fa):GoTX K (zk8 t) (xt1 fa):=by
 intro Hz Jz O Z Y H J d Z' Q s e w;obtain⟨⟨x,Z1⟩,ex,e⟩:=bind_some e;obtain⟨k,ek,e⟩:=bind_some e;cases e;refine g Hz Jz O Z Y H J x _ _ s ex λv H1 J1 s1 k1 r1=>?_
 cases x with
|bl k'=>cases ek;cases r1;exact⟨_,rfl,w H1 J1 s1 k1⟩
|_=>cases ek
def zjJ {op:CmpOp}{r:R2}{F:D->D->Option D}(ho:OpR X (compareOp op) r)(im:Im2 X.K r F)(ha:VX X a fa)(hb:VX X b fb)(hm:behindInMarks op b=false):VTX X (.Compare a [op] [b] pos) (xt1 (x2 F fa fb)):=by
 obtain⟨ta,pa,ga⟩:=ha;obtain⟨tb,pb,gb⟩:=hb;exact⟨_,zi8 ho pa pb hm,zlI (zjI im ga gb)⟩
def xtAnd (f g:FTX):FTX:=λZ=>(f Z).bind λq=>if q.1 then g q.2 else some (false,q.2)
def znZ {t u:TT}(g1:GoTX K t ft)(g2:GoTX K u fu):GoTX K (tAnd t u) (xtAnd ft fu):=by
 intro Hz Jz O Z Y H J d Z' Q s e w;obtain⟨⟨k,Z1⟩,ek,e⟩:=bind_some e;refine g1 Hz Jz O Z Y H J k _ _ s ek λH1 J1 s1 k1=>?_
 cases k with
|true=>exact iteT (g2 Hz Jz O _ Y H1 J1 d _ Q s1 e λH2 J2 s2 k2=>w H2 J2 s2 (k1.trans k2))
|false=>have e':some (false,Z1)=some (d,Z'):=e;cases e';exact iteF (w H1 J1 s1 k1)
def zhA (h:VTX X a ft):VPX X (.BoolOp .And [a] pos) ft:=let ⟨t,p,g⟩:=h;⟨t,ziW p,g⟩
def zgR (h:VTX X a ft)(h2:VPX X (.BoolOp .And (b::rest) pos) fu):VPX X (.BoolOp .And (a::b::rest) pos) (xtAnd ft fu):=let ⟨_,p,g⟩:=h;let ⟨_,p2,g2⟩:=h2;⟨_,zmv p p2,znZ g g2⟩
theorem VPX.t (h:VPX X a ft):VTX X a ft:=let ⟨t,p,g⟩:=h;⟨t,p.pt,g⟩
def axNil:FAX:=λZ=>some ([],Z)
def axCons (f:FX)(g:FAX):FAX:=λZ=>(f Z).bind λq=>(g q.2).bind λr=>some (q.1::r.1,r.2)
def zgS:VAX X [] axNil:=⟨_,zc8,λHz Jz O Z Y H J ds Z' Q s e w=>by cases e;exact w [] H J s Keep.refl .nil⟩
def zaX (ha:VX X e fa)(hr:VAX X es fl)(hs:starEach (e::es) X.env=(false,eval e X.env)::starEach es X.env:=by rfl):VAX X (e::es) (axCons fa fl):=by
 obtain⟨t,p,g⟩:=ha;obtain⟨t2,p2,g2⟩:=hr;refine⟨_,zbg p p2 hs,?_⟩;intro Hz Jz O Z Y H J ds Z' Q s e w;obtain⟨⟨x,Z1⟩,ex,e⟩:=bind_some e;obtain⟨⟨xs,Z2⟩,exs,e⟩:=bind_some e;cases e;refine g Hz Jz O Z Y H J x _ _ s ex λv1 H1 J1 s1 k1 r1=>?_
 refine g2 Hz Jz O Z1 Y H1 J1 xs _ _ s1 exs λvs H2 J2 s2 k2 r2=>?_
 exact w _ H2 J2 s2 (k1.trans k2) (.cons (r1.keep k2) r2)
def xTup (f:FAX):FX:=λZ=>(f Z).bind λq=>(mkT q.1).bind λd=>some (d,q.2)
def zmS {x1}(h:VAX X es fl):VX X (.Tuple es x1 pos) (xTup fl):=by
 obtain⟨t,p,g⟩:=h;refine⟨_,zmD p,?_⟩;intro Hz Jz O Z Y H J d Z' Q s e w;obtain⟨⟨xs,Z1⟩,exs,e⟩:=bind_some e;obtain⟨d',ed,e⟩:=bind_some e;cases e;obtain⟨hl,rfl⟩:=zfa ed;refine g Hz Jz O Z Y H J xs _ _ s exs λvs H1 J1 s1 k1 r1=>⟨by rw[r1.length];exact zch hl,λp hp=>?_⟩
 have un:=Up.new s1.ja hp (.tup vs)
 exact w _ _ _ (s1.up un) (k1.trans un.keep) (.tup (SqT.of zai) (r1.keep un.keep))
def xLst (f:FAX):FR:=λZ=>(f Z).bind λq=>if q.1.length<=lim then some (.new 1 (.lst q.1),q.2) else none
def zp0 (h:VAX X es fl):VR X (.List es pos) (xLst fl):=by
 obtain⟨t,p,g⟩:=h;refine⟨_,zmE p,?_⟩;intro Hz Jz O Z Y H J d Z' Q s e w;obtain⟨⟨xs,Z1⟩,exs,e⟩:=bind_some e;by_cases hl:xs.length<=lim
 .have e:(if xs.length<=lim then some (RV.new 1 (.lst xs),Z1) else none)=some (d,Z'):=e
  rw[if_pos hl] at e;cases e;refine g Hz Jz O Z Y H J xs _ _ s exs λvs H1 J1 s1 k1 r1=>⟨by rw[r1.length];exact zch hl,λp hp=>?_⟩
  have un:=Up.new s1.ja hp (.lst vs)
  exact w _ _ _ (s1.up un) (k1.trans un.keep) (zlG s1 un hp (λj=>s1.ja p j hp) zai (r1.keep un.keep))
 .have e:(if xs.length<=lim then some (RV.new 1 (.lst xs),Z1) else none)=some (d,Z'):=e
  rw[if_neg hl] at e;cases e
def zn0 (ha:VX X a fa)(hb:VX X b fb)(hs:zdb b:=by exact λ_ _=>rfl):VX X (.Subscript a b pos) (x2 dIx fa fb):=by
 obtain⟨ta,pa,ga⟩:=ha;obtain⟨tb,pb,gb⟩:=hb;exact⟨_,zif zfK pa pb hs,zjI znS ga gb⟩
def x1 (F:D->Option D)(f:FX):FX:=λZ=>(f Z).bind λq=>(F q.1).bind λd=>some (d,q.2)
end
section
variable {X:Cx}{K:W.Frag}{H H' H1 H2 Hz:Hp}{J J' J1 J2 Jz:Addr->Prop}{Z Z':En}{Y:L2.St}{O:Pr}
def ST.chgsG {fp fp':Nat->List Addr}{is:Nat->Bool}(s:ST K Hz Jz O Z Y H J)(w:Ow K Hz O Z Y H J fp)(hl:Z'.length=Z.length)(h1:∀j,is j=false->Z'[j]?=Z[j]?/\fp' j=fp j)
 (h2:∀i,is i=true->∃n d d' v,ownD (Z[i]?)=some (n,d)/\Z'[i]?=some (putD (Z[i]?) d')/\Y[i]?=some (some v)/\RpU K H' J' n v d' (fp' i)/\∀b∈fp' i,b∈fp i\/(Hz b=none/\∀j,b∉fp j))
 (nd:∀i,is i=true->(fp' i).Nodup) (nj:∀i,is i=true->∀b∈fp' i,¬J' b) (dj:∀i j,is i=true->is j=true->i≠j->∀b∈fp' i,b∉fp' j)
 (hs:∀b o,(∀i,is i=true->b∉fp i)->H b=some o->H' b=some o) (ha:∀b,H b≠none->H' b≠none) (jj:∀a,J a->J' a) (jn:∀a,J' a->J a\/H a=none) (ja:∀a,J' a->H' a≠none) :
 ST K Hz Jz O Z' Y H' J'/\Ow K Hz O Z' Y H' J' fp'/\Keep K H J H' J':=by
 have free:∀b,H b=none->Hz b=none:=λb hb=>by
  cases e:Hz b with
 |none=>rfl
 |some o=>exact absurd hb (s.al b (by rw[e];simp))
 have kp:Keep K H J H' J':=⟨jj,λp o j h=>hs p o (λi _ hp=>w.nj i p hp j) h,λp vs h=>by
  have ne:∀o,H p=some o->¬MutO o->∀i,is i=true->p∉fp i:=λo ho nm i _ hp=>by
   obtain⟨o',e,m⟩:=(w.at' i).ru p hp;rw[ho] at e;cases e;exact nm m
  rcases h with(h|⟨u,h⟩)|h
  .exact .inl (.inl (hs p _ (ne _ h (λz=>z)) h))
  .exact .inl (.inr ⟨u,hs p _ (ne _ h (λz=>z)) h⟩)
  .exact .inr h⟩
 have slot:∀i,is i=true->∀b∈fp i,Hz b=none\/b∈O.fpo i:=λi hi b hb=>by
  obtain⟨n,d,d',v,e1,_⟩:=h2 i hi;have q:=w.at' i
  match z:Z[i]?,e1,q with
 |some (.own m e),_,q=>exact .inl (q.2 b hb)
 |some (.par m e),_,q=>exact q.2 b hb
 have ow':Ow K Hz O Z' Y H' J' fp':=by
  refine⟨λi=>?_,λi=>?_,λi b hb=>?_,λi j ne b hb hb2=>?_⟩
  .cases hi:is i with
  |false=>
     rw[(h1 i hi).1,(h1 i hi).2];exact(w.at' i).keep kp λb hb o ho=>hs b o (λj hj hb2=>w.dj i j (λz=>by subst z;rw[hi] at hj;cases hj) b hb hb2) ho
  |true=>
     obtain⟨n,d,d',v,e1,e2,e3,e4,e5⟩:=h2 i hi;rw[e2];have q:=w.at' i
     match z:Z[i]?,e1,q with
    |some (.own m e),e1,q=>
       cases e1;refine⟨⟨v,e3,e4⟩,λb hb=>?_⟩;rcases e5 b hb with hb|hb
       .exact q.2 b hb
       .exact hb.1
    |some (.par m e),e1,q=>
       cases e1;refine⟨⟨v,e3,e4⟩,λb hb=>?_⟩;rcases e5 b hb with hb|hb
       .exact q.2 b hb
       .exact .inl hb.1
  .cases hi:is i with
  |false=>rw[(h1 i hi).2];exact w.nd i
  |true=>exact nd i hi
  .cases hi:is i with
  |false=>
     rw[(h1 i hi).2] at hb;intro jb;rcases jn b jb with jb|jb
     .exact w.nj i b hb jb
     .obtain⟨o,e,_⟩:=(w.at' i).ru b hb;rw[e] at jb;cases jb
  |true=>exact nj i hi b hb
  .have cross:∀i j,i≠j->is i=true->is j=false->b∈fp' i->b∈fp' j->False:=λi j ne hi hj hb hb2=>by
    rw[(h1 j hj).2] at hb2;obtain⟨_,_,_,_,_,_,_,_,e5⟩:=h2 i hi;rcases e5 b hb with h|h
    .exact w.dj i j ne b h hb2
    .exact h.2 j hb2
   cases hi:is i with
  |true=>
     cases hj:is j with
    |true=>exact dj i j hi hj ne b hb hb2
    |false=>exact cross i j ne hi hj hb hb2
  |false=>
     cases hj:is j with
    |true=>exact cross j i (Ne.symm ne) hj hi hb2 hb
    |false=>
       rw[(h1 i hi).2] at hb;rw[(h1 j hj).2] at hb2;exact w.dj i j ne b hb hb2
 refine⟨⟨λb o hb h=>hs b o (λi hi hb2=>?_) (s.same b o hb h),λa h=>jj a (s.j0 a h),λa h=>?_,ja,by rw[hl];exact s.len,λj e h=>?_,⟨fp',ow'⟩,λq hq=>?_,λb h=>ha b (s.al b h)⟩,ow',kp⟩
 .rcases slot i hi b hb2 with h2|h2
  .rw[h2] at h;cases h
  .exact hb ⟨i,h2⟩
 .rcases jn a h with h|h
  .exact s.jn a h
  .exact .inr (free a h)
 .cases hj:is j with
 |false=>
    rw[(h1 j hj).1] at h;obtain⟨v,e1,r1⟩:=s.vl j e h;exact⟨v,e1,r1.keep kp⟩
 |true=>
    obtain⟨n,d,d',v,e1,e2,_⟩:=h2 j hj;rw[e2] at h;match z:Z[j]?,e1 with
   |some (.own m e),_=>rw[z] at h;cases h
   |some (.par m e),_=>rw[z] at h;cases h
 .obtain⟨e1,d,h⟩:=s.ps q hq;refine⟨e1,?_⟩;cases hj:is q.1 with
 |false=>rw[(h1 _ hj).1];exact⟨d,h⟩
 |true=>
    obtain⟨n,d0,d',v,_,e2,_⟩:=h2 _ hj;rw[e2,h];exact⟨d',rfl⟩
def ST.chgs {fp fp':Nat->List Addr}{is:Nat->Bool}(s:ST K Hz Jz O Z Y H J)(w:Ow K Hz O Z Y H J fp)(hl:Z'.length=Z.length)(h1:∀j,is j=false->Z'[j]?=Z[j]?/\fp' j=fp j)
 (h2:∀i,is i=true->∃n d d' v,ownD (Z[i]?)=some (n,d)/\Z'[i]?=some (putD (Z[i]?) d')/\Y[i]?=some (some v)/\RpU K H' J' n v d' (fp' i)/\∀b∈fp' i,b∈fp i\/H b=none)
 (nd:∀i,is i=true->(fp' i).Nodup) (nj:∀i,is i=true->∀b∈fp' i,¬J' b) (dj:∀i j,is i=true->is j=true->i≠j->∀b∈fp' i,b∉fp' j)
 (hs:∀b o,(∀i,is i=true->b∉fp i)->H b=some o->H' b=some o) (ha:∀b,H b≠none->H' b≠none) (jj:∀a,J a->J' a) (jn:∀a,J' a->J a\/H a=none) (ja:∀a,J' a->H' a≠none) :
 ST K Hz Jz O Z' Y H' J'/\Ow K Hz O Z' Y H' J' fp'/\Keep K H J H' J':=by
 refine s.chgsG w hl h1 (λi hi=>?_) nd nj dj hs ha jj jn ja;obtain⟨n,d,d',v,e1,e2,e3,e4,e5⟩:=h2 i hi;refine⟨n,d,d',v,e1,e2,e3,e4,λb hb=>?_⟩;rcases e5 b hb with h|h
 .exact .inl h
 .right
  refine⟨?_,λj hj=>?_⟩
  .cases e:Hz b with
  |none=>rfl
  |some o=>exact absurd h (s.al b (by rw[e];simp))
  .obtain⟨o,e,_⟩:=(w.at' j).ru b hj;rw[h] at e;cases e
def zru (K:W.Frag)(H:Hp)(J:Addr->Prop)(k:Option (Option Nat))(v:Option V)(d:Option D)(A:List Addr):Prop:=match k with
|some none=>∃u e,v=some u/\d=some e/\Rp K H J u e/\A = []
|some (some n)=>∃a e,v=some (.ref a)/\d=some e/\RpU K H J n (.ref a) e A
|none=>A = []
structure ArgsG (K:W.Frag)(H:Hp)(J:Addr->Prop)(ks:List (Option Nat))(vs:List V)(ds:List D)(fp:Nat->List Addr):Prop where
 l1:vs.length=ks.length
 l2:ds.length=ks.length
 at':∀i,zru K H J (ks[i]?) (vs[i]?) (ds[i]?) (fp i)
 nd:∀i,(fp i).Nodup
 nj:∀i,∀b∈fp i,¬J b
 dj:∀i j,i≠j->∀b∈fp i,b∉fp j
def ResG (K:W.Frag)(H:Hp)(H':Hp)(J':Addr->Prop)(fp':Nat->List Addr)(v:V):RV->Prop
|.told d=>Rp K H' J' v d
|.new n d=>∃A,RpU K H' J' n v d A/\A.Nodup/\(∀b∈A,¬J' b/\H b=none)/\∀i:Nat,∀b∈A,b∉fp' i
structure PostG (K:W.Frag)(H:Hp)(J:Addr->Prop)(ks:List (Option Nat))(vs:List V)(fp:Nat->List Addr)(r:RV)(es:List D)(v:V)(H':Hp)(J':Addr->Prop)(fp':Nat->List Addr):Prop where
 hs:∀b o,(∀i,b∉fp i)->H b=some o->H' b=some o
 al:∀b,H b≠none->H' b≠none
 jj:∀a,J a->J' a
 jn:∀a,J' a->J a\/H a=none
 ja:∀a,J' a->H' a≠none
 own:∀i n,ks[i]?=some (some n)->∃a e,vs[i]?=some (.ref a)/\es[i]?=some e/\RpU K H' J' n (.ref a) e (fp' i)/\∀b∈fp' i,b∈fp i\/H b=none
 nd:∀i,(fp' i).Nodup
 nj:∀i,∀b∈fp' i,¬J' b
 dj:∀i j,i≠j->∀b∈fp' i,b∉fp' j
 res:ResG K H H' J' fp' v r
def spG (K:W.Frag)(ks:List (Option Nat))(F:List D->Option (RV×List D)):Sp:=λvs H Q _=>∃J ds r es fp,(∀a,J a->H a≠none)/\ArgsG K H J ks vs ds fp/\F ds=some (r,es)/\∀v H' J' fp',PostG K H J ks vs fp r es v H' J' fp'->Q v H'
def inSl:List (Option Nat)->List D->En
|none::ks,d::ds=>.val d::inSl ks ds
|some n::ks,d::ds=>.par n d::inSl ks ds
|_,_=>[]
def slOf:Option (Option Nat)->Option D->Option SV
|some none,some d=>some (.val d)
|some (some n),some d=>some (.par n d)
|_,_=>none
theorem zfe:∀(ks:List (Option Nat)) (ds:List D) (i:Nat),ks.length=ds.length->(inSl ks ds)[i]?=slOf (ks[i]?) (ds[i]?)
|[],[],i,_=>by simp[inSl,slOf]
|none::ks,d::ds,0,_=>by simp[inSl,slOf]
|some n::ks,d::ds,0,_=>by simp[inSl,slOf]
|none::ks,d::ds,i+1,h=>by simpa[inSl] using zfe ks ds i (by simpa using h)
|some n::ks,d::ds,i+1,h=>by simpa[inSl] using zfe ks ds i (by simpa using h)
|[],_::_,_,h=>by simp at h
|_::_,[],_,h=>by simp at h
theorem zdn:∀(ks:List (Option Nat)) (ds:List D),ks.length=ds.length->(inSl ks ds).length=ks.length
|[],[],_=>rfl
|none::ks,d::ds,h=>by simp[inSl,zdn ks ds (by simpa using h)]
|some n::ks,d::ds,h=>by simp[inSl,zdn ks ds (by simpa using h)]
|[],_::_,h=>by simp at h
|_::_,[],h=>by simp at h
def outSl:List (Option Nat)->En->Option (List D)
|[],_=>some []
|none::ks,_::Z=>(outSl ks Z).bind λes=>some (.non::es)
|some _::ks,.par _ d::Z=>(outSl ks Z).bind λes=>some (d::es)
|_,_=>none
theorem zel:∀{ks:List (Option Nat)}{Z:En}{es:List D}{i n:Nat}{m:Nat}{d:D},outSl ks Z=some es->ks[i]?=some (some n)->Z[i]?=some (.par m d)->es[i]?=some d
|[],_,_,_,_,_,_,_,h,_=>by simp at h
|none::ks,x::Z,es,i,n,m,d,e,h1,h2=>by
   obtain⟨es',e1,e⟩:=bind_some (show((outSl ks Z).bind λes=>some (D.non::es))=some es from e);cases e;match i,h1,h2 with
  |0,h1,_=>simp at h1
  |i+1,h1,h2=>simpa using zel (n:=n) (m:=m) e1 (by simpa using h1) (by simpa using h2)
|some k::ks,.par m' d'::Z,es,i,n,m,d,e,h1,h2=>by
   obtain⟨es',e1,e⟩:=bind_some (show((outSl ks Z).bind λes=>some (d'::es))=some es from e);cases e;match i,h1,h2 with
  |0,h1,h2=>simp at h2;simp[h2.2]
  |i+1,h1,h2=>simpa using zel (n:=n) (m:=m) e1 (by simpa using h1) (by simpa using h2)
def psAt (i:Nat):Option (Option Nat)->Option V->Option (Nat×Addr×Nat)
|some (some n),some (.ref a)=>some (i,a,n)
|_,_=>none
def psOf (ks:List (Option Nat))(vs:List V):List (Nat×Addr×Nat):=(List.range ks.length).filterMap λi=>psAt i (ks[i]?) (vs[i]?)
def mem_psOf {ks:List (Option Nat)}{vs:List V}{q:Nat×Addr×Nat}:q∈psOf ks vs↔ks[q.1]?=some (some q.2.2)/\vs[q.1]?=some (.ref q.2.1):=by
 unfold psOf;rw[List.mem_filterMap];constructor
 .rintro⟨i,_,h⟩;unfold psAt at h;split at h
  .rename_i n a h1 h2;cases h;exact⟨h1,h2⟩
  .cases h
 .rintro⟨h1,h2⟩;refine⟨q.1,wbq.mpr (wai.mp h1).1,?_⟩;rw[h1,h2];rfl
def zfW {N:List Str}{ks:List (Option Nat)}{vs:List V}{ds:List D}{fp:Nat->List Addr}(ja:∀a,J a->H a≠none)(r:ArgsG K H J ks vs ds fp) :
 ST K H J ⟨psOf ks vs,fp⟩ (inSl ks ds++List.replicate (N.length - ks.length) .un) (start N vs) H J:=by
 have get:∀i:Nat,(inSl ks ds++List.replicate (N.length - ks.length) SV.un)[i]?=slOf (ks[i]?) (ds[i]?)\/(ks[i]?=none/\((inSl ks ds++List.replicate (N.length - ks.length) SV.un)[i]?=some SV.un\/(inSl ks ds++List.replicate (N.length - ks.length) SV.un)[i]?=none)):=λi=>by
  by_cases hi:i<ks.length
  .left
   rw[waX (by rw[zdn ks ds r.l2.symm];exact hi),zfe ks ds i r.l2.symm]
  .right
   refine⟨waO (by omega),?_⟩;rw[waV (by rw[zdn ks ds r.l2.symm];omega),List.getElem?_replicate];split
   .exact .inl rfl
   .exact .inr rfl
 have sg:∀(i:Nat) (v:V),vs[i]?=some v->(start N vs)[i]?=some (some v):=λi v h=>by
  unfold L2.start;rw[waX (by simp;exact(wai.mp h).1),waw,h];rfl
 refine⟨λ_ _ _ h=>h,λ_ h=>h,λ_ h=>.inl h,ja,by simp[L2.start,r.l1,zdn ks ds r.l2.symm],λi d h=>?_,⟨fp,λi=>?_,r.nd,r.nj,r.dj⟩,λq hq=>?_,λ_ h=>h⟩
 .have q:=r.at' i
  rcases get i with e|⟨_,e|e⟩
  .rw[e] at h;match z:ks[i]?,y:ds[i]?,h,q with
  |some none,some e',h,q=>
     cases h;obtain⟨u,e,h1,h2,h3,_⟩:=q;cases h2;exact⟨u,sg i u h1,h3⟩
  .rw[e] at h;cases h
  .rw[e] at h;cases h
 .have q:=r.at' i
  rcases get i with e|⟨e0,e|e⟩
  .rw[e];match z:ks[i]?,y:ds[i]?,q with
  |some none,some e',q=>obtain⟨_,_,_,_,_,h⟩:=q;exact h
  |some (some n),some e',q=>
     obtain⟨a,e,h1,h2,h3⟩:=q;cases h2;exact⟨⟨_,sg i _ h1,h3⟩,λb hb=>.inr hb⟩
  |none,_,q=>exact q
  |some none,none,q=>obtain⟨_,_,_,h,_⟩:=q;cases h
  |some (some n),none,q=>obtain⟨_,_,_,h,_⟩:=q;cases h
  .rw[e];rw[e0] at q;exact q
  .rw[e];rw[e0] at q;exact q
 .obtain⟨h1,h2⟩:=mem_psOf.mp hq;refine⟨sg _ _ h2,?_⟩;have q':=r.at' q.1
  rw[h1] at q';obtain⟨a,e,_,h3,_⟩:=q';rcases get q.1 with g|⟨g,_⟩
  .rw[g,h1,h3];exact⟨e,rfl⟩
  .rw[h1] at g;cases g
end
section
variable {P:Program}{w:World}{K:W.Frag}{mg:Str->Option Value}{base:Heap}
def zlJ {ks:List (Option Nat)}{vs:List V}{ds:List D}{es:List D}{fp:Nat->List Addr}{r:RV}{H H':Hp}{J J':Addr->Prop}{Z:En}{Y:L2.St}{v:V}(A:ArgsG K H J ks vs ds fp)(s:ST K H J ⟨psOf ks vs,fp⟩ Z Y H' J')
 (q:RtAt K H ⟨psOf ks vs,fp⟩ Z Y H' J' v r) (e:outSl ks Z=some es):∃fp',PostG K H J ks vs fp r es v H' J' fp':=by
 have main:∀fp',Ow K H ⟨psOf ks vs,fp⟩ Z Y H' J' fp'->ResG K H H' J' fp' v r->PostG K H J ks vs fp r es v H' J' fp':=λfp' w hr=>
  ⟨λb o hb h=>s.same b o (λ⟨i,hi⟩=>hb i hi) h,s.al,s.j0,s.jn,s.ja,λi n hk=>by
   have qa:=A.at' i
   rw[hk] at qa;obtain⟨a,e0,h1,_,_⟩:=qa;obtain⟨h2,d,h3⟩:=s.ps (i,a,n) (mem_psOf.mpr ⟨hk,h1⟩);have h2:Y[i]?=some (some (.ref a)):=h2
   have h3:Z[i]?=some (.par n d):=h3
   have o:=w.at' i
   rw[h3] at o;obtain⟨⟨v',e1,ru⟩,hb⟩:=o;rw[h2] at e1;cases e1;exact⟨a,d,h1,zel e hk h3,ru,λb hb'=>(hb b hb').symm⟩,w.nd,w.nj,w.dj,hr⟩
 cases r with
|told d=>
   obtain⟨fp',w⟩:=s.ow;exact⟨fp',main fp' w q⟩
|new n d=>
   obtain⟨B,fp',w,ru,nd,hb,dj⟩:=q;exact⟨fp',main fp' w ⟨B,ru,nd,hb,dj⟩⟩
end
def RpU.isRef {K:W.Frag}{H:Hp}{J:Addr->Prop}{n:Nat}{v:V}{d:D}{A:List Addr}(h:RpU K H J (n+1) v d A):∃a,v=.ref a:=by
 cases h <;> exact⟨_,rfl⟩
abbrev FAG:=En->Option (List (Option D)×En)
def ArgV (K:W.Frag)(H:Hp)(J:Addr->Prop)(u:Option (Option V)):List V->List (Option D)->Prop
|[],[]=>True
|v::vs,none::as=>u=some (some v)/\ArgV K H J u vs as
|v::vs,some d::as=>Rp K H J v d/\ArgV K H J u vs as
|_,_=>False
def GoAG (K:W.Frag)(i:Nat)(t:TA)(f:FAG):Prop:=∀Hz Jz O Z Y H J as Z' Q,ST K Hz Jz O Z Y H J->f Z=some (as,Z')->(∀vs H' J',ST K Hz Jz O Z' Y H' J'->Keep K H J H' J'->ArgV K H' J' (Y[i]?) vs as->Q vs H')->t Y H Q
def VAG (X:Cx)(i:Nat)(es:List Expr)(f:FAG):Prop:=∃t,PA X es t/\GoAG X.K i t f
theorem ArgV.keep {K:W.Frag}{H H':Hp}{J J':Addr->Prop}{u:Option (Option V)}(k:Keep K H J H' J'):∀{vs:List V}{as:List (Option D)},ArgV K H J u vs as->ArgV K H' J' u vs as
|[],[],_=>trivial
|v::vs,none::as,h=>⟨h.1,ArgV.keep k h.2⟩
|v::vs,some d::as,h=>⟨h.1.keep k,ArgV.keep k h.2⟩
|[],_::_,h=>h.elim
|_::_,[],h=>h.elim
theorem ArgV.length {K:W.Frag}{H:Hp}{J:Addr->Prop}{u:Option (Option V)}:∀{vs:List V}{as:List (Option D)},ArgV K H J u vs as->vs.length=as.length
|[],[],_=>rfl
|v::vs,none::as,h=>by simp[ArgV.length h.2]
|v::vs,some d::as,h=>by simp[ArgV.length h.2]
|[],_::_,h=>h.elim
|_::_,[],h=>h.elim
theorem ArgV.get {K:W.Frag}{H:Hp}{J:Addr->Prop}{u:Option (Option V)}:∀{vs:List V}{as:List (Option D)}{j:Nat}{o:Option D},ArgV K H J u vs as->as[j]?=some o->∃v,vs[j]?=some v/\match o with|none=>u=some (some v)|some d=>Rp K H J v d
|[],[],_,_,_,e=>by simp at e
|v::vs,none::as,0,o,h,e=>by simp at e;subst e;exact⟨v,rfl,h.1⟩
|v::vs,some d::as,0,o,h,e=>by simp at e;subst e;exact⟨v,rfl,h.1⟩
|v::vs,none::as,j+1,o,h,e=>by simpa using ArgV.get (j:=j) (o:=o) h.2 (by simpa using e)
|v::vs,some d::as,j+1,o,h,e=>by simpa using ArgV.get (j:=j) (o:=o) h.2 (by simpa using e)
|[],_::_,_,_,h,_=>h.elim
|_::_,[],_,_,h,_=>h.elim
section
variable {X:Cx}{K:W.Frag}{e:Expr}{es:List Expr}{fa:FX}{fl:FAG}{pos p:Pos}{i:Nat}
def agNil:FAG:=λZ=>some ([],Z)
def agOwn (i:Nat)(f:FAG):FAG:=λZ=>if(ownD (Z[i]?)).isSome=true then(f Z).bind λq=>some (none::q.1,q.2) else none
def agX (g:FX)(f:FAG):FAG:=λZ=>(g Z).bind λq=>(f q.2).bind λr=>some (some q.1::r.1,r.2)
def zbF:VAG X i [] agNil:=⟨_,zc8,λHz Jz O Z Y H J ds Z' Q s e w=>by cases e;exact w [] H J s Keep.refl trivial⟩
def zdW (ha:VX X e fa)(hr:VAG X i es fl)(hs:starEach (e::es) X.env=(false,eval e X.env)::starEach es X.env:=by rfl):VAG X i (e::es) (agX fa fl):=by
 obtain⟨t,p,g⟩:=ha;obtain⟨t2,p2,g2⟩:=hr;refine⟨_,zbg p p2 hs,?_⟩;intro Hz Jz O Z Y H J ds Z' Q s e w;obtain⟨⟨x,Z1⟩,ex,e⟩:=bind_some e;obtain⟨⟨xs,Z2⟩,exs,e⟩:=bind_some e;cases e;refine g Hz Jz O Z Y H J x _ _ s ex λv1 H1 J1 s1 k1 r1=>?_
 refine g2 Hz Jz O Z1 Y H1 J1 xs _ _ s1 exs λvs H2 J2 s2 k2 r2=>?_
 exact w _ H2 J2 s2 (k1.trans k2) ⟨r1.keep k2,r2⟩
def zbG {x:Str}(hr:VAG X i es fl)(hN:X.N[i]?=some x:=by rfl)(hv:Vis X.env.scope x:=by first|exact Or.inl rfl|exact Or.inr (Or.inl rfl)|exact Or.inr (Or.inr rfl))(hd:(x == ("__debug__":Str))=false:=by decide)(hcd:(x == ("__classdict__":Str))=false:=by decide)
 (hs:starEach (.Name x p::es) X.env=(false,eval (.Name x p) X.env)::starEach es X.env:=by rfl):VAG X i (.Name x p::es) (agOwn i fl):=by
 obtain⟨t2,p2,g2⟩:=hr;refine⟨_,zbg (zcA hN hv hd hcd) p2 hs,?_⟩;intro Hz Jz O Z Y H J ds Z' Q s e w;unfold agOwn at e;by_cases ho:(ownD (Z[i]?)).isSome=true
 .rw[if_pos ho] at e;obtain⟨⟨xs,Z2⟩,exs,e⟩:=bind_some e;cases e;obtain⟨⟨n,d⟩,hq⟩:=Option.isSome_iff_exists.mp ho;obtain⟨v,A,hv,_⟩:=s.rd hq;refine⟨v,hv,?_⟩;refine g2 Hz Jz O Z Y H J xs _ _ s exs λvs H2 J2 s2 k2 r2=>?_
  exact w _ H2 J2 s2 k2 ⟨hv,r2⟩
 .rw[if_neg ho] at e;cases e
def agK (n:Nat):Option D->Option Nat
|none=>some n
|some _=>none
def xCallG (ks:List (Option Nat))(p i n:Nat)(F:List D->Option (RV×List D))(f:FAG):FR:=λZ=>(f Z).bind λq=>
 if q.1.map (agK n)=ks then match ownD (q.2[i]?) with
 |some (m,d)=>if m=n then(F (q.1.map λo=>o.getD d)).bind λr=>(r.2[p]?).bind λe=>some (r.1,setO q.2 i e) else none
 |none=>none
 else none
def zgT {Z:En}{i j:Nat}{d:D}(h:j≠i):(setO Z i d)[j]?=Z[j]?:=by
 unfold setO;exact wae (Ne.symm h)
def zlK {ks:List (Option Nat)}{q n:Nat}{F:List D->Option (RV×List D)}{t:TA}(hp:ks[q]?=some (some n))(h1:∀(j m:Nat),ks[j]?=some (some m)->j=q)(hn:n≠0)(g:GoAG K i t fl)(E:XK):GoR K (zic (spG K ks F) [] E t) (xCallG ks q i n F fl):=by
 intro Hz Jz O Z Y H J r Z' Q s e w;obtain⟨⟨as,Z1⟩,e1,e⟩:=bind_some e;have eA:(if as.map (agK n)=ks then match ownD (Z1[i]?) with
 |some (m,d)=>if m=n then(F (as.map λo=>o.getD d)).bind λr=>(r.2[q]?).bind λe=>some (r.1,setO Z1 i e) else none
 |none=>none
 else none)=some (r,Z'):=e
 by_cases hk:as.map (agK n)=ks
 .rw[if_pos hk] at eA;cases ho:ownD (Z1[i]?) with
 |none=>rw[ho] at eA;cases eA
 |some md=>
    obtain⟨m,d⟩:=md;rw[ho] at eA;have eB:(if m=n then(F (as.map λo=>o.getD d)).bind λr=>(r.2[q]?).bind λe=>some (r.1,setO Z1 i e) else none)=some (r,Z'):=eA
    by_cases hm:m=n
    .rw[if_pos hm] at eB;subst hm;obtain⟨⟨r',es⟩,e2,eC⟩:=bind_some eB;obtain⟨d',e3,eD⟩:=bind_some eC;cases eD;refine g Hz Jz O Z Y H J as Z1 _ s e1 λvs H1 J1 s1 k1 r1=>?_
     obtain⟨fp,ow⟩:=s1.ow;have hi:i<Z1.length:=by
      by_cases hi:i<Z1.length
      .exact hi
      .rw[waO (by omega)] at ho;cases ho
     have hat:∃v,Y[i]?=some (some v)/\RpU K H1 J1 m v d (fp i):=by
      have o:=ow.at' i
      match z:Z1[i]?,ho,o with
     |some (.own _ _),ho,o=>cases ho;exact o.1
     |some (.par _ _),ho,o=>cases ho;exact o.1
     obtain⟨v,hv,ru⟩:=hat
     have asq:as[q]?=some none:=by
      have:=hp
      rw[<-hk,waw] at this;cases z:as[q]? with
     |none=>rw[z] at this;cases this
     |some o=>rw[z] at this;cases o with
       |none=>rfl
       |some _=>simp[agK] at this
     have mpos:∃a,v=.ref a:=by
      cases m with
     |zero=>exact absurd rfl hn
     |succ m=>exact ru.isRef
     obtain⟨a,rfl⟩:=mpos;have vq:vs[q]?=some (.ref a):=by
      obtain⟨u,h1,h2⟩:=r1.get asq;have h2:Y[i]?=some (some u):=h2
      rw[hv] at h2;cases h2;exact h1
     have args:ArgsG K H1 J1 ks vs (as.map λo=>o.getD d) (λj=>if j=q then fp i else[]):=by
      refine⟨by rw[r1.length,<-hk,waj],by rw[waj,<-hk,waj],λj=>?_,λj=>?_,λj b hb=>?_,λj l ne b hb=>?_⟩
      .rw[<-hk,waw,waw];cases z:as[j]? with
      |none=>
         have:j≠q:=λh=>by rw[h,asq] at z;cases z
         show(if j=q then fp i else[]) = []
         rw[if_neg this]
      |some o=>
         cases o with
        |none=>
           have:j=q:=h1 j m (by rw[<-hk,waw,z];rfl)
           subst this;exact⟨a,d,vq,rfl,by rw[if_pos rfl];exact ru⟩
        |some x=>
           have:j≠q:=λh=>by rw[h,asq] at z;cases z
           obtain⟨u,h1,h2⟩:=r1.get z;exact⟨u,x,h1,rfl,h2,by rw[if_neg this]⟩
      .split
       .exact ow.nd i
       .exact waU
      .split at hb
       .exact ow.nj i b hb
       .cases hb
      .split at hb
       .rename_i z
        rw[if_neg (λh=>ne (z.trans h.symm))];simp
       .cases hb
     refine⟨J1,_,r',es,_,s1.ja,by rw[waI];exact args,e2,λv' H' J' fp' pg=>?_⟩;rw[waI] at pg;obtain⟨a2,d2,h2,h3,ru2,hb2⟩:=pg.own q m hp;rw[vq] at h2;cases h2;rw[e3] at h3;cases h3;have hA:∀b:Addr,(∀j,b∉(if j=q then fp i else[]))↔b∉fp i:=λb=>by
      constructor
      .intro h;have:=h q;rwa [if_pos rfl] at this
      .intro h j;split
       .exact h
       .simp
     have key:=s1.chgs (Z':=setO Z1 i d') (fp':=zjw fp i (fp' q)) (is:=λj=>j == i) (H':=H') (J':=J') ow (by simp[setO]) (λj hj=>?_) (λj hj=>?_) (λj hj=>?_) (λj hj=>?_) (λj l hj hl ne=>?_) (λb o hb h=>pg.hs b o ((hA b).mpr (hb i (by simp))) h) pg.al pg.jj pg.jn pg.ja
     .obtain⟨s2,ow2,k2⟩:=key;refine w v' H' J' s2 (k1.trans k2) ?_;have res:=pg.res
      cases r' with
     |told d0=>exact res
     |new n0 d0=>
        obtain⟨B,ruB,ndB,hB,djB⟩:=res;refine⟨B,zjw fp i (fp' q),ow2,ruB,ndB,λb hb=>⟨(hB b hb).1,?_⟩,λj b hb=>?_⟩
        .cases z:Hz b with
        |none=>rfl
        |some o=>exact absurd (hB b hb).2 (s1.al b (by rw[z];simp))
        .by_cases hj:j=i
         .subst hj;rw[zbr];exact djB q b hb
         .rw[zbZ hj];intro hb2;obtain⟨o,ho',_⟩:=(ow.at' j).ru b hb2;rw[(hB b hb).2] at ho';cases ho'
     .have hj':j≠i:=by simpa using hj
      exact⟨zgT hj',zbZ hj'⟩
     .have hj':j=i:=by simpa using hj
      subst hj';refine⟨m,d,d',.ref a,ho,wau hi,hv,by rw[zbr];exact ru2,λb hb=>?_⟩;rw[zbr] at hb;have:=hb2 b hb
      rwa [if_pos rfl] at this
     .have hj':j=i:=by simpa using hj
      subst hj';rw[zbr];exact pg.nd q
     .have hj':j=i:=by simpa using hj
      subst hj';rw[zbr];exact pg.nj q
     .have hj':j=i:=by simpa using hj
      have hl':l=i:=by simpa using hl
      exact absurd (hj'.trans hl'.symm) ne
    .rw[if_neg hm] at eB;cases eB
 .rw[if_neg hk] at eA;cases eA
def zmT (ks:List (Option Nat))(q:Nat):Bool:=(List.range ks.length).all λj=>match ks[j]? with
|some (some _)=>j == q
|_=>true
def zjK {ks:List (Option Nat)}{q:Nat}(h:zmT ks q=true)(j m:Nat)(hj:ks[j]?=some (some m)):j=q:=by
 have:=waB.mp h j (wbq.mpr (wai.mp hj).1)
 rw[hj] at this;simpa using this
def zbH (q i n:Nat){k k':Nat}{x:Str}{ps:List Str}{ks:List (Option Nat)}{F:List D->Option (RV×List D)}(C:Cal X.prog X.w X.K X.mg X.base k x ps (spG X.K ks F))(hr:Room k' X.A)(ha:VAG X i (e::es) fl)(hp:ks[q]?=some (some n):=by rfl)(ho:zmT ks q=true:=by decide)(hn:n≠0:=by decide)(hk:k<=k':=by decide)(hg:Gl X x:=by rfl)(hdb:(x == ("__debug__":Str))=false:=by decide)
 (he:starEach (e::es) X.env=(false,eval e X.env)::starEach es X.env:=by rfl) (hpl:(backTo pos (starEach es X.env)).any (·.1)=false:=by rfl):VR X (.Call (.Name x p) (e::es) [] pos) (xCallG ks q i n F fl):=by
 obtain⟨t,p,g⟩:=ha;exact⟨_,pc C hr p hk hg hdb he hpl,zlK hp (zjK ho) hn g _⟩
def xCallN (ks:List (Option Nat))(F:List D->Option (RV×List D))(f:FAX):FR:=λZ=>(f Z).bind λq=>(F q.1).bind λr=>if q.1.length=ks.length then some (r.1,q.2) else none
def ArgsG.plain {H:Hp}{J:Addr->Prop}{vs:List V}{ds:List D}{ks:List (Option Nat)}(r:RpL K H J vs ds)(hk:ds.length=ks.length)(hn:ks.all (·.isNone)=true):ArgsG K H J ks vs ds (λ_=>[]):=by
 refine⟨by rw[r.length,hk],hk,λj=>?_,λ_=>waU,λ_ b hb=>absurd hb (by simp),λ_ _ _ b hb=>absurd hb (by simp)⟩;cases z:ks[j]? with
|none=>rfl
|some o=>
   have:=waB.mp hn o (waH z)
   cases o with
  |some _=>cases this
  |none=>
     have hj:j<ds.length:=by rw[hk];exact(wai.mp z).1
     obtain⟨v,hv,rv⟩:=r.get (wat hj);exact⟨v,ds[j],hv,wat hj,rv,rfl⟩
def zlL {fl:FAX}{ks:List (Option Nat)}{F:List D->Option (RV×List D)}{t:TA}(hn:ks.all (·.isNone)=true)(g:GoAX K t fl)(E:XK):GoR K (zic (spG K ks F) [] E t) (xCallN ks F fl):=by
 intro Hz Jz O Z Y H J r Z' Q s e w;obtain⟨⟨ds,Z1⟩,e1,eA⟩:=bind_some e;obtain⟨⟨r',es⟩,e2,eB⟩:=bind_some eA;have eB:(if ds.length=ks.length then some (r',Z1) else none)=some (r,Z'):=eB
 by_cases hl:ds.length=ks.length
 .rw[if_pos hl] at eB;cases eB;refine g Hz Jz O Z Y H J ds _ _ s e1 λvs H1 J1 s1 k1 r1=>?_
  refine⟨J1,ds,_,es,_,s1.ja,by rw[waI];exact ArgsG.plain r1 hl hn,e2,λv H2 J2 fp' pg=>?_⟩;have u:Up H1 J1 H2 J2:=⟨λb o h=>pg.hs b o (λ_=>by simp) h,pg.jj,pg.jn,pg.ja⟩
  refine w v H2 J2 (s1.up u) (k1.trans u.keep) ?_;have res:=pg.res
  cases r with
 |told d0=>exact res
 |new n0 d0=>
    obtain⟨B,ruB,ndB,hB,_⟩:=res;obtain⟨fp,ow⟩:=s1.ow;refine⟨B,fp,⟨λi=>(ow.at' i).keep u.keep λb _=>u.same b,ow.nd,λi b hb jb=>?_,ow.dj⟩,ruB,ndB,λb hb=>⟨(hB b hb).1,?_⟩,λj b hb hb2=>?_⟩
    .rcases u.jn b jb with jb|jb
     .exact ow.nj i b hb jb
     .obtain⟨o,e,_⟩:=(ow.at' i).ru b hb;rw[e] at jb;cases jb
    .cases z:Hz b with
    |none=>rfl
    |some o=>exact absurd (hB b hb).2 (s1.al b (by rw[z];simp))
    .obtain⟨o,ho,_⟩:=(ow.at' j).ru b hb2;rw[(hB b hb).2] at ho;cases ho
 .rw[if_neg hl] at eB;cases eB
end
section
variable {X:Cx}{K:W.Frag}{a b c e:Expr}{es:List Expr}{fa fb:FX}{fe:FE}{ft:FTX}{fl:FAX}{fr:FR}{g g2:FS}{pos p:Pos}
def gSetX (i:Nat)(f:FX):FS:=λZ=>(f Z).bind λq=>if i<q.2.length/\isPar (q.2[i]?)=false then some (.nx (q.2.set i (.val q.1))) else none
def zcH {i:Nat}{x:Str}{pos':Pos}(hN:X.N.Nodup)(hi:X.N[i]?=some x)(hx:Loc X.env.scope x)(h:VX X e fa)(hs:swapsWith e (some (.Name x pos')) pos.line X.env=pure false:=by rfl)(hf:X.fn x=true\/X.env.scope.names.lookup x=some .local:=by first|exact .inl rfl|exact .inr rfl|assumption) :
 VS X (.Assign [.Name x pos'] e pos) (gSetX i fa):=by
 obtain⟨t,p,q⟩:=h;refine⟨_,zhm hN hi hx p hs hf,?_⟩;intro Hz Jz O Z Y H J o E s e w;obtain⟨⟨d,Z1⟩,e1,eA⟩:=bind_some e;have eA:(if i<Z1.length/\isPar (Z1[i]?)=false then some (Out.nx (Z1.set i (.val d))) else none)=some o:=eA
 by_cases hi:i<Z1.length/\isPar (Z1[i]?)=false
 .rw[if_pos hi] at eA;cases eA;exact q Hz Jz O Z Y H J d Z1 _ s e1 λv H' J' s' k r=>w _ H' J' (s'.set r hi.1 (zbs hi.2)) k
 .rw[if_neg hi] at eA;cases eA
def ST.take {Hz H:Hp}{Jz J:Addr->Prop}{O:Pr}{Z:En}{Y:L2.St}{i n:Nat}{v:V}{d:D}(s:ST K Hz Jz O Z Y H J)(q:RtAt K Hz O Z Y H J v (.new n d))(hi:i<Z.length)(hp:∀n d,Z[i]?≠some (.par n d)):ST K Hz Jz O (Z.set i (.own n d)) (Y.set i (some v)) H J:=by
 obtain⟨A,fp,w,r,nd,hA,dj⟩:=q;refine⟨s.same,s.j0,s.jn,s.ja,by simp[s.len],λj e h=>?_,?_,λq hq=>?_,s.al⟩
 .rcases zdd h with⟨rfl,he⟩|⟨ne,h⟩
  .cases he
  .rw[wae (Ne.symm ne)];exact s.vl j e h
 .refine⟨_,w.put (i:=i) (A:=A) Keep.refl (λ_ _ _ _ _ h=>h) (λj _=>w.nj j) (λj e=>wae (Ne.symm e)) (λj e=>wae (Ne.symm e)) ?_ nd (λb hb=>(hA b hb).1) (λj _ b hb=>dj j b hb)⟩;rw[wau hi,wau (by rw[s.len];exact hi)];exact⟨⟨v,rfl,r⟩,λb hb=>(hA b hb).2⟩
 .have e:=s.psNe hp q hq
  rw[wae (Ne.symm e),wae (Ne.symm e)];exact s.ps q hq
def gOwnR (i:Nat)(f:FR):FS:=λZ=>(f Z).bind λq=>match q.1 with
|.new n d=>if i<q.2.length/\isPar (q.2[i]?)=false then some (.nx (q.2.set i (.own n d))) else none
|.told _=>none
def zjL {i:Nat}{x:Str}{pos':Pos}(hN:X.N.Nodup)(hi:X.N[i]?=some x)(hx:Loc X.env.scope x)(h:VR X e fr)(hs:swapsWith e (some (.Name x pos')) pos.line X.env=pure false:=by rfl)(hf:X.fn x=true\/X.env.scope.names.lookup x=some .local:=by first|exact .inl rfl|exact .inr rfl|assumption) :
 VS X (.Assign [.Name x pos'] e pos) (gOwnR i fr):=by
 obtain⟨t,p,q⟩:=h;refine⟨_,zhm hN hi hx p hs hf,?_⟩;intro Hz Jz O Z Y H J o E s e w;obtain⟨⟨r,Z1⟩,e1,eA⟩:=bind_some e;cases r with
|told d=>cases eA
|new n d=>
   have eA:(if i<Z1.length/\isPar (Z1[i]?)=false then some (Out.nx (Z1.set i (.own n d))) else none)=some o:=eA
   by_cases hi:i<Z1.length/\isPar (Z1[i]?)=false
   .rw[if_pos hi] at eA;cases eA;exact q Hz Jz O Z Y H J _ Z1 _ s e1 λv H' J' s' k r=>w _ H' J' (s'.take r hi.1 (zbs hi.2)) k
   .rw[if_neg hi] at eA;cases eA
def gIfX (c:FTX)(a b:FS):FS:=λZ=>(c Z).bind λq=>if q.1 then a q.2 else b q.2
def zmU {bs os:List Stmt}(hc:VTX X c ft)(ha:VSs X bs g)(hb:VSs X os g2):VS X (.If c bs os pos) (gIfX ft g g2):=by
 obtain⟨tc,pc,qc⟩:=hc;obtain⟨t,p,q⟩:=ha;obtain⟨u,p2,q2⟩:=hb;refine⟨_,znq pc p p2,λHz Jz O Z Y H J o E s e w=>?_⟩;obtain⟨⟨k,Z1⟩,e1,eA⟩:=bind_some e;refine qc Hz Jz O Z Y H J k Z1 _ s e1 λH1 J1 s1 k1=>?_
 cases k with
|true=>exact iteT (q Hz Jz O Z1 Y H1 J1 o E s1 eA (w.keep k1))
|false=>exact iteF (q2 Hz Jz O Z1 Y H1 J1 o E s1 eA (w.keep k1))
def isL1:Option (Nat×D)->Bool
|some (1,.lst _)=>true
|_=>false
def zn1 {x:Option (Nat×D)}(h:isL1 x=true):∃ds,x=some (1,.lst ds):=by
 match x,h with
|some (1,.lst ds),_=>exact⟨ds,rfl⟩
def gAppX (i:Nat)(f:FX):FS:=λZ=>if isL1 (ownD (Z[i]?))=true then(f Z).bind λq=>match ownD (q.2[i]?) with
|some (1,.lst ds)=>if ds.length<lim then some (.nx (setO q.2 i (.lst (ds++[q.1])))) else none
|_=>none
 else none
def zn2 {i:Nat}{t:TE}(q:GoX K t fa):GoS K (zk2 (tBM K "list" ze8 (tVar i) (zlc t tNil))) (gAppX i fa):=by
 intro Hz Jz O Z Y H J o E s e w;unfold gAppX at e;by_cases h0:isL1 (ownD (Z[i]?))=true
 .rw[if_pos h0] at e;obtain⟨ds0,z0⟩:=zn1 h0;obtain⟨⟨d,Z1⟩,e1,eA⟩:=bind_some e;obtain⟨a,vs0,ha,hv0,_,_⟩:=s.top (H':=H) (es:=[]) z0;refine⟨.ref a,ha,.inl ⟨rfl,vs0,SqL.of hv0⟩,?_⟩;refine q Hz Jz O Z Y H J d Z1 _ s e1 λv H1 J1 s1 k1 r1=>?_
  split at eA
  .rename_i ds z
   by_cases hl:ds.length<lim
   .rw[if_pos hl] at eA;cases eA;obtain⟨a',vs',ha',hv',rl,go⟩:=s1.top (H':=H) (es:=[]) z;rw[ha] at ha';cases ha';refine⟨a,vs',v,rfl,rfl,hv',by rw[rl.length];exact wam hl (wbg zeg),?_⟩;obtain⟨s2,k2⟩:=go (vs'++[v]) (ds++[d]) (rl.append (.cons r1 .nil));exact w Y _ J1 s2 (k1.trans k2)
   .rw[if_neg hl] at eA;cases eA
  .cases eA
 .rw[if_neg h0] at e;cases e
def zn3 (i:Nat){x:Str}{xp apos cpos:Pos}(h:VX X e fa)(hN:X.N[i]?=some x:=by rfl)(hv:Vis X.env.scope x:=by first|exact Or.inl rfl|exact Or.inr (Or.inl rfl)|exact Or.inr (Or.inr rfl))(hd:(x == ("__debug__":Str))=false:=by decide)
 (hcd:(x == ("__classdict__":Str))=false:=by decide) (h1:starEach [e] X.env=(false,eval e X.env)::starEach [] X.env:=by rfl)
 (hbase:attributeBase (.Name x xp) "append" X.env (eval (.Name x xp) X.env)=eval (.Name x xp) X.env:=by rfl)
 (hfew:((backTo cpos (starEach [e] X.env)).all (λx=>!x.1)&&(backToKw cpos (keywordEach [] X.env)).all (λx=>x.1.isSome)
  && decide ([e].length+([]:List Keyword).length+(if([]:List Keyword).isEmpty then 0 else 1)<30))=true:=by rfl)
 (hline:(apos.endLine == cpos.line)=true:=by rfl) (hs:starEach [e] X.env = [(false,eval e X.env)]:=by rfl) (hsw:swapsWith (.Call (.Attribute (.Name x xp) "append" apos) [e] [] cpos) none pos.line X.env=pure false:=by rfl) :
 VS X (.Expr (.Call (.Attribute (.Name x xp) "append" apos) [e] [] cpos) pos) (gAppX i fa):=by
 obtain⟨t,p,q⟩:=h;exact⟨_,zdA (papp (zcA hN hv hd hcd) (zbg p zc8 h1) hbase hfew hline hs) hsw,zn2 q⟩
def gPutL (i:Nat)(fk:FE)(f:FX):FS:=λZ=>(f Z).bind λq=>(fk q.2).bind λk=>(dInt k).bind λk=>match ownD (q.2[i]?) with
|some (1,.lst ds)=>(ixN ds.length k).bind λj=>some (.nx (setO q.2 i (.lst (ds.set j q.1))))
|_=>none
def zjM (i:Nat){x:Str}{xp sp:Pos}{fk:FE}(h:VX X e fa)(hk:VE X a fk)(hN:X.N[i]?=some x:=by rfl)(hv:Vis X.env.scope x:=by first|exact Or.inl rfl|exact Or.inr (Or.inl rfl)|exact Or.inr (Or.inr rfl))(hd:(x == ("__debug__":Str))=false:=by decide)(hcd:(x == ("__classdict__":Str))=false:=by decide)
 (ha:∀v,assign (.Subscript (.Name x xp) a sp) X.env v=(do
  let ov <-holding [v] (eval (.Name x xp) X.env)
  let iv <-holding [v,ov] (eval a X.env)
  standAt sp
  holding [v,ov,iv] (setItem ov iv v)
  release [v,ov,iv] []):=by intro _;rfl)
 (hs:swapsWithSole [.Subscript (.Name x xp) a sp] e pos.line X.env=pure false:=by rfl) (hw:swappedStores [.Subscript (.Name x xp) a sp] e X.env=pure none:=by rfl) (h1:(assignEach [.Subscript (.Name x xp) a sp] X.env).map (·.2) = [assign (.Subscript (.Name x xp) a sp) X.env]:=by rfl) :
 VS X (.Assign [.Subscript (.Name x xp) a sp] e pos) (gPutL i fk fa):=by
 obtain⟨t,p,q⟩:=h;obtain⟨tk,pk,qk⟩:=hk;refine⟨_,zi1 p (zmx (zcA hN hv hd hcd) pk zhq ha) hs hw h1,λHz Jz O Z Y H J o E s e w=>?_⟩;obtain⟨⟨d,Z1⟩,e1,eA⟩:=bind_some e;obtain⟨k,e2,eB⟩:=bind_some eA;obtain⟨kk,e3,eC⟩:=bind_some eB;refine q Hz Jz O Z Y H J d Z1 _ s e1 λv H1 J1 s1 k1 r1=>?_
 split at eC
 .rename_i ds z
  obtain⟨j,e4,eD⟩:=bind_some eC;cases eD;obtain⟨a0,vs0,ha0,_,_,_⟩:=s1.top (H':=H) (es:=[]) z;refine⟨.ref a0,ha0,?_⟩;refine qk Hz Jz O Z1 Y H1 J1 k _ s1 e2 λvk H2 J2 u2 rk=>?_
  have s2:=s1.up u2
  obtain⟨a1,vs1,ha1,hv1,rl,go⟩:=s2.top (H':=H) (es:=[]) z;rw[ha0] at ha1;cases ha1;cases k with
 |int k0=>
    cases e3;cases rk;refine⟨a0,vs1,kk,j,rfl,rfl,hv1,by rw[rl.length];exact e4,?_⟩;obtain⟨s3,k3⟩:=go (vs1.set j v) (ds.set j d) (rl.set j (r1.keep u2.keep));exact w Y _ J2 s3 ((k1.trans u2.keep).trans k3)
 |_=>cases e3
 .cases eC
end
section
variable {X:Cx}{K:W.Frag}{fi fl:FAX}{fa:FX}{g:FS}{pos p:Pos}{ft:FT}{tg a b:Expr}
def keyD:D->Option Key
|.int i=>some (.inl i)
|.str x=>some (.inr x)
|_=>none
def zjN {H:Hp}{J:Addr->Prop}{v:V}{d:D}{k:Key}(r:RpW K H J v d)(h:keyD d=some k):v=kV k:=by
 cases d with
|int i=>cases h;exact r.int
|str x=>cases h;exact r.str
|_=>cases h
def dLook:List Key->List D->Key->Option D
|k::ks,d::ds,j=>if k=j then some d else dLook ks ds j
|_,_,_=>none
theorem zhB {H:Hp}{J:Addr->Prop}:∀{kvs:List (Key×V)}{ks:List Key}{ds:List D}{j:Key}{d:D},kvs.map (·.1)=ks->RpL K H J (kvs.map (·.2)) ds->dLook ks ds j=some d->∃v,valV kvs j=some v/\Rp K H J v d
|[],_,_,_,_,e,r,h=>by subst e;cases r;cases h
|(k,v)::kvs,_,_,j,d,e,r,h=>by
   subst e;cases r with
  |cons h1 t=>
     unfold valV;rw[wbJ];unfold dLook at h;rw[waK] at h;by_cases hk:k=j
     .simp only[hk,if_true] at h;cases h;simp only[hk,decide_true];exact⟨v,rfl,h1⟩
     .simp only[hk,if_false] at h;simp only[hk,decide_false];exact zhB rfl t h
def dGet:D->D->Option D
|.dct ks ds,k=>(keyD k).bind λj=>dLook ks ds j
|_,_=>none
def zn4 {fd fk:FE}(hu:X.A.units+1<cLine)(ha:VW X a fd)(hb:VW X b fk)(hs:NoSl b:=by exact λ_ _=>rfl):VE X (.Subscript a b pos) (e2 dGet fd fk):=by
 obtain⟨t,p,g⟩:=ha;obtain⟨t2,p2,g2⟩:=hb;refine⟨_,znM hu p p2 hs,?_⟩;intro Hz Jz O Z Y H J d Q s e w;obtain⟨x,ex,eA⟩:=bind_some e;obtain⟨y,ey,eB⟩:=bind_some eA;refine g Hz Jz O Z Y H J x _ s ex λv1 H1 J1 u1 r1=>?_
 refine g2 Hz Jz O Z Y H1 J1 y _ (s.up u1) ey λv2 H2 J2 u2 r2=>?_
 cases x with
|dct ks ds=>
   obtain⟨j,ej,eC⟩:=bind_some (show((keyD y).bind λj=>dLook ks ds j)=some d from eB);obtain⟨q,kvs,vs,rfl,h1,h2,h3,rl⟩:=(r1.up u2).dct;subst h3;obtain⟨v,hv,rv⟩:=zhB h2 rl eC;refine⟨q,v,rfl,?_,w v H2 J2 (u1.trans u2) rv⟩;rw[zjN r2 ej,<-hv];exact DGet.k h1
|_=>cases eB
end
section
variable {X:Cx}{K:W.Frag}{a b c e:Expr}{es:List Expr}{fa fb:FX}{fe fk fv:FE}{fl:FA}{pos p p2:Pos}
def ST.top2 {Hz H:Hp}{Jz J:Addr->Prop}{O:Pr}{Z:En}{Y:L2.St}{i j:Nat}{ds es:List D}(s:ST K Hz Jz O Z Y H J)(h0:ownD (Z[i]?)=some (2,.lst ds))(hj:ds[j]?=some (.lst es)):∃a vs b us,Y[i]?=some (some (.ref a))/\H a=some (.lst vs)/\vs.length=ds.length/\vs[j]?=some (.ref b)/\H b=some (.lst us)/\RpL K H J us es/\
 (∀(us':List V) (es':List D),RpL K H J us' es'->ST K Hz Jz O (setO Z i (.lst (ds.set j (.lst es')))) Y (upd H b (.lst us')) J/\Keep K H J (upd H b (.lst us')) J)/\
 (∀(H':Hp) (J':Addr->Prop) (q:Addr) (us':List V) (es':List D),Up H J H' J'->H q=none->¬J' q->H' q=some (.lst us')->RpL K H' J' us' es'->ST K Hz Jz O (setO Z i (.lst (ds.set j (.lst es')))) Y (upd H' a (.lst (vs.set j (.ref q)))) J'/\Keep K H J (upd H' a (.lst (vs.set j (.ref q)))) J'):=by
 obtain⟨v,A,hv,r,nd,nj,go⟩:=s.chg h0;cases r with
|lst ha rl=>
   rename_i a vs A
   obtain⟨w,A1,A2,A3,hw,rfl,rw',up⟩:=rl.split j hj;obtain⟨b,us,rfl,rfl,hb,ru⟩:=rw'.one;have hab:a≠b:=by
    rintro rfl;have:=(waM.mp nd).1
    exact this (by simp)
   have ndA:=(waM.mp nd).2
   have naA:=(waM.mp nd).1
   have hb13:∀x∈A1++A3,x≠b:=by
    intro x hx z;subst z;rw[wbl] at ndA;obtain⟨n1,n2,n3⟩:=ndA;rw[wcu,waM] at n2;rcases waC.mp hx with h|h
    .exact n3 x h x (by simp) rfl
    .exact n2.1 h
   refine⟨a,vs,b,us,hv,ha,rl.length,hw,hb,ru,λus' es' re=>?_,λH' J' q us' es' u hq njq hq' re=>?_⟩
   .have nja:¬J b:=nj b (by simp)
    have kp:Keep K H J (upd H b (.lst us')) J:=zcG hb nja
    refine go (upd H b (.lst us')) J (.lst (ds.set j (.lst es'))) (a::(A1++([b]++A3))) (λc o hc h=>?_) (λc h=>?_) (λ_ h=>h) (λ_ h=>.inl h) (λc h=>?_) ?_ nd nj (λc hc=>.inl hc)
    .rw[zah (λz=>hc (by simp[z]))];exact h
    .by_cases z:c=b
     .subst z;rw[zai];simp
     .rw[zah z];exact h
    .by_cases z:c=b
     .subst z;rw[zai];simp
     .rw[zah z];exact s.ja c h
    .have vset:vs.set j (V.ref b)=vs:=by
      apply List.ext_getElem?;intro k;by_cases hk:k=j
      .subst hk;rw[hw,wau (wai.mp hw).1]
      .rw[wae (Ne.symm hk)]
     have:=up (upd H b (.lst us')) J (.ref b) (.lst es') [b] kp (λc hc o ho=>by rw[zah (hb13 c hc)];exact ho) (.lst zai (RpUL.of (re.keep kp)))
     rw[vset] at this;exact .lst (by rw[zah hab];exact ha) this
   .have haH':=u.same _ _ ha
    have hqa:q≠a:=by rintro rfl;rw[ha] at hq;cases hq
    have nja:¬J' a:=λz=>by
     rcases u.jn a z with z|z
     .exact nj a (by simp) z
     .rw[ha] at z;cases z
    have kp:Keep K H' J' (upd H' a (.lst (vs.set j (.ref q)))) J':=zcG haH' nja
    have qfree:∀c∈a::(A1++([b]++A3)),c≠q:=by
     intro c hc z;subst z;rcases wah.mp hc with rfl|hc
     .rw[ha] at hq;cases hq
     .obtain⟨o,e,_⟩:=rl.some c hc;rw[hq] at e;cases e
    refine(go (upd H' a (.lst (vs.set j (.ref q)))) J' (.lst (ds.set j (.lst es'))) (a::(A1++([q]++A3))) (λc o hc h=>?_) (λc h=>?_) u.jj u.jn (λc h=>?_) ?_ ?_ (λc hc=>?_) (λc hc=>?_))
    .rw[zah (λz=>hc (by simp[z]))];exact u.same _ _ h
    .by_cases z:c=a
     .subst z;rw[zai];simp
     .rw[zah z];cases e:H c with
     |none=>exact absurd e h
     |some o=>rw[u.same _ _ e];simp
    .by_cases z:c=a
     .subst z;rw[zai];simp
     .rw[zah z];exact u.ja c h
    .have:=up (upd H' a (.lst (vs.set j (.ref q)))) J' (.ref q) (.lst es') [q] (u.keep.trans kp) (λc hc o ho=>by
      rw[zah (λz=>naA (by rw[<-z];simp at hc⊢;rcases hc with hc|hc <;> simp[hc]))];exact u.same _ _ ho) (.lst (by rw[zah hqa];exact hq') (RpUL.of (re.keep kp)))
     exact .lst zai this
    .have h1:q∉a::(A1++([b]++A3)):=λz=>qfree q z rfl
     rw[wbl] at ndA;obtain⟨n1,n2,n3⟩:=ndA;rw[wcu,waM] at n2;simp only[wah,waC,not_or,wao] at h1;refine waM.mpr ⟨?_,wbl.mpr ⟨n1,?_,?_⟩⟩
     .simp only[waC,wao,not_or] at naA⊢;exact⟨naA.1,λz=>h1.1 z.symm,naA.2.2⟩
     .rw[wcu];exact waM.mpr ⟨h1.2.2.2,n2.2⟩
     .intro x hx y hy z;subst z;rcases waC.mp hy with hy|hy
      .rw[wao.mp hy] at hx;exact h1.2.1 hx
      .exact n3 x hx x (by simp[hy]) rfl
    .simp only[wah,waC,wcx,or_false] at hc;have old:c∈a::(A1++([b]++A3))->¬J' c:=λh z=>by
      rcases u.jn c z with z|z
      .exact nj c h z
      .rcases wah.mp h with rfl|h
       .rw[ha] at z;cases z
       .obtain⟨o,e,_⟩:=rl.some c h;rw[z] at e;cases e
     rcases hc with rfl|hc|rfl|hc
     .exact nja
     .exact old (by simp[hc])
     .exact njq
     .exact old (by simp[hc])
    .simp only[wah,waC,wcx,or_false] at hc;rcases hc with rfl|hc|rfl|hc
     .exact .inl (by simp)
     .exact .inl (by simp[hc])
     .exact .inr hq
     .exact .inl (by simp[hc])
def eIx2 (i:Nat)(fk:FE):FE:=λZ=>(fk Z).bind λk=>(dInt k).bind λk=>match ownD (Z[i]?) with
|some (2,.lst ds)=>(atI ds k).bind λd=>match d with|.lst es=>some (.lst es)|_=>none
|_=>none
def zmV (i:Nat){x:Str}{xp:Pos}(hk:VE X a fk)(hN:X.N[i]?=some x:=by rfl)(hv:Vis X.env.scope x:=by first|exact Or.inl rfl|exact Or.inr (Or.inl rfl)|exact Or.inr (Or.inr rfl))(hd:(x == ("__debug__":Str))=false:=by decide)(hcd:(x == ("__classdict__":Str))=false:=by decide)(hs:zdb a:=by exact λ_ _=>rfl) :
 VW X (.Subscript (.Name x xp) a pos) (eIx2 i fk):=by
 obtain⟨t,p,g⟩:=hk;refine⟨_,zif zfK (zcA hN hv hd hcd) p hs,?_⟩;intro Hz Jz O Z Y H J d Q s e w;obtain⟨k,e1,eA⟩:=bind_some e;obtain⟨kk,e2,eB⟩:=bind_some eA;split at eB
 .rename_i ds z
  obtain⟨d1,e3,eC⟩:=bind_some eB;split at eC
  .rename_i es
   cases eC;obtain⟨v,A,hv,r⟩:=s.rd z;refine⟨v,hv,?_⟩;refine g Hz Jz O Z Y H J k _ s e1 λvk H1 J1 u1 rk=>?_
   cases k with
  |int k0=>
     cases e2;cases rk;have r1:=r.keep u1.keep λb _ o=>u1.same b o
     cases r1 with
    |lst ha rl=>
       unfold atI at e3;cases q:ixN ds.length kk with
      |none=>rw[q] at e3;cases e3
      |some j=>
         rw[q] at e3;obtain⟨u,A1,A2,A3,hu,_,ru,_⟩:=rl.split j e3;refine .inl ⟨_,_,kk,u,rfl,rfl,SqL.of ha,?_,w u H1 J1 u1 (.inr ⟨A2,ru⟩)⟩;unfold atI;rw[rl.length,q];exact hu
  |_=>cases e2
  .cases eC
 .cases eB
def zn5 (i:Nat)(fk fv:FE):FS:=λZ=>(fk Z).bind λk=>(dInt k).bind λk=>(fv Z).bind λd=>match ownD (Z[i]?) with
|some (2,.lst ds)=>(ixN ds.length k).bind λj=>match ds[j]? with
  |some (.lst es)=>if es.length<lim then some (.nx (setO Z i (.lst (ds.set j (.lst (es++[d])))))) else none
  |_=>none
|_=>none
def zn6 (i:Nat){x:Str}{xp sp apos cpos:Pos}(hk:VE X a fk)(h:VE X e fv)(hN:X.N[i]?=some x:=by rfl)(hv:Vis X.env.scope x:=by first|exact Or.inl rfl|exact Or.inr (Or.inl rfl)|exact Or.inr (Or.inr rfl))(hd:(x == ("__debug__":Str))=false:=by decide)
 (hcd:(x == ("__classdict__":Str))=false:=by decide) (hpi:zdb a:=by exact λ_ _=>rfl) (h1:starEach [e] X.env=(false,eval e X.env)::starEach [] X.env:=by rfl)
 (hbase:attributeBase (.Subscript (.Name x xp) a sp) "append" X.env (eval (.Subscript (.Name x xp) a sp) X.env)=eval (.Subscript (.Name x xp) a sp) X.env:=by rfl)
 (hfew:((backTo cpos (starEach [e] X.env)).all (λx=>!x.1)&&(backToKw cpos (keywordEach [] X.env)).all (λx=>x.1.isSome)
  && decide ([e].length+([]:List Keyword).length+(if([]:List Keyword).isEmpty then 0 else 1)<30))=true:=by rfl)
 (hline:(apos.endLine == cpos.line)=true:=by rfl) (hs:starEach [e] X.env = [(false,eval e X.env)]:=by rfl) (hsw:swapsWith (.Call (.Attribute (.Subscript (.Name x xp) a sp) "append" apos) [e] [] cpos) none pos.line X.env=pure false:=by rfl) :
 VS X (.Expr (.Call (.Attribute (.Subscript (.Name x xp) a sp) "append" apos) [e] [] cpos) pos) (zn5 i fk fv):=by
 obtain⟨tk,pk,qk⟩:=hk;obtain⟨t,p,q⟩:=h;refine⟨_,zdA (papp (zif zfK (zcA hN hv hd hcd) pk hpi) (zbg p zc8 h1) hbase hfew hline hs) hsw,?_⟩;intro Hz Jz O Z Y H J o E s e w;obtain⟨k,e1,eA⟩:=bind_some e;obtain⟨kk,e2,eB⟩:=bind_some eA;obtain⟨d,e3,eC⟩:=bind_some eB;split at eC
 .rename_i ds z
  obtain⟨j,e4,eD⟩:=bind_some eC;split at eD
  .rename_i es ze
   by_cases hl:es.length<lim
   .rw[if_pos hl] at eD;cases eD;obtain⟨v0,A0,hv0,r0⟩:=s.rd z;refine⟨v0,hv0,?_⟩;refine qk Hz Jz O Z Y H J k _ s e1 λvk H1 J1 u1 rk=>?_
    cases k with
   |int k0=>
      cases e2;cases rk;have s1:=s.up u1
      obtain⟨a1,vs1,b1,us1,ha1,hA1,hl1,hj1,hb1,ru1,_,_⟩:=s1.top2 z ze;rw[hv0] at ha1;cases ha1;refine .inl ⟨a1,vs1,kk,.ref b1,rfl,rfl,SqL.of hA1,by unfold atI;rw[hl1,e4];exact hj1,?_⟩;refine⟨.inl ⟨rfl,us1,SqL.of hb1⟩,?_⟩;refine q Hz Jz O Z Y H1 J1 d _ s1 e3 λv H2 J2 u2 r2=>?_
      have s2:=s1.up u2
      obtain⟨a2,vs2,b2,us2,ha2,hA2,hl2,hj2,hb2,ru2,go,_⟩:=s2.top2 z ze;rw[hv0] at ha2;cases ha2;have hA12:=u2.same _ _ hA1
      rw[hA2] at hA12;cases hA12;rw[hj2] at hj1;cases hj1;refine⟨b1,us2,v,rfl,rfl,hb2,by rw[ru2.length];exact wam hl (wbg zeg),?_⟩;obtain⟨s3,k3⟩:=go (us2++[v]) (es++[d]) (ru2.append (.cons r2 .nil));exact w Y _ J2 s3 ((u1.trans u2).keep.trans k3)
   |_=>cases e2
   .rw[if_neg hl] at eD;cases eD
  .cases eD
 .cases eC
def zn7 (i:Nat)(fk:FE)(f:FA):FS:=λZ=>(f Z).bind λes=>(fk Z).bind λk=>(dInt k).bind λk=>match ownD (Z[i]?) with
|some (2,.lst ds)=>(ixN ds.length k).bind λj=>match ds[j]? with
  |some (.lst _)=>some (.nx (setO Z i (.lst (ds.set j (.lst es)))))
  |_=>none
|_=>none
def zn8 (i:Nat){x:Str}{xp sp:Pos}(h:VN X e fl)(hk:VE X a fk)(hN:X.N[i]?=some x:=by rfl)(hv:Vis X.env.scope x:=by first|exact Or.inl rfl|exact Or.inr (Or.inl rfl)|exact Or.inr (Or.inr rfl))(hd:(x == ("__debug__":Str))=false:=by decide)(hcd:(x == ("__classdict__":Str))=false:=by decide)
 (ha:∀v,assign (.Subscript (.Name x xp) a sp) X.env v=(do
  let ov <-holding [v] (eval (.Name x xp) X.env)
  let iv <-holding [v,ov] (eval a X.env)
  standAt sp
  holding [v,ov,iv] (setItem ov iv v)
  release [v,ov,iv] []):=by intro _;rfl)
 (hs:swapsWithSole [.Subscript (.Name x xp) a sp] e pos.line X.env=pure false:=by rfl) (hw:swappedStores [.Subscript (.Name x xp) a sp] e X.env=pure none:=by rfl) (h1:(assignEach [.Subscript (.Name x xp) a sp] X.env).map (·.2) = [assign (.Subscript (.Name x xp) a sp) X.env]:=by rfl) :
 VS X (.Assign [.Subscript (.Name x xp) a sp] e pos) (zn7 i fk fl):=by
 obtain⟨t,p,q⟩:=h;obtain⟨tk,pk,qk⟩:=hk;refine⟨_,zi1 p (zmx (zcA hN hv hd hcd) pk zhq ha) hs hw h1,λHz Jz O Z Y H J o E s e w=>?_⟩;obtain⟨es,e1,eA⟩:=bind_some e;obtain⟨k,e2,eB⟩:=bind_some eA;obtain⟨kk,e3,eC⟩:=bind_some eB;split at eC
 .rename_i ds z
  obtain⟨j,e4,eD⟩:=bind_some eC;split at eD
  .rename_i es0 ze
   cases eD;refine q Hz Jz O Z Y H J es _ s e1 λp1 us H1 J1 u1 hp1 nj1 hq1 r1=>?_
   obtain⟨v0,A0,hv0,r0⟩:=s.rd z;refine⟨v0,hv0,?_⟩;refine qk Hz Jz O Z Y H1 J1 k _ (s.up u1) e2 λvk H2 J2 u2 rk=>?_
   cases k with
  |int k0=>
     cases e3;cases rk;obtain⟨a0,vs0,b0,us0,ha0,hA0,hl0,hj0,hb0,ru0,_,go⟩:=s.top2 z ze;rw[hv0] at ha0;cases ha0;have u:=u1.trans u2
     have hq2:=u2.same _ _ hq1
     have nj2:¬J2 p1:=λz=>by
      rcases u2.jn p1 z with z|z
      .exact nj1 z
      .rw[hq1] at z;cases z
     refine⟨a0,vs0,kk,j,rfl,rfl,u.same _ _ hA0,by rw[hl0];exact e4,?_⟩;obtain⟨s3,k3⟩:=go H2 J2 p1 us es u hp1 nj2 hq2 (r1.keep u2.keep);exact w Y _ J2 s3 k3
  |_=>cases e3
  .cases eD
 .cases eC
end
section
variable {X:Cx}{K:W.Frag}{elt iter tg:Expr}{ifs:List Expr}{scope:Scope}{pos:Pos}{NC:List Str}
def TNof (K:W.Frag)(f:FA):TE:=λY H Q=>∃Hz Jz O Z J d,ST K Hz Jz O Z Y H J/\f Z=some d/\zmI K H J d Q
def VN.of {X:Cx}{e:Expr}{f:FA}(h:VN X e f):PE X e (TNof X.K f):=by
 obtain⟨t,p,g⟩:=h;rintro pins s Y H Q I ⟨Hz,Jz,O,Z,J,d,s1,e1,w⟩;exact p pins s Y H Q I (g Hz Jz O Z Y H J d Q s1 e1 w)
def zcI (Z:En)(g:FG)(e:FA)(d:D):Option (Option D):=(g d Z).bind λZ1=>(e Z1).bind λx=>some (some (.lst x))
def zmW (fr:List (Option Nat))(fi:FA)(g:FG)(e:FA):FR:=λZ=>(fi Z).bind λds=>(zc6 (zcI (zaK Z fr) g e) ds).bind λout=>if out.length<=lim then some (.new 2 (.lst out),Z) else none
def zlM {fr:List (Option Nat)}{wi:TI}{fi:FA}{g:FG}{is:List Nat}{fe:FA}(hi:GoI K wi fi)(hon:∀d Z Z',g d Z=some Z'->Only is Z Z')(hap:apart is fr=true) :
 GoR K (zfR fr wi (TGof K g) (TTof K tTrue) (TNof K fe)) (zmW fr fi g fe):=by
 intro Hz Jz O Z Y H J rr Z' Q s e w;obtain⟨ds,e1,eA⟩:=bind_some e;obtain⟨out,e2,eB⟩:=bind_some eA;by_cases hl:out.length<=lim
 .rw[if_pos hl] at eB;cases eB;refine hi Hz Jz O Z Y H J ds _ s e1 λI H1 J1 u1 src=>?_
  intro Da hD;have hD0:Hz Da=none:=s.free (u:=u1) hD
  have nJ1:¬J1 Da:=λj=>u1.ja Da j hD
  refine⟨λi m ys Y2 H2=>m=ds.length - i/\i<=ds.length/\∃J2 dn rs A,ST K Hz Jz O.blk (zaK Z fr) Y2 H2 J2/\Up H1 J1 H2 J2/\¬J2 Da/\RpUL K H2 J2 1 ys dn A/\A.Nodup/\(∀b∈A,¬J2 b/\H1 b=none/\b≠Da)/\out=dn++rs/\zc6 (zcI (zaK Z fr) g fe) (ds.drop i)=some rs,⟨ds.length,by simp,wbu _,?_⟩,?_⟩
  .have un:=Up.new u1.ja hD (.lst [])
   exact⟨J1,[],out,[],((s.up u1).up un).pick fr,un,nJ1,.nil,waU,by simp,rfl,by simpa using e2⟩
  .rintro i m ys Y2 H2 ⟨rfl,hil,J2,dn,rs,A,s2,u2,nj2,r2,nd2,hA2,eo,ec⟩ hys;obtain⟨stop,turn⟩:=src H2 J2 u2.keep s2.ja;by_cases hlt:i<ds.length
   .right
    have hd:ds[i]?=some ds[i]:=wat hlt
    generalize hdd:ds[i]=d at hd;obtain⟨go,yl⟩:=turn i d hd;have edrop:ds.drop i=d::ds.drop (i+1):=by rw[<-hdd];exact(wbx hlt).symm
    rw[edrop] at ec;obtain⟨o,eo1,ec1⟩:=bind_some (show((zcI (zaK Z fr) g fe d).bind λo=>(zc6 (zcI (zaK Z fr) g fe) (ds.drop (i+1))).bind λxs=>some (match o with|some x=>x::xs|none=>xs))=some rs from ec);obtain⟨rs',er,ec2⟩:=bind_some ec1;obtain⟨Z1,eg,eo2⟩:=bind_some eo1;obtain⟨x,ex,eo3⟩:=bind_some eo2;cases eo3;cases ec2;refine⟨go,λzs Y' H'=>∃J2 dn rs A,ST K Hz Jz O.blk (zaK Z fr) Y' H' J2/\Up H1 J1 H' J2/\¬J2 Da/\RpUL K H' J2 1 zs dn A/\A.Nodup/\(∀b∈A,¬J2 b/\H1 b=none/\b≠Da)/\out=dn++rs/\zc6 (zcI (zaK Z fr) g fe) (ds.drop (i+1))=some rs,λzs Y' H' h=>⟨ds.length - (i+1),by omega,rfl,hlt,h⟩,λxv H3 y=>?_⟩;obtain⟨J3,u3,r3⟩:=yl xv H3 y;have wk:Weak (zaK Z fr) Z1:=zfc (hon _ _ _ eg) hap
    refine⟨Hz,Jz,O.blk,zaK Z fr,J3,d,Z1,s2.up u3,r3,eg,λY4 s4=>?_⟩;refine⟨Hz,Jz,O.blk,Z1,J3,true,s4,rfl,λH5 J5 u5=>?_⟩;have s5:=s4.up u5
    refine⟨λ_=>?_,λz=>by cases z⟩;refine⟨Hz,Jz,O.blk,Z1,J5,x,s5,ex,λq vs H6 J6 u6 hq nq hq6 r6=>?_⟩;have u26:=(u3.trans u5).trans u6
    have old:∀{b:Addr}{o:HO},H2 b=some o->¬J2 b->¬J6 b:=λ{b o} hb nb jb=>by
     rcases u26.jn b jb with jb|jb
     .exact nb jb
     .rw[hb] at jb;cases jb
    have nj6:¬J6 Da:=old hys nj2
    have hy6:H6 Da=some (.lst ys):=u26.same _ _ hys
    have kA:Keep K H6 J6 (upd H6 Da (.lst (ys++[.ref q]))) J6:=zcG hy6 nj6
    have hqD:q≠Da:=λz=>by
     subst z;have:=(u3.trans u5).same _ _ hys
     rw[this] at hq;cases hq
    have hqA:q∉A:=λz=>by
     obtain⟨o,eo,_⟩:=r2.some q z;rw[(u3.trans u5).same _ _ eo] at hq;cases hq
    refine⟨hy6,?_,J6,dn++[.lst x],rs',A++[q],?_,(u2.trans u26).at (ys:=ys) hD,nj6,?_,?_,λb hb=>?_,by rw[eo];simp,er⟩
    .have:(dn++.lst x::rs').length<=lim:=by rw[<-eo];exact hl
     rw[wap,wba] at this;rw[r2.length];exact wam (by omega:dn.length<lim) (wbg zeg)
    .exact((s5.up u6).weak wk rfl).at (zcp Z fr) hy6 nj6 hD0
    .have ra:RpUL K H6 J6 1 ys dn A:=r2.keep u26.keep λb _ o=>u26.same b o
     have rb:RpUL K H6 J6 1 [.ref q] [.lst x] [q]:=by
      have:=RpUL.cons (n:=1) (RpU.lst hq6 (RpUL.of r6)) (RpUL.nil (K:=K) (H:=H6) (J:=J6))
      simpa using this
     refine(ra.append rb).keep kA λb hb o ho=>?_
     rw[zah];exact ho;rcases waC.mp hb with hb|hb
     .exact(hA2 b hb).2.2
     .rw[wao.mp hb];exact hqD
    .refine wbl.mpr ⟨nd2,by simp,λa ha b hb z=>?_⟩;rw[wao.mp hb] at z;exact hqA (z▸ha)
    .rcases waC.mp hb with hb|hb
     .obtain⟨o,eo,_⟩:=r2.some b hb;exact⟨old eo (hA2 b hb).1,(hA2 b hb).2⟩
     .rw[wao.mp hb];exact⟨nq,(u2.trans (u3.trans u5)).same.free hq,hqD⟩
   .left
    have hi':i=ds.length:=by omega
    subst hi';rw[wce] at ec;cases ec;refine⟨stop,?_⟩;rw[waI] at eo;subst eo;have u:=u1.trans u2
    obtain⟨fp,ow⟩:=s.ow;refine w (.ref Da) H2 J2 (s.up u) u.keep ⟨Da::A,fp,⟨λi=>(ow.at' i).keep u.keep λb _=>u.same b,ow.nd,λi b hb jb=>?_,ow.dj⟩,.lst hys r2,?_,λb hb=>?_,λi b hb hb2=>?_⟩
    .rcases u.jn b jb with jb|jb
     .exact ow.nj i b hb jb
     .obtain⟨o,e,_⟩:=(ow.at' i).ru b hb;rw[e] at jb;cases jb
    .exact waM.mpr ⟨λz=>(hA2 Da z).2.2 rfl,nd2⟩
    .rcases wah.mp hb with rfl|hb
     .exact⟨nj2,hD0⟩
     .exact⟨(hA2 b hb).1,s.free (u:=u1) (hA2 b hb).2.1⟩
    .obtain⟨o,e,_⟩:=(ow.at' i).ru b hb2;have e1:=u1.same _ _ e
     rcases wah.mp hb with rfl|hb
     .rw[hD] at e1;cases e1
     .rw[(hA2 b hb).2.1] at e1;cases e1
 .rw[if_neg hl] at eB;cases eB
end
section
variable {X:Cx}{K:W.Frag}{H H' H1 H2 Hz:Hp}{J J' J1 J2 Jz:Addr->Prop}{Z Z' Z2:En}{Y Y2:L2.St}{O:Pr}{fp:Nat->List Addr}
end
section
variable {X:Cx}{K:W.Frag}
end
def putKD (ks:List Key)(ds:List D)(j:Key)(d:D):List Key×List D:=if ks.any (λk=>decide (k=j))=true then(ks,(ks.zip ds).map λp=>if p.1=j then d else p.2) else(ks++[j],ds++[d])
section
variable {X:Cx}{K:W.Frag}{a b c e:Expr}{es:List Expr}{fa fb:FX}{fe fk fv:FE}{fl:FA}{fr:FR}{pos p p2:Pos}
def zn9 {H:Hp}{J:Addr->Prop}{kvs:List (Key×V)}{ks:List Key}{ds:List D}{j:Key}{v:V}{d:D}(e1:kvs.map (·.1)=ks)(r:RpL K H J (kvs.map (·.2)) ds)(rv:Rp K H J v d) :
 (putK kvs j v).map (·.1)=(putKD ks ds j d).1/\RpL K H J ((putK kvs j v).map (·.2)) (putKD ks ds j d).2:=by
 have hany:(kvs.any λkv=>decide (kv.1=j))=ks.any (λk=>decide (k=j)):=by
  rw[<-e1,List.any_map];rfl
 unfold putK putKD;rw[hany];by_cases h:ks.any (λk=>decide (k=j))=true
 .rw[if_pos h,if_pos h];constructor
  .rw[<-e1,wbr];apply List.map_congr_left;intro kv _;simp only[Function.comp];split <;> rfl
  .clear h hany
   show RpL K H J ((kvs.map λkv=>if kv.1=j then(kv.1,v) else kv).map (·.2)) ((ks.zip ds).map λp=>if p.1=j then d else p.2)
   induction kvs generalizing ks ds with
  |nil=>subst e1;cases r;exact .nil
  |cons kv kvs ih=>
     subst e1;cases r with
    |cons h t=>
       simp only[waK,List.zip_cons_cons];refine .cons ?_ (ih rfl t);by_cases hk:kv.1=j
       .simp only[hk,if_true];exact rv
       .simp only[hk,if_false];exact h
 .rw[if_neg h,if_neg h];constructor
  .rw[waS,e1];rfl
  .rw[waS];exact r.append (.cons rv .nil)
def gPutD (i:Nat)(fk:FE)(f:FX):FS:=λZ=>(f Z).bind λq=>(fk q.2).bind λk=>(keyD k).bind λk=>match ownD (q.2[i]?) with
|some (1,.dct ks ds)=>if ks.length<lim then some (.nx (setO q.2 i (.dct (putKD ks ds k q.1).1 (putKD ks ds k q.1).2))) else none
|_=>none
def aRevR (f:FA):FA:=λZ=>(f Z).bind λl=>(a1Int l).bind λj=>if 0<=j/\j<=1000000 then some (zbn 0 j.toNat).reverse else none
def zlN {H:Hp}{J:Addr->Prop}(n:Nat):Src K (Itd ((n:Int) - 1) n) H J (zbn 0 n).reverse:=by
 intro H2 J2 k ja;have hl:(zbn 0 n).length=n:=by simp[zbn]
 rw[wbv,hl];refine⟨wan _,λi d hd=>?_⟩;have hi:i<n:=by
  have:=(wai.mp hd).1
  rwa [wbv,hl] at this
 refine⟨hi,λx H3 y=>?_⟩;obtain⟨rfl,rfl⟩:=y;rw[List.getElem?_reverse (by rw[hl];exact hi),hl] at hd;unfold zbn at hd;rw[waw,wcG (by omega)] at hd;cases hd;refine⟨J2,Up.refl ja,?_⟩;have e:(n:Int) - 1 - (i:Int)=0+((n - 1 - i:Nat):Int):=by omega
 rw[e];exact .int _
def zrv {tg:Expr}{pos2:Pos}(B:Blt X.mg)(ha:VA X [a] fl)(hg:Gl X "range":=by rfl)(hg2:Gl X "reversed":=by rfl)(hs:starEach [a] X.env = [(false,eval a X.env)]:=by rfl)
 (hs2:starEach [.Call (.Name "range" p) [a] [] pos] X.env = [(false,eval (.Call (.Name "range" p) [a] [] pos) X.env)]:=by rfl):VI X tg (.Call (.Name "reversed" p2) [.Call (.Name "range" p) [a] [] pos] [] pos2) (aRevR fl):=by
 obtain⟨t,p,g⟩:=ha;refine⟨_,znO hg (B.get "range") hg2 (B.get "reversed") p hs hs2,?_⟩;intro Hz Jz O Z Y H J ds R s e w;obtain⟨l,e1,eA⟩:=bind_some e;obtain⟨j,e2,eB⟩:=bind_some eA;by_cases hj:0<=j/\j<=1000000
 .rw[if_pos hj] at eB;cases eB;refine g Hz Jz O Z Y H J _ _ s e1 λvs H1 J1 u1 r1=>?_
  match l,e2,r1 with
 |[.int i],e2,r1=>
    cases e2;cases r1 with
   |cons h t=>
      cases t;cases h;have ej:j - 1=((j.toNat:Nat):Int) - 1:=by omega
      refine⟨j,rfl,by omega,by omega,?_⟩;rw[ej];exact w _ H1 J1 u1 (zlN _)
 .rw[if_neg hj] at eB;cases eB
def Itv (K:W.Frag)(a:Addr)(n:Nat):It:=
 ⟨λi H=>i<n/\∃xs x,SqL K H a xs/\xs.length=n/\xs[n - 1 - i]?=some x,λi H x H'=>H'=H/\∀xs,SqL K H a xs->xs[n - 1 - i]?=some x,λi _=>n<=i⟩
def zlO {P:Program}{w:World}{K:W.Frag}{tg:Expr}(a it:Addr)(n:Nat):Turn P w K tg (Itv K a n) [it] it (λi h=>i<=n/\h.IsRevIter it a ((n:Int) - 1 - (i:Int))) where
 mem:=by simp
 obj:=λi h st b hb=>by
  have e:b=it:=by simpa using hb
  subst e;obtain⟨_,o,e,c,d⟩:=st;exact⟨o,e,λv z=>by rw[d] at z;cases z⟩
 keep:=λi h h' st k=>⟨st.1,st.2.at λo e=>k it (by simp) o e⟩
 item:=by
  intro X hP hw hK hc i pins s Y H E I hf st hg;subst hP hw hK;obtain⟨hlt,xs,x,hq,hn,hx⟩:=hg;obtain⟨its,rv,p,hz⟩:=I.list hq;obtain⟨u,hu,ru⟩:=rv.get hx;obtain⟨f0,f1,f2,f3,f4,f5⟩:=hf it (by simp);have e1:(n:Int) - 1 - (i:Int)=((n - 1 - i:Nat):Int):=by omega
  have st':=st.2
  rw[e1] at st';refine wpAny_pyNext_rev_item st' p.isList (x:=u) (by simpa using hu) λh' st2 sb=>?_
  have I1:Inv X pins Y H {s with heap:=h'}:=I.turned (t':=s.toks) (λb o hb e=>(sb.2 b hb).trans e) f0 f1 f3 f4 f5
  obtain⟨o,e,c,d⟩:=id st2;have e2:((n - 1 - i:Nat):Int) - 1=(n:Int) - 1 - ((i+1:Nat):Int):=by omega
  rw[e2] at st2;exact⟨u,rfl,zh7 (s:={s with heap:=h'}) e c d (by decide) ⟨x,H,I1,ru,⟨rfl,λys hy=>by rw[I.list_inj hy hq];exact hx⟩,⟨hlt,st2⟩,λb hb=>(hf b hb).1⟩⟩
 done:=by
  intro X hP hw hK hc i pins s Y H E I hf st hg;subst hP hw hK;obtain⟨f0,f1,f2,f3,f4,f5⟩:=hf it (by simp);have hi:n<=i:=hg
  have e1:(n:Int) - 1 - (i:Int) = -1:=by have:=st.1;omega
  have st':=st.2
  rw[e1] at st';exact wpAny_pyNext_rev_end (I.ok.hd hc) st' λh' eb=>⟨rfl,I.turned (t':=s.toks) (λb o hb e=>eb b o hb e) f0 f1 f3 f4 f5⟩
 self:=λ_ _ _ _ _ st h=>wpAny_pyIter_revIter st.2 h
def zrw (K:W.Frag)(ta:TA):TI:=λY H R=>ta Y H λvs H1=>∃a xs,vs = [.ref a]/\SqL K H1 a xs/\R (Itv K a xs.length) H1
def zoa {tg:Expr}{ta:TA}(hg:Gl X "reversed")(hm:X.mg "reversed"=none)(ha:PA X [a] ta)(hs:starEach [a] X.env = [(false,eval a X.env)]:=by rfl):PI X tg (.Call (.Name "reversed" p) [a] [] pos) (zrw X.K ta):=by
 intro pins s Y H R I h;refine waG (zc7 I hg hm boot_reversed ?_ (by decide) (by decide));refine waL (thn (ha pos pins s Y H _ I h) λus s1 ⟨vs,H1,I1,r1,q1⟩=>?_) hs rfl;obtain⟨a,xs,rfl,hq,q⟩:=q1;cases r1 with
|cons r rr=>
   cases rr;cases r;obtain⟨its,rv,pl,hz⟩:=I1.list hq;refine call_reversed_list pl.isList ?_;have e0:((its.toArray.size:Nat):Int) - 1=(xs.length:Int) - 1 - ((0:Nat):Int):=by simp[rv.length]
   rw[e0];have st:(s1.heap.push (revObj a ((xs.length:Int) - 1 - ((0:Nat):Int)))).IsRevIter s1.heap.objs.size a ((xs.length:Int) - 1 - ((0:Nat):Int)):=⟨_,war _ rfl,rfl,rfl⟩
   refine wpAny_pyIter_revIter st ?_;refine⟨s1.heap.objs.size,[s1.heap.objs.size],_,_,H1,rfl,I1.kept (t':=s1.toks) λb o e=>wab _ e,zlO a _ xs.length,⟨wbu _,st⟩,λb hb=>?_,q⟩;have e:b=s1.heap.objs.size:=by simpa using hb
   subst e;exact I1.fpOk (wan _) (I1.hok.fresh (wan _))
def zp1:List D->Option (List D)
|[.lst ds]=>some ds
|_=>none
def zrx (f:FA):FA:=λZ=>(f Z).bind λl=>(zp1 l).bind λds=>some ds.reverse
def zob {tg:Expr}(B:Blt X.mg)(ha:VA X [a] fl)(hg:Gl X "reversed":=by rfl)(hs:starEach [a] X.env = [(false,eval a X.env)]:=by rfl):VI X tg (.Call (.Name "reversed" p) [a] [] pos) (zrx fl):=by
 obtain⟨t,p,g⟩:=ha;refine⟨_,zoa hg (B.get "reversed") p hs,?_⟩;intro Hz Jz O Z Y H J ds R s e w;obtain⟨l,e1,eA⟩:=bind_some e;obtain⟨xs,e2,eB⟩:=bind_some eA;cases eB;refine g Hz Jz O Z Y H J _ _ s e1 λvs H1 J1 u1 r1=>?_
 match l,e2,r1 with
|[.lst _],e2,r1=>
   cases e2;cases r1 with
  |cons h t=>
     cases t;cases h with
    |lst h j r=>
       rename_i p vs
       refine⟨p,vs,rfl,SqL.of h,w _ H1 J1 u1 λH2 J2 k ja=>?_⟩;have h2:=k.jo _ _ j h
       rw[wbv,<-r.length];refine⟨wan _,λi d hd=>?_⟩;have hi:i<vs.length:=by
        have:=(wai.mp hd).1
        rwa [wbv,<-r.length] at this
       rw[List.getElem?_reverse (by rw[<-r.length];exact hi),<-r.length] at hd;obtain⟨v,hv,rv⟩:=r.get hd;refine⟨⟨hi,vs,v,SqL.of h2,rfl,hv⟩,λx H3 y=>?_⟩;obtain⟨rfl,y⟩:=y;have e:=y _ (SqL.of h2)
       rw[hv] at e;cases e;exact⟨J2,Up.refl ja,rv.keep k⟩
end
section
variable {X:Cx}{K:W.Frag}{a b c e:Expr}{es:List Expr}{fa fb:FX}{fe fk fv:FE}{fl:FA}{fr:FR}{pos p p2:Pos}
def isL2:Option (Nat×D)->Bool
|some (2,.lst _)=>true
|_=>false
def xPop (i:Nat):FX:=λZ=>match ownD (Z[i]?) with
|some (1,.lst ds)=>(ds[ds.length - 1]?).bind λd=>some (d,setO Z i (.lst ds.dropLast))
|_=>none
def zmX (i:Nat)(f:FX):FX:=λZ=>if isL1 (ownD (Z[i]?))=true then(f Z).bind λq=>(dInt q.1).bind λk=>match ownD (q.2[i]?) with
|some (1,.lst ds)=>if -1000000<=k/\k<=1000000 then(seqIndex? k ds.length).bind λj=>(ds[j]?).bind λd=>some (d,setO q.2 i (.lst (ds.eraseIdx j))) else none
|_=>none
 else none
end
section
variable {X:Cx}{K:W.Frag}{fa:FX}{fr:FR}
def zoc {i:Nat}{t:TE}(q:GoR K t fr):GoS K (tAsg t (zdU i)) (gOwnR i fr):=by
 intro Hz Jz O Z Y H J o E s e w;obtain⟨⟨r,Z1⟩,e1,eA⟩:=bind_some e;cases r with
|told d=>cases eA
|new n d=>
   have eA:(if i<Z1.length/\isPar (Z1[i]?)=false then some (Out.nx (Z1.set i (.own n d))) else none)=some o:=eA
   by_cases hi:i<Z1.length/\isPar (Z1[i]?)=false
   .rw[if_pos hi] at eA;cases eA;exact q Hz Jz O Z Y H J _ Z1 _ s e1 λv H' J' s' k r=>w _ H' J' (s'.take r hi.1 (zbs hi.2)) k
   .rw[if_neg hi] at eA;cases eA
def zlP (N:List Str)(st:Stmt){i:Nat}{x:Str}{elt iter tg:Expr}{scope:Scope}{pos pos' cp:Pos}{NC:List Str}(fr:List (Option Nat)){fi:FA}{g:FG}{is:List Nat}{fe:FA}(hND:X.N.Nodup)(hix:X.N[i]?=some x)(hx:Loc X.env.scope x)(hcalm:X.calm=true)(hi:VI X tg iter fi)
 (hcells:∀x,X.env.scope.names.lookup x=some .cell->∃c,X.env.cells.lookup x=some c) (hfk:X.env.scope.kind=.function) (hN:X.N=N) (hsc:X.env.scope.names=(zab st).names)
 (hfree':∀y∈scope.names,y.2=.free->(zab st).names.lookup y.1=some .cell) (hcell:∀y∈scope.names,y.2≠.cell) (hkind:scope.kind=.function) (hnames:∀y∈scope.names,y.2=.local->scope.names.lookup y.1=some .local)
 (hfr':zcn N (zab st).names scope.names NC fr=true) (hlen:fr.length=NC.length) (hap:apart is fr=true)
 (hg:∀cl C s0 H0 ex pn,VG (cxC X scope cl NC C s0 H0 ex pn) tg is g) (he:∀cl C s0 H0 ex pn,VN (cxC X scope cl NC C s0 H0 ex pn) elt fe)
 (hs:∀x,foldedSetIterable iter X.env x=pure x:=by intro _;rfl) (hsw:swapsWith (.ListComp elt [⟨tg,iter,[],0⟩] scope cp) (some (.Name x pos')) pos.line X.env=pure true:=by rfl)
 (hf:X.fn x=true\/X.env.scope.names.lookup x=some .local:=by first|exact .inl rfl|exact .inr rfl|assumption) :
 VS X (.Assign [.Name x pos'] (.ListComp elt [⟨tg,iter,[],0⟩] scope cp) pos) (gOwnR i (zmW fr fi g fe)):=by
 obtain⟨wi,pi,gi⟩:=hi;obtain⟨_,_,hon,_⟩:=hg [] 0 X.s₀ X.Hz [] [];have p:=znP N st (i:=i) (pos:=pos) (pos':=pos') (cp:=cp) fr hND hix hx hcalm pi hcells hfk hN hsc hfree' hcell hkind hnames hfr' hlen (λcl C s0 H0 ex pn=>show PG (cxC X scope cl NC C s0 H0 ex pn) tg (TGof X.K g) from(hg cl C s0 H0 ex pn).of) (λcl C s0 H0 ex pn=>show PTs (cxC X scope cl NC C s0 H0 ex pn) [] (TTof X.K tTrue) from zdB) (λcl C s0 H0 ex pn=>show PE (cxC X scope cl NC C s0 H0 ex pn) elt (TNof X.K fe) from(he cl C s0 H0 ex pn).of) hs hsw hf
 exact⟨_,p,zoc (zlM gi hon hap)⟩
def vrC (i:Nat){scope:Scope}{cl:List (Str×Addr)}{NC:List Str}{C:Addr}{s0:Shared}{H0:Hp}{ex:List Addr}{pn:List (Addr×Obj)}{x:Str}{pos:Pos}(hi:NC[i]?=some x)(hfk:X.env.scope.kind=.function)
 (h1:scope.names.lookup x=some .free) (h2:X.env.scope.names.lookup x=some .cell) (hd:(x == ("__debug__":Str))=false:=by decide) (hcd:(x == ("__classdict__":Str))=false:=by decide):VW (cxC X scope cl NC C s0 H0 ex pn) (.Name x pos) (eRd i):=
 ⟨_,pvC i hi hfk h1 h2 hd hcd,zpG⟩
end
def zod (Z:En)(i:Nat):En:=if isPar (Z[i]?)=false then Z.set i .un else Z
def dropE (is:List Nat)(Z:En):En:=is.foldl zod Z
theorem ST.dropE {K:W.Frag}{Hz H:Hp}{Jz J:Addr->Prop}{O:Pr}{Y:L2.St}:∀(is:List Nat) {Z:En},ST K Hz Jz O Z Y H J->ST K Hz Jz O (dropE is Z) Y H J
|[],_,s=>s
|i::is,Z,s=>by
   refine ST.dropE is (Z:=zod Z i) ?_;unfold zod;by_cases h:isPar (Z[i]?)=false
   .rw[if_pos h];exact s.drop λn d z=>by rw[z] at h;cases h
   .rw[if_neg h];exact s
def zoe (is:List Nat)(g:FS):FS:=λZ=>g (dropE is Z)
section
variable {X:Cx}{sts:List Stmt}{g:FS}
def zbi (is:List Nat)(h:VSs X sts g):VSs X sts (zoe is g):=by
 obtain⟨t,p,q⟩:=h;exact⟨t,p,λHz Jz O Z Y H J o E s e w=>q Hz Jz O _ Y H J o E (s.dropE is) e w⟩
end
def EvS {R A:Type}(k:Out->Option R)(B:A->Option R)(g:FS)(Z:En)(a:Option A):Prop:=∀r,a.bind B=some r->(g Z).bind k=some r
def Step {C:Type}(g:FS)(Z:En)(x:Option C)(Z':C->En):Prop:=∀d,x=some d->g Z=some (.nx (Z' d))
def okS (i:Nat)(Z:En):Bool:=decide (i<Z.length) && !isPar (Z[i]?)
def zdS {i:Nat}{Z:En}(h:okS i Z=true):i<Z.length/\isPar (Z[i]?)=false:=by
 unfold okS at h;simpa using h
section
variable {R A C S:Type}{k:Out->Option R}{B:A->Option R}{g g2 a b:FS}{Z:En}{x:Option C}{Z':C->En}{c:FT}{e:FE}{fl:FA}
def zac {B A:Type}{x:Option B}{f:B->Option A}{r:A}(h:x.bind f=some r):∃y,x=some y/\f y=some r:=by
 cases x with
|none=>cases h
|some y=>exact⟨y,rfl,h⟩
def zaj {K:C->Option A}(s:Step g Z x Z')(h:∀d,EvS k B g2 (Z' d) (K d)):EvS k B (gSeq g g2) Z (x.bind K):=λr e=>by
 obtain⟨y,e,e2⟩:=zac e;obtain⟨d,e0,e⟩:=zac e;unfold gSeq;rw[s d e0];exact h d r (by rw[e];exact e2)
def zp2 {K:C->Option A}(s:Step g Z x Z')(h:∀d r,(K d).bind B=some r->k (.nx (Z' d))=some r):EvS k B g Z (x.bind K):=λr e=>by
 obtain⟨y,e,e2⟩:=zac e;obtain⟨d,e0,e⟩:=zac e;rw[s d e0];exact h d r (by rw[e];exact e2)
def za0 {a:Option A}(h:∀r,a.bind B=some r->k (.nx Z)=some r):EvS k B gNx Z a:=λr e=>h r e
def za8 {a:Option A}(h:EvS k B g Z a):EvS k B (gSeq gNx g) Z a:=h
def zjO (i:Nat){a:Option A}(h:EvS k B g (frzE i Z) a):EvS k B (λZ=>g (frzE i Z)) Z a:=h
def zbj (is:List Nat){a:Option A}(h:EvS k B g (dropE is Z) a):EvS k B (zoe is g) Z a:=h
def zry {a' b':Option A}(h1:EvS k B a Z a')(h2:EvS k B b Z b'):EvS k B (gIf c a b) Z ((c Z).bind λt=>if t then a' else b'):=λr e=>by
 obtain⟨y,e,e2⟩:=zac e;obtain⟨t,e0,e⟩:=zac e;unfold gIf;rw[e0,zOB];cases t with
|true=>exact h1 r (by rw[if_pos rfl] at e;rw[e];exact e2)
|false=>exact h2 r (by rw[if_neg (by decide)] at e;rw[e];exact e2)
def kx (k:Out->Option R):Out->Option R
|.nx _=>none
|o=>k o
def zmY {r:R}(h:(a Z).bind (kx k)=some r):(gSeq a g Z).bind k=some r:=by
 unfold gSeq;cases z:a Z with
|none=>rw[z] at h;cases h
|some o=>rw[z] at h;cases o <;> first|cases h|exact h
def zaA {a' b':Option A}(h1:EvS (kx k) B a Z a')(h2:EvS k B (gSeq b g) Z b'):EvS k B (gSeq (gIf c a b) g) Z ((c Z).bind λt=>if t then a' else b'):=λr e=>by
 obtain⟨y,e,e2⟩:=zac e;obtain⟨t,e0,e⟩:=zac e;cases t with
|true=>
   have:=zmY (g:=g) (h1 r (by rw[if_pos rfl] at e;rw[e];exact e2))
   unfold gSeq gIf at *;rw[e0];exact this
|false=>
   have:=h2 r (by rw[if_neg (by decide)] at e;rw[e];exact e2)
   unfold gSeq gIf at *;rw[e0];exact this
def zdC {a':Option A}(h:a'=none):EvS k B gNo Z a':=λr e=>by rw[h] at e;cases e
def zao {K:D->Option A}(h:∀d r,(K d).bind B=some r->k (.ret (.told d) Z)=some r):EvS k B (gRet e) Z ((e Z).bind K):=λr z=>by
 obtain⟨y,z,z2⟩:=zac z;obtain⟨d,e0,z⟩:=zac z;unfold gRet;rw[e0];exact h d r (by rw[z];exact z2)
def zjP {K:List D->Option A}(h:∀ds r,(K ds).bind B=some r->k (.ret (.new 1 (.lst ds)) Z)=some r):EvS k B (gRetN fl) Z ((fl Z).bind K):=λr z=>by
 obtain⟨y,z,z2⟩:=zac z;obtain⟨d,e0,z⟩:=zac z;unfold gRetN;rw[e0];exact h d r (by rw[z];exact z2)
def zp3 {a':Option A}(h:∀r,a'.bind B=some r->k (.ct Z)=some r):EvS k B gCt Z a':=λr e=>h r e
def zat {i:Nat}(h:okS i Z=true):Step (gSet i e) Z (e Z) λd=>Z.set i (.val d):=λd z=>by
 unfold gSet;rw[z,zOB,if_pos (zdS h)]
def zof:Step (gEx e) Z (e Z) λ_=>Z:=λd z=>by unfold gEx;rw[z];rfl
def zhC {i:Nat}(h:okS i Z=true):Step (gOwn i fl) Z (fl Z) λds=>Z.set i (.own 1 (.lst ds)):=λd z=>by
 unfold gOwn;rw[z,zOB,if_pos (zdS h)]
def appL (xs:List D)(d:D):Option (List D):=if xs.length<lim then some (xs++[d]) else none
def extL (xs:List D)(d:D):Option (List D):=match d with|.lst es=>if(xs++es).length<=lim then some (xs++es) else none|_=>none
def zjQ {i:Nat}{xs:List D}(h:ownD (Z[i]?)=some (1,.lst xs)):Step (gApp i e) Z ((e Z).bind (appL xs)) λys=>setO Z i (.lst ys):=λd z=>by
 obtain⟨y,e0,z⟩:=zac z;unfold gApp;rw[e0,zOB,h];unfold appL at z;split at z
 .rename_i q;cases z;exact if_pos q
 .cases z
def zmZ {i:Nat}{xs:List D}(h:ownD (Z[i]?)=some (1,.lst xs)):Step (gExt i e) Z ((e Z).bind (extL xs)) λys=>setO Z i (.lst ys):=λd z=>by
 obtain⟨y,e0,z⟩:=zac z;unfold gExt;rw[e0,zOB,h];unfold extL at z;cases y <;> try cases z
 rename_i es
 have z:(if(xs++es).length<=lim then some (xs++es) else none)=some d:=z
 split at z
 .rename_i q;cases z;exact if_pos q
 .cases z
def k0:Out->Option En
|.nx Z=>some Z
|_=>none
def kL:Out->Option En
|.nx Z=>some Z
|.ct Z=>some Z
|_=>none
def zrz {emb:S->En}{a' b':Option S}(h1:EvS k0 (λs=>some (emb s)) a Z a')(h2:EvS k0 (λs=>some (emb s)) b Z b'):Step (gIf c a b) Z ((c Z).bind λt=>if t then a' else b') emb:=λs z=>by
 have:=zry (c:=c) h1 h2 (emb s) (by rw[z];rfl)
 obtain⟨o,e1,e2⟩:=zac this;rw[e1];cases o <;> cases e2
 rfl
end
def Tg {C:Type}(tg:FG)(d:D)(Z:En)(x:Option C)(Z':C->En):Prop:=∀y,x=some y->tg d Z=some (Z' y)
section
variable {d:D}{Z:En}
def tg_n {i:Nat}(h:okS i Z=true):Tg (gN i) d Z (some d) λd=>Z.set i (.val d):=λy e=>by
 cases e;unfold gN;rw[if_pos (zdS h)]
def un2:D->Option (D×D)
|.tup [a,b]=>some (a,b)
|_=>none
def zlQ {d:D}{y:D×D}(h:un2 d=some y):d=.tup [y.1,y.2]:=by
 unfold un2 at h;split at h
 .cases h;rfl
 .cases h
def zfX {i:Nat}{d:D}{Z:En}(h:okS i Z=true):gN i d Z=some (Z.set i (.val d)):=by unfold gN;rw[if_pos (zdS h)]
def tg_2 {i j:Nat}(h1:okS i Z=true)(h2:∀x,okS j (Z.set i (.val x))=true):Tg (gT 2 (gCons' (gN i) (gCons' (gN j) gNil'))) d Z (un2 d) λy=>(Z.set i (.val y.1)).set j (.val y.2):=λy e=>by
 rw[zlQ e];show((gN i y.1 Z).bind λZ1=>(gN j y.2 Z1).bind λZ2=>gNil' [] Z2)=_
 rw[zfX h1,zOB,zfX (h2 _)];rfl
def zp4 {C:Type}{e:FE}{tg:FG}{x:D->Option C}{Z':C->En}(h:∀d,Tg tg d Z (x d) Z'):Step (gAsg e tg) Z ((e Z).bind x) Z':=λy z=>by
 obtain⟨d,e0,z⟩:=zac z;unfold gAsg;rw[e0,zOB,h d y z];rfl
end
def zbd {S:Type}(f:S->D->Option S):S->List D->Option S
|s,[]=>some s
|s,d::ds=>(f s d).bind λs=>zbd f s ds
def zm0 {C S:Type}{Z:En}{fi:FA}{tg:FG}{b:FS}{x:D->Option C}{emb:S->En}{Z1:S->C->En}{step:S->C->Option S}{s0:S}(h0:emb s0=Z)(ht:∀s d,Tg tg d (emb s) (x d) (Z1 s))(hb:∀s y,EvS kL (λs=>some (emb s)) b (Z1 s y) (step s y)) :
 Step (gFor fi tg b) Z ((fi Z).bind (zbd (λs d=>(x d).bind (step s)) s0)) emb:=λs z=>by
 have key:∀(ds:List D) (s0:S),zbd (λs d=>(x d).bind (step s)) s0 ds=some s->forL tg b ds (emb s0)=some (.nx (emb s)):=by
  intro ds;induction ds with
 |nil=>intro s0 q;cases q;rfl
 |cons d ds ih=>
    intro s0 q;obtain⟨s1,e1,q1⟩:=zac q;obtain⟨y,e2,e5⟩:=zac e1;have hb1:=hb s0 y (emb s1) (by rw[e5];rfl)
    obtain⟨o,e3,e4⟩:=zac hb1;unfold forL;rw[ht s0 d y e2,zOB,e3,zOB];cases o <;> cases e4 <;> exact ih _ q1
 obtain⟨ds,e0,z1⟩:=zac z;unfold gFor;rw[e0,zOB,<-h0];exact key ds s0 z1
inductive Fl (S A:Type) where
|nx (s:S)|bk (s:S)|ret (a:A)
def zcJ {S A:Type}(f:S->D->Option (Fl S A)):S->List D->Option (Fl S A)
|s,[]=>some (.nx s)
|s,d::ds=>(f s d).bind λo=>match o with
  |.nx s=>zcJ f s ds
  |.bk s=>some (.nx s)
  |.ret a=>some (.ret a)
def kR {R:Type}(k:Out->Option R):Out->Option (Fl En R)
|.nx Z=>some (.nx Z)
|.ct Z=>some (.nx Z)
|.bk Z=>some (.bk Z)
|.ret v Z=>(k (.ret v Z)).map .ret
def fR {S A R:Type}(B:A->Option R)(emb:S->En):Fl S A->Option (Fl En R)
|.nx s=>some (.nx (emb s))
|.bk s=>some (.bk (emb s))
|.ret a=>(B a).map .ret
def zm1 {C S A R:Type}{k:Out->Option R}{B:A->Option R}{Z:En}{fi:FA}{tg:FG}{b g:FS}{x:D->Option C}{emb:S->En}{Z1:S->C->En}{step:S->C->Option (Fl S A)}{K:S->Option A}{s0:S}(h0:emb s0=Z)(ht:∀s d,Tg tg d (emb s) (x d) (Z1 s))(hb:∀s y,EvS (kR k) (fR B emb) b (Z1 s y) (step s y))(hk:∀s,EvS k B g (emb s) (K s)) :
 EvS k B (gSeq (gFor fi tg b) g) Z ((fi Z).bind λds=>(zcJ (λs d=>(x d).bind (step s)) s0 ds).bind λo=>match o with|.nx s=>K s|.bk s=>K s|.ret a=>some a):=λr z=>by
 have key:∀(ds:List D) (s0:S) (v:A) (o:Fl S A),zcJ (λs d=>(x d).bind (step s)) s0 ds=some o->(match o with|.nx s=>K s|.bk s=>K s|.ret a=>some a)=some v->B v=some r->((forL tg b ds (emb s0)).bind λo=>match o with|.nx Z'=>g Z'|.bk Z'=>some (.bk Z')|.ct Z'=>some (.ct Z')|.ret d Z'=>some (.ret d Z')).bind k=some r:=by
  intro ds;induction ds with
 |nil=>
    intro s0 v o q1 q2 q3;cases q1;exact hk s0 r (by rw[show K s0=some v from q2];exact q3)
 |cons d ds ih=>
    intro s0 v o q1 q2 q3;obtain⟨o1,e1,q4⟩:=zac q1;obtain⟨y,e2,e5⟩:=zac e1;unfold forL;rw[ht s0 d y e2,zOB];cases o1 with
   |nx s1=>
      have hb1:=hb s0 y (.nx (emb s1)) (by rw[e5];rfl)
      obtain⟨ob,e3,e4⟩:=zac hb1;rw[e3,zOB];have ih:=ih s1 v o q4 q2 q3
      cases ob with
     |nx Z2=>cases e4;exact ih
     |ct Z2=>cases e4;exact ih
     |bk Z2=>cases e4
     |ret v Z2=>
        have e4:(k (.ret v Z2)).map Fl.ret=some (Fl.nx (emb s1)):=e4
        cases h:k (.ret v Z2) <;> rw[h] at e4 <;> cases e4
   |bk s1=>
      cases q4;have q2:K s1=some v:=q2
      have hb1:=hb s0 y (.bk (emb s1)) (by rw[e5];rfl)
      obtain⟨ob,e3,e4⟩:=zac hb1;rw[e3,zOB];cases ob with
     |nx Z2=>cases e4
     |ct Z2=>cases e4
     |bk Z2=>cases e4;exact hk s1 r (by rw[q2];exact q3)
     |ret v Z2=>
        have e4:(k (.ret v Z2)).map Fl.ret=some (Fl.bk (emb s1)):=e4
        cases h:k (.ret v Z2) <;> rw[h] at e4 <;> cases e4
   |ret a=>
      cases q4;cases q2;have hb1:=hb s0 y (.ret r) (by rw[e5];show(B _).map Fl.ret=_;rw[q3];rfl)
      obtain⟨ob,e3,e4⟩:=zac hb1;rw[e3,zOB];cases ob with
     |nx Z2=>cases e4
     |ct Z2=>cases e4
     |bk Z2=>cases e4
     |ret v Z2=>
        have e4:(k (.ret v Z2)).map Fl.ret=some (Fl.ret r):=e4
        cases h:k (.ret v Z2) with
       |none=>rw[h] at e4;cases e4
       |some r'=>rw[h] at e4;cases e4;exact h
 obtain⟨v,z1,z2⟩:=zac z;obtain⟨ds,e0,z3⟩:=zac z1;obtain⟨o,z4,z5⟩:=zac z3;unfold gSeq gFor;rw[e0,zOB,<-h0];exact key ds s0 v o z4 z5 z2
def zp5 {S:Type}(c:S->Option Bool)(f:S->Option S):Nat->S->Option S
|0,_=>none
|n+1,s=>(c s).bind λt=>if t then(f s).bind λs=>zp5 c f n s else some s
def zeR {S A:Type}(c:S->Option Bool)(f:S->Option (Fl S A)):Nat->S->Option (Fl S A)
|0,_=>none
|n+1,s=>(c s).bind λt=>if t then(f s).bind λo=>match o with
  |.nx s=>zeR c f n s
  |.bk s=>some (.nx s)
  |.ret a=>some (.ret a)
   else some (.nx s)
def zlR {S A R:Type}{k:Out->Option R}{B:A->Option R}{Z:En}{c:FT}{b g:FS}{fuel:En->Nat}{emb:S->En}{test:S->Option Bool}{step:S->Option (Fl S A)}{n:S->Nat}{K:S->Option A}{s0:S}(h0:emb s0=Z)(hn:n s0=fuel Z)(hc:∀s,c (emb s)=test s)(hb:∀s,EvS (kR k) (fR B emb) b (emb s) (step s))(hk:∀s,EvS k B g (emb s) (K s)) :
 EvS k B (gSeq (gWhile c b fuel) g) Z ((zeR test step (n s0) s0).bind λo=>match o with|.nx s=>K s|.bk s=>K s|.ret a=>some a):=λr z=>by
 have key:∀(m:Nat) (s0:S) (v:A) (o:Fl S A),zeR test step m s0=some o->(match o with|.nx s=>K s|.bk s=>K s|.ret a=>some a)=some v->B v=some r->((zdR c b m (emb s0)).bind λo=>match o with|.nx Z'=>g Z'|.bk Z'=>some (.bk Z')|.ct Z'=>some (.ct Z')|.ret d Z'=>some (.ret d Z')).bind k=some r:=by
  intro m;induction m with
 |zero=>intro s0 v o q;cases q
 |succ m ih=>
    intro s0 v o q1 q2 q3;obtain⟨t,e0,q4⟩:=zac q1;unfold zdR;rw[hc,e0,zOB];cases t with
   |false=>
      cases q4;exact hk s0 r (by rw[show K s0=some v from q2];exact q3)
   |true=>
      obtain⟨o1,e1,q5⟩:=zac (show(step s0).bind _=some o from q4);rw[if_pos rfl];cases o1 with
     |nx s1=>
        have hb1:=hb s0 (.nx (emb s1)) (by rw[e1];rfl)
        obtain⟨ob,e3,e4⟩:=zac hb1;rw[e3,zOB];have ih:=ih s1 v o q5 q2 q3
        cases ob with
       |nx Z2=>cases e4;exact ih
       |ct Z2=>cases e4;exact ih
       |bk Z2=>cases e4
       |ret v Z2=>
          have e4:(k (.ret v Z2)).map Fl.ret=some (Fl.nx (emb s1)):=e4
          cases h:k (.ret v Z2) <;> rw[h] at e4 <;> cases e4
     |bk s1=>
        cases q5;have q2:K s1=some v:=q2
        have hb1:=hb s0 (.bk (emb s1)) (by rw[e1];rfl)
        obtain⟨ob,e3,e4⟩:=zac hb1;rw[e3,zOB];cases ob with
       |nx Z2=>cases e4
       |ct Z2=>cases e4
       |bk Z2=>cases e4;exact hk s1 r (by rw[q2];exact q3)
       |ret v Z2=>
          have e4:(k (.ret v Z2)).map Fl.ret=some (Fl.bk (emb s1)):=e4
          cases h:k (.ret v Z2) <;> rw[h] at e4 <;> cases e4
     |ret a=>
        cases q5;cases q2;have hb1:=hb s0 (.ret r) (by rw[e1];show(B _).map Fl.ret=_;rw[q3];rfl)
        obtain⟨ob,e3,e4⟩:=zac hb1;rw[e3,zOB];cases ob with
       |nx Z2=>cases e4
       |ct Z2=>cases e4
       |bk Z2=>cases e4
       |ret v Z2=>
          have e4:(k (.ret v Z2)).map Fl.ret=some (Fl.ret r):=e4
          cases h:k (.ret v Z2) with
         |none=>rw[h] at e4;cases e4
         |some r'=>rw[h] at e4;cases e4;exact h
 obtain⟨v,z1,z2⟩:=zac z;obtain⟨o,z4,z5⟩:=zac z1;unfold gSeq gWhile;rw[<-hn,<-h0];exact key _ s0 v o z4 z5 z2
def aC (x:Option D)(xs:Option (List D)):Option (List D):=x.bind λd=>xs.bind λds=>some (d::ds)
def aN:Option (List D):=some []
def zbW (f:D->Option (Option D))(ds:List D):Option (List D):=(zc6 f ds).bind λout=>if out.length<=lim then some out else none
def zrA (l:List D):Option (List D):=(a1Tup l).bind λds=>some (zdV ds)
def rngA (l:List D):Option (List D):=(a1Int l).bind λj=>if -1000000<=j/\j<=1000000 then some (zbn 0 j.toNat) else none
def zrB (l:List D):Option (List D):=(zp1 l).bind λds=>some ds.reverse
def mkLs (ds:List D):Option (List D):=if ds.length<=lim then some ds else none
def flK {S A:Type}(K:S->Option A):Fl S A->Option A
|.nx s=>K s
|.bk s=>K s
|.ret a=>some a
section
variable {C S A R:Type}{k:Out->Option R}{B:A->Option R}{Z:En}{fi:FA}{b g:FS}{emb:S->En}{s0:S}
def zff {i:Nat}{step:S->D->Option S}(h0:emb s0=Z)(hi:∀s,okS i (emb s)=true)(hb:∀s d,EvS kL (λs=>some (emb s)) b ((emb s).set i (.val d)) (step s d)) :
 Step (gFor fi (gN i) b) Z ((fi Z).bind (zbd step s0)) emb:=
 zm0 (x:=λd=>some d) (step:=step) h0 (λs d=>tg_n (hi s)) hb
def zgU {i j:Nat}{step:S->D×D->Option S}(h0:emb s0=Z)(hi:∀s,okS i (emb s)=true)(hj:∀s x,okS j ((emb s).set i (.val x))=true)(hb:∀s y,EvS kL (λs=>some (emb s)) b (((emb s).set i (.val y.1)).set j (.val y.2)) (step s y)) :
 Step (gFor fi (gT 2 (gCons' (gN i) (gCons' (gN j) gNil'))) b) Z ((fi Z).bind (zbd (λs d=>(un2 d).bind (step s)) s0)) emb:=
 zm0 (x:=un2) (step:=step) h0 (λs d=>tg_2 (hi s) (hj s)) hb
def zjR {i:Nat}{step:S->D->Option (Fl S A)}{K:S->Option A}(h0:emb s0=Z)(hi:∀s,okS i (emb s)=true)(hb:∀s d,EvS (kR k) (fR B emb) b ((emb s).set i (.val d)) (step s d))(hk:∀s,EvS k B g (emb s) (K s)) :
 EvS k B (gSeq (gFor fi (gN i) b) g) Z ((fi Z).bind λds=>(zcJ step s0 ds).bind (flK K)):=λr z=>
 zm1 (x:=λd=>some d) (step:=step) h0 (λs d=>tg_n (hi s)) hb hk r (by
  rw[<-z];congr 1)
def zjS {i j:Nat}{step:S->D×D->Option (Fl S A)}{K:S->Option A}(h0:emb s0=Z)(hi:∀s,okS i (emb s)=true)(hj:∀s x,okS j ((emb s).set i (.val x))=true)(hb:∀s y,EvS (kR k) (fR B emb) b (((emb s).set i (.val y.1)).set j (.val y.2)) (step s y))(hk:∀s,EvS k B g (emb s) (K s)) :
 EvS k B (gSeq (gFor fi (gT 2 (gCons' (gN i) (gCons' (gN j) gNil'))) b) g) Z ((fi Z).bind λds=>(zcJ (λs d=>(un2 d).bind (step s)) s0 ds).bind (flK K)):=λr z=>
 zm1 (x:=un2) (step:=step) h0 (λs d=>tg_2 (hi s) (hj s)) hb hk r (by
  rw[<-z];congr 1)
def zjT {c:FT}{n:Nat}{test:S->Option Bool}{step:S->Option (Fl S A)}{K:S->Option A}(h0:emb s0=Z)(hc:∀s,c (emb s)=test s)(hb:∀s,EvS (kR k) (fR B emb) b (emb s) (step s))(hk:∀s,EvS k B g (emb s) (K s)) :
 EvS k B (gSeq (gWhile c b λ_=>n) g) Z ((zeR test step n s0).bind (flK K)):=λr z=>
 zlR (n:=λ_=>n) h0 rfl hc hb hk r (by
  rw[<-z];congr 1)
end
def zrC (x k v:D):Option D:=(keyD k).bind λk=>match x with
|.dct ks ds=>if ks.length<lim then some (.dct (putKD ks ds k v).1 (putKD ks ds k v).2) else none
|_=>none
def zrD {i:Nat}{Z:En}{fk f:FE}{x:D}(h:ownD (Z[i]?)=some (1,x)):Step (gPutD i fk (xE f)) Z ((f Z).bind λv=>(fk Z).bind λk=>zrC x k v) λy=>setO Z i y:=λd z=>by
 obtain⟨v,e0,z1⟩:=zac z;obtain⟨kk,e1,z2⟩:=zac z1;obtain⟨key,e2,z3⟩:=zac z2;unfold gPutD xE;rw[e0,zOB,zOB];show(fk Z).bind _=_
 rw[e1,zOB,e2,zOB];show(match ownD (Z[i]?) with|some (1,.dct ks ds)=>_|_=>_)=_
 rw[h];cases x <;> try cases z3
 rename_i ks ds
 have z3:(if ks.length<lim then some (D.dct (putKD ks ds key v).1 (putKD ks ds key v).2) else none)=some d:=z3
 split at z3
 .rename_i q;cases z3;exact if_pos q
 .cases z3
def zp6 (xs:List D)(k v:D):Option (List D):=(dInt k).bind λk=>(ixN xs.length k).bind λj=>some (xs.set j v)
def zog {i:Nat}{Z:En}{fk f:FE}{xs:List D}(h:ownD (Z[i]?)=some (1,.lst xs)):Step (gPutL i fk (xE f)) Z ((f Z).bind λv=>(fk Z).bind λk=>zp6 xs k v) λys=>setO Z i (.lst ys):=λd z=>by
 obtain⟨v,e0,z1⟩:=zac z;obtain⟨kk,e1,z2⟩:=zac z1;obtain⟨key,e2,z3⟩:=zac z2;obtain⟨j,e3,z4⟩:=zac z3;cases z4;unfold gPutL xE;rw[e0,zOB,zOB];show(fk Z).bind _=_
 rw[e1,zOB,e2,zOB];show(match ownD (Z[i]?) with|some (1,.lst ds)=>_|_=>_)=_
 rw[h];show(ixN xs.length key).bind _=_
 rw[e3];rfl
def zoh {i n:Nat}{Z:En}{f:FR}{x:D}(hf:f Z=some (.new n x,Z))(h:okS i Z=true):Step (gOwnR i f) Z (some ()) λ_=>Z.set i (.own n x):=λd z=>by
 unfold gOwnR;rw[hf,zOB];exact if_pos (zdS h)
def kF:Out->Option D
|.ret (.told d) _=>some d
|.ret (.new _ d) _=>some d
|.nx _=>some .non
|_=>none
section
variable {P:Program}{w:World}{K:W.Frag}{mg:Str->Option Value}{base:Heap}
def zbR {x qual:Str}{st:Stmt}{f:Addr}{fd:FuncData}{N ps:List Str}{k:Nat}{c:List D->Option D}(F:Fun K x qual st f fd)(S:FnScope N ps (zab st))(hlen:∀ds d,c ds=some d->ds.length=ps.length)
 (hbody:∀(cdv:Value) (A:Around) (outer:List Env) (s:Shared) (H:Hp) (E:XK),Room k (A.deeper (envOfC qual (zab st) s.heap.objs.size f cdv))->∃g,VSs (cxOf CX0 P w K mg base N qual (zab st) f cdv A outer s H E).nox (zaV st) g/\∀ds,ds.length=ps.length->EvS kF some g (ds.map SV.val++List.replicate (N.length - ps.length) .un) (c ds)):FnOk P w K mg base CX0 (k+1) f fd ps (spF K c):=by
 refine F.ok S (λvs H Q E h=>?_) (λcdv A outer s H vs Q E hr h=>?_)
 .obtain⟨J,ds,d,ja,r,e,w⟩:=h;rw[r.length];exact hlen ds d e
 .obtain⟨J,ds,d,ja,r,e,w⟩:=h;have hl:=hlen ds d e
  obtain⟨g,⟨t,p,q⟩,ev⟩:=hbody cdv A outer s H E hr;refine⟨t,p,?_⟩;have e:=ev ds hl d (by rw[e];rfl)
  rw[<-hl] at e;have s0:=zd4 (N:=N) ja r
  cases z:g (ds.map SV.val++List.replicate (N.length - ds.length) .un) with
 |none=>rw[z] at e;cases e
 |some o=>
    rw[z] at e;refine q H J Pr.no _ _ H J o _ s0 z ?_;cases o with
   |nx Z'=>cases e;exact λY' H' J' s' k'=>w .non H' J' s'.out .non
   |ret r Z'=>
      cases r with
     |told d'=>cases e;exact λv Y' H' J' s' r'=>w v H' J' s'.out r'
     |new n d'=>
        cases e;rintro v Y' H' J' s' ⟨B,fp,_,ru,_,hb,_⟩;have u:=s'.out
        refine w v H' (λb=>J' b\/b∈B) ⟨u.same,λa h=>.inl (u.jj a h),λa h=>?_,λa h=>?_⟩ (ru.rp (λ_ h=>.inl h) (λb hb=>.inr hb))
        .rcases h with h|h
         .exact u.jn a h
         .exact .inr (hb a h).2
        .rcases h with h|h
         .exact u.ja a h
         .obtain⟨o,e,_⟩:=ru.some a h;rw[e];simp
   |bk _=>cases e
   |ct _=>cases e
end
def c0 (b:Option D):List D->Option D|[]=>b|_=>none
def c1 (b:D->Option D):List D->Option D|[x]=>b x|_=>none
def c2 (b:D->D->Option D):List D->Option D|[x,y]=>b x y|_=>none
def c3 (b:D->D->D->Option D):List D->Option D|[x,y,z]=>b x y z|_=>none
def c4 (b:D->D->D->D->Option D):List D->Option D|[x,y,z,u]=>b x y z u|_=>none
def c5 (b:D->D->D->D->D->Option D):List D->Option D|[x,y,z,u,v]=>b x y z u v|_=>none
def c6 (b:D->D->D->D->D->D->Option D):List D->Option D|[x,y,z,u,v,t]=>b x y z u v t|_=>none
def c1_len {b:D->Option D}:∀ds d,c1 b ds=some d->ds.length=1:=λds d h=>by unfold c1 at h;split at h;rfl;cases h
def zdo {b:D->D->Option D}:∀ds d,c2 b ds=some d->ds.length=2:=λds d h=>by unfold c2 at h;split at h;rfl;cases h
section
variable {R:Type}{k:Out->Option R}{B:D->Option R}{g:FS}{n:List SV}
def zbK {b:D->Option D}(h:∀x,EvS k B g (.val x::n) (b x)):∀ds:List D,ds.length=1->EvS k B g (ds.map SV.val++n) (c1 b ds)
|[x],_=>h x
def zgV {b:D->D->Option D}(h:∀x y,EvS k B g (.val x::.val y::n) (b x y)):∀ds:List D,ds.length=2->EvS k B g (ds.map SV.val++n) (c2 b ds)
|[x,y],_=>h x y
end
mutual
inductive Rh (h:Heap):Value->D->Prop
|non:Rh h .none .non
|bl (b:Bool):Rh h (.bool b) (.bl b)
|int (i:Int) (t:Tok):Rh h (.int i t) (.int i)
|str (x:Str) (t:Tok):Rh h (.str x t) (.str x)
|tup {l:Addr}{us:List Value}{ds:List D}(p:h.IsTuple l us.toArray) (r:RhL h us ds):Rh h (.ref l) (.tup ds)
|lst {l:Addr}{us:List Value}{ds:List D}(p:h.IsList l us.toArray) (r:RhL h us ds):Rh h (.ref l) (.lst ds)
inductive RhL (h:Heap):List Value->List D->Prop
|nil:RhL h [] []
|cons {u:Value}{d:D}{us:List Value}{ds:List D}(a:Rh h u d) (t:RhL h us ds):RhL h (u::us) (d::ds)
end
mutual
def ndD:D->Bool
|.dct _ _=>false
|.scr _=>false
|.exc _ _ _=>false
|.tup ds=>ndL ds
|.lst ds=>ndL ds
|_=>true
def ndL:List D->Bool
|[]=>true
|d::ds=>ndD d&&ndL ds
end
mutual
def depD:D->Nat
|.tup ds=>depL ds+1
|.lst ds=>depL ds+1
|_=>0
def depL:List D->Nat
|[]=>0
|d::ds=>max (depD d) (depL ds)
end
mutual
def eqOk:D->D->Bool
|.non,.non=>true
|.non,.int _=>true
|.non,.str _=>true
|.int _,.non=>true
|.str _,.non=>true
|.int _,.int _=>true
|.str _,.str _=>true
|.int _,.str _=>true
|.str _,.int _=>true
|.bl _,.bl _=>true
|.tup xs,.tup ys=>zfg xs ys
|.lst xs,.lst ys=>zfg xs ys
|.non,.tup _=>true
|.tup _,.non=>true
|.non,.lst _=>true
|.lst _,.non=>true
|_,_=>false
def zfg:List D->List D->Bool
|x::xs,y::ys=>eqOk x y&&zfg xs ys
|_,_=>true
end
section
variable {X:Cx}{pins:List (Addr×Obj)}{Y:L2.St}{H:Hp}{J:Addr->Prop}{s:Shared}
mutual
theorem Rp.rh (I:Inv X pins Y H s){v:V}{d:D}:Rp X.K H J v d->ndD d=true->∀{u:Value},RelV v u->Rh s.heap u d
|.non,_,_,q=>by cases q;exact .non
|.bl b,_,_,q=>by cases q;exact .bl b
|.int i,_,_,q=>by obtain⟨t,rfl⟩:=q;exact .int i t
|.str x,_,_,q=>by obtain⟨t,rfl⟩:=q;exact .str x t
|.tup h r,n,_,q=>by
   cases q;obtain⟨its,rv,pt,_⟩:=I.tuple h;exact .tup pt (RpL.rh I r n rv)
|.lst h j r,n,_,q=>by
   cases q;obtain⟨its,rv,pt,_⟩:=I.list (SqL.of h);exact .lst pt.isList (RpL.rh I r n rv)
|.dct h j ek ev r,n,_,q=>by cases n
|.scr p,n,_,q=>by cases n
|.exc _ _,n,_,q=>by cases n
theorem RpL.rh (I:Inv X pins Y H s){vs:List V}{ds:List D}:RpL X.K H J vs ds->ndL ds=true->∀{us:List Value},Vals vs us->RhL s.heap us ds
|.nil,_,us,q=>by cases q;exact .nil
|.cons h t,n,us,q=>by
   have n:(ndD _&&ndL _)=true:=n
   rw[waA] at n;cases q with
  |cons q1 q2=>exact .cons (Rp.rh I h n.1 q1) (RpL.rh I t n.2 q2)
end
theorem RpW.rh (I:Inv X pins Y H s){v:V}{d:D}(r:RpW X.K H J v d)(n:ndD d=true){u:Value}(q:RelV v u):Rh s.heap u d:=by
 rcases r with r|⟨A,r⟩
 .exact r.rh I n q
 .have w:RpW X.K H J v d:=.inr ⟨A,r⟩
  cases r with
 |lst h r=>
    obtain⟨p,vs,e,hp,rl⟩:=w.lst;cases e;cases q;obtain⟨its,rv,pt,_⟩:=I.list (SqL.of hp);exact .lst pt.isList (RpL.rh I rl n rv)
 |dct h ek ev r=>cases n
end
section
variable {h:Heap}
theorem RhL.length:∀{us:List Value}{ds:List D},RhL h us ds->us.length=ds.length
|_,_,.nil=>rfl
|_,_,.cons _ t=>by simp[RhL.length t]
theorem RhL.get:∀{us:List Value}{ds:List D},RhL h us ds->∀(i:Nat) (hi:i<us.length) (hj:i<ds.length),Rh h us[i] ds[i]
|_,_,.cons a _,0,_,_=>a
|_,_,.cons _ t,i+1,hi,hj=>RhL.get t i (by simpa using hi) (by simpa using hj)
def zem {l:Addr}{us ws:List Value}(p:h.IsTuple l us.toArray)(q:h.IsTuple l ws.toArray):us=ws:=by
 obtain⟨o,e,_,_,d⟩:=p;obtain⟨o',e',_,_,d'⟩:=q;rw[e] at e';cases e';rw[d] at d';injection d' with d1 _
 simpa using wbQ Array.toList d1
def zeS {l:Addr}{us ws:List Value}(p:h.IsList l us.toArray)(q:h.IsList l ws.toArray):us=ws:=by
 obtain⟨o,e,_,_,d⟩:=p;obtain⟨o',e',_,_,d'⟩:=q;rw[e] at e';cases e';rw[d] at d';injection d' with d1 _
 simpa using wbQ Array.toList d1
def zda {l:Addr}{us ws:Array Value}(p:h.IsTuple l us)(q:h.IsList l ws):False:=by
 obtain⟨o,e,c,_⟩:=p;obtain⟨o',e',c',_⟩:=q;rw[e] at e';cases e';rw[c] at c';simp at c'
mutual
theorem Rh.inj:∀{d e:D}{u:Value},Rh h u d->Rh h u e->d=e
|_,_,_,.non,q=>by cases q;rfl
|_,_,_,.bl b,q=>by cases q;rfl
|_,_,_,.int i t,q=>by cases q;rfl
|_,_,_,.str x t,q=>by cases q;rfl
|_,_,_,.tup p r,q=>by
   cases q with
  |tup p' r'=>cases zem p p';rw[RhL.inj r r']
  |lst p' r'=>exact(zda p p').elim
|_,_,_,.lst p r,q=>by
   cases q with
  |lst p' r'=>cases zeS p p';rw[RhL.inj r r']
  |tup p' r'=>exact(zda p' p).elim
theorem RhL.inj:∀{ds es:List D}{us:List Value},RhL h us ds->RhL h us es->ds=es
|_,_,_,.nil,q=>by cases q;rfl
|_,_,_,.cons a t,q=>by
   cases q with
  |cons a' t'=>rw[Rh.inj a a',RhL.inj t t']
end
end
theorem zen:∀{xs ys:List D},zfg xs ys=true->∀(i:Nat) (hi:i<xs.length) (hj:i<ys.length),eqOk xs[i] ys[i]=true
|x::xs,y::ys,h,i,hi,hj=>by
   have h:(eqOk x y&&zfg xs ys)=true:=h
   rw[waA] at h;cases i with
  |zero=>exact h.1
  |succ i=>exact zen h.2 i (by simpa using hi) (by simpa using hj)
theorem zfh:∀{xs:List D}(i:Nat) (hi:i<xs.length),depD xs[i]<=depL xs
|x::xs,i,hi=>by
   cases i with
  |zero=>exact Nat.le_max_left _ _
  |succ i=>exact wal (zfh i (by simpa using hi)) (Nat.le_max_right _ _)
def zb2 (xs ys:List D):((List.range (min xs.length ys.length)).all (λj=>decide (xs[j]?=ys[j]?))&&xs.length == ys.length)=decide (xs=ys):=by
 rw[wbt];simp only[waA,waB,wbq,decide_eq_true_eq,beq_iff_eq];constructor
 .rintro⟨a,b⟩;refine List.ext_getElem? λj=>?_
  by_cases hj:j<min xs.length ys.length
  .exact a j hj
  .rw[waO (by omega),waO (by omega)]
 .rintro rfl;exact⟨λ_ _=>rfl,rfl⟩
def zcj {p:Prop}[Decidable p](h:¬p):false=decide p:=(waq h).symm
def zjU {xs ys:List D}(j:Nat)(h1:j<xs.length)(h2:j<ys.length):decide (xs[j]=ys[j])=decide (xs[j]?=ys[j]?):=by
 rw[wat h1,wat h2];exact zay ⟨λz=>by rw[z],λz=>wav z⟩
def ze4 (i j:Int):decide (D.int i=D.int j)=(i == j):=by rw[wcv];exact zay ⟨λz=>by cases z;rfl,λz=>by rw[z]⟩
def ze5 (i j:Str):decide (D.str i=D.str j)=(i == j):=by rw[wcv];exact zay ⟨λz=>by cases z;rfl,λz=>by rw[z]⟩
def zhn (i j:Bool):decide (D.bl i=D.bl j)=(i == j):=by rw[wcv];exact zay ⟨λz=>by cases z;rfl,λz=>by rw[z]⟩
section
variable {A:Around}{s:Shared}
def zhD {v:Value}{e:D}(hu:A.units<cLine)(rv:Rh s.heap v e)(ho:eqOk .non e=true):SeqAt.EqAt A s .none v (decide (D.non=e)):=by
 cases rv with
|non=>exact SeqAt.EqAt.same _
|bl b=>cases ho
|int i t=>rw[<-zcj (λz=>by cases z)];exact SeqAt.EqAt.none_int _ _
|str x t=>rw[<-zcj (λz=>by cases z)];exact SeqAt.EqAt.none_str _ _
|tup p r=>rw[<-zcj (λz=>by cases z)];exact SeqAt.EqAt.none_tuple p hu
|lst p r=>rw[<-zcj (λz=>by cases z)];exact SeqAt.EqAt.none_list p hu
def zjV {v:Value}{e:D}{b:Bool}(rv:Rh s.heap v e)(ho:eqOk (.bl b) e=true):SeqAt.EqAt A s (.bool b) v (decide (D.bl b=e)):=by
 cases rv with
|bl c=>rw[zhn];exact SeqAt.EqAt.bool_bool _ _
|non=>cases ho
|int i t=>cases ho
|str x t=>cases ho
|tup p r=>cases ho
|lst p r=>cases ho
def ze6 {v:Value}{e:D}{b:Int}{u:Tok}(rv:Rh s.heap v e)(ho:eqOk (.int b) e=true):SeqAt.EqAt A s (.int b u) v (decide (D.int b=e)):=by
 cases rv with
|int i t=>rw[ze4];exact SeqAt.EqAt.int_int _ _ _ _
|non=>rw[<-zcj (λz=>by cases z)];exact SeqAt.EqAt.int_none _ _
|bl c=>cases ho
|str x t=>rw[<-zcj (λz=>by cases z)];exact SeqAt.EqAt.int_str _ _ _ _
|tup p r=>cases ho
|lst p r=>cases ho
def zhE {v:Value}{e:D}{b:Str}{u:Tok}(rv:Rh s.heap v e)(ho:eqOk (.str b) e=true):SeqAt.EqAt A s (.str b u) v (decide (D.str b=e)):=by
 cases rv with
|str i t=>rw[ze5];exact SeqAt.EqAt.str_str _ _ _ _
|non=>rw[<-zcj (λz=>by cases z)];exact SeqAt.EqAt.str_none _ _
|bl c=>cases ho
|int x t=>rw[<-zcj (λz=>by cases z)];exact SeqAt.EqAt.str_int _ _ _ _
|tup p r=>cases ho
|lst p r=>cases ho
def zp7 {l l':Addr}{us us':List Value}{ds ds':List D}(hu:A.units<cLine)(p:s.heap.IsTuple l us.toArray)(p':s.heap.IsTuple l' us'.toArray)(r:RhL s.heap us ds)(r':RhL s.heap us' ds')
 (he:∀j (h1:j<us.toArray.size) (h2:j<us'.toArray.size),SeqAt.EqAt A.in1 s us.toArray[j] us'.toArray[j] (decide (ds[j]?=ds'[j]?))):SeqAt.RcAt A s (.ref l) (.ref l') (decide (D.tup ds=D.tup ds')):=by
 have q:=SeqAt.RcAt.tuples p p' hu he
 rw[wac,wac,r.length,r'.length,zb2] at q;rw[zay (show D.tup ds=D.tup ds'↔ds=ds' from⟨λz=>by cases z;rfl,λz=>by rw[z]⟩)];exact q
def zp8 {l l':Addr}{us us':List Value}{ds ds':List D}(hu:A.units<cLine)(p:s.heap.IsList l us.toArray)(p':s.heap.IsList l' us'.toArray)(r:RhL s.heap us ds)(r':RhL s.heap us' ds')
 (he:∀j (h1:j<us.toArray.size) (h2:j<us'.toArray.size),SeqAt.EqAt A.in1 s us.toArray[j] us'.toArray[j] (decide (ds[j]?=ds'[j]?))):SeqAt.RcAt A s (.ref l) (.ref l') (decide (D.lst ds=D.lst ds')):=by
 rw[zay (show D.lst ds=D.lst ds'↔ds=ds' from⟨λz=>by cases z;rfl,λz=>by rw[z]⟩)];by_cases hz:ds.length=ds'.length
 .have hsz:us.toArray.size=us'.toArray.size:=by simp only[wac];rw[r.length,r'.length,hz]
  have q:=SeqAt.RcAt.lists p p' hsz hu he
  have e1:=zb2 ds ds'
  rw[hz,Nat.min_self,beq_self_eq_true,Bool.and_true,<-hz] at e1;rw[wac,r.length,e1] at q;exact q
 .have q:=SeqAt.RcAt.lists_lengths p p' (by simp only[wac,r.length,r'.length];simpa using hz) hu
  rw[waq (λz=>hz (by rw[z]))];exact q
end
def zm2:∀(n:Nat) {A:Around}{s:Shared}{u v:Value}{d e:D},depD d<=n->A.units+n<cLine->Rh s.heap u d->Rh s.heap v e->eqOk d e=true->SeqAt.EqAt A s u v (decide (d=e)):=by
 intro n;induction n with
|zero=>
   intro A s u v d e hn hu ru rv ho;cases ru with
  |non=>exact zhD (by omega) rv ho
  |bl b=>exact zjV rv ho
  |int i t=>exact ze6 rv ho
  |str x t=>exact zhE rv ho
  |tup p r=>exact absurd hn (Nat.not_succ_le_zero _)
  |lst p r=>exact absurd hn (Nat.not_succ_le_zero _)
|succ n ih=>
   intro A s u v d e hn hu ru rv ho;have hu0:A.units<cLine:=by omega
   have he:∀{us us':List Value}{ds ds':List D}(r:RhL s.heap us ds) (r':RhL s.heap us' ds') (hd:depL ds<=n) (ho:zfg ds ds'=true),∀j (h1:j<us.toArray.size) (h2:j<us'.toArray.size),SeqAt.EqAt A.in1 s us.toArray[j] us'.toArray[j] (decide (ds[j]?=ds'[j]?)):=λ{us us' ds ds'} r r' hd ho j h1 h2=>by
    simp only[wac] at h1 h2;have g1:j<ds.length:=by rw[<-r.length];exact h1
    have g2:j<ds'.length:=by rw[<-r'.length];exact h2
    have q:=ih (A:=A.in1) (wal (zfh j g1) hd) (show A.units+1+n<cLine by omega) (r.get j h1 g1) (r'.get j h2 g2) (zen ho j g1 g2)
    rw[zjU j g1 g2] at q;exact q
   cases ru with
  |non=>exact zhD hu0 rv ho
  |bl b=>exact zjV rv ho
  |int i t=>exact ze6 rv ho
  |str x t=>exact zhE rv ho
  |tup p r=>
     rename_i l us ds
     have hd:depL ds<=n:=wbh hn
     cases rv with
    |tup p' r'=>
       rename_i l' us' ds'
       by_cases hl:l=l'
       .subst hl;cases zem p p';rw[r.inj r',waz rfl];exact SeqAt.EqAt.same _
       .exact SeqAt.EqAt.of_refs hl (zp7 hu0 p p' r r' (he r r' hd ho))
    |non=>rw[<-zcj (λz=>by cases z)];exact SeqAt.EqAt.tuple_none p hu0
    |bl c=>cases ho
    |int i t=>cases ho
    |str x t=>cases ho
    |lst p' r'=>cases ho
  |lst p r=>
     rename_i l us ds
     have hd:depL ds<=n:=wbh hn
     cases rv with
    |lst p' r'=>
       rename_i l' us' ds'
       by_cases hl:l=l'
       .subst hl;cases zeS p p';rw[r.inj r',waz rfl];exact SeqAt.EqAt.same _
       .exact SeqAt.EqAt.of_refs hl (zp8 hu0 p p' r r' (he r r' hd ho))
    |non=>rw[<-zcj (λz=>by cases z)];exact SeqAt.EqAt.list_none p hu0
    |bl c=>cases ho
    |int i t=>cases ho
    |str x t=>cases ho
    |tup p' r'=>cases ho
end VD
namespace VD
open PySem PySem.Spec PyProof PyProof.Rows L2
section
variable {A:Around}{s:Shared}{u v:Value}{d e:D}
def zlS {n:Nat}(hu:A.units+1+n<cLine){us us':List Value}{ds ds':List D}(r:RhL s.heap us ds)(r':RhL s.heap us' ds')(hd:depL ds<=n)(ho:zfg ds ds'=true):∀j (h1:j<us.toArray.size) (h2:j<us'.toArray.size),SeqAt.EqAt A.in1 s us.toArray[j] us'.toArray[j] (decide (ds[j]?=ds'[j]?)):=λj h1 h2=>by
 simp only[wac] at h1 h2;have g1:j<ds.length:=by rw[<-r.length];exact h1
 have g2:j<ds'.length:=by rw[<-r'.length];exact h2
 have q:=zm2 n (A:=A.in1) (wal (zfh j g1) hd) hu (r.get j h1 g1) (r'.get j h2 g2) (zen ho j g1 g2)
 rw[zjU j g1 g2] at q;exact q
def zp9 {n:Nat}(hu:A.units+1+n<cLine)(hn:depD d<=n+1)(ru:Rh s.heap u d)(rv:Rh s.heap v e)(ho:eqOk d e=true):SeqAt.RcAt A s u v (decide (d=e)):=by
 have hu0:A.units<cLine:=by omega
 cases ru with
|non=>
   cases rv with
  |non=>exact SeqAt.RcAt.none_none
  |bl b=>cases ho
  |int i t=>rw[<-zcj (λz=>by cases z)];exact SeqAt.RcAt.none_int _ _
  |str x t=>rw[<-zcj (λz=>by cases z)];exact SeqAt.RcAt.none_str _ _
  |tup p r=>rw[<-zcj (λz=>by cases z)];exact SeqAt.RcAt.none_tuple p hu0
  |lst p r=>rw[<-zcj (λz=>by cases z)];exact SeqAt.RcAt.none_list p hu0
|bl b=>
   cases rv with
  |bl c=>rw[zhn];exact SeqAt.RcAt.bool_bool _ _
  |non=>cases ho
  |int i t=>cases ho
  |str x t=>cases ho
  |tup p r=>cases ho
  |lst p r=>cases ho
|int i t=>
   cases rv with
  |int i t=>rw[ze4];exact SeqAt.RcAt.int_int _ _ _ _
  |non=>rw[<-zcj (λz=>by cases z)];exact SeqAt.RcAt.int_none _ _
  |str x t=>rw[<-zcj (λz=>by cases z)];exact SeqAt.RcAt.int_str _ _ _ _
  |bl b=>cases ho
  |tup p r=>cases ho
  |lst p r=>cases ho
|str x t=>
   cases rv with
  |str i t=>rw[ze5];exact SeqAt.RcAt.str_str _ _ _ _
  |non=>rw[<-zcj (λz=>by cases z)];exact SeqAt.RcAt.str_none _ _
  |int x t=>rw[<-zcj (λz=>by cases z)];exact SeqAt.RcAt.str_int _ _ _ _
  |bl b=>cases ho
  |tup p r=>cases ho
  |lst p r=>cases ho
|tup p r=>
   cases rv with
  |tup p' r'=>exact zp7 hu0 p p' r r' (zlS hu r r' (wbh hn) ho)
  |non=>rw[<-zcj (λz=>by cases z)];exact SeqAt.RcAt.tuple_none p hu0
  |int i t=>cases ho
  |bl b=>cases ho
  |str x t=>cases ho
  |lst p r=>cases ho
|lst p r=>
   cases rv with
  |lst p' r'=>exact zp8 hu0 p p' r r' (zlS hu r r' (wbh hn) ho)
  |non=>rw[<-zcj (λz=>by cases z)];exact SeqAt.RcAt.list_none p hu0
  |int i t=>cases ho
  |bl b=>cases ho
  |str x t=>cases ho
  |tup p r=>cases ho
def zeI {p:Prop}[Decidable p](h:¬p):true = !decide p:=by rw[waq h];rfl
def zlT {n:Nat}(hu:A.units+1+n<cLine)(hn:depD d<=n+1)(ru:Rh s.heap u d)(rv:Rh s.heap v e)(ho:eqOk d e=true):SeqAt.RcNeAt A s u v (!decide (d=e)):=by
 have hu0:A.units<cLine:=by omega
 cases ru with
|non=>
   cases rv with
  |non=>rw[waz rfl];exact SeqAt.RcNeAt.none_none
  |bl b=>cases ho
  |int i t=>rw[<-zeI (λz=>by cases z)];exact SeqAt.RcNeAt.none_int _ _
  |str x t=>rw[<-zeI (λz=>by cases z)];exact SeqAt.RcNeAt.none_str _ _
  |tup p r=>rw[<-zeI (λz=>by cases z)];exact SeqAt.RcNeAt.none_tuple p hu0
  |lst p r=>rw[<-zeI (λz=>by cases z)];exact SeqAt.RcNeAt.none_list p hu0
|bl b=>
   cases rv with
  |bl c=>rw[zhn];exact SeqAt.RcNeAt.bool_bool _ _
  |non=>cases ho
  |int i t=>cases ho
  |str x t=>cases ho
  |tup p r=>cases ho
  |lst p r=>cases ho
|int i t=>
   cases rv with
  |int i t=>rw[ze4];exact SeqAt.RcNeAt.int_int _ _ _ _
  |non=>rw[<-zeI (λz=>by cases z)];exact SeqAt.RcNeAt.int_none _ _
  |str x t=>rw[<-zeI (λz=>by cases z)];exact SeqAt.RcNeAt.int_str _ _ _ _
  |bl b=>cases ho
  |tup p r=>cases ho
  |lst p r=>cases ho
|str x t=>
   cases rv with
  |str i t=>rw[ze5];exact SeqAt.RcNeAt.str_str _ _ _ _
  |non=>rw[<-zeI (λz=>by cases z)];exact SeqAt.RcNeAt.str_none _ _
  |int x t=>rw[<-zeI (λz=>by cases z)];exact SeqAt.RcNeAt.str_int _ _ _ _
  |bl b=>cases ho
  |tup p r=>cases ho
  |lst p r=>cases ho
|tup p r=>
   cases rv with
  |tup p' r'=>
     rename_i us ds l' us' ds'
     have q:=SeqAt.RcNeAt.tuples p p' hu0 (zlS hu r r' (wbh hn) ho)
     rw[wac,wac,r.length,r'.length,zb2] at q;rw[zay (show D.tup ds=D.tup ds'↔ds=ds' from⟨λz=>by cases z;rfl,λz=>by rw[z]⟩)];exact q
  |non=>rw[<-zeI (λz=>by cases z)];exact SeqAt.RcNeAt.tuple_none p hu0
  |int i t=>cases ho
  |bl b=>cases ho
  |str x t=>cases ho
  |lst p r=>cases ho
|lst p r=>
   cases rv with
  |lst p' r'=>
     rename_i us ds l' us' ds'
     rw[zay (show D.lst ds=D.lst ds'↔ds=ds' from⟨λz=>by cases z;rfl,λz=>by rw[z]⟩)];by_cases hz:ds.length=ds'.length
     .have hsz:us.toArray.size=us'.toArray.size:=by simp only[wac];rw[r.length,r'.length,hz]
      have q:=SeqAt.RcNeAt.lists p p' hsz hu0 (zlS hu r r' (wbh hn) ho)
      have e1:=zb2 ds ds'
      rw[hz,Nat.min_self,beq_self_eq_true,Bool.and_true,<-hz] at e1;rw[wac,r.length,e1] at q;exact q
     .have q:=SeqAt.RcNeAt.lists_lengths p p' (by simp only[wac,r.length,r'.length];simpa using hz) hu0
      rw[waq (λz=>hz (by rw[z]))];exact q
  |non=>rw[<-zeI (λz=>by cases z)];exact SeqAt.RcNeAt.list_none p hu0
  |int i t=>cases ho
  |bl b=>cases ho
  |str x t=>cases ho
  |tup p r=>cases ho
end
def eqC (d e:D):Bool:=eqOk d e&&ndD d&&ndD e&&decide (depD d<=40)
def dEqG (neg:Bool)(d e:D):Option D:=if eqC d e=true then some (.bl (if neg then !decide (d=e) else decide (d=e))) else none
def rEqG (K:W.Frag)(neg:Bool):R2:=λx y H Q=>∃J d e,RpW K H J x d/\RpW K H J y e/\eqC d e=true/\Q (.bl (if neg then !decide (d=e) else decide (d=e))) H
def zhF {d e:D}(h:eqC d e=true):eqOk d e=true/\ndD d=true/\ndD e=true/\depD d<=40:=by
 unfold eqC at h;simp only[waA,decide_eq_true_eq] at h;exact⟨h.1.1.1,h.1.1.2,h.1.2,h.2⟩
section
variable {X:Cx}{K:W.Frag}{k:Nat}
def zdX (hr:Room k X.A):OpR X (compareOp .Eq) (rEqG X.K false):=by
 intro pins s Y H x y v u Q I rx ry ⟨J,d,e,r1,r2,hc,q⟩;obtain⟨ho,n1,n2,hd⟩:=zhF hc;have:=hr.units
 exact zp9 (n:=40) (by omega) (by omega) (r1.rh I n1 rx) (r2.rh I n2 ry) ho _ _ _ _ ⟨.bl _,H,I,rfl,q⟩
def zoi (hr:Room k X.A):OpR X (compareOp .NotEq) (rEqG X.K true):=by
 intro pins s Y H x y v u Q I rx ry ⟨J,d,e,r1,r2,hc,q⟩;obtain⟨ho,n1,n2,hd⟩:=zhF hc;have:=hr.units
 exact zlT (n:=40) (by omega) (by omega) (r1.rh I n1 rx) (r2.rh I n2 ry) ho _ _ _ _ ⟨.bl _,H,I,rfl,q⟩
def zbS (neg:Bool):Im2 K (rEqG K neg) (dEqG neg):=by
 intro H J x y d e d' Q ja hx hy hF w;unfold dEqG at hF;by_cases hc:eqC d e=true
 .rw[if_pos hc] at hF;cases hF;exact⟨J,d,e,hx,hy,hc,w _ H J (Up.refl ja) (.bl _)⟩
 .rw[if_neg hc] at hF;cases hF
end
def inC (x:D)(ds:List D):Bool:=ndD x&&ds.all λy=>eqC y x
def hasK (ks:List Key)(j:Key):Bool:=ks.any λk=>decide (k=j)
def dInG (neg:Bool):D->D->Option D
|x,.lst ds=>if inC x ds=true then some (.bl (if neg then !decide (x∈ds) else decide (x∈ds))) else none
|x,.tup ds=>if inC x ds=true then some (.bl (if neg then !decide (x∈ds) else decide (x∈ds))) else none
|x,.dct ks _=>(keyD x).bind λj=>some (.bl (if neg then !hasK ks j else hasK ks j))
|_,_=>none
def zoj (K:W.Frag)(neg:Bool):R2:=λx y H Q=>∃J d ds p vs,RpW K H J x d/\y=.ref p/\(SqL K H p vs\/SqT K H p vs)/\RpL K H J vs ds/\inC d ds=true/\Q (.bl (if neg then !decide (d∈ds) else decide (d∈ds))) H
open Classical in
noncomputable def zfY (h:Heap)(u:Value):D:=if q:∃d,Rh h u d then q.choose else .non
def zfZ {h:Heap}{u:Value}{d:D}(r:Rh h u d):zfY h u=d:=by
 unfold zfY;have q:∃d,Rh h u d:=⟨d,r⟩
 rw[dif_pos q];exact q.choose_spec.inj r
theorem RhL.mem {h:Heap}:∀{us:List Value}{ds:List D},RhL h us ds->∀u∈us,∃d∈ds,Rh h u d
|_,_,.cons a t,u,hu=>by
   rcases wah.mp hu with rfl|hu
   .exact⟨_,wak,a⟩
   .obtain⟨d,hd,r⟩:=RhL.mem t u hu;exact⟨d,wag _ hd,r⟩
theorem RhL.map {h:Heap}:∀{us:List Value}{ds:List D},RhL h us ds->us.map (zfY h)=ds
|_,_,.nil=>rfl
|_,_,.cons a t=>by rw[waK,zfZ a,RhL.map t]
theorem zjW:∀{ds:List D},(∀d∈ds,ndD d=true)->ndL ds=true
|[],_=>rfl
|d::ds,h=>by
   show(ndD d&&ndL ds)=true
   rw[h d wak,zjW λe he=>h e (wag _ he)];rfl
def zd5 {h:Heap}{us:List Value}{ds:List D}(r:RhL h us ds)(x:D):us.toArray.any (λy=>decide (zfY h y=x))=decide (x∈ds):=by
 rw[List.any_toArray,<-r.map,wbt];simp only[wbP,decide_eq_true_eq,waD]
section
variable {X:Cx}{K:W.Frag}{k:Nat}
def zd6 {A:Around}{s:Shared}{us:List Value}{ds:List D}{x:Value}{d:D}(hu:A.units+1+40<cLine)(r:RhL s.heap us ds)(rx:Rh s.heap x d)(hc:∀y∈ds,eqC y d=true):∀y,y∈us.toArray->SeqAt.EqAt A.in1 s y x (decide (zfY s.heap y=d)):=λy hy=>by
 obtain⟨e,he,re⟩:=r.mem y (by simpa using hy);obtain⟨ho,_,_,hd⟩:=zhF (hc e he);rw[zfZ re];exact zm2 40 (A:=A.in1) hd hu re rx ho
def zm3 {x:D}{ds:List D}(h:inC x ds=true):ndD x=true/\(∀y∈ds,eqC y x=true)/\ndL ds=true:=by
 unfold inC at h;rw[waA,waB] at h;exact⟨h.1,h.2,zjW λy hy=>(zhF (h.2 y hy)).2.1⟩
def zqa (hr:Room k X.A):OpR X (compareOp .In) (zoj X.K false):=by
 intro pins s Y H x y v u Q I rx ry ⟨J,d,ds,p,vs,r1,e,hq,rl,hc,q⟩;subst e;cases ry;have hu:=hr.units
 obtain⟨n1,hc,n2⟩:=zm3 hc;rcases hq with hq|hq
 .obtain⟨its,rv,pl,hz⟩:=I.list hq;refine SeqAt.in_listAt _ pl.isList (zd6 (by omega) (rl.rh I n2 rv) (r1.rh I n1 rx) hc) ⟨.bl _,H,I,rfl,?_⟩;rw[zd5 (rl.rh I n2 rv)];exact q
 .obtain⟨its,rv,pl,hz⟩:=I.tuple hq;refine SeqAt.in_tupleAt _ pl (zd6 (by omega) (rl.rh I n2 rv) (r1.rh I n1 rx) hc) ⟨.bl _,H,I,rfl,?_⟩;rw[zd5 (rl.rh I n2 rv)];exact q
def zjX (hr:Room k X.A):OpR X (compareOp .NotIn) (zoj X.K true):=by
 intro pins s Y H x y v u Q I rx ry ⟨J,d,ds,p,vs,r1,e,hq,rl,hc,q⟩;subst e;cases ry;have hu:=hr.units
 obtain⟨n1,hc,n2⟩:=zm3 hc;rcases hq with hq|hq
 .obtain⟨its,rv,pl,hz⟩:=I.list hq;refine SeqAt.notIn_listAt _ pl.isList (zd6 (by omega) (rl.rh I n2 rv) (r1.rh I n1 rx) hc) ⟨.bl _,H,I,rfl,?_⟩;rw[zd5 (rl.rh I n2 rv)];exact q
 .obtain⟨its,rv,pl,hz⟩:=I.tuple hq;refine SeqAt.notIn_tupleAt _ pl (zd6 (by omega) (rl.rh I n2 rv) (r1.rh I n1 rx) hc) ⟨.bl _,H,I,rfl,?_⟩;rw[zd5 (rl.rh I n2 rv)];exact q
def rInD (neg:Bool):R2:=λx y H Q=>∃a ov,y=.ref a/\DGet H a x ov/\Q (.bl (if neg then !ov.isSome else ov.isSome)) H
def rInG (K:W.Frag)(neg:Bool):R2:=λx y H Q=>zoj K neg x y H Q\/rInD neg x y H Q
def zrE (hr:Room k X.A):OpR X (compareOp .In) (rInD false):=by
 intro pins s Y H x y v u Q I rx ry ⟨a,ov,e,g,q⟩;subst e;obtain rfl:u=Value.ref a:=ry;exact d_in (znC hr) I g rx λs3 I3=>⟨.bl ov.isSome,H,I3,rfl,q⟩
def zlU (hr:Room k X.A):OpR X (compareOp .NotIn) (rInD true):=by
 intro pins s Y H x y v u Q I rx ry ⟨a,ov,e,g,q⟩;subst e;obtain rfl:u=Value.ref a:=ry;exact znJ (znC hr) I g rx λs3 I3=>⟨.bl (!ov.isSome),H,I3,rfl,q⟩
def zio (hr:Room k X.A):OpR X (compareOp .In) (rInG X.K false):=(zqa hr).or (zrE hr)
def zlV (hr:Room k X.A):OpR X (compareOp .NotIn) (rInG X.K true):=(zjX hr).or (zlU hr)
def zjY {kvs:List (Key×V)}{j:Key}:(valV kvs j).isSome=hasK (kvs.map (·.1)) j:=by
 unfold valV hasK;rw[Option.isSome_map,List.any_map,wbt,List.find?_isSome,wbP];rfl
def zeo (neg:Bool):Im2 K (rInG K neg) (dInG neg):=by
 intro H J x y d e d' Q ja hx hy hF w;cases e with
|lst ds=>
   have hF:(if inC d ds=true then some (D.bl (if neg then !decide (d∈ds) else decide (d∈ds))) else none)=some d':=hF
   by_cases hc:inC d ds=true
   .rw[if_pos hc] at hF;cases hF;obtain⟨p,vs,rfl,h1,r1⟩:=hy.lst;exact .inl ⟨J,d,ds,p,vs,hx,rfl,.inl (SqL.of h1),r1,hc,w _ H J (Up.refl ja) (.bl _)⟩
   .rw[if_neg hc] at hF;cases hF
|tup ds=>
   have hF:(if inC d ds=true then some (D.bl (if neg then !decide (d∈ds) else decide (d∈ds))) else none)=some d':=hF
   by_cases hc:inC d ds=true
   .rw[if_pos hc] at hF;cases hF;obtain⟨p,vs,rfl,h1,r1⟩:=hy.tup;exact .inl ⟨J,d,ds,p,vs,hx,rfl,.inr h1,r1,hc,w _ H J (Up.refl ja) (.bl _)⟩
   .rw[if_neg hc] at hF;cases hF
|dct ks ds=>
   obtain⟨j,ej,hF⟩:=zac (show((keyD d).bind λj=>some (D.bl (if neg then !hasK ks j else hasK ks j)))=some d' from hF);cases hF;obtain⟨p,kvs,vs,rfl,h1,h2,h3,rl⟩:=hy.dct;refine .inr ⟨p,valV kvs j,rfl,?_,?_⟩
   .rw[zjN hx ej];exact DGet.k h1
   .rw[zjY,h2];exact w _ H J (Up.refl ja) (.bl _)
|_=>cases hF
end
end VD
namespace Mn
open PySem PySem.Spec PyProof PyProof.Rows
open Sem (wp)
section
variable {prog:Program}{w:World}{A:Around}{R:Result->Shared->Prop}{I:Addr}{fp wr:List Addr}{n:Nat}{P:Nat->Value->Prop}{St:Nat->Heap->Prop}
end
section
variable {prog:Program}{w:World}{A:Around}{E:Value->Shared->Prop}{s:Shared}
end
end Mn
namespace VD
open PySem PySem.Spec PyProof PyProof.Rows L2
mutual
def ltD:D->D->Option Bool
|.int a,.int b=>some (decide (a<b))
|.tup xs,.tup ys=>ltL xs ys
|_,_=>none
def ltL:List D->List D->Option Bool
|[],[]=>some false
|x::xs,y::ys=>if eqOk x y=true then(if x=y then ltL xs ys else if xs.length=ys.length then ltD x y else none) else none
|_,_=>none
end
section
variable {X:Cx}{K:W.Frag}{k:Nat}
end
end VD
namespace VD
open PySem PySem.Spec PyProof PyProof.Rows L2
section
variable {X:Cx}{K:W.Frag}{k:Nat}
end
def EvX {S:Type}(f:FX)(Z:En)(x:Option (D×S))(emb:S->En):Prop:=∀q,x=some q->f Z=some (q.1,emb q.2)
def EvAX {S:Type}(f:FAX)(Z:En)(x:Option (List D×S))(emb:S->En):Prop:=∀q,x=some q->f Z=some (q.1,emb q.2)
def EvTX {S:Type}(f:FTX)(Z:En)(x:Option (Bool×S))(emb:S->En):Prop:=∀q,x=some q->f Z=some (q.1,emb q.2)
def EvR {S:Type}(f:FR)(Z:En)(x:Option (RV×S))(emb:S->En):Prop:=∀q,x=some q->f Z=some (q.1,emb q.2)
def EvAG {S:Type}(f:FAG)(Z:En)(x:Option (List (Option D)×S))(emb:S->En):Prop:=∀q,x=some q->f Z=some (q.1,emb q.2)
section
variable {S:Type}{emb:S->En}{Z:En}{s:S}{f g:FX}{x:Option (D×S)}{y:D×S->Option (D×S)}{e:FE}
def zcd (h:emb s=Z):EvX (xE e) Z ((e Z).bind λd=>some (d,s)) emb:=λq z=>by
 obtain⟨d,e0,z⟩:=zac z;cases z;unfold xE;rw[e0,<-h];rfl
def zfi {F:D->D->Option D}(h1:EvX f Z x emb)(h2:∀q,EvX g (emb q.2) (y q) emb):EvX (x2 F f g) Z (x.bind λq=>(y q).bind λr=>(F q.1 r.1).bind λd=>some (d,r.2)) emb:=λq z=>by
 obtain⟨a,e0,z⟩:=zac z;obtain⟨b,e1,z⟩:=zac z;obtain⟨d,e2,z⟩:=zac z;cases z;unfold x2;rw[h1 a e0,zOB,h2 a b e1,zOB,e2];rfl
def zjZ {fa:FAX}{xa:Option (List D×S)}(h1:EvAX fa Z xa emb):EvX (xTup fa) Z (xa.bind λq=>(mkT q.1).bind λd=>some (d,q.2)) emb:=λq z=>by
 obtain⟨a,e0,z⟩:=zac z;obtain⟨d,e2,z⟩:=zac z;cases z;unfold xTup;rw[h1 a e0,zOB,e2];rfl
def zdD {fr:FR}{xr:Option (RV×S)}(h1:EvR fr Z xr emb):EvX (xR fr) Z (xr.bind λq=>some (q.1.d,q.2)) emb:=λq z=>by
 obtain⟨a,e0,z⟩:=zac z;cases z;unfold xR;rw[h1 a e0];rfl
def zfj (h:emb s=Z):EvAX axNil Z (some ([],s)) emb:=λq z=>by cases z;rw[<-h];rfl
def zm4 {fl:FA}(h:emb s=Z):EvAX (xA fl) Z ((fl Z).bind λd=>some (d,s)) emb:=λq z=>by
 obtain⟨d,e0,z⟩:=zac z;cases z;unfold xA;rw[e0,<-h];rfl
def zaF {ga:FAX}{ya:D×S->Option (List D×S)}(h1:EvX f Z x emb)(h2:∀q,EvAX ga (emb q.2) (ya q) emb):EvAX (axCons f ga) Z (x.bind λq=>(ya q).bind λr=>some (q.1::r.1,r.2)) emb:=λq z=>by
 obtain⟨a,e0,z⟩:=zac z;obtain⟨b,e1,z⟩:=zac z;cases z;unfold axCons;rw[h1 a e0,zOB,h2 a b e1];rfl
def zhG (h:emb s=Z):EvAG agNil Z (some ([],s)) emb:=λq z=>by cases z;rw[<-h];rfl
def zhH {i:Nat}{fg:FAG}{xg:Option (List (Option D)×S)}(ho:(ownD (Z[i]?)).isSome=true)(h:EvAG fg Z xg emb):EvAG (agOwn i fg) Z (xg.bind λq=>some (none::q.1,q.2)) emb:=λq z=>by
 obtain⟨a,e0,z⟩:=zac z;cases z;unfold agOwn;rw[if_pos ho,h a e0];rfl
def zm5 {fg:FAG}{yg:D×S->Option (List (Option D)×S)}(h1:EvX f Z x emb)(h2:∀q,EvAG fg (emb q.2) (yg q) emb):EvAG (agX f fg) Z (x.bind λq=>(yg q).bind λr=>some (some q.1::r.1,r.2)) emb:=λq z=>by
 obtain⟨a,e0,z⟩:=zac z;obtain⟨b,e1,z⟩:=zac z;cases z;unfold agX;rw[h1 a e0,zOB,h2 a b e1];rfl
def zlW {S:Type}(F:List D->Option (RV×List D))(ks:List (Option Nat))(p n:Nat)(get:S->D)(put:S->D->S)(x:Option (List (Option D)×S)):Option (RV×S):=x.bind λq=>if q.1.map (agK n)=ks then(F (q.1.map λo=>o.getD (get q.2))).bind λr=>(r.2[p]?).bind λe=>some (r.1,put q.2 e) else none
def zhI {ks:List (Option Nat)}{p i n:Nat}{F:List D->Option (RV×List D)}{fg:FAG}{xg:Option (List (Option D)×S)}{get:S->D}{put:S->D->S}(h:EvAG fg Z xg emb)(hg:∀s,ownD ((emb s)[i]?)=some (n,get s))(hp:∀s e,setO (emb s) i e=emb (put s e)):EvR (xCallG ks p i n F fg) Z (zlW F ks p n get put xg) emb:=λq z=>by
 obtain⟨a,e0,z⟩:=zac z;split at z
 .rename_i hk
  obtain⟨r,e1,z⟩:=zac z;obtain⟨e,e2,z⟩:=zac z;cases z;unfold xCallG;rw[h a e0,zOB];show(if a.1.map (agK n)=ks then match ownD ((emb a.2)[i]?) with
  |some (m,d)=>if m=n then(F (a.1.map λo=>o.getD d)).bind λr=>(r.2[p]?).bind λe=>some (r.1,setO (emb a.2) i e) else none
  |none=>none
   else none)=_
  rw[if_pos hk,hg];show(if n=n then(F (a.1.map λo=>o.getD (get a.2))).bind λr=>(r.2[p]?).bind λe=>some (r.1,setO (emb a.2) i e) else none)=_
  rw[if_pos rfl,e1,zOB,e2,zOB,hp]
 .cases z
def zdY {S:Type}(F:List D->Option (RV×List D))(put:D->S)(as:List D):Option (RV×S):=(F as).bind λr=>(r.2[0]?).bind λe=>some (r.1,put e)
def zba {ks:List (Option Nat)}{i n:Nat}{F:List D->Option (RV×List D)}{fg:FAG}{as:List (Option D)}{d:D}{put:D->S}(h:fg Z=some (as,Z))(hk:as.map (agK n)=ks)(hg:ownD (Z[i]?)=some (n,d))(hp:∀e,setO Z i e=emb (put e)):EvR (xCallG ks 0 i n F fg) Z (zdY F put (as.map λo=>o.getD d)) emb:=λq z=>by
 obtain⟨r,e1,z⟩:=zac z;obtain⟨e,e2,z⟩:=zac z;cases z;unfold xCallG;rw[h,zOB];show(if as.map (agK n)=ks then match ownD (Z[i]?) with
 |some (m,d)=>if m=n then(F (as.map λo=>o.getD d)).bind λr=>(r.2[0]?).bind λe=>some (r.1,setO Z i e) else none
 |none=>none
  else none)=_
 rw[if_pos hk,hg];show(if n=n then(F (as.map λo=>o.getD d)).bind λr=>(r.2[0]?).bind λe=>some (r.1,setO Z i e) else none)=_
 rw[if_pos rfl,e1,zOB,e2,zOB,hp]
def zf0 {ks:List (Option Nat)}{F:List D->Option (RV×List D)}{fa:FAX}{xa:Option (List D×S)}(h:EvAX fa Z xa emb):EvR (xCallN ks F fa) Z (xa.bind λq=>(F q.1).bind λr=>if q.1.length=ks.length then some (r.1,q.2) else none) emb:=λq z=>by
 obtain⟨a,e0,z⟩:=zac z;obtain⟨r,e1,z⟩:=zac z;split at z
 .rename_i hl
  cases z;unfold xCallN;rw[h a e0,zOB];show((F a.1).bind λr=>if a.1.length=ks.length then some (r.1,emb a.2) else none)=_
  rw[e1,zOB,if_pos hl]
 .cases z
def zok {fa:FAX}{xa:Option (List D×S)}(h:EvAX fa Z xa emb):EvR (xLst fa) Z (xa.bind λq=>(mkLs q.1).bind λds=>some (.new 1 (.lst ds),q.2)) emb:=λq z=>by
 obtain⟨a,e0,z⟩:=zac z;obtain⟨ds,e1,z⟩:=zac z;cases z;unfold mkLs at e1;split at e1
 .rename_i hl
  cases e1;unfold xLst;rw[h a e0,zOB];exact if_pos hl
 .cases e1
def zqb (xs:List D)(k:D):Option (D×List D):=(dInt k).bind λk=>if -1000000<=k/\k<=1000000 then(seqIndex? k xs.length).bind λj=>(xs[j]?).bind λd=>some (d,xs.eraseIdx j) else none
def zqc {i:Nat}{get:S->List D}{put:S->List D->S}(ho:isL1 (ownD (Z[i]?))=true)(h:EvX f Z x emb)(hg:∀s,ownD ((emb s)[i]?)=some (1,.lst (get s)))(hp:∀s e,setO (emb s) i (.lst e)=emb (put s e)):EvX (zmX i f) Z (x.bind λq=>(zqb (get q.2) q.1).bind λr=>some (r.1,put q.2 r.2)) emb:=λq z=>by
 obtain⟨a,e0,z⟩:=zac z;obtain⟨r,e1,z⟩:=zac z;obtain⟨k,e2,e1⟩:=zac e1;split at e1
 .rename_i hk
  obtain⟨j,e3,e1⟩:=zac e1;obtain⟨d,e4,e1⟩:=zac e1;cases e1;cases z;unfold zmX;rw[if_pos ho,h a e0,zOB];show((dInt a.1).bind λk=>match ownD ((emb a.2)[i]?) with
  |some (1,.lst ds)=>if -1000000<=k/\k<=1000000 then(seqIndex? k ds.length).bind λj=>(ds[j]?).bind λd=>some (d,setO (emb a.2) i (.lst (ds.eraseIdx j))) else none
  |_=>none)=_
  rw[e2,zOB,hg];show(if -1000000<=k/\k<=1000000 then(seqIndex? k (get a.2).length).bind λj=>((get a.2)[j]?).bind λd=>some (d,setO (emb a.2) i (.lst ((get a.2).eraseIdx j))) else none)=_
  rw[if_pos hk,e3,zOB,e4,zOB,hp]
 .cases e1
def zj0 {t:FT}(h:emb s=Z):EvTX (xT t) Z ((t Z).bind λk=>some (k,s)) emb:=λq z=>by
 obtain⟨d,e0,z⟩:=zac z;cases z;unfold xT;rw[e0,<-h];rfl
def zm6 (h:EvX f Z x emb):EvTX (xt1 f) Z (x.bind λq=>(dB q.1).bind λk=>some (k,q.2)) emb:=λq z=>by
 obtain⟨a,e0,z⟩:=zac z;obtain⟨k,e1,z⟩:=zac z;cases z;unfold xt1;rw[h a e0,zOB,e1];rfl
def zfk {t u:FTX}{xt:Option (Bool×S)}{yt:Bool×S->Option (Bool×S)}(h1:EvTX t Z xt emb)(h2:∀q,EvTX u (emb q.2) (yt q) emb):EvTX (xtAnd t u) Z (xt.bind λq=>if q.1 then yt q else some (false,q.2)) emb:=λq z=>by
 obtain⟨⟨k,s1⟩,e0,z⟩:=zac z;unfold xtAnd;rw[h1 _ e0,zOB];cases k with
|true=>exact h2 (true,s1) q z
|false=>cases z;rfl
def zcK {i:Nat}(h:EvX f Z x emb)(hi:∀s,okS i (emb s)=true):Step (gSetX i f) Z x λq=>(emb q.2).set i (.val q.1):=λq z=>by
 unfold gSetX;rw[h q z,zOB];exact if_pos (zdS (hi q.2))
def zol {i:Nat}{get:S->List D}(ho:isL1 (ownD (Z[i]?))=true)(h:EvX f Z x emb)(hg:∀s,ownD ((emb s)[i]?)=some (1,.lst (get s))):Step (gAppX i f) Z (x.bind λq=>(appL (get q.2) q.1).bind λys=>some (ys,q.2)) λp=>setO (emb p.2) i (.lst p.1):=λp z=>by
 obtain⟨a,e0,z⟩:=zac z;obtain⟨ys,e1,z⟩:=zac z;cases z;unfold appL at e1;split at e1
 .rename_i hl
  cases e1;unfold gAppX;rw[if_pos ho,h a e0,zOB];show(match ownD ((emb a.2)[i]?) with
  |some (1,.lst ds)=>if ds.length<lim then some (Out.nx (setO (emb a.2) i (.lst (ds++[a.1])))) else none
  |_=>none)=_
  rw[hg];exact if_pos hl
 .cases e1
section
variable {R A:Type}{k:Out->Option R}{B:A->Option R}{a b g':FS}
def zqd {t:FTX}{xt:Option (Bool×S)}{a' b':Bool×S->Option A}(ht:EvTX t Z xt emb)(h1:∀q,EvS k B a (emb q.2) (a' q))(h2:∀q,EvS k B b (emb q.2) (b' q)):EvS k B (gIfX t a b) Z (xt.bind λq=>if q.1 then a' q else b' q):=λr z=>by
 obtain⟨y,z,z2⟩:=zac z;obtain⟨⟨kk,s1⟩,e0,z⟩:=zac z;unfold gIfX;rw[ht _ e0,zOB];cases kk with
|true=>exact h1 (true,s1) r (by rw[show a' (true,s1)=some y from z];exact z2)
|false=>exact h2 (false,s1) r (by rw[show b' (false,s1)=some y from z];exact z2)
def zm7 {T:Type}{emb2:T->En}{t:FTX}{xt:Option (Bool×S)}{a' b':Bool×S->Option T}(ht:EvTX t Z xt emb)(h1:∀q,EvS k0 (λs=>some (emb2 s)) a (emb q.2) (a' q))(h2:∀q,EvS k0 (λs=>some (emb2 s)) b (emb q.2) (b' q)):Step (gIfX t a b) Z (xt.bind λq=>if q.1 then a' q else b' q) emb2:=λs z=>by
 have:=zqd (k:=k0) ht h1 h2 (emb2 s) (by rw[z];rfl)
 obtain⟨o,e1,e2⟩:=zac this;rw[e1];cases o <;> cases e2
 rfl
end
end
section
variable {S S0 C A R:Type}{emb:S->En}{emb0:S0->En}{Z:En}{fi:FAX}{b g:FS}{tg:FG}{xa:Option (List D×S0)}{ini:S0->S}
end
def kG (ks:List (Option Nat)):Out->Option (RV×List D)
|.ret r Z=>(outSl ks Z).bind λes=>some (r,es)
|.nx Z=>(outSl ks Z).bind λes=>some (.told .non,es)
|_=>none
section
variable {P:Program}{w:World}{K:W.Frag}{mg:Str->Option Value}{base:Heap}
def zom {x qual:Str}{st:Stmt}{f:Addr}{fd:FuncData}{N ps:List Str}{k:Nat}{c:List D->Option (RV×List D)}(ks:List (Option Nat))(F:Fun K x qual st f fd)(S:FnScope N ps (zab st))(hks:ks.length=ps.length)
 (hbody:∀(cdv:Value) (A:Around) (outer:List Env) (s:Shared) (H:Hp) (E:XK),Room k (A.deeper (envOfC qual (zab st) s.heap.objs.size f cdv))->∃g,VSs (cxOf CX0 P w K mg base N qual (zab st) f cdv A outer s H E).nox (zaV st) g/\∀ds,ds.length=ks.length->EvS (kG ks) some g (inSl ks ds++List.replicate (N.length - ks.length) .un) (c ds)) :
 FnOk P w K mg base CX0 (k+1) f fd ps (spG K ks c):=by
 refine F.ok S (λvs H Q E h=>?_) (λcdv A outer s H vs Q E hr h=>?_)
 .obtain⟨J,ds,r,es,fp,ja,a,e,w⟩:=h;rw[a.l1,hks]
 .obtain⟨J,ds,r,es,fp,ja,a,e,w⟩:=h;obtain⟨g,⟨t,p,q⟩,ev⟩:=hbody cdv A outer s H E hr;refine⟨t,p,?_⟩;have s0:=zfW (N:=N) ja a
  have e:=ev ds a.l2 (r,es) (by rw[e];rfl)
  cases z:g (inSl ks ds++List.replicate (N.length - ks.length) .un) with
 |none=>rw[z] at e;cases e
 |some o=>
    rw[z] at e;refine q H J _ _ _ H J o _ s0 z ?_;cases o with
   |nx Z'=>
      obtain⟨es',e1,e⟩:=bind_some (show((outSl ks Z').bind λes=>some (RV.told D.non,es))=some (r,es) from e);cases e;intro Y' H' J' s' k';obtain⟨fp',pg⟩:=zlJ (v:=.non) (r:=.told .non) a s' .non e1;exact w _ _ _ _ pg
   |ret r' Z'=>
      obtain⟨es',e1,e⟩:=bind_some (show((outSl ks Z').bind λes=>some (r',es))=some (r,es) from e);cases e;intro v Y' H' J' s' q';obtain⟨fp',pg⟩:=zlJ a s' q' e1;exact w _ _ _ _ pg
   |bk _=>cases e
   |ct _=>cases e
end
def g1 (b:D->Option (RV×List D)):List D->Option (RV×List D)|[x]=>b x|_=>none
def g2 (b:D->D->Option (RV×List D)):List D->Option (RV×List D)|[x,y]=>b x y|_=>none
def g3 (b:D->D->D->Option (RV×List D)):List D->Option (RV×List D)|[x,y,z]=>b x y z|_=>none
section
variable {R:Type}{k:Out->Option R}{B:RV×List D->Option R}{g:FS}{n:List SV}{ks:List (Option Nat)}
def zqe {b:D->D->Option (RV×List D)}(h:∀x y,EvS k B g (inSl ks [x,y]++n) (b x y)):∀ds:List D,ds.length=2->EvS k B g (inSl ks ds++n) (g2 b ds)
|[x,y],_=>h x y
end
section
variable {X:Cx}{K:W.Frag}{k:Nat}
end
end VD
namespace GM
open PySem PySem.Spec PyProof PyProof.Rows L2 VD
structure Bx where
 x:Int
 y:Int
 wd:Int
 hg:Int
def Bx.d (b:Bx):D:=.tup [.int b.x,.int b.y,.int b.wd,.int b.hg]
structure Row where
 deep:Nat
 name:Str
 box:Bx
 word:Str
 rank:Int
 head:Option Str
def zrF:Option Str->D
|none=>.non
|some x=>.str x
def Row.d (r:Row):D:=.lst [.int r.deep,.str r.name,r.box.d,.str r.word,.int r.rank,zrF r.head]
def rowsD (L:List Row):D:=.lst (L.map Row.d)
def zj1 (ds:Nat->Nat)(cur:Nat):Nat->List Nat
|0=>[]
|n+1=>if ds n<cur then zj1 ds (ds n) n++[n] else zj1 ds cur n
def dsOf (L:List Row)(k:Nat):Nat:=((L[k]?).map (·.deep)).getD 0
def above (L:List Row)(k:Nat):List Nat:=zj1 (dsOf L) (dsOf L k) k
abbrev abcS:Str:="abcdefghijklmnopqrstuvwxyz"
def zqf {i:Int}(h0:0<=i)(h1:i<26):atI abcS.cps.toList i=some (97+i.toNat):=by
 have k:∀n:Fin 26,abcS.cps.toList[n.val]?=some (97+n.val):=by decide +kernel
 have hn:i.toNat<26:=by omega
 have e:i=((i.toNat:Nat):Int):=by omega
 rw[e];exact za7 (k ⟨i.toNat,hn⟩)
def sg (c:Nat):Str:=⟨#[c]⟩
def zj2 (c:Nat)(n:Int)(h:1<=n):(Txt.mul (sg c) n).cps.toList=List.replicate n.toNat c:=by
 unfold Txt.mul;rw[if_neg (by omega)];by_cases h1:n=1
 .subst h1;rfl
 .have:(n == 1||(sg c).length == 0)=false:=by
   have:(n == 1)=false:=by simpa using h1
   rw[this];rfl
  rw[this,if_neg (by decide)];have key:∀(k:Nat) (acc:Array Nat),((List.replicate k (sg c).cps).foldl (·++·) acc).toList=acc.toList++List.replicate k c:=by
   intro k;induction k with
  |zero=>intro acc;simp
  |succ k ih=>
     intro acc;rw[wbc,List.foldl_cons,ih];show(acc++#[c]).toList++_=_
     rw[Array.toList_append,waN];rfl
  show((List.replicate n.toNat (sg c).cps).foldl (·++·) #[]).toList=_
  rw[key];rfl
def zon (c:Nat)(n:Int)(h:1<=n):(Txt.mul (sg c) n).length=n.toNat:=by
 have:=wbQ List.length (zj2 c n h)
 rw[List.length_replicate] at this;simpa[Str.length] using this
theorem zep {C:Type}{f:Nat->C}:∀(m:Nat),(∀i j,i<j->j<m->f i≠f j)->((List.range m).map f).Nodup
|0,_=>by simp
|m+1,h=>by
   rw[List.range_succ,waS];refine wbl.mpr ⟨zep m λi j hi hj=>h i j hi (by omega),by simp,λa ha b hb=>?_⟩;obtain⟨i,hi,rfl⟩:=waD.mp ha;have:=wao.mp hb
   subst this;exact h i m (wbq.mp hi) (by omega)
inductive Tr where
|mk (name:Str) (box:Bx) (word:Str) (rank:Int) (head:Option Str) (parts:List Tr)
namespace Tr
def name:Tr->Str|mk n _ _ _ _ _=>n
def parts:Tr->List Tr|mk _ _ _ _ _ x=>x
end Tr
structure Seg (d:Nat)(M:List Row):Prop where
 few:M.length<=200
 low:∀r∈M,d<=r.deep/\r.deep<=4
 first:∀r,M[0]?=some r->r.deep=d
 step:∀k r r',M[k]?=some r->M[k+1]?=some r'->r'.deep<=r.deep+1
def szL:Nat->List Tr->Nat
|_,[]=>0
|0,_=>0
|n+1,t::r=>1+szL n t.parts+szL (n+1) r
termination_by n ts=>(n,ts.length)
structure Pos' where
 q:List Int
 as:List Tr
 js:List Nat
 t:Tr
def posL:Nat->List Int->Nat->List Tr->List Nat->Nat->List Tr->List Pos'
|_,_,_,_,_,_,[]=>[]
|0,_,_,_,_,_,_=>[]
|n+1,o,i,as,js,off,t::r=>⟨o++[(i:Int)],as,js,t⟩ ::(posL n (o++[(i:Int)]) 0 (as++[t]) (js++[off]) (off+1) t.parts++posL (n+1) o (i+1) as js (off+1+szL n t.parts) r)
termination_by n _ _ _ _ _ ts=>(n,ts.length)
def Fits:Nat->List Tr->Prop
|0,ts=>ts = []
|n+1,ts=>∀t∈ts,Fits n t.parts
def psOf (ts:List Tr):List Pos':=posL 5 [] 0 [] [] 0 ts
section
variable {ts:List Tr}{L:List Row}
end
end GM
namespace GM
open PySem PySem.Spec PyProof PyProof.Rows L2 VD
def ziq {n:Nat}{i:Nat}{d:D}(h:(zbn 0 n)[i]?=some d):i<n/\d=.int (i:Int):=by
 have hl:(zbn 0 n).length=n:=by simp[zbn]
 have hi:i<n:=by rw[<-hl];exact(wai.mp h).1
 refine⟨hi,?_⟩;unfold zbn at h;rw[waw,wcG hi] at h;simp at h;exact h.symm
def zir (n:Nat):(zbn 0 n).length=n:=by simp[zbn]
def zj3 {C:Type}{xs:List C}{i:Int}(h0:0<=i)(h1:i<xs.length):∃x,xs[i.toNat]?=some x/\atI xs i=some x:=by
 have hi:i.toNat<xs.length:=by omega
 refine⟨xs[i.toNat],wat hi,?_⟩;have e:i=((i.toNat:Nat):Int):=by omega
 have h:=za7 (xs:=xs) (wat hi)
 rw[<-e] at h;exact h
def zlX:abcS.length<=lim:=by decide +kernel
def zqg {i:Int}(h0:0<=i)(h1:i<26):dIx (.str abcS) (.int i)=some (.str (sg (97+i.toNat))):=by
 show(if abcS.length<=lim then(atI abcS.cps.toList i).map λc=>D.str ⟨#[c]⟩ else none)=_
 rw[if_pos zlX,zqf h0 h1];rfl
def zqh (c:Nat):(sg c).length=1:=rfl
def zqi (c:Nat){n:Int}(h0:-1000<=n)(h1:n<=1000):dMul (.str (sg c)) (.int n)=some (.str (Txt.mul (sg c) n)):=by
 show(if -1000<=n/\n<=1000/\(sg c).length<=1000 then some (D.str (Txt.mul (sg c) n)) else none)=_
 rw[if_pos ⟨h0,h1,by rw[zqh];decide⟩]
theorem zdE {S A C:Type}{f:S->D->Option (Fl S A)}(h:C->D):∀{xs:List C}{s:S},(∀x,x∈xs->f s (h x)=some (.nx s))->zcJ f s (xs.map h)=some (.nx s)
|[],s,_=>rfl
|x::xs,s,hf=>by
   show(f s (h x)).bind _=_
   rw[hf x wak,zOB];exact zdE h λy hy=>hf y (wag _ hy)
def zgW {S A:Type}{f:S->D->Option (Fl S A)}{ds:List D}{s:S}(hf:∀x,x∈ds->f s x=some (.nx s)):zcJ f s ds=some (.nx s):=by
 have:=zdE (f:=f) (λd:D=>d) (xs:=ds) (s:=s) hf
 rwa [List.map_id'] at this
def zgX {xs:List D}{d:D}(h:xs.length<lim):appL xs d=some (xs++[d]):=if_pos h
def zdp {C:Type}{f:D->Option (Option D)}(h:C->D)(g:C->D){xs:List C}(hl:xs.length<=10000)(hf:∀x,x∈xs->f (h x)=some (some (g x))):zbW f (xs.map h)=some (xs.map g):=by
 unfold zbW;have:zc6 f (xs.map h)=some (xs.map g):=by
  clear hl
  induction xs with
 |nil=>rfl
 |cons x xs ih=>
    show(f (h x)).bind _=_
    rw[hf x wak,zOB];show(zc6 f (xs.map h)).bind _=_
    rw[ih λy hy=>hf y (wag _ hy)];rfl
 rw[this,zOB,if_pos];rw[waj];exact wal hl (by decide)
def zcL {C:Type}{f:D->Option (Option D)}(h:C->D)(p:C->Bool)(g:C->D){xs:List C}(hl:xs.length<=10000)(hf:∀x,x∈xs->f (h x)=some (if p x then some (g x) else none)):zbW f (xs.map h)=some ((xs.filter p).map g):=by
 unfold zbW;have:zc6 f (xs.map h)=some ((xs.filter p).map g):=by
  clear hl
  induction xs with
 |nil=>rfl
 |cons x xs ih=>
    have ih:=ih λy hy=>hf y (wag _ hy)
    show(f (h x)).bind _=_
    rw[hf x wak,zOB];cases hp:p x with
   |true=>
      show(zc6 f (xs.map h)).bind _=_
      rw[ih,List.filter_cons,if_pos hp];rfl
   |false=>
      rw[ih,List.filter_cons,hp];rfl
 rw[this,zOB,if_pos];rw[waj];exact wal (wcw _ _) (wal hl (by decide))
def zj4 {C:Type}(f:C->D)(xs:List C):zdV (xs.map f)=xs.zipIdx.map λp=>.tup [.int (p.2:Nat),f p.1]:=by
 unfold zdV;rw[List.zipIdx_map,wbr];rfl
def zhJ (x y:Int):dEqG false (.int x) (.int y)=some (.bl (decide (x=y))):=by
 show(if eqC (.int x) (.int y)=true then some (D.bl (if false=true then !decide (D.int x=D.int y) else decide (D.int x=D.int y))) else none)=_
 rw[if_pos (by rfl),if_neg (by decide),zay (show D.int x=D.int y↔x=y from⟨λh=>by cases h;rfl,λh=>by rw[h]⟩)]
def zeq {d:D}(h:eqC d d=true)(neg:Bool):dEqG neg d d=some (.bl (!neg)):=by
 unfold dEqG;rw[if_pos h,waz rfl];cases neg <;> rfl
mutual
theorem zf1:∀{d:D},ndD d=true->eqOk d d=true
|.non,_=>rfl
|.bl _,_=>rfl
|.int _,_=>rfl
|.str _,_=>rfl
|.tup ds,h=>zdF (ds:=ds) h
|.lst ds,h=>zdF (ds:=ds) h
|.dct _ _,h=>by cases h
|.scr _,h=>by cases h
|.exc _ _ _,h=>by cases h
theorem zdF:∀{ds:List D},ndL ds=true->zfg ds ds=true
|[],_=>rfl
|d::ds,h=>by
   have h:(ndD d&&ndL ds)=true:=h
   rw[waA] at h;show(eqOk d d&&zfg ds ds)=true
   rw[zf1 h.1,zdF h.2];rfl
end
def zhK {d:D}(h:ndD d=true)(hd:depD d<=40):eqC d d=true:=by
 unfold eqC;rw[zf1 h,h,waz hd];rfl
theorem zgY {m:Nat}:∀{ds:List D},(∀d∈ds,depD d<=m)->depL ds<=m
|[],_=>wbu _
|d::ds,h=>Nat.max_le.mpr ⟨h d wak,zgY λe he=>h e (wag _ he)⟩
theorem zj5:∀{ds:List D},(∀d∈ds,ndD d=true)->ndL ds=true
|[],_=>rfl
|d::ds,h=>by
   show(ndD d&&ndL ds)=true
   rw[h d wak,zj5 λe he=>h e (wag _ he)];rfl
def zer {x:Str}{th:List Str}:dInG false (.str x) (.lst (th.map D.str))=some (.bl (decide (x∈th))):=by
 have hc:inC (.str x) (th.map D.str)=true:=by
  unfold inC;rw[waA];refine⟨rfl,waB.mpr λy hy=>?_⟩;obtain⟨z,_,rfl⟩:=waD.mp hy;rfl
 show(if inC (.str x) (th.map D.str)=true then some (D.bl (if false=true then !decide (D.str x∈th.map D.str) else decide (D.str x∈th.map D.str))) else none)=_
 rw[if_pos hc,if_neg (by decide),zay (show D.str x∈th.map D.str↔x∈th from⟨λh=>by
  obtain⟨z,hz,e⟩:=waD.mp h;cases e;exact hz,λh=>waD.mpr ⟨x,h,rfl⟩⟩)]
def zfl {xs:List D}{r:Int}(h0:0<=r)(h1:r<=xs.length):VD.cut xs none (some r)=xs.take r.toNat:=by
 unfold VD.cut HT.sIx;dsimp only[];rw[if_neg (by omega),List.drop_zero,Nat.sub_zero,wcH (by omega)]
end GM
namespace GM
open PySem PySem.Spec PyProof PyProof.Rows L2 VD
end GM
namespace VD
open PySem PySem.Spec PyProof PyProof.Rows L2 PySem.W
structure TabX (X:Cx)(q:Str):Prop where
 ex:∃c P bm ob,X.env.code=.ref c/\CodeK X.K c P/\BMod X.base mainGlobals X.mg bm ob/\∃tp,X.Hz P=some (.tbl tp)/\tp[0]?=some (Value.str q 0)
section
variable {X:Cx}{a:Expr}{fa:FE}
end
structure Pers (Pc:Hp->Prop):Prop where
 st:∀{fs ex:List Addr}{H H':Hp}{h h':Heap},Un fs ex H H' h h'->Pc H->Pc H'
 sm:∀{H H':Hp},Same H H'->Pc H->Pc H'
def Prs (X:Cx)(Pc:Hp->Prop):Prop:=∀pins Y H s,Inv X pins Y H s->Pc H
def Prs.of {X:Cx}{Pc:Hp->Prop}(p:Pers Pc)(h:Pc X.Hz):Prs X Pc:=λ_ _ _ _ I=>p.st I.base h
def pcS (Pc:Hp->Prop)(sp:Sp):Sp:=λvs H Q E=>Pc H/\sp vs H Q E
structure Scr where
 p:Addr
 ns:List Int
def SqF (K:W.Frag)(S:Scr)(H:Hp):Prop:=(∃o,H S.p=some (.frz o (.lst (S.ns.map V.int))))\/∀H,SqL K H S.p (S.ns.map V.int)
def SqF.sq {K:W.Frag}{S:Scr}{H:Hp}(h:SqF K S H):SqL K H S.p (S.ns.map V.int):=by
 rcases h with⟨o,h⟩|h
 .exact .inl (.inr ⟨o,h⟩)
 .exact h H
def SqF.of {K:W.Frag}{S:Scr}{H:Hp}(h:SqL K H S.p (S.ns.map V.int))(hf:H S.p≠none->∃o xs,H S.p=some (.frz o (.lst xs))):SqF K S H:=by
 rcases h with(h|⟨o,h⟩)|h
 .obtain⟨o,xs,e⟩:=hf (by rw[h];simp);rw[h] at e;cases e
 .exact .inl ⟨o,h⟩
 .exact .inr λ_=>.inr h
def TabH (P:Addr)(q:Str)(H:Hp):Prop:=∃tp,H P=some (.tbl tp)/\tp[0]?=some (Value.str q 0)
def tab0 {tp more:Array Value}{q:Str}(htp:tp[0]?=some (Value.str q 0)):(tp++more)[0]?=some (Value.str q 0):=by
 have:0<tp.size:=by
  rcases Nat.eq_zero_or_pos tp.size with z|z
  .rw[Array.getElem?_eq_none (by omega)] at htp;cases htp
  .exact z
 rw[Array.getElem?_append_left this];exact htp
def pers_F {K:W.Frag}{S:Scr}:Pers (SqF K S):=⟨λu h=>by
 rcases h with⟨o,h⟩|h
 .exact .inl ⟨o,u.frzs _ _ _ h⟩
 .exact .inr h,λs h=>by
 rcases h with⟨o,h⟩|h
 .exact .inl ⟨o,s _ _ h⟩
 .exact .inr h⟩
def pers_T {P:Addr}{q:Str}:Pers (TabH P q):=⟨λu ⟨tp,h,e⟩=>by
 obtain⟨more,h'⟩:=u.tbls _ _ h;exact⟨_,h',tab0 e⟩,λs ⟨tp,h,e⟩=>⟨tp,s _ _ h,e⟩⟩
section
variable {X:Cx}{a b e:Expr}{es:List Expr}{fa fb:FE}{fl:FA}{p pos:Pos}{Pc:Hp->Prop}
def pcP {k k':Nat}{x:Str}{ps:List Str}{sp:Sp}{t:TA}(C:Cal X.prog X.w X.K X.mg X.base k x ps (pcS Pc sp))(hp:Prs X Pc)(hr:Room k' X.A)(ha:PA X (e::es) t)(hk:k<=k')(hg:Gl X x)(hdb:(x == ("__debug__":Str))=false)
 (he:starEach (e::es) X.env=(false,eval e X.env)::starEach es X.env) (hpl:(backTo pos (starEach es X.env)).any (·.1)=false):PE X (.Call (.Name x p) (e::es) [] pos) (zic sp [] E0 t):=by
 obtain⟨f,fd,F,hb,hkp,hm⟩:=C.ex;intro pins s Y H Q I h;refine waG (zcD I hg hm ?_ hdb);refine callWith_K (h₀:=X.base) I.ok.mod.kin hkp (thn (ha pos pins s Y H _ I h) λus s1 ⟨vs,H1,I1,r,q⟩=>⟨I1.kIn,?_⟩) he hpl;exact zmF (F.mono hk) hr hb .nil zpu I1 r ⟨hp _ _ _ _ I1,q⟩
def zaE {k k':Nat}{x:Str}{ps:List Str}{F:List D->Option D}(C:Cal X.prog X.w X.K X.mg X.base k x ps (pcS Pc (spF X.K F)))(hp:Prs X Pc)(hr:Room k' X.A)(ha:VA X (e::es) fl)(hk:k<=k':=by decide)(hg:Gl X x:=by rfl)(hdb:(x == ("__debug__":Str))=false:=by decide)
 (he:starEach (e::es) X.env=(false,eval e X.env)::starEach es X.env:=by rfl) (hpl:(backTo pos (starEach es X.env)).any (·.1)=false:=by rfl):VE X (.Call (.Name x p) (e::es) [] pos) (eCall F fl):=by
 obtain⟨t,pa,g⟩:=ha;refine⟨_,pcP C hp hr pa hk hg hdb he hpl,?_⟩;intro Hz Jz O Z Y H J d Q s e w;obtain⟨ds,e1,e⟩:=bind_some e;refine g Hz Jz O Z Y H J ds _ s e1 λvs H1 J1 u1 r1=>?_
 refine⟨J1,ds,d,u1.ja,by rw[waI];exact r1,e,λv H2 J2 u2 r2=>w v H2 J2 (u1.trans u2) r2⟩
def zf2 {fl:FAX}{k k':Nat}{x:Str}{ps:List Str}{ks:List (Option Nat)}{F:List D->Option (RV×List D)}(C:Cal X.prog X.w X.K X.mg X.base k x ps (pcS Pc (spG X.K ks F)))(hp:Prs X Pc)(hr:Room k' X.A)(ha:VAX X (e::es) fl)(hn:ks.all (·.isNone)=true:=by rfl)(hk:k<=k':=by decide)(hg:Gl X x:=by rfl)(hdb:(x == ("__debug__":Str))=false:=by decide)
 (he:starEach (e::es) X.env=(false,eval e X.env)::starEach es X.env:=by rfl) (hpl:(backTo pos (starEach es X.env)).any (·.1)=false:=by rfl):VR X (.Call (.Name x p) (e::es) [] pos) (xCallN ks F fl):=by
 obtain⟨t,pa,g⟩:=ha;exact⟨_,pcP C hp hr pa hk hg hdb he hpl,zlL hn g _⟩
def lenS (S:Scr):D->Option D
|.scr q=>if q=S.p then some (.int S.ns.length) else none
|_=>none
def ixS (S:Scr):D->D->Option D
|.scr q,.int i=>if q=S.p then(atI S.ns i).map D.int else none
|_,_=>none
def zj6 {S:Scr}{d r:D}(h:lenS S d=some r):d=.scr S.p/\r=.int S.ns.length:=by
 unfold lenS at h;split at h
 .split at h
  .rename_i z;rw[z];cases h;exact⟨rfl,rfl⟩
  .cases h
 .cases h
def zlY {S:Scr}{x y r:D}(h:ixS S x y=some r):∃i n,x=.scr S.p/\y=.int i/\atI S.ns i=some n/\r=.int n:=by
 match x,y,h with
|.scr q,.int i,h=>
   have h:(if q=S.p then(atI S.ns i).map D.int else none)=some r:=h
   by_cases z:q=S.p
   .rw[if_pos z] at h;cases hi:atI S.ns i with
   |none=>rw[hi] at h;cases h
   |some n=>rw[hi] at h;cases h;exact⟨i,n,by rw[z],rfl,hi,rfl⟩
   .rw[if_neg z] at h;cases h
def zoo {C B:Type}{f:C->B}{xs:List C}{i:Int}:atI (xs.map f) i=(atI xs i).map f:=by
 unfold atI;rw[waj];cases ixN xs.length i with
|none=>rfl
|some j=>simp
def zj7 {S:Scr}(hp:Prs X (SqF X.K S))(B:Blt X.mg)(ha:VE X a fa)(hg:Gl X "len":=by rfl)(h1:starEach [a] X.env=(false,eval a X.env)::starEach [] X.env:=by rfl):VE X (.Call (.Name "len" p) [a] [] pos) (e1 (lenS S) fa):=by
 obtain⟨ta,pa,ga⟩:=ha;refine⟨λY H Q=>∃Hz Jz O Z J d,ST X.K Hz Jz O Z Y H J/\e1 (lenS S) fa Z=some d/\zgL X.K H J d Q,λpins s Y H Q I hyp=>?_,λHz Jz O Z Y H J d Q st e w=>⟨Hz,Jz,O,Z,J,d,st,e,w⟩⟩;obtain⟨Hz,Jz,O,Z,J,d,st,e,w⟩:=hyp;obtain⟨x,ex,e⟩:=bind_some e;obtain⟨rfl,rfl⟩:=zj6 e;refine pb zfM B PySem.boot_len (zbg pa zc8 h1) (by decide +kernel) hg (by decide) (by decide) h1 rfl pins s Y H Q I ?_;refine ga Hz Jz O Z Y H J _ _ st ex λv H1 J1 u r=>?_
 cases r;refine⟨S.p,S.ns.map V.int,rfl,.inl (pers_F.sm u.same (hp _ _ _ _ I)).sq,?_⟩;rw[waj];exact w _ H1 J1 u (.int _)
def zqj {S:Scr}(hp:Prs X (SqF X.K S))(ha:VE X a fa)(hb:VE X b fb)(hs:zdb b:=by exact λ_ _=>rfl):VE X (.Subscript a b pos) (e2 (ixS S) fa fb):=by
 obtain⟨ta,pa,ga⟩:=ha;obtain⟨tb,pb,gb⟩:=hb;refine⟨λY H Q=>∃Hz Jz O Z J d,ST X.K Hz Jz O Z Y H J/\e2 (ixS S) fa fb Z=some d/\zgL X.K H J d Q,λpins s Y H Q I hyp=>?_,λHz Jz O Z Y H J d Q st e w=>⟨Hz,Jz,O,Z,J,d,st,e,w⟩⟩;obtain⟨Hz,Jz,O,Z,J,d,st,e,w⟩:=hyp;obtain⟨x,ex,e⟩:=bind_some e;obtain⟨y,ey,e⟩:=bind_some e;obtain⟨i,n,rfl,rfl,hi,rfl⟩:=zlY e;refine zif ix_list pa pb hs pins s Y H Q I ?_;refine ga Hz Jz O Z Y H J _ _ st ex λv H1 J1 u r=>?_
 refine gb Hz Jz O Z Y H1 J1 _ _ (st.up u) ey λv2 H2 J2 u2 r2=>?_
 cases r;cases r2;exact⟨S.p,_,i,.int n,rfl,rfl,(pers_F.sm u2.same (pers_F.sm u.same (hp _ _ _ _ I))).sq,by rw[zoo,hi];rfl,w _ H2 J2 (u.trans u2) (.int _)⟩
end
section
variable {P:Program}{w:World}{K:W.Frag}{mg:Str->Option Value}{base:Heap}{Pc:Hp->Prop}
def zce {x qual:Str}{st:Stmt}{f:Addr}{fd:FuncData}{N ps:List Str}{k:Nat}{c:List D->Option D}(pe:Pers Pc)(F:Fun K x qual st f fd)(S:FnScope N ps (zab st))(hlen:∀ds d,c ds=some d->ds.length=ps.length)
 (hbody:∀(cdv:Value) (A:Around) (outer:List Env) (s:Shared) (H:Hp) (E:XK),fd.code=cdv->Room k (A.deeper (envOfC qual (zab st) s.heap.objs.size f cdv))->Pc H->Prs (cxOf CX0 P w K mg base N qual (zab st) f cdv A outer s H E).nox Pc->∃g,VSs (cxOf CX0 P w K mg base N qual (zab st) f cdv A outer s H E).nox (zaV st) g/\∀ds,ds.length=ps.length->EvS kF some g (ds.map SV.val++List.replicate (N.length - ps.length) .un) (c ds)):FnOk P w K mg base CX0 (k+1) f fd ps (pcS Pc (spF K c)):=by
 refine F.okC S (λvs H Q E h=>?_) (λcdv A outer s H vs Q E hcv hr h=>?_)
 .obtain⟨_,J,ds,d,ja,r,e,w⟩:=h;rw[r.length];exact hlen ds d e
 .obtain⟨hPc,J,ds,d,ja,r,e,w⟩:=h;have hl:=hlen ds d e
  obtain⟨g,⟨t,p,q⟩,ev⟩:=hbody cdv A outer s H E hcv hr hPc (Prs.of pe hPc);refine⟨t,p,?_⟩;have e:=ev ds hl d (by rw[e];rfl)
  rw[<-hl] at e;have s0:=zd4 (N:=N) ja r
  cases z:g (ds.map SV.val++List.replicate (N.length - ds.length) .un) with
 |none=>rw[z] at e;cases e
 |some o=>
    rw[z] at e;refine q H J Pr.no _ _ H J o _ s0 z ?_;cases o with
   |nx Z'=>cases e;exact λY' H' J' s' k'=>w .non H' J' s'.out .non
   |ret r Z'=>
      cases r with
     |told d'=>cases e;exact λv Y' H' J' s' r'=>w v H' J' s'.out r'
     |new n d'=>
        cases e;rintro v Y' H' J' s' ⟨B,fp,_,ru,_,hb,_⟩;have u:=s'.out
        refine w v H' (λb=>J' b\/b∈B) ⟨u.same,λa h=>.inl (u.jj a h),λa h=>?_,λa h=>?_⟩ (ru.rp (λ_ h=>.inl h) (λb hb=>.inr hb))
        .rcases h with h|h
         .exact u.jn a h
         .exact .inr (hb a h).2
        .rcases h with h|h
         .exact u.ja a h
         .obtain⟨o,e,_⟩:=ru.some a h;rw[e];simp
   |bk _=>cases e
   |ct _=>cases e
def zop {x qual:Str}{st:Stmt}{f:Addr}{fd:FuncData}{N ps:List Str}{k:Nat}{c:List D->Option (RV×List D)}(pe:Pers Pc)(ks:List (Option Nat))(F:Fun K x qual st f fd)(S:FnScope N ps (zab st))(hks:ks.length=ps.length)
 (hbody:∀(cdv:Value) (A:Around) (outer:List Env) (s:Shared) (H:Hp) (E:XK),fd.code=cdv->Room k (A.deeper (envOfC qual (zab st) s.heap.objs.size f cdv))->Pc H->Prs (cxOf CX0 P w K mg base N qual (zab st) f cdv A outer s H E).nox Pc->∃g,VSs (cxOf CX0 P w K mg base N qual (zab st) f cdv A outer s H E).nox (zaV st) g/\∀ds,ds.length=ks.length->EvS (kG ks) some g (inSl ks ds++List.replicate (N.length - ks.length) .un) (c ds)) :
 FnOk P w K mg base CX0 (k+1) f fd ps (pcS Pc (spG K ks c)):=by
 refine F.okC S (λvs H Q E h=>?_) (λcdv A outer s H vs Q E hcv hr h=>?_)
 .obtain⟨_,J,ds,r,es,fp,ja,a,e,w⟩:=h;rw[a.l1,hks]
 .obtain⟨hPc,J,ds,r,es,fp,ja,a,e,w⟩:=h;obtain⟨g,⟨t,p,q⟩,ev⟩:=hbody cdv A outer s H E hcv hr hPc (Prs.of pe hPc);refine⟨t,p,?_⟩;have s0:=zfW (N:=N) ja a
  have e:=ev ds a.l2 (r,es) (by rw[e];rfl)
  cases z:g (inSl ks ds++List.replicate (N.length - ks.length) .un) with
 |none=>rw[z] at e;cases e
 |some o=>
    rw[z] at e;refine q H J _ _ _ H J o _ s0 z ?_;cases o with
   |nx Z'=>
      obtain⟨es',e1,e⟩:=bind_some (show((outSl ks Z').bind λes=>some (RV.told D.non,es))=some (r,es) from e);cases e;intro Y' H' J' s' k';obtain⟨fp',pg⟩:=zlJ (v:=.non) (r:=.told .non) a s' .non e1;exact w _ _ _ _ pg
   |ret r' Z'=>
      obtain⟨es',e1,e⟩:=bind_some (show((outSl ks Z').bind λes=>some (r',es))=some (r,es) from e);cases e;intro v Y' H' J' s' q';obtain⟨fp',pg⟩:=zlJ a s' q' e1;exact w _ _ _ _ pg
   |bk _=>cases e
   |ct _=>cases e
structure TabF (K:W.Frag)(mg:Str->Option Value)(base:Heap)(fd:FuncData)(P:Addr):Prop where
 ex:∃c bm ob,fd.code=.ref c/\CodeK K c P/\BMod base mainGlobals mg bm ob
def zgZ {X:Cx}{fd:FuncData}{P:Addr}{q:Str}(T:TabF X.K X.mg X.base fd P)(hc:fd.code=X.env.code)(h:TabH P q X.Hz):TabX X q:=by
 obtain⟨c,bm,ob,e1,e2,e3⟩:=T.ex;exact⟨c,P,bm,ob,by rw[<-hc];exact e1,e2,e3,h⟩
end
end VD
namespace L2
open PySem PySem.Spec PyProof PyProof.Rows
section
variable {X:Cx}
end
end L2
namespace VD
open PySem PySem.Spec PyProof PyProof.Rows L2 PySem.W
section
variable {X:Cx}{a b e:Expr}{fa fb:FE}
end
end VD
namespace HT
open PySem PySem.Spec PyProof PyProof.Rows
section
variable {prog:Program}{w:World}{A:Around}{E:Value->Shared->Prop}{s:Shared}
end
end HT
namespace L2
open PySem PySem.Spec PyProof PyProof.Rows
section
variable {X:Cx}
end
end L2
namespace VD
open PySem PySem.Spec PyProof PyProof.Rows L2 PySem.W
section
variable {X:Cx}{a:Expr}{fa:FE}{p2 pos:Pos}
end
end VD
namespace VD
open PySem PySem.Spec PyProof PyProof.Rows L2
def ix2C (xs:List D)(k:D):Option D:=(dInt k).bind λk=>(atI xs k).bind λd=>match d with|.lst es=>some (.lst es)|_=>none
def zlZ (xs:List D)(es:List D)(k:D):Option (List D):=(dInt k).bind λk=>(ixN xs.length k).bind λj=>match xs[j]? with
|some (.lst _)=>some (xs.set j (.lst es))
|_=>none
def zl0 (xs:List D)(k d:D):Option (List D):=(dInt k).bind λk=>(ixN xs.length k).bind λj=>match xs[j]? with
|some (.lst es)=>if es.length<lim then some (xs.set j (.lst (es++[d]))) else none
|_=>none
section
variable {Z:En}{xs:List D}{i:Nat}{fk fv:FE}{f:FA}
def zoq (h:ownD (Z[i]?)=some (2,.lst xs)):Step (zn7 i fk f) Z ((f Z).bind λes=>(fk Z).bind λk=>zlZ xs es k) λys=>setO Z i (.lst ys):=λd z=>by
 obtain⟨es,e0,z⟩:=zac z;obtain⟨k,e1,z⟩:=zac z;obtain⟨kk,e2,z⟩:=zac z;obtain⟨j,e3,z⟩:=zac z;unfold zn7;rw[e0,zOB,e1,zOB,e2,zOB,h];show(ixN xs.length kk).bind _=_
 rw[e3,zOB];split at z
 .rename_i q;cases z;first|rw[q]|rfl
 .cases z
def zor (h:ownD (Z[i]?)=some (2,.lst xs)):Step (zn5 i fk fv) Z ((fk Z).bind λk=>(fv Z).bind λd=>zl0 xs k d) λys=>setO Z i (.lst ys):=λd z=>by
 obtain⟨k,e1,z⟩:=zac z;obtain⟨x,e0,z⟩:=zac z;obtain⟨kk,e2,z⟩:=zac z;obtain⟨j,e3,z⟩:=zac z;unfold zn5;rw[e1,zOB,e2,zOB,e0,zOB,h];show(ixN xs.length kk).bind _=_
 rw[e3,zOB];split at z
 .rename_i es q
  try rw[q]
  split at z
  .rename_i hl;cases z;exact if_pos hl
  .cases z
 .cases z
end
section
variable {S:Type}{emb:S->En}{Z:En}{s:S}{f:FX}{x:Option (D×S)}
end
def zl1 (x k v:D):Option D:=match x with
|.lst xs=>(zp6 xs k v).bind λys=>some (.lst ys)
|_=>none
def zhL {i:Nat}{Z:En}{fk f:FE}{x:D}(h:ownD (Z[i]?)=some (1,x)):Step (gPutL i fk (xE f)) Z ((f Z).bind λv=>(fk Z).bind λk=>zl1 x k v) λy=>setO Z i y:=λd z=>by
 obtain⟨v,e0,z1⟩:=zac z;obtain⟨kk,e1,z2⟩:=zac z1;cases x <;> try cases z2
 rename_i xs
 obtain⟨ys,e2,z3⟩:=zac z2;cases z3;exact zog h ys (by rw[e0,zOB,e1];exact e2)
def newD {S:Type}(q:RV×S):Option (D×S):=match q.1 with
|.new 1 x=>some (x,q.2)
|_=>none
def zj8 {S:Type}{emb:S->En}{Z:En}{i:Nat}{fr:FR}{xr:Option (RV×S)}(h:EvR fr Z xr emb)(hi:∀s,okS i (emb s)=true):Step (gOwnR i fr) Z (xr.bind newD) λq=>(emb q.2).set i (.own 1 q.1):=λq z=>by
 obtain⟨⟨r,s1⟩,e0,z⟩:=zac z;unfold newD at z;split at z
 .rename_i x hr
  cases z;have hr:r=.new 1 x:=hr
  subst hr;unfold gOwnR;rw[h _ e0,zOB];exact if_pos (zdS (hi s1))
 .cases z
end VD
namespace VD
open PySem PySem.Spec PyProof PyProof.Rows L2 PySem.W
section
variable {X:Cx}{a b e e1':Expr}{es:List Expr}{fa fb:FE}{fl:FA}{p pos:Pos}{Pc:Hp->Prop}
end
end VD
namespace VD
open PySem PySem.Spec PyProof PyProof.Rows L2
section
variable {X:Cx}{i b:Expr}{ty:TE}{pos p':Pos}{x:Str}
end
section
variable {X:Cx}{e:Expr}{fa:FE}{fl:FA}{pos pos':Pos}{x:Str}
def vsS (i:Nat)(hN:X.N.Nodup)(h:VE X e fa)(hi:X.N[i]?=some x:=by rfl)(hx:Loc X.env.scope x:=by first|exact Or.inl rfl|exact Or.inr rfl)(hs:swapsWith e (some (.Name x pos')) pos.line X.env=pure false:=by rfl)(hf:X.fn x=true\/X.env.scope.names.lookup x=some .local:=by first|exact .inl rfl|exact .inr rfl|assumption) :
 VS X (.Assign [.Name x pos'] e pos) (gSet i fa):=zpU hN hi hx h hs hf
def vsO (i:Nat)(hN:X.N.Nodup)(h:VN X e fl)(hi:X.N[i]?=some x:=by rfl)(hx:Loc X.env.scope x:=by first|exact Or.inl rfl|exact Or.inr rfl)(hs:swapsWith e (some (.Name x pos')) pos.line X.env=pure false:=by rfl)(hf:X.fn x=true\/X.env.scope.names.lookup x=some .local:=by first|exact .inl rfl|exact .inr rfl|assumption) :
 VS X (.Assign [.Name x pos'] e pos) (gOwn i fl):=zpV hN hi hx h hs hf
def vgN (i:Nat)(hN:X.N.Nodup)(hi:X.N[i]?=some x:=by rfl)(hx:Loc X.env.scope x:=by first|exact Or.inl rfl|exact Or.inr rfl)(hf:X.fn x=true\/X.env.scope.names.lookup x=some .local:=by first|exact .inl rfl|exact .inr rfl|assumption):VG X (.Name x pos) [i] (gN i):=znW hN hi hx hf
def vgc (i:Nat){X:Cx}{scope:Scope}{cl:List (Str×Addr)}{NC:List Str}{C:Addr}{s0:Shared}{H0:Hp}{ex:List Addr}{pn:List (Addr×Obj)}{x:Str}{pos:Pos}(nd:NC.Nodup:=by decide +kernel)(hi:NC[i]?=some x:=by rfl)(hx:scope.names.lookup x=some .local:=by rfl):VG (cxC X scope cl NC C s0 H0 ex pn) (.Name x pos) [i] (gN i):=vgC i nd hi hx
def fsc {N P:List Str}{sc:Scope}(a:sc.kind=.function:=by rfl)(b:sc.isCoroutine=false:=by rfl)(c:sc.isGenerator=false:=by rfl)(d:N.Nodup:=by decide +kernel)(e:N.take P.length=P:=by rfl)(f:∀x∈P,sc.names.lookup x=some .local\/sc.names.lookup x=some .cell:=by decide +kernel)(g:∀y∈sc.names,y.2≠.free:=by decide +kernel):FnScope N P sc:=⟨a,b,c,d,e,f,g⟩
def vnC (N:List Str)(st:Stmt){X:Cx}{elt iter tg:Expr}{ifs:List Expr}{scope:Scope}{pos:Pos}{NC:List Str}(fr:List (Option Nat)){fi:FA}{g:FG}{is:List Nat}{ft:FT}{fe:FE}(hi:VI X tg iter fi)
 (hg:∀{cl C s0 H0 ex pn},VG (cxC X scope cl NC C s0 H0 ex pn) tg is g) (ht:∀{cl C s0 H0 ex pn},VTs (cxC X scope cl NC C s0 H0 ex pn) ifs ft) (he:∀{cl C s0 H0 ex pn},VE (cxC X scope cl NC C s0 H0 ex pn) elt fe)
 (hcalm:X.calm=true:=by rfl) (hcells:∀x,X.env.scope.names.lookup x=some .cell->∃c,X.env.cells.lookup x=some c:=by exact λx h=>zbX h) (hfk:X.env.scope.kind=.function:=by rfl) (hN:X.N=N:=by rfl) (hsc:X.env.scope.names=(zab st).names:=by rfl)
 (hfree':∀y∈scope.names,y.2=.free->(zab st).names.lookup y.1=some .cell:=by decide +kernel) (hcell:∀y∈scope.names,y.2≠.cell:=by decide +kernel) (hkind:scope.kind=.function:=by rfl) (hnames:∀y∈scope.names,y.2=.local->scope.names.lookup y.1=some .local:=by decide +kernel)
 (hfr':zcn N (zab st).names scope.names NC fr=true:=by decide +kernel) (hlen:fr.length=NC.length:=by rfl) (hap:apart is fr=true:=by decide)
 (hs:∀x,foldedSetIterable iter X.env x=pure x:=by intro _;rfl):VN X (.ListComp elt [⟨tg,iter,ifs,0⟩] scope pos) (zfb fr fi g ft fe):=
 znX N st fr hcalm hi hcells hfk hN hsc hfree' hcell hkind hnames hfr' hlen hap (λ_ _ _ _ _ _=>hg) (λ_ _ _ _ _ _=>ht) (λ_ _ _ _ _ _=>he) hs
end
end VD
namespace EX
open PySem PySem.Spec PySem.W PyProof.Rows
section
variable {prog:Program}{w:World}{A:Around}{E:Value->Shared->Prop}{h:Heap}{g:Array GenState}{d:Drawn}{t:Nat}{os:OsState}
variable {nm q:Str}{C N:Addr}{bs bm bmB:List Value}{hdct:Bool}{sn:List Str}{sub:List Value}{ab:Bool}{col:Option Bool}{dd:Option Addr}{k0 k1 k2 k3 k5:Option Value}{B newId initId:String}
def zeJ (F:ExcBaseFacts B newId initId bmB)(T:OwnTail h bmB bm){mN:Str->Option Value}{rest:List Value}{fI:Addr}{oI:Obj}{Q:Fin->Shared->Prop}
 (hC:h.get? C=some (excClassObj nm q C N bs bm hdct sn sub ab col dd k0 k1 k2 k3 k5 newId)) (hn:h.Ns N mN) (hi:mN "__init__"=some (.ref fI))
 (hfI:h.get? fI=some oI) (hfc:oI.cls=.type "function")
 (hq:∀h' e,Heap.MadeExcOf h h' e (.ref C) rest->h.objs.size<=e->
  wpAny (model prog w) A (call (.ref fI) (.ref e::rest)) (λr s'=>r=.none/\Q (.done (.ret (.ref e))) s') E ⟨h',g,d,t,os⟩) (hrest:rest.length<=sizeLine:=by size_fits) :
 wpAny (model prog w) A (Builtin.«type.__call__» ⟨.ref C::rest,[]⟩) Q E ⟨h,g,d,t,os⟩:=by
 repeat (first|with_reducible refine wbe hC ?_|with_reducible refine wpAny_madeBy_exc hC ?_|wp_step)
 refine codeAny_call_builtin_code (wbC _ F.quiet) (wpAny_check_new_subT F T hC ?_);refine codeAny_exc_new_subT F T hC ?_ hrest;show wpAny _ _ _ _ _ _
 have up:∀b o,h.get? b=some o->((h.push {cls:=.type "tuple",data:=.seq rest.toArray}).push {cls:=.ref C,data:=.fields #[.ref h.objs.size,.none,.none,.none,.bool false,.none]}).get? b=some o:=λb o e=>wab _ (wab _ e)
 have hC1:=up _ _ hC
 have hfI1:=up _ _ hfI
 have hn1:=hn.keeps up
 have T1:=T.keeps up
 have hget:((h.push {cls:=.type "tuple",data:=.seq rest.toArray}).push
  {cls:=.ref C,data:=.fields #[.ref h.objs.size,.none,.none,.none,.bool false,.none]}).get? (h.objs.size+1)=some
  {cls:=.ref C,data:=.fields #[.ref h.objs.size,.none,.none,.none,.bool false,.none]}:=by heap_get
 have hcC:(Value.ref C::bm).contains (.ref C)=true:=by simp
 unfold isInstance;repeat (first|with_reducible refine wbe hget ?_|(with_reducible refine wcg hC1 ?_;rw[hcC])|wp_step)
 show wpAny _ _ (typeLookup (.ref C) _) _ _ _
 refine wpAny_typeLookup_tail hC1 hn1 T1 F.mroIs F.init.lookup ?_;rw[hi];refine waY (waa ?_);unfold bindSpecial;refine waa (wcK (T:="function") ⟨_,hfI1,hfc⟩ ?_);rw[if_pos (by decide)];refine wad (waa (was (hq _ (h.objs.size+1) ⟨up,wbp (wbN _),h.objs.size,hget,wbp (wan _),?_⟩ (wbN _)) (λr s' hr=>?_) λ_ _ x=>x))
 .exact wab _ (wbZ rfl rfl)
 .obtain⟨rfl,hQ⟩:=hr;wp_walk
  exact hQ
def zj9 (F:ExcBaseFacts B newId initId bmB)(T:OwnTail h bmB bm){mN:Str->Option Value}{rest:List Value}{fI:Addr}{oI:Obj}{Q:Value->Shared->Prop}
 (hC:h.get? C=some (excClassObj nm q C N bs bm hdct sn sub ab col dd k0 k1 k2 k3 k5 newId)) (hn:h.Ns N mN) (hi:mN "__init__"=some (.ref fI))
 (hfI:h.get? fI=some oI) (hfc:oI.cls=.type "function")
 (hq:∀h' e,Heap.MadeExcOf h h' e (.ref C) rest->h.objs.size<=e->
  wpAny (model prog w) (A.under (.builtin "type.__call__" ⟨.ref C::rest,[]⟩)) (call (.ref fI) (.ref e::rest)) (λr s'=>r=.none/\Q (.ref e) s') E ⟨h',g,d,t,os⟩) (hrest:rest.length<=sizeLine:=by size_fits) :
 wpAny (model prog w) A (call (.ref C) rest) Q E ⟨h,g,d,t,os⟩:=by
 have f1:=tc_lookup
 have f2:=tc_bind (.ref C)
 have hT:(⟨h,g,d,t,os⟩:Shared).TypeIs (.ref C) "type":=⟨_,hC,rfl⟩
 refine wch (wcE ?_);show wpAny _ _ (callAny (.ref C) _) _ _ _
 repeat (any_goals (first|assumption|with_reducible refine wbe hC ?_|wp_step))
 refine⟨rfl,?_⟩;refine codeAny_call_builtin_at (wbC _ (by decide +kernel)) entry_typeCall (wpAny_check_type_call_sub hC (zeJ (hrest:=hrest) F T hC hn hi hfI hfc λh' e hm=>?_));exact hq h' e hm
end
def zrG:".".intercalate ("ValueError.__init__".cutAt '.').dropLast = "ValueError":=by decide +kernel
def ty_b (s:Shared):s.TypeIs (.builtin "ValueError.__init__") "wrapper_descriptor":=by
 show _=_
 kernel_rfl
def zos:typeOf (.builtin "ValueError.__init__")=pure (.type "wrapper_descriptor"):=by kernel_rfl
def zqk:typeLookup (.type "wrapper_descriptor") "__get__"=pure (some (.builtin "wrapper_descriptor.__get__")):=by rw[typeLookup_type,builtinLookup_eq_fast];kernel_rfl
def zl2:Slot "wrapper_descriptor" "__get__" "wrapper_descriptor.__get__":=.of (owner:="wrapper_descriptor") (n:="__get__") (by rw[typeLookup_type,builtinLookup_eq_fast];kernel_rfl) (by decide +kernel) (by decide +kernel) (by decide +kernel)
 (by first|exact .inl (by decide +kernel)|exact .inr (by decide +kernel)) (by rw[isSubtype_type];kernel_rfl)
def zka:entryFor table "wrapper_descriptor.__get__"=some Builtin.«wrapper_descriptor.__get__»:=entryFor_of_tree (by kernel_rfl)
def zl3 (a b c:Value):argsOk "wrapper_descriptor.__get__" ⟨[a,b,c],[]⟩:=by unfold argsOk;kernel_rfl
section
variable {prog:Program}{w:World}{A:Around}{E:Value->Shared->Prop}{h:Heap}{g:Array GenState}{d:Drawn}{t:Nat}{os:OsState}
variable {nm q:Str}{C N:Addr}{bs bm bmB:List Value}{hdct:Bool}{sn:List Str}{sub:List Value}{ab:Bool}{col:Option Bool}{dd:Option Addr}{k0 k1 k2 k3 k5:Option Value}{B newId:String}
def zkb {so D x:Addr}{l₀ l:List Value}{K:Frag}{ox:Obj}{tk:Tok}{Q:Fin->Shared->Prop}
 (hso:h.get? so=some {cls:=.type "super",dict:=none,data:=.fields #[.ref D,.ref x,.ref C],slots:=#[]}) (hno:Looks (model prog w) h (opaqueClassAbove (.ref C)) none)
 (hC:Looks (model prog w) h (mroOf (.ref C)) l₀) (hl:(l₀.dropWhile (· != .ref D)).drop 1=l) (X:K.In h)
 (hf:alongIn K "__init__" l=some (some (.builtin "ValueError.__init__"))) (hxC:x≠C) (hx:h.get? x=some ox) (hxc:ox.cls=.ref C)
 (hO:h.get? C=some (excClassObj nm q C N bs bm hdct sn sub ab col dd k0 k1 k2 k3 k5 newId)) (hB:bm.contains (.type "ValueError")=true)
 (hq:Q (.done (.ret (.ref h.objs.size))) ⟨h.push {cls:=.type "method-wrapper",data:=.fields #[.builtin "ValueError.__init__",.ref x]},g,d,t,os⟩) :
 wpAny (model prog w) A (Builtin.«super.__getattribute__» ⟨[.ref so,.str "__init__" tk],[]⟩) Q E ⟨h,g,d,t,os⟩:=by
 have hne:(Value.ref x == Value.ref C)=false:=by simp[hxC]
 have hcB:(Value.ref C::bm).contains (.type "ValueError")=true:=by rw[List.contains_cons,hB,Bool.or_true]
 have hdt:({cls:=.type "super",dict:=none,data:=.fields #[.ref D,.ref x,.ref C],slots:=#[]}:Obj).data=.fields #[.ref D,.ref x,.ref C]:=rfl
 have f0:(#[.ref D,.ref x,.ref C]:Array Value)[0]?=some (.ref D):=rfl
 have f1:(#[.ref D,.ref x,.ref C]:Array Value)[1]?=some (.ref x):=rfl
 have f2:(#[.ref D,.ref x,.ref C]:Array Value)[2]?=some (.ref C):=rfl
 have hn:(("__init__":Str) == ("__class__":Str))=false:=by decide
 have hlk:=zqk
 have hTb:∀s:Shared,s.TypeIs (.builtin "ValueError.__init__") "wrapper_descriptor":=λs=>ty_b s
 have hty:=zos
 unfold Builtin.«super.__getattribute__»;repeat (first
 |(with_reducible refine wbb hso hdt f0 ?_)|(with_reducible refine wbb hso hdt f1 ?_)|(with_reducible refine wbb hso hdt f2 ?_)
 |(with_reducible refine ks_wpAny_notOpaque hno ?_)
 |(with_reducible refine Looks.at hC ?_;rw[hl])
 |(refine ks_forIn_along X (λ_ _=>rfl) rfl ?_ hf)
 |(with_reducible refine wcf hty ?_)
 |(with_reducible refine wcf hlk ?_)
 |(with_reducible refine wbO zl2 (hTb _) zka ?_ (zl3 _ _ _))
 |(with_reducible refine wbe hx ?_;rw[hxc])
 |(rw[zrG];with_reducible refine wcg hO ?_;rw[hcB])
 |(with_reducible refine⟨_,rfl,?_⟩)
 |(simp only[hn,hne,Bool.or_false,wbR,if_false])
 |wp_step
 |dsimp only)
 all_goals exact hq
def zdZ {so D x:Addr}{l₀ l:List Value}{K:Frag}{ox:Obj}{pl:Sem Bool}{Q:Value×List Value->Shared->Prop}
 (hso:h.get? so=some {cls:=.type "super",dict:=none,data:=.fields #[.ref D,.ref x,.ref C],slots:=#[]}) (hno:Looks (model prog w) h (opaqueClassAbove (.ref C)) none)
 (hC:Looks (model prog w) h (mroOf (.ref C)) l₀) (hl:(l₀.dropWhile (· != .ref D)).drop 1=l) (X:K.In h)
 (hf:alongIn K "__init__" l=some (some (.builtin "ValueError.__init__"))) (hxC:x≠C) (hx:h.get? x=some ox) (hxc:ox.cls=.ref C)
 (hO:h.get? C=some (excClassObj nm q C N bs bm hdct sn sub ab col dd k0 k1 k2 k3 k5 newId)) (hB:bm.contains (.type "ValueError")=true)
 (hq:Q (.ref h.objs.size,[]) ⟨h.push {cls:=.type "method-wrapper",data:=.fields #[.builtin "ValueError.__init__",.ref x]},g,d,t+1,os⟩) :
 wpAny (model prog w) A (getMethod (.ref so) "__init__" pl) Q E ⟨h,g,d,t,os⟩:=by
 have hlk:=F.ks_slot_super_ga.lookup
 have hcan:=F.ks_canon_super_ga
 have hT:∀t',(⟨h,g,d,t',os⟩:Shared).TypeIs (.ref so) "super":=λ_=>⟨_,hso,rfl⟩
 unfold getMethod;refine waa (wpAny_specialOf (hT _) hlk ?_);show wpAny _ _ (if(Manifest.canonical "super.__getattribute__" != "object.__getattribute__")=true then _ else _) _ _ _
 rw[if_pos hcan];unfold getAttr getAttrBy;refine waa (waa (wpAny_mkText (waY (waa (wcK (hT _) (waa (wcf hlk ?_)))))));show wpAny _ _ (getAttrByItsOwn (.ref so) (.str "__init__" t) (.type "super") (.builtin "super.__getattribute__") true false) _ _ _
 unfold getAttrByItsOwn hookBefore callGetattribute boundAndCalled;refine waa (wcf (show(if onTheHeap (.type "super") then typeLookup (.type "super") "__getattr__" else pure none)=pure none from rfl) ?_);refine waa (wpAny_attempt (waY ?_));show wpAny _ _ (bindSpecial (.builtin "super.__getattribute__") (.ref so) >>= _) _ _ _
 refine waa (wcf (F.ks_slot_super_ga.bind _) ?_);refine was (Q:=λv s'=>v=.ref h.objs.size/\s'=⟨h.push {cls:=.type "method-wrapper",data:=.fields #[.builtin "ValueError.__init__",.ref x]},g,d,t+1,os⟩) (E:=λ_ _=>False)
  (wbO F.ks_slot_super_ga (hT _) F.ks_entry_super_ga (zkb hso hno hC hl X hf hxC hx hxc hO hB ⟨_,rfl,rfl,rfl⟩) (F.ks_gaArgs_super _ _)) (λv s' hv=>?_) λ_ _ z=>z.elim
 obtain⟨rfl,rfl⟩:=hv;exact wad (wad hq)
def zl4 (F:ExcBaseFacts B newId "ValueError.__init__" bmB)(T:OwnTail h bmB bm){b e:Addr}{t0:Addr}{msg:Value}{dx:Option Addr}{R:Result->Shared->Prop}
 (hb:h.get? b=some {cls:=.type "method-wrapper",dict:=none,data:=.fields #[.builtin "ValueError.__init__",.ref e],slots:=#[]})
 (hC:h.get? C=some (excClassObj nm q C N bs bm hdct sn sub ab col dd k0 k1 k2 k3 k5 newId)) (he:h.get? e=some {cls:=.ref C,dict:=dx,data:=.fields #[.ref t0,.none,.none,.none,.bool false,.none]})
 (hq:∀h' tt,(∀b o,b≠e->h.get? b=some o->h'.get? b=some o)->h.get? tt=none->h'.get? e=some {cls:=.ref C,dict:=dx,data:=.fields #[.ref tt,.none,.none,.none,.bool false,.none]}->R (.ok (.ret .none)) ⟨h',g,d,t,os⟩) :
 codeAny (model prog w) A (.call (.ref b) ⟨[msg],[]⟩) R ⟨h,g,d,t,os⟩:=by
 refine wcE ?_;show wpAny _ A.in1 (callAny (.ref b) _) _ _ _
 unfold callAny;refine waa (wpAny_load hb ?_);dsimp only;rw[if_pos (by decide)];show wpAny _ _ (checkBoundCall "ValueError.__init__" ⟨[.ref e,msg],[]⟩ >>= λ_=>again (.builtin "ValueError.__init__" ⟨[.ref e,msg],[]⟩)) _ _ _
 refine waa ?_;have hshort:=F.noStar
 simp only[checkBoundCall,F.initKind,F.initRow];rw[if_pos (by decide)];unfold Bind.checkArgs;repeat (first|wp_step)
 refine⟨wbC _ (by decide +kernel),wcF F.initEntry ?_⟩;rw[wcz F.init.plain _];wp_walk
 have hlt:h.objs.size≠e:=wcJ (waf he)
 refine hq _ h.objs.size (λb o hb hh=>?_) (wbp (wan _)) ?_
 .rw[waE _ _ (Ne.symm hb)];exact wab _ hh
 .rw[waR _ (wab _ he) rfl];rfl
end
structure XC (K:Frag)(C N:Addr)(bm:List Value):Prop where
 obj:∃nm q bs hdct sn sub ab col dd k0 k1 k2 k3 k5,K.lookup C=some (excClassObj nm q C N bs bm hdct sn sub ab col dd k0 k1 k2 k3 k5 "ValueError.__new__")
 tail:∀h:Heap,K.In h->OwnTail h [.type "ValueError",.type "Exception",.type "BaseException",.type "object"] bm
 opq:nsIn K cStatics "thirdparty.any"=some none
 self:mroIn K C (.ref C)=some true
section
variable {prog:Program}{w:World}{A:Around}{E:Value->Shared->Prop}{h:Heap}{g:Array GenState}{d:Drawn}{t:Nat}{os:OsState}
variable {C N:Addr}{bm:List Value}{K:Frag}{env:Env}{body:List Stmt}{p0 p1 ap cp:Pos}{J:Expr}{f cda cc e t0:Addr}{of ocd:Obj}{fd:FuncData}{ar:Arg}{vs:Array Value}{file:Str}{tf:Tok}{mg mb m:Str->Option Value}{dx:Option Addr}
def zkc {b e:Addr}{h:Heap}(hb:h.get? b=some {cls:=.type "method-wrapper",dict:=none,data:=.fields #[.builtin "ValueError.__init__",.ref e],slots:=#[]}){M:Model}:∃k,(k=Keeper.frame\/k=Keeper.machine\/k=Keeper.boundFrame)/\Looks M h (keeperOf (.ref b)) k:=
 ⟨.machine,.inr (.inl rfl),(Looks.ld (part:=none) hb).andThen .now⟩
def zis (X:K.In h)(c:XC K C N bm)(hin:ks_superIn K C C "__init__"=some (some (.builtin "ValueError.__init__")))
 (hk:env.scope.kind=.function) (hks:env.kindOf "super"=some .globalImplicit) (hkc:env.kindOf "__class__"=some .free) (hka:env.kindOf ar.arg=some .local) (hfu:env.func=some f) (hf:h.get? f=some of) (hfd:of.data=.func fd)
 (hp:(fd.params.posonlyargs++fd.params.args).head?=some ar) (hco:env.code=.ref cda) (hcc:h.get? cda=some ocd) (hoc:ocd.data=.fields vs) (hvs:vs[2]?=some (.str file tf)) (hfile:((prog.main.file:Str) == file)=true)
 (htop:(prog.main.scope.names.lookup ("super":Str)).isSome=false) (hG:h.Ns env.globals mg) (hmg:mg "super"=none) (hB:h.Ns env.builtins mb) (hmb:mb "super"=some (.type "super"))
 (hcl:env.cells.lookup ("__class__":Str)=some cc) (hcell:h.IsCell cc (some (.ref C))) (hloc:h.Ns env.locals m) (hself:m ar.arg=some (.ref e))
 (he:h.get? e=some {cls:=.ref C,dict:=dx,data:=.fields #[.ref t0,.none,.none,.none,.bool false,.none]}) (heC:e≠C)
 (hJ:∀(h1:Heap) (tk:Nat) (Q:Value->Shared->Prop),(∀b o,h.get? b=some o->h1.get? b=some o)->(∀h2 x t' tk',(∀b o,h1.get? b=some o->h2.get? b=some o)->Q (.str x t') ⟨h2,g,d,tk',os⟩)->wpAny (model prog w) A (eval J env) Q E ⟨h1,g,d,tk,os⟩)
 (hst:starEach [J] env = [(false,eval J env)]) {pl:Sem Bool}(hE:eval (.Call (.Attribute (.Call (.Name "super" p0) [] [] p1) "__init__" ap) [J] [] cp) env=(do
  let ov <-attributeBase (.Call (.Name "super" p0) [] [] p1) "__init__" env (eval (.Call (.Name "super" p0) [] [] p1) env)
  standAt ap.atName
  let (f,first) <-holding [ov] (getMethod ov "__init__" pl)
  callWith cp f first (backTo cp (starEach [J] env)) []))
 {Q:Value->Shared->Prop}
 (hq:∀h' tt tk,(∀b o,b≠e->h.get? b=some o->h'.get? b=some o)->h'.get? e=some {cls:=.ref C,dict:=dx,data:=.fields #[.ref tt,.none,.none,.none,.bool false,.none]}->Q .none ⟨h',g,d,tk,os⟩) :
 PySem.wpAt (model prog w) A (.func body env) (eval (.Call (.Attribute (.Call (.Name "super" p0) [] [] p1) "__init__" ap) [J] [] cp) env) Q E ⟨h,g,d,t,os⟩:=by
 obtain⟨nm,q,bs,hdct,sn,sub,ab,col,dd,k0,k1,k2,k3,k5,ho⟩:=c.obj;have hC:=X _ _ ho
 refine ks_wpAt_MethodCall (pl:=pl) ?_ hE;refine ks_wpAt_super_base hks hkc (by decide) hfu hf hfd hp hco hcc hoc hvs hfile htop ?_;refine ks_loadName_global hk hks (Calls.loadGlobal_builtin hG hmg hB hmb ⟨rfl,?_⟩);refine wpAny_loadName_free hk hkc hcl hcell ?_;refine wbf hk hka hloc hself ?_;refine ks_wpAny_isType_cls hC rfl ⟨rfl,?_⟩;refine ks_wpAny_call_super hC rfl he rfl (λc z=>by cases z) (looks_mroIn X c.self) λh1 e1 k1'=>?_
 have hx1:=k1' _ _ he
 have hC1:=k1' _ _ hC
 have X1:K.In h1:=X.keeps k1'
 obtain⟨cd,hcd⟩:∃cd,clsIn K C=some cd:=⟨_,by unfold clsIn;rw[ho]⟩
 unfold ks_superIn at hin;rw[hcd] at hin;refine zdZ e1 (looks_opaque X1 c.opq) (l₀:=cd.mro) (λA Q E s k q=>waa ((looks_clsIn X1 hcd) A _ E s k (wad q))) rfl X1 hin heC hx1 rfl hC1 ((c.tail h1 X1).hasType (by decide)) ?_;have up2:∀b o,h1.get? b=some o->(h1.push {cls:=.type "method-wrapper",data:=.fields #[.builtin "ValueError.__init__",.ref e]}).get? b=some o:=λb o z=>wab _ z
 rw[hst];refine callWith_of (P:=λh2=>h2.get? h1.objs.size=some {cls:=.type "method-wrapper",dict:=none,data:=.fields #[.builtin "ValueError.__init__",.ref e],slots:=#[]}) rfl (λh2 z=>zkc z) ?_;refine Calls.evalArgs_plain ?_;refine wbA (hJ _ _ _ (λb o z=>up2 b o (k1' b o z)) λh2 x t' tk' k9=>Calls.spliced_nil ⟨k9 _ _ (wbZ rfl rfl),?_⟩);refine wch (zl4 wca (c.tail _ ((X1.keeps up2).keeps k9)) (k9 _ _ (wbZ rfl rfl)) (k9 _ _ (up2 _ _ hC1)) (k9 _ _ (up2 _ _ hx1)) λh' tt k2 _ he'=>?_);exact hq h' tt _ (λb o hb z=>k2 b o hb (k9 b o (up2 b o (k1' b o z)))) he'
end
open Builtin.ObjectAttr
def zcM:List Value->Bool
|.ref _::r=>zcM r
|l=>l == [.type "ValueError",.type "Exception",.type "BaseException",.type "object"]
def zm8 {P:List Value->Prop}(h0:P [.type "ValueError",.type "Exception",.type "BaseException",.type "object"])(h1:∀c r,P r->P (.ref c::r)):∀{l:List Value},zcM l=true->P l:=by
 intro l;induction l with
|nil=>intro e;cases e
|cons v r ih=>
   intro e;by_cases hv:∃c,v=.ref c
   .obtain⟨c,rfl⟩:=hv;exact h1 c r (ih e)
   .have:v::r = [.type "ValueError",.type "Exception",.type "BaseException",.type "object"]:=by
     cases v <;> first|exact beq_iff_eq.mp e|exact absurd ⟨_,rfl⟩ hv
    rw[this];exact h0
def zkd (self:Value){l:List Value}:zcM l=true->refuseLoop self "__setattr__" l=pure ():=
 zm8 (P:=λl=>refuseLoop self "__setattr__" l=pure ()) (PySem.F.store_ValueError.passes self) λc r e=>(refuseLoop_ref _ _ _ _).trans e
def zql {l:List Value}:zcM l=true->l.contains (.type "object")=true:=
 zm8 (P:=λl=>l.contains (.type "object")=true) (by decide) λc r e=>by rw[List.contains_cons,e,Bool.or_true]
section
variable {prog:Program}{w:World}{A:Around}{E:Value->Shared->Prop}{h:Heap}{g:Array GenState}{d:Drawn}{t:Nat}{os:OsState}
variable {C N x:Addr}{K:Frag}{o:Obj}{name:Str}{v:Value}{Q:Unit->Shared->Prop}{R:Result->Shared->Prop}{s:Shared}
def zot {ox:Obj}{od:Option Obj}{tk:Tok}{r:Option Value}(X:K.In s.heap)(I:InstAt s.heap x ox C od)(hp:(clsIn K C).any (λcd=>zcM cd.mro)=true)(ht:takerIn K C name=some r)
 (h:∀b,wpAny (model prog w) A.in1 (match r with|some a=>setByDescriptor a (.ref x) v|none=>storeInOwnDict (.ref x) (.ref C) (.str name tk) name v b)
  (λfin s'=>match fin with|.done f=>R (.ok f) s'|.again c'=>c'.quiet=true/\codeAny (model prog w) A c' R s') (λe s'=>R (.error e) s') s) :
 codeAny (model prog w) A (.call (.builtin "object.__setattr__") ⟨[.ref x,.str name tk,v],[]⟩) R s:=by
 have SF:=PySem.F.store_object
 obtain⟨cd,hc,ho⟩:=any_some hp;have ne:cd.mro.isEmpty=false:=by cases q:cd.mro with|nil=>rw[q] at ho;cases ho|cons _ _=>rfl
 have sub:Looks (model prog w) s.heap (isInstance (.ref x) (.type "object")) true:=I.type.andThen (looks_mroIn X (by unfold mroIn;rw[hc,zOB,if_neg (by rw[ne];decide),zql ho]))
 refine wbG SF.slot.plain SF.entry (@check_slot (model prog w) _ _ s "object.__setattr__" "object" "__setattr__" (.ref x) [.str name tk,v] [] _ SF.kind SF.split sub (SF.args (.ref x) (.str name tk) v) ?_);obtain⟨attr,ha,hr⟩:=Option.bind_eq_some_iff.mp ht;have hm:Looks (model prog w) s.heap (mroOf (.ref C)) cd.mro:=(looks_clsIn X hc).andThen .now
 have L3:Looks (model prog w) s.heap (storeTaker? attr) r:=by
  cases attr with
 |none=>cases hr;exact .now
 |some a=>
    obtain⟨b,hb,rfl⟩:=wbw.mp hr;refine(looks_takesIn X hb).andThen ?_;cases b <;> exact .now
 rw[osa_eq,refuse_eq];refine waa (waa (I.type.here (waa (hm.here ?_))));rw[zkd _ ho];refine wad (waa (I.type.here (waa ((looks_findIn X ha).here (waa (L3.here ?_))))));exact h _
def zou (X:K.In h)(hx:h.get? x=some o)(hc:o.cls=.ref C)(hno:notCls o=true)(hd:o.dict=none)
 (hs:findIn K (.ref C) "__setattr__"=some (some (.builtin "object.__setattr__"))) (hp:(clsIn K C).any (λcd=>zcM cd.mro)=true) (ht:takerIn K C name=some none) (hh:(clsIn K C).any (·.hasDict)=true)
 (hq:∀h' dx tk',h.objs.size<=dx->dx≠x->h'.get? x=some {o with dict:=some dx}->h'.Ns1 dx (λy=>if y=name then some v else none)->(∀b ob,b≠x->h.get? b=some ob->h'.get? b=some ob)->Q () ⟨h',g,d,tk',os⟩) :
 wpAny (model prog w) A (setAttr (.ref x) name v) Q E ⟨h,g,d,t,os⟩:=by
 have J:InstAt h x o C none:=⟨hx,hc,hno,by rw[hd];trivial⟩
 refine set_plain X J hs (zot (s:=⟨h,g,d,t+1,os⟩) (r:=none) X J hp ht λb=>?_);obtain⟨cd,hcd,hd'⟩:=any_some hh;have hx1:(h.push {cls:=.type "dict",data:=.dict #[]}).get? x=some o:=wab _ hx
 have hxs:x≠h.objs.size:=wax (waf hx)
 refine waa (wad (waa (waa (wpAny_loadPart hx ?_))));rw[hc];refine waa ((looks_clsIn X hcd).here ?_);rw[hd'];dsimp only[Bool.not_true];rw[hd];dsimp only;rw[if_neg (by simp[typeHasDict])];split
 .rename_i q
  cases q
 split
 .rename_i c hcd'
  unfold notCls at hno;rw[hcd'] at hno;cases hno
 refine waa (wpAny_alloc' ?_);refine waa (wpAny_update' hx1 ?_);have hgd:((h.push {cls:=.type "dict",data:=.dict #[]}).update x λo=>{cls:=o.cls,dict:=some h.objs.size,data:=o.data,slots:=o.slots}).get? h.objs.size
  = some {cls:=.type "dict",data:=.dict #[]}:=
  (Heap.get?_update_ne _ _ _ _ hxs.symm).trans (wbZ rfl rfl)
 have hnd:((h.push {cls:=.type "dict",data:=.dict #[]}).update x λo=>{cls:=o.cls,dict:=some h.objs.size,data:=o.data,slots:=o.slots}).Ns h.objs.size (λ_=>none):=
  ⟨_,#[],_,hgd,rfl,λe he=>absurd he (by simp),λ_=>rfl⟩
 refine wad ?_;show wpAny _ _ (storeInDict h.objs.size (.str name _) name v) _ _ _
 unfold storeInDict newKeyGuard;refine waa (wad (waa (wpAny_nsSet1 (Heap.Ns1.of_empty hnd) λh' hn' hs=>?_)));obtain⟨oD,esD,epD,hoD,hdD,hcD⟩:=hn'.count (Within.cons name v Within.nil);refine waa (wpAny_lookBehind hoD (by rw[hdD];exact pastItsLine_dict (wal hcD (by rw[wba,wbV,sizeLine_eq];omega))) ?_);refine wad (hq h' h.objs.size _ (wan _) hxs.symm ?_ hn' λb ob hbx hb=>?_)
 .refine(hs.2 x hxs).trans (waR _ hx1 ?_);have hfr:=(Heap.get?_some_iff.mp hx).2
  obtain⟨oc,od,odt,osl⟩:=o;cases odt <;> first|rfl|exact hfr
 .exact(hs.2 b (wax (waf hb))).trans ((Heap.get?_update_ne _ _ _ _ hbx).trans (wab _ hb))
end
structure XI (prog:Program)(w:World)(K:Frag)(C N fI:Addr)(bm:List Value)(slf x nm:Str)(J:Expr)(fd:FuncData):Prop where
 cls:XC K C N bm
 inC:ks_superIn K C C "__init__"=some (some (.builtin "ValueError.__init__"))
 set:findIn K (.ref C) "__setattr__"=some (some (.builtin "object.__setattr__"))
 und:(clsIn K C).any (λcd=>zcM cd.mro)=true
 tak:takerIn K C nm=some none
 hasD:(clsIn K C).any (·.hasDict)=true
 fn:∃o,K.lookup fI=some o/\o.cls=.type "function"/\o.data=.func fd
 names:∃mN,(∀h:Heap,K.In h->h.Ns N mN)/\mN "__init__"=some (.ref fI)
 code:∀h:Heap,K.In h->h.CodeRec fd.code fd.qualname
 body:∃p0 p1 ap cp q1 q2 q3 q4 q5,fd.body=.stmts [.Expr (.Call (.Attribute (.Call (.Name "super" p0) [] [] p1) "__init__" ap) [J] [] cp) q1,.Assign [.Attribute (.Name slf q2) nm q3] (.Name x q4) q5]/\
  (∀L,interactive (callEnv fd L fI)=false)/\(∀L,swapsWith (.Call (.Attribute (.Call (.Name "super" p0) [] [] p1) "__init__" ap) [J] [] cp) none q1.line (callEnv fd L fI)=pure false)/\
  (∀L,swapsWith (.Name x q4) (some (.Attribute (.Name slf q2) nm q3)) q5.line (callEnv fd L fI)=pure false)/\
  (∀L,starEach [J] (callEnv fd L fI) = [(false,eval J (callEnv fd L fI))])/\
  ∃pl:Addr->Sem Bool,∀L,eval (.Call (.Attribute (.Call (.Name "super" p0) [] [] p1) "__init__" ap) [J] [] cp) (callEnv fd L fI)=(do
   let ov <-attributeBase (.Call (.Name "super" p0) [] [] p1) "__init__" (callEnv fd L fI) (eval (.Call (.Name "super" p0) [] [] p1) (callEnv fd L fI))
   standAt ap.atName
   let (f,first) <-holding [ov] (getMethod ov "__init__" (pl L))
   callWith cp f first (backTo cp (starEach [J] (callEnv fd L fI))) [])
 ne:slf≠x
 dbg:(x == ("__debug__":Str))=false/\(slf == ("__debug__":Str))=false
 par:∃ar:Arg,(fd.params.posonlyargs++fd.params.args).head?=some ar/\ar.arg=slf
 bind:∀(s:Shared) (a b:Value),BindsTo s fd ⟨[a,b],[]⟩ [(slf,a),(x,b)]
 cell:∀z∈fd.scope.names,z.2≠.cell
 loc1:fd.scope.names.lookup slf=some .local
 loc2:fd.scope.names.lookup x=some .local
 flags:fd.scope.isCoroutine=false/\fd.scope.isGenerator=false/\fd.scope.kind=.function
 kinds:∀L,(callEnv fd L fI).kindOf "super"=some .globalImplicit/\(callEnv fd L fI).kindOf "__class__"=some .free/\(callEnv fd L fI).kindOf slf=some .local/\(callEnv fd L fI).kindOf x=some .local
 file:∃cda ocd vs fl tf,fd.code=.ref cda/\K.lookup cda=some ocd/\ocd.data=.fields vs/\vs[2]?=some (.str fl tf)/\((prog.main.file:Str) == fl)=true
 top:(prog.main.scope.names.lookup ("super":Str)).isSome=false
 glob:∀L,(callEnv fd L fI).globals=mainGlobals
 blt:∀L,(callEnv fd L fI).builtins=builtinsNs
 cc:∃cc,(∀L,(callEnv fd L fI).cells.lookup ("__class__":Str)=some cc)/\∀h:Heap,K.In h->h.IsCell cc (some (.ref C))
structure Gx (h:Heap):Prop where
 lim:h.NoLimit
 g:∃mg,h.Ns mainGlobals mg/\mg "super"=none
 b:∃mb,h.Ns builtinsNs mb/\mb "super"=some (.type "super")
theorem Gx.keeps {h h':Heap}(G:Gx h)(k:∀b o,h.get? b=some o->h'.get? b=some o):Gx h':=
 ⟨G.lim.keeps k,let ⟨m,a,b⟩:=G.g;⟨m,a.keeps k,b⟩,let ⟨m,a,b⟩:=G.b;⟨m,a.keeps k,b⟩⟩
section
variable {prog:Program}{w:World}{A:Around}{E:Value->Shared->Prop}{h:Heap}{g:Array GenState}{d:Drawn}{t:Nat}{os:OsState}
variable {C N fI:Addr}{bm:List Value}{slf x nm:Str}{J:Expr}{fd:FuncData}{K:Frag}
def Says (prog:Program)(w:World)(K:Frag)(fd:FuncData)(fI:Addr)(x:Str)(J:Expr)(v:Value)(h0:Heap):Prop:=
 ∀(A:Around) (E:Value->Shared->Prop) (h1:Heap) (g:Array GenState) (d:Drawn) (os:OsState) (tk:Nat) (L:Addr) (m:Str->Option Value) (Q:Value->Shared->Prop),A.guards=some []->A.units+20<cLine->K.In h1->(∀b o,h0.get? b=some o->h1.get? b=some o)->h1.Ns L m->m x=some v->
  (∀h2 y t' tk',(∀b o,h1.get? b=some o->h2.get? b=some o)->Q (.str y t') ⟨h2,g,d,tk',os⟩)->wpAny (model prog w) A (eval J (callEnv fd L fI)) Q E ⟨h1,g,d,tk,os⟩
def Says.later {h':Heap}{v:Value}(a:Says prog w K fd fI x J v h)(k:∀b o,h.get? b=some o->h'.get? b=some o):Says prog w K fd fI x J v h':=
 λA E h1 g d os tk L m Q hg hu z k1=>a A E h1 g d os tk L m Q hg hu z λb o e=>k1 b o (k b o e)
def zke (hgd:A.guards=some [])(hun:A.units+20<cLine)(X:K.In h)(G:Gx h)(c:XI prog w K C N fI bm slf x nm J fd){v:Value}(hJ:Says prog w K fd fI x J v h){L e t0:Addr}{m:Str->Option Value}(hloc:h.Ns L m)(m1:m slf=some (.ref e))(m2:m x=some v)
 (he:h.get? e=some {cls:=.ref C,dict:=none,data:=.fields #[.ref t0,.none,.none,.none,.bool false,.none]}) (heL:e≠L) (heK:K.lookup e=none) {body:List Stmt}(hb:fd.body=.stmts body)
 {Q:Flow->Shared->Prop}
 (hq:∀h' dx tt tk,h'.get? e=some {cls:=.ref C,dict:=some dx,data:=.fields #[.ref tt,.none,.none,.none,.bool false,.none]}->L<dx->h'.Ns1 dx (λy=>if y=nm then some v else none)->
  (∀b o,b≠e->h.get? b=some o->h'.get? b=some o)->Q .next ⟨h',g,d,tk,os⟩) :
 PySem.wpAt (model prog w) A (.func body (callEnv fd L fI)) (execs body (callEnv fd L fI)) Q E ⟨h,g,d,t,os⟩:=by
 obtain⟨p0,p1,ap,cp,q1,q2,q3,q4,q5,hbd,hint,hs1,hs2,hst,pl,hE⟩:=c.body;rw[hbd] at hb;cases hb;obtain⟨of,hf,hfc,hfd⟩:=c.fn;obtain⟨ar,hp,rfl⟩:=c.par;obtain⟨cda,ocd,vs,fl,tf,hco,hcc,hoc,hvs,hfile⟩:=c.file;obtain⟨mg,hG,hmg⟩:=G.g;obtain⟨mb,hB,hmb⟩:=G.b;obtain⟨cc,hcl,hcell⟩:=c.cc;obtain⟨k1,k2,k3,k4⟩:=c.kinds L;have hk:(callEnv fd L fI).scope.kind=.function:=c.flags.2.2
 have heC:e≠C:=by
  rintro rfl;obtain⟨nm,q,bs,hdct,sn,sub,ab,col,dd,k0,k1,k2,k3,k5,ho⟩:=c.cls.obj;rw[heK] at ho;cases ho
 refine ks_wpAt_execs_cons (ks_wpAt_Expr_any ?_ (hint L) (hs1 L));refine zis X c.cls c.inC hk k1 k2 k3 rfl (X _ _ hf) hfd hp hco (X _ _ hcc) hoc hvs hfile c.top (by rw[c.glob L];exact hG) hmg (by rw[c.blt L];exact hB) hmb (hcl L) (hcell _ X) hloc m1 he heC ?_ (hst L) (hE L) ?_
 .intro h1 tk Q1 hk1 hq1;exact hJ A E h1 g d os tk L m Q1 hgd hun (X.keeps hk1) hk1 (hloc.keeps hk1) m2 hq1
 intro h' tt tk hk' he';have X':K.In h':=λb o ho=>hk' b o (λz=>by rw[z,heK] at ho;cases ho) (X b o ho)
 have hloc':h'.Ns L m:=by obtain⟨o,es,ep,a1,a2⟩:=hloc;exact⟨o,es,ep,hk' _ _ heL.symm a1,a2⟩
 dsimp only;refine ks_wpAt_execs_cons (ks_wpAt_Assign_Attr ?_ (hs2 L));refine wpAt_of_wpAny (wcp (wbf hk k4 hloc' m2 ?_) c.dbg.1);refine wcp (wbf hk k3 hloc' m1 ?_) c.dbg.2;refine zou X' he' rfl rfl rfl c.set c.und c.tak c.hasD λh2 dx tk2 hdx hne he2 hns2 hk2=>?_
 dsimp only;refine wpAt_of_wpAny (wad (hq h2 dx tt tk2 he2 ?_ hns2 λb o hb z=>hk2 b o hb (hk' b o hb z)));obtain⟨o,es,ep,a1,a2⟩:=hloc';exact wam (waf a1) hdx
def zl5 (hgd:A.guards=some [])(hun:A.units+40<cLine)(X:K.In h)(G:Gx h)(c:XI prog w K C N fI bm slf x nm J fd){v:Value}(hJ:Says prog w K fd fI x J v h)(hroom:A.depth+1<recursionLimit)
 {Q:Value->Shared->Prop}
 (hq:∀h' e dx tt tk,h.objs.size<=e->h'.get? e=some {cls:=.ref C,dict:=some dx,data:=.fields #[.ref tt,.none,.none,.none,.bool false,.none]}->h.objs.size<=dx->h'.Ns1 dx (λy=>if y=nm then some v else none)->
  (∀b o,h.get? b=some o->h'.get? b=some o)->Q (.ref e) ⟨h',g,d,tk,os⟩) :
 wpAny (model prog w) A (call (.ref C) [v]) Q E ⟨h,g,d,t,os⟩:=by
 obtain⟨of,hf,hfc,hfd⟩:=c.fn;obtain⟨mN,hN,hmN⟩:=c.names;obtain⟨nm',q,bs,hdct,sn,sub,ab,col,dd,k0,k1,k2,k3,k5,ho⟩:=c.cls.obj;refine zj9 wca (c.cls.tail h X) (X _ _ ho) (hN h X) hmN (X _ _ hf) hfc λh1 e M hse=>?_
 obtain⟨up,hne,t0,he,ht0,htt⟩:=M;have X1:K.In h1:=X.keeps up
 obtain⟨p0,p1,ap,cp,q1,q2,q3,q4,q5,hbd,-⟩:=c.body;refine wch (ks_codeAny_call_defAt ?_ (X1 _ _ hf) hfd (G.keeps up).lim (c.code _ X1) hbd (c.bind _ _ _) c.cell ?_ ?_ c.flags.1 c.flags.2.1 c.flags.2.2)
 .first|exact Nat.lt_of_succ_lt hroom|exact hroom
 .intro z hz;simp only[wah,wcx,or_false] at hz;rcases hz with rfl|rfl
  .exact c.loc1
  .exact c.loc2
 intro h2 hns hk2;have X2:K.In h2:=X1.keeps hk2
 have heK:K.lookup e=none:=by
  cases hz:K.lookup e with
 |none=>rfl
 |some o=>rw[X _ _ hz] at hne;cases hne
 refine zke (by first|exact hgd|(show(A.under _).guards=_;first|exact hgd|simp[hgd])) (by show(A.under _).units+3+20<cLine;rw[L2.make_units];omega) X2 ((G.keeps up).keeps hk2) c (hJ.later λb o z=>hk2 b o (up b o z)) hns ?_ ?_ (hk2 _ _ he) (wax (waf he)) heK hbd ?_
 .have:(slf == x)=false:=by simpa using c.ne
  simp[List.lookup,this]
 .simp[List.lookup]
 intro h' dx tt tk he' hdx hns' hk';refine⟨rfl,hq h' e dx tt tk hse he' ?_ hns' λb o z=>?_⟩
 .exact wbg (wbB (wal hse (wbg (waf he))) hdx)
 .refine hk' b o (λz'=>?_) (hk2 _ _ (up _ _ z));rw[z',hne] at z;cases z
end
end EX
namespace EX
open PySem PySem.Spec PyProof.Rows L2
def XAt (h0:Heap)(H:Hp)(h:Heap)(e:Addr)(cls:Value)(dx:Option Addr):Prop:=
 h0.objs.size<=e/\H e=none/\(∀d,dx=some d->h0.objs.size<=d)/\∃vs sl,h.get? e=some ⟨cls,dx,.fields vs,sl⟩ /\(vs[1]?=some .none\/∃T oT ts,vs[1]?=some (.ref T)/\T≠e/\h0.objs.size<=T/\H T=none/\h.get? T=some oT/\oT.data=.fields ts/\ts[3]?=some .none)
structure LeftX (h0:Heap)(H:Hp)(l:List Env)(base h h':Heap)(e:Addr)(cls:Value)(dx:Option Addr):Prop where
 funs:h'.FunFrames base l
 size:h.objs.size<=h'.objs.size
 keep:∀b o,h.get? b=some o->(b<h0.objs.size\/H b≠none)->b∉frs l->h'.get? b=some o
 slot:∀b o,h.get? b=some o->(b<h0.objs.size\/H b≠none)->∃sl,h'.get? b=some {o with slots:=sl}
 at_:XAt h0 H h' e cls dx
section
variable {M:Model}{A:Around}{E:Value->Shared->Prop}{s:Shared}{h0 base:Heap}{H:Hp}{env:Env}{outer:List Env}{L e:Addr}{cls:Value}{dx:Option Addr}{vs:Array Value}{sl:Array (Option Value)}
def zf3 {head:Value}{hadNext:Bool}{Q:Unit->Shared->Prop}(hfr:A.frames=some (env::outer))(hl:s.heap.FunFrames base (env::outer))(hf:env.frame=some L)
 (e0:h0.objs.size<=e) (eH:H e=none) (eD:∀d,dx=some d->h0.objs.size<=d) (he:s.heap.get? e=some ⟨cls,dx,.fields vs,sl⟩) (hsz:1<vs.size) (hz:h0.objs.size<=s.heap.objs.size) (hH:∀b,s.heap.objs.size<=b->H b=none)
 (h:∀h',LeftX h0 H (env::outer) base s.heap h' e cls dx->Q () {s with heap:=h'}) :
 wpAny M A (do let a <-frameOf env;let pl <-entryPlaceOf L hadNext;let b <-EntryCells.newEntry head a .none (rawInt L) .none pl;setField (.ref e) 1 b) (λ_ s'=>wpAny M A (setFlight (.ref e) none) Q E s') E s:=by
 have hene:e∉(env::outer).filterMap (·.frame):=λhm=>by
  obtain⟨_,o,ho,hnf⟩:=hl.mem hm;rw[he] at ho;injection ho with ho;subst ho;exact hnf vs rfl
 refine waa (wpAny_frameOf_fun hfr hl hf λh₁ hs1=>?_);refine waa (wpAny_entryPlaceOf λpl hpl=>?_);unfold EntryCells.newEntry newFields;refine waa (wbk ?_ (hpl.sizeOk5 _ _ _ _ _));have he1:h₁.get? e=some ⟨cls,dx,.fields vs,sl⟩:=(hs1.2.1 e hene).trans he
 have he2:=wab (h:=h₁) {cls:=.type "traceback",dict:=none,data:=.fields ([head,.ref L,.none,rawInt L,.none]++(if pl.isEmpty then List.replicate 6 Value.none else pl)).toArray} he1
 refine wcd he2 rfl hsz ?_;have hTe:h₁.objs.size≠e:=wcJ (waf he1)
 have hd3:=wbn (o:=⟨cls,dx,.fields vs,sl⟩) rfl (·.setIfInBounds 1 (Value.ref h₁.objs.size))
 have he3:=waR (Obj.mapFields (·.setIfInBounds 1 (Value.ref h₁.objs.size))) he2 (wbU hd3)
 have hT3:=(waE (h₁.push {cls:=.type "traceback",dict:=none,data:=.fields ([head,.ref L,.none,rawInt L,.none]++(if pl.isEmpty then List.replicate 6 Value.none else pl)).toArray})
  (Obj.mapFields (·.setIfInBounds 1 (Value.ref h₁.objs.size))) (Ne.symm hTe)).trans (war h₁ rfl)
 unfold setFlight;refine waa (wbb he3 hd3 (x:=.ref h₁.objs.size) (by simp[hsz]) ?_);rw[if_pos (show(Value.ref h₁.objs.size != Value.none)=true from by simp)];refine wcd hT3 rfl (by simp only[wac,wap,wba,wbV] <;> omega) (h _ ?_);have keep:∀b o,b≠e->h₁.get? b=some o->
  (((h₁.push {cls:=.type "traceback",dict:=none,data:=.fields ([head,.ref L,.none,rawInt L,.none]++(if pl.isEmpty then List.replicate 6 Value.none else pl)).toArray}).update e (Obj.mapFields (·.setIfInBounds 1 (Value.ref h₁.objs.size)))).update h₁.objs.size
    (Obj.mapFields (·.setIfInBounds 3 ((none:Option Addr).elim Value.none λf=>rawInt f)))).get? b=some o:=λb o hbe hb=>by
  have hbT:h₁.objs.size≠b:=wcJ (waf hb)
  rw[waE _ _ hbT,waE _ _ (Ne.symm hbe)];exact wab _ hb
 have noRecord:∀b o,s.heap.get? b=some o->(∀vs,o.data≠.fields vs)->b≠e:=λb o hb hnf q=>by
  rw[q,he] at hb;injection hb with hb;subst hb;exact hnf vs rfl
 have ne:∀b,(b<h0.objs.size\/H b≠none)->b≠e:=λb z q=>by rw[q] at z;exact z.elim (λz=>absurd z (Nat.not_lt.mpr e0)) λz=>z eH
 have hn0:h0.objs.size<=h₁.objs.size:=by rw[hs1.1];exact hz
 refine⟨hl.of_keeps λb o hb hnf=>?_,?_,λb o hb z hbf=>keep b o (ne b z) ((hs1.2.1 b hbf).trans hb),λb o hb z=>?_,e0,eH,eD,?_⟩
 .obtain⟨sl,hs⟩:=hs1.2.2 b o hb;exact⟨_,keep b _ (noRecord b o hb hnf) hs,rfl⟩
 .rw[wby,wby,wbE,hs1.1];exact wbN _
 .obtain⟨sl,hs⟩:=hs1.2.2 b o hb;exact⟨sl,keep b _ (ne b z) hs⟩
 .refine⟨vs.setIfInBounds 1 (.ref h₁.objs.size),sl,?_,.inr ⟨h₁.objs.size,_,_,by simp[hsz],hTe,hn0,hH _ (by rw[hs1.1];exact wan _),waR _ hT3 (wbU (wbn rfl _)),wbn rfl _,by first|(simp;done)|(rcases hpl with rfl|⟨_,_,_,_,_,_,_,rfl⟩ <;> simp)⟩⟩;rw[waE _ _ hTe];exact he3
def zqm {Q:Unit->Shared->Prop}(hfr:A.frames=some (env::outer))(hl:s.heap.FunFrames base (env::outer))(hf:env.frame=some L)(X:XAt h0 H s.heap e cls dx)
 (hz:h0.objs.size<=s.heap.objs.size) (hH:∀b,s.heap.objs.size<=b->H b=none)
 (h:∀h',LeftX h0 H (env::outer) base s.heap h' e cls dx->Q () {s with heap:=h'}):wpAny M A (noteFrame (.ref e) env) (λ_ s'=>wpAny M A (setFlight (.ref e) none) Q E s') E s:=by
 obtain⟨e0,eH,eD,vs,sl,he,h1|⟨T,oT,ts,h1,hTe,hnT,HT,hT,hdT,h3⟩⟩:=X
 .unfold noteFrame;simp only[hf];refine waa (wbb he rfl h1 ?_);rw[if_neg (by decide)];exact zf3 hfr hl hf e0 eH eD he (waW.mp h1).1 hz hH h
 .unfold noteFrame;simp only[hf];refine waa (wbb he rfl h1 ?_);rw[if_pos (show(Value.ref T != Value.none)=true from by simp)];refine waa (wbb hT hdT h3 ?_);rw[if_neg (show ¬((Value.none == rawInt L)=true) from by simp[rawInt])];refine waa (wcd hT hdT (waW.mp h3).1 ?_);have other:∀b,b≠T->(s.heap.update T (Obj.mapFields (·.setIfInBounds 3 Value.none))).get? b=s.heap.get? b:=λb hb=>waE _ _ (Ne.symm hb)
  have noRecord:∀b o,s.heap.get? b=some o->(∀vs,o.data≠.fields vs)->b≠T:=λb o hb hnf q=>by
   rw[q,hT] at hb;injection hb with hb;subst hb;exact hnf ts hdT
  have ne:∀b,(b<h0.objs.size\/H b≠none)->b≠T:=λb z q=>by rw[q] at z;exact z.elim (λz=>absurd z (Nat.not_lt.mpr hnT)) λz=>z HT
  refine zf3 hfr (hl.of_keeps λb o hb hnf=>⟨o,(other b (noRecord b o hb hnf)).trans hb,rfl⟩) hf e0 eH eD ((other e (Ne.symm hTe)).trans he) (waW.mp h1).1
   (by show _<=(s.heap.update T _).objs.size;rw[wby];exact hz) (λb hb=>hH b (by rw[<-wby s.heap T];exact hb))
   λh' ⟨x1,x2,x3,x4,x5⟩=>h h' ⟨x1,by rw[<-wby s.heap T];exact x2,λb o hb z hbf=>x3 b o ((other b (ne b z)).trans hb) z hbf,λb o hb z=>x4 b o ((other b (ne b z)).trans hb) z,x5⟩
def zqn {Q:Unit->Shared->Prop}(hfr:A.frames=some (env::outer))(hl:s.heap.FunFrames base (env::outer))(hf:env.frame=some L)(X:XAt h0 H s.heap e cls dx)
 (hz:h0.objs.size<=s.heap.objs.size) (hH:∀b,s.heap.objs.size<=b->H b=none)
 (h:∀h',LeftX h0 H (env::outer) base s.heap h' e cls dx->Q () {s with heap:=h'}):wpAny M A (leaving env (.ref e)) Q E s:=waa (zqm hfr hl hf X hz hH h)
end
def CXE (P:Program)(w:World):CXT:=λouter H s E e s'=>∃a cls dx H',e=.ref a/\XAt s.heap H' s'.heap a cls dx/\s'.os=s.os/\AllBare s'.gens/\Un (frs outer) [] H H' s.heap s'.heap/\HOk P w H' s'.heap/\E cls dx H'
def Leaves (X:Cx)(E:XK):Prop:=∀(pins:List (Addr×Obj)) (Y:L2.St) (H:Hp) (s:Shared) (a:Addr) (cls:Value) (dx:Option Addr),Inv X pins Y H s->XAt X.s₀.heap H s.heap a cls dx->E cls dx H->X.xe (.ref a) s
def XAt.older {h0 h1:Heap}{H:Hp}{h:Heap}{e:Addr}{cls:Value}{dx:Option Addr}(x:XAt h1 H h e cls dx)(hz:h0.objs.size<=h1.objs.size):XAt h0 H h e cls dx:=by
 obtain⟨e0,eH,eD,vs,sl,he,h1|⟨T,oT,ts,h1,hTe,hnT,HT,hT,hdT,h3⟩⟩:=x
 .exact⟨wal hz e0,eH,λd z=>wal hz (eD d z),vs,sl,he,.inl h1⟩
 .exact⟨wal hz e0,eH,λd z=>wal hz (eD d z),vs,sl,he,.inr ⟨T,oT,ts,h1,hTe,wal hz hnT,HT,hT,hdT,h3⟩⟩
def zkf {X:Cx}{pins:List (Addr×Obj)}{Y:L2.St}{H:Hp}{s s':Shared}{E:XK}{e:Value}(I:Inv X pins Y H s)(h:CXE X.prog X.w X.stack H s E e s') :
 ∃a cls dx H',e=.ref a/\Inv X pins Y H' s'/\XAt s.heap H' s'.heap a cls dx/\E cls dx H':=by
 obtain⟨a,cls,dx,H',rfl,x,os,bare,un,hok,q⟩:=h;exact⟨a,cls,dx,H',rfl,I.call' (ch:=[]) os un hok bare (λb z=>absurd z (by simp)),x,q⟩
def Leaves.passes {X:Cx}{E:XK}(h:Leaves X E):zho (CXE X.prog X.w) X E:=by
 intro pins Y H s e s' I hc;obtain⟨a,cls,dx,H',rfl,J,x,q⟩:=zkf I hc;exact h pins Y H' s' a cls dx J (x.older I.sz) q
def zf4 {P:Program}{w:World}{K:W.Frag}{mg:Str->Option Value}{base:Heap}{N:List Str}{qual:Str}{scope:Scope}{f:Addr}{cd:Value}{A:Around}{outer:List Env}{s:Shared}{H:Hp}{E:XK} :
 Leaves (cxOf (CXE P w) P w K mg base N qual scope f cd A outer s H E) E:=by
 intro pins Y H1 s1 a cls dx I x q;have nl:∀b,b<s.heap.objs.size->b∉frs outer->b∉frs (envOfC qual scope s.heap.objs.size f cd::outer):=λb hb hn hm=>by
  rcases wah.mp (I.stkSub b hm) with z|z
  .exact absurd hb (Nat.not_lt.mpr (by rw[z];exact I.ok.above))
  .exact hn z
 refine zqn (M:=model P w) (h0:=s.heap) (H:=H1) I.ok.frames I.stack rfl x I.sz (λb hb=>I.hok.fresh hb) λh' L=>?_
 refine⟨a,cls,dx,H1,rfl,L.at_,I.os,I.bare,⟨λb o e n hf hx=>?_,λb o e n hf hx=>?_,I.base.free,λb o e hx=>?_,I.base.tups,I.base.frzs,I.base.tbls⟩,λb u e=>?_,q⟩
 .exact L.keep b o (I.base.keep b o e n hf hx) (.inl (waf e)) (nl b (waf e) hf)
 .obtain⟨sl,z⟩:=I.base.slot b o e n hf hx;obtain⟨sl',z'⟩:=L.slot b _ z (.inl (waf e));exact⟨sl',z'⟩
 .obtain⟨o',z⟩:=I.base.there b o e hx;obtain⟨sl',z'⟩:=L.slot b _ z (.inl (waf e));exact⟨_,z'⟩
 .refine(I.hok b u e).stay (λc v hc q=>L.keep c v q ?_ ?_) (λ_ q=>q) λ_ _ _ q=>q
  .rcases hc with z|z
   .rw[z,e];exact .inr (by simp)
   .rw[z];exact .inr (by simp)
  .intro hm;have:=I.stkFree c hm
   rcases hc with z|z
   .rw[z,e] at this;cases this
   .rw[z] at this;cases this
section
variable {M:Model}{A:Around}{E:Value->Shared->Prop}{env:Env}
variable {nm q:Str}{C N:Addr}{bs bm:List Value}{hdct:Bool}{sn:List Str}{sub:List Value}{ab:Bool}{col:Option Bool}{dd:Option Addr}{k0 k1 k2 k3 k5:Option Value}{newId:String}
def zeT {s:Shared}{x:Sem Value}{Q:Flow->Shared->Prop}(hbase:bm.contains (.type "BaseException")=true)(hh:A.handled=none)
 (h:wpAny M A x (λv s₁=>∃e t dx,v=.ref e/\s₁.heap.get? C=some (excClassObj nm q C N bs bm hdct sn sub ab col dd k0 k1 k2 k3 k5 newId)/\
  s₁.heap.get? e=some {cls:=.ref C,dict:=dx,data:=.fields #[.ref t,.none,.none,.none,.bool false,.none]}/\E (.ref e) s₁) E s) :
 wpAny M A (raiseStmt env (some x) none) Q E s:=by
 have hcB:(Value.ref C::bm).contains (.type "BaseException")=true:=by rw[List.contains_cons,hbase,Bool.or_true]
 unfold raiseStmt;refine waa (was h (λv s₁ h₁=>?_) λ_ _ x=>x);obtain⟨e,t,dx,rfl,hC,he,hE⟩:=h₁;obtain⟨hp,g,d,tk,os⟩:=s₁;repeat (first|with_reducible refine wbe he ?_|with_reducible refine wbe hC ?_|(with_reducible refine wcg hC ?_;rw[hcB])|wp_step)
 exact wpAny_raiseNew_none hh hE
end
section
variable {X:Cx}{C N fI:Addr}{bm:List Value}{slf x nm cn:Str}{J e:Expr}{fd:FuncData}{te:TA}{E:XK}{np cp pos:Pos}{k:Nat}
def zqo (C:Addr)(nm:Str)(E:XK)(SJ:V->Hp->Prop)(te:TA):TS:=λD Y H=>te Y H λvs H1=>∃v,vs = [v]/\SJ v H1/\∀dx,H1 dx=none->E (.ref C) (some dx) (upd H1 dx (.xd [(nm,v)]))
def zl6 {SJ:V->Hp->Prop}(c:XI X.prog X.w X.K C N fI bm slf x nm J fd)(hsup:X.mg "super"=none)(hg:Gl X cn)(hm:X.mg cn=some (.ref C))(hk:W.keepIn X.K (.ref C)=true)(hB:bm.contains (.type "BaseException")=true)
 (hr:Room (k+1) X.A) (hL:Leaves X E) (ha:PA X [e] te) (hJ:∀(pins:List (Addr×Obj)) (Y:L2.St) (H:Hp) (s:Shared) (v:V) (u:Value),Inv X pins Y H s->RelV v u->SJ v H->Says X.prog X.w X.K fd fI x J u s.heap)
 (hdb:(cn == ("__debug__":Str))=false:=by decide) (he:starEach [e] X.env=(false,eval e X.env)::starEach [] X.env:=by rfl) :
 PS X (.Raise (some (.Call (.Name cn np) [e] [] cp)) none pos) (zqo C nm E SJ te):=by
 intro pins s Y H D I h;obtain⟨nm',q,bs,hdct,sn,sub,ab,col,dd,k0,k1,k2,k3,k5,ho⟩:=c.cls.obj;show wpAny (model X.prog X.w) X.A (do standAt pos;raiseStmt X.env (some (do let v <-eval (.Call (.Name cn np) [e] [] cp) X.env;standAt pos;pure v)) none) _ X.xe s
 refine waa (waZ (zeT (C:=C) (nm:=nm') (q:=q) (N:=N) (bs:=bs) (bm:=bm) (hdct:=hdct) (sn:=sn) (sub:=sub) (ab:=ab) (col:=col) (dd:=dd) (k0:=k0) (k1:=k1) (k2:=k2) (k3:=k3) (k5:=k5) (newId:="ValueError.__new__") hB hr.hd (waa ?_)));refine waG (zcD I hg hm ?_ hdb);refine wcl (h₀:=X.base) I.ok.mod.kin hk (thn (ha cp pins s Y H _ I h) λus s1 ⟨vs,H1,I1,r,v,ev,sj,q⟩=>⟨I1.kIn,?_⟩) he rfl;subst ev;rcases r with _|⟨r1,r2⟩
 rcases r2 with _|_
 obtain⟨h1,g,d,t,os⟩:=s1;have G:Gx h1:=⟨I1.nolimit,⟨X.mg,I1.mod.glob.keeps I1.bk,hsup⟩,let ⟨mb,a,b⟩:=I1.mod.blt;⟨mb,a.keeps I1.bk,(b "super" (by decide)).trans (by decide +kernel)⟩⟩
 refine zl5 hr.gd (by have:=hr.un;omega) I1.kIn G c (hJ _ _ _ _ _ _ I1 r1 sj) (by have:=hr.dp;omega) λh' e' dx tt tk he he' hd hns hkp=>?_
 refine waa (waZ (wad ⟨e',tt,some dx,rfl,hkp _ _ (I1.kIn _ _ ho),he',?_⟩));have hne:e'≠dx:=by
  rintro rfl;obtain⟨o,es,ep,a1,a2,-⟩:=hns;rw[he'] at a1;cases a1;cases a2
 refine hL pins Y (upd H1 dx (.xd [(nm,v)])) _ e' (.ref C) (some dx) (I1.laid hkp hd ⟨_,hns,λf=>?_⟩) ⟨wal I1.sz he,?_,λd z=>by cases z;exact wal I1.sz hd,_,_,he',.inl rfl⟩ (q dx (I1.hok.fresh hd))
 .by_cases hf:f=nm
  .subst hf;simp[List.lookup,RelO,r1]
  .have:(f == nm)=false:=by simpa using hf
   simp[List.lookup,RelO,this,hf]
 .unfold upd;rw[if_neg hne];exact I1.hok.fresh he
end
def XP (X:Cx)(pins:List (Addr×Obj))(Y:L2.St)(E:XK)(e:Value)(s':Shared):Prop:=∃H1 s1,Inv X pins Y H1 s1/\CXE X.prog X.w X.stack H1 s1 E e s'
section
variable {X:Cx}{pins:List (Addr×Obj)}{Y:L2.St}{E:XK}{e:Value}{s':Shared}{Ex:Value->Shared->Prop}
def zl7 {Q:Unit->Shared->Prop}(hst:X.stack=X.env::X.outer)(hf:X.env.frame=some X.env.locals)(h:XP X pins Y E e s')(hq:∀h',XP X pins Y E e {s' with heap:=h'}->Q () {s' with heap:=h'}) :
 wpAny (model X.prog X.w) X.A (noteFrame e X.env) (λ_ s2=>wpAny (model X.prog X.w) X.A (setFlight e none) Q Ex s2) Ex s':=by
 obtain⟨H1,s1,I1,hc⟩:=h;obtain⟨_,_,_,_,_,J,_,_⟩:=zkf I1 hc;obtain⟨a,cls,dx,H',rfl,x,os,bare,un,hok,q⟩:=hc;have hz:s1.heap.objs.size<=s'.heap.objs.size:=by
  obtain⟨e0,_,_,vs,sl,he,_⟩:=x;exact wal e0 (wbg (waf he))
 refine zqm (M:=model X.prog X.w) (h0:=s1.heap) (H:=H') (base:=X.base) (outer:=X.outer) (by rw[<-hst];exact I1.ok.frames) (by rw[<-hst];exact J.stack) hf x hz (λb hb=>hok.fresh hb) λh' L=>hq h' ?_
 rw[<-hst] at L;refine⟨H1,s1,I1,a,cls,dx,H',rfl,L.at_,os,bare,⟨λb o e n hf hx=>L.keep b o (un.keep b o e n hf hx) (.inl (waf e)) hf,λb o e n hf hx=>?_,un.free,λb o e hx=>?_,un.tups,un.frzs,un.tbls⟩,λb u e=>?_,q⟩
 .obtain⟨sl,z⟩:=un.slot b o e n hf hx;obtain⟨sl',z'⟩:=L.slot b _ z (.inl (waf e));exact⟨sl',z'⟩
 .obtain⟨o',z⟩:=un.there b o e hx;obtain⟨sl',z'⟩:=L.slot b _ z (.inl (waf e));exact⟨_,z'⟩
 .refine(hok b u e).stay (λc v hc q=>L.keep c v q ?_ ?_) (λ_ q=>q) λ_ _ _ q=>q
  .rcases hc with z|z
   .rw[z,e];exact .inr (by simp)
   .rw[z];exact .inr (by simp)
  .intro hm;have:=un.free c
   have fr:=I1.stkFree c hm
   obtain⟨_,o,ho,_⟩:=I1.stack.mem hm;have h0:=un.free c o ho fr (by simp)
   rcases hc with z|z
   .rw[z,e] at h0;cases h0
   .rw[z] at h0;cases h0
end
def zf5 {M:Model}{A:Around}{Ex:Value->Shared->Prop}{K:W.Frag}{s:Shared}{a C CT:Addr}{oe:Obj}{b:Bool}{Q:Bool->Shared->Prop}(X:K.In s.heap)(he:s.heap.get? a=some oe)(hc:oe.cls=.ref C)
 (hb:PySem.W.mroIn K CT (.type "BaseException")=some true) (ht:PySem.W.typeIn K (.ref CT)=some (.type "type")) (hm:PySem.W.mroIn K C (.ref CT)=some b) (hq:Q b s):wpAny M A (excMatches (.ref a) (.ref CT)) Q Ex s:=by
 obtain⟨hp,g,d,t,os⟩:=s;have L1:=PySem.W.looks_mroIn (M:=M) X hb
 have L2:=PySem.W.looks_mroIn (M:=M) X hm
 have L3:=PySem.W.looks_typeIn (M:=M) X ht
 obtain⟨cd,hcd,-⟩:=Option.bind_eq_some_iff.mp hb;obtain⟨oC,hoC,hdC⟩:∃oC,hp.get? CT=some oC/\oC.data=.cls cd:=by
  unfold PySem.W.clsIn at hcd;split at hcd
  .rename_i ho;cases hcd;exact⟨_,X _ _ ho,rfl⟩
  .cases hcd
 have f:=tc_notTuple
 have f':PySem.W.Looks M hp (isSubtype (.type "type") (.type "tuple")) false:=.of_pure f
 have T:PySem.W.Looks M hp (isInstance (.ref CT) (.type "tuple")) false:=L3.andThen f'
 have B:PySem.W.Looks M hp (isExcClass (.ref CT)) true:=by
  refine PySem.W.Looks.andThen (a:=true) ?_ L1;exact(PySem.W.Looks.ld (part:=some PySem.headPart) hoC).andThen (by rw[hdC];exact .now)
 have Y:PySem.W.Looks M hp (typeOf (.ref a)) (.ref C):=(PySem.W.Looks.ld he).andThen (by rw[hc];exact .now)
 unfold excMatches;refine waa (T.here ?_);simp only[wbR,if_false];refine waa (wad ?_);simp only[List.forIn_cons,List.forIn_nil];refine waa (waa (waa (B.here ?_)));simp only[Bool.not_true,wbR,if_false];refine wad (wad (waa (Y.here (waa (waa (waa (L2.here ?_)))))));cases b with
|true=>exact wad (wad (wad hq))
|false=>exact wad (wad (wad hq))
section
variable {X:Cx}{pins:List (Addr×Obj)}{Y:L2.St}{H:Hp}{s:Shared}
def zdq {M:Model}{A:Around}{E:Value->Shared->Prop}{i:Nat}{x:Str}{pos:Pos}{Q:Unit->Shared->Prop}(I:Inv X pins Y H s)(hN:X.N.Nodup)(hi:X.N[i]?=some x)(hk:X.env.kindOf x=some .local)
 (h:∀s',Inv X pins (Y.set i none) H s'->Q () s'):wpAny M A (do bindName X.env x .none;unbindBehindTheSuite X.env x pos) Q E s:=by
 obtain⟨m,hn,hl⟩:=id I.loc;have hcls:(X.env.scope.kind == .class||(X.env.scope.kind == .module&&X.env.locals != X.env.globals))=false:=by rw[I.ok.kind];rfl
 have hiσ:i<Y.length:=by rw[I.len];exact(wai.mp hi).1
 have cne:=I.cne
 have tracked:∀{a:Addr}{h':Heap},(∃o,s.heap.get? a=some o/\H a=none)->Heap.SameBut a s.heap h'->HOk X.prog X.w H h':=λ{a h'} ha hs b ob e=>by
  obtain⟨_,_,hfree⟩:=ha;refine(I.hok b ob e).stay (λc w' hc q=>(hs.2 c ?_).trans q) (λ_ q=>q) λ_ _ _ q=>q
  rintro rfl;rcases hc with rfl|hc
  .rw[hfree] at e;cases e
  .rw[hfree] at hc;cases hc
 refine wpAny_nameGoes_keeps hk hn hcls λh' v hn' hs=>?_
 obtain⟨oL,_,_,hoL,_⟩:=id hn;refine h _ ⟨I.ok,I.os,I.bare,⟨λb o e n hb hx=>?_,λb o e n hb hx=>?_,I.base.free,λb o e hx=>?_,I.base.tups,I.base.frzs,I.base.tbls⟩,⟨_,hn',λj y v' e1 e2 e3=>?_⟩,λy c e=>?_,I.free,I.freeC,λp hp=>?_,tracked ⟨oL,hoL,I.free⟩ hs,by simpa using I.len⟩
 .exact(hs.2 b (wax (wam (waf e) I.ok.above))).trans (I.base.keep b o e n hb hx)
 .obtain⟨sl,e1⟩:=I.base.slot b o e n hb hx;exact⟨sl,(hs.2 b (wax (wam (waf e) I.ok.above))).trans e1⟩
 .obtain⟨o',e1⟩:=I.base.there b o e hx;exact⟨o',(hs.2 b (wax (wam (waf e) I.ok.above))).trans e1⟩
 .by_cases hj:j=i
  .subst hj;rw[wau hiσ] at e2;cases e2
  .rw[wae (Ne.symm hj)] at e2;obtain⟨u',r',q⟩:=hl j y v' e1 e2 e3;refine⟨u',r',?_⟩;rcases q with⟨k,e⟩|⟨k,c,e,z⟩
   .refine .inl ⟨k,?_⟩;have:y≠x:=λe=>hj (ze2 hN e1 (e▸hi))
    simp[this,e]
   .exact .inr ⟨k,c,e,z.sameBut hs (cne y c e)⟩
 .obtain⟨w',z⟩:=I.cell y c e;exact⟨w',z.sameBut hs (cne y c e)⟩
 .obtain⟨e,n,ne,nf,d⟩:=I.pin p hp;exact⟨(hs.2 p.1 ne).trans e,n,ne,nf,d⟩
def zit {M:Model}{A:Around}{E:XK}{e:Value}{s':Shared}{Ex:Value->Shared->Prop}{Q:Unit->Shared->Prop}(h:XP X pins Y E e s')(hq:∀h',XP X pins Y E e {s' with heap:=h'}->Q () {s' with heap:=h'}) :
 wpAny M A (setFlight e none) Q Ex s':=by
 obtain⟨H1,s1,I1,hc⟩:=h;obtain⟨a,cls,dx,H',rfl,x,os,bare,un,hok,q⟩:=id hc;obtain⟨e0,eH,eD,vs,sl,he,h1|⟨T,oT,ts,h1,hTe,hnT,HT,hT,hdT,h3⟩⟩:=id x
 .unfold setFlight;refine waa (wbb he rfl h1 ?_);rw[if_neg (by decide)];exact wad (hq s'.heap ⟨H1,s1,I1,hc⟩)
 .unfold setFlight;refine waa (wbb he rfl h1 ?_);rw[if_pos (show(Value.ref T != Value.none)=true from by simp)];refine wcd hT hdT (waW.mp h3).1 ?_;have other:∀b,b≠T->(s'.heap.update T (Obj.mapFields (·.setIfInBounds 3 Value.none))).get? b=s'.heap.get? b:=λb hb=>waE _ _ (Ne.symm hb)
  have ne1:∀b o,s1.heap.get? b=some o->b≠T:=λb o e z=>absurd (waf e) (Nat.not_lt.mpr (by rw[z];exact hnT))
  have self:(s'.heap.update T (Obj.mapFields (·.setIfInBounds 3 Value.none))).get? T=some _:=waR _ hT (wbU (wbn hdT _))
  refine hq _ ⟨H1,s1,I1,a,cls,dx,H',rfl,⟨e0,eH,eD,vs,sl,(other a (Ne.symm hTe)).trans he,.inr ⟨T,_,_,h1,hTe,hnT,HT,self,wbn hdT _,by simp[(waW.mp h3).1]⟩⟩,os,bare,⟨λb o e n hf hx=>(other b (ne1 b o e)).trans (un.keep b o e n hf hx),λb o e n hf hx=>?_,un.free,λb o e hx=>?_,un.tups,un.frzs,un.tbls⟩,λb u e=>?_,q⟩
  .obtain⟨sl,z⟩:=un.slot b o e n hf hx;exact⟨sl,(other b (ne1 b o e)).trans z⟩
  .obtain⟨o',z⟩:=un.there b o e hx;exact⟨o',(other b (ne1 b o e)).trans z⟩
  .refine(hok b u e).stay (λc v hc q=>(other c ?_).trans q) (λ_ q=>q) λ_ _ _ q=>q
   rintro rfl;rcases hc with z|z
   .rw[<-z,HT] at e;cases e
   .rw[HT] at z;cases z
end
def X0:HO:=.ext λ_=>True
def Held (H:Hp)(a:Addr)(oa:Obj)(H2:Hp):Prop:=
 (oa.dict=none/\H2=upd H a (.frz oa X0))\/∃d od fs,oa.dict=some d/\H d=some (.xd fs)/\H2=upd (upd H a (.frz oa X0)) d (.frz od (.xd fs))
def Held.same {H H2:Hp}{a:Addr}{oa:Obj}(h:Held H a oa H2)(ha:H a=none){c:Addr}{z:HO}(e:H c=some z)(n:∀fs,z≠.xd fs):H2 c=some z:=by
 have hca:c≠a:=by rintro rfl;rw[ha] at e;cases e
 rcases h with⟨_,rfl⟩|⟨d,od,fs,_,hd,rfl⟩
 .rw[zah hca];exact e
 .have hcd:c≠d:=by rintro rfl;rw[hd] at e;cases e;exact n _ rfl
  rw[zah hcd,zah hca];exact e
section
variable {X:Cx}{pins:List (Addr×Obj)}{Y:L2.St}{H:Hp}{s:Shared}
def zl8 {E:XK}{e:Value}{s':Shared}(h:XP X pins Y E e s')(hxd:∀cls dx H',E cls dx H'->∀d,dx=some d->∃fs,H' d=some (.xd fs)) :
 ∃a cls dx H' oa H2,e=.ref a/\E cls dx H'/\H' a=none/\s'.heap.get? a=some oa/\oa.cls=cls/\oa.dict=dx/\PySem.W.notCls oa=true/\Held H' a oa H2/\Inv X pins Y H2 s':=by
 obtain⟨H1,s1,I1,a,cls,dx,H',rfl,x,os,bare,un,hok,q⟩:=h;obtain⟨e0,eH,eD,vs,sl,he,_⟩:=id x;have hold:∃H2,Held H' a ⟨cls,dx,.fields vs,sl⟩ H2/\HOk X.prog X.w H2 s'.heap/\∀b,b<s1.heap.objs.size->H' b=none->H2 b=none:=by
  have ex0:∀H2,ObjOk X.prog X.w H2 s'.heap a (.frz ⟨cls,dx,.fields vs,sl⟩ X0):=λH2=>⟨he,trivial,⟨_,he⟩,λ_ _ _ _=>trivial⟩
  cases hdx:dx with
 |none=>
    subst hdx;have hh:Held H' a ⟨cls,none,.fields vs,sl⟩ (upd H' a (.frz ⟨cls,none,.fields vs,sl⟩ X0)):=.inl ⟨rfl,rfl⟩
    refine⟨_,hh,λb u e=>?_,λb hb n=>?_⟩
    .by_cases hba:b=a
     .subst hba;rw[zai] at e;cases e;exact ex0 _
     .rw[zah hba] at e;exact(hok b u e).stay (λ_ _ _ q=>q) (λc q=>hh.same eH q (λ_ z=>by cases z)) λc z hz q=>hh.same eH q (λfs y=>by rw[y] at hz;exact hz)
    .rw[zah (wax (wam hb e0))];exact n
 |some d=>
    subst hdx;obtain⟨fs,hd⟩:=hxd _ _ _ q d rfl;obtain⟨mA,⟨od,es,ep,hod,r1⟩,r2⟩:=hok d _ hd;have hh:Held H' a ⟨cls,some d,.fields vs,sl⟩ (upd (upd H' a (.frz ⟨cls,some d,.fields vs,sl⟩ X0)) d (.frz od (.xd fs))):=.inr ⟨d,od,fs,rfl,hd,rfl⟩
    have hda:d≠a:=by rintro rfl;rw[eH] at hd;cases hd
    refine⟨_,hh,λb u e=>?_,λb hb n=>?_⟩
    .by_cases hbd:b=d
     .subst hbd;rw[zai] at e;cases e;exact⟨hod,mA,⟨od,es,ep,hod,r1⟩,r2⟩
     rw[zah hbd] at e;by_cases hba:b=a
     .subst hba;rw[zai] at e;cases e;exact ex0 _
     .rw[zah hba] at e;exact(hok b u e).stay (λ_ _ _ q=>q) (λc q=>hh.same eH q (λ_ z=>by cases z)) λc z hz q=>hh.same eH q (λfs y=>by rw[y] at hz;exact hz)
    .rw[zah (wax (wam hb (eD d rfl))),zah (wax (wam hb e0))];exact n
 obtain⟨H2,hh,hok2,hn2⟩:=hold;refine⟨a,cls,dx,H',_,H2,rfl,q,eH,he,rfl,rfl,rfl,hh,I1.call' (ch:=[]) os ⟨un.keep,un.slot,λb o e n hx=>hn2 b (waf e) (un.free b o e n hx),un.there,λb xs e=>hh.same eH (un.tups b xs e) (λ_ z=>by cases z),λb o u e=>hh.same eH (un.frzs b o u e) (λ_ z=>by cases z),λb ps e=>?_⟩ hok2 bare (λb z=>absurd z (by simp))⟩;obtain⟨more,z⟩:=un.tbls b ps e;exact⟨more,hh.same eH z (λ_ z=>by cases z)⟩
end
def inH (X:Cx)(e:Value):Cx:={X with A:=X.A.mark (some e),calm:=false,xe:=λ_ _=>False}
section
variable {X:Cx}{pins:List (Addr×Obj)}{Y:L2.St}{H:Hp}{s:Shared}{e:Value}
def toH (I:Inv X pins Y H s):Inv (inH X e) pins Y H s:=by
 obtain⟨⟨a1,a2,a3,a4,a5,a6,a7,a8,a9,a10,a11,a12,a13,a14,a15,a16,a17,a18⟩,b2,b3,b4,b5,b6,b7,b8,b9,b10,b11⟩:=I;exact⟨⟨a1,a2,a3,a4,a5,a6,a7,a8,(λz=>by cases z),a10,a11,a12,a13,a14,a15,a16,a17,a18⟩,b2,b3,b4,b5,b6,b7,b8,b9,b10,b11⟩
def ofH (I:Inv (inH X e) pins Y H s)(ok:X.Ok):Inv X pins Y H s:=by
 obtain⟨_,b2,b3,b4,b5,b6,b7,b8,b9,b10,b11⟩:=I;exact⟨ok,b2,b3,b4,b5,b6,b7,b8,b9,b10,b11⟩
end
abbrev TX:=Ends->XK->L2.St->Hp->Prop
def PSX (X:Cx)(ss:List Stmt)(t:TX):Prop:=∀(pins:List (Addr×Obj)) (s:Shared) (Y:L2.St) (H:Hp) (D:Ends) (E:XK),Inv X pins Y H s->t D E Y H->wpAny (model X.prog X.w) X.A (execs ss X.env) (SP X pins D) (XP X pins Y E) s
def unset (i:Nat)(D:Ends):Ends:={nx:=λY H=>D.nx (Y.set i none) H,bk:=λY H=>D.bk (Y.set i none) H,ct:=λY H=>D.ct (Y.set i none) H,rt:=D.rt}
def tTry (K:W.Frag)(CT:Addr)(i:Nat)(tb:TX)(th:TS):TS:=λD Y H=>tb D (λcls dx H'=>(∃C,cls=.ref C/\PySem.W.mroIn K C (.ref CT)=some true)/\(∀d,dx=some d->∃fs,H' d=some (.xd fs))/\
 ∀a oa H2,H' a=none->oa.cls=cls->oa.dict=dx->PySem.W.notCls oa=true->Held H' a oa H2->th (unset i D) (Y.set i (some (.ref a))) H2) Y H
section
variable {X:Cx}{T n:Str}{tp hp pos:Pos}{body suite:List Stmt}{b₀:Stmt}{CT:Addr}{i:Nat}{tb:TX}{th:TS}
def zqp (hst:X.stack=X.env::X.outer)(hf:X.env.frame=some X.env.locals)(hg:Gl X T)(hm:X.mg T=some (.ref CT))(hN:X.N.Nodup)(hi:X.N[i]?=some n)(hk:X.env.kindOf n=some .local)
 (hB:PySem.W.mroIn X.K CT (.type "BaseException")=some true) (hT:PySem.W.typeIn X.K (.ref CT)=some (.type "type")) (hb:PSX X body tb) (hh:∀e,PSs (inH X e) (b₀::suite) th)
 (hdb:(T == ("__debug__":Str))=false:=by decide) :
 PS X (.Try body [.ExceptHandler (some (.Name T tp)) (some n) (b₀::suite) hp] [] [] pos) (tTry X.K CT i tb th):=by
 intro pins s Y H D I h;refine wpAny_Try_except (was (hb pins s Y H D _ I h) (λf s1 h1=>?_) (λe s1 h1=>?_))
 .cases f <;> first|exact h1|exact wad h1
 refine zl7 hst hf h1 λh2 x2=>?_
 obtain⟨H1,s0,I0,hc⟩:=id x2;obtain⟨a,cls,dx,H',rfl,J,x,⟨C,rfl,hmm⟩,_,_⟩:=zkf I0 hc;obtain⟨e0,eH,eD,vs,sl,he,_⟩:=x;refine wpAny_handleBy_cons (codeAny_handlers_test ?_) (by intro q;cases q);refine zcD (X:=inH X (.ref a)) (toH J) hg hm ?_ hdb;refine zf5 J.kIn he rfl hB hT hmm ?_;refine codeAny_handlers_suite_as (zit x2 λh3 x3=>?_);obtain⟨a',cls,dx',H3,oa,H2,ea,q,ha,hoa,hcl,hdx,hnc,hh2,J2⟩:=zl8 x3 (λcls dx H' q=>q.2.1);cases ea;refine zd2 (X:=inH X (.ref a)) (toH J2) hN hi (.inl hk) (v:=.ref a) rfl (λs4 J4=>?_) (.inr hk);refine was (hh (.ref a) pins s4 _ _ (unset i D) J4 (q.2.2 a oa H2 ha hcl hdx hnc hh2)) (λf s5 h5=>?_) (λ_ _ z=>z.elim);cases f with
|next=>obtain⟨Y',H',J5,q5⟩:=h5;exact zdq (ofH J5 I.ok) hN hi hk λs6 J6=>⟨_,_,J6,q5⟩
|brk=>obtain⟨Y',H',J5,q5⟩:=h5;exact zdq (ofH J5 I.ok) hN hi hk λs6 J6=>⟨_,_,J6,q5⟩
|cont=>obtain⟨Y',H',J5,q5⟩:=h5;exact zdq (ofH J5 I.ok) hN hi hk λs6 J6=>⟨_,_,J6,q5⟩
|ret u=>obtain⟨v,Y',H',J5,r5,q5⟩:=h5;exact zdq (ofH J5 I.ok) hN hi hk λs6 J6=>⟨v,_,_,J6,r5,q5⟩
end
abbrev TEX:=L2.St->Hp->VK->XK->Prop
def PEX (X:Cx)(e:Expr)(t:TEX):Prop:=∀(pins:List (Addr×Obj)) (s:Shared) (Y:L2.St) (H:Hp) (Q:VK) (E:XK),Inv X pins Y H s->t Y H Q E->wpAny (model X.prog X.w) X.A (eval e X.env) (EP X pins Y Q) (XP X pins Y E) s
section
variable {X:Cx}{k:Nat}{f:Addr}{fd:FuncData}{ps:List Str}{sp:Sp}{dvs:List V}{ds:List Value}{x:Str}{p pos:Pos}{e:Expr}{es:List Expr}{t:TA}{te:TEX}
def zhM {pins:List (Addr×Obj)}{Y:L2.St}{H:Hp}{s:Shared}(I:Inv X pins Y H s):Inv X.nox pins Y H s:=by
 obtain⟨⟨a1,a2,a3,a4,a5,a6,a7,a8,a9,a10,a11,a12,a13,a14,a15,a16,a17,a18⟩,b2,b3,b4,b5,b6,b7,b8,b9,b10,b11⟩:=I;exact⟨⟨a1,a2,a3,a4,a5,a6,a7,a8,a9,a10,a11,a12,a13,a14,a15,a16,a17,a18⟩,b2,b3,b4,b5,b6,b7,b8,b9,b10,b11⟩
def zdT {pins:List (Addr×Obj)}{Y:L2.St}{H:Hp}{s:Shared}(I:Inv X.nox pins Y H s):Inv X pins Y H s:=by
 obtain⟨⟨a1,a2,a3,a4,a5,a6,a7,a8,a9,a10,a11,a12,a13,a14,a15,a16,a17,a18⟩,b2,b3,b4,b5,b6,b7,b8,b9,b10,b11⟩:=I;exact⟨⟨a1,a2,a3,a4,a5,a6,a7,a8,a9,a10,a11,a12,a13,a14,a15,a16,a17,a18⟩,b2,b3,b4,b5,b6,b7,b8,b9,b10,b11⟩
def zl9 (F:FnOk X.prog X.w X.K X.mg X.base (CXE X.prog X.w) k f fd ps sp)(hr:Room k X.A)(hg:Gl X x)(hm:X.mg x=some (.ref f))(hk:W.keepIn X.K (.ref f)=true)(hb:Binds X.K fd ps ds)(hd:Vals dvs ds)
 (ha:PA X.nox (e::es) t) (hdb:(x == ("__debug__":Str))=false:=by decide) (he:starEach (e::es) X.env=(false,eval e X.env)::starEach es X.env:=by rfl) (hpl:(backTo pos (starEach es X.env)).any (·.1)=false:=by rfl) :
 PEX X (.Call (.Name x p) (e::es) [] pos) (λY H Q E=>zic sp dvs E t Y H Q):=by
 intro pins s Y H Q E I h;refine waG (zcD I hg hm ?_ hdb);refine wcl (h₀:=X.base) I.ok.mod.kin hk (was (ha pos pins s Y H _ (zhM I) h) (λus s1 ⟨vs,H1,I1,r,q⟩=>⟨I1.kIn,?_⟩) λ_ _ z=>z.elim) he hpl;have J1:=zdT I1
 have r2:Vals (vs++dvs) (us++ds):=r.append hd
 have hl:(us++ds).length=ps.length:=by rw[<-r2.length];exact F.len _ _ _ _ q
 refine wch (wct (F.run X.A X.stack s1 H1 ⟨us,[]⟩ (us++ds) (vs++dvs) Q E hr J1.env0 (hb s1 us J1.kIn hl) r2 q) λr s' hq=>?_);cases r with
|error e=>exact⟨H1,s1,J1,hq⟩
|ok fl=>
   cases fl with
  |ret u=>exact J1.after hq
  |next=>exact False.elim hq
  |brk=>exact False.elim hq
  |cont=>exact False.elim hq
def zov {i:Nat}{x:Str}{pos':Pos}(hN:X.N.Nodup)(hi:X.N[i]?=some x)(hx:Loc X.env.scope x)(he:PEX X e te)(hs:swapsWith e (some (.Name x pos')) pos.line X.env=pure false:=by rfl)
 (hf:X.fn x=true\/X.env.scope.names.lookup x=some .local:=by first|exact .inl rfl|exact .inr rfl|assumption) :
 PSX X [.Assign [.Name x pos'] e pos] (λD E Y H=>te Y H (λv H1=>D.nx (Y.set i (some v)) H1) E):=by
 intro pins s Y H D E I h;refine wpAny_execs_cons (wpAny_Assign_Name (thn (he pins s Y H _ E I h) λv s1 ⟨y,H1,I1,r1,q1⟩=>?_) hs);exact zd2 I1 hN hi hx r1 (λs2 I2=>wcj ⟨_,H1,I2,q1⟩) hf
end
end EX
namespace EX
open PySem PySem.Spec PySem.W PyProof.Rows
def strsIn (K:Frag)(a:Addr):Bool:=match K.lookup a with
|some ⟨_,_,.dict es _,_⟩=>es.toList.all λe=>match e.key with|.str _ _=>true|_=>false
|_=>false
def ns_K {K:Frag}{a:Addr}(e:strsIn K a=true):∃m:Str->Option Value,(∀h:Heap,K.In h->h.Ns a m)/\∀x r,nsIn K a x=some r->m x=r:=by
 unfold strsIn at e;split at e
 .rename_i c d es ep sl ho
  refine⟨nsFind es,λh X=>⟨_,es,ep,X _ _ ho,rfl,λen hen=>?_,λ_=>rfl⟩,λx r hr=>?_⟩
  .have:=waB.mp e en (by simpa using hen)
   split at this
   .rename_i n t hk;exact⟨n,t,hk⟩
   .cases this
  .unfold nsIn at hr;rw[ho] at hr;dsimp only at hr;unfold nsFind findBy;obtain⟨es⟩:=es;rw[List.find?_toArray];dsimp only at hr;split at hr
   .rename_i en hen
    cases hr;rw[show List.find? (λe:DictEntry=>(λn (v:Value)=>v.isStr n) x e.key) es=some en from hen];rfl
   .rename_i hen
    rw[show List.find? (λe:DictEntry=>(λn (v:Value)=>v.isStr n) x e.key) es=none from hen];split at hr
    .cases hr
    .cases hr;rfl
 .cases e
def tailIn (K:Frag)(bmB:List Value):List Value->Bool
|.ref A::tl=>((clsIn K A).any λcd=>strsIn K cd.ns&&(nsIn K cd.ns "__init__" == some none))&&tailIn K bmB tl
|l=>l == bmB
def tail_K {K:Frag}{h:Heap}(X:K.In h){bmB:List Value}(hb:∀A tl,bmB≠.ref A::tl):∀{bm:List Value},tailIn K bmB bm=true->OwnTail h bmB bm:=by
 intro bm;induction bm with
|nil=>intro e;rw[show([]:List Value)=bmB from beq_iff_eq.mp e];exact .base
|cons v tl ih=>
   intro e;by_cases hv:∃c,v=.ref c
   .obtain⟨c,rfl⟩:=hv;unfold tailIn at e;rw[waA] at e;obtain⟨cd,hcd,hr⟩:=any_some e.1;rw[waA] at hr;obtain⟨m,hm,hm2⟩:=ns_K hr.1;unfold clsIn at hcd;split at hcd
    .rename_i c0 d0 cd0 sl0 ho
     cases hcd;exact OwnTail.own (X _ _ ho) (hm h X) (hm2 _ _ (beq_iff_eq.mp hr.2)) (ih e.2)
    .cases hcd
   .have:v::tl=bmB:=by
     cases v <;> first|exact beq_iff_eq.mp e|exact absurd ⟨_,rfl⟩ hv
    rw[this];exact .base
section
variable {prog:Program}{w:World}{A:Around}{E:Value->Shared->Prop}{h:Heap}{g:Array GenState}{d:Drawn}{t:Nat}{os:OsState}
variable {C x:Addr}{K:Frag}{ox:Obj}{od:Option Obj}{name:Str}{v:Value}{expr:Bool}{Q:Value->Shared->Prop}
def ga_ve:Slot "ValueError" "__getattribute__" "BaseException.__getattribute__":=.of (owner:="BaseException") (n:="__getattribute__") (by rw[typeLookup_type,builtinLookup_eq_fast];kernel_rfl) (by decide +kernel) (by decide +kernel) (by decide +kernel)
 (by first|exact .inl (by decide +kernel)|exact .inr (by decide +kernel)) (by rw[isSubtype_type];kernel_rfl)
def zkg:builtinKind "BaseException.__getattribute__"=some .slot:=by decide +kernel
def zhN:splitId "BaseException.__getattribute__"=some ("BaseException","__getattribute__"):=by decide +kernel
def zqq {tk:Tok}{R:Result->Shared->Prop}(X:K.In h)(I:InstAt h x ox C od)(hm:mroIn K C (.type "BaseException")=some true)(hf:findObj K C od name=some (.value v))(hq:R (.ok (.ret v)) ⟨h,g,d,t,os⟩) :
 codeAny (model prog w) A (.call (.builtin "BaseException.__getattribute__") ⟨[.ref x,.str name tk],[]⟩) R ⟨h,g,d,t,os⟩:=by
 have L0:=I.type (M:=model prog w)
 have L1:=looks_find (M:=model prog w) X I hf
 have sub:Looks (model prog w) h (isInstance (.ref x) (.type "BaseException")) true:=L0.andThen (looks_mroIn X hm)
 refine wbG ga_ve.plain F.entry_bexc_ga (@check_slot (model prog w) _ _ ⟨h,g,d,t,os⟩ "BaseException.__getattribute__" "BaseException" "__getattribute__" (.ref x) [.str name tk] [] _ zkg zhN sub (F.args_bexc_ga (.ref x) (.str name tk)) ?_);unfold Builtin.«object.__getattribute__»;repeat (any_goals (first|assumption|with_reducible refine Looks.at L0 ?_|with_reducible refine Looks.at L1 ?_|wp_step))
def zow (X:K.In h)(I:InstAt h x ox C od)(hga:findIn K (.ref C) "__getattribute__"=some (some (.builtin "BaseException.__getattribute__")))(hgt:findIn K (.ref C) "__getattr__"=some none)
 (hm:mroIn K C (.type "BaseException")=some true) (hf:findObj K C od name=some (.value v)) (hh:handedIn v=true) (hq:Q v ⟨h,g,d,t+1,os⟩):wpAny (model prog w) A (getAttr (.ref x) name expr) Q E ⟨h,g,d,t,os⟩:=by
 have L0:=I.type (M:=model prog w)
 have L1:=looks_findIn (M:=model prog w) X hga
 have L2:=looks_findIn (M:=model prog w) X hgt
 have f3:=ga_ve.bind (.ref x)
 have hx0:(expr&&onTheHeap (Value.builtin "BaseException.__getattribute__"))=false:=by cases expr <;> rfl
 have hx2:(Value.builtin "BaseException.__getattribute__" == Value.builtin "object.__getattribute__")=false:=by decide +kernel
 have hx1:(onTheHeap (Value.ref C)&&Value.builtin "BaseException.__getattribute__" == Value.builtin "object.__getattribute__")=false:=by rw[hx2];rfl
 unfold getAttr getAttrBy;refine waa (wpAny_mkText (waY (waa (L0.at (waa (L1.at ?_))))));repeat (any_goals (first|assumption|with_reducible refine Looks.at L0 ?_|with_reducible refine Looks.at L1 ?_|with_reducible refine Looks.at L2 ?_|wp_step))
 refine zqq X I hm hf ?_;show wpAny _ _ (handedOut v) _ _ _
 rw[handedOut_of hh];exact wad hq
end
section
variable {prog:Program}{w:World}{A:Around}{E:Value->Shared->Prop}{h:Heap}{g:Array GenState}{d:Drawn}{t:Nat}{os:OsState}
variable {C x:Addr}{K:Frag}{ox:Obj}{od:Option Obj}
def zf6 {tk:Tok}{R:Result->Shared->Prop}(X:K.In h)(I:InstAt h x ox C od)(hm:mroIn K C (.type "BaseException")=some true)(hmo:mroIn K C (.type "object")=some true)
 (hf:findObj K C od "__class__"=some (.bind (.builtin "getset_descriptor.__get__") (.builtin "object.__class__"))) (hq:R (.ok (.ret (.ref C))) ⟨h,g,d,t,os⟩) :
 codeAny (model prog w) A (.call (.builtin "BaseException.__getattribute__") ⟨[.ref x,.str "__class__" tk],[]⟩) R ⟨h,g,d,t,os⟩:=by
 have L0:=I.type (M:=model prog w)
 have L1:=looks_find (M:=model prog w) X I hf
 have sub:Looks (model prog w) h (isInstance (.ref x) (.type "BaseException")) true:=L0.andThen (looks_mroIn X hm)
 refine wbG ga_ve.plain F.entry_bexc_ga (@check_slot (model prog w) _ _ ⟨h,g,d,t,os⟩ "BaseException.__getattribute__" "BaseException" "__getattribute__" (.ref x) [.str "__class__" tk] [] _ zkg zhN sub (F.args_bexc_ga (.ref x) (.str "__class__" tk)) ?_);unfold Builtin.«object.__getattribute__»;repeat (any_goals (first|assumption|with_reducible refine Looks.at L0 ?_|with_reducible refine Looks.at L1 ?_|wp_step))
 exact class_get (s:=⟨h,g,d,t,os⟩) X I hmo (wad hq)
def zkh {Q:Option Value->Shared->Prop}(X:K.In h)(I:InstAt h x ox C od)(hga:findIn K (.ref C) "__getattribute__"=some (some (.builtin "BaseException.__getattribute__")))(hgt:findIn K (.ref C) "__getattr__"=some none)
 (hm:mroIn K C (.type "BaseException")=some true) (hmo:mroIn K C (.type "object")=some true)
 (hf:findObj K C od "__class__"=some (.bind (.builtin "getset_descriptor.__get__") (.builtin "object.__class__"))) (hq:Q (some (.ref C)) ⟨h,g,d,t+1,os⟩) :
 wpAny (model prog w) A (getAttr? (.ref x) "__class__") Q E ⟨h,g,d,t,os⟩:=by
 have L0:=I.type (M:=model prog w)
 have L1:=looks_findIn (M:=model prog w) X hga
 have L2:=looks_findIn (M:=model prog w) X hgt
 have f3:=ga_ve.bind (.ref x)
 have hx2:(Value.builtin "BaseException.__getattribute__" == Value.builtin "object.__getattribute__")=false:=by decide +kernel
 have hx1:(onTheHeap (Value.ref C)&&Value.builtin "BaseException.__getattribute__" == Value.builtin "object.__getattribute__")=false:=by rw[hx2];rfl
 unfold getAttr? getAttrBy? getAttrBy;repeat (any_goals (first|assumption|with_reducible refine Looks.at L0 ?_|with_reducible refine Looks.at L1 ?_|with_reducible refine Looks.at L2 ?_|wp_step))
 refine zf6 X I hm hmo hf ?_;repeat (any_goals (first|assumption|wp_step))
def zhO (hga:findIn K (.ref C) "__getattribute__"=some (some (.builtin "BaseException.__getattribute__")))(hgt:findIn K (.ref C) "__getattr__"=some none)
 (hm:mroIn K C (.type "BaseException")=some true) (hmo:mroIn K C (.type "object")=some true) (hdct:hasDictIn K C=true)
 (hf:findObj K C od "__class__"=some (.bind (.builtin "getset_descriptor.__get__") (.builtin "object.__class__"))):KitX K (.ref x) (.ref C) (λh=>InstAt h x ox C od) where
 ty:=λ_ _ _ I=>I.type
 it:=λ_ _ X _=>by
  obtain⟨cdD,hcD,_⟩:=any_some hdct;unfold clsIn at hcD;split at hcD
  .rename_i c' d' cd' sl' ho
   intro A' Q' E' s' k q;unfold isType loadHead;exact waa (wpAny_loadPart (k _ _ (X _ _ ho)) (wad q))
  .cases hcD
 ne:=λh tp dd its n sl X htp=>by
  obtain⟨cdD,hcD,_⟩:=any_some hdct;refine Bool.eq_false_iff.mpr λq=>?_
  have e:C=tp:=Value.ref.inj (beq_iff_eq.mp q)
  subst e;unfold clsIn at hcD;split at hcD
  .rename_i c' d' cd' sl' ho
   have z:=(X _ _ ho).symm.trans htp
   cases z
  .cases hcD
 ca:=λ{_ _ _ _ _ s} X I k=>by
  obtain⟨h,g,d,t,os⟩:=s;exact zkh X I hga hgt hm hmo hf k
end
section
variable {prog:Program}{w:World}{K:Frag}{fd:FuncData}{fI:Addr}{x p y:Str}{tk0:Tok}{h0:Heap}{cp np fp jp:Pos}{k:Nat}
def zki (hk:∀L,(callEnv fd L fI).kindOf x=some .local)(hf:fd.scope.kind=.function)(hd:(x == ("__debug__":Str))=false)(hl:p.length+(reprText y).length<=sizeLine) :
 Says prog w K fd fI x (.JoinedStr [.Constant (.str p) k cp,.FormattedValue (.Name x np) 114 none fp] jp) (.str y tk0) h0:=by
 intro A E h1 g d os tk L m Q hgd hun X kp hns hm hq';have hq:∀y t' tk',Q (.str y t') ⟨h1,g,d,tk',os⟩:=λy t' tk'=>hq' h1 y t' tk' λ_ _ z=>z
 have e0:(Str.empty++p)=p:=by first|rfl|simp|exact Str.empty_append _
 refine wpAny_JoinedStr ?_;show wpAny _ _ (eval (.Constant (.str p) k cp) _) _ _ _
 refine wbS ?_;refine⟨p,_,rfl,?_,?_⟩
 .rw[e0];omega
 rw[e0];show wpAny _ _ (eval (.FormattedValue (.Name x np) 114 none fp) _) _ _ _
 have hlen:(p++reprText y).length<=sizeLine:=by rw[strLen_append];exact hl
 refine wpAny_FormattedValue_repr (wcp (wbf hf (hk L) hns hm ?_) hd);refine pyReprObj_str (wpAny_formatField_str ⟨_,_,rfl,hlen,hlen,hq _ _ _⟩ ⟨_,_,rfl,hlen,hlen,hq _ _ _⟩ (by omega)) (by omega)
end
def xi_mk {prog:Program}{w:World}{K:Frag}{C N fI cda cc:Addr}{nm0 q:Str}{bs bm:List Value}{hdct:Bool}{sn:List Str}{sub:List Value}{ab:Bool}{col:Option Bool}{dd:Option Addr}{k0 k1 k2 k3 k5:Option Value}
 {slf x nm:Str}{J:Expr}{fd:FuncData}{od:Option Addr}{sl:Array (Option Value)}{ocd occ:Obj}
 (lk:K.lookup C=some (excClassObj nm0 q C N bs bm hdct sn sub ab col dd k0 k1 k2 k3 k5 "ValueError.__new__"))
 (i:nsIn K N "__init__"=some (some (.ref fI)))
 (lf:K.lookup fI=some ⟨.type "function",od,.func fd,sl⟩)
 (opq:nsIn K cStatics "thirdparty.any"=some none)
 (self:mroIn K C (.ref C)=some true)
 (st:findIn K (.ref C) "__setattr__"=some (some (.builtin "object.__setattr__")))
 (tak:takerIn K C nm=some none)
 (cdi:codeIn K fd.code fd.qualname=true)
 (hc:fd.code=.ref cda) (lc:K.lookup cda=some ocd) (lcc:K.lookup cc=some occ) (occd:occ.data=.cell (some (.ref C)))
 (inC:ks_superIn K C C "__init__"=some (some (.builtin "ValueError.__init__")))
 (t1:tailIn K [.type "ValueError",.type "Exception",.type "BaseException",.type "object"] bm=true)
 (sN:strsIn K N=true)
 (und:(clsIn K C).any (λcd=>zcM cd.mro)=true)
 (hasD:(clsIn K C).any (·.hasDict)=true)
 (body:∃p0 p1 ap cp q1 q2 q3 q4 q5,fd.body=.stmts [.Expr (.Call (.Attribute (.Call (.Name "super" p0) [] [] p1) "__init__" ap) [J] [] cp) q1,.Assign [.Attribute (.Name slf q2) nm q3] (.Name x q4) q5]/\
  (∀L,interactive (callEnv fd L fI)=false)/\(∀L,swapsWith (.Call (.Attribute (.Call (.Name "super" p0) [] [] p1) "__init__" ap) [J] [] cp) none q1.line (callEnv fd L fI)=pure false)/\
  (∀L,swapsWith (.Name x q4) (some (.Attribute (.Name slf q2) nm q3)) q5.line (callEnv fd L fI)=pure false)/\
  (∀L,starEach [J] (callEnv fd L fI) = [(false,eval J (callEnv fd L fI))])/\
  ∃pl:Addr->Sem Bool,∀L,eval (.Call (.Attribute (.Call (.Name "super" p0) [] [] p1) "__init__" ap) [J] [] cp) (callEnv fd L fI)=(do
   let ov <-attributeBase (.Call (.Name "super" p0) [] [] p1) "__init__" (callEnv fd L fI) (eval (.Call (.Name "super" p0) [] [] p1) (callEnv fd L fI))
   standAt ap.atName
   let (f,first) <-holding [ov] (getMethod ov "__init__" (pl L))
   callWith cp f first (backTo cp (starEach [J] (callEnv fd L fI))) []))
 (ne:slf≠x) (dbg:(x == ("__debug__":Str))=false/\(slf == ("__debug__":Str))=false)
 (par:∃ar:Arg,(fd.params.posonlyargs++fd.params.args).head?=some ar/\ar.arg=slf)
 (bind:∀(a b:Value),bindArgs fd ⟨[a,b],[]⟩=pure [(slf,a),(x,b)])
 (cell:∀z∈fd.scope.names,z.2≠.cell) (loc1:fd.scope.names.lookup slf=some .local) (loc2:fd.scope.names.lookup x=some .local)
 (flags:fd.scope.isCoroutine=false/\fd.scope.isGenerator=false/\fd.scope.kind=.function)
 (kinds:∀L,(callEnv fd L fI).kindOf "super"=some .globalImplicit/\(callEnv fd L fI).kindOf "__class__"=some .free/\(callEnv fd L fI).kindOf slf=some .local/\(callEnv fd L fI).kindOf x=some .local)
 (file:∃vs fl tf,ocd.data=.fields vs/\vs[2]?=some (.str fl tf)/\((prog.main.file:Str) == fl)=true)
 (top:(prog.main.scope.names.lookup ("super":Str)).isSome=false) (glob:∀L,(callEnv fd L fI).globals=mainGlobals) (blt:∀L,(callEnv fd L fI).builtins=builtinsNs)
 (ccl:∀L,(callEnv fd L fI).cells.lookup ("__class__":Str)=some cc):XI prog w K C N fI bm slf x nm J fd where
 cls:=⟨⟨nm0,q,bs,hdct,sn,sub,ab,col,dd,k0,k1,k2,k3,k5,lk⟩,λh X=>tail_K X (λA tl=>by simp) t1,opq,self⟩
 inC:=inC
 set:=st
 und:=und
 tak:=tak
 hasD:=hasD
 fn:=⟨_,lf,rfl,rfl⟩
 names:=let ⟨m,a,b⟩:=ns_K sN;⟨m,a,b _ _ i⟩
 code:=λh X=>codeRec_of X cdi
 body:=body
 ne:=ne
 dbg:=dbg
 par:=par
 bind:=λs a b=>.of_eq (bind a b)
 cell:=cell
 loc1:=loc1
 loc2:=loc2
 flags:=flags
 kinds:=kinds
 file:=let ⟨vs,fl,tf,a,b,c⟩:=file;⟨cda,ocd,vs,fl,tf,hc,lc,a,b,c⟩
 top:=top
 glob:=glob
 blt:=blt
 cc:=⟨cc,ccl,λh X=>⟨_,X _ _ lcc,occd⟩⟩
end EX
namespace EX
open PySem PySem.Spec PyProof.Rows L2
structure XG (K:W.Frag)(C:Addr)(f:Str):Prop where
 ga:PySem.W.findIn K (.ref C) "__getattribute__"=some (some (.builtin "BaseException.__getattribute__"))
 gt:PySem.W.findIn K (.ref C) "__getattr__"=some none
 bm:PySem.W.mroIn K C (.type "BaseException")=some true
 no:PySem.W.findIn K (.ref C) f=some none
 hd:PySem.W.hasDictIn K C=true
def zqr {v:V}{u:Value}(r:RelV v u):PySem.W.handedIn u=true:=by
 cases v <;> (first|(obtain rfl:=r;rfl)|(obtain⟨_,rfl⟩:=r;rfl))
section
variable {X:Cx}{pins:List (Addr×Obj)}{Y:L2.St}{H:Hp}{s:Shared}{A:Around}{E:Value->Shared->Prop}{C a d:Addr}{oa od:Obj}{f:Str}{fs:List (Str×V)}{v:V}{expr:Bool}{Q:Value->Shared->Prop}
def zma (I:Inv X pins Y H s)(c:XG X.K C f)(ha:H a=some (.frz oa X0))(hc:oa.cls=.ref C)(hn:PySem.W.notCls oa=true)(hdd:oa.dict=some d)(hd:H d=some (.frz od (.xd fs)))(hv:fs.lookup f=some v)
 (hq:∀u tk,RelV v u->Q u {s with toks:=tk}):wpAny (model X.prog X.w) A (getAttr (.ref a) f expr) Q E s:=by
 obtain⟨e1,_⟩:=I.hok a _ ha;obtain⟨e2,mA,⟨o',es,ep,e3,e4,e5,e6,e7⟩,r⟩:=I.hok d _ hd;obtain rfl:o'=od:=wav (e3.symm.trans e2);have rv:=r f
 rw[hv] at rv;cases hm:mA f with
|none=>rw[hm] at rv;exact rv.elim
|some u=>
   rw[hm] at rv;have rv:RelV v u:=rv
   have lk:PySem.W.lookIn f o'=some (some u):=by
    have e8:=(e7 f).trans hm
    unfold PySem.W.lookIn;rw[e4];dsimp only;unfold nsFind findBy at e8;obtain⟨es⟩:=es;rw[List.find?_toArray] at e8;obtain⟨en,z1,z2⟩:=wbw.mp e8;have z1:List.find? (λe:DictEntry=>e.key.isStr f) es=some en:=z1
    rw[z1];dsimp only;rw[z2]
   have J:PySem.W.InstAt s.heap a oa C (some o'):=⟨e1,hc,hn,by rw[hdd];exact e2⟩
   obtain⟨cd,hcd,hh⟩:=PySem.W.any_some c.hd;have hf:PySem.W.findObj X.K C (some o') f=some (.value u):=by
    unfold PySem.W.findObj;rw[hcd,zOB,c.no,zOB];simp[PySem.W.ownOf,hh,lk]
   obtain⟨h,g,dd,t,os⟩:=s;exact zow I.kIn J c.ga c.gt c.bm hf (zqr rv) (hq u _ rv)
def zhP (H:Hp)(a C:Addr)(fs:List (Str×V)):Prop:=∃oa d od,H a=some (.frz oa X0)/\oa.cls=.ref C/\PySem.W.notCls oa=true/\oa.dict=some d/\H d=some (.frz od (.xd fs))
def zrH (K:W.Frag)(ta:TE)(f:Str):TE:=λY H Q=>ta Y H λx H1=>∃a C fs v,x=.ref a/\zhP H1 a C fs/\XG K C f/\fs.lookup f=some v/\Q v H1
def zox {e:Expr}{pos:Pos}{ta:TE}(he:PE X e ta)(hb:attributeBase e f X.env (eval e X.env)=eval e X.env):PE X (.Attribute e f pos) (zrH X.K ta f):=by
 intro pins s Y H Q I h;refine znv hb (thn (he pins s Y H _ I h) λu s1 ⟨x,H1,I1,rx,a,C,fs,v,ex,⟨oa,d,od,h1,h2,h3,h4,h5⟩,c,l,q⟩=>?_);subst ex;obtain rfl:u=Value.ref a:=rx;exact zma I1 c h1 h2 h3 h4 h5 l λu' tk ru=>⟨v,H1,I1.tok tk,ru,q⟩
structure XK1 (K:W.Frag)(C:Addr):Prop where
 ga:PySem.W.findIn K (.ref C) "__getattribute__"=some (some (.builtin "BaseException.__getattribute__"))
 gt:PySem.W.findIn K (.ref C) "__getattr__"=some none
 bm:PySem.W.mroIn K C (.type "BaseException")=some true
 om:PySem.W.mroIn K C (.type "object")=some true
 hd:PySem.W.hasDictIn K C=true
 cl:PySem.W.findIn K (.ref C) "__class__"=some (some (.builtin "object.__class__"))
 sg:PySem.W.specialIn K (.builtin "object.__class__") "__get__"=some (some (.builtin "getset_descriptor.__get__"))
 tk:PySem.W.takesIn K (.builtin "object.__class__")=some true
def zkj (I:Inv X pins Y H s)(c:XK1 X.K C)(hc:zhP H a C fs){cv:Value}{b:Bool}(e:PySem.W.kitOne X.K (.ref C) cv=some b)(hq:∀tk,Q (.bool b) {s with toks:=tk}) :
 wpAny (model X.prog X.w) A (call (.builtin "isinstance") [.ref a,cv]) Q E s:=by
 obtain⟨oa,d,od,h1,h2,h3,h4,h5⟩:=hc;obtain⟨e1,_⟩:=I.hok a _ h1;obtain⟨e2,_⟩:=I.hok d _ h5;have J:PySem.W.InstAt s.heap a oa C (some od):=⟨e1,h2,h3,by rw[h4];exact e2⟩
 have hf:PySem.W.findObj X.K C (some od) "__class__"=some (.bind (.builtin "getset_descriptor.__get__") (.builtin "object.__class__")):=
  PySem.W.findObj_data (by obtain⟨cd,hc,_⟩:=PySem.W.any_some c.hd;rw[hc];rfl) c.cl c.sg c.tk
 exact waQ (zhO c.ga c.gt c.bm c.om c.hd hf) I.kIn J e (λz=>nomatch z) hq
end
end EX
namespace EX
open PySem PySem.Spec PySem.W PyProof.Rows
section
variable {prog:Program}{w:World}{A:Around}{E:Value->Shared->Prop}{h:Heap}{g:Array GenState}{d:Drawn}{t:Nat}{os:OsState}
variable {nm q:Str}{C N:Addr}{bs bm bmB:List Value}{hdct:Bool}{sn:List Str}{sub:List Value}{ab:Bool}{col:Option Bool}{dd:Option Addr}{k0 k1 k2 k3 k5:Option Value}{B newId initId:String}
def zeK (F:ExcBaseFacts B newId initId bmB)(T:OwnTail h bmB bm){mN:Str->Option Value}{rest:List Value}{Q:Fin->Shared->Prop}(hC:h.get? C=some (excClassObj nm q C N bs bm hdct sn sub ab col dd k0 k1 k2 k3 k5 newId))(hn:h.Ns N mN)(hi:mN "__init__"=none)
 (hq:∀h' e,Heap.MadeExcOf h h' e (.ref C) rest->h.objs.size<=e->Q (.done (.ret (.ref e))) ⟨h',g,d,t,os⟩) (hrest:rest.length<=sizeLine):wpAny (model prog w) A (Builtin.«type.__call__» ⟨.ref C::rest,[]⟩) Q E ⟨h,g,d,t,os⟩:=by
 repeat (first|with_reducible refine wbe hC ?_|with_reducible refine wpAny_madeBy_exc hC ?_|wp_step)
 refine codeAny_call_builtin_code (wbC _ F.quiet) (wpAny_check_new_subT F T hC (codeAny_exc_new_subT F T hC ?_ hrest));show wpAny _ _ _ _ _ _
 have up:∀b o,h.get? b=some o->((h.push {cls:=.type "tuple",data:=.seq rest.toArray}).push {cls:=.ref C,data:=.fields #[.ref h.objs.size,.none,.none,.none,.bool false,.none]}).get? b=some o:=λb o e=>wab _ (wab _ e)
 have c1:=up _ _ hC;have n1:=hn.keeps up;have T1:=T.keeps up
 have hget:((h.push {cls:=.type "tuple",data:=.seq rest.toArray}).push {cls:=.ref C,data:=.fields #[.ref h.objs.size,.none,.none,.none,.bool false,.none]}).get? (h.objs.size+1)=some {cls:=.ref C,data:=.fields #[.ref h.objs.size,.none,.none,.none,.bool false,.none]}:=by heap_get
 have hcC:(Value.ref C::bm).contains (.ref C)=true:=by simp
 unfold isInstance;repeat (first|with_reducible refine wbe hget ?_|(with_reducible refine wcg c1 ?_;rw[hcC])|wp_step)
 show wpAny _ _ (typeLookup (.ref C) _) _ _ _
 refine wpAny_typeLookup_tail c1 n1 T1 F.mroIs F.init.lookup ?_;rw[hi];refine waY (waa (wcf (F.init.bind _) (waa (wch (wbG F.init.plain F.initEntry (wpAny_check_init_subT F T1 c1 hget rfl ?_))))));wp_walk
 refine hq _ (h.objs.size+1) ⟨λb o hb=>?_,wbp (wbN _),h.objs.size+2,?_,wbp (by omega),?_⟩ (wbN _)
 .rw[waE _ _ (wcJ (Nat.lt_succ_of_lt (waf hb)))];exact wab _ (up _ _ hb)
 .rw[waR _ (wab _ hget) rfl];simp only[wbE];rfl
 .rw[waE _ _ (show h.objs.size+1≠h.objs.size+2 by omega)];exact wbZ (by simp only[wbE]) rfl
def zkk (F:ExcBaseFacts B newId initId bmB)(T:OwnTail h bmB bm){mN:Str->Option Value}{rest:List Value}{Q:Value->Shared->Prop}
 (hC:h.get? C=some (excClassObj nm q C N bs bm hdct sn sub ab col dd k0 k1 k2 k3 k5 newId)) (hn:h.Ns N mN) (hi:mN "__init__"=none)
 (hq:∀h' e,Heap.MadeExcOf h h' e (.ref C) rest->h.objs.size<=e->Q (.ref e) ⟨h',g,d,t,os⟩) (hrest:rest.length<=sizeLine):wpAny (model prog w) A (call (.ref C) rest) Q E ⟨h,g,d,t,os⟩:=by
 have f1:=tc_lookup;have f2:=tc_bind (.ref C)
 have hT:(⟨h,g,d,t,os⟩:Shared).TypeIs (.ref C) "type":=⟨_,hC,rfl⟩
 refine wch (wcE ?_);show wpAny _ _ (callAny (.ref C) _) _ _ _
 repeat (any_goals (first|assumption|with_reducible refine wbe hC ?_|wp_step))
 refine⟨rfl,?_⟩;refine codeAny_call_builtin_at (wbC _ (by decide +kernel)) entry_typeCall (wpAny_check_type_call_sub hC (zeK F T hC hn hi (λh' e hm he=>?_) hrest));exact hq h' e hm he
end
open L2
structure XJ (K:Frag)(C N:Addr)(bm:List Value):Prop where
 cls:XC K C N bm
 no:nsIn K N "__init__"=some none
 sts:strsIn K N=true
section
variable {X:Cx}{C N:Addr}{bm:List Value}{cn:Str}{e:Expr}{te:TA}{E:XK}{np cp pos:Pos}{k:Nat}
def zoy (C:Addr)(E:XK)(te:TA):TS:=λD Y H=>te Y H λvs H1=>vs.length<=1/\E (.ref C) none H1
def zkl (c:XJ X.K C N bm)(hg:Gl X cn)(hm:X.mg cn=some (.ref C))(hk:keepIn X.K (.ref C)=true)(hB:bm.contains (.type "BaseException")=true)(hr:Room (k+1) X.A)(hL:Leaves X E)(ha:PA X [e] te)
 (hdb:(cn == ("__debug__":Str))=false:=by decide) (he:starEach [e] X.env=(false,eval e X.env)::starEach [] X.env:=by rfl):PS X (.Raise (some (.Call (.Name cn np) [e] [] cp)) none pos) (zoy C E te):=by
 intro pins s Y H D I h;obtain⟨nm',q,bs,hdct,sn,sub,ab,col,dd,k0,k1,k2,k3,k5,ho⟩:=c.cls.obj;obtain⟨mN,hN,hmN⟩:=ns_K c.sts;show wpAny (model X.prog X.w) X.A (do standAt pos;raiseStmt X.env (some (do let v <-eval (.Call (.Name cn np) [e] [] cp) X.env;standAt pos;pure v)) none) _ X.xe s
 refine waa (waZ (zeT (C:=C) (nm:=nm') (q:=q) (N:=N) (bs:=bs) (bm:=bm) (hdct:=hdct) (sn:=sn) (sub:=sub) (ab:=ab) (col:=col) (dd:=dd) (k0:=k0) (k1:=k1) (k2:=k2) (k3:=k3) (k5:=k5) (newId:="ValueError.__new__") hB hr.hd (waa ?_)));refine waG (zcD I hg hm ?_ hdb);refine callWith_K (h₀:=X.base) I.ok.mod.kin hk (thn (ha cp pins s Y H _ I h) λus s1 ⟨vs,H1,I1,r,hl,q⟩=>⟨I1.kIn,?_⟩) he rfl;obtain⟨h1,g,d,t,os⟩:=s1;refine zkk wca (c.cls.tail h1 I1.kIn) (I1.kIn _ _ ho) (hN h1 I1.kIn) (hmN _ _ c.no) (λh' e' M he'=>?_) (wal (by rw[<-r.length];exact hl:us.length<=1) (by decide +kernel));obtain⟨tt,ht,_,_⟩:=M.there;refine waa (waZ (wad ⟨e',tt,none,rfl,M.keeps _ _ (I1.kIn _ _ ho),ht,?_⟩));exact hL pins Y H1 _ e' (.ref C) none (I1.kept (t':=t) M.keeps) ⟨wal I1.sz he',I1.hok.fresh he',(λd z=>nomatch z),_,_,ht,.inl rfl⟩ q
end
def zkm (H:Hp)(a C:Addr):Prop:=∃oa,H a=some (.frz oa X0)/\oa.cls=.ref C/\notCls oa=true/\oa.dict=none
section
variable {X:Cx}{pins:List (Addr×Obj)}{Y:L2.St}{H:Hp}{s:Shared}{A:Around}{E:Value->Shared->Prop}{C a:Addr}{oa:Obj}{Q:Value->Shared->Prop}
def ziu (I:Inv X pins Y H s)(c:XK1 X.K C)(hc:zkm H a C){cv:Value}{b:Bool}(e:kitOne X.K (.ref C) cv=some b)(hq:∀tk,Q (.bool b) {s with toks:=tk}):wpAny (model X.prog X.w) A (call (.builtin "isinstance") [.ref a,cv]) Q E s:=by
 obtain⟨oa,h1,h2,h3,h4⟩:=hc;obtain⟨e1,_⟩:=I.hok a _ h1;have J:InstAt s.heap a oa C none:=⟨e1,h2,h3,by rw[h4];trivial⟩
 have hf:findObj X.K C none "__class__"=some (.bind (.builtin "getset_descriptor.__get__") (.builtin "object.__class__")):=by obtain⟨cd,hcd,_⟩:=any_some c.hd;unfold findObj;rw[hcd,zOB,c.cl,zOB];simp[c.sg,c.tk]
 exact kia_one (zhO c.ga c.gt c.bm c.om c.hd hf) I.kIn J e (λz=>nomatch z) hq
end
end EX
namespace VD
open PySem PySem.Spec PyProof PyProof.Rows L2 EX
def XAtD (K:W.Frag)(H:Hp)(J:Addr->Prop)(x:D)(cls:Value)(dx:Option Addr):Prop:=
 ∃c ns ds C,x=.exc c ns ds/\W.nsIn K mainGlobals c=some (some (.ref C))/\cls=.ref C/\
  ((dx=none/\ns = []/\ds = [])\/∃d vs,dx=some d/\¬J d/\H d=some (.xd (ns.zip vs))/\ns.length=vs.length/\RpL K H J vs ds)
def WantsX (K:W.Frag)(H:Hp)(J:Addr->Prop)(x:D)(E:XK):Prop:=
 ∀H' J' cls dx,Up H J H' J'->XAtD K H' J' x cls dx->(∀d,dx=some d->H d=none)->E cls dx H'
def FitsX (K:W.Frag)(Hz:Hp)(Jz:Addr->Prop)(O:Pr)(x:D)(E:XK):Prop:=
 ∀Z' Y' H' J' cls dx,ST K Hz Jz O Z' Y' H' J'->XAtD K H' J' x cls dx->(∀d,dx=some d->Hz d=none)->E cls dx H'
section
variable {K:W.Frag}{H H' H1 Hz:Hp}{J J' J1 Jz:Addr->Prop}{O:Pr}{Z:En}{Y:L2.St}{x:D}{E:XK}
def ST.h0 (s:ST K Hz Jz O Z Y H J){b:Addr}(h:H b=none):Hz b=none:=by
 cases e:Hz b with
|none=>rfl
|some o=>exact absurd h (s.al b (by rw[e];simp))
def FitsX.wants (f:FitsX K Hz Jz O x E)(s:ST K Hz Jz O Z Y H J):WantsX K H J x E:=λH' J' cls dx u a n=>
 f Z Y H' J' cls dx (s.up u) a λd e=>s.h0 (n d e)
def WantsX.up (w:WantsX K H J x E)(u:Up H J H1 J1):WantsX K H1 J1 x E:=λH' J' cls dx u' a n=>
 w H' J' cls dx (u.trans u') a λd e=>u.same.free (n d e)
def ST.unset {i:Nat}(s:ST K Hz Jz O Z Y H J)(hp:∀n d,Z[i]?≠some (.par n d)):ST K Hz Jz O (Z.set i .un) (Y.set i none) H J where
 same:=s.same
 j0:=s.j0
 jn:=s.jn
 ja:=s.ja
 len:=by simp[s.len]
 vl:=λj e h=>by
  rcases zdd h with⟨rfl,he⟩|⟨ne,h⟩
  .cases he
  .rw[wae (Ne.symm ne)];exact s.vl j e h
 ow:=by
  obtain⟨fp,w⟩:=s.ow;refine⟨_,w.put (i:=i) (A:=[]) Keep.refl (λ_ _ _ _ _ h=>h) (λj _=>w.nj j) (λj e=>wae (Ne.symm e)) (λj e=>wae (Ne.symm e)) ?_ waU (by simp) (by simp)⟩;by_cases hi:i<Z.length
  .rw[wau hi];rfl
  .have z:(List.set Z i SV.un)[i]?=none:=waO (by simp;omega)
   rw[z];rfl
 ps:=λq hq=>by
  have e:=s.psNe hp q hq
  rw[wae (Ne.symm e),wae (Ne.symm e)];exact s.ps q hq
 al:=s.al
end
def GoQ (K:W.Frag)(t:TEX)(f:FE):Prop:=∀Hz Jz O Z Y H J x Q E,ST K Hz Jz O Z Y H J->f Z=some x->WantsX K H J x E->t Y H Q E
def VQ (X:Cx)(e:Expr)(f:FE):Prop:=∃t,PEX X e t/\GoQ X.K t f
def spX (K:W.Frag)(F:List D->Option D):Sp:=λvs H _ E=>∃J ds x,(∀a,J a->H a≠none)/\RpL K H J vs ds/\F ds=some x/\WantsX K H J x E
structure CalX (P:Program)(w:World)(K:W.Frag)(mg:Str->Option Value)(base:Heap)(k:Nat)(x:Str)(ps:List Str)(sp:Sp):Prop where
 ex:∃(f:Addr) (fd:FuncData),FnOk P w K mg base (CXE P w) k f fd ps sp/\Binds K fd ps []/\W.keepIn K (.ref f)=true/\mg x=some (.ref f)
def zg0 {P:Program}{w:World}{K:W.Frag}{mg:Str->Option Value}{base:Heap}{k:Nat}{x:Str}{ps:List Str}{sp:Sp}{f:Addr}{fd:FuncData}(h:FnOk P w K mg base (CXE P w) k f fd ps sp)(b:Binds K fd ps [])(c:W.keepIn K (.ref f)=true)(d:mg x=some (.ref f)) :
 CalX P w K mg base k x ps sp:=⟨f,fd,h,b,c,d⟩
section
variable {X:Cx}{k k':Nat}{x:Str}{ps:List Str}{F:List D->Option D}{e:Expr}{es:List Expr}{fl:FA}{f:FE}{p pos:Pos}
def zkn (C:CalX X.prog X.w X.K X.mg X.base k x ps (spX X.K F))(hr:Room k' X.A)(ha:VA X.nox (e::es) fl)(hk:k<=k':=by decide)(hg:Gl X x:=by rfl)(hdb:(x == ("__debug__":Str))=false:=by decide)
 (he:starEach (e::es) X.env=(false,eval e X.env)::starEach es X.env:=by rfl) (hpl:(backTo pos (starEach es X.env)).any (·.1)=false:=by rfl):VQ X (.Call (.Name x p) (e::es) [] pos) (eCall F fl):=by
 obtain⟨f,fd,a,b,c,d⟩:=C.ex;obtain⟨t,p,g⟩:=ha;refine⟨_,zl9 (a.mono hk) hr hg d c b .nil p hdb he hpl,?_⟩;intro Hz Jz O Z Y H J x Q E s e w;obtain⟨ds,e1,e⟩:=bind_some e;refine g Hz Jz O Z Y H J ds _ s e1 λvs H1 J1 u1 r1=>?_
 exact⟨J1,ds,x,u1.ja,by rw[waI];exact r1,e,w.up u1⟩
def zko {t:TEX}{E:XK}(h:PEX X e t)(L:Leaves X E):PE X e (λY H Q=>t Y H Q E):=λpins s Y H Q I hw=>
 was (h pins s Y H Q E I hw) (λ_ _ q=>q) λe s' ⟨H1,s1,I1,hc⟩=>L.passes pins Y H1 s1 e s' I1 hc
end
def FitsR (K:W.Frag)(Hz:Hp)(Jz:Addr->Prop)(O:Pr)(H:Hp)(J:Addr->Prop)(D:Ends)(E:XK):Out->Prop
|.nx Z'=>∀Y' H' J',ST K Hz Jz O Z' Y' H' J'->Keep K H J H' J'->D.nx Y' H'
|.bk Z'=>∀Y' H' J',ST K Hz Jz O Z' Y' H' J'->Keep K H J H' J'->D.bk Y' H'
|.ct Z'=>∀Y' H' J',ST K Hz Jz O Z' Y' H' J'->Keep K H J H' J'->D.ct Y' H'
|.ret (.told x) _=>FitsX K Hz Jz O x E
|.ret (.new _ _) _=>False
def FitsR.keep {K:W.Frag}{Hz:Hp}{Jz:Addr->Prop}{O:Pr}{H H1:Hp}{J J1:Addr->Prop}{D:Ends}{E:XK}(k:Keep K H J H1 J1):∀{o:Out},FitsR K Hz Jz O H J D E o->FitsR K Hz Jz O H1 J1 D E o
|.nx _,h=>λY' H' J' s q=>h Y' H' J' s (k.trans q)
|.bk _,h=>λY' H' J' s q=>h Y' H' J' s (k.trans q)
|.ct _,h=>λY' H' J' s q=>h Y' H' J' s (k.trans q)
|.ret (.told _) _,h=>h
|.ret (.new _ _) _,h=>h
def GoRz (K:W.Frag)(E:XK)(t:TS)(g:FS):Prop:=∀Hz Jz O Z Y H J o D,ST K Hz Jz O Z Y H J->g Z=some o->FitsR K Hz Jz O H J D E o->t D Y H
def VRS (X:Cx)(E:XK)(st:Stmt)(g:FS):Prop:=∃t,PS X st t/\GoRz X.K E t g
def VRs (X:Cx)(E:XK)(sts:List Stmt)(g:FS):Prop:=∃t,PSs X sts t/\GoRz X.K E t g
def zg1 (g:FS):Prop:=∀Z r Z',g Z≠some (.ret r Z')
section
variable {X:Cx}{E:XK}{st:Stmt}{sts:List Stmt}{g g2:FS}{pos:Pos}{e a:Expr}{fa:FE}{fl:FA}{ft:FT}
def zqs {i:Nat}:zg1 (gSet i fa):=λZ r Z' e=>by
 obtain⟨a,_,e⟩:=bind_some e;split at e <;> cases e
def zqt {i:Nat}:zg1 (gOwn i fl):=λZ r Z' e=>by
 obtain⟨a,_,e⟩:=bind_some e;split at e <;> cases e
def zqu {i:Nat}:zg1 (gApp i fa):=λZ r Z' e=>by
 obtain⟨a,_,e⟩:=bind_some e;split at e
 .split at e <;> cases e
 .cases e
def zrI:zg1 (gEx fa):=λZ r Z' e=>by
 obtain⟨a,_,e⟩:=bind_some e;cases e
def zqv {fg:FG}:zg1 (gAsg fa fg):=λZ r Z' e=>by
 obtain⟨a,_,e⟩:=bind_some e;obtain⟨b,_,e⟩:=bind_some e;cases e
def zf7 (h:VS X st g)(n:zg1 g:=by first|exact zqs|exact zqt|exact zqu|exact zrI|exact zqv):VRS X E st g:=by
 obtain⟨t,p,q⟩:=h;refine⟨t,p,λHz Jz O Z Y H J o D s e w=>q Hz Jz O Z Y H J o D s e ?_⟩;cases o with
|ret r Z'=>exact absurd e (n Z r Z')
|_=>exact w
def zdr:VRS X E st gNo:=⟨_,zhl,λHz Jz O Z Y H J o D s e w=>by cases e⟩
def zbk:VRs X E [] gNx:=⟨_,ziX,λHz Jz O Z Y H J o D s e w=>by cases e;exact w Y H J s Keep.refl⟩
def zkp {K:W.Frag}{t u:TS}(h1:GoRz K E t g)(h2:GoRz K E u g2):GoRz K E (tSeq t u) (gSeq g g2):=by
 intro Hz Jz O Z Y H J o D s e w;obtain⟨o1,e1,e⟩:=bind_some e;refine h1 Hz Jz O Z Y H J o1 _ s e1 ?_;cases o1 with
|nx Z'=>exact λY' H' J' s' k=>h2 Hz Jz O Z' Y' H' J' o D s' e (w.keep k)
|bk Z'=>cases e;exact w
|ct Z'=>cases e;exact w
|ret d Z'=>cases e;cases d <;> exact w
def zaG (h1:VRS X E st g)(h2:VRs X E sts g2):VRs X E (st::sts) (gSeq g g2):=by
 obtain⟨t,p,q⟩:=h1;obtain⟨u,p2,q2⟩:=h2;exact⟨_,ze3 p p2,zkp q q2⟩
def zcf (h:VRS X E st g):VRs X E [st] g:=let ⟨t,p,q⟩:=h;⟨t,ziY p,q⟩
def zhQ (h:VRS X E st g):VRs X E (st::sts) (gSeq g gNo):=by
 obtain⟨t,p,q⟩:=h;have nv:∀sts:List Stmt,PSs X sts ziZ:=λsts _ _ _ _ _ _ h=>h.elim
 exact⟨_,ze3 p (nv sts),zkp q λHz Jz O Z Y H J o D s e w=>by cases e⟩
def zfm (is:List Nat)(h:VRs X E sts g):VRs X E sts (zoe is g):=by
 obtain⟨t,p,q⟩:=h;exact⟨t,p,λHz Jz O Z Y H J o D s e w=>q Hz Jz O _ Y H J o D (s.dropE is) e w⟩
def zeL {c:Expr}{bs os:List Stmt}(hc:VT X c ft)(ha:VRs X E bs g)(hb:VRs X E os g2):VRS X E (.If c bs os pos) (gIf ft g g2):=by
 obtain⟨tc,pc,qc⟩:=hc;obtain⟨t,p,q⟩:=ha;obtain⟨u,p2,q2⟩:=hb;refine⟨_,znq pc p p2,λHz Jz O Z Y H J o D s e w=>?_⟩;obtain⟨k,e1,e⟩:=bind_some e;refine qc Hz Jz O Z Y H J k _ s e1 λH1 J1 u1=>?_
 cases k with
|true=>exact iteT (q Hz Jz O Z Y H1 J1 o D (s.up u1) e (w.keep u1.keep))
|false=>exact iteF (q2 Hz Jz O Z Y H1 J1 o D (s.up u1) e (w.keep u1.keep))
def zm9 {tg iter:Expr}{body:List Stmt}{is:List Nat}{fg:FG}{fi:FA}(hi:VI X tg iter fi)(hg:VG X tg is fg)(hb:VRs X E body g)(hp:PassesOwn (model X.prog X.w) X.A X.env X.xe:=by exact PassesOwn.leaving)(hc:X.calm=true:=by rfl)
 (hs:∀x,foldedSetIterable iter X.env x=pure x:=by intro _;rfl):VRS X E (.For tg iter body [] pos) (gFor fi fg g):=by
 obtain⟨wi,p1,q1⟩:=hi;obtain⟨t,p2,q2⟩:=hg;obtain⟨tb,p3,q3⟩:=hb;refine⟨_,zmz hp hc p1 p2 p3 hs,?_⟩;intro Hz Jz O Z Y H J o D s e w;obtain⟨ds,e1,e⟩:=bind_some e;refine q1 Hz Jz O Z Y H J ds _ s e1 λI H1 J1 u1 src=>?_
 refine⟨λi m Y' H'=>m=ds.length - i/\i<=ds.length/\∃Z' J',ST X.K Hz Jz O Z' Y' H' J'/\Keep X.K H1 J1 H' J'/\forL fg g (ds.drop i) Z'=some o,⟨ds.length,by simp,wbu _,Z,J1,s.up u1,Keep.refl,by simpa using e⟩,?_⟩;rintro i m Y2 H2 ⟨rfl,hil,Z2,J2,s2,k2,e2⟩;obtain⟨stop,turn⟩:=src H2 J2 k2 s2.ja;by_cases hlt:i<ds.length
 .right
  have hd:ds[i]?=some ds[i]:=wat hlt
  generalize hdd:ds[i]=d at hd;obtain⟨go,yl⟩:=turn i d hd;have edrop:ds.drop i=d::ds.drop (i+1):=by rw[<-hdd];exact(wbx hlt).symm
  rw[edrop] at e2;unfold forL at e2;obtain⟨Z3,eg,e2⟩:=bind_some e2;obtain⟨ob,eb,e2⟩:=bind_some e2;refine⟨go,λY' H'=>∃Z' J',ST X.K Hz Jz O Z' Y' H' J'/\Keep X.K H1 J1 H' J'/\forL fg g (ds.drop (i+1)) Z'=some o,λY' H' h=>⟨ds.length - (i+1),by omega,rfl,hlt,h⟩,λx H3 y=>?_⟩;obtain⟨J3,u3,r3⟩:=yl x H3 y;refine q2.2 Hz Jz O Z2 Y2 H3 J3 x d Z3 _ (s2.up u3) r3 eg λY4 s4=>?_
  refine q3 Hz Jz O Z3 Y4 H3 J3 ob _ s4 eb ?_;have k3:=k2.trans u3.keep
  cases ob with
 |nx Z5=>exact λY5 H5 J5 s5 k5=>⟨Z5,J5,s5,k3.trans k5,e2⟩
 |ct Z5=>exact λY5 H5 J5 s5 k5=>⟨Z5,J5,s5,k3.trans k5,e2⟩
 |bk Z5=>cases e2;exact λY5 H5 J5 s5 k5=>w Y5 H5 J5 s5 ((u1.keep.trans k3).trans k5)
 |ret d Z5=>cases e2;cases d <;> exact w
 .left
  have hi':i=ds.length:=by omega
  subst hi';rw[wce] at e2;cases e2;exact⟨stop,w Y2 H2 J2 s2 (u1.keep.trans k2)⟩
def zna (h:VQ X e fa)(L:Leaves X E)(hs:swapsWith e none pos.line X.env=pure false:=by rfl):VRS X E (.Expr e pos) (gRet fa):=by
 obtain⟨t,p,q⟩:=h;refine⟨_,zdA (zko p L) hs,?_⟩;intro Hz Jz O Z Y H J o D s e w;obtain⟨x,e1,e⟩:=bind_some e;cases e;exact q Hz Jz O Z Y H J x _ E s e1 (FitsX.wants w s)
end
structure XCl (P:Program)(w:World)(K:W.Frag)(mg:Str->Option Value)(c nm:Str)(ok:D->Bool):Prop where
 sup:mg "super"=none
 ex:∃C N fI bm slf x J fd,XI P w K C N fI bm slf x nm J fd/\mg c=some (.ref C)/\W.nsIn K mainGlobals c=some (some (.ref C))/\W.keepIn K (.ref C)=true/\bm.contains (.type "BaseException")=true/\
  ∀(h:Heap) (u:Value) (d:D),ok d=true->ndD d=true/\(Rh h u d->Says P w K fd fI x J u h)
def rz (c nm:Str)(ok:D->Bool)(d:D):Option D:=if ok d then some (.exc c [nm] [d]) else none
def eRz (c nm:Str)(ok:D->Bool)(f:FE):FE:=λZ=>(f Z).bind (rz c nm ok)
section
variable {X:Cx}{E:XK}{c nm:Str}{ok:D->Bool}{e:Expr}{fa:FE}{k:Nat}{np cp pos:Pos}
def zfn (cl:XCl X.prog X.w X.K X.mg c nm ok)(hr:Room (k+1) X.A)(hL:Leaves X E)(ha:VE X e fa)(hg:Gl X c:=by rfl)
 (hdb:(c == ("__debug__":Str))=false:=by decide) (he:starEach [e] X.env=(false,eval e X.env)::starEach [] X.env:=by rfl):VRS X E (.Raise (some (.Call (.Name c np) [e] [] cp)) none pos) (gRet (eRz c nm ok fa)):=by
 obtain⟨C,N,fI,bm,slf,x,J,fd,xi,hm,hn,hk,hB,says⟩:=cl.ex;obtain⟨t,p,g⟩:=zaa ha zaf he;refine⟨_,zl6 (SJ:=λv H=>∃J d,Rp X.K H J v d/\ok d=true) xi cl.sup hg hm hk hB hr hL p ?_ hdb he,?_⟩
 .rintro pins Y H s v u I r ⟨J,d,rv,hok⟩;exact(says s.heap u d hok).2 (Rp.rh I rv (says s.heap u d hok).1 r)
 intro Hz Jz O Z Y H J o D s e w;obtain⟨y,e1,e⟩:=bind_some e;cases e;obtain⟨d,e0,e2⟩:=bind_some e1;unfold rz at e2;by_cases hok:ok d=true
 .rw[if_pos hok] at e2;cases e2;have e3:aCons fa aNil Z=some [d]:=by unfold aCons;rw[e0];rfl
  refine g Hz Jz O Z Y H J [d] _ s e3 λvs H1 J1 u1 r1=>?_
  obtain⟨v,rfl,rv⟩:=r1.one;refine⟨v,rfl,⟨J1,d,rv,hok⟩,λdx hdx=>?_⟩;have un:=Up.new u1.ja hdx (.xd [(nm,v)])
  have s1:=s.up u1
  exact w Z Y _ J1 _ _ (s1.up un) ⟨c,[nm],[d],C,rfl,hn,rfl,.inr ⟨dx,[v],rfl,λj=>u1.ja dx j hdx,zai,rfl,.cons (rv.keep un.keep) .nil⟩⟩ λb z=>by cases z;exact s1.h0 hdx
 .rw[if_neg hok] at e2;cases e2
end
def kX:Out->Option D
|.ret (.told d) _=>some d
|_=>none
def znb {P:Program}{w:World}{K:W.Frag}{mg:Str->Option Value}{base:Heap}{x qual:Str}{st:Stmt}{f:Addr}{fd:FuncData}{N ps:List Str}{k:Nat}{c:List D->Option D}(F:Fun K x qual st f fd)(S:FnScope N ps (zab st))(hlen:∀ds d,c ds=some d->ds.length=ps.length)
 (hbody:∀(cdv:Value) (A:Around) (outer:List Env) (s:Shared) (H:Hp) (E:XK),Room k (A.deeper (envOfC qual (zab st) s.heap.objs.size f cdv))->Leaves (cxOf (CXE P w) P w K mg base N qual (zab st) f cdv A outer s H E) E->
  ∃g,VRs (cxOf (CXE P w) P w K mg base N qual (zab st) f cdv A outer s H E) E (zaV st) g/\∀ds,ds.length=ps.length->EvS kX some g (ds.map SV.val++List.replicate (N.length - ps.length) .un) (c ds)):FnOk P w K mg base (CXE P w) (k+1) f fd ps (spX K c):=by
 obtain⟨oc,od,kV,doc,pm,an,cdv,ct,osl,rfl,lk,hcd⟩:=F.ex;refine zld lk hcd S (λvs H Q E h=>?_) λA outer s H vs Q E hr h=>?_
 .obtain⟨J,ds,d,ja,r,e,w⟩:=h;rw[r.length];exact hlen ds d e
 .obtain⟨J,ds,d,ja,r,e,w⟩:=h;have hl:=hlen ds d e
  obtain⟨g,⟨t,p,q⟩,ev⟩:=hbody cdv A outer s H E hr zf4;refine⟨t,p,?_⟩;have e:=ev ds hl d (by rw[e];rfl)
  rw[<-hl] at e;have s0:=zd4 (N:=N) ja r
  cases z:g (ds.map SV.val++List.replicate (N.length - ds.length) .un) with
 |none=>rw[z] at e;cases e
 |some o=>
    rw[z] at e;refine q H J Pr.no _ _ H J o _ s0 z ?_;cases o with
   |ret r Z'=>
      cases r with
     |told d'=>cases e;exact λZ' Y' H' J' cls dx s' x' n'=>w H' J' cls dx s'.out x' n'
     |new n d'=>cases e
   |_=>cases e
section
variable {X:Cx}{body ss:List Stmt}{e:Expr}{pos:Pos}{f fx:FE}{ft:FT}
def zqw {t:TS}(h:PSs X.nox ss t):PSX X ss (λD _ Y H=>t D Y H):=λpins s Y H D E I hw=>
 was (h pins s Y H D (zhM I) hw) (λfl s' q=>by
  cases fl with
 |next=>obtain⟨Y',H',J,q⟩:=q;exact⟨Y',H',zdT J,q⟩
 |brk=>obtain⟨Y',H',J,q⟩:=q;exact⟨Y',H',zdT J,q⟩
 |cont=>obtain⟨Y',H',J,q⟩:=q;exact⟨Y',H',zdT J,q⟩
 |ret u=>obtain⟨v,Y',H',J,r,q⟩:=q;exact⟨v,Y',H',zdT J,r,q⟩) λ_ _ z=>z.elim
def VXB (X:Cx)(ss:List Stmt)(gx:FE):Prop:=∃t,PSX X ss t/\∀Hz Jz O Z Y H J x D E,ST X.K Hz Jz O Z Y H J->gx Z=some x->WantsX X.K H J x E->t D E Y H
def zoz (i:Nat){x:Str}{pos':Pos}(hN:X.N.Nodup)(h:VQ X e f)(hi:X.N[i]?=some x:=by rfl)(hx:Loc X.env.scope x:=by first|exact Or.inl rfl|exact Or.inr rfl)(hs:swapsWith e (some (.Name x pos')) pos.line X.env=pure false:=by rfl)
 (hf:X.fn x=true\/X.env.scope.names.lookup x=some .local:=by first|exact .inl rfl|exact .inr rfl|assumption):VXB X [.Assign [.Name x pos'] e pos] f:=by
 obtain⟨t,p,q⟩:=h;exact⟨_,zov hN hi hx p hs hf,λHz Jz O Z Y H J x D E s e w=>q Hz Jz O Z Y H J x _ E s e w⟩
def zcq (cs:List Str):D->Bool
|.exc c _ _=>cs.contains c
|_=>false
structure XTy (K:W.Frag)(mg:Str->Option Value)(T:Str)(cs:List Str):Prop where
 ex:∃CT,mg T=some (.ref CT)/\PySem.W.mroIn K CT (.type "BaseException")=some true/\PySem.W.typeIn K (.ref CT)=some (.type "type")/\∀c C,c∈cs->W.nsIn K mainGlobals c=some (some (.ref C))->PySem.W.mroIn K C (.ref CT)=some true
def unO (i:Nat):Out->Option Out
|.nx Z=>if isPar (Z[i]?)=false then some (.nx (Z.set i .un)) else none
|.bk Z=>if isPar (Z[i]?)=false then some (.bk (Z.set i .un)) else none
|.ct Z=>if isPar (Z[i]?)=false then some (.ct (Z.set i .un)) else none
|.ret r Z=>some (.ret r Z)
def gTry (cs:List Str)(i:Nat)(gx:FE)(gb gh:FS):FS:=λZ=>match gx Z with
|some x=>if zcq cs x&&okS i Z then(gh (Z.set i (.val x))).bind (unO i) else none
|none=>gb Z
def zoA {K:W.Frag}{H H' H2:Hp}{J J':Addr->Prop}{x:D}{cls:Value}{dx:Option Addr}{a:Addr}{oa:Obj}(ja:∀a,J a->H a≠none)(u:Up H J H' J')(at':XAtD K H' J' x cls dx)(fr:∀d,dx=some d->H d=none)(ha:H' a=none)(hc:oa.cls=cls)(hd:oa.dict=dx)(hn:PySem.W.notCls oa=true)(h:Held H' a oa H2) :
 ∃J2,Up H J H2 J2/\Rp K H2 J2 (.ref a) x:=by
 obtain⟨c,ns,ds,C,rfl,hns,rfl,hx⟩:=at';rcases hx with⟨rfl,rfl,rfl⟩|⟨d,vs,rfl,njd,hxd,hl,rl⟩
 .rcases h with⟨hd',rfl⟩|⟨d,od,fs,hd',_,_⟩
  .refine⟨λb=>J' b\/b=a,⟨u.same.trans (ze9 ha _),λb h=>.inl (u.jj b h),λb h=>?_,λb h=>?_⟩,.exc ⟨.inr rfl,oa,C,hns,zai,hc,hn,.inl ⟨rfl,rfl,hd⟩⟩ .nil⟩
   .rcases h with h|rfl
    .exact u.jn b h
    .exact .inr (u.same.free ha)
   .by_cases z:b=a
    .subst z;rw[zai];simp
    .rw[zah z];rcases h with h|h
     .exact u.ja b h
     .exact absurd h z
  .rw[hd] at hd';cases hd'
 .rcases h with⟨hd',_⟩|⟨d',od,fs,hd',hf,rfl⟩
  .rw[hd] at hd';cases hd'
  .obtain rfl:d=d':=wav (hd.symm.trans hd');rw[hxd] at hf;cases hf;have hda:d≠a:=by rintro rfl;rw[hxd] at ha;cases ha
   have hHd:=fr d rfl
   have hne:∀b o,b≠a->b≠d->H' b=o->(upd (upd H' a (.frz oa X0)) d (.frz od (.xd (ns.zip vs)))) b=o:=λb o h1 h2 h3=>by rw[zah h2,zah h1];exact h3
   have kp:Keep K H' J' (upd (upd H' a (.frz oa X0)) d (.frz od (.xd (ns.zip vs)))) (λb=>J' b\/b=a\/b=d):=⟨λ_ h=>.inl h,λp o j h=>hne p _ (λz=>by subst z;rw[ha] at h;cases h) (λz=>by subst z;exact njd j) h,λp us h=>by
    have sm:∀o,H' p=some o->(∀fs,o≠.xd fs)->(upd (upd H' a (.frz oa X0)) d (.frz od (.xd (ns.zip vs)))) p=some o:=λo h hx=>hne p _ (λz=>by subst z;rw[ha] at h;cases h) (λz=>by subst z;rw[hxd] at h;cases h;exact hx _ rfl) h
    rcases h with(h|⟨o,h⟩)|h
    .exact .inl (.inl (sm _ h λ_ z=>by cases z))
    .exact .inl (.inr ⟨o,sm _ h λ_ z=>by cases z⟩)
    .exact .inr h⟩
   refine⟨λb=>J' b\/b=a\/b=d,⟨λb o e=>?_,λb h=>.inl (u.jj b h),λb h=>?_,λb h=>?_⟩,.exc ⟨.inr (.inl rfl),oa,C,hns,by rw[zah hda.symm,zai];rfl,hc,hn,.inr ⟨d,od,hd,.inr (.inr rfl),zai,hl⟩⟩ (rl.keep kp)⟩
   .exact hne b _ (λz=>by subst z;rw[u.same.free ha] at e;cases e) (λz=>by subst z;rw[hHd] at e;cases e) (u.same b o e)
   .rcases h with h|rfl|rfl
    .exact u.jn b h
    .exact .inr (u.same.free ha)
    .exact .inr hHd
   .by_cases z2:b=d
    .subst z2;rw[zai];simp
    .rw[zah z2];by_cases z:b=a
     .subst z;rw[zai];simp
     .rw[zah z];rcases h with h|h|h
      .exact u.ja b h
      .exact absurd h z
      .exact absurd h z2
def zqx {T n:Str}{tp hp:Pos}{suite:List Stmt}{b₀:Stmt}{cs:List Str}{gx:FE}{gb gh:FS}(i:Nat)(ty:XTy X.K X.mg T cs)(hN:X.N.Nodup)(hx:VXB X body gx)(hb:VSs X.nox body gb)(hh:∀e,VSs (inH X e) (b₀::suite) gh)
 (hg:Gl X T:=by rfl) (hi:X.N[i]?=some n:=by rfl) (hk:X.env.kindOf n=some .local:=by rfl) (hst:X.stack=X.env::X.outer:=by rfl) (hf:X.env.frame=some X.env.locals:=by rfl) (hdb:(T == ("__debug__":Str))=false:=by decide) :
 VS X (.Try body [.ExceptHandler (some (.Name T tp)) (some n) (b₀::suite) hp] [] [] pos) (gTry cs i gx gb gh):=by
 obtain⟨CT,hm,hB,hT,hC⟩:=ty.ex;obtain⟨t1,p1,q1⟩:=hx;obtain⟨t2,p2,q2⟩:=hb;have pb:PSX X body (λD E Y H=>t1 D E Y H\/t2 D Y H):=λpins s Y H D E I h=>h.elim (p1 pins s Y H D E I) (zqw p2 pins s Y H D E I)
 have ph:∀e,PSs (inH X e) (b₀::suite) (λD Y H=>∀e,(hh e).choose D Y H):=λe pins s Y H D I h=>(hh e).choose_spec.1 pins s Y H D I (h e)
 refine⟨_,zqp hst hf hg hm hN hi hk hB hT pb ph hdb,?_⟩;intro Hz Jz O Z Y H J o D s e w;unfold gTry at e;split at e
 .rename_i x e1
  by_cases hq:(zcq cs x&&okS i Z)=true
  .rw[if_pos hq] at e;rw[waA] at hq;obtain⟨o1,e2,e⟩:=bind_some e;have hok:=zdS hq.2
   refine .inl (q1 Hz Jz O Z Y H J x D _ s e1 λH' J' cls dx u at' fr=>?_);have at0:=at'
   obtain⟨c,ns,ds,C,hxx,hns,hcl,hx⟩:=at';have hcc:c∈cs:=by
    have:=hq.1
    rw[hxx] at this;exact List.contains_iff_mem.mp this
   refine⟨⟨C,hcl,hC c C hcc hns⟩,λd hd=>?_,λa oa H2 ha hc' hd' hn' hh'=>?_⟩
   .rcases hx with⟨z,_,_⟩|⟨d',vs,z,_,hxd,_,_⟩
    .rw[hd] at z;cases z
    .rw[hd] at z;cases z;exact⟨_,hxd⟩
   .obtain⟨J2,u2,r2⟩:=zoA s.ja u at0 fr ha hc' hd' hn' hh';have s2:=(s.up u2).set r2 hok.1 (zbs hok.2)
    intro ev;refine(hh ev).choose_spec.2 Hz Jz O _ _ H2 J2 o1 (unset i D) s2 e2 ?_;cases o1 with
   |nx Z'=>
      unfold unO at e;by_cases hp:isPar (Z'[i]?)=false
      .simp only[if_pos hp] at e;cases e;exact λY' H' J' s' k'=>w _ H' J' (s'.unset (zbs hp)) (u2.keep.trans k')
      .simp only[if_neg hp] at e;cases e
   |bk Z'=>
      unfold unO at e;by_cases hp:isPar (Z'[i]?)=false
      .simp only[if_pos hp] at e;cases e;exact λY' H' J' s' k'=>w _ H' J' (s'.unset (zbs hp)) (u2.keep.trans k')
      .simp only[if_neg hp] at e;cases e
   |ct Z'=>
      unfold unO at e;by_cases hp:isPar (Z'[i]?)=false
      .simp only[if_pos hp] at e;cases e;exact λY' H' J' s' k'=>w _ H' J' (s'.unset (zbs hp)) (u2.keep.trans k')
      .simp only[if_neg hp] at e;cases e
   |ret r Z'=>cases e;exact w
  .rw[if_neg hq] at e;cases e
 .exact .inr (q2 Hz Jz O Z Y H J o D s e w)
end
def kU (i:Nat):Out->Option En
|.nx Z=>if isPar (Z[i]?)=false then some (Z.set i .un) else none
|_=>none
def zqy {S:Type}{cs:List Str}{i:Nat}{gx:FE}{gb gh:FS}{Z:En}{emb:S->En}{h:D->Option S}{b:Option S}(hi:okS i Z=true)(hh:∀x,EvS (kU i) (λs=>some (emb s)) gh (Z.set i (.val x)) (h x))(hb:gx Z=none->EvS k0 (λs=>some (emb s)) gb Z b) :
 Step (gTry cs i gx gb gh) Z (match gx Z with|some x=>if zcq cs x then h x else none|none=>b) emb:=λs z=>by
 unfold gTry;cases e:gx Z with
|some x=>
   rw[e] at z;dsimp only at z⊢;by_cases hc:zcq cs x=true
   .rw[if_pos hc] at z;rw[if_pos (by rw[hc,hi];rfl)];obtain⟨o,e1,e2⟩:=zac (hh x (emb s) (by rw[z];rfl));rw[e1,zOB];cases o with
   |nx Z'=>
      unfold kU at e2;unfold unO;by_cases hp:isPar (Z'[i]?)=false
      .simp only[if_pos hp] at e2⊢;rw[wav e2]
      .simp only[if_neg hp] at e2;cases e2
   |_=>cases e2
   .rw[if_neg hc] at z;cases z
|none=>
   rw[e] at z;obtain⟨o,e1,e2⟩:=zac (hb e (emb s) (by rw[show b=some s from z];rfl));show gb Z=_
   rw[e1];cases o <;> cases e2
   rfl
def Exh.caught {K:W.Frag}{H:Hp}{J:Addr->Prop}{a:Addr}{c:Str}{ns:List Str}{vs:List V}(h:Exh K H J a c ns vs)(hn:ns≠[]):∃C,W.nsIn K mainGlobals c=some (some (.ref C))/\zhP H a C (ns.zip vs):=by
 obtain⟨j,oa,C,h1,h2,h3,h4,h5⟩:=h;rcases h5 with⟨z,_,_⟩|⟨d,od,h6,h7,h8,h9⟩
 .exact absurd z hn
 .exact⟨C,h1,oa,d,od,h2,h3,h4,h6,h8⟩
def zkq (H:Hp)(a C:Addr):Prop:=(∃fs,zhP H a C fs)\/zkm H a C
def Exh.caughtA {K:W.Frag}{H:Hp}{J:Addr->Prop}{a:Addr}{c:Str}{ns:List Str}{vs:List V}(h:Exh K H J a c ns vs):∃C,W.nsIn K mainGlobals c=some (some (.ref C))/\zkq H a C:=by
 obtain⟨j,oa,C,h1,h2,h3,h4,h5⟩:=h;rcases h5 with⟨_,_,z⟩|⟨d,od,h6,h7,h8,h9⟩
 .exact⟨C,h1,.inr ⟨oa,h2,h3,h4,z⟩⟩
 .exact⟨C,h1,.inl ⟨_,oa,d,od,h2,h3,h4,h6,h8⟩⟩
def isX (tab:List (Str×Bool)):D->Option D
|.exc c _ _=>(tab.lookup c).map .bl
|_=>none
structure XInst (K:W.Frag)(cv:Value)(tab:List (Str×Bool)):Prop where
 ok:∀c b,tab.lookup c=some b->∀C,W.nsIn K mainGlobals c=some (some (.ref C))->XK1 K C/\PySem.W.kitOne K (.ref C) cv=some b
def rIsX (K:W.Frag):List V->Hp->VK->Prop:=λxs H Q=>∃a c C cv b,xs = [.ref a,c]/\(∀u,RelV c u->u=cv)/\zkq H a C/\XK1 K C/\PySem.W.kitOne K (.ref C) cv=some b/\Q (.bl b) H
def zhR {X:Cx}:zc5 X (.builtin "isinstance") (rIsX X.K):=by
 rintro pins s Y H xs us Q I r ⟨a,c,C,cv,b,rfl,hc,hca,k1,e,q⟩;obtain⟨u,w',rfl,r1,r2⟩:=zlb r;obtain rfl:u=Value.ref a:=r1;obtain rfl:=hc _ r2;rcases hca with⟨fs,hca⟩|hca
 .exact zkj I k1 hca e λtk=>⟨.bl b,H,I.tok _,rfl,q⟩
 .exact ziu I k1 hca e λtk=>⟨.bl b,H,I.tok _,rfl,q⟩
section
variable {X:Cx}{a e:Expr}{fa:FE}{p q pos:Pos}{T:Str}{cv:V}{u:Value}{tab:List (Str×Bool)}
def znc {t:TE}(IN:XInst X.K u tab)(hu:∀u',RelV cv u'->u'=u)(g:GoE X.K t fa):GoE X.K (tCB (rIsX X.K) (zlc t (zlc (tC cv) tNil))) (λZ=>(fa Z).bind (isX tab)):=by
 intro Hz Jz O Z Y H J d Q s e w;obtain⟨x,e1,e⟩:=bind_some e;unfold isX at e;split at e
 .rename_i c ns ds
  obtain⟨b,e2,e3⟩:=wbw.mp e;cases e3;refine g Hz Jz O Z Y H J _ _ s e1 λv H1 J1 u1 r1=>?_
  show rIsX X.K [v,cv] H1 Q
  cases r1 with
 |exc h rl=>
    obtain⟨C,hC,ca⟩:=h.caughtA;obtain⟨k1,k2⟩:=IN.ok c b e2 C hC;exact⟨_,cv,C,u,b,rfl,hu,ca,k1,k2,w _ H1 J1 u1 (.bl b)⟩
 .cases e
def zeU {CT:Addr}(IN:XInst X.K (.ref CT) tab)(hm:X.mg T=some (.ref CT))(B:Blt X.mg)(ha:VE X a fa)(hgT:Gl X T:=by rfl)(hdT:(T == ("__debug__":Str))=false:=by decide)(hg:Gl X "isinstance":=by rfl)
 (h1:starEach [a,.Name T q] X.env=(false,eval a X.env)::starEach [.Name T q] X.env:=by rfl) (h2:starEach [.Name T q] X.env=(false,eval (.Name T q) X.env)::starEach [] X.env:=by rfl)
 (hpl:(backTo pos (starEach [.Name T q] X.env)).any (·.1)=false:=by rfl):VE X (.Call (.Name "isinstance" p) [a,.Name T q] [] pos) (λZ=>(fa Z).bind (isX tab)):=by
 obtain⟨t,pa,g⟩:=ha;exact⟨_,pb zhR B boot_isinstance (zbg pa (zbg (ziU (v:=.ref CT) hgT hm rfl hdT) zc8 h2) h1) (by decide +kernel) hg (by decide) (by decide) h1 hpl,znc IN (λu' r=>r) g⟩
def zqz {Tt:String}(IN:XInst X.K (.type Tt) tab)(hm:X.mg T=none)(hv:bootBuiltins T=some (.type Tt))(B:Blt X.mg)(ha:VE X a fa)(hgT:Gl X T:=by rfl)(hnT:T≠"__name__":=by decide)(hdT:(T == ("__debug__":Str))=false:=by decide)(hg:Gl X "isinstance":=by rfl)
 (h1:starEach [a,.Name T q] X.env=(false,eval a X.env)::starEach [.Name T q] X.env:=by rfl) (h2:starEach [.Name T q] X.env=(false,eval (.Name T q) X.env)::starEach [] X.env:=by rfl)
 (hpl:(backTo pos (starEach [.Name T q] X.env)).any (·.1)=false:=by rfl):VE X (.Call (.Name "isinstance" p) [a,.Name T q] [] pos) (λZ=>(fa Z).bind (isX tab)):=by
 obtain⟨t,pa,g⟩:=ha;exact⟨_,pb zhR B boot_isinstance (zbg pa (zbg (ziV (v:=.ty Tt) hgT hm hv rfl hnT hdT) zc8 h2) h1) (by decide +kernel) hg (by decide) (by decide) h1 hpl,znc IN (λu' r=>r) g⟩
structure XFld (K:W.Frag)(f:Str)(cs:List Str):Prop where
 ok:∀c,c∈cs->∀C,W.nsIn K mainGlobals c=some (some (.ref C))->XG K C f
def zmb (f:Str)(cs:List Str)(d:D):Option D:=match d with
|.exc c (n::ns) ds=>if cs.contains c then((n::ns).zip ds).lookup f else none
|_=>none
theorem RpL.look {K:W.Frag}{H:Hp}{J:Addr->Prop}{f:Str}:∀{ns:List Str}{vs:List V}{ds:List D}{d:D},RpL K H J vs ds->(ns.zip ds).lookup f=some d->∃v,(ns.zip vs).lookup f=some v/\Rp K H J v d
|[],_,_,_,_,e=>by simp at e
|n::ns,_,_,_,.nil,e=>by simp at e
|n::ns,v::vs,d'::ds,d,.cons h t,e=>by
   rw[List.zip_cons_cons,waT] at e⊢;by_cases hf:(f == n)=true
   .rw[hf] at e⊢;cases e;exact⟨v,rfl,h⟩
   .have hf:(f == n)=false:=by simpa using hf
    rw[hf] at e⊢;exact RpL.look t e
def zkr {f:Str}{cs:List Str}(XF:XFld X.K f cs)(ha:VE X a fa)(hb:attributeBase a f X.env (eval a X.env)=eval a X.env:=by rfl):VE X (.Attribute a f pos) (λZ=>(fa Z).bind (zmb f cs)):=by
 obtain⟨t,pa,g⟩:=ha;refine⟨_,zox pa hb,?_⟩;intro Hz Jz O Z Y H J d Q s e w;obtain⟨x,e1,e⟩:=bind_some e;unfold zmb at e;split at e
 .rename_i c n ns ds
  split at e
  .rename_i hc
   refine g Hz Jz O Z Y H J _ _ s e1 λv H1 J1 u1 r1=>?_
   cases r1 with
  |exc h rl=>
     obtain⟨C,hC,ca⟩:=h.caught (by simp);obtain⟨v,hv,rv⟩:=rl.look e;exact⟨_,C,_,v,rfl,ca,XF.ok c (List.contains_iff_mem.mp hc) C hC,hv,w v H1 J1 u1 rv⟩
  .cases e
 .cases e
end
def okTx (y:Str):Bool:=decide (y.length<=1000)&&y.cps.toList.all λc=>decide (c<16 ^ 8)
def zd0:D->Bool
|.str y=>okTx y
|_=>false
def zhS {y:Str}(h:okTx y=true):(reprText y).length<=10002:=by
 unfold okTx at h;rw[waA] at h;have h1:=wbs h.1
 have h2:=StrLaws.reprText_len y λc hc=>wbs (waB.mp h.2 c hc)
 omega
def zmc {P:Program}{w:World}{K:W.Frag}{mg:Str->Option Value}{C N fI:Addr}{bm:List Value}{slf x nm c p:Str}{fd:FuncData}{k:Nat}{cp np fp jp:Pos}(xi:XI P w K C N fI bm slf x nm (.JoinedStr [.Constant (.str p) k cp,.FormattedValue (.Name x np) 114 none fp] jp) fd)
 (hsup:mg "super"=none) (hm:mg c=some (.ref C)) (hn:W.nsIn K mainGlobals c=some (some (.ref C))) (hk:W.keepIn K (.ref C)=true) (hB:bm.contains (.type "BaseException")=true) (hp:p.length<=1000):XCl P w K mg c nm zd0 where
 sup:=hsup
 ex:=⟨C,N,fI,bm,slf,x,_,fd,xi,hm,hn,hk,hB,λh u d hok=>by
  cases d with
 |str y=>
    refine⟨rfl,λr=>?_⟩;cases r;have h1:=zhS hok
    have h2:11002<=sizeLine:=by decide +kernel
    exact zki (λL=>(xi.kinds L).2.2.2) xi.flags.2.2 xi.dbg.1 (by omega)
 |_=>cases hok⟩
section
variable {X:Cx}{E:XK}{fa:FE}{pos:Pos}
def zqA {R A:Type}{k:Out->Option R}{B:A->Option R}{g:FS}{Z:En}{a:Option A}(h:EvS (kx k) B g Z a):EvS k B (gSeq g gNo) Z a:=λr e=>zmY (h r e)
end
def zes:bootBuiltins "ValueError"=some (.type "ValueError"):=by decide +kernel
section
variable {K:W.Frag}{mg:Str->Option Value}{c T f:Str}{C CT:Addr}{cv:Value}{b:Bool}{tab:List (Str×Bool)}{Cs:List Addr}{cs:List Str}
def zks:XInst K cv []:=⟨λc b e=>by cases e⟩
def zcT (hn:W.nsIn K mainGlobals c=some (some (.ref C)))(k:XK1 K C)(e:PySem.W.kitOne K (.ref C) cv=some b)(t:XInst K cv tab):XInst K cv ((c,b)::tab):=⟨λx y h C' hC=>by
 rw[waT] at h;by_cases z:(x == c)=true
 .rw[z] at h;obtain rfl:x=c:=by simpa using z
  rw[hn] at hC;cases hC;cases h;exact⟨k,e⟩
 .have z:(x == c)=false:=by simpa using z
  rw[z] at h;exact t.ok x y h C' hC⟩
def zhT:XFld K f []:=⟨λc h=>by cases h⟩
def zf8 (hn:W.nsIn K mainGlobals c=some (some (.ref C)))(g:XG K C f)(t:XFld K f cs):XFld K f (c::cs):=⟨λx h C' hC=>by
 by_cases z:x=c
 .subst z;rw[hn] at hC;cases hC;exact g
 .exact t.ok x ((wah.mp h).resolve_left z) C' hC⟩
def zoB (hm:mg T=some (.ref CT))(hB:PySem.W.mroIn K CT (.type "BaseException")=some true)(hT:PySem.W.typeIn K (.ref CT)=some (.type "type")):XTy K mg T []:=⟨CT,hm,hB,hT,λc C h=>by cases h⟩
def zd7 (hm:mg T=some (.ref CT))(hn:W.nsIn K mainGlobals c=some (some (.ref C)))(e:PySem.W.mroIn K C (.ref CT)=some true)(t:XTy K mg T cs):XTy K mg T (c::cs):=by
 obtain⟨CT',h1,h2,h3,h4⟩:=t.ex;rw[hm] at h1;cases h1;refine⟨_,hm,h2,h3,λx C' h hC=>?_⟩;by_cases z:x=c
 .subst z;rw[hn] at hC;cases hC;exact e
 .exact h4 x C' ((wah.mp h).resolve_left z) hC
end
abbrev TXA:=L2.St->Hp->XK->Prop
def PAX (X:Cx)(es:List Expr)(t:TXA):Prop:=∀(pos:Pos) (pins:List (Addr×Obj)) (s:Shared) (Y:L2.St) (H:Hp) (E:XK),Inv X pins Y H s->t Y H E->wpAny (model X.prog X.w) X.A (spliced (backTo pos (starEach es X.env))) (λ_ _=>False) (XP X pins Y E) s
def GoQA (K:W.Frag)(t:TXA)(f:FE):Prop:=∀Hz Jz O Z Y H J x E,ST K Hz Jz O Z Y H J->f Z=some x->WantsX K H J x E->t Y H E
def VQA (X:Cx)(es:List Expr)(f:FE):Prop:=∃t,PAX X es t/\GoQA X.K t f
section
variable {X:Cx}{e a b c:Expr}{es:List Expr}{f fx:FE}{fa:FE}{ft:FT}{pos:Pos}
def PEX.no {t:TEX}(h:PEX X e t){pins:List (Addr×Obj)}{s:Shared}{Y:L2.St}{H:Hp}{E:XK}(I:Inv X pins Y H s)(q:t Y H (λ_ _=>False) E):wpAny (model X.prog X.w) X.A (eval e X.env) (λ_ _=>False) (XP X pins Y E) s:=
 was (h pins s Y H _ E I q) (λ_ _ ⟨_,_,_,_,q⟩=>q) λ_ _ z=>z
def zqB (h:VQ X e f)(hs:starEach (e::es) X.env=(false,eval e X.env)::starEach es X.env:=by rfl):VQA X (e::es) f:=by
 obtain⟨t,p,q⟩:=h;refine⟨λY H E=>t Y H (λ_ _=>False) E,λpos pins s Y H E I h=>?_,λHz Jz O Z Y H J x E s e w=>q Hz Jz O Z Y H J x _ E s e w⟩;rw[hs];exact wbA (was (PEX.no p I h) (λ_ _ z=>z.elim) λ_ _ z=>z)
def zqC (ha:VE X.nox e fa)(h:VQA X es f)(hs:starEach (e::es) X.env=(false,eval e X.env)::starEach es X.env:=by rfl):VQA X (e::es) (λZ=>(fa Z).bind λ_=>f Z):=by
 obtain⟨t1,p1,q1⟩:=ha;obtain⟨t,p,q⟩:=h;refine⟨λY H E=>t1 Y H λ_ H1=>t Y H1 E,λpos pins s Y H E I h=>?_,λHz Jz O Z Y H J x E s e w=>?_⟩
 .rw[hs];refine wbA (was (p1 pins s Y H _ (zhM I) h) (λu s1 ⟨v,H1,I1,r1,q1⟩=>?_) λ_ _ z=>z.elim);exact was (p pos pins s1 Y H1 E (zdT I1) q1) (λ_ _ z=>z.elim) λ_ _ z=>z
 .obtain⟨d,e1,e⟩:=bind_some e;exact q1 Hz Jz O Z Y H J d _ s e1 λv H1 J1 u1 r1=>q Hz Jz O Z Y H1 J1 x E (s.up u1) e (w.up u1)
def zqD {x1}(h:VQA X es f):VQ X (.Tuple es x1 pos) f:=by
 obtain⟨t,p,q⟩:=h;exact⟨λY H _ E=>t Y H E,λpins s Y H Q E I h=>wpAny_Tuple_spliced (was (p pos pins s Y H E I h) (λ_ _ z=>z.elim) λ_ _ z=>z),λHz Jz O Z Y H J x Q E s e w=>q Hz Jz O Z Y H J x E s e w⟩
end
section
variable {X:Cx}{k k':Nat}{x:Str}{p:Pos}{es fs:List Expr}{e ie:Expr}{fl:FA}{fi:FE}{g:List D->Option D}{gs:List (List D->Option D)}{pos lp sp:Pos}
end
section
variable {prog:Program}{w:World}{K:W.Frag}{fd:FuncData}{fI:Addr}{x p:Str}{cp np fp jp:Pos}{k:Nat}
end
def zfo {P:Program}{w:World}{K:W.Frag}{mg:Str->Option Value}{base:Heap}{x qual:Str}{st:Stmt}{f:Addr}{fd:FuncData}{N ps:List Str}{k:Nat}{c:List D->Option D}{Pc:Hp->Prop}(pe:Pers Pc)(F:Fun K x qual st f fd)(S:FnScope N ps (zab st))(hlen:∀ds d,c ds=some d->ds.length=ps.length)
 (hbody:∀(cdv:Value) (A:Around) (outer:List Env) (s:Shared) (H:Hp) (E:XK),Room k (A.deeper (envOfC qual (zab st) s.heap.objs.size f cdv))->Leaves (cxOf (CXE P w) P w K mg base N qual (zab st) f cdv A outer s H E) E->Prs (cxOf (CXE P w) P w K mg base N qual (zab st) f cdv A outer s H E) Pc->
  ∃g,VRs (cxOf (CXE P w) P w K mg base N qual (zab st) f cdv A outer s H E) E (zaV st) g/\∀ds,ds.length=ps.length->EvS kX some g (ds.map SV.val++List.replicate (N.length - ps.length) .un) (c ds)):FnOk P w K mg base (CXE P w) (k+1) f fd ps (pcS Pc (spX K c)):=by
 obtain⟨oc,od,kV,doc,pm,an,cdv,ct,osl,rfl,lk,hcd⟩:=F.ex;refine zld lk hcd S (λvs H Q E h=>?_) λA outer s H vs Q E hr h=>?_
 .obtain⟨_,J,ds,d,ja,r,e,w⟩:=h;rw[r.length];exact hlen ds d e
 .obtain⟨hPc,J,ds,d,ja,r,e,w⟩:=h;have hl:=hlen ds d e
  obtain⟨g,⟨t,p,q⟩,ev⟩:=hbody cdv A outer s H E hr zf4 (Prs.of pe hPc);refine⟨t,p,?_⟩;have e:=ev ds hl d (by rw[e];rfl)
  rw[<-hl] at e;have s0:=zd4 (N:=N) ja r
  cases z:g (ds.map SV.val++List.replicate (N.length - ds.length) .un) with
 |none=>rw[z] at e;cases e
 |some o=>
    rw[z] at e;refine q H J Pr.no _ _ H J o _ s0 z ?_;cases o with
   |ret r Z'=>
      cases r with
     |told d'=>cases e;exact λZ' Y' H' J' cls dx s' x' n'=>w H' J' cls dx s'.out x' n'
     |new n d'=>cases e
   |_=>cases e
section
variable {X:Cx}{k k':Nat}{x:Str}{ps:List Str}{F:List D->Option D}{e:Expr}{es:List Expr}{fl:FA}{f:FE}{p pos:Pos}{Pc:Hp->Prop}
def zmd (C:CalX X.prog X.w X.K X.mg X.base k x ps (pcS Pc (spX X.K F)))(hp:Prs X Pc)(hr:Room k' X.A)(ha:VA X.nox (e::es) fl)(hk:k<=k':=by decide)(hg:Gl X x:=by rfl)(hdb:(x == ("__debug__":Str))=false:=by decide)
 (he:starEach (e::es) X.env=(false,eval e X.env)::starEach es X.env:=by rfl) (hpl:(backTo pos (starEach es X.env)).any (·.1)=false:=by rfl):VQ X (.Call (.Name x p) (e::es) [] pos) (eCall F fl):=by
 obtain⟨f,fd,a,b,c,d⟩:=C.ex;obtain⟨t,pa,g⟩:=ha;have G:FnOk X.prog X.w X.K X.mg X.base (CXE X.prog X.w) k f fd ps (pcS Pc (spX X.K F)):=a
 refine⟨λY H Q E=>t Y H λvs H1=>spX X.K F (vs++[]) H1 Q E,λpins s Y H Q E I h=>?_,?_⟩
 .refine waG (zcD I hg d ?_ hdb);refine wcl (h₀:=X.base) I.ok.mod.kin c (was (pa pos pins s Y H _ (zhM I) h) (λus s1 ⟨vs,H1,I1,r,q⟩=>⟨I1.kIn,?_⟩) λ_ _ z=>z.elim) he hpl;have J1:=zdT I1
  have r2:Vals (vs++[]) (us++[]):=r.append .nil
  have q':pcS Pc (spX X.K F) (vs++[]) H1 Q E:=⟨hp pins Y H1 s1 J1,q⟩
  have hl:(us++[]).length=ps.length:=by rw[<-r2.length];exact G.len _ _ _ _ q'
  refine wch (wct ((G.mono hk).run X.A X.stack s1 H1 ⟨us,[]⟩ (us++[]) (vs++[]) Q E hr J1.env0 (b s1 us J1.kIn hl) r2 q') λr s' hq=>?_);cases r with
 |error e=>exact⟨H1,s1,J1,hq⟩
 |ok fl=>
    cases fl with
   |ret u=>exact J1.after hq
   |next=>exact False.elim hq
   |brk=>exact False.elim hq
   |cont=>exact False.elim hq
 .intro Hz Jz O Z Y H J x Q E s e w;obtain⟨ds,e1,e⟩:=bind_some e;refine g Hz Jz O Z Y H J ds _ s e1 λvs H1 J1 u1 r1=>?_
  exact⟨J1,ds,x,u1.ja,by rw[waI];exact r1,e,w.up u1⟩
end
variable {X:Cx}{f:FE}{e:Expr}{es:List Expr}{fl:FA}{p pos:Pos}
end VD
namespace VD
open PySem PySem.Spec PyProof PyProof.Rows L2
def zfp (Z:En)(g:FG)(fk fv:FE)(d:D):Option (Key×D):=(g d Z).bind λZ1=>(fk Z1).bind λk=>(keyD k).bind λk=>(fv Z1).bind λv=>some (k,v)
def zds (f:D->Option (Key×D)):List D->List Key×List D->Option (List Key×List D)
|[],a=>some a
|d::ds,a=>(f d).bind λp=>if a.1.length<lim then zds f ds (putKD a.1 a.2 p.1 p.2) else none
def znd (fr:List (Option Nat))(fi:FA)(g:FG)(fk fv:FE):FE:=λZ=>(fi Z).bind λds=>(zds (zfp (zaK Z fr) g fk fv) ds ([],[])).bind λr=>some (.dct r.1 r.2)
def zme {K:W.Frag}{fr:List (Option Nat)}{wi:TI}{fi:FA}{g:FG}{is:List Nat}{fk fv:FE}(hi:GoI K wi fi)(hon:∀d Z Z',g d Z=some Z'->Only is Z Z')(hap:apart is fr=true) :
 GoE K (zju fr wi (TGof K g) (TTof K tTrue) (TEof K fk) (TEof K fv)) (znd fr fi g fk fv):=by
 intro Hz Jz O Z Y H J out Q s e w;obtain⟨ds,e1,e⟩:=bind_some e;obtain⟨r,e2,e⟩:=bind_some e;cases e;refine hi Hz Jz O Z Y H J ds _ s e1 λI H1 J1 u1 src=>?_
 intro Da hD;have hD0:Hz Da=none:=(s.free (u:=u1) hD)
 have nJ1:¬J1 Da:=λj=>u1.ja Da j hD
 refine⟨λi m ys Y2 H2=>m=ds.length - i/\i<=ds.length/\∃J2 ks dn,ST K Hz Jz O.blk (zaK Z fr) Y2 H2 J2/\Up H1 J1 H2 J2/\¬J2 Da/\Keep K H1 J1 H2 J2/\ys.map (·.1)=ks/\RpL K H2 J2 (ys.map (·.2)) dn/\zds (zfp (zaK Z fr) g fk fv) (ds.drop i) (ks,dn)=some r,⟨ds.length,by simp,wbu _,?_⟩,?_⟩
 .have un:=Up.new u1.ja hD (.dK [])
  exact⟨J1,[],[],((s.up u1).up un).pick fr,un,nJ1,un.keep,rfl,.nil,by simpa using e2⟩
 .rintro i m ys Y2 H2 ⟨rfl,hil,J2,ks,dn,s2,u2,nj2,k2,ek,r2,ec⟩ hys;obtain⟨stop,turn⟩:=src H2 J2 k2 s2.ja;by_cases hlt:i<ds.length
  .right
   have hd:ds[i]?=some ds[i]:=wat hlt
   generalize hdd:ds[i]=d at hd;obtain⟨go,yl⟩:=turn i d hd;have edrop:ds.drop i=d::ds.drop (i+1):=by rw[<-hdd];exact(wbx hlt).symm
   rw[edrop] at ec;obtain⟨p,ep,ec⟩:=bind_some (show((zfp (zaK Z fr) g fk fv d).bind λp=>if ks.length<lim then zds (zfp (zaK Z fr) g fk fv) (ds.drop (i+1)) (putKD ks dn p.1 p.2) else none)=some r from ec);by_cases hl:ks.length<lim
   .rw[if_pos hl] at ec;obtain⟨Z1,eg,ep⟩:=bind_some ep;obtain⟨kd,ekd,ep⟩:=bind_some ep;obtain⟨kk,ekk,ep⟩:=bind_some ep;obtain⟨vd,evd,ep⟩:=bind_some ep;cases ep;refine⟨go,λzs Y' H'=>∃J2 ks dn,ST K Hz Jz O.blk (zaK Z fr) Y' H' J2/\Up H1 J1 H' J2/\¬J2 Da/\Keep K H1 J1 H' J2/\zs.map (·.1)=ks/\RpL K H' J2 (zs.map (·.2)) dn/\zds (zfp (zaK Z fr) g fk fv) (ds.drop (i+1)) (ks,dn)=some r,λzs Y' H' h=>⟨ds.length - (i+1),by omega,rfl,hlt,h⟩,λx H3 y=>?_⟩;obtain⟨J3,u3,r3⟩:=yl x H3 y;have wk:Weak (zaK Z fr) Z1:=zfc (hon _ _ _ eg) hap
    refine⟨Hz,Jz,O.blk,zaK Z fr,J3,d,Z1,s2.up u3,r3,eg,λY4 s4=>?_⟩;refine⟨Hz,Jz,O.blk,Z1,J3,true,s4,rfl,λH5 J5 u5=>?_⟩;refine⟨λ_=>?_,λz=>by cases z⟩;refine⟨Hz,Jz,O.blk,Z1,J5,kd,s4.up u5,ekd,λvk H6 J6 u6 r6=>?_⟩;refine⟨Hz,Jz,O.blk,Z1,J6,vd,(s4.up u5).up u6,evd,λv H7 J7 u7 r7=>?_⟩;have u27:=((u3.trans u5).trans u6).trans u7
    have nj7:¬J7 Da:=λj=>by
     rcases u27.jn Da j with j|j
     .exact nj2 j
     .rw[hys] at j;cases j
    have hy7:H7 Da=some (.dK ys):=u27.same _ _ hys
    have kA:Keep K H7 J7 (upd H7 Da (.dK (putK ys kk v))) J7:=zcG hy7 nj7
    obtain⟨p1,p2⟩:=zn9 (j:=kk) ek (r2.keep u27.keep) r7;refine⟨kk,zjN (.inl r6) ekk,hy7,?_,J7,_,_,?_,(u2.trans u27).at (ys:=[]) hD,nj7,(k2.trans u27.keep).trans kA,p1,p2.keep kA,ec⟩
    .have:ys.length=ks.length:=by rw[<-ek,waj]
     rw[this];exact wam hl (wbg zeg)
    .exact((((s4.up u5).up u6).up u7).weak wk rfl).at (zcp Z fr) hy7 nj7 hD0
   .rw[if_neg hl] at ec;cases ec
  .left
   have hi':i=ds.length:=by omega
   subst hi';rw[wce] at ec;cases ec;refine⟨stop,?_⟩;have hnone:H Da=none:=u1.same.free hD
   have ut:Up H J H2 J2:=u1.trans u2
   refine w (.ref Da) H2 (λb=>J2 b\/b=Da) ⟨ut.same,λb h=>.inl (ut.jj b h),λb h=>?_,λb h=>?_⟩ (.dct hys (.inr rfl) ek rfl ?_)
   .rcases h with h|rfl
    .exact ut.jn b h
    .exact .inr hnone
   .rcases h with h|rfl
    .exact ut.ja b h
    .rw[hys];simp
   .exact r2.keep ⟨λ_ h=>.inl h,λ_ _ _ h=>h,λ_ _ h=>h⟩
section
variable {X:Cx}{kx vx iter tg:Expr}{scope:Scope}{pos:Pos}{NC:List Str}{fi:FA}{g:FG}{is:List Nat}{fk fv:FE}
def zhU (i:Nat){x:Str}{pos' cp:Pos}(hND:X.N.Nodup)(N:List Str)(st:Stmt)(fr:List (Option Nat))(hi:VI X tg iter fi)
 (hg:∀{cl C s0 H0 ex pn},VG (cxC X scope cl NC C s0 H0 ex pn) tg is g) (hk:∀{cl C s0 H0 ex pn},VE (cxC X scope cl NC C s0 H0 ex pn) kx fk) (hv:∀{cl C s0 H0 ex pn},VE (cxC X scope cl NC C s0 H0 ex pn) vx fv)
 (hcalm:X.calm=true:=by rfl) (hcells:∀x,X.env.scope.names.lookup x=some .cell->∃c,X.env.cells.lookup x=some c:=by exact λx h=>zbX h) (hfk:X.env.scope.kind=.function:=by rfl) (hN:X.N=N:=by rfl) (hsc:X.env.scope.names=(zab st).names:=by rfl)
 (hfree':∀y∈scope.names,y.2=.free->(zab st).names.lookup y.1=some .cell:=by decide +kernel) (hcell:∀y∈scope.names,y.2≠.cell:=by decide +kernel) (hkind:scope.kind=.function:=by rfl) (hnames:∀y∈scope.names,y.2=.local->scope.names.lookup y.1=some .local:=by decide +kernel)
 (hfr':zcn N (zab st).names scope.names NC fr=true:=by decide +kernel) (hlen:fr.length=NC.length:=by rfl) (hap:apart is fr=true:=by decide)
 (hs:∀x,foldedSetIterable iter X.env x=pure x:=by intro _;rfl) (hix:X.N[i]?=some x:=by rfl) (hx:Loc X.env.scope x:=by first|exact Or.inl rfl|exact Or.inr rfl) (hsw:swapsWith (.DictComp kx vx [⟨tg,iter,[],0⟩] scope cp) (some (.Name x pos')) pos.line X.env=pure true:=by rfl)
 (hf:X.fn x=true\/X.env.scope.names.lookup x=some .local:=by first|exact .inl rfl|exact .inr rfl|assumption):VS X (.Assign [.Name x pos'] (.DictComp kx vx [⟨tg,iter,[],0⟩] scope cp) pos) (gSet i (znd fr fi g fk fv)):=by
 obtain⟨wi,pi,gi⟩:=hi;obtain⟨_,_,hon,_⟩:=@hg [] 0 X.s₀ X.Hz [] [];exact⟨_,zll hND hix hx N st fr hcalm pi hcells hfk hN hsc hfree' hcell hkind hnames hfr' hlen (λ_ _ _ _ _ _=>hg.of) (λ_ _ _ _ _ _=>show PTs _ [] (TTof X.K tTrue) from zdB) (λ_ _ _ _ _ _=>hk.of) (λ_ _ _ _ _ _=>hv.of) hs hsw hf,zjG (zme gi hon hap)⟩
end
end VD
namespace EX
open PySem PySem.Spec PySem.W PyProof.Rows
section
variable {prog:Program}{w:World}{K:Frag}{fd:FuncData}{fI:Addr}{x p q y:Str}{tk0:Tok}{h0:Heap}{cp cq np fp jp:Pos}{k k2:Nat}
def ziv (hk:∀L,(callEnv fd L fI).kindOf x=some .local)(hf:fd.scope.kind=.function)(hd:(x == ("__debug__":Str))=false)(hl:p.length+(reprText y).length+q.length<=sizeLine) :
 Says prog w K fd fI x (.JoinedStr [.Constant (.str p) k cp,.FormattedValue (.Name x np) 114 none fp,.Constant (.str q) k2 cq] jp) (.str y tk0) h0:=by
 intro A E h1 g d os tk L m Q hgd hun X kp hns hm hq';have hq:∀y t' tk',Q (.str y t') ⟨h1,g,d,tk',os⟩:=λy t' tk'=>hq' h1 y t' tk' λ_ _ z=>z
 have e0:(Str.empty++p)=p:=by first|rfl|simp|exact Str.empty_append _
 refine wpAny_JoinedStr ?_;show wpAny _ _ (eval (.Constant (.str p) k cp) _) _ _ _
 refine wbS ⟨p,_,rfl,by rw[e0];omega,?_⟩;rw[e0];show wpAny _ _ (eval (.FormattedValue (.Name x np) 114 none fp) _) _ _ _
 have l1:(p++reprText y).length<=sizeLine:=by rw[strLen_append];omega
 have l2:(p++reprText y++q).length<=sizeLine:=by rw[strLen_append,strLen_append];exact hl
 refine wpAny_FormattedValue_repr (wcp (wbf hf (hk L) hns hm ?_) hd);refine pyReprObj_str (wpAny_formatField_str ⟨_,_,rfl,l1,?_⟩ ⟨_,_,rfl,l1,?_⟩ (by omega)) (by omega)
 .show wpAny _ _ (eval (.Constant (.str q) k2 cq) _) _ _ _
  exact wbS ⟨q,_,rfl,l2,l2,hq _ _ _⟩
 .show wpAny _ _ (eval (.Constant (.str q) k2 cq) _) _ _ _
  exact wbS ⟨q,_,rfl,l2,l2,hq _ _ _⟩
def zmf {n:Int}(hk:∀L,(callEnv fd L fI).kindOf x=some .local)(hf:fd.scope.kind=.function)(hd:(x == ("__debug__":Str))=false)(hn:n.natAbs.log2<1920)(hl:q.length<=1000) :
 Says prog w K fd fI x (.JoinedStr [.FormattedValue (.Name x np) (-1) none fp,.Constant (.str q) k2 cq] jp) (.int n tk0) h0:=by
 intro A E h1 g d os tk L m Q hgd hun X kp hns hm hq';have hq:∀y t' tk',Q (.str y t') ⟨h1,g,d,tk',os⟩:=λy t' tk'=>hq' h1 y t' tk' λ_ _ z=>z
 have e0:∀p:Str,(Str.empty++p)=p:=λp=>by first|rfl|simp|exact Str.empty_append _
 have l0:=int_text_len_1921 hn
 have big:200000<=sizeLine:=by decide +kernel
 refine wpAny_JoinedStr ?_;show wpAny _ _ (eval (.FormattedValue (.Name x np) (-1) none fp) _) _ _ _
 refine wpAny_FormattedValue_plain (wcp (wbf hf (hk L) hns hm ?_) hd);refine wpAny_formatField_int hn ⟨Str.ofString (toString n),_,rfl,by rw[e0];omega,?_⟩;rw[e0];show wpAny _ _ (eval (.Constant (.str q) k2 cq) _) _ _ _
 have l2:(Str.ofString (toString n)++q).length<=sizeLine:=by rw[strLen_append];omega
 exact wbS ⟨q,_,rfl,l2,l2,hq _ _ _⟩
end
end EX
namespace VD
open PySem PySem.Spec PyProof PyProof.Rows L2 EX
def zkt {P:Program}{w:World}{K:W.Frag}{mg:Str->Option Value}{C N fI:Addr}{bm:List Value}{slf x nm c p q:Str}{fd:FuncData}{k k2:Nat}{cp cq np fp jp:Pos}(xi:XI P w K C N fI bm slf x nm (.JoinedStr [.Constant (.str p) k cp,.FormattedValue (.Name x np) 114 none fp,.Constant (.str q) k2 cq] jp) fd)
 (hsup:mg "super"=none) (hm:mg c=some (.ref C)) (hn:W.nsIn K mainGlobals c=some (some (.ref C))) (hk:W.keepIn K (.ref C)=true) (hB:bm.contains (.type "BaseException")=true) (hp:p.length+q.length<=1000):XCl P w K mg c nm zd0 where
 sup:=hsup
 ex:=⟨C,N,fI,bm,slf,x,_,fd,xi,hm,hn,hk,hB,λh u d hok=>by
  cases d with
 |str y=>
    refine⟨rfl,λr=>?_⟩;cases r;have h1:=zhS hok
    have h2:11002<=sizeLine:=by decide +kernel
    exact ziv (λL=>(xi.kinds L).2.2.2) xi.flags.2.2 xi.dbg.1 (by omega)
 |_=>cases hok⟩
def zf9:D->Bool
|.int n=>decide (n.natAbs.log2<1920)
|_=>false
def zoC {P:Program}{w:World}{K:W.Frag}{mg:Str->Option Value}{C N fI:Addr}{bm:List Value}{slf x nm c q:Str}{fd:FuncData}{k2:Nat}{cq np fp jp:Pos}(xi:XI P w K C N fI bm slf x nm (.JoinedStr [.FormattedValue (.Name x np) (-1) none fp,.Constant (.str q) k2 cq] jp) fd)
 (hsup:mg "super"=none) (hm:mg c=some (.ref C)) (hn:W.nsIn K mainGlobals c=some (some (.ref C))) (hk:W.keepIn K (.ref C)=true) (hB:bm.contains (.type "BaseException")=true) (hp:q.length<=1000):XCl P w K mg c nm zf9 where
 sup:=hsup
 ex:=⟨C,N,fI,bm,slf,x,_,fd,xi,hm,hn,hk,hB,λh u d hok=>by
  cases d with
 |int n=>
    refine⟨rfl,λr=>?_⟩;cases r;exact zmf (λL=>(xi.kinds L).2.2.2) xi.flags.2.2 xi.dbg.1 (wbs hok) hp
 |_=>cases hok⟩
structure XCl0 (K:W.Frag)(mg:Str->Option Value)(c:Str):Prop where
 ex:∃C N bm,XJ K C N bm/\mg c=some (.ref C)/\W.nsIn K mainGlobals c=some (some (.ref C))/\W.keepIn K (.ref C)=true/\bm.contains (.type "BaseException")=true
section
variable {X:Cx}{E:XK}{c:Str}{e:Expr}{fa:FE}{k:Nat}{np cp pos:Pos}
def zku (cl:XCl0 X.K X.mg c)(hr:Room (k+1) X.A)(hL:Leaves X E)(ha:VE X e fa)(hg:Gl X c:=by rfl)
 (hdb:(c == ("__debug__":Str))=false:=by decide) (he:starEach [e] X.env=(false,eval e X.env)::starEach [] X.env:=by rfl):VRS X E (.Raise (some (.Call (.Name c np) [e] [] cp)) none pos) (gRet λZ=>(fa Z).bind λ_=>some (.exc c [] [])):=by
 obtain⟨C,N,bm,xj,hm,hn,hk,hB⟩:=cl.ex;obtain⟨t,p,g⟩:=zaa ha zaf he;refine⟨_,zkl xj hg hm hk hB hr hL p hdb he,?_⟩;intro Hz Jz O Z Y H J o D s e w;obtain⟨y,e1,e⟩:=bind_some e;cases e;obtain⟨d,e0,e2⟩:=bind_some e1;cases e2;have e3:aCons fa aNil Z=some [d]:=by unfold aCons;rw[e0];rfl
 refine g Hz Jz O Z Y H J [d] _ s e3 λvs H1 J1 u1 r1=>⟨by rw[r1.length];exact wan 1,?_⟩
 exact w Z Y _ J1 _ _ (s.up u1) ⟨c,[],[],C,rfl,hn,rfl,.inl ⟨rfl,rfl,rfl⟩⟩ λb z=>nomatch z
end
end VD
namespace VD
open PySem PySem.Spec PyProof PyProof.Rows L2
def Its (y:Str):It:=⟨λi _=>i<y.cps.size,λi H x H'=>H'=H/\∃c,y.cps[i]?=some c/\x=.str ⟨#[c]⟩,λi _=>i=y.cps.size⟩
def zhV {P:Program}{w:World}{K:W.Frag}{tg:Expr}{it:Addr}{y:Str}{t:Tok}{ty:String}(W:∀A:Around,A.handled=none->Walks P w A it [it] [it] y.cps.size (SignAt y) (λi h=>h.IsStrIter it ty y t i))
 (hS:∀(A:Around) (i:Nat) (s:Shared) (Q:Value->Shared->Prop) (E:Value->Shared->Prop),s.heap.IsStrIter it ty y t i->Q (.ref it) s->wpAny (model P w) A (pyIter (.ref it)) Q E s)
 (hty:["enumerate","zip","dict_itemiterator","dict_reverseitemiterator","odict_iterator","itertools.zip_longest","itertools.pairwise"].contains ty=false):Turn P w K tg (Its y) [it] it (λi h=>h.IsStrIter it ty y t i) where
 mem:=by simp
 obj:=λi h st b hb=>by
  rw[wao.mp hb];obtain⟨o,e,c,d⟩:=st;exact⟨o,e,λv z=>by rw[d] at z;cases z⟩
 keep:=λi h h' st k=>let ⟨o,e,r⟩:=st;⟨o,k it (by simp) o e,r⟩
 item:=by
  intro X hP hw hK hc i pins s Y H E I hf st hg;subst hP hw hK;obtain⟨f0,f1,f2,f3,f4,f5⟩:=hf it (by simp);refine(W X.A (I.ok.hd hc)).item i s _ _ hg st λv h' tk hv st' kk=>?_
  obtain⟨c,u,hc1,rfl⟩:=hv;have I1:Inv X pins Y H {s with heap:=h',toks:=tk}:=I.turned (λb o hb e=>kk b o (by simpa using hb) e) f0 f1 f3 f4 f5
  obtain⟨o,e,c',d⟩:=id st';exact⟨_,rfl,zh7 (s:={s with heap:=h',toks:=tk}) e c' d hty ⟨.str ⟨#[c]⟩,H,I1,⟨u,rfl⟩,⟨rfl,c,hc1,rfl⟩,st',λb hb=>(hf b hb).1⟩⟩
 done:=by
  intro X hP hw hK hc i pins s Y H E I hf st hg;subst hP hw hK;obtain rfl:i=y.cps.size:=hg;obtain⟨f0,f1,f2,f3,f4,f5⟩:=hf it (by simp);exact(W X.A (I.ok.hd hc)).done s _ _ st λh' tk eb=>⟨rfl,I.turned (λb o hb e=>eb b o (by simpa using hb) e) f0 f1 f3 f4 f5⟩
 self:=hS
def iStr (tl:TE):TI:=λY H R=>tl Y H λx H1=>∃y,x=.str y/\R (Its y) H1
section
variable {X:Cx}{tg a b:Expr}{fa fb:FE}{pos:Pos}
def zqE {l:Expr}{tl:TE}(hl:PE X l tl):PI X tg l (iStr tl):=by
 intro pins s Y H R I h;refine thn (hl pins s Y H _ I h) λv s1 ⟨x,H1,I1,r1,y,e,q⟩=>?_
 subst e;obtain⟨t,rfl⟩:=r1;have fin:∀(ty:String) (o:Obj) (_:o = {cls:=.type ty,data:=.fields #[.str y t,.int 0 0]}),Turn X.prog X.w X.K tg (Its y) [s1.heap.objs.size] s1.heap.objs.size (λi h=>h.IsStrIter s1.heap.objs.size ty y t i)->PIE X pins Y tg R (.ref s1.heap.objs.size) {s1 with heap:=s1.heap.push o}:=λty o eo T=>by
  subst eo;refine⟨s1.heap.objs.size,[s1.heap.objs.size],_,_,H1,rfl,I1.kept (t':=s1.toks) λb o e=>wab _ e,T,⟨_,war _ rfl,rfl,rfl⟩,λb hb=>?_,q⟩;rw[wao.mp hb];exact I1.fpOk (wan _) (I1.hok.fresh (wan _))
 cases ha:y.cps.all (·<128)
 .exact wpAny_pyIter_wide ha (fin _ _ rfl (zhV (λA hA=>Walks.strWide hA _ y t) (λ_ _ _ _ _ a b=>wpAny_pyIter_striter_wide a b) (by decide)))
 .exact wpAny_pyIter_ascii ha (fin _ _ rfl (zhV (λA hA=>Walks.strAscii hA _ y t) (λ_ _ _ _ _ a b=>wpAny_pyIter_striter_ascii a b) (by decide)))
def zqF:D->Option (List D)
|.str y=>some (y.cps.toList.map λc=>.str ⟨#[c]⟩)
|_=>none
def zrJ (f:FE):FA:=λZ=>(f Z).bind zqF
def zqG (h:VE X a fa):VI X tg a (zrJ fa):=by
 obtain⟨t,p,g⟩:=h;refine⟨_,zqE p,?_⟩;intro Hz Jz O Z Y H J ds R s e w;obtain⟨x,e1,e⟩:=bind_some e;cases x with
|str y=>
   cases e;refine g Hz Jz O Z Y H J _ _ s e1 λv H1 J1 u1 r1=>?_
   cases r1;refine⟨y,rfl,w _ H1 J1 u1 λH2 J2 k ja=>?_⟩;refine⟨by show _=_;simp,λi d hd=>?_⟩;rw[waw] at hd;obtain⟨c,hc,rfl⟩:=wbw.mp hd;have hc:y.cps[i]?=some c:=by simpa using hc
   have hi:i<y.cps.size:=(waW.mp hc).1
   refine⟨hi,λx H3 z=>?_⟩;obtain⟨rfl,c',hc',rfl⟩:=z;rw[hc] at hc';cases hc';exact⟨J2,Up.refl ja,.str _⟩
|_=>cases e
def inTx (a b:Str):Bool:=!(Builtin.Str.occurrences b a 0 b.length 1).isEmpty
def rInS (neg:Bool):R2:=λx y H Q=>∃a b,x=.str a/\y=.str b/\Q (.bl (if neg then !inTx a b else inTx a b)) H
def zqH:OpR X (compareOp .In) (rInS false):=by
 intro pins s Y H x y v u Q I rx ry ⟨a,b,e1,e2,q⟩;subst e1 e2;obtain⟨t1,rfl⟩:=rx;obtain⟨t2,rfl⟩:=ry;exact in_str ⟨.bl _,H,I,rfl,q⟩
def dInS (neg:Bool):D->D->Option D
|.str a,.str b=>some (.bl (if neg then !inTx a b else inTx a b))
|_,_=>none
def zqI {K:W.Frag}(neg:Bool):Im2 K (rInS neg) (dInS neg):=by
 intro H J x y d e d' Q ja hx hy hF w;cases d with
|str p=>cases e with
  |str q=>cases hF;exact⟨p,q,hx.str,hy.str,w _ H J (Up.refl ja) (.bl _)⟩
  |_=>cases hF
|_=>cases hF
end
def un6:D->Option (D×D×D×D×D×D)
|.tup [a,b,c,d,e,f]=>some (a,b,c,d,e,f)
|_=>none
def zmg {d:D}{y:D×D×D×D×D×D}(h:un6 d=some y):d=.tup [y.1,y.2.1,y.2.2.1,y.2.2.2.1,y.2.2.2.2.1,y.2.2.2.2.2]:=by
 unfold un6 at h;split at h
 .cases h;rfl
 .cases h
def tg_6 {Z:En}{d:D}{i j l m n o:Nat}(h1:okS i Z=true)(h2:∀x,okS j (Z.set i (.val x))=true)(h3:∀x y,okS l ((Z.set i (.val x)).set j (.val y))=true)(h4:∀x y z,okS m (((Z.set i (.val x)).set j (.val y)).set l (.val z))=true)(h5:∀x y z w,okS n ((((Z.set i (.val x)).set j (.val y)).set l (.val z)).set m (.val w))=true)(h6:∀x y z w v,okS o (((((Z.set i (.val x)).set j (.val y)).set l (.val z)).set m (.val w)).set n (.val v))=true) :
 Tg (gT 6 (gCons' (gN i) (gCons' (gN j) (gCons' (gN l) (gCons' (gN m) (gCons' (gN n) (gCons' (gN o) gNil'))))))) d Z (un6 d) λy=>(((((Z.set i (.val y.1)).set j (.val y.2.1)).set l (.val y.2.2.1)).set m (.val y.2.2.2.1)).set n (.val y.2.2.2.2.1)).set o (.val y.2.2.2.2.2):=λy e=>by
 rw[zmg e];show((gN i y.1 Z).bind λZ1=>(gN j y.2.1 Z1).bind λZ2=>(gN l y.2.2.1 Z2).bind λZ3=>(gN m y.2.2.2.1 Z3).bind λZ4=>(gN n y.2.2.2.2.1 Z4).bind λZ5=>(gN o y.2.2.2.2.2 Z5).bind λZ6=>gNil' [] Z6)=_
 rw[zfX h1,zOB,zfX (h2 _),zOB,zfX (h3 _ _),zOB,zfX (h4 _ _ _),zOB,zfX (h5 _ _ _ _),zOB,zfX (h6 _ _ _ _ _)];rfl
def dSlW:D->Option Int->Option Int->Option D
|.tup ds,lo,hi=>some (.tup (cut ds lo hi))
|x,lo,hi=>dSl x lo hi
def eSlW (f:FE)(lo hi:FO):FE:=λZ=>(f Z).bind λx=>(lo Z).bind λl=>(hi Z).bind λh=>dSlW x l h
section
variable {X:Cx}{a b:Expr}{fa fb:FE}{pos p2:Pos}
def zoD {ds:List D}{lo hi:Option Int}(h0:HT.sIx ds.length 0 lo=0)(h1:HT.sIx ds.length ds.length hi=ds.length):VD.cut ds lo hi=ds:=by
 unfold VD.cut;rw[h0,h1];simp
def zga {lo hi:Option Expr}{fl fh:FO}(ha:VW X a fa)(hl:VO X lo fl)(hh:VO X hi fh):VE X (.Subscript a (.Slice lo hi none p2) pos) (eSlW fa fl fh):=by
 obtain⟨t,p,g⟩:=ha;obtain⟨tl,pl,gl⟩:=hl;obtain⟨th,ph,gh⟩:=hh;refine⟨_,zhp (r:=λx lo hi H Q=>rSlD X.K x lo hi H Q\/rSlW X.K x lo hi H Q) (SlR.or (sl_list.or (sl_tup.or zmG)) zlm) p pl ph,?_⟩;intro Hz Jz O Z Y H J d Q s e w;obtain⟨x,e1,e⟩:=bind_some e;obtain⟨l,e2,e⟩:=bind_some e;obtain⟨h,e3,e⟩:=bind_some e;refine g Hz Jz O Z Y H J x _ s e1 λv H1 J1 u1 r1=>?_
 refine gl Hz Jz O Z Y H1 J1 l _ (s.up u1) e2 λH2 J2 u2=>?_
 refine gh Hz Jz O Z Y H2 J2 h _ (s.up (u1.trans u2)) e3 λH3 J3 u3=>?_
 have r3:=r1.up (u2.trans u3)
 have u:=u1.trans (u2.trans u3)
 match x,e with
|.lst ds,e=>
   cases e;obtain⟨p,vs,rfl,h1,rl⟩:=r3.lst;refine .inl (.inl ⟨p,vs,rfl,SqL.of h1,λc hc=>?_⟩);have un:=Up.newJ u3.ja hc (.lst (cutV vs l h))
   exact w _ _ _ (u.trans un) (.lst zai (.inr rfl) ((rl.cut l h).keep un.keep))
|.tup ds,e=>
   cases e;obtain⟨p,vs,rfl,h1,rl⟩:=r3.tup;by_cases hc:HT.sIx ds.length 0 l=0/\HT.sIx ds.length ds.length h=ds.length
   .refine .inr ⟨p,vs,rfl,h1,by rw[rl.length];exact hc.1,by rw[rl.length];exact hc.2,?_⟩;rw[show cut ds l h=ds from zoD hc.1 hc.2] at w;exact w _ H3 J3 u (.tup h1 rl)
   .refine .inl (.inr (.inl ⟨p,vs,rfl,h1,by rw[rl.length];exact hc,λc hc=>?_⟩));have un:=Up.new u3.ja hc (.tup (cutV vs l h))
    exact w _ _ _ (u.trans un) (.tup (SqT.of zai) ((rl.cut l h).keep un.keep))
|.str z,e=>
   have e:(if z.length<=lim then some (D.str (Txt.slice z l h)) else none)=some d:=e
   by_cases hl:z.length<=lim
   .rw[if_pos hl] at e;cases e;rw[r3.str];exact .inl (.inr (.inr ⟨z,rfl,zch hl,w _ H3 J3 u (.str _)⟩))
   .rw[if_neg hl] at e;cases e
def xIxO (i:Nat)(fb:FX):FX:=λZ=>(eRd i Z).bind λ_=>(fb Z).bind λq=>(eRd i q.2).bind λx=>(dIx x q.1).bind λr=>some (r,q.2)
def zne {K:W.Frag}{Hz H:Hp}{Jz J:Addr->Prop}{O:Pr}{Z:En}{Y:L2.St}{i:Nat}{d:D}(s:ST K Hz Jz O Z Y H J)(e:eRd i Z=some d):∃v,Y[i]?=some (some v)/\RpW K H J v d:=by
 unfold eRd at e;split at e
 .rename_i d' q
  cases e;obtain⟨v,hv,r⟩:=s.vl i _ q;exact⟨v,hv,.inl r⟩
 .rename_i d' q
  cases e;obtain⟨v,A,hv,r⟩:=s.rd (i:=i) (n:=1) (d:=d) (by rw[q];rfl);exact⟨v,hv,.inr ⟨A,r⟩⟩
 .rename_i d' q
  cases e;obtain⟨v,A,hv,r⟩:=s.rd (i:=i) (n:=1) (d:=d) (by rw[q];rfl);exact⟨v,hv,.inr ⟨A,r⟩⟩
 .cases e
def zqJ (i:Nat){fb:FX}{x:Str}{p:Pos}(hb:VX X b fb)(hN:X.N[i]?=some x:=by rfl)(hv:Vis X.env.scope x:=by first|exact Or.inl rfl|exact Or.inr (Or.inl rfl)|exact Or.inr (Or.inr rfl))(hd:(x == ("__debug__":Str))=false:=by decide)
 (hcd:(x == ("__classdict__":Str))=false:=by decide) (hs:zdb b:=by exact λ_ _=>rfl):VX X (.Subscript (.Name x p) b pos) (xIxO i fb):=by
 obtain⟨tb,pb,gb⟩:=hb;refine⟨_,zif zfK (zcA hN hv hd hcd) pb hs,?_⟩;intro Hz Jz O Z Y H J d Z' Q s e w;obtain⟨x0,e0,e⟩:=bind_some e;obtain⟨⟨k,Z1⟩,e1,e⟩:=bind_some e;obtain⟨x1,e2,e⟩:=bind_some e;obtain⟨r,e3,e⟩:=bind_some e;cases e;obtain⟨v,hv0,_⟩:=zne s e0;refine⟨v,hv0,gb Hz Jz O Z Y H J k Z1 _ s e1 λvk H1 J1 s1 k1 r1=>?_⟩;obtain⟨v',hv',r'⟩:=zne s1 e2;rw[hv0] at hv';cases hv';exact znS H1 J1 v vk x1 k d Q s1.ja r' (.inl r1) e3 λv3 H3 J3 u3 r3=>w v3 H3 J3 (s1.up u3) (k1.trans u3.keep) r3
def zoE {S:Type}{i:Nat}{g:FX}{Z:En}{emb:S->En}{y:Option (D×S)}{x0:D}{get:S->D}(h:EvX g Z y emb)(hr:eRd i Z=some x0)(hx:∀s,eRd i (emb s)=some (get s)):EvX (xIxO i g) Z (y.bind λq=>(dIx (get q.2) q.1).bind λd=>some (d,q.2)) emb:=λq z=>by
 obtain⟨a,e0,z⟩:=zac z;obtain⟨d,e2,z⟩:=zac z;cases z;unfold xIxO;rw[hr,zOB,h a e0,zOB,hx,zOB,e2];rfl
end
end VD
namespace VD
open PySem PySem.Spec PyProof PyProof.Rows L2 EX
def zrK:zg1 gCt:=λZ r Z' e=>by cases e
def zg2 {P:Program}{w:World}{K:W.Frag}{mg:Str->Option Value}{base:Heap}{k:Nat}{f:Addr}{fd:FuncData}{ps:List Str}{m n:List D->Option D}{Pc:Hp->Prop}(F:FnOk P w K mg base (CXE P w) k f fd ps (pcS Pc (spX K m)))(G:FnOk P w K mg base (CXE P w) k f fd ps (pcS Pc (spX K n))) :
 FnOk P w K mg base (CXE P w) k f fd ps (pcS Pc (spX K λds=>(m ds).or (n ds))) where
 len:=λvs H Q E ⟨hp,J,ds,x,ja,r,e,w⟩=>by
  cases z:m ds with
 |some y=>exact F.len vs H Q (λ_ _ _=>True) ⟨hp,J,ds,y,ja,r,z,λ_ _ _ _ _ _ _=>trivial⟩
 |none=>dsimp only at e;rw[z] at e;exact G.len vs H Q E ⟨hp,J,ds,x,ja,r,e,w⟩
 run:=λA outer s H args us vs Q E hr he hb hv ⟨hp,J,ds,x,ja,r,e,w⟩=>by
  cases z:m ds with
 |some y=>dsimp only at e;rw[z] at e;cases e;exact F.run A outer s H args us vs Q E hr he hb hv ⟨hp,J,ds,x,ja,r,z,w⟩
 |none=>dsimp only at e;rw[z] at e;exact G.run A outer s H args us vs Q E hr he hb hv ⟨hp,J,ds,x,ja,r,e,w⟩
end VD
namespace VD
open PySem PySem.Spec PyProof PyProof.Rows L2
def zrL:List D->Option (List D)
|[.lst ds]=>some ds
|[.tup ds]=>some ds
|_=>none
def zgb (l:List D):Option (List D):=(zrL l).bind λds=>some (zdV ds)
def zqK (f:FA):FA:=λZ=>(f Z).bind zgb
section
variable {X:Cx}{a b:Expr}{fl:FA}{pos p p2:Pos}
def zhW {elts:List Expr}{x1}{tpos:Pos}(B:Blt X.mg)(ha:VA X [a] fl)(hg:Gl X "enumerate":=by rfl)(hs:starEach [a] X.env = [(false,eval a X.env)]:=by rfl):VI X (.Tuple elts x1 tpos) (.Call (.Name "enumerate" p) [a] [] pos) (zqK fl):=by
 obtain⟨t,q,g⟩:=ha;refine⟨_,zpS (zln hg (B.get "enumerate") q hs) (zjn hg (B.get "enumerate") q hs),?_⟩;intro Hz Jz O Z Y H J ds R s e w;obtain⟨l,e1,e⟩:=bind_some e;obtain⟨xs,e2,e⟩:=bind_some e;cases e;match l,e2 with
|[.lst _],e2=>
   cases e2;refine .inl (g Hz Jz O Z Y H J _ _ s e1 λvs H1 J1 u1 r1=>?_);cases r1 with
  |cons h t=>
     cases t;cases h with
    |lst h j r=>
       refine⟨_,rfl,⟨_,SqL.of h⟩,w _ H1 J1 u1 λH2 J2 k ja=>?_⟩;have h2:=SqL.of (K:=X.K) (k.jo _ _ j h)
       refine⟨⟨_,h2,by rw[r.length,zcF];exact wan _⟩,λi d hd=>?_⟩;obtain⟨x,hx,rfl⟩:=zej hd;obtain⟨v,hv,rv⟩:=r.get hx;refine⟨⟨_,v,h2,hv⟩,λy H3 hy=>?_⟩;obtain⟨q,hn,rfl,hy⟩:=hy;obtain⟨y,ey,rfl⟩:=hy _ h2;rw[hv] at ey;cases ey;have un:=Up.new ja hn (.tup [.int (i:Nat),v])
       exact⟨J2,un,.tup (SqT.of zai) (.cons (.int _) (.cons ((rv.keep k).keep un.keep) .nil))⟩
|[.tup _],e2=>
   cases e2;refine .inr (g Hz Jz O Z Y H J _ _ s e1 λvs H1 J1 u1 r1=>?_);cases r1 with
  |cons h t=>
     cases t;cases h with
    |tup h r=>
       refine⟨_,rfl,⟨_,h⟩,w _ H1 J1 u1 λH2 J2 k ja=>?_⟩;have h2:=k.tp _ _ h
       refine⟨⟨_,h2,by rw[r.length,zcF];exact wan _⟩,λi d hd=>?_⟩;obtain⟨x,hx,rfl⟩:=zej hd;obtain⟨v,hv,rv⟩:=r.get hx;refine⟨⟨_,v,h2,hv⟩,λy H3 hy=>?_⟩;obtain⟨q,hn,rfl,hy⟩:=hy;obtain⟨y,ey,rfl⟩:=hy _ h2;rw[hv] at ey;cases ey;have un:=Up.new ja hn (.tup [.int (i:Nat),v])
       exact⟨J2,un,.tup (SqT.of zai) (.cons (.int _) (.cons ((rv.keep k).keep un.keep) .nil))⟩
def zgc {sts:List Stmt}:VSs X sts gNo:=⟨_,zi0,λHz Jz O Z Y H J o E s e w=>by cases e⟩
end
end VD
namespace GX
open PySem PySem.Spec PyProof PyProof.Rows L2
abbrev GP:=Nat->Shared->Prop
def ziw (n:Nat)(P:Nat->Value->Prop)(Mid St:GP):Protocol:=λm _ v s kap=>
 ∃i,i+1+m=n/\P i v/\Mid (i+1) s/\∀s'':Shared,St (i+1) s''->kap (.send .none) s''
def gend (Dn:Shared->Prop):GenEnd:=λm _ r s₁=>r=.ok .next/\(m=0/\Dn s₁)
def zbC (elt target iter:Expr)(scope:Scope)(pos:Pos)(it:Value)(cenv:Env):Code:=.compLoop (.GeneratorExp elt [⟨target,iter,[],0⟩] scope pos) 0 it .none cenv
def zet (elt target iter:Expr)(scope:Scope)(pos:Pos)(it:Value)(cenv:Env):Code:=.compStart (.GeneratorExp elt [⟨target,iter,[],0⟩] scope pos) 0 it .none cenv
def zdt {gens:Array GenState}{g:Nat}{x:GenState}(h:AllBare gens)(hx:x.bare=true){s:Shared}(e:gens=s.gens):AllBare (s.setGen g x).gens:=by
 subst e;intro y hy;obtain⟨i,hi,rfl⟩:=Array.mem_iff_getElem.mp hy;simp only[Shared.setGen] at hi⊢;by_cases z:g=i
 .subst z;simp[hx]
 .rw[Array.getElem_setIfInBounds_ne (by simpa using hi) z];exact h _ (Array.getElem_mem _)
section
variable {prog:Program}{w:World}{A:Around}{elt target iter:Expr}{scope:Scope}{pos:Pos}{it:Value}{cenv:Env}{n:Nat}{P:Nat->Value->Prop}{Mid St:GP}{Dn:Shared->Prop}
def zmh (hco:cenv.scope.isCoroutine=false)
 (turn:∀i s,i<n->St i s->wpAny (model prog w) (A.over (zbC elt target iter scope pos it cenv) []) (pyNext it) (λr s1=>∃v,r=some v/\
  wpAny (model prog w) (A.over (zbC elt target iter scope pos it cenv) []) (letOwnedTupleGo target it v) (λ_ s2=>
   wpAny (model prog w) (A.over (zbC elt target iter scope pos it cenv) []) (assign target cenv v) (λ_ s3=>
    wpAny (model prog w) (A.over (zbC elt target iter scope pos it cenv) []) (eval elt cenv) (λy s4=>P i y/\Mid (i+1) s4) (λ_ _=>False) s3) (λ_ _=>False) s2) (λ_ _=>False) s1) (λ_ _=>False) s)
 (done:∀s,St n s->wpAny (model prog w) (A.over (zbC elt target iter scope pos it cenv) []) (pyNext it) (λr s1=>r=none/\Dn s1) (λ_ _=>False) s) :
 ∀(k i:Nat) (s₀ s:Shared),n - i=k->i<=n->St i s->Seg (model prog w) A (gend Dn) (ziw n P Mid St) k s₀ (zbC elt target iter scope pos it cenv) ((model prog w).den (zbC elt target iter scope pos it cenv)) [] s:=by
 intro k;induction k with
|zero=>
   intro i s₀ s hk hi hst;have hin:i=n:=by omega
   subst hin;show Seg _ A _ _ _ s₀ _ ((compTurn (.GeneratorExp elt [⟨target,iter,[],0⟩] scope pos) 0 it .none cenv).onRaise (leaving cenv)) [] s
   rw[compTurn_gen,wcI];refine seg_bind_wrap (waZ ?_);refine seg_bind_wrap (was (done s hst) (λr s1 ⟨hr,hd⟩=>?_) λ_ _ e=>e.elim);subst hr;exact seg_end (.ok .next) ⟨rfl,rfl,hd⟩
|succ k ih=>
   intro i s₀ s hk hi hst;have hlt:i<n:=by omega
   show Seg _ A _ _ _ s₀ _ ((compTurn (.GeneratorExp elt [⟨target,iter,[],0⟩] scope pos) 0 it .none cenv).onRaise (leaving cenv)) [] s
   rw[compTurn_gen,wcI];refine seg_bind_wrap (waZ ?_);refine seg_bind_wrap (was (turn i s hlt hst) (λr s1 ⟨v,hr,h1⟩=>?_) λ_ _ e=>e.elim);subst hr;refine seg_bind_wrap (was h1 (λ_ s2 h2=>?_) λ_ _ e=>e.elim);refine seg_bind_wrap (was h2 (λ_ s3 h3=>?_) λ_ _ e=>e.elim);refine seg_bind_wrap (wad ?_);simp only[if_true];have hy:∀v,yieldOut cenv v=yieldValue v:=λv=>by simp only[yieldOut,hco,wbR,if_false]
   simp only[hy];rw[Sem.bind_eq_wrap',Sem.bind_eq_wrap',Sem.wrap_wrap,Sem.wrap_wrap];refine seg_wrap (was h3 (λy s4 h4=>?_) λ_ _ e=>e.elim);refine seg_at (seg_yield rfl rfl rfl ⟨i,by omega,h4.1,h4.2,λs'' hs=>?_⟩)
   exact seg_again rfl (ih (i+1) s'' s'' (by omega) hlt hs)
def zkv (hloop:∀s₀ s,St 0 s->Seg (model prog w) A (gend Dn) (ziw n P Mid St) n s₀ (zbC elt target iter scope pos it cenv) ((model prog w).den (zbC elt target iter scope pos it cenv)) [] s)
 (self:∀(A':Around) s,St 0 s->wpAny (model prog w) A' (pyIter it) (λx s'=>x=it/\St 0 s') (λ_ _=>False) s) (s₀ s:Shared) (h:St 0 s) :
 Seg (model prog w) A (gend Dn) (ziw n P Mid St) n s₀ (zet elt target iter scope pos it cenv) ((model prog w).den (zet elt target iter scope pos it cenv)) [] s:=by
 show Seg _ A _ _ _ s₀ _ ((compStart (.GeneratorExp elt [⟨target,iter,[],0⟩] scope pos) 0 it .none cenv).onRaise (leaving cenv)) [] s
 unfold compStart;rw[wcI];show Seg _ A _ _ _ s₀ _ ((ask >>= _).wrap _ _ _ _) [] s
 refine seg_bind_wrap (wpAny_askSetting ?_);split
 .exact seg_again rfl (hloop _ _ h)
 .refine seg_bind_wrap (wcM ?_);show Seg _ A _ _ _ s₀ _ ((standAt iter.pos >>= _).wrap _ _ _ _) [] s
  refine seg_bind_wrap (waZ ?_);refine seg_bind_wrap (was (self _ s h) (λx s' hx=>?_) λ_ _ e=>e.elim);obtain⟨rfl,hx⟩:=hx;exact seg_again rfl (hloop _ _ hx)
structure At (prog:Program)(w:World)(A:Around)(a:Addr)(g n:Nat)(P:Nat->Value->Prop)(Mid St:GP)(Dn:Shared->Prop)(j:Nat)(s:Shared):Prop where
 bare:AllBare s.gens
 gen:s.heap.IsGen a g
 lim:s.heap.NoLimit
 go:∃gs,s.gens[g]?=some gs/\∀s'',St j s''->gs.Goes (model prog w) A.in1 (gend Dn) (ziw n P Mid St) (n - j) (.send .none) s''
 run:St j (s.setGen g .running)
structure Holds (a:Addr)(g:Nat)(Mid St:GP):Prop where
 bare:∀i s,Mid i s->AllBare s.gens
 gen:∀i s,Mid i s->s.heap.IsGen a g
 lim:∀i s,Mid i s->s.heap.NoLimit
 size:∀i s,Mid i s->g<s.gens.size
 on:∀i s gs,gs.bare=true->Mid i s->St i ((s.setGen g gs).setGen g .running)
def zkw {s:Shared}{g:Nat}{x:GenState}(h:g<s.gens.size):(s.setGen g x).gens[g]?=some x:=by simp[Shared.setGen,h]
def zkx {a:Addr}{g j:Nat}{s:Shared}{Q:Option Value->Shared->Prop}(hh:A.handled=none)(hroom:A.depth<recursionLimit)(hd:Holds a g Mid St)(hj:j<n)(h:At prog w A a g n P Mid St Dn j s)
 (hQ:∀v s1 gs,P j v->Mid (j+1) s1->gs.bare=true->At prog w A a g n P Mid St Dn (j+1) (s1.setGen g gs)->Q (some v) (s1.setGen g gs)):wpAny (model prog w) A (pyNext (.ref a)) Q (λ_ _=>False) s:=by
 obtain⟨_,hg,hl,⟨gs,hgs,hgo⟩,hr⟩:=h;obtain⟨m,hm⟩:∃m,n - j=m+1:=⟨n - j - 1,by omega⟩
 have go1:=hgo _ hr
 rw[hm] at go1;refine wpAny_pyNext_genexpQ (P:=λm _ s₁=>m=0/\Dn s₁) hh hl hroom hg hgs go1 (λv s₁ gs' hb hv=>?_) (λs₁ hp h' hk=>absurd hp.1 (Nat.succ_ne_zero m));obtain⟨i,hi,hP,hM,hkap⟩:=hv;have hij:i=j:=by omega
 subst hij;refine hQ v s₁ gs' hP hM hb ⟨zdt (hd.bare (i+1) s₁ hM) hb rfl,hd.gen (i+1) s₁ hM,hd.lim (i+1) s₁ hM,⟨gs',zkw (hd.size (i+1) s₁ hM),λs'' hs=>?_⟩,hd.on (i+1) s₁ gs' hb hM⟩;rw[show n - (i+1)=m by omega];exact hkap s'' hs
def zky {a:Addr}{g:Nat}{s:Shared}{Q:Option Value->Shared->Prop}(hh:A.handled=none)(hroom:A.depth<recursionLimit)(hd:Holds a g Mid St)(h:At prog w A a g n P Mid St Dn n s)
 (hQ:∀s1 h',Dn s1->(∀b o,s1.heap.get? b=some o->h'.get? b=some o)->Q none {s1.setGen g .finished with heap:=h'}):wpAny (model prog w) A (pyNext (.ref a)) Q (λ_ _=>False) s:=by
 obtain⟨_,hg,hl,⟨gs,hgs,hgo⟩,hr⟩:=h;have go1:=hgo _ hr
 rw[Nat.sub_self] at go1;refine wpAny_pyNext_genexpQ (P:=λm _ s₁=>m=0/\Dn s₁) hh hl hroom hg hgs go1 (λv s₁ gs' hb hv=>?_) (λs₁ hp h' hk=>hQ s₁ h' hp.2 hk);obtain⟨i,hi,_,hM,hkap⟩:=hv;exact(hkap _ (hd.on (i+1) s₁ gs' hb hM)).elim
end
section
variable {prog:Program}{w:World}{A:Around}{R:Result->Shared->Prop}{I:Addr}{n:Nat}{P:Nat->Value->Prop}{Wt:GP}{Fin:Shared->Prop}{tr:Nat->Bool}
def zmi (htr:TruthOf prog w A.in1 P tr)
 (item:∀i s,i<n->Wt i s->wpAny (model prog w) A.in1 (pyNext (.ref I)) (λr s'=>∃v,r=some v/\P i v/\Wt (i+1) s') (λ_ _=>False) s)
 (done:∀s,Wt n s->wpAny (model prog w) A.in1 (pyNext (.ref I)) (λr s'=>r=none/\Fin s') (λ_ _=>False) s)
 (stop:∀i s,i<n->tr i=false->Wt (i+1) s->Fin s):∀(k i:Nat) (s:Shared),n - i=k->i<=n->Wt i s->
 (∀s',Fin s'->R (.ok (.ret (.bool (((List.range n).drop i).all tr)))) s')->codeAny (model prog w) A (.builtin "all.loop" ⟨[.ref I],[]⟩) R s:=by
 intro k;induction k with
|zero=>
   intro i s hk hi hst hR;have hin:i=n:=by omega
   subst hin;refine wcF F.entry_all_loop ?_;rw[wcz wcy _];show wpAny _ A.in1 (pyNext (.ref I) >>= _) _ _ s
   refine waa (was (done s hst) (λr s' ⟨hr,hf⟩=>?_) λ_ _ e=>e.elim);subst hr;refine waa (wcM (wad ?_));have:=hR s' hf
   rw[List.drop_of_length_le (by simp)] at this;exact this
|succ k ih=>
   intro i s hk hi hst hR;have hlt:i<n:=by omega
   have hd:(List.range n).drop i=i::(List.range n).drop (i+1):=by
    rw[List.drop_eq_getElem_cons (by simpa using hlt)];simp
   refine wcF F.entry_all_loop ?_;rw[wcz wcy _];show wpAny _ A.in1 (pyNext (.ref I) >>= _) _ _ s
   refine waa (was (item i s hlt hst) (λr s' ⟨v,hr,hP,hst'⟩=>?_) λ_ _ e=>e.elim);subst hr;refine waa (waY (htr i v _ _ _ hP ?_));refine waa (wpAny_letGo ?_);cases hb:tr i with
  |true=>
     simp only[if_true];refine wad ⟨plainId_quiet wcy _,ih (i+1) _ (by omega) hlt hst' λs'' hf=>?_⟩;have:=hR s'' hf
     rw[hd,List.all_cons,hb,Bool.true_and] at this;exact this
  |false=>
     simp only[wbR,if_false];refine waa (wcM (wad ?_));have:=hR s' (stop i s' hlt hb hst')
     rw[hd,List.all_cons,hb,Bool.false_and] at this;exact this
end
section
variable {prog:Program}{w:World}{A:Around}{E:Value->Shared->Prop}{s:Shared}{a:Addr}{n:Nat}{P:Nat->Value->Prop}{Wt:GP}{Fin:Shared->Prop}{tr:Nat->Bool}{Q:Value->Shared->Prop}
def zmj (htr:TruthOf prog w A.in1 P tr)
 (item:∀i s,i<n->Wt i s->wpAny (model prog w) A.in1 (pyNext (.ref a)) (λr s'=>∃v,r=some v/\P i v/\Wt (i+1) s') (λ_ _=>False) s)
 (done:∀s,Wt n s->wpAny (model prog w) A.in1 (pyNext (.ref a)) (λr s'=>r=none/\Fin s') (λ_ _=>False) s)
 (stop:∀i s,i<n->tr i=false->Wt (i+1) s->Fin s) {g:Nat}(hg:s.heap.IsGen a g) (h:Wt 0 s) (hQ:∀s',Fin s'->Q (.bool ((List.range n).all tr)) s') :
 wpAny (model prog w) A (call (.builtin "all") [.ref a]) Q E s:=by
 refine call_function_tree F.kind_all F.plain_all F.entry_all (F.args_all1 _) ?_;unfold Builtin.«all»;refine waa (m:=oneArg "all" _) (wad ?_);refine waa (wpAny_pyIter_gen hg ?_);exact wad ⟨plainId_quiet wcy _,zmi htr item done stop n 0 s rfl (wbu _) h λs' hf=>by simpa using hQ s' hf⟩
end
def gcx (X:Cx)(scope:Scope)(cl:List (Str×Addr))(NC:List Str)(C:Addr)(code:Value)(bi:Addr)(A':Around)(s0:Shared)(H0:Hp)(ex:List Addr)(pn:List (Addr×Obj)):Cx where
 prog:=X.prog
 w:=X.w
 K:=X.K
 mg:=X.mg
 base:=X.base
 A:=A'
 N:=NC
 s₀:=s0
 Hz:=H0
 env:=genEnv scope cl C code bi X.env
 outer:=X.stack
 stack:=genEnv scope cl C code bi X.env::X.stack
 ex:=ex
 fn:=λ_=>false
 calm:=true
 pn:=pn
 xe:=λ_ _=>False
def frO:Obj:={cls:=.type "frame",data:=.dict #[]}
def zoF {X:Cx}{pins:List (Addr×Obj)}{s4:Shared}{Y:L2.St}{H1:Hp}{fp:List Addr}{scope:Scope}{cl:List (Str×Addr)}{NC:List Str}{fr:List (Option Nat)}{code:Value}{bi:Addr}{A':Around}{mm:Str->Option Value}{h':Heap}{gs:Array GenState}{tk:Nat}{og:Obj}
 (I:Inv X pins Y H1 s4) (f2:∀b∈fp,FpOk X pins H1 b) (obj:∀b∈fp,∃o,s4.heap.get? b=some o/\∀v,o.data≠.cell v) (hkind:scope.kind=.function) (hbi:bi=builtinsNs)
 (hcl:∀x c,cl.lookup x=some c->X.env.cells.lookup x=some c)
 (hhas:∀x,(scope.names.lookup x=some .cell\/scope.names.lookup x=some .free)->∃c,cl.lookup x=some c)
 (hfr:∀(i:Nat) (x:Str) (j:Nat),NC[i]?=some x->fr[i]?=some (some j)->X.N[j]?=some x/\Vis X.env.scope x/\X.env.kindOf x≠some .local/\(scope.names.lookup x=some .cell\/scope.names.lookup x=some .free))
 (hlen:fr.length=NC.length) (hA:A'.handled=none) (hAf:A'.frames=some (genEnv scope cl s4.heap.objs.size code bi X.env::X.stack))
 (hn':h'.Ns s4.heap.objs.size mm) (hs':Heap.SameBut s4.heap.objs.size (s4.heap.push frO) h') (hg:AllBare gs) (hog:∀v,og.data≠.cell v) (hfz:og.isFreed=false) :
 Inv (gcx X scope cl NC s4.heap.objs.size code bi A' s4 H1 fp (X.pn++pins)) [(h'.objs.size,og)] (pick Y fr) H1 {s4 with gens:=gs,toks:=tk,heap:=h'.push og}:=by
 have sz:h'.objs.size=s4.heap.objs.size+1:=by rw[hs'.1,wbE]
 generalize hC:s4.heap.objs.size=C at *;have ltC:∀{b:Addr}{o:Obj},s4.heap.get? b=some o->b<C:=λe=>by rw[<-hC];exact waf e
 have k4:∀b o,s4.heap.get? b=some o->(h'.push og).get? b=some o:=λb o e=>wab _ (hs'.extBut b o (wax (ltC e)) (wab _ e))
 have hCn:H1 C=none:=I.hok.fresh (wbd hC)
 have stkNo:∀b,s4.heap.objs.size<=b->b∉frs X.stack:=λb hb z=>by
  have f:=I.fpOk hb (I.hok.fresh hb)
  rcases wah.mp (I.stkSub b z) with z|z
  .exact f.2.1 z
  .exact f.2.2.1 z
 have okC:(gcx X scope cl NC C code bi A' s4 H1 fp (X.pn++pins)).Ok:=by
  refine⟨I.ok.mod,hkind,I.ok.glob,hbi,wbd hC,λx y c h1 h2=>I.ok.inj x y c (hcl x c h1) (hcl y c h2),λx hx=>hhas x hx,λx c hf _=>(by cases hf),λ_=>hA,hAf,.inr ⟨rfl,rfl⟩,λb hb=>⟨?_,λx c e=>?_⟩,λb o e=>I.bs b o e,?_,λb o e hb=>?_,λb hb hf=>?_,?_,λb hb=>I.stkFree b hb⟩
  .obtain⟨o,eo,_⟩:=obj b hb;exact wax (ltC eo)
  .exact(f2 b hb).2.2.2.2.1 x c (hcl x c e)
  .exact wal I.ok.bsz I.sz
  .obtain⟨e1,_⟩:=I.ok.bs b o e;have f:=f2 b hb
   rcases f.2.2.2.1 with z|z
   .exact I.ok.noex b o e z
   .exact absurd (wam (waf e1) z) (waP _)
  .rcases wah.mp (I.stkSub b hf) with z|z
   .exact(f2 b hb).2.1 z
   .exact(f2 b hb).2.2.1 z
  .exact I.stack
 refine⟨okC,rfl,hg,Un.kept k4,⟨_,hn'.push _,λi x v hN hv hvis=>?_⟩,λx c e=>?_,hCn,λx c e=>I.freeC x c (hcl x c e),λp hp=>?_,I.hok.kept k4,?_⟩
 .have hfi:∃j,fr[i]?=some (some j)/\Y[j]?=some (some v):=by
   unfold pick at hv;rw[waw] at hv;cases e1:fr[i]? with
  |none=>rw[e1] at hv;cases hv
  |some o=>
     rw[e1] at hv;cases o with
    |none=>cases hv
    |some j=>
       refine⟨j,rfl,?_⟩;have hv':(Y[j]?).join=some v:=wav hv
       cases e2:Y[j]? with
      |none=>rw[e2] at hv';cases hv'
      |some w'=>rw[e2] at hv';exact wbQ some hv'
  obtain⟨j,hj,hσ⟩:=hfi;obtain⟨q1,q2,q3,q4⟩:=hfr i x j hN hj;obtain⟨m,hm,hl⟩:=I.loc;obtain⟨u,ru,lk⟩:=hl j x v q1 hσ q2;refine⟨u,ru,?_⟩;rcases lk with⟨z,_⟩|⟨_,c,ec,ic⟩
  .exact absurd z q3
  .obtain⟨c',ec'⟩:=hhas x q4;have:c'=c:=by rw[hcl x c' ec'] at ec;exact wav ec
   subst this;obtain⟨oc,h1,h2⟩:=ic;exact .inr ⟨q4,c',ec',oc,k4 _ _ h1,h2⟩
 .obtain⟨v,oc,h1,h2⟩:=I.cell x c (hcl x c e);exact⟨v,oc,k4 _ _ h1,h2⟩
 .have hp':p∈(X.pn++pins)++[(h'.objs.size,og)]:=hp
  rcases waC.mp hp' with hp'|hp'
  .obtain⟨e1,e2,e3,e4,e5⟩:=I.pin p hp';refine⟨k4 _ _ e1,e2,wax (ltC e1),λz=>?_,e5⟩;rcases wah.mp (I.stkSub p.1 z) with z'|z'
   .exact e3 z'
   .exact e4 z'
  .rw[wao.mp hp'];have hle:s4.heap.objs.size<=h'.objs.size:=by omega
   exact⟨war _ hfz,I.hok.fresh hle,by show h'.objs.size≠C;omega,stkNo _ hle,hog⟩
 .unfold pick;rw[waj];exact hlen
def zmk {X:Cx}{pins pins':List (Addr×Obj)}{s4 s':Shared}{Y Y':L2.St}{H1 H':Hp}{fp:List Addr}{scope:Scope}{cl:List (Str×Addr)}{NC:List Str}{C:Addr}{code:Value}{bi:Addr}{A':Around}{pn:List (Addr×Obj)}
 (I:Inv X pins Y H1 s4) (f2:∀b∈fp,FpOk X pins H1 b) (J:Inv (gcx X scope cl NC C code bi A' s4 H1 fp pn) pins' Y' H' s'):Inv X pins Y H' s':=
 I.call' J.os J.base J.hok J.bare λb hb=>let f:=f2 b hb;⟨f.2.2.2.1,f.2.1,f.2.2.2.2.1,f.2.2.2.2.2⟩
def zfq {X:Cx}{pins:List (Addr×Obj)}{Y:L2.St}{H:Hp}{s:Shared}{gs:Array GenState}(I:Inv X pins Y H s)(h:AllBare gs):Inv X pins Y H {s with gens:=gs}:=by
 obtain⟨a,b,c,d,e,f,g,h1,i,j,k⟩:=I;exact⟨a,b,h,d,e,f,g,h1,i,j,k⟩
def za1 {s:Shared}{g:Nat}{x:GenState}:(s.setGen g x).gens.size=s.gens.size:=by simp[Shared.setGen]
def zgd {M:Model}{B:PySem.Ctx}{p:Pos}{t:Sem Fin}{fs:List Frame}{s s':Shared}{e:End}(h:Runs M B p t fs s e s'):s.gens.size<=s'.gens.size:=by
 induction h <;> (try simp only[za1,Array.size_push] at *) <;> omega
def zix {M:Model}{B:PySem.Ctx}{p:Pos}{g:Nat}{r:Resume}{s s':Shared}{res:GenResult}(h:Wakes M B p g r s res s'):s.gens.size<=s'.gens.size:=by
 have key:∀{A:PySem.Ctx}{q:Pos}{u:Sem Fin}{fs:List Frame}{e:End}{s1:Shared}{x:GenState},Runs M A q u fs (s.setGen g .running) e s1->s.gens.size<=(s1.setGen g x).gens.size:=λhr=>by
  have:=zgd hr
  rw[za1] at this⊢;exact this
 unfold Wakes at h;split at h
 .exact h.elim
 .split at h
  .obtain⟨_,_,hr,_,_,rfl⟩:=h;exact key hr
  .exact wbd (by rw[h.2];try rw[za1])
  .exact wbd (by rw[h.2];try rw[za1])
 .obtain⟨_,_,hr,_,_,rfl⟩:=h;exact key hr
 .exact wbd (by rw[h.2];try rw[za1])
 .exact wbd (by rw[h.2];try rw[za1])
def zoG {C:Type}(M:Model)(B:PySem.Ctx)(n:Nat)(t:Sem C):∀(Q:C->Pos->Shared->Prop) (E:Value->Pos->Shared->Prop) (p:Pos) (s:Shared),n<=s.gens.size->Sem.wp M B t Q E p s->
 Sem.wp M B t (λa p' s'=>n<=s'.gens.size/\Q a p' s') (λe p' s'=>n<=s'.gens.size/\E e p' s') p s:=by
 induction t with
|pure a=>exact λQ E p s hn h=>⟨hn,h⟩
|raise e=>exact λQ E p s hn h=>⟨hn,h⟩
|newGen c k ih=>exact λQ E p s hn h=>ih _ Q E p _ (by show n<=(s.gens.push _).size;rw[Array.size_push];omega) h
|resume g r _ k ih=>exact λQ E p s hn h=>let ⟨res,s',hw,h⟩:=h;⟨res,s',hw,ih res Q E p s' (wal hn (zix hw)) h⟩
|call c hd _ _ k ih=>exact λQ E p s hn h=>let ⟨r,s',hr,h⟩:=h;⟨r,s',hr,ih r Q E p s' (wal hn (zgd hr)) h⟩
|load a _ k ih=>exact λQ E p s hn h=>let ⟨o,ho,h⟩:=h;⟨o,ho,ih o Q E p s hn h⟩
|genState g k ih=>exact λQ E p s hn h=>let ⟨st,hs,h⟩:=h;⟨st,hs,ih _ Q E p s hn h⟩
|update a _ f k ih=>exact λQ E p s hn h=>⟨h.1,ih () Q E p _ hn h.2⟩
|choose src m k ih=>exact λQ E p s hn h=>⟨h.1,ih _ Q E p _ hn h.2⟩
|rule _ k ih=>exact λQ E p s hn h=>ih () Q E p s hn h
|«at» p' k ih=>exact λQ E p s hn h=>ih () Q E p' s hn h
|point _ k ih=>exact λQ E p s hn h=>ih () Q E p s hn h
|loadIfAlive a k ih=>exact λQ E p s hn h=>ih _ Q E p s hn h
|alloc o k ih=>exact λQ E p s hn h=>ih _ Q E p _ hn h
|fresh k ih=>exact λQ E p s hn h=>ih _ Q E p _ hn h
|ask k ih=>exact λQ E p s hn h=>ih _ Q E p s hn h
|os q _ k ih=>exact λQ E p s hn h=>ih _ Q E p _ hn h
|handled own k ih=>exact λQ E p s hn h=>ih _ Q E p s hn h
|stack k ih=>exact λQ E p s hn h=>ih _ Q E p s hn h
|thread k ih=>exact λQ E p s hn h=>ih _ Q E p s hn h
|_=>exact λQ E p s hn h=>h
def zcU {C:Type}{M:Model}{A:Around}{s:Shared}{t:Sem C}{Q:C->Shared->Prop}{E:Value->Shared->Prop}{n:Nat}(hn:n<=s.gens.size)(h:wpAny M A t Q E s) :
 wpAny M A t (λa s'=>n<=s'.gens.size/\Q a s') (λe s'=>n<=s'.gens.size/\E e s') s:=
 λB p hΓ=>zoG M B n t _ _ p s hn (h B p hΓ)
end GX
namespace GX
open PySem PySem.Spec PyProof PyProof.Rows L2 PySem.W
def zml {X:Cx}{pins:List (Addr×Obj)}{Y:L2.St}{H:Hp}{s:Shared}{A:Around}{tp:Array Value}{scope:Scope}{pos:Pos}{c P:Addr}{q:Str}{Q:Value->Shared->Prop}{E:Value->Shared->Prop}(I:Inv X pins Y H s)(hcd:X.env.code=.ref c)(hC:CodeK X.K c P)
 (hH:H P=some (.tbl tp)) (hps:tp[0]?=some (Value.str q 0)) (hq:X.env.qual++"<genexpr>"=q)
 (h:∀(code:Value) (H1:Hp) (s':Shared),(∀b o,H b=some o->H1 b=some o)->(∀b,H1 b=none->H b=none)->(∀b,b<s.heap.objs.size->H b=none->H1 b=none)->(∀b o,b≠P->s.heap.get? b=some o->s'.heap.get? b=some o)->s.gens.size<=s'.gens.size->Inv X pins Y H1 s'->Q code s') :
 wpAny (model X.prog X.w) A (genexprCode X.env pos (X.env.qual++"<genexpr>") scope) Q E s:=by
 obtain⟨ps,hP,ht⟩:=I.tblAt hH;have C:=hC.hd I.kIn
 rw[hq];cases e:codeAmong pos ps.toList with
|none=>
   refine wpAny_genexprCodeX hcd (C.code hP ht.1) (C.tab hP) e λc' h' tk hx hge hlt _ hrec htb _=>?_
   obtain⟨c2,oc,vs,t,e2,hoc,hd,hv⟩:=hrec;cases e2;have J:=I.grownC (t':=tk) hH hps ht (λb o hb e=>hx b o hb e) htb.2 hge hoc hd hv
   have hn:H c'=none:=I.hok.fresh hge
   refine h (.ref c') _ _ (λb o q=>by rw[zah (λz=>by rw[z,hn] at q;cases q)];exact q) (λb q=>?_) (λb hb q=>by rw[zah (λz=>by rw[z] at hb;exact absurd (wam hb hge) (waP _))];exact q) (λb o hb e=>hx b o hb e) (wan _) J;by_cases z:b=c'
   .rw[z];exact hn
   .rw[zah z] at q;exact q
|some cv=>
   refine wpAny_genexprCode_hit hcd (C.code hP ht.1) e ?_;exact h cv H s (λ_ _ q=>q) (λ_ q=>q) (λ_ _ q=>q) (λ_ _ _ e=>e) (wan _) I
def zge {X:Cx}{pins:List (Addr×Obj)}{Y:L2.St}{H:Hp}{s:Shared}{A:Around}{bm:Addr}{ob:Obj}{Q:Addr->Shared->Prop}{E:Value->Shared->Prop}(I:Inv X pins Y H s)(hB:BMod X.base mainGlobals X.mg bm ob)(h:Q builtinsNs s) :
 wpAny (model X.prog X.w) A (builtinsFor X.env.globals X.env.builtins) Q E s:=by
 have hg:=I.mod.glob.keeps I.bk
 rw[I.ok.glob];exact wpAny_builtinsFor hg hB.name hB.ne (I.bk _ _ hB.obj) hB.cls hB.dict hB.data h
section
variable {X:Cx}{elt tg iter:Expr}{scope:Scope}{gpos:Pos}{cl:List (Str×Addr)}{NC:List Str}{fr:List (Option Nat)}{g:TG}{te:TE}
def aG (X:Cx)(c:Code):Around:=X.A.in1.in1.over c []
def ogen (g:Nat)(x y:Value):Obj:={cls:=.type "generator",data:=.fields #[.int g 0,x,y]}
def ziy {X:Cx}{it:Value}{cenv:Env}(h:X.A.frames=some X.stack):(aG X (zbC elt tg iter scope gpos it cenv)).frames=some (cenv::X.stack):=by
 show pushEnvs (zbC elt tg iter scope gpos it cenv).envs (pushEnvs (envsOf ([].map Frame.where_)) X.A.frames)=_
 rw[h];rfl
def Sta (G:Cx)(fp:List Addr)(tn:Nat->Heap->Prop)(a:Addr)(og:Obj)(g:Nat)(W:Nat->L2.St->Hp->Prop):GP:=λi s=>g<s.gens.size/\tn i s.heap/\∃Y H,Inv G [(a,og)] Y H s/\(∀b∈fp,H b=none)/\W i Y H
def zgf {G:Cx}{fp:List Addr}{tn:Nat->Heap->Prop}{a:Addr}{x y:Value}{g:Nat}{W:Nat->L2.St->Hp->Prop}:Holds a g (Sta G fp tn a (ogen g x y) g W) (Sta G fp tn a (ogen g x y) g W) where
 bare:=λi s ⟨_,_,Y,H,J,_,_⟩=>J.bare
 gen:=λi s ⟨_,_,Y,H,J,_,_⟩=>⟨_,x,y,(J.pin (a,ogen g x y) (way _ (wao.mpr rfl))).1,rfl,rfl,rfl⟩
 lim:=λi s ⟨_,_,Y,H,J,_,_⟩=>J.nolimit
 size:=λi s h=>h.1
 on:=λi s gs hb ⟨h1,h2,Y,H,J,h3,h4⟩=>by
  have b1:AllBare (s.setGen g gs).gens:=zdt J.bare hb rfl
  have b2:AllBare ((s.setGen g gs).setGen g .running).gens:=zdt b1 rfl rfl
  exact⟨by rw[za1,za1];exact h1,h2,Y,H,zfq (s:=s) (gs:=((s.setGen g gs).setGen g .running).gens) J b2,h3,h4⟩
def zoH {pins:List (Addr×Obj)}{Y:L2.St}{s4:Shared}{H1:Hp}{fp:List Addr}{it:Addr}{tn:Nat->Heap->Prop}{J:It}{code:Value}{Q:VK}{n:Nat}{tr:Nat->Bool}{W:Nat->L2.St->Hp->Prop}{mm:Str->Option Value}{h':Heap}{tk:Nat}{x y:Value}
 (I:Inv X pins Y H1 s4) (T:Turn X.prog X.w X.K tg J fp it tn) (st:tn 0 s4.heap) (f2:∀b∈fp,FpOk X pins H1 b) (hh:X.A.handled=none) (hroom:X.A.depth<recursionLimit) (hco:scope.isCoroutine=false) (hkind:scope.kind=.function)
 (hcl:∀x c,cl.lookup x=some c->X.env.cells.lookup x=some c)
 (hhas:∀x,(scope.names.lookup x=some .cell\/scope.names.lookup x=some .free)->∃c,cl.lookup x=some c)
 (hfr:∀(i:Nat) (x:Str) (j:Nat),NC[i]?=some x->fr[i]?=some (some j)->X.N[j]?=some x/\Vis X.env.scope x/\X.env.kindOf x≠some .local/\(scope.names.lookup x=some .cell\/scope.names.lookup x=some .free))
 (hlen:fr.length=NC.length)
 (hg:PG (gcx X scope cl NC s4.heap.objs.size code builtinsNs (aG X (zbC elt tg iter scope gpos (.ref it) (genEnv scope cl s4.heap.objs.size code builtinsNs X.env))) s4 H1 fp (X.pn++pins)) tg g)
 (he:PE (gcx X scope cl NC s4.heap.objs.size code builtinsNs (aG X (zbC elt tg iter scope gpos (.ref it) (genEnv scope cl s4.heap.objs.size code builtinsNs X.env))) s4 H1 fp (X.pn++pins)) elt te)
 (w0:W 0 (pick Y fr) H1) (step:∀i Y2 H2,i<n->W i Y2 H2->J.go i H2/\∀x H3,J.yld i H2 x H3->g x Y2 H3 λY4 H4=>te Y4 H4 λv H6=>v=.bl (tr i)/\W (i+1) Y4 H6)
 (stop:∀i Y2 H2,i<n->tr i=false->W (i+1) Y2 H2->Q (.bl ((List.range n).all tr)) H2) (done:∀Y2 H2,W n Y2 H2->J.stop n H2/\Q (.bl ((List.range n).all tr)) H2)
 (hn':h'.Ns s4.heap.objs.size mm) (hs':Heap.SameBut s4.heap.objs.size (s4.heap.push frO) h') :
 wpAny (model X.prog X.w) X.A (call (.builtin "all") [.ref h'.objs.size]) (EP X pins Y Q) X.xe {s4 with gens:=s4.gens.push (.fresh (zet elt tg iter scope gpos (.ref it) (genEnv scope cl s4.heap.objs.size code builtinsNs X.env))),toks:=tk,heap:=h'.push (ogen s4.gens.size x y)}:=by
 generalize hL:zbC elt tg iter scope gpos (.ref it) (genEnv scope cl s4.heap.objs.size code builtinsNs X.env)=L at hg he;generalize hG:gcx X scope cl NC s4.heap.objs.size code builtinsNs (aG X L) s4 H1 fp (X.pn++pins)=G at hg he;have gA:G.A=aG X L:=by rw[<-hG];rfl
 have gp:G.prog=X.prog:=by rw[<-hG];rfl
 have gw:G.w=X.w:=by rw[<-hG];rfl
 have gK:G.K=X.K:=by rw[<-hG];rfl
 have gc:G.calm=true:=by rw[<-hG];rfl
 have gE:G.env=genEnv scope cl s4.heap.objs.size code builtinsNs X.env:=by rw[<-hG];rfl
 have gx:G.xe=λ_ _=>False:=by rw[<-hG];rfl
 have gfs:∀{Y':L2.St}{H':Hp}{s':Shared},Inv G [(h'.objs.size,ogen s4.gens.size x y)] Y' H' s'->Inv X pins Y H' s':=λ{Y' H' s'} J'=>by
  subst hG;exact zmk I f2 J'
 have obj:∀b∈fp,∃o,s4.heap.get? b=some o/\∀v,o.data≠.cell v:=T.obj 0 _ st
 have start:∀gs:Array GenState,AllBare gs->Inv G [(h'.objs.size,ogen s4.gens.size x y)] (pick Y fr) H1 {s4 with gens:=gs,toks:=tk,heap:=h'.push (ogen s4.gens.size x y)}:=λgs hb=>by
  subst hG;refine zoF I f2 obj hkind rfl hcl hhas hfr hlen hh ?_ hn' hs' hb (λv e=>by cases e) rfl;subst hL;exact ziy I.ok.frames
 have fC:∀{H':Hp},(∀b∈fp,H' b=none)->∀b∈fp,FpOk G [(h'.objs.size,ogen s4.gens.size x y)] H' b:=λ{H'} hn b hb=>by
  obtain⟨q1,q2,q3,q4,q5,q6⟩:=f2 b hb;obtain⟨o,eo,_⟩:=obj b hb;have lt:b<s4.heap.objs.size:=waf eo
  subst hG;refine⟨hn b hb,wax lt,λz=>?_,.inl hb,λx c e=>q5 x c (hcl x c e),λp hp z=>?_⟩
  .rcases wah.mp (I.stkSub b z) with z'|z'
   .exact q2 z'
   .exact q3 z'
  .have hp':p∈(X.pn++pins)++[(h'.objs.size,ogen s4.gens.size x y)]:=hp
   rcases waC.mp hp' with hp'|hp'
   .exact q6 p hp' z
   .rw[wao.mp hp'] at z;have:h'.objs.size=s4.heap.objs.size+1:=by rw[hs'.1,wbE]
    have z:b=s4.heap.objs.size+1:=(show h'.objs.size=b from z).symm.trans this
    rw[z] at lt;exact absurd lt (Nat.not_lt.mpr (wbN _))
 have st5:tn 0 (h'.push (ogen s4.gens.size x y)):=T.keep _ _ _ st λb hb o e=>wab _ (hs'.extBut b o (wax (waf e)) (wab _ e))
 have turn:∀i s,i<n->Sta G fp tn h'.objs.size (ogen s4.gens.size x y) s4.gens.size W i s->wpAny (model X.prog X.w) (aG X L) (pyNext (.ref it)) (λr s1=>∃v,r=some v/\
  wpAny (model X.prog X.w) (aG X L) (letOwnedTupleGo tg (.ref it) v) (λ_ s2=>wpAny (model X.prog X.w) (aG X L) (assign tg G.env v) (λ_ s3=>
   wpAny (model X.prog X.w) (aG X L) (eval elt G.env) (λy' s4'=>y'=.bool (tr i)/\Sta G fp tn h'.objs.size (ogen s4.gens.size x y) s4.gens.size W (i+1) s4') (λ_ _=>False) s3) (λ_ _=>False) s2) (λ_ _=>False) s1) (λ_ _=>False) s:=λi s hi ⟨h1,h2,Y2,H2,J2,h3,h4⟩=>by
  obtain⟨go,next⟩:=step i Y2 H2 hi h4;have q:=T.item G gp gw gK gc i _ s Y2 H2 (λ_ _=>False) J2 (fC h3) h2 go
  rw[gA] at q;refine was (zcU (n:=s4.gens.size+1) h1 q) (λr s1 ⟨n1,u,hr,q1⟩=>⟨u,hr,?_⟩) λ_ _ z=>z.2
  refine was (zcU n1 q1) (λ_ s2 ⟨n2,v,H3,J3,r3,y3,t3,f3⟩=>?_) λ_ _ z=>z.2
  have J3':=J3.pinned (fC f3) (T.obj _ _ t3)
  have q2:=hg _ s2 Y2 H3 v u _ J3' r3 (next v H3 y3)
  rw[gp,gw,gA,gx] at q2;refine was (zcU n2 q2) (λ_ s3 ⟨n3,Y4,H4,J4,q4⟩=>?_) λ_ _ z=>z.2
  have q3:=he _ s3 Y4 H4 _ J4 q4
  rw[gp,gw,gA,gx] at q3;refine was (zcU n3 q3) (λy' s5 ⟨n5,v',H6,J6,r6,hv,w6⟩=>?_) λ_ _ z=>z.2
  subst hv;refine⟨r6,n5,T.keep _ _ _ t3 λb hb o e=>(J6.pin (b,o) (way _ (way _ (zbL hb e)))).1,Y4,H6,J6.unpinned,λb hb=>?_,w6⟩;obtain⟨o,e,_⟩:=T.obj _ _ t3 b hb;exact(J6.pin (b,o) (way _ (way _ (zbL hb e)))).2.1
 have fin:∀s,Sta G fp tn h'.objs.size (ogen s4.gens.size x y) s4.gens.size W n s->wpAny (model X.prog X.w) (aG X L) (pyNext (.ref it)) (λr s1=>r=none/\∃Y' H',Inv G [(h'.objs.size,ogen s4.gens.size x y)] Y' H' s1/\Q (.bl ((List.range n).all tr)) H') (λ_ _=>False) s:=λs ⟨h1,h2,Y2,H2,J2,h3,h4⟩=>by
  obtain⟨go,hq⟩:=done Y2 H2 h4;have q:=T.done G gp gw gK gc n _ s Y2 H2 (λ_ _=>False) J2 (fC h3) h2 go
  rw[gA] at q;exact was q (λr s1 ⟨hr,J3⟩=>⟨hr,Y2,H2,J3,hq⟩) λ_ _ z=>z
 have wl:∀s₀ s,Sta G fp tn h'.objs.size (ogen s4.gens.size x y) s4.gens.size W 0 s->Seg (model X.prog X.w) X.A.in1.in1 (gend λs1=>∃Y' H',Inv G [(h'.objs.size,ogen s4.gens.size x y)] Y' H' s1/\Q (.bl ((List.range n).all tr)) H') (ziw n (λi v=>v=.bool (tr i)) (Sta G fp tn h'.objs.size (ogen s4.gens.size x y) s4.gens.size W) (Sta G fp tn h'.objs.size (ogen s4.gens.size x y) s4.gens.size W)) n s₀ L ((model X.prog X.w).den L) [] s:=λs₀ s hs=>by
  rw[gE] at turn;subst hL;exact zmh hco turn fin n 0 s₀ s (Nat.sub_zero _) (wbu _) hs
 have self:∀(A':Around) s,Sta G fp tn h'.objs.size (ogen s4.gens.size x y) s4.gens.size W 0 s->wpAny (model X.prog X.w) A' (pyIter (.ref it)) (λz s'=>z=.ref it/\Sta G fp tn h'.objs.size (ogen s4.gens.size x y) s4.gens.size W 0 s') (λ_ _=>False) s:=λA' s hs=>T.self A' 0 s _ _ hs.2.1 ⟨rfl,hs⟩
 have ws:∀s₀ s,Sta G fp tn h'.objs.size (ogen s4.gens.size x y) s4.gens.size W 0 s->Seg (model X.prog X.w) X.A.in1.in1 (gend λs1=>∃Y' H',Inv G [(h'.objs.size,ogen s4.gens.size x y)] Y' H' s1/\Q (.bl ((List.range n).all tr)) H') (ziw n (λi v=>v=.bool (tr i)) (Sta G fp tn h'.objs.size (ogen s4.gens.size x y) s4.gens.size W) (Sta G fp tn h'.objs.size (ogen s4.gens.size x y) s4.gens.size W)) n s₀ (zet elt tg iter scope gpos (.ref it) (genEnv scope cl s4.heap.objs.size code builtinsNs X.env)) ((model X.prog X.w).den (zet elt tg iter scope gpos (.ref it) (genEnv scope cl s4.heap.objs.size code builtinsNs X.env))) [] s:=λs₀ s hs=>by
  subst hL;exact zkv wl self s₀ s hs
 have b0:AllBare (s4.gens.push (.fresh (zet elt tg iter scope gpos (.ref it) (genEnv scope cl s4.heap.objs.size code builtinsNs X.env)))):=AllBare.push I.bare rfl
 have sta0:∀gs:Array GenState,AllBare gs->s4.gens.size<gs.size->Sta G fp tn h'.objs.size (ogen s4.gens.size x y) s4.gens.size W 0 {s4 with gens:=gs,toks:=tk,heap:=h'.push (ogen s4.gens.size x y)}:=λgs hb hz=>⟨hz,st5,_,H1,start gs hb,λb hb=>(f2 b hb).1,w0⟩
 have I5:=start _ b0
 have at0:At X.prog X.w X.A.in1 h'.objs.size s4.gens.size n (λi v=>v=.bool (tr i)) (Sta G fp tn h'.objs.size (ogen s4.gens.size x y) s4.gens.size W) (Sta G fp tn h'.objs.size (ogen s4.gens.size x y) s4.gens.size W) (λs1=>∃Y' H',Inv G [(h'.objs.size,ogen s4.gens.size x y)] Y' H' s1/\Q (.bl ((List.range n).all tr)) H') 0 {s4 with gens:=s4.gens.push (.fresh (zet elt tg iter scope gpos (.ref it) (genEnv scope cl s4.heap.objs.size code builtinsNs X.env))),toks:=tk,heap:=h'.push (ogen s4.gens.size x y)}:=by
  refine⟨b0,⟨_,x,y,war _ rfl,rfl,rfl,rfl⟩,I5.nolimit,⟨_,Array.getElem?_push_size ..,λs'' hs=>⟨rfl,?_⟩⟩,?_⟩
  .rw[Nat.sub_zero];exact ws s'' s'' hs
  .exact sta0 _ (zdt b0 rfl rfl) (by show s4.gens.size<((s4.gens.push _).setIfInBounds _ _).size;simp)
 refine zmj (P:=λi v=>v=.bool (tr i)) (Wt:=λi s=>At X.prog X.w X.A.in1 h'.objs.size s4.gens.size n (λi v=>v=.bool (tr i)) (Sta G fp tn h'.objs.size (ogen s4.gens.size x y) s4.gens.size W) (Sta G fp tn h'.objs.size (ogen s4.gens.size x y) s4.gens.size W) (λs1=>∃Y' H',Inv G [(h'.objs.size,ogen s4.gens.size x y)] Y' H' s1/\Q (.bl ((List.range n).all tr)) H') i s)
  (Fin:=λs'=>∃H',Inv X pins Y H' s'/\Q (.bl ((List.range n).all tr)) H') (tr:=tr) (n:=n) ?_ ?_ ?_ ?_ at0.gen at0 λs' ⟨H',J',q⟩=>⟨.bl _,H',J',rfl,q⟩
 .intro i v s Q' E' hv hq;subst hv;exact wad hq
 .intro i s hi hs;refine zkx hh hroom zgf hi hs λv s1 gs hP hM hb hA=>⟨v,rfl,hP,hA⟩
 .intro s hs;refine zky hh hroom zgf hs λs1 h2 ⟨Y',H',J',hq⟩ hk=>⟨rfl,H',?_,hq⟩
  have J2:=gfs J'
  exact(zfq (s:=s1) (gs:=(s1.setGen s4.gens.size .finished).gens) J2 (zdt J2.bare rfl rfl)).kept (t':=s1.toks) hk
 .intro i s hi ht hs;obtain⟨h1,h2,Y',H',J',_,w'⟩:=hs.run;have J2:=gfs J'
  exact⟨H',zfq (s:=s.setGen s4.gens.size .running) (gs:=s.gens) J2 hs.bare,stop i Y' H' hi ht w'⟩
end
def tAll (fr:List (Option Nat))(wi:TI)(g:TG)(te:TE):TE:=λY H Q=>wi Y H λJ H1=>∀H3:Hp,(∀b o,H1 b=some o->H3 b=some o)->(∀b,H3 b=none->H1 b=none)->∃(n:Nat) (tr:Nat->Bool) (W:Nat->L2.St->Hp->Prop),W 0 (pick Y fr) H3/\
 (∀i Y2 H2,i<n->W i Y2 H2->J.go i H2/\∀x H3,J.yld i H2 x H3->g x Y2 H3 λY4 H4=>te Y4 H4 λv H6=>v=.bl (tr i)/\W (i+1) Y4 H6)/\
 (∀i Y2 H2,i<n->tr i=false->W (i+1) Y2 H2->Q (.bl ((List.range n).all tr)) H2)/\∀Y2 H2,W n Y2 H2->J.stop n H2/\Q (.bl ((List.range n).all tr)) H2
def zqL {X:Cx}{elt tg iter:Expr}{scope:Scope}{gpos np cpos:Pos}{cl:List (Str×Addr)}{NC:List Str}{fr:List (Option Nat)}{wi:TI}{g:TG}{te:TE}{c P bm:Addr}{ob:Obj}{q:Str}{RR:Hp->Prop}(hRR:∀pins Y H s,Inv X pins Y H s->RR H)
 (hcalm:X.calm=true) (B:Blt X.mg) (hi:PI X tg iter wi) (hclos:closureFor scope X.env=pure cl) (hcell:∀y∈scope.names,y.2≠.cell) (h0:scope.names.lookup (".0":Str)=some NameKind.local) (hkind:scope.kind=.function) (hco:scope.isCoroutine=false) (hroom:X.A.depth<recursionLimit)
 (hcl:∀x c,cl.lookup x=some c->X.env.cells.lookup x=some c)
 (hhas:∀x,(scope.names.lookup x=some .cell\/scope.names.lookup x=some .free)->∃c,cl.lookup x=some c)
 (hfr:∀(i:Nat) (x:Str) (j:Nat),NC[i]?=some x->fr[i]?=some (some j)->X.N[j]?=some x/\Vis X.env.scope x/\X.env.kindOf x≠some .local/\(scope.names.lookup x=some .cell\/scope.names.lookup x=some .free))
 (hlen:fr.length=NC.length) (hcd:X.env.code=.ref c) (hC:CodeK X.K c P) (hB:BMod X.base mainGlobals X.mg bm ob) (hT:∀pins Y H s,Inv X pins Y H s->VD.TabH P q H) (hq:X.env.qual++"<genexpr>"=q)
 (hg:∀C code it s0 H0 ex pn,PG (gcx X scope cl NC C code builtinsNs (aG X (zbC elt tg iter scope gpos it (genEnv scope cl C code builtinsNs X.env))) s0 H0 ex pn) tg g)
 (he:∀C code it s0 H0 ex pn,RR H0->PE (gcx X scope cl NC C code builtinsNs (aG X (zbC elt tg iter scope gpos it (genEnv scope cl C code builtinsNs X.env))) s0 H0 ex pn) elt te)
 (hgl:Gl X "all":=by rfl) (hs:∀x,genFold iter X.env x=pure x:=by intro _;rfl)
 (he1:starEach [.GeneratorExp elt [⟨tg,iter,[],0⟩] scope gpos] X.env=(false,eval (.GeneratorExp elt [⟨tg,iter,[],0⟩] scope gpos) X.env)::starEach [] X.env:=by rfl) :
 PE X (.Call (.Name "all" np) [.GeneratorExp elt [⟨tg,iter,[],0⟩] scope gpos] [] cpos) (tAll fr wi g te):=by
 intro pins s Y H Q I h;refine waG (zc7 I hgl (B "all" (by decide +kernel)) boot_all ?_ (by decide) (by decide));refine PyProof.Rows.callWith_builtin1 ?_ he1 rfl;rw[he1];refine wbA ?_;refine wpAny_GeneratorExp_make hco hclos hcell h0 hkind hroom (thn (hi pins s Y H _ I h) λv s1 h1=>thn h1 λitv s2 h2=>?_) hs;obtain⟨it,fp,tn,J,H1,rfl,I2,T,st2,f2,hW⟩:=h2;obtain⟨tp,hH,hps⟩:=hT _ _ _ _ I2;refine⟨I2.nolimit,zml I2 hcd hC hH hps hq λcode H3 s3 k1 k2 k3 k4 k5 I3=>zge I3 hB ?_⟩;intro h' hn' hs';obtain⟨n,tr,W,w0,step,stop,done⟩:=hW H3 k1 k2;have lt:∀b∈fp,b<s2.heap.objs.size:=λb hb=>let ⟨o,e,_⟩:=T.obj _ _ st2 b hb;waf e
 have st3:tn 0 s3.heap:=T.keep _ _ _ st2 λb hb o e=>k4 b o (λz=>by
  have:=(f2 b hb).1
  rw[z,hH] at this;cases this) e
 have f3:∀b∈fp,FpOk X pins H3 b:=λb hb=>⟨k3 b (lt b hb) (f2 b hb).1,(f2 b hb).2⟩
 have run:=λtk=>zoH (Q:=Q) (tk:=tk) (x:=.str "<genexpr>" (s3.toks+1)) (y:=.str (X.env.qual++"<genexpr>") (s3.toks+1+1)) I3 T st3 f3 (I.ok.hd hcalm) hroom hco hkind hcl hhas hfr hlen (hg _ code _ _ _ _ _) (he _ code _ _ _ _ _ (hRR _ _ _ _ I3)) w0 step stop done hn' hs'
 exact wad (run _)
end GX
namespace VD
open PySem PySem.Spec PyProof PyProof.Rows L2 PySem.W GX
def zfr (f:D->Option Bool):List D->Option (List Bool)
|[]=>some []
|d::ds=>(f d).bind λb=>(zfr f ds).bind λbs=>some (b::bs)
theorem zgg {f:D->Option Bool}:∀{ds:List D}{bs:List Bool},zfr f ds=some bs->bs.length=ds.length/\∀(i:Nat) (d:D),ds[i]?=some d->f d=some (bs.getD i true)
|[],bs,e=>by cases e;exact⟨rfl,λi d h=>by simp at h⟩
|d::ds,bs,e=>by
   obtain⟨b,e1,e⟩:=bind_some e;obtain⟨bs',e2,e⟩:=bind_some e;cases e;obtain⟨l,h⟩:=zgg e2;refine⟨by simp[l],λi x hx=>?_⟩;cases i with
  |zero=>cases hx;exact e1
  |succ i=>exact h i x (by simpa using hx)
def zkz (bs:List Bool):(List.range bs.length).all (λi=>bs.getD i true)=bs.all id:=by
 rw[wbt,waB,waB];constructor
 .intro h b hb;obtain⟨i,hi,rfl⟩:=List.mem_iff_getElem.mp hb;have:=h i (wbq.mpr hi)
  simpa[List.getD,wat hi] using this
 .intro h i hi;have hi:=wbq.mp hi
  have:=h bs[i] (List.getElem_mem hi)
  simpa[List.getD,wat hi] using this
def eAll (fr:List (Option Nat))(fi:FA)(g:FG)(fe:FE):FE:=λZ=>(fi Z).bind λds=>(zfr (λd=>(g d (zaK Z fr)).bind λZ1=>(fe Z1).bind dB) ds).bind λbs=>some (.bl (bs.all id))
def zqM {K:W.Frag}{fr:List (Option Nat)}{wi:TI}{fi:FA}{g:FG}{is:List Nat}{fe:FE}(hi:GoI K wi fi)(hon:∀d Z Z',g d Z=some Z'->Only is Z Z')(hap:apart is fr=true) :
 GoE K (tAll fr wi (TGof K g) (TEof K fe)) (eAll fr fi g fe):=by
 intro Hz Jz O Z Y H J out Q s e w;obtain⟨ds,e1,e⟩:=bind_some e;obtain⟨bs,e2,e⟩:=bind_some e;cases e;obtain⟨bl,bg⟩:=zgg e2;refine hi Hz Jz O Z Y H J ds _ s e1 λI H1 J1 u1 src=>?_
 intro H3 k1 k2;have u0:Up H1 J1 H3 J1:=⟨λb o h=>k1 b o h,λ_ h=>h,λ_ h=>.inl h,λa h z=>u1.ja a h (k2 a z)⟩
 have fin:∀H2 J2,Up H1 J1 H2 J2->Q (.bl ((List.range ds.length).all λi=>bs.getD i true)) H2:=λH2 J2 u2=>by
  rw[<-bl,zkz];exact w _ H2 J2 (u1.trans u2) (.bl _)
 refine⟨ds.length,λi=>bs.getD i true,λi Y2 H2=>i<=ds.length/\∃J2,ST K Hz Jz O.blk (zaK Z fr) Y2 H2 J2/\Up H1 J1 H2 J2,⟨wbu _,J1,((s.up u1).up u0).pick fr,u0⟩,?_,?_,?_⟩
 .rintro i Y2 H2 hlt ⟨_,J2,s2,u2⟩;obtain⟨_,turn⟩:=src H2 J2 u2.keep s2.ja;have hd:ds[i]?=some ds[i]:=wat hlt
  obtain⟨go,yl⟩:=turn i _ hd;obtain⟨Z1,eg,ee⟩:=bind_some (bg i _ hd);obtain⟨xd,ex,eb⟩:=bind_some ee;refine⟨go,λx H4 y=>?_⟩;obtain⟨J3,u3,r3⟩:=yl x H4 y;have wk:Weak (zaK Z fr) Z1:=zfc (hon _ _ _ eg) hap
  refine⟨Hz,Jz,O.blk,zaK Z fr,J3,_,Z1,s2.up u3,r3,eg,λY4 s4=>?_⟩;refine⟨Hz,Jz,O.blk,Z1,J3,xd,s4,ex,λv H6 J6 u6 r6=>?_⟩;have hxd:xd=.bl (bs.getD i true):=by
   cases xd with
  |bl b=>cases eb;rfl
  |_=>cases eb
  subst hxd;cases r6;exact⟨rfl,hlt,J6,(s4.up u6).weak wk rfl,u2.trans (u3.trans u6)⟩
 .rintro i Y2 H2 _ _ ⟨_,J2,_,u2⟩;exact fin H2 J2 u2
 .rintro Y2 H2 ⟨_,J2,s2,u2⟩;obtain⟨stop,_⟩:=src H2 J2 u2.keep s2.ja;exact⟨stop,fin H2 J2 u2⟩
def znf (N:List Str)(st:Stmt){X:Cx}{elt iter tg:Expr}{scope:Scope}{gpos np cpos:Pos}{NC:List Str}(fr:List (Option Nat)){fi:FA}{g:FG}{is:List Nat}{fe:FE}{q:Str}{RR:Hp->Prop}(hRR:∀pins Y H s,Inv X pins Y H s->RR H)(hcalm:X.calm=true)(B:Blt X.mg)(hi:VI X tg iter fi)(TX:TabX X q)(hroom:X.A.depth<recursionLimit)
 (hcells:∀x,X.env.scope.names.lookup x=some .cell->∃c,X.env.cells.lookup x=some c) (hfk:X.env.scope.kind=.function) (hN:X.N=N) (hsc:X.env.scope.names=(zab st).names)
 (hfree':∀y∈scope.names,y.2=.free->(zab st).names.lookup y.1=some .cell) (hcell:∀y∈scope.names,y.2≠.cell) (hkind:scope.kind=.function) (hco:scope.isCoroutine=false) (h0:scope.names.lookup (".0":Str)=some NameKind.local)
 (hfr':zcn N (zab st).names scope.names NC fr=true) (hlen:fr.length=NC.length) (hap:apart is fr=true) (hq:X.env.qual++"<genexpr>"=q)
 (hg:∀cl C code it s0 H0 ex pn,VG (gcx X scope cl NC C code builtinsNs (aG X (zbC elt tg iter scope gpos it (genEnv scope cl C code builtinsNs X.env))) s0 H0 ex pn) tg is g)
 (he:∀cl C code it s0 H0 ex pn,RR H0->VE (gcx X scope cl NC C code builtinsNs (aG X (zbC elt tg iter scope gpos it (genEnv scope cl C code builtinsNs X.env))) s0 H0 ex pn) elt fe)
 (hgl:Gl X "all":=by rfl) (hs:∀x,genFold iter X.env x=pure x:=by intro _;rfl)
 (he1:starEach [.GeneratorExp elt [⟨tg,iter,[],0⟩] scope gpos] X.env=(false,eval (.GeneratorExp elt [⟨tg,iter,[],0⟩] scope gpos) X.env)::starEach [] X.env:=by rfl) :
 VE X (.Call (.Name "all" np) [.GeneratorExp elt [⟨tg,iter,[],0⟩] scope gpos] [] cpos) (eAll fr fi g fe):=by
 obtain⟨wi,pi,gi⟩:=hi;obtain⟨c,P,bm,ob,e1,e2,e3,hT⟩:=TX;obtain⟨_,_,hon,_⟩:=hg [] 0 .none .none X.s₀ X.Hz [] [];have hfree:∀y∈scope.names,y.2=.free->X.env.scope.names.lookup y.1=some .cell:=by rw[hsc];exact hfree'
 have hfr:zcn X.N X.env.scope.names scope.names NC fr=true:=by rw[hsc,hN];exact hfr'
 have hc:∀y∈scope.names,y.2=.free->∃c,X.env.cells.lookup y.1=some c:=λy hy h=>hcells _ (hfree y hy h)
 refine⟨_,zqL (fr:=fr) (NC:=NC) (cl:=clo X.env.cells scope.names []) (RR:=RR) hRR hcalm B pi (zhx hc) hcell h0 hkind hco hroom (λx c e=>zee _ _ _ (λ_ _ z=>by cases z) hc x c e) (λx hx=>?_) (λi x j h1 h2=>?_) hlen e1 e2 e3 (λpins Y H s I=>pers_T.st I.base hT) hq (λC code it s0 H0 ex pn=>(hg _ C code it s0 H0 ex pn).of) (λC code it s0 H0 ex pn rH=>(he _ C code it s0 H0 ex pn rH).of) hgl hs he1,zqM gi hon hap⟩
 .refine zef _ _ _ x (.inr (zbM ?_));rcases hx with e|e
  .exact absurd rfl (hcell _ (zbM e))
  .exact e
 .have hm:(x,some j)∈NC.zip fr:=by
   have:(NC.zip fr)[i]?=some (x,some j):=by rw[wbF];exact⟨h1,h2⟩
   exact waH this
  have q:=waB.mp hfr _ hm
  have q':((X.N[j]? == some x)&&(X.env.scope.names.lookup x == some .cell)&&(scope.names.lookup x == some .free))=true:=q
  simp only[waA,beq_iff_eq] at q';obtain⟨⟨q1,q2⟩,q3⟩:=q';refine⟨q1,.inr (.inl q2),?_,.inr q3⟩;intro z;have z':X.env.scope.names.lookup x=some .local:=z
  rw[q2] at z';cases z'
def vgg (i:Nat){X:Cx}{scope:Scope}{cl:List (Str×Addr)}{NC:List Str}{C:Addr}{code:Value}{bi:Addr}{A':Around}{s0:Shared}{H0:Hp}{ex:List Addr}{pn:List (Addr×Obj)}{x:Str}{pos:Pos}(nd:NC.Nodup:=by decide +kernel)(hi:NC[i]?=some x:=by rfl)(hx:scope.names.lookup x=some .local:=by rfl) :
 VG (gcx X scope cl NC C code bi A' s0 H0 ex pn) (.Name x pos) [i] (gN i):=⟨_,zgD (X:=gcx X scope cl NC C code bi A' s0 H0 ex pn) nd hi (.inl hx) (.inr hx),zgN⟩
def zhX {X:Cx}{k:Nat}{elt tg iter:Expr}{scope:Scope}{gpos:Pos}{it:Value}{cenv:Env}(r:Room (k+1) X.A):Room k (aG X (zbC elt tg iter scope gpos it cenv)):=by
 have hd:=r.dp
 have hu:=r.un
 refine⟨r.hd,?_,?_,?_⟩
 .show X.A.depth+0+(zbC elt tg iter scope gpos it cenv).weight+3*k+5<recursionLimit
  have:(zbC elt tg iter scope gpos it cenv).weight=1:=rfl
  omega
 .show X.A.units+1+1+0+(zbC elt tg iter scope gpos it cenv).cUnits+16*k+200<cLine
  have:(zbC elt tg iter scope gpos it cenv).cUnits<=3:=by first|exact wan _|decide
  omega
 .show pushGuards (zbC elt tg iter scope gpos it cenv).guards (pushGuards [] X.A.guards)=some []
  rw[r.gd];rfl
def zqN (N:List Str)(st:Stmt){X:Cx}{k:Nat}{elt iter tg:Expr}{scope:Scope}{gpos np cpos:Pos}{NC:List Str}(fr:List (Option Nat)){fi:FA}{g:FG}{is:List Nat}{fe:FE}{q:Str}(hr:Room k X.A)(B:Blt X.mg)(TX:TabX X q)(hi:VI X tg iter fi)
 (hg:∀{cl C code A' s0 H0 ex pn},VG (gcx X scope cl NC C code builtinsNs A' s0 H0 ex pn) tg is g)
 (he:∀{cl C code it s0 H0 ex pn},VE (gcx X scope cl NC C code builtinsNs (aG X (zbC elt tg iter scope gpos it (genEnv scope cl C code builtinsNs X.env))) s0 H0 ex pn) elt fe)
 (hcalm:X.calm=true:=by rfl) (hcells:∀x,X.env.scope.names.lookup x=some .cell->∃c,X.env.cells.lookup x=some c:=by exact λx h=>zbX h) (hfk:X.env.scope.kind=.function:=by rfl) (hN:X.N=N:=by rfl) (hsc:X.env.scope.names=(zab st).names:=by rfl)
 (hfree':∀y∈scope.names,y.2=.free->(zab st).names.lookup y.1=some .cell:=by decide +kernel) (hcell:∀y∈scope.names,y.2≠.cell:=by decide +kernel) (hkind:scope.kind=.function:=by rfl) (hco:scope.isCoroutine=false:=by rfl) (h0:scope.names.lookup (".0":Str)=some NameKind.local:=by rfl)
 (hfr':zcn N (zab st).names scope.names NC fr=true:=by decide +kernel) (hlen:fr.length=NC.length:=by rfl) (hap:apart is fr=true:=by decide) (hq:X.env.qual++"<genexpr>"=q:=by decide +kernel)
 (hgl:Gl X "all":=by rfl) (hs:∀x,genFold iter X.env x=pure x:=by intro _;rfl)
 (he1:starEach [.GeneratorExp elt [⟨tg,iter,[],0⟩] scope gpos] X.env=(false,eval (.GeneratorExp elt [⟨tg,iter,[],0⟩] scope gpos) X.env)::starEach [] X.env:=by rfl) :
 VE X (.Call (.Name "all" np) [.GeneratorExp elt [⟨tg,iter,[],0⟩] scope gpos] [] cpos) (eAll fr fi g fe):=
 znf (RR:=λ_=>True) N st fr (λ_ _ _ _ _=>trivial) hcalm B hi TX hr.depth hcells hfk hN hsc hfree' hcell hkind hco h0 hfr' hlen hap hq (λ_ _ _ _ _ _ _ _=>hg) (λ_ _ _ _ _ _ _ _ _=>he) hgl hs he1
def zqO (N:List Str)(st:Stmt){X:Cx}{k:Nat}{elt iter tg:Expr}{scope:Scope}{gpos np cpos:Pos}{NC:List Str}(fr:List (Option Nat)){fi:FA}{g:FG}{is:List Nat}{fe:FE}{q:Str}{Pc:Hp->Prop}(hp:Prs X Pc)(hr:Room k X.A)(B:Blt X.mg)(TX:TabX X q)(hi:VI X tg iter fi)
 (hg:∀{cl C code A' s0 H0 ex pn},VG (gcx X scope cl NC C code builtinsNs A' s0 H0 ex pn) tg is g)
 (he:∀{cl C code it s0 H0 ex pn},Pc H0->VE (gcx X scope cl NC C code builtinsNs (aG X (zbC elt tg iter scope gpos it (genEnv scope cl C code builtinsNs X.env))) s0 H0 ex pn) elt fe)
 (hcalm:X.calm=true:=by rfl) (hcells:∀x,X.env.scope.names.lookup x=some .cell->∃c,X.env.cells.lookup x=some c:=by exact λx h=>zbX h) (hfk:X.env.scope.kind=.function:=by rfl) (hN:X.N=N:=by rfl) (hsc:X.env.scope.names=(zab st).names:=by rfl)
 (hfree':∀y∈scope.names,y.2=.free->(zab st).names.lookup y.1=some .cell:=by decide +kernel) (hcell:∀y∈scope.names,y.2≠.cell:=by decide +kernel) (hkind:scope.kind=.function:=by rfl) (hco:scope.isCoroutine=false:=by rfl) (h0:scope.names.lookup (".0":Str)=some NameKind.local:=by rfl)
 (hfr':zcn N (zab st).names scope.names NC fr=true:=by decide +kernel) (hlen:fr.length=NC.length:=by rfl) (hap:apart is fr=true:=by decide) (hq:X.env.qual++"<genexpr>"=q:=by decide +kernel)
 (hgl:Gl X "all":=by rfl) (hs:∀x,genFold iter X.env x=pure x:=by intro _;rfl)
 (he1:starEach [.GeneratorExp elt [⟨tg,iter,[],0⟩] scope gpos] X.env=(false,eval (.GeneratorExp elt [⟨tg,iter,[],0⟩] scope gpos) X.env)::starEach [] X.env:=by rfl) :
 VE X (.Call (.Name "all" np) [.GeneratorExp elt [⟨tg,iter,[],0⟩] scope gpos] [] cpos) (eAll fr fi g fe):=
 znf (RR:=Pc) N st fr hp hcalm B hi TX hr.depth hcells hfk hN hsc hfree' hcell hkind hco h0 hfr' hlen hap hq (λ_ _ _ _ _ _ _ _=>hg) (λ_ _ _ _ _ _ _ _ rH=>he rH) hgl hs he1
end VD
namespace VD
open PySem PySem.Spec PyProof PyProof.Rows L2 PySem.W GX EX
end VD
namespace GB
open PySem PySem.Spec PyProof PyProof.Rows L2 VD GM
def Po {A:Type}(o:Option A)(R:A->Prop):Prop:=∃a,o=some a/\R a
section
variable {A B:Type}{o:Option A}{k:A->Option B}{P:A->Prop}{R:B->Prop}{a:A}
def sx (e:o=some a)(h:Po (k a) R):Po (o.bind k) R:=by rw[e];exact h
def asc {C:Type}{g:B->Option C}{R:C->Prop}(h:Po (o.bind λx=>(k x).bind g) R):Po ((o.bind k).bind g) R:=by
 cases o with
|none=>exact h
|some x=>exact h
theorem Po.bind (h:Po o P)(hk:∀a,P a->Po (k a) R):Po (o.bind k) R:=by
 obtain⟨a,e,p⟩:=h;exact sx e (hk a p)
def zkA {b:Bool}{x y:Option A}(h1:b=true->Po x P)(h2:b=false->Po y P):Po (if b then x else y) P:=by
 cases b with
|true=>exact h1 rfl
|false=>exact h2 rfl
end
def zoI {S A:Type}{f:S->D->Option S}{ds:List D}{s0:S}{k:S->Option A}{R:A->Prop}(I:Nat->S->Prop)(h0:I 0 s0)(hs:∀i s d,ds[i]?=some d->I i s->Po (f s d) (I (i+1)))(hk:∀s,I ds.length s->Po (k s) R):Po ((zbd f s0 ds).bind k) R:=by
 have key:∀(ds:List D) (b:Nat) (s:S),(∀i s d,ds[i]?=some d->I (b+i) s->Po (f s d) (I (b+i+1)))->I b s->Po (zbd f s ds) (I (b+ds.length)):=by
  intro ds;induction ds with
 |nil=>intro b s _ h;exact⟨s,rfl,h⟩
 |cons d ds ih=>
    intro b s hf h;obtain⟨s1,e1,h1⟩:=hf 0 s d rfl h;show Po ((f s d).bind λs=>zbd f s ds) _
    refine sx e1 ?_;rw[wba,show b+(ds.length+1)=b+1+ds.length by omega];exact ih (b+1) s1 (λi s d hd hI=>by
     rw[show b+1+i=b+(i+1) by omega] at hI⊢;exact hf (i+1) s d hd hI) h1
 have:=key ds 0 s0 (λi s d hd hI=>by rw[Nat.zero_add] at hI⊢;exact hs i s d hd hI) h0
 rw[Nat.zero_add] at this;exact this.bind hk
structure Itm where
 dp:Nat
 nm:Str
 ba:Int
 bb:Int
 bc:Int
 bd:Int
 wd:Str
 rk:Int
 hd:Option Str
def Itm.bx (x:Itm):D:=.tup [.int x.ba,.int x.bb,.int x.bc,.int x.bd]
def hdO:Option Str->D
|none=>.non
|some h=>.str h
def Itm.d (x:Itm):D:=.tup [.int (x.dp:Int),.str x.nm,x.bx,.str x.wd,.int x.rk,hdO x.hd]
def rowsD (L:List Itm):D:=.lst (L.map Itm.d)
inductive Vd:Nat->List Itm->Prop
|nil {m:Nat}:Vd m []
|cons {m:Nat}{x:Itm}{S:List Itm}(hm:x.dp<=m) (h4:x.dp<=4) (t:Vd (x.dp+1) S):Vd m (x::S)
def part (x:Itm)(_:Nat)(inn:List D):D:=.tup [.str x.nm,x.bx,.str x.wd,.int x.rk,hdO x.hd,.tup inn]
def fo:List Itm->Nat->List D
|[],_=>[]
|x::S,d=>if d=x.dp then part x 0 (fo S (d+1))::fo S d else if d=x.dp+1 then[] else fo S d
def ot (fr:Str->Bool):Nat->List D->List D
|0,_=>[]
|n+1,ds=>ds.flatMap λd=>match d with
  |.tup [_,_,.str w,_,_,.tup inn]=>if fr w then d::ot fr n inn else[]
  |_=>[]
theorem zkB:∀{m:Nat}{S:List Itm},Vd m S->∀d,m<d->fo S d = []
|_,_,.nil,_,_=>rfl
|m,_,.cons (x:=x) (S:=S) hm h4 t,d,hd=>by
   show(if d=x.dp then _ else if d=x.dp+1 then[] else fo S d) = []
   rw[if_neg (by omega)];by_cases e:d=x.dp+1
   .rw[if_pos e]
   .rw[if_neg e];exact zkB t d (by omega)
def nr:D->Int×Str
|.tup [.str n,_,_,.int r,_,_]=>(r,n)
|_=>(0,"")
def zoJ {fr:Str->Bool}{n:Nat}{x:Itm}{dp:Nat}{inn ds:List D}:ot fr (n+1) (part x dp inn::ds)=(if fr x.wd then part x dp inn::ot fr n inn else[])++ot fr (n+1) ds:=by
 show(List.flatMap _ (_::ds))=_
 rw[List.flatMap_cons];rfl
def Ok:Nat->List D->Prop
|0,ds=>ds = []
|n+1,ds=>∀d∈ds,∃x dp inn,d=part x dp inn/\Ok n inn
def Ok.nil:∀{n:Nat},Ok n []
|0=>rfl
|_+1=>λd h=>by cases h
theorem zgh:∀{m:Nat}{S:List Itm},Vd m S->∀d,Ok (6 - d) (fo S d)
|_,_,.nil,_=>Ok.nil
|m,_,.cons (x:=x) (S:=S) hm h4 t,d=>by
   show Ok (6 - d) (if d=x.dp then part x 0 (fo S (d+1))::fo S d else if d=x.dp+1 then[] else fo S d)
   by_cases e:d=x.dp
   .rw[if_pos e];have h1:=zgh t (d+1)
    have h2:=zgh t d
    rw[show 6 - d=(6 - (d+1))+1 by omega] at h2⊢;intro y hy;rcases wah.mp hy with rfl|hy
    .exact⟨_,_,_,rfl,h1⟩
    .exact h2 y hy
   .rw[if_neg e];by_cases e2:d=x.dp+1
    .rw[if_pos e2];exact Ok.nil
    .rw[if_neg e2];exact zgh t d
theorem Ok.up:∀{n:Nat}{ds:List D},Ok n ds->Ok (n+1) ds
|0,ds,h=>by rw[show ds = [] from h];exact Ok.nil
|n+1,ds,h=>λd hd=>by
   obtain⟨x,dp,inn,e,o⟩:=h d hd;exact⟨x,dp,inn,e,o.up⟩
end GB
namespace Pg
open PySem L2
def top (i:Nat):Stmt:=PySem.Challenge.pw_focuswalk_k05_too_many_and_twice.main.body.getD i (.Pass ⟨0,0,0,0⟩)
abbrev zbD:Stmt:=top 14
abbrev zcV:Stmt:=top 15
abbrev zcW:Stmt:=top 16
abbrev zcg:Stmt:=top 17
abbrev zbT:Stmt:=top 18
abbrev zdu:Stmt:=top 23
abbrev zcX:Stmt:=top 24
abbrev za2:Stmt:=top 25
abbrev zeu:Stmt:=top 26
abbrev zdG:Stmt:=top 27
abbrev zb3:Stmt:=top 28
abbrev zev:Stmt:=top 29
abbrev zew:Stmt:=top 30
abbrev zex:Stmt:=top 31
abbrev zbt:Stmt:=top 32
abbrev zaR:Stmt:=top 33
abbrev zcN:Stmt:=top 34
abbrev zey:Stmt:=top 35
abbrev zbE:Stmt:=top 36
abbrev zdf:Stmt:=top 39
abbrev zdg:Stmt:=top 40
abbrev zdh:Stmt:=top 41
abbrev zcr:Stmt:=top 42
abbrev zcY:Stmt:=top 43
abbrev zcO:Stmt:=top 44
abbrev zb4:Stmt:=top 45
abbrev zfs:Stmt:=top 46
end Pg
namespace Pg
open PySem PySem.Spec PyProof PyProof.Rows L2 VD EX
section
variable {P:Program}{w:World}{K:W.Frag}{mg:Str->Option Value}{base:Heap}{f g:Addr}{fd gd:FuncData}
def zbl (self:List D->Option D)(p_parts p_outer_place:D):Option D:=
 (Option.bind (some ([]:List D)) λ(x1:List D)=>(Option.bind (Option.bind (zrA [p_parts]) (zbd (λ(s2:List D) (d8:D)=>Option.bind (un2 d8) λ(y3:D×D)=>(Option.bind (dAdd p_outer_place (.tup [y3.1])) λ(x4:D)=>(Option.bind (appL s2 (.tup [x4,y3.2])) λ(x5:List D)=>(Option.bind (Option.bind (Option.bind (aC (dIx y3.2 (.int 5)) (aC (some x4) aN)) self) (extL x5)) λ(x6:List D)=>(some x6))))) x1)) λ(s2:List D)=>(Option.bind (some (.lst s2)) λ(r7:D)=>(some r7))))
def zbU (self:List D->Option D):List D->Option D:=c2 (zbl self)
def zaC:Nat->List D->Option D
|0=>λ_=>none
|n+1=>zbU (zaC n)
def sc_placed_within:FnScope ["parts","outer_place","pairs","number","part","place"] ["parts","outer_place"] (zab zbT):=fsc
def zd1 (F:Fun K "placed_within" "placed_within" zbT f fd)(B:Blt mg){n:Nat}{self:List D->Option D}(C_placed_within:Cal P w K mg base n "placed_within" ["parts","outer_place"] (spF K self))(G_PARTS:GlobD K mg "PARTS" (.int 5)):FnOk P w K mg base CX0 (n+1) f fd ["parts","outer_place"] (spF K (zbU self)):=
 zbR F sc_placed_within zdo λcdv A outer s H E hr=>by
  have nd:=sc_placed_within.nd
  refine⟨_,(zad (vsO 2 nd (zbI zaf)) (zad (zdm (znT B (zaa (vv 0) zaf)) (zc9 rfl (zap (vgN 3 nd) (zap (vgN 4 nd) zcc))) (zad (vsS 5 nd (zaJ zbP zaY (vr 1) (VE.w (zaQ (zaa (vv 3) zaf))))) (zad (zjH 2 (zaQ (zaa (vv 5) (zaa (vv 4) zaf)))) (zad (zmP 2 (zax (hk:=wan _) C_placed_within hr (zaa (zaZ (vr 4) (VE.w (zaI G_PARTS))) (zaa (vv 5) zaf)))) (zbi [3,4,5] zal))))) (zgP 2 (zak (zas (vv 2)))))),zgV ?_⟩;intro p_parts p_outer_place;unfold zbl;exact(zaj (zhC rfl) λx1=>(zaj (zgU (emb:=(λ(s2:List D)=>[.val p_parts,.val p_outer_place,.own 1 (.lst s2),.un,.un,.un])) rfl (λ_=>rfl) (λ_ _=>rfl) λs2 y3=>(zaj (zat rfl) λx4=>(zaj (zjQ rfl) λx5=>(zaj (zmZ rfl) λx6=>(zbj [3,4,5] (za0 λ_ h=>h)))))) λs2=>(zjO 2 (zao λ_ _ h=>h))))
def zbu (p_sheet:D):Option D:=
 (Option.bind ((zaC 8) [p_sheet,(.tup [])]) λ(r1:D)=>(some r1))
def zaq:List D->Option D:=c1 zbu
def zez:FnScope ["sheet"] ["sheet"] (zab zcg):=fsc
def zeA (F:Fun K "placed_parts" "placed_parts" zcg f fd)(B:Blt mg)(C_placed_within:Cal P w K mg base 8 "placed_within" ["parts","outer_place"] (spF K (zaC 8))):FnOk P w K mg base CX0 (8+1) f fd ["sheet"] (spF K zaq):=
 zbR F zez c1_len λcdv A outer s H E hr=>by
  refine⟨_,(zak (zas (zax C_placed_within hr (zaa (vv 0) (zaa (zaQ zaf) zaf))))),zbK ?_⟩;intro p_sheet;unfold zbu;exact(zao λ_ _ h=>h)
def zcZ (p_sheet:D):Option D:=
 (Option.bind (Option.bind (Option.bind (Option.bind (zaq [p_sheet]) dSeq) (zbW (zco [.un,.un] (gT 2 (gCons' (gN 0) (gCons' (gN 1) gNil'))) tTrue (eVar 1)))) λds=>some (.lst ds)) λ(r1:D)=>(some r1))
def zbN:List D->Option D:=c1 zcZ
def zg3:FnScope ["sheet"] ["sheet"] (zab zcW):=fsc
def zg4 (F:Fun K "parts_of" "parts_of" zcW f fd)(B:Blt mg)(C_placed_parts:Cal P w K mg base 9 "placed_parts" ["sheet"] (spF K zaq)):FnOk P w K mg base CX0 (9+1) f fd ["sheet"] (spF K zbN):=
 zbR F zg3 c1_len λcdv A outer s H E hr=>by
  refine⟨_,(zak (zas (VN.ve (vnC ["sheet"] zcW (NC:=["place","part"]) [none,none] (zbQ (zax C_placed_parts hr (zaa (vv 0) zaf))) ((zc9 (n:=2) rfl (zap (vgc 0) (zap (vgc 1) zcc)))) (zdB) ((vv 1)))))),zbK ?_⟩;intro p_sheet;unfold zcZ;exact(zao λ_ _ h=>h)
def zc0 (p_sheet:D):Option D:=
 (Option.bind (Option.bind (Option.bind (Option.bind (zbN [p_sheet]) dSeq) (zbW (λd1=>(Option.bind (dIx d1 (.int 0)) λz=>some (some z))))) λds=>some (.lst ds)) λ(r2:D)=>(some r2))
def zbf:List D->Option D:=c1 zc0
def zg5:FnScope ["sheet"] ["sheet"] (zab zcV):=fsc
def zg6 (F:Fun K "names_of" "names_of" zcV f fd)(B:Blt mg)(C_parts_of:Cal P w K mg base 10 "parts_of" ["sheet"] (spF K zbN))(G_NAME:GlobD K mg "NAME" (.int 0)):FnOk P w K mg base CX0 (10+1) f fd ["sheet"] (spF K zbf):=
 zbR F zg5 c1_len λcdv A outer s H E hr=>by
  refine⟨_,(zak (zas (VN.ve (vnC ["sheet"] zcV (NC:=["part"]) [none] (zbQ (zax C_parts_of hr (zaa (vv 0) zaf))) ((vgc 0)) (zdB) ((zaZ (vr 0) (VE.w (zaI G_NAME)))))))),zbK ?_⟩;intro p_sheet;unfold zc0;exact(zao λ_ _ h=>h)
def zdv (p_thing:D):Option D:=
 (Option.bind (Option.bind (Option.bind (Option.bind ((isD "str") p_thing) dTru) λk6=>some (!k6)) λk5=>if k5 then some true else(Option.bind (Option.bind (Option.bind (bLen [p_thing]) λv4=>(Option.bind (dLe (.int 1) v4) λzk3=>Option.bind (dB zk3) λk3=>if k3 then(dLe v4 (.int 8)) else some (.bl false))) dB) λk2=>some (!k2))) λk1=>if k1 then(Option.bind (some (.bl false)) λ(r7:D)=>(some r7)) else(Option.bind (Option.bind (zqF p_thing) λds=>Option.bind (zfr (λd8=>Option.bind ((dInS false) d8 (.str "abcdefghijklmnopqrstuvwxyz")) dB) ds) λbs=>some (D.bl (bs.all id))) λ(r9:D)=>(some r9)))
def zbm:List D->Option D:=c1 zdv
def ziz:FnScope ["thing"] ["thing"] (zab zbD):=fsc
def ziA (F:Fun K "is_name" "is_name" zbD f fd)(B:Blt mg){Pc:Hp->Prop}(pe:Pers Pc){tP:Addr}(T:TabF K mg base fd tP)(hT:∀H,Pc H->TabH tP "is_name.<locals>.<genexpr>" H)(K_str:Kit K "str")(G_LONGEST_NAME:GlobD K mg "LONGEST_NAME" (.int 8))(G_LETTERS:GlobD K mg "LETTERS" (.str "abcdefghijklmnopqrstuvwxyz")):FnOk P w K mg base CX0 (1+1) f fd ["thing"] (pcS Pc (spF K zbm)):=
 zce pe F ziz c1_len λcdv A outer s H E hcv hr hPc hp=>by
  have TX:TabX (cxOf CX0 P w K mg base ["thing"] "is_name" (zab zbD) f cdv A outer s H E).nox "is_name.<locals>.<genexpr>":=zgZ T hcv (hT _ hPc)
  refine⟨_,(zad (zbJ (VP.t (zil (zbB (za9 (VE.w (zde K_str B boot_str (vr 0))))) (zfT (zbB (zlt zpn zpO zpn zpO (VE.w zae) (VE.w (ve_b zaW zb1 B boot_len (zav (vr 0) zaO))) (VE.w (zaI G_LONGEST_NAME))))))) (zak (zas zaN)) zal) (zak (zas (zqN ["thing"] zbD (NC:=["sign"]) [none] hr B TX (zqG (vv 0)) (vgg 0) (hq:=by show((("is_name":Str)++".<locals>.":Str))++"<genexpr>"=_;decide +kernel) (zb0 zqH (zqI false) (vr 0) (VE.w (zaI G_LETTERS)) rfl))))),zbK ?_⟩;intro p_thing;unfold zdv;exact(zaA (zao λ_ _ h=>h) (za8 (zao λ_ _ h=>h)))
def zeV (p_thing:D):Option D:=
 (Option.bind (Option.bind (Option.bind ((isD "int") p_thing) dB) λk2=>if k2 then(Option.bind (Option.bind ((isD "bool") p_thing) dB) λk1=>some (.bl (!k1))) else some (.bl false)) λ(r3:D)=>(some r3))
def zck:List D->Option D:=c1 zeV
def zg7:FnScope ["thing"] ["thing"] (zab zdG):=fsc
def zg8 (F:Fun K "is_whole" "is_whole" zdG f fd)(B:Blt mg)(K_bool:Kit K "bool")(K_int:Kit K "int"):FnOk P w K mg base CX0 (0+1) f fd ["thing"] (spF K zck):=
 zbR F zg7 c1_len λcdv A outer s H E hr=>by
  refine⟨_,(zak (zas (zdO (zde K_int B boot_int (vr 0)) (zdN (zpK (zde K_bool B boot_bool (vr 0))))))),zbK ?_⟩;intro p_thing;unfold zeV;exact(zao λ_ _ h=>h)
def zd8 (p_thing:D):Option D:=
 (Option.bind (Option.bind (Option.bind (Option.bind ((isD "tuple") p_thing) dTru) λk4=>some (!k4)) λk3=>if k3 then some true else(Option.bind (Option.bind (bLen [p_thing]) λv2=>((dEqG true) v2 (.int 4))) dB)) λk1=>if k1 then(Option.bind (some (.bl false)) λ(r5:D)=>(some r5)) else(Option.bind (Option.bind (Option.bind (Option.bind (dSeq p_thing) λds=>Option.bind (zfr (λd8=>Option.bind (zck [d8]) dB) ds) λbs=>some (D.bl (bs.all id))) dTru) λk7=>some (!k7)) λk6=>if k6 then(Option.bind (some (.bl false)) λ(r9:D)=>(some r9)) else(Option.bind (Option.bind (Option.bind (Option.bind (dIx p_thing (.int 2)) λv12=>(dGe v12 (.int 1))) dB) λk11=>if k11 then(Option.bind (dIx p_thing (.int 3)) λv10=>(dGe v10 (.int 1))) else some (.bl false)) λ(r13:D)=>(some r13))))
def zc1:List D->Option D:=c1 zd8
def zkC:FnScope ["thing"] ["thing"] (zab zb3):=fsc
def zkD (F:Fun K "is_box" "is_box" zb3 f fd)(B:Blt mg){Pc:Hp->Prop}(pe:Pers Pc){tP:Addr}(T:TabF K mg base fd tP)(hT:∀H,Pc H->TabH tP "is_box.<locals>.<genexpr>" H)(C_is_whole:Cal P w K mg base 1 "is_whole" ["thing"] (spF K zck))(K_tuple:Kit K "tuple"):FnOk P w K mg base CX0 (2+1) f fd ["thing"] (pcS Pc (spF K zc1)):=
 zce pe F zkC c1_len λcdv A outer s H E hcv hr hPc hp=>by
  have TX:TabX (cxOf CX0 P w K mg base ["thing"] "is_box" (zab zb3) f cdv A outer s H E).nox "is_box.<locals>.<genexpr>":=zgZ T hcv (hT _ hPc)
  refine⟨_,(zad (zbJ (VP.t (zil (zbB (za9 (VE.w (zde K_tuple B boot_tuple (vr 0))))) (zfT (zaP (zoi hr) (zbS true) (VE.w (ve_b zaW zb1 B boot_len (zav (vr 0) zaO))) (VE.w zae) (zaz _))))) (zak (zas zaN)) zal) (zad (zbJ (zbB (za9 (VE.w (zqN ["thing"] zb3 (NC:=["number"]) [none] hr B TX (zbQ (vv 0)) (vgg 0) (hq:=by show((("is_box":Str)++".<locals>.":Str))++"<genexpr>"=_;decide +kernel) (zax C_is_whole (zhX hr) (zaa (vv 0) zaf)))))) (zak (zas zaN)) zal) (zak (zas (zdO (zb0 zk7 zlw (VE.w (zaZ (vr 0) (VE.w zae))) (VE.w zae) (zaz _)) (zdN (zb0 zk7 zlw (VE.w (zaZ (vr 0) (VE.w zae))) (VE.w zae) (zaz _)))))))),zbK ?_⟩;intro p_thing;unfold zd8;exact(zaA (zao λ_ _ h=>h) (za8 (zaA (zao λ_ _ h=>h) (za8 (zao λ_ _ h=>h)))))
def zgi (p_thing:D):Option D:=
 (Option.bind (Option.bind (Option.bind ((isD "str") p_thing) dB) λk1=>if k1 then((dInG false) p_thing (.tup [(.str "free"),(.str "shut"),(.str "hidden")])) else some (.bl false)) λ(r2:D)=>(some r2))
def zbV:List D->Option D:=c1 zgi
def ziB:FnScope ["thing"] ["thing"] (zab zev):=fsc
def ziC (F:Fun K "is_word" "is_word" zev f fd)(B:Blt mg)(K_str:Kit K "str")(G_WORDS:GlobD K mg "WORDS" (.tup [(.str "free"),(.str "shut"),(.str "hidden")])):FnOk P w K mg base CX0 (0+1) f fd ["thing"] (spF K zbV):=
 zbR F ziB c1_len λcdv A outer s H E hr=>by
  refine⟨_,(zak (zas (zdO (zde K_str B boot_str (vr 0)) (zdN (zb0 (zio hr) (zeo false) (vr 0) (VE.w (zaI G_WORDS)) rfl))))),zbK ?_⟩;intro p_thing;unfold zgi;exact(zao λ_ _ h=>h)
def zgj (p_thing:D):Option D:=
 (Option.bind (Option.bind (Option.bind (zck [p_thing]) dB) λk1=>if k1 then(dGe p_thing (.int 0)) else some (.bl false)) λ(r2:D)=>(some r2))
def zcP:List D->Option D:=c1 zgj
def ziD:FnScope ["thing"] ["thing"] (zab zew):=fsc
def ziE (F:Fun K "is_rank" "is_rank" zew f fd)(B:Blt mg)(C_is_whole:Cal P w K mg base 1 "is_whole" ["thing"] (spF K zck)):FnOk P w K mg base CX0 (1+1) f fd ["thing"] (spF K zcP):=
 zbR F ziD c1_len λcdv A outer s H E hr=>by
  refine⟨_,(zak (zas (zdO (zax C_is_whole hr (zaa (vv 0) zaf)) (zdN (zb0 zk7 zlw (vr 0) (VE.w zae) (zaz _)))))),zbK ?_⟩;intro p_thing;unfold zgj;exact(zao λ_ _ h=>h)
def zgk (p_thing:D):Option D:=
 (Option.bind (Option.bind (Option.bind ((dIs false) p_thing D.non) dB) λk1=>if k1 then some (.bl true) else(zbm [p_thing])) λ(r2:D)=>(some r2))
def zcQ:List D->Option D:=c1 zgk
def ziF:FnScope ["thing"] ["thing"] (zab zex):=fsc
def ziG (F:Fun K "is_head" "is_head" zex f fd)(B:Blt mg){Pc:Hp->Prop}(pe:Pers Pc)(C_is_name:Cal P w K mg base 2 "is_name" ["thing"] (pcS Pc (spF K zbm))):FnOk P w K mg base CX0 (2+1) f fd ["thing"] (pcS Pc (spF K zcQ)):=
 zce pe F ziF c1_len λcdv A outer s H E hcv hr hPc hp=>by
  refine⟨_,(zak (zas (zrs (zb0 zi7 znR (vr 0) (VE.w zcE) (zaz _)) (zdN (zaE C_is_name hp hr (zaa (vv 0) zaf)))))),zbK ?_⟩;intro p_thing;unfold zgk;exact(zao λ_ _ h=>h)
def zcl (self:List D->Option D)(p_thing p_deep:D):Option D:=
 (Option.bind (Option.bind (Option.bind (Option.bind ((isD "tuple") p_thing) dTru) λk4=>some (!k4)) λk3=>if k3 then some true else(Option.bind (Option.bind (bLen [p_thing]) λv2=>((dEqG true) v2 (.int 6))) dB)) λk1=>if k1 then(Option.bind (some (.bl false)) λ(r5:D)=>(some r5)) else(Option.bind (un6 p_thing) λ(y6:D×D×D×D×D×D)=>(Option.bind (Option.bind (Option.bind (Option.bind (zbm [y6.1]) dTru) λk12=>some (!k12)) λk11=>if k11 then some true else(Option.bind (Option.bind (Option.bind (zc1 [y6.2.1]) dTru) λk10=>some (!k10)) λk9=>if k9 then some true else(Option.bind (Option.bind (zbV [y6.2.2.1]) dTru) λk8=>some (!k8)))) λk7=>if k7 then(Option.bind (some (.bl false)) λ(r13:D)=>(some r13)) else(Option.bind (Option.bind (Option.bind (zcP [y6.2.2.2.1]) dB) λk15=>if k15 then(Option.bind (Option.bind (zcQ [y6.2.2.2.2.1]) dB) λk14=>if k14 then(Option.bind (aC (some y6.2.2.2.2.2) (aC (dAdd p_deep (.int 1)) aN)) self) else some (.bl false)) else some (.bl false)) λ(r16:D)=>(some r16)))))
def zau (self:List D->Option D):List D->Option D:=c2 (zcl self)
def sc_is_part:FnScope ["thing","deep","name","box","word","rank","head","parts"] ["thing","deep"] (zab zeu):=fsc
def ziH (F:Fun K "is_part" "is_part" zeu f fd)(B:Blt mg){Pc:Hp->Prop}(pe:Pers Pc)(C_is_word:Cal P w K mg base 1 "is_word" ["thing"] (spF K zbV))(C_is_box:Cal P w K mg base 3 "is_box" ["thing"] (pcS Pc (spF K zc1)))(C_is_name:Cal P w K mg base 2 "is_name" ["thing"] (pcS Pc (spF K zbm))){n:Nat}{self:List D->Option D}(C_are_parts:Cal P w K mg base n "are_parts" ["thing","deep"] (pcS Pc (spF K self)))(C_is_head:Cal P w K mg base 3 "is_head" ["thing"] (pcS Pc (spF K zcQ)))(C_is_rank:Cal P w K mg base 2 "is_rank" ["thing"] (spF K zcP))(K_tuple:Kit K "tuple"):FnOk P w K mg base CX0 (n+4+1) f fd ["thing","deep"] (pcS Pc (spF K (zau self))):=
 zce pe F sc_is_part zdo λcdv A outer s H E hcv hr hPc hp=>by
  have nd:=sc_is_part.nd
  refine⟨_,(zad (zbJ (VP.t (zil (zbB (za9 (VE.w (zde K_tuple B boot_tuple (vr 0))))) (zfT (zaP (zoi hr) (zbS true) (VE.w (ve_b zaW zb1 B boot_len (zav (vr 0) zaO))) (VE.w zae) (zaz _))))) (zak (zas zaN)) zal) (zad (zpW (vv 0) (zc9 rfl (zap (vgN 2 nd) (zap (vgN 3 nd) (zap (vgN 4 nd) (zap (vgN 5 nd) (zap (vgN 6 nd) (zap (vgN 7 nd) zcc)))))))) (zad (zbJ (VP.t (zil (zbB (za9 (VE.w (zaE (hk:=by omega) C_is_name hp hr (zaa (vv 2) zaf))))) (zil (zbB (za9 (VE.w (zaE (hk:=by omega) C_is_box hp hr (zaa (vv 3) zaf))))) (zfT (zbB (za9 (VE.w (zax (hk:=by omega) C_is_word hr (zaa (vv 4) zaf))))))))) (zak (zas zaN)) zal) (zak (zas (zdO (zax (hk:=by omega) C_is_rank hr (zaa (vv 5) zaf)) (zdO (zaE (hk:=by omega) C_is_head hp hr (zaa (vv 6) zaf)) (zdN (zaE (hk:=by omega) C_are_parts hp hr (zaa (vv 7) (zaa (zaJ zbP zaY (vr 1) (VE.w zae)) zaf))))))))))),zgV ?_⟩;intro p_thing p_deep;unfold zcl;exact(zaA (zao λ_ _ h=>h) (za8 (zaj (zp4 λ_=>tg_6 rfl (λ_=>rfl) (λ_ _=>rfl) (λ_ _ _=>rfl) (λ_ _ _ _=>rfl) (λ_ _ _ _ _=>rfl)) λy6=>(zaA (zao λ_ _ h=>h) (za8 (zao λ_ _ h=>h))))))
def zcs (self:List D->Option D)(p_thing p_deep:D):Option D:=
 (Option.bind (Option.bind (Option.bind ((isD "tuple") p_thing) dTru) λk2=>some (!k2)) λk1=>if k1 then(Option.bind (some (.bl false)) λ(r3:D)=>(some r3)) else(Option.bind (Option.bind (dTru p_thing) λk5=>if k5 then(Option.bind (dGt p_deep (.int 5)) dB) else some false) λk4=>if k4 then(Option.bind (some (.bl false)) λ(r6:D)=>(some r6)) else(Option.bind (Option.bind (dSeq p_thing) λds=>Option.bind (zfr (λd7=>Option.bind ((zau self) [d7,p_deep]) dB) ds) λbs=>some (D.bl (bs.all id))) λ(r8:D)=>(some r8))))
def zdi (self:List D->Option D):List D->Option D:=c2 (zcs self)
def zag:Nat->List D->Option D
|0=>λ_=>none
|n+1=>zdi (zag n)
def zgl:FnScope ["thing","deep"] ["thing","deep"] (zab za2):=fsc
def zgm (F:Fun K "are_parts" "are_parts" za2 f fd)(B:Blt mg){Pc:Hp->Prop}(pe:Pers Pc){tP:Addr}(T:TabF K mg base fd tP)(hT:∀H,Pc H->TabH tP "are_parts.<locals>.<genexpr>" H){n:Nat}{self:List D->Option D}(C_is_part:Cal P w K mg base (n+5) "is_part" ["thing","deep"] (pcS Pc (spF K (zau self))))(K_tuple:Kit K "tuple")(G_DEEPEST:GlobD K mg "DEEPEST" (.int 5)):FnOk P w K mg base CX0 (n+6+1) f fd ["thing","deep"] (pcS Pc (spF K (zdi self))):=
 zce pe F zgl zdo λcdv A outer s H E hcv hr hPc hp=>by
  have TX:TabX (cxOf CX0 P w K mg base ["thing","deep"] "are_parts" (zab za2) f cdv A outer s H E).nox "are_parts.<locals>.<genexpr>":=zgZ T hcv (hT _ hPc)
  refine⟨_,(zad (zbJ (zbB (za9 (VE.w (zde K_tuple B boot_tuple (vr 0))))) (zak (zas zaN)) zal) (zad (zbJ (VP.t (zpJ (za9 (vr 0)) (znQ (zaP zfE zfU (vr 1) (VE.w (zaI G_DEEPEST)) (zaz _))))) (zak (zas zaN)) zal) (zak (zas (zqO ["thing","deep"] za2 (NC:=["part","deep"]) [none,some 1] hp hr B TX (zbQ (vv 0)) (vgg 0) (hq:=by show((("are_parts":Str)++".<locals>.":Str))++"<genexpr>"=_;decide +kernel) (λrH=>(zaE (hk:=by omega) C_is_part (Prs.of pe rH) (zhX hr) (zaa (vv 0) (zaa (vv 1) zaf))))))))),zgV ?_⟩;intro p_thing p_deep;unfold zcs;exact(zaA (zao λ_ _ h=>h) (za8 (zaA (zao λ_ _ h=>h) (za8 (zao λ_ _ h=>h)))))
def zc2 (p_sheet:D):Option D:=
 (Option.bind (some ([]:List D)) λ(x1:List D)=>(Option.bind (Option.bind (Option.bind (zbN [p_sheet]) dSeq) (zbd (λ(s2:List D) (d3:D)=>(Option.bind (Option.bind (Option.bind (Option.bind (Option.bind (dIx d3 (.int 5)) dSeq) (zbW (λd4=>(Option.bind (Option.bind (aC (dIx d3 (.int 0)) (aC (dIx d4 (.int 0)) aN)) mkT) λz=>some (some z))))) λds=>some (.lst ds)) (extL s2)) λ(x5:List D)=>(Option.bind (Option.bind (Option.bind (Option.bind (dIx d3 (.int 4)) λv7=>((dIs true) v7 D.non)) dB) λk6=>if k6 then(Option.bind (Option.bind (Option.bind (aC (dIx d3 (.int 4)) (aC (dIx d3 (.int 0)) aN)) mkT) (appL x5)) λ(x8:List D)=>(some x8)) else(some x5)) λ(s9:List D)=>(some s9)))) x1)) λ(s2:List D)=>(Option.bind (some (.lst s2)) λ(r10:D)=>(some r10))))
def zc3:List D->Option D:=c1 zc2
def sc_musts_of:FnScope ["sheet","musts","part"] ["sheet"] (zab zcX):=fsc
def zg9 (F:Fun K "musts_of" "musts_of" zcX f fd)(B:Blt mg)(C_parts_of:Cal P w K mg base 10 "parts_of" ["sheet"] (spF K zbN))(G_PARTS:GlobD K mg "PARTS" (.int 5))(G_NAME:GlobD K mg "NAME" (.int 0))(G_HEAD:GlobD K mg "HEAD" (.int 4)):FnOk P w K mg base CX0 (10+1) f fd ["sheet"] (spF K zc3):=
 zbR F sc_musts_of c1_len λcdv A outer s H E hr=>by
  have nd:=sc_musts_of.nd
  refine⟨_,(zad (vsO 1 nd (zbI zaf)) (zad (zdm (zbQ (zax C_parts_of hr (zaa (vv 0) zaf))) (vgN 2 nd) (zad (zmP 1 (VN.ve (vnC ["sheet","musts","part"] zcX (NC:=["inner","part"]) [none,some 2] (zbQ (zaZ (vr 2) (VE.w (zaI G_PARTS)))) ((vgc 0)) (zdB) ((zaQ (zaa (zaZ (vrC 1 rfl rfl rfl rfl) (VE.w (zaI G_NAME))) (zaa (zaZ (vr 0) (VE.w (zaI G_NAME))) zaf))))))) (zad (zbJ (zaP zgE zgM (VE.w (zaZ (vr 2) (VE.w (zaI G_HEAD)))) (VE.w zcE) (zaz _)) (zad (zjH 1 (zaQ (zaa (zaZ (vr 2) (VE.w (zaI G_HEAD))) (zaa (zaZ (vr 2) (VE.w (zaI G_NAME))) zaf)))) zal) zal) (zbi [2] zal)))) (zgP 1 (zak (zas (vv 1)))))),zbK ?_⟩;intro p_sheet;unfold zc2;exact(zaj (zhC rfl) λx1=>(zaj (zff (emb:=(λ(s2:List D)=>[.val p_sheet,.own 1 (.lst s2),.un])) rfl (λ_=>rfl) λs2 d3=>(zaj (zmZ rfl) λx5=>(zaj (zrz (emb:=(λ(s9:List D)=>[.val p_sheet,.own 1 (.lst s9),.val d3])) (zaj (zjQ rfl) λx8=>(za0 λ_ h=>h)) (za0 λ_ h=>h)) λs9=>(zbj [2] (za0 λ_ h=>h))))) λs2=>(zjO 1 (zao λ_ _ h=>h))))
def zbv (p_names:D):Option D:=
 (Option.bind (Option.bind (zgb [p_names]) (zbd (λ(s1:Unit) (d6:D)=>Option.bind (un2 d6) λ(y2:D×D)=>(Option.bind (Option.bind (Option.bind (Option.bind (Option.bind (dInt y2.1) λi=>some (some i)) λv4=>(dSl p_names none v4)) λv5=>((dInG false) y2.2 v5)) dB) λk3=>if k3 then none else(some ()))) ())) λ(s1:Unit)=>(some D.non))
def zaS:List D->Option D:=c1 zbv
def sc_refuse_twice:FnScope ["names","number","name"] ["names"] (zab zbt):=fsc
def zeB (F:Fun K "refuse_twice" "refuse_twice" zbt f fd)(B:Blt mg):FnOk P w K mg base CX0 (1+1) f fd ["names"] (spF K zaS):=
 zbR F sc_refuse_twice c1_len λcdv A outer s H E hr=>by
  have nd:=sc_refuse_twice.nd
  refine⟨_,(zad (zdm (zhW B (zaa (vv 0) zaf)) (zc9 rfl (zap (vgN 1 nd) (zap (vgN 2 nd) zcc))) (zad (zbJ (zaP (zio hr) (zeo false) (vr 2) (VE.w (zbh (vr 0) zbp (zbq (vv 1)))) rfl) (zak zd3) zal) (zbi [1,2] zal))) zal),zbK ?_⟩;intro p_names;unfold zbv;exact(zaj (zgU (emb:=(λ(s1:Unit)=>[.val p_names,.un,.un])) rfl (λ_=>rfl) (λ_ _=>rfl) λs1 y2=>(zaA (zdC rfl) (za8 (zbj [1,2] (za0 λ_ h=>h))))) λs1=>(za0 λ_ h=>h))
def zb5 (p_one p_other:D):Option D:=
 (Option.bind (Option.bind (aC (bLen [p_one]) (aC (bLen [p_other]) aN)) bMin) λ(x1:D)=>(Option.bind (Option.bind (Option.bind (Option.bind (dInt x1) λi=>some (some i)) λv2=>(dSlW p_one none v2)) λv4=>(Option.bind (Option.bind (Option.bind (dInt x1) λi=>some (some i)) λv3=>(dSlW p_other none v3)) λv5=>((dEqG false) v4 v5))) λ(r6:D)=>(some r6)))
def za3:List D->Option D:=c2 zb5
def sc_are_nested:FnScope ["one","other","short"] ["one","other"] (zab zcN):=fsc
def zft (F:Fun K "are_nested" "are_nested" zcN f fd)(B:Blt mg):FnOk P w K mg base CX0 (0+1) f fd ["one","other"] (spF K za3):=
 zbR F sc_are_nested zdo λcdv A outer s H E hr=>by
  have nd:=sc_are_nested.nd
  refine⟨_,(zad (vsS 2 nd (ve_b (zfF rfl) zmN B boot_min (zav (VE.w (ve_b zaW zb1 B boot_len (zav (vr 0) zaO))) (zav (VE.w (ve_b zaW zb1 B boot_len (zav (vr 1) zaO))) zaO)))) (zak (zas (zb0 (zdX hr) (zbS false) (VE.w (zga (vr 0) zbp (zbq (vv 2)))) (VE.w (zga (vr 1) zbp (zbq (vv 2)))) (zaz _))))),zgV ?_⟩;intro p_one p_other;unfold zb5;exact(zaj (zat rfl) λx1=>(zao λ_ _ h=>h))
def zbw (p_sheet:D):Option D:=
 (Option.bind (zaq [p_sheet]) λ(x1:D)=>(Option.bind (Option.bind (dSeq x1) λds=>Option.bind (zds (zfp [.un,.un] (gT 2 (gCons' (gN 0) (gCons' (gN 1) gNil'))) (e2 dIx (eRd 1) (eK (.int 0))) (eVar 0)) ds ([],[])) λr=>some (D.dct r.1 r.2)) λ(x2:D)=>(Option.bind (Option.bind (dSeq x1) (zbd (λ(s3:Unit) (d7:D)=>Option.bind (un2 d7) λ(y4:D×D)=>(Option.bind (dIx y4.2 (.int 4)) λ(x5:D)=>(Option.bind (Option.bind ((dIs false) x5 D.non) dB) λk6=>if k6 then(some ()) else none))) ())) λ(s3:Unit)=>(some D.non))))
def zbx:List D->Option D:=c1 zbw
def sc_refuse_heads:FnScope ["sheet","pairs","places","place","part","head"] ["sheet"] (zab zaR):=fsc
def zeC (F:Fun K "refuse_heads" "refuse_heads" zaR f fd)(B:Blt mg)(C_placed_parts:Cal P w K mg base 9 "placed_parts" ["sheet"] (spF K zaq))(G_NAME:GlobD K mg "NAME" (.int 0))(G_HEAD:GlobD K mg "HEAD" (.int 4)):FnOk P w K mg base CX0 (9+1) f fd ["sheet"] (spF K zbx):=
 zbR F sc_refuse_heads c1_len λcdv A outer s H E hr=>by
  have nd:=sc_refuse_heads.nd
  refine⟨_,(zad (vsS 1 nd (zax C_placed_parts hr (zaa (vv 0) zaf))) (zad (zhU 2 nd ["sheet","pairs","places","place","part","head"] zaR (NC:=["place","part"]) [none,none] (zbQ (vv 1)) (zc9 (n:=2) rfl (zap (vgc 0) (zap (vgc 1) zcc))) (zaZ (vr 1) (VE.w (zaI G_NAME))) (vv 0)) (zad (zdm (zbQ (vv 1)) (zc9 rfl (zap (vgN 3 nd) (zap (vgN 4 nd) zcc))) (zad (vsS 5 nd (zaZ (vr 4) (VE.w (zaI G_HEAD)))) (zad (zbJ (zaP zi7 znR (vr 5) (VE.w zcE) (zaz _)) (zbi [3,4,5] (zak zek)) zal) zgc))) zal))),zbK ?_⟩;intro p_sheet;unfold zbw;exact(zaj (zat rfl) λx1=>(zaj (zat rfl) λx2=>(zaj (zgU (emb:=(λ(s3:Unit)=>[.val p_sheet,.val x1,.val x2,.un,.un,.un])) rfl (λ_=>rfl) (λ_ _=>rfl) λs3 y4=>(zaj (zat rfl) λx5=>(zaA (zbj [3,4,5] (zp3 λ_ h=>h)) (za8 (zdC rfl))))) λs3=>(za0 λ_ h=>h))))
def zb6 (p_names p_musts:D):Option D:=
 (Option.bind (some p_names) λ(x1:D)=>(Option.bind (zeR (λ(s2:D)=>(dTru (.bl true))) (λ(s2:D)=>(Option.bind (Option.bind (Option.bind (dSeq p_musts) (zbW (zco [.un,.un,.val s2] (gT 2 (gCons' (gN 0) (gCons' (gN 1) gNil'))) (t1 (e2 (dInG false) (eRd 0) (eRd 2))) (eVar 1)))) λds=>some (.lst ds)) λ(x3:D)=>(Option.bind (Option.bind (Option.bind (dSeq s2) (zbW (λd4=>(Option.bind (Option.bind ((dInG false) d4 x3) dB) λk5=>if k5 then(some (some d4)) else some none)))) λds=>some (.lst ds)) λ(x6:D)=>(Option.bind (Option.bind (Option.bind (bLen [x6]) λv8=>(Option.bind (bLen [s2]) λv9=>((dEqG false) v8 v9))) dB) λk7=>if k7 then(Option.bind (some x6) λ(r10:D)=>(some (Fl.ret r10:Fl (D) (D)))) else(Option.bind (some x6) λ(x11:D)=>(some (Fl.nx x11:Fl (D) (D)))))))) 50 x1) (flK λ(s2:D)=>(some D.non))))
def zb7:List D->Option D:=c2 zb6
def sc_tied_names:FnScope ["names","musts","left","held","tied"] ["names","musts"] (zab zbE):=fsc
def zfu (F:Fun K "tied_names" "tied_names" zbE f fd)(B:Blt mg):FnOk P w K mg base CX0 (0+1) f fd ["names","musts"] (spF K zb7):=
 zbR F sc_tied_names zdo λcdv A outer s H E hr=>by
  have nd:=sc_tied_names.nd
  refine⟨_,(zad (vsS 2 nd (vv 0)) (zad (zlC (λ_=>50) (za9 (VE.w zaN)) (zad (vsS 3 nd (VN.ve (vnC ["names","musts","left","held","tied"] zbE (NC:=["one","other","left"]) [none,none,some 2] (zbQ (vv 1)) ((zc9 (n:=2) rfl (zap (vgc 0) (zap (vgc 1) zcc)))) ((zjD (zaP (zio hr) (zeo false) (vr 0) (vrC 2 rfl rfl rfl rfl) rfl))) ((vv 1))))) (zad (And.left (znY ["names","musts","left","held","tied"] zbE (i:=4) (NC:=["name","held"]) [none,some 3] nd rfl (Or.inl rfl) rfl (zbQ (vv 2)) (λx h=>zbX h) rfl rfl rfl (by decide +kernel) (by decide +kernel) rfl (by decide +kernel) (by decide +kernel) rfl (by decide) (λcl C s0 H0 ex pn=>(vgc 0)) (λcl C s0 H0 ex pn=>(zjD (zaP (zio hr) (zeo false) (vr 0) (vrC 1 rfl rfl rfl rfl) rfl))) (λcl C s0 H0 ex pn=>(vv 0)))) (zad (zbJ (zaP (zdX hr) (zbS false) (VE.w (ve_b zaW zb1 B boot_len (zav (vr 4) zaO))) (VE.w (ve_b zaW zb1 B boot_len (zav (vr 2) zaO))) (zaz _)) (zak (zas (vv 4))) zal) (zad (vsS 2 nd (vv 4)) (zbi [3,4] zal)))))) zal)),zgV ?_⟩;intro p_names p_musts;unfold zb6;exact(zaj (zat rfl) λx1=>(zjT (emb:=(λ(s2:D)=>[.val p_names,.val p_musts,.val s2,.un,.un])) rfl (λ_=>rfl) (λs2=>(zaj (zat rfl) λx3=>(zaj (zat rfl) λx6=>(zaA (zao λ_ _ h=>h) (za8 (zaj (zat rfl) λx11=>(zbj [3,4] (za0 λ_ h=>h)))))))) λs2=>(za0 λ_ h=>h)))
def zdw (p_names p_musts:D):Option D:=
 (Option.bind (zb7 [p_names,p_musts]) λ(x1:D)=>(Option.bind (Option.bind (dTru x1) λk3=>some (!k3)) λk2=>if k2 then(Option.bind (some (.lst [])) λ(r4:D)=>(some r4)) else none))
def zcR:List D->Option D:=c2 zdw
def sc_ring_of:FnScope ["names","musts","tied","row","ahead","ring"] ["names","musts"] (zab zey):=fsc
def ziI (F:Fun K "ring_of" "ring_of" zey f fd)(B:Blt mg)(C_tied_names:Cal P w K mg base 1 "tied_names" ["names","musts"] (spF K zb7)):FnOk P w K mg base CX0 (2+1) f fd ["names","musts"] (spF K zcR):=
 zbR F sc_ring_of zdo λcdv A outer s H E hr=>by
  have nd:=sc_ring_of.nd
  refine⟨_,(zad (vsS 2 nd (zax C_tied_names hr (zaa (vv 0) (zaa (vv 1) zaf)))) (zad (zbJ (zbB (za9 (vr 2))) (zak (zas (VN.ve (zbI zaf)))) zal) zgc)),zgV ?_⟩;intro p_names p_musts;unfold zdw;exact(zaj (zat rfl) λx1=>(zaA (zao λ_ _ h=>h) (za8 (zdC rfl))))
def zdx (p_thing:D):Option D:=
 (Option.bind (Option.bind (Option.bind ((zag 7) [p_thing,(.int 1)]) dTru) λk2=>some (!k2)) λk1=>if k1 then none else(Option.bind (zbf [p_thing]) λ(x3:D)=>(Option.bind (Option.bind (Option.bind (bLen [x3]) λv5=>(dGt v5 (.int 40))) dB) λk4=>if k4 then none else(Option.bind (zaS [x3]) λ(u6:D)=>(Option.bind (zbx [p_thing]) λ(u7:D)=>(Option.bind (Option.bind (aC (some x3) (aC (zc3 [p_thing]) aN)) zcR) λ(x8:D)=>(Option.bind (dTru x8) λk9=>if k9 then none else(Option.bind (some p_thing) λ(r10:D)=>(some r10)))))))))
def zcm:List D->Option D:=c1 zdx
def sc_checked:FnScope ["thing","names","ring"] ["thing"] (zab zdu):=fsc
def ziJ (F:Fun K "checked" "checked" zdu f fd)(B:Blt mg){Pc:Hp->Prop}(pe:Pers Pc)(C_are_parts:Cal P w K mg base 49 "are_parts" ["thing","deep"] (pcS Pc (spF K (zag 7))))(C_names_of:Cal P w K mg base 11 "names_of" ["sheet"] (spF K zbf))(C_refuse_twice:Cal P w K mg base 2 "refuse_twice" ["names"] (spF K zaS))(C_refuse_heads:Cal P w K mg base 10 "refuse_heads" ["sheet"] (spF K zbx))(C_ring_of:Cal P w K mg base 3 "ring_of" ["names","musts"] (spF K zcR))(C_musts_of:Cal P w K mg base 11 "musts_of" ["sheet"] (spF K zc3))(G_MOST_PARTS:GlobD K mg "MOST_PARTS" (.int 40)):FnOk P w K mg base CX0 (49+1) f fd ["thing"] (pcS Pc (spF K zcm)):=
 zce pe F sc_checked c1_len λcdv A outer s H E hcv hr hPc hp=>by
  have nd:=sc_checked.nd
  refine⟨_,(zad (zbJ (zbB (za9 (VE.w (zaE C_are_parts hp hr (zaa (vv 0) (zaa zae zaf)))))) (zak zd3) zal) (zad (vsS 1 nd (zax C_names_of hr (zaa (vv 0) zaf))) (zad (zbJ (zaP zfE zfU (VE.w (ve_b zaW zb1 B boot_len (zav (vr 1) zaO))) (VE.w (zaI G_MOST_PARTS)) (zaz _)) (zak zd3) zal) (zad (zgQ (zax C_refuse_twice hr (zaa (vv 1) zaf))) (zad (zgQ (zax C_refuse_heads hr (zaa (vv 0) zaf))) (zad (vsS 2 nd (zax C_ring_of hr (zaa (vv 1) (zaa (zax C_musts_of hr (zaa (vv 0) zaf)) zaf)))) (zad (zbJ (za9 (vr 2)) (zak zd3) zal) (zak (zas (vv 0)))))))))),zbK ?_⟩;intro p_thing;unfold zdx;exact(zaA (zdC rfl) (za8 (zaj (zat rfl) λx3=>(zaA (zdC rfl) (za8 (zaj zof λu6=>(zaj zof λu7=>(zaj (zat rfl) λx8=>(zaA (zdC rfl) (za8 (zao λ_ _ h=>h)))))))))))
def zby (p_names:D):Option D:=
 (Option.bind (zgb [p_names]) λds=>Option.bind ((zcJ (λ(s1:Unit) (d6:D)=>Option.bind (un2 d6) λ(y2:D×D)=>(Option.bind (Option.bind (Option.bind (Option.bind (Option.bind (dInt y2.1) λi=>some (some i)) λv4=>(dSl p_names none v4)) λv5=>((dInG false) y2.2 v5)) dB) λk3=>if k3 then(Option.bind (rz "Twice" "name" zd0 y2.2) λ(r7:D)=>(some (Fl.ret r7:Fl (Unit) (D)))) else(some (Fl.nx ():Fl (Unit) (D))))) ()) ds) (flK λ(s1:Unit)=>none))
def zbz:List D->Option D:=VD.c1 zby
def zdH (F:Fun K "refuse_twice" "refuse_twice" zbt f fd)(B:Blt mg)(X_Twice:XCl P w K mg "Twice" "name" zd0):FnOk P w K mg base (CXE P w) (1+1) f fd ["names"] (spX K zbz):=
 znb F sc_refuse_twice VD.c1_len λcdv A outer s H E hr L=>by
  have nd:=sc_refuse_twice.nd
  refine⟨_,(zaG (zm9 (zhW B (zaa (vv 0) zaf)) (zc9 rfl (zap (vgN 1 nd) (zap (vgN 2 nd) zcc))) (zaG (zeL (zaP (zio hr) (zeo false) (vr 2) (VE.w (zbh (vr 0) zbp (zbq (vv 1)))) rfl) (zcf (zfn (k:=0) X_Twice hr L (vv 2))) zbk) (zfm [1,2] zbk))) zbk),zbK ?_⟩;intro p_names;unfold zby;exact(zjS (emb:=(λ(s1:Unit)=>[.val p_names,.un,.un])) rfl (λ_=>rfl) (λ_ _=>rfl) (λs1 y2=>(zaA (zao λ_ _ h=>h) (za8 (zbj [1,2] (za0 λ_ h=>h))))) λs1=>(za0 λ_ h=>by cases h))
def zaT (p_sheet:D):Option D:=
 (Option.bind (zaq [p_sheet]) λ(x1:D)=>(Option.bind (Option.bind (dSeq x1) λds=>Option.bind (zds (zfp [.un,.un] (gT 2 (gCons' (gN 0) (gCons' (gN 1) gNil'))) (e2 dIx (eRd 1) (eK (.int 0))) (eVar 0)) ds ([],[])) λr=>some (D.dct r.1 r.2)) λ(x2:D)=>(Option.bind (dSeq x1) λds12=>Option.bind ((zcJ (λ(s3:Unit) (d9:D)=>Option.bind (un2 d9) λ(y4:D×D)=>(Option.bind (dIx y4.2 (.int 4)) λ(x5:D)=>(Option.bind (Option.bind ((dIs false) x5 D.non) dB) λk6=>if k6 then(some (Fl.nx ():Fl (Unit) (D))) else(Option.bind (Option.bind (Option.bind ((dInG true) x5 x2) dB) λk8=>if k8 then some true else(Option.bind (Option.bind (aC (dGet x2 x5) (aC (some y4.1) aN)) za3) dTru)) λk7=>if k7 then(Option.bind (Option.bind (dIx y4.2 (.int 0)) (rz "NoHead" "name" zd0)) λ(r7:D)=>(some (Fl.ret r7:Fl (Unit) (D)))) else(some (Fl.nx ():Fl (Unit) (D))))))) ()) ds12) (flK λ(s3:Unit)=>none))))
def zbb:List D->Option D:=VD.c1 zaT
def zdI (F:Fun K "refuse_heads" "refuse_heads" zaR f fd)(B:Blt mg)(C_placed_parts:Cal P w K mg base 9 "placed_parts" ["sheet"] (spF K zaq))(C_are_nested:Cal P w K mg base 1 "are_nested" ["one","other"] (spF K za3))(G_NAME:GlobD K mg "NAME" (.int 0))(G_HEAD:GlobD K mg "HEAD" (.int 4))(X_NoHead:XCl P w K mg "NoHead" "name" zd0):FnOk P w K mg base (CXE P w) (9+1) f fd ["sheet"] (spX K zbb):=
 znb F sc_refuse_heads VD.c1_len λcdv A outer s H E hr L=>by
  have nd:=sc_refuse_heads.nd
  have hu2:=znC hr
  refine⟨_,(zaG (zf7 (vsS 1 nd (zax C_placed_parts hr (zaa (vv 0) zaf)))) (zaG (zf7 (zhU 2 nd ["sheet","pairs","places","place","part","head"] zaR (NC:=["place","part"]) [none,none] (zbQ (vv 1)) (zc9 (n:=2) rfl (zap (vgc 0) (zap (vgc 1) zcc))) (zaZ (vr 1) (VE.w (zaI G_NAME))) (vv 0))) (zaG (zm9 (zbQ (vv 1)) (zc9 rfl (zap (vgN 3 nd) (zap (vgN 4 nd) zcc))) (zaG (zf7 (vsS 5 nd (zaZ (vr 4) (VE.w (zaI G_HEAD))))) (zaG (zeL (zaP zi7 znR (vr 5) (VE.w zcE) (zaz _)) (zfm [3,4,5] (zcf (zf7 zek zrK))) zbk) (zaG (zeL (VP.t (zil (zaP (zlV hr) (zeo true) (vr 5) (vr 2) rfl) (zfT (za9 (VE.w (zax C_are_nested hr (zaa (zn4 hu2 (vr 2) (vr 5)) (zaa (vv 3) zaf)))))))) (zcf (zfn (k:=8) X_NoHead hr L (zaZ (vr 4) (VE.w (zaI G_NAME))))) zbk) (zfm [3,4,5] zbk))))) zbk))),zbK ?_⟩;intro p_sheet;unfold zaT;exact(zaj (zat rfl) λx1=>(zaj (zat rfl) λx2=>(zjS (emb:=(λ(s3:Unit)=>[.val p_sheet,.val x1,.val x2,.un,.un,.un])) rfl (λ_=>rfl) (λ_ _=>rfl) (λs3 y4=>(zaj (zat rfl) λx5=>(zaA (zbj [3,4,5] (zp3 λ_ h=>h)) (za8 (zaA (zao λ_ _ h=>h) (za8 (zbj [3,4,5] (za0 λ_ h=>h)))))))) λs3=>(za0 λ_ h=>by cases h))))
def zan (p_thing:D):Option D:=
 (Option.bind (Option.bind (Option.bind ((zag 7) [p_thing,(.int 1)]) dTru) λk2=>some (!k2)) λk1=>if k1 then(Option.bind (some (D.exc "NoSheet" [] [])) λ(r:D)=>some r) else none)
def zar (p_thing:D):Option D:=
 (Option.bind (Option.bind (Option.bind ((zag 7) [p_thing,(.int 1)]) dTru) λk2=>some (!k2)) λk1=>if k1 then none else(Option.bind (zbf [p_thing]) λ(x3:D)=>(Option.bind (Option.bind (Option.bind (bLen [x3]) λv5=>(dGt v5 (.int 40))) dB) λk4=>if k4 then(Option.bind (Option.bind (bLen [x3]) (rz "TooMany" "many" zf9)) λ(r:D)=>some r) else none)))
def zaD (p_thing:D):Option D:=
 (Option.bind (Option.bind (Option.bind ((zag 7) [p_thing,(.int 1)]) dTru) λk2=>some (!k2)) λk1=>if k1 then none else(Option.bind (zbf [p_thing]) λ(x3:D)=>(Option.bind (Option.bind (Option.bind (bLen [x3]) λv5=>(dGt v5 (.int 40))) dB) λk4=>if k4 then none else(Option.bind (zbz [x3]) λ(r:D)=>some r))))
def zaw (p_thing:D):Option D:=
 (Option.bind (Option.bind (Option.bind ((zag 7) [p_thing,(.int 1)]) dTru) λk2=>some (!k2)) λk1=>if k1 then none else(Option.bind (zbf [p_thing]) λ(x3:D)=>(Option.bind (Option.bind (Option.bind (bLen [x3]) λv5=>(dGt v5 (.int 40))) dB) λk4=>if k4 then none else(Option.bind (zaS [x3]) λ(u6:D)=>(Option.bind (zbb [p_thing]) λ(r:D)=>some r)))))
def za4:List D->Option D:=λds=>((VD.c1 zan) ds).or ((λds=>((VD.c1 zar) ds).or ((λds=>((VD.c1 zaD) ds).or ((VD.c1 zaw) ds)) ds)) ds)
def zgn (F:Fun K "checked" "checked" zdu f fd)(B:Blt mg){Pc:Hp->Prop}(pe:Pers Pc)(C_are_parts:Cal P w K mg base 49 "are_parts" ["thing","deep"] (pcS Pc (spF K (zag 7))))(X_NoSheet:XCl0 K mg "NoSheet")(C_names_of:Cal P w K mg base 11 "names_of" ["sheet"] (spF K zbf))(X_TooMany:XCl P w K mg "TooMany" "many" zf9)(G_MOST_PARTS:GlobD K mg "MOST_PARTS" (.int 40))(X_refuse_twice:CalX P w K mg base 2 "refuse_twice" ["names"] (spX K zbz))(C_refuse_twice:Cal P w K mg base 2 "refuse_twice" ["names"] (spF K zaS))(X_refuse_heads:CalX P w K mg base 10 "refuse_heads" ["sheet"] (spX K zbb)):FnOk P w K mg base (CXE P w) (49+1) f fd ["thing"] (pcS Pc (spX K za4)):=
 (zg2 (zfo pe F sc_checked VD.c1_len λcdv A outer s H E hr L hp=>by
  have nd:=sc_checked.nd
  refine⟨_,(zhQ (zeL (zbB (za9 (VE.w (zaE C_are_parts hp hr (zaa (vv 0) (zaa zae zaf)))))) (zcf (zku (k:=48) X_NoSheet hr L zci)) zbk)),zbK ?_⟩;intro p_thing;unfold zan;exact(zaA (zao λ_ _ h=>h) (za8 (zdC rfl))))
  (zg2 (zfo pe F sc_checked VD.c1_len λcdv A outer s H E hr L hp=>by
   have nd:=sc_checked.nd
   refine⟨_,(zaG (zeL (zbB (za9 (VE.w (zaE C_are_parts hp hr (zaa (vv 0) (zaa zae zaf)))))) (zcf zdr) zbk) (zaG (zf7 (vsS 1 nd (zax C_names_of hr (zaa (vv 0) zaf)))) (zhQ (zeL (zaP zfE zfU (VE.w (ve_b zaW zb1 B boot_len (zav (vr 1) zaO))) (VE.w (zaI G_MOST_PARTS)) (zaz _)) (zcf (zfn (k:=48) X_TooMany hr L (ve_b zaW zb1 B boot_len (zav (vr 1) zaO)))) zbk)))),zbK ?_⟩;intro p_thing;unfold zar;exact(zaA (zdC rfl) (za8 (zaj (zat rfl) λx3=>(zaA (zao λ_ _ h=>h) (za8 (zdC rfl)))))))
  (zg2 (zfo pe F sc_checked VD.c1_len λcdv A outer s H E hr L hp=>by
   have nd:=sc_checked.nd
   refine⟨_,(zaG (zeL (zbB (za9 (VE.w (zaE C_are_parts hp hr (zaa (vv 0) (zaa zae zaf)))))) (zcf zdr) zbk) (zaG (zf7 (vsS 1 nd (zax C_names_of hr (zaa (vv 0) zaf)))) (zaG (zeL (zaP zfE zfU (VE.w (ve_b zaW zb1 B boot_len (zav (vr 1) zaO))) (VE.w (zaI G_MOST_PARTS)) (zaz _)) (zcf zdr) zbk) (zhQ (zna (zkn X_refuse_twice hr (zaa (vv 1) zaf)) L))))),zbK ?_⟩;intro p_thing;unfold zaD;exact(zaA (zdC rfl) (za8 (zaj (zat rfl) λx3=>(zaA (zdC rfl) (za8 (zqA (zao λ_ _ h=>h))))))))
  (zfo pe F sc_checked VD.c1_len λcdv A outer s H E hr L hp=>by
   have nd:=sc_checked.nd
   refine⟨_,(zaG (zeL (zbB (za9 (VE.w (zaE C_are_parts hp hr (zaa (vv 0) (zaa zae zaf)))))) (zcf zdr) zbk) (zaG (zf7 (vsS 1 nd (zax C_names_of hr (zaa (vv 0) zaf)))) (zaG (zeL (zaP zfE zfU (VE.w (ve_b zaW zb1 B boot_len (zav (vr 1) zaO))) (VE.w (zaI G_MOST_PARTS)) (zaz _)) (zcf zdr) zbk) (zaG (zf7 (zgQ (zax C_refuse_twice hr (zaa (vv 1) zaf)))) (zhQ (zna (zkn X_refuse_heads hr (zaa (vv 0) zaf)) L)))))),zbK ?_⟩;intro p_thing;unfold zaw;exact(zaA (zdC rfl) (za8 (zaj (zat rfl) λx3=>(zaA (zdC rfl) (za8 (zaj zof λu6=>(zqA (zao λ_ _ h=>h))))))))))))
def zct (S:Scr)(pLscript pLk:D):Option (RV×List D):=
 (Option.bind (Option.bind (Option.bind ((lenS S) pLscript) λv2=>((dEqG false) v2 (.int 0))) dB) λk1=>if k1 then(Option.bind (some ([(.int 0),(.int 0),pLk]:List D)) λ(r3:List D)=>(some ((.new 1 (.lst r3)),[.non,.non]))) else(Option.bind (Option.bind (aC (Option.bind (Option.bind ((lenS S) pLscript) λv4=>(dMod pLk v4)) λv5=>(ixS S pLscript v5)) (aC (some (.int 0)) (aC (some pLk) aN))) mkLs) λ(r6:List D)=>(some ((.new 1 (.lst r6)),[.non,.non]))))
def zbe (S:Scr):List D->Option (RV×List D):=g2 (zct S)
def zgo:FnScope ["_law_script","_law_k"] ["_law_script","_law_k"] (zab zdf):=fsc
def zgp (F:Fun K "_law_feed" "_law_feed" zdf f fd)(B:Blt mg){Pc:Hp->Prop}(pe:Pers Pc){S:Scr}(hSq:∀H,Pc H->SqF K S H):FnOk P w K mg base CX0 (0+1) f fd ["_law_script","_law_k"] (pcS Pc (spG K [none,none] (zbe S))):=
 zop pe [none,none] F zgo rfl λcdv A outer s H E hcv hr hPc hp=>by
  have hS:Prs _ (SqF K S):=λp Y H s I=>hSq _ (hp p Y H s I)
  refine⟨_,(zad (zbJ (zaP (zdX hr) (zbS false) (VE.w (zj7 hS B (vv 0))) (VE.w zae) (zaz _)) (zak (zfV (zbI (zaa zae (zaa zae (zaa (vv 1) zaf)))))) zal) (zak (zfV (zbI (zaa (zqj hS (vv 0) (zaJ zdL zdP (vr 1) (VE.w (zj7 hS B (vv 0))))) (zaa zae (zaa (vv 1) zaf))))))),zqe ?_⟩;intro pLscript pLk;unfold zct;exact(zaA (zjP λ_ _ h=>h) (za8 (zjP λ_ _ h=>h)))
def zcu (pLfeed_here pLmany:D):Option (RV×List D):=
 (Option.bind (Option.bind (Option.bind (dIx pLfeed_here (.int 1)) λv1=>(dAdd v1 (.int 1))) λv2=>(zl1 pLfeed_here (.int 1) v2)) λ(x3:D)=>(Option.bind (Option.bind (Option.bind (dIx x3 (.int 0)) λv5=>(Option.bind (dPow (.int 10) (.int 18)) λv6=>(dGe v5 v6))) dB) λk4=>if k4 then(Option.bind (Option.bind (dIx x3 (.int 0)) λv7=>(dMod v7 pLmany)) λ(x8:D)=>(Option.bind (Option.bind (Option.bind (dIx x3 (.int 0)) λv9=>(dFdiv v9 pLmany)) λv10=>(zl1 x3 (.int 0) v10)) λ(x11:D)=>(Option.bind (some x8) λ(r12:D)=>(some (.told r12,[x11,.non]))))) else(Option.bind (Option.bind (Option.bind (Option.bind (dIx x3 (.int 0)) λv13=>(dMod v13 (.int 1000003))) λv15=>(Option.bind (Option.bind (dIx x3 (.int 2)) λv14=>(dMul (.int 7919) v14)) λv16=>(dAdd v15 v16))) λv18=>(Option.bind (Option.bind (dIx x3 (.int 1)) λv17=>(dMul (.int 104729) v17)) λv19=>(dAdd v18 v19))) λ(x20:D)=>(Option.bind (Option.bind (dMul x20 (.int 48271)) λv21=>(dMod v21 (.int 2147483647))) λ(x22:D)=>(Option.bind (Option.bind (Option.bind (Option.bind (Option.bind (dMod x22 (.int 65521)) λv23=>(Option.bind (dIx x3 (.int 1)) λv24=>(dAdd v23 v24))) λv25=>(dMul x22 v25)) λv26=>(dMod v26 (.int 2147483629))) λv27=>(dMod v27 pLmany)) λ(r28:D)=>(some (.told r28,[x3,.non])))))))
def zam:List D->Option (RV×List D):=g2 zcu
def scLnext:FnScope ["_law_feed_here","_law_many","_law_digit","_law_mixed"] ["_law_feed_here","_law_many"] (zab zdg):=fsc
def zgq (F:Fun K "_law_next" "_law_next" zdg f fd)(B:Blt mg):FnOk P w K mg base CX0 (0+1) f fd ["_law_feed_here","_law_many"] (spG K [some 1,none] zam):=
 zom [some 1,none] F scLnext rfl λcdv A outer s H E hr=>by
  have nd:=scLnext.nd
  refine⟨_,(zad (zjM 0 (VE.x (zaJ zbP zaY (VE.w (zaZ (vr 0) (VE.w zae))) (VE.w zae))) zae) (zad (zbJ (zaP zk7 zlw (VE.w (zaZ (vr 0) (VE.w zae))) (VE.w (zaJ zi6 zjz (VE.w zae) (VE.w zae))) (zaz _)) (zad (vsS 2 nd (zaJ zdL zdP (VE.w (zaZ (vr 0) (VE.w zae))) (vr 1))) (zad (zjM 0 (VE.x (zaJ zi5 zjy (VE.w (zaZ (vr 0) (VE.w zae))) (vr 1))) zae) (zak (zas (vv 2))))) zal) (zad (vsS 3 nd (zaJ zbP zaY (VE.w (zaJ zbP zaY (VE.w (zaJ zdL zdP (VE.w (zaZ (vr 0) (VE.w zae))) (VE.w zae))) (VE.w (zaJ zim zeQ (VE.w zae) (VE.w (zaZ (vr 0) (VE.w zae))))))) (VE.w (zaJ zim zeQ (VE.w zae) (VE.w (zaZ (vr 0) (VE.w zae))))))) (zad (vsS 3 nd (zaJ zdL zdP (VE.w (zaJ zim zeQ (vr 3) (VE.w zae))) (VE.w zae))) (zak (zas (zaJ zdL zdP (VE.w (zaJ zdL zdP (VE.w (zaJ zim zeQ (vr 3) (VE.w (zaJ zbP zaY (VE.w (zaJ zdL zdP (vr 3) (VE.w zae))) (VE.w (zaZ (vr 0) (VE.w zae))))))) (VE.w zae))) (vr 1)))))))),zqe ?_⟩;intro pLfeed_here pLmany;unfold zcu;exact(zaj (zhL rfl) λx3=>(zaA (zaj (zat rfl) λx8=>(zaj (zhL rfl) λx11=>(zao λ_ _ h=>h))) (za8 (zaj (zat rfl) λx20=>(zaj (zat rfl) λx22=>(zao λ_ _ h=>h))))))
def zcv (S:Scr)(pLscript:D):Option D:=
 (Option.bind (some (.str "abcdefghijklmnopqrstuvwxyz")) λ(x1:D)=>(Option.bind (Option.bind (Option.bind (Option.bind (some [pLscript,(.int 0)]) λd=>some (d,())) λq3=>Option.bind ((zbe S) q3.1) λr4=>if q3.1.length=2 then some (r4.1,q3.2) else none) newD) λ(q5:D×Unit)=>(Option.bind (Option.bind (Option.bind (some (.int 30)) λd=>some (d,q5.1)) λq7=>Option.bind (Option.bind (Option.bind (Option.bind (Option.bind (Option.bind (zdY zam ((λ(s:D) e=>e) q7.2) [q7.2,(.int 34)]) λq8=>some (q8.1.d,q8.2)) λq9=>Option.bind (Option.bind (Option.bind (some (.int 10)) λd=>some (d,q9.2)) λq10=>Option.bind (Option.bind (Option.bind (some (.int 11)) λd=>some (d,q10.2)) λq11=>Option.bind (Option.bind (Option.bind (some (.int 9)) λd=>some (d,q11.2)) λq12=>Option.bind (some ([],q12.2)) λq13=>some (q12.1::q13.1,q13.2)) λq14=>some (q11.1::q14.1,q14.2)) λq15=>some (q10.1::q15.1,q15.2)) λq16=>some (q9.1::q16.1,q16.2)) λq17=>Option.bind (mkLs q17.1) λds=>some (RV.new 1 (.lst ds),q17.2)) λq18=>some (q18.1.d,q18.2)) λq19=>Option.bind (Option.bind (zdY zam ((λ(s:D) e=>e) q19.2) [q19.2,(.int 4)]) λq20=>some (q20.1.d,q20.2)) λq21=>Option.bind (dIx q19.1 q21.1) λd22=>some (d22,q21.2)) λq23=>Option.bind (dAdd q7.1 q23.1) λd24=>some (d24,q23.2)) λ(q25:D×D)=>(Option.bind (Option.bind (zdY zam ((λ(s:D) e=>e) q25.2) [q25.2,(.int 3)]) λq27=>some (q27.1.d,q27.2)) λ(q28:D×D)=>(Option.bind (Option.bind (zdY zam ((λ(s:D) e=>e) q28.2) [q28.2,(.int 3)]) λq30=>some (q30.1.d,q30.2)) λ(q31:D×D)=>(Option.bind (Option.bind (zdY zam ((λ(s:D) e=>e) q31.2) [q31.2,(.int 26)]) λq33=>some (q33.1.d,q33.2)) λ(q34:D×D)=>(Option.bind (some ([]:List D)) λ(x35:List D)=>(Option.bind (dSub (.int 0) (.int 1)) λ(x36:D)=>(Option.bind (Option.bind (rngA [q25.1]) (zbd (λ(s37:D×List D×D) (d38:D)=>(Option.bind (Option.bind (Option.bind (Option.bind (aC (some pLscript) (aC (dAdd (.int 1) d38) aN)) λd=>some (d,())) λq40=>Option.bind ((zbe S) q40.1) λr41=>if q40.1.length=2 then some (r41.1,q40.2) else none) newD) λ(q42:D×Unit)=>(Option.bind (Option.bind (zlW zam [some 1,none] 0 1 (λ(s:D)=>s) (λ(s:D) e=>e) (Option.bind (Option.bind (Option.bind (Option.bind (aC (some (.int 5)) (aC (dAdd s37.2.2 (.int 2)) aN)) bMin) λd=>some (d,q42.1)) λq44=>Option.bind (some ([],q44.2)) λq45=>some (some q44.1::q45.1,q45.2)) λq46=>some (none::q46.1,q46.2))) λq47=>some (q47.1.d,q47.2)) λ(q48:D×D)=>(Option.bind (Option.bind (Option.bind (Option.bind (dAdd q34.1 d38) λv49=>(dMod v49 (.int 26))) λv50=>(dIx x1 v50)) λv52=>(Option.bind (Option.bind (dFdiv d38 (.int 26)) λv51=>(dAdd (.int 1) v51)) λv53=>(dMul v52 v53))) λ(x54:D)=>(Option.bind (Option.bind (Option.bind (Option.bind (Option.bind (dGt q28.1 (.int 0)) dB) λk=>some (k,q48.2)) λq57=>if q57.1 then(Option.bind (Option.bind (Option.bind (dGt d38 (.int 0)) dB) λk=>some (k,q57.2)) λq58=>if q58.1 then(Option.bind (Option.bind (Option.bind (zdY zam ((λ(s:D) e=>e) q58.2) [q58.2,(.int 12)]) λq59=>some (q59.1.d,q59.2)) λq60=>Option.bind (Option.bind (some (.int 0)) λd=>some (d,q60.2)) λq61=>Option.bind ((dEqG false) q60.1 q61.1) λd62=>some (d62,q61.2)) λq63=>Option.bind (dB q63.1) λk=>some (k,q63.2)) else some (false,q58.2)) else some (false,q57.2)) λk55=>if k55.1 then(Option.bind (Option.bind (Option.bind (Option.bind (zdY zam ((λ(s:D) e=>e) k55.2) [k55.2,d38]) λq65=>some (q65.1.d,q65.2)) λq66=>Option.bind (dIx ((λ(_:D)=>D.lst s37.2.1) q66.2) q66.1) λd67=>some (d67,q66.2)) λq68=>Option.bind (Option.bind (some (.int 1)) λd=>some (d,q68.2)) λq69=>Option.bind (dIx q68.1 q69.1) λd70=>some (d70,q69.2)) λ(q71:D×D)=>(some (q71.2,q71.1))) else(some (k55.2,x54))) λ(s72:D×D)=>(Option.bind (some D.non) λ(x73:D)=>(Option.bind (Option.bind (Option.bind (Option.bind (Option.bind ((dEqG false) q31.1 (.int 1)) dB) λk=>some (k,s72.1)) λq76=>if q76.1 then(Option.bind (Option.bind (Option.bind (zdY zam ((λ(s:D) e=>e) q76.2) [q76.2,(.int 9)]) λq77=>some (q77.1.d,q77.2)) λq78=>Option.bind (Option.bind (some (.int 0)) λd=>some (d,q78.2)) λq79=>Option.bind ((dEqG false) q78.1 q79.1) λd80=>some (d80,q79.2)) λq81=>Option.bind (dB q81.1) λk=>some (k,q81.2)) else some (false,q76.2)) λk74=>if k74.1 then(Option.bind (Option.bind (Option.bind (some (.lst [(.str "zzzzzz"),s72.2])) λd=>some (d,k74.2)) λq83=>Option.bind (Option.bind (zdY zam ((λ(s:D) e=>e) q83.2) [q83.2,(.int 2)]) λq84=>some (q84.1.d,q84.2)) λq85=>Option.bind (dIx q83.1 q85.1) λd86=>some (d86,q85.2)) λ(q87:D×D)=>(some (q87.2,q87.1))) else(some (k74.2,x73))) λ(s88:D×D)=>(Option.bind (Option.bind (Option.bind (Option.bind (zlW zam [some 1,none] 0 1 (λ(s:D)=>s) (λ(s:D) e=>e) (Option.bind (Option.bind (Option.bind (dPow (.int 10) (.int 9)) λd=>some (d,s88.1)) λq90=>Option.bind (some ([],q90.2)) λq91=>some (some q90.1::q91.1,q91.2)) λq92=>some (none::q92.1,q92.2))) λq93=>some (q93.1.d,q93.2)) λq94=>Option.bind (Option.bind (dPow (.int 10) (.int 51)) λd=>some (d,q94.2)) λq95=>Option.bind (dMul q94.1 q95.1) λd96=>some (d96,q95.2)) λq97=>Option.bind (Option.bind (some (.int 1)) λd=>some (d,q97.2)) λq98=>Option.bind (dAdd q97.1 q98.1) λd99=>some (d99,q98.2)) λ(q100:D×D)=>(Option.bind (Option.bind (Option.bind (Option.bind (Option.bind (some q48.1) λd=>some (d,q100.2)) λq102=>Option.bind (Option.bind (Option.bind (some s72.2) λd=>some (d,q102.2)) λq103=>Option.bind (Option.bind (Option.bind (Option.bind (Option.bind (dSub (.int 0) q100.1) λd=>some (d,q103.2)) λq104=>Option.bind (Option.bind (Option.bind (some q100.1) λd=>some (d,q104.2)) λq105=>Option.bind (Option.bind (Option.bind (some q100.1) λd=>some (d,q105.2)) λq106=>Option.bind (Option.bind (Option.bind (Option.bind (some (.int 1)) λd=>some (d,q106.2)) λq107=>Option.bind (Option.bind (zdY zam ((λ(s:D) e=>e) q107.2) [q107.2,(.int 9)]) λq108=>some (q108.1.d,q108.2)) λq109=>Option.bind (dAdd q107.1 q109.1) λd110=>some (d110,q109.2)) λq111=>Option.bind (some ([],q111.2)) λq112=>some (q111.1::q112.1,q112.2)) λq113=>some (q106.1::q113.1,q113.2)) λq114=>some (q105.1::q114.1,q114.2)) λq115=>some (q104.1::q115.1,q115.2)) λq116=>Option.bind (mkT q116.1) λd117=>some (d117,q116.2)) λq118=>Option.bind (Option.bind (Option.bind (some (.str "free")) λd=>some (d,q118.2)) λq119=>Option.bind (Option.bind (Option.bind (some q100.1) λd=>some (d,q119.2)) λq120=>Option.bind (Option.bind (Option.bind (some s88.2) λd=>some (d,q120.2)) λq121=>Option.bind (some ([],q121.2)) λq122=>some (q121.1::q122.1,q122.2)) λq123=>some (q120.1::q123.1,q123.2)) λq124=>some (q119.1::q124.1,q124.2)) λq125=>some (q118.1::q125.1,q125.2)) λq126=>some (q103.1::q126.1,q126.2)) λq127=>some (q102.1::q127.1,q127.2)) λq128=>Option.bind (mkT q128.1) λd129=>some (d129,q128.2)) λq130=>Option.bind (appL ((λ_=>s37.2.1) q130.2) q130.1) λys=>some (ys,q130.2)) λ(q131:List D×D)=>(some (q131.2,q131.1,q48.1))))))))))) (q34.2,x35,x36))) λ(s37:D×List D×D)=>(Option.bind (some (.lst s37.2.1)) λ(r132:D)=>(some r132)))))))))))
def zcw (S:Scr):List D->Option D:=c1 (zcv S)
def scLrows:FnScope ["_law_script","_law_letters","_law_feed_here","_law_many","_law_alike","_law_headed","_law_turn","_law_rows_here","_law_deep","_law_k","_law_name","_law_head","_law_far"] ["_law_script"] (zab zdh):=fsc
def zgr (F:Fun K "_law_rows" "_law_rows" zdh f fd)(B:Blt mg){Pc:Hp->Prop}(pe:Pers Pc){S:Scr}(CLfeed:Cal P w K mg base 1 "_law_feed" ["_law_script","_law_k"] (pcS Pc (spG K [none,none] (zbe S))))(CLnext:Cal P w K mg base 1 "_law_next" ["_law_feed_here","_law_many"] (spG K [some 1,none] zam)):FnOk P w K mg base CX0 (4+1) f fd ["_law_script"] (pcS Pc (spF K (zcw S))):=
 zce pe F scLrows c1_len λcdv A outer s H E hcv hr hPc hp=>by
  have nd:=scLrows.nd
  refine⟨_,(zad (vsS 1 nd zci) (zad (zjL (i:=2) nd rfl (Or.inl rfl) (zf2 CLfeed hp hr (VA.x (zaa (vv 0) (zaa zae zaf))))) (zad (zcH (i:=3) nd rfl (Or.inl rfl) (zlH zbP zaY (VE.x zae) (zn0 (VR.x (zp0 (zaX (VR.x (zbH 0 2 1 CLnext hr (zbG (zdW (VE.x zae) zbF)))) (zaX (VE.x zae) (zaX (VE.x zae) (zaX (VE.x zae) zgS)))))) (VR.x (zbH 0 2 1 CLnext hr (zbG (zdW (VE.x zae) zbF))))))) (zad (zcH (i:=4) nd rfl (Or.inl rfl) (VR.x (zbH 0 2 1 CLnext hr (zbG (zdW (VE.x zae) zbF))))) (zad (zcH (i:=5) nd rfl (Or.inl rfl) (VR.x (zbH 0 2 1 CLnext hr (zbG (zdW (VE.x zae) zbF))))) (zad (zcH (i:=6) nd rfl (Or.inl rfl) (VR.x (zbH 0 2 1 CLnext hr (zbG (zdW (VE.x zae) zbF))))) (zad (vsO 7 nd (zbI zaf)) (zad (vsS 8 nd (zaJ zmA zmL (VE.w zae) (VE.w zae))) (zad (zdm (zei B (zaa (vv 3) zaf)) (vgN 9 nd) (zad (zjL (i:=2) nd rfl (Or.inl rfl) (zf2 CLfeed hp hr (VA.x (zaa (vv 0) (zaa (zaJ zbP zaY (VE.w zae) (vr 9)) zaf))))) (zad (zcH (i:=8) nd rfl (Or.inl rfl) (VR.x (zbH 0 2 1 CLnext hr (zbG (zdW (VE.x (ve_b (zfF rfl) zmN B boot_min (zav (VE.w zae) (zav (VE.w (zaJ zbP zaY (vr 8) (VE.w zae))) zaO)))) zbF))))) (zad (vsS 10 nd (zaJ zim zeQ (VE.w (zaZ (vr 1) (VE.w (zaJ zdL zdP (VE.w (zaJ zbP zaY (vr 6) (vr 9))) (VE.w zae))))) (VE.w (zaJ zbP zaY (VE.w zae) (VE.w (zaJ zi5 zjy (vr 9) (VE.w zae))))))) (zad (zmU (VPX.t (zgR (VT.x (zaP zfE zfU (vr 4) (VE.w zae) (zaz _))) (zgR (VT.x (zaP zfE zfU (vr 9) (VE.w zae) (zaz _))) (zhA (zjJ (zdX hr) (zbS false) (VR.x (zbH 0 2 1 CLnext hr (zbG (zdW (VE.x zae) zbF)))) (VE.x zae) (zaz _)))))) (zad (zcH (i:=10) nd rfl (Or.inl rfl) (zn0 (zqJ 7 (VR.x (zbH 0 2 1 CLnext hr (zbG (zdW (VE.x (vv 9)) zbF))))) (VE.x zae))) zal) zal) (zad (vsS 11 nd zcE) (zad (zmU (VPX.t (zgR (VT.x (zaP (zdX hr) (zbS false) (vr 5) (VE.w zae) (zaz _))) (zhA (zjJ (zdX hr) (zbS false) (VR.x (zbH 0 2 1 CLnext hr (zbG (zdW (VE.x zae) zbF)))) (VE.x zae) (zaz _))))) (zad (zcH (i:=11) nd rfl (Or.inl rfl) (zn0 (VE.x (VN.ve (zbI (zaa zci (zaa (vv 10) zaf))))) (VR.x (zbH 0 2 1 CLnext hr (zbG (zdW (VE.x zae) zbF)))))) zal) zal) (zad (zcH (i:=12) nd rfl (Or.inl rfl) (zlH zbP zaY (zlH zim zeQ (VR.x (zbH 0 2 1 CLnext hr (zbG (zdW (VE.x (zaJ zi6 zjz (VE.w zae) (VE.w zae))) zbF)))) (VE.x (zaJ zi6 zjz (VE.w zae) (VE.w zae)))) (VE.x zae))) (zad (zn3 7 (zmS (zaX (VE.x (vv 8)) (zaX (VE.x (vv 10)) (zaX (zmS (zaX (VE.x (zaJ zmA zmL (VE.w zae) (vr 12))) (zaX (VE.x (vv 12)) (zaX (VE.x (vv 12)) (zaX (zlH zbP zaY (VE.x zae) (VR.x (zbH 0 2 1 CLnext hr (zbG (zdW (VE.x zae) zbF))))) zgS))))) (zaX (VE.x zci) (zaX (VE.x (vv 12)) (zaX (VE.x (vv 11)) zgS)))))))) (zbi [9,10,11,12] zal)))))))))) (zgP 7 (zak (zas (vv 7))))))))))))),zbK ?_⟩;intro pLscript;unfold zcv;exact(zaj (zat rfl) λx1=>(zaj (zj8 (emb:=(λ(s2:Unit)=>[.val pLscript,.val x1,.un,.un,.un,.un,.un,.un,.un,.un,.un,.un,.un])) (zf0 (zm4 rfl)) λ_=>rfl) λq5=>(zaj (zcK (emb:=(λ(s6:D)=>[.val pLscript,.val x1,.own 1 s6,.un,.un,.un,.un,.un,.un,.un,.un,.un,.un])) (zfi (zcd rfl) λq7=>(zfi (zdD (zok (zaF (zdD (zba (put:=((λ(s:D) e=>e) q7.2)) (as:=[none,some (.int 34)]) (d:=q7.2) rfl rfl rfl λ_=>rfl)) λq9=>(zaF (zcd rfl) λq10=>(zaF (zcd rfl) λq11=>(zaF (zcd rfl) λq12=>(zfj rfl))))))) λq19=>(zdD (zba (put:=((λ(s:D) e=>e) q19.2)) (as:=[none,some (.int 4)]) (d:=q19.2) rfl rfl rfl λ_=>rfl)))) λ_=>rfl) λq25=>(zaj (zcK (emb:=(λ(s26:D)=>[.val pLscript,.val x1,.own 1 s26,.val q25.1,.un,.un,.un,.un,.un,.un,.un,.un,.un])) (zdD (zba (put:=((λ(s:D) e=>e) q25.2)) (as:=[none,some (.int 3)]) (d:=q25.2) rfl rfl rfl λ_=>rfl)) λ_=>rfl) λq28=>(zaj (zcK (emb:=(λ(s29:D)=>[.val pLscript,.val x1,.own 1 s29,.val q25.1,.val q28.1,.un,.un,.un,.un,.un,.un,.un,.un])) (zdD (zba (put:=((λ(s:D) e=>e) q28.2)) (as:=[none,some (.int 3)]) (d:=q28.2) rfl rfl rfl λ_=>rfl)) λ_=>rfl) λq31=>(zaj (zcK (emb:=(λ(s32:D)=>[.val pLscript,.val x1,.own 1 s32,.val q25.1,.val q28.1,.val q31.1,.un,.un,.un,.un,.un,.un,.un])) (zdD (zba (put:=((λ(s:D) e=>e) q31.2)) (as:=[none,some (.int 26)]) (d:=q31.2) rfl rfl rfl λ_=>rfl)) λ_=>rfl) λq34=>(zaj (zhC rfl) λx35=>(zaj (zat rfl) λx36=>(zaj (zff (emb:=(λ(s37:D×List D×D)=>[.val pLscript,.val x1,.own 1 s37.1,.val q25.1,.val q28.1,.val q31.1,.val q34.1,.own 1 (.lst s37.2.1),.val s37.2.2,.un,.un,.un,.un])) rfl (λ_=>rfl) λs37 d38=>(zaj (zj8 (emb:=(λ(s39:Unit)=>[.val pLscript,.val x1,.own 1 s37.1,.val q25.1,.val q28.1,.val q31.1,.val q34.1,.own 1 (.lst s37.2.1),.val s37.2.2,.val d38,.un,.un,.un])) (zf0 (zm4 rfl)) λ_=>rfl) λq42=>(zaj (zcK (emb:=(λ(s43:D)=>[.val pLscript,.val x1,.own 1 s43,.val q25.1,.val q28.1,.val q31.1,.val q34.1,.own 1 (.lst s37.2.1),.val s37.2.2,.val d38,.un,.un,.un])) (zdD (zhI (get:=(λ(s:D)=>s)) (put:=(λ(s:D) e=>e)) (zhH rfl (zm5 (zcd rfl) λq44=>(zhG rfl))) (λ_=>rfl) λ_ _=>rfl)) λ_=>rfl) λq48=>(zaj (zat rfl) λx54=>(zaj (zm7 (emb2:=(λ(s72:D×D)=>[.val pLscript,.val x1,.own 1 s72.1,.val q25.1,.val q28.1,.val q31.1,.val q34.1,.own 1 (.lst s37.2.1),.val q48.1,.val d38,.val s72.2,.un,.un])) (emb:=(λ(s56:D)=>[.val pLscript,.val x1,.own 1 s56,.val q25.1,.val q28.1,.val q31.1,.val q34.1,.own 1 (.lst s37.2.1),.val q48.1,.val d38,.val x54,.un,.un])) (zfk (zj0 rfl) λq57=>(zfk (zj0 rfl) λq58=>(zm6 (zfi (zdD (zba (put:=((λ(s:D) e=>e) q58.2)) (as:=[none,some (.int 12)]) (d:=q58.2) rfl rfl rfl λ_=>rfl)) λq60=>(zcd rfl))))) (λk55=>(zaj (zcK (emb:=(λ(s64:D)=>[.val pLscript,.val x1,.own 1 s64,.val q25.1,.val q28.1,.val q31.1,.val q34.1,.own 1 (.lst s37.2.1),.val q48.1,.val d38,.val x54,.un,.un])) (zfi (zoE (get:=(λ(_:D)=>D.lst s37.2.1)) (zdD (zba (put:=((λ(s:D) e=>e) k55.2)) (as:=[none,some d38]) (d:=k55.2) rfl rfl rfl λ_=>rfl)) rfl λ_=>rfl) λq68=>(zcd rfl)) λ_=>rfl) λq71=>(za0 λ_ h=>h))) (λk55=>(za0 λ_ h=>h))) λs72=>(zaj (zat rfl) λx73=>(zaj (zm7 (emb2:=(λ(s88:D×D)=>[.val pLscript,.val x1,.own 1 s88.1,.val q25.1,.val q28.1,.val q31.1,.val q34.1,.own 1 (.lst s37.2.1),.val q48.1,.val d38,.val s72.2,.val s88.2,.un])) (emb:=(λ(s75:D)=>[.val pLscript,.val x1,.own 1 s75,.val q25.1,.val q28.1,.val q31.1,.val q34.1,.own 1 (.lst s37.2.1),.val q48.1,.val d38,.val s72.2,.val x73,.un])) (zfk (zj0 rfl) λq76=>(zm6 (zfi (zdD (zba (put:=((λ(s:D) e=>e) q76.2)) (as:=[none,some (.int 9)]) (d:=q76.2) rfl rfl rfl λ_=>rfl)) λq78=>(zcd rfl)))) (λk74=>(zaj (zcK (emb:=(λ(s82:D)=>[.val pLscript,.val x1,.own 1 s82,.val q25.1,.val q28.1,.val q31.1,.val q34.1,.own 1 (.lst s37.2.1),.val q48.1,.val d38,.val s72.2,.val x73,.un])) (zfi (zcd rfl) λq83=>(zdD (zba (put:=((λ(s:D) e=>e) q83.2)) (as:=[none,some (.int 2)]) (d:=q83.2) rfl rfl rfl λ_=>rfl))) λ_=>rfl) λq87=>(za0 λ_ h=>h))) (λk74=>(za0 λ_ h=>h))) λs88=>(zaj (zcK (emb:=(λ(s89:D)=>[.val pLscript,.val x1,.own 1 s89,.val q25.1,.val q28.1,.val q31.1,.val q34.1,.own 1 (.lst s37.2.1),.val q48.1,.val d38,.val s72.2,.val s88.2,.un])) (zfi (zfi (zdD (zhI (get:=(λ(s:D)=>s)) (put:=(λ(s:D) e=>e)) (zhH rfl (zm5 (zcd rfl) λq90=>(zhG rfl))) (λ_=>rfl) λ_ _=>rfl)) λq94=>(zcd rfl)) λq97=>(zcd rfl)) λ_=>rfl) λq100=>(zaj (zol (emb:=(λ(s101:D)=>[.val pLscript,.val x1,.own 1 s101,.val q25.1,.val q28.1,.val q31.1,.val q34.1,.own 1 (.lst s37.2.1),.val q48.1,.val d38,.val s72.2,.val s88.2,.val q100.1])) (get:=(λ_=>s37.2.1)) rfl (zjZ (zaF (zcd rfl) λq102=>(zaF (zcd rfl) λq103=>(zaF (zjZ (zaF (zcd rfl) λq104=>(zaF (zcd rfl) λq105=>(zaF (zcd rfl) λq106=>(zaF (zfi (zcd rfl) λq107=>(zdD (zba (put:=((λ(s:D) e=>e) q107.2)) (as:=[none,some (.int 9)]) (d:=q107.2) rfl rfl rfl λ_=>rfl))) λq111=>(zfj rfl)))))) λq118=>(zaF (zcd rfl) λq119=>(zaF (zcd rfl) λq120=>(zaF (zcd rfl) λq121=>(zfj rfl)))))))) λ_=>rfl) λq131=>(zbj [9,10,11,12] (za0 λ_ h=>h))))))))))) λs37=>(zjO 7 (zao λ_ _ h=>h)))))))))))
def zcx (pLrows_here:D):Option D:=
 (Option.bind (some ()) λ(u1:Unit)=>(Option.bind (Option.bind (zrB [pLrows_here]) (zbd (λ(s2:List D) (d3:D)=>(Option.bind (Option.bind (aC (Option.bind (Option.bind (Option.bind (Option.bind (dIx d3 (.int 0)) λv4=>(dAdd v4 (.int 1))) λv5=>(ix2C s2 v5)) λv6=>(Option.bind (dLst v6) λds=>some ds.reverse)) λds=>some (.lst ds)) aN) bTuple) λ(x7:D)=>(Option.bind (Option.bind (Option.bind (dIx d3 (.int 0)) λv8=>(dAdd v8 (.int 1))) λv9=>(zlZ s2 [] v9)) λ(x10:List D)=>(Option.bind (Option.bind (dIx d3 (.int 0)) λv12=>(Option.bind (Option.bind (dSl d3 (some 1) none) λv11=>(dAdd v11 (.tup [x7]))) λv13=>(zl0 x10 v12 v13))) λ(x14:List D)=>(some x14))))) [D.lst [],D.lst [],D.lst [],D.lst [],D.lst [],D.lst []])) λ(s2:List D)=>(Option.bind (Option.bind (aC (Option.bind (Option.bind (ix2C s2 (.int 0)) λv15=>(Option.bind (dLst v15) λds=>some ds.reverse)) λds=>some (.lst ds)) aN) bTuple) λ(r16:D)=>(some r16))))
def za5:List D->Option D:=c1 zcx
def scLhung:FnScope ["_law_rows_here","_law_waiting","_law_row","_law_parts"] ["_law_rows_here"] (zab zcr):=fsc
def zgs (F:Fun K "_law_hung" "_law_hung" zcr f fd)(B:Blt mg):FnOk P w K mg base CX0 (1+1) f fd ["_law_rows_here"] (spF K za5):=
 zbR F scLhung c1_len λcdv A outer s H E hr=>by
  have nd:=scLhung.nd
  refine⟨_,(zad (zlP ["_law_rows_here","_law_waiting","_law_row","_law_parts"] zcr (i:=1) (NC:=["_law_deep"]) [none] nd rfl (Or.inl rfl) rfl (zei B (zaa zae zaf)) (λx h=>zbX h) rfl rfl rfl (by decide +kernel) (by decide +kernel) rfl (by decide +kernel) (by decide +kernel) rfl (by decide) (λcl C s0 H0 ex pn=>(vgc 0)) (λcl C s0 H0 ex pn=>(zbI zaf))) (zad (zdm (zob B (zaa (vv 0) zaf)) (vgN 2 nd) (zad (vsS 3 nd (zpM zdk zhz B boot_tuple (zav (VE.w (VN.ve (zmM (zmV 1 (zaJ zbP zaY (VE.w (zaZ (vr 2) (VE.w zae))) (VE.w zae)))))) zaO))) (zad (zn8 1 (zbI zaf) (zaJ zbP zaY (VE.w (zaZ (vr 2) (VE.w zae))) (VE.w zae))) (zad (zn6 1 (zaZ (vr 2) (VE.w zae)) (zaJ zbP zaY (VE.w (zbh (vr 2) (zbq zae) zbp)) (VE.w (zaQ (zaa (vv 3) zaf))))) (zbi [2,3] zal))))) (zak (zas (zpM zdk zhz B boot_tuple (zav (VE.w (VN.ve (zmM (zmV 1 zae)))) zaO)))))),zbK ?_⟩;intro pLrows_here;unfold zcx;exact(zaj (zoh (n:=2) (x:=.lst [D.lst [],D.lst [],D.lst [],D.lst [],D.lst [],D.lst []]) rfl rfl) λu1=>(zaj (zff (emb:=(λ(s2:List D)=>[.val pLrows_here,.own 2 (.lst s2),.un,.un])) rfl (λ_=>rfl) λs2 d3=>(zaj (zat rfl) λx7=>(zaj (zoq rfl) λx10=>(zaj (zor rfl) λx14=>(zbj [2,3] (za0 λ_ h=>h)))))) λs2=>(zao λ_ _ h=>h)))
def scLgot:FnScope ["_law_thing","_law_got_here","e","_law_sorts"] ["_law_thing"] (zab zcY):=fsc
def zeW:List (Str×Bool):=[("NoSheet",true),("TooMany",false),("Twice",false),("NoHead",false)]
def zeX:List (Str×Bool):=[("NoSheet",false),("TooMany",true),("Twice",false),("NoHead",false)]
def zhY:List (Str×Bool):=[("NoSheet",false),("TooMany",false),("Twice",true),("NoHead",false)]
def zgt:List (Str×Bool):=[("NoSheet",false),("TooMany",false),("Twice",false),("NoHead",true)]
def zmm:List (Str×Bool):=[("NoSheet",false),("TooMany",false),("Twice",false),("NoHead",false)]
def zqP:List (Str×Bool):=[("NoSheet",true),("TooMany",true),("Twice",true),("NoHead",true)]
def ziK (x:D):Option D:=
 (Option.bind (Option.bind (Option.bind (aC (isX zeX x) (aC (isX zhY x) (aC (isX zeW x) (aC (isX zgt x) aN)))) mkLs) λds=>some (.lst ds)) λ(l1:D)=>(Option.bind (Option.bind (Option.bind (Option.bind (aC (isX zmm x) (aC (isX zmm x) aN)) mkLs) λds=>some (.lst ds)) λv=>dAdd l1 v) λ(l2:D)=>(Option.bind (Option.bind (aC (some l2) (aC (isX zqP x) (aC (some x) aN))) mkT) λ(r2:D)=>some r2)))
def zmn (p_thing:D):Option D:=
 (Option.bind (Option.bind (aC (some (.str "told")) (aC (Option.bind (aC (some p_thing) aN) zcm) aN)) mkT) λ(r:D)=>some r)
def zbO (p_thing:D):Option D:=
 (Option.bind (some D.non) λ(x1:D)=>(Option.bind (match (Option.bind (some (D.str "told")) λ_=>Option.bind (aC (some p_thing) aN) za4) with|some x=>if zcq ["NoSheet","TooMany","Twice","NoHead"] x then ziK x else none|none=>zmn p_thing) λ(x10:D)=>(Option.bind (some x10) λ(r:D)=>some r)))
def zaU:List D->Option D:=VD.c1 zbO
def zha {c0 c1 c2 c3 c4 c5:Addr}(F:Fun K "_law_got" "_law_got" zcY f fd)(B:Blt mg){Pc:Hp->Prop}(pe:Pers Pc)(C_checked:Cal P w K mg base 50 "checked" ["thing"] (pcS Pc (spF K zcm)))(X_checked:CalX P w K mg base 50 "checked" ["thing"] (pcS Pc (spX K za4)))(TY:XTy K mg "FocusError" ["NoSheet","TooMany","Twice","NoHead"])
 (m0:mg "TooMany"=some (.ref c0)) (m1:mg "Twice"=some (.ref c1)) (m2:mg "NoSheet"=some (.ref c2)) (m3:mg "NoHead"=some (.ref c3)) (m4:mg "MustRing"=some (.ref c4)) (m5:mg "NoPart"=some (.ref c5)) (mv:mg "ValueError"=none)
 (i0:XInst K (.ref c0) zeX) (i1:XInst K (.ref c1) zhY) (i2:XInst K (.ref c2) zeW) (i3:XInst K (.ref c3) zgt) (i4:XInst K (.ref c4) zmm) (i5:XInst K (.ref c5) zmm) (iv:XInst K (.type "ValueError") zqP):FnOk P w K mg base CX0 (50+1) f fd ["_law_thing"] (pcS Pc (spF K zaU)):=
 zce pe F scLgot VD.c1_len λcdv A outer s H E hcv hr hPc hp=>by
  have nd:=scLgot.nd
  have hp2:Prs (cxOf CX0 P w K mg base ["_law_thing","_law_got_here","e","_law_sorts"] "_law_got" (zab zcY) f cdv A outer s H E).nox.nox Pc:=λa b c d I=>hp a b c d (zdT I)
  refine⟨_,(zad (vsS 1 nd zcE) (zad (zqx 2 TY nd (zoz 1 nd (zqD (zqC zci (zqB (zmd X_checked hp hr (zaa (vv 0) zaf))))))
   (zak (vsS 1 nd (zaQ (zaa zci (zaa (zaE C_checked hp2 hr (zaa (vv 0) zaf)) zaf)))))
   (λev=>zad (vsS 3 nd (VN.ve (zbI (zaa (zeU i0 m0 B (vv 2)) (zaa (zeU i1 m1 B (vv 2)) (zaa (zeU i2 m2 B (vv 2)) (zaa (zeU i3 m3 B (vv 2)) zaf))))))) (zad (vsS 3 nd (zaJ zbP zaY (vr 3) (VE.w (VN.ve (zbI (zaa (zeU i4 m4 B (vv 2)) (zaa (zeU i5 m5 B (vv 2)) zaf))))))) (zad (vsS 1 nd (zaQ (zaa (vv 3) (zaa (zqz iv mv zes B (vv 2)) (zaa (vv 2) zaf))))) (zbi [3] zal))))) (zak (zas (vv 1))))),zbK ?_⟩
  intro p_thing;unfold zbO;exact(zaj (zat rfl) λx1=>(zaj (zqy (emb:=λx10=>[.val p_thing,.val x10,.un,.un]) rfl (λx=>(by unfold ziK;exact(zaj (zat rfl) λl1=>(zaj (zat rfl) λl2=>(zaj (zat rfl) λr2=>(zbj [3] (za0 λ_ h=>h))))))) (λ_=>(by unfold zmn;exact(zp2 (zat rfl) λ_ _ h=>h)))) λx10=>(zao λ_ _ h=>h)))
def zb8 (pLrows_here:D):Option D:=
 (Option.bind (some ([]:List D)) λ(x1:List D)=>(Option.bind (dSeq pLrows_here) λds9=>Option.bind ((zcJ (λ(s2:List D) (d3:D)=>(Option.bind (Option.bind (Option.bind (dIx d3 (.int 1)) λv5=>((dInG false) v5 (.lst s2))) dB) λk4=>if k4 then(Option.bind (dIx d3 (.int 1)) λ(r6:D)=>(some (Fl.ret r6:Fl (List D) (D)))) else(Option.bind (Option.bind (dIx d3 (.int 1)) (appL s2)) λ(x7:List D)=>(some (Fl.nx x7:Fl (List D) (D)))))) x1) ds9) (flK λ(s2:List D)=>(Option.bind (some D.non) λ(r8:D)=>(some r8)))))
def zb9:List D->Option D:=c1 zb8
def scLtwice:FnScope ["_law_rows_here","_law_seen","_law_row"] ["_law_rows_here"] (zab zcO):=fsc
def zfv (F:Fun K "_law_twice" "_law_twice" zcO f fd)(B:Blt mg):FnOk P w K mg base CX0 (0+1) f fd ["_law_rows_here"] (spF K zb9):=
 zbR F scLtwice c1_len λcdv A outer s H E hr=>by
  have nd:=scLtwice.nd
  refine⟨_,(zad (vsO 1 nd (zbI zaf)) (zad (zdm (zbQ (vv 0)) (vgN 2 nd) (zad (zbJ (zaP (zio hr) (zeo false) (VE.w (zaZ (vr 2) (VE.w zae))) (vr 1) rfl) (zak (zas (zaZ (vr 2) (VE.w zae)))) zal) (zad (zjH 1 (zaZ (vr 2) (VE.w zae))) (zbi [2] zal)))) (zak (zas zcE)))),zbK ?_⟩;intro pLrows_here;unfold zb8;exact(zaj (zhC rfl) λx1=>(zjR (emb:=(λ(s2:List D)=>[.val pLrows_here,.own 1 (.lst s2),.un])) rfl (λ_=>rfl) (λs2 d3=>(zaA (zao λ_ _ h=>h) (za8 (zaj (zjQ rfl) λx7=>(zbj [2] (za0 λ_ h=>h)))))) λs2=>(zao λ_ _ h=>h)))
def zca (pLrows_here pLsheet:D):Option D:=
 (Option.bind (zaU [pLsheet]) λ(x1:D)=>(Option.bind (Option.bind (Option.bind (bLen [pLrows_here]) λv3=>(dGt v3 (.int 40))) dB) λk2=>if k2 then(Option.bind (Option.bind (Option.bind (Option.bind (dSl x1 none (some 2)) λv8=>((dEqG false) v8 (.tup [(.lst [(.bl true),(.bl false),(.bl false),(.bl false),(.bl false),(.bl false)]),(.bl true)]))) dB) λk7=>if k7 then(Option.bind (Option.bind (dIx x1 (.int 2)) λv4=>(zmb "many" ["TooMany"] v4)) λv5=>(Option.bind (bLen [pLrows_here]) λv6=>((dEqG false) v5 v6))) else some (.bl false)) λ(r9:D)=>(some r9)) else(Option.bind (zb9 [pLrows_here]) λ(x10:D)=>(Option.bind (Option.bind ((dIs true) x10 D.non) dB) λk11=>if k11 then(Option.bind (Option.bind (Option.bind (Option.bind (dSl x1 none (some 2)) λv15=>((dEqG false) v15 (.tup [(.lst [(.bl false),(.bl true),(.bl false),(.bl false),(.bl false),(.bl false)]),(.bl true)]))) dB) λk14=>if k14 then(Option.bind (Option.bind (dIx x1 (.int 2)) λv12=>(zmb "name" ["Twice"] v12)) λv13=>((dEqG false) v13 x10)) else some (.bl false)) λ(r16:D)=>(some r16)) else(Option.bind (Option.bind (Option.bind (aC (Option.bind (Option.bind (dSeq pLrows_here) (zbW (λd18=>(Option.bind (Option.bind (dIx d18 (.int 5)) λv19=>((dIs true) v19 D.non)) λz=>some (some z))))) λds=>some (.lst ds)) aN) bAny) dTru) λk17=>if k17 then(Option.bind (Option.bind (dSl x1 none (some 2)) λv20=>((dEqG false) v20 (.tup [(.lst [(.bl false),(.bl false),(.bl false),(.bl true),(.bl false),(.bl false)]),(.bl true)]))) λ(r21:D)=>(some r21)) else(Option.bind ((dEqG false) x1 (.tup [(.str "told"),pLsheet])) λ(r22:D)=>(some r22)))))))
def zaH:List D->Option D:=c2 zca
def scLright:FnScope ["_law_rows_here","_law_sheet","_law_got_here","_law_name"] ["_law_rows_here","_law_sheet"] (zab zb4):=fsc
def zfw (F:Fun K "_law_right" "_law_right" zb4 f fd)(B:Blt mg){Pc:Hp->Prop}(pe:Pers Pc)(CLgot:Cal P w K mg base 51 "_law_got" ["_law_thing"] (pcS Pc (spF K zaU)))(CLtwice:Cal P w K mg base 1 "_law_twice" ["_law_rows_here"] (spF K zb9))(XF_many:XFld K "many" ["TooMany"])(XF_name:XFld K "name" ["Twice"]):FnOk P w K mg base CX0 (51+1) f fd ["_law_rows_here","_law_sheet"] (pcS Pc (spF K zaH)):=
 zce pe F scLright zdo λcdv A outer s H E hcv hr hPc hp=>by
  have nd:=scLright.nd
  refine⟨_,(zad (vsS 2 nd (zaE CLgot hp hr (zaa (vv 1) zaf))) (zad (zbJ (zaP zfE zfU (VE.w (ve_b zaW zb1 B boot_len (zav (vr 0) zaO))) (VE.w zae) (zaz _)) (zak (zas (zdO (zb0 (zdX hr) (zbS false) (VE.w (zbh (vr 2) zbp (zbq zae))) (VE.w (zaQ (zaa (VN.ve (zbI (zaa zaN (zaa zaN (zaa zaN (zaa zaN (zaa zaN (zaa zaN zaf)))))))) (zaa zaN zaf)))) (zaz _)) (zdN (zb0 (zdX hr) (zbS false) (VE.w (zkr XF_many (zaZ (vr 2) (VE.w zae)))) (VE.w (ve_b zaW zb1 B boot_len (zav (vr 0) zaO))) (zaz _)))))) zal) (zad (vsS 3 nd (zax CLtwice hr (zaa (vv 0) zaf))) (zad (zbJ (zaP zgE zgM (vr 3) (VE.w zcE) (zaz _)) (zak (zas (zdO (zb0 (zdX hr) (zbS false) (VE.w (zbh (vr 2) zbp (zbq zae))) (VE.w (zaQ (zaa (VN.ve (zbI (zaa zaN (zaa zaN (zaa zaN (zaa zaN (zaa zaN (zaa zaN zaf)))))))) (zaa zaN zaf)))) (zaz _)) (zdN (zb0 (zdX hr) (zbS false) (VE.w (zkr XF_name (zaZ (vr 2) (VE.w zae)))) (vr 3) (zaz _)))))) zal) (zad (zbJ (za9 (VE.w (ve_b (zfd rfl) zpR B boot_any (zav (VE.w (VN.ve (vnC ["_law_rows_here","_law_sheet","_law_got_here","_law_name"] zb4 (NC:=["_law_row"]) [none] (zbQ (vv 0)) ((vgc 0)) (zdB) ((zb0 zgE zgM (VE.w (zaZ (vr 0) (VE.w zae))) (VE.w zcE) (zaz _)))))) zaO)))) (zak (zas (zb0 (zdX hr) (zbS false) (VE.w (zbh (vr 2) zbp (zbq zae))) (VE.w (zaQ (zaa (VN.ve (zbI (zaa zaN (zaa zaN (zaa zaN (zaa zaN (zaa zaN (zaa zaN zaf)))))))) (zaa zaN zaf)))) (zaz _)))) zal) (zak (zas (zb0 (zdX hr) (zbS false) (vr 2) (VE.w (zaQ (zaa zci (zaa (vv 1) zaf)))) (zaz _))))))))),zgV ?_⟩;intro pLrows_here pLsheet;unfold zca;exact(zaj (zat rfl) λx1=>(zaA (zao λ_ _ h=>h) (za8 (zaj (zat rfl) λx10=>(zaA (zao λ_ _ h=>h) (za8 (zaA (zao λ_ _ h=>h) (za8 (zao λ_ _ h=>h)))))))))
def zmo (S:Scr)(pLscript:D):Option D:=
 (Option.bind ((zcw S) [pLscript]) λ(x1:D)=>(Option.bind (za5 [x1]) λ(x2:D)=>(Option.bind (Option.bind (Option.bind (zaH [x1,x2]) dTru) λk4=>some (!k4)) λk3=>if k3 then(Option.bind (some (.bl false)) λ(r5:D)=>(some r5)) else(Option.bind (some (.tup [(.str "y"),(.tup [(.int 0),(.int 0),(.int 1),(.int 1)]),(.str "free"),(.int 0),D.non,(.tup [])])) λ(x6:D)=>(Option.bind (Option.bind (rngA [(.int 5)]) (zbd (λ(s7:D) (d8:D)=>(Option.bind (some (.tup [(.str "x"),(.tup [(.int 0),(.int 0),(.int 1),(.int 1)]),(.str "free"),(.int 0),(.str "nobody"),(.tup [s7])])) λ(x9:D)=>(some x9))) x6)) λ(s7:D)=>(Option.bind (Option.bind (aC (Option.bind (Option.bind (aC (Option.bind (Option.bind (Option.bind (dIx x2 (.int 0)) λv10=>(dSl v10 none (some 2))) λv11=>(dAdd v11 (.tup [(.str "open")]))) λv13=>(Option.bind (Option.bind (dIx x2 (.int 0)) λv12=>(dSl v12 (some 3) none)) λv14=>(dAdd v13 v14))) aN) mkT) λv15=>(dAdd x2 v15)) (aC (dAdd x2 (.tup [D.non])) (aC (dAdd x2 (.tup [s7])) (aC (dAdd (.tup [s7]) x2) aN)))) mkT) λ(x16:D)=>(Option.bind (dSeq x16) λds27=>Option.bind ((zcJ (λ(s17:Unit) (d18:D)=>(Option.bind (Option.bind (Option.bind (Option.bind (zaU [d18]) λv20=>(dSl v20 none (some 2))) λv21=>((dEqG true) v21 (.tup [(.lst [(.bl false),(.bl false),(.bl true),(.bl false),(.bl false),(.bl false)]),(.bl true)]))) dB) λk19=>if k19 then(Option.bind (some (.bl false)) λ(r22:D)=>(some (Fl.ret r22:Fl (Unit) (D)))) else(some (Fl.nx ():Fl (Unit) (D))))) ()) ds27) (flK λ(s17:Unit)=>(Option.bind (Option.bind (Option.bind (Option.bind (aC (dSl x1 none (some 40)) (aC (Option.bind (aC (dSl x1 none (some 40)) aN) za5) aN)) zaH) dTru) λk24=>some (!k24)) λk23=>if k23 then(Option.bind (some (.bl false)) λ(r25:D)=>(some r25)) else(Option.bind (zaH [x1,x2]) λ(r26:D)=>(some r26)))))))))))
def zoK (S:Scr):List D->Option D:=c1 (zmo S)
def sc_law:FnScope ["_law_script","_law_rows_here","_law_sheet","_law_deep","_law_k","_law_bent","_law_thing"] ["_law_script"] (zab zfs):=fsc
def zqQ (F:Fun K "law" "law" zfs f fd)(B:Blt mg){Pc:Hp->Prop}(pe:Pers Pc){S:Scr}(CLrows:Cal P w K mg base 5 "_law_rows" ["_law_script"] (pcS Pc (spF K (zcw S))))(CLhung:Cal P w K mg base 2 "_law_hung" ["_law_rows_here"] (spF K za5))(CLright:Cal P w K mg base 52 "_law_right" ["_law_rows_here","_law_sheet"] (pcS Pc (spF K zaH)))(CLgot:Cal P w K mg base 51 "_law_got" ["_law_thing"] (pcS Pc (spF K zaU))):FnOk P w K mg base CX0 (53+1) f fd ["_law_script"] (pcS Pc (spF K (zoK S))):=
 zce pe F sc_law c1_len λcdv A outer s H E hcv hr hPc hp=>by
  have nd:=sc_law.nd
  refine⟨_,(zad (vsS 1 nd (zaE CLrows hp hr (zaa (vv 0) zaf))) (zad (vsS 2 nd (zax CLhung hr (zaa (vv 1) zaf))) (zad (zbJ (zbB (za9 (VE.w (zaE CLright hp hr (zaa (vv 1) (zaa (vv 2) zaf)))))) (zak (zas zaN)) zal) (zad (vsS 3 nd (zaQ (zaa zci (zaa (zaQ (zaa zae (zaa zae (zaa zae (zaa zae zaf))))) (zaa zci (zaa zae (zaa zcE (zaa (zaQ zaf) zaf)))))))) (zad (zdm (zei B (zaa zae zaf)) (vgN 4 nd) (zad (vsS 3 nd (zaQ (zaa zci (zaa (zaQ (zaa zae (zaa zae (zaa zae (zaa zae zaf))))) (zaa zci (zaa zae (zaa zci (zaa (zaQ (zaa (vv 3) zaf)) zaf)))))))) (zbi [4] zal))) (zad (vsS 5 nd (zaQ (zaa (zaJ zbP zaY (vr 2) (VE.w (zaQ (zaa (zaJ zbP zaY (VE.w (zaJ zbP zaY (VE.w (zbh (VE.w (zaZ (vr 2) (VE.w zae))) zbp (zbq zae))) (VE.w (zaQ (zaa zci zaf))))) (VE.w (zbh (VE.w (zaZ (vr 2) (VE.w zae))) (zbq zae) zbp))) zaf)))) (zaa (zaJ zbP zaY (vr 2) (VE.w (zaQ (zaa zcE zaf)))) (zaa (zaJ zbP zaY (vr 2) (VE.w (zaQ (zaa (vv 3) zaf)))) (zaa (zaJ zbP zaY (VE.w (zaQ (zaa (vv 3) zaf))) (vr 2)) zaf)))))) (zad (zdm (zbQ (vv 5)) (vgN 6 nd) (zad (zbJ (zaP (zoi hr) (zbS true) (VE.w (zbh (VE.w (zaE CLgot hp hr (zaa (vv 6) zaf))) zbp (zbq zae))) (VE.w (zaQ (zaa (VN.ve (zbI (zaa zaN (zaa zaN (zaa zaN (zaa zaN (zaa zaN (zaa zaN zaf)))))))) (zaa zaN zaf)))) (zaz _)) (zak (zas zaN)) zal) (zbi [6] zal))) (zad (zbJ (zbB (za9 (VE.w (zaE CLright hp hr (zaa (zbh (vr 1) zbp (zbq zae)) (zaa (zax CLhung hr (zaa (zbh (vr 1) zbp (zbq zae)) zaf)) zaf)))))) (zak (zas zaN)) zal) (zak (zas (zaE CLright hp hr (zaa (vv 1) (zaa (vv 2) zaf))))))))))))),zbK ?_⟩;intro pLscript;unfold zmo;exact(zaj (zat rfl) λx1=>(zaj (zat rfl) λx2=>(zaA (zao λ_ _ h=>h) (za8 (zaj (zat rfl) λx6=>(zaj (zff (emb:=(λ(s7:D)=>[.val pLscript,.val x1,.val x2,.val s7,.un,.un,.un])) rfl (λ_=>rfl) λs7 d8=>(zaj (zat rfl) λx9=>(zbj [4] (za0 λ_ h=>h)))) λs7=>(zaj (zat rfl) λx16=>(zjR (emb:=(λ(s17:Unit)=>[.val pLscript,.val x1,.val x2,.val s7,.un,.val x16,.un])) rfl (λ_=>rfl) (λs17 d18=>(zaA (zao λ_ _ h=>h) (za8 (zbj [6] (za0 λ_ h=>h))))) λs17=>(zaA (zao λ_ _ h=>h) (za8 (zao λ_ _ h=>h)))))))))))
end
end Pg
namespace Pg
open PySem PyProof PyProof.Rows L2 VD GM GB
def zdj (x:Itm)(dp:Nat)(inn:List D):dIx (part x dp inn) (.int 0)=some (.str x.nm)/\dIx (part x dp inn) (.int 2)=some (.str x.wd)/\dIx (part x dp inn) (.int 3)=some (.int x.rk)/\dIx (part x dp inn) (.int 5)=some (.tup inn):=
 ⟨za7 (j:=0) rfl,za7 (j:=2) rfl,za7 (j:=3) rfl,za7 (j:=5) rfl⟩
def zfx (x:Itm)(dp:Nat)(inn:List D):dIx (part x dp inn) (.int 4)=some (hdO x.hd):=za7 (j:=4) rfl
theorem zng {fr:Str->Bool}:∀{n:Nat}{ds:List D},Ok n ds->∀d∈ot fr (n+1) ds,∃x dp inn,d=part x dp inn
|0,ds,o,d,h=>by rw[show ds = [] from o] at h;cases h
|n+1,ds,o,d,h=>by
   obtain⟨y,hy,hd⟩:=List.mem_flatMap.mp (show d∈List.flatMap _ ds from h);obtain⟨x,dp,inn,rfl,oi⟩:=o y hy;have hd:d∈(if fr x.wd then part x dp inn::ot fr (n+1) inn else[]):=hd
   split at hd
   .rcases wah.mp hd with rfl|hd
    .exact⟨_,_,_,rfl⟩
    .exact zng oi d hd
   .cases hd
def innD:D->List D
|.tup [_,_,_,_,_,.tup l]=>l
|_=>[]
def plI (rc:List D->List D->List D->List (List D×List D))(pre ch:List D):Nat->List D->List (List D×List D)
|_,[]=>[]
|i,d::ds=>(pre++[.int (i:Int)],ch++[d])::(rc (innD d) (pre++[.int (i:Int)]) (ch++[d])++plI rc pre ch (i+1) ds)
def zhZ (rc:List D->List D->List D->List (List D×List D))(pre ch:List D)(b:Nat)(x:Itm)(dp:Nat)(inn es:List D):plI rc pre ch b (part x dp inn::es)=(pre++[.int (b:Int)],ch++[part x dp inn])::(rc inn (pre++[.int (b:Int)]) (ch++[part x dp inn])++plI rc pre ch (b+1) es):=rfl
def pl:Nat->List D->List D->List D->List (List D×List D)
|0,_,_,_=>[]
|n+1,ds,pre,ch=>plI (pl n) pre ch 0 ds
def zgu (c:List D):D:=c.getLast?.getD .non
def zdJ (c:List D)(d:D):zgu (c++[d])=d:=by unfold zgu;simp
def ent (q:List D×List D):D:=.tup [.tup q.1,zgu q.2]
def zoL {pre:List D}{d:D}(h:pre.length<=100):dAdd (.tup pre) (.tup [d])=some (.tup (pre++[d])):=by
 rw[dAdd,if_neg (by simp)];unfold mkT;rw[if_pos (wal (by simp;omega:_<=101) (by decide))]
def zqR {xs es:List D}(h:xs.length+es.length<=1000):extL xs (.lst es)=some (xs++es):=by
 show(if(xs++es).length<=lim then _ else _)=_
 rw[if_pos (wal (by rw[wap];omega:_<=1000) (by decide))]
def ac2 (a b:D):aC (some a) (aC (some b) aN)=some [a,b]:=rfl
def zoM {S:Type}(f:S->D->Option S)(s:S)(d:D)(ds:List D):zbd f s (d::ds)=(f s d).bind λs=>zbd f s ds:=rfl
def zkE:∀{n:Nat}{ds pre ch:List D},Ok n ds->(pl (n+1) ds pre ch).length<=1000->pre.length+n<=100->zaC (n+1) [.tup ds,.tup pre]=some (.lst ((pl (n+1) ds pre ch).map ent)):=by
 intro n;induction n with
|zero=>intro ds pre ch o _ _;rw[show ds = [] from o];rfl
|succ n ih=>
   intro ds pre ch o hl hp;show zbl (zaC (n+1)) (.tup ds) (.tup pre)=_
   unfold zbl;rw[zOB];show Option.bind (Option.bind (some (zdV ds)) _) _=_
   rw[zOB];generalize hf:(λ(s2:List D) (d8:D)=>Option.bind (un2 d8) _)=f;have stp:∀(acc:List D) (i:Nat) (x:Itm) (dp:Nat) (inn:List D),Ok n inn->acc.length+1+(pl (n+1) inn (pre++[.int (i:Int)]) (ch++[part x dp inn])).length<=1000->
    f acc (.tup [.int (i:Int),part x dp inn])=some (acc++ent (pre++[.int (i:Int)],ch++[part x dp inn])::(pl (n+1) inn (pre++[.int (i:Int)]) (ch++[part x dp inn])).map ent):=by
    intro acc i x dp inn oi ha;rw[<-hf];show Option.bind (dAdd (.tup pre) (.tup [.int (i:Int)])) _=_
    rw[zoL (by omega),zOB,zgX (wbB (by omega:_<=1000) (by decide)),zOB,(zdj x dp inn).2.2.2,ac2,zOB,ih (ch:=ch++[part x dp inn]) oi (by omega) (by simp;omega),zOB,zqR (by simp;omega),zOB];unfold ent;rw[zdJ];simp
   have key:∀(ds:List D) (b:Nat) (acc:List D),(∀d∈ds,∃x dp inn,d=part x dp inn/\Ok n inn)->acc.length+(plI (pl (n+1)) pre ch b ds).length<=1000->zbd f acc ((ds.zipIdx b).map λp=>.tup [.int (p.2:Nat),p.1])=some (acc++(plI (pl (n+1)) pre ch b ds).map ent):=by
    intro ds;induction ds with
   |nil=>intro b acc _ _;show some acc=some (acc++[]);rw[waI]
   |cons d ds ih2=>
      intro b acc o ha;obtain⟨x,dp,inn,rfl,oi⟩:=o d wak;rw[zhZ] at ha⊢;rw[wba,wap] at ha;rw[List.zipIdx_cons,waK,zoM,stp acc b x dp inn oi (by omega),zOB,ih2 _ _ (λy hy=>o y (wag _ hy)) (by simp;omega)];simp
   have e9:=key ds 0 [] o (by rw[wbV,Nat.zero_add];exact hl)
   rw[show(zbd f [] (zdV ds))=_ from e9];rfl
def zkF:∀{n:Nat}{ds pre ch:List D},Ok n ds->(pl (n+1) ds pre ch).map (λq=>zgu q.2)=ot (λ_=>true) (n+1) ds:=by
 intro n;induction n with
|zero=>intro ds pre ch o;rw[show ds = [] from o];rfl
|succ n ih=>
   intro ds pre ch o;have key:∀(es:List D) (b:Nat),(∀d∈es,∃x dp inn,d=part x dp inn/\Ok n inn)->(plI (pl (n+1)) pre ch b es).map (λq=>zgu q.2)=ot (λ_=>true) (n+1+1) es:=by
    intro es;induction es with
   |nil=>intro b _;rfl
   |cons d es ih2=>
      intro b o;obtain⟨x,dp,inn,rfl,oi⟩:=o d wak;rw[zhZ,zoJ,waK,waS,ih oi,ih2 _ λy hy=>o y (wag _ hy),zdJ];rfl
   exact key ds 0 o
def inD (P:List Nat):List D:=P.map λ(i:Nat)=>D.int (i:Int)
def tri (q:List D×List D):List D×D:=(q.1,zgu q.2)
def trI (rc:List D->List Nat->List (List D×D))(pre:List Nat):Nat->List D->List (List D×D)
|_,[]=>[]
|b,d::ds=>(inD (pre++[b]),d)::(rc (innD d) (pre++[b])++trI rc pre (b+1) ds)
def tr:Nat->List D->List Nat->Nat->List (List D×D)
|0,_,_,_=>[]
|n+1,ds,pre,b=>trI (λinn pre=>tr n inn pre 0) pre b ds
def zmp (P:List Nat)(b:Nat):inD (P++[b])=inD P++[.int (b:Int)]:=by unfold inD;rw[waS];rfl
def zrM:∀{n:Nat}{ds:List D}{pre:List Nat}{ch:List D},(pl n ds (inD pre) ch).map tri=tr n ds pre 0:=by
 intro n;induction n with
|zero=>intro ds pre ch;rfl
|succ n ih=>
   intro ds pre ch;have key:∀(es:List D) (b:Nat),(plI (pl n) (inD pre) ch b es).map tri=tr (n+1) es pre b:=by
    intro es;induction es with
   |nil=>intro b;rfl
   |cons d es ih2=>
      intro b;show(inD pre++[.int (b:Int)],zgu (ch++[d]))::(pl n (innD d) (inD pre++[.int (b:Int)]) (ch++[d])++plI (pl n) (inD pre) ch (b+1) es).map tri=(inD (pre++[b]),d)::(tr n (innD d) (pre++[b]) 0++tr (n+1) es pre (b+1))
      rw[waS,<-zmp,ih,ih2,zdJ]
   exact key ds 0
def bat (P:List Nat)(d:Nat):Nat:=match P[d]? with
|some i=>i+1
|none=>0
def stp (P:List Nat)(c:Nat):List Nat:=P.take c++[bat P c]
def trL:List Nat->List Itm->List (List D×D)
|_,[]=>[]
|P,x::S=>(inD (stp P x.dp),part x 0 (fo S (x.dp+1)))::trL (stp P x.dp) S
def sl (G:Nat->List (List D×D)):Nat->List (List D×D)
|0=>[]
|d+1=>G d++sl G d
theorem zkG {G:Nat->List (List D×D)}{m:Nat}(h:∀d,m<=d->G d = []):∀k,sl G (m+k)=sl G m
|0=>rfl
|k+1=>by
   show G (m+k)++sl G (m+k)=_
   rw[h _ (by omega),zkG h k];simp
theorem zh0 {G K:Nat->List (List D×D)}:∀{m:Nat},(∀d,d<m->G d=K d)->sl G m=sl K m
|0,_=>rfl
|m+1,h=>by
   show G m++sl G m=K m++sl K m
   rw[h m (by omega),zh0 λd hd=>h d (by omega)]
def zqS {P:List Nat}{c d:Nat}(h:d<c)(hc:c<=P.length):bat (stp P c) d=bat P d:=by
 unfold bat stp;rw[waX (by rw[wbo];omega),List.getElem?_take,if_pos h]
def zqT {P:List Nat}{c:Nat}(hc:c<=P.length):bat (stp P c) c=bat P c+1:=by
 have:(stp P c)[c]?=some (bat P c):=by
  unfold stp;rw[waV (by rw[wbo];omega),wbo,wcH hc,Nat.sub_self];rfl
 show(match (stp P c)[c]? with|some i=>i+1|none=>0)=_
 rw[this]
def zhb {P:List Nat}{c:Nat}(hc:c<=P.length):(stp P c).length=c+1:=by unfold stp;rw[wap,wbo,wcH hc];rfl
def zqU {P:List Nat}{c:Nat}(hc:P.length<=c):bat P c=0:=by unfold bat;rw[waO hc]
def zh1 {P:List Nat}{c d:Nat}(h:d<=c)(hc:c<=P.length):(stp P c).take d=P.take d:=by
 unfold stp;rw[List.take_append_of_le_length (by rw[wbo];omega),List.take_take,wcH h]
theorem zkH:∀{m:Nat}{S:List Itm},Vd m S->∀(P:List Nat),P.length=m->trL P S=sl (λd=>tr (8 - d) (fo S d) (P.take d) (bat P d)) (m+1)
|m,_,.nil,P,hP=>by
   have:∀k,sl (λd=>tr (8 - d) (fo [] d) (P.take d) (bat P d)) k = []:=λk=>by
    induction k with
   |zero=>rfl
   |succ k ih=>
      show tr (8 - k) [] _ _++sl _ k = []
      rw[ih];have:tr (8 - k) [] (P.take k) (bat P k) = []:=by cases 8 - k <;> rfl
      rw[this];rfl
   rw[this];rfl
|m,_,.cons (x:=x) (S:=S) hm h4 t,P,hP=>by
   obtain⟨c,hc⟩:∃c,x.dp=c:=⟨_,rfl⟩
   have ih:=zkH t (stp P c) (by rw[zhb (by omega),hc])
   have f1:fo (x::S) c=part x 0 (fo S (c+1))::fo S c:=by
    show(if c=x.dp then _ else _)=_
    rw[if_pos hc.symm]
   have f2:∀d,d<c->fo (x::S) d=fo S d:=λd hd=>by
    show(if d=x.dp then _ else if d=x.dp+1 then[] else fo S d)=_
    rw[if_neg (by omega),if_neg (by omega)]
   have f3:∀d,c+1<=d->fo (x::S) d = []:=λd hd=>by
    show(if d=x.dp then _ else if d=x.dp+1 then[] else fo S d)=_
    rw[if_neg (by omega)];by_cases e:d=x.dp+1
    .rw[if_pos e]
    .rw[if_neg e];exact zkB t d (by omega)
   have o0:∀n pre b,tr n [] pre b = []:=λn pre b=>by cases n <;> rfl
   have e1:sl (λd=>tr (8 - d) (fo (x::S) d) (P.take d) (bat P d)) (m+1)=sl (λd=>tr (8 - d) (fo (x::S) d) (P.take d) (bat P d)) (c+1):=by
    have:=zkG (G:=λd=>tr (8 - d) (fo (x::S) d) (P.take d) (bat P d)) (m:=c+1) (λd hd=>by show tr (8 - d) _ _ _ = [];rw[f3 d hd,o0]) (m - c)
    rw[show c+1+(m - c)=m+1 by omega] at this;exact this
   have lower:sl (λd=>tr (8 - d) (fo S d) ((stp P c).take d) (bat (stp P c) d)) c=sl (λd=>tr (8 - d) (fo (x::S) d) (P.take d) (bat P d)) c:=zh0 λd hd=>by rw[f2 d hd,zh1 (by omega) (by omega),zqS hd (by omega)]
   rw[e1];show(inD (stp P x.dp),part x 0 (fo S (x.dp+1)))::trL (stp P x.dp) S=tr (8 - c) (fo (x::S) c) (P.take c) (bat P c)++sl _ c
   rw[hc,f1,<-lower,show 8 - c=(8 - (c+1))+1 by omega];show _=(inD (P.take c++[bat P c]),part x 0 (fo S (c+1)))::(tr (8 - (c+1)) (fo S (c+1)) (P.take c++[bat P c]) 0++tr (8 - (c+1)+1) (fo S c) (P.take c) (bat P c+1))++_
   rw[List.cons_append];refine wbQ _ ?_;rw[hc] at ih;refine ih.trans ?_;show tr (8 - (c+1)) (fo S (c+1)) ((stp P c).take (c+1)) (bat (stp P c) (c+1))++(tr (8 - c) (fo S c) ((stp P c).take c) (bat (stp P c) c)++sl (λd=>tr (8 - d) (fo S d) ((stp P c).take d) (bat (stp P c) d)) c)=_
   rw[zqU (c:=c+1) (wbd (zhb (by omega))),List.take_of_length_le (wbd (zhb (by omega))),zh1 (wan _) (by omega),zqT (by omega),waN,show 8 - c=8 - (c+1)+1 by omega];rfl
def zfy {L:List Itm}(t:Vd 0 L):(pl 8 (fo L 0) [] []).map tri=trL [] L:=by
 have:=zkH t [] rfl
 rw[show sl (λd=>tr (8 - d) (fo L d) (([]:List Nat).take d) (bat [] d)) (0+1)=tr 8 (fo L 0) [] 0++[] from rfl,waI] at this;rw[this];exact zrM (n:=8) (pre:=[])
theorem zfz:∀{P:List Nat}{L:List Itm},(trL P L).length=L.length
|_,[]=>rfl
|P,x::S=>by show(trL _ S).length+1=_;rw[zfz];rfl
theorem znh:∀{P:List Nat}{L:List Itm},(trL P L).map (λq=>(nr q.2).2)=L.map Itm.nm
|_,[]=>rfl
|P,x::S=>by show x.nm::(trL _ S).map _=_;rw[znh];rfl
def zni {L:List Itm}(t:Vd 0 L):(ot (λ_=>true) 8 (fo L 0))=(trL [] L).map (·.2):=by
 have o:Ok 7 (fo L 0):=(zgh t 0).up
 rw[<-zkF (pre:=[]) (ch:=[]) o,<-zfy t,wbr];rfl
def znj {L:List Itm}(t:Vd 0 L):(ot (λ_=>true) 8 (fo L 0)).length=L.length:=by
 rw[zni t,waj,zfz]
def zgv {ds:List D}(o:Ok 7 ds)(hl:(ot (λ_=>true) 8 ds).length<=1000):zaq [.tup ds]=some (.lst ((pl 8 ds [] []).map ent)):=by
 have l1:(pl 8 ds [] []).length<=1000:=by
  have:=wbQ List.length (zkF (pre:=[]) (ch:=[]) o)
  rw[waj] at this;show(pl (7+1) ds [] []).length<=1000
  rw[this];exact hl
 show zbu (.tup ds)=_
 unfold zbu;rw[zkE (n:=7) (ch:=[]) o l1 (by decide)];rfl
def zh2 {L:List Itm}(t:Vd 0 L)(hl:L.length<=1000):zbN [.tup (fo L 0)]=some (.lst ((trL [] L).map (·.2))):=by
 have o:Ok 7 (fo L 0):=(zgh t 0).up
 have hll:(pl 8 (fo L 0) [] []).length<=1000:=by
  have:=wbQ List.length (zfy t)
  rw[waj,zfz] at this;omega
 show zcZ _=_
 unfold zcZ;rw[zgv o (by rw[znj t];omega),zOB];show Option.bind (Option.bind (zbW _ ((pl 8 (fo L 0) [] []).map ent)) _) _=_
 rw[zdp ent (λq=>zgu q.2) (by omega) λq hq=>rfl,<-zfy t,wbr];rfl
def ziL {L:List Itm}(t:Vd 0 L)(hl:L.length<=1000):zaq [.tup (fo L 0)]=some (.lst ((trL [] L).map λq=>.tup [.tup q.1,q.2])):=by
 have o:Ok 7 (fo L 0):=(zgh t 0).up
 rw[zgv o (by rw[znj t];omega),<-zfy t,wbr];rfl
def zc4 {L:List Itm}(t:Vd 0 L)(hl:L.length<=1000):zbf [.tup (fo L 0)]=some (.lst ((L.map Itm.nm).map D.str)):=by
 show zc0 _=_
 unfold zc0;rw[zh2 t hl,zOB];show Option.bind (Option.bind (zbW _ ((trL [] L).map (·.2))) _) _=_
 rw[zdp (·.2) (λq:List D×D=>D.str (nr q.2).2) (by rw[zfz];omega) λq hq=>?_]
 .rw[zOB,zOB,<-znh (P:=[]),wbr];rfl
 .have:q.2∈ot (λ_=>true) (7+1) (fo L 0):=by
   rw[show ot (λ_=>true) (7+1) (fo L 0)=_ from zni t];exact waD.mpr ⟨q,hq,rfl⟩
  obtain⟨x,dp,inn,ex⟩:=zng (zgh t 0).up _ this;rw[ex,(zdj x dp inn).1];rfl
def nmOk (y:Str):Prop:=1<=y.length/\y.length<=8/\∀c∈y.cps.toList,97<=c/\c<123
def zqV {c:Nat}(h0:97<=c)(h1:c<123):inTx ⟨#[c]⟩ "abcdefghijklmnopqrstuvwxyz"=true:=by
 have h:∀i<26,inTx ⟨#[97+i]⟩ "abcdefghijklmnopqrstuvwxyz"=true:=by decide +kernel
 have:=h (c - 97) (by omega)
 rwa [show 97+(c - 97)=c by omega] at this
theorem zeD {C:Type}{f:D->Option Bool}(h:C->D)(g:C->Bool):∀{ds:List C},(∀d∈ds,f (h d)=some (g d))->zfr f (ds.map h)=some (ds.map g)
|[],_=>rfl
|d::ds,k=>by
   show(f (h d)).bind _=_
   rw[k d wak,zOB,zeD h g λy hy=>k y (wag _ hy)];rfl
def zmq {C:Type}{g:C->Bool}{ds:List C}(h:∀d∈ds,g d=true):(ds.map g).all id=true:=by
 rw[waB];intro b hb;obtain⟨d,hd,rfl⟩:=waD.mp hb;exact h d hd
def zhc {y:Str}(h:nmOk y):zbm [.str y]=some (.bl true):=by
 obtain⟨h1,h2,h3⟩:=h;have l:bLen [.str y]=some (.int y.length):=if_pos (wal h2 (by decide))
 show zdv _=_
 unfold zdv;rw[show isD "str" (.str y)=some (.bl true) from rfl,l];show Option.bind (Option.bind (Option.bind (Option.bind (some (D.bl (decide ((1:Int)<=(y.length:Int))))) λzk3=>Option.bind (dB zk3) λk3=>if k3 then(dLe (.int y.length) (.int 8)) else some (.bl false)) dB) λk2=>some (!k2)) _=_
 rw[waz (show(1:Int)<=(y.length:Int) by omega)];show Option.bind (Option.bind (Option.bind (some (D.bl (decide ((y.length:Int)<=8)))) dB) λk2=>some (!k2)) _=_
 rw[waz (show(y.length:Int)<=8 by omega)];show Option.bind (Option.bind (some (y.cps.toList.map λc=>D.str ⟨#[c]⟩)) _) _=_
 rw[zOB,zeD (λc=>D.str ⟨#[c]⟩) (λ_=>true) λc hc=>by
  show some (inTx ⟨#[c]⟩ "abcdefghijklmnopqrstuvwxyz")=_
  rw[zqV (h3 c hc).1 (h3 c hc).2],zOB,zmq λ_ _=>rfl]
 rfl
def znk {x:Itm}(h1:1<=x.bc)(h2:1<=x.bd):zc1 [x.bx]=some (.bl true):=by
 show zd8 (.tup [.int x.ba,.int x.bb,.int x.bc,.int x.bd])=_
 unfold zd8;have g:∀a b:Int,dGe (.int a) (.int b)=some (.bl (decide (b<=a))):=λ_ _=>rfl
 have i2:dIx (.tup [.int x.ba,.int x.bb,.int x.bc,.int x.bd]) (.int 2)=some (.int x.bc):=za7 (j:=2) rfl
 have i3:dIx (.tup [.int x.ba,.int x.bb,.int x.bc,.int x.bd]) (.int 3)=some (.int x.bd):=za7 (j:=3) rfl
 rw[i2,i3];show Option.bind (Option.bind (Option.bind (some (D.bl (decide (1<=x.bc)))) dB) λk11=>if k11 then(some (D.bl (decide (1<=x.bd)))) else some (.bl false)) _=_
 rw[waz h1,waz h2];rfl
def Wd (w:Str):Prop:=w = "free"\/w = "shut"\/w = "hidden"
def zoN {w:Str}(h:Wd w):zbV [.str w]=some (.bl true):=by
 rcases h with rfl|rfl|rfl <;> rfl
def zoO {r:Int}(h:0<=r):zcP [.int r]=some (.bl true):=by
 show Option.bind (some (D.bl (decide (0<=r)))) _=_
 rw[waz h];rfl
def zoP {h:Option Str}(k:∀y,h=some y->nmOk y):zcQ [hdO h]=some (.bl true):=by
 cases h with
|none=>rfl
|some y=>
   show Option.bind (zbm [.str y]) _=_
   rw[zhc (k y rfl)];rfl
structure Gd (x:Itm):Prop where
 nm:nmOk x.nm
 c:1<=x.bc
 d:1<=x.bd
 wd:Wd x.wd
 rk:0<=x.rk
 hd:∀y,x.hd=some y->nmOk y
def zgw {self:List D->Option D}{x:Itm}(g:Gd x){dp:Nat}{inn:List D}{deep:Int}{b:Bool}(h:self [.tup inn,.int (deep+1)]=some (.bl b)):(zau self) [part x dp inn,.int deep]=some (.bl b):=by
 show zcl self (.tup [.str x.nm,x.bx,.str x.wd,.int x.rk,hdO x.hd,.tup inn]) (.int deep)=_
 unfold zcl;show Option.bind (Option.bind (Option.bind (Option.bind (zbm [.str x.nm]) dTru) λk12=>some (!k12)) λk11=>if k11 then some true else(Option.bind (Option.bind (Option.bind (zc1 [x.bx]) dTru) λk10=>some (!k10)) λk9=>if k9 then some true else(Option.bind (Option.bind (zbV [.str x.wd]) dTru) λk8=>some (!k8)))) _=_
 rw[zhc g.nm,znk g.c g.d,zoN g.wd];show Option.bind (Option.bind (Option.bind (zcP [.int x.rk]) dB) λk15=>if k15 then(Option.bind (Option.bind (zcQ [hdO x.hd]) dB) λk14=>if k14 then(Option.bind (aC (some (.tup inn)) (aC (some (.int (deep+1))) aN)) self) else some (.bl false)) else some (.bl false)) _=_
 rw[zoO g.rk,zoP g.hd];show Option.bind (self [.tup inn,.int (deep+1)]) _=_
 rw[h];rfl
def znl {n:Nat}{ds:List D}{deep:Int}(bf:D->Bool)(hd:deep<=5)(hp:∀d∈ds,zau (zag n) [d,.int deep]=some (.bl (bf d))):zag (n+1) [.tup ds,.int deep]=some (.bl (ds.all bf)):=by
 show zcs (zag n) (.tup ds) (.int deep)=_
 unfold zcs;rw[show isD "tuple" (.tup ds)=some (.bl true) from rfl,show dGt (.int deep) (.int 5)=some (.bl (decide (5<deep))) from rfl,waq (by omega)];have e:(Option.bind (dTru (.tup ds)) λk5=>if k5 then(Option.bind (some (D.bl false)) dB) else some false)=some false:=by
  show(if(!ds.isEmpty)=true then some false else some false)=_
  split <;> rfl
 show Option.bind (Option.bind (dTru (.tup ds)) λk5=>if k5 then(Option.bind (some (D.bl false)) dB) else some false) _=_
 rw[e];show Option.bind (Option.bind (zfr (λd7=>Option.bind ((zau (zag n)) [d7,.int deep]) dB) ds) _) _=_
 have hb:zfr (λd7=>Option.bind ((zau (zag n)) [d7,.int deep]) dB) ds=some (ds.map bf):=by
  have:=zeD (f:=λd7=>Option.bind ((zau (zag n)) [d7,.int deep]) dB) (λd=>d) bf (ds:=ds) λd hd=>by rw[hp d hd];rfl
  rwa [List.map_id'] at this
 rw[hb,zOB,zOB,List.all_map];rfl
def zoQ (n:Nat)(deep:Int):zag (n+1) [.tup [],.int deep]=some (.bl true):=rfl
def GOk:Nat->List D->Prop
|0,ds=>ds = []
|n+1,ds=>∀d∈ds,∃x dp inn,d=part x dp inn/\Gd x/\GOk n inn
def GOk.nil:∀{n:Nat},GOk n []
|0=>rfl
|_+1=>λd h=>by cases h
theorem gfo:∀{m:Nat}{S:List Itm},Vd m S->(∀x∈S,Gd x)->∀d,d<=5->GOk (5 - d) (fo S d)
|_,_,.nil,_,_,_=>GOk.nil
|m,_,.cons (x:=x) (S:=S) hm h4 t,g,d,h5=>by
   have gS:∀y∈S,Gd y:=λy hy=>g y (wag _ hy)
   show GOk (5 - d) (if d=x.dp then part x 0 (fo S (d+1))::fo S d else if d=x.dp+1 then[] else fo S d)
   by_cases e:d=x.dp
   .rw[if_pos e];have h1:=gfo t gS (d+1) (by omega)
    have h2:=gfo t gS d h5
    rw[show 5 - d=(5 - (d+1))+1 by omega] at h2⊢;intro y hy;rcases wah.mp hy with rfl|hy
    .exact⟨_,_,_,rfl,g x wak,h1⟩
    .exact h2 y hy
   .rw[if_neg e];by_cases e2:d=x.dp+1
    .rw[if_pos e2];exact GOk.nil
    .rw[if_neg e2];exact gfo t gS d h5
theorem zkI:∀{n:Nat}{ds:List D}{deep:Int}{m:Nat},GOk n ds->deep+n<=6->n+1<=m->zag m [.tup ds,.int deep]=some (.bl true)
|0,ds,deep,m+1,o,_,_=>by rw[show ds = [] from o];exact zoQ m deep
|n+1,ds,deep,m+1,o,hd,hm=>by
   rw[znl (n:=m) (λ_=>true) (by omega) λd h=>by
    obtain⟨x,dp,inn,rfl,g,oi⟩:=o d h;exact zgw g (zkI oi (by omega) (by omega))]
   simp
def zqW {ds:List D}(o:GOk 5 ds):∀d∈ds,zau (zag 6) [d,.int 1]=some (.bl true):=λd h=>by
 obtain⟨x,dp,inn,rfl,g,oi⟩:=o d h;exact zgw g (zkI (n:=4) oi (by decide) (by decide))
def dupF:List Str->List Str->Option Str
|_,[]=>none
|seen,x::r=>if x∈seen then some x else dupF (seen++[x]) r
theorem zd9:∀{seen r:List Str},seen.Nodup->(dupF seen r=none↔(seen++r).Nodup)
|seen,[],h=>by simp[dupF,h]
|seen,x::r,h=>by
   unfold dupF;by_cases hx:x∈seen
   .rw[if_pos hx];refine⟨(λz=>nomatch z),λz=>?_⟩;rw[wbl] at z;exact absurd rfl (z.2.2 x hx x wak)
   .rw[if_neg hx,zd9 (by rw[wbl];exact⟨h,by simp,λa ha b hb=>by rw[wao.mp hb];rintro rfl;exact hx ha⟩),waN];rfl
def ziM (x:Str):D:=.exc "Twice" ["name"] [.str x]
def znm {xs:List Str}{i:Nat}(h:i<=xs.length):dSl (.lst (xs.map D.str)) none (some (i:Int))=some (.lst ((xs.take i).map D.str)):=by
 show some (D.lst (VD.cut (xs.map D.str) none (some (i:Int))))=_
 rw[zfl (by omega) (by rw[waj];omega),<-List.map_take,wbY]
def zeY (N:List Str):zgb [.lst (N.map D.str)]=some (N.zipIdx.map λp=>.tup [.int (p.2:Nat),.str p.1]):=by
 have e:zgb [.lst (N.map D.str)]=some (zdV (N.map D.str)):=rfl
 rw[e,zj4]
theorem zkJ {f:Unit->D->Option (Fl Unit D)}{N:List Str}(hf:∀i x,N[i]?=some x->f () (.tup [.int (i:Nat),.str x])=if x∈N.take i then some (.ret (ziM x)) else some (.nx ())):∀{r:List Str}{b:Nat},N.drop b=r->zcJ f () ((r.zipIdx b).map λp=>.tup [.int (p.2:Nat),.str p.1])=some (match dupF (N.take b) r with|some x=>.ret (ziM x)|none=>.nx ())
|[],b,_=>rfl
|x::r,b,h=>by
   have hx:N[b]?=some x:=by
    have q:(N.drop b)[0]?=N[b+0]?:=List.getElem?_drop
    rw[h,Nat.add_zero] at q;exact q.symm
   have ht:N.take (b+1)=N.take b++[x]:=by rw[List.take_add_one,hx];rfl
   rw[List.zipIdx_cons,waK];show(f () (.tup [.int (b:Nat),.str x])).bind _=_
   rw[hf b x hx];unfold dupF;by_cases q:x∈N.take b
   .rw[if_pos q,if_pos q];rfl
   .rw[if_neg q,if_neg q,zOB];show zcJ f () _=_
    rw[zkJ hf (r:=r) (b:=b+1) (by rw[<-List.drop_drop,h];rfl),ht]
def zoR {N:List Str}(ok:∀x∈N,okTx x=true):zbz [.lst (N.map D.str)]=(dupF [] N).map ziM:=by
 show zby (.lst (N.map D.str))=_
 unfold zby;rw[zeY,zOB,zkJ (N:=N) (r:=N) (b:=0) (λi x hx=>?_) rfl]
 .rw[List.take_zero,zOB];cases dupF [] N <;> rfl
 .have hi:i<N.length:=(wai.mp hx).1
  show Option.bind (Option.bind (Option.bind (dSl (.lst (N.map D.str)) none (some (i:Int))) _) dB) _=_
  rw[znm (by omega),zOB,zer];by_cases q:x∈N.take i
  .rw[waz q,if_pos q];show Option.bind (rz "Twice" "name" zd0 (.str x)) _=_
   rw[show rz "Twice" "name" zd0 (.str x)=some (ziM x) from if_pos (ok x (waH hx))];rfl
  .rw[waq q,if_neg q];rfl
theorem zhd {f:Unit->D->Option Unit}:∀{l:List D},(∀d∈l,f () d=some ())->zbd f () l=some ()
|[],_=>rfl
|d::l,h=>by
   show(f () d).bind _=_
   rw[h d wak,zOB];exact zhd λy hy=>h y (wag _ hy)
def ziN {C:Type}{N:List C}(nd:N.Nodup){i:Nat}{x:C}(h:N[i]?=some x):x∉N.take i:=λq=>by
 obtain⟨j,hj⟩:=wcc q;rw[List.getElem?_take] at hj;split at hj
 .rename_i hji
  have:=(wcs (by have:=(wai.mp h).1;omega) nd).mp (hj.trans h.symm)
  omega
 .cases hj
def zhe {N:List Str}(nd:N.Nodup):zaS [.lst (N.map D.str)]=some .non:=by
 show zbv (.lst (N.map D.str))=_
 unfold zbv;rw[zeY,zOB,zhd λd hd=>?_]
 .rfl
 .obtain⟨p,hp,rfl⟩:=waD.mp hd;obtain⟨x,i⟩:=p;have hx:N[i]?=some x:=List.mem_zipIdx_iff_getElem?.mp hp
  have hi:i<N.length:=(wai.mp hx).1
  show Option.bind (Option.bind (Option.bind (dSl (.lst (N.map D.str)) none (some (i:Int))) _) dB) _=_
  rw[znm (by omega),zOB,zer,waq (ziN nd hx)];rfl
theorem zeZ {S:Type}{f:S->D->Option S}{d:D}:∀{ds:List D}{s:S},zbd f s (ds++[d])=(zbd f s ds).bind λs=>f s d
|[],s=>by show(f s d).bind (λs=>some s)=f s d;cases f s d <;> rfl
|e::ds,s=>by
   show(f s e).bind (λs=>zbd f s (ds++[d]))=((f s e).bind λs=>zbd f s ds).bind _
   cases f s e with
  |none=>rfl
  |some s'=>exact zeZ
def wt (S:List Itm):List D:=[.lst (fo S 0).reverse,.lst (fo S 1).reverse,.lst (fo S 2).reverse,.lst (fo S 3).reverse,.lst (fo S 4).reverse,.lst (fo S 5).reverse]
theorem ze0:∀{S:List Itm}{d:Nat},(fo S d).length<=S.length
|[],_=>wan _
|x::S,d=>by
   show(if d=x.dp then part x 0 (fo S (d+1))::fo S d else if d=x.dp+1 then[] else fo S d).length<=S.length+1
   have:=ze0 (S:=S) (d:=d)
   split
   .simp;omega
   .split
    .simp
    .omega
def zoS {x:Itm}{S:List Itm}{e:Nat}(h:x.dp=e)(d:Nat):fo (x::S) d=if d=e then part x 0 (fo S (e+1))::fo S d else if d=e+1 then[] else fo S d:=by
 show(if d=x.dp then part x 0 (fo S (d+1))::fo S d else if d=x.dp+1 then[] else fo S d)=_
 rw[h];by_cases z:d=e
 .subst z;simp
 .rw[if_neg z,if_neg z]
def zqX {S:List Itm}{e:Nat}(he:e<=4):zlZ (wt S) [] (.int (e+1))=some ((wt S).set (e+1) (.lst [])):=by
 match e,he with
|0,_=>rfl
|1,_=>rfl
|2,_=>rfl
|3,_=>rfl
|4,_=>rfl
def zrN {S:List Itm}{e:Nat}(he:e<=4):ix2C (wt S) (.int (e+1))=some (.lst (fo S (e+1)).reverse):=by
 match e,he with
|0,_=>rfl
|1,_=>rfl
|2,_=>rfl
|3,_=>rfl
|4,_=>rfl
def zqY {x:Itm}{S:List Itm}{e:Nat}(he:e<=4)(h:x.dp=e)(hs:S.length<=1000):zl0 ((wt S).set (e+1) (.lst [])) (.int e) (part x 0 (fo S (e+1)))=some (wt (x::S)):=by
 have hb:∀d,(fo S d).reverse.length<lim:=λd=>wbB (by rw[wbv];exact wal ze0 hs) (by decide:1000<lim)
 have fc:=zoS (S:=S) h
 match e,he with
|0,_=>
   show(if(fo S 0).reverse.length<lim then _ else none)=_
   rw[if_pos (hb 0)];simp[wt,fc]
|1,_=>
   show(if(fo S 1).reverse.length<lim then _ else none)=_
   rw[if_pos (hb 1)];simp[wt,fc]
|2,_=>
   show(if(fo S 2).reverse.length<lim then _ else none)=_
   rw[if_pos (hb 2)];simp[wt,fc]
|3,_=>
   show(if(fo S 3).reverse.length<lim then _ else none)=_
   rw[if_pos (hb 3)];simp[wt,fc]
|4,_=>
   show(if(fo S 4).reverse.length<lim then _ else none)=_
   rw[if_pos (hb 4)];simp[wt,fc]
def zkK {L:List Itm}(h4:∀x∈L,x.dp<=4)(hl:L.length<=1000):za5 [rowsD L]=some (.tup (fo L 0)):=by
 show zcx (.lst (L.map Itm.d))=_
 unfold zcx;rw[zOB];show Option.bind (Option.bind (some (L.map Itm.d).reverse) _) _=_
 rw[zOB];generalize hf:(λ(s2:List D) (d3:D)=>(Option.bind (Option.bind (aC _ aN) bTuple) λ(x7:D)=>_))=f;have stp:∀(x:Itm) (S:List Itm),x.dp<=4->S.length<=1000->f (wt S) x.d=some (wt (x::S)):=by
  intro x S h4 hs;obtain⟨e,he⟩:∃e,x.dp=e:=⟨_,rfl⟩
  have e4:e<=4:=by omega
  rw[<-hf];have b0:dIx x.d (.int 0)=some (.int (e:Int)):=by rw[<-he];exact za7 (j:=0) rfl
  have b3:dAdd (.int (e:Int)) (.int 1)=some (.int ((e:Int)+1)):=rfl
  have b4:dSl x.d (some 1) none=some (.tup [.str x.nm,x.bx,.str x.wd,.int x.rk,hdO x.hd]):=rfl
  dsimp only[];rw[b0,b4];show Option.bind (Option.bind (aC (Option.bind (Option.bind (Option.bind (dAdd (.int (e:Int)) (.int 1)) λv5=>ix2C (wt S) v5) λv6=>(Option.bind (dLst v6) λds=>some ds.reverse)) λds=>some (.lst ds)) aN) bTuple) _=_
  rw[b3,zOB,zrN e4,zOB];show Option.bind (Option.bind (some [D.lst (fo S (e+1)).reverse.reverse]) bTuple) _=_
  rw[List.reverse_reverse,zOB];show Option.bind (some (D.tup (fo S (e+1)))) _=_
  rw[zOB];show Option.bind (Option.bind (dAdd (.int (e:Int)) (.int 1)) λv9=>zlZ (wt S) [] v9) _=_
  rw[b3,zOB,zqX e4,zOB];show Option.bind (Option.bind (mkT ([.str x.nm,x.bx,.str x.wd,.int x.rk,hdO x.hd]++[.tup (fo S (e+1))])) λv13=>zl0 ((wt S).set (e+1) (D.lst [])) (.int (e:Int)) v13) _=_
  rw[show mkT ([.str x.nm,x.bx,.str x.wd,.int x.rk,hdO x.hd]++[.tup (fo S (e+1))])=some (part x 0 (fo S (e+1))) from if_pos (by show 6<=lim;decide),zOB,zqY e4 he hs];rfl
 have key:∀(S:List Itm),(∀x∈S,x.dp<=4)->S.length<=1000->zbd f (wt []) (S.map Itm.d).reverse=some (wt S):=by
  intro S;induction S with
 |nil=>intro _ _;rfl
 |cons x S ih=>
    intro t hl;rw[wba] at hl;rw[waK,wbX,zeZ,ih (λy hy=>t y (wag _ hy)) (by omega),zOB];exact stp x S (t x wak) (by omega)
 show Option.bind (zbd f (wt []) (L.map Itm.d).reverse) _=_
 rw[key L h4 hl,zOB];show Option.bind (bTuple [.lst (fo L 0).reverse.reverse]) _=_
 rw[List.reverse_reverse];rfl
def prD (q:Str×Str):D:=.tup [.str q.1,.str q.2]
def Fwd (N:List Str)(q:Str×Str):Prop:=∃i j:Nat,i<j/\N[i]?=some q.1/\N[j]?=some q.2
def ziO (left:List Str)(M:List (Str×Str)):List Str:=(M.filter λq=>decide (q.1∈left)).map (·.2)
def zhf (left:List Str)(M:List (Str×Str)):List Str:=left.filter λx=>decide (x∈ziO left M)
def zcL {C:Type}{f:D->Option (Option D)}(h:C->D)(p:C->Bool)(g:C->D){ds:List C}(hl:ds.length<=lim)(hf:∀d∈ds,f (h d)=some (if p d then some (g d) else none)):zbW f (ds.map h)=some ((ds.filter p).map g):=by
 have key:∀(ds:List C),(∀d∈ds,f (h d)=some (if p d then some (g d) else none))->zc6 f (ds.map h)=some ((ds.filter p).map g):=by
  intro ds;induction ds with
 |nil=>intro _;rfl
 |cons d ds ih=>
    intro k;show(f (h d)).bind _=_
    rw[k d wak,zOB];show(zc6 f (ds.map h)).bind _=_
    rw[ih λy hy=>k y (wag _ hy)];by_cases q:p d=true
    .rw[List.filter_cons_of_pos q,if_pos q];rfl
    .rw[List.filter_cons_of_neg q,if_neg q];rfl
 unfold zbW;rw[key ds hf,zOB,if_pos (wal (by rw[waj];exact wcw _ _) hl)]
def zkL {N left:List Str}{M:List (Str×Str)}(nd:N.Nodup)(sb:left.Sublist N)(hm:∀q∈M,Fwd N q)(h0:left≠[]):(zhf left M).length<left.length:=by
 cases left with
|nil=>exact absurd rfl h0
|cons x r=>
   have hx:x∉ziO (x::r) M:=by
    intro hx;obtain⟨q,hq,e⟩:=waD.mp hx;obtain⟨hq,h1⟩:=List.mem_filter.mp hq;have h1:q.1∈x::r:=wbs h1
    obtain⟨i,j,hij,e1,e2⟩:=hm q hq;rw[e] at e2;obtain⟨A,B,rfl,hA,hB⟩:=List.cons_sublist_iff.mp sb;obtain⟨j',hj'⟩:=wcc hA;have lj:j'<A.length:=(wai.mp hj').1
    have ej:(A++B)[j']?=some x:=by rw[waX lj];exact hj'
    have hj:j=j':=((wcs (by rw[wap];omega) nd).mp (ej.trans e2.symm)).symm
    rcases wah.mp h1 with z|z
    .rw[z] at e1;have:=(wcs (by rw[wap];omega) nd).mp (ej.trans e1.symm)
     omega
    .obtain⟨i',hi'⟩:=wcc (hB.subset z);have ei:(A++B)[A.length+i']?=some q.1:=by rw[waV (by omega)];simpa using hi'
     have:=(wcs (wai.mp e1).1 nd).mp (e1.trans ei.symm)
     omega
   unfold zhf;rw[List.filter_cons_of_neg (by simpa using hx)];exact Nat.lt_succ_of_le (wcw _ _)
def zqZ {a b:Nat}:dEqG false (.int (a:Int)) (.int (b:Int))=some (.bl (decide (a=b))):=by
 have e1:eqC (.int (a:Int)) (.int (b:Int))=true:=rfl
 unfold dEqG;rw[if_pos e1];show some (D.bl (decide (D.int (a:Int)=D.int (b:Int))))=_
 congr 2;simp;omega
def zoT {N:List Str}{M:List (Str×Str)}(nd:N.Nodup)(hm:∀q∈M,Fwd N q)(hN:N.length<=48)(hM:M.length<=2000):zb7 [.lst (N.map D.str),.lst (M.map prD)]=some (.lst []):=by
 show zb6 (.lst (N.map D.str)) (.lst (M.map prD))=_
 unfold zb6;rw[zOB];generalize hf:(λ(s2:D)=>(Option.bind (Option.bind (Option.bind (dSeq (.lst (M.map prD))) _) λds=>some (.lst ds)) λ(x3:D)=>_))=f;have stp:∀left:List Str,left.length<=48->f (.lst (left.map D.str))=some (if(zhf left M).length=left.length then Fl.ret (.lst ((zhf left M).map D.str)) else Fl.nx (.lst ((zhf left M).map D.str))):=by
  intro left hl;rw[<-hf];show Option.bind (Option.bind (zbW _ (M.map prD)) _) _=_
  rw[zcL prD (λq=>decide (q.1∈left)) (λq=>D.str q.2) (wal hM (by decide)) λq hq=>?_]
  .rw[zOB,zOB];have e:(M.filter λq=>decide (q.1∈left)).map (λq=>D.str q.2)=(ziO left M).map D.str:=by unfold ziO;rw[wbr];rfl
   rw[e];show Option.bind (Option.bind (zbW _ (left.map D.str)) _) _=_
   rw[zcL D.str (λx=>decide (x∈ziO left M)) D.str (wal hl (by decide)) λx hx=>?_]
   .rw[zOB,zOB];show Option.bind (Option.bind (dEqG false (.int ((((zhf left M).map D.str).length:Nat):Int)) (.int (((left.map D.str).length:Nat):Int))) dB) _=_
    rw[waj,waj,zqZ];by_cases z:(zhf left M).length=left.length
    .rw[if_pos z,waz z];rfl
    .rw[if_neg z,waq z];rfl
   .rw[zer,zOB];show(if decide (x∈ziO left M) then some (some (D.str x)) else some none)=_
    split <;> simp_all
  .refine Eq.trans (b:=Option.bind (Option.bind (dInG false (.str q.1) (.lst (left.map D.str))) dB) λok=>if ok then some (some (D.str q.2)) else some none) rfl ?_;rw[zer,zOB];show(if decide (q.1∈left) then some (some (D.str q.2)) else some none)=_
   split <;> simp_all
 have key:∀(n:Nat) (left:List Str),left.length<n->left.length<=48->left.Sublist N->zeR (λ(s2:D)=>dTru (.bl true)) f n (.lst (left.map D.str))=some (.ret (.lst [])):=by
  intro n;induction n with
 |zero=>intro left h;omega
 |succ n ih=>
    intro left h hl sb;show(Option.bind (f (.lst (left.map D.str))) _)=_
    rw[stp left hl,zOB];by_cases h0:left = []
    .subst h0;rfl
    .have:=zkL nd sb hm h0
     rw[if_neg (by omega)];exact ih _ (by omega) (by omega) (List.Sublist.trans List.filter_sublist sb)
 rw[key 50 N (by omega) hN (List.Sublist.refl _)];rfl
def zoU {N:List Str}{M:List (Str×Str)}(nd:N.Nodup)(hm:∀q∈M,Fwd N q)(hN:N.length<=48)(hM:M.length<=2000):zcR [.lst (N.map D.str),.lst (M.map prD)]=some (.lst []):=by
 show zdw _ _=_
 unfold zdw;rw[zoT nd hm hN hM,zOB];rfl
def trR:List Nat->List Itm->List (List Nat×Itm×List D)
|_,[]=>[]
|P,x::S=>(stp P x.dp,x,fo S (x.dp+1))::trR (stp P x.dp) S
def ptR (q:List Nat×Itm×List D):D:=part q.2.1 0 q.2.2
theorem zq0:∀{P:List Nat}{L:List Itm},trL P L=(trR P L).map λq=>(inD q.1,ptR q)
|_,[]=>rfl
|P,x::S=>by show _::trL _ S=_::_;rw[zq0];rfl
theorem zeE:∀{P:List Nat}{L:List Itm},(trR P L).map (λq=>q.2.1)=L
|_,[]=>rfl
|P,x::S=>by show x::(trR _ S).map _=_;rw[zeE]
def zoV {P:List Nat}{L:List Itm}:(trR P L).length=L.length:=by
 have:=wbQ List.length (zeE (P:=P) (L:=L))
 rwa [waj] at this
theorem zkM:∀{S:List Itm}{e:Nat}{d:D},d∈fo S e->∃y∈S,∃inn,d=part y 0 inn
|[],_,_,h=>by cases h
|x::S,e,d,h=>by
   have h:d∈(if e=x.dp then part x 0 (fo S (e+1))::fo S e else if e=x.dp+1 then[] else fo S e):=h
   have up:d∈fo S e->∃y∈x::S,∃inn,d=part y 0 inn:=λh=>by
    obtain⟨y,hy,i,e⟩:=zkM h;exact⟨y,wag _ hy,i,e⟩
   split at h
   .rcases wah.mp h with rfl|h
    .exact⟨x,wak,_,rfl⟩
    .exact up h
   .split at h
    .cases h
    .exact up h
def mus:List Itm->List (Str×Str)
|[]=>[]
|x::S=>((fo S (x.dp+1)).map λd=>(x.nm,(nr d).2))++mus S
theorem zhg:∀{L:List Itm},(mus L).length<=L.length*L.length
|[]=>wan _
|x::S=>by
   show(((fo S (x.dp+1)).map λd=>(x.nm,(nr d).2))++mus S).length<=(S.length+1)*(S.length+1)
   rw[wap,waj];have h1:=ze0 (S:=S) (d:=x.dp+1)
   have h2:=zhg (L:=S)
   rw[Nat.add_mul,Nat.mul_add,Nat.mul_one,Nat.one_mul];omega
theorem zkN:∀{L pre:List Itm}{q:Str×Str},q∈mus L->Fwd ((pre++L).map Itm.nm) q
|[],_,_,h=>by cases h
|x::S,pre,q,h=>by
   rcases waC.mp (show q∈((fo S (x.dp+1)).map λd=>(x.nm,(nr d).2))++mus S from h) with h|h
   .obtain⟨d,hd,rfl⟩:=waD.mp h;obtain⟨y,hy,inn,rfl⟩:=zkM hd;obtain⟨k,hk⟩:=wcc hy;refine⟨pre.length,pre.length+1+k,by omega,?_,?_⟩
    .rw[waw,waV (wan _),Nat.sub_self];rfl
    .rw[waw,waV (by omega),show pre.length+1+k - pre.length=k+1 by omega,List.getElem?_cons_succ,hk];rfl
   .have:=zkN (pre:=pre++[x]) h
    rwa [waN] at this
def zmr {L:List Itm}(t:Vd 0 L)(hl:L.length<=44)(hn:∀x∈L,x.hd=none):zc3 [.tup (fo L 0)]=some (.lst ((mus L).map prD)):=by
 show zc2 (.tup (fo L 0))=_
 unfold zc2;rw[zOB,zh2 t (by omega)];generalize hf:(λ(s2:List D) (d3:D)=>(Option.bind (Option.bind (Option.bind (Option.bind (Option.bind (dIx d3 (.int 5)) dSeq) _) λds=>some (.lst ds)) (extL s2)) λ(x5:List D)=>_))=f;show Option.bind (zbd f [] ((trL [] L).map (·.2))) _=_
 have stp:∀(x:Itm) (S:List Itm) (M0:List (Str×Str)),x.hd=none->S.length<=44->M0.length<=2000->f (M0.map prD) (part x 0 (fo S (x.dp+1)))=some ((M0++(fo S (x.dp+1)).map λd=>(x.nm,(nr d).2)).map prD):=by
  intro x S M0 h0 hs hM;rw[<-hf];dsimp only[];rw[(zdj x 0 _).2.2.2,zfx,(zdj x 0 _).1,h0];show Option.bind (Option.bind (Option.bind (zbW _ (fo S (x.dp+1))) _) _) _=_
  have hc:zbW (λd4=>(Option.bind (Option.bind (aC (some (.str x.nm)) (aC (dIx d4 (.int 0)) aN)) mkT) λz=>some (some z))) (fo S (x.dp+1))=some (((fo S (x.dp+1)).map λd=>(x.nm,(nr d).2)).map prD):=by
   have:=zdp (f:=λd4=>(Option.bind (Option.bind (aC (some (.str x.nm)) (aC (dIx d4 (.int 0)) aN)) mkT) λz=>some (some z))) (λd=>d) (λd=>prD (x.nm,(nr d).2)) (xs:=fo S (x.dp+1)) (wal ze0 (by omega)) λd hd=>by
    obtain⟨y,hy,inn,rfl⟩:=zkM hd;rw[(zdj y 0 _).1];rfl
   rw[List.map_id'] at this;rw[this,wbr];rfl
  rw[hc,zOB,zOB];have hx:extL (M0.map prD) (.lst (((fo S (x.dp+1)).map λd=>(x.nm,(nr d).2)).map prD))=some ((M0++(fo S (x.dp+1)).map λd=>(x.nm,(nr d).2)).map prD):=by
   rw[waS];exact if_pos (wal (by
    rw[wap,waj,waj,waj];have:=ze0 (S:=S) (d:=x.dp+1)
    omega:_<=2044) (by decide))
  rw[hx];rfl
 have key:∀(L:List Itm) (P:List Nat) (M0:List (Str×Str)),(∀x∈L,x.hd=none)->L.length<=44->M0.length+(mus L).length<=2000->zbd f (M0.map prD) ((trL P L).map (·.2))=some ((M0++mus L).map prD):=by
  intro L;induction L with
 |nil=>intro P M0 _ _ _;show some _=_;rw[show mus [] = [] from rfl,waI]
 |cons x S ih=>
    intro P M0 h0 hs hM;rw[show mus (x::S)=((fo S (x.dp+1)).map λd=>(x.nm,(nr d).2))++mus S from rfl,wap] at hM;rw[wba] at hs;show(f (M0.map prD) (part x 0 (fo S (x.dp+1)))).bind (λs=>zbd f s ((trL (Pg.stp P x.dp) S).map (·.2)))=_
    rw[stp x S M0 (h0 x wak) (by omega) (by omega),zOB,ih _ _ (λy hy=>h0 y (wag _ hy)) (by omega) (by rw[wap];omega),waN];rfl
 have h2:(mus L).length<=2000:=wal zhg (wal (wcL hl hl) (by decide))
 have:=key L [] [] hn hl (by rw[wbV];omega)
 rw[show zbd f [] ((trL [] L).map (·.2))=_ from this];rfl
theorem zgx {C:Type}{f:D->Option (Key×D)}{h:C->D}{k:C->Key}{v:C->D}:∀{E:List C}{pre:List C},(∀q∈E,f (h q)=some (k q,v q))->((pre++E).map k).Nodup->(pre++E).length<=10000->zds f (E.map h) (pre.map k,pre.map v)=some ((pre++E).map k,(pre++E).map v)
|[],pre,_,_,_=>by rw[waI];rfl
|q::E,pre,hf,nd,hl=>by
   show((f (h q)).bind λp=>if(pre.map k).length<lim then zds f (E.map h) (putKD (pre.map k) (pre.map v) p.1 p.2) else none)=_
   rw[hf q wak,zOB,if_pos (wbB (by rw[waj];rw[wap] at hl;omega:_<=10000) (by decide))];have hn:(pre.map k).any (λx=>decide (x=k q))=false:=by
    rw[wcq];intro x hx hz;have hz:=wbs hz
    subst hz;rw[waS,wbl] at nd;exact nd.2.2 _ hx _ (by rw[waK];exact wak) rfl
   have hp:putKD (pre.map k) (pre.map v) (k q) (v q)=((pre++[q]).map k,(pre++[q]).map v):=by
    unfold putKD;rw[hn,if_neg (by decide),waS,waS];rfl
   show zds f (E.map h) (putKD (pre.map k) (pre.map v) (k q) (v q))=_
   rw[hp,zgx (E:=E) (pre:=pre++[q]) (λy hy=>hf y (wag _ hy)) (by rw[waN];exact nd) (by rw[waN];exact hl),waN];rfl
theorem zkO {C:Type}{k:C->Key}{v:C->D}:∀{E:List C}{q:C},q∈E->(E.map k).Nodup->dLook (E.map k) (E.map v) (k q)=some (v q)
|p::E,q,hq,nd=>by
   rw[waK,waM] at nd;show(if k p=k q then some (v p) else dLook (E.map k) (E.map v) (k q))=_
   rcases wah.mp hq with rfl|hq
   .rw[if_pos rfl]
   .rw[if_neg λz=>nd.1 (by rw[z];exact waD.mpr ⟨q,hq,rfl⟩),zkO hq nd.2]
def kyR (q:List Nat×Itm×List D):Key:=.inr q.2.1.nm
def plR (q:List Nat×Itm×List D):D:=.tup (inD q.1)
def enR (q:List Nat×Itm×List D):D:=.tup [plR q,ptR q]
def zh3 {L:List Itm}(nd:(L.map Itm.nm).Nodup):((trR [] L).map kyR).Nodup:=by
 have:(trR [] L).map kyR=(L.map Itm.nm).map Sum.inr:=by
  rw[wbr];conv=>rhs;rw[<-zeE (P:=[]) (L:=L),wbr]
  rfl
 rw[this];exact List.pairwise_map.mpr (nd.imp λh z=>h (Sum.inr.inj z))
def zeF {L:List Itm}(nd:(L.map Itm.nm).Nodup)(hl:L.length<=1000):(zds (zfp [.un,.un] (gT 2 (gCons' (gN 0) (gCons' (gN 1) gNil'))) (e2 dIx (eRd 1) (eK (.int 0))) (eVar 0)) ((trR [] L).map enR) ([],[]))=some ((trR [] L).map kyR,(trR [] L).map plR):=by
 refine zgx (h:=enR) (k:=kyR) (v:=plR) (pre:=[]) (λq hq=>?_) (zh3 nd) (by rw[List.nil_append,zoV];omega);have:zfp [.un,.un] (gT 2 (gCons' (gN 0) (gCons' (gN 1) gNil'))) (e2 dIx (eRd 1) (eK (.int 0))) (eVar 0) (enR q)=Option.bind (dIx (ptR q) (.int 0)) λk=>(keyD k).bind λk=>some (k,plR q):=rfl
 rw[this,show dIx (ptR q) (.int 0)=_ from(zdj q.2.1 0 q.2.2).1];rfl
def zoW {L:List Itm}(t:Vd 0 L)(hl:L.length<=1000):zaq [.tup (fo L 0)]=some (.lst ((trR [] L).map enR)):=by
 rw[ziL t hl,zq0,wbr];rfl
def ziP {L:List Itm}(t:Vd 0 L)(nd:(L.map Itm.nm).Nodup)(hl:L.length<=1000)(hn:∀x∈L,x.hd=none):zbx [.tup (fo L 0)]=some .non:=by
 show zbw (.tup (fo L 0))=_
 unfold zbw;rw[zoW t hl,zOB];show Option.bind (Option.bind (zds _ ((trR [] L).map enR) ([],[])) _) _=_
 rw[zeF nd hl,zOB,zOB];show Option.bind (zbd _ () ((trR [] L).map enR)) _=_
 rw[zhd λd hd=>?_]
 .rfl
 .obtain⟨q,hq,rfl⟩:=waD.mp hd;have hx:q.2.1.hd=none:=hn _ (by rw[<-zeE (P:=[]) (L:=L)];exact waD.mpr ⟨q,hq,rfl⟩)
  rw[show un2 (enR q)=some (plR q,ptR q) from rfl,zOB];show Option.bind (dIx (ptR q) (.int 4)) _=_
  rw[show dIx (ptR q) (.int 4)=some (hdO q.2.1.hd) from zfx ..,hx,zOB];rfl
def zkP (Q:List Nat):ndL (inD Q)=true/\depL (inD Q)<=0:=by
 unfold inD;refine⟨zj5 λd hd=>?_,zgY λd hd=>?_⟩
 .obtain⟨i,_,rfl⟩:=waD.mp hd;rfl
 .obtain⟨i,_,rfl⟩:=waD.mp hd;exact wan _
def zkQ (P:List Nat):za3 [.tup (inD P),.tup (inD P)]=some (.bl true):=by
 show zb5 (.tup (inD P)) (.tup (inD P))=_
 unfold zb5;show Option.bind (some (D.int (if((inD P).length:Int)<((inD P).length:Int) then _ else((inD P).length:Int)))) _=_
 rw[if_neg (by omega),zOB];have hc:VD.cut (inD P) none (some ((inD P).length:Int))=inD P:=by
  rw[zfl (by omega) (by omega),wbY,List.take_length]
 show Option.bind (dEqG false (.tup (VD.cut (inD P) none (some ((inD P).length:Int)))) (.tup (VD.cut (inD P) none (some ((inD P).length:Int))))) _=_
 rw[hc,zeq (zhK (d:=.tup (inD P)) (show ndL (inD P)=true from(zkP P).1) (by show depL (inD P)+1<=40;have:=(zkP P).2;omega))];rfl
def ziQ (x:Str):D:=.exc "NoHead" ["name"] [.str x]
def HdR (x:Itm):Prop:=x.hd=none\/x.hd=some "zzzzzz"\/x.hd=some x.nm
def zoX {L:List Itm}(t:Vd 0 L)(nd:(L.map Itm.nm).Nodup)(hl:L.length<=1000)(hr:∀x∈L,HdR x)(hz:∀x∈L,x.nm≠"zzzzzz")(ok:∀x∈L,okTx x.nm=true)(he:∃x∈L,x.hd≠none):∃y,zbb [.tup (fo L 0)]=some (ziQ y):=by
 show ∃y,zaT (.tup (fo L 0))=_
 unfold zaT;rw[zoW t hl,zOB];show ∃y,Option.bind (Option.bind (zds _ ((trR [] L).map enR) ([],[])) _) _=_
 rw[zeF nd hl,zOB,zOB];show ∃y,Option.bind (some ((trR [] L).map enR)) _=_
 rw[zOB];generalize hf:(λ(s3:Unit) (d9:D)=>Option.bind (un2 d9) λ(y4:D×D)=>_)=f;have inL:∀q∈trR [] L,q.2.1∈L:=λq hq=>by
  have:q.2.1∈(trR [] L).map (λq=>q.2.1):=waD.mpr ⟨q,hq,rfl⟩
  rwa [zeE] at this
 have stp:∀q∈trR [] L,f () (enR q)=if q.2.1.hd=none then some (.nx ()) else some (.ret (ziQ q.2.1.nm)):=by
  intro q hq;rw[<-hf];dsimp only[];rw[show un2 (enR q)=some (plR q,ptR q) from rfl,zOB];show Option.bind (dIx (ptR q) (.int 4)) _=_
  rw[show dIx (ptR q) (.int 4)=some (hdO q.2.1.hd) from zfx ..,zOB];have hrz:Option.bind (Option.bind (dIx (ptR q) (.int 0)) (rz "NoHead" "name" zd0)) (λ(r7:D)=>(some (Fl.ret r7:Fl (Unit) (D))))=some (.ret (ziQ q.2.1.nm)):=by
   rw[show dIx (ptR q) (.int 0)=_ from(zdj q.2.1 0 q.2.2).1,zOB,show rz "NoHead" "name" zd0 (.str q.2.1.nm)=some (ziQ q.2.1.nm) from if_pos (ok _ (inL q hq))];rfl
  rcases hr _ (inL q hq) with e|e|e
  .rw[e,if_pos rfl];rfl
  .rw[e,if_neg (by decide)];have hk:hasK ((trR [] L).map kyR) (.inr "zzzzzz")=false:=by
    unfold hasK;rw[wcq];intro x hx hh;have hh:=wbs hh
    obtain⟨p,hp,rfl⟩:=waD.mp hx;exact hz _ (inL p hp) (Sum.inr.inj hh)
   show Option.bind (Option.bind (Option.bind (some (D.bl (!hasK ((trR [] L).map kyR) (.inr "zzzzzz")))) dB) λk8=>if k8 then some true else _) _=_
   rw[hk];exact hrz
  .rw[e,if_neg (by simp)];have hk:hasK ((trR [] L).map kyR) (.inr q.2.1.nm)=true:=by
    unfold hasK;rw[wbP];exact⟨kyR q,waD.mpr ⟨q,hq,rfl⟩,waz rfl⟩
   have hg:dGet (.dct ((trR [] L).map kyR) ((trR [] L).map plR)) (.str q.2.1.nm)=some (plR q):=zkO (k:=kyR) (v:=plR) hq (zh3 nd)
   show Option.bind (Option.bind (Option.bind (some (D.bl (!hasK ((trR [] L).map kyR) (.inr q.2.1.nm)))) dB) λk8=>if k8 then some true else(Option.bind (Option.bind (aC (dGet (.dct ((trR [] L).map kyR) ((trR [] L).map plR)) (.str q.2.1.nm)) (aC (some (plR q)) aN)) za3) dTru)) _=_
   rw[hk,hg];show Option.bind (Option.bind (za3 [plR q,plR q]) dTru) _=_
   rw[show za3 [plR q,plR q]=some (.bl true) from zkQ q.1];exact hrz
 have key:∀E:List (List Nat×Itm×List D),(∀q∈E,q∈trR [] L)->(∃q∈E,q.2.1.hd≠none)->∃y,zcJ f () (E.map enR)=some (.ret (ziQ y)):=by
  intro E;induction E with
 |nil=>rintro _ ⟨q,hq,_⟩;cases hq
 |cons q E ih=>
    intro hs hx;by_cases e:q.2.1.hd=none
    .obtain⟨p,hp,h⟩:=hx;rcases wah.mp hp with rfl|hp
     .exact absurd e h
     .obtain⟨y,hy⟩:=ih (λq hq=>hs q (wag _ hq)) ⟨p,hp,h⟩;refine⟨y,?_⟩;show(f () (enR q)).bind _=_
      rw[stp q (hs q wak),if_pos e,zOB];exact hy
    .refine⟨q.2.1.nm,?_⟩;show(f () (enR q)).bind _=_
     rw[stp q (hs q wak),if_neg e,zOB]
 obtain⟨x,hx,h⟩:=he;rw[<-zeE (P:=[]) (L:=L)] at hx;obtain⟨q,hq,rfl⟩:=waD.mp hx;obtain⟨y,hy⟩:=key _ (λ_ h=>h) ⟨q,hq,h⟩;refine⟨y,?_⟩;rw[hy];rfl
def zoY {L:List Itm}(t:Vd 0 L)(nd:(L.map Itm.nm).Nodup)(hl:L.length<=1000)(hn:∀x∈L,x.hd=none):zbb [.tup (fo L 0)]=none:=by
 show zaT (.tup (fo L 0))=_
 unfold zaT;rw[zoW t hl,zOB];show Option.bind (Option.bind (zds _ ((trR [] L).map enR) ([],[])) _) _=_
 rw[zeF nd hl,zOB,zOB];show Option.bind (some ((trR [] L).map enR)) _=_
 rw[zOB,zdE enR λq hq=>?_]
 .rfl
 .have hx:q.2.1.hd=none:=hn _ (by rw[<-zeE (P:=[]) (L:=L)];exact waD.mpr ⟨q,hq,rfl⟩)
  dsimp only[];rw[show un2 (enR q)=some (plR q,ptR q) from rfl,zOB];show Option.bind (dIx (ptR q) (.int 4)) _=_
  rw[show dIx (ptR q) (.int 4)=some (hdO q.2.1.hd) from zfx ..,hx,zOB];rfl
def fe (c n k:Int):D:=.lst [.int c,.int n,.int k]
def zq1 (c n k:Int):dIx (fe c n k) (.int 0)=some (.int c)/\dIx (fe c n k) (.int 1)=some (.int n)/\dIx (fe c n k) (.int 2)=some (.int k):=⟨za7 (j:=0) rfl,za7 (j:=1) rfl,za7 (j:=2) rfl⟩
def zkR {c n k m:Int}(m0:0<m)(m1:m<1073741824):∃r c' n',zam [fe c n k,.int m]=some (.told (.int r),[fe c' n' k,.non])/\0<=r/\r<m:=by
 have hm:∀a b:Int,0<b->dMod (.int a) (.int b)=some (.int (a % b)):=λa b h=>if_pos h
 have hd:∀a:Int,dFdiv (.int a) (.int m)=some (.int (a / m)):=λa=>if_pos (show CDiv a m from⟨m0,m1⟩)
 have hl:∀a b:Int,-(2 ^ 64)<a->a<2 ^ 64->dMul (.int a) (.int b)=some (.int (a*b)):=λa b h1 h2=>if_pos (show CMul a b from .inl ⟨h1,h2⟩)
 have hr:∀a b:Int,-(2 ^ 64)<b->b<2 ^ 64->dMul (.int a) (.int b)=some (.int (a*b)):=λa b h1 h2=>if_pos (show CMul a b from .inr ⟨h1,h2⟩)
 have pw:dPow (.int 10) (.int 18)=some (.int 1000000000000000000):=rfl
 obtain⟨i0,i1,i2⟩:=zq1 c n k;obtain⟨j0,j1,j2⟩:=zq1 c (n+1) k;have p1:zl1 (fe c n k) (.int 1) (.int (n+1))=some (fe c (n+1) k):=rfl
 show ∃r c' n',zcu (fe c n k) (.int m)=_/\_
 unfold zcu;rw[i1,zOB,show dAdd (.int n) (.int 1)=some (.int (n+1)) from rfl,zOB,p1,zOB,j0,zOB,pw,zOB,show dGe (.int c) (.int 1000000000000000000)=some (.bl (decide (1000000000000000000<=c))) from rfl,zOB,show ∀b,dB (.bl b)=some b from λ_=>rfl,zOB];by_cases h:1000000000000000000<=c
 .refine⟨c % m,c / m,n+1,?_,wbW _ (by omega),wbD _ m0⟩;rw[waz h,if_pos rfl,zOB,hm _ _ m0,zOB,zOB,hd,zOB];rfl
 .rw[waq h,if_neg (by decide)];have b1:∀x:Int,0<=x % 2147483647/\x % 2147483647<2147483647:=λx=>⟨wbW _ (by decide),wbD _ (by decide)⟩
  refine⟨((c % 1000003+7919*k+104729*(n+1))*48271 % 2147483647*((c % 1000003+7919*k+104729*(n+1))*48271 % 2147483647 % 65521+(n+1)) % 2147483629) % m,c,n+1,?_,wbW _ (by omega),wbD _ m0⟩
  .rw[zOB,hm _ _ (by decide),zOB,j2,zOB,hl _ _ (by decide) (by decide),zOB,show ∀a b,dAdd (.int a) (.int b)=some (.int (a+b)) from λ_ _=>rfl,zOB,j1,zOB,hl _ _ (by decide) (by decide),zOB,show ∀a b,dAdd (.int a) (.int b)=some (.int (a+b)) from λ_ _=>rfl,zOB,hr _ _ (by decide) (by decide),zOB,hm _ _ (by decide),zOB,hm _ _ (by decide),zOB,zOB,show ∀a b,dAdd (.int a) (.int b)=some (.int (a+b)) from λ_ _=>rfl,zOB,hl _ _ (by have:=b1 ((c % 1000003+7919*k+104729*(n+1))*48271);omega) (by have:=b1 ((c % 1000003+7919*k+104729*(n+1))*48271);omega),zOB,hm _ _ (by decide),zOB,hm _ _ m0,zOB]
def zoZ {S:Scr}{k:Int}(h0:0<=k):∃c,zbe S [.scr S.p,.int k]=some (.new 1 (fe c 0 k),[.non,.non]):=by
 have hl:lenS S (.scr S.p)=some (.int S.ns.length):=if_pos rfl
 show ∃c,zct S (.scr S.p) (.int k)=_
 unfold zct;rw[hl,zOB,zhJ,zOB,show ∀b,dB (.bl b)=some b from λ_=>rfl,zOB];by_cases h:(S.ns.length:Int)=0
 .rw[waz h];exact⟨0,rfl⟩
 .rw[waq h];have hp:(0:Int)<S.ns.length:=by omega
  obtain⟨x,_,hx⟩:=zj3 (xs:=S.ns) (i:=k % S.ns.length) (wbW _ (by omega)) (wbD _ hp);refine⟨x,?_⟩;rw[if_neg (by decide),zOB,show dMod (.int k) (.int S.ns.length)=some (.int (k % S.ns.length)) from if_pos hp,zOB,show ixS S (.scr S.p) (.int (k % S.ns.length))=some (.int x) by show(if S.p=S.p then _ else _)=_;rw[if_pos rfl,hx];rfl];rfl
section
variable {B:Type}{R:B->Prop}
def zeM {c n k m:Int}{K:RV×D->Option B}(m0:0<m)(m1:m<1073741824)(h:∀r c' n',0<=r->r<m->Po (K (.told (.int r),fe c' n' k)) R):Po (Option.bind (zdY zam (λe=>e) [fe c n k,.int m]) K) R:=by
 obtain⟨r,c',n',e,h0,h1⟩:=zkR (c:=c) (n:=n) (k:=k) m0 m1;refine sx ?_ (h r c' n' h0 h1);show Option.bind (zam [fe c n k,.int m]) _=_
 rw[e];rfl
def zq2 {c n k m:Int}{x:Option (List (Option D)×D)}{K:RV×D->Option B}(hx:x=some ([none,some (.int m)],fe c n k))(m0:0<m)(m1:m<1073741824)(h:∀r c' n',0<=r->r<m->Po (K (.told (.int r),fe c' n' k)) R):Po (Option.bind (zlW zam [some 1,none] 0 1 (λs=>s) (λ_ e=>e) x) K) R:=by
 obtain⟨r,c',n',e,h0,h1⟩:=zkR (c:=c) (n:=n) (k:=k) m0 m1;refine sx ?_ (h r c' n' h0 h1);rw[hx];show Option.bind (zam [fe c n k,.int m]) _=_
 rw[e];rfl
def zq3 {S:Scr}{k:Int}{K:D×Unit->Option B}(h0:0<=k)(h:∀c,Po (K (fe c 0 k,())) R):Po (Option.bind (Option.bind (Option.bind (Option.bind (some [.scr S.p,.int k]) λd=>some (d,())) λq3=>Option.bind (zbe S q3.1) λr4=>if q3.1.length=2 then some (r4.1,q3.2) else none) newD) K) R:=by
 obtain⟨c,e⟩:=zoZ (S:=S) h0;refine sx ?_ (h c);show Option.bind (Option.bind (zbe S [.scr S.p,.int k]) _) newD=_
 rw[e];rfl
end
def zkS {xs:List D}{P:D->Prop}{i:Int}(h:∀d∈xs,P d)(h0:0<=i)(h1:i<xs.length):∃d,dIx (.lst xs) (.int i)=some d/\P d:=by
 obtain⟨x,hx,e⟩:=zj3 (xs:=xs) h0 h1;exact⟨x,e,h x (waH hx)⟩
def zq4 (lo hi:Int)(d:D):Prop:=∃n,d=.int n/\lo<=n/\n<=hi
def pw9:dPow (.int 10) (.int 9)=some (.int 1000000000):=rfl
def nmR (s t:Int)(j:Nat):Str:=Txt.mul (sg (97+((t+(j:Int)) % 26).toNat)) (s+(j:Int) / 26)
def mx:Nat->List Itm->Nat
|m,[]=>m
|_,x::S=>mx (x.dp+1) S
theorem zkT:∀{m:Nat}{L:List Itm}{x:Itm},Vd m L->x.dp<=mx m L->x.dp<=4->Vd m (L++[x])
|_,[],x,.nil,h,h4=>.cons h h4 .nil
|_,y::S,x,.cons hm hy t,h,h4=>.cons hm hy (zkT t h h4)
theorem zkU:∀{m:Nat}{L:List Itm}{x:Itm},mx m (L++[x])=x.dp+1
|_,[],_=>rfl
|_,y::S,x=>zkU (L:=S)
structure Rw (t:Int)(x:Itm):Prop where
 nm:∃j:Nat,j<63/\x.nm=nmR 1 t j
 c:1<=x.bc
 d:1<=x.bd
 wd:x.wd = "free"
 rk:0<=x.rk
 hd:HdR x
def zo0 {S:Scr}:Po (zcv S (.scr S.p)) λd=>∃t L,d=GB.rowsD L/\Vd 0 L/\30<=L.length/\L.length<=63/\∀x∈L,Rw t x:=by
 unfold zcv;refine sx rfl ?_;refine zq3 (k:=0) (by decide) λc=>?_
 try dsimp only[]
 repeat with_reducible first|refine sx rfl ?_|refine asc ?_|dsimp only[RV.d]
 refine zeM (by decide) (by decide) λr34 c1 n1 a0 a1=>?_
 try dsimp only[RV.d]
 repeat with_reducible first|refine sx rfl ?_|refine asc ?_|dsimp only[RV.d]
 refine zeM (by decide) (by decide) λr4 c2 n2 a2 a3=>?_
 try dsimp only[RV.d]
 repeat with_reducible first|refine sx rfl ?_|refine asc ?_|dsimp only[RV.d]
 obtain⟨_,e1,m,rfl,m0,m1⟩:=zkS (P:=zq4 0 33) (i:=r4) (xs:=[.int r34,.int 10,.int 11,.int 9]) (by simp[zq4];omega) a2 (by show r4<4;omega);refine sx e1 ?_;repeat with_reducible first|refine sx rfl ?_|refine asc ?_|dsimp only[RV.d]
 refine zeM (by decide) (by decide) λal c3 n3 a4 a5=>?_
 try dsimp only[RV.d]
 repeat with_reducible first|refine sx rfl ?_|refine asc ?_|dsimp only[RV.d]
 refine zeM (by decide) (by decide) λhh c4 n4 a6 a7=>?_
 try dsimp only[RV.d]
 repeat with_reducible first|refine sx rfl ?_|refine asc ?_|dsimp only[RV.d]
 refine zeM (by decide) (by decide) λs0 c5 n5 b0 b1=>?_
 try dsimp only[RV.d]
 repeat with_reducible first|refine sx rfl ?_|refine asc ?_|dsimp only[RV.d]
 obtain⟨m,rfl⟩:∃k:Nat,m=k:=⟨m.toNat,by omega⟩
 refine sx (show rngA [.int (30+(m:Int))]=some (zbn 0 (30+m)) from(if_pos ⟨by omega,by omega⟩).trans (by rw[show(30+(m:Int)).toNat=30+m by omega])) ?_;try dsimp only[]
 refine zoI (λi s=>∃L f,s=(f,L.map Itm.d,.int ((mx 0 L:Int) - 1))/\Vd 0 L/\L.length=i/\∀x∈L,Rw s0 x) ⟨[],_,rfl,.nil,rfl,λx h=>(by cases h)⟩ (λi s d hd hI=>?_) λs hI=>?_
 .obtain⟨L,f,rfl,t,hL,hG⟩:=hI;obtain⟨hi,rfl⟩:=ziq hd;try dsimp only[]
  refine zq3 (k:=1+(i:Int)) (by omega) λc=>?_
  try dsimp only[RV.d]
  repeat with_reducible first|refine sx rfl ?_|refine asc ?_|dsimp only[RV.d]
  refine zq2 (m:=if(mx 0 L:Int) - 1+2<5 then(mx 0 L:Int) - 1+2 else 5) rfl (by split <;> omega) (by split <;> omega) λr c' n' r0 r1=>?_
  have r2:r<=mx 0 L/\r<=4:=by split at r1 <;> omega
  obtain⟨r,rfl⟩:∃k:Nat,r=k:=⟨r.toNat,by omega⟩
  have r3:r<=mx 0 L:=by omega
  have r4:r<=4:=by omega
  repeat with_reducible first|refine sx rfl ?_|refine asc ?_|dsimp only[RV.d]
  have eN:dIx (.str abcS) (.int ((s0+(i:Int)) % 26))=some (.str (sg (97+((s0+(i:Int)) % 26).toNat))):=zqg (wbW _ (by decide)) (wbD _ (by decide))
  refine sx eN ?_;refine sx (show dMul (.str (sg (97+((s0+(i:Int)) % 26).toNat))) (.int (1+(i:Int) / 26))=some (.str (nmR 1 s0 i)) from zqi _ (by omega) (by omega)) ?_;try dsimp only[RV.d]
  refine Po.bind (P:=λq=>∃c n nm,q=(fe c n (1+(i:Int)),D.str nm)/\∃j:Nat,j<63/\nm=nmR 1 s0 j) ?_ ?_
  .refine Po.bind (P:=λq=>∃b c n,q=(b,fe c n (1+(i:Int)))/\(b=true->0<i)) ?_ ?_
   .try dsimp only[]
    refine zkA (λ_=>?_) λ_=>⟨_,rfl,_,_,_,rfl,λz=>by cases z⟩
    refine asc (asc (sx (show dGt (.int (i:Int)) (.int 0)=some (.bl (decide ((0:Int)<(i:Int)))) from rfl) (sx rfl (sx rfl ?_))));try dsimp only[]
    refine zkA (λhz=>?_) λ_=>⟨_,rfl,_,_,_,rfl,λz=>by cases z⟩
    repeat with_reducible first|refine sx rfl ?_|refine asc ?_|dsimp only[RV.d]
    refine zeM (by decide) (by decide) λw c7 n7 w0 w1=>?_
    try dsimp only[RV.d]
    exact⟨_,rfl,_,_,_,rfl,λ_=>by have:=wbs hz;omega⟩
   .rintro q ⟨b,c8,n8,rfl,hb⟩;try dsimp only[]
    refine zkA (λhz=>?_) λ_=>⟨_,rfl,_,_,_,rfl,i,by omega,rfl⟩
    have hi0:=hb hz
    repeat with_reducible first|refine sx rfl ?_|refine asc ?_|dsimp only[RV.d]
    refine zeM (by omega) (by omega) λw c7 n7 w0 w1=>?_
    try dsimp only[RV.d]
    repeat with_reducible first|refine sx rfl ?_|refine asc ?_|dsimp only[RV.d]
    obtain⟨_,e5,x,hx,rfl⟩:=zkS (P:=λd=>∃x∈L,d=Itm.d x) (i:=w) (xs:=L.map Itm.d) (λd hd=>by obtain⟨x,hx,rfl⟩:=waD.mp hd;exact⟨x,hx,rfl⟩) w0 (by rw[waj];omega);refine sx e5 ?_;exact⟨_,rfl,_,_,_,rfl,(hG x hx).nm⟩
  .rintro q ⟨c8,n8,nm,rfl,jn⟩;try dsimp only[]
   repeat with_reducible first|refine sx rfl ?_|refine asc ?_|dsimp only[RV.d]
   refine Po.bind (P:=λq=>∃b c n,q=(b,fe c n (1+(i:Int)))) ?_ ?_
   .refine zkA (λ_=>?_) λ_=>⟨_,rfl,_,_,_,rfl⟩
    repeat with_reducible first|refine sx rfl ?_|refine asc ?_|dsimp only[RV.d]
    refine zeM (by decide) (by decide) λw c7 n7 w0 w1=>?_
    try dsimp only[RV.d]
    exact⟨_,rfl,_,_,_,rfl⟩
   rintro q ⟨b,c9,n9,rfl⟩;try dsimp only[]
   refine Po.bind (P:=λq=>∃c n h,q=(fe c n (1+(i:Int)),hdO h)/\(h=none\/h=some "zzzzzz"\/h=some nm)) ?_ ?_
   .refine zkA (λ_=>?_) λ_=>⟨_,rfl,_,_,none,rfl,.inl rfl⟩
    repeat with_reducible first|refine sx rfl ?_|refine asc ?_|dsimp only[RV.d]
    refine zeM (by decide) (by decide) λw c7 n7 w0 w1=>?_
    try dsimp only[RV.d]
    repeat with_reducible first|refine sx rfl ?_|refine asc ?_|dsimp only[RV.d]
    obtain⟨_,e5,h,rfl,hh2⟩:=zkS (P:=λd=>∃h:Option Str,d=hdO h/\(h=none\/h=some "zzzzzz"\/h=some nm)) (i:=w) (xs:=[.str "zzzzzz",.str nm]) (λd hd=>by
     rcases wah.mp hd with rfl|hd
     .exact⟨some "zzzzzz",rfl,.inr (.inl rfl)⟩
     .rw[wao.mp hd];exact⟨some nm,rfl,.inr (.inr rfl)⟩) w0 (by show w<2;omega)
    refine sx e5 ?_;exact⟨_,rfl,_,_,h,rfl,hh2⟩
   .rintro q ⟨c8,n8,h,rfl,hh3⟩;try dsimp only[]
    rw[pw9];repeat with_reducible first|refine sx rfl ?_|refine asc ?_|dsimp only[RV.d]
    refine zq2 (m:=1000000000) rfl (by decide) (by decide) λfar c9 n9 f0 f1=>?_
    try dsimp only[RV.d]
    obtain⟨p51,hp51,hp0⟩:∃p:Int,dPow (.int 10) (.int 51)=some (.int p)/\0<=p:=⟨10 ^ 51,rfl,by decide⟩
    rw[hp51];clear hp51
    repeat with_reducible first|refine sx rfl ?_|refine asc ?_|dsimp only[RV.d]
    refine sx (show dMul (.int far) (.int p51)=some (.int (far*p51)) from if_pos (.inl ⟨by omega,by omega⟩)) ?_;have hf0:0<=far*p51:=Int.mul_nonneg f0 hp0
    generalize far*p51=fp at hf0;repeat with_reducible first|refine sx rfl ?_|refine asc ?_|dsimp only[RV.d]
    refine zeM (by decide) (by decide) λw c7 n7 w0 w1=>?_
    try dsimp only[RV.d]
    repeat with_reducible first|refine sx rfl ?_|refine asc ?_|dsimp only[RV.d]
    refine sx (zgX (wbB (by rw[waj];omega:_<=100) (by decide))) ?_;refine⟨_,rfl,L++[⟨r,nm,0 - (fp+1),fp+1,fp+1,1+w,"free",fp+1,h⟩],fe c7 n7 (1+(i:Int)),?_,zkT t r3 r4,by simp[hL],λx hx=>?_⟩
    .rw[zkU,waS,show((r+1:Nat):Int) - 1=(r:Int) by omega];rfl
    .rcases waC.mp hx with hx|hx
     .exact hG x hx
     .rw[wao.mp hx];exact⟨jn,by show 1<=fp+1;omega,by show 1<=1+w;omega,rfl,by show 0<=fp+1;omega,hh3⟩
 .obtain⟨L,f,rfl,t,hL,hG⟩:=hI;rw[zir] at hL;exact⟨_,rfl,s0,L,rfl,t,by omega,by omega,hG⟩
def zo1 {S:Scr}:∃t L,zcw S [.scr S.p]=some (GB.rowsD L)/\Vd 0 L/\30<=L.length/\L.length<=63/\∀x∈L,Rw t x:=by
 obtain⟨d,e,t,L,rfl,h⟩:=zo0 (S:=S);exact⟨t,L,e,h⟩
def zo2 (t:Int)(j:Nat):(nmR 1 t j).cps.toList=List.replicate (1+(j:Int) / 26).toNat (97+((t+(j:Int)) % 26).toNat):=zj2 _ _ (by omega)
def zhh (t:Int)(j:Nat):(nmR 1 t j).length=(1+(j:Int) / 26).toNat:=zon _ _ (by omega)
def znn {t:Int}{j:Nat}(h:j<63):nmOk (nmR 1 t j):=by
 refine⟨by rw[zhh];omega,by rw[zhh];omega,λc hc=>?_⟩;rw[zo2] at hc;rw[(List.mem_replicate.mp hc).2];have h1:=wbW (t+(j:Int)) (show(26:Int)≠0 by decide)
 have h2:=wbD (t+(j:Int)) (show(0:Int)<26 by decide)
 omega
def zo3 {y:Str}(h:nmOk y):okTx y=true:=by
 unfold okTx;rw[waA];refine⟨waz (wal h.2.1 (by decide)),waB.mpr λc hc=>waz ?_⟩;have:=(h.2.2 c hc).2
 exact Nat.lt_trans this (by decide)
def zq5 {t:Int}{j:Nat}(h:j<63):nmR 1 t j≠"zzzzzz":=λe=>by
 have e1:=wbQ Str.length e
 rw[zhh] at e1;have e2:Str.length ("zzzzzz":Str)=6:=rfl
 rw[e2] at e1;omega
def Rw.good {t:Int}{x:Itm}(r:Rw t x):Gd x:=by
 obtain⟨⟨j,hj,e⟩,hc,hd,hw,hk,hh⟩:=r;refine⟨by rw[e];exact znn hj,hc,hd,.inl hw,hk,λy hy=>?_⟩;rcases hh with z|z|z
 .rw[z] at hy;cases hy
 .rw[z] at hy;cases hy;exact⟨by decide,by decide,λc hc=>by
   have hc:c∈[122,122,122,122,122,122]:=hc
   simp at hc;omega⟩
 .rw[z] at hy;cases hy;rw[e];exact znn hj
def Rw.tx {t:Int}{x:Itm}(r:Rw t x):okTx x.nm=true:=zo3 r.good.nm
def Rw.zz {t:Int}{x:Itm}(r:Rw t x):x.nm≠"zzzzzz":=by
 obtain⟨j,hj,e⟩:=r.nm;rw[e];exact zq5 hj
def zcy {L:List Itm}{t:Int}(v:Vd 0 L)(r:∀x∈L,Rw t x):zag 7 [.tup (fo L 0),.int 1]=some (.bl true):=zkI (n:=5) (gfo v (λx h=>(r x h).good) 0 (by decide)) (by decide) (by decide)
def zq6 {N:List Str}:Option.bind (Option.bind (bLen [.lst (N.map D.str)]) λv5=>dGt v5 (.int 40)) dB=some (decide (40<N.length)):=by
 show some (decide ((40:Int)<((N.map D.str).length:Int)))=_
 rw[waj];congr 1;exact decide_eq_decide.mpr (by omega)
def bst1 {A B:Type}{o:Option A}{k:A->Option B}{a:A}{r:Option B}(e:o=some a)(h:(some a).bind k=r):o.bind k=r:=by rw[e];exact h
def ze1 {N:List Str}{C:Type}(k:Bool->Option C):Option.bind (Option.bind (Option.bind (bLen [.lst (N.map D.str)]) λv5=>dGt v5 (.int 40)) dB) k=k (decide (40<N.length)):=by rw[zq6];rfl
def zhi (n:Nat):D:=.exc "TooMany" ["many"] [.int n]
def zdy:D:=.exc "NoSheet" [] []
def okI (n:Nat)(h:n<=63):zf9 (.int (n:Int))=true:=by
 have:∀k:Fin 64,zf9 (.int ((k.val:Nat):Int))=true:=by decide +kernel
 exact this ⟨n,by omega⟩
section
variable {L:List Itm}{t:Int}(v:Vd 0 L)(hl:L.length<=63)(r:∀x∈L,Rw t x)
include v hl r
theorem zcz:zan (.tup (fo L 0))=none:=by
 unfold zan;rw[zcy v r];rfl
theorem zq7 (h:40<L.length):za4 [.tup (fo L 0)]=some (zhi L.length):=by
 show(zan (.tup (fo L 0))).or ((zar (.tup (fo L 0))).or _)=_
 rw[zcz v hl r];have:zar (.tup (fo L 0))=some (zhi L.length):=by
  unfold zar;rw[zcy v r,zc4 v (by omega)];refine bst1 rfl ?_;rw[zOB,if_neg (by decide),zOB,ze1,waj,waz h,if_pos rfl];show Option.bind (rz "TooMany" "many" zf9 (.int (((L.map Itm.nm).map D.str).length:Int))) _=_
  rw[waj,waj,show rz "TooMany" "many" zf9 (.int (L.length:Int))=some (zhi L.length) from if_pos (okI _ hl)];rfl
 rw[this];rfl
theorem zdK (h:L.length<=40):zar (.tup (fo L 0))=none:=by
 unfold zar;rw[zcy v r,zc4 v (by omega)];refine bst1 rfl ?_;rw[zOB,if_neg (by decide),zOB,ze1,waj,waq (by omega)];rfl
theorem zkV (h:L.length<=40):zaD (.tup (fo L 0))=(dupF [] (L.map Itm.nm)).map ziM:=by
 unfold zaD;rw[zcy v r,zc4 v (by omega)];refine bst1 rfl ?_;rw[zOB,if_neg (by decide),zOB,ze1,waj,waq (by omega),if_neg (by decide),zoR λx hx=>by
  obtain⟨y,hy,rfl⟩:=waD.mp hx;exact(r y hy).tx]
 cases dupF [] (L.map Itm.nm) <;> rfl
theorem zo4 {x:Str}(h:L.length<=40)(hx:dupF [] (L.map Itm.nm)=some x):za4 [.tup (fo L 0)]=some (ziM x):=by
 show(zan (.tup (fo L 0))).or ((zar (.tup (fo L 0))).or ((zaD (.tup (fo L 0))).or _))=_
 rw[zcz v hl r,zdK v hl r h,zkV v hl r h,hx];rfl
theorem zo5 (h:L.length<=40)(hx:dupF [] (L.map Itm.nm)=none)(he:∃x∈L,x.hd≠none):∃y,za4 [.tup (fo L 0)]=some (ziQ y):=by
 have nd:(L.map Itm.nm).Nodup:=by simpa using(zd9 (r:=L.map Itm.nm) waU).mp hx
 obtain⟨y,hy⟩:=zoX v nd (by omega) (λx hx=>(r x hx).hd) (λx hx=>(r x hx).zz) (λx hx=>(r x hx).tx) he;refine⟨y,?_⟩;show(zan (.tup (fo L 0))).or ((zar (.tup (fo L 0))).or ((zaD (.tup (fo L 0))).or (zaw (.tup (fo L 0)))))=_
 rw[zcz v hl r,zdK v hl r h,zkV v hl r h,hx];show zaw (.tup (fo L 0))=_
 unfold zaw;rw[zcy v r,zc4 v (by omega)];refine bst1 rfl ?_;rw[zOB,if_neg (by decide),zOB,ze1,waj,waq (by omega),if_neg (by decide),zhe nd,zOB,hy];rfl
theorem zq8 (h:L.length<=40)(hx:dupF [] (L.map Itm.nm)=none)(he:∀x∈L,x.hd=none):za4 [.tup (fo L 0)]=none:=by
 have nd:(L.map Itm.nm).Nodup:=by simpa using(zd9 (r:=L.map Itm.nm) waU).mp hx
 show(zan (.tup (fo L 0))).or ((zar (.tup (fo L 0))).or ((zaD (.tup (fo L 0))).or (zaw (.tup (fo L 0)))))=_
 rw[zcz v hl r,zdK v hl r h,zkV v hl r h,hx];show zaw (.tup (fo L 0))=_
 unfold zaw;rw[zcy v r,zc4 v (by omega)];refine bst1 rfl ?_;rw[zOB,if_neg (by decide),zOB,ze1,waj,waq (by omega),if_neg (by decide),zhe nd,zOB,zoY v nd (by omega) he];rfl
theorem zkW (h:L.length<=40)(hx:dupF [] (L.map Itm.nm)=none)(he:∀x∈L,x.hd=none):zcm [.tup (fo L 0)]=some (.tup (fo L 0)):=by
 have nd:(L.map Itm.nm).Nodup:=by simpa using(zd9 (r:=L.map Itm.nm) waU).mp hx
 show zdx (.tup (fo L 0))=_
 unfold zdx;rw[zcy v r,zc4 v (by omega)];refine bst1 rfl ?_;rw[zOB,if_neg (by decide),zOB,ze1,waj,waq (by omega),if_neg (by decide),zhe nd,zOB,ziP v nd (by omega) he,zOB,zmr v (by omega) he];show Option.bind (zcR [.lst ((L.map Itm.nm).map D.str),.lst ((mus L).map prD)]) _=_
 rw[zoU nd (λq hq=>zkN (pre:=[]) hq) (by rw[waj];omega) (wal zhg (wal (wcL h h) (by decide)))];rfl
end
def flags (a b c d:Bool):D:=.lst [.bl a,.bl b,.bl c,.bl d,.bl false,.bl false]
def zfA {s e:D}{fl:D}(h:za4 [s]=some e)(hc:zcq ["NoSheet","TooMany","Twice","NoHead"] e=true)(hg:ziK e=some (.tup [fl,.bl true,e])):zaU [s]=some (.tup [fl,.bl true,e]):=by
 show zbO s=_
 unfold zbO;show Option.bind (match za4 [s] with|some x=>if zcq ["NoSheet","TooMany","Twice","NoHead"] x then ziK x else none|none=>zmn s) _=_
 rw[h];show Option.bind (if zcq ["NoSheet","TooMany","Twice","NoHead"] e then ziK e else none) _=_
 rw[hc,if_pos rfl,hg];rfl
def zms {s:D}(h:za4 [s]=none)(hm:zcm [s]=some s):zaU [s]=some (.tup [.str "told",s]):=by
 show zbO s=_
 unfold zbO;show Option.bind (match za4 [s] with|some x=>if zcq ["NoSheet","TooMany","Twice","NoHead"] x then ziK x else none|none=>zmn s) _=_
 rw[h];show Option.bind (Option.bind (Option.bind (aC (some (.str "told")) (aC (zcm [s]) aN)) mkT) _) _=_
 rw[hm];rfl
def zfB {L:List Itm}(hl:L.length<=1000):zb9 [GB.rowsD L]=some (match dupF [] (L.map Itm.nm) with|some x=>D.str x|none=>D.non):=by
 show zb8 (.lst (L.map Itm.d))=_
 unfold zb8;rw[zOB];show Option.bind (some (L.map Itm.d)) _=_
 rw[zOB];generalize hf:(λ(s2:List D) (d3:D)=>(Option.bind (Option.bind (Option.bind (dIx d3 (.int 1)) λv5=>((dInG false) v5 (.lst s2))) dB) λk4=>_))=f;have stp:∀(x:Itm) (seen:List Str),seen.length<10000->f (seen.map D.str) x.d=some (if x.nm∈seen then Fl.ret (D.str x.nm) else Fl.nx ((seen++[x.nm]).map D.str)):=by
  intro x seen hs;rw[<-hf];dsimp only[];rw[show dIx x.d (.int 1)=some (.str x.nm) from za7 (j:=1) rfl];show Option.bind (Option.bind (dInG false (.str x.nm) (.lst (seen.map D.str))) dB) _=_
  rw[zer];by_cases q:x.nm∈seen
  .rw[waz q,if_pos q];rfl
  .rw[waq q,if_neg q];show Option.bind (appL (seen.map D.str) (.str x.nm)) _=_
   rw[zgX (wam (by rw[waj];exact hs:_<10000) (by decide)),waS];rfl
 have key:∀(S:List Itm) (seen:List Str),seen.length+S.length<=1000->zcJ f (seen.map D.str) (S.map Itm.d)=some (match dupF seen (S.map Itm.nm) with|some x=>Fl.ret (D.str x)|none=>Fl.nx ((seen++S.map Itm.nm).map D.str)):=by
  intro S;induction S with
 |nil=>intro seen _;show some _=some (Fl.nx ((seen++[]).map D.str));rw[waI]
 |cons x S ih=>
    intro seen hs;rw[wba] at hs;show(f (seen.map D.str) x.d).bind _=_
    rw[stp x seen (by omega),zOB];show _=some (match (if x.nm∈seen then some x.nm else dupF (seen++[x.nm]) (S.map Itm.nm)) with|some x=>Fl.ret (D.str x)|none=>Fl.nx ((seen++x.nm::S.map Itm.nm).map D.str))
    by_cases q:x.nm∈seen
    .rw[if_pos q,if_pos q]
    .rw[if_neg q,if_neg q];show zcJ f ((seen++[x.nm]).map D.str) (S.map Itm.d)=_
     rw[ih (seen++[x.nm]) (by rw[wap,wbT];omega),waN];rfl
 have k0:=key L [] (by rw[wbV];omega)
 rw[show zcJ f [] (L.map Itm.d)=_ from k0];cases dupF [] (L.map Itm.nm) <;> rfl
theorem zhj:∀{n:Nat}{ds:List D},Ok n ds->ndL ds=true/\depL ds<=2*n
|0,ds,o=>by rw[show ds = [] from o];exact⟨rfl,wan _⟩
|n+1,ds,o=>by
   refine⟨zj5 λd hd=>?_,zgY λd hd=>?_⟩
   .obtain⟨x,dp,inn,rfl,oi⟩:=o d hd;have h:=(zhj oi).1
    show(true&&(true&&(true&&(true&&(ndD (hdO x.hd)&&(ndL inn&&true))))))=true
    rw[h];cases x.hd <;> rfl
   .obtain⟨x,dp,inn,rfl,oi⟩:=o d hd;have h:=(zhj oi).2
    show max 0 (max 1 (max 0 (max 0 (max (depD (hdO x.hd)) (max (depL inn+1) 0)))))+1<=2*(n+1)
    have:depD (hdO x.hd)=0:=by cases x.hd <;> rfl
    rw[this];omega
def zo6 {C:Type}(g:C->Bool)(L:List C):bAny [.lst (L.map λx=>D.bl (g x))]=some (.bl (L.any g)):=by
 have h:∀L:List C,blsD (L.map λx=>D.bl (g x))=some (L.map g):=by
  intro L;induction L with
 |nil=>rfl
 |cons x L ih=>
    show((blsD (L.map λx=>D.bl (g x))).bind λbs=>some (g x::bs))=_
    rw[ih];rfl
 show((blsD (L.map λx=>D.bl (g x))).bind λbs=>some (D.bl (bs.any id)))=_
 rw[h,zOB,List.any_map];rfl
def zgy {L:List Itm}(hl:L.length<=1000):(Option.bind (Option.bind (aC (Option.bind (Option.bind (dSeq (GB.rowsD L)) (zbW (λd18=>(Option.bind (Option.bind (dIx d18 (.int 5)) λv19=>((dIs true) v19 D.non)) λz=>some (some z))))) λds=>some (.lst ds)) aN) bAny) dTru)=some (L.any λx=>decide (x.hd≠none)):=by
 show(Option.bind (Option.bind (aC (Option.bind (zbW _ (L.map Itm.d)) λds=>some (.lst ds)) aN) bAny) dTru)=_
 rw[zdp Itm.d (λx=>D.bl (decide (x.hd≠none))) (by omega) λx hx=>?_]
 .show Option.bind (bAny [.lst (L.map λx=>D.bl (decide (x.hd≠none)))]) dTru=_
  have:bAny [.lst (L.map λx=>D.bl (decide (x.hd≠none)))]=some (.bl (L.any λx=>decide (x.hd≠none))):=zo6 _ _
  rw[this];rfl
 .rw[show dIx x.d (.int 5)=some (hdO x.hd) from za7 (j:=5) rfl];cases x.hd <;> rfl
def zh4 {L:List Itm}{t:Int}(v:Vd 0 L)(hl:L.length<=63)(r:∀x∈L,Rw t x):zaH [GB.rowsD L,.tup (fo L 0)]=some (.bl true):=by
 show zca (GB.rowsD L) (.tup (fo L 0))=_
 unfold zca;have b0:bLen [GB.rowsD L]=some (.int (L.length:Int)):=by show some (D.int ((L.map Itm.d).length:Int))=_;rw[waj]
 have b1:dGt (.int (L.length:Int)) (.int 40)=some (.bl (decide (40<L.length))):=by
  show some (D.bl (decide ((40:Int)<(L.length:Int))))=_
  congr 2;exact decide_eq_decide.mpr (by omega)
 by_cases h40:40<L.length
 .rw[zfA (zq7 v hl r h40) rfl (fl:=flags true false false false) rfl,zOB,b0,zOB,b1,waz h40];show Option.bind (dEqG false (.int (L.length:Int)) (.int (L.length:Int))) _=_
  rw[zhJ,waz rfl];rfl
 .have h:L.length<=40:=by omega
  cases hx:dupF [] (L.map Itm.nm) with
 |some x=>
    rw[zfA (zo4 v hl r h hx) rfl (fl:=flags false true false false) rfl,zOB,b0,zOB,b1,waq h40,zfB (by omega),hx];have hs:dEqG false (.str x) (.str x)=some (.bl true):=zeq rfl false
    show Option.bind (dEqG false (.str x) (.str x)) _=_
    rw[hs];rfl
 |none=>
    by_cases he:∃x∈L,x.hd≠none
    .obtain⟨y,hy⟩:=zo5 v hl r h hx he;have ha:(L.any λx=>decide (x.hd≠none))=true:=by
      rw[wbP];obtain⟨x,hx,q⟩:=he;exact⟨x,hx,waz q⟩
     rw[zfA hy rfl (fl:=flags false false false true) rfl,zOB,b0,zOB,b1,waq h40,zfB (by omega),hx];show Option.bind (Option.bind (Option.bind (aC (Option.bind (Option.bind (dSeq (GB.rowsD L)) (zbW (λd18=>(Option.bind (Option.bind (dIx d18 (.int 5)) λv19=>((dIs true) v19 D.non)) λz=>some (some z))))) λds=>some (.lst ds)) aN) bAny) dTru) _=_
     rw[zgy (by omega),ha];rfl
    .have hn:∀x∈L,x.hd=none:=λx hx=>Decidable.byContradiction λz=>he ⟨x,hx,z⟩
     have ha:(L.any λx=>decide (x.hd≠none))=false:=by
      rw[wcq];intro x hx;rw[hn x hx];simp
     rw[zms (zq8 v hl r h hx hn) (zkW v hl r h hx hn),zOB,b0,zOB,b1,waq h40,zfB (by omega),hx];show Option.bind (Option.bind (Option.bind (aC (Option.bind (Option.bind (dSeq (GB.rowsD L)) (zbW (λd18=>(Option.bind (Option.bind (dIx d18 (.int 5)) λv19=>((dIs true) v19 D.non)) λz=>some (some z))))) λds=>some (.lst ds)) aN) bAny) dTru) _=_
     rw[zgy (by omega),ha];have ot:=zhj (zgh v 0)
     show Option.bind (dEqG false (.tup [.str "told",.tup (fo L 0)]) (.tup [.str "told",.tup (fo L 0)])) _=_
     rw[zeq (zhK (d:=.tup [.str "told",.tup (fo L 0)]) (by show(true&&(ndL (fo L 0)&&true))=true;rw[ot.1];rfl) (by show max 0 (max (depL (fo L 0)+1) 0)+1<=40;omega)) false];rfl
def zq9 {ds:List D}{bad:D}(hb:bad∈ds)(hbad:zau (zag 6) [bad,.int 1]=some (.bl false))(hg:∀d∈ds,zau (zag 6) [d,.int 1]=some (.bl true)\/zau (zag 6) [d,.int 1]=some (.bl false)):zag 7 [.tup ds,.int 1]=some (.bl false):=by
 rw[znl (n:=6) (λd=>decide (zau (zag 6) [d,.int 1]=some (.bl true))) (by decide) λd h=>by
  rcases hg d h with e|e
  .rw[e];rfl
  .rw[e];rfl]
 congr 2;rw[List.all_eq_false];exact⟨bad,hb,by rw[hbad];decide⟩
def zkX {ds:List D}(h:zag 7 [.tup ds,.int 1]=some (.bl false)):zaU [.tup ds]=some (.tup [flags false false true false,.bl true,zdy]):=by
 refine zfA (e:=zdy) ?_ rfl rfl;show(zan (.tup ds)).or _=_
 have:zan (.tup ds)=some zdy:=by
  unfold zan;rw[h];rfl
 rw[this];rfl
def zgz:D:=(List.replicate 5 ()).foldl (λs _=>D.tup [(.str "x"),(.tup [(.int 0),(.int 0),(.int 1),(.int 1)]),(.str "free"),(.int 0),(.str "nobody"),(.tup [s])]) (.tup [(.str "y"),(.tup [(.int 0),(.int 0),(.int 1),(.int 1)]),(.str "free"),(.int 0),D.non,(.tup [])])
def zh5:zau (zag 6) [zgz,.int 1]=some (.bl false):=by decide +kernel
def zmt:zau (zag 6) [.non,.int 1]=some (.bl false):=by decide +kernel
def zmu {x:Itm}(g:Gd x){inn:List D}:zau (zag 6) [.tup [.str x.nm,x.bx,.str "open",.int x.rk,hdO x.hd,.tup inn],.int 1]=some (.bl false):=by
 show zcl (zag 6) (.tup [.str x.nm,x.bx,.str "open",.int x.rk,hdO x.hd,.tup inn]) (.int 1)=_
 unfold zcl;show Option.bind (Option.bind (Option.bind (Option.bind (zbm [.str x.nm]) dTru) λk12=>some (!k12)) λk11=>if k11 then some true else(Option.bind (Option.bind (Option.bind (zc1 [x.bx]) dTru) λk10=>some (!k10)) λk9=>if k9 then some true else(Option.bind (Option.bind (zbV [.str "open"]) dTru) λk8=>some (!k8)))) _=_
 rw[zhc g.nm,znk g.c g.d,show zbV [.str "open"]=some (.bl false) from rfl];rfl
def zkY {xs:List D}{n:Nat}:VD.cut xs none (some (n:Int))=xs.take n:=by
 by_cases h:n<=xs.length
 .rw[zfl (by omega) (by omega),wbY]
 .unfold VD.cut HT.sIx;try dsimp only[]
  rw[if_neg (by omega),List.drop_zero,Nat.sub_zero,Nat.min_eq_right (by omega),List.take_length,List.take_of_length_le (by omega)]
theorem zkZ:∀{m:Nat}{L:List Itm}{n:Nat},Vd m L->Vd m (L.take n)
|_,_,0,_=>by rw[List.take_zero];exact .nil
|_,_,_+1,.nil=>.nil
|_,_,n+1,.cons hm h4 t=>.cons hm h4 (zkZ t)
theorem dp4:∀{m:Nat}{L:List Itm},Vd m L->∀x∈L,x.dp<=4
|_,_,.cons hm h4 t,x,hx=>by
   rcases wah.mp hx with rfl|hx
   .exact h4
   .exact dp4 t x hx
def bst {A B:Type}{o:Option A}{k:A->Option B}{a:A}{r:Option B}(e:o=some a)(h:k a=r):o.bind k=r:=by rw[e];exact h
def zra {S:Scr}:zoK S [.scr S.p]=some (.bl true):=by
 obtain⟨t,L,eR,v,l30,l63,r⟩:=zo1 (S:=S);show zmo S (.scr S.p)=_
 unfold zmo;have hh:=zkK (L:=L) (λx hx=>dp4 v x hx) (by omega)
 rw[eR,zOB,hh,zOB,zh4 v l63 r];refine bst (a:=false) rfl ?_;rw[if_neg (by decide)];refine bst rfl ?_;refine bst (a:=zgz) rfl ?_;obtain⟨x0,S0,rfl⟩:∃x S0,L=x::S0:=by
  cases L with
 |nil=>simp at l30
 |cons x S0=>exact⟨x,S0,rfl⟩
 have hd0:x0.dp=0:=by
  cases v with
 |cons hm h4 t=>omega
 have hfo:fo (x0::S0) 0=part x0 0 (fo S0 1)::fo S0 0:=by
  show(if 0=x0.dp then _ else _)=_
  rw[if_pos hd0.symm]
 have hlen:(fo (x0::S0) 0).length<=63:=wal ze0 l63
 have hgood:∀d∈fo (x0::S0) 0,zau (zag 6) [d,.int 1]=some (.bl true):=zqW (gfo v (λx h=>(r x h).good) 0 (by decide))
 have g0:=(r x0 wak).good
 have i0:dIx (.tup (fo (x0::S0) 0)) (.int 0)=some (part x0 0 (fo S0 1)):=by rw[hfo];exact za7 (j:=0) rfl
 have ad:∀d:D,dAdd (.tup (fo (x0::S0) 0)) (.tup [d])=some (.tup (fo (x0::S0) 0++[d])):=λd=>if_pos (wal (by rw[wap,wbT];omega:_<=64) (by decide))
 have ad2:∀d:D,dAdd (.tup [d]) (.tup (fo (x0::S0) 0))=some (.tup (d::fo (x0::S0) 0)):=λd=>by
  show(if fo (x0::S0) 0 = [] then none else if([d]++fo (x0::S0) 0).length<=lim then some (D.tup ([d]++fo (x0::S0) 0)) else none)=_
  rw[if_neg (by rw[hfo];simp),if_pos (wal (by rw[wap,wbT];omega:_<=64) (by decide))];rfl
 rw[i0];show Option.bind (Option.bind (aC (dAdd (.tup (fo (x0::S0) 0)) (.tup [.tup [.str x0.nm,x0.bx,.str "open",.int x0.rk,hdO x0.hd,.tup (fo S0 1)]])) (aC (dAdd (.tup (fo (x0::S0) 0)) (.tup [D.non])) (aC (dAdd (.tup (fo (x0::S0) 0)) (.tup [zgz])) (aC (dAdd (.tup [zgz]) (.tup (fo (x0::S0) 0))) aN)))) mkT) _=_
 rw[ad,ad,ad,ad2];refine bst (a:=D.tup [.tup (fo (x0::S0) 0++[.tup [.str x0.nm,x0.bx,.str "open",.int x0.rk,hdO x0.hd,.tup (fo S0 1)]]),.tup (fo (x0::S0) 0++[D.non]),.tup (fo (x0::S0) 0++[zgz]),.tup (zgz::fo (x0::S0) 0)]) rfl ?_;refine bst (a:=[D.tup (fo (x0::S0) 0++[.tup [.str x0.nm,x0.bx,.str "open",.int x0.rk,hdO x0.hd,.tup (fo S0 1)]]),.tup (fo (x0::S0) 0++[D.non]),.tup (fo (x0::S0) 0++[zgz]),.tup (zgz::fo (x0::S0) 0)]) rfl ?_;have hb:∀(bad:D) (ds:List D),zau (zag 6) [bad,.int 1]=some (.bl false)->bad∈ds->(∀d∈ds,d=bad\/d∈fo (x0::S0) 0)->zaU [.tup ds]=some (.tup [flags false false true false,.bl true,zdy]):=λbad ds h1 h2 h3=>zkX (zq9 h2 h1 λd hd=>by
  rcases h3 d hd with e|e
  .rw[e];exact .inr h1
  .exact .inl (hgood d e))
 have hs:∀bad:D,∀d∈fo (x0::S0) 0++[bad],d=bad\/d∈fo (x0::S0) 0:=λbad d hd=>by
  rcases waC.mp hd with h|h
  .exact .inr h
  .exact .inl (wao.mp h)
 rw[zgW λd hd=>?_]
 .rw[zOB];show Option.bind (Option.bind (Option.bind (Option.bind (aC (some (.lst (VD.cut ((x0::S0).map Itm.d) none (some ((40:Nat):Int))))) (aC (Option.bind (aC (some (.lst (VD.cut ((x0::S0).map Itm.d) none (some ((40:Nat):Int))))) aN) za5) aN)) zaH) dTru) λk24=>some (!k24)) _=_
  rw[zkY,<-List.map_take];have v4:=zkZ (n:=40) v
  have r4:∀x∈(x0::S0).take 40,Rw t x:=λx hx=>r x (List.mem_of_mem_take hx)
  have l4:((x0::S0).take 40).length<=63:=wal (List.length_take_le _ _) (by decide)
  have hh4:za5 [.lst (((x0::S0).take 40).map Itm.d)]=some (.tup (fo ((x0::S0).take 40) 0)):=zkK (λx hx=>dp4 v4 x hx) (by omega)
  show Option.bind (Option.bind (Option.bind (Option.bind (aC (some (.lst (((x0::S0).take 40).map Itm.d))) (aC (za5 [.lst (((x0::S0).take 40).map Itm.d)]) aN)) zaH) dTru) λk24=>some (!k24)) _=_
  rw[hh4];show Option.bind (Option.bind (Option.bind (zaH [GB.rowsD ((x0::S0).take 40),.tup (fo ((x0::S0).take 40) 0)]) dTru) λk24=>some (!k24)) _=_
  rw[zh4 v4 l4 r4];rfl
 .have:zaU [d]=some (.tup [flags false false true false,.bl true,zdy]):=by
   simp only[wah,wcx,or_false] at hd;rcases hd with rfl|rfl|rfl|rfl
   .exact hb _ _ (zmu g0) (by simp) (hs _)
   .exact hb _ _ zmt (by simp) (hs _)
   .exact hb _ _ zh5 (by simp) (hs _)
   .exact hb _ _ zh5 (by simp) λd hd=>by
     rcases wah.mp hd with h|h
     .exact .inl h
     .exact .inr h
  rw[this];rfl
end Pg
namespace VD
open PySem PySem.Spec PyProof PyProof.Rows L2 PySem.W
def PcM (K:W.Frag)(S:Scr)(ts:List (Addr×Str))(H:Hp):Prop:=SqF K S H/\∀t∈ts,TabH t.1 t.2 H
def zcC {K:W.Frag}{S:Scr}{ts:List (Addr×Str)}:Pers (PcM K S ts):=⟨λu h=>⟨pers_F.st u h.1,λt ht=>pers_T.st u (h.2 t ht)⟩,λs h=>⟨pers_F.sm s h.1,λt ht=>pers_T.sm s (h.2 t ht)⟩⟩
def zhk {K:W.Frag}{S:Scr}{ts:List (Addr×Str)}(i:Nat){t:Addr×Str}(h:ts[i]?=some t):∀H,PcM K S ts H->TabH t.1 t.2 H:=λH hp=>hp.2 t (waH h)
def nmM (ts:List (Addr×Str))(a:Addr):Array Value:=#[.str ((ts.lookup a).getD "") 0]
theorem zno:∀{ts:List (Addr×Str)},(ts.map (·.1)).Nodup->∀t∈ts,(nmM ts t.1)[0]?=some (Value.str t.2 0)
|[],_,t,h=>by cases h
|(a,q)::ts,nd,t,h=>by
   rw[waK,waM] at nd;rcases wah.mp h with rfl|h
   .unfold nmM;simp
   .have hne:(t.1 == a)=false:=beq_eq_false_iff_ne.mpr λz=>nd.1 (by rw[<-z];exact waD.mpr ⟨t,h,rfl⟩)
    have ih:=zno nd.2 t h
    unfold nmM at ih⊢;rw[waT,hne];exact ih
def spM (K:W.Frag)(qs:List Str):List Addr->(Addr->Array Value)->Sp:=λtb nm vs H Q _=>vs.length=1/\(tb.length=qs.length->(∀t∈tb.zip qs,(nm t.1)[0]?=some (Value.str t.2 0))->∃S:Scr,vs = [.ref S.p]/\PcM K S (tb.zip qs) H/\∀H',Q (.bl true) H')
def lawM {P:Program}{w:World}{K:W.Frag}{mg:Str->Option Value}{base:Heap}{k:Nat}{f:Addr}{fd:FuncData}{x:Str}{tb:List Addr}{qs:List Str}{m:Scr->List D->Option D}{nm:Addr->Array Value}
 (hl0:tb.length=qs.length) (hn:∀t∈tb.zip qs,(nm t.1)[0]?=some (Value.str t.2 0)) (F:∀S:Scr,FnOk P w K mg base CX0 k f fd [x] (pcS (PcM K S (tb.zip qs)) (spF K (m S)))) (hl:∀S:Scr,m S [.scr S.p]=some (.bl true)):FnOk P w K mg base CX0 k f fd [x] (spM K qs tb nm):=
 ⟨λvs H Q E h=>h.1,λA outer s H args us vs Q E hr he hb hv h=>by
  obtain⟨S,e,hP,hq⟩:=h.2 hl0 hn;subst e;refine(F S).run A outer s H args us _ Q E hr he hb hv ⟨hP,λ_=>False,[.scr S.p],.bl true,λ_ h=>h.elim,.cons (.scr _) .nil,hl S,λv H' J' u r=>?_⟩;cases r;exact hq _⟩
def walkM {l:PySem.W.OpenLaw}{k:Nat}{x:Str}{qs:List Str}{q:Program}{loose:List Str}{XP:(Str->Option Value)->Heap->Prop}{YP:World->Heap->Prop}{d:DefRec}{K:Params->W.Frag}(hn:l.most=some 63)(hdf:d.params.defaults = [])(hr:Room k callerA)
 (hY:∀(w:World) (h:Heap),YP w h->(K w.params).In h)
 (F:∀(w:World) (mg mb:Str->Option Value) (mean:ExcName->Option Value) (fa:Addr) (h:Heap),(K w.params).In h->Top q (PySem.W.looseW q loose) mean mg mb h->mg d.name=some (.ref fa)->
  ∃(fd:FuncData) (tb:List Addr) (nm:Addr->Array Value),Tabs (K w.params) h tb/\(∀(s:Shared) (u:Value),BindsTo s fd ⟨[u],[]⟩ [(x,u)])/\
   ∀(base:Heap) (bm:Addr) (ob:Obj),(K w.params).In base->base.Ns mainGlobals mg->BMod base mainGlobals mg bm ob->FnOk l.prog w (K w.params) mg base CX0 k fa fd [x] (spM (K w.params) qs tb nm)) :
 PySem.W.WalkO q loose XP YP l.row.toRowW d [] (λf vs=>PySem.call f vs):=
 zlg (n:=63) (k:=k) (x:=x) (CX:=λ_=>CX0) (sp:=λw=>spM (K w.params) qs) hn (by decide) hdf hr hY F
  (λw tb nm H a ns hl hT hS hF=>⟨rfl,λh0 h1=>⟨⟨a,ns⟩,rfl,⟨SqF.of hS hF,λt ht=>⟨_,hT t.1 (wcD ht).1,h1 t ht⟩⟩,λ_=>rfl⟩⟩) λ_ _ _ _ _ z=>z
def zfC {K:W.Frag}{h:Heap}{ct Pt p:Addr}{ocd:Obj}{vs:Array Value}(X:K.In h)(hB:Based h h ct Pt #[])(lt:K.lookup ct=some ocd)(dt:ocd.data=.fields vs)(v11:vs.getD 11 .none=.ref p):Pt=p:=by
 obtain⟨o,vs',_,_,_,_,_,_,_,_,e1,e2,e3,_⟩:=hB.code;rw[X _ _ lt] at e1;cases e1;rw[dt] at e2;cases e2;rw[v11] at e3;cases e3;rfl
theorem zk0 {P:Program}{w:World}{K:W.Frag}{mg:Str->Option Value}{base:Heap}{f:Addr}{fd:FuncData}{ps:List Str}{x:Str}{Pc:Hp->Prop}{b:(List D->Option D)->List D->Option D}{m:Nat->List D->Option D}{c:Nat}(h0:∀ds,m 0 ds=none)(hs:∀n,m (n+1)=b (m n))
 (bd:Binds K fd ps []) (kp:W.keepIn K (.ref f)=true) (mx:mg x=some (.ref f)) {k:Nat}(hlen:∀n ds d,m n ds=some d->ds.length=ps.length)
 (step:∀{n:Nat}{self:List D->Option D},Cal P w K mg base n x ps (pcS Pc (spF K self))->FnOk P w K mg base CX0 (n+c) f fd ps (pcS Pc (spF K (b self)))):∀n,FnOk P w K mg base CX0 (k+c*n) f fd ps (pcS Pc (spF K (m n)))
|0=>by
   refine⟨λvs H Q E h=>?_,λA outer s H args us vs Q E _ _ _ _ h=>?_⟩
   .obtain⟨_,J,ds,d,_,_,e,_⟩:=h;rw[h0] at e;cases e
   .obtain⟨_,J,ds,d,_,_,e,_⟩:=h;rw[h0] at e;cases e
|n+1=>by
   rw[hs,Nat.mul_succ,<-Nat.add_assoc];exact step ⟨f,fd,zk0 h0 hs bd kp mx hlen step n,bd,kp,mx⟩
end VD
namespace PySem.W.Fast
def tw4571293492733173612:=0
def tw14062577790460034192:=0
def tw15024595558689800387:=0
def tw2886409083788628372:=0
def tw2798204423001375870:=0
def tw5845742915741802052:=0
def tw16288957361360430616:=0
def tw7083265686016846214:=0
def tw5739872133634421777:=0
def tw14403828066702047144:=0
end PySem.W.Fast
namespace Pg
open PySem PySem.Spec PyProof PyProof.Rows L2 VD EX
def zaB {p:Str->Prop}{x:Str}{xs:List Str}(h:p x)(t:∀y∈xs,p y):∀y∈x::xs,p y:=λy hy=>(wah.mp hy).elim (λe=>e▸h) (t y)
def FH (K:W.Frag)(x:Str)(st:Stmt)(f:Addr):Prop:=W.nsIn K mainGlobals x=some (some (.ref f))/\(∃fd,Fun K x x st f fd)/\W.keepIn K (.ref f)=true
def fh_mk {K:W.Frag}{x:Str}{st:Stmt}{f:Addr}{oc:Value}{od an:Option Addr}{osl:Array (Option Value)}{kV doc pm cdv ct:Value}(a:W.nsIn K mainGlobals x=some (some (.ref f)))(l:K.lookup f=some ⟨oc,od,.func (W.fnOf x x (zcb st) (zaV st) (zab st) .none kV doc pm an cdv ct),osl⟩)(c:W.codeIn K cdv x=true)(k:W.keepIn K (.ref f)=true):FH K x st f:=⟨a,⟨_,zfQ l c k⟩,k⟩
def xj_mk {K:W.Frag}{C N:Addr}{nm0 q:Str}{bs bm:List Value}{hdct:Bool}{sn:List Str}{sub:List Value}{ab:Bool}{col:Option Bool}{dd:Option Addr}{k0 k1 k2 k3 k5:Option Value}
 (lk:K.lookup C=some (excClassObj nm0 q C N bs bm hdct sn sub ab col dd k0 k1 k2 k3 k5 "ValueError.__new__")) (opq:W.nsIn K PySem.cStatics "thirdparty.any"=some none) (self:PySem.W.mroIn K C (.ref C)=some true) (t1:EX.tailIn K [.type "ValueError",.type "Exception",.type "BaseException",.type "object"] bm=true) (no:W.nsIn K N "__init__"=some none) (sN:EX.strsIn K N=true):EX.XJ K C N bm:=
 ⟨⟨⟨nm0,q,bs,hdct,sn,sub,ab,col,dd,k0,k1,k2,k3,k5,lk⟩,λh X=>EX.tail_K X (λA tl=>by simp) t1,opq,self⟩,no,sN⟩
def zdz:∀(n:Nat) (ds:List D) (d:D),zaC n ds=some d->ds.length=2
|0,ds,d,e=>by cases e
|n+1,ds,d,e=>zdo ds d e
def zeN:∀(n:Nat) (ds:List D) (d:D),zag n ds=some d->ds.length=2
|0,ds,d,e=>by cases e
|n+1,ds,d,e=>zdo ds d e
structure KI (K:W.Frag)(a b c d:Addr)(v:Value)(p q r s:Bool):Prop where
 x1:PySem.W.kitOne K (.ref a) v=some p
 x2:PySem.W.kitOne K (.ref b) v=some q
 x3:PySem.W.kitOne K (.ref c) v=some r
 x4:PySem.W.kitOne K (.ref d) v=some s
def all_mk {l:PySem.W.OpenLaw}{q:Program}{loose:List Str}{w:World}{K:W.Frag}{h:Heap}{mg mb:Str->Option Value}{mean:ExcName->Option Value}{dR5 dR7 dR12:DefRec}{fa f1 f2 f3 f4 f5 f6 f7 f8 f9 f10 f11 f12 f13 f14 f15 f16 f17 f18 f19 f20 f21 f22 f23 f24 f25 f26 f27 q5 p5 q7 p7 q12 p12:Addr}(X:K.In h)(T:Top q loose mean mg mb h)(hfa:mg "law"=some (.ref fa))
 {od5 an5 od7 an7 od12 an12 od27 an27:Option Addr}{sl5 sl7 sl12 sl27:Array (Option Value)}{oc5 kV5 dc5 pm5 ct5 oc7 kV7 dc7 pm7 ct7 oc12 kV12 dc12 pm12 ct12 oc27 kV27 dc27 pm27 ct27 cd27:Value}
 {oct5:Obj}{vs5:Array Value}(lt5:K.lookup q5=some oct5) (dt5:oct5.data=.fields vs5) (v5:vs5.getD 11 .none=.ref p5)
 {oct7:Obj}{vs7:Array Value}(lt7:K.lookup q7=some oct7) (dt7:oct7.data=.fields vs7) (v7:vs7.getD 11 .none=.ref p7)
 {oct12:Obj}{vs12:Array Value}(lt12:K.lookup q12=some oct12) (dt12:oct12.data=.fields vs12) (v12:vs12.getD 11 .none=.ref p12)
 (nd:[p5,p7,p12].Nodup)
 (h1:FH K "placed_within" zbT f1)
 (h2:FH K "placed_parts" zcg f2)
 (h3:FH K "parts_of" zcW f3)
 (h4:FH K "names_of" zcV f4)
 (a5:W.nsIn K mainGlobals "is_name"=some (some (.ref f5))) (l5:K.lookup f5=some ⟨oc5,od5,.func (W.fnOf "is_name" "is_name" (zcb zbD) (zaV zbD) (zab zbD) .none kV5 dc5 pm5 an5 (.ref q5) ct5),sl5⟩) (c5:W.codeIn K (.ref q5) "is_name"=true) (k5:W.keepIn K (.ref f5)=true)
 (h6:FH K "is_whole" zdG f6)
 (a7:W.nsIn K mainGlobals "is_box"=some (some (.ref f7))) (l7:K.lookup f7=some ⟨oc7,od7,.func (W.fnOf "is_box" "is_box" (zcb zb3) (zaV zb3) (zab zb3) .none kV7 dc7 pm7 an7 (.ref q7) ct7),sl7⟩) (c7:W.codeIn K (.ref q7) "is_box"=true) (k7:W.keepIn K (.ref f7)=true)
 (h8:FH K "is_word" zev f8)
 (h9:FH K "is_rank" zew f9)
 (h10:FH K "is_head" zex f10)
 (h11:FH K "is_part" zeu f11)
 (a12:W.nsIn K mainGlobals "are_parts"=some (some (.ref f12))) (l12:K.lookup f12=some ⟨oc12,od12,.func (W.fnOf "are_parts" "are_parts" (zcb za2) (zaV za2) (zab za2) .none kV12 dc12 pm12 an12 (.ref q12) ct12),sl12⟩) (c12:W.codeIn K (.ref q12) "are_parts"=true) (k12:W.keepIn K (.ref f12)=true)
 (h13:FH K "musts_of" zcX f13)
 (h14:FH K "refuse_twice" zbt f14)
 (h15:FH K "are_nested" zcN f15)
 (h16:FH K "refuse_heads" zaR f16)
 (h17:FH K "tied_names" zbE f17)
 (h18:FH K "ring_of" zey f18)
 (h19:FH K "checked" zdu f19)
 (h20:FH K "_law_feed" zdf f20)
 (h21:FH K "_law_next" zdg f21)
 (h22:FH K "_law_rows" zdh f22)
 (h23:FH K "_law_hung" zcr f23)
 (h24:FH K "_law_got" zcY f24)
 (h25:FH K "_law_twice" zcO f25)
 (h26:FH K "_law_right" zb4 f26)
 (a27:W.nsIn K mainGlobals "law"=some (some (.ref f27))) (l27:K.lookup f27=some ⟨oc27,od27,.func (W.fnOf "law" "law" (zcb zfs) (zaV zfs) (zab zfs) .none kV27 dc27 pm27 an27 cd27 ct27),sl27⟩) (c27:W.codeIn K cd27 "law"=true) (k27:W.keepIn K (.ref f27)=true)
 (z0:W.nsIn K mainGlobals "len"=some none)
 (z1:W.nsIn K mainGlobals "range"=some none)
 (z2:W.nsIn K mainGlobals "min"=some none)
 (z3:W.nsIn K mainGlobals "max"=some none)
 (z4:W.nsIn K mainGlobals "int"=some none)
 (z5:W.nsIn K mainGlobals "str"=some none)
 (z6:W.nsIn K mainGlobals "bool"=some none)
 (z7:W.nsIn K mainGlobals "list"=some none)
 (z8:W.nsIn K mainGlobals "tuple"=some none)
 (z9:W.nsIn K mainGlobals "isinstance"=some none)
 (z10:W.nsIn K mainGlobals "any"=some none)
 (z11:W.nsIn K mainGlobals "all"=some none)
 (z12:W.nsIn K mainGlobals "enumerate"=some none)
 (z13:W.nsIn K mainGlobals "abs"=some none)
 (z14:W.nsIn K mainGlobals "sorted"=some none)
 (z15:W.nsIn K mainGlobals "dict"=some none)
 (z16:W.nsIn K mainGlobals "ord"=some none)
 (z17:W.nsIn K mainGlobals "chr"=some none)
 (z18:W.nsIn K mainGlobals "reversed"=some none)
 {tk_PARTS:Tok}
 {tk_NAME:Tok}
 {tk_LONGEST_NAME:Tok}
 {tk_LETTERS:Tok}
 {p_WORDS:Addr}{od_WORDS:Option Addr}{n_WORDS:Nat}{sl_WORDS:Array (Option Value)}{tk_WORDS_0 tk_WORDS_1 tk_WORDS_2:Tok}
 {tk_DEEPEST:Tok}
 {tk_HEAD:Tok}
 {tk_MOST_PARTS:Tok}
 (K_str:Kit K "str")
 (K_bool:Kit K "bool")
 (K_int:Kit K "int")
 (K_tuple:Kit K "tuple")
 (g_PARTS:W.nsIn K mainGlobals "PARTS"=some (some (.int 5 tk_PARTS)))
 (g_NAME:W.nsIn K mainGlobals "NAME"=some (some (.int 0 tk_NAME)))
 (g_LONGEST_NAME:W.nsIn K mainGlobals "LONGEST_NAME"=some (some (.int 8 tk_LONGEST_NAME)))
 (g_LETTERS:W.nsIn K mainGlobals "LETTERS"=some (some (.str "abcdefghijklmnopqrstuvwxyz" tk_LETTERS)))
 (g_WORDS:W.nsIn K mainGlobals "WORDS"=some (some (.ref p_WORDS)))
 (l_WORDS:K.lookup p_WORDS=some ⟨.type "tuple",od_WORDS,.seq #[.str "free" tk_WORDS_0,.str "shut" tk_WORDS_1,.str "hidden" tk_WORDS_2] n_WORDS,sl_WORDS⟩)
 (g_DEEPEST:W.nsIn K mainGlobals "DEEPEST"=some (some (.int 5 tk_DEEPEST)))
 (g_HEAD:W.nsIn K mainGlobals "HEAD"=some (some (.int 4 tk_HEAD)))
 (g_MOST_PARTS:W.nsIn K mainGlobals "MOST_PARTS"=some (some (.int 40 tk_MOST_PARTS)))
 {C_TooMany:Addr}(n_TooMany:W.nsIn K mainGlobals "TooMany"=some (some (.ref C_TooMany)))
 {C_Twice:Addr}(n_Twice:W.nsIn K mainGlobals "Twice"=some (some (.ref C_Twice)))
 {C_NoHead:Addr}(n_NoHead:W.nsIn K mainGlobals "NoHead"=some (some (.ref C_NoHead)))
 {C_NoSheet:Addr}(n_NoSheet:W.nsIn K mainGlobals "NoSheet"=some (some (.ref C_NoSheet)))
 {C_FocusError:Addr}(n_FocusError:W.nsIn K mainGlobals "FocusError"=some (some (.ref C_FocusError)))
 {C_MustRing:Addr}(n_MustRing:W.nsIn K mainGlobals "MustRing"=some (some (.ref C_MustRing)))
 {C_NoPart:Addr}(n_NoPart:W.nsIn K mainGlobals "NoPart"=some (some (.ref C_NoPart)))
 {N_TooMany fI_TooMany:Addr}{bm_TooMany:List Value}{q_TooMany x_TooMany slf_TooMany:Str}{k2_TooMany:Nat}{cq_TooMany np_TooMany fp_TooMany jp_TooMany:Pos}{fd_TooMany:FuncData}(xi_TooMany:EX.XI l.prog w K C_TooMany N_TooMany fI_TooMany bm_TooMany slf_TooMany x_TooMany "many" (.JoinedStr [.FormattedValue (.Name x_TooMany np_TooMany) (-1) none fp_TooMany,.Constant (.str q_TooMany) k2_TooMany cq_TooMany] jp_TooMany) fd_TooMany) (kp_TooMany:W.keepIn K (.ref C_TooMany)=true) (bb_TooMany:bm_TooMany.contains (.type "BaseException")=true) (pl_TooMany:q_TooMany.length<=1000)
 {N_Twice fI_Twice:Addr}{bm_Twice:List Value}{p_Twice x_Twice slf_Twice:Str}{k_Twice:Nat}{cp_Twice np_Twice fp_Twice jp_Twice:Pos}{fd_Twice:FuncData}(xi_Twice:EX.XI l.prog w K C_Twice N_Twice fI_Twice bm_Twice slf_Twice x_Twice "name" (.JoinedStr [.Constant (.str p_Twice) k_Twice cp_Twice,.FormattedValue (.Name x_Twice np_Twice) 114 none fp_Twice] jp_Twice) fd_Twice) (kp_Twice:W.keepIn K (.ref C_Twice)=true) (bb_Twice:bm_Twice.contains (.type "BaseException")=true) (pl_Twice:p_Twice.length<=1000)
 {N_NoHead fI_NoHead:Addr}{bm_NoHead:List Value}{p_NoHead q_NoHead x_NoHead slf_NoHead:Str}{k_NoHead k2_NoHead:Nat}{cp_NoHead cq_NoHead np_NoHead fp_NoHead jp_NoHead:Pos}{fd_NoHead:FuncData}(xi_NoHead:EX.XI l.prog w K C_NoHead N_NoHead fI_NoHead bm_NoHead slf_NoHead x_NoHead "name" (.JoinedStr [.Constant (.str p_NoHead) k_NoHead cp_NoHead,.FormattedValue (.Name x_NoHead np_NoHead) 114 none fp_NoHead,.Constant (.str q_NoHead) k2_NoHead cq_NoHead] jp_NoHead) fd_NoHead) (kp_NoHead:W.keepIn K (.ref C_NoHead)=true) (bb_NoHead:bm_NoHead.contains (.type "BaseException")=true) (pl_NoHead:p_NoHead.length+q_NoHead.length<=1000)
 {N_NoSheet:Addr}{bm_NoSheet:List Value}(xj_NoSheet:EX.XJ K C_NoSheet N_NoSheet bm_NoSheet) (kp_NoSheet:W.keepIn K (.ref C_NoSheet)=true) (bb_NoSheet:bm_NoSheet.contains (.type "BaseException")=true)
 (z_super:W.nsIn K mainGlobals "super"=some none)
 (fe_b:PySem.W.mroIn K C_FocusError (.type "BaseException")=some true)
 (fe_t:PySem.W.typeIn K (.ref C_FocusError)=some (.type "type"))
 (z_VE:W.nsIn K mainGlobals "ValueError"=some none)
 (fe_NoSheet:PySem.W.mroIn K C_NoSheet (.ref C_FocusError)=some true)
 (xk_NoSheet:EX.XK1 K C_NoSheet)
 (fe_TooMany:PySem.W.mroIn K C_TooMany (.ref C_FocusError)=some true)
 (xk_TooMany:EX.XK1 K C_TooMany)
 (fe_Twice:PySem.W.mroIn K C_Twice (.ref C_FocusError)=some true)
 (xk_Twice:EX.XK1 K C_Twice)
 (fe_NoHead:PySem.W.mroIn K C_NoHead (.ref C_FocusError)=some true)
 (xk_NoHead:EX.XK1 K C_NoHead)
 (xg_many:EX.XG K C_TooMany "many")
 (xg_name:EX.XG K C_Twice "name")
 (i_TooMany:KI K C_NoSheet C_TooMany C_Twice C_NoHead (.ref C_TooMany) false true false false)
 (i_Twice:KI K C_NoSheet C_TooMany C_Twice C_NoHead (.ref C_Twice) false false true false)
 (i_NoSheet:KI K C_NoSheet C_TooMany C_Twice C_NoHead (.ref C_NoSheet) true false false false)
 (i_NoHead:KI K C_NoSheet C_TooMany C_Twice C_NoHead (.ref C_NoHead) false false false true)
 (i_MustRing:KI K C_NoSheet C_TooMany C_Twice C_NoHead (.ref C_MustRing) false false false false)
 (i_NoPart:KI K C_NoSheet C_TooMany C_Twice C_NoHead (.ref C_NoPart) false false false false)
 (i_VE:KI K C_NoSheet C_TooMany C_Twice C_NoHead (.type "ValueError") true true true true)
 (hK:PySem.W.kb_classed K=true) (hf5:(recsOf q).find? (λe=>e.name == (Str.ofString "is_name"))=some dR5) (hf7:(recsOf q).find? (λe=>e.name == (Str.ofString "is_box"))=some dR7) (hf12:(recsOf q).find? (λe=>e.name == (Str.ofString "are_parts"))=some dR12)
 : ∃(fd:FuncData) (tb:List Addr) (nm:Addr->Array Value),Tabs K h tb/\(∀(s:Shared) (v:Value),BindsTo s fd ⟨[v],[]⟩ [("_law_script",v)])/\∀(base:Heap) (bm:Addr) (ob:Obj),K.In base->base.Ns mainGlobals mg->BMod base mainGlobals mg bm ob->FnOk l.prog w K mg base CX0 54 fa fd ["_law_script"] (spM K ["is_name.<locals>.<genexpr>","is_box.<locals>.<genexpr>","are_parts.<locals>.<genexpr>"] tb nm):=by
 have e:=hfa.symm.trans (waJ X T.g a27)
 cases e;have G_PARTS:GlobD K mg "PARTS" (.int 5):=zcS (waJ X T.g g_PARTS)
 have G_NAME:GlobD K mg "NAME" (.int 0):=zcS (waJ X T.g g_NAME)
 have G_LONGEST_NAME:GlobD K mg "LONGEST_NAME" (.int 8):=zcS (waJ X T.g g_LONGEST_NAME)
 have G_LETTERS:GlobD K mg "LETTERS" (.str "abcdefghijklmnopqrstuvwxyz"):=zlE (waJ X T.g g_LETTERS)
 have G_WORDS:GlobD K mg "WORDS" (.tup [(.str "free"),(.str "shut"),(.str "hidden")]):=zlF (vs:=[.str "free",.str "shut",.str "hidden"]) (waJ X T.g g_WORDS) l_WORDS rfl rfl (by show 3<=sizeLine;decide) (.cons ⟨_,rfl⟩ (.cons ⟨_,rfl⟩ (.cons ⟨_,rfl⟩ (.nil)))) (λ_ _=>.cons (.str _) (.cons (.str _) (.cons (.str _) (.nil))))
 have G_DEEPEST:GlobD K mg "DEEPEST" (.int 5):=zcS (waJ X T.g g_DEEPEST)
 have G_HEAD:GlobD K mg "HEAD" (.int 4):=zcS (waJ X T.g g_HEAD)
 have G_MOST_PARTS:GlobD K mg "MOST_PARTS" (.int 40):=zcS (waJ X T.g g_MOST_PARTS)
 obtain⟨a1,⟨_,F1⟩,k1⟩:=h1;have b1:=F1.binds (ps:=["parts","outer_place"]) λ_ _ _ _ _ _=>λ|[_,_],_=>rfl
 have m1:=waJ X T.g a1
 obtain⟨a2,⟨_,F2⟩,k2⟩:=h2;have b2:=F2.binds (ps:=["sheet"]) λ_ _ _ _ _ _=>λ|[_],_=>rfl
 have m2:=waJ X T.g a2
 obtain⟨a3,⟨_,F3⟩,k3⟩:=h3;have b3:=F3.binds (ps:=["sheet"]) λ_ _ _ _ _ _=>λ|[_],_=>rfl
 have m3:=waJ X T.g a3
 obtain⟨a4,⟨_,F4⟩,k4⟩:=h4;have b4:=F4.binds (ps:=["sheet"]) λ_ _ _ _ _ _=>λ|[_],_=>rfl
 have m4:=waJ X T.g a4
 have F5:=zfQ (st:=zbD) l5 c5 k5
 have b5:=F5.binds (ps:=["thing"]) λ_ _ _ _ _ _=>λ|[_],_=>rfl
 have m5:=waJ X T.g a5
 obtain⟨a6,⟨_,F6⟩,k6⟩:=h6;have b6:=F6.binds (ps:=["thing"]) λ_ _ _ _ _ _=>λ|[_],_=>rfl
 have m6:=waJ X T.g a6
 have F7:=zfQ (st:=zb3) l7 c7 k7
 have b7:=F7.binds (ps:=["thing"]) λ_ _ _ _ _ _=>λ|[_],_=>rfl
 have m7:=waJ X T.g a7
 obtain⟨a8,⟨_,F8⟩,k8⟩:=h8;have b8:=F8.binds (ps:=["thing"]) λ_ _ _ _ _ _=>λ|[_],_=>rfl
 have m8:=waJ X T.g a8
 obtain⟨a9,⟨_,F9⟩,k9⟩:=h9;have b9:=F9.binds (ps:=["thing"]) λ_ _ _ _ _ _=>λ|[_],_=>rfl
 have m9:=waJ X T.g a9
 obtain⟨a10,⟨_,F10⟩,k10⟩:=h10;have b10:=F10.binds (ps:=["thing"]) λ_ _ _ _ _ _=>λ|[_],_=>rfl
 have m10:=waJ X T.g a10
 obtain⟨a11,⟨_,F11⟩,k11⟩:=h11;have b11:=F11.binds (ps:=["thing","deep"]) λ_ _ _ _ _ _=>λ|[_,_],_=>rfl
 have m11:=waJ X T.g a11
 have F12:=zfQ (st:=za2) l12 c12 k12
 have b12:=F12.binds (ps:=["thing","deep"]) λ_ _ _ _ _ _=>λ|[_,_],_=>rfl
 have m12:=waJ X T.g a12
 obtain⟨a13,⟨_,F13⟩,k13⟩:=h13;have b13:=F13.binds (ps:=["sheet"]) λ_ _ _ _ _ _=>λ|[_],_=>rfl
 have m13:=waJ X T.g a13
 obtain⟨a14,⟨_,F14⟩,k14⟩:=h14;have b14:=F14.binds (ps:=["names"]) λ_ _ _ _ _ _=>λ|[_],_=>rfl
 have m14:=waJ X T.g a14
 obtain⟨a15,⟨_,F15⟩,k15⟩:=h15;have b15:=F15.binds (ps:=["one","other"]) λ_ _ _ _ _ _=>λ|[_,_],_=>rfl
 have m15:=waJ X T.g a15
 obtain⟨a16,⟨_,F16⟩,k16⟩:=h16;have b16:=F16.binds (ps:=["sheet"]) λ_ _ _ _ _ _=>λ|[_],_=>rfl
 have m16:=waJ X T.g a16
 obtain⟨a17,⟨_,F17⟩,k17⟩:=h17;have b17:=F17.binds (ps:=["names","musts"]) λ_ _ _ _ _ _=>λ|[_,_],_=>rfl
 have m17:=waJ X T.g a17
 obtain⟨a18,⟨_,F18⟩,k18⟩:=h18;have b18:=F18.binds (ps:=["names","musts"]) λ_ _ _ _ _ _=>λ|[_,_],_=>rfl
 have m18:=waJ X T.g a18
 obtain⟨a19,⟨_,F19⟩,k19⟩:=h19;have b19:=F19.binds (ps:=["thing"]) λ_ _ _ _ _ _=>λ|[_],_=>rfl
 have m19:=waJ X T.g a19
 obtain⟨a20,⟨_,F20⟩,k20⟩:=h20;have b20:=F20.binds (ps:=["_law_script","_law_k"]) λ_ _ _ _ _ _=>λ|[_,_],_=>rfl
 have m20:=waJ X T.g a20
 obtain⟨a21,⟨_,F21⟩,k21⟩:=h21;have b21:=F21.binds (ps:=["_law_feed_here","_law_many"]) λ_ _ _ _ _ _=>λ|[_,_],_=>rfl
 have m21:=waJ X T.g a21
 obtain⟨a22,⟨_,F22⟩,k22⟩:=h22;have b22:=F22.binds (ps:=["_law_script"]) λ_ _ _ _ _ _=>λ|[_],_=>rfl
 have m22:=waJ X T.g a22
 obtain⟨a23,⟨_,F23⟩,k23⟩:=h23;have b23:=F23.binds (ps:=["_law_rows_here"]) λ_ _ _ _ _ _=>λ|[_],_=>rfl
 have m23:=waJ X T.g a23
 obtain⟨a24,⟨_,F24⟩,k24⟩:=h24;have b24:=F24.binds (ps:=["_law_thing"]) λ_ _ _ _ _ _=>λ|[_],_=>rfl
 have m24:=waJ X T.g a24
 obtain⟨a25,⟨_,F25⟩,k25⟩:=h25;have b25:=F25.binds (ps:=["_law_rows_here"]) λ_ _ _ _ _ _=>λ|[_],_=>rfl
 have m25:=waJ X T.g a25
 obtain⟨a26,⟨_,F26⟩,k26⟩:=h26;have b26:=F26.binds (ps:=["_law_rows_here","_law_sheet"]) λ_ _ _ _ _ _=>λ|[_,_],_=>rfl
 have m26:=waJ X T.g a26
 have F27:=zfQ (st:=zfs) l27 c27 k27
 have m27:=waJ X T.g a27
 have B:Blt mg:=zaB (waF X T.g z0) (zaB (waF X T.g z1) (zaB (waF X T.g z2) (zaB (waF X T.g z3) (zaB (waF X T.g z4) (zaB (waF X T.g z5) (zaB (waF X T.g z6) (zaB (waF X T.g z7) (zaB (waF X T.g z8) (zaB (waF X T.g z9) (zaB (waF X T.g z10) (zaB (waF X T.g z11) (zaB (waF X T.g z12) (zaB (waF X T.g z13) (zaB (waF X T.g z14) (zaB (waF X T.g z15) (zaB (waF X T.g z16) (zaB (waF X T.g z17) (zaB (waF X T.g z18) (λ_ hy=>by cases hy)))))))))))))))))))
 have m_TooMany:=waJ X T.g n_TooMany
 have m_Twice:=waJ X T.g n_Twice
 have m_NoHead:=waJ X T.g n_NoHead
 have m_NoSheet:=waJ X T.g n_NoSheet
 have m_FocusError:=waJ X T.g n_FocusError
 have m_MustRing:=waJ X T.g n_MustRing
 have m_NoPart:=waJ X T.g n_NoPart
 have X_TooMany:XCl l.prog w K mg "TooMany" "many" zf9:=zoC xi_TooMany (waF X T.g z_super) m_TooMany n_TooMany kp_TooMany bb_TooMany pl_TooMany
 have X_Twice:XCl l.prog w K mg "Twice" "name" zd0:=zmc xi_Twice (waF X T.g z_super) m_Twice n_Twice kp_Twice bb_Twice pl_Twice
 have X_NoHead:XCl l.prog w K mg "NoHead" "name" zd0:=zkt xi_NoHead (waF X T.g z_super) m_NoHead n_NoHead kp_NoHead bb_NoHead pl_NoHead
 have X_NoSheet:XCl0 K mg "NoSheet":=⟨C_NoSheet,N_NoSheet,bm_NoSheet,xj_NoSheet,m_NoSheet,n_NoSheet,kp_NoSheet,bb_NoSheet⟩
 have xi {v:Value}{p q r s:Bool}(h:KI K C_NoSheet C_TooMany C_Twice C_NoHead v p q r s):XInst K v [("NoSheet",p),("TooMany",q),("Twice",r),("NoHead",s)]:=zcT n_NoSheet xk_NoSheet h.x1 (zcT n_TooMany xk_TooMany h.x2 (zcT n_Twice xk_Twice h.x3 (zcT n_NoHead xk_NoHead h.x4 (zks))))
 have XF_many:XFld K "many" ["TooMany"]:=zf8 n_TooMany xg_many zhT
 have XF_name:XFld K "name" ["Twice"]:=zf8 n_Twice xg_name zhT
 obtain⟨ct'5,Pt5,hcd5,hB5⟩:=wcA T hf5 m5 (X _ _ l5) rfl;obtain rfl:q5=ct'5:=Value.ref.inj hcd5;obtain rfl:Pt5=p5:=zfC X hB5 lt5 dt5 v5;have hC5:=CodeK.of X c5 hB5
 obtain⟨ct'7,Pt7,hcd7,hB7⟩:=wcA T hf7 m7 (X _ _ l7) rfl;obtain rfl:q7=ct'7:=Value.ref.inj hcd7;obtain rfl:Pt7=p7:=zfC X hB7 lt7 dt7 v7;have hC7:=CodeK.of X c7 hB7
 obtain⟨ct'12,Pt12,hcd12,hB12⟩:=wcA T hf12 m12 (X _ _ l12) rfl;obtain rfl:q12=ct'12:=Value.ref.inj hcd12;obtain rfl:Pt12=p12:=zfC X hB12 lt12 dt12 v12;have hC12:=CodeK.of X c12 hB12
 refine⟨W.fnOf "law" "law" (zcb zfs) (zaV zfs) (zab zfs) .none kV27 dc27 pm27 an27 cd27 ct27,[Pt5,Pt7,Pt12],nmM [(Pt5,"is_name.<locals>.<genexpr>"),(Pt7,"is_box.<locals>.<genexpr>"),(Pt12,"are_parts.<locals>.<genexpr>")],⟨(λP hP=>by
  rcases wah.mp hP with rfl|hP
  .exact⟨_,hB5.tab⟩
  rcases wah.mp hP with rfl|hP
  .exact⟨_,hB7.tab⟩
  rcases wah.mp hP with rfl|hP
  .exact⟨_,hB12.tab⟩
  cases hP),(λP hP=>by
  rcases wah.mp hP with rfl|hP
  .exact zgI X T.g hB5 hK
  rcases wah.mp hP with rfl|hP
  .exact zgI X T.g hB7 hK
  rcases wah.mp hP with rfl|hP
  .exact zgI X T.g hB12 hK
  cases hP)⟩,λs v=>.of_eq rfl,λbase bm ob hk hn hM=>lawM (m:=zoK) (tb:=[Pt5,Pt7,Pt12]) (qs:=["is_name.<locals>.<genexpr>","is_box.<locals>.<genexpr>","are_parts.<locals>.<genexpr>"]) rfl (zno (ts:=[(Pt5,"is_name.<locals>.<genexpr>"),(Pt7,"is_box.<locals>.<genexpr>"),(Pt12,"are_parts.<locals>.<genexpr>")]) nd) (λS=>?_) λS=>zra (S:=S)⟩
 have TT5:TabF K mg base _ Pt5:=⟨q5,bm,ob,hcd5,hC5,hM⟩
 have TT7:TabF K mg base _ Pt7:=⟨q7,bm,ob,hcd7,hC7,hM⟩
 have TT12:TabF K mg base _ Pt12:=⟨q12,bm,ob,hcd12,hC12,hM⟩
 have g_placed_within:=zmQ (P:=l.prog) (w:=w) (K:=K) (mg:=mg) (base:=base) (x:="placed_within") (ps:=["parts","outer_place"]) (b:=zbU) (m:=zaC) (k:=0) (λ_=>rfl) (λ_=>rfl) b1 k1 m1 (zdz) (λ{n} {self} C=>by rw[Nat.zero_add] at *;exact zd1 F1 B C G_PARTS) 8
 have C_placed_within:=zaL (x:="placed_within") g_placed_within b1 k1 m1
 have g_placed_parts:=zeA (P:=l.prog) (w:=w) (mg:=mg) (base:=base) F2 B C_placed_within
 have C_placed_parts:=zaL (x:="placed_parts") g_placed_parts b2 k2 m2
 have g_parts_of:=zg4 (P:=l.prog) (w:=w) (mg:=mg) (base:=base) F3 B C_placed_parts
 have C_parts_of:=zaL (x:="parts_of") g_parts_of b3 k3 m3
 have g_names_of:=zg6 (P:=l.prog) (w:=w) (mg:=mg) (base:=base) F4 B C_parts_of G_NAME
 have C_names_of:=zaL (x:="names_of") g_names_of b4 k4 m4
 have g_is_name:=ziA (P:=l.prog) (w:=w) (mg:=mg) (base:=base) F5 B (Pc:=PcM K S [(Pt5,"is_name.<locals>.<genexpr>"),(Pt7,"is_box.<locals>.<genexpr>"),(Pt12,"are_parts.<locals>.<genexpr>")]) zcC TT5 (zhk (t:=(Pt5,"is_name.<locals>.<genexpr>")) 0 rfl) K_str G_LONGEST_NAME G_LETTERS
 have C_is_name:=zaL (x:="is_name") g_is_name b5 k5 m5
 have g_is_whole:=zg8 (P:=l.prog) (w:=w) (mg:=mg) (base:=base) F6 B K_bool K_int
 have C_is_whole:=zaL (x:="is_whole") g_is_whole b6 k6 m6
 have g_is_box:=zkD (P:=l.prog) (w:=w) (mg:=mg) (base:=base) F7 B (Pc:=PcM K S [(Pt5,"is_name.<locals>.<genexpr>"),(Pt7,"is_box.<locals>.<genexpr>"),(Pt12,"are_parts.<locals>.<genexpr>")]) zcC TT7 (zhk (t:=(Pt7,"is_box.<locals>.<genexpr>")) 1 rfl) C_is_whole K_tuple
 have C_is_box:=zaL (x:="is_box") g_is_box b7 k7 m7
 have g_is_word:=ziC (P:=l.prog) (w:=w) (mg:=mg) (base:=base) F8 B K_str G_WORDS
 have C_is_word:=zaL (x:="is_word") g_is_word b8 k8 m8
 have g_is_rank:=ziE (P:=l.prog) (w:=w) (mg:=mg) (base:=base) F9 B C_is_whole
 have C_is_rank:=zaL (x:="is_rank") g_is_rank b9 k9 m9
 have g_is_head:=ziG (P:=l.prog) (w:=w) (mg:=mg) (base:=base) F10 B (Pc:=PcM K S [(Pt5,"is_name.<locals>.<genexpr>"),(Pt7,"is_box.<locals>.<genexpr>"),(Pt12,"are_parts.<locals>.<genexpr>")]) zcC C_is_name
 have C_is_head:=zaL (x:="is_head") g_is_head b10 k10 m10
 have g_are_parts:=zk0 (P:=l.prog) (w:=w) (K:=K) (mg:=mg) (base:=base) (x:="are_parts") (ps:=["thing","deep"]) (Pc:=PcM K S [(Pt5,"is_name.<locals>.<genexpr>"),(Pt7,"is_box.<locals>.<genexpr>"),(Pt12,"are_parts.<locals>.<genexpr>")]) (b:=zdi) (m:=zag) (c:=7) (k:=0) (λ_=>rfl) (λ_=>rfl) b12 k12 m12 (zeN) (λ{n} {self} C=>by
  have g_is_part:=ziH (P:=l.prog) (w:=w) (mg:=mg) (base:=base) F11 B (Pc:=PcM K S [(Pt5,"is_name.<locals>.<genexpr>"),(Pt7,"is_box.<locals>.<genexpr>"),(Pt12,"are_parts.<locals>.<genexpr>")]) zcC C_is_word C_is_box C_is_name C C_is_head C_is_rank K_tuple
  have C_is_part:=zaL (x:="is_part") g_is_part b11 k11 m11
  exact zgm (P:=l.prog) (w:=w) (mg:=mg) (base:=base) F12 B (Pc:=PcM K S [(Pt5,"is_name.<locals>.<genexpr>"),(Pt7,"is_box.<locals>.<genexpr>"),(Pt12,"are_parts.<locals>.<genexpr>")]) zcC TT12 (zhk (t:=(Pt12,"are_parts.<locals>.<genexpr>")) 2 rfl) C_is_part K_tuple G_DEEPEST) 7
 have C_are_parts:=zaL (x:="are_parts") g_are_parts b12 k12 m12
 have g_musts_of:=zg9 (P:=l.prog) (w:=w) (mg:=mg) (base:=base) F13 B C_parts_of G_PARTS G_NAME G_HEAD
 have C_musts_of:=zaL (x:="musts_of") g_musts_of b13 k13 m13
 have g_refuse_twice:=zeB (P:=l.prog) (w:=w) (mg:=mg) (base:=base) F14 B
 have C_refuse_twice:=zaL (x:="refuse_twice") g_refuse_twice b14 k14 m14
 have g_are_nested:=zft (P:=l.prog) (w:=w) (mg:=mg) (base:=base) F15 B
 have C_are_nested:=zaL (x:="are_nested") g_are_nested b15 k15 m15
 have g_refuse_heads:=zeC (P:=l.prog) (w:=w) (mg:=mg) (base:=base) F16 B C_placed_parts G_NAME G_HEAD
 have C_refuse_heads:=zaL (x:="refuse_heads") g_refuse_heads b16 k16 m16
 have g_tied_names:=zfu (P:=l.prog) (w:=w) (mg:=mg) (base:=base) F17 B
 have C_tied_names:=zaL (x:="tied_names") g_tied_names b17 k17 m17
 have g_ring_of:=ziI (P:=l.prog) (w:=w) (mg:=mg) (base:=base) F18 B C_tied_names
 have C_ring_of:=zaL (x:="ring_of") g_ring_of b18 k18 m18
 have g_checked:=ziJ (P:=l.prog) (w:=w) (mg:=mg) (base:=base) F19 B (Pc:=PcM K S [(Pt5,"is_name.<locals>.<genexpr>"),(Pt7,"is_box.<locals>.<genexpr>"),(Pt12,"are_parts.<locals>.<genexpr>")]) zcC C_are_parts C_names_of C_refuse_twice C_refuse_heads C_ring_of C_musts_of G_MOST_PARTS
 have C_checked:=zaL (x:="checked") g_checked b19 k19 m19
 have gLfeed:=zgp (P:=l.prog) (w:=w) (mg:=mg) (base:=base) F20 B (Pc:=PcM K S [(Pt5,"is_name.<locals>.<genexpr>"),(Pt7,"is_box.<locals>.<genexpr>"),(Pt12,"are_parts.<locals>.<genexpr>")]) zcC (S:=S) (λH h=>h.1)
 have CLfeed:=zaL (x:="_law_feed") gLfeed b20 k20 m20
 have gLnext:=zgq (P:=l.prog) (w:=w) (mg:=mg) (base:=base) F21 B
 have CLnext:=zaL (x:="_law_next") gLnext b21 k21 m21
 have gLrows:=zgr (P:=l.prog) (w:=w) (mg:=mg) (base:=base) F22 B (Pc:=PcM K S [(Pt5,"is_name.<locals>.<genexpr>"),(Pt7,"is_box.<locals>.<genexpr>"),(Pt12,"are_parts.<locals>.<genexpr>")]) zcC (S:=S) CLfeed CLnext
 have CLrows:=zaL (x:="_law_rows") gLrows b22 k22 m22
 have gLhung:=zgs (P:=l.prog) (w:=w) (mg:=mg) (base:=base) F23 B
 have CLhung:=zaL (x:="_law_hung") gLhung b23 k23 m23
 have gx_refuse_twice:=zdH (P:=l.prog) (w:=w) (mg:=mg) (base:=base) F14 B X_Twice
 have X_refuse_twice:=zg0 (x:="refuse_twice") gx_refuse_twice b14 k14 m14
 have gx_refuse_heads:=zdI (P:=l.prog) (w:=w) (mg:=mg) (base:=base) F16 B C_placed_parts C_are_nested G_NAME G_HEAD X_NoHead
 have X_refuse_heads:=zg0 (x:="refuse_heads") gx_refuse_heads b16 k16 m16
 have gx_checked:=zgn (P:=l.prog) (w:=w) (mg:=mg) (base:=base) F19 B (Pc:=PcM K S [(Pt5,"is_name.<locals>.<genexpr>"),(Pt7,"is_box.<locals>.<genexpr>"),(Pt12,"are_parts.<locals>.<genexpr>")]) zcC C_are_parts X_NoSheet C_names_of X_TooMany G_MOST_PARTS X_refuse_twice C_refuse_twice X_refuse_heads
 have X_checked:=zg0 (x:="checked") gx_checked b19 k19 m19
 have gLgot:=zha (P:=l.prog) (w:=w) (mg:=mg) (base:=base) F24 B (Pc:=PcM K S [(Pt5,"is_name.<locals>.<genexpr>"),(Pt7,"is_box.<locals>.<genexpr>"),(Pt12,"are_parts.<locals>.<genexpr>")]) zcC C_checked X_checked (zd7 m_FocusError n_NoSheet fe_NoSheet (zd7 m_FocusError n_TooMany fe_TooMany (zd7 m_FocusError n_Twice fe_Twice (zd7 m_FocusError n_NoHead fe_NoHead (zoB m_FocusError fe_b fe_t))))) m_TooMany m_Twice m_NoSheet m_NoHead m_MustRing m_NoPart (waF X T.g z_VE) (xi i_TooMany) (xi i_Twice) (xi i_NoSheet) (xi i_NoHead) (xi i_MustRing) (xi i_NoPart) (xi i_VE)
 have CLgot:=zaL (x:="_law_got") gLgot b24 k24 m24
 have gLtwice:=zfv (P:=l.prog) (w:=w) (mg:=mg) (base:=base) F25 B
 have CLtwice:=zaL (x:="_law_twice") gLtwice b25 k25 m25
 have gLright:=zfw (P:=l.prog) (w:=w) (mg:=mg) (base:=base) F26 B (Pc:=PcM K S [(Pt5,"is_name.<locals>.<genexpr>"),(Pt7,"is_box.<locals>.<genexpr>"),(Pt12,"are_parts.<locals>.<genexpr>")]) zcC CLgot CLtwice XF_many XF_name
 have CLright:=zaL (x:="_law_right") gLright b26 k26 m26
 exact zqQ (P:=l.prog) (w:=w) (mg:=mg) (base:=base) F27 B (Pc:=PcM K S [(Pt5,"is_name.<locals>.<genexpr>"),(Pt7,"is_box.<locals>.<genexpr>"),(Pt12,"are_parts.<locals>.<genexpr>")]) zcC (S:=S) CLrows CLhung CLright CLgot
end Pg
open PySem PySem.W PyProof.Rows
set_option maxRecDepth 100000 in
set_option maxHeartbeats 0 in
theorem PySem.Challenge.cw_focuswalk_k05_too_many_and_twice_holds : PySem.Challenge.rw_focuswalk_k05_too_many_and_twice.Holds := by
 w_on;o_law;k_head;(case hw=>w_witness2)
 k_fill
 refine VD.walkM (l:=PySem.Challenge.rw_focuswalk_k05_too_many_and_twice) (k:=54) (x:="_law_script") (qs:=["is_name.<locals>.<genexpr>","is_box.<locals>.<genexpr>","are_parts.<locals>.<genexpr>"]) rfl rfl ⟨rfl,by decide,by decide,rfl⟩ (λw h Y=>PySem.W.kIn_of Y) ?F;case F=>
  intro w mg mb mean fa h KX T hmg;refine' Pg.all_mk KX T hmg ?lt5 ?dt5 ?v5 ?lt7 ?dt7 ?v7 ?lt12 ?dt12 ?v12 ?nd (Pg.fh_mk ?a1 ?l1 ?c1 ?k1) (Pg.fh_mk ?a2 ?l2 ?c2 ?k2) (Pg.fh_mk ?a3 ?l3 ?c3 ?k3) (Pg.fh_mk ?a4 ?l4 ?c4 ?k4) ?a5 ?l5 ?c5 ?k5 (Pg.fh_mk ?a6 ?l6 ?c6 ?k6) ?a7 ?l7 ?c7 ?k7 (Pg.fh_mk ?a8 ?l8 ?c8 ?k8) (Pg.fh_mk ?a9 ?l9 ?c9 ?k9) (Pg.fh_mk ?a10 ?l10 ?c10 ?k10) (Pg.fh_mk ?a11 ?l11 ?c11 ?k11) ?a12 ?l12 ?c12 ?k12 (Pg.fh_mk ?a13 ?l13 ?c13 ?k13) (Pg.fh_mk ?a14 ?l14 ?c14 ?k14) (Pg.fh_mk ?a15 ?l15 ?c15 ?k15) (Pg.fh_mk ?a16 ?l16 ?c16 ?k16) (Pg.fh_mk ?a17 ?l17 ?c17 ?k17) (Pg.fh_mk ?a18 ?l18 ?c18 ?k18) (Pg.fh_mk ?a19 ?l19 ?c19 ?k19) (Pg.fh_mk ?a20 ?l20 ?c20 ?k20) (Pg.fh_mk ?a21 ?l21 ?c21 ?k21) (Pg.fh_mk ?a22 ?l22 ?c22 ?k22) (Pg.fh_mk ?a23 ?l23 ?c23 ?k23) (Pg.fh_mk ?a24 ?l24 ?c24 ?k24) (Pg.fh_mk ?a25 ?l25 ?c25 ?k25) (Pg.fh_mk ?a26 ?l26 ?c26 ?k26) ?a27 ?l27 ?c27 ?k27 ?z0 ?z1 ?z2 ?z3 ?z4 ?z5 ?z6 ?z7 ?z8 ?z9 ?z10 ?z11 ?z12 ?z13 ?z14 ?z15 ?z16 ?z17 ?z18 ⟨?t_str_NoneType,?t_str_bool,?t_str_int,?t_str_str,?t_str_tuple,?t_str_list,?t_str_dict⟩ ⟨?t_bool_NoneType,?t_bool_bool,?t_bool_int,?t_bool_str,?t_bool_tuple,?t_bool_list,?t_bool_dict⟩ ⟨?t_int_NoneType,?t_int_bool,?t_int_int,?t_int_str,?t_int_tuple,?t_int_list,?t_int_dict⟩ ⟨?t_tuple_NoneType,?t_tuple_bool,?t_tuple_int,?t_tuple_str,?t_tuple_tuple,?t_tuple_list,?t_tuple_dict⟩ ?g_PARTS ?g_NAME ?g_LONGEST_NAME ?g_LETTERS ?g_WORDS ?l_WORDS ?g_DEEPEST ?g_HEAD ?g_MOST_PARTS ?n_TooMany ?n_Twice ?n_NoHead ?n_NoSheet ?n_FocusError ?n_MustRing ?n_NoPart (EX.xi_mk ?lk_TooMany ?i_TooMany ?lf_TooMany ?opq_TooMany ?self_TooMany ?st_TooMany ?tak_TooMany ?cdi_TooMany ?hc_TooMany ?lc_TooMany ?lcc_TooMany ?occd_TooMany ?inC_TooMany ?t1_TooMany ?sN_TooMany ?und_TooMany ?hasD_TooMany ?body_TooMany ?ne_TooMany ?dbg_TooMany ?par_TooMany ?bind_TooMany ?cell_TooMany ?loc1_TooMany ?loc2_TooMany ?flags_TooMany ?kinds_TooMany ?file_TooMany ?top_TooMany ?glob_TooMany ?blt_TooMany ?ccl_TooMany) ?kp_TooMany ?bb_TooMany ?pl_TooMany (EX.xi_mk ?lk_Twice ?i_Twice ?lf_Twice ?opq_Twice ?self_Twice ?st_Twice ?tak_Twice ?cdi_Twice ?hc_Twice ?lc_Twice ?lcc_Twice ?occd_Twice ?inC_Twice ?t1_Twice ?sN_Twice ?und_Twice ?hasD_Twice ?body_Twice ?ne_Twice ?dbg_Twice ?par_Twice ?bind_Twice ?cell_Twice ?loc1_Twice ?loc2_Twice ?flags_Twice ?kinds_Twice ?file_Twice ?top_Twice ?glob_Twice ?blt_Twice ?ccl_Twice) ?kp_Twice ?bb_Twice ?pl_Twice (EX.xi_mk ?lk_NoHead ?i_NoHead ?lf_NoHead ?opq_NoHead ?self_NoHead ?st_NoHead ?tak_NoHead ?cdi_NoHead ?hc_NoHead ?lc_NoHead ?lcc_NoHead ?occd_NoHead ?inC_NoHead ?t1_NoHead ?sN_NoHead ?und_NoHead ?hasD_NoHead ?body_NoHead ?ne_NoHead ?dbg_NoHead ?par_NoHead ?bind_NoHead ?cell_NoHead ?loc1_NoHead ?loc2_NoHead ?flags_NoHead ?kinds_NoHead ?file_NoHead ?top_NoHead ?glob_NoHead ?blt_NoHead ?ccl_NoHead) ?kp_NoHead ?bb_NoHead ?pl_NoHead (Pg.xj_mk ?lk_NoSheet ?opq_NoSheet ?self_NoSheet ?t1_NoSheet ?no_NoSheet ?sN_NoSheet) ?kp_NoSheet ?bb_NoSheet ?z_super ?fe_b ?fe_t ?z_VE ?fe_NoSheet ⟨?ga_NoSheet,?gt_NoSheet,?xb_NoSheet,?xo_NoSheet,?hd_NoSheet,?cl_NoSheet,?x_sg,?x_tk⟩ ?fe_TooMany ⟨?ga_TooMany,?gt_TooMany,?xb_TooMany,?xo_TooMany,?hd_TooMany,?cl_TooMany,?x_sg,?x_tk⟩ ?fe_Twice ⟨?ga_Twice,?gt_Twice,?xb_Twice,?xo_Twice,?hd_Twice,?cl_Twice,?x_sg,?x_tk⟩ ?fe_NoHead ⟨?ga_NoHead,?gt_NoHead,?xb_NoHead,?xo_NoHead,?hd_NoHead,?cl_NoHead,?x_sg,?x_tk⟩ ⟨?ga_TooMany,?gt_TooMany,?xb_TooMany,?no_many,?hd_TooMany⟩ ⟨?ga_Twice,?gt_Twice,?xb_Twice,?no_name,?hd_Twice⟩ ⟨?i_TooMany_NoSheet,?i_TooMany_TooMany,?i_TooMany_Twice,?i_TooMany_NoHead⟩ ⟨?i_Twice_NoSheet,?i_Twice_TooMany,?i_Twice_Twice,?i_Twice_NoHead⟩ ⟨?i_NoSheet_NoSheet,?i_NoSheet_TooMany,?i_NoSheet_Twice,?i_NoSheet_NoHead⟩ ⟨?i_NoHead_NoSheet,?i_NoHead_TooMany,?i_NoHead_Twice,?i_NoHead_NoHead⟩ ⟨?i_MustRing_NoSheet,?i_MustRing_TooMany,?i_MustRing_Twice,?i_MustRing_NoHead⟩ ⟨?i_NoPart_NoSheet,?i_NoPart_TooMany,?i_NoPart_Twice,?i_NoPart_NoHead⟩ ⟨?i_VE_NoSheet,?i_VE_TooMany,?i_VE_Twice,?i_VE_NoHead⟩ ?hK ?hf5 ?hf7 ?hf12
  (case n_TooMany|n_Twice|n_NoHead|n_NoSheet|n_FocusError|n_MustRing|n_NoPart=>k_is)
  (case lk_TooMany|lk_Twice|lk_NoHead=>k_is)
  (case i_TooMany|i_Twice|i_NoHead=>k_is)
  (case lf_TooMany|lf_Twice|lf_NoHead=>k_is)
  (case opq_TooMany|opq_Twice|opq_NoHead=>k_is)
  (case self_TooMany|self_Twice|self_NoHead=>k_is)
  (case st_TooMany|st_Twice|st_NoHead=>k_is)
  (case tak_TooMany|tak_Twice|tak_NoHead=>k_is)
  (case cdi_TooMany|cdi_Twice|cdi_NoHead=>first|k_is|exact rfl)
  (case hc_TooMany|hc_Twice|hc_NoHead=>exact rfl)
  (case lc_TooMany|lc_Twice|lc_NoHead=>k_is)
  (case ccl_TooMany|ccl_Twice|ccl_NoHead=>exact λ_=>rfl)
  (case lcc_TooMany|lcc_Twice|lcc_NoHead=>k_is)
  (case occd_TooMany|occd_Twice|occd_NoHead=>exact rfl)
  (case inC_TooMany|inC_Twice|inC_NoHead=>exact rfl)
  (case t1_TooMany|t1_Twice|t1_NoHead=>exact rfl)
  (case sN_TooMany|sN_Twice|sN_NoHead=>exact rfl)
  (case und_TooMany|und_Twice|und_NoHead=>exact rfl)
  (case hasD_TooMany|hasD_Twice|hasD_NoHead=>exact rfl)
  (case body_TooMany|body_Twice|body_NoHead=>exact⟨_,_,_,_,_,_,_,_,_,rfl,λ_=>rfl,λ_=>rfl,λ_=>rfl,λ_=>rfl,λ_=>_,λ_=>rfl⟩)
  (case ne_TooMany|ne_Twice|ne_NoHead=>decide)
  (case dbg_TooMany|dbg_Twice|dbg_NoHead=>decide)
  (case par_TooMany|par_Twice|par_NoHead=>exact⟨_,rfl,rfl⟩)
  (case bind_TooMany|bind_Twice|bind_NoHead=>exact λ_ _=>rfl)
  (case cell_TooMany|cell_Twice|cell_NoHead=>decide)
  (case loc1_TooMany|loc1_Twice|loc1_NoHead=>exact rfl)
  (case loc2_TooMany|loc2_Twice|loc2_NoHead=>exact rfl)
  (case flags_TooMany|flags_Twice|flags_NoHead=>exact⟨rfl,rfl,rfl⟩)
  (case kinds_TooMany|kinds_Twice|kinds_NoHead=>exact λ_=>⟨rfl,rfl,rfl,rfl⟩)
  (case file_TooMany|file_Twice|file_NoHead=>exact⟨_,_,_,rfl,rfl,rfl⟩)
  (case top_TooMany|top_Twice|top_NoHead=>exact rfl)
  (case glob_TooMany|glob_Twice|glob_NoHead=>exact λ_=>rfl)
  (case blt_TooMany|blt_Twice|blt_NoHead=>exact λ_=>rfl)
  (case pl_TooMany|pl_Twice|pl_NoHead=>decide +kernel)
  (case lk_NoSheet=>k_is)
  (case opq_NoSheet=>k_is)
  (case self_NoSheet=>k_is)
  (case t1_NoSheet=>exact rfl)
  (case no_NoSheet=>k_is)
  (case sN_NoSheet=>exact rfl)
  (case hK=>first|(with_unfolding_all rfl)|rfl)
  (case hf5=>rfl)
  (case hf7=>rfl)
  (case hf12=>rfl)
  (case a5=>k_is)
  (case l5=>k_is)
  (case c5=>k_is)
  (case k5=>k_is)
  (case lt5=>k_is)
  (case dt5=>exact rfl)
  (case v5=>exact rfl)
  (case a7=>k_is)
  (case l7=>k_is)
  (case c7=>k_is)
  (case k7=>k_is)
  (case lt7=>k_is)
  (case dt7=>exact rfl)
  (case v7=>exact rfl)
  (case a12=>k_is)
  (case l12=>k_is)
  (case c12=>k_is)
  (case k12=>k_is)
  (case lt12=>k_is)
  (case dt12=>exact rfl)
  (case v12=>exact rfl)
  (case nd=>decide)
  all_goals try first|k_is|exact rfl|kit_is

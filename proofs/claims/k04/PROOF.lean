import PyProof.Rows.All
import Wide.All
import OpenK.AllK
import Wide.FinOn
import Lean
import PyProof.EqAt
import PyProof.EqKinds
import PyProof.TupleCall
import KE.KSortTup
import KE.KLam
import PyProof.NeKinds
import PyProof.StrCalls2
import PyProof.StrLawsJoin
import PyProof.MinMaxWalk
import PyProof.Rows.CallKwBuiltin
import PyProof.DictCompW
import KE.KRevIter
import PyProof.FactsAll.list_3
import PyProof.ExcInit
import PyProof.ExcClass3
import PyProof.StationsW
import KE.KSuper
import PyProof.ExcBaseAll.ValueError
import PyProof.RulesAs
import PyProof.NsDelKeeps
import PyProof.ExcArgs
import KE.KIsAll
import PyProof.FString4
import PyProof.ExcClass2
import PyProof.StrWalks
import PyProof.GenQ
import PyProof.ConsumeS
import PyProof.CodeObjX
import PySem.Challenge.RW_focuswalk_k04_what_is_no_sheet
set_option Elab.async false
set_option linter.all false
set_option maxRecDepth 100000
set_option maxHeartbeats 4000000
def waa:=@PySem.wpAny_bind
def wab:=@List.size_toArray
def wac:=@PySem.Heap.get?_push_of_some
def wad:=@List.mem_cons_of_mem
def wae:=@List.getElem?_eq_some_iff
def waf:=@List.mem_cons
def wag:=@List.getElem?_set_ne
def wah:=@List.mem_cons_self
def wai:=@Nat.le_refl
def waj:=@PySem.Heap.lt_size
def wak:=@PySem.wpAny_pure
def wal:=@List.mem_singleton
def wam:=@List.length_map
def wan:=@List.getElem?_eq_getElem
def wao:=@Nat.lt_of_lt_of_le
def wap:=@List.length_append
def waq:=@Nat.le_trans
def war:=@List.getElem?_map
def was:=@List.mem_append_right
def wat:=@decide_eq_false
def wau:=@Option.some.inj
def wav:=@PySem.Heap.get?_push_size
def waw:=@List.getElem?_set_self
def wax:=@PySem.wpAny_mono
def way:=@Nat.ne_of_lt
def waz:=@List.mem_append
def waA:=@decide_eq_true
def waB:=@List.length_take
def waC:=@Bool.and_eq_true
def waD:=@List.getElem?_append_right
def waE:=@List.mem_of_getElem?
def waF:=@PySem.Heap.get?_update_other
def waG:=@List.map_append
def waH:=@PySem.W.mg_none_of
def waI:=@List.getElem?_append_left
def waJ:=@List.all_eq_true
def waK:=@List.nodup_cons
def waL:=@List.map_cons
def waM:=@PySem.W.kia_one
def waN:=@List.append_assoc
def waO:=@List.mem_map
def waP:=@Nat.lt_irrefl
def waQ:=@PySem.wpAny_Call_Name_kw
def waR:=@List.getElem?_take
def waS:=@PyProof.Rows.callWith_type1
def waT:=@List.lookup_cons
def waU:=@Array.getElem?_eq_some_iff
def waV:=@List.mem_append_left
def waW:=@List.getElem?_of_mem
def waX:=@Nat.le_of_eq
def waY:=@List.append_nil
def waZ:=@List.replicate_succ
def wba:=@List.getElem?_eq_none
def wbb:=@congrArg
def wbc:=@PySem.W.mg_of
def wbd:=@Nat.le_of_succ_le_succ
def wbe:=@PyProof.Rows.slot_tuple_getitem
def wbf:=@PySem.wpAny_newObj_type
def wbg:=@List.nodup_append
def wbh:=@PySem.wpAny_standAt
def wbi:=@List.nodup_nil
def wbj:=@PySem.wpAny_loadPart'
def wbk:=@PySem.Heap.get?_update_self
def wbl:=@List.map_map
def wbm:=@Nat.min_eq_left
def wbn:=@PySem.Obj.data_mapFields
def wbo:=@PySem.wpAny_field
def wbp:=@List.length_cons
def wbq:=@PySem.wpAny_truthy_bool
def wbr:=@Option.map_eq_some_iff
def wbs:=@PySem.Heap.size_after_update
def wbt:=@List.not_mem_nil
def wbu:=@Nat.le_of_lt
def wbv:=@PySem.wpAny_holding
def wbw:=@Bool.false_ne_true
def wbx:=@Nat.lt_of_le_of_lt
def wby:=@PySem.Heap.size_push
def wbz:=@Nat.zero_le
def wbA:=@List.getElem?_zip_eq_some
def wbB:=@PySem.wpAny_passesOwn
def wbC:=@Bool.eq_iff_iff
def wbD:=@List.flatten_cons
def wbE:=@Int.toNat_natCast
def wbF:=@List.find?_cons
def wbG:=@Nat.sub_self
def wbH:=@PySem.mem_of_lookup
def wbI:=@PySem.wpAny_callSpecial?_slot
def wbJ:=@PySem.wpAny_getItem_str_slice
def wbK:=@List.getElem_cons_drop
def wbL:=@List.length_replicate
def wbM:=@List.length_singleton
def wbN:=@PySem.Obj.isFreed_of_fields
def wbO:=@Int.emod_nonneg
def wbP:=@List.reverse_cons
def wbQ:=@PySem.wpAny_loadPart_at
def wbR:=@List.getElem?_inj
def wbS:=@of_decide_eq_true
def wbT:=@List.mem_of_mem_take
def wbU:=@PySem.wpAny_setField
def wbV:=@List.drop_eq_getElem_cons
def wbW:=@Nat.le_succ
def wbX:=@List.length_reverse
def wbY:=@PySem.F.args_tuple_add_2
def wbZ:=@PySem.wpAny_execs_nil
def wca:=@PySem.wpAny_pyIter_tuple
def wcb:=@PySem.F.entry_tuple_add
def wcc:=@Bool.false_eq_true
def wcd:=@PySem.wpAny_pyIter_rangeiter
def wce:=@PySem.F.slot_tuple_add
def wcf:=@List.drop_of_length_le
def wcg:=@List.take_of_length_le
def wch:=@PySem.wpAny_pyIter_enum
def wci:=@List.singleton_append
def wcj:=@Bool.beq_eq_decide_eq
def wck:=@List.length_filter_le
def wcl:=@PySem.wpAny_call_entry
def wcm:=@List.drop_length
def wcn:=@PySem.F.plain_all_loop
def wco:=@PySem.Heap.get?_none_of_le
def wcp:=@PySem.codeAny_call_builtin
def wcq:=@PySem.W.based_of_top
def wcr:=@List.filterMap_cons
def wcs:=@Array.length_toList
def wct:=@List.of_mem_zip
def wcu:=@List.length_nil
def wcv:=@List.getElem?_range
def wcw:=@Option.map_some
def wcx:=@PySem.Sem.onRaise_eq_wrap
def wcy:=@PySem.codeAny_mono
def wcz:=@Nat.zero_add
def wcA:=@List.mem_range
def wcB:=@Nat.mul_le_mul
def wcC:=@List.drop_zero
def wcD:=@List.take_take
def wcE:=@PySem.wpAny_rule
def zOB {α β:Type _} (a:α) (f:α->Option β):Option.bind (some a) f=f a:=rfl
namespace L2
open PySem PySem.Spec PyProof.Rows
abbrev Key:=Sum Int Str
def zgP:Key->Value->Bool
|.inl k,v=>Value.isInt k v
|.inr x,v=>Value.isStrOf x v
def keyH (w:World):Key->Int
|.inl k=>hashInt k
|.inr x=>hashStr w x
def zaI:∀{k:Key}{v:Value},zgP k v=true->(∃i t,k=Sum.inl i/\v=Value.int i t)\/(∃x t,k=Sum.inr x/\v=Value.str x t)
|.inl i,v,h=>by
   obtain⟨t,e⟩:=Value.isInt_shape (k:=i) (v:=v) h;exact .inl ⟨i,t,rfl,e⟩
|.inr x,v,h=>by
   obtain⟨t,e⟩:=Value.isStrOf_shape (x:=x) (v:=v) h;exact .inr ⟨x,t,rfl,e⟩
def zhs (i:Int)(t:Tok):zgP (.inl i) (.int i t)=true:=by simp[zgP,Value.isInt]
def zht (x:Str)(t:Tok):zgP (.inr x) (.str x t)=true:=by simp[zgP,Value.isStrOf]
def zmZ (a b:Int):decide ((Sum.inl a:Key)=Sum.inl b)=(a == b):=by
 by_cases e:a=b
 .subst e;simp
 .have h:¬(Sum.inl a:Key)=Sum.inl b:=λq=>e (Sum.inl.inj q)
  rw[wat h];exact(beq_eq_false_iff_ne.mpr e).symm
def zm0 (a b:Str):decide ((Sum.inr a:Key)=Sum.inr b)=decide (a=b):=by
 by_cases e:a=b
 .subst e;simp
 .have h:¬(Sum.inr a:Key)=Sum.inr b:=λq=>e (Sum.inr.inj q)
  rw[wat h,wat e]
def zm1 (a:Int)(b:Str):decide ((Sum.inl a:Key)=Sum.inr b)=false:=wat (λq=>nomatch q)
def zm2 (a:Str)(b:Int):decide ((Sum.inr a:Key)=Sum.inl b)=false:=wat (λq=>nomatch q)
def zbc (prog:Program)(w:World):PySem.KeyKind prog w Key where
 is:=zgP
 hash:=keyH w
 inj:=λv a b ha hb=>by
  rcases zaI ha with⟨i,t,rfl,rfl⟩|⟨x,t,rfl,rfl⟩
  .rcases zaI hb with⟨j,u,rfl,e⟩|⟨y,u,rfl,e⟩
   .injection e with e1 _;rw[e1]
   .exact nomatch e
  .rcases zaI hb with⟨j,u,rfl,e⟩|⟨y,u,rfl,e⟩
   .exact nomatch e
   .injection e with e1 _;rw[e1]
 byValue:=λk v h=>by
  rcases zaI h with⟨i,t,rfl,rfl⟩|⟨x,t,rfl,rfl⟩ <;> rfl
 pyHash:=λhv h=>by
  rcases zaI hv with⟨i,t,rfl,rfl⟩|⟨x,t,rfl,rfl⟩
  .exact wpAny_pyHash_int h
  .exact wpAny_pyHash_str h
 eqBool:=λhu hv h=>by
  rcases zaI hu with⟨i,t,rfl,rfl⟩|⟨x,t,rfl,rfl⟩
  .rcases zaI hv with⟨j,u,rfl,rfl⟩|⟨y,u,rfl,rfl⟩
   .rw[zmZ] at h;exact wpAny_eqBool_int h
   .rw[zm1] at h;exact SeqAt.EqAt.int_str i t y u _ _ _ _ h
  .rcases zaI hv with⟨j,u,rfl,rfl⟩|⟨y,u,rfl,rfl⟩
   .rw[zm2] at h;exact SeqAt.EqAt.str_int x t j u _ _ _ _ h
   .rw[zm0] at h;exact wpAny_eqBool_str h
 «strs»:=λk x t v h=>by
  rcases zaI h with⟨i,u,rfl,e⟩|⟨y,u,rfl,e⟩
  .exact nomatch e
  .injection e with e1 _
   subst e1;cases v <;> rfl
def zfy (prog:Program)(w:World)(i:Int)(t:Tok):(zbc prog w).is (.inl i) (.int i t)=true:=zhs i t
def zfz (prog:Program)(w:World)(x:Str)(t:Tok):(zbc prog w).is (.inr x) (.str x t)=true:=zht x t
inductive V where
|non|bl (b:Bool)|int (i:Int)|str (x:Str)|byt (b:Array UInt8)|flt (b:UInt64)|ref (a:Addr)|ty (n:String)
 deriving DecidableEq
def RelV:V->Value->Prop
|.non,u=>u=Value.none
|.bl b,u=>u=Value.bool b
|.int i,u=>∃t,u=Value.int i t
|.str x,u=>∃t,u=Value.str x t
|.byt b,u=>∃t,u=Value.bytes b t
|.flt b,u=>∃t,u=Value.float b t
|.ref a,u=>u=Value.ref a
|.ty n,u=>u=Value.type n
abbrev Vals:List V->List Value->Prop:=Paired RelV
theorem Vals.length {xs:List V}{us:List Value}(r:Vals xs us):xs.length=us.length:=Paired.length r
theorem Vals.get:∀{xs:List V}{us:List Value}{i:Nat}{x:V},Vals xs us->xs[i]?=some x->∃u,us[i]?=some u/\RelV x u
|_,_,_,_,.nil,e=>by simp at e
|_,_,0,_,.cons r _,e=>by simp at e;subst e;exact⟨_,rfl,r⟩
|_,_,i+1,x,.cons _ t,e=>by
   obtain⟨u,h1,h2⟩:=Vals.get (i:=i) (x:=x) t (by simpa using e);exact⟨u,by simpa using h1,h2⟩
theorem Vals.set {x:V}{u:Value}(r:RelV x u):∀{xs:List V}{us:List Value}(i:Nat),Vals xs us->Vals (xs.set i x) (us.set i u)
|_,_,_,.nil=>.nil
|_,_,0,.cons _ t=>.cons r t
|_,_,i+1,.cons q t=>.cons q (Vals.set r i t)
theorem Vals.append:∀{xs ys:List V}{us ws:List Value},Vals xs us->Vals ys ws->Vals (xs++ys) (us++ws)
|_,_,_,_,.nil,s=>s
|_,_,_,_,.cons r t,s=>.cons r (Vals.append t s)
theorem Vals.take:∀{xs:List V}{us:List Value}(n:Nat),Vals xs us->Vals (xs.take n) (us.take n)
|_,_,0,_=>.nil
|_,_,_+1,.nil=>.nil
|_,_,n+1,.cons r t=>.cons r (Vals.take n t)
theorem Vals.drop:∀{xs:List V}{us:List Value}(n:Nat),Vals xs us->Vals (xs.drop n) (us.drop n)
|_,_,0,r=>r
|_,_,_+1,.nil=>.nil
|_,_,n+1,.cons _ t=>Vals.drop n t
def RelO:Option V->Option Value->Prop
|some v,some u=>RelV v u
|none,none=>True
|_,_=>False
def KV {κ:Type}:List (κ×V)->List (κ×Value)->Prop:=Paired λ(p:κ×V) (q:κ×Value)=>p.1=q.1/\RelV p.2 q.2
def kV:Key->V
|.inl i=>.int i
|.inr x=>.str x
inductive HO where
|lst (xs:List V)
|tup (xs:List V)
|dK (kvs:List (Key×V))|dT (kvs:List (List Key×V))
|set (S:Int->Bool) (n:Nat)
|ins (C dx:Addr) (fs:List (Str×V))
|own (x:Addr)
|xd (fs:List (Str×V))
|met (f x:Addr)
|rng (lo hi:Int)
|frz (o:Obj) (u:HO)
|tbl (ps:Array Value)
|ext (φ:Heap->Prop)
abbrev Hp:=Addr->Option HO
def upd (H:Hp)(a:Addr)(o:HO):Hp:=λb=>if b=a then some o else H b
def zah {H:Hp}{a:Addr}{o:HO}:upd H a o a=some o:=by unfold upd;rw[if_pos rfl]
def zai {H:Hp}{a b:Addr}{o:HO}(h:b≠a):upd H a o b=H b:=by unfold upd;rw[if_neg h]
def zaV {H:Hp}{a b:Addr}{o:HO}(h:H a=some o)(h':H b=none):a≠b:=by
 intro e;subst e;rw[h] at h';cases h'
section
variable (P:Program)(w:World)
def ObjOk (H:Hp)(h:Heap)(a:Addr):HO->Prop
|.lst xs=>xs.length<=sizeLine/\∃(its:List Value) (n:Nat),Vals xs its/\h.get? a=some {cls:=.type "list",data:=.seq its.toArray n}
|.tup xs=>xs.length<=sizeLine/\∃its:List Value,Vals xs its/\IsTup h a its.toArray
|.dK kvs=>kvs.length<=sizeLine/\(a == sysModules)=false/\∃vs,KV kvs vs/\h.DictOf (zbc P w) a vs
|.dT kvs=>kvs.length<=sizeLine/\(a == sysModules)=false/\∃xs:List (List Key×Addr×Value),
  Paired (λ(p:List Key×V) (q:List Key×Addr×Value)=>p.1=q.1/\H q.2.1=some (.tup (p.1.map kV))/\RelV p.2 q.2.2) kvs xs/\
  ∃o es ep,h.get? a=some o/\o.ExactDict/\o.data=.dict es ep/\es.toList=xs.map (entryOfKey (tupleKind (zbc P w)))/\(xs.map (·.1)).Nodup
|.set S n=>h.SetOf (intKind P w) a S n
|.ins C dx fs=>H dx=some (.own a)/\fs.length<=1000/\dx≠a/\h.get? a=some (PySem.W.instObj C dx)/\
  ∃mA,h.Ns1 dx mA/\(∀f,RelO (fs.lookup f) (mA f))/\PySem.Within mA (fs.map (·.1))
|.own _=>∃o,h.get? a=some o
|.xd fs=>∃mA,h.Ns1 a mA/\∀f,RelO (fs.lookup f) (mA f)
|.rng lo hi=>∃t u v,h.get? a=some {cls:=.type "range",data:=.fields #[.int lo t,.int hi u,.int 1 v]}
|.frz o u=>h.get? a=some o/\ObjOk H h a u
|.tbl ps=>∃qs:Array Value,h.get? a=some {cls:=.none,data:=.fields qs}/\TriplesOk qs.toList/\∀pos cv,codeAmong pos qs.toList=some cv->∃c' o u vs t q,cv=Value.ref c'/\H c'=some (.frz o u)/\o.data=.fields vs/\vs[1]?=some (Value.str q t)/\ps[0]?=some (Value.str q 0)
|.met f x=>h.get? a=some (PySem.W.methodObj (.ref f) (.ref x))
|.ext φ=>φ h/\(∃o,h.get? a=some o)/\∀h1 h2:Heap,φ h1->(∀o,h1.get? a=some o->h2.get? a=some o)->φ h2
def HOk (H:Hp)(h:Heap):Prop:=∀a o,H a=some o->ObjOk P w H h a o
end
section
variable {P:Program}{w:World}{H H':Hp}{h h':Heap}{a:Addr}{o:HO}
theorem ObjOk.lt (x:ObjOk P w H h a o):a<h.objs.size:=by
 cases o with
|lst xs=>obtain⟨_,_,_,_,e⟩:=x;exact waj e
|tup xs=>obtain⟨_,_,_,p⟩:=x;exact p.lt
|dK kvs=>obtain⟨_,_,_,_,o,_,_,e,_⟩:=x;exact waj e
|dT kvs=>obtain⟨_,_,_,_,o,_,_,e,_⟩:=x;exact waj e
|set S n=>obtain⟨o,_,_,_,e,_⟩:=x;exact waj e
|ins C dx fs=>obtain⟨_,_,_,e,_⟩:=x;exact waj e
|own y=>obtain⟨_,e⟩:=x;exact waj e
|xd fs=>obtain⟨_,⟨_,_,_,e,_⟩,_⟩:=x;exact waj e
|rng lo hi=>obtain⟨_,_,_,e⟩:=x;exact waj e
|frz ob u=>obtain⟨e,_⟩:=x;exact waj e
|tbl ps=>obtain⟨_,e,_⟩:=x;exact waj e
|met f y=>exact waj (show h.get? a=some _ from x)
|ext φ=>obtain⟨_,⟨_,e⟩,_⟩:=x;exact waj e
theorem Paired.mapP {α β:Type}{F G:α->β->Prop}:∀{l₁:List α}{l₂:List β},Paired F l₁ l₂->(∀a b,F a b->G a b)->Paired G l₁ l₂
|_,_,.nil,_=>.nil
|_,_,.cons r t,f=>.cons (f _ _ r) (Paired.mapP t f)
def Cst:HO->Prop
|.tup _=>True
|.frz _ _=>True
|_=>False
def ObjOk.stay (x:ObjOk P w H h a o)(k:∀b u,(b=a\/H b=some (.own a))->h.get? b=some u->h'.get? b=some u)
 (ho:∀b,H b=some (.own a)->H' b=some (.own a)) (ht:∀b z,Cst z->H b=some z->H' b=some z):ObjOk P w H' h' a o:=by
 induction o with
|lst xs=>obtain⟨z,its,n,r,e⟩:=x;exact⟨z,its,n,r,k _ _ (.inl rfl) e⟩
|tup xs=>obtain⟨z,its,r,ob,e,c⟩:=x;exact⟨z,its,r,ob,k _ _ (.inl rfl) e,c⟩
|dK kvs=>obtain⟨z,y,vs,r,ob,es,ep,e,c⟩:=x;exact⟨z,y,vs,r,ob,es,ep,k _ _ (.inl rfl) e,c⟩
|dT kvs=>
   obtain⟨z,y,xs,r,ob,es,ep,e,c⟩:=x;exact⟨z,y,xs,Paired.mapP r λp q z=>⟨z.1,ht _ _ trivial z.2.1,z.2.2⟩,ob,es,ep,k _ _ (.inl rfl) e,c⟩
|set S n=>obtain⟨ob,es,ep,t,e,c⟩:=x;exact⟨ob,es,ep,t,k _ _ (.inl rfl) e,c⟩
|ins C dx fs=>
   obtain⟨d,z,ne,e,mA,⟨od,es,ep,e2,c⟩,r⟩:=x;exact⟨ho _ d,z,ne,k _ _ (.inl rfl) e,mA,⟨od,es,ep,k _ _ (.inr d) e2,c⟩,r⟩
|own y=>obtain⟨ob,e⟩:=x;exact⟨ob,k _ _ (.inl rfl) e⟩
|xd fs=>obtain⟨mA,⟨od,es,ep,e,c⟩,r⟩:=x;exact⟨mA,⟨od,es,ep,k _ _ (.inl rfl) e,c⟩,r⟩
|rng lo hi=>obtain⟨t,u,v,e⟩:=x;exact⟨t,u,v,k _ _ (.inl rfl) e⟩
|frz ob u ih=>obtain⟨e,q⟩:=x;exact⟨k _ _ (.inl rfl) e,ih q⟩
|tbl ps=>obtain⟨qs,e,r,rc⟩:=x;exact⟨qs,k a _ (.inl rfl) e,r,λpos cv q=>let ⟨c',o,u,vs,t,q',e1,e2,e3⟩:=rc pos cv q;⟨c',o,u,vs,t,q',e1,ht _ _ trivial e2,e3⟩⟩
|met f y=>
   have e:h.get? a=some (PySem.W.methodObj (.ref f) (.ref y)):=x
   show h'.get? a=some (PySem.W.methodObj (.ref f) (.ref y))
   exact k a _ (.inl rfl) e
|ext φ=>obtain⟨p,⟨o,e⟩,st⟩:=x;exact⟨st _ _ p λo q=>k _ _ (.inl rfl) q,⟨o,k _ _ (.inl rfl) e⟩,st⟩
theorem HOk.lt (x:HOk P w H h)(e:H a=some o):a<h.objs.size:=(x a o e).lt
def HOk.fresh (x:HOk P w H h)(e:h.objs.size<=a):H a=none:=by
 cases q:H a with
|none=>rfl
|some u=>exact absurd (wao (x.lt q) e) (waP _)
def HOk.kept (x:HOk P w H h)(k:∀b u,h.get? b=some u->h'.get? b=some u):HOk P w H h':=λa o e=>
 (x a o e).stay (λb u _ q=>k b u q) (λ_ q=>q) λ_ _ _ q=>q
def HOk.laid (x:HOk P w H h)(k:∀b u,h.get? b=some u->h'.get? b=some u)(hp:h.objs.size<=a)(new:ObjOk P w (upd H a o) h' a o):HOk P w (upd H a o) h':=λb u e=>by
 have hn:=x.fresh hp
 by_cases hb:b=a
 .subst hb;rw[zah] at e;cases e;exact new
 .rw[zai hb] at e;exact(x b u e).stay (λc v _ q=>k c v q) (λc q=>by rw[zai (zaV q hn)];exact q) λc xs _ q=>by rw[zai (zaV q hn)];exact q
end
def Rd (H:Hp)(a:Addr)(u:HO):Prop:=H a=some u\/∃o,H a=some (.frz o u)
def Rd.ok {P:Program}{w:World}{H:Hp}{h:Heap}{a:Addr}{u:HO}(r:Rd H a u)(x:HOk P w H h):ObjOk P w H h a u:=by
 rcases r with r|⟨o,r⟩
 .exact x a u r
 .obtain⟨_,q⟩:=x a _ r;exact q
def Mut:Option HO->Prop
|some (.lst _)=>True
|some (.dK _)=>True
|some (.dT _)=>True
|some (.set _ _)=>True
|some (.ins _ _ _)=>True
|some (.ext _)=>True
|_=>False
section
variable {P:Program}{w:World}{H:Hp}{h h':Heap}{x e:Addr}{o':HO}
def HOk.write (ok:HOk P w H h)(mu:Mut (H x))(he:e=x\/H e=some (.own x))(k:∀b u,b≠e->h.get? b=some u->h'.get? b=some u)(heo:∃u,h'.get? e=some u)
 (new:ObjOk P w (upd H x o') h' x o'):HOk P w (upd H x o') h':=λb u q=>by
 have nown:∀c y,H c=some (.own y)->c≠x:=λc y r z=>by subst z;rw[r] at mu;exact mu
 have ntup:∀c o,Cst o->H c=some o->c≠x:=λc o hc r z=>by subst z;rw[r] at mu;cases o <;> first|exact mu|exact hc
 by_cases hb:b=x
 .subst hb;rw[zah] at q;cases q;exact new
 .rw[zai hb] at q;by_cases hbe:b=e
  .have q':H b=some (.own x):=by
    rcases he with z|z
    .exact absurd (hbe.trans z) hb
    .rw[hbe];exact z
   rw[q] at q';cases q';obtain⟨v,hv⟩:=heo;exact⟨v,by rw[hbe];exact hv⟩
  .refine(ok b u q).stay (λc v hc r=>k c v ?_ r) (λc r=>by rw[zai (nown c b r)];exact r) λc xs hc r=>by rw[zai (ntup c xs hc r)];exact r
   rcases hc with rfl|hc
   .exact hbe
   .rintro rfl;rcases he with z|z
    .exact nown c b hc z
    .rw[hc] at z;cases z;exact hb rfl
end
structure Un (fs ex:List Addr)(H H':Hp)(h h':Heap):Prop where
 keep:∀b o,h.get? b=some o->H b=none->b∉fs->b∉ex->h'.get? b=some o
 slot:∀b o,h.get? b=some o->H b=none->b∈fs->b∉ex->∃sl,h'.get? b=some {o with slots:=sl}
 free:∀b o,h.get? b=some o->H b=none->b∉ex->H' b=none
 there:∀b o,h.get? b=some o->b∉ex->∃o',h'.get? b=some o'
 tups:∀b xs,H b=some (.tup xs)->H' b=some (.tup xs)
 frzs:∀b o u,H b=some (.frz o u)->H' b=some (.frz o u)
 tbls:∀b ps,H b=some (.tbl ps)->∃more,H' b=some (.tbl (ps++more))
section
variable {fs fs' ex ex':List Addr}{H H1 H2:Hp}{h h1 h2 h':Heap}{a x e:Addr}{o:HO}
def Un.any (u:Un fs ex H H1 h h1){b:Addr}{ob:Obj}(q:h.get? b=some ob)(n:H b=none)(hx:b∉ex):∃sl,h1.get? b=some {ob with slots:=sl}:=by
 by_cases hb:b∈fs
 .exact u.slot b ob q n hb hx
 .exact⟨ob.slots,u.keep b ob q n hb hx⟩
def Un.kept (k:∀b u,h.get? b=some u->h'.get? b=some u):Un fs ex H H h h':=
 ⟨λb ob q _ _ _=>k b ob q,λb ob q _ _ _=>⟨ob.slots,k b ob q⟩,λ_ _ _ n _=>n,λb ob q _=>⟨ob,k b ob q⟩,λ_ _ q=>q,λ_ _ _ q=>q,λ_ ps q=>⟨#[],by rw[q];simp⟩⟩
def Un.refl:Un fs ex H H h h:=Un.kept λ_ _ q=>q
def Un.laid (k:∀b u,h.get? b=some u->h'.get? b=some u)(hp:h.objs.size<=a)(hn:H a=none):Un fs ex H (upd H a o) h h' where
 keep:=λb u q _ _ _=>k b u q
 slot:=λb u q _ _ _=>⟨u.slots,k b u q⟩
 free:=λb u q n _=>by rw[zai (way (wao (waj q) hp))];exact n
 there:=λb u q _=>⟨u,k b u q⟩
 tups:=λb xs q=>by rw[zai (zaV q hn)];exact q
 frzs:=λb u xs q=>by rw[zai (zaV q hn)];exact q
 tbls:=λb ps q=>⟨#[],by rw[zai (zaV q hn),q];simp⟩
def Un.write (mu:Mut (H x))(he:e=x\/H e=some (.own x))(k:∀b u,b≠e->h.get? b=some u->h'.get? b=some u)(heo:∃u,h'.get? e=some u):Un fs ex H (upd H x o) h h':=by
 have hx:∀b,H b=none->b≠x:=λb n z=>by subst z;rw[n] at mu;exact mu
 have hb:∀b,H b=none->b≠e:=λb n z=>by
  subst z;rcases he with r|r
  .exact hx b n r
  .rw[n] at r;cases r
 have hm:∀b u,H b=some u->¬Mut (some u)->b≠x:=λb u q nm z=>by subst z;rw[q] at mu;exact nm mu
 refine⟨λb u q n _ _=>k b u (hb b n) q,λb u q n _ _=>⟨u.slots,k b u (hb b n) q⟩,λb u q n _=>by rw[zai (hx b n)];exact n,λb u q _=>?_,
  λb xs q=>by rw[zai (hm b _ q λz=>z)];exact q,λb u xs q=>by rw[zai (hm b _ q λz=>z)];exact q,λb ps q=>⟨#[],by rw[zai (hm b _ q λz=>z),q];simp⟩⟩
 by_cases hbe:b=e
 .subst hbe;exact heo
 .exact⟨u,k b u hbe q⟩
end
def trk (h:Heap)(H:Hp):List Addr:=(List.range h.objs.size).filter λa=>(H a).isSome
def hidT (h:Heap)(H:Hp):Heap:=PySem.W.hideAll h (trk h H)
def zhu (h:Heap)(H:Hp):(hidT h H).objs.size=h.objs.size:=PySem.W.hideAll_size _ _
def zjj {h:Heap}{H:Hp}{b:Addr}{o:Obj}(e:h.get? b=some o)(n:H b=none):(hidT h H).get? b=some o:=
 PySem.W.hideAll_get _ e λhm=>by
  have q:(H b).isSome=true:=(List.mem_filter.mp hm).2
  rw[n] at q;simp at q
def zlg {h:Heap}{H:Hp}{b:Addr}{o:Obj}(e:(hidT h H).get? b=some o):h.get? b=some o/\H b=none:=by
 have e':h.get? b=some o:=PySem.W.of_hideAll (trk h H) e
 refine⟨e',?_⟩;cases q:H b with
|none=>rfl
|some x=>
   have hm:b∈trk h H:=List.mem_filter.mpr ⟨wcA.mpr (waj e'),by simp[q]⟩
   have z:(hidT h H).get? b=none:=PySem.W.hideAll_none (trk h H) hm
   rw[z] at e;cases e
structure Mod (K:W.Frag)(mg:Str->Option Value)(base:Heap):Prop where
 kin:K.In base
 glob:base.Ns mainGlobals mg
 blt:∃mb,base.Ns builtinsNs mb/\∀x:Str,x≠"__name__"->mb x=bootBuiltins x
 nolimit:base.NoLimit
structure Cx where
 prog:Program
 w:World
 K:W.Frag
 mg:Str->Option Value
 base:Heap
 A:Around
 N:List Str
 s₀:Shared
 Hz:Hp
 env:Env
 outer:List Env
 stack:List Env
 ex:List Addr
 fn:Str->Bool
 calm:Bool
 pn:List (Addr×Obj)
 xe:Value->Shared->Prop
def frs (l:List Env):List Addr:=l.filterMap (·.frame)
abbrev Cx.fs (X:Cx):List Addr:=frs X.outer
def Vis (sc:Scope)(x:Str):Prop:=sc.names.lookup x=some .local\/sc.names.lookup x=some .cell\/sc.names.lookup x=some .free
def Loc (sc:Scope)(x:Str):Prop:=sc.names.lookup x=some .local\/sc.names.lookup x=some .cell
def Look (env:Env)(h:Heap)(m:Str->Option Value)(x:Str)(u:Value):Prop:=
 (env.kindOf x=some .local/\m x=some u)\/((env.kindOf x=some .cell\/env.kindOf x=some .free)/\∃c,env.cells.lookup x=some c/\h.IsCell c (some u))
structure Cx.Ok (X:Cx):Prop where
 mod:Mod X.K X.mg X.base
 kind:X.env.scope.kind=.function
 glob:X.env.globals=mainGlobals
 blt:X.env.builtins=builtinsNs
 above:X.s₀.heap.objs.size<=X.env.locals
 inj:∀x y c,X.env.cells.lookup x=some c->X.env.cells.lookup y=some c->x=y
 has:∀x,(X.env.kindOf x=some .cell\/X.env.kindOf x=some .free)->∃c,X.env.cells.lookup x=some c
 cab:∀x c,X.fn x=true->X.env.cells.lookup x=some c->X.s₀.heap.objs.size<=c
 hd:X.calm=true->X.A.handled=none
 frames:X.A.frames=some X.stack
 stk:X.stack=X.outer\/(X.stack=X.env::X.outer/\X.env.frame=some X.env.locals)
 exf:∀b∈X.ex,b≠X.env.locals/\∀x c,X.env.cells.lookup x=some c->c≠b
 bs:∀b o,X.base.get? b=some o->X.s₀.heap.get? b=some o/\X.Hz b=none
 bsz:X.base.objs.size<=X.s₀.heap.objs.size
 noex:∀b o,X.base.get? b=some o->b∉X.ex
 exfs:∀b∈X.ex,b∉X.fs
 funs:X.s₀.heap.FunFrames X.base X.outer
 frf:∀b∈X.fs,X.Hz b=none
structure Inv (X:Cx)(pins:List (Addr×Obj))(Y:List (Option V))(H:Hp)(s:Shared):Prop where
 ok:X.Ok
 os:s.os=X.s₀.os
 bare:AllBare s.gens
 base:Un X.fs X.ex X.Hz H X.s₀.heap s.heap
 loc:∃m,s.heap.Ns X.env.locals m/\∀(i:Nat) (x:Str) (v:V),X.N[i]?=some x->Y[i]?=some (some v)->Vis X.env.scope x->∃u,RelV v u/\Look X.env s.heap m x u
 cell:∀x c,X.env.cells.lookup x=some c->∃v,s.heap.IsCell c v
 free:H X.env.locals=none
 freeC:∀x c,X.env.cells.lookup x=some c->H c=none
 pin:∀p∈X.pn++pins,s.heap.get? p.1=some p.2/\H p.1=none/\p.1≠X.env.locals/\p.1∉X.fs/\∀v,p.2.data≠.cell v
 hok:HOk X.prog X.w H s.heap
 len:Y.length=X.N.length
section
variable {X:Cx}{pins:List (Addr×Obj)}{Y:List (Option V)}{H H':Hp}{s:Shared}{h':Heap}
def Cx.Ok.nofr (ok:X.Ok){b:Addr}{o:Obj}(e:X.base.get? b=some o):b∉X.fs:=λhb=>by
 have:=(ok.funs.mem hb).1
 rw[e] at this;cases this
theorem Inv.bs (I:Inv X pins Y H s):∀b o,X.base.get? b=some o->s.heap.get? b=some o/\H b=none:=λb o e=>
 ⟨I.base.keep b o (I.ok.bs b o e).1 (I.ok.bs b o e).2 (I.ok.nofr e) (I.ok.noex b o e),I.base.free b o (I.ok.bs b o e).1 (I.ok.bs b o e).2 (I.ok.noex b o e)⟩
def Inv.bk (I:Inv X pins Y H s):∀b o,X.base.get? b=some o->s.heap.get? b=some o:=λb o e=>(I.bs b o e).1
theorem Inv.mod (I:Inv X pins Y H s):Mod X.K X.mg X.base:=I.ok.mod
def Inv.kIn (I:Inv X pins Y H s):X.K.In s.heap:=I.ok.mod.kin.keeps I.bk
theorem Inv.nolimit (I:Inv X pins Y H s):s.heap.NoLimit:=I.ok.mod.nolimit.keeps I.bk
theorem Inv.lt (I:Inv X pins Y H s):X.env.locals<s.heap.objs.size:=let ⟨_,hn,_⟩:=I.loc;hn.lt
def Inv.sz (I:Inv X pins Y H s):X.s₀.heap.objs.size<=s.heap.objs.size:=waq I.ok.above (wbu I.lt)
def Inv.nofs (I:Inv X pins Y H s){a:Addr}(h:s.heap.objs.size<=a):a∉X.fs:=λhb=>by
 obtain⟨_,o,ho,_⟩:=I.ok.funs.mem hb;exact absurd (wao (waj ho) (waq I.sz h)) (waP _)
def Inv.cne (I:Inv X pins Y H s):∀x c,X.env.cells.lookup x=some c->c≠X.env.locals:=λx c e z=>by
 obtain⟨v,o,ho,hd⟩:=I.cell x c e;obtain⟨m,⟨o',es,ep,ho',hd',_⟩,_⟩:=I.loc;rw[z,ho'] at ho;cases ho;rw[hd'] at hd;cases hd
theorem Inv.funs (I:Inv X pins Y H s):s.heap.FunFrames X.base X.outer:=by
 have all:∀(l:List Env),(∀b∈frs l,b∈X.fs)->X.s₀.heap.FunFrames X.base l->s.heap.FunFrames X.base l:=by
  intro l;induction l with
 |nil=>intro _ _;trivial
 |cons env r ih=>
    intro hs hl;obtain⟨hk,⟨L,o,hf,hn,ho,hd⟩,hr⟩:=hl;have hL:L∈X.fs:=hs L (by unfold frs;rw[wcr,hf];exact wah)
    obtain⟨sl,e⟩:=I.base.slot L o ho (I.ok.frf L hL) hL λz=>I.ok.exfs L z hL
    exact⟨hk,⟨L,_,hf,hn,e,hd⟩,ih (λb hb=>hs b (by unfold frs;rw[wcr,hf];exact wad _ hb)) hr⟩
 exact all X.outer (λ_ hb=>hb) I.ok.funs
theorem Inv.stack (I:Inv X pins Y H s):s.heap.FunFrames X.base X.stack:=by
 rcases I.ok.stk with e|⟨e,hf⟩
 .rw[e];exact I.funs
 .rw[e];obtain⟨m,hn,_⟩:=I.loc;refine .cons (by rw[I.ok.kind];decide) hf hn ?_ I.funs;exact wco (waq I.ok.bsz I.ok.above)
def Inv.stkSub (I:Inv X pins Y H s):∀b∈frs X.stack,b∈X.env.locals::X.fs:=λb hb=>by
 rcases I.ok.stk with e|⟨e,hf⟩
 .rw[e] at hb;exact wad _ hb
 .rw[e] at hb;unfold frs at hb;rw[wcr,hf] at hb;exact hb
def Inv.stkFree (I:Inv X pins Y H s):∀b∈frs X.stack,H b=none:=λb hb=>by
 rcases waf.mp (I.stkSub b hb) with e|hb
 .rw[e];exact I.free
 .obtain⟨_,o,ho,_⟩:=I.ok.funs.mem hb;exact I.base.free b o ho (I.ok.frf b hb) λz=>I.ok.exfs b z hb
def Inv.step {g':Array GenState}{t':Nat}{d':Drawn}{ch:List Addr}(I:Inv X pins Y H s)
 (hch:∀b∈ch,(b∈X.ex\/X.s₀.heap.objs.size<=b)/\b≠X.env.locals/\(∀x c,X.env.cells.lookup x=some c->c≠b)/\∀p∈X.pn++pins,p.1≠b)
 (keep:∀b o,b≠X.env.locals->b∉X.fs->b∉ch->s.heap.get? b=some o->H b=none->h'.get? b=some o)
 (slot:∀b o,b≠X.env.locals->b∈X.fs->b∉ch->s.heap.get? b=some o->H b=none->∃sl,h'.get? b=some {o with slots:=sl}) (free:∀b o,b∉ch->s.heap.get? b=some o->H b=none->H' b=none)
 (there:∀b o,b∉ch->s.heap.get? b=some o->∃o',h'.get? b=some o')
 (tups:∀b xs,H b=some (.tup xs)->H' b=some (.tup xs)) (frzs:∀b o u,H b=some (.frz o u)->H' b=some (.frz o u)) (tbls:∀b ps,H b=some (.tbl ps)->∃more,H' b=some (.tbl (ps++more)))
 (ns:∀m,s.heap.Ns X.env.locals m->h'.Ns X.env.locals m) (hok:HOk X.prog X.w H' h') (hg:AllBare g') :
 Inv X pins Y H' {s with heap:=h',gens:=g',drawn:=d',toks:=t'}:=by
 have neL:∀b o,X.s₀.heap.get? b=some o->b≠X.env.locals:=λb o e=>way (wao (waj e) I.ok.above)
 have neC:∀b o,X.s₀.heap.get? b=some o->b∉X.ex->b∉ch:=λb o e hx hb=>by
  rcases(hch b hb).1 with z|z
  .exact hx z
  .exact absurd (wao (waj e) z) (waP _)
 have cellK:∀x c,X.env.cells.lookup x=some c->∀v,s.heap.IsCell c v->h'.IsCell c v:=λx c e v ⟨o,ho,hd⟩ =>by
  have nch:c∉ch:=λz=>(hch c z).2.2.1 x c e rfl
  by_cases hc:c∈X.fs
  .obtain⟨sl,q⟩:=slot c o (I.cne x c e) hc nch ho (I.freeC x c e);exact⟨_,q,hd⟩
  .exact⟨o,keep c o (I.cne x c e) hc nch ho (I.freeC x c e),hd⟩
 refine⟨I.ok,I.os,hg,⟨λb o e n hb hx=>?_,λb o e n hb hx=>?_,λb o e n hx=>?_,λb o e hx=>?_,λb xs e=>tups b xs (I.base.tups b xs e),λb o xs e=>frzs b o xs (I.base.frzs b o xs e),λb ps e=>?_⟩,?_,λx c e=>?_,?_,λx c e=>?_,λp hp=>?_,hok,I.len⟩
 .exact keep b o (neL b o e) hb (neC b o e hx) (I.base.keep b o e n hb hx) (I.base.free b o e n hx)
 .obtain⟨sl,e1⟩:=I.base.slot b o e n hb hx;obtain⟨sl',e2⟩:=slot b _ (neL b o e) hb (neC b o e hx) e1 (I.base.free b o e n hx);exact⟨sl',e2⟩
 .obtain⟨o',e1⟩:=I.base.there b o e hx;exact free b o' (neC b o e hx) e1 (I.base.free b o e n hx)
 .obtain⟨o',e1⟩:=I.base.there b o e hx;exact there b o' (neC b o e hx) e1
 .obtain⟨m1,e1⟩:=I.base.tbls b ps e;obtain⟨m2,e2⟩:=tbls b _ e1;exact⟨m1++m2,by rw[e2,Array.append_assoc]⟩
 .obtain⟨m,hn,hl⟩:=I.loc;refine⟨m,ns m hn,λi x v e1 e2 e3=>?_⟩;obtain⟨u,r,l⟩:=hl i x v e1 e2 e3;refine⟨u,r,?_⟩;rcases l with l|⟨k,c,e,z⟩
  .exact .inl l
  .exact .inr ⟨k,c,e,cellK x c e _ z⟩
 .obtain⟨v,z⟩:=I.cell x c e;exact⟨v,cellK x c e v z⟩
 .obtain⟨m,⟨o,_,_,ho,_⟩,_⟩:=I.loc;exact free _ o (λz=>(hch _ z).2.1 rfl) ho I.free
 .obtain⟨v,o,ho,hd⟩:=I.cell x c e;exact free c o (λz=>(hch c z).2.2.1 x c e rfl) ho (I.freeC x c e)
 .obtain⟨e,n,ne,nf,d⟩:=I.pin p hp;have nch:p.1∉ch:=λz=>(hch p.1 z).2.2.2 p hp rfl
  exact⟨keep p.1 p.2 ne nf nch e n,free p.1 p.2 nch e n,ne,nf,d⟩
def Inv.un {t':Nat}(I:Inv X pins Y H s)(u:Un X.fs [] H H' s.heap h')(hok:HOk X.prog X.w H' h'):Inv X pins Y H' {s with heap:=h',toks:=t'}:=by
 obtain⟨m,⟨o,es,ep,ho,r⟩,_⟩:=id I.loc;obtain⟨sl,hL⟩:=u.any ho I.free (by simp);exact I.step (g':=s.gens) (d':=s.drawn) (ch:=[]) (λ_ z=>nomatch z) (λb o _ hb _ e n=>u.keep b o e n hb (by simp)) (λb o _ hb _ e n=>u.slot b o e n hb (by simp)) (λb o _ e n=>u.free b o e n (by simp)) (λb o _ e=>u.there b o e (by simp)) u.tups u.frzs u.tbls (λm' hm=>by
  obtain⟨o',es',ep',ho',r'⟩:=hm;rw[ho] at ho';cases ho';exact⟨_,es',ep',hL,r'⟩) hok I.bare
def Inv.call {g':Array GenState}{t':Nat}{d':Drawn}{ch:List Addr}(I:Inv X pins Y H s)(u:Un (frs X.stack) ch H H' s.heap h')(hok:HOk X.prog X.w H' h')(hg:AllBare g')
 (hch:∀b∈ch,(b∈X.ex\/X.s₀.heap.objs.size<=b)/\b≠X.env.locals/\(∀x c,X.env.cells.lookup x=some c->c≠b)/\∀p∈X.pn++pins,p.1≠b) :
 Inv X pins Y H' {s with heap:=h',gens:=g',drawn:=d',toks:=t'}:=by
 obtain⟨m,⟨o,es,ep,ho,r⟩,_⟩:=id I.loc;obtain⟨sl,hL⟩:=u.any ho I.free λz=>(hch _ z).2.1 rfl
 exact I.step (ch:=ch) hch (λb o hL hb hc e n=>u.keep b o e n (λz=>(waf.mp (I.stkSub b z)).elim hL hb) hc) (λb o _ _ hc e n=>u.any e n hc) (λb o hc e n=>u.free b o e n hc) (λb o hc e=>u.there b o e hc) u.tups u.frzs u.tbls (λm' hm=>by
  obtain⟨o',es',ep',ho',r'⟩:=hm;rw[ho] at ho';cases ho';exact⟨_,es',ep',hL,r'⟩) hok hg
def Inv.turned {t':Nat}{it:Addr}(I:Inv X pins Y H s)(k:∀b o,b≠it->s.heap.get? b=some o->h'.get? b=some o)(hn:H it=none)(hL:it≠X.env.locals)
 (h1:it∈X.ex\/X.s₀.heap.objs.size<=it) (h2:∀x c,X.env.cells.lookup x=some c->c≠it) (h3:∀p∈X.pn++pins,p.1≠it):Inv X pins Y H {s with heap:=h',toks:=t'}:=by
 have nit:∀b u,H b=some u->b≠it:=λb u e z=>by rw[z,hn] at e;cases e
 refine I.step (g':=s.gens) (d':=s.drawn) (ch:=[it]) (λb hb=>?_) (λb o _ _ hc e _=>k b o (λz=>hc (by simp[z])) e) (λb o _ _ hc e _=>⟨o.slots,k b o (λz=>hc (by simp[z])) e⟩) (λ_ _ _ _ n=>n)
  (λb o hc e=>⟨o,k b o (λz=>hc (by simp[z])) e⟩) (λ_ _ e=>e) (λ_ _ _ e=>e) (λb ps e=>⟨#[],by rw[e];simp⟩) (λm hm=>?_) (λb u e=>?_) I.bare
 .have e:b=it:=by simpa using hb
  subst e;exact⟨h1,hL,h2,h3⟩
 .obtain⟨o,es,ep,ho,r⟩:=hm;exact⟨o,es,ep,k _ o (Ne.symm hL) ho,r⟩
 .refine(I.hok b u e).stay (λc v hc q=>k c v ?_ q) (λ_ q=>q) λ_ _ _ q=>q
  rcases hc with z|z
  .rw[z];exact nit b u e
  .exact nit c _ z
def Inv.tok (I:Inv X pins Y H s)(t:Nat):Inv X pins Y H {s with toks:=t}:=I.un (h':=s.heap) (t':=t) Un.refl I.hok
theorem Inv.kept {t':Nat}(I:Inv X pins Y H s)(k:∀b u,s.heap.get? b=some u->h'.get? b=some u):Inv X pins Y H {s with heap:=h',toks:=t'}:=I.un (Un.kept k) (I.hok.kept k)
theorem Inv.laid {a:Addr}{o:HO}{t':Nat}(I:Inv X pins Y H s)(k:∀b u,s.heap.get? b=some u->h'.get? b=some u)(hp:s.heap.objs.size<=a)(new:ObjOk X.prog X.w (upd H a o) h' a o) :
 Inv X pins Y (upd H a o) {s with heap:=h',toks:=t'}:=I.un (Un.laid k hp (I.hok.fresh hp)) (I.hok.laid k hp new)
theorem Inv.write {x e:Addr}{o:HO}{t':Nat}(I:Inv X pins Y H s)(mu:Mut (H x))(he:e=x\/H e=some (.own x))(k:∀b u,b≠e->s.heap.get? b=some u->h'.get? b=some u)(heo:∃u,h'.get? e=some u)
 (new:ObjOk X.prog X.w (upd H x o) h' x o):Inv X pins Y (upd H x o) {s with heap:=h',toks:=t'}:=I.un (Un.write mu he k heo) (I.hok.write mu he k heo new)
def Inv.pins_of {pins':List (Addr×Obj)}(I:Inv X pins Y H s)(h:∀p∈pins',s.heap.get? p.1=some p.2/\H p.1=none/\p.1≠X.env.locals/\p.1∉X.fs/\∀v,p.2.data≠.cell v):Inv X pins' Y H s:=
 ⟨I.ok,I.os,I.bare,I.base,I.loc,I.cell,I.free,I.freeC,λp hp=>(waz.mp hp).elim (λz=>I.pin p (waV _ z)) (h p),I.hok,I.len⟩
def zej {N:List Str}(hN:N.Nodup){i j:Nat}{x:Str}(a:N[i]?=some x)(b:N[j]?=some x):i=j:=by
 obtain⟨h1,e1⟩:=wae.mp a;obtain⟨h2,e2⟩:=wae.mp b;exact(List.getElem_inj hN).mp (e1.trans e2.symm)
def zdt {M:Model}{A:Around}{E:Value->Shared->Prop}{i:Nat}{x:Str}{v:V}{u:Value}{Q:Unit->Shared->Prop}(I:Inv X pins Y H s)(hN:X.N.Nodup)(hi:X.N[i]?=some x)(hx:Loc X.env.scope x)(r:RelV v u)
 (h:∀s',Inv X pins (Y.set i (some v)) H s'->(∃a,Heap.SameBut a s.heap s'.heap/\(a=X.env.locals\/X.env.cells.lookup x=some a))->Q () s') (hf:X.fn x=true\/X.env.scope.names.lookup x=some .local:=by first|exact .inl rfl|exact .inr rfl|assumption):wpAny M A (storeName X.env x u) Q E s:=by
 obtain⟨m,hn,hl⟩:=id I.loc;have hcls:(X.env.scope.kind == .class||(X.env.scope.kind == .module&&X.env.locals != X.env.globals))=false:=by rw[I.ok.kind];rfl
 have hiσ:i<Y.length:=by rw[I.len];exact(wae.mp hi).1
 have cne:=I.cne
 have tracked:∀{a:Addr}{h':Heap},(∃o,s.heap.get? a=some o/\H a=none)->Heap.SameBut a s.heap h'->HOk X.prog X.w H h':=λ{a h'} ha hs b ob e=>by
  obtain⟨_,_,hfree⟩:=ha;refine(I.hok b ob e).stay (λc w' hc q=>(hs.2 c ?_).trans q) (λ_ q=>q) λ_ _ _ q=>q
  rintro rfl;rcases hc with rfl|hc
  .rw[hfree] at e;cases e
  .rw[hfree] at hc;cases hc
 rcases hx with hk|hk
 .refine wpAny_storeName_local hk hn (λh' hn' hs=>?_) hcls;obtain⟨oL,_,_,hoL,_⟩:=id hn;refine h _ ⟨I.ok,I.os,I.bare,⟨λb o e n hb hx=>?_,λb o e n hb hx=>?_,I.base.free,λb o e hx=>?_,I.base.tups,I.base.frzs,I.base.tbls⟩,⟨_,hn',λj y v' e1 e2 e3=>?_⟩,λy c e=>?_,I.free,I.freeC,λp hp=>?_,tracked ⟨oL,hoL,I.free⟩ hs,by simpa using I.len⟩ ⟨_,hs,.inl rfl⟩
  .exact(hs.2 b (way (wao (waj e) I.ok.above))).trans (I.base.keep b o e n hb hx)
  .obtain⟨sl,e1⟩:=I.base.slot b o e n hb hx;exact⟨sl,(hs.2 b (way (wao (waj e) I.ok.above))).trans e1⟩
  .obtain⟨o',e1⟩:=I.base.there b o e hx;exact⟨o',(hs.2 b (way (wao (waj e) I.ok.above))).trans e1⟩
  .by_cases hj:j=i
   .subst hj;rw[hi] at e1;cases e1;rw[waw hiσ] at e2;cases e2;exact⟨u,r,.inl ⟨hk,by simp⟩⟩
   .rw[wag (Ne.symm hj)] at e2;obtain⟨u',r',q⟩:=hl j y v' e1 e2 e3;refine⟨u',r',?_⟩;rcases q with⟨k,e⟩|⟨k,c,e,z⟩
    .refine .inl ⟨k,?_⟩;have:y≠x:=λe=>hj (zej hN e1 (e▸hi))
     simp[this,e]
    .exact .inr ⟨k,c,e,z.sameBut hs (cne y c e)⟩
  .obtain⟨w',z⟩:=I.cell y c e;exact⟨w',z.sameBut hs (cne y c e)⟩
  .obtain⟨e,n,ne,nf,d⟩:=I.pin p hp;exact⟨(hs.2 p.1 ne).trans e,n,ne,nf,d⟩
 .have hfn:X.fn x=true:=by
   rcases hf with z|z
   .exact z
   .rw[z] at hk;cases hk
  obtain⟨c,hc⟩:=I.ok.has x (.inl hk);obtain⟨w',z⟩:=I.cell x c hc;refine wpAny_storeName_cell I.ok.kind hk hc z (λh' hc' hs=>?_);obtain⟨oc,hoc,hocd⟩:=id z;refine h {s with heap:=h'} ⟨I.ok,I.os,I.bare,⟨λb o e n hb hx=>?_,λb o e n hb hx=>?_,I.base.free,λb o e hx=>?_,I.base.tups,I.base.frzs,I.base.tbls⟩,⟨m,hn.sameBut hs (Ne.symm (cne x c hc)),λj y v' e1 e2 e3=>?_⟩,λy c' e=>?_,I.free,I.freeC,λp hp=>?_,tracked ⟨oc,hoc,I.freeC x c hc⟩ hs,by simpa using I.len⟩ ⟨c,hs,.inr hc⟩
  .exact(hs.2 b (way (wao (waj e) (I.ok.cab x c hfn hc)))).trans (I.base.keep b o e n hb hx)
  .obtain⟨sl,e1⟩:=I.base.slot b o e n hb hx;exact⟨sl,(hs.2 b (way (wao (waj e) (I.ok.cab x c hfn hc)))).trans e1⟩
  .obtain⟨o',e1⟩:=I.base.there b o e hx;exact⟨o',(hs.2 b (way (wao (waj e) (I.ok.cab x c hfn hc)))).trans e1⟩
  .by_cases hj:j=i
   .subst hj;rw[hi] at e1;cases e1;rw[waw hiσ] at e2;cases e2;exact⟨u,r,.inr ⟨.inl hk,c,hc,hc'⟩⟩
   .rw[wag (Ne.symm hj)] at e2;obtain⟨u',r',q⟩:=hl j y v' e1 e2 e3;refine⟨u',r',?_⟩;rcases q with q|⟨k,c',e,z'⟩
    .exact .inl q
    .refine .inr ⟨k,c',e,z'.sameBut hs ?_⟩;rintro rfl;exact hj (zej hN e1 (I.ok.inj _ _ _ e hc▸hi))
  .by_cases hcc:c'=c
   .subst hcc;exact⟨_,hc'⟩
   .obtain⟨w2,z2⟩:=I.cell y c' e;exact⟨w2,z2.sameBut hs hcc⟩
  .obtain⟨e,n,ne,nf,d⟩:=I.pin p hp;refine⟨(hs.2 p.1 ?_).trans e,n,ne,nf,d⟩;intro q;rw[q,hoc] at e;have q':oc=p.2:=wau e
   exact d w' (by rw[<-q'];exact hocd)
def zek {M:Model}{A:Around}{E:Value->Shared->Prop}{i:Nat}{x:Str}{v:V}{u:Value}{Q:Unit->Shared->Prop}(I:Inv X pins Y H s)(hN:X.N.Nodup)(hi:X.N[i]?=some x)(hx:Loc X.env.scope x)(r:RelV v u)
 (h:∀s',Inv X pins (Y.set i (some v)) H s'->Q () s') (hf:X.fn x=true\/X.env.scope.names.lookup x=some .local:=by first|exact .inl rfl|exact .inr rfl|assumption):wpAny M A (storeName X.env x u) Q E s:=
 zdt I hN hi hx r (λs' I' _=>h s' I') hf
def Inv.call' {s':Shared}{ch:List Addr}(I:Inv X pins Y H s)(ho:s'.os=s.os)(u:Un (frs X.stack) ch H H' s.heap s'.heap)(hok:HOk X.prog X.w H' s'.heap)(hg:AllBare s'.gens)
 (hch:∀b∈ch,(b∈X.ex\/X.s₀.heap.objs.size<=b)/\b≠X.env.locals/\(∀x c,X.env.cells.lookup x=some c->c≠b)/\∀p∈X.pn++pins,p.1≠b):Inv X pins Y H' s':=by
 obtain⟨h',g',d',t',o'⟩:=s';have e:o'=s.os:=ho
 subst e;exact I.call (g':=g') (t':=t') (d':=d') u hok hg hch
end
abbrev XK:=Value->Option Addr->Hp->Prop
abbrev St:=List (Option V)
abbrev VK:=V->Hp->Prop
abbrev TE:=St->Hp->VK->Prop
abbrev TT:=St->Hp->(Bool->Hp->Prop)->Prop
abbrev TA:=St->Hp->(List V->Hp->Prop)->Prop
structure Ends where
 nx:St->Hp->Prop
 rt:VK
 bk:St->Hp->Prop:=λ_ _=>False
 ct:St->Hp->Prop:=λ_ _=>False
abbrev TS:=Ends->St->Hp->Prop
def EP (X:Cx)(pins:List (Addr×Obj))(Y:St)(Q:VK)(u:Value)(s':Shared):Prop:=∃v H',Inv X pins Y H' s'/\RelV v u/\Q v H'
def TP (X:Cx)(pins:List (Addr×Obj))(Y:St)(Q:Bool->Hp->Prop)(b:Bool)(s':Shared):Prop:=∃H',Inv X pins Y H' s'/\Q b H'
def AP (X:Cx)(pins:List (Addr×Obj))(Y:St)(Q:List V->Hp->Prop)(us:List Value)(s':Shared):Prop:=∃vs H',Inv X pins Y H' s'/\Vals vs us/\Q vs H'
def SP (X:Cx)(pins:List (Addr×Obj))(D:Ends)(f:Flow)(s':Shared):Prop:=
 match f with
|.next=>∃Y' H',Inv X pins Y' H' s'/\D.nx Y' H'
|.brk=>∃Y' H',Inv X pins Y' H' s'/\D.bk Y' H'
|.cont=>∃Y' H',Inv X pins Y' H' s'/\D.ct Y' H'
|.ret u=>∃v Y' H',Inv X pins Y' H' s'/\RelV v u/\D.rt v H'
def PE (X:Cx)(e:Expr)(t:TE):Prop:=
 ∀(pins:List (Addr×Obj)) (s:Shared) (Y:St) (H:Hp) (Q:VK),Inv X pins Y H s->t Y H Q->wpAny (model X.prog X.w) X.A (eval e X.env) (EP X pins Y Q) X.xe s
def PT (X:Cx)(e:Expr)(t:TT):Prop:=
 ∀(pins:List (Addr×Obj)) (s:Shared) (Y:St) (H:Hp) (Q:Bool->Hp->Prop),Inv X pins Y H s->t Y H Q->wpAny (model X.prog X.w) X.A (isTrue e X.env (eval e X.env)) (TP X pins Y Q) X.xe s
def PW (X:Cx)(e:Expr)(t:TT):Prop:=
 ∀(whole:Sem Value) (pins:List (Addr×Obj)) (s:Shared) (Y:St) (H:Hp) (Q:Bool->Hp->Prop),Inv X pins Y H s->t Y H Q->wpAny (model X.prog X.w) X.A (isTrue e X.env whole) (TP X pins Y Q) X.xe s
def PW.pt {X:Cx}{e:Expr}{t:TT}(h:PW X e t):PT X e t:=h _
def PA (X:Cx)(es:List Expr)(t:TA):Prop:=
 ∀(pos:Pos) (pins:List (Addr×Obj)) (s:Shared) (Y:St) (H:Hp) (Q:List V->Hp->Prop),Inv X pins Y H s->t Y H Q->wpAny (model X.prog X.w) X.A (spliced (backTo pos (starEach es X.env))) (AP X pins Y Q) X.xe s
def PS (X:Cx)(st:Stmt)(t:TS):Prop:=
 ∀(pins:List (Addr×Obj)) (s:Shared) (Y:St) (H:Hp) (D:Ends),Inv X pins Y H s->t D Y H->wpAny (model X.prog X.w) X.A (exec st X.env) (SP X pins D) X.xe s
def PSs (X:Cx)(st:List Stmt)(t:TS):Prop:=
 ∀(pins:List (Addr×Obj)) (s:Shared) (Y:St) (H:Hp) (D:Ends),Inv X pins Y H s->t D Y H->wpAny (model X.prog X.w) X.A (execs st X.env) (SP X pins D) X.xe s
def thn {α:Type}{t:Sem α}{Q Q':α->Shared->Prop}{M:Model}{A:Around}{E:Value->Shared->Prop}{s:Shared}(h:wpAny M A t Q E s)(hQ:∀a s,Q a s->Q' a s):wpAny M A t Q' E s:=wax h hQ λ_ _ x=>x
section
variable {X:Cx}
def bin {a b:Expr}{ta tb:TE}(ha:PE X a ta)(hb:PE X b tb){pins:List (Addr×Obj)}{s:Shared}{Y:St}{H:Hp}{R:V->V->Hp->Prop}(I:Inv X pins Y H s)(h:ta Y H λx H1=>tb Y H1 λy H2=>R x y H2)
 {α:Type}{Q:α->Shared->Prop}{f:Value->Value->Sem α}
 (hf:∀v u s2 x y H2,Inv X pins Y H2 s2->RelV x v->RelV y u->R x y H2->wpAny (model X.prog X.w) X.A (f v u) Q X.xe s2) :
 wpAny (model X.prog X.w) X.A (eval a X.env) (λv s₁=>wpAny (model X.prog X.w) X.A (eval b X.env) (λu s₂=>wpAny (model X.prog X.w) X.A (f v u) Q X.xe s₂) X.xe s₁) X.xe s:=by
 refine thn (ha pins s Y H _ I h) λv s1 ⟨x,H1,I1,r1,q1⟩ =>?_
 refine thn (hb pins s1 Y H1 _ I1 q1) λu s2 ⟨y,H2,I2,r2,q2⟩ =>?_
 exact hf v u s2 x y H2 I2 r1 r2 q2
def tVar (i:Nat):TE:=λY H Q=>∃v,Y[i]?=some (some v)/\Q v H
def tC (v:V):TE:=λ_ H Q=>Q v H
def zdg {i:Nat}{x:Str}{pos:Pos}(hN:X.N[i]?=some x)(hv:Vis X.env.scope x)(hd:(x == ("__debug__" : Str))=false:=by decide)(hcd:(x == ("__classdict__" : Str))=false:=by decide):PE X (.Name x pos) (tVar i):=by
 intro pins s Y H Q I h;obtain⟨v,e,h⟩:=h;obtain⟨m,hn,hl⟩:=I.loc;obtain⟨u,r,l⟩:=hl i x v hN e hv;have fin:EP X pins Y Q u s:=⟨v,H,I,r,h⟩
 rcases l with⟨hk,hm⟩|⟨hk,c,hc,hcell⟩
 .exact wpAny_Name (wpAny_loadName_local I.ok.kind hk hn hm fin) hd
 .rcases hk with hk|hk
  .exact wpAny_Name (wpAny_loadName_cell I.ok.kind hk hc hcell fin) hd
  .exact wpAny_Name (wpAny_loadName_free I.ok.kind hk hc hcell fin hcd) hd
def zm3 {i j pos}:PE X (.Constant (.int i) j pos) (tC (.int i)):=λ_ _ _ H _ I h=>wpAny_Constant_int ⟨.int i,H,I.tok _,⟨_,rfl⟩,h⟩
def zo6 {b j pos}:PE X (.Constant (.bool b) j pos) (tC (.bl b)):=λ_ _ _ H _ I h=>Constant_bool ⟨.bl b,H,I,rfl,h⟩
def zm4 {j pos}:PE X (.Constant .none j pos) (tC .non):=λ_ _ _ H _ I h=>Constant_none ⟨.non,H,I,rfl,h⟩
def zm5 {x j pos}:PE X (.Constant (.str x) j pos) (tC (.str x)):=λ_ _ _ H _ I h=>Calls.Constant_str ⟨.str x,H,I.tok _,⟨_,rfl⟩,h⟩
def Gl (X:Cx)(x:Str):Prop:=X.env.kindOf x=some .globalImplicit
def zc6 {E:Value->Shared->Prop}{pins:List (Addr×Obj)}{s:Shared}{Y:St}{H:Hp}{x:Str}{u:Value}{pos:Pos}{Q:Value->Shared->Prop}(I:Inv X pins Y H s)(hg:Gl X x)(hm:X.mg x=some u)(h:Q u s)
 (hd:(x == ("__debug__" : Str))=false:=by decide):wpAny (model X.prog X.w) X.A (eval (.Name x pos) X.env) Q E s:=
 Calls.Name_function_global I.ok.kind hg (Calls.loadGlobal_global (by rw[I.ok.glob];exact I.mod.glob.keeps I.bk) hm h) hd
def zcR {E:Value->Shared->Prop}{pins:List (Addr×Obj)}{s:Shared}{Y:St}{H:Hp}{x:Str}{u:Value}{pos:Pos}{Q:Value->Shared->Prop}(I:Inv X pins Y H s)(hg:Gl X x)(hm:X.mg x=none)(hv:bootBuiltins x=some u)(h:Q u s)
 (hn:x≠"__name__":=by decide) (hd:(x == ("__debug__" : Str))=false:=by decide):wpAny (model X.prog X.w) X.A (eval (.Name x pos) X.env) Q E s:=by
 obtain⟨mb,h1,h2⟩:=I.mod.blt;exact Calls.Name_function_global I.ok.kind hg (Calls.loadGlobal_builtin (by rw[I.ok.glob];exact I.mod.glob.keeps I.bk) hm (by rw[I.ok.blt];exact h1.keeps I.bk) ((h2 x hn).trans hv) h) hd
def zfA {x:Str}{v:V}{u:Value}{pos:Pos}(hg:Gl X x)(hm:X.mg x=some u)(r:RelV v u)(hd:(x == ("__debug__" : Str))=false:=by decide):PE X (.Name x pos) (tC v):=
 λ_ _ _ H _ I h=>zc6 I hg hm ⟨v,H,I,r,h⟩ hd
def zhv {x:Str}{v:V}{u:Value}{pos:Pos}(hg:Gl X x)(hm:X.mg x=none)(hv:bootBuiltins x=some u)(r:RelV v u)(hn:x≠"__name__":=by decide)(hd:(x == ("__debug__" : Str))=false:=by decide):PE X (.Name x pos) (tC v):=
 λ_ _ _ H _ I h=>zcR I hg hm hv ⟨v,H,I,r,h⟩ hn hd
variable {a b:Expr}{ta tb:TE}{pos:Pos}
variable {tA tB':TT}{rest:List Expr}
def tAnd (t u:TT):TT:=λY H Q=>t Y H λc H1=>if c=true then u Y H1 Q else Q false H1
def tOr (t u:TT):TT:=λY H Q=>t Y H λc H1=>if c=true then Q true H1 else u Y H1 Q
def tNot (t:TT):TT:=λY H Q=>t Y H λc H1=>Q (!c) H1
def zlh (ha:PT X a tA):PW X (.BoolOp .And [a] pos) tA:=by
 intro wh pins s Y H Q I h;refine isTrue_and (thn (ha pins s Y H Q I h) λc s1 e=>?_);cases c with
|true=>exact isTrue_and_nil e
|false=>exact e
def zm6 (ha:PT X a tA):PW X (.BoolOp .Or [a] pos) tA:=by
 intro wh pins s Y H Q I h;refine isTrue_or (thn (ha pins s Y H Q I h) λc s1 e=>?_);cases c with
|false=>exact isTrue_or_nil e
|true=>exact e
def zm7 (ha:PT X a tA)(hb:PW X (.BoolOp .And (b::rest) pos) tB'):PW X (.BoolOp .And (a::b::rest) pos) (tAnd tA tB'):=by
 intro wh pins s Y H Q I h;refine isTrue_and (thn (ha pins s Y H _ I h) λc s1 ⟨H1,I1,q1⟩ =>?_);cases c with
|true=>exact hb wh pins s1 Y H1 Q I1 q1
|false=>exact⟨H1,I1,q1⟩
def zo7 (ha:PT X a tA)(hb:PW X (.BoolOp .Or (b::rest) pos) tB'):PW X (.BoolOp .Or (a::b::rest) pos) (tOr tA tB'):=by
 intro wh pins s Y H Q I h;refine isTrue_or (thn (ha pins s Y H _ I h) λc s1 ⟨H1,I1,q1⟩ =>?_);cases c with
|true=>exact⟨H1,I1,q1⟩
|false=>exact hb wh pins s1 Y H1 Q I1 q1
def zm8 (ha:PT X a tA):PT X (.UnaryOp .Not a pos) (tNot tA):=by
 intro pins s Y H Q I h;exact isTrue_not (ha pins s Y H (λc H1=>Q (!c) H1) I h)
def zo8 (ta tb:TE):TE:=λY H Q=>ta Y H λx H1=>∃c,x=.bl c/\if c=true then tb Y H1 Q else Q (.bl false) H1
def tOrV (ta tb:TE):TE:=λY H Q=>ta Y H λx H1=>∃c,x=.bl c/\if c=true then Q (.bl true) H1 else tb Y H1 Q
def zo9 (ta:TE):TE:=λY H Q=>ta Y H λx H1=>∃c,x=.bl c/\Q (.bl (!c)) H1
def zm9 {op}{t:TE}(h:PE X a t):PE X (.BoolOp op [a] pos) t:=λpins s Y H Q I hw=>BoolOp_one (h pins s Y H Q I hw)
def zna (ha:PE X a ta)(hb:PE X (.BoolOp .And (b::rest) pos) tb):PE X (.BoolOp .And (a::b::rest) pos) (zo8 ta tb):=by
 intro pins s Y H Q I h;refine BoolOp_and (thn (ha pins s Y H _ I h) λv s1 ⟨x,H1,I1,r1,q1⟩ =>?_);obtain⟨c,rfl,q1⟩:=q1;cases r1;refine wbq ?_;cases c with
|true=>exact hb pins s1 Y H1 Q I1 q1
|false=>exact⟨.bl false,H1,I1,rfl,q1⟩
def zpa (ha:PE X a ta)(hb:PE X (.BoolOp .Or (b::rest) pos) tb):PE X (.BoolOp .Or (a::b::rest) pos) (tOrV ta tb):=by
 intro pins s Y H Q I h;refine BoolOp_or (thn (ha pins s Y H _ I h) λv s1 ⟨x,H1,I1,r1,q1⟩ =>?_);obtain⟨c,rfl,q1⟩:=q1;cases r1;refine wbq ?_;cases c with
|false=>exact hb pins s1 Y H1 Q I1 q1
|true=>exact⟨.bl true,H1,I1,rfl,q1⟩
def znb (ha:PE X a ta):PE X (.UnaryOp .Not a pos) (zo9 ta):=by
 intro pins s Y H Q I h;refine UnaryOp_ (thn (ha pins s Y H _ I h) λv s1 ⟨x,H1,I1,r1,q1⟩ =>?_);obtain⟨c,rfl,q1⟩:=q1;cases r1;exact not_of (wbq ⟨.bl (!c),H1,I1,rfl,q1⟩)
end
def SqL (K:W.Frag)(H:Hp)(a:Addr)(xs:List V):Prop:=
 Rd H a (.lst xs)\/
  ∃(o:Obj) (its:Array Value) (n:Nat),K.lookup a=some o/\o.cls=.type "list"/\o.dict=none/\o.data=.seq its n/\its.size<=sizeLine/\Vals xs its.toList
def SqT (K:W.Frag)(H:Hp)(a:Addr)(xs:List V):Prop:=
 Rd H a (.tup xs)\/
  ∃(o:Obj) (its:Array Value) (n:Nat),K.lookup a=some o/\o.cls=.type "tuple"/\o.data=.seq its n/\its.size<=sizeLine/\Vals xs its.toList
def absV:Value->Option V
|.none=>some .non
|.bool b=>some (.bl b)
|.int i _=>some (.int i)
|.str x _=>some (.str x)
|.bytes b _=>some (.byt b)
|.float b _=>some (.flt b)
|.ref a=>some (.ref a)
|.type n=>some (.ty n)
|_=>none
def RelV.abs {x:V}{u:Value}(r:RelV x u):absV u=some x:=by
 cases x with
|non=>cases r;rfl
|bl _=>cases r;rfl
|int _=>obtain⟨t,rfl⟩:=r;rfl
|str _=>obtain⟨t,rfl⟩:=r;rfl
|byt _=>obtain⟨t,rfl⟩:=r;rfl
|flt _=>obtain⟨t,rfl⟩:=r;rfl
|ref _=>cases r;rfl
|ty _=>cases r;rfl
def RelV.inj {x y:V}{u:Value}(r:RelV x u)(q:RelV y u):x=y:=wau (r.abs.symm.trans q.abs)
theorem Vals.inj:∀{xs ys:List V}{us:List Value},Vals xs us->Vals ys us->xs=ys
|_,_,_,.nil,.nil=>rfl
|_,_,_,.cons r t,.cons r' t'=>by rw[r.inj r',Vals.inj t t']
section
variable {X:Cx}{pins:List (Addr×Obj)}{Y:St}{H:Hp}{s:Shared}{a:Addr}{xs ys:List V}
def SqL.of {K:W.Frag}(h:H a=some (.lst xs)):SqL K H a xs:=.inl (.inl h)
def SqT.of {K:W.Frag}(h:H a=some (.tup xs)):SqT K H a xs:=.inl (.inl h)
def Inv.list (I:Inv X pins Y H s)(h:SqL X.K H a xs):∃its:List Value,Vals xs its/\PlainL s.heap a its.toArray/\xs.length<=sizeLine:=by
 rcases h with h|⟨o,its,n,hk,hc,hd,hs,hz,r⟩
 .obtain⟨z,its,n,r,e⟩:=h.ok I.hok;exact⟨its,r,⟨_,n,e,rfl,rfl,rfl⟩,z⟩
 .refine⟨its.toList,r,⟨o,n,I.kIn a o hk,hc,hd,by simpa using hs⟩,?_⟩;have e:=r.length
  simp only[wcs] at e;omega
def Inv.tuple (I:Inv X pins Y H s)(h:SqT X.K H a xs):∃its:List Value,Vals xs its/\IsTup s.heap a its.toArray/\xs.length<=sizeLine:=by
 rcases h with h|⟨o,its,n,hk,hc,hs,hz,r⟩
 .obtain⟨z,its,r,p⟩:=h.ok I.hok;exact⟨its,r,p,z⟩
 .refine⟨its.toList,r,⟨o,I.kIn a o hk,hc,n,by simpa using hs⟩,?_⟩;have e:=r.length
  simp only[wcs] at e;omega
def Inv.list_inj (I:Inv X pins Y H s)(h:SqL X.K H a xs)(h':SqL X.K H a ys):xs=ys:=by
 obtain⟨its,r,⟨o,n,e,_,_,d⟩,_⟩:=I.list h;obtain⟨its',r',⟨o',n',e',_,_,d'⟩,_⟩:=I.list h';rw[e] at e';cases e';rw[d] at d';injection d' with d1 _
 have:its=its':=by simpa using wbb Array.toList d1
 subst this;exact r.inj r'
def Inv.tuple_inj (I:Inv X pins Y H s)(h:SqT X.K H a xs)(h':SqT X.K H a ys):xs=ys:=by
 obtain⟨its,r,⟨o,e,_,n,d⟩,_⟩:=I.tuple h;obtain⟨its',r',⟨o',e',_,n',d'⟩,_⟩:=I.tuple h';rw[e] at e';cases e';rw[d] at d';injection d' with d1 _
 have:its=its':=by simpa using wbb Array.toList d1
 subst this;exact r.inj r'
end
abbrev Cx.wish (X:Cx)(E:Value->Shared->Prop):Cx:={X with xe:=E}
abbrev Cx.nox (X:Cx):Cx:=X.wish λ_ _=>False
theorem Cx.Ok.wish {X:Cx}(ok:X.Ok)(E:Value->Shared->Prop):(X.wish E).Ok:=
 ⟨ok.mod,ok.kind,ok.glob,ok.blt,ok.above,ok.inj,ok.has,ok.cab,ok.hd,ok.frames,ok.stk,ok.exf,ok.bs,ok.bsz,ok.noex,ok.exfs,ok.funs,ok.frf⟩
def Cx.Ok.unwish {X:Cx}{E:Value->Shared->Prop}(ok:(X.wish E).Ok):X.Ok:=
 ⟨ok.mod,ok.kind,ok.glob,ok.blt,ok.above,ok.inj,ok.has,ok.cab,ok.hd,ok.frames,ok.stk,ok.exf,ok.bs,ok.bsz,ok.noex,ok.exfs,ok.funs,ok.frf⟩
section
variable {X:Cx}{pins:List (Addr×Obj)}{Y:St}{H:Hp}{s:Shared}{E:Value->Shared->Prop}
theorem Inv.wish (I:Inv X pins Y H s)(E:Value->Shared->Prop):Inv (X.wish E) pins Y H s:=⟨I.ok.wish E,I.os,I.bare,I.base,I.loc,I.cell,I.free,I.freeC,I.pin,I.hok,I.len⟩
theorem Inv.unwish (I:Inv (X.wish E) pins Y H s):Inv X pins Y H s:=⟨I.ok.unwish,I.os,I.bare,I.base,I.loc,I.cell,I.free,I.freeC,I.pin,I.hok,I.len⟩
theorem SP.unwish {D:Ends}{f:Flow}{s':Shared}(h:SP (X.wish E) pins D f s'):SP X pins D f s':=by
 cases f with
|next=>obtain⟨Y',H',I,q⟩:=h;exact⟨Y',H',I.unwish,q⟩
|brk=>obtain⟨Y',H',I,q⟩:=h;exact⟨Y',H',I.unwish,q⟩
|cont=>obtain⟨Y',H',I,q⟩:=h;exact⟨Y',H',I.unwish,q⟩
|ret u=>obtain⟨v,Y',H',I,r,q⟩:=h;exact⟨v,Y',H',I.unwish,r,q⟩
theorem PSs.nox {st:List Stmt}{t:TS}(h:PSs X.nox st t):PSs X st t:=λpins s Y H D I hw=>
 wax (h pins s Y H D (I.wish _) hw) (λ_ _ q=>q.unwish) λ_ _ z=>False.elim z
end
section
variable {X:Cx}{st:Stmt}{rest:List Stmt}{t u:TS}{e:Expr}{te:TE}{pos:Pos}
def zpb:TS:=λD Y H=>D.nx Y H
def tSeq (t u:TS):TS:=λD Y H=>t {D with nx:=u D} Y H
def zhw:PSs X [] zpb:=λ_ _ Y H _ I h=>wbZ ⟨Y,H,I,h⟩
def zgf (h1:PS X st t)(h2:PSs X rest u):PSs X (st::rest) (tSeq t u):=by
 intro pins s Y H D I h;refine wpAny_execs_cons (thn (h1 pins s Y H {D with nx:=u D} I h) λf s1 q=>?_);cases f with
|next=>
   obtain⟨Y',H',I',q⟩:=q;exact h2 pins s1 Y' H' D I' q
|ret v=>exact q
|brk=>exact q
|cont=>exact q
def zhx (h1:PS X st t):PSs X [st] t:=by
 intro pins s Y H D I h;refine wpAny_execs_cons (thn (h1 pins s Y H D I h) λf s1 q=>?_);cases f with
|next=>exact wbZ q
|ret v=>exact q
|brk=>exact q
|cont=>exact q
def zpc:TS:=λD Y H=>D.ct Y H
def zfB:PS X (.Continue pos) zpc:=λ_ _ Y H _ I h=>wpAny_Continue ⟨Y,H,I,h⟩
def Inv.quiet {pins:List (Addr×Obj)}{Y:St}{H:Hp}{s:Shared}(I:Inv X pins Y H s):interactive X.env=false:=by simp[interactive,I.ok.kind]
def zli (te:TE):TS:=λD Y H=>te Y H λ_ H1=>D.nx Y H1
def zel (he:PE X e te)(hs:swapsWith e none pos.line X.env=pure false:=by rfl):PS X (.Expr e pos) (zli te):=by
 intro pins s Y H D I h;exact wpAny_Expr_any (thn (he pins s Y H _ I h) λv s1 ⟨x,H1,I1,r1,q1⟩ =>⟨Y,H1,I1,q1⟩) I.quiet hs
def tRet (te:TE):TS:=λD Y H=>te Y H D.rt
def znc (he:PE X e te):PS X (.Return (some e) pos) (tRet te):=by
 intro pins s Y H D I h;exact wpAny_Return_some (thn (he pins s Y H _ I h) λv s1 ⟨x,H1,I1,r1,q1⟩ =>⟨x,Y,H1,I1,r1,q1⟩)
def tIfS (c:TT)(t u:TS):TS:=λD Y H=>c Y H λb H1=>if b=true then t D Y H1 else u D Y H1
def znd {c:Expr}{a b:List Stmt}{tc:TT}(hc:PT X c tc)(ha:PSs X a t)(hb:PSs X b u):PS X (.If c a b pos) (tIfS tc t u):=by
 intro pins s Y H D I h;refine wpAny_If (thn (hc pins s Y H _ I h) λd s1 ⟨H1,I1,q1⟩ =>?_);cases d with
|true=>exact ha pins s1 Y H1 D I1 q1
|false=>exact hb pins s1 Y H1 D I1 q1
def zhy:TS:=λ_ _ _=>False
def zjk:PS X st zhy:=λ_ _ _ _ _ _ h=>h.elim
def zhz {sts:List Stmt}:PSs X sts zhy:=λ_ _ _ _ _ _ h=>h.elim
end
abbrev TG:=V->St->Hp->(St->Hp->Prop)->Prop
abbrev TGs:=List V->St->Hp->(St->Hp->Prop)->Prop
def PG (X:Cx)(target:Expr)(t:TG):Prop:=
 ∀(pins:List (Addr×Obj)) (s:Shared) (Y:St) (H:Hp) (v:V) (u:Value) (Q:St->Hp->Prop),Inv X pins Y H s->RelV v u->t v Y H Q->
  wpAny (model X.prog X.w) X.A (assign target X.env u) (λ_ s'=>∃Y' H',Inv X pins Y' H' s'/\Q Y' H') X.xe s
def PGs (X:Cx)(ts:List Expr)(t:TGs):Prop:=
 ∀(pins:List (Addr×Obj)) (s:Shared) (Y:St) (H:Hp) (vs:List V) (us:List Value) (Q:St->Hp->Prop),Inv X pins Y H s->Vals vs us->t vs Y H Q->
  wpAny (model X.prog X.w) X.A (assignInOrder ((assignEach ts X.env).map (·.2)) us) (λ_ s'=>∃Y' H',Inv X pins Y' H' s'/\Q Y' H') X.xe s
abbrev TSet:=V->V->V->Hp->(Hp->Prop)->Prop
def PSet (X:Cx)(t:TSet):Prop:=
 ∀(pins:List (Addr×Obj)) (s:Shared) (Y:St) (H:Hp) (o i v:V) (ov iv u:Value) (Q:Hp->Prop),Inv X pins Y H s->RelV o ov->RelV i iv->RelV v u->t o i v H Q->
  wpAny (model X.prog X.w) X.A (setItem ov iv u) (λ_ s'=>∃H',Inv X pins Y H' s'/\Q H') X.xe s
section
variable {X:Cx}{pos:Pos}
def zdl (i:Nat):TG:=λv Y H Q=>Q (Y.set i (some v)) H
def zfC {i:Nat}{x:Str}(hN:X.N.Nodup)(hi:X.N[i]?=some x)(hx:Loc X.env.scope x)(hf:X.fn x=true\/X.env.scope.names.lookup x=some .local:=by first|exact .inl rfl|exact .inr rfl|assumption):PG X (.Name x pos) (zdl i):=by
 intro pins s Y H v u Q I r h;exact wpAny_assign_Name (zek I hN hi hx r (λs' I'=>⟨_,H,I',h⟩) hf)
def gNil:TGs:=λvs Y H Q=>vs = []/\Q Y H
def zne (t:TG)(u:TGs):TGs:=λvs Y H Q=>∃v r,vs=v::r/\t v Y H λY' H'=>u r Y' H' Q
def zlj:PGs X [] gNil:=by
 intro pins s Y H vs us Q I r h;obtain⟨e,h⟩:=h;subst e;cases r;exact assignInOrder_nil ⟨Y,H,I,h⟩
def zjl {e:Expr}{es:List Expr}{t:TG}{u:TGs}(h1:PG X e t)(h2:PGs X es u)
 (hs:(assignEach (e::es) X.env).map (·.2)=assign e X.env::(assignEach es X.env).map (·.2):=by rfl):PGs X (e::es) (zne t u):=by
 intro pins s Y H vs us Q I r h;obtain⟨v,vr,e1,h⟩:=h;subst e1;cases r with
|cons r rr=>
   rw[hs];refine assignInOrder_cons (thn (h1 pins s Y H _ _ _ I r h) λ_ s1 ⟨Y1,H1,I1,q1⟩ =>?_);exact h2 pins s1 Y1 H1 _ _ Q I1 rr q1
def gTup (K:W.Frag)(n:Nat)(t:TGs):TG:=λv Y H Q=>∃a xs,v=.ref a/\SqT K H a xs/\xs.length=n/\t xs Y H Q
def znf {es:List Expr}{k:Nat}{t:TGs}{n:Nat}(hc:X.calm=true)(h:PGs X es t)
 (hn:(assignEach es X.env).length=n:=by rfl) (hst:(assignEach es X.env).findIdx? (·.1)=none:=by rfl):PG X (.Tuple es k pos) (gTup X.K n t):=by
 intro pins s Y H v u Q I r hw;obtain⟨a,xs,e1,hq,hl,hw⟩:=hw;subst e1;cases r;obtain⟨its,rv,ht,hz⟩:=I.tuple hq;refine assign_Tuple_tuple (I.ok.hd hc) ht (by simp[hn,<-hl,rv.length]) hst λh' hx=>?_
 have I1:Inv X pins Y H {s with heap:=h'}:=I.kept (t':=s.toks) λb o e=>hx b o (way (waj e)) e
 exact h pins _ Y H xs _ Q I1 (by simpa using rv) hw
def gSub (to ti:TE)(t:TSet):TG:=λv Y H Q=>to Y H λo H1=>ti Y H1 λi H2=>t o i v H2 λH3=>Q Y H3
def zng {o i:Expr}{to ti:TE}{t:TSet}(ho:PE X o to)(hi:PE X i ti)(hs:PSet X t)
 (ha:∀v,assign (.Subscript o i pos) X.env v=(do
  let ov <-holding [v] (eval o X.env)
  let iv <-holding [v,ov] (eval i X.env)
  standAt pos
  holding [v,ov,iv] (setItem ov iv v)
  release [v,ov,iv] []):=by intro _;rfl):PG X (.Subscript o i pos) (gSub to ti t):=by
 intro pins s Y H v u Q I r h;rw[ha];refine waa (wbv (thn (ho pins s Y H _ I h) λov s1 ⟨x,H1,I1,r1,q1⟩ =>?_));refine waa (wbv (thn (hi pins s1 Y H1 _ I1 q1) λiv s2 ⟨y,H2,I2,r2,q2⟩ =>?_));refine waa (wbh (waa (wbv (thn (hs pins s2 Y H2 x y v ov iv u _ I2 r1 r2 r q2) λ_ s3 ⟨H3,I3,q3⟩ =>?_))));exact wpAny_release ⟨Y,H3,I3,q3⟩
def tAsg (te:TE)(g:TG):TS:=λD Y H=>te Y H λx H1=>g x Y H1 D.nx
def zky {tg e:Expr}{te:TE}{g:TG}(he:PE X e te)(hg:PG X tg g)(hs:swapsWithSole [tg] e pos.line X.env=pure false:=by rfl)(hw:swappedStores [tg] e X.env=pure none:=by rfl)
 (h1:(assignEach [tg] X.env).map (·.2) = [assign tg X.env]:=by rfl):PS X (.Assign [tg] e pos) (tAsg te g):=by
 intro pins s Y H D I h;refine wpAny_Assign_stores (thn (he pins s Y H _ I h) λv s1 ⟨x,H1,I1,r1,q1⟩ =>?_) hs hw;rw[h1];exact thn (hg pins s1 Y H1 x v _ I1 r1 q1) λ_ s2 q=>q
def zkz {i:Nat}{x:Str}{e:Expr}{te:TE}{pos':Pos}(hN:X.N.Nodup)(hi:X.N[i]?=some x)(hx:Loc X.env.scope x)(he:PE X e te)(hs:swapsWith e (some (.Name x pos')) pos.line X.env=pure false:=by rfl)(hf:X.fn x=true\/X.env.scope.names.lookup x=some .local:=by first|exact .inl rfl|exact .inr rfl|assumption) :
 PS X (.Assign [.Name x pos'] e pos) (tAsg te (zdl i)):=by
 intro pins s Y H D I h;refine wpAny_Assign_Name (thn (he pins s Y H _ I h) λv s1 ⟨y,H1,I1,r1,q1⟩ =>?_) hs;exact zek I1 hN hi hx r1 (λs2 I2=>⟨_,H1,I2,q1⟩) hf
end
section
variable {X:Cx}{pos:Pos}
def zkA (c:TT)(tb:TS):TS:=λD Y H=>∃W:Nat->St->Hp->Prop,(∃m,W m Y H)/\∀m Y H,W m Y H->
 c Y H λb H1=>if b=true then ∃N:St->Hp->Prop,(∀Y' H',N Y' H'->∃m',m'<m/\W m' Y' H')/\tb {D with nx:=N,ct:=N,bk:=D.nx} Y H1 else D.nx Y H1
def zjm {c:Expr}{body:List Stmt}{tc:TT}{tb:TS}(hp:PassesOwn (model X.prog X.w) X.A X.env X.xe)(hc:PT X c tc)(hb:PSs X body tb):PS X (.While c body [] pos) (zkA tc tb):=by
 intro pins s Y H D I h;obtain⟨W,⟨m0,w0⟩,turn⟩:=h;refine wpAny_While (codeAny_whileLoop (λn s'=>∃Y' H',Inv X pins Y' H' s'/\W n Y' H') ?_ m0 ⟨Y,H,I,w0⟩);rintro n s1 ⟨Y1,H1,I1,w1⟩;refine wbB hp (thn (hc pins s1 Y1 H1 _ I1 (turn n Y1 H1 w1)) λb s2 ⟨H2,I2,q2⟩ =>?_);cases b with
|true=>
   obtain⟨N,hN,q2⟩:=q2;rw[if_pos rfl];refine wbB hp (thn (hb pins s2 Y1 H2 _ I2 q2) λf s3 q3=>?_);cases f with
  |next=>
     obtain⟨Y3,H3,I3,n3⟩:=q3;obtain⟨m',hm,w3⟩:=hN Y3 H3 n3;exact⟨m',hm,Y3,H3,I3,w3⟩
  |cont=>
     obtain⟨Y3,H3,I3,n3⟩:=q3;obtain⟨m',hm,w3⟩:=hN Y3 H3 n3;exact⟨m',hm,Y3,H3,I3,w3⟩
  |brk=>exact q3
  |ret v=>exact q3
|false=>
   rw[if_neg wbw];exact wbZ ⟨Y1,H2,I2,q2⟩
end
structure It where
 go:Nat->Hp->Prop
 yld:Nat->Hp->V->Hp->Prop
 stop:Nat->Hp->Prop
def FpOk (X:Cx)(pins:List (Addr×Obj))(H:Hp)(b:Addr):Prop:=
 H b=none/\b≠X.env.locals/\b∉X.fs/\(b∈X.ex\/X.s₀.heap.objs.size<=b)/\(∀x c,X.env.cells.lookup x=some c->c≠b)/\∀p∈X.pn++pins,p.1≠b
def Inv.fpOk {X:Cx}{pins:List (Addr×Obj)}{Y:St}{H H':Hp}{s:Shared}{b:Addr}(I:Inv X pins Y H s)(hb:s.heap.objs.size<=b)(hn:H' b=none):FpOk X pins H' b:=by
 refine⟨hn,Nat.ne_of_gt (wao I.lt hb),I.nofs hb,.inr (waq I.sz hb),λx c e z=>?_,λp hp z=>?_⟩
 .obtain⟨v,q⟩:=I.cell x c e;exact absurd (wao q.lt (by rw[z];exact hb)) (waP _)
 .exact absurd (wao (waj (I.pin p hp).1) (by rw[z];exact hb)) (waP _)
structure Turn (P:Program)(w:World)(K:W.Frag)(tg:Expr)(J:It)(fp:List Addr)(it:Addr)(tn:Nat->Heap->Prop):Prop where
 mem:it∈fp
 obj:∀i h,tn i h->∀b∈fp,∃o,h.get? b=some o/\∀v,o.data≠.cell v
 keep:∀i h h',tn i h->(∀b∈fp,∀o,h.get? b=some o->h'.get? b=some o)->tn i h'
 item:∀(X:Cx),X.prog=P->X.w=w->X.K=K->X.calm=true->∀(i:Nat) (pins:List (Addr×Obj)) (s:Shared) (Y:St) (H:Hp) (E:Value->Shared->Prop),Inv X pins Y H s->(∀b∈fp,FpOk X pins H b)->tn i s.heap->J.go i H->
  wpAny (model P w) X.A (pyNext (.ref it)) (λr s1=>∃u,r=some u/\
   wpAny (model P w) X.A (letOwnedTupleGo tg (.ref it) u) (λ_ s2=>∃x H',Inv X pins Y H' s2/\RelV x u/\J.yld i H x H'/\tn (i+1) s2.heap/\∀b∈fp,H' b=none) E s1) E s
 done:∀(X:Cx),X.prog=P->X.w=w->X.K=K->X.calm=true->∀(i:Nat) (pins:List (Addr×Obj)) (s:Shared) (Y:St) (H:Hp) (E:Value->Shared->Prop),Inv X pins Y H s->(∀b∈fp,FpOk X pins H b)->tn i s.heap->J.stop i H->
  wpAny (model P w) X.A (pyNext (.ref it)) (λr s1=>r=none/\Inv X pins Y H s1) E s
 self:∀(A:Around) (i:Nat) (s:Shared) (Q:Value->Shared->Prop) (E:Value->Shared->Prop),tn i s.heap->Q (.ref it) s->wpAny (model P w) A (pyIter (.ref it)) Q E s
abbrev TI:=St->Hp->(It->Hp->Prop)->Prop
def PIE (X:Cx)(pins:List (Addr×Obj))(Y:St)(tg:Expr)(R:It->Hp->Prop)(itv:Value)(s2:Shared):Prop:=
 ∃(it:Addr) (fp:List Addr) (tn:Nat->Heap->Prop) (J:It) (H':Hp),itv=.ref it/\Inv X pins Y H' s2/\Turn X.prog X.w X.K tg J fp it tn/\tn 0 s2.heap/\(∀b∈fp,FpOk X pins H' b)/\R J H'
def PI (X:Cx)(tg iter:Expr)(wi:TI):Prop:=
 ∀(pins:List (Addr×Obj)) (s:Shared) (Y:St) (H:Hp) (R:It->Hp->Prop),Inv X pins Y H s->wi Y H R->
  wpAny (model X.prog X.w) X.A (eval iter X.env) (λv s1=>wpAny (model X.prog X.w) X.A (pyIter v) (PIE X pins Y tg R) X.xe s1) X.xe s
def zhA {M:Model}{A:Around}{E:Value->Shared->Prop}{s:Shared}{tg:Expr}{it:Addr}{u:Value}{o:Obj}{n:String}{vs:Array Value}{Q:Unit->Shared->Prop}(ho:s.heap.get? it=some o)(hc:o.cls=.type n)(hd:o.data=.fields vs)
 (hn:["enumerate","zip","dict_itemiterator","dict_reverseitemiterator","odict_iterator","itertools.zip_longest","itertools.pairwise"].contains n=false) (hQ:Q () s):wpAny M A (letOwnedTupleGo tg (.ref it) u) Q E s:=by
 unfold letOwnedTupleGo;cases tg <;> first
 |exact wak hQ
 |(cases u <;> first
  |exact wak hQ
  |(refine waa (wpAny_load ho ?_)
    rw[hc,hd];show wpAny M A (if(["enumerate","zip","dict_itemiterator","dict_reverseitemiterator","odict_iterator","itertools.zip_longest","itertools.pairwise"].contains n&&vs[0]? == some (rawInt _))=true then _ else _) Q E s
    rw[if_neg (by intro h;rw[hn,Bool.false_and] at h;cases h)];exact wak hQ))
def Itl (K:W.Frag)(a:Addr):It:=
 ⟨λi H=>∃xs x,SqL K H a xs/\xs[i]?=some x,λi H x H'=>H'=H/\∀xs,SqL K H a xs->xs[i]?=some x,λi H=>∃xs,SqL K H a xs/\xs.length<=i⟩
def Itt (K:W.Frag)(a:Addr):It:=
 ⟨λi H=>∃xs x,SqT K H a xs/\xs[i]?=some x,λi H x H'=>H'=H/\∀xs,SqT K H a xs->xs[i]?=some x,λi H=>∃xs,SqT K H a xs/\xs.length<=i⟩
def Itr (lo:Int)(n:Nat):It:=⟨λi _=>i<n,λi H x H'=>H'=H/\x=.int (lo+i),λi _=>n<=i⟩
def zhB {P:Program}{w:World}{K:W.Frag}{tg:Expr}(a it:Addr):Turn P w K tg (Itl K a) [it] it (λi h=>h.IsListIter it a i) where
 mem:=by simp
 obj:=λi h st b hb=>by
  have e:b=it:=by simpa using hb
  subst e;obtain⟨o,e,c,d⟩:=st;exact⟨o,e,λv z=>by rw[d] at z;cases z⟩
 keep:=λi h h' st k=>st.at λo e=>k it (by simp) o e
 item:=by
  intro X hP hw hK hc i pins s Y H E I hf st hg;subst hP hw hK;obtain⟨xs,x,hq,hx⟩:=hg;obtain⟨its,rv,p,hz⟩:=I.list hq;obtain⟨u,hu,ru⟩:=rv.get hx;obtain⟨f0,f1,f2,f3,f4,f5⟩:=hf it (by simp);refine wpAny_pyNext_list_item st p.isList (x:=u) (by simpa using hu) λh' st' sb=>?_
  have I1:Inv X pins Y H {s with heap:=h'}:=I.turned (t':=s.toks) (λb o hb e=>(sb.2 b hb).trans e) f0 f1 f3 f4 f5
  obtain⟨o,e,c,d⟩:=id st';exact⟨u,rfl,zhA (s:={s with heap:=h'}) e c d (by decide) ⟨x,H,I1,ru,⟨rfl,λys hy=>by rw[I.list_inj hy hq];exact hx⟩,st',λb hb=>(hf b hb).1⟩⟩
 done:=by
  intro X hP hw hK hc i pins s Y H E I hf st hg;subst hP hw hK;obtain⟨xs,hq,hx⟩:=hg;obtain⟨its,rv,p,hz⟩:=I.list hq;obtain⟨f0,f1,f2,f3,f4,f5⟩:=hf it (by simp);have hl:=rv.length
  exact wpAny_pyNext_list_end (I.ok.hd hc) st p.isList (by simp;omega) λh' eb=>⟨rfl,I.turned (t':=s.toks) (λb o hb e=>eb b o hb e) f0 f1 f3 f4 f5⟩
 self:=λ_ _ _ _ _ st h=>wpAny_pyIter_listiter st h
def zgQ {P:Program}{w:World}{K:W.Frag}{tg:Expr}(a it:Addr):Turn P w K tg (Itt K a) [it] it (λi h=>h.IsTupleIter it a i) where
 mem:=by simp
 obj:=λi h st b hb=>by
  have e:b=it:=by simpa using hb
  subst e;obtain⟨o,e,c,d⟩:=st;exact⟨o,e,λv z=>by rw[d] at z;cases z⟩
 keep:=λi h h' st k=>st.at λo e=>k it (by simp) o e
 item:=by
  intro X hP hw hK hc i pins s Y H E I hf st hg;subst hP hw hK;obtain⟨xs,x,hq,hx⟩:=hg;obtain⟨its,rv,p,hz⟩:=I.tuple hq;obtain⟨u,hu,ru⟩:=rv.get hx;obtain⟨f0,f1,f2,f3,f4,f5⟩:=hf it (by simp);refine wpAny_pyNext_tuple_item st (show s.heap.IsTuple a its.toArray from p) (x:=u) (by simpa using hu) λh' st' sb=>?_
  have I1:Inv X pins Y H {s with heap:=h'}:=I.turned (t':=s.toks) (λb o hb e=>(sb.2 b hb).trans e) f0 f1 f3 f4 f5
  obtain⟨o,e,c,d⟩:=id st';exact⟨u,rfl,zhA (s:={s with heap:=h'}) e c d (by decide) ⟨x,H,I1,ru,⟨rfl,λys hy=>by rw[I.tuple_inj hy hq];exact hx⟩,st',λb hb=>(hf b hb).1⟩⟩
 done:=by
  intro X hP hw hK hc i pins s Y H E I hf st hg;subst hP hw hK;obtain⟨xs,hq,hx⟩:=hg;obtain⟨its,rv,p,hz⟩:=I.tuple hq;obtain⟨f0,f1,f2,f3,f4,f5⟩:=hf it (by simp);have hl:=rv.length
  exact wpAny_pyNext_tuple_end (I.ok.hd hc) st (show s.heap.IsTuple a its.toArray from p) (by simp;omega) λh' eb=>⟨rfl,I.turned (t':=s.toks) (λb o hb e=>eb b o hb e) f0 f1 f3 f4 f5⟩
 self:=λ_ _ _ _ _ st h=>wpAny_pyIter_tupleiter st h
def zgR {P:Program}{w:World}{K:W.Frag}{tg:Expr}(it:Addr)(lo:Int)(n:Nat):Turn P w K tg (Itr lo n) [it] it (λi h=>IsRangeIter h it (lo+(i:Nat)*1) ((n:Int) - (i:Nat)) 1) where
 mem:=by simp
 obj:=λi h st b hb=>by
  have e:b=it:=by simpa using hb
  subst e;exact⟨_,st,λv z=>by
   have z':Data.fields _=Data.cell v:=z
   cases z'⟩
 keep:=λi h h' st k=>k it (by simp) _ st
 item:=by
  intro X hP hw hK hc i pins s Y H E I hf st hg;subst hP hw hK;obtain⟨f0,f1,f2,f3,f4,f5⟩:=hf it (by simp);have W:=Walks.range (prog:=X.prog) (w:=X.w) (I.ok.hd hc) it lo 1 n
  refine W.item i s _ _ hg st λv h' tk hv st' kk=>?_
  obtain⟨t,rfl⟩:=hv;have I1:Inv X pins Y H {s with heap:=h',toks:=tk}:=I.turned (λb o hb e=>kk b o (by simpa using hb) e) f0 f1 f3 f4 f5
  refine⟨_,rfl,zhA (s:={s with heap:=h',toks:=tk}) (n:="range_iterator") st' rfl rfl (by decide) ⟨.int (lo+i),H,I1,⟨t,?_⟩,⟨rfl,rfl⟩,st',λb hb=>(hf b hb).1⟩⟩;rw[Int.mul_one]
 done:=by
  intro X hP hw hK hc i pins s Y H E I hf st hg;subst hP hw hK;obtain⟨f0,f1,f2,f3,f4,f5⟩:=hf it (by simp);exact wpAny_pyNext_range_end (I.ok.hd hc) st (by have:n<=i:=hg;omega) λh' eb=>⟨rfl,I.turned (t':=s.toks) (λb o hb e=>eb b o hb e) f0 f1 f3 f4 f5⟩
 self:=λ_ _ _ _ _ st h=>wcd st h
section
variable {X:Cx}{tg:Expr}
def zpd (K:W.Frag)(tl:TE):TI:=λY H R=>tl Y H λx H1=>∃a,x=.ref a/\(∃xs,SqL K H1 a xs)/\R (Itl K a) H1
def iTup (K:W.Frag)(tl:TE):TI:=λY H R=>tl Y H λx H1=>∃a,x=.ref a/\(∃xs,SqT K H1 a xs)/\R (Itt K a) H1
def zlk {l:Expr}{tl:TE}(hl:PE X l tl):PI X tg l (zpd X.K tl):=by
 intro pins s Y H R I h;refine thn (hl pins s Y H _ I h) λv s1 ⟨x,H1,I1,r1,q1⟩ =>?_
 obtain⟨a,e,⟨xs,hq⟩,q⟩:=q1;subst e;cases r1;obtain⟨its,rv,p,hz⟩:=I1.list hq;refine wpAny_pyIter_list p.isList ?_;refine⟨s1.heap.objs.size,[s1.heap.objs.size],_,_,H1,rfl,I1.kept (t':=s1.toks) λb o e=>wac _ e,zhB a _,⟨_,wav _ rfl,rfl,rfl⟩,λb hb=>?_,q⟩;have e:b=s1.heap.objs.size:=by simpa using hb
 subst e;exact I1.fpOk (wai _) (I1.hok.fresh (wai _))
def znh {l:Expr}{tl:TE}(hl:PE X l tl):PI X tg l (iTup X.K tl):=by
 intro pins s Y H R I h;refine thn (hl pins s Y H _ I h) λv s1 ⟨x,H1,I1,r1,q1⟩ =>?_
 obtain⟨a,e,⟨xs,hq⟩,q⟩:=q1;subst e;cases r1;obtain⟨its,rv,p,hz⟩:=I1.tuple hq;refine wca (show s1.heap.IsTuple a its.toArray from p) ?_;refine⟨s1.heap.objs.size,[s1.heap.objs.size],_,_,H1,rfl,I1.kept (t':=s1.toks) λb o e=>wac _ e,zgQ a _,⟨_,wav _ rfl,rfl,rfl⟩,λb hb=>?_,q⟩;have e:b=s1.heap.objs.size:=by simpa using hb
 subst e;exact I1.fpOk (wai _) (I1.hok.fresh (wai _))
def zjn {pins:List (Addr×Obj)}{Y:St}{H:Hp}{s:Shared}{R:It->Hp->Prop}{E:Value->Shared->Prop}{lo hi:Int}{t u v:Tok}{tk:Nat}(I:Inv X pins Y H s)(h1:-(2 ^ 62)<=lo)(h2:lo<2 ^ 62)(h3:-(2 ^ 62)<=hi)(h4:hi<2 ^ 62)
 (q:R (Itr lo (hi - lo).toNat) H):wpAny (model X.prog X.w) X.A (pyIter (.ref s.heap.objs.size)) (PIE X pins Y tg R) E {s with heap:=s.heap.push {cls:=.type "range",data:=.fields #[.int lo t,.int hi u,.int 1 v]},toks:=tk}:=by
 refine wpAny_pyIter_range (IsRange.new ..) (small_one h1 h2 h3 h4) ?_;have I1:Inv X pins Y H {s with heap:=s.heap.push {cls:=.type "range",data:=.fields #[.int lo t,.int hi u,.int 1 v]},toks:=tk}:=I.kept λb o e=>wac _ e
 refine⟨(s.heap.push {cls:=.type "range",data:=.fields #[.int lo t,.int hi u,.int 1 v]}).objs.size,[(s.heap.push {cls:=.type "range",data:=.fields #[.int lo t,.int hi u,.int 1 v]}).objs.size],_,_,H,rfl,
  I1.kept (t':=tk) λb o e=>wac _ e,zgR _ lo (hi - lo).toNat,?_,λb hb=>?_,q⟩
 .have e1:lo+((0:Nat):Int)*1=lo:=by simp
  have e2:(((hi - lo).toNat:Nat):Int) - ((0:Nat):Int)=Builtin.Range.rangeSize lo hi 1:=by rw[rangeSize_one];split <;> omega
  show IsRangeIter _ _ (lo+((0:Nat):Int)*1) ((((hi - lo).toNat:Nat):Int) - ((0:Nat):Int)) 1
  rw[e1,e2];exact wav _ rfl
 .have e:b=(s.heap.push {cls:=.type "range",data:=.fields #[.int lo t,.int hi u,.int 1 v]}).objs.size:=by simpa using hb
  subst e;exact I1.fpOk (wai _) (I1.hok.fresh (wai _))
def zpe (ta:TA):TI:=λY H R=>ta Y H λvs H1=>∃j:Int,vs = [.int j]/\-(2 ^ 62)<=j/\j<2 ^ 62/\R (Itr 0 j.toNat) H1
def zhC {a:Expr}{ta:TA}{p pos:Pos}(hg:Gl X "range")(hm:X.mg "range"=none)(ha:PA X [a] ta)(hs:starEach [a] X.env = [(false,eval a X.env)]:=by rfl):PI X tg (.Call (.Name "range" p) [a] [] pos) (zpe ta):=by
 intro pins s Y H R I h;refine Call_ (zcR I hg hm boot_range (waS (thn (ha pos pins s Y H _ I h) λus s1 ⟨vs,H1,I1,r1,q1⟩ =>?_) hs rfl));obtain⟨j,e,q1,q2,q⟩:=q1;subst e;cases r1 with
|cons r rr=>
   cases rr;obtain⟨t,rfl⟩:=r;exact call_range_1 (zjn I1 (by omega) (by omega) q1 q2 (by simpa using q))
def tFor (wi:TI)(g:TG)(tb:TS):TS:=λD Y H=>wi Y H λJ H1=>∃W:Nat->Nat->St->Hp->Prop,(∃m,W 0 m Y H1)/\∀i m Y H,W i m Y H->
 (J.stop i H/\D.nx Y H)\/(J.go i H/\∃N:St->Hp->Prop,(∀Y' H',N Y' H'->∃m',m'<m/\W (i+1) m' Y' H')/\∀x H',J.yld i H x H'->g x Y H' λY2 H2=>tb {D with nx:=N,ct:=N,bk:=D.nx} Y2 H2)
def zeK (fp:List Addr)(h:Heap):List (Addr×Obj):=fp.filterMap λb=>(h.get? b).map λo=>(b,o)
def zbt {fp:List Addr}{h:Heap}{b:Addr}{o:Obj}(hb:b∈fp)(e:h.get? b=some o):(b,o)∈zeK fp h:=List.mem_filterMap.mpr ⟨b,hb,by rw[e];rfl⟩
def zhD {fp:List Addr}{h:Heap}{p:Addr×Obj}(hp:p∈zeK fp h):p.1∈fp/\h.get? p.1=some p.2:=by
 obtain⟨b,hb,e⟩:=List.mem_filterMap.mp hp;cases q:h.get? b with
|none=>rw[q] at e;cases e
|some o=>
   rw[q] at e;have e':(b,o)=p:=wau e
   subst e';exact⟨hb,q⟩
def Inv.pinned {pins:List (Addr×Obj)}{Y:St}{H:Hp}{s:Shared}{fp:List Addr}(I:Inv X pins Y H s)(hf:∀b∈fp,FpOk X pins H b)(ho:∀b∈fp,∃o,s.heap.get? b=some o/\∀v,o.data≠.cell v):Inv X (pins++zeK fp s.heap) Y H s:=
 I.pins_of λp hp=>(waz.mp hp).elim (λz=>I.pin p (was _ z)) λz=>by
  obtain⟨hb,e⟩:=zhD z;obtain⟨f0,f1,f2,_⟩:=hf p.1 hb;obtain⟨o,e',d⟩:=ho p.1 hb;rw[e] at e';cases e';exact⟨e,f0,f1,f2,d⟩
def Inv.unpinned {pins pl:List (Addr×Obj)}{Y:St}{H:Hp}{s:Shared}(I:Inv X (pins++pl) Y H s):Inv X pins Y H s:=I.pins_of λp hp=>I.pin p (was _ (waV _ hp))
def zni {iter:Expr}{body:List Stmt}{wi:TI}{g:TG}{tb:TS}{pos:Pos}(hp:PassesOwn (model X.prog X.w) X.A X.env X.xe)(hc:X.calm=true)(hi:PI X tg iter wi)(hg:PG X tg g)(hb:PSs X body tb)
 (hs:∀x,foldedSetIterable iter X.env x=pure x:=by intro _;rfl):PS X (.For tg iter body [] pos) (tFor wi g tb):=by
 intro pins s Y H D I h;refine wpAny_For (thn (hi pins s Y H _ I h) λv s1 h1=>thn h1 λitv s2 h2=>?_) hs;obtain⟨it,fp,tn,J,H2,e,I2,T,st2,f2,W,⟨m0,w0⟩,turn⟩:=h2;subst e;have stat:∀{H':Hp},(∀b∈fp,H' b=none)->∀b∈fp,FpOk X pins H' b:=λhn b hb=>⟨hn b hb,(f2 b hb).2⟩
 refine codeAny_forLoop_any (λn s'=>∃i Y' H',Inv X pins Y' H' s'/\tn i s'.heap/\(∀b∈fp,H' b=none)/\W i n Y' H') ?_ m0 ⟨0,Y,H2,I2,st2,λb hb=>(f2 b hb).1,w0⟩;rintro n s3 ⟨i,Y3,H3,I3,st3,fr3,w3⟩;rcases turn i n Y3 H3 w3 with⟨stop,qn⟩|⟨go,N,hN,step⟩
 .refine wbB hp (thn (T.done X rfl rfl rfl hc i pins s3 Y3 H3 X.xe I3 (stat fr3) st3 stop) λr s4 ⟨hr,I4⟩ =>?_);subst hr;exact wbZ ⟨Y3,H3,I4,qn⟩
 .refine wbB hp (thn (T.item X rfl rfl rfl hc i pins s3 Y3 H3 X.xe I3 (stat fr3) st3 go) λr s4 ⟨u,hr,h4⟩ =>?_);subst hr;refine wbB hp (thn h4 λ_ s5 ⟨x,H5,I5,r5,y5,st5,fr5⟩ =>?_);have I5':=I5.pinned (stat fr5) (T.obj _ _ st5)
  refine wbB hp (thn (hg _ s5 Y3 H5 x u _ I5' r5 (step x H5 y5)) λ_ s6 ⟨Y6,H6,I6,q6⟩ =>?_);refine wbB hp (thn (hb _ s6 Y6 H6 _ I6 q6) λf s7 q7=>?_);have again:∀{Y7:St}{H7:Hp},Inv X (pins++zeK fp s5.heap) Y7 H7 s7->N Y7 H7->∃m,m<n/\∃i Y' H',Inv X pins Y' H' s7/\tn i s7.heap/\(∀b∈fp,H' b=none)/\W i m Y' H':=λ{Y7 H7} I7 n7=>by
   obtain⟨m',hm,w7⟩:=hN Y7 H7 n7;refine⟨m',hm,i+1,Y7,H7,I7.unpinned,T.keep _ _ _ st5 λb hb o e=>(I7.pin (b,o) (was _ (was _ (zbt hb e)))).1,λb hb=>?_,w7⟩;obtain⟨o,e,d⟩:=T.obj _ _ st5 b hb;exact(I7.pin (b,o) (was _ (was _ (zbt hb e)))).2.1
  cases f with
 |next=>obtain⟨Y7,H7,I7,n7⟩:=q7;exact again I7 n7
 |cont=>obtain⟨Y7,H7,I7,n7⟩:=q7;exact again I7 n7
 |brk=>obtain⟨Y7,H7,I7,q7⟩:=q7;exact⟨Y7,H7,I7.unpinned,q7⟩
 |ret v=>obtain⟨x7,Y7,H7,I7,r7,q7⟩:=q7;exact⟨x7,Y7,H7,I7.unpinned,r7,q7⟩
end
abbrev R2:=V->V->Hp->VK->Prop
def OpR (X:Cx)(f:Value->Value->Sem Value)(r:R2):Prop:=
 ∀(pins:List (Addr×Obj)) (s:Shared) (Y:St) (H:Hp) (x y:V) (v u:Value) (Q:VK),Inv X pins Y H s->RelV x v->RelV y u->r x y H Q->
  wpAny (model X.prog X.w) X.A (f v u) (EP X pins Y Q) X.xe s
def zcE (X:Cx)(f:Value)(r:List V->Hp->VK->Prop):Prop:=
 ∀(pins:List (Addr×Obj)) (s:Shared) (Y:St) (H:Hp) (xs:List V) (us:List Value) (Q:VK),Inv X pins Y H s->Vals xs us->r xs H Q->
  wpAny (model X.prog X.w) X.A (call f us) (EP X pins Y Q) X.xe s
def TruR (X:Cx)(r:V->Hp->(Bool->Hp->Prop)->Prop):Prop:=
 ∀(pins:List (Addr×Obj)) (s:Shared) (Y:St) (H:Hp) (x:V) (v:Value) (Q:Bool->Hp->Prop),Inv X pins Y H s->RelV x v->r x H Q->
  wpAny (model X.prog X.w) X.A (truthy v) (TP X pins Y Q) X.xe s
def tOp (r:R2)(ta tb:TE):TE:=λY H Q=>ta Y H λx H1=>tb Y H1 λy H2=>r x y H2 Q
def rI (C:Int->Int->Prop)(g:Int->Int->V):R2:=λx y H Q=>∃i j,x=.int i/\y=.int j/\C i j/\Q (g i j) H
def rI0 (g:Int->Int->V):R2:=λx y H Q=>∃i j,x=.int i/\y=.int j/\Q (g i j) H
section
variable {X:Cx}{a b c:Expr}{ta tb tc:TE}{pos:Pos}
def binT (ha:PE X a ta)(hb:PE X b tb){pins:List (Addr×Obj)}{s:Shared}{Y:St}{H:Hp}{R:V->V->Hp->Prop}(I:Inv X pins Y H s)
 (h:ta Y H λx H1=>tb Y H1 λy H2=>R x y H2) {Q:Value->Shared->Prop}{f:Value->Value->Sem Value}
 (hf:∀v u s2 x y H2,Inv X pins Y H2 s2->RelV x v->RelV y u->R x y H2->wpAny (model X.prog X.w) X.A (f v u) Q X.xe s2) :
 wpAny (model X.prog X.w) X.A (eval a X.env) (λv s₁=>wpAny (model X.prog X.w) X.A (eval b X.env) (λu s₂=>wpAny (model X.prog X.w) X.A (f v u) Q X.xe s₂) X.xe s₁) X.xe s:=by
 refine thn (ha pins s Y H _ I h) λv s1 ⟨x,H1,I1,r1,q1⟩ =>?_
 refine thn (hb pins s1 Y H1 _ I1 q1) λu s2 ⟨y,H2,I2,r2,q2⟩ =>?_
 exact hf v u s2 x y H2 I2 r1 r2 q2
def zpf {op:Operator}{r:R2}(ho:OpR X (binaryOp op) r)(ha:PE X a ta)(hb:PE X b tb):PE X (.BinOp a op b pos) (tOp r ta tb):=by
 intro pins s Y H Q I h;exact wpAny_BinOp (binT ha hb I h λv u s2 x y H2 I2 rx ry q=>ho pins s2 Y H2 x y v u Q I2 rx ry q)
def opI {f:Value->Value->Sem Value}{C:Int->Int->Prop}{g:Int->Int->Int}
 (rule:∀(i j:Int) (t u:Tok) (s:Shared) (Q:Value->Shared->Prop) (E:Value->Shared->Prop),C i j->Q (.int (g i j) s.toks) {s with toks:=s.toks+1}->wpAny (model X.prog X.w) X.A (f (.int i t) (.int j u)) Q E s) :
 OpR X f (rI C λi j=>.int (g i j)):=by
 intro pins s Y H x y v u Q I rx ry h;obtain⟨i,j,rfl,rfl,hc,q⟩:=h;obtain⟨t,rfl⟩:=rx;obtain⟨t',rfl⟩:=ry;exact rule i j t t' s _ _ hc ⟨.int (g i j),H,I.tok _,⟨_,rfl⟩,q⟩
def opI0 {f:Value->Value->Sem Value}{g:Int->Int->Int}
 (rule:∀(i j:Int) (t u:Tok) (s:Shared) (Q:Value->Shared->Prop) (E:Value->Shared->Prop),Q (.int (g i j) s.toks) {s with toks:=s.toks+1}->wpAny (model X.prog X.w) X.A (f (.int i t) (.int j u)) Q E s) :
 OpR X f (rI0 λi j=>.int (g i j)):=by
 intro pins s Y H x y v u Q I rx ry h;obtain⟨i,j,rfl,rfl,q⟩:=h;obtain⟨t,rfl⟩:=rx;obtain⟨t',rfl⟩:=ry;exact rule i j t t' s _ _ ⟨.int (g i j),H,I.tok _,⟨_,rfl⟩,q⟩
def opB0 {f:Value->Value->Sem Value}{g:Int->Int->Bool}
 (rule:∀(i j:Int) (t u:Tok) (s:Shared) (Q:Value->Shared->Prop) (E:Value->Shared->Prop),Q (.bool (g i j)) s->wpAny (model X.prog X.w) X.A (f (.int i t) (.int j u)) Q E s) :
 OpR X f (rI0 λi j=>.bl (g i j)):=by
 intro pins s Y H x y v u Q I rx ry h;obtain⟨i,j,rfl,rfl,q⟩:=h;obtain⟨t,rfl⟩:=rx;obtain⟨t',rfl⟩:=ry;exact rule i j t t' s _ _ ⟨.bl (g i j),H,I,rfl,q⟩
def CDiv (i j:Int):Prop:=0<j/\j<1073741824
def CPow (i j:Int):Prop:=0<=j/\j<=1000000/\i.natAbs<2 ^ 64
def CMul (i j:Int):Prop:=(-(2 ^ 64)<i/\i<2 ^ 64)\/(-(2 ^ 64)<j/\j<2 ^ 64)
def CMul.ok {i j:Int}(h:CMul i j):IntMulOk i j:=by
 rcases h with⟨h1,h2⟩|⟨h1,h2⟩
 .exact .of_left (intBits_le_64 h1 h2)
 .exact .of_right (intBits_le_64 h1 h2)
def op_add:OpR X (binaryOp .Add) (rI0 λi j=>.int (i+j)):=opI0 λ_ _ _ _ _ _ _ q=>add_int q
def zd6:OpR X (binaryOp .Sub) (rI0 λi j=>.int (i - j)):=opI0 λ_ _ _ _ _ _ _ q=>sub_int q
def op_mul:OpR X (binaryOp .Mult) (rI CMul λi j=>.int (i*j)):=opI λ_ _ _ _ _ _ _ hc q=>mul_int q hc.ok
def zbw:OpR X (binaryOp .Mod) (rI (λ_ j=>0<j) λi j=>.int (i % j)):=opI λi j _ _ _ _ _ hc q=>by
 have h1:(0:Int)<j:=hc
 exact mod_int' (by omega) (by rw[Int.fmod_eq_emod_of_nonneg i (by omega)];exact q)
def zgg:OpR X (binaryOp .Pow) (rI CPow λi j=>.int (i ^ j.toNat)):=opI λ_ _ _ _ _ _ _ hc q=>pow_int_small hc.1 hc.2.1 hc.2.2 q
end
def zem {i j:Int}:decide (V.int i=V.int j)=(i == j):=by
 rw[wbC];simp
def zgh {i j:Bool}:decide (V.bl i=V.bl j)=(i == j):=by
 rw[wbC];simp
def zen {i j:Str}:decide (V.str i=V.str j)=(i == j):=by
 rw[wbC];simp
section
variable {X:Cx}{a b c:Expr}{ta tb tc:TE}{pos:Pos}
def zkB {pins:List (Addr×Obj)}{Y:St}{H:Hp}{s:Shared}{Q:VK}{k k':Bool}(I:Inv X pins Y H s)(q:Q (.bl k) H)(e:k=k'):EP X pins Y Q (.bool k') s:=by
 subst e;exact⟨.bl k,H,I,rfl,q⟩
def zpg:OpR X (compareOp .Lt) (rI0 λi j=>.bl (decide (i<j))):=opB0 λ_ _ _ _ _ _ _ q=>lt_int q
def znj:OpR X (compareOp .LtE) (rI0 λi j=>.bl (decide (i<=j))):=opB0 λ_ _ _ _ _ _ _ q=>le_int q
def zll:OpR X (compareOp .Gt) (rI0 λi j=>.bl (decide (j<i))):=opB0 λ_ _ _ _ _ _ _ q=>gt_int q
def zlm:OpR X (compareOp .GtE) (rI0 λi j=>.bl (decide (j<=i))):=opB0 λ_ _ _ _ _ _ _ q=>ge_int q
def zkC:OpR X (compareOp .Is) (λx y H Q=>y=.non/\Q (.bl (decide (x=.non))) H):=by
 intro pins s Y H x y v u Q I rx ry h;obtain⟨rfl,q⟩:=h;cases ry;refine is_none_gen (zkB I q ?_);cases x <;> first
 |(cases rx;rfl)
 |(obtain⟨t,rfl⟩:=rx;rfl)
def zln:OpR X (compareOp .IsNot) (λx y H Q=>y=.non/\Q (.bl (!decide (x=.non))) H):=by
 intro pins s Y H x y v u Q I rx ry h;obtain⟨rfl,q⟩:=h;cases ry;refine isnot_none_gen (zkB I q ?_);cases x <;> first
 |(cases rx;rfl)
 |(obtain⟨t,rfl⟩:=rx;rfl)
def OpR.or {f:Value->Value->Sem Value}{r r':R2}(h:OpR X f r)(h':OpR X f r'):OpR X f (λx y H Q=>r x y H Q\/r' x y H Q):=by
 intro pins s Y H x y v u Q I rx ry q;rcases q with q|q
 .exact h pins s Y H x y v u Q I rx ry q
 .exact h' pins s Y H x y v u Q I rx ry q
def zaG (b:Expr){op:CmpOp}(h:op≠.In:=by decide)(h2:op≠.NotIn:=by decide):behindInMarks op b=false:=by
 have e1:(op == CmpOp.In)=false:=by cases op <;> first|rfl|exact absurd rfl h
 have e2:(op == CmpOp.NotIn)=false:=by cases op <;> first|rfl|exact absurd rfl h2
 cases b <;> simp[behindInMarks,e1,e2]
def zlo {op:CmpOp}{r:R2}(ho:OpR X (compareOp op) r)(ha:PE X a ta)(hb:PE X b tb)(hm:behindInMarks op b=false):PE X (.Compare a [op] [b] pos) (tOp r ta tb):=by
 intro pins s Y H Q I h;exact wpAny_Compare1 (binT ha hb I h λv u s2 x y H2 I2 rx ry q=>ho pins s2 Y H2 x y v u Q I2 rx ry q) hm
def zlp (t:TE):TT:=λY H Q=>t Y H λx H'=>∃k,x=.bl k/\Q k H'
def zlq {op:CmpOp}{r:R2}(ho:OpR X (compareOp op) r)(ha:PE X a ta)(hb:PE X b tb)(hm:behindInMarks op b=false):PT X (.Compare a [op] [b] pos) (zlp (tOp r ta tb)):=by
 intro pins s Y H Q I h;refine wpAny_isTrue_Compare1 (thn (ha pins s Y H _ I h) λv s1 ⟨x,H1,I1,r1,q1⟩ =>thn (hb pins s1 Y H1 _ I1 q1) λu s2 ⟨y,H2,I2,r2,q2⟩ =>
  thn (ho pins s2 Y H2 x y v u _ I2 r1 r2 q2) λc s3 ⟨z,H3,I3,r3,k,e,q3⟩ =>?_) hm
 subst e;cases r3;exact wbq ⟨H3,I3,q3⟩
def zkD (r r':R2)(ta tb tc:TE):TE:=λY H Q=>ta Y H λx H1=>tb Y H1 λy H2=>r x y H2 λz H3=>∃k,z=.bl k/\
 (if k=true then tc Y H3 λw' H4=>r' y w' H4 Q else Q (.bl false) H3)
def zjo {op op':CmpOp}{r r':R2}(ho:OpR X (compareOp op) r)(ho':OpR X (compareOp op') r')(ha:PE X a ta)(hb:PE X b tb)(hc:PE X c tc)
 (hm:lastMarks [op,op'] [b,c]=false:=by with_unfolding_all rfl):PT X (.Compare a [op,op'] [b,c] pos) (zlp (zkD r r' ta tb tc)):=by
 intro pins s Y H Q I h;refine isTrue_chain (thn (ha pins s Y H _ I h) λv s1 ⟨x,H1,I1,r1,q1⟩ =>test_link (thn (hb pins s1 Y H1 _ I1 q1) λu s2 ⟨y,H2,I2,r2,q2⟩ =>
  thn (ho pins s2 Y H2 x y v u _ I2 r1 r2 q2) λd s3 ⟨z,H3,I3,r3,k,e,q3⟩ =>?_)) hm
 subst e;cases r3;refine wbq ?_;cases k with
|false=>
   obtain⟨k',e',q'⟩:=q3;cases e';exact ite_ff ⟨H3,I3,q'⟩
|true=>
   refine ite_tt (test_last (thn (hc pins s3 Y H3 _ I3 q3) λw' s4 ⟨z',H4,I4,r4,q4⟩ =>thn (ho' pins s4 Y H4 y z' u w' _ I4 r2 r4 q4) λd' s5 ⟨z2,H5,I5,r5,k2,e2,q5⟩ =>?_));subst e2;cases r5;exact wbq ⟨H5,I5,q5⟩
def TruV (K:W.Frag)(x:V)(H:Hp)(k:Bool):Prop:=
 match x with
|.non=>k=false
|.bl b=>k=b
|.int i=>k=(i != 0)
|.str y=>y.length<=sizeLine/\k=((y.length:Int) != 0)
|.byt y=>y.size<=sizeLine/\k=((y.size:Int) != 0)
|.ref p=>(∃xs,SqL K H p xs/\k = !xs.isEmpty)\/(∃xs,SqT K H p xs/\k = !xs.isEmpty)\/∃kvs,H p=some (.dK kvs)/\k = !kvs.isEmpty
|_=>False
def zgS {κ:Type}{kvs:List (κ×V)}{vs:List (κ×Value)}(r:KV kvs vs):(!vs.isEmpty) = !kvs.isEmpty:=by
 cases r <;> rfl
def zd7 {xs:List V}{its:List Value}(r:Vals xs its):(!its.toArray.isEmpty) = !xs.isEmpty:=by
 cases r <;> simp
def zdu:(sizeLine:Nat)<2 ^ 63:=by rw[sizeLine_eq];decide
def znk:TruR X (λx H Q=>∃k,TruV X.K x H k/\Q k H):=by
 intro pins s Y H x v Q I rx h;obtain⟨k,e,q⟩:=h;have hl:=zdu
 have hs:sizeLine=16777216:=sizeLine_eq
 cases x with
|non=>
   cases rx;have e':k=false:=e
   subst e';exact truthy_none ⟨H,I,q⟩
|bl b=>
   cases rx;have e':k=b:=e
   subst e';exact wbq ⟨H,I,q⟩
|int i=>
   obtain⟨t,rfl⟩:=rx;have e':k=(i != 0):=e
   subst e';exact PySem.P.truthy_int ⟨H,I,q⟩
|str y=>
   obtain⟨t,rfl⟩:=rx;obtain⟨hy,e'⟩:y.length<=sizeLine/\k=((y.length:Int) != 0):=e;subst e';exact PySem.P.truthy_str (by omega) ⟨H,I.tok _,q⟩
|byt y=>
   obtain⟨t,rfl⟩:=rx;obtain⟨hy,e'⟩:y.size<=sizeLine/\k=((y.size:Int) != 0):=e;subst e';exact PySem.W.truthy_bytes (by omega) ⟨H,I.tok _,q⟩
|ref p=>
   cases rx;have e':(∃xs,SqL X.K H p xs/\k = !xs.isEmpty)\/(∃xs,SqT X.K H p xs/\k = !xs.isEmpty)\/∃kvs,H p=some (.dK kvs)/\k = !kvs.isEmpty:=e
   rcases e' with⟨xs,hx,e'⟩|⟨xs,hx,e'⟩|⟨kvs,hx,e'⟩
   .subst e';obtain⟨its,r,pl,hz⟩:=I.list hx;have hlen:=r.length
    exact wpAny_truthy_list pl.isList (by simp only[wab];omega) ⟨H,I.tok _,by rw[zd7 r];exact q⟩
   .subst e';obtain⟨its,r,pl,hz⟩:=I.tuple hx;have hlen:=r.length
    exact truthy_tuple pl (by simp only[wab];omega) ⟨H,I.tok _,by rw[zd7 r];exact q⟩
   .subst e';obtain⟨hz,hS,vs,r,m⟩:kvs.length<=sizeLine/\(p == sysModules)=false/\∃vs,KV kvs vs/\s.heap.DictOf (zbc X.prog X.w) p vs:=I.hok p _ hx;have hlen:kvs.length=vs.length:=Paired.length r
    exact wpAny_truthy_dict hS m (by omega) ⟨H,I.tok _,by rw[zgS r];exact q⟩
|_=>exact(show False from e).elim
def zjp (ha:PE X a ta)(he:∀whole,isTrue a X.env whole=(do let v <-whole;standAt a.pos;holding [v] (truthy v))) :
 PT X a (λY H Q=>ta Y H λx H'=>∃k,TruV X.K x H' k/\Q k H'):=by
 intro pins s Y H Q I h;exact isTrue_plain (thn (ha pins s Y H _ I h) λv s1 ⟨x,H1,I1,r1,q1⟩ =>znk pins s1 Y H1 x v Q I1 r1 q1) (he _)
def op_add_str:OpR X (binaryOp .Add) (λx y H Q=>∃i j,x=.str i/\y=.str j/\i.length+j.length<=sizeLine/\Q (.str (i++j)) H):=by
 intro pins s Y H x y v u Q I rx ry h;obtain⟨i,j,rfl,rfl,hz,q⟩:=h;obtain⟨t,rfl⟩:=rx;obtain⟨t',rfl⟩:=ry;exact add_str (λt' tk=>⟨.str (i++j),H,I.tok _,⟨_,rfl⟩,q⟩) hz
def zgT {x:V}{us:List Value}(r:Vals [x] us):∃u,us = [u]/\RelV x u:=by
 cases r with
|cons r1 r2=>cases r2;exact⟨_,rfl,r1⟩
def zhE {x y:V}{us:List Value}(r:Vals [x,y] us):∃u w',us = [u,w']/\RelV x u/\RelV y w':=by
 cases r with
|cons r1 r2=>
   cases r2 with
  |cons r3 r4=>cases r4;exact⟨_,_,rfl,r1,r3⟩
def zdv (hc:X.calm=true):zcE X (.builtin "min") (λxs H Q=>∃i j,xs = [.int i,.int j]/\Q (.int (if j<i then j else i)) H):=by
 intro pins s Y H xs us Q I r h;obtain⟨i,j,rfl,q⟩:=h;obtain⟨u,w',rfl,⟨t,rfl⟩,⟨t',rfl⟩⟩:=zhE r;refine min_two_ints (I.ok.hd hc) λh' tk k=>⟨_,H,I.kept k,?_,q⟩
 by_cases hj:j<i
 .rw[if_pos hj,if_pos hj];exact⟨_,rfl⟩
 .rw[if_neg hj,if_neg hj];exact⟨_,rfl⟩
def LenV (K:W.Frag)(x:V)(H:Hp)(n:Nat):Prop:=
 match x with
|.str y=>y.length<=sizeLine/\n=y.length
|.byt y=>y.size<=sizeLine/\n=y.size
|.ref p=>(∃xs,SqL K H p xs/\n=xs.length)\/∃xs,SqT K H p xs/\n=xs.length
|_=>False
def zbg:zcE X (.builtin "len") (λxs H Q=>∃x n,xs = [x]/\LenV X.K x H n/\Q (.int n) H):=by
 intro pins s Y H xs us Q I r h;obtain⟨x,n,rfl,e,q⟩:=h;obtain⟨u,rfl,rx⟩:=zgT r;have hl:=zdu
 have hs:sizeLine=16777216:=sizeLine_eq
 cases x with
|str y=>
   obtain⟨t,rfl⟩:=rx;obtain⟨hy,e'⟩:y.length<=sizeLine/\n=y.length:=e;subst e';exact len_str (by omega) ⟨.int _,H,I.tok _,⟨_,rfl⟩,q⟩
|byt y=>
   obtain⟨t,rfl⟩:=rx;obtain⟨hy,e'⟩:y.size<=sizeLine/\n=y.size:=e;subst e';exact PySem.W.len_bytes (by omega) ⟨.int _,H,I.tok _,⟨_,rfl⟩,q⟩
|ref p=>
   cases rx;have e':(∃xs,SqL X.K H p xs/\n=xs.length)\/∃xs,SqT X.K H p xs/\n=xs.length:=e
   rcases e' with⟨xs,hx,e'⟩|⟨xs,hx,e'⟩
   .subst e';obtain⟨its,r',pl,hz⟩:=I.list hx;have hlen:=r'.length
    exact Calls.call_len_list pl.isList (by simp only[wab];omega) ⟨.int xs.length,H,I.tok _,⟨_,by simp only[wab];rw[hlen]⟩,q⟩
   .subst e';obtain⟨its,r',pl,hz⟩:=I.tuple hx;have hlen:=r'.length
    exact len_tuple pl (by simp only[wab];omega) ⟨.int xs.length,H,I.tok _,⟨_,by simp only[wab];rw[hlen]⟩,q⟩
|_=>exact(show False from e).elim
end
structure ObjM (h:Heap)(x dx C:Addr)(mA:Str->Option Value):Prop where
 obj:h.get? x=some (PySem.W.instObj C dx)
 ns:h.Ns1 dx mA
 ne:dx≠x
def zhF {h:Heap}{dx:Addr}{mA:Str->Option Value}(n:h.Ns1 dx mA):∃od,h.get? dx=some od/\∀name,PySem.W.lookIn name od=some (mA name):=by
 obtain⟨o,es,ep,ho,hd,hk,_,hm⟩:=n;refine⟨o,ho,λname=>?_⟩;have e:=hm name
 unfold nsFind findBy at e;rw[<-Array.find?_toList] at e;unfold PySem.W.lookIn;rw[hd];dsimp only;split
 .rename_i y q
  rw[q] at e;exact wbb some e
 .rename_i q
  rw[q] at e;have a:es.toList.any (·.refKey)=false:=by
   rw[List.any_eq_false];intro y hy;obtain⟨z,t,hkey⟩:=hk y (Array.mem_toList_iff.mp hy);simp[DictEntry.refKey,hkey]
  have a':¬es.toList.any (·.refKey)=true:=by rw[a];exact wbw
  rw[if_neg a'];exact wbb some e
def ObjM.look {h:Heap}{x dx C:Addr}{mA:Str->Option Value}(I:ObjM h x dx C mA):∃od,PySem.W.InstAt h x (PySem.W.instObj C dx) C (some od)/\∀name,PySem.W.lookIn name od=some (mA name):=
 let ⟨od,ho,hl⟩:=zhF I.ns
 ⟨od,⟨I.obj,rfl,rfl,ho⟩,hl⟩
section
variable {prog:Program}{w:World}{A:Around}{E:Value->Shared->Prop}{s:Shared}{K:W.Frag}{x dx C f:Addr}{mA:Str->Option Value}{name:Str}{v:Value}
end
def RelO.some_of {v:V}{o:Option Value}(r:RelO (some v) o):∃u,o=some u/\RelV v u:=by
 cases o with
|none=>exact(show False from r).elim
|some u=>exact⟨u,rfl,r⟩
section
variable {P:Program}{w:World}{H H':Hp}{h h':Heap}{a C dx:Addr}{fs fs':List (Str×V)}
def zlr (hok:HOk P w H h)(e:H a=some (.ins C dx fs)):∃mA,ObjM h a dx C mA/\(∀f,RelO (fs.lookup f) (mA f))/\PySem.Within mA (fs.map (·.1))/\fs.length<=1000/\H dx=some (.own a):=by
 obtain⟨d,z,ne,ob,mA,n,r,q⟩:=(show ObjOk P w H h a (.ins C dx fs) from hok a _ e)
 exact⟨mA,⟨ob,n,ne⟩,r,q,z,d⟩
end
structure Cls (K:W.Frag)(C:Addr):Prop where
 pg:PySem.W.plainGet K C Str.empty=true
 hd:PySem.W.hasDictIn K C=true
 po:PySem.W.plainOver K C=true
 sa:PySem.W.findIn K (.ref C) "__setattr__"=some (some (.builtin "object.__setattr__"))
def Cls.get {K:W.Frag}{C:Addr}(c:Cls K C)(f:Str):PySem.W.plainGet K C f=true:=c.pg
section
variable {X:Cx}{pins:List (Addr×Obj)}{Y:St}{H:Hp}{s:Shared}{a C dx:Addr}{fs:List (Str×V)}{f:Str}{v:V}{A:Around}{E:Value->Shared->Prop}
end
section
variable {X:Cx}{o e value:Expr}{f:Str}{pos pos' tpos:Pos}{ta tv:TE}
end
section
variable {X:Cx}{pins:List (Addr×Obj)}{Y:St}{H:Hp}{s:Shared}{A:Around}{E:Value->Shared->Prop}{Q:Value->Shared->Prop}{c:Value}{b:Bool}
inductive TyOf (K:W.Frag)(H:Hp):V->Value->Prop where
|non:TyOf K H .non (.type "NoneType")
|bl (x:Bool):TyOf K H (.bl x) (.type "bool")
|int (i:Int):TyOf K H (.int i) (.type "int")
|str (x:Str):TyOf K H (.str x) (.type "str")
|flt (x:UInt64):TyOf K H (.flt x) (.type "float")
|lst {a:Addr}{xs:List V}(e:H a=some (.lst xs)):TyOf K H (.ref a) (.type "list")
|frz {a:Addr}{o:Obj}{xs:List V}(e:H a=some (.frz o (.lst xs))):TyOf K H (.ref a) (.type "list")
|tup {a:Addr}{xs:List V}(e:H a=some (.tup xs)):TyOf K H (.ref a) (.type "tuple")
|dK {a:Addr}{kvs:List (Key×V)}(e:H a=some (.dK kvs)):TyOf K H (.ref a) (.type "dict")
|dT {a:Addr}{kvs:List (List Key×V)}(e:H a=some (.dT kvs)):TyOf K H (.ref a) (.type "dict")
|ins {a C dx:Addr}{fs:List (Str×V)}(e:H a=some (.ins C dx fs)) (cl:Cls K C) (ha:PySem.W.findIn K (.ref C) "__class__"=some (some (.builtin "object.__class__")))
  (hn:PySem.W.specialIn K (.builtin "object.__class__") "__get__"=some (some (.builtin "getset_descriptor.__get__"))) (htk:PySem.W.takesIn K (.builtin "object.__class__")=some true)
  (hm:PySem.W.mroIn K C (.type "object")=some true):TyOf K H (.ref a) (.ref C)
def zhG {x:V}{u t:Value}(I:Inv X pins Y H s)(rx:RelV x u)(ty:TyOf X.K H x t)(e:PySem.W.kitOne X.K t c=some b)(h:∀tk,Q (.bool b) {s with toks:=tk}) :
 wpAny (model X.prog X.w) A (call (.builtin "isinstance") [u,c]) Q E s:=by
 cases ty with
|non=>cases(show u=Value.none from rx);exact waM PySem.W.kitx_none I.kIn True.intro e (λz=>nomatch z) h
|bl y=>cases(show u=Value.bool y from rx);exact waM PySem.W.kitx_bool I.kIn True.intro e (λz=>nomatch z) h
|int i=>obtain⟨t,q⟩:=(show ∃t,u=Value.int i t from rx);cases q;exact waM PySem.W.kitx_int I.kIn True.intro e (λz=>nomatch z) h
|str y=>obtain⟨t,q⟩:=(show ∃t,u=Value.str y t from rx);cases q;exact waM PySem.W.kitx_str I.kIn True.intro e (λz=>nomatch z) h
|flt y=>obtain⟨t,q⟩:=(show ∃t,u=Value.float y t from rx);cases q;exact waM PySem.W.kitx_float I.kIn True.intro e (λz=>nomatch z) h
|@lst a xs ea=>
   cases(show u=Value.ref a from rx);obtain⟨_,_,n,_,h1⟩:=(show ObjOk X.prog X.w H s.heap a (.lst xs) from I.hok a _ ea)
   exact waM PySem.W.kitx_list I.kIn ⟨_,h1,rfl⟩ e (λz=>nomatch z) h
|@frz a ob xs ea=>
   cases(show u=Value.ref a from rx);obtain⟨_,_,_,n,_,h1⟩:=(show ObjOk X.prog X.w H s.heap a (.frz ob (.lst xs)) from I.hok a _ ea)
   exact waM PySem.W.kitx_list I.kIn ⟨_,h1,rfl⟩ e (λz=>nomatch z) h
|@tup a xs ea=>
   cases(show u=Value.ref a from rx);obtain⟨_,_,_,p⟩:=(show ObjOk X.prog X.w H s.heap a (.tup xs) from I.hok a _ ea)
   obtain⟨o,h1,h2,_⟩:=p;exact waM PySem.W.kitx_tuple I.kIn ⟨o,h1,h2⟩ e (λz=>nomatch z) h
|@dK a kvs ea=>
   cases(show u=Value.ref a from rx);obtain⟨_,_,vs,_,p⟩:=(show ObjOk X.prog X.w H s.heap a (.dK kvs) from I.hok a _ ea)
   obtain⟨o,es,ep,h1,h2,_⟩:=p;exact waM PySem.W.kitx_dict I.kIn ⟨o,h1,h2.1⟩ e (λz=>nomatch z) h
|@dT a kvs ea=>
   cases(show u=Value.ref a from rx);obtain⟨_,_,xs,_,o,es,ep,h1,h2,_⟩:=(show ObjOk X.prog X.w H s.heap a (.dT kvs) from I.hok a _ ea)
   exact waM PySem.W.kitx_dict I.kIn ⟨o,h1,h2.1⟩ e (λz=>nomatch z) h
|@ins a C dx fs ea cl ha hn htk hm=>
   cases(show u=Value.ref a from rx);obtain⟨mA,O,_⟩:=zlr I.hok ea;obtain⟨od,J,_⟩:=O.look;exact waM (PySem.W.kitx_own (cl.get _) cl.hd ha hn htk hm) I.kIn J e (λz=>nomatch z) h
end
structure Room (k:Nat)(A:Around):Prop where
 hd:A.handled=none
 dp:A.depth+3*k+5<recursionLimit
 un:A.units+16*k+200<cLine
 gd:A.guards=some []
def Room.mono {j k:Nat}{A:Around}(r:Room k A)(h:j<=k):Room j A:=⟨r.hd,by have:=r.dp;omega,by have:=r.un;omega,r.gd⟩
theorem Room.deeper {k:Nat}{A:Around}(r:Room (k+1) A)(env:Env):Room k (A.deeper env):=
 ⟨r.hd,by have:=r.dp;show A.depth+1+3*k+5<_;omega,by have:=r.un;show A.units+3+16*k+200<_;omega,r.gd⟩
theorem Room.depth {k:Nat}{A:Around}(r:Room k A):A.depth<recursionLimit:=by have:=r.dp;omega
theorem Room.units {k:Nat}{A:Around}(r:Room k A):A.units+64<cLine:=by have:=r.un;omega
def tNil:TA:=λ_ H Q=>Q [] H
def zls (ta:TE)(tr:TA):TA:=λY H Q=>ta Y H λx H1=>tr Y H1 λxs H2=>Q (x::xs) H2
section
variable {X:Cx}{e:Expr}{es:List Expr}{te:TE}{t:TA}{pos:Pos}
def zcS:PA X [] tNil:=λ_ _ _ _ H Q I h=>Calls.spliced_nil ⟨[],H,I,.nil,h⟩
def zbd (ha:PE X e te)(hr:PA X es t)(hs:starEach (e::es) X.env=(false,eval e X.env)::starEach es X.env:=by rfl):PA X (e::es) (zls te t):=by
 intro pos pins s Y H Q I h;rw[hs];show wpAny _ _ (spliced ((false,eval e X.env)::backTo pos (starEach es X.env))) _ _ s
 refine Calls.spliced_cons (thn (ha pins s Y H _ I h) λu s1 ⟨x,H1,I1,r1,q1⟩ =>?_);exact thn (hr pos pins s1 Y H1 _ I1 q1) λus s2 ⟨xs,H2,I2,r2,q2⟩ =>⟨x::xs,H2,I2,.cons r1 r2,q2⟩
def tTup (t:TA):TE:=λY H Q=>t Y H λxs H1=>xs.length<=sizeLine/\∀p,H1 p=none->Q (.ref p) (upd H1 p (.tup xs))
def tLst (t:TA):TE:=λY H Q=>t Y H λxs H1=>xs.length<=sizeLine/\∀p,H1 p=none->Q (.ref p) (upd H1 p (.lst xs))
def zkE {x1}(h:PA X es t):PE X (.Tuple es x1 pos) (tTup t):=by
 intro pins s Y H Q I hq;refine wpAny_Tuple_spliced (thn (h pos pins s Y H _ I hq) λus s1 ⟨xs,H1,I1,r,z,q⟩ =>⟨by rw[<-r.length];exact z,?_⟩);have hf:H1 s1.heap.objs.size=none:=I1.hok.fresh (wai _)
 refine⟨.ref s1.heap.objs.size,upd H1 s1.heap.objs.size (.tup xs),I1.laid (t':=s1.toks) (λb u e=>wac _ e) (wai _) ?_,rfl,q _ hf⟩;exact⟨z,us,r,⟨_,wav _ rfl,rfl,_,rfl⟩⟩
def znl (h:PA X es t):PE X (.List es pos) (tLst t):=by
 intro pins s Y H Q I hq;refine wpAny_List_spliced (thn (h pos pins s Y H _ I hq) λus s1 ⟨xs,H1,I1,r,z,q⟩ =>⟨by rw[<-r.length];exact z,?_⟩);have hf:H1 s1.heap.objs.size=none:=I1.hok.fresh (wai _)
 refine⟨.ref s1.heap.objs.size,upd H1 s1.heap.objs.size (.lst xs),I1.laid (t':=s1.toks) (λb u e=>wac _ e) (wai _) ?_,rfl,q _ hf⟩;exact⟨z,us,0,r,wav _ rfl⟩
end
abbrev Sp:=List V->Hp->VK->XK->Prop
abbrev CXT:=List Env->Hp->Shared->XK->Value->Shared->Prop
structure Env0 (P:Program)(w:World)(K:W.Frag)(mg:Str->Option Value)(base:Heap)(A:Around)(outer:List Env)(s:Shared)(H:Hp):Prop where
 frames:A.frames=some outer
 mod:Mod K mg base
 bs:∀b o,base.get? b=some o->s.heap.get? b=some o/\H b=none
 bsz:base.objs.size<=s.heap.objs.size
 funs:s.heap.FunFrames base outer
 frf:∀b∈frs outer,H b=none
 hok:HOk P w H s.heap
 bare:AllBare s.gens
def CE (outer:List Env)(P:Program)(w:World)(H:Hp)(s:Shared)(Q:VK)(u:Value)(s':Shared):Prop:=
 ∃v H',s'.os=s.os/\AllBare s'.gens/\Un (frs outer) [] H H' s.heap s'.heap/\HOk P w H' s'.heap/\RelV v u/\Q v H'
def CR (CX:CXT)(outer:List Env)(P:Program)(w:World)(H:Hp)(s:Shared)(Q:VK)(E:XK)(r:Result)(s':Shared):Prop:=
 match r with
|.ok (.ret u)=>CE outer P w H s Q u s'
|.ok _=>False
|.error e=>CX outer H s E e s'
structure FnOk (P:Program)(w:World)(K:W.Frag)(mg:Str->Option Value)(base:Heap)(CX:CXT)(k:Nat)(f:Addr)(fd:FuncData)(ps:List Str)(sp:Sp):Prop where
 len:∀vs H Q E,sp vs H Q E->vs.length=ps.length
 run:∀(A:Around) (outer:List Env) (s:Shared) (H:Hp) (args:Args) (us:List Value) (vs:List V) (Q:VK) (E:XK),Room k A->Env0 P w K mg base A outer s H->BindsTo s fd args (ps.zip us)->Vals vs us->sp vs H Q E->
  codeAny (model P w) A (.call (.ref f) args) (CR CX outer P w H s Q E) s
theorem FnOk.mono {P:Program}{w:World}{K:W.Frag}{mg:Str->Option Value}{base:Heap}{CX:CXT}{j k:Nat}{f:Addr}{fd:FuncData}{ps:List Str}{sp:Sp}(F:FnOk P w K mg base CX j f fd ps sp)(h:j<=k) :
 FnOk P w K mg base CX k f fd ps sp:=⟨F.len,λA outer s H args us vs Q E hr=>F.run A outer s H args us vs Q E (hr.mono h)⟩
section
variable {X:Cx}{pins:List (Addr×Obj)}{Y:St}{H:Hp}{s s':Shared}
def Inv.env0 (I:Inv X pins Y H s):Env0 X.prog X.w X.K X.mg X.base X.A X.stack s H:=
 ⟨I.ok.frames,I.ok.mod,I.bs,waq I.ok.bsz I.sz,I.stack,I.stkFree,I.hok,I.bare⟩
def Inv.after {Q:VK}{u:Value}(I:Inv X pins Y H s)(h:CE X.stack X.prog X.w H s Q u s'):EP X pins Y Q u s':=by
 obtain⟨v,H',os,bare,un,hok,r,q⟩:=h;obtain⟨hh,g,d,t,os'⟩:=s';obtain rfl:os'=s.os:=os;exact⟨v,H',I.call (h':=hh) (g':=g) (d':=d) (t':=t) (ch:=[]) un hok bare (λb z=>absurd z (by simp)),r,q⟩
end
def zlt (sp:Sp)(dvs:List V)(E:XK)(t:TA):TE:=λY H Q=>t Y H λvs H1=>sp (vs++dvs) H1 Q E
def Binds (K:W.Frag)(fd:FuncData)(ps:List Str)(ds:List Value):Prop:=
 ∀(s:Shared) (us:List Value),K.In s.heap->(us++ds).length=ps.length->BindsTo s fd ⟨us,[]⟩ (ps.zip (us++ds))
def Binds.all {K:W.Frag}{fd:FuncData}{ps:List Str}(h:∀us:List Value,us.length=ps.length->bindArgs fd ⟨us,[]⟩=pure (ps.zip us)):Binds K fd ps []:=λs us _ hl=>by
 rw[waY] at hl⊢;exact .of_eq (h us hl)
def zhH (CX:CXT)(X:Cx)(E:XK):Prop:=∀(pins:List (Addr×Obj)) (Y:St) (H:Hp) (s:Shared) (e:Value) (s':Shared),Inv X pins Y H s->CX X.stack H s E e s'->X.xe e s'
section
variable {X:Cx}{CX:CXT}{k:Nat}{f C:Addr}{fd:FuncData}{ps:List Str}{sp:Sp}{dvs:List V}{ds:List Value}{E:XK}{x m:Str}{p pos apos:Pos}{e o:Expr}{es:List Expr}{ta:TE}{t:TA}
def zkF {pins:List (Addr×Obj)}{Y:St}{H:Hp}{s:Shared}{Q:VK}{us:List Value}{vs:List V}(F:FnOk X.prog X.w X.K X.mg X.base CX k f fd ps sp)(hr:Room k X.A)(hb:Binds X.K fd ps ds)(hd:Vals dvs ds)(hx:zhH CX X E)
 (I:Inv X pins Y H s) (r:Vals vs us) (h:sp (vs++dvs) H Q E):wpAny (model X.prog X.w) X.A (call (.ref f) us) (EP X pins Y Q) X.xe s:=by
 have r2:Vals (vs++dvs) (us++ds):=r.append hd
 have hl:(us++ds).length=ps.length:=by rw[<-r2.length];exact F.len _ _ _ _ h
 refine wpAny_call (wcy (F.run X.A X.stack s H ⟨us,[]⟩ (us++ds) (vs++dvs) Q E hr I.env0 (hb s us I.kIn hl) r2 h) λr s' hq=>?_);cases r with
|error e=>exact hx pins Y H s e s' I hq
|ok fl=>
   cases fl with
  |ret u=>exact I.after hq
  |next=>exact False.elim hq
  |brk=>exact False.elim hq
  |cont=>exact False.elim hq
def zlu (F:FnOk X.prog X.w X.K X.mg X.base CX k f fd ps sp)(hr:Room k X.A)(hg:Gl X x)(hm:X.mg x=some (.ref f))(hk:W.keepIn X.K (.ref f)=true)(hb:Binds X.K fd ps ds)(hd:Vals dvs ds)(hx:zhH CX X E)
 (ha:PA X (e::es) t) (hdb:(x == ("__debug__" : Str))=false:=by decide) (he:starEach (e::es) X.env=(false,eval e X.env)::starEach es X.env:=by rfl) (hpl:(backTo pos (starEach es X.env)).any (·.1)=false:=by rfl) :
 PE X (.Call (.Name x p) (e::es) [] pos) (zlt sp dvs E t):=by
 intro pins s Y H Q I h;refine waQ (zc6 I hg hm ?_ hdb);refine PySem.W.callWith_K (h₀:=X.base) I.ok.mod.kin hk (thn (ha pos pins s Y H _ I h) λus s1 ⟨vs,H1,I1,r,q⟩ =>⟨I1.kIn,?_⟩) he hpl;exact zkF F hr hb hd hx I1 r q
end
section
variable {X:Cx}{CX:CXT}{k:Nat}{f C:Addr}{fd:FuncData}{ps ks:List Str}{sp:Sp}{E:XK}{x m:Str}{p pos apos kpos:Pos}{e o:Expr}{es:List Expr}{kws:List Keyword}{te ta:TE}{t tk:TA}{nm:Option Str}
variable {g:List Value->List Value->List Value}{gV:List V->List V->List V}
end
structure FnScope (N P:List Str)(sc:Scope):Prop where
 kind:sc.kind=.function
 co:sc.isCoroutine=false
 gen:sc.isGenerator=false
 nd:N.Nodup
 pre:N.take P.length=P
 par:∀x∈P,sc.names.lookup x=some .local\/sc.names.lookup x=some .cell
 nofree:∀y∈sc.names,y.2≠.free
theorem zeL {kindOf:Str->Option NameKind}{x:Str}:∀{binds:List (Str×Value)}{m:Str->Option Value},(∀v,(x,v)∉binds)->bindL kindOf binds m x=m x
|[],_,_=>rfl
|(n,v)::r,m,h=>by
   unfold bindL;rw[zeL λw hw=>h w (wad _ hw)];split
   .have:x≠n:=by rintro rfl;exact h v wah
    simp[this]
   .rfl
theorem zeM {kindOf:Str->Option NameKind}{x:Str}:∀{binds:List (Str×Value)}{m:Str->Option Value},(∀v,(x,v)∉binds)->bindC kindOf binds m x=m x
|[],_,_=>rfl
|(n,v)::r,m,h=>by
   unfold bindC;rw[zeM λw hw=>h w (wad _ hw)];split
   .rfl
   .have:x≠n:=by rintro rfl;exact h v wah
    simp[this]
theorem zeN {kindOf:Str->Option NameKind}{x:Str}{v:Value}:∀{P:List Str}{vs:List Value}{i:Nat}{m:Str->Option Value},P.Nodup->P[i]?=some x->vs[i]?=some v->kindOf x=some .local->
 bindL kindOf (P.zip vs) m x=some v
|[],_,_,_,_,h,_,_=>by simp at h
|_::_,[],_,_,_,_,h,_=>by simp at h
|p::P,w::vs,0,m,nd,h1,h2,hk=>by
   simp at h1 h2;subst h1;subst h2;show bindL kindOf ((p,w)::P.zip vs) m p=_
   unfold bindL;rw[zeL λv hv=>(waK.mp nd).1 (wct hv).1,if_pos hk];simp
|p::P,w::vs,i+1,m,nd,h1,h2,hk=>by
   show bindL kindOf ((p,w)::P.zip vs) m x=_
   unfold bindL;exact zeN (i:=i) (waK.mp nd).2 (by simpa using h1) (by simpa using h2) hk
theorem zeO {kindOf:Str->Option NameKind}{x:Str}{v:Value}:∀{P:List Str}{vs:List Value}{i:Nat}{m:Str->Option Value},P.Nodup->P[i]?=some x->vs[i]?=some v->kindOf x≠some .local->
 bindC kindOf (P.zip vs) m x=some v
|[],_,_,_,_,h,_,_=>by simp at h
|_::_,[],_,_,_,_,h,_=>by simp at h
|p::P,w::vs,0,m,nd,h1,h2,hk=>by
   simp at h1 h2;subst h1;subst h2;show bindC kindOf ((p,w)::P.zip vs) m p=_
   unfold bindC;rw[zeM λv hv=>(waK.mp nd).1 (wct hv).1,if_neg hk];simp
|p::P,w::vs,i+1,m,nd,h1,h2,hk=>by
   show bindC kindOf ((p,w)::P.zip vs) m x=_
   unfold bindC;exact zeO (i:=i) (waK.mp nd).2 (by simpa using h1) (by simpa using h2) hk
def start (N:List Str)(vs:List V):St:=vs.map some++List.replicate (N.length - vs.length) none
def cxOf (CX:CXT)(P:Program)(w:World)(K:W.Frag)(mg:Str->Option Value)(base:Heap)(N:List Str)(qual:Str)(scope:Scope)(f:Addr)(cd:Value)(A:Around)(outer:List Env)(s:Shared)(H:Hp)(E:XK):Cx where
 prog:=P
 w:=w
 K:=K
 mg:=mg
 base:=base
 A:=A.deeper (envOfC qual scope s.heap.objs.size f cd)
 N:=N
 s₀:=s
 Hz:=H
 env:=envOfC qual scope s.heap.objs.size f cd
 outer:=outer
 stack:=envOfC qual scope s.heap.objs.size f cd::outer
 ex:=[]
 calm:=true
 fn:=λ_=>true
 pn:=[]
 xe:=λe s'=>wpAny (model P w) (A.deeper (envOfC qual scope s.heap.objs.size f cd)) (leaving (envOfC qual scope s.heap.objs.size f cd) e) (λ_ s''=>CX outer H s E e s'') (λe' s''=>CX outer H s E e' s'') s'
def zbC {sc:Scope}{n:Nat}{x:Str}(h:sc.names.lookup x=some .cell):∃c,(cellsFrom n sc.names []).lookup x=some c:=by
 have q:=PySem.W.cellsFrom_some sc.names n [] (.inl h)
 exact Option.isSome_iff_exists.mp q
def zhI {CX:CXT}{P:Program}{w:World}{K:W.Frag}{mg:Str->Option Value}{base:Heap}{N ps:List Str}{qual:Str}{scope:Scope}{f:Addr}{cd:Value}{A:Around}{outer:List Env}{s s1:Shared}{H:Hp}{E:XK}{us:List Value}{vs:List V}
 (S:FnScope N ps scope) (hd:A.handled=none) (e0:Env0 P w K mg base A outer s H) (hl:vs.length=ps.length) (r:Vals vs us)
 (x:InCallC s s.heap.objs.size (bindL (envOfC qual scope s.heap.objs.size f cd).kindOf (ps.zip us) λ_=>none) (cellsFrom (s.heap.objs.size+1) scope.names []) (bindC (envOfC qual scope s.heap.objs.size f cd).kindOf (ps.zip us) λ_=>none) s1) :
 Inv (cxOf CX P w K mg base N qual scope f cd A outer s H E) [] (start N vs) H s1:=by
 have hpl:ps.length<=N.length:=by have:=wbb List.length S.pre;rw[waB] at this;omega
 obtain⟨h1,tk,rfl,hk⟩:=x.done;have noA:∀b:Addr,b∉(cxOf CX P w K mg base N qual scope f cd A outer s H E).ex:=λb z=>absurd (show b∈([]:List Addr) from z) (by simp)
 refine⟨⟨e0.mod,S.kind,rfl,rfl,wai _,λy z c h1 h2=>?_,λy hy=>?_,λy c _ h=>?_,λ_=>hd,Around.frames_deeper e0.frames,.inr ⟨rfl,rfl⟩,λb z=>absurd z (noA b),e0.bs,e0.bsz,λb _ _=>noA b,λb z=>absurd z (noA b),e0.funs,e0.frf⟩,
  rfl,e0.bare,Un.kept hk,⟨_,x.toInCall.ns,λi y v h1 h2 h3=>?_⟩,λy c h=>⟨_,x.cell y c h⟩,e0.hok.fresh (wai _),λy c h=>?_,λp hp=>absurd (show p∈([]:List (Addr×Obj)) from hp) (by simp),e0.hok.kept hk,?_⟩
 .exact name_of_addr x.apart (wbH h1) (wbH h2)
 .have hy:scope.names.lookup y=some .cell\/scope.names.lookup y=some .free:=hy
  rcases hy with hy|hy
  .exact zbC hy
  .exact absurd rfl (S.nofree _ (wbH hy))
 .exact wbu (x.above y c (wbH h))
 .have hi:i<vs.length:=by
   unfold start at h2;by_cases hi:i<vs.length
   .exact hi
   .rw[waD (by simpa using hi)] at h2;rw[List.getElem?_replicate] at h2;split at h2 <;> cases h2
  have ha:vs[i]?=some v:=by
   unfold start at h2;rw[waI (by simpa using hi),war] at h2;cases e:vs[i]? with
  |none=>rw[e] at h2;cases h2
  |some a=>rw[e] at h2;cases h2;rfl
  obtain⟨u,hu,rv⟩:=r.get ha;have hp:ps[i]?=some y:=by
   rw[<-S.pre,List.getElem?_take_of_lt (by omega)];exact h1
  have ndP:ps.Nodup:=by rw[<-S.pre];exact S.nd.sublist (List.take_sublist _ _)
  refine⟨u,rv,?_⟩;rcases S.par y (waE hp) with k|k
  .exact .inl ⟨k,zeN ndP hp hu k⟩
  .obtain⟨c,e⟩:=zbC (n:=s.heap.objs.size+1) k;refine .inr ⟨.inl k,c,e,?_⟩;have q:=x.cell y c e
   rw[zeO ndP hp hu (by show scope.names.lookup y≠_;rw[k];decide)] at q;exact q
 .exact e0.hok.fresh (wbu (x.above y c (wbH h)))
 .unfold start;show _=N.length
  rw[wap,wam,wbL];omega
def zlv {CX:CXT}{P:Program}{w:World}{K:W.Frag}{mg:Str->Option Value}{base:Heap}{k:Nat}{f:Addr}{name qual:Str}{params:Arguments}{body:List Stmt}{scope:Scope}{dV kV doc pm cdv ct oc:Value}{an od:Option Addr}
 {osl:Array (Option Value)}{N ps:List Str}{sp:Sp}(lk:K.lookup f=some ⟨oc,od,.func (W.fnOf name qual params body scope dV kV doc pm an cdv ct),osl⟩) (hcd:W.codeIn K cdv qual=true) (S:FnScope N ps scope)
 (len:∀vs H Q E,sp vs H Q E->vs.length=ps.length)
 (hbody:∀(A:Around) (outer:List Env) (s:Shared) (H:Hp) (vs:List V) (Q:VK) (E:XK),Room k (A.deeper (envOfC qual scope s.heap.objs.size f cdv))->sp vs H Q E->
  ∃t,PSs (cxOf CX P w K mg base N qual scope f cdv A outer s H E) body t/\t {nx:=λ_ H'=>Q .non H',rt:=Q} (start N vs) H) :
 FnOk P w K mg base CX (k+1) f (W.fnOf name qual params body scope dV kV doc pm an cdv ct) ps sp:=by
 refine⟨len,λA outer s H args us vs Q E hr e0 hb r hsp=>?_⟩;have hl:=len _ _ _ _ hsp
 have KX:K.In s.heap:=e0.mod.kin.keeps λb o e=>(e0.bs b o e).1
 have lim:s.heap.NoLimit:=e0.mod.nolimit.keeps λb o e=>(e0.bs b o e).1
 have hkind:∀y∈ps.zip us,scope.names.lookup y.1=some .local\/(scope.names.lookup y.1=some .cell/\((cellsFrom (s.heap.objs.size+1) scope.names []).lookup y.1).isSome=true):=λ⟨n,v⟩ hy=>by
  rcases S.par n (wct hy).1 with q|q
  .exact .inl q
  .exact .inr ⟨q,PySem.W.cellsFrom_some _ _ _ (.inl q)⟩
 refine codeAny_call_function hr.depth (KX _ _ lk) rfl S.co S.gen rfl (PySem.W.codeRec_of KX hcd) (hb _ _ _ _ ?_);refine wpAny_newFunctionEnv_cells S.kind hkind λenv he s1 x=>?_
 subst he;refine⟨lim.keeps x.toInCall.keep,codeAny_func ?_⟩;obtain⟨t,ht,hq⟩:=hbody A outer s H vs Q E (hr.deeper _) hsp;have I:Inv (cxOf CX P w K mg base N qual scope f cdv A outer s H E) [] (start N vs) H s1:=zhI S hr.hd e0 hl r x
 refine wax (ht [] s1 (start N vs) H _ I hq) (λfl s' hs=>?_) λe s' hs=>hs
 have fin:∀{Y':St}{H':Hp}{v:V}{u:Value},Inv (cxOf CX P w K mg base N qual scope f cdv A outer s H E) [] Y' H' s'->RelV v u->Q v H'->CE outer P w H s Q u s':=
  λ{Y' H' v u} J rv q=>⟨v,H',J.os,J.bare,J.base,J.hok,rv,q⟩
 cases fl with
|ret u=>
   obtain⟨v,Y',H',J,rv,q⟩:=hs;exact fin J rv q
|next=>
   obtain⟨Y',H',J,q⟩:=hs;exact fin (v:=V.non) (u:=Value.none) J rfl q
|brk=>
   obtain⟨_,_,_,q⟩:=hs;exact False.elim q
|cont=>
   obtain⟨_,_,_,q⟩:=hs;exact False.elim q
section
variable {X:Cx}{x:Str}{p pos:Pos}{e:Expr}{es:List Expr}{t:TA}{id T:String}{r:List V->Hp->VK->Prop}
def tCB (r:List V->Hp->VK->Prop)(t:TA):TE:=λY H Q=>t Y H λvs H1=>r vs H1 Q
def zjq (hc:zcE X (.builtin id) r)(hg:Gl X x)(hm:X.mg x=none)(hv:bootBuiltins x=some (.builtin id))(ha:PA X (e::es) t)(hn:x≠"__name__":=by decide)(hdb:(x == ("__debug__" : Str))=false:=by decide)
 (he:starEach (e::es) X.env=(false,eval e X.env)::starEach es X.env:=by rfl) (hpl:(backTo pos (starEach es X.env)).any (·.1)=false:=by rfl):PE X (.Call (.Name x p) (e::es) [] pos) (tCB r t):=by
 intro pins s Y H Q I h;refine waQ (zcR I hg hm hv ?_ hn hdb);exact PyProof.Rows.callWith_builtin1 (thn (ha pos pins s Y H _ I h) λus s1 ⟨vs,H1,I1,r1,q1⟩ =>hc pins s1 Y H1 vs us Q I1 r1 q1) he hpl
def zhJ (hc:zcE X (.type T) r)(hg:Gl X x)(hm:X.mg x=none)(hv:bootBuiltins x=some (.type T))(ha:PA X (e::es) t)(hn:x≠"__name__":=by decide)(hdb:(x == ("__debug__" : Str))=false:=by decide)
 (he:starEach (e::es) X.env=(false,eval e X.env)::starEach es X.env:=by rfl) (hpl:(backTo pos (starEach es X.env)).any (·.1)=false:=by rfl):PE X (.Call (.Name x p) (e::es) [] pos) (tCB r t):=by
 intro pins s Y H Q I h;refine waQ (zcR I hg hm hv ?_ hn hdb);exact waS (thn (ha pos pins s Y H _ I h) λus s1 ⟨vs,H1,I1,r1,q1⟩ =>hc pins s1 Y H1 vs us Q I1 r1 q1) he hpl
end
end L2
namespace HT
open PySem PyProof.Rows
def zeo (A:Around)(s:Shared)(a:Int)(t:Tok)(c:Int)(u:Tok):∃e,SeqAt.EqAt A s (.int a t) (.int c u) e/\(e=true↔a=c):=
 ⟨(a == c),SeqAt.EqAt.int_int a t c u,by simp⟩
section
open PySem.SeqAt
open PySem.AutoSeq1 (wpAny_loadPart')
open PySem.MeetsSeq PySem.MeetsSeq2 PySem.MeetsSeq3
end
section
variable {prog:Program}{w:World}{A:Around}{E:Value->Shared->Prop}{s:Shared}
def cat_tup {t b:Addr}{vs ws:List Value}{Q:Value->Shared->Prop}(ht:IsTup s.heap t vs.toArray)(hb:IsTup s.heap b ws.toArray)(hv:vs≠[])
 (h1:ws = []->Q (.ref t) s) (h2:ws≠[]->Q (.ref s.heap.objs.size) {s with heap:=s.heap.push {cls:=.type "tuple",data:=.seq (vs++ws).toArray}})
 (hsz:vs.length+ws.length<=sizeLine):wpAny (model prog w) A (binaryOp .Add (.ref t) (.ref b)) Q E s:=by
 obtain⟨⟨cls,dd,data,sl⟩,ho,hc,n,hd⟩:=id ht;obtain⟨⟨cls2,dd2,data2,sl2⟩,ho2,hc2,n2,hd2⟩:=id hb;simp only at hc hd hc2 hd2;subst hc hd hc2 hd2;have e:vs.toArray++ws.toArray=(vs++ws).toArray:=by simp
 by_cases hw:ws = []
 .exact concat_meets ⟨_,ho,rfl⟩ ⟨_,ho2,rfl⟩ noFill_tuple_add seq_tuple_add wce wcb (wbY _ _)
   (tuple_addW1 t b vs.toArray ws.toArray n n2 dd dd2 sl sl2 (by simpa using hv) (by simp[hw])) ⟨ho,ho2,h1 hw⟩
 .refine concat_meets ⟨_,ho,rfl⟩ ⟨_,ho2,rfl⟩ noFill_tuple_add seq_tuple_add wce wcb (wbY _ _)
   (tuple_addW2 t b vs.toArray ws.toArray n n2 dd dd2 sl sl2 (by simpa using hv) (by simpa using hw) (by rw[wab,wab];exact hsz)) ⟨ho,ho2,?_⟩
  rw[e];exact h2 hw
def sIx (n d:Nat):Option Int->Nat
|none=>d
|some v=>if v<0 then(v+(n:Int)).toNat else min v.toNat n
def znm (n d:Nat)(hd:d<=n)(o:Option Int):sIx n d o<=n:=by
 cases o with
|none=>exact hd
|some v=>
   show(if v<0 then(v+(n:Int)).toNat else min v.toNat n)<=n
   by_cases hv:v<0
   .rw[if_pos hv];omega
   .rw[if_neg hv];exact Nat.min_le_right _ _
def zhK (v:Int)(n d:Nat):(if v<0 then max (v+(n:Int)) 0 else min v (n:Int))=((sIx n d (some v):Nat):Int):=by
 show(if v<0 then max (v+(n:Int)) 0 else min v (n:Int))=(((if v<0 then(v+(n:Int)).toNat else min v.toNat n):Nat):Int)
 by_cases hv:v<0
 .simp only[if_pos hv];omega
 .simp only[if_neg hv];omega
def zgU (lo hi:Option Int)(n:Nat):Builtin.Slice.sliceAdjust lo hi 1 (n:Int)=(((sIx n 0 lo:Nat):Int),((sIx n n hi:Nat):Int)):=by
 have h1:¬((1:Int)<0):=by omega
 unfold Builtin.Slice.sliceAdjust;simp only[h1,if_false];refine Prod.ext ?_ ?_
 .cases lo with
 |none=>rfl
 |some v=>exact zhK v n 0
 .cases hi with
 |none=>rfl
 |some v=>exact zhK v n n
def zgV (i j:Nat):Builtin.Slice.slicePlaces (i:Int) (j:Int) 1=j - i:=by
 unfold Builtin.Slice.slicePlaces;have h1:(1:Int)>0:=by omega
 simp only[h1,if_true,Int.ediv_one];split <;> omega
def zd8 {v:Value}{o:Option Int}{Q:Option Int->Shared->Prop}(p:IsPart v o)(h:Q o s):wpAny (model prog w) A (Builtin.Slice.slicePartIndex v) Q E s:=by
 cases p with
|none=>exact slicePart_none h
|int i t=>exact slicePart_int h
def zb9 {sl:Addr}{vl vu:Value}{lo hi:Option Int}{n:Nat}{Q:Int×Int×Nat->Shared->Prop}(hs:s.heap.IsSliceOf sl vl vu .none)(pl:IsPart vl lo)(pu:IsPart vu hi)
 (h:Q (((sIx n 0 lo:Nat):Int),1,sIx n n hi - sIx n 0 lo) s):wpAny (model prog w) A (Builtin.Slice.sliceApplied (.ref sl) (pure (n:Int))) Q E s:=by
 obtain⟨os,hos,hcs,hds⟩:=id hs;unfold Builtin.Slice.sliceApplied Builtin.Slice.sliceFields;refine waa (waa (wbo hos hds (x:=vl) rfl (waa (wbo hos hds (x:=vu) rfl (waa (wbo hos hds (x:=.none) rfl (wak ?_)))))));refine waa (slicePart_none ?_);show wpAny _ _ (if((1:Int) == 0)=true then _ else _) _ _ s
 rw[if_neg (by decide)];refine waa (zd8 pl (waa (zd8 pu (waa (wak ?_)))));show wpAny _ _ (match Builtin.Slice.sliceAdjust lo hi 1 (n:Int) with|(lo,hi)=>pure (lo,(1:Int),Builtin.Slice.slicePlaces lo hi 1)) _ _ s
 rw[zgU lo hi n];show wpAny _ _ (pure (((sIx n 0 lo:Nat):Int),(1:Int),Builtin.Slice.slicePlaces ((sIx n 0 lo:Nat):Int) ((sIx n n hi:Nat):Int) 1)) _ _ s
 rw[zgV];exact wak h
def zjr (xs:Array Value)(i k:Nat):((List.range k).filterMap λ(m:Nat)=>xs[((i:Int)+(m:Int)*1).toNat]?).toArray=((xs.toList.drop i).take k).toArray:=by
 have e:(λ(m:Nat)=>xs[((i:Int)+(m:Int)*1).toNat]?)=λm=>xs[i+m]?:=by
  funext m
  have:((i:Int)+(m:Int)*1).toNat=i+m:=by omega
  rw[this]
 rw[e];have:=pick_run xs i k
 rw[List.filterMap_map] at this;have e2:((λx=>xs[x]?)∘λx=>i+x)=λm=>xs[i+m]?:=rfl
 rw[e2] at this;rw[this]
def getItem_tuple_cut {t sl:Addr}{items:Array Value}{vl vu:Value}{lo hi:Option Int}{Q:Value->Shared->Prop}(ht:IsTup s.heap t items)(hs:s.heap.IsSliceOf sl vl vu .none)(pl:IsPart vl lo)(pu:IsPart vu hi)
 (hw:¬(sIx items.size 0 lo=0/\sIx items.size items.size hi=items.size))
 (h:Q (.ref s.heap.objs.size) {s with heap:=s.heap.push {cls:=.type "tuple",data:=.seq ((items.toList.drop (sIx items.size 0 lo)).take (sIx items.size items.size hi - sIx items.size 0 lo)).toArray}})
 (hsz:items.size<=sizeLine):wpAny (model prog w) A (getItem (.ref t) (.ref sl)) Q E s:=by
 have htake:sizeOk (.seq ((items.toList.drop (sIx items.size 0 lo)).take (sIx items.size items.size hi - sIx items.size 0 lo)).toArray):=by
  show((items.toList.drop (sIx items.size 0 lo)).take (sIx items.size items.size hi - sIx items.size 0 lo)).toArray.size<=sizeLine
  rw[wab,waB,List.length_drop,wcs];omega
 have hj:sIx items.size items.size hi<=items.size:=znm _ _ (wai _) hi
 obtain⟨os,hos,hcs,hds⟩:=id hs;have hTs:s.TypeIs (.ref sl) "slice":=⟨os,hos,hcs⟩
 unfold getItem;try with_reducible refine wbv ?_
 first|refine waa (wak ?_)|skip
 refine waa (wpAny_sequenceKey ht.typeIs (by decide) ?_);refine waa (wbI (name:=Str.ofString "__getitem__") ht.typeIs wbe
  (wcl wbe ht.typeIs entry_tuple_getitem ?_ (args_tuple_getitem _ _)))
 show wpAny _ _ (Builtin.Tuple.tupleItemsOf (.ref t) >>= _) _ _ s
 refine waa (tupleItemsOf_ ht ?_);refine waa (wpAny_typeOf hTs ?_);rw[if_pos (by decide)];refine waa (zb9 hs pl pu ?_);have hno:¬((((sIx items.size 0 lo:Nat):Int) == 0&&(1:Int) == 1&&(sIx items.size items.size hi - sIx items.size 0 lo) == items.size)=true):=by
  intro q;rw[waC,waC] at q;have q1:((sIx items.size 0 lo:Nat):Int)=0:=eq_of_beq q.1.1
  have q2:sIx items.size items.size hi - sIx items.size 0 lo=items.size:=eq_of_beq q.2
  exact hw ⟨by omega,by omega⟩
 show wpAny _ _ (if(((sIx items.size 0 lo:Nat):Int) == 0&&(1:Int) == 1&&(sIx items.size items.size hi - sIx items.size 0 lo) == items.size)=true then _ else _) _ _ s
 rw[if_neg hno,zjr];first
 |exact waa (m:=Builtin.Tuple.tupleExact _) (wbf (wak ⟨_,rfl,wak h⟩) htake)
 |exact waa (m:=Builtin.Tuple.tupleExact _) (wbf (waa (wak (wak ⟨_,rfl,wak h⟩))) htake)
 |exact waa (waa (m:=Builtin.Tuple.tupleExact _) (wbf (wak (wak ⟨_,rfl,wak h⟩)) htake))
 |exact waa (waa (m:=Builtin.Tuple.tupleExact _) (wbf (wak ⟨_,rfl,wak h⟩) htake))
end
end HT
namespace L2
open PySem PySem.Spec PyProof.Rows
abbrev TO:=St->Hp->(Option Int->Hp->Prop)->Prop
def PO (X:Cx)(e:Option Expr)(t:TO):Prop:=
 ∀(pins:List (Addr×Obj)) (s:Shared) (Y:St) (H:Hp) (Q:Option Int->Hp->Prop),Inv X pins Y H s->t Y H Q->
  wpAny (model X.prog X.w) X.A (evalPart e X.env) (λu s'=>∃o H',Inv X pins Y H' s'/\IsPart u o/\Q o H') X.xe s
def zlw:TO:=λ_ H Q=>Q none H
def zph (t:TE):TO:=λY H Q=>t Y H λx H1=>∃i,x=.int i/\Q (some i) H1
section
variable {X:Cx}{e:Expr}{te:TE}{lo hi:Option Expr}{tl th:TO}{pos p2:Pos}
def zlx:PO X none zlw:=by
 intro pins s Y H Q I h;rw[evalPart_none];exact wak ⟨none,H,I,.none,h⟩
def zly (h:PE X e te):PO X (some e) (zph te):=by
 intro pins s Y H Q I hw;rw[evalPart_some];refine thn (h pins s Y H _ I hw) λu s1 ⟨x,H1,I1,r1,q1⟩ =>?_
 obtain⟨i,rfl,q⟩:=q1;obtain⟨t,rfl⟩:=r1;exact⟨some i,H1,I1,.int i t,q⟩
def SlR (X:Cx)(r:V->Option Int->Option Int->Hp->VK->Prop):Prop:=
 ∀(pins:List (Addr×Obj)) (s:Shared) (Y:St) (H:Hp) (x:V) (v vl vu:Value) (lo hi:Option Int) (sl:Addr) (Q:VK),Inv X pins Y H s->RelV x v->s.heap.IsSliceOf sl vl vu .none->IsPart vl lo->IsPart vu hi->r x lo hi H Q->
  ∃T id,typeLookup (.type T) "__getitem__"=pure (some (.builtin id))/\s.TypeIs v T/\wpAny (model X.prog X.w) X.A (getItem v (.ref sl)) (EP X pins Y Q) X.xe s
def SlR.or {r r':V->Option Int->Option Int->Hp->VK->Prop}(h:SlR X r)(h':SlR X r'):SlR X (λx lo hi H Q=>r x lo hi H Q\/r' x lo hi H Q):=by
 intro pins s Y H x v vl vu lo hi sl Q I rx hs pl pu q;rcases q with q|q
 .exact h pins s Y H x v vl vu lo hi sl Q I rx hs pl pu q
 .exact h' pins s Y H x v vl vu lo hi sl Q I rx hs pl pu q
def tSl (r:V->Option Int->Option Int->Hp->VK->Prop)(te:TE)(tl th:TO):TE:=λY H Q=>te Y H λx H1=>tl Y H1 λl H2=>th Y H2 λu H3=>r x l u H3 Q
def zep {r:V->Option Int->Option Int->Hp->VK->Prop}(hr:SlR X r)(he:PE X e te)(hl:PO X lo tl)(hu:PO X hi th):PE X (.Subscript e (.Slice lo hi none p2) pos) (tSl r te tl th):=by
 intro pins s Y H Q I h;refine Subscript_ (thn (he pins s Y H _ I h) λv s1 ⟨x,H1,I1,r1,q1⟩ =>?_);refine wpAny_Slice (thn (hl pins s1 Y H1 _ I1 q1) λvl s2 ⟨l,H2,I2,pl,q2⟩ =>thn (hu pins s2 Y H2 _ I2 q2) λvu s3 ⟨u,H3,I3,pu,q3⟩ =>?_);rw[evalPart_none];refine wak ?_;have I4:Inv X pins Y H3 {s3 with heap:=s3.heap.push {cls:=.type "slice",data:=.fields #[vl,vu,.none]}}:=I3.kept (t':=s3.toks) λb ob q=>wac _ q
 obtain⟨T,id,hT,ht,hg⟩:=hr pins {s3 with heap:=s3.heap.push {cls:=.type "slice",data:=.fields #[vl,vu,.none]}} Y H3 x v vl vu l u s3.heap.objs.size Q I4 r1 (Heap.IsSliceOf.new ..) pl pu q3;show wpAny (model X.prog X.w) X.A (subscriptTail e (.Slice lo hi none p2) v (.ref s3.heap.objs.size)) (EP X pins Y Q) X.xe {s3 with heap:=s3.heap.push {cls:=.type "slice",data:=.fields #[vl,vu,.none]}}
 exact tail_any (ops:=[.ref s3.heap.objs.size,v]) ht hT hg (by with_unfolding_all rfl)
def cutV (xs:List V)(lo hi:Option Int):List V:=(xs.drop (HT.sIx xs.length 0 lo)).take (HT.sIx xs.length xs.length hi - HT.sIx xs.length 0 lo)
def zdw (xs:List V)(lo hi:Option Int):(cutV xs lo hi).length<=xs.length:=by
 unfold cutV;rw[waB,List.length_drop];omega
def rSlT (K:W.Frag):V->Option Int->Option Int->Hp->VK->Prop:=λx lo hi H Q=>∃a xs,x=.ref a/\SqT K H a xs/\
 ¬(HT.sIx xs.length 0 lo=0/\HT.sIx xs.length xs.length hi=xs.length)/\∀p,H p=none->Q (.ref p) (upd H p (.tup (cutV xs lo hi)))
def sl_tup:SlR X (rSlT X.K):=by
 intro pins s Y H x v vl vu lo hi sl Q I rx hs pl pu h;obtain⟨a,xs,rfl,hx,hw,q⟩:=h;cases rx;obtain⟨its,r,ht,hz⟩:=I.tuple hx;have hlen:its.toArray.size=xs.length:=by rw[wab];exact r.length.symm
 refine⟨"tuple",_,PyProof.Rows.slot_tuple_getitem.lookup,ht.typeIs,?_⟩;refine HT.getItem_tuple_cut ht hs pl pu (by rw[hlen];exact hw) ?_ (by rw[hlen];exact hz);rw[hlen];refine⟨.ref s.heap.objs.size,_,I.laid (t':=s.toks) (o:=.tup (cutV xs lo hi)) (λb ob q=>wac _ q) (wai _) ?_,rfl,q _ (I.hok.fresh (wai _))⟩;exact⟨waq (zdw xs lo hi) hz,_,(r.drop (HT.sIx xs.length 0 lo)).take (HT.sIx xs.length xs.length hi - HT.sIx xs.length 0 lo),IsTup.new _ _⟩
def zlz (K:W.Frag):R2:=λx y H Q=>∃a b xs ys,x=.ref a/\y=.ref b/\SqT K H a xs/\SqT K H b ys/\xs≠[]/\xs.length+ys.length<=sizeLine/\
 (ys = []->Q (.ref a) H)/\(ys≠[]->∀p,H p=none->Q (.ref p) (upd H p (.tup (xs++ys))))
def Vals.nil_iff {xs:List V}{us:List Value}(r:Vals xs us):us = []↔xs = []:=by
 cases r with
|nil=>simp
|cons _ _=>simp
def zhL:OpR X (binaryOp .Add) (zlz X.K):=by
 intro pins s Y H x y v u Q I rx ry h;obtain⟨a,b,xs,ys,rfl,rfl,ha,hb,hx,hz,q1,q2⟩:=h;cases rx;cases ry;obtain⟨its,r1,p1,_⟩:=I.tuple ha;obtain⟨its2,r2,p2,_⟩:=I.tuple hb;refine HT.cat_tup p1 p2 (λz=>hx (r1.nil_iff.mp z)) (λz=>⟨.ref a,H,I,rfl,q1 (r2.nil_iff.mp z)⟩) (λz=>?_) (by rw[<-r1.length,<-r2.length];exact hz);refine⟨.ref s.heap.objs.size,_,I.laid (t':=s.toks) (o:=.tup (xs++ys)) (λb ob q=>wac _ q) (wai _) ?_,rfl,q2 (λw=>z (r2.nil_iff.mpr w)) _ (I.hok.fresh (wai _))⟩;exact⟨by rw[wap];exact hz,_,r1.append r2,IsTup.new _ _⟩
end
def ixN (n:Nat)(i:Int):Option Nat:=if 0<=i then(if i<n then some i.toNat else none) else if -(n:Int)<=i then some (i+n).toNat else none
def atI {α:Type}(xs:List α)(i:Int):Option α:=(ixN xs.length i).bind λj=>xs[j]?
def zhM {n:Nat}{i:Int}{j:Nat}(h:ixN n i=some j):seqIndex? i n=some j/\j<n/\-(n:Int)<=i/\i<n:=by
 unfold ixN at h;by_cases h0:0<=i
 .rw[if_pos h0] at h;by_cases h1:i<n
  .rw[if_pos h1] at h;have e:i.toNat=j:=wau h
   exact⟨by rw[seqIndex_of h0 h1,e],by omega,by omega,h1⟩
  .rw[if_neg h1] at h;cases h
 .rw[if_neg h0] at h;by_cases h1:-(n:Int)<=i
  .rw[if_pos h1] at h;have e:(i+n).toNat=j:=wau h
   exact⟨by rw[seqIndex_neg (by omega) h1,e],by omega,h1,by omega⟩
  .rw[if_neg h1] at h;cases h
def zfD {α:Type}{xs:List α}{i:Int}{v:α}(h:atI xs i=some v):∃j,seqIndex? i xs.length=some j/\xs[j]?=some v/\j<xs.length/\-(xs.length:Int)<=i/\i<xs.length:=by
 unfold atI at h;cases e:ixN xs.length i with
|none=>rw[e] at h;cases h
|some j=>
   rw[e] at h;obtain⟨h1,h2,h3,h4⟩:=zhM e;exact⟨j,h1,h,h2,h3,h4⟩
def zaR {α:Type}{xs:List α}{j:Nat}{v:α}(h:xs[j]?=some v):atI xs (j:Int)=some v:=by
 have hj:j<xs.length:=(wae.mp h).1
 have e:ixN xs.length (j:Int)=some j:=by
  unfold ixN;rw[if_pos (by omega),if_pos (by omega)];simp
 unfold atI;rw[e];exact h
def zdx (b:Expr):Prop:=∀o i,subscripted b false o i=operate [o,i] (getItem o i)
def IxR (X:Cx)(r:R2):Prop:=
 ∀(value slice:Expr) (pins:List (Addr×Obj)) (s:Shared) (Y:St) (H:Hp) (x y:V) (v u:Value) (Q:VK),Inv X pins Y H s->RelV x v->RelV y u->r x y H Q->
  subscripted slice false v u=operate [v,u] (getItem v u)->wpAny (model X.prog X.w) X.A (subscriptTail value slice v u) (EP X pins Y Q) X.xe s
def MtR (X:Cx)(id:String)(r:V->List V->Hp->VK->Prop):Prop:=
 ∀(pins:List (Addr×Obj)) (s:Shared) (Y:St) (H:Hp) (x:V) (xs:List V) (v:Value) (us:List Value) (Q:VK),Inv X pins Y H s->RelV x v->Vals xs us->r x xs H Q->
  wpAny (model X.prog X.w) X.A (call (.builtin id) (v::us)) (EP X pins Y Q) X.xe s
section
variable {X:Cx}{a b:Expr}{ta tb:TE}{pos:Pos}
def IxR.or {r r':R2}(h:IxR X r)(h':IxR X r'):IxR X (λx y H Q=>r x y H Q\/r' x y H Q):=by
 intro value slice pins s Y H x y v u Q I rx ry q hs;rcases q with q|q
 .exact h value slice pins s Y H x y v u Q I rx ry q hs
 .exact h' value slice pins s Y H x y v u Q I rx ry q hs
def zjs {r:R2}(hr:IxR X r)(ha:PE X a ta)(hb:PE X b tb)(hs:zdx b):PE X (.Subscript a b pos) (tOp r ta tb):=by
 intro pins s Y H Q I h;exact Subscript_ (binT ha hb I h λv u s2 x y H2 I2 rx ry q=>hr a b pins s2 Y H2 x y v u Q I2 rx ry q (hs _ _))
def rIxL (K:W.Frag):R2:=λx y H Q=>∃p xs i v,x=.ref p/\y=.int i/\SqL K H p xs/\atI xs i=some v/\Q v H
def rIxT (K:W.Frag):R2:=λx y H Q=>∃p xs i v,x=.ref p/\y=.int i/\SqT K H p xs/\atI xs i=some v/\Q v H
def rIxS:R2:=λx y H Q=>∃z i c,x=.str z/\y=.int i/\z.length<=sizeLine/\atI z.cps.toList i=some c/\Q (.str ⟨#[c]⟩) H
def ix_list:IxR X (rIxL X.K):=by
 intro value slice pins s Y H x y v u Q I rx ry h hs;obtain⟨p,xs,i,z,rfl,rfl,hq,he,q⟩:=h;cases rx;obtain⟨t,rfl⟩:=ry;obtain⟨its,r,pl,hz⟩:=I.list hq;obtain⟨j,h1,h2,h3,h4,h5⟩:=zfD he;obtain⟨w,ew,rw'⟩:=r.get h2;have hl:=r.length
 have hn:=zdu
 have fin:EP X pins Y Q w s:=⟨z,H,I,rw',q⟩
 by_cases h0:0<=i
 .have hj:i.toNat=j:=by
   rw[seqIndex_of h0 h5] at h1;exact wau h1
  exact item_listR pl.isList h0 (by omega) (by rw[hj];simpa using ew) fin hs
 .have hj:(i+(its.toArray.size:Int)).toNat=j:=by
   rw[seqIndex_neg (by omega) h4] at h1;rw[wab,<-hl];exact wau h1
  exact subscriptTail_builtinR (x:=w) pl.isList.typeIs slot_list_getitem.lookup
   (wpAny_getItem_list_neg (Q:=λr s'=>r=w/\EP X pins Y Q r s') pl.isList (by omega) (by rw[wab] <;> omega) (by omega) (by rw[hj];simpa using ew) ⟨rfl,fin⟩) hs
def ix_tup:IxR X (rIxT X.K):=by
 intro value slice pins s Y H x y v u Q I rx ry h hs;obtain⟨p,xs,i,z,rfl,rfl,hq,he,q⟩:=h;cases rx;obtain⟨t,rfl⟩:=ry;obtain⟨its,r,pl,hz⟩:=I.tuple hq;obtain⟨j,h1,h2,h3,h4,h5⟩:=zfD he;obtain⟨w,ew,rw'⟩:=r.get h2;have hl:=r.length
 have hn:=zdu
 have fin:EP X pins Y Q w s:=⟨z,H,I,rw',q⟩
 exact subscriptTail_builtinR (x:=w) pl.typeIs slot_tuple_getitem.lookup
  (getItem_tuple (j:=j) (Q:=λr s'=>r=w/\EP X pins Y Q r s') pl (by omega) (by omega) (by rw[wab,<-hl];exact h1) (by simpa using ew) ⟨rfl,fin⟩) hs
def znn:IxR X rIxS:=by
 intro value slice pins s Y H x y v u Q I rx ry h hs;obtain⟨z,i,c,rfl,rfl,hz,he,q⟩:=h;obtain⟨t,rfl⟩:=rx;obtain⟨t',rfl⟩:=ry;obtain⟨j,h1,h2,h3,h4,h5⟩:=zfD he;have hl:z.cps.toList.length=z.length:=by simp[Str.length]
 rw[hl] at h1 h4 h5;have hn:=zdu
 exact tail_any (typeIs_str s z t) slot_str_getitem.lookup (getItem_str (c:=c) (by
  have e1:decide (i < -(2 ^ 63:Int))=false:=wat (by omega)
  have e2:decide (i≥2 ^ 63)=false:=wat (by omega)
  rw[e1,e2,Bool.or_false]) (by rw[h1];simpa using h2) ⟨.str ⟨#[c]⟩,H,I.tok _,⟨_,rfl⟩,q⟩) hs
def rIx (K:W.Frag):R2:=λx y H Q=>rIxL K x y H Q\/rIxT K x y H Q\/rIxS x y H Q
def zhN:IxR X (rIx X.K):=ix_list.or (ix_tup.or znn)
def zgW (its:List Value)(n j:Nat)(u:Value):Obj.mapSeq (·.setIfInBounds j u) {cls:=.type "list",data:=.seq its.toArray n} = {cls:=.type "list",data:=.seq (its.set j u).toArray n}:=by
 simp[Obj.mapSeq]
theorem Inv.lst {pins:List (Addr×Obj)}{Y:St}{H:Hp}{s:Shared}{p:Addr}{xs:List V}(I:Inv X pins Y H s)(h:H p=some (.lst xs)) :
 ∃(its:List Value) (n:Nat),Vals xs its/\s.heap.get? p=some {cls:=.type "list",data:=.seq its.toArray n}/\xs.length<=sizeLine:=by
 obtain⟨z,its,n,r,e⟩:=I.hok p _ h;exact⟨its,n,r,e,z⟩
def Inv.lstUpd {pins:List (Addr×Obj)}{Y:St}{H:Hp}{s:Shared}{p:Addr}{xs ys:List V}{its its':List Value}{n n':Nat}{f:Obj->Obj}(I:Inv X pins Y H s)(h:H p=some (.lst xs))
 (ho:s.heap.get? p=some {cls:=.type "list",data:=.seq its.toArray n}) (hf:f {cls:=.type "list",data:=.seq its.toArray n} = {cls:=.type "list",data:=.seq its'.toArray n'}) (r:Vals ys its') (hz:ys.length<=sizeLine) (t:Nat) :
 Inv X pins Y (upd H p (.lst ys)) {s with heap:=s.heap.update p f,toks:=t}:=by
 have e:(s.heap.update p f).get? p=some {cls:=.type "list",data:=.seq its'.toArray n'}:=by
  rw[wbk f ho (by rw[hf] <;> rfl),hf]
 refine I.write (x:=p) (e:=p) (by rw[h];trivial) (.inl rfl) (λb u hb q=>(waF _ _ (Ne.symm hb)).trans q) ⟨_,e⟩ ?_;exact⟨hz,its',n',r,e⟩
def zpi:V->V->V->Hp->(Hp->Prop)->Prop:=λo i v H Q=>∃p xs k j,o=.ref p/\i=.int k/\H p=some (.lst xs)/\ixN xs.length k=some j/\Q (upd H p (.lst (xs.set j v)))
def zjt:PSet X zpi:=by
 intro pins s Y H o i v ov iv u Q I ro ri rv h;obtain⟨p,xs,k,j,rfl,rfl,hp,hj,q⟩:=h;cases ro;obtain⟨t,rfl⟩:=ri;obtain⟨its,n,r,ho,hz⟩:=I.lst hp;obtain⟨h1,h2,h3,h4⟩:=zhM hj;have hl:=r.length
 have hn:=zdu
 have I':Inv X pins Y (upd H p (.lst (xs.set j v))) {s with heap:=s.heap.update p (Obj.mapSeq (·.setIfInBounds j u))}:=
  I.lstUpd hp ho (zgW its n j u) (r.set rv j) (by rw[List.length_set];exact hz) s.toks
 by_cases h0:0<=k
 .have hk:k.toNat=j:=by
   rw[seqIndex_of h0 h4] at h1;exact wau h1
  exact PySem.W.ki_setAt ho h0 (by omega) (by rw[wab,<-hl];exact h4) (by rw[hk];exact⟨_,I',q⟩)
 .have hk:(k+(its.toArray.size:Int)).toNat=j:=by
   rw[seqIndex_neg (by omega) h3] at h1;rw[wab,<-hl];exact wau h1
  exact PySem.W.ki_setBack ho (by omega) (by rw[wab,<-hl];exact h3) (by omega) (by rw[hk];exact⟨_,I',q⟩)
def zeP (lo hi:Option Int)(n:Nat):(sliceBounds lo hi none n).1=((HT.sIx n 0 lo:Nat):Int)/\(sliceBounds lo hi none n).2.1=((HT.sIx n n hi:Nat):Int)/\(sliceBounds lo hi none n).2.2=1:=by
 refine⟨?_,?_,rfl⟩
 .cases lo with
 |none=>simp[sliceBounds,HT.sIx]
 |some i=>
    simp only[sliceBounds,HT.sIx,Option.getD_none,show(1:Int)>0 by decide,if_true];by_cases h:i<0
    .simp only[h,if_true] <;> omega
    .simp only[h,if_false] <;> omega
 .cases hi with
 |none=>simp[sliceBounds,HT.sIx]
 |some i=>
    simp only[sliceBounds,HT.sIx,Option.getD_none,show(1:Int)>0 by decide,if_true];by_cases h:i<0
    .simp only[h,if_true] <;> omega
    .simp only[h,if_false] <;> omega
def zeq (its:List Value)(lo hi:Option Int):slicePick its.toArray lo hi none=((its.drop (HT.sIx its.length 0 lo)).take (HT.sIx its.length its.length hi - HT.sIx its.length 0 lo)).toArray:=by
 obtain⟨h1,h2,h3⟩:=zeP lo hi its.toArray.size;unfold slicePick;rw[h1,h2,h3];simp only[sliceRange_one,pick_run,wab] <;> rfl
def rSlL (K:W.Frag):V->Option Int->Option Int->Hp->VK->Prop:=λx lo hi H Q=>∃a xs,x=.ref a/\SqL K H a xs/\∀p,H p=none->Q (.ref p) (upd H p (.lst (cutV xs lo hi)))
def sl_list:SlR X (rSlL X.K):=by
 intro pins s Y H x v vl vu lo hi sl Q I rx hs pl pu h;obtain⟨a,xs,rfl,hx,q⟩:=h;cases rx;obtain⟨its,r,ht,hz⟩:=I.list hx;have hlen:=r.length
 refine⟨"list",_,slot_list_getitem.lookup,ht.isList.typeIs,?_⟩;refine wpAny_getItem_list_slice ht.isList hs pl pu .none (by simp) ?_ (by rw[wab] <;> omega);rw[zeq,<-hlen];refine⟨.ref s.heap.objs.size,_,I.laid (t':=s.toks) (o:=.lst (cutV xs lo hi)) (λb ob q=>wac _ q) (wai _) ?_,rfl,q _ (I.hok.fresh (wai _))⟩;exact⟨waq (zdw xs lo hi) hz,_,0,(r.drop (HT.sIx xs.length 0 lo)).take (HT.sIx xs.length xs.length hi - HT.sIx xs.length 0 lo),wav _ rfl⟩
def zeQ:zcE X (.builtin "len") (λxs H Q=>∃p ys,xs = [.ref p]/\(SqL X.K H p ys\/SqT X.K H p ys)/\Q (.int ys.length) H):=by
 intro pins s Y H xs us Q I r h;obtain⟨p,ys,rfl,hq,q⟩:=h;obtain⟨u,rfl,rx⟩:=zgT r;cases rx;have hn:=zdu
 rcases hq with hq|hq
 .obtain⟨its,r',pl,hz⟩:=I.list hq;have hlen:=r'.length
  exact Calls.call_len_list pl.isList (by simp only[wab] <;> omega) ⟨.int ys.length,H,I.tok _,⟨s.toks+1,by rw[wab,hlen]⟩,q⟩
 .obtain⟨its,r',pl,hz⟩:=I.tuple hq;have hlen:=r'.length
  exact len_tuple pl (by simp only[wab] <;> omega) ⟨.int ys.length,H,I.tok _,⟨s.toks+1,by rw[wab,hlen]⟩,q⟩
def zcd:zcE X (.type "list") (λxs H Q=>∃p ys,xs = [.ref p]/\(SqL X.K H p ys\/SqT X.K H p ys)/\∀l,H l=none->Q (.ref l) (upd H l (.lst ys))):=by
 intro pins s Y H xs us Q I r h;obtain⟨p,ys,rfl,hq,q⟩:=h;obtain⟨u,rfl,rx⟩:=zgT r;cases rx;have fin:∀(its:List Value),Vals ys its->ys.length<=sizeLine->∀(h':Heap) (c':Nat),(∀b o',s.heap.get? b=some o'->h'.get? b=some o')->
  h'.get? s.heap.objs.size=some {cls:=.type "list",dict:=none,data:=.seq its.toArray c',slots:=#[]}->EP X pins Y Q (.ref s.heap.objs.size) {s with heap:=h'}:=λits r' hz h' c' kp e=>
  ⟨.ref s.heap.objs.size,_,I.laid (t':=s.toks) kp (wai _) (show ObjOk X.prog X.w _ h' _ (.lst ys) from⟨hz,its,c',r',e⟩),rfl,q _ (I.hok.fresh (wai _))⟩
 rcases hq with hq|hq
 .obtain⟨its,r',pl,hz⟩:=I.list hq;have hlen:=r'.length
  obtain⟨o,ho,hc,n,hd⟩:=pl.isList;exact call_list_seq p (.inl rfl) ho hc hd (λh' c' kp e=>fin its r' hz h' c' kp e) (by simp only[wab] <;> omega)
 .obtain⟨its,r',pl,hz⟩:=I.tuple hq;have hlen:=r'.length
  obtain⟨o,ho,hc,n,hd⟩:=pl;exact call_list_seq p (.inr rfl) ho hc hd (λh' c' kp e=>fin its r' hz h' c' kp e) (by simp only[wab] <;> omega)
def zcT:zcE X (.type "tuple") (λxs H Q=>∃p ys,xs = [.ref p]/\((SqL X.K H p ys/\∀l,H l=none->Q (.ref l) (upd H l (.tup ys)))\/(SqT X.K H p ys/\Q (.ref p) H))):=by
 intro pins s Y H xs us Q I r h;obtain⟨p,ys,rfl,h⟩:=h;obtain⟨u,rfl,rx⟩:=zgT r;cases rx;rcases h with⟨hq,q⟩|⟨hq,q⟩
 .obtain⟨its,r',pl,hz⟩:=I.list hq;have hlen:=r'.length
  refine call_tuple_list pl.isList (λh' kp=>?_) (by simp only[wab] <;> omega);have I1:Inv X pins Y H {s with heap:=h'}:=I.kept (t':=s.toks) kp
  have I2:Inv X pins Y (upd H h'.objs.size (.tup ys)) {s with heap:=h'.push {cls:=.type "tuple",data:=.seq its.toArray}}:=
   I1.laid (t':=s.toks) (λb o e=>wac _ e) (wai _) (show ObjOk X.prog X.w _ _ _ (.tup ys) from⟨hz,its,r',IsTup.new _ _⟩)
  exact⟨.ref h'.objs.size,_,I2,rfl,q _ (I1.hok.fresh (wai _))⟩
 .obtain⟨its,r',pl,hz⟩:=I.tuple hq;exact call_tuple_same pl ⟨.ref p,H,I,rfl,q⟩
def tyV (K:W.Frag)(T:String)(x:V)(H:Hp):Prop:=match x with
|.str _=>T = "str"
|.int _=>T = "int"
|.ref p=>(T = "list"/\∃xs,SqL K H p xs)\/(T = "tuple"/\∃o,K.lookup p=some o/\o.cls=.type "tuple"/\o.dict=none)\/
  (T = "dict"/\((∃kvs,H p=some (.dK kvs))\/∃kvs,H p=some (.dT kvs)))\/(T = "set"/\∃S n,H p=some (.set S n))
|_=>False
def zno {pins:List (Addr×Obj)}{Y:St}{H:Hp}{s:Shared}{T:String}{x:V}{v:Value}(I:Inv X pins Y H s)(r:RelV x v)(ty:tyV X.K T x H) :
 s.TypeIs v T/\∀a,v=.ref a->∃ob,s.heap.get? a=some ob/\ob.dict=none:=by
 cases x with
|str z=>
   obtain⟨t,rfl⟩:=r;cases(show T = "str" from ty);exact⟨typeIs_str s z t,λ_ e=>nomatch e⟩
|int i=>
   obtain⟨t,rfl⟩:=r;cases(show T = "int" from ty);exact⟨typeIs_int s i t,λ_ e=>nomatch e⟩
|ref p=>
   cases r;rcases ty with⟨rfl,xs,hq⟩|⟨rfl,o,hk,hc,hd⟩|⟨rfl,hk⟩|⟨rfl,S,n,hk⟩
   .obtain⟨its,_,pl,_⟩:=I.list hq;refine⟨pl.isList.typeIs,λa e=>?_⟩;cases e;obtain⟨o,n,e,c,hd,_⟩:=pl;exact⟨o,e,hd⟩
   .refine⟨⟨o,I.kIn p o hk,hc⟩,λa e=>?_⟩;cases e;exact⟨o,I.kIn _ o hk,hd⟩
   .have z:∃o,s.heap.get? p=some o/\o.ExactDict:=by
     rcases hk with⟨kvs,hk⟩|⟨kvs,hk⟩
     .obtain⟨_,_,_,_,o,_,_,e,ex,_⟩:=I.hok p _ hk;exact⟨o,e,ex⟩
     .obtain⟨_,_,_,_,o,_,_,e,ex,_⟩:=I.hok p _ hk;exact⟨o,e,ex⟩
    obtain⟨o,e,ex⟩:=z;refine⟨⟨o,e,ex.1⟩,λa e2=>?_⟩;cases e2;exact⟨o,e,ex.2.1⟩
   .obtain⟨o,_,_,_,e,ex,_⟩:=I.hok p _ hk;refine⟨⟨o,e,ex.1⟩,λa e2=>?_⟩;cases e2;exact⟨o,e,ex.2.1⟩
|_=>exact False.elim ty
def tBM (K:W.Frag)(T:String)(r:V->List V->Hp->VK->Prop)(to:TE)(t:TA):TE:=λY H Q=>to Y H λx H1=>tyV K T x H1/\t Y H1 λxs H2=>r x xs H2 Q
variable {o e:Expr}{es:List Expr}{to:TE}{t:TA}{name:Str}{apos cpos:Pos}{T id:String}{r:V->List V->Hp->VK->Prop}
def znp (pa:PlainAttrs T)(slot:Slot T name id)(hty:typeOf (.builtin id)=pure (.type "method_descriptor"))(hm:MtR X id r)(ho:PE X o to)(ha:PA X (e::es) t)
 (hbase:attributeBase o name X.env (eval o X.env)=eval o X.env:=by rfl)
 (hfew:((backTo cpos (starEach (e::es) X.env)).all (λx=>!x.1)&&(backToKw cpos (keywordEach [] X.env)).all (λx=>x.1.isSome)
  && decide ((e::es).length+([]:List Keyword).length+(if([]:List Keyword).isEmpty then 0 else 1)<30))=true:=by rfl)
 (hline:(apos.endLine == cpos.line)=true:=by rfl) (hs:starEach (e::es) X.env=(false,eval e X.env)::starEach es X.env:=by rfl) (hplain:(backTo cpos (starEach es X.env)).any (·.1)=false:=by rfl) :
 PE X (.Call (.Attribute o name apos) (e::es) [] cpos) (tBM X.K T r to t):=by
 intro pins s Y H Q I h;refine wpAny_Call_method_late hbase hfew hline rfl (thn (ho pins s Y H _ I h) λv s1 ⟨x,H1,I1,r1,ty,q1⟩ =>?_);obtain⟨h1,h2⟩:=zno I1 r1 ty;refine⟨T,id,pa,slot,hty,h1,h2,?_⟩;have hA:=ha cpos pins s1 Y H1 _ I1 q1
 rw[hs] at hA⊢;refine Calls.callWith_builtin (by show(false||(backTo cpos (starEach es X.env)).any (·.1))=false;rw[hplain] <;> rfl) (Calls.evalArgs_plain ?_);exact thn hA λus s2 ⟨vs,H2,I2,r2,q2⟩ =>hm pins s2 Y H2 x vs v us Q I2 r1 r2 q2
end
def MtM (X:Cx)(id:String)(r:V->List V->Hp->VK->Prop):Prop:=
 ∀(pins:List (Addr×Obj)) (s:Shared) (Y:St) (H:Hp) (x:V) (xs:List V) (v:Value) (us:List Value) (Q:VK),Inv X pins Y H s->RelV x v->Vals xs us->r x xs H Q->
  wpAny (model X.prog X.w) X.A (call (.builtin id) (v::us)) (EP X pins Y Q) X.xe s
def Vals.one:∀{x:V}{us:List Value},Vals [x] us->∃u,us = [u]/\RelV x u
|_,_,.cons r .nil=>⟨_,rfl,r⟩
theorem Vals.reverse {xs:List V}{us:List Value}(h:Vals xs us):Vals xs.reverse us.reverse:=by
 induction h with
|nil=>exact .nil
|cons r t ih=>rw[wbP,wbP];exact Vals.append ih (.cons r .nil)
theorem Vals.rep {xs:List V}{us:List Value}(h:Vals xs us):∀k:Nat,Vals (List.replicate k xs).flatten (List.replicate k us).flatten
|0=>.nil
|k+1=>by
   rw[waZ,waZ,wbD,wbD];exact Vals.append h (Vals.rep h k)
theorem zeR (its:List Value):∀(k:Nat) (acc:List Value),
 List.foldl (λx1 x2=>x1++x2) acc.toArray (List.replicate k its.toArray)=(acc++(List.replicate k its).flatten).toArray
|0,acc=>by simp
|k+1,acc=>by
   have e:acc.toArray++its.toArray=(acc++its).toArray:=by simp
   have e2:(acc++its)++(List.replicate k its).flatten=acc++(List.replicate (k+1) its).flatten:=by
    rw[waZ,wbD,waN]
   rw[<-e2,<-zeR its k (acc++its),<-e,waZ,List.foldl_cons]
section
variable {X:Cx}{pins:List (Addr×Obj)}{Y:St}{H:Hp}{s:Shared}{l b:Addr}{xs ys zs:List V}
def Inv.lset {its its':List Value}{n:Nat}{f:Array Value->Array Value}{t':Nat}(I:Inv X pins Y H s)(hH:H l=some (.lst xs))
 (e:s.heap.get? l=some {cls:=.type "list",data:=.seq its.toArray n}) (hf:f its.toArray=its'.toArray) (hv:Vals ys its') (hz:ys.length<=sizeLine) :
 Inv X pins Y (upd H l (.lst ys)) {s with heap:=s.heap.update l (Obj.mapSeq f),toks:=t'}:=by
 have q:=PySem.IsL.update e f
 rw[hf] at q;refine I.write (x:=l) (e:=l) (by rw[hH];exact trivial) (.inl rfl) (λb' u hb hu=>(waF s.heap (Obj.mapSeq f) (Ne.symm hb)).trans hu) ⟨_,q⟩ ?_;exact⟨hz,its',_,hv,q⟩
def Inv.lnew {its:List Value}{t':Nat}(I:Inv X pins Y H s)(hv:Vals ys its)(hz:ys.length<=sizeLine) :
 Inv X pins Y (upd H s.heap.objs.size (.lst ys)) {s with heap:=s.heap.push {cls:=.type "list",data:=.seq its.toArray},toks:=t'}:=
 I.laid (λ_ _ q=>wac _ q) (wai _) ⟨hz,its,0,hv,wav _ rfl⟩
theorem Inv.fresh (I:Inv X pins Y H s):H s.heap.objs.size=none:=I.hok.fresh (wai _)
def Inv.lstM (I:Inv X pins Y H s)(hH:H l=some (.lst xs)):xs.length<=sizeLine/\∃(its:List Value) (n:Nat),Vals xs its/\xs.length=its.length/\s.heap.get? l=some {cls:=.type "list",data:=.seq its.toArray n}:=by
 obtain⟨z,its,n,r,e⟩:=I.hok l _ hH;exact⟨z,its,n,r,r.length,e⟩
def zgi {n:Nat}(h:n<=sizeLine):Builtin.List.listTooLong n=false:=by
 unfold Builtin.List.listTooLong;exact wat (by omega)
end
section
variable {X:Cx}
def zfE:V->List V->Hp->VK->Prop:=λx vs H Q=>∃l xs y,x=.ref l/\vs = [y]/\H l=some (.lst xs)/\xs.length<sizeLine/\Q .non (upd H l (.lst (xs++[y])))
def zeS:MtM X "list.append" zfE:=by
 intro pins s Y H x vs v us Q I rx rv h;obtain⟨l,xs,y,rfl,rfl,hH,hz,q⟩:=h;cases rx;obtain⟨u,rfl,ru⟩:=rv.one;obtain⟨z,its,n,r,hl,e⟩:=I.lstM hH;refine call_meets F.slot_list_append ⟨_,e,rfl⟩ F.entry_list_append (F.args_list_append_2 _ _) (PySem.list_append l its.toArray n u (by rw[wab];omega)) ⟨e,?_⟩;refine⟨.non,_,I.lset (its':=its++[u]) hH e (by simp) (r.append (.cons ru .nil)) ?_,rfl,q⟩;rw[wap,wbM];omega
def zhO:V->List V->Hp->VK->Prop:=λx vs H Q=>∃l b xs zs,x=.ref l/\vs = [.ref b]/\H l=some (.lst xs)/\H b=some (.lst zs)/\xs.length+zs.length<=sizeLine/\Q .non (upd H l (.lst (xs++zs)))
def zhP:MtM X "list.extend" zhO:=by
 intro pins s Y H x vs v us Q I rx rv h;obtain⟨l,b,xs,zs,rfl,rfl,hH,hB,hz,q⟩:=h;cases rx;obtain⟨u,rfl,ru⟩:=rv.one;cases ru;obtain⟨z,its,n,r,hl,e⟩:=I.lstM hH;obtain⟨z2,its2,n2,r2,hl2,e2⟩:=I.lstM hB;have hsz:its.toArray.size+its2.toArray.size<=sizeLine:=by rw[wab,wab];omega
 have hlong:¬(!its.toArray.isEmpty&&Builtin.List.listTooLong (its.toArray.size+its2.toArray.size))=true:=by
  rw[zgi hsz,Bool.and_false];exact wbw
 refine call_meets F.slot_list_extend ⟨_,e,rfl⟩ F.entry_list_extend (F.args_list_extend_2 _ _)
  (AutoSeq1.list_extend_list_list_0 l its.toArray n b its2.toArray n2 hlong (by rw[wab];omega) (by omega)) ⟨e,e2,?_⟩
 refine⟨.non,_,I.lset (its':=its++its2) hH e (by simp) (r.append r2) ?_,rfl,q⟩;rw[wap];omega
def rCat:R2:=λx y H Q=>∃l b xs zs,x=.ref l/\y=.ref b/\H l=some (.lst xs)/\H b=some (.lst zs)/\xs.length+zs.length<=sizeLine/\∀p,H p=none->Q (.ref p) (upd H p (.lst (xs++zs)))
def op_cat:OpR X (binaryOp .Add) rCat:=by
 intro pins s Y H x y v u Q I rx ry h;obtain⟨l,b,xs,zs,rfl,rfl,hH,hB,hz,q⟩:=h;cases rx;cases ry;obtain⟨z,its,n,r,hl,e⟩:=I.lstM hH;obtain⟨z2,its2,n2,r2,hl2,e2⟩:=I.lstM hB;refine PySem.P.add_list e e2 ?_ (by rw[wab,wab];omega);have ea:its.toArray++its2.toArray=(its++its2).toArray:=by simp
 rw[ea];exact⟨.ref _,_,I.lnew (t':=s.toks) (r.append r2) (by rw[wap];omega),rfl,q _ I.fresh⟩
def rRep:R2:=λx y H Q=>∃l k xs,x=.ref l/\y=.int k/\H l=some (.lst xs)/\-(2 ^ 63)<=k/\k<2 ^ 63/\xs.length*k.toNat<=sizeLine/\
 ∀p,H p=none->Q (.ref p) (upd H p (.lst (List.replicate k.toNat xs).flatten))
def zlA {α:Type}(xs:List α)(k:Nat):(List.replicate k xs).flatten.length=k*xs.length:=by
 induction k with
|zero=>simp
|succ k ih=>rw[waZ,wbD,wap,ih,Nat.succ_mul,Nat.add_comm]
def znq:OpR X (binaryOp .Mult) rRep:=by
 intro pins s Y H x y v u Q I rx ry h;obtain⟨l,k,xs,rfl,rfl,hH,h1,h2,hz,q⟩:=h;cases rx;obtain⟨t,rfl⟩:=ry;obtain⟨z,its,n,r,hl,e⟩:=I.lstM hH;have hlen:its.toArray.size*k.toNat<=sizeLine:=by rw[wab,<-hl];exact hz
 have hcap:¬its.toArray.size*k.toNat>(2 ^ 63 - 1) / 8:=by
  have:(sizeLine:Nat)<=(2 ^ 63 - 1) / 8:=by decide
  omega
 have hfit:¬(!Builtin.List.listFitsIndex k)=true:=by
  rw[fitsIndex_both h1 h2];exact wbw
 have hlong:¬Builtin.List.listTooLong (its.toArray.size*k.toNat)=true:=by
  rw[zgi hlen];exact wbw
 have hnew:List.foldl (λx1 x2=>x1++x2) #[] (List.replicate (if its.toArray.isEmpty=true then 0 else k.toNat) its.toArray)=(List.replicate k.toNat its).flatten.toArray:=by
  have f0:∀m:Nat,List.foldl (λx1 x2=>x1++x2) #[] (List.replicate m its.toArray)=(List.replicate m its).flatten.toArray:=λm=>by
   have:=zeR its m []
   rw[List.nil_append] at this;exact this
  rw[f0];cases its with
 |nil=>simp
 |cons a r'=>rw[if_neg (by simp)]
 refine wpAny_binaryOp_repeat_ref (T:="list") (U:="int") (by decide) ⟨_,e,rfl⟩ (λs'=>typeIs_int s' k t) noFill_list_mul F.fills_int_mul F.slot_int_rmul repeat_list F.slot_int_index.lookup
  (call_meets F.slot_int_rmul (typeIs_int s k t) F.entry_int_rmul (F.args_int_rmul_2 _ _) (int___rmul___int_list k t l its.toArray n)
   ⟨e,rfl,⟨_,e,rfl⟩,call_meets F.slot_list_mul ⟨_,e,rfl⟩ F.entry_list_mul (F.args_list_mul_2 _ _) (AutoListH.list___mul___list_int_3 l its.toArray n k t hfit hcap hlong) ⟨e,?_⟩⟩)
 rw[hnew];exact⟨.ref _,_,I.lnew (t':=s.toks) (r.rep k.toNat) (by rw[zlA,Nat.mul_comm];exact hz),rfl,q _ I.fresh⟩
end
section
variable {prog:Program}{w:World}{A:Around}{E:Value->Shared->Prop}{s:Shared}
end
section
variable {X:Cx}
end
end L2
namespace Att
open PySem PySem.W PySem.Calls PyProof.Rows
def zdy {P:Params}{h:Heap}:∀(ns:List Int) (vs:List Value),WellAll P h vs (ns.map WData.int)->IntsAre vs ns:=by
 intro ns;induction ns with
|nil=>
   intro vs w;rw[List.map_nil] at w;cases w;exact .nil
|cons n ns ih=>
   intro vs w;rw[waL] at w;cases w with
  |cons a b=>
     cases a;exact .cons _ _ (ih _ b)
def zhQ {l:OpenLaw}{n:Nat}(hn:l.most=some n){P:Params}{h:Heap}{args:List WData}{vals:List Value}
 (hpre:l.row.toRowW.claim.pre args=true) (hwl:WellAll P h vals args) :
 ∃a vs ns,vals = [Value.ref a]/\args = [WData.list (ns.map WData.int)]/\h.get? a=some {cls:=.type "list",data:=.seq vs.toArray}/\IntsAre vs ns/\ns.length<=n:=by
 have hsh:WShape.hasAll [] args [.list .int]=true:=(pre_splitW hpre).1
 have hc:l.pre.holds [] {args:=args}=true:=(pre_splitW hpre).2
 obtain⟨d,r,rfl,h1,h2⟩:=hasAllW_cons hsh;obtain rfl:=hasAllW_nil h2;obtain⟨xs,rfl,h3⟩:=hasW_list h1;obtain⟨ns,rfl⟩:=items_int h3;have hlen:ns.length<=n:=by
  unfold OpenLaw.pre at hc;have h4:(WTm.not (.lt (.lit (.int (n:Int))) (.len (.arg 0)))).holds [] {args:=[.list (ns.map .int)]}=true:=by
   have h4:=(holds_andW hc).1
   rw[hn] at h4;exact h4
  have h5:=condW_of h4 (w_not (w_lt w_lit (w_len_list (w_arg rfl))))
  rw[wam] at h5;refine Nat.le_of_not_lt λq=>?_
  have q':(n:Int)<((ns.length:Nat):Int):=by omega
  first
  |(rw[waA q'] at h5;exact absurd h5 (by decide))
  |(simp at h5;omega)
 cases hwl with
|cons w1 w2=>
   cases w2;cases w1 with
  |list ho hall=>exact⟨_,_,ns,rfl,rfl,ho,zdy ns _ hall,hlen⟩
def zhR (l:OpenLaw)(args:List WData):l.row.toRowW.claim.post args (.bool true) args=true:=
 postW_of (r:=l.row.toRowW) (X:=(true == true))
  (show WShape.has [] (.bool true) .bool=true by first|rfl|decide|simp[WShape.has,WShape.arms,WShape.armsAll])
  (show(WTm.eq .res (.lit (.bool true))).value [] {args:=args,res:=some (.bool true),after:=args}=some (.bool (true == true)) from w_eq_bool (w_res rfl) w_lit) rfl
def attach_call {l:OpenLaw}{n:Nat}{q:Program}{loose:List Str}{XP:(Str->Option Value)->Heap->Prop}{YP:World->Heap->Prop}{d:DefRec}
 (hn:l.most=some n) (hdf:d.params.defaults = [])
 (call:∀(w:World) (s₀ s₁:Shared) (mg mb:Str->Option Value) (fa:Addr) (o:Obj) (pm cd doc:Value) (a:Addr) (vs:List Value) (ns:List Int),
  Ground q loose [] XP w s₀ mg mb s₁.heap->YP w s₁.heap->
  s₁.heap.get? fa=some o->o.data=.func (docDef d.name d.params d.body d.scope pm cd doc)->s₁.heap.CodeRec cd d.name->mg d.name=some (.ref fa)->
  s₁.heap.get? a=some {cls:=.type "list",data:=.seq vs.toArray}->IntsAre vs ns->ns.length<=n->s₁.gens = #[]->
  codeAny (model l.prog w) callerA (.call (.ref fa) ⟨[.ref a],[]⟩) (λr s'=>r=.ok (.ret (.bool true))/\OldK s₁.heap s'.heap/\s'.os=s₁.os/\AllBare s'.gens) s₁) :
 WalkO q loose XP YP l.row.toRowW d [] (λf vs=>PySem.call f vs):=by
 intro w s₀ s₁ mg mb G Y fa o pm cd doc dV kV ho hd hcd hD hmg hg args vals as hpre hlay hrd hwl hlo;obtain rfl:dV=.none:=Dflts.none hD hdf;obtain rfl:kV=.none:=Dflts.noKw hD;obtain⟨a,vs,ns,rfl,rfl,hobj,hints,hlen⟩:=zhQ hn hpre hwl;refine enter_call (wcy (call w s₀ s₁ mg mb fa o pm cd doc a vs ns G Y ho (fd_plain hd) hcd hmg hobj hints hlen hg) λr s' hq=>?_);obtain⟨rfl,h2,h3,h4⟩:=hq;exact⟨.inl ⟨.bool true,.bool true,[],rfl,λ_=>rfl,.bool true,zhR l _,λ_=>⟨List.Pairwise.nil,λ_ hm=>(nomatch hm)⟩⟩,h2,h3,h4⟩
section
variable {prog:Program}{w:World}{A:Around}{E:Value->Shared->Prop}{s:Shared}{K:Frag}
end
end Att
namespace L2
open PySem PySem.Spec PyProof.Rows
theorem zeT:∀{vs:List Value}{ns:List Int},IntsAre vs ns->Vals (ns.map V.int) vs
|_,_,.nil=>.nil
|_,_,.cons n t h=>.cons ⟨t,rfl⟩ (zeT h)
def Only (H:Hp):Prop:=∀b,H b=none\/∃o xs,H b=some (.frz o (.lst xs))
def zbx (s:Stmt):Arguments:=match s with
|.FunctionDef _ a _ _ _ _ _ _ _ _=>a
|_=>{posonlyargs:=[],args:=[],vararg:=none,kwonlyargs:=[],kw_defaults:=[],kwarg:=none,defaults:=[]}
def zaW (s:Stmt):List Stmt:=match s with
|.FunctionDef _ _ b _ _ _ _ _ _ _=>b
|_=>[]
def zab (s:Stmt):Scope:=match s with
|.FunctionDef _ _ _ _ _ _ sc _ _ _=>sc
|_=>{kind:=.function,names:=[],isGenerator:=false,isCoroutine:=false}
abbrev CX0:CXT:=λ_ _ _ _ _ _=>False
abbrev E0:XK:=λ_ _ _=>False
def znr {X:Cx}:zhH CX0 X E0:=λ_ _ _ _ _ _ _ h=>h.elim
structure Fun (K:W.Frag)(x qual:Str)(st:Stmt)(f:Addr)(fd:FuncData):Prop where
 ex:∃(oc:Value) (od:Option Addr) (kV doc pm:Value) (an:Option Addr) (cdv ct:Value) (osl:Array (Option Value)),
  fd=W.fnOf x qual (zbx st) (zaW st) (zab st) .none kV doc pm an cdv ct/\K.lookup f=some ⟨oc,od,.func fd,osl⟩ /\W.codeIn K cdv qual=true
 kp:W.keepIn K (.ref f)=true
section
variable {P:Program}{w:World}{K:W.Frag}{mg:Str->Option Value}{base:Heap}
def Fun.ok {x qual:Str}{st:Stmt}{f:Addr}{fd:FuncData}{N ps:List Str}{k:Nat}{sp:Sp}(F:Fun K x qual st f fd)(S:FnScope N ps (zab st))(len:∀vs H Q E,sp vs H Q E->vs.length=ps.length)
 (hbody:∀(cdv:Value) (A:Around) (outer:List Env) (s:Shared) (H:Hp) (vs:List V) (Q:VK) (E:XK),Room k (A.deeper (envOfC qual (zab st) s.heap.objs.size f cdv))->sp vs H Q E->
  ∃t,PSs (cxOf CX0 P w K mg base N qual (zab st) f cdv A outer s H E).nox (zaW st) t/\t {nx:=λ_ H'=>Q .non H',rt:=Q} (start N vs) H):FnOk P w K mg base CX0 (k+1) f fd ps sp:=by
 obtain⟨oc,od,kV,doc,pm,an,cdv,ct,osl,rfl,lk,hcd⟩:=F.ex;refine zlv lk hcd S len λA outer s H vs Q E hr hsp=>?_
 obtain⟨t,h,q⟩:=hbody cdv A outer s H vs Q E hr hsp;exact⟨t,h.nox,q⟩
def Fun.binds {x qual:Str}{st:Stmt}{f:Addr}{fd:FuncData}{ps:List Str}(F:Fun K x qual st f fd)
 (h:∀(kV doc pm:Value) (an:Option Addr) (cdv ct:Value) (us:List Value),us.length=ps.length->bindArgs (W.fnOf x qual (zbx st) (zaW st) (zab st) .none kV doc pm an cdv ct) ⟨us,[]⟩=pure (ps.zip us)):Binds K fd ps []:=by
 obtain⟨oc,od,kV,doc,pm,an,cdv,ct,osl,rfl,lk,hcd⟩:=F.ex;exact .all (h kV doc pm an cdv ct)
def zeU {x qual:Str}{st:Stmt}{f:Addr}{oc:Value}{od an:Option Addr}{osl:Array (Option Value)}{kV doc pm cdv ct:Value}(l:K.lookup f=some ⟨oc,od,.func (W.fnOf x qual (zbx st) (zaW st) (zab st) .none kV doc pm an cdv ct),osl⟩)
 (c:W.codeIn K cdv qual=true) (k:W.keepIn K (.ref f)=true):Fun K x qual st f (W.fnOf x qual (zbx st) (zaW st) (zab st) .none kV doc pm an cdv ct):=⟨⟨oc,od,kV,doc,pm,an,cdv,ct,osl,rfl,l,c⟩,k⟩
end
def zlB {A:Around}{k:Nat}(hr:Room k A):A.units+1<cLine:=wbx (Nat.add_le_add_left (by decide:1<=64) _) hr.units
section
variable {X:Cx}
end
def iteF {A B:Prop}(h:B):if false=true then A else B:=by
 rw[if_neg wbw];exact h
def iteT {A B:Prop}(h:A):if true=true then A else B:=by
 rw[if_pos rfl];exact h
def Same (H H':Hp):Prop:=∀b o,H b=some o->H' b=some o
def Same.refl (H:Hp):Same H H:=λ_ _ h=>h
def Same.trans {H H1 H2:Hp}(a:Same H H1)(b:Same H1 H2):Same H H2:=λc o h=>b c o (a c o h)
def Same.free {H H':Hp}(e:Same H H'){l:Addr}(h:H' l=Option.none):H l=Option.none:=by
 cases q:H l with
|none=>rfl
|some o=>
   rw[e l o q] at h;cases h
end L2
namespace L2
open PySem PySem.Spec PyProof PyProof.Rows
structure CodeK (K:W.Frag)(c P:Addr):Prop where
 ex:∃(o:Obj) (vs:Array Value) (file:Str) (tf:Tok) (flags:Int) (tg:Tok) (inF:Bool) (text:Int) (tt:Tok),K.lookup c=some o/\o.cls=.type "code"/\o.data=.fields vs/\vs[11]?=some (.ref P)/\vs.getD 11 .none=.ref P/\
  vs.getD 18 .none=.str file tf/\vs.getD 7 .none=.int flags tg/\vs.getD 9 .none=.bool inF/\vs.getD 10 .none=.int text tt/\c≠P
abbrev tabO (ps:Array Value):Obj:={cls:=.none,data:=.fields ps}
def CodeK.of {K:W.Frag}{c P:Addr}{h:Heap}{q:Str}(X:K.In h)(hc:W.codeIn K (.ref c) q=true)(B:Based h h c P #[]):CodeK K c P:=by
 have hl:∃o,K.lookup c=some o:=by
  unfold W.codeIn at hc;cases e:K.lookup c with
 |some o=>exact⟨o,rfl⟩
 |none=>simp only[e] at hc;cases hc
 obtain⟨o,lo⟩:=hl;obtain⟨⟨o1,vs1,a1,a2,a3,a4⟩,_⟩:=B.tab;obtain⟨o2,vs2,file,tf,flags,tg,inF,text,tt,op,b1,b2,b3,b4,b5,b6,b7,b8,b9,b10,b11⟩:=B.code;rw[X _ _ lo] at a1 b1;cases a1;cases b1;rw[a3] at b2;cases b2;exact⟨o,_,file,tf,flags,tg,inF,text,tt,lo,a2,a3,a4,b3,b4,b5,b6,b7,b11⟩
section
variable {X:Cx}{pins:List (Addr×Obj)}{Y:St}{H:Hp}{s:Shared}
def TabC (H:Hp)(ps qs:Array Value):Prop:=TriplesOk qs.toList/\∀pos cv,codeAmong pos qs.toList=some cv->∃c' o u vs t q,cv=Value.ref c'/\H c'=some (.frz o u)/\o.data=.fields vs/\vs[1]?=some (Value.str q t)/\ps[0]?=some (Value.str q 0)
def Inv.tblAt {P:Addr}{ps:Array Value}(I:Inv X pins Y H s)(h:H P=some (.tbl ps)):∃qs:Array Value,s.heap.get? P=some (tabO qs)/\TabC H ps qs:=I.hok P _ h
def Inv.ne_tbl {P b:Addr}{ps:Array Value}(h:H P=some (.tbl ps))(n:H b=none):b≠P:=λz=>by subst z;rw[h] at n;cases n
end
section
variable {X:Cx}{a b c:Expr}{ta tb tc:TE}{pos:Pos}
def rSlS:V->Option Int->Option Int->Hp->VK->Prop:=λx lo hi H Q=>∃z,x=.str z/\z.length<=sizeLine/\Q (.str (Txt.slice z lo hi)) H
def zkG:SlR X rSlS:=by
 intro pins s Y H x v vl vu lo hi sl Q I rx hs pl pu h;obtain⟨z,rfl,hz,q⟩:=h;obtain⟨t,rfl⟩:=rx;refine⟨"str",_,F.slot_str_getitem.lookup,typeIs_str _ _ _,?_⟩;obtain⟨o,e1,e2,e3⟩:=hs;cases pl with
|none=>
   cases pu with
  |none=>exact wbJ (l:=none) (u:=none) (st:=none) ⟨o,e1,e2,e3⟩ rfl (post_val_or_str ⟨waq (Txt.slice_le z _ _) hz,λt' k=>⟨.str (Txt.slice z none none),H,I.tok _,⟨_,rfl⟩,q⟩⟩)
  |int j uj=>exact wbJ (l:=none) (u:=some (j,uj)) (st:=none) ⟨o,e1,e2,e3⟩ rfl (post_val_or_str ⟨waq (Txt.slice_le z _ _) hz,λt' k=>⟨.str (Txt.slice z none (some j)),H,I.tok _,⟨_,rfl⟩,q⟩⟩)
|int i ui=>
   cases pu with
  |none=>exact wbJ (l:=some (i,ui)) (u:=none) (st:=none) ⟨o,e1,e2,e3⟩ rfl (post_val_or_str ⟨waq (Txt.slice_le z _ _) hz,λt' k=>⟨.str (Txt.slice z (some i) none),H,I.tok _,⟨_,rfl⟩,q⟩⟩)
  |int j uj=>exact wbJ (l:=some (i,ui)) (u:=some (j,uj)) (st:=none) ⟨o,e1,e2,e3⟩ rfl (post_val_or_str ⟨waq (Txt.slice_le z _ _) hz,λt' k=>⟨.str (Txt.slice z (some i) (some j)),H,I.tok _,⟨_,rfl⟩,q⟩⟩)
def zfF {z:Str}{n:Int}(h1:-1000<=n)(h2:n<=1000)(h3:z.length<=1000):MulOk z n:=by
 refine⟨?_,λh _=>?_,λh _=>?_⟩
 .have e1:¬n < -(2 ^ 63:Int):=by omega
  have e2:¬n≥2 ^ 63:=by omega
  rw[wat e1,wat e2];rfl
 .have:(1000:Int)<=(2 ^ 63 - 1) / n:=by
   rw[Int.le_ediv_iff_mul_le (by omega)];omega
  omega
 .have h4:z.length*n.toNat<=1000*1000:=wcB h3 (by omega)
  unfold PySem.Builtin.Str.tooLong;simp only[decide_eq_false_iff_not];have:sizeLine=16777216:=sizeLine_eq
  omega
def op_rep_str:OpR X (binaryOp .Mult) (λx y H Q=>∃z n,x=.str z/\y=.int n/\-1000<=n/\n<=1000/\z.length<=1000/\Q (.str (Txt.mul z n)) H):=by
 intro pins s Y H x y v u Q I rx ry h;obtain⟨z,n,rfl,rfl,h1,h2,h3,q⟩:=h;obtain⟨t,rfl⟩:=rx;obtain⟨t',rfl⟩:=ry;exact SB.mul (zfF h1 h2 h3) λt' k=>⟨.str (Txt.mul z n),H,I.tok _,⟨_,rfl⟩,q⟩
def zfG:zcE X (.builtin "isinstance") (λxs H Q=>∃x n t k,xs = [x,.ty n]/\TyOf X.K H x t/\PySem.W.kitOne X.K t (.type n)=some k/\Q (.bl k) H):=by
 intro pins s Y H xs us Q I r h;obtain⟨x,n,t,k,rfl,ty,e,q⟩:=h;obtain⟨u,w',rfl,r1,r2⟩:=zhE r;obtain rfl:w'=Value.type n:=r2;exact zhG I r1 ty e λtk=>⟨.bl k,H,I.tok _,rfl,q⟩
end
def ObjOk.there {P:Program}{w:World}{H:Hp}{h:Heap}{a:Addr}{o:HO}(x:ObjOk P w H h a o):∃ob,h.get? a=some ob:=by
 induction o with
|lst xs=>obtain⟨z,its,n,r,e⟩:=x;exact⟨_,e⟩
|tup xs=>obtain⟨z,its,r,ob,e,c⟩:=x;exact⟨_,e⟩
|dK kvs=>obtain⟨z,y,vs,r,ob,es,ep,e,c⟩:=x;exact⟨_,e⟩
|dT kvs=>obtain⟨z,y,xs,r,ob,es,ep,e,c⟩:=x;exact⟨_,e⟩
|set S n=>obtain⟨ob,es,ep,t,e,c⟩:=x;exact⟨_,e⟩
|ins C dx fs=>obtain⟨d,z,ne,e,_⟩:=x;exact⟨_,e⟩
|own y=>exact x
|xd fs=>obtain⟨mA,⟨od,es,ep,e,c⟩,r⟩:=x;exact⟨_,e⟩
|rng lo hi=>obtain⟨t,u,v,e⟩:=x;exact⟨_,e⟩
|frz ob u ih=>exact⟨_,x.1⟩
|tbl ps=>obtain⟨_,e,_⟩:=x;exact⟨_,e⟩
|met f y=>exact⟨_,x⟩
|ext φ=>exact x.2.1
section
variable {P:Program}{w:World}{K:W.Frag}{mg:Str->Option Value}{base:Heap}
def Fun.okC {x qual:Str}{st:Stmt}{f:Addr}{fd:FuncData}{N ps:List Str}{k:Nat}{sp:Sp}(F:Fun K x qual st f fd)(S:FnScope N ps (zab st))(len:∀vs H Q E,sp vs H Q E->vs.length=ps.length)
 (hbody:∀(cdv:Value) (A:Around) (outer:List Env) (s:Shared) (H:Hp) (vs:List V) (Q:VK) (E:XK),fd.code=cdv->Room k (A.deeper (envOfC qual (zab st) s.heap.objs.size f cdv))->sp vs H Q E->
  ∃t,PSs (cxOf CX0 P w K mg base N qual (zab st) f cdv A outer s H E).nox (zaW st) t/\t {nx:=λ_ H'=>Q .non H',rt:=Q} (start N vs) H):FnOk P w K mg base CX0 (k+1) f fd ps sp:=by
 obtain⟨oc,od,kV,doc,pm,an,cdv,ct,osl,rfl,lk,hcd⟩:=F.ex;refine zlv lk hcd S len λA outer s H vs Q E hr hsp=>?_
 obtain⟨t,h,q⟩:=hbody cdv A outer s H vs Q E rfl hr hsp;exact⟨t,h.nox,q⟩
end
structure Tabs (K:W.Frag)(h:Heap)(tb:List Addr):Prop where
 at_:∀P∈tb,∃c,h.TableAt c P #[]
 out:∀P∈tb,K.lookup P=none
def zhS {P:Program}{w:World}{K:W.Frag}{mg mb:Str->Option Value}{CX:CXT}{k:Nat}{fa a bm:Addr}{ob:Obj}{fd:FuncData}{x:Str}{sp:Sp}{s₁:Shared}{vs:List Value}{ns:List Int}{tb:List Addr}{nm:Addr->Array Value}
 (KX:K.In s₁.heap) (hns:s₁.heap.Ns mainGlobals mg) (hb:s₁.heap.Ns builtinsNs mb) (hbb:∀x:Str,x≠"__name__"->mb x=bootBuiltins x) (hlim:s₁.heap.NoLimit) (hg:s₁.gens = #[]) (hBM:BMod s₁.heap mainGlobals mg bm ob)
 (ha:s₁.heap.get? a=some {cls:=.type "list",data:=.seq vs.toArray}) (hi:IntsAre vs ns) (hl:ns.length<=sizeLine) (hr:Room k callerA) (hT:Tabs K s₁.heap tb)
 (F:∀base:Heap,K.In base->base.Ns mainGlobals mg->BMod base mainGlobals mg bm ob->FnOk P w K mg base CX k fa fd [x] sp) (hbind:∀(s:Shared) (u:Value),BindsTo s fd ⟨[u],[]⟩ [(x,u)])
 (hsp:∀H:Hp,(∀P∈tb,H P=some (.tbl (nm P)))->SqL K H a (ns.map V.int)->(H a≠none->∃o xs,H a=some (.frz o (.lst xs)))->sp [.ref a] H (λv _=>v=.bl true) λ_ _ _=>False)
 (hCX:∀H e s',CX [] H s₁ (λ_ _ _=>False) e s'->False) :
 codeAny (model P w) callerA (.call (.ref fa) ⟨[.ref a],[]⟩) (λr s'=>r=.ok (.ret (.bool true))/\OldK s₁.heap s'.heap/\s'.os=s₁.os/\AllBare s'.gens) s₁:=by
 have rv:=zeT hi
 have lenV:=hi.length
 have tabAt:∀P∈tb,s₁.heap.get? P=some (tabO #[]):=λP hP=>by obtain⟨c,h⟩:=hT.at_ P hP;exact h.2
 have aT:a∉tb:=λh=>by have:=tabAt a h;rw[ha] at this;cases this
 have core:∀H:Hp,(∀P∈tb,H P=some (.tbl (nm P)))->SqL K H a (ns.map V.int)->HOk P w H s₁.heap->(∀b,H b≠none->b=a\/b∈tb)->(H a≠none->K.lookup a=none/\∃o xs,H a=some (.frz o (.lst xs)))->
  codeAny (model P w) callerA (.call (.ref fa) ⟨[.ref a],[]⟩) (λr s'=>r=.ok (.ret (.bool true))/\OldK s₁.heap s'.heap/\s'.os=s₁.os/\AllBare s'.gens) s₁:=by
  intro H hTb hS hok hA hK;have base_of:∀{b:Addr}{o:Obj},s₁.heap.get? b=some o->H b=none->(hidT s₁.heap H).get? b=some o:=λe n=>zjj e n
  have noA:∀{b:Addr}{o:Obj},s₁.heap.get? b=some o->o.cls≠.type "list"->(o.cls≠.none\/∃es ep,o.data=.dict es ep)->H b=none:=λ{b o} e d1 d2=>by
   cases q:H b with
  |none=>rfl
  |some u=>
     rcases hA b (by rw[q];simp) with e'|e'
     .subst e';rw[ha] at e;cases e;exact absurd rfl d1
     .rw[tabAt b e'] at e;cases e;rcases d2 with d|⟨es,ep,d⟩
      .exact absurd rfl d
      .cases d
  have noD:∀{b:Addr}{o:Obj}{es:Array DictEntry}{ep:Nat},s₁.heap.get? b=some o->o.data=.dict es ep->H b=none:=λ{b o es ep} e d=>by
   cases q:H b with
  |none=>rfl
  |some u=>
     rcases hA b (by rw[q];simp) with e'|e'
     .subst e';rw[ha] at e;cases e;have d':Data.seq vs.toArray _=Data.dict es ep:=d
      cases d'
     .rw[tabAt b e'] at e;cases e;cases d
  have nsK:∀{b:Addr}{m:Str->Option Value},s₁.heap.Ns b m->(hidT s₁.heap H).Ns b m:=λ{b m} ⟨o,es,ep,e,d,r⟩ =>⟨o,es,ep,base_of e (noD e d),d,r⟩
  have hKb:K.In (hidT s₁.heap H):=λb o e=>base_of (KX b o e) (by
   cases q:H b with
  |none=>rfl
  |some u=>
     rcases hA b (by rw[q];simp) with e'|e'
     .subst e';rw[(hK (by rw[q];simp)).1] at e;cases e
     .rw[hT.out b e'] at e;cases e)
  have hM:Mod K mg (hidT s₁.heap H):=⟨hKb,nsK hns,⟨mb,nsK hb,hbb⟩,let ⟨mc,h1,h2⟩:=hlim;⟨mc,nsK h1,h2⟩⟩
  have hBM':BMod (hidT s₁.heap H) mainGlobals mg bm ob:=⟨nsK hBM.ns,hBM.name,hBM.ne,base_of hBM.obj (noA hBM.obj (by rw[hBM.cls];simp) (.inl (by rw[hBM.cls];simp))),hBM.cls,hBM.dict,hBM.data⟩
  have e0:Env0 P w K mg (hidT s₁.heap H) callerA [] s₁ H:=⟨rfl,hM,λb o e=>zlg e,waX (zhu _ _),trivial,λb hb=>absurd (show b∈([]:List Addr) from hb) (by simp),hok,.of_eq hg⟩
  refine wcy ((F _ hKb (nsK hns) hBM').run callerA [] s₁ H ⟨[.ref a],[]⟩ [.ref a] [.ref a] _ _ hr e0 (hbind s₁ (.ref a)) (.cons rfl .nil) (hsp H hTb hS λz=>(hK z).2)) λr s' h=>?_
  cases r with
 |error e=>exact(hCX H e s' h).elim
 |ok fl=>
    cases fl with
   |next=>exact False.elim h
   |brk=>exact False.elim h
   |cont=>exact False.elim h
   |ret u=>
      obtain⟨v,H',os,bare,un,hok',r',q⟩:=h;have q':v=.bl true:=q
      subst q';obtain rfl:u=Value.bool true:=r';have key:∀b o,s₁.heap.get? b=some o->asItWas s₁.heap s'.heap b o:=λb o e=>by
       cases q:H b with
      |none=>exact .inl (un.keep b o e q (by intro z;exact absurd (show b∈([]:List Addr) from z) (by simp)) (by simp))
      |some u=>
         rcases hA b (by rw[q];simp) with e'|e'
         .subst e';obtain⟨_,oo,xs,z⟩:=hK (by rw[q];simp);have z2:=un.frzs b oo _ z
          obtain⟨e1,_⟩:=hok b _ z;obtain⟨e2,_⟩:=hok' b _ z2;rw[e] at e1;cases e1;exact .inl e2
         .obtain⟨more,z⟩:=un.tbls b _ (hTb b e');obtain⟨qs,e2,_⟩:=hok' b _ z;obtain⟨c,ht⟩:=hT.at_ b e';rw[tabAt b e'] at e;cases e;exact .inr (.inl ⟨ht.isCodeTable,rfl,#[],qs,rfl,by simpa using e2⟩)
      refine⟨rfl,⟨key,λb o e=>un.there b o e (by simp)⟩,os,bare⟩
 cases hk:K.lookup a with
|some o=>
   have e:=KX a o hk
   rw[ha] at e;cases e;refine core (λb=>if b∈tb then some (.tbl (nm b)) else none) (λP hP=>if_pos hP) (.inr ⟨_,vs.toArray,_,hk,rfl,rfl,rfl,by rw[wab,lenV];exact hl,by simpa using rv⟩) (λb u z=>?_) (λb z=>?_) λz=>absurd (if_neg aT) z
   .by_cases hb':b∈tb
    .have z':=(if_pos hb').symm.trans z
     cases z';exact⟨#[],tabAt b hb',trivial,λpos cv q=>by simp[codeAmong] at q⟩
    .have z':=(if_neg hb').symm.trans z
     cases z'
   .by_cases hb':b∈tb
    .exact .inr hb'
    .exact absurd (if_neg hb') z
|none=>
   have hA:∀b,(if b=a then some (HO.frz {cls:=.type "list",data:=.seq vs.toArray} (.lst (ns.map V.int))) else if b∈tb then some (.tbl (nm b)) else none:Option HO)≠none->b=a\/b∈tb:=λb z=>by
    by_cases h1:b=a
    .exact .inl h1
    .rw[if_neg h1] at z;by_cases h2:b∈tb
     .exact .inr h2
     .rw[if_neg h2] at z;exact absurd rfl z
   refine core (λb=>if b=a then some (.frz {cls:=.type "list",data:=.seq vs.toArray} (.lst (ns.map V.int))) else if b∈tb then some (.tbl (nm b)) else none) (λP hP=>?_) (.inl (.inr ⟨{cls:=.type "list",data:=.seq vs.toArray},if_pos rfl⟩)) (λb u z=>?_) hA λ_=>⟨hk,_,_,if_pos rfl⟩
   .have:P≠a:=λz=>aT (z▸hP)
    show(if P=a then _ else if P∈tb then _ else _)=_
    rw[if_neg this,if_pos hP]
   .by_cases hb':b=a
    .have z':=(if_pos hb').symm.trans z
     cases z';subst hb';exact⟨ha,by rw[wam];exact hl,vs,_,rv,ha⟩
    .have z':=(if_neg hb').symm.trans z
     by_cases h2:b∈tb
     .have z2:=(if_pos h2).symm.trans z'
      cases z2;exact⟨#[],tabAt b h2,trivial,λpos cv q=>by simp[codeAmong] at q⟩
     .have z2:=(if_neg h2).symm.trans z'
      cases z2
def zfH {K:W.Frag}{h:Heap}{mg:Str->Option Value}{c P:Addr}{ps:Array Value}(X:K.In h)(G:h.Ns mainGlobals mg)(B:Based h h c P ps)(hK:PySem.W.kb_classed K=true):K.lookup P=none:=by
 cases e:K.lookup P with
|none=>rfl
|some o=>
   have ha:=X P o e
   have q:=waJ.mp hK (P,o) (PySem.W.kb_mem e)
   simp only[Bool.or_eq_true,decide_eq_true_eq,beq_iff_eq] at q;rcases q with(q|q)|q
   .exact absurd rfl (B.ne_of_cls ha q)
   .exact absurd q B.notStatics
   .exact absurd q.symm (B.ne_of_ns G)
def zju {l:PySem.W.OpenLaw}{n k:Nat}{q:Program}{loose:List Str}{XP:(Str->Option Value)->Heap->Prop}{YP:World->Heap->Prop}{d:DefRec}{K:Params->W.Frag}{CX:World->CXT}{sp:World->List Addr->(Addr->Array Value)->Sp}{x:Str}
 (hn:l.most=some n) (hn2:n<=sizeLine) (hdf:d.params.defaults = []) (hr:Room k callerA)
 (hY:∀(w:World) (h:Heap),YP w h->(K w.params).In h)
 (F:∀(w:World) (mg mb:Str->Option Value) (mean:ExcName->Option Value) (fa:Addr) (h:Heap),(K w.params).In h->Top q (PySem.W.looseW q loose) mean mg mb h->mg d.name=some (.ref fa)->
  ∃(fd:FuncData) (tb:List Addr) (nm:Addr->Array Value),Tabs (K w.params) h tb/\(∀(s:Shared) (u:Value),BindsTo s fd ⟨[u],[]⟩ [(x,u)])/\
   ∀(base:Heap) (bm:Addr) (ob:Obj),(K w.params).In base->base.Ns mainGlobals mg->BMod base mainGlobals mg bm ob->FnOk l.prog w (K w.params) mg base (CX w) k fa fd [x] (sp w tb nm))
 (hsp:∀(w:World) (tb:List Addr) (nm:Addr->Array Value) (H:Hp) (a:Addr) (ns:List Int),ns.length<=n->(∀P∈tb,H P=some (.tbl (nm P)))->SqL (K w.params) H a (ns.map V.int)->(H a≠none->∃o xs,H a=some (.frz o (.lst xs)))->sp w tb nm [.ref a] H (λv _=>v=.bl true) λ_ _ _=>False)
 (hCX:∀(w:World) (H:Hp) (s:Shared) (e:Value) (s':Shared),CX w [] H s (λ_ _ _=>False) e s'->False) :
 PySem.W.WalkO q loose XP YP l.row.toRowW d [] (λf vs=>PySem.call f vs):=by
 refine Att.attach_call hn hdf λw s₀ s₁ mg mb fa o pm cd doc a vs ns G Y ho hd hcd hmg hobj hints hlen hg=>?_
 have KX:=hY w _ Y
 obtain⟨fd,tb,nm,hT,hb,hF⟩:=F w mg mb _ fa _ KX G.T hmg;obtain⟨bm,ob,hBM⟩:=PySem.W.bmod_of_top G.T;exact zhS KX G.T.g G.T.b G.T.builtins G.T.nolimit hg hBM hobj hints (waq hlen hn2) hr hT (λbase h1 h2 h3=>hF base bm ob h1 h2 h3) hb (λH hO hS hF=>hsp w tb nm H a ns hlen hO hS hF) λH e s'=>hCX w H s₁ e s'
def PTs (X:Cx)(ifs:List Expr)(t:TT):Prop:=
 ∀(pins:List (Addr×Obj)) (s:Shared) (Y:St) (H:Hp) (Q:Bool->Hp->Prop),Inv X pins Y H s->t Y H Q->
  wpAny (model X.prog X.w) X.A (forIn ifs true λc r=>if r=true then do let ok <-isTrue c X.env (eval c X.env);pure (ForInStep.yield ok) else pure (ForInStep.yield r)) (TP X pins Y Q) X.xe s
def zlC:TT:=λ_ H Q=>Q true H
def zlD {X:Cx}:PTs X [] zlC:=λ_ _ _ H _ I h=>wpAny_tests_nil ⟨H,I,h⟩
def zlE {X:Cx}{c:Expr}{t:TT}(h:PT X c t):PTs X [c] t:=λpins s Y H Q I hw=>wpAny_tests_one (h pins s Y H Q I hw)
def cxC (X:Cx)(scope:Scope)(cl:List (Str×Addr))(NC:List Str)(C:Addr)(s0:Shared)(H0:Hp)(ex:List Addr)(pn:List (Addr×Obj)):Cx where
 prog:=X.prog
 w:=X.w
 K:=X.K
 mg:=X.mg
 base:=X.base
 A:=X.A
 N:=NC
 s₀:=s0
 Hz:=H0
 env:=compEnvC scope cl C X.env
 outer:=X.stack
 stack:=X.stack
 ex:=ex
 fn:=λ_=>false
 calm:=true
 pn:=pn
 xe:=λ_ _=>False
def pick (Y:St)(fr:List (Option Nat)):St:=fr.map λo=>o.bind λj=>(Y[j]?).join
def zhT {prog:Program}{w:World}{A:Around}{R:Result->Shared->Prop}{s:Shared}{elt target iter:Expr}{ifs:List Expr}{scope:Scope}{pos:Pos}{it acc:Value}{env:Env}(I:Nat->Shared->Prop)
 (turn:∀n s,I n s->wpAny (model prog w) A (pyNext it) (λr s1=>
  (r=none->R (.ok .next) s1)/\∀v,r=some v->wpAny (model prog w) A (letOwnedTupleGo target it v) (λ_ s2=>wpAny (model prog w) A (assign target env v) (λ_ s3=>
   wpAny (model prog w) A (forIn ifs true λc r=>if r=true then do let ok <-isTrue c env (eval c env);pure (ForInStep.yield ok) else pure (ForInStep.yield r)) (λok s4=>
    (ok=true->wpAny (model prog w) A (eval elt env) (λx s5=>wpAny (model prog w) A (call (.builtin "list.append") [acc,x]) (λ_ s6=>∃m,m<n/\I m s6) (λ_ _=>False) s5) (λ_ _=>False) s4)/\
    (ok=false->∃m,m<n/\I m s4)) (λ_ _=>False) s3) (λ_ _=>False) s2) (λ_ _=>False) s1) (λ_ _=>False) s)
 (n:Nat) (h:I n s):codeAny (model prog w) A (.compLoop (.ListComp elt [⟨target,iter,ifs,0⟩] scope pos) 0 it acc env) R s:=by
 refine codeAny_loop rfl I (λn s hI=>?_) n h;refine wpAny_noted (m:=compTurn (.ListComp elt [⟨target,iter,ifs,0⟩] scope pos) 0 it acc env) ?_;rw[compTurn_list];refine waa (wbh (waa (wax (turn n s hI) (λr s1 h1=>?_) λ_ _ f=>f.elim)));cases r with
|none=>exact wak (h1.1 rfl)
|some v=>
   refine waa (wax (h1.2 v rfl) (λ_ s2 h2=>?_) λ_ _ f=>f.elim);refine waa (wax h2 (λ_ s3 h3=>?_) λ_ _ f=>f.elim);refine waa (wax h3 (λok s4 h4=>?_) λ_ _ f=>f.elim);cases ok with
  |false=>exact wak ⟨rfl,h4.2 rfl⟩
  |true=>exact waa (waa (wax (h4.1 rfl) (λx s5 h5=>waa (wax h5 (λ_ s6 h6=>wak (wak ⟨rfl,h6⟩)) λ_ _ f=>f.elim)) λ_ _ f=>f.elim))
def tGen {τ:Type}(ac:τ->HO)(t0:τ)(fr:List (Option Nat))(wi:TI)(g:TG)(tt:TT)(tel:Addr->τ->St->Hp->(τ->Hp->Prop)->Prop):TE:=λY H Q=>wi Y H λJ H1=>∀D,H1 D=none->∃W:Nat->Nat->τ->St->Hp->Prop,
 (∃m,W 0 m t0 (pick Y fr) (upd H1 D (ac t0)))/\∀i m ys Y2 H2,W i m ys Y2 H2->H2 D=some (ac ys)->
  (J.stop i H2/\Q (.ref D) H2)\/(J.go i H2/\∃N:τ->St->Hp->Prop,(∀zs Y' H',N zs Y' H'->∃m',m'<m/\W (i+1) m' zs Y' H')/\∀x H3,J.yld i H2 x H3->g x Y2 H3 λY4 H4=>tt Y4 H4 λok H5=>
   (ok=true->tel D ys Y4 H5 λzs H6=>N zs Y4 H6)/\
   (ok=false->H5 D=some (ac ys)/\N ys Y4 H5))
def telL (te:TE)(D:Addr)(ys:List V)(Y:St)(H:Hp)(Q:List V->Hp->Prop):Prop:=te Y H λv H6=>H6 D=some (.lst ys)/\ys.length<sizeLine/\Q (ys++[v]) (upd H6 D (.lst (ys++[v])))
def zeV (fr:List (Option Nat))(wi:TI)(g:TG)(tt:TT)(te:TE):TE:=tGen HO.lst [] fr wi g tt (telL te)
abbrev ElR:=Env->Addr->(Shared->Prop)->Shared->Prop
def zns (P:Program)(w:World)(A:Around)(cexp tg:Expr)(ifs:List Expr)(EL:ElR):Prop:=∀{R:Result->Shared->Prop}{s:Shared}{it:Value}{D:Addr}{env:Env}(I:Nat->Shared->Prop)
    (_:∀n s,I n s->wpAny (model P w) A (pyNext it) (λr s1=>
     (r=none->R (.ok .next) s1)/\∀v,r=some v->wpAny (model P w) A (letOwnedTupleGo tg it v) (λ_ s2=>wpAny (model P w) A (assign tg env v) (λ_ s3=>
      wpAny (model P w) A (forIn ifs true λc r=>if r=true then do let ok <-isTrue c env (eval c env);pure (ForInStep.yield ok) else pure (ForInStep.yield r)) (λok s4=>
       (ok=true->EL env D (λs6=>∃m,m<n/\I m s6) s4)/\
       (ok=false->∃m,m<n/\I m s4)) (λ_ _=>False) s3) (λ_ _=>False) s2) (λ_ _=>False) s1) (λ_ _=>False) s)
    (n:Nat) (_:I n s),codeAny (model P w) A (.compLoop cexp 0 it (.ref D) env) R s
def znt (P:Program)(w:World)(A:Around)(cexp:Expr):Prop:=∀{R:Result->Shared->Prop}{s:Shared}{it acc:Value}{env:Env},codeAny (model P w) A (.compLoop cexp 0 it acc env) R s->
    wpAny (model P w) A (pyIter it) (λit' s'=>codeAny (model P w) A (.compLoop cexp 0 it' acc env) R s') (notedBy (model P w) A env λx s'=>R (.error x) s') s->codeAny (model P w) A (.compStart cexp 0 it acc env) R s
def zgj {X:Cx}{τ:Type}{ac:τ->HO}{t0:τ}{Tn:String}{dt:Data}{cexp:Expr}{EL:ElR}{tel:Addr->τ->St->Hp->(τ->Hp->Prop)->Prop}{use:Option (Value->Sem Unit)}{R:Value->Shared->Prop}{pins:List (Addr×Obj)}{s:Shared}{Y:St}{H:Hp}{Q:VK}{cpos:Pos}{iter tg:Expr}{ifs:List Expr}{scope:Scope}{cl:List (Str×Addr)}{NC:List Str}{fr:List (Option Nat)}{wi:TI}{g:TG}{tt:TT}{RR:Hp->Prop}(hRR:∀pins Y H s,Inv X pins Y H s->RR H)(hcalm:X.calm=true)(hi:PI X tg iter wi)
 (hclos:closureFor scope X.env=pure cl) (hcell:∀y∈scope.names,y.2≠.cell) (hkind:scope.kind=.function) (hnames:∀y∈scope.names,y.2=.local->scope.names.lookup y.1=some .local)
 (hcl:∀x c,cl.lookup x=some c->X.env.cells.lookup x=some c)
 (hhas:∀x,((compEnvC scope cl 0 X.env).kindOf x=some .cell\/(compEnvC scope cl 0 X.env).kindOf x=some .free)->∃c,cl.lookup x=some c)
 (hfr:∀(i:Nat) (x:Str) (j:Nat),NC[i]?=some x->fr[i]?=some (some j)->X.N[j]?=some x/\Vis X.env.scope x/\X.env.kindOf x≠some .local/\((compEnvC scope cl 0 X.env).kindOf x=some .cell\/(compEnvC scope cl 0 X.env).kindOf x=some .free))
 (hlen:fr.length=NC.length)
 (hg:∀C s0 H0 ex pn,PG (cxC X scope cl NC C s0 H0 ex pn) tg g) (ht:∀C s0 H0 ex pn,PTs (cxC X scope cl NC C s0 H0 ex pn) ifs tt) (hcls:clausesOf cexp = [⟨tg,iter,ifs,0⟩]) (hd:sizeOk dt)
 (hob:∀{pins Y H H' s},Inv X pins Y H s->ObjOk X.prog X.w H' (s.heap.push {cls:=.type Tn,dict:=none,data:=dt}) s.heap.objs.size (ac t0)) (LP:zns X.prog X.w X.A cexp tg ifs EL) (SR:znt X.prog X.w X.A cexp)
 (hel:∀C s0 H0 ex pn,RR H0->∀(pins:List (Addr×Obj)) (D:Addr) (ys:τ) (s:Shared) (Y:St) (H:Hp) (Po:Shared->Prop) (F:τ->Hp->Prop),Inv (cxC X scope cl NC C s0 H0 ex pn) pins Y H s->tel D ys Y H F->
  (∀s' zs H',Inv (cxC X scope cl NC C s0 H0 ex pn) pins Y H' s'->H' D=some (ac zs)->F zs H'->Po s')->EL (compEnvC scope cl C X.env) D Po s)
 (hs:∀x,foldedSetIterable iter X.env x=pure x) (I:Inv X pins Y H s) (h:tGen ac t0 fr wi g tt tel Y H Q)
 (hfin:∀(C D:Addr) (H':Hp) (s':Shared) (m:Str->Option Value),Inv X pins Y H' s'->s'.heap.Ns C m->FpOk X pins H' C->Q (.ref D) H'->compPost (model X.prog X.w) X.A X.xe use R (.ref D) C (.ok .next) s') :
 wpAny (model X.prog X.w) X.A (comprehension cexp scope X.env cpos (newObj (.type Tn) dt none) false (eval iter X.env) use) R X.xe s:=by
 refine wpAny_comprehension_free (use:=use) (g:=⟨tg,iter,ifs,0⟩) (gs:=[]) hcls hs hclos hkind hnames (thn (hi pins s Y H _ I h) λv s1 h1=>thn h1 λitv s2 h2=>?_);obtain⟨it,fp,tn,J,H1,e,I2,T,st2,f2,hW⟩:=h2;subst e;refine wbf (wpAny_newFunctionEnv hcell (by intro y hy;simp at hy) (λh4 hn4 hs4=>?_) hkind) hd;have hD0:H1 s2.heap.objs.size=none:=I2.hok.fresh (wai _)
 obtain⟨W,⟨m0,w0⟩,turn⟩:=hW s2.heap.objs.size hD0;generalize hDe:s2.heap.objs.size=D at hD0 w0 turn;generalize h3e:s2.heap.push {cls:=.type Tn,dict:=none,data:=dt}=h3 at hn4 hs4;have sz3:h3.objs.size=D+1:=by rw[<-h3e,wby,hDe]
 have k3:∀b o,s2.heap.get? b=some o->h3.get? b=some o:=λb o e=>by rw[<-h3e];exact wac _ e
 have ltD:∀{b:Addr}{o:Obj},s2.heap.get? b=some o->b<D:=λe=>by rw[<-hDe];exact waj e
 have I3:Inv X pins Y (upd H1 D (ac t0)) {s2 with heap:=h3}:=I2.laid (h':=h3) (t':=s2.toks) k3 (waX hDe) (by rw[<-h3e,<-hDe];exact hob I2)
 have rH:=hRR _ _ _ _ I3
 generalize hCe:h3.objs.size=C at hn4 hs4;have k4:∀b o,h3.get? b=some o->h4.get? b=some o:=λb o e=>hs4.extBut b o (λz=>by rw[z,<-hCe] at e;exact absurd (waj e) (waP _)) (wac _ e)
 have ltC:∀{b:Addr}{o:Obj},h3.get? b=some o->b<C:=λe=>by rw[<-hCe];exact waj e
 have hne:∀(c:Env->Addr),True:=λ_=>trivial
 have okC:(cxC X scope cl NC C {s2 with heap:=h3} (upd H1 D (ac t0)) fp (X.pn++pins)).Ok:=by
  refine⟨I.ok.mod,?_,I.ok.glob,I.ok.blt,waX hCe,λx y c h1 h2=>I.ok.inj x y c (hcl x c h1) (hcl y c h2),λx hx=>hhas x hx,λx c hf _=>(by cases hf),λ_=>I.ok.hd hcalm,I.ok.frames,.inl rfl,λb hb=>⟨?_,λx c e=>?_⟩,λb o e=>I3.bs b o e,?_,λb o e hb=>?_,λb hb hf=>?_,?_,λb hb=>I3.stkFree b hb⟩
  .show(relabel scope X.env).kind=.function
   exact hkind
  .obtain⟨o,eo,_⟩:=T.obj _ _ st2 b hb;exact way (ltC (k3 b o eo))
  .exact(f2 b hb).2.2.2.2.1 x c (hcl x c e)
  .exact waq I.ok.bsz I3.sz
  .obtain⟨e1,_⟩:=I.ok.bs b o e;have f:=f2 b hb
   rcases f.2.2.2.1 with z|z
   .exact I.ok.noex b o e z
   .exact absurd (wao (waj e1) z) (waP _)
  .rcases waf.mp (I2.stkSub b hf) with z|z
   .exact(f2 b hb).2.1 z
   .exact(f2 b hb).2.2.1 z
  .exact I3.stack
 have IC:Inv (cxC X scope cl NC C {s2 with heap:=h3} (upd H1 D (ac t0)) fp (X.pn++pins)) [] (pick Y fr) (upd H1 D (ac t0)) {s2 with heap:=h4,toks:=s2.toks+([]:List (Str×Value)).length}:=by
  refine⟨okC,rfl,I2.bare,Un.kept k4,⟨_,hn4,λi x v hN hv hvis=>?_⟩,λx c e=>?_,?_,λx c e=>I3.freeC x c (hcl x c e),λp hp=>?_,I3.hok.kept k4,?_⟩
  .have hfi:∃j,fr[i]?=some (some j)/\Y[j]?=some (some v):=by
    unfold pick at hv;rw[war] at hv;cases e1:fr[i]? with
   |none=>rw[e1] at hv;cases hv
   |some o=>
      rw[e1] at hv;cases o with
     |none=>cases hv
     |some j=>
        refine⟨j,rfl,?_⟩;have hv':(Y[j]?).join=some v:=wau hv
        cases e2:Y[j]? with
       |none=>rw[e2] at hv';cases hv'
       |some w'=>rw[e2] at hv';exact wbb some hv'
   obtain⟨j,hj,hσ⟩:=hfi;obtain⟨q1,q2,q3,q4⟩:=hfr i x j hN hj;obtain⟨m,hm,hl⟩:=I3.loc;obtain⟨u,ru,lk⟩:=hl j x v q1 hσ q2;refine⟨u,ru,?_⟩;rcases lk with⟨z,_⟩|⟨_,c,ec,ic⟩
   .exact absurd z q3
   .obtain⟨c',ec'⟩:=hhas x q4;have:c'=c:=by rw[hcl x c' ec'] at ec;exact wau ec
    subst this;obtain⟨oc,h1,h2⟩:=ic;exact .inr ⟨q4,c',ec',oc,k4 _ _ h1,h2⟩
  .obtain⟨v,oc,h1,h2⟩:=I3.cell x c (hcl x c e);exact⟨v,oc,k4 _ _ h1,h2⟩
  .show upd H1 D (ac t0) C=none
   exact I3.hok.fresh (waX hCe)
  .have hp':p∈X.pn++pins:=by simpa[cxC] using hp
   obtain⟨e1,e2,e3,e4,e5⟩:=I3.pin p hp';refine⟨k4 _ _ e1,e2,way (ltC e1),λz=>?_,e5⟩;rcases waf.mp (I2.stkSub p.1 z) with z'|z'
   .exact e3 z'
   .exact e4 z'
  .unfold pick;rw[wam];exact hlen
 have fC:∀b∈fp,FpOk (cxC X scope cl NC C {s2 with heap:=h3} (upd H1 D (ac t0)) fp (X.pn++pins)) [] H1 b:=λb hb=>by
  obtain⟨q1,q2,q3,q4,q5,q6⟩:=f2 b hb;obtain⟨o,eo,_⟩:=T.obj _ _ st2 b hb;refine⟨q1,way (ltC (k3 b o eo)),λz=>?_,.inl hb,λx c e=>q5 x c (hcl x c e),λp hp=>q6 p (by simpa[cxC] using hp)⟩;rcases waf.mp (I2.stkSub b z) with z'|z'
  .exact q2 z'
  .exact q3 z'
 have stat:∀{H':Hp},(∀b∈fp,H' b=none)->∀b∈fp,FpOk (cxC X scope cl NC C {s2 with heap:=h3} (upd H1 D (ac t0)) fp (X.pn++pins)) [] H' b:=λhn b hb=>⟨hn b hb,(fC b hb).2⟩
 have fD:∀b∈fp,b≠D:=λb hb z=>by
  obtain⟨o,eo,_⟩:=T.obj _ _ st2 b hb;have:=ltD eo
  rw[z] at this;exact absurd this (waP _)
 have st4:tn 0 h4:=T.keep _ _ _ st2 λb hb o e=>k4 b o (k3 b o e)
 have fin:∀{Y':St}{H':Hp}{s':Shared},Inv (cxC X scope cl NC C {s2 with heap:=h3} (upd H1 D (ac t0)) fp (X.pn++pins)) [] Y' H' s'->Q (.ref D) H'->compPost (model X.prog X.w) X.A X.xe use R (.ref D) C (.ok .next) s':=λ{Y' H' s'} I' q'=>by
  obtain⟨m,hm,_⟩:=I'.loc;have hfp:FpOk X pins H' C:=⟨I'.free,(I3.fpOk (waX hCe) (I3.hok.fresh (waX hCe))).2⟩
  refine hfin C D H' s' m ?_ hm hfp q';have nC:∀{b:Addr}{o:Obj},s2.heap.get? b=some o->b≠C:=λe=>way (ltC (k3 _ _ e))
  have nD:∀{b:Addr}{o:Obj},s2.heap.get? b=some o->b≠D:=λe=>way (ltD e)
  refine I2.call' (s':=s') (ch:=fp) ?_ ⟨λb o e n hf hx=>?_,λb o e n hf hx=>?_,λb o e n hx=>?_,λb o e hx=>?_,λb xs e=>?_,λb o u e=>?_,λb ps e=>?_⟩ (λb u e=>?_) I'.bare λb hb=>?_
  .exact I'.os
  .exact(I'.base.keep b o (k3 b o e) (by show upd H1 D _ b=none;rw[zai (nD e)];exact n) hf hx)
  .obtain⟨sl,z⟩:=I'.base.slot b o (k3 b o e) (by show upd H1 D _ b=none;rw[zai (nD e)];exact n) hf hx;exact⟨sl,z⟩
  .exact I'.base.free b o (k3 b o e) (by show upd H1 D _ b=none;rw[zai (nD e)];exact n) hx
  .obtain⟨o',z⟩:=I'.base.there b o (k3 b o e) hx;exact⟨o',z⟩
  .exact I'.base.tups b xs (by show upd H1 D _ b=_;rw[zai (zaV e hD0)];exact e)
  .exact I'.base.frzs b o u (by show upd H1 D _ b=_;rw[zai (zaV e hD0)];exact e)
  .exact I'.base.tbls b ps (by show upd H1 D _ b=_;rw[zai (zaV e hD0)];exact e)
  .exact I'.hok b u e
  .obtain⟨q1,q2,q3,q4,q5,q6⟩:=f2 b hb;exact⟨q4,q2,q5,q6⟩
 have loop:codeAny (model X.prog X.w) X.A (.compLoop cexp 0 (.ref it) (.ref D) (compEnvC scope cl C X.env)) (compPost (model X.prog X.w) X.A X.xe use R (.ref D) C) {s2 with heap:=h4,toks:=s2.toks+([]:List (Str×Value)).length}:=by
  refine LP (λn s'=>∃i ys Y' H',Inv (cxC X scope cl NC C {s2 with heap:=h3} (upd H1 D (ac t0)) fp (X.pn++pins)) [] Y' H' s'/\tn i s'.heap/\(∀b∈fp,H' b=none)/\H' D=some (ac ys)/\W i n ys Y' H') ?_ m0 ⟨0,t0,_,_,IC,st4,λb hb=>by rw[zai (fD b hb)];exact(f2 b hb).1,zah,w0⟩;rintro n s3 ⟨i,ys,Y3,H3,J3,st3,fr3,hD3,w3⟩;rcases turn i n ys Y3 H3 w3 hD3 with⟨stop,qn⟩|⟨go,N,hN,step⟩
  .refine thn (T.done (cxC X scope cl NC C {s2 with heap:=h3} (upd H1 D (ac t0)) fp (X.pn++pins)) rfl rfl rfl rfl i [] s3 Y3 H3 _ J3 (stat fr3) st3 stop) λr s4 ⟨hr,J4⟩ =>⟨λ_=>fin J4 qn,λv z=>?_⟩
   rw[hr] at z;cases z
  .refine thn (T.item (cxC X scope cl NC C {s2 with heap:=h3} (upd H1 D (ac t0)) fp (X.pn++pins)) rfl rfl rfl rfl i [] s3 Y3 H3 _ J3 (stat fr3) st3 go) λr s4 ⟨u,hr,h4'⟩ =>⟨λz=>?_,λv z=>?_⟩
   .rw[hr] at z;cases z
   rw[hr] at z;cases z;refine thn h4' λ_ s5 ⟨x,H5,J5,r5,y5,st5,fr5⟩ =>?_
   have J5':=J5.pinned (stat fr5) (T.obj _ _ st5)
   refine thn (hg C _ _ fp _ _ s5 Y3 H5 x _ _ J5' r5 (step x H5 y5)) λ_ s6 ⟨Y6,H6,J6,q6⟩ =>?_
   have back:∀{Y7:St}{H7:Hp}{s7:Shared},Inv (cxC X scope cl NC C {s2 with heap:=h3} (upd H1 D (ac t0)) fp (X.pn++pins)) ([]++zeK fp s5.heap) Y7 H7 s7->tn (i+1) s7.heap/\∀b∈fp,H7 b=none:=λ{Y7 H7 s7} J7=>
    ⟨T.keep _ _ _ st5 λb hb o e=>(J7.pin (b,o) (was _ (was _ (zbt hb e)))).1,λb hb=>by
     obtain⟨o,e,d⟩:=T.obj _ _ st5 b hb;exact(J7.pin (b,o) (was _ (was _ (zbt hb e)))).2.1⟩
   refine thn (ht C _ _ fp _ _ s6 Y6 H6 _ J6 q6) λok s7 ⟨H7,J7,q7⟩ =>⟨λhok=>?_,λhok=>?_⟩
   .refine hel C _ _ fp _ rH _ D ys s7 Y6 H7 _ _ J7 (q7.1 hok) λs9 zs H9 J9 hD9 n9=>?_
    obtain⟨m',hm,w8⟩:=hN _ _ _ n9;obtain⟨b1,b2⟩:=back J9;exact⟨m',hm,i+1,_,_,_,J9.unpinned,b1,b2,hD9,w8⟩
   .obtain⟨hD7,n7⟩:=q7.2 hok;obtain⟨m',hm,w7⟩:=hN _ _ _ n7;obtain⟨b1,b2⟩:=back J7;exact⟨m',hm,i+1,_,_,_,J7.unpinned,b1,b2,hD7,w7⟩
 exact SR loop (T.self X.A 0 _ _ _ st4 loop)
def zgk {X:Cx}{use:Option (Value->Sem Unit)}{R:Value->Shared->Prop}{pins:List (Addr×Obj)}{s:Shared}{Y:St}{H:Hp}{Q:VK}{cpos:Pos}{elt iter tg:Expr}{ifs:List Expr}{scope:Scope}{pos:Pos}{cl:List (Str×Addr)}{NC:List Str}{fr:List (Option Nat)}{wi:TI}{g:TG}{tt:TT}{te:TE}{RR:Hp->Prop}(hRR:∀pins Y H s,Inv X pins Y H s->RR H)(hcalm:X.calm=true)(hi:PI X tg iter wi)
 (hclos:closureFor scope X.env=pure cl) (hcell:∀y∈scope.names,y.2≠.cell) (hkind:scope.kind=.function) (hnames:∀y∈scope.names,y.2=.local->scope.names.lookup y.1=some .local)
 (hcl:∀x c,cl.lookup x=some c->X.env.cells.lookup x=some c)
 (hhas:∀x,((compEnvC scope cl 0 X.env).kindOf x=some .cell\/(compEnvC scope cl 0 X.env).kindOf x=some .free)->∃c,cl.lookup x=some c)
 (hfr:∀(i:Nat) (x:Str) (j:Nat),NC[i]?=some x->fr[i]?=some (some j)->X.N[j]?=some x/\Vis X.env.scope x/\X.env.kindOf x≠some .local/\((compEnvC scope cl 0 X.env).kindOf x=some .cell\/(compEnvC scope cl 0 X.env).kindOf x=some .free))
 (hlen:fr.length=NC.length)
 (hg:∀C s0 H0 ex pn,PG (cxC X scope cl NC C s0 H0 ex pn) tg g) (ht:∀C s0 H0 ex pn,PTs (cxC X scope cl NC C s0 H0 ex pn) ifs tt) (he:∀C s0 H0 ex pn,RR H0->PE (cxC X scope cl NC C s0 H0 ex pn) elt te)
 (hs:∀x,foldedSetIterable iter X.env x=pure x) (I:Inv X pins Y H s) (h:zeV fr wi g tt te Y H Q)
 (hfin:∀(C D:Addr) (H':Hp) (s':Shared) (m:Str->Option Value),Inv X pins Y H' s'->s'.heap.Ns C m->FpOk X pins H' C->Q (.ref D) H'->compPost (model X.prog X.w) X.A X.xe use R (.ref D) C (.ok .next) s') :
 wpAny (model X.prog X.w) X.A (comprehension (.ListComp elt [⟨tg,iter,ifs,0⟩] scope pos) scope X.env cpos (newList []) false (eval iter X.env) use) R X.xe s:=by
 refine zgj (Tn:="list") (dt:=.seq ([]:List Value).toArray) (ac:=HO.lst) (t0:=[]) (tel:=telL te) (EL:=λenv D Q s=>wpAny (model X.prog X.w) X.A (eval elt env) (λx s5=>wpAny (model X.prog X.w) X.A (call (.builtin "list.append") [.ref D,x]) (λ_ s6=>Q s6) (λ_ _=>False) s5) (λ_ _=>False) s)
  hRR hcalm hi hclos hcell hkind hnames hcl hhas hfr hlen hg ht rfl (by size_fits) (λI=>⟨wbz _,[],0,.nil,wav _ rfl⟩) (λI turn n h=>zhT I turn n h) (λa b=>codeAny_compStart_list (rest:=[]) a b) (λC s0 H0 ex pn rH pins D ys s Y H Po F J q k=>?_) hs I h hfin
 refine thn (he C _ _ _ _ rH _ s Y H _ J q) λxv s8 ⟨v,H8,J8,r8,hD8,hz,n8⟩ =>?_
 refine thn (zeS (X:=cxC X scope cl NC C s0 H0 ex pn) _ s8 Y H8 (.ref D) [v] (.ref D) [xv] (λ_ H9=>H9=upd H8 D (.lst (ys++[v]))) J8 rfl (.cons r8 .nil) ⟨D,ys,v,rfl,rfl,hD8,hz,rfl⟩) λ_ s9 ⟨_,H9,J9,_,e9⟩ =>?_
 subst e9;exact k s9 _ _ J9 zah n8
def zjv {X:Cx}{elt iter tg:Expr}{ifs:List Expr}{scope:Scope}{pos:Pos}{cl:List (Str×Addr)}{NC:List Str}{fr:List (Option Nat)}{wi:TI}{g:TG}{tt:TT}{te:TE}{RR:Hp->Prop}(hRR:∀pins Y H s,Inv X pins Y H s->RR H)(hcalm:X.calm=true)(hi:PI X tg iter wi)
 (hclos:closureFor scope X.env=pure cl) (hcell:∀y∈scope.names,y.2≠.cell) (hkind:scope.kind=.function) (hnames:∀y∈scope.names,y.2=.local->scope.names.lookup y.1=some .local)
 (hcl:∀x c,cl.lookup x=some c->X.env.cells.lookup x=some c)
 (hhas:∀x,((compEnvC scope cl 0 X.env).kindOf x=some .cell\/(compEnvC scope cl 0 X.env).kindOf x=some .free)->∃c,cl.lookup x=some c)
 (hfr:∀(i:Nat) (x:Str) (j:Nat),NC[i]?=some x->fr[i]?=some (some j)->X.N[j]?=some x/\Vis X.env.scope x/\X.env.kindOf x≠some .local/\((compEnvC scope cl 0 X.env).kindOf x=some .cell\/(compEnvC scope cl 0 X.env).kindOf x=some .free))
 (hlen:fr.length=NC.length)
 (hg:∀C s0 H0 ex pn,PG (cxC X scope cl NC C s0 H0 ex pn) tg g) (ht:∀C s0 H0 ex pn,PTs (cxC X scope cl NC C s0 H0 ex pn) ifs tt) (he:∀C s0 H0 ex pn,RR H0->PE (cxC X scope cl NC C s0 H0 ex pn) elt te)
 (hs:∀x,foldedSetIterable iter X.env x=pure x:=by intro _;rfl):PE X (.ListComp elt [⟨tg,iter,ifs,0⟩] scope pos) (zeV fr wi g tt te):=by
 intro pins s Y H Q I h;rw[eval_ListComp];refine zgk (use:=none) (R:=EP X pins Y Q) hRR hcalm hi hclos hcell hkind hnames hcl hhas hfr hlen hg ht he hs I h λC D H' s' m I' hm hfp q=>?_
 obtain⟨f0,f1,f2,f3,f4,f5⟩:=hfp;exact⟨m,hm,λh' hs'=>⟨.ref D,H',I'.turned (t':=s'.toks) (λb o hb e=>hs'.extBut b o hb e) f0 f1 f3 f4 f5,rfl,q⟩⟩
def pgC (i:Nat){X:Cx}{scope:Scope}{cl:List (Str×Addr)}{NC:List Str}{C:Addr}{s0:Shared}{H0:Hp}{ex:List Addr}{pn:List (Addr×Obj)}{x:Str}{pos:Pos}(nd:NC.Nodup)(hi:NC[i]?=some x)(hx:scope.names.lookup x=some .local) :
 PG (cxC X scope cl NC C s0 H0 ex pn) (.Name x pos) (zdl i):=zfC (X:=cxC X scope cl NC C s0 H0 ex pn) nd hi (.inl (lookup_relabel_local hx)) (.inr (lookup_relabel_local hx))
end L2
namespace En
open PySem
open AutoSeq1 (wpAny_loadPart')
section
variable {prog:Program}{w:World}{A:Around}{E:Value->Shared->Prop}{s:Shared}
def zlF {it t:Addr}{i:Nat}{items:Array Value}{x:Value}{Q:Value->Shared->Prop}(a1:s.heap.IsTupleIter it t i)(a2:s.heap.IsTuple t items)(a3:items[i]?=some x)
 (q:∀h',h'.IsTupleIter it t (i+1)->Heap.SameBut it s.heap h'->Q x {s with heap:=h'}):wpAny (model prog w) A (Builtin.SmallTypes.nextOf (.ref it)) Q E s:=by
 obtain⟨o,b1,b2,b3⟩:=id a1;obtain⟨ot,c1,_,n,c2⟩:=a2;unfold Builtin.SmallTypes.nextOf;have body:wpAny (model prog w) A.in1 (Builtin.«tuple_iterator.__next__» ⟨[.ref it],[]⟩) (λf s'=>∃v,f=.done (.ret v)/\Q v s') E s:=by
  show wpAny _ _ (do let v <-field (.ref it) 0;_) _ _ s
  refine waa (wbo b1 b3 (x:=.ref t) rfl ?_);show wpAny _ _ (ite ((Value.ref t == Value.none)=true) _ _) _ _ s
  rw[if_neg (show ¬(Value.ref t == Value.none)=true by intro z;cases z)];show wpAny _ _ (do let v <-field (.ref it) 1;_) _ _ s
  refine waa (wbo b1 b3 (x:=.int i 0) rfl ?_);show wpAny _ _ (do let v <-seqItems? (.ref t);_) _ _ s
  refine waa (wpAny_seqItems c1 c2 ?_);simp only[wbE,a3];refine waa (wbU b1 b3 (by simp) (wak ⟨x,rfl,q _ ⟨_,wbk _ b1 (wbN (wbn b3 _)),(Obj.cls_mapFields ..).trans b2,?_⟩ (Heap.SameBut.update ..)⟩));rw[wbn b3];simp[rawInt]
 have nx:=F.slot_tuple_iterator_next
 exact waa (wbI (name:=Str.ofString "__next__") a1.typeIs nx (wcl nx a1.typeIs F.entry_tuple_iterator_next (wax body (λf s' ⟨v,e,h⟩ =>⟨v,e,wak h⟩) λ_ _ x=>x) (F.args_tuple_iterator_next_1 _)))
def zkH {it t:Addr}{i:Nat}{items:Array Value}{Q:Value->Shared->Prop}(hh:A.handled=none)(a1:s.heap.IsTupleIter it t i)(a2:s.heap.IsTuple t items)(a3:items[i]?=none)
 (q:∀h' e,Heap.ExtBut it s.heap h'->(∃o,h'.get? e=some o/\o.cls=.type "StopIteration")->E (.ref e) {s with heap:=h'}):wpAny (model prog w) A (Builtin.SmallTypes.nextOf (.ref it)) Q E s:=by
 obtain⟨o,b1,b2,b3⟩:=id a1;obtain⟨ot,c1,_,n,c2⟩:=a2;unfold Builtin.SmallTypes.nextOf;have nx:=F.slot_tuple_iterator_next
 refine waa (wbI (name:=Str.ofString "__next__") a1.typeIs nx (wcl nx a1.typeIs F.entry_tuple_iterator_next ?_ (F.args_tuple_iterator_next_1 _)));show wpAny _ _ (do let v <-field (.ref it) 0;_) _ _ s
 refine waa (wbo b1 b3 (x:=.ref t) rfl ?_);show wpAny _ _ (ite ((Value.ref t == Value.none)=true) _ _) _ _ s
 rw[if_neg (show ¬(Value.ref t == Value.none)=true by intro z;cases z)];show wpAny _ _ (do let v <-field (.ref it) 1;_) _ _ s
 refine waa (wbo b1 b3 (x:=.int i 0) rfl ?_);show wpAny _ _ (do let v <-seqItems? (.ref t);_) _ _ s
 refine waa (wpAny_seqItems c1 c2 ?_);simp only[wbE,a3];refine waa (wcE (waa (wbU b1 b3 (by simp) ?_)));show wpAny _ _ (do let x <-newExc (.type "StopIteration") [];_) _ _ _
 refine waa ?_;simp only[newExc,newTuple];refine waa (wbf ?_ (by size_fits));refine waa (m:=firstArgMember _ _) (wpAny_of_eq (a:=Value.none) (by first|rfl|(simp only[firstArgMember];rfl)) ?_);refine wbf ?_ (by size_fits);simp only[raiseNew];refine waa (wpAny_handled ?_);first|rw[show A.in1.handled=none from hh]|rw[hh]
 exact waa (wak (wpAny_throw (q _ _ (((Heap.SameBut.update ..).extBut.push _).push _) ⟨_,wav _ rfl,rfl⟩)))
end
def draws_tuple {prog:Program}{w:World}{A:Around}(hh:A.handled=none)(it t:Addr)(hne:t≠it)(items:Array Value) :
 Draws prog w A it [it,t] items.size (λi v=>items[i]?=some v) (λi h=>h.IsTupleIter it t i/\h.IsTuple t items) where
 live:=λ_ _ st=>let ⟨o,ho,_⟩:=st.1;⟨o,ho⟩
 frame:=λ_ _ _ ⟨⟨o,e,r⟩,⟨o',e',r'⟩⟩ hk=>⟨⟨o,hk it (by simp) o e,r⟩,⟨o',hk t (by simp) o' e',r'⟩⟩
 item:=λi s Q E hi st hQ=>zlF st.1 st.2 (x:=items[i]) (by simp[hi]) λh' a b=>hQ _ h' s.toks (by simp[hi]) ⟨a,st.2.extBut b.extBut hne⟩ b
 done:=λs Q E st hE=>zkH hh st.1 st.2 (by simp) hE
def draws_end {prog:Program}{w:World}{A:Around}(hh:A.handled=none)(it t:Addr)(i:Nat)(items:Array Value)(hx:items[i]?=none) :
 Draws prog w A it [it,t] i (λi v=>items[i]?=some v) (λj h=>j=i/\h.IsTupleIter it t i/\h.IsTuple t items) where
 live:=λ_ _ st=>let ⟨o,ho,_⟩:=st.2.1;⟨o,ho⟩
 frame:=λ_ _ _ ⟨hj,⟨o,e,r⟩,⟨o',e',r'⟩⟩ hk=>⟨hj,⟨o,hk it (by simp) o e,r⟩,⟨o',hk t (by simp) o' e',r'⟩⟩
 item:=λj s Q E hi st hQ=>by rw[st.1] at hi;exact absurd hi (waP _)
 done:=λs Q E st hE=>zkH hh st.2.1 st.2.2 hx hE
def zhU (t:Addr)(items:Array Value)(n:Nat)(dct:Option Addr)(sl:Array (Option Value)) :
 Meets (Builtin.«enumerate.__new__» ⟨[.type "enumerate",.ref t],[]⟩) (λ_ R s=>s.heap.get? t=some {cls:=.type "tuple",dict:=dct,data:=.seq items n,slots:=sl}/\
  R (.ok (.ret (.ref (s.heap.push {cls:=.type "tuple_iterator",data:=.fields #[.ref t,.int 0 0]}).objs.size)))
    {s with heap:=(s.heap.push {cls:=.type "tuple_iterator",data:=.fields #[.ref t,.int 0 0]}).push {cls:=.type "enumerate",data:=.fields #[.none,.bool false,.ref s.heap.objs.size,rawInt 0,.none,.none]}}):=
 .of_wp λprog w A R s h=>by
  obtain⟨hp,g,d,tk,os⟩:=s;obtain⟨hl,h⟩:=h;have hsub:=PySem.sub_enumerate
  have hL:Heap.IsTuple (Shared.heap ⟨hp,g,d,tk,os⟩) t items:=⟨_,hl,rfl,n,rfl⟩
  wp_walk using wbj hl
  refine wpAny_stack_any λst=>wak ?_
  split
  .rename_i c _ _ _ _ _
   cases(c == Value.type "enumerate")
   .wp_walk using wbj hl,wca hL
    exact⟨_,rfl,h⟩
   .wp_walk using wbj hl,wca hL
    exact⟨_,rfl,h⟩
  .wp_walk using wbj hl,wca hL
   exact⟨_,rfl,h⟩
def call_enum {prog:Program}{w:World}{A:Around}{E:Value->Shared->Prop}{s:Shared}{t:Addr}{items:Array Value}{Q:Value->Shared->Prop}(hL:s.heap.IsTuple t items)
 (h:∀h',IsEnum h' (s.heap.objs.size+1) s.heap.objs.size 0 .none->h'.IsTupleIter s.heap.objs.size t 0->h'.objs.size=s.heap.objs.size+2->
  (∀b o,s.heap.get? b=some o->h'.get? b=some o)->Q (.ref (s.heap.objs.size+1)) {s with heap:=h'}) :
 wpAny (model prog w) A (call (.type "enumerate") [.ref t]) Q E s:=by
 obtain⟨⟨c,dct,dt,sl⟩,hl,hc,n,hd⟩:=hL;obtain rfl:c=.type "tuple":=hc;obtain rfl:dt=.seq items n:=hd;refine callType_new F.called_enumerate (by decide) (F.typeCall_enumerate_1 _) (F.newCall_enumerate_1 _) (λobj=>F.args_object_init_2 obj _) F.entry_enumerate_new (zhU t items n dct sl) ⟨hl,?_⟩;have hz:(s.heap.push {cls:=.type "tuple_iterator",data:=.fields #[.ref t,.int 0 0]}).objs.size=s.heap.objs.size+1:=wby ..
 have q:=wav (s.heap.push {cls:=.type "tuple_iterator",data:=.fields #[.ref t,.int 0 0]}) (o:={cls:=.type "enumerate",data:=.fields #[.none,.bool false,.ref s.heap.objs.size,rawInt 0,.none,.none]}) rfl
 show _/\_
 rw[hz] at q⊢;exact⟨⟨_,q,rfl⟩,h _ q ⟨_,wac _ (wav _ rfl),rfl,rfl⟩ (by rw[wby,hz]) λb o x=>wac _ (wac _ x)⟩
end En
namespace L2
open PySem PySem.Spec PyProof PyProof.Rows
def Inv.laidF {X:Cx}{pins:List (Addr×Obj)}{Y:St}{H:Hp}{s:Shared}{h':Heap}{t':Nat}{fp:List Addr}{D:Addr}{o:HO}(I:Inv X pins Y H s)(hf:∀b∈fp,FpOk X pins H b)(k:∀b o,b∉fp->s.heap.get? b=some o->h'.get? b=some o)
 (hth:∀b∈fp,∃o,h'.get? b=some o) (hD:s.heap.get? D=none) (new:ObjOk X.prog X.w (upd H D o) h' D o):H D=none/\Inv X pins Y (upd H D o) {s with heap:=h',toks:=t'}:=by
 have hHD:H D=none:=by
  cases e:H D with
 |none=>rfl
 |some u=>
    obtain⟨ob,q⟩:=(I.hok D u e).there;rw[hD] at q;cases q
 refine⟨hHD,?_⟩;have nit:∀b u,H b=some u->b∉fp:=λb u e z=>by rw[(hf b z).1] at e;cases e
 have nD:∀b u,H b=some u->b≠D:=λb u e z=>by rw[z,hHD] at e;cases e
 have nD':∀b ob,s.heap.get? b=some ob->b≠D:=λb u e z=>by rw[z,hD] at e;cases e
 refine I.step (g':=s.gens) (d':=s.drawn) (t':=t') (ch:=fp) (λb hb=>?_) (λb o _ _ hc e _=>k b o hc e) (λb o _ _ hc e _=>⟨o.slots,k b o hc e⟩) (λb ob _ e n=>by rw[zai (nD' b ob e)];exact n)
  (λb o hc e=>⟨o,k b o hc e⟩) (λb _ e=>by rw[zai (nD b _ e)];exact e) (λb _ _ e=>by rw[zai (nD b _ e)];exact e) (λb ps e=>⟨#[],by rw[zai (nD b _ e),e];simp⟩) (λm hm=>?_) (λb u e=>?_) I.bare
 .obtain⟨f0,f1,f2,f3,f4,f5⟩:=hf b hb;exact⟨f3,f1,f4,f5⟩
 .obtain⟨o,es,ep,ho,r⟩:=hm;exact⟨o,es,ep,k _ o (λz=>(hf _ z).2.1 rfl) ho,r⟩
 .by_cases z:b=D
  .subst z;rw[zah] at e;cases e;exact new
  .rw[zai z] at e;refine(I.hok b u e).stay (λc v hc q=>k c v ?_ q) (λc q=>by rw[zai (nD c _ q)];exact q) λc _ _ q=>by rw[zai (nD c _ q)];exact q
   rcases hc with z|z
   .rw[z];exact nit b u e
   .exact nit c _ z
def Ite (K:W.Frag)(a:Addr):It:=
 ⟨λi H=>∃xs x,SqT K H a xs/\xs[i]?=some x,λi H x H'=>∃p,H p=none/\x=.ref p/\∀xs,SqT K H a xs->∃y,xs[i]?=some y/\H'=upd H p (.tup [.int (i:Nat),y]),λi H=>∃xs,SqT K H a xs/\xs.length<=i⟩
def zhV {P:Program}{w:World}{K:W.Frag}{elts:List Expr}{x1}{tpos:Pos}(a e it:Addr)(hei:e≠it)(hae:a≠e)(hai:a≠it) :
 Turn P w K (.Tuple elts x1 tpos) (Ite K a) [e,it] e (λi h=>(∃old,IsEnum h e it (i:Nat) old)/\h.IsTupleIter it a i) where
 mem:=by simp
 obj:=λi h st b hb=>by
  obtain⟨⟨old,e1⟩,o,e2,c,d⟩:=st;rcases waf.mp hb with z|z
  .subst z;exact⟨_,e1,λv z=>by cases z⟩
  .have z:=wal.mp z
   subst z;exact⟨o,e2,λv z=>by rw[d] at z;cases z⟩
 keep:=λi h h' st k=>by
  obtain⟨⟨old,e1⟩,o,e2,c,d⟩:=st;exact⟨⟨old,k e (by simp) _ e1⟩,o,k it (by simp) _ e2,c,d⟩
 item:=by
  intro X hP hw hK hc i pins s Y H E I hf st hg;subst hP hw hK;obtain⟨⟨old,en⟩,ti⟩:=st;obtain⟨xs,x,hq,hx⟩:=hg;obtain⟨its,rv,p,hz⟩:=I.tuple hq;obtain⟨u,hu,ru⟩:=rv.get hx;have hl:=rv.length
  have hlt:i<its.toArray.size:=by
   rw[wab,<-hl];exact(wae.mp hx).1
  have hh:X.A.in1.handled=none:=I.ok.hd hc
  refine wpAny_pyNext_enum_itemD (En.draws_tuple (A:=X.A.in1) hh it a hai its.toArray) en ⟨ti,p⟩ hlt hei (by simp[hei,Ne.symm hae]) λy h' tk hy en' st' tup sz k=>?_
  have ey:y=u:=by
   have hy':its[i]?=some y:=by simpa using hy
   rw[hu] at hy';exact(wau hy').symm
  subst ey;refine⟨_,rfl,wpAny_letOwnedTupleGo_enum en' λh2 en2 sb2=>?_⟩;have frS:s.heap.get? s.heap.objs.size=none:=by
   cases q:s.heap.get? s.heap.objs.size with
  |none=>rfl
  |some o=>exact absurd (waj q) (waP _)
  have neS:∀b∈[e,it],b≠s.heap.objs.size:=λb hb z=>by
   rcases waf.mp hb with q|q
   .have en1:=(show s.heap.get? e=some _ from en)
    rw[<-z,q,en1] at frS;cases frS
   .obtain⟨o,e2,_⟩:=ti;rw[<-z,wal.mp q,e2] at frS;cases frS
  obtain⟨hn,I1⟩:=I.laidF (h':=h2) (t':=tk+1) (fp:=[e,it]) (D:=s.heap.objs.size) (o:=.tup [.int (i:Nat),x]) hf (λb o hb q=>sb2.extBut b o (λz=>hb (by simp[z])) (k b o (λz=>hb (by simp[z])) (λz=>hb (by simp[z])) q))
   (λb hb=>by
    rcases waf.mp hb with q|q
    .subst q;exact⟨_,en2⟩
    .have q:=wal.mp q
     subst q;obtain⟨o,e2,_⟩:=st'.1;exact⟨o,sb2.extBut _ o (Ne.symm hei) e2⟩) frS
   ⟨by show 2<=sizeLine;decide,[.int (i:Nat) tk,y],.cons ⟨_,rfl⟩ (.cons ru .nil),⟨_,sb2.extBut _ _ (neS e (by simp)).symm tup,rfl,_,rfl⟩⟩
  refine⟨.ref s.heap.objs.size,_,I1,rfl,⟨_,hn,rfl,λys hy=>⟨x,by rw[I.tuple_inj hy hq];exact hx,rfl⟩⟩,⟨⟨_,en2⟩,?_⟩,λb hb=>?_⟩
  .obtain⟨o,e2,c,d⟩:=st'.1;exact⟨o,sb2.extBut _ o (Ne.symm hei) e2,c,d⟩
  .rw[zai (neS b hb)];exact(hf b hb).1
 done:=by
  intro X hP hw hK hc i pins s Y H E I hf st hg;subst hP hw hK;obtain⟨⟨old,en⟩,ti⟩:=st;obtain⟨xs,hq,hx⟩:=hg;obtain⟨its,rv,p,hz⟩:=I.tuple hq;obtain⟨f0,f1,f2,f3,f4,f5⟩:=hf it (by simp);have hl:=rv.length
  have hh:X.A.in1.handled=none:=I.ok.hd hc
  refine wpAny_pyNext_enum_endD (En.draws_end (A:=X.A.in1) hh it a i its.toArray (by simp;omega)) en ⟨rfl,ti,p⟩ λh' eb=>⟨rfl,I.turned (t':=s.toks) (λb o hb e=>eb b o hb e) f0 f1 f3 f4 f5⟩
 self:=λ_ _ _ _ _ st h=>by
  obtain⟨⟨old,en⟩,_⟩:=st;exact wch en h
def zpj (K:W.Frag)(ta:TA):TI:=λY H R=>ta Y H λvs H1=>∃a,vs = [.ref a]/\(∃xs,SqT K H1 a xs)/\R (Ite K a) H1
def zhW {X:Cx}{elts:List Expr}{x1}{tpos:Pos}{l:Expr}{ta:TA}{p pos:Pos}(hg:Gl X "enumerate")(hm:X.mg "enumerate"=none)(ha:PA X [l] ta)(hs:starEach [l] X.env = [(false,eval l X.env)]:=by rfl) :
 PI X (.Tuple elts x1 tpos) (.Call (.Name "enumerate" p) [l] [] pos) (zpj X.K ta):=by
 intro pins s Y H R I h;refine waQ (zcR I hg hm boot_enumerate ?_ (by decide) (by decide));refine waS (thn (ha pos pins s Y H _ I h) λus s1 ⟨vs,H1,I1,rv,q1⟩ =>?_) hs rfl;obtain⟨a,e,⟨xs,hq⟩,q⟩:=q1;subst e;obtain⟨u,rfl,r1⟩:=zgT rv;obtain rfl:u=Value.ref a:=r1;obtain⟨its,rv,pt,hz⟩:=I1.tuple hq;refine En.call_enum pt λh' en ti sz k=>?_
 have alt:a<s1.heap.objs.size:=pt.lt
 refine wch en ⟨s1.heap.objs.size+1,[s1.heap.objs.size+1,s1.heap.objs.size],_,_,H1,rfl,I1.kept (t':=s1.toks) k,zhV a _ _ (Nat.succ_ne_self _) (way (Nat.lt_succ_of_lt alt)) (way alt),⟨⟨_,en⟩,ti⟩,λb hb=>?_,q⟩;rcases waf.mp hb with z|z
 .subst z;exact I1.fpOk (wbW _) (I1.hok.fresh (wbW _))
 .have z:=wal.mp z
  subst z;exact I1.fpOk (wai _) (I1.hok.fresh (wai _))
section
variable {X:Cx}
def zlG:OpR X (binaryOp .Add) (λx y H Q=>∃a b ys,x=.ref a/\y=.ref b/\SqT X.K H a []/\SqT X.K H b ys/\Q (.ref b) H):=by
 intro pins s Y H x y v u Q I rx ry h;obtain⟨a,b,ys,rfl,rfl,ha,hb,q⟩:=h;cases rx;cases ry;obtain⟨its,r1,p1,_⟩:=I.tuple ha;obtain⟨its2,r2,p2,_⟩:=I.tuple hb;have e1:its = []:=r1.nil_iff.mpr rfl
 subst e1;obtain⟨⟨c1,d1,dt1,s1⟩,g1,g2,n1,g3⟩:=p1;obtain⟨⟨c2,d2,dt2,s2⟩,k1,k2,n2,k3⟩:=p2;obtain rfl:c1=.type "tuple":=g2;obtain rfl:c2=.type "tuple":=k2;obtain rfl:dt1=.seq _ n1:=g3;obtain rfl:dt2=.seq _ n2:=k3;exact concat_meets ⟨_,g1,rfl⟩ ⟨_,k1,rfl⟩ noFill_tuple_add seq_tuple_add wce wcb (wbY _ _) (tuple_addW0 a b _ _ n1 n2 d1 d2 s1 s2 rfl) ⟨g1,k1,⟨.ref b,H,I,rfl,q⟩⟩
def znu (K:W.Frag):R2:=λx y H Q=>∃a b xs ys,x=.ref a/\y=.ref b/\SqT K H a xs/\SqT K H b ys/\ys≠[]/\xs.length+ys.length<=sizeLine/\
 (xs = []->Q (.ref b) H)/\(xs≠[]->∀p,H p=none->Q (.ref p) (upd H p (.tup (xs++ys))))
def zlH:OpR X (binaryOp .Add) (znu X.K):=by
 intro pins s Y H x y v u Q I rx ry h;obtain⟨a,b,xs,ys,rfl,rfl,ha,hb,hy,hz,q1,q2⟩:=h;by_cases hx:xs = []
 .subst hx;exact zlG pins s Y H _ _ v u Q I rx ry ⟨a,b,ys,rfl,rfl,ha,hb,q1 rfl⟩
 .exact zhL pins s Y H _ _ v u Q I rx ry ⟨a,b,xs,ys,rfl,rfl,ha,hb,hx,hz,λz=>absurd z hy,λ_=>q2 hx⟩
end
def zer {H:Hp}{p:Addr}(h:H p=none)(o:HO):Same H (upd H p o):=λb u q=>by rw[zai (zaV q h)];exact q
end L2
namespace Sh
open PySem L2
namespace Tr
end Tr
end Sh
namespace SO
open PySem PySem.W PyProof.Rows
section
variable {k:Nat->Int}{N:Nat}
end
end SO
namespace L2
open PySem PySem.Spec PyProof PyProof.Rows PySem.W
section
variable {X:Cx}{pins:List (Addr×Obj)}{Y:St}{H:Hp}{s:Shared}
end
def zgX {pos:Pos}{a b:Int}{c cv:Value}(l:List Value)(h:TriplesOk l):codeAmong pos (l++[rawInt a,rawInt b,c])=some cv->codeAmong pos l=some cv\/cv=c:=by
 fun_induction TriplesOk l with
|case1=>
   intro q;simp only[List.nil_append,codeAmong,rawInt] at q;split at q
   .cases q;exact .inr rfl
   .simp[codeAmong] at q
|case2 x t y u z rest ih=>
   intro q;simp only[List.cons_append,codeAmong] at q⊢;split at q
   .rename_i hc;rw[if_pos hc];exact .inl q
   .rename_i hc;rw[if_neg hc];exact ih h q
|case3 l h1 h2=>exact h.elim
section
variable {X:Cx}{pins:List (Addr×Obj)}{Y:St}{H:Hp}{s:Shared}
def CodeK.hd {K:W.Frag}{c P:Addr}{h:Heap}(hC:CodeK K c P)(x:K.In h):CodeHd h c P:=by
 obtain⟨o,vs,file,tf,flags,tg,inF,text,tt,l,e⟩:=hC.ex;exact⟨o,vs,file,tf,flags,tg,inF,text,tt,x _ _ l,e⟩
def Inv.grownC {P c':Addr}{ps qs:Array Value}{h':Heap}{t':Nat}{oc:Obj}{vs:Array Value}{t:Tok}{q:Str}{a b:Int}(I:Inv X pins Y H s)(hH:H P=some (.tbl ps))(hps:ps[0]?=some (Value.str q 0))(ht:TabC H ps qs)(k:∀b o,b≠P->s.heap.get? b=some o->h'.get? b=some o)
 (e:h'.get? P=some (tabO (qs++#[rawInt a,rawInt b,.ref c']))) (hc:s.heap.objs.size<=c') (ho:h'.get? c'=some oc) (hd:oc.data=.fields vs) (hv:vs[1]?=some (.str q t)) :
 Inv X pins Y (upd H c' (.frz oc (.ext λ_=>True))) {s with heap:=h',toks:=t'}:=by
 have hn:H c'=none:=I.hok.fresh hc
 have nP:∀b u,H b=some u->b≠c':=λb u q z=>by rw[z,hn] at q;cases q
 refine I.un ⟨λb o q n _ _=>k b o (Inv.ne_tbl hH n) q,λb o q n _ _=>⟨o.slots,k b o (Inv.ne_tbl hH n) q⟩,λb o q n _=>?_,λb o q _=>?_,λb xs q=>?_,λb o u q=>?_,λb qs q=>⟨#[],?_⟩⟩ λb u q=>?_
 .rw[zai (λ(z:b=c')=>by have e2:=waj q;rw[z] at e2;exact waP _ (wao e2 hc))];exact n
 .by_cases z:b=P
  .subst z;exact⟨_,e⟩
  .exact⟨o,k b o z q⟩
 .rw[zai (nP b _ q)];exact q
 .rw[zai (nP b _ q)];exact q
 .rw[zai (nP b _ q),q];simp
 .by_cases z0:b=c'
  .subst z0;rw[zah] at q;cases q;exact⟨ho,trivial,⟨_,ho⟩,λ_ _ _ _=>trivial⟩
  .rw[zai z0] at q;by_cases z:b=P
   .subst z;rw[hH] at q;cases q;refine⟨_,e,?_,λpos cv z=>?_⟩
    .simpa using TriplesOk_snoc a _ (.ref c') _ ht.1
    .rcases zgX (a:=a) (b:=_) (c:=.ref c') qs.toList ht.1 (by simpa using z) with z|z
     .obtain⟨c2,o,u,vs,t,q',e1,e2,e3⟩:=ht.2 pos cv z;exact⟨c2,o,u,vs,t,q',e1,by rw[zai (nP _ _ e2)];exact e2,e3⟩
     .exact⟨c',oc,_,vs,t,q,z,zah,hd,hv,hps⟩
   .refine(I.hok b u q).stay (λc v hc q'=>k c v ?_ q') (λc q'=>by rw[zai (nP _ _ q')];exact q') λc xs _ q'=>by rw[zai (nP _ _ q')];exact q'
    rcases hc with r|r
    .rw[r];exact z
    .intro r';subst r';rw[hH] at r;cases r
end
end L2
namespace L2
open PySem PySem.Spec PyProof.Rows
section
variable {κ:Type}[DecidableEq κ]
def valV (kvs:List (κ×V))(k:κ):Option V:=(kvs.find? λkv=>decide (kv.1=k)).map (·.2)
def putK (kvs:List (κ×V))(k:κ)(v:V):List (κ×V):=
 if(kvs.any λkv=>decide (kv.1=k))=true then kvs.map (λkv=>if kv.1=k then(kv.1,v) else kv) else kvs++[(k,v)]
def zgl {p:κ×V}{r:List (κ×V)}{k:κ}(e:p.1=k):valV (p::r) k=some p.2:=by simp[valV,wbF,e]
def zgm {p:κ×V}{r:List (κ×V)}{k:κ}(e:¬p.1=k):valV (p::r) k=valV r k:=by simp[valV,wbF,e]
def zfI (kvs:List (κ×V))(k:κ)(v:V):(putK kvs k v).length<=kvs.length+1:=by
 unfold putK;split
 .rw[wam];omega
 .rw[wap,wbp,wcu];omega
def RelO.isSome_eq {o:Option V}{u:Option Value}(r:RelO o u):o.isSome=u.isSome:=by
 cases o with
|none=>cases u with
  |none=>rfl
  |some _=>exact(show False from r).elim
|some _=>cases u with
  |none=>exact(show False from r).elim
  |some _=>rfl
def KV.val {kvs:List (κ×V)}{vs:List (κ×Value)}(r:KV kvs vs)(k:κ):RelO (valV kvs k) (valueAt vs k):=by
 unfold KV at r;induction r with
|nil=>exact True.intro
|@cons p q ps qs h t ih=>
   obtain⟨h1,h2⟩:=h;by_cases e:p.1=k
   .have e':q.1=k:=h1.symm.trans e
    have b:valueAt (q::qs) k=some q.2:=by simp[valueAt,wbF,e']
    rw[zgl e,b];exact h2
   .have e':¬q.1=k:=λz=>e (h1.trans z)
    have b:valueAt (q::qs) k=valueAt qs k:=by simp[valueAt,wbF,e']
    rw[zgm e,b];exact ih
theorem KV.any {kvs:List (κ×V)}{vs:List (κ×Value)}(r:KV kvs vs)(k:κ):(kvs.any λkv=>decide (kv.1=k))=vs.any λkv=>decide (kv.1=k):=by
 unfold KV at r;induction r with
|nil=>rfl
|cons h t ih=>rw[List.any_cons,List.any_cons,ih,h.1]
def KV.repl {kvs:List (κ×V)}{vs:List (κ×Value)}(r:KV kvs vs)(k:κ){y:V}{u:Value}(ry:RelV y u) :
 KV (kvs.map λkv=>if kv.1=k then(kv.1,y) else kv) (vs.map λkv=>if kv.1=k then(kv.1,u) else kv):=by
 unfold KV at r⊢;induction r with
|nil=>exact .nil
|@cons p q ps qs h t ih=>
   rw[waL,waL];refine .cons ?_ ih;obtain⟨h1,h2⟩:=h;by_cases e:p.1=k
   .rw[if_pos e,if_pos (h1.symm.trans e)];exact⟨h1,ry⟩
   .rw[if_neg e,if_neg (λz=>e (h1.trans z))];exact⟨h1,h2⟩
def KV.put {kvs:List (κ×V)}{vs:List (κ×Value)}(r:KV kvs vs)(k:κ){y:V}{u:Value}(ry:RelV y u):KV (putK kvs k y) (stored vs k u):=by
 unfold putK stored;rw[r.any k];by_cases e:(vs.any λkv=>decide (kv.1=k))=true
 .rw[if_pos e,if_pos e];exact r.repl k ry
 .rw[if_neg e,if_neg e];exact Paired.snoc r ⟨rfl,ry⟩
theorem KV.length {kvs:List (κ×V)}{vs:List (κ×Value)}(r:KV kvs vs):kvs.length=vs.length:=Paired.length r
end
def zhX {P:Program}{w:World}{k:Key}{u:Value}(r:RelV (kV k) u):(zbc P w).is k u=true:=by
 cases k with
|inl i=>obtain⟨t,e⟩:=(show ∃t,u=Value.int i t from r);subst e;exact zfy P w i t
|inr x=>obtain⟨t,e⟩:=(show ∃t,u=Value.str x t from r);subst e;exact zfz P w x t
theorem zeW {P:Program}{w:World}:∀{ks:List Key}{us:List Value},Vals (ks.map kV) us->ItemsAre (zbc P w) ks us
|[],_,r=>by rw[List.map_nil] at r;cases r;exact .nil
|k::ks,_,r=>by
   rw[waL] at r;cases r with
  |cons h t=>exact .cons (zhX h) (zeW t)
abbrev KT (H:Hp):List (List Key×V)->List (List Key×Addr×Value)->Prop:=Paired λp q=>p.1=q.1/\H q.2.1=some (.tup (p.1.map kV))/\RelV p.2 q.2.2
def KT.val {H:Hp}{kvs:List (List Key×V)}{xs:List (List Key×Addr×Value)}(r:KT H kvs xs)(k:List Key):RelO (valV kvs k) ((atKey xs k).map (·.2)):=by
 induction r with
|nil=>exact True.intro
|@cons p q ps qs h t ih=>
   obtain⟨h1,_,h2⟩:=h;by_cases e:p.1=k
   .have e':q.1=k:=h1.symm.trans e
    have b:atKey (q::qs) k=some q.2:=by simp[atKey,wbF,e']
    rw[zgl e,b];exact h2
   .have e':¬q.1=k:=λz=>e (h1.trans z)
    have b:atKey (q::qs) k=atKey qs k:=by simp[atKey,wbF,e']
    rw[zgm e,b];exact ih
section
variable {P:Program}{w:World}{H:Hp}{h:Heap}{a:Addr}
def znv {u:HO}(ok:HOk P w H h)(e:Rd H a u):ObjOk P w H h a u:=e.ok ok
def zhY {kvs:List (Key×V)}(ok:HOk P w H h)(e:Rd H a (.dK kvs)):kvs.length<=sizeLine/\(a == sysModules)=false/\∃vs,KV kvs vs/\h.DictOf (zbc P w) a vs:=
 show ObjOk P w H h a (.dK kvs) from znv ok e
def zpk {kvs:List (Key×V)}(ok:HOk P w H h)(e:H a=some (.dK kvs)):kvs.length<=sizeLine/\(a == sysModules)=false/\∃vs,KV kvs vs/\h.DictOf (zbc P w) a vs:=zhY ok (.inl e)
def zgn {ks:List Key}(ok:HOk P w H h)(e:H a=some (.tup (ks.map kV))):(tupleKind (zbc P w)).is h ks a:=by
 obtain⟨_,its,r,o,h1,h2,n,h3⟩:=(show ObjOk P w H h a (.tup (ks.map kV)) from ok a _ e)
 exact⟨o,its.toArray,n,h1,h2,h3,by simpa using zeW r⟩
def zjw {kvs:List (List Key×V)}(ok:HOk P w H h)(e:Rd H a (.dT kvs)):kvs.length<=sizeLine/\(a == sysModules)=false/\
 ∃xs,KT H kvs xs/\h.DictOfH (tupleKind (zbc P w)) a xs:=by
 obtain⟨z,y,xs,r,o,es,ep,h1,h2,h3,h4,h5⟩:=(show ObjOk P w H h a (.dT kvs) from znv ok e)
 refine⟨z,y,xs,r,o,es,ep,h1,h2,h3,h4,λx hx=>?_,h5⟩;have all:∀{l:List (List Key×V)}{m:List (List Key×Addr×Value)},KT H l m->∀x∈m,(tupleKind (zbc P w)).is h x.1 x.2.1:=by
  intro l m q;induction q with
 |nil=>intro x hx;exact nomatch hx
 |@cons p q ps qs hq t ih=>
    intro x hx;rcases waf.mp hx with e|hx
    .subst e;exact zgn ok (by rw[<-hq.1];exact hq.2.1)
    .exact ih x hx
 exact all r x hx
end
def DGet (H:Hp)(a:Addr)(y:V)(r:Option V):Prop:=
 (∃kvs k,Rd H a (.dK kvs)/\y=kV k/\r=valV kvs k)\/∃kvs k b,Rd H a (.dT kvs)/\y=.ref b/\H b=some (.tup (k.map kV))/\r=valV kvs k
theorem DGet.k {H:Hp}{a:Addr}{kvs:List (Key×V)}{k:Key}(e:H a=some (.dK kvs)):DGet H a (kV k) (valV kvs k):=.inl ⟨kvs,k,.inl e,rfl,rfl⟩
section
variable {X:Cx}{pins:List (Addr×Obj)}{Y:St}{H:Hp}{s:Shared}{a:Addr}{y v:V}{u r:Value}{o:Option V}{A:Around}{E:Value->Shared->Prop}
def Inv.big (I:Inv X pins Y H s):sysModules<s.heap.objs.size:=by
 have h:mainGlobals<s.heap.objs.size:=(I.mod.glob.keeps I.bk).lt
 exact Nat.lt_trans (by decide) h
def zhZ {Q:Value->Shared->Prop}(hu:A.units+1<cLine)(I:Inv X pins Y H s)(g:DGet H a y (some v))(ry:RelV y u)(h:∀w' s',Inv X pins Y H s'->RelV v w'->Q w' s') :
 wpAny (model X.prog X.w) A (getItem (.ref a) u) Q E s:=by
 rcases g with⟨kvs,k,e,ey,l⟩|⟨kvs,k,b,e,ey,eb,l⟩
 .subst ey;obtain⟨z,hd,vs,rel,dd⟩:=zhY I.hok e;obtain⟨w',hw,rw'⟩:=RelO.some_of (v:=v) (o:=valueAt vs k) (by rw[l];exact rel.val k);exact wpAny_getItem_of (zhX ry) dd.mapOf hw (h w' _ (I.tok _) rw')
 .subst ey;cases(show u=Value.ref b from ry);obtain⟨z,hd,xs,rel,dd⟩:=zjw I.hok e;obtain⟨w',hw,rw'⟩:=RelO.some_of (v:=v) (o:=(atKey xs k).map (·.2)) (by rw[l];exact rel.val k);obtain⟨p,hp,hp2⟩:=wbr.mp hw;refine wpAny_getItem_heap (tupleKind_room_in1 hu) (zgn I.hok eb) dd hp ?_;rw[hp2];exact h w' _ (I.tok _) rw'
def d_in {Q:Value->Shared->Prop}(hu:A.units+1<cLine)(I:Inv X pins Y H s)(g:DGet H a y o)(ry:RelV y u)(h:∀s',Inv X pins Y H s'->Q (.bool o.isSome) s') :
 wpAny (model X.prog X.w) A (compareOp .In u (.ref a)) Q E s:=by
 rcases g with⟨kvs,k,e,ey,l⟩|⟨kvs,k,b,e,ey,eb,l⟩
 .subst ey;obtain⟨z,hd,vs,rel,dd⟩:=zhY I.hok e;refine wpAny_in_of (zhX ry) hd dd.mapOf ?_;rw[<-(rel.val k).isSome_eq,<-l];exact h _ (I.tok _)
 .subst ey;cases(show u=Value.ref b from ry);obtain⟨z,hd,xs,rel,dd⟩:=zjw I.hok e;refine wpAny_in_heap (tupleKind_room_in1 hu) (zgn I.hok eb) hd dd ?_;have q:=(rel.val k).isSome_eq
  rw[Option.isSome_map] at q;rw[<-q,<-l];exact h _ (I.tok _)
def zlI {Q:Value->Shared->Prop}(hu:A.units+1<cLine)(I:Inv X pins Y H s)(g:DGet H a y o)(ry:RelV y u)(h:∀s',Inv X pins Y H s'->Q (.bool (!o.isSome)) s') :
 wpAny (model X.prog X.w) A (compareOp .NotIn u (.ref a)) Q E s:=by
 rcases g with⟨kvs,k,e,ey,l⟩|⟨kvs,k,b,e,ey,eb,l⟩
 .subst ey;obtain⟨z,hd,vs,rel,dd⟩:=zhY I.hok e;refine wpAny_notIn_of (zhX ry) hd dd.mapOf ?_;rw[<-(rel.val k).isSome_eq,<-l];exact h _ (I.tok _)
 .subst ey;cases(show u=Value.ref b from ry);obtain⟨z,hd,xs,rel,dd⟩:=zjw I.hok e;refine wpAny_notIn_heap (tupleKind_room_in1 hu) (zgn I.hok eb) hd dd ?_;have q:=(rel.val k).isSome_eq
  rw[Option.isSome_map] at q;rw[<-q,<-l];exact h _ (I.tok _)
def zlJ {h':Heap}{t':Nat}{ob:HO}(I:Inv X pins Y H s)(mu:Mut (H a))(hs:Heap.SameBut a s.heap h')(he:∃q,h'.get? a=some q)(new:ObjOk X.prog X.w (upd H a ob) h' a ob) :
 Inv X pins Y (upd H a ob) {s with heap:=h',toks:=t'}:=
 I.write (x:=a) (e:=a) mu (.inl rfl) (λb q hb z=>(hs.2 b hb).trans z) he new
def znw {P:Program}{w:World}{H':Hp}{h':Heap}{kvs:List (Key×V)}{vs:List (Key×Value)}(z:kvs.length<=sizeLine)(hd:(a == sysModules)=false)(rel:KV kvs vs)(dd:h'.DictOf (zbc P w) a vs) :
 ObjOk P w H' h' a (.dK kvs):=⟨z,hd,vs,rel,dd⟩
end
section
variable {X:Cx}{pins:List (Addr×Obj)}{Y:St}{H:Hp}{s:Shared}{a:Addr}{kvs:List (Key×V)}{k:Key}{u:Value}{A:Around}{E:Value->Shared->Prop}
end
def NoSl (i:Expr):Prop:=∀ov iv,subscripted i false ov iv=operate [ov,iv] (getItem ov iv)
def zlK {prog:Program}{w:World}{A:Around}{E:Value->Shared->Prop}{s:Shared}{env:Env}{value slice:Expr}{pos:Pos}{T id:String}{Q:Value->Shared->Prop}
 (hl:typeLookup (.type T) "__getitem__"=pure (some (.builtin id))) (hs:NoSl slice)
 (h:wpAny (model prog w) A (eval value env) (λo s₁=>wpAny (model prog w) A (eval slice env) (λi s₂=>s₂.TypeIs o T/\wpAny (model prog w) A (getItem o i) Q E s₂) E s₁) E s) :
 wpAny (model prog w) A (eval (.Subscript value slice pos) env) Q E s:=by
 refine Subscript_ (wax h (λo s₁ h₁=>wax h₁ (λi s₂ h₂=>?_) λ_ _ x=>x) λ_ _ x=>x);obtain⟨hT,h₂⟩:=h₂;unfold subscriptTail;refine waa ?_;rw[getitemInPython_of_ne hT.not_modules];refine waa (wpAny_specialOf hT hl ?_);have fin:wpAny (model prog w) A (subscripted slice false o i) (λr s₃=>wpAny (model prog w) A (letTemporaryGo value o r >>= λ_=>pure r) Q E s₃) E s₂:=by
  rw[hs o i];exact wpAny_operating (wax h₂ (λr s₃ h₃=>waa (wpAny_letTemporaryGo (wak h₃))) λ_ _ x=>x)
 first
 |exact wak (waa fin)
 |exact waa (wak (waa fin))
 |exact waa fin
def zfJ {X:Cx}{pins:List (Addr×Obj)}{Y:St}{H:Hp}{s:Shared}{a:Addr}{y:V}{o:Option V}(I:Inv X pins Y H s)(g:DGet H a y o):s.TypeIs (.ref a) "dict":=by
 rcases g with⟨kvs,k,e,_,_⟩|⟨kvs,k,b,e,_,_,_⟩
 .obtain⟨_,_,vs,_,dd⟩:=zhY I.hok e;exact dd.typeIs
 .obtain⟨_,_,xs,_,dd⟩:=zjw I.hok e;exact dd.typeIs
def zpl (td ty:TE):TE:=λY H Q=>td Y H λx H1=>ty Y H1 λy H2=>∃a v,x=.ref a/\DGet H2 a y (some v)/\Q v H2
section
variable {X:Cx}{o i e value:Expr}{pos pos' tpos:Pos}{td ty tv:TE}
def zlL (hu:X.A.units+1<cLine)(ho:PE X o td)(hi:PE X i ty)(hs:NoSl i):PE X (.Subscript o i pos) (zpl td ty):=by
 intro pins s Y H Q I h;refine zlK PySem.F.slot_dict_getitem.lookup hs (thn (ho pins s Y H _ I h) λu s1 ⟨x,H1,I1,rx,q1⟩ =>thn (hi pins s1 Y H1 _ I1 q1) λiv s2 ⟨y,H2,I2,ry,a,v,ex,g,q2⟩ =>?_);subst ex;obtain rfl:u=Value.ref a:=rx;exact⟨zfJ I2 g,zhZ hu I2 g ry λw' s3 I3 rw'=>⟨v,H2,I3,rw',q2⟩⟩
end
def zjx {P:Program}{w:World}{H:Hp}(h:Heap)(hb:sysModules<h.objs.size):ObjOk P w H (h.push {cls:=.type "dict",data:=.dict #[]}) h.objs.size (.dK []):=
 ⟨wbz _,beq_eq_false_iff_ne.mpr (Ne.symm (way hb)),[],.nil,Heap.DictOf.new h⟩
section
variable {X:Cx}{pos:Pos}
end
section
variable {X:Cx}{pins:List (Addr×Obj)}{Y:St}{H:Hp}{s:Shared}{a:Addr}{y d:V}{u r:Value}{o:Option V}{A:Around}{E:Value->Shared->Prop}
end
section
variable {X:Cx}{o e f:Expr}{apos cpos:Pos}{td ty tx:TE}
end
section
variable {X:Cx}{pins:List (Addr×Obj)}{Y:St}{H:Hp}{s:Shared}{a:Addr}{kvs:List (Key×V)}{A:Around}{E:Value->Shared->Prop}
end
section
variable {X:Cx}{pins:List (Addr×Obj)}{Y:St}{H:Hp}{s:Shared}{a:Addr}{y:V}{u:Value}{A:Around}{E:Value->Shared->Prop}
end
end L2
namespace L2
open PySem PySem.Spec PyProof PyProof.Rows
section
variable {X:Cx}
def tRev (K:W.Frag)(te:TE):TE:=λY H Q=>te Y H λx H1=>∃a xs,x=.ref a/\SqL K H1 a xs/\∀p,H1 p=none->Q (.ref p) (upd H1 p (.lst xs.reverse))
def znx {e:Expr}{te:TE}{p2 p3 p4 pos:Pos}{j:Nat}(he:PE X e te):PE X (.Subscript e (.Slice none none (some (.UnaryOp .USub (.Constant (.int 1) j p3) p4)) p2) pos) (tRev X.K te):=by
 intro pins s Y H Q I h;refine Subscript_ (thn (he pins s Y H _ I h) λv s1 ⟨x,H1,I1,r1,q1⟩ =>?_);obtain⟨a,xs,rfl,hx,q⟩:=q1;cases r1;refine wpAny_Slice ?_;rw[evalPart_none];refine wak ?_;refine wak ?_;rw[evalPart_some];refine UnaryOp_ (wpAny_Constant_int ?_);refine PyProof.Rows.neg_int ?_;obtain⟨its,r,ht,hz⟩:=I1.list hx;have hlen:=r.length
 have I4:Inv X pins Y H1 {s1 with heap:=s1.heap.push {cls:=.type "slice",data:=.fields #[.none,.none,.int (-1) (s1.toks+1)]},toks:=s1.toks+1+1}:=I1.kept (t':=s1.toks+1+1) λb ob q=>wac _ q
 obtain⟨its4,r4,ht4,hz4⟩:=I4.list hx;have hlen4:=r4.length
 refine tail_any (ops:=[.ref a,.ref s1.heap.objs.size]) ht4.isList.typeIs slot_list_getitem.lookup ?_ (by with_unfolding_all rfl);refine wpAny_getItem_list_slice ht4.isList (Heap.IsSliceOf.new s1.heap .none .none (.int (-1) (s1.toks+1))) .none .none (.int (-1) _) (by simp) ?_ (by rw[wab] <;> omega);rw[PySem.W.krv_pick];refine⟨.ref _,_,I4.laid (t':=s1.toks+1+1) (o:=.lst xs.reverse) (λb ob q=>wac _ q) (wai _) ?_,rfl,q _ (I4.hok.fresh (wai _))⟩;exact⟨by rw[wbX];exact hz,its4.reverse,0,r4.reverse,wav (s1.heap.push {cls:=.type "slice",data:=.fields #[.none,.none,.int (-1) (s1.toks+1)]}) (o:={cls:=.type "list",data:=.seq its4.reverse.toArray}) rfl⟩
end
structure Cal (P:Program)(w:World)(K:W.Frag)(mg:Str->Option Value)(base:Heap)(k:Nat)(x:Str)(ps:List Str)(sp:Sp):Prop where
 ex:∃(f:Addr) (fd:FuncData),FnOk P w K mg base CX0 k f fd ps sp/\Binds K fd ps []/\W.keepIn K (.ref f)=true/\mg x=some (.ref f)
section
variable {X:Cx}{k:Nat}{x:Str}{ps:List Str}{sp:Sp}{t:TA}{p pos:Pos}{e:Expr}{es:List Expr}
def pc {k':Nat}(C:Cal X.prog X.w X.K X.mg X.base k x ps sp)(hr:Room k' X.A)(ha:PA X (e::es) t)(hk:k<=k':=by decide)(hg:Gl X x:=by rfl)(hdb:(x == ("__debug__" : Str))=false:=by decide)
 (he:starEach (e::es) X.env=(false,eval e X.env)::starEach es X.env:=by rfl) (hpl:(backTo pos (starEach es X.env)).any (·.1)=false:=by rfl):PE X (.Call (.Name x p) (e::es) [] pos) (zlt sp [] E0 t):=by
 obtain⟨f,fd,a,b,c,d⟩:=C.ex;exact zlu (a.mono hk) hr hg d c b .nil znr ha hdb he hpl
end
def zbD:List Str:=["len","range","min","max","int","str","bool","list","tuple","isinstance","any","all","enumerate","abs","sorted","dict","ord","chr","reversed"]
def Blt (mg:Str->Option Value):Prop:=∀x∈zbD,mg x=none
def Blt.get {mg:Str->Option Value}(B:Blt mg)(x:Str)(h:x∈zbD:=by decide +kernel):mg x=none:=B x h
section
variable {X:Cx}{r:List V->Hp->VK->Prop}{t:TA}{p pos:Pos}{e:Expr}{es:List Expr}{id T:String}{x:Str}
def pb (hc:zcE X (.builtin id) r)(B:Blt X.mg)(hv:bootBuiltins x=some (.builtin id))(ha:PA X (e::es) t)(hB:x∈zbD:=by decide +kernel)(hg:Gl X x:=by rfl)(hn:x≠"__name__":=by decide)(hdb:(x == ("__debug__" : Str))=false:=by decide)
 (he:starEach (e::es) X.env=(false,eval e X.env)::starEach es X.env:=by rfl) (hpl:(backTo pos (starEach es X.env)).any (·.1)=false:=by rfl):PE X (.Call (.Name x p) (e::es) [] pos) (tCB r t):=
 zjq hc hg (B x hB) hv ha hn hdb he hpl
def pty (hc:zcE X (.type T) r)(B:Blt X.mg)(hv:bootBuiltins x=some (.type T))(ha:PA X (e::es) t)(hB:x∈zbD:=by decide +kernel)(hg:Gl X x:=by rfl)(hn:x≠"__name__":=by decide)(hdb:(x == ("__debug__" : Str))=false:=by decide)
 (he:starEach (e::es) X.env=(false,eval e X.env)::starEach es X.env:=by rfl) (hpl:(backTo pos (starEach es X.env)).any (·.1)=false:=by rfl):PE X (.Call (.Name x p) (e::es) [] pos) (tCB r t):=
 zhJ hc hg (B x hB) hv ha hn hdb he hpl
def ptn {v:V}{u:Value}(B:Blt X.mg)(hv:bootBuiltins x=some u)(rl:RelV v u)(hB:x∈zbD:=by decide +kernel)(hg:Gl X x:=by rfl)(hn:x≠"__name__":=by decide)(hdb:(x == ("__debug__" : Str))=false:=by decide):PE X (.Name x pos) (tC v):=
 zhv hg (B x hB) hv rl hn hdb
def papp {o:Expr}{to:TE}{apos cpos:Pos}(ho:PE X o to)(ha:PA X [e] t)
 (hbase:attributeBase o "append" X.env (eval o X.env)=eval o X.env:=by rfl)
 (hfew:((backTo cpos (starEach [e] X.env)).all (λx=>!x.1)&&(backToKw cpos (keywordEach [] X.env)).all (λx=>x.1.isSome)
  && decide ([e].length+([]:List Keyword).length+(if([]:List Keyword).isEmpty then 0 else 1)<30))=true:=by rfl)
 (hline:(apos.endLine == cpos.line)=true:=by rfl) (hs:starEach [e] X.env = [(false,eval e X.env)]:=by rfl) :
 PE X (.Call (.Attribute o "append" apos) [e] [] cpos) (tBM X.K "list" zfE to t):=
 znp PySem.F.plainAttrs_list PySem.F.slot_list_append PySem.F.type_list_append zeS ho ha hbase hfew hline hs rfl
end
def zny (K:W.Frag):List V->Hp->VK->Prop:=λxs H Q=>∃x n t k,xs = [x,.ty n]/\TyOf K H x t/\PySem.W.kitOne K t (.type n)=some k/\Q (.bl k) H
def zlM {X:Cx}:zcE X (.builtin "isinstance") (zny X.K):=zfG
end L2
namespace Rv
open PySem PySem.Spec PyProof PyProof.Rows
open Sem (wp)
def zcU:Slot "reversed" "__init__" "object.__init__":=
 .of (owner:="object") (n:="__init__") (by rw[typeLookup_type,builtinLookup_eq_fast];kernel_rfl) (by decide +kernel) (by decide +kernel) (by decide +kernel)
  (by first|exact .inl (by decide +kernel)|exact .inr (by decide +kernel)) (by rw[isSubtype_type];kernel_rfl)
def zdh:mroOf (.type "reversed")=pure [.type "reversed",.type "object"]:=by rw[mroOf_type];kernel_rfl
def zcJ:typeLookup (.type "reversed") "__new__"=pure (some (.builtin "reversed.__new__")):=by rw[typeLookup_type,builtinLookup_eq_fast];kernel_rfl
def called_reversed:TypeCalled "reversed" "reversed.__new__" "object.__init__":=
 ⟨by decide +kernel,by decide +kernel,⟨_,_,zdh⟩,madeBy_type zdh zcJ (by decide +kernel),by decide +kernel,by rw[isSubtype_type];kernel_rfl,zcU⟩
def typeCall_reversed_1 (a:Value):checkTypeCall "reversed" ⟨[a],[]⟩=pure ():=by kernel_rfl
def newCall_reversed_1 (a:Value):checkBuiltinCall "reversed.__new__" ⟨[.type "reversed",a],[]⟩=pure ():=by kernel_rfl
def entry_reversed_new:entryFor table "reversed.__new__"=some Builtin.«reversed.__new__»:=entryFor_of_tree (by kernel_rfl)
def sub_ri:isSubtype (.type "range_iterator") (.type "reversed")=pure false:=by rw[isSubtype_type];kernel_rfl
section
variable {prog:Program}{w:World}{A:Around}{E:Value->Shared->Prop}{s:Shared}
def callType_else {T T' newId initId:String}{Bn:Builtin}{args:List Value}{S:PySem.Spec}{Q Q₁:Value->Shared->Prop}(ft:TypeCalled T newId initId)
 (hct:checkTypeCall T ⟨args,[]⟩=pure ()) (hcn:checkBuiltinCall newId ⟨.type T::args,[]⟩=pure ())
 (entryN:entryFor table newId=some Bn) (g:Meets (Bn ⟨.type T::args,[]⟩) S) (hsub':isSubtype (.type T') (.type T)=pure false)
 (h:S A.in1 (wants Q₁ E) s) (hnext:∀obj s₁,Q₁ obj s₁->s₁.TypeIs obj T'/\Q obj s₁) :
 wpAny (model prog w) A (call (.type T) args) Q E s:=by
 obtain⟨c,tl,hmro⟩:=ft.mro;have hmade:=ft.made
 have hsub:=ft.sub
 refine wpAny_call (codeAny_of_tree ?_);show wpAny _ _ (callAny (.type T) _) _ _ _
 refine wak ⟨Code.quiet_builtin _ (by decide +kernel),codeAny_builtin F.entry_type_call ?_⟩;rw[Around.under_plain (weight_type_call_type T args []) (units_type_call_type T args [])];have h1:=ft.notType
 have h2:=ft.canCreate
 repeat (any_goals (first|assumption|wp_step))
 refine wcy (wcp ft.plain entryN (wpAny_of_eq hcn (g prog w A.in1 _ s h))) λr s₁ hr=>?_
 cases r with
|error e=>exact hr
|ok fl=>
   cases fl with
  |ret obj=>
     obtain⟨hT,hq⟩:=hnext _ _ hr;repeat (any_goals (first|assumption|wp_step))
  |_=>exact hr.elim
end
def zjy (r:Addr)(lo hi:Int)(t u v:Tok)(hs:(Builtin.Range.rangeFitsLong lo&&Builtin.Range.rangeFitsLong hi&&Builtin.Range.rangeFitsLong 1&&Builtin.Range.rangeFitsLong (-1)&&Builtin.Range.rangeFitsLong (lo - 1)&&Builtin.Range.rangeFitsLong (Builtin.Range.rangeSize lo hi 1))=true) :
 Meets (Builtin.«range.__reversed__» ⟨[.ref r],[]⟩) (λ_ R s=>s.heap.get? r=some {cls:=.type "range",data:=.fields #[.int lo t,.int hi u,.int 1 v]}/\
  R (.ok (.ret (.ref s.heap.objs.size))) {s with heap:=s.heap.push {cls:=.type "range_iterator",data:=.fields #[rawInt (lo+(Builtin.Range.rangeSize lo hi 1 - 1)*1),rawInt (Builtin.Range.rangeSize lo hi 1),rawInt (-1)]}}):=
 .of_wp λprog w A R s h=>by
  obtain⟨hp,g,d,tk,os⟩:=s;obtain⟨hl,h⟩:=h;wp_walk using wbj hl
  rw[hs,if_pos rfl];exact⟨_,rfl,h⟩
def meets_new_range (r:Addr)(lo hi:Int)(t u v:Tok)(hs:(Builtin.Range.rangeFitsLong lo&&Builtin.Range.rangeFitsLong hi&&Builtin.Range.rangeFitsLong 1&&Builtin.Range.rangeFitsLong (-1)&&Builtin.Range.rangeFitsLong (lo - 1)&&Builtin.Range.rangeFitsLong (Builtin.Range.rangeSize lo hi 1))=true) :
 Meets (Builtin.«reversed.__new__» ⟨[.type "reversed",.ref r],[]⟩) (λ_ R s=>s.heap.get? r=some {cls:=.type "range",data:=.fields #[.int lo t,.int hi u,.int 1 v]}/\
  R (.ok (.ret (.ref s.heap.objs.size))) {s with heap:=s.heap.push {cls:=.type "range_iterator",data:=.fields #[rawInt (lo+(Builtin.Range.rangeSize lo hi 1 - 1)*1),rawInt (Builtin.Range.rangeSize lo hi 1),rawInt (-1)]}}):=
 .of_wp λprog w A R s h=>by
  obtain⟨hp,g,d,tk,os⟩:=s;obtain⟨hl,h⟩:=h;have hsub:=called_reversed.sub
  have hT:Shared.TypeIs ⟨hp,g,d,tk,os⟩ (.ref r) "range":=⟨_,hl,rfl⟩
  wp_walk using wbj hl
  rw[F.slot_range_reversed.lookup];refine wak ?_;show wpAny _ _ (bindSpecial (.builtin "range.__reversed__") (Value.ref r) >>= _) _ _ _
  rw[F.slot_range_reversed.bind];refine waa (wak ?_);refine waa (wcE ?_);refine waa (m:=call (.builtin "range.__reversed__") [Value.ref r]) (call_meets F.slot_range_reversed hT F.entry_range_reversed (F.args_range_reversed_1 _) (zjy r lo hi t u v hs) ⟨hl,?_⟩);exact wak ⟨_,rfl,h⟩
end Rv
namespace L2
open PySem PySem.Spec PyProof PyProof.Rows
def Itd (hi:Int)(n:Nat):It:=⟨λi _=>i<n,λi H x H'=>H'=H/\x=.int (hi - i),λi _=>n<=i⟩
def zh0 {P:Program}{w:World}{K:W.Frag}{tg:Expr}(it:Addr)(lo:Int)(n:Nat):Turn P w K tg (Itd lo n) [it] it (λi h=>IsRangeIter h it (lo+(i:Nat)*(-1)) ((n:Int) - (i:Nat)) (-1)) where
 mem:=by simp
 obj:=λi h st b hb=>by
  have e:b=it:=by simpa using hb
  subst e;exact⟨_,st,λv z=>by
   have z':Data.fields _=Data.cell v:=z
   cases z'⟩
 keep:=λi h h' st k=>k it (by simp) _ st
 item:=by
  intro X hP hw hK hc i pins s Y H E I hf st hg;subst hP hw hK;obtain⟨f0,f1,f2,f3,f4,f5⟩:=hf it (by simp);have W:=Walks.range (prog:=X.prog) (w:=X.w) (I.ok.hd hc) it lo (-1) n
  refine W.item i s _ _ hg st λv h' tk hv st' kk=>?_
  obtain⟨t,rfl⟩:=hv;have I1:Inv X pins Y H {s with heap:=h',toks:=tk}:=I.turned (λb o hb e=>kk b o (by simpa using hb) e) f0 f1 f3 f4 f5
  refine⟨_,rfl,zhA (s:={s with heap:=h',toks:=tk}) (n:="range_iterator") st' rfl rfl (by decide) ⟨.int (lo - i),H,I1,⟨t,?_⟩,⟨rfl,rfl⟩,st',λb hb=>(hf b hb).1⟩⟩;rw[Int.mul_neg,Int.mul_one] <;> rfl
 done:=by
  intro X hP hw hK hc i pins s Y H E I hf st hg;subst hP hw hK;obtain⟨f0,f1,f2,f3,f4,f5⟩:=hf it (by simp);exact wpAny_pyNext_range_end (I.ok.hd hc) st (by have:n<=i:=hg;omega) λh' eb=>⟨rfl,I.turned (t':=s.toks) (λb o hb e=>eb b o hb e) f0 f1 f3 f4 f5⟩
 self:=λ_ _ _ _ _ st h=>wcd st h
section
variable {X:Cx}{tg:Expr}
def zd1 {prog:Program}{w:World}{A:Around}{E:Value->Shared->Prop}{s:Shared}{r:Addr}{lo hi:Int}{t u v:Tok}{Q:Value->Shared->Prop}(hr:s.heap.get? r=some {cls:=.type "range",data:=.fields #[.int lo t,.int hi u,.int 1 v]})
 (h1:-(2 ^ 62)<=lo) (h2:lo<2 ^ 62) (h3:-(2 ^ 62)<=hi) (h4:hi<2 ^ 62)
 (q:Q (.ref s.heap.objs.size) {s with heap:=s.heap.push {cls:=.type "range_iterator",data:=.fields #[rawInt (lo+(Builtin.Range.rangeSize lo hi 1 - 1)*1),rawInt (Builtin.Range.rangeSize lo hi 1),rawInt (-1)]}}) :
 wpAny (model prog w) A (call (.type "reversed") [.ref r]) Q E s:=by
 refine Rv.callType_else (T':="range_iterator") (Q₁:=λv s1=>v=.ref s.heap.objs.size/\s1 = {s with heap:=s.heap.push {cls:=.type "range_iterator",data:=.fields #[rawInt (lo+(Builtin.Range.rangeSize lo hi 1 - 1)*1),rawInt (Builtin.Range.rangeSize lo hi 1),rawInt (-1)]}}) Rv.called_reversed (Rv.typeCall_reversed_1 _) (Rv.newCall_reversed_1 _) Rv.entry_reversed_new (Rv.meets_new_range r lo hi t u v ?_) Rv.sub_ri ⟨hr,rfl,rfl⟩ ?_
 .have e2:Builtin.Range.rangeSize lo hi 1=(((hi - lo).toNat:Nat):Int):=by rw[rangeSize_one];split <;> omega
  rw[e2];have f:∀k:Int,-(2 ^ 63)<=k->k<2 ^ 63->Builtin.Range.rangeFitsLong k=true:=λk a b=>by unfold Builtin.Range.rangeFitsLong;simp only[waC,decide_eq_true_eq];omega
  rw[f lo (by omega) (by omega),f hi (by omega) (by omega),f 1 (by decide) (by decide),f (-1) (by decide) (by decide),f (lo - 1) (by omega) (by omega),f _ (by omega) (by omega)];rfl
 .rintro obj s1 ⟨rfl,rfl⟩;exact⟨⟨_,wav _ rfl,rfl⟩,q⟩
def zpm (ta:TA):TI:=λY H R=>ta Y H λvs H1=>∃j:Int,vs = [.int j]/\0<=j/\j<2 ^ 62/\R (Itd (j - 1) j.toNat) H1
def zlN {a:Expr}{ta:TA}{p p2 pos pos2:Pos}(hg:Gl X "range")(hm:X.mg "range"=none)(hg2:Gl X "reversed")(hm2:X.mg "reversed"=none)(ha:PA X [a] ta)(hs:starEach [a] X.env = [(false,eval a X.env)]:=by rfl)
 (hs2:starEach [.Call (.Name "range" p) [a] [] pos] X.env = [(false,eval (.Call (.Name "range" p) [a] [] pos) X.env)]:=by rfl):PI X tg (.Call (.Name "reversed" p2) [.Call (.Name "range" p) [a] [] pos] [] pos2) (zpm ta):=by
 intro pins s Y H R I h;refine waQ (zcR I hg2 hm2 boot_reversed ?_ (by decide) (by decide));refine waS ?_ hs2 rfl;rw[hs2];refine Calls.spliced_cons ?_;refine Call_ (zcR I hg hm boot_range (waS (thn (ha pos pins s Y H _ I h) λus s1 ⟨vs,H1,I1,r1,q1⟩ =>?_) hs rfl));obtain⟨j,e,q1,q2,q⟩:=q1;subst e;cases r1 with
|cons r rr=>
   cases rr;obtain⟨t,rfl⟩:=r;refine call_range_1 ?_;refine Calls.spliced_nil ?_;have I2:Inv X pins Y H1 {s1 with heap:=s1.heap.push {cls:=.type "range",data:=.fields #[.int 0 s1.toks,.int j t,.int 1 (s1.toks+1)]},toks:=s1.toks+1+1}:=I1.kept (t':=s1.toks+1+1) λb o e=>wac _ e
   refine zd1 (wav _ rfl) (by decide) (by decide) (by omega) q2 ?_;have e2:Builtin.Range.rangeSize 0 j 1=((j.toNat:Nat):Int):=by rw[rangeSize_one];split <;> omega
   rw[e2];generalize hg9:s1.heap.push {cls:=.type "range",data:=.fields #[.int 0 s1.toks,.int j t,.int 1 (s1.toks+1)]}=g9 at I2
   .rw[show(0:Int)+((j.toNat:Nat) - 1)*1=(j - 1)+((0:Nat):Int)*(-1) by omega,show((j.toNat:Nat):Int)=((j.toNat:Nat):Int) - ((0:Nat):Int) by omega];refine wcd (it:=g9.objs.size) (wav _ rfl) ?_;refine⟨g9.objs.size,[g9.objs.size],_,_,H1,rfl,I2.kept (t':=s1.toks+1+1) λb o e=>wac _ e,zh0 _ (j - 1) j.toNat,?_,λb hb=>?_,q⟩
    .exact wav _ rfl
    .have e:b=g9.objs.size:=by simpa using hb
     subst e;exact I2.fpOk (wai _) (I2.hok.fresh (wai _))
end
section
variable {X:Cx}
end
def clo (cells:List (Str×Addr)):List (Str×NameKind)->List (Str×Addr)->List (Str×Addr)
|[],acc=>acc
|(n,k)::r,acc=>clo cells r (if(k == NameKind.free)=true then(n,(cells.lookup n).getD 0)::acc else acc)
theorem zh1 {env:Env}:∀(names:List (Str×NameKind)) (acc:List (Str×Addr)),(∀y∈names,y.2=.free->∃c,env.cells.lookup y.1=some c)->
 (forIn names acc λ(x:Str×NameKind) (cs:List (Str×Addr))=>match x with|(name,kind)=>if(kind == NameKind.free)=true then(do let c <-cellOf env name;pure (ForInStep.yield ((name,c)::cs))) else(pure (ForInStep.yield cs):Sem _))=pure (clo env.cells names acc)
|[],acc,_=>rfl
|(n,k)::r,acc,h=>by
   rw[List.forIn_cons];have ih:=zh1 (env:=env) r
   by_cases hk:(k == NameKind.free)=true
   .obtain⟨c,hc⟩:=h (n,k) (wah ..) (by cases k <;> first|rfl|cases hk);have e1:cellOf env n=pure c:=by unfold cellOf;rw[hc]
    show(if(k == NameKind.free)=true then _ else _) >>= _=_
    rw[if_pos hk,e1];show(forIn r ((n,c)::acc) _:Sem _)=pure (clo env.cells r (if(k == NameKind.free)=true then _ else _))
    rw[if_pos hk,hc];exact ih _ λy hy=>h y (wad _ hy)
   .show(if(k == NameKind.free)=true then _ else _) >>= _=_
    rw[if_neg hk];show(forIn r acc _:Sem _)=pure (clo env.cells r (if(k == NameKind.free)=true then _ else _))
    rw[if_neg hk];exact ih _ λy hy=>h y (wad _ hy)
def zgo {env:Env}{scope:Scope}(h:∀y∈scope.names,y.2=.free->∃c,env.cells.lookup y.1=some c):closureFor scope env=pure (clo env.cells scope.names []):=by
 have e:=zh1 (env:=env) scope.names [] h
 unfold closureFor;show(forIn scope.names ([]:List (Str×Addr)) _ >>= λcs=>pure cs)=_
 have e2:(forIn scope.names ([]:List (Str×Addr)) (λ(x:Str×NameKind) (cs:List (Str×Addr))=>match x with|(name,kind)=>if(kind == NameKind.free)=true then(do let c <-cellOf env name;pure (ForInStep.yield ((name,c)::cs))) else(pure (ForInStep.yield cs):Sem _)) >>= λcs=>pure cs)=pure (clo env.cells scope.names []):=by
  rw[e];rfl
 exact e2
theorem zdz (cells:List (Str×Addr)):∀(names:List (Str×NameKind)) (acc:List (Str×Addr)),(∀x c,acc.lookup x=some c->cells.lookup x=some c)->(∀y∈names,y.2=.free->∃c,cells.lookup y.1=some c)->
 ∀x c,(clo cells names acc).lookup x=some c->cells.lookup x=some c
|[],acc,h,_,x,c,e=>h x c e
|(n,k)::r,acc,h,hf,x,c,e=>by
   refine zdz cells r _ (λy d e'=>?_) (λy hy=>hf y (wad _ hy)) x c e;by_cases hk:(k == NameKind.free)=true
   .rw[if_pos hk,waT] at e';obtain⟨c',hc⟩:=hf (n,k) (wah ..) (by cases k <;> first|rfl|cases hk);cases hy:y == n with
   |true=>
      rw[hy] at e';have:y=n:=by simpa using hy
      rw[this,hc];rw[hc] at e';exact e'
   |false=>rw[hy] at e';exact h y d e'
   .rw[if_neg hk] at e';exact h y d e'
theorem zdA (cells:List (Str×Addr)):∀(names:List (Str×NameKind)) (acc:List (Str×Addr)) (x:Str),((∃c,acc.lookup x=some c)\/(x,NameKind.free)∈names)->∃c,(clo cells names acc).lookup x=some c
|[],acc,x,h=>by
   rcases h with h|h
   .exact h
   .cases h
|(n,k)::r,acc,x,h=>by
   refine zdA cells r _ x ?_;rcases h with⟨c,h⟩|h
   .left
    by_cases hk:(k == NameKind.free)=true
    .rw[if_pos hk,waT];cases hy:x == n with
    |true=>exact⟨_,rfl⟩
    |false=>exact⟨c,h⟩
    .rw[if_neg hk];exact⟨c,h⟩
   .rcases waf.mp h with h|h
    .left
     cases h;rw[if_pos (by rfl),waT,beq_self_eq_true];exact⟨_,rfl⟩
    .exact .inr h
theorem zbu {κ β:Type}[BEq κ][LawfulBEq κ]:∀{l:List (κ×β)}{x:κ}{k:β},l.lookup x=some k->(x,k)∈l
|[],x,k,h=>by cases h
|(n,k')::r,x,k,h=>by
   rw[waT] at h;cases hx:x == n with
  |true=>
     rw[hx] at h;cases h;have:x=n:=by simpa using hx
     rw[this];exact wah ..
  |false=>rw[hx] at h;exact wad _ (zbu h)
theorem za3 {env:Env}:∀(l:List (Str×NameKind)),(∀y∈l,y.2≠.cell)->∀x k,(l.map λ(n,k)=>if(k == NameKind.free&&env.scope.kind == .function&&env.kindOf n == some .cell) then(n,NameKind.cell) else(n,k)).lookup x=some k->(k=.cell\/k=.free)->l.lookup x=some .free
|[],_,x,k,e,_=>by cases e
|(n,k0)::r,h,x,k,e,hk=>by
   rw[waL] at e;have h0:k0≠.cell:=h _ (wah ..)
   rw[waT];cases hx:x == n with
  |true=>
     cases k0 with
    |free=>rfl
    |cell=>exact absurd rfl h0
    |_=>
       exfalso
       obtain rfl:x=n:=by simpa using hx
       rw[waT] at e;rcases hk with rfl|rfl <;> (revert e;simp)
  |false=>
     refine za3 (env:=env) r (λy hy=>h y (wad _ hy)) x k ?_ hk;rw[waT] at e;have:(x == (if(k0 == NameKind.free&&env.scope.kind == .function&&env.kindOf n == some .cell)=true then(n,NameKind.cell) else(n,k0)).1)=false:=by split <;> exact hx
     rw[this] at e;exact e
theorem zbn {env:Env}(hf:env.scope.kind=.function):∀(l:List (Str×NameKind)) (x:Str),l.lookup x=some .free->env.kindOf x=some .cell->(l.map λ(n,k)=>if(k == NameKind.free&&env.scope.kind == .function&&env.kindOf n == some .cell) then(n,NameKind.cell) else(n,k)).lookup x=some .cell
|[],x,e,_=>by cases e
|(n,k0)::r,x,e,hk=>by
   rw[waL];rw[waT] at e⊢;cases hx:x == n with
  |true=>
     rw[hx] at e;cases e;have hn:x=n:=by simpa using hx
     have hk':(env.kindOf n == some NameKind.cell)=true:=by rw[<-hn,hk];rfl
     have hcond:(NameKind.free == NameKind.free&&env.scope.kind == .function&&env.kindOf n == some .cell)=true:=by
      rw[hf,hk'];rfl
     simp only[hcond,if_true,hx]
  |false=>
     rw[hx] at e;have:(x == (if(k0 == NameKind.free&&env.scope.kind == .function&&env.kindOf n == some .cell)=true then(n,NameKind.cell) else(n,k0)).1)=false:=by split <;> exact hx
     simp only[this];exact zbn hf r x e hk
def zbW (N:List Str)(sc:List (Str×NameKind))(names:List (Str×NameKind))(NC:List Str)(fr:List (Option Nat)):Bool:=
 (NC.zip fr).all λp=>match p.2 with|none=>true|some j=>(N[j]? == some p.1)&&(sc.lookup p.1 == some .cell)&&(names.lookup p.1 == some .free)
def zh2 (N:List Str)(st:Stmt){X:Cx}{elt iter tg:Expr}{ifs:List Expr}{scope:Scope}{pos:Pos}{NC:List Str}(fr:List (Option Nat)){wi:TI}{g:TG}{tt:TT}{te:TE}{RR:Hp->Prop}(hRR:∀pins Y H s,Inv X pins Y H s->RR H)(hcalm:X.calm=true)(hi:PI X tg iter wi)
 (hcells:∀x,X.env.scope.names.lookup x=some .cell->∃c,X.env.cells.lookup x=some c) (hfk:X.env.scope.kind=.function) (hN:X.N=N) (hsc:X.env.scope.names=(zab st).names)
 (hfree':∀y∈scope.names,y.2=.free->(zab st).names.lookup y.1=some .cell) (hcell:∀y∈scope.names,y.2≠.cell) (hkind:scope.kind=.function) (hnames:∀y∈scope.names,y.2=.local->scope.names.lookup y.1=some .local)
 (hfr':zbW N (zab st).names scope.names NC fr=true) (hlen:fr.length=NC.length)
 (hg:∀cl C s0 H0 ex pn,PG (cxC X scope cl NC C s0 H0 ex pn) tg g) (ht:∀cl C s0 H0 ex pn,PTs (cxC X scope cl NC C s0 H0 ex pn) ifs tt) (he:∀cl C s0 H0 ex pn,RR H0->PE (cxC X scope cl NC C s0 H0 ex pn) elt te)
 (hs:∀x,foldedSetIterable iter X.env x=pure x:=by intro _;rfl):PE X (.ListComp elt [⟨tg,iter,ifs,0⟩] scope pos) (zeV fr wi g tt te):=by
 have hfree:∀y∈scope.names,y.2=.free->X.env.scope.names.lookup y.1=some .cell:=by rw[hsc];exact hfree'
 have hfr:zbW X.N X.env.scope.names scope.names NC fr=true:=by rw[hsc,hN];exact hfr'
 have hc:∀y∈scope.names,y.2=.free->∃c,X.env.cells.lookup y.1=some c:=λy hy h=>hcells _ (hfree y hy h)
 refine zjv (cl:=clo X.env.cells scope.names []) hRR hcalm hi (zgo hc) hcell hkind hnames (λx c e=>zdz _ _ _ (λ_ _ z=>by cases z) hc x c e) (λx hx=>?_) (λi x j h1 h2=>?_) hlen (hg _) (ht _) (he _) hs
 .refine zdA _ _ _ x (.inr (zbu ?_));rcases hx with e|e
  .exact za3 scope.names hcell x _ e (.inl rfl)
  .exact za3 scope.names hcell x _ e (.inr rfl)
 .have hm:(x,some j)∈NC.zip fr:=by
   have hi1:=(wae.mp h1).1
   have:(NC.zip fr)[i]?=some (x,some j):=by rw[wbA];exact⟨h1,h2⟩
   exact waE this
  have q:=waJ.mp hfr _ hm
  have q':((X.N[j]? == some x)&&(X.env.scope.names.lookup x == some .cell)&&(scope.names.lookup x == some .free))=true:=q
  simp only[waC,beq_iff_eq] at q';obtain⟨⟨q1,q2⟩,q3⟩:=q';refine⟨q1,.inr (.inl q2),?_,.inl (zbn hfk scope.names x q3 q2)⟩;intro z;have z':X.env.scope.names.lookup x=some .local:=z
  rw[q2] at z';cases z'
def pvC (i:Nat){X:Cx}{scope:Scope}{cl:List (Str×Addr)}{NC:List Str}{C:Addr}{s0:Shared}{H0:Hp}{ex:List Addr}{pn:List (Addr×Obj)}{x:Str}{pos:Pos}(hi:NC[i]?=some x)(hfk:X.env.scope.kind=.function)
 (h1:scope.names.lookup x=some .free) (h2:X.env.scope.names.lookup x=some .cell) (hd:(x == ("__debug__" : Str))=false:=by decide) (hcd:(x == ("__classdict__" : Str))=false:=by decide):PE (cxC X scope cl NC C s0 H0 ex pn) (.Name x pos) (tVar i):=
 zdg (X:=cxC X scope cl NC C s0 H0 ex pn) hi (.inr (.inl (zbn hfk scope.names x h1 h2))) hd hcd
section
variable {X:Cx}{scope:Scope}{cl:List (Str×Addr)}{NC:List Str}{C:Addr}{s0:Shared}{H0:Hp}{ex:List Addr}{pn:List (Addr×Obj)}
end
def zgp (N:List Str)(st:Stmt){X:Cx}{i:Nat}{x:Str}{elt iter tg:Expr}{ifs:List Expr}{scope:Scope}{pos pos' cp:Pos}{NC:List Str}(fr:List (Option Nat)){wi:TI}{g:TG}{tt:TT}{te:TE}(hND:X.N.Nodup)(hix:X.N[i]?=some x)(hx:Loc X.env.scope x)
 {RR:Hp->Prop}(hRR:∀pins Y H s,Inv X pins Y H s->RR H) (hcalm:X.calm=true) (hi:PI X tg iter wi)
 (hcells:∀x,X.env.scope.names.lookup x=some .cell->∃c,X.env.cells.lookup x=some c) (hfk:X.env.scope.kind=.function) (hN:X.N=N) (hsc:X.env.scope.names=(zab st).names)
 (hfree':∀y∈scope.names,y.2=.free->(zab st).names.lookup y.1=some .cell) (hcell:∀y∈scope.names,y.2≠.cell) (hkind:scope.kind=.function) (hnames:∀y∈scope.names,y.2=.local->scope.names.lookup y.1=some .local)
 (hfr':zbW N (zab st).names scope.names NC fr=true) (hlen:fr.length=NC.length)
 (hg:∀cl C s0 H0 ex pn,PG (cxC X scope cl NC C s0 H0 ex pn) tg g) (ht:∀cl C s0 H0 ex pn,PTs (cxC X scope cl NC C s0 H0 ex pn) ifs tt) (he:∀cl C s0 H0 ex pn,RR H0->PE (cxC X scope cl NC C s0 H0 ex pn) elt te)
 (hs:∀x,foldedSetIterable iter X.env x=pure x:=by intro _;rfl) (hsw:swapsWith (.ListComp elt [⟨tg,iter,ifs,0⟩] scope cp) (some (.Name x pos')) pos.line X.env=pure true:=by rfl)
 (hf:X.fn x=true\/X.env.scope.names.lookup x=some .local:=by first|exact .inl rfl|exact .inr rfl|assumption) :
 PS X (.Assign [.Name x pos'] (.ListComp elt [⟨tg,iter,ifs,0⟩] scope cp) pos) (tAsg (zeV fr wi g tt te) (zdl i)):=by
 intro pins s Y H D I h;rw[exec_Assign_Name_used _ _ _ _ hsw];refine waa (wbh ?_);rw[arm_evalThenUse_ListComp];have hfree:∀y∈scope.names,y.2=.free->X.env.scope.names.lookup y.1=some .cell:=by rw[hsc];exact hfree'
 have hfr:zbW X.N X.env.scope.names scope.names NC fr=true:=by rw[hsc,hN];exact hfr'
 have hc:∀y∈scope.names,y.2=.free->∃c,X.env.cells.lookup y.1=some c:=λy hy h=>hcells _ (hfree y hy h)
 refine waa (waa (zgk (cl:=clo X.env.cells scope.names []) (Q:=λx H1=>zdl i x Y H1 D.nx) (R:=λ_ s'=>wpAny (model X.prog X.w) X.A (pure ()) (λ_ s₁=>wpAny (model X.prog X.w) X.A (pure Flow.next) (SP X pins D) X.xe s₁) X.xe s') hRR hcalm hi (zgo hc) hcell hkind hnames (λx c e=>zdz _ _ _ (λ_ _ z=>by cases z) hc x c e) (λx hx=>?_) (λi x j h1 h2=>?_) hlen (hg _) (ht _) (he _) hs I h ?_))
 .refine zdA _ _ _ x (.inr (zbu ?_));rcases hx with e|e
  .exact za3 scope.names hcell x _ e (.inl rfl)
  .exact za3 scope.names hcell x _ e (.inr rfl)
 .have hm:(x,some j)∈NC.zip fr:=by
   have:(NC.zip fr)[i]?=some (x,some j):=by rw[wbA];exact⟨h1,h2⟩
   exact waE this
  have q:=waJ.mp hfr _ hm
  have q':((X.N[j]? == some x)&&(X.env.scope.names.lookup x == some .cell)&&(scope.names.lookup x == some .free))=true:=q
  simp only[waC,beq_iff_eq] at q';obtain⟨⟨q1,q2⟩,q3⟩:=q';refine⟨q1,.inr (.inl q2),?_,.inl (zbn hfk scope.names x q3 q2)⟩;intro z;have z':X.env.scope.names.lookup x=some .local:=z
  rw[q2] at z';cases z'
 .intro C Da H' s' m I' hns hfp q;show wpAny _ _ (assign (.Name x pos') X.env (.ref Da)) _ _ _
  refine wpAny_assign_Name (zdt I' hND hix hx (show RelV (.ref Da) (.ref Da) from rfl) (λs2 I2 hsb=>?_) hf);obtain⟨f0,f1,f2,f3,f4,f5⟩:=hfp;obtain⟨a,hsb,ha⟩:=hsb;have hCa:C≠a:=by
   rcases ha with rfl|ha
   .exact f1
   .exact λz=>f4 x a ha z.symm
  obtain⟨o,es,ep,ho,r⟩:=hns;refine⟨m,⟨o,es,ep,hsb.extBut C o hCa ho,r⟩,λh' hs'=>?_⟩;refine wak (wak ⟨_,H',?_,q⟩);exact I2.turned (t':=s2.toks) (λb o hb e=>hs'.extBut b o hb e) f0 f1 f3 f4 f5
def zlO (N:List Str)(st:Stmt){X:Cx}{i:Nat}{x:Str}{elt iter tg:Expr}{ifs:List Expr}{scope:Scope}{pos pos' cp:Pos}{NC:List Str}(fr:List (Option Nat)){wi:TI}{g:TG}{tt:TT}{te:TE}(hND:X.N.Nodup)(hix:X.N[i]?=some x)(hx:Loc X.env.scope x)
 (hcalm:X.calm=true) (hi:PI X tg iter wi)
 (hcells:∀x,X.env.scope.names.lookup x=some .cell->∃c,X.env.cells.lookup x=some c) (hfk:X.env.scope.kind=.function) (hN:X.N=N) (hsc:X.env.scope.names=(zab st).names)
 (hfree':∀y∈scope.names,y.2=.free->(zab st).names.lookup y.1=some .cell) (hcell:∀y∈scope.names,y.2≠.cell) (hkind:scope.kind=.function) (hnames:∀y∈scope.names,y.2=.local->scope.names.lookup y.1=some .local)
 (hfr':zbW N (zab st).names scope.names NC fr=true) (hlen:fr.length=NC.length)
 (hg:∀cl C s0 H0 ex pn,PG (cxC X scope cl NC C s0 H0 ex pn) tg g) (ht:∀cl C s0 H0 ex pn,PTs (cxC X scope cl NC C s0 H0 ex pn) ifs tt) (he:∀cl C s0 H0 ex pn,PE (cxC X scope cl NC C s0 H0 ex pn) elt te)
 (hs:∀x,foldedSetIterable iter X.env x=pure x:=by intro _;rfl) (hsw:swapsWith (.ListComp elt [⟨tg,iter,ifs,0⟩] scope cp) (some (.Name x pos')) pos.line X.env=pure true:=by rfl)
 (hf:X.fn x=true\/X.env.scope.names.lookup x=some .local:=by first|exact .inl rfl|exact .inr rfl|assumption) :
 PS X (.Assign [.Name x pos'] (.ListComp elt [⟨tg,iter,ifs,0⟩] scope cp) pos) (tAsg (zeV fr wi g tt te) (zdl i)):=
 zgp (RR:=λ_=>True) N st fr hND hix hx (λ_ _ _ _ _=>trivial) hcalm hi hcells hfk hN hsc hfree' hcell hkind hnames hfr' hlen hg ht (λcl C s0 H0 ex pn _=>he cl C s0 H0 ex pn) hs hsw hf
end L2
namespace Mn
open PySem PySem.Spec PyProof PyProof.Rows
open Sem (wp)
section
variable {prog:Program}{w:World}{A:Around}{R:Result->Shared->Prop}{I:Addr}{fp wr:List Addr}{n:Nat}{P:Nat->Value->Prop}{St:Nat->Heap->Prop}
end
section
variable {prog:Program}{w:World}{A:Around}{E:Value->Shared->Prop}{s:Shared}
end
section
open PySem.SeqAt
open PySem.AutoSeq1 (wpAny_loadPart')
open PySem.MeetsSeq PySem.MeetsSeq2 PySem.MeetsSeq3
end
end Mn
namespace L2
open PySem PySem.Spec PyProof PyProof.Rows
section
variable {X:Cx}
end
abbrev elD (P:Program)(w:World)(A:Around)(kx vx:Expr):ElR:=λenv D Q s=>wpAny (model P w) A (eval kx env) (λkv s4=>wpAny (model P w) A (eval vx env) (λvv s5=>wpAny (model P w) A (dictSet D kv vv) (λ_ s6=>Q s6) (λ_ _=>False) s5) (λ_ _=>False) s4) (λ_ _=>False) s
def zgY {P:Program}{w:World}{A:Around}{kx vx tg iter:Expr}{ifs:List Expr}{scope:Scope}{pos:Pos}:zns P w A (.DictComp kx vx [⟨tg,iter,ifs,0⟩] scope pos) tg ifs (elD P w A kx vx):=by
 intro R s it D env I turn n h;refine codeAny_loop rfl I (λn s hI=>?_) n h;refine wpAny_noted (m:=compTurn (.DictComp kx vx [⟨tg,iter,ifs,0⟩] scope pos) 0 it (.ref D) env) ?_;rw[compTurn_dict];refine waa (wbh (waa (wax (turn n s hI) (λr s1 h1=>?_) λ_ _ f=>f.elim)));cases r with
|none=>exact wak (h1.1 rfl)
|some v=>
   refine waa (wax (h1.2 v rfl) (λ_ s2 h2=>?_) λ_ _ f=>f.elim);refine waa (wax h2 (λ_ s3 h3=>?_) λ_ _ f=>f.elim);refine waa (wax h3 (λok s4 h4=>?_) λ_ _ f=>f.elim);cases ok with
  |false=>exact wak ⟨rfl,h4.2 rfl⟩
  |true=>exact waa (waa (wax (h4.1 rfl) (λkv s5 h5=>waa (wbv (wax h5 (λvv s6 h6=>waa (wbh (wbv (wax h6 (λ_ s7 h7=>wak ⟨rfl,h7⟩) λ_ _ f=>f.elim)))) λ_ _ f=>f.elim))) λ_ _ f=>f.elim))
def telD (tk tv:TE)(D:Addr)(ys:List (Key×V))(Y:St)(H:Hp)(Q:List (Key×V)->Hp->Prop):Prop:=tk Y H λvk H6=>tv Y H6 λv H7=>∃k,vk=kV k/\H7 D=some (.dK ys)/\ys.length<sizeLine/\Q (putK ys k v) (upd H7 D (.dK (putK ys k v)))
def zh3 (fr:List (Option Nat))(wi:TI)(g:TG)(tt:TT)(tk tv:TE):TE:=tGen HO.dK [] fr wi g tt (telD tk tv)
section
variable {X:Cx}{kx vx iter tg:Expr}{ifs:List Expr}{scope:Scope}{pos:Pos}{NC:List Str}{wi:TI}{g:TG}{tt:TT}{tk tv:TE}
def zh4 (N:List Str)(st:Stmt)(fr:List (Option Nat))(hcalm:X.calm=true)(hi:PI X tg iter wi)
 (hcells:∀x,X.env.scope.names.lookup x=some .cell->∃c,X.env.cells.lookup x=some c) (hfk:X.env.scope.kind=.function) (hN:X.N=N) (hsc:X.env.scope.names=(zab st).names)
 (hfree':∀y∈scope.names,y.2=.free->(zab st).names.lookup y.1=some .cell) (hcell:∀y∈scope.names,y.2≠.cell) (hkind:scope.kind=.function) (hnames:∀y∈scope.names,y.2=.local->scope.names.lookup y.1=some .local)
 (hfr':zbW N (zab st).names scope.names NC fr=true) (hlen:fr.length=NC.length)
 (hg:∀cl C s0 H0 ex pn,PG (cxC X scope cl NC C s0 H0 ex pn) tg g) (ht:∀cl C s0 H0 ex pn,PTs (cxC X scope cl NC C s0 H0 ex pn) ifs tt) (hk:∀cl C s0 H0 ex pn,PE (cxC X scope cl NC C s0 H0 ex pn) kx tk) (hv:∀cl C s0 H0 ex pn,PE (cxC X scope cl NC C s0 H0 ex pn) vx tv)
 (hs:∀x,foldedSetIterable iter X.env x=pure x) {pins:List (Addr×Obj)}{s:Shared}{Y:St}{H:Hp}{Q:VK}{cpos:Pos}{use:Option (Value->Sem Unit)}{R:Value->Shared->Prop}(I:Inv X pins Y H s) (h:zh3 fr wi g tt tk tv Y H Q)
 (hfin:∀(C D:Addr) (H':Hp) (s':Shared) (m:Str->Option Value),Inv X pins Y H' s'->s'.heap.Ns C m->FpOk X pins H' C->Q (.ref D) H'->compPost (model X.prog X.w) X.A X.xe use R (.ref D) C (.ok .next) s') :
 wpAny (model X.prog X.w) X.A (comprehension (.DictComp kx vx [⟨tg,iter,ifs,0⟩] scope pos) scope X.env cpos newDict false (eval iter X.env) use) R X.xe s:=by
 have hfree:∀y∈scope.names,y.2=.free->X.env.scope.names.lookup y.1=some .cell:=by rw[hsc];exact hfree'
 have hfr:zbW X.N X.env.scope.names scope.names NC fr=true:=by rw[hsc,hN];exact hfr'
 have hc:∀y∈scope.names,y.2=.free->∃c,X.env.cells.lookup y.1=some c:=λy hy h=>hcells _ (hfree y hy h)
 refine zgj (Tn:="dict") (dt:=.dict #[]) (ac:=HO.dK) (t0:=[]) (tel:=telD tk tv) (EL:=elD X.prog X.w X.A kx vx) (cl:=clo X.env.cells scope.names []) (fr:=fr) (NC:=NC) (RR:=λ_=>True)
  (λ_ _ _ _ _=>trivial) hcalm hi (zgo hc) hcell hkind hnames (λx c e=>zdz _ _ _ (λ_ _ z=>by cases z) hc x c e) (λx hx=>?_) (λi x j h1 h2=>?_) hlen (hg _) (ht _) rfl (by size_fits) (λI=>zjx _ I.big) zgY (λa b=>codeAny_compStart_dict (rest:=[]) a b) (λC s0 H0 ex pn rH pins D ys s Y H Po F J q k=>?_) hs I h hfin
 .refine zdA _ _ _ x (.inr (zbu ?_));rcases hx with e|e
  .exact za3 scope.names hcell x _ e (.inl rfl)
  .exact za3 scope.names hcell x _ e (.inr rfl)
 .have hm:(x,some j)∈NC.zip fr:=by
   have:(NC.zip fr)[i]?=some (x,some j):=by rw[wbA];exact⟨h1,h2⟩
   exact waE this
  have q:=waJ.mp hfr _ hm
  have q':((X.N[j]? == some x)&&(X.env.scope.names.lookup x == some .cell)&&(scope.names.lookup x == some .free))=true:=q
  simp only[waC,beq_iff_eq] at q';obtain⟨⟨q1,q2⟩,q3⟩:=q';refine⟨q1,.inr (.inl q2),?_,.inl (zbn hfk scope.names x q3 q2)⟩;intro z;have z':X.env.scope.names.lookup x=some .local:=z
  rw[q2] at z';cases z'
 .refine thn (hk _ C _ _ _ _ _ s Y H _ J q) λkv s4 ⟨vk,H6,J6,r6,q6⟩ =>?_
  refine thn (hv _ C _ _ _ _ _ s4 Y H6 _ J6 q6) λvv s5 ⟨v,H7,J7,r7,kk,ek,hD,hz,n7⟩ =>?_
  subst ek;obtain⟨z,hd,vs,rel,dd⟩:=zpk J7.hok hD;have hz':vs.length<=sizeLine:=by rw[<-rel.length];exact z
  have hl:(putK ys kk v).length<=sizeLine:=by have:=zfI ys kk v;omega
  refine wpAny_dictSet_pairs (hsz:=hz') (zhX r6) dd λh' dd' hs=>?_
  have he:∃q,h'.get? D=some q:=let ⟨q,_,_,hq,_⟩:=dd';⟨q,hq⟩
  exact k _ _ _ (zlJ J7 (by rw[hD];exact True.intro) hs he (znw hl hd (rel.put kk r7) dd')) zah n7
def zjz {i:Nat}{x:Str}{pos' cp:Pos}(hND:X.N.Nodup)(hix:X.N[i]?=some x)(hx:Loc X.env.scope x)(N:List Str)(st:Stmt)(fr:List (Option Nat))(hcalm:X.calm=true)(hi:PI X tg iter wi)
 (hcells:∀x,X.env.scope.names.lookup x=some .cell->∃c,X.env.cells.lookup x=some c) (hfk:X.env.scope.kind=.function) (hN:X.N=N) (hsc:X.env.scope.names=(zab st).names)
 (hfree':∀y∈scope.names,y.2=.free->(zab st).names.lookup y.1=some .cell) (hcell:∀y∈scope.names,y.2≠.cell) (hkind:scope.kind=.function) (hnames:∀y∈scope.names,y.2=.local->scope.names.lookup y.1=some .local)
 (hfr':zbW N (zab st).names scope.names NC fr=true) (hlen:fr.length=NC.length)
 (hg:∀cl C s0 H0 ex pn,PG (cxC X scope cl NC C s0 H0 ex pn) tg g) (ht:∀cl C s0 H0 ex pn,PTs (cxC X scope cl NC C s0 H0 ex pn) ifs tt) (hk:∀cl C s0 H0 ex pn,PE (cxC X scope cl NC C s0 H0 ex pn) kx tk) (hv:∀cl C s0 H0 ex pn,PE (cxC X scope cl NC C s0 H0 ex pn) vx tv)
 (hs:∀x,foldedSetIterable iter X.env x=pure x:=by intro _;rfl) (hsw:swapsWith (.DictComp kx vx [⟨tg,iter,ifs,0⟩] scope cp) (some (.Name x pos')) pos.line X.env=pure true:=by rfl)
 (hf:X.fn x=true\/X.env.scope.names.lookup x=some .local:=by first|exact .inl rfl|exact .inr rfl|assumption):PS X (.Assign [.Name x pos'] (.DictComp kx vx [⟨tg,iter,ifs,0⟩] scope cp) pos) (tAsg (zh3 fr wi g tt tk tv) (zdl i)):=by
 intro pins s Y H D I h;rw[exec_Assign_Name_used _ _ _ _ hsw];refine waa (wbh ?_);rw[arm_evalThenUse_DictComp];refine waa (waa (zh4 N st fr hcalm hi hcells hfk hN hsc hfree' hcell hkind hnames hfr' hlen hg ht hk hv hs (Q:=λx H1=>zdl i x Y H1 D.nx) (R:=λ_ s'=>wpAny (model X.prog X.w) X.A (pure ()) (λ_ s₁=>wpAny (model X.prog X.w) X.A (pure Flow.next) (SP X pins D) X.xe s₁) X.xe s') I h ?_));intro C Da H' s' m I' hns hfp q;show wpAny _ _ (assign (.Name x pos') X.env (.ref Da)) _ _ _
 refine wpAny_assign_Name (zdt I' hND hix hx (show RelV (.ref Da) (.ref Da) from rfl) (λs2 I2 hsb=>?_) hf);obtain⟨f0,f1,f2,f3,f4,f5⟩:=hfp;obtain⟨a,hsb,ha⟩:=hsb;have hCa:C≠a:=by
  rcases ha with rfl|ha
  .exact f1
  .exact λz=>f4 x a ha z.symm
 obtain⟨o,es,ep,ho,r⟩:=hns;refine⟨m,⟨o,es,ep,hsb.extBut C o hCa ho,r⟩,λh' hs'=>wak (wak ⟨_,H',?_,q⟩)⟩;exact I2.turned (t':=s2.toks) (λb o hb e=>hs'.extBut b o hb e) f0 f1 f3 f4 f5
end
end L2
namespace HT
open PySem PySem.Spec PyProof PyProof.Rows L2
section
variable {prog:Program}{w:World}{A:Around}{E:Value->Shared->Prop}{s:Shared}
def getItem_whole {t sl:Addr}{items:Array Value}{vl vu:Value}{lo hi:Option Int}{Q:Value->Shared->Prop}(ht:IsTup s.heap t items)(hs:s.heap.IsSliceOf sl vl vu .none)(pl:IsPart vl lo)(pu:IsPart vu hi)(h0:sIx items.size 0 lo=0)(h1:sIx items.size items.size hi=items.size)(h:Q (.ref t) s)(hsz:items.size<=sizeLine):wpAny (model prog w) A (getItem (.ref t) (.ref sl)) Q E s:=by
 obtain⟨os,hos,hcs,hds⟩:=id hs;have hTs:s.TypeIs (.ref sl) "slice":=⟨os,hos,hcs⟩
 unfold getItem;try with_reducible refine wbv ?_
 try refine waa (wak ?_)
 refine waa (wpAny_sequenceKey ht.typeIs (by decide) ?_);refine waa (wbI (name:=Str.ofString "__getitem__") ht.typeIs wbe (wcl wbe ht.typeIs entry_tuple_getitem ?_ (args_tuple_getitem _ _)));show wpAny _ _ (Builtin.Tuple.tupleItemsOf (.ref t) >>= _) _ _ s
 refine waa (tupleItemsOf_ ht (waa (wpAny_typeOf hTs ?_)));rw[if_pos (by decide)];refine waa (zb9 hs pl pu ?_);have hy:(((sIx items.size 0 lo:Nat):Int) == 0&&(1:Int) == 1&&(sIx items.size items.size hi - sIx items.size 0 lo) == items.size)=true:=by rw[h0,h1];simp
 show wpAny _ _ (if(((sIx items.size 0 lo:Nat):Int) == 0&&(1:Int) == 1&&(sIx items.size items.size hi - sIx items.size 0 lo) == items.size)=true then _ else _) _ _ s
 rw[if_pos hy];refine waa (wax (Q:=λb s'=>b=true/\s'=s) ?_ (λb s1 hb=>?_) λ_ _ z=>z)
 .unfold Builtin.Tuple.tupleIsExact;exact waa (wpAny_typeOf ht.typeIs (wak ⟨by decide,rfl⟩))
 .obtain⟨rfl,rfl⟩:=hb;rw[if_pos rfl];exact waa (wcE (wak ⟨_,rfl,wak h⟩))
end
end HT
namespace L2
open PySem PySem.Spec PyProof PyProof.Rows
def rSlW (K:W.Frag):V->Option Int->Option Int->Hp->VK->Prop:=λx lo hi H Q=>∃a xs,x=.ref a/\SqT K H a xs/\HT.sIx xs.length 0 lo=0/\HT.sIx xs.length xs.length hi=xs.length/\Q x H
def zjA {X:Cx}:SlR X (rSlW X.K):=by
 intro pins s Y H x v vl vu lo hi sl Q I rx hs pl pu h;obtain⟨a,xs,rfl,hx,h0,h1,q⟩:=h;cases rx;obtain⟨its,r,ht,hz⟩:=I.tuple hx;have hlen:its.toArray.size=xs.length:=by rw[wab];exact r.length.symm
 exact⟨"tuple",_,PyProof.Rows.slot_tuple_getitem.lookup,ht.typeIs,HT.getItem_whole ht hs pl pu (by rw[hlen];exact h0) (by rw[hlen];exact h1) ⟨.ref a,H,I,rfl,q⟩ (by rw[hlen];exact hz)⟩
end L2
namespace En
open PySem PySem.Spec PyProof PyProof.Rows
def draws_endL {prog:Program}{w:World}{A:Around}(hh:A.handled=none)(it t:Addr)(i:Nat)(items:Array Value)(hx:items[i]?=none) :
 Draws prog w A it [it,t] i (λi v=>items[i]?=some v) (λj h=>j=i/\h.IsListIter it t i/\h.IsList t items) where
 live:=λ_ _ st=>let ⟨o,ho,_⟩:=st.2.1;⟨o,ho⟩
 frame:=λ_ _ _ ⟨hj,⟨o,e,r⟩,⟨o',e',r'⟩⟩ hk=>⟨hj,⟨o,hk it (by simp) o e,r⟩,⟨o',hk t (by simp) o' e',r'⟩⟩
 item:=λj s Q E hi st hQ=>by rw[st.1] at hi;exact absurd hi (waP _)
 done:=λs Q E st hE=>wpAny_nextOf_list_end hh st.2.1 st.2.2 hx hE
end En
namespace L2
open PySem PySem.Spec PyProof PyProof.Rows
def IteL (K:W.Frag)(a:Addr):It:=
 ⟨λi H=>∃xs x,SqL K H a xs/\xs[i]?=some x,λi H x H'=>∃p,H p=none/\x=.ref p/\∀xs,SqL K H a xs->∃y,xs[i]?=some y/\H'=upd H p (.tup [.int (i:Nat),y]),λi H=>∃xs,SqL K H a xs/\xs.length<=i⟩
def zgZ {P:Program}{w:World}{K:W.Frag}{elts:List Expr}{x1}{tpos:Pos}(a e it:Addr)(hei:e≠it)(hae:a≠e)(hai:a≠it) :
 Turn P w K (.Tuple elts x1 tpos) (IteL K a) [e,it] e (λi h=>(∃old,IsEnum h e it (i:Nat) old)/\h.IsListIter it a i) where
 mem:=by simp
 obj:=λi h st b hb=>by
  obtain⟨⟨old,e1⟩,o,e2,c,d⟩:=st;rcases waf.mp hb with z|z
  .subst z;exact⟨_,e1,λv z=>by cases z⟩
  .have z:=wal.mp z
   subst z;exact⟨o,e2,λv z=>by rw[d] at z;cases z⟩
 keep:=λi h h' st k=>by
  obtain⟨⟨old,e1⟩,o,e2,c,d⟩:=st;exact⟨⟨old,k e (by simp) _ e1⟩,o,k it (by simp) _ e2,c,d⟩
 item:=by
  intro X hP hw hK hc i pins s Y H E I hf st hg;subst hP hw hK;obtain⟨⟨old,en⟩,ti⟩:=st;obtain⟨xs,x,hq,hx⟩:=hg;obtain⟨its,rv,p,hz⟩:=I.list hq;obtain⟨u,hu,ru⟩:=rv.get hx;have hl:=rv.length
  have hlt:i<its.toArray.size:=by
   rw[wab,<-hl];exact(wae.mp hx).1
  have hh:X.A.in1.handled=none:=I.ok.hd hc
  refine wpAny_pyNext_enum_itemD (Draws.list (A:=X.A.in1) hh it a hai its.toArray) en ⟨ti,p.isList⟩ hlt hei (by simp[hei,Ne.symm hae]) λy h' tk hy en' st' tup sz k=>?_
  have ey:y=u:=by
   have hy':its[i]?=some y:=by simpa using hy
   rw[hu] at hy';exact(wau hy').symm
  subst ey;refine⟨_,rfl,wpAny_letOwnedTupleGo_enum en' λh2 en2 sb2=>?_⟩;have frS:s.heap.get? s.heap.objs.size=none:=by
   cases q:s.heap.get? s.heap.objs.size with
  |none=>rfl
  |some o=>exact absurd (waj q) (waP _)
  have neS:∀b∈[e,it],b≠s.heap.objs.size:=λb hb z=>by
   rcases waf.mp hb with q|q
   .have en1:=(show s.heap.get? e=some _ from en)
    rw[<-z,q,en1] at frS;cases frS
   .obtain⟨o,e2,_⟩:=ti;rw[<-z,wal.mp q,e2] at frS;cases frS
  obtain⟨hn,I1⟩:=I.laidF (h':=h2) (t':=tk+1) (fp:=[e,it]) (D:=s.heap.objs.size) (o:=.tup [.int (i:Nat),x]) hf (λb o hb q=>sb2.extBut b o (λz=>hb (by simp[z])) (k b o (λz=>hb (by simp[z])) (λz=>hb (by simp[z])) q))
   (λb hb=>by
    rcases waf.mp hb with q|q
    .subst q;exact⟨_,en2⟩
    .have q:=wal.mp q
     subst q;obtain⟨o,e2,_⟩:=st'.1;exact⟨o,sb2.extBut _ o (Ne.symm hei) e2⟩) frS
   ⟨by show 2<=sizeLine;decide,[.int (i:Nat) tk,y],.cons ⟨_,rfl⟩ (.cons ru .nil),⟨_,sb2.extBut _ _ (neS e (by simp)).symm tup,rfl,_,rfl⟩⟩
  refine⟨.ref s.heap.objs.size,_,I1,rfl,⟨_,hn,rfl,λys hy=>⟨x,by rw[I.list_inj hy hq];exact hx,rfl⟩⟩,⟨⟨_,en2⟩,?_⟩,λb hb=>?_⟩
  .obtain⟨o,e2,c,d⟩:=st'.1;exact⟨o,sb2.extBut _ o (Ne.symm hei) e2,c,d⟩
  .rw[zai (neS b hb)];exact(hf b hb).1
 done:=by
  intro X hP hw hK hc i pins s Y H E I hf st hg;subst hP hw hK;obtain⟨⟨old,en⟩,ti⟩:=st;obtain⟨xs,hq,hx⟩:=hg;obtain⟨its,rv,p,hz⟩:=I.list hq;obtain⟨f0,f1,f2,f3,f4,f5⟩:=hf it (by simp);have hl:=rv.length
  have hh:X.A.in1.handled=none:=I.ok.hd hc
  refine wpAny_pyNext_enum_endD (En.draws_endL (A:=X.A.in1) hh it a i its.toArray (by simp;omega)) en ⟨rfl,ti,p.isList⟩ λh' eb=>⟨rfl,I.turned (t':=s.toks) (λb o hb e=>eb b o hb e) f0 f1 f3 f4 f5⟩
 self:=λ_ _ _ _ _ st h=>by
  obtain⟨⟨old,en⟩,_⟩:=st;exact wch en h
def znz (K:W.Frag)(ta:TA):TI:=λY H R=>ta Y H λvs H1=>∃a,vs = [.ref a]/\(∃xs,SqL K H1 a xs)/\R (IteL K a) H1
def zjB {X:Cx}{elts:List Expr}{x1}{tpos:Pos}{l:Expr}{ta:TA}{p pos:Pos}(hg:Gl X "enumerate")(hm:X.mg "enumerate"=none)(ha:PA X [l] ta)(hs:starEach [l] X.env = [(false,eval l X.env)]:=by rfl) :
 PI X (.Tuple elts x1 tpos) (.Call (.Name "enumerate" p) [l] [] pos) (znz X.K ta):=by
 intro pins s Y H R I h;refine waQ (zcR I hg hm boot_enumerate ?_ (by decide) (by decide));refine waS (thn (ha pos pins s Y H _ I h) λus s1 ⟨vs,H1,I1,rv,q1⟩ =>?_) hs rfl;obtain⟨a,e,⟨xs,hq⟩,q⟩:=q1;subst e;obtain⟨u,rfl,r1⟩:=zgT rv;obtain rfl:u=Value.ref a:=r1;obtain⟨its,rv,pt,hz⟩:=I1.list hq;refine call_enumerate_list pt.isList λh' en ti sz k=>?_
 have alt:a<s1.heap.objs.size:=let ⟨o,n,e,_⟩:=pt;waj e
 refine wch en ⟨s1.heap.objs.size+1,[s1.heap.objs.size+1,s1.heap.objs.size],_,_,H1,rfl,I1.kept (t':=s1.toks) k,zgZ a _ _ (Nat.succ_ne_self _) (way (Nat.lt_succ_of_lt alt)) (way alt),⟨⟨_,en⟩,ti⟩,λb hb=>?_,q⟩;rcases waf.mp hb with z|z
 .subst z;exact I1.fpOk (wbW _) (I1.hok.fresh (wbW _))
 .have z:=wal.mp z
  subst z;exact I1.fpOk (wai _) (I1.hok.fresh (wai _))
end L2
namespace VD
open PySem PySem.Spec PyProof PyProof.Rows L2
inductive D where
|non|bl (b:Bool)|int (i:Int)|str (x:Str)|tup (ds:List D)|lst (ds:List D)|dct (ks:List Key) (ds:List D)|dcu (ks:List (List Key)) (ds:List D)|scr (p:Addr)|exc (c:Str) (ns:List Str) (ds:List D)
mutual
def D.beq:D->D->Bool
|.non,.non=>true
|.bl a,.bl b=>a == b
|.int a,.int b=>a == b
|.str a,.str b=>a == b
|.tup a,.tup b=>D.beqL a b
|.lst a,.lst b=>D.beqL a b
|.dct ks a,.dct ls b=>decide (ks=ls)&&D.beqL a b
|.dcu ks a,.dcu ls b=>decide (ks=ls)&&D.beqL a b
|.scr a,.scr b=>a == b
|.exc c ns a,.exc c' ms b=>c == c'&&decide (ns=ms)&&D.beqL a b
|_,_=>false
def D.beqL:List D->List D->Bool
|[],[]=>true
|a::as,b::bs=>D.beq a b&&D.beqL as bs
|_,_=>false
end
mutual
theorem D.beq_iff:∀(a b:D),D.beq a b=true↔a=b
|.non,b=>by cases b <;> simp[D.beq]
|.bl _,b=>by cases b <;> simp[D.beq]
|.int _,b=>by cases b <;> simp[D.beq]
|.str _,b=>by cases b <;> simp[D.beq]
|.tup xs,b=>by cases b <;> simp[D.beq,D.beqL_iff xs]
|.lst xs,b=>by cases b <;> simp[D.beq,D.beqL_iff xs]
|.dct ks xs,b=>by cases b <;> simp[D.beq,D.beqL_iff xs]
|.dcu ks xs,b=>by cases b <;> simp[D.beq,D.beqL_iff xs]
|.scr _,b=>by cases b <;> simp[D.beq]
|.exc c ns xs,b=>by cases b <;> simp[D.beq,D.beqL_iff xs,and_assoc]
theorem D.beqL_iff:∀(a b:List D),D.beqL a b=true↔a=b
|[],b=>by cases b <;> simp[D.beqL]
|x::xs,b=>by
   cases b with
  |nil=>simp[D.beqL]
  |cons y ys=>simp[D.beqL,D.beq_iff x y,D.beqL_iff xs ys]
end
instance:DecidableEq D:=λa b=>decidable_of_iff _ (D.beq_iff a b)
instance:Inhabited D:=⟨.non⟩
def Exh (K:W.Frag)(H:Hp)(J:Addr->Prop)(a:Addr)(c:Str)(ns:List Str)(vs:List V):Prop:=
 J a/\∃oa C,W.nsIn K mainGlobals c=some (some (.ref C))/\H a=some (.frz oa (.ext λ_=>True))/\oa.cls=.ref C/\PySem.W.notCls oa=true/\
   ((ns = []/\vs = []/\oa.dict=none)\/∃d od,oa.dict=some d/\J d/\H d=some (.frz od (.xd (ns.zip vs)))/\ns.length=vs.length)
mutual
inductive Rp (K:W.Frag)(H:Hp)(J:Addr->Prop):V->D->Prop
|non:Rp K H J .non .non
|bl (b:Bool):Rp K H J (.bl b) (.bl b)
|int (i:Int):Rp K H J (.int i) (.int i)
|str (x:Str):Rp K H J (.str x) (.str x)
|scr (p:Addr):Rp K H J (.ref p) (.scr p)
|tup {p:Addr}{vs:List V}{ds:List D}(h:SqT K H p vs) (r:RpL K H J vs ds):Rp K H J (.ref p) (.tup ds)
|lst {p:Addr}{vs:List V}{ds:List D}(h:H p=some (.lst vs)) (j:J p) (r:RpL K H J vs ds):Rp K H J (.ref p) (.lst ds)
|dct {p:Addr}{kvs:List (Key×V)}{vs:List V}{ks:List Key}{ds:List D}(h:H p=some (.dK kvs)) (j:J p) (ek:kvs.map (·.1)=ks) (ev:kvs.map (·.2)=vs) (r:RpL K H J vs ds):Rp K H J (.ref p) (.dct ks ds)
|dcu {p:Addr}{kvs:List (List Key×V)}{vs:List V}{ks:List (List Key)}{ds:List D}(h:H p=some (.dT kvs)) (j:J p) (ek:kvs.map (·.1)=ks) (ev:kvs.map (·.2)=vs) (r:RpL K H J vs ds):Rp K H J (.ref p) (.dcu ks ds)
|exc {p:Addr}{c:Str}{ns:List Str}{vs:List V}{ds:List D}(h:Exh K H J p c ns vs) (r:RpL K H J vs ds):Rp K H J (.ref p) (.exc c ns ds)
inductive RpL (K:W.Frag)(H:Hp)(J:Addr->Prop):List V->List D->Prop
|nil:RpL K H J [] []
|cons {v:V}{d:D}{vs:List V}{ds:List D}(h:Rp K H J v d) (t:RpL K H J vs ds):RpL K H J (v::vs) (d::ds)
end
structure Keep (K:W.Frag)(H:Hp)(J:Addr->Prop)(H':Hp)(J':Addr->Prop):Prop where
 jj:∀a,J a->J' a
 jo:∀p o,J p->H p=some o->H' p=some o
 tp:∀p vs,SqT K H p vs->SqT K H' p vs
section
variable {K:W.Frag}{H H' H1 H2 Hz:Hp}{J J' J1 J2 Jz:Addr->Prop}
def Keep.refl:Keep K H J H J:=⟨λ_ h=>h,λ_ _ _ h=>h,λ_ _ h=>h⟩
def Keep.trans (a:Keep K H J H1 J1)(b:Keep K H1 J1 H2 J2):Keep K H J H2 J2:=⟨λp h=>b.jj p (a.jj p h),λp o j h=>b.jo p o (a.jj p j) (a.jo p o j h),λp vs h=>b.tp p vs (a.tp p vs h)⟩
def Exh.keep {a:Addr}{c:Str}{ns:List Str}{vs:List V}(k:Keep K H J H' J')(h:Exh K H J a c ns vs):Exh K H' J' a c ns vs:=by
 obtain⟨j,oa,C,h1,h2,h3,h4,h5⟩:=h;refine⟨k.jj _ j,oa,C,h1,k.jo _ _ j h2,h3,h4,h5.imp (λh=>h) λ⟨d,od,h6,h7,h8,h9⟩ =>⟨d,od,h6,k.jj _ h7,k.jo _ _ h7 h8,h9⟩⟩
mutual
theorem Rp.keep {v:V}{d:D}(k:Keep K H J H' J'):Rp K H J v d->Rp K H' J' v d
|.non=>.non
|.bl b=>.bl b
|.int i=>.int i
|.str x=>.str x
|.scr p=>.scr p
|.tup h r=>.tup (k.tp _ _ h) (RpL.keep k r)
|.lst h j r=>.lst (k.jo _ _ j h) (k.jj _ j) (RpL.keep k r)
|.dct h j ek ev r=>.dct (k.jo _ _ j h) (k.jj _ j) ek ev (RpL.keep k r)
|.dcu h j ek ev r=>.dcu (k.jo _ _ j h) (k.jj _ j) ek ev (RpL.keep k r)
|.exc h r=>.exc (h.keep k) (RpL.keep k r)
theorem RpL.keep {vs:List V}{ds:List D}(k:Keep K H J H' J'):RpL K H J vs ds->RpL K H' J' vs ds
|.nil=>.nil
|.cons h t=>.cons (Rp.keep k h) (RpL.keep k t)
end
def zjC (h:Same H H')(p:Addr)(vs:List V):SqT K H p vs->SqT K H' p vs:=by
 rintro((h1|⟨o,h1⟩)|h1)
 .exact .inl (.inl (h _ _ h1))
 .exact .inl (.inr ⟨o,h _ _ h1⟩)
 .exact .inr h1
structure Up (H:Hp)(J:Addr->Prop)(H':Hp)(J':Addr->Prop):Prop where
 same:Same H H'
 jj:∀a,J a->J' a
 jn:∀a,J' a->J a\/H a=none
 ja:∀a,J' a->H' a≠none
def Up.keep (u:Up H J H' J'):Keep K H J H' J':=⟨u.jj,λp o _ h=>u.same p o h,zjC u.same⟩
theorem Up.refl (ja:∀a,J a->H a≠none):Up H J H J:=⟨Same.refl H,λ_ h=>h,λ_ h=>.inl h,ja⟩
theorem Up.trans (a:Up H J H1 J1)(b:Up H1 J1 H2 J2):Up H J H2 J2:=⟨a.same.trans b.same,λp h=>b.jj p (a.jj p h),λp h=>by
 rcases b.jn p h with h|h
 .exact a.jn p h
 .exact .inr (a.same.free h),b.ja⟩
def Up.new {p:Addr}(ja:∀a,J a->H a≠none)(hp:H p=none)(o:HO):Up H J (upd H p o) J:=
 ⟨zer hp o,λ_ h=>h,λ_ h=>.inl h,λa h=>by
  by_cases e:a=p
  .subst e;rw[zah];simp
  .rw[zai e];exact ja a h⟩
def Up.newJ {p:Addr}(ja:∀a,J a->H a≠none)(hp:H p=none)(o:HO):Up H J (upd H p o) (λa=>J a\/a=p):=
 ⟨zer hp o,λ_ h=>.inl h,λa h=>by rcases h with h|h;exact .inl h;subst h;exact .inr hp,λa h=>by
  by_cases e:a=p
  .subst e;rw[zah];simp
  .rw[zai e];rcases h with h|h;exact ja a h;exact absurd h e⟩
theorem RpL.length:∀{vs:List V}{ds:List D},RpL K H J vs ds->vs.length=ds.length
|_,_,.nil=>rfl
|_,_,.cons _ t=>by simp[RpL.length t]
theorem RpL.get:∀{vs:List V}{ds:List D}{i:Nat}{d:D},RpL K H J vs ds->ds[i]?=some d->∃v,vs[i]?=some v/\Rp K H J v d
|_,_,_,_,.nil,e=>by simp at e
|_,_,0,_,.cons h _,e=>by simp at e;subst e;exact⟨_,rfl,h⟩
|_,_,i+1,d,.cons _ t,e=>by
   obtain⟨v,h1,h2⟩:=RpL.get (i:=i) (d:=d) t (by simpa using e);exact⟨v,by simpa using h1,h2⟩
theorem RpL.append:∀{vs us:List V}{ds es:List D},RpL K H J vs ds->RpL K H J us es->RpL K H J (vs++us) (ds++es)
|_,_,_,_,.nil,s=>s
|_,_,_,_,.cons h t,s=>.cons h (RpL.append t s)
theorem RpL.take:∀{vs:List V}{ds:List D}(n:Nat),RpL K H J vs ds->RpL K H J (vs.take n) (ds.take n)
|_,_,0,_=>.nil
|_,_,_+1,.nil=>.nil
|_,_,n+1,.cons h t=>.cons h (RpL.take n t)
theorem RpL.drop:∀{vs:List V}{ds:List D}(n:Nat),RpL K H J vs ds->RpL K H J (vs.drop n) (ds.drop n)
|_,_,0,h=>h
|_,_,_+1,.nil=>.nil
|_,_,n+1,.cons _ t=>RpL.drop n t
theorem RpL.reverse:∀{vs:List V}{ds:List D},RpL K H J vs ds->RpL K H J vs.reverse ds.reverse
|_,_,.nil=>.nil
|_,_,.cons h t=>by
   rw[wbP,wbP];exact(RpL.reverse t).append (.cons h .nil)
theorem RpL.at {vs:List V}{ds:List D}{i:Int}{d:D}(r:RpL K H J vs ds)(h:atI ds i=some d):∃v,atI vs i=some v/\Rp K H J v d:=by
 unfold atI at h⊢;rw[r.length];cases e:ixN ds.length i with
|none=>rw[e] at h;cases h
|some j=>rw[e] at h;exact r.get h
end
mutual
inductive RpU (K:W.Frag)(H:Hp)(J:Addr->Prop):Nat->V->D->List Addr->Prop
|frz {v:V}{d:D}(h:Rp K H J v d):RpU K H J 0 v d []
|lst {n:Nat}{a:Addr}{vs:List V}{ds:List D}{A:List Addr}(h:H a=some (.lst vs)) (r:RpUL K H J n vs ds A):RpU K H J (n+1) (.ref a) (.lst ds) (a::A)
|dct {n:Nat}{a:Addr}{kvs:List (Key×V)}{vs:List V}{ks:List Key}{ds:List D}{A:List Addr}(h:H a=some (.dK kvs)) (ek:kvs.map (·.1)=ks) (ev:kvs.map (·.2)=vs) (r:RpUL K H J n vs ds A):RpU K H J (n+1) (.ref a) (.dct ks ds) (a::A)
|dcu {n:Nat}{a:Addr}{kvs:List (List Key×V)}{vs:List V}{ks:List (List Key)}{ds:List D}{A:List Addr}(h:H a=some (.dT kvs)) (ek:kvs.map (·.1)=ks) (ev:kvs.map (·.2)=vs) (r:RpUL K H J n vs ds A):RpU K H J (n+1) (.ref a) (.dcu ks ds) (a::A)
inductive RpUL (K:W.Frag)(H:Hp)(J:Addr->Prop):Nat->List V->List D->List Addr->Prop
|nil {n:Nat}:RpUL K H J n [] [] []
|cons {n:Nat}{v:V}{d:D}{vs:List V}{ds:List D}{A B:List Addr}(h:RpU K H J n v d A) (t:RpUL K H J n vs ds B):RpUL K H J n (v::vs) (d::ds) (A++B)
end
def MutO:HO->Prop
|.lst _=>True
|.dK _=>True
|.dT _=>True
|_=>False
section
variable {K:W.Frag}{H H' H1 H2 Hz:Hp}{J J' J1 J2 Jz:Addr->Prop}
mutual
theorem RpU.keep {n:Nat}{v:V}{d:D}{A:List Addr}(k:Keep K H J H' J')(hA:∀b∈A,∀o,H b=some o->H' b=some o):RpU K H J n v d A->RpU K H' J' n v d A
|.frz h=>.frz (h.keep k)
|.lst h r=>.lst (hA _ wah _ h) (RpUL.keep k (λb hb=>hA b (wad _ hb)) r)
|.dct h ek ev r=>.dct (hA _ wah _ h) ek ev (RpUL.keep k (λb hb=>hA b (wad _ hb)) r)
|.dcu h ek ev r=>.dcu (hA _ wah _ h) ek ev (RpUL.keep k (λb hb=>hA b (wad _ hb)) r)
theorem RpUL.keep {n:Nat}{vs:List V}{ds:List D}{A:List Addr}(k:Keep K H J H' J')(hA:∀b∈A,∀o,H b=some o->H' b=some o):RpUL K H J n vs ds A->RpUL K H' J' n vs ds A
|.nil=>.nil
|.cons h t=>.cons (RpU.keep k (λb hb=>hA b (waV _ hb)) h) (RpUL.keep k (λb hb=>hA b (was _ hb)) t)
end
mutual
theorem RpU.some {n:Nat}{v:V}{d:D}{A:List Addr}:RpU K H J n v d A->∀b∈A,∃o,H b=Option.some o/\MutO o
|.frz _=>λb hb=>absurd hb (by simp)
|.lst h r=>λb hb=>by
   rcases waf.mp hb with rfl|hb
   .exact⟨_,h,trivial⟩
   .exact RpUL.some r b hb
|.dct h _ _ r=>λb hb=>by
   rcases waf.mp hb with rfl|hb
   .exact⟨_,h,trivial⟩
   .exact RpUL.some r b hb
|.dcu h _ _ r=>λb hb=>by
   rcases waf.mp hb with rfl|hb
   .exact⟨_,h,trivial⟩
   .exact RpUL.some r b hb
theorem RpUL.some {n:Nat}{vs:List V}{ds:List D}{A:List Addr}:RpUL K H J n vs ds A->∀b∈A,∃o,H b=Option.some o/\MutO o
|.nil=>λb hb=>absurd hb (by simp)
|.cons h t=>λb hb=>by
   rcases waz.mp hb with hb|hb
   .exact RpU.some h b hb
   .exact RpUL.some t b hb
end
mutual
theorem RpU.rp {n:Nat}{v:V}{d:D}{A:List Addr}(j:∀a,J a->J' a)(hA:∀b∈A,J' b):RpU K H J n v d A->Rp K H J' v d
|.frz h=>h.keep ⟨j,λ_ _ _ h=>h,λ_ _ h=>h⟩
|.lst h r=>.lst h (hA _ wah) (RpUL.rp j (λb hb=>hA b (wad _ hb)) r)
|.dct h ek ev r=>.dct h (hA _ wah) ek ev (RpUL.rp j (λb hb=>hA b (wad _ hb)) r)
|.dcu h ek ev r=>.dcu h (hA _ wah) ek ev (RpUL.rp j (λb hb=>hA b (wad _ hb)) r)
theorem RpUL.rp {n:Nat}{vs:List V}{ds:List D}{A:List Addr}(j:∀a,J a->J' a)(hA:∀b∈A,J' b):RpUL K H J n vs ds A->RpL K H J' vs ds
|.nil=>.nil
|.cons h t=>.cons (RpU.rp j (λb hb=>hA b (waV _ hb)) h) (RpUL.rp j (λb hb=>hA b (was _ hb)) t)
end
theorem RpUL.zero:∀{vs:List V}{ds:List D}{A:List Addr},RpUL K H J 0 vs ds A->RpL K H J vs ds/\A = []
|_,_,_,.nil=>⟨.nil,rfl⟩
|_,_,_,.cons (.frz h) t=>by
   obtain⟨r,e⟩:=RpUL.zero t;subst e;exact⟨.cons h r,rfl⟩
theorem RpUL.of:∀{vs:List V}{ds:List D},RpL K H J vs ds->RpUL K H J 0 vs ds []
|_,_,.nil=>.nil
|_,_,.cons h t=>.cons (A:=[]) (B:=[]) (.frz h) (RpUL.of t)
def RpU.one {v:V}{ds:List D}{A:List Addr}(h:RpU K H J 1 v (.lst ds) A):∃a vs,v=.ref a/\A = [a]/\H a=Option.some (.lst vs)/\RpL K H J vs ds:=by
 cases h with
|lst h r=>obtain⟨r',rfl⟩:=r.zero;exact⟨_,_,rfl,rfl,h,r'⟩
def RpU.oneD {v:V}{ks:List Key}{ds:List D}{A:List Addr}(h:RpU K H J 1 v (.dct ks ds) A):∃a kvs vs,v=.ref a/\A = [a]/\H a=Option.some (.dK kvs)/\kvs.map (·.1)=ks/\kvs.map (·.2)=vs/\RpL K H J vs ds:=by
 cases h with
|dct h e1 e2 r=>obtain⟨r',rfl⟩:=r.zero;exact⟨_,_,_,rfl,rfl,h,e1,e2,r'⟩
theorem RpUL.length {n:Nat}:∀{vs:List V}{ds:List D}{A:List Addr},RpUL K H J n vs ds A->vs.length=ds.length
|_,_,_,.nil=>rfl
|_,_,_,.cons _ t=>by simp[RpUL.length t]
theorem RpUL.append {n:Nat}:∀{vs us:List V}{ds es:List D}{A B:List Addr},RpUL K H J n vs ds A->RpUL K H J n us es B->RpUL K H J n (vs++us) (ds++es) (A++B)
|_,_,_,_,_,_,.nil,s=>s
|_,_,_,_,_,_,.cons h t,s=>by rw[waN];exact .cons h (RpUL.append t s)
theorem RpUL.split {n:Nat}:∀{vs:List V}{ds:List D}{A:List Addr}(i:Nat) {d:D},RpUL K H J n vs ds A->ds[i]?=Option.some d->∃v A1 A2 A3,vs[i]?=Option.some v/\A=A1++(A2++A3)/\RpU K H J n v d A2/\
 ∀(H':Hp) (J':Addr->Prop) (u:V) (e:D) (B:List Addr),Keep K H J H' J'->(∀b∈A1++A3,∀o,H b=Option.some o->H' b=Option.some o)->RpU K H' J' n u e B->RpUL K H' J' n (vs.set i u) (ds.set i e) (A1++(B++A3))
|_,_,_,_,_,.nil,e=>by simp at e
|_,_,_,0,_,.cons (A:=A) (B:=B) h t,e=>by
   simp at e;subst e;exact⟨_,[],A,B,rfl,rfl,h,λH' J' u e C k hk r=>RpUL.cons (A:=C) (B:=B) r (t.keep k (λb hb=>hk b (by simpa using hb)))⟩
|_,_,_,i+1,d,.cons (A:=A) (B:=B) h t,e=>by
   obtain⟨v,A1,A2,A3,hv,rfl,hr,up⟩:=RpUL.split i t (by simpa using e);refine⟨v,A++A1,A2,A3,by simpa using hv,by simp,hr,λH' J' u e C k hk r=>?_⟩;rw[waN];exact .cons (h.keep k (λb hb=>hk b (by simp[hb]))) (up H' J' u e C k (λb hb=>hk b (by simp at hb⊢;rcases hb with hb|hb <;> simp[hb])) r)
def RpW (K:W.Frag)(H:Hp)(J:Addr->Prop)(v:V)(d:D):Prop:=Rp K H J v d\/∃A,RpU K H J 1 v d A
theorem RpW.lst {v:V}{ds:List D}(h:RpW K H J v (.lst ds)):∃p vs,v=.ref p/\H p=some (.lst vs)/\RpL K H J vs ds:=by
 rcases h with h|⟨A,h⟩
 .cases h with|lst h j r=>exact⟨_,_,rfl,h,r⟩
 .obtain⟨a,vs,rfl,_,h,r⟩:=h.one;exact⟨a,vs,rfl,h,r⟩
theorem RpW.tup {v:V}{ds:List D}(h:RpW K H J v (.tup ds)):∃p vs,v=.ref p/\SqT K H p vs/\RpL K H J vs ds:=by
 rcases h with h|⟨A,h⟩
 .cases h with|tup h r=>exact⟨_,_,rfl,h,r⟩
 .cases h
theorem RpW.dct {v:V}{ks:List Key}{ds:List D}(h:RpW K H J v (.dct ks ds)):∃p kvs vs,v=.ref p/\H p=some (.dK kvs)/\kvs.map (·.1)=ks/\kvs.map (·.2)=vs/\RpL K H J vs ds:=by
 rcases h with h|⟨A,h⟩
 .cases h with|dct h j e1 e2 r=>exact⟨_,_,_,rfl,h,e1,e2,r⟩
 .obtain⟨a,kvs,vs,rfl,_,h,e1,e2,r⟩:=h.oneD;exact⟨a,kvs,vs,rfl,h,e1,e2,r⟩
theorem RpW.int {v:V}{i:Int}(h:RpW K H J v (.int i)):v=.int i:=by
 rcases h with h|⟨A,h⟩ <;> cases h
 rfl
theorem RpW.str {v:V}{i:Str}(h:RpW K H J v (.str i)):v=.str i:=by
 rcases h with h|⟨A,h⟩ <;> cases h
 rfl
theorem RpW.bl {v:V}{i:Bool}(h:RpW K H J v (.bl i)):v=.bl i:=by
 rcases h with h|⟨A,h⟩ <;> cases h
 rfl
theorem RpW.non {v:V}(h:RpW K H J v .non):v=.non:=by
 rcases h with h|⟨A,h⟩ <;> cases h
 rfl
end
inductive SV where
|un|val (d:D)|own (n:Nat) (d:D)|par (n:Nat) (d:D)
abbrev En:=List SV
structure Pr where
 ps:List (Nat×Addr×Nat)
 fpo:Nat->List Addr
def Pr.no:Pr:=⟨[],λ_=>[]⟩
def Pr.has (O:Pr)(b:Addr):Prop:=∃i,b∈O.fpo i
def OwAt (K:W.Frag)(Hz H:Hp)(J:Addr->Prop)(O:List Addr)(x:Option (Option V))(A:List Addr):Option SV->Prop
|some (.own n d)=>(∃v,x=some (some v)/\RpU K H J n v d A)/\∀b∈A,Hz b=none
|some (.par n d)=>(∃v,x=some (some v)/\RpU K H J n v d A)/\∀b∈A,Hz b=none\/b∈O
|_=>A = []
structure Ow (K:W.Frag)(Hz:Hp)(O:Pr)(Z:En)(Y:L2.St)(H:Hp)(J:Addr->Prop)(fp:Nat->List Addr):Prop where
 at':∀i,OwAt K Hz H J (O.fpo i) (Y[i]?) (fp i) (Z[i]?)
 nd:∀i,(fp i).Nodup
 nj:∀i,∀b∈fp i,¬J b
 dj:∀i j,i≠j->∀b∈fp i,b∉fp j
structure ST (K:W.Frag)(Hz:Hp)(Jz:Addr->Prop)(O:Pr)(Z:En)(Y:L2.St)(H:Hp)(J:Addr->Prop):Prop where
 same:∀b o,¬O.has b->Hz b=some o->H b=some o
 j0:∀a,Jz a->J a
 jn:∀a,J a->Jz a\/Hz a=none
 ja:∀a,J a->H a≠none
 len:Y.length=Z.length
 vl:∀(i:Nat) (d:D),Z[i]?=some (.val d)->∃v,Y[i]?=some (some v)/\Rp K H J v d
 ow:∃fp,Ow K Hz O Z Y H J fp
 ps:∀q∈O.ps,Y[q.1]?=some (some (.ref q.2.1))/\∃d,Z[q.1]?=some (.par q.2.2 d)
 al:∀b,Hz b≠none->H b≠none
section
variable {K:W.Frag}{H H' H1 H2 Hz:Hp}{J J' J1 J2 Jz:Addr->Prop}{Z:En}{Y:L2.St}{O:Pr}
def OwAt.ru {B:List Addr}{x:Option (Option V)}{A:List Addr}{s:Option SV}(h:OwAt K Hz H J B x A s):∀b∈A,∃o,H b=some o/\MutO o:=by
 match s,h with
|some (.own n d),⟨⟨v,_,r⟩,_⟩ =>exact r.some
|some (.par n d),⟨⟨v,_,r⟩,_⟩ =>exact r.some
|none,h=>cases h;simp
|some .un,h=>cases h;simp
|some (.val _),h=>cases h;simp
theorem OwAt.keep {B:List Addr}{x:Option (Option V)}{A:List Addr}{s:Option SV}(k:Keep K H J H' J')(hA:∀b∈A,∀o,H b=some o->H' b=some o)(h:OwAt K Hz H J B x A s):OwAt K Hz H' J' B x A s:=by
 match s,h with
|some (.own n d),⟨⟨v,e,r⟩,q⟩ =>exact⟨⟨v,e,r.keep k hA⟩,q⟩
|some (.par n d),⟨⟨v,e,r⟩,q⟩ =>exact⟨⟨v,e,r.keep k hA⟩,q⟩
|none,h=>exact h
|some .un,h=>exact h
|some (.val _),h=>exact h
def ST.up (s:ST K Hz Jz O Z Y H J)(u:Up H J H' J'):ST K Hz Jz O Z Y H' J' where
 same:=λb o hb h=>u.same b o (s.same b o hb h)
 j0:=λa h=>u.jj a (s.j0 a h)
 jn:=λa h=>by
  rcases u.jn a h with h|h
  .exact s.jn a h
  .right
   cases e:Hz a with
  |none=>rfl
  |some o=>
     exact absurd h (s.al a (by rw[e];simp))
 ja:=u.ja
 len:=s.len
 vl:=λi d h=>let ⟨v,e,r⟩:=s.vl i d h;⟨v,e,r.keep u.keep⟩
 ow:=by
  obtain⟨fp,w⟩:=s.ow;refine⟨fp,λi=>(w.at' i).keep u.keep λb _=>u.same b,w.nd,λi b hb j=>?_,w.dj⟩;rcases u.jn b j with j|j
  .exact w.nj i b hb j
  .obtain⟨o,e,_⟩:=(w.at' i).ru b hb;rw[e] at j;cases j
 ps:=s.ps
 al:=λb h=>by
  cases e:H b with
 |none=>exact absurd e (s.al b h)
 |some o=>rw[u.same b o e];simp
def zcK {α:Type}{l:List α}{i j:Nat}{x y:α}(h:(l.set i x)[j]?=some y):(j=i/\y=x)\/(j≠i/\l[j]?=some y):=by
 by_cases e:j=i
 .subst e;by_cases hl:j<l.length
  .rw[waw hl] at h;exact .inl ⟨rfl,(wau h).symm⟩
  .rw[wba (by simp;omega)] at h;cases h
 .rw[wag (Ne.symm e)] at h;exact .inr ⟨e,h⟩
def zlP (fp:Nat->List Addr)(i:Nat)(A:List Addr):Nat->List Addr:=λj=>if j=i then A else fp j
def zcV {fp:Nat->List Addr}{i:Nat}{A:List Addr}:zlP fp i A i=A:=if_pos rfl
def zcq {fp:Nat->List Addr}{i j:Nat}{A:List Addr}(h:j≠i):zlP fp i A j=fp j:=if_neg h
def Ow.put {fp:Nat->List Addr}{Z':En}{Y':L2.St}{i:Nat}{A:List Addr}(w:Ow K Hz O Z Y H J fp)(k:Keep K H J H' J')(hs:∀j,j≠i->∀b∈fp j,∀o,H b=some o->H' b=some o)
 (hj:∀j,j≠i->∀b∈fp j,¬J' b) (hρ:∀j,j≠i->Z'[j]?=Z[j]?) (hσ:∀j,j≠i->Y'[j]?=Y[j]?) (hi:OwAt K Hz H' J' (O.fpo i) (Y'[i]?) A (Z'[i]?)) (nd:A.Nodup) (nj:∀b∈A,¬J' b) (dj:∀j,j≠i->∀b∈A,b∉fp j) :
 Ow K Hz O Z' Y' H' J' (zlP fp i A) where
 at':=λj=>by
  by_cases e:j=i
  .subst e;rw[zcV];exact hi
  .rw[zcq e,hρ j e,hσ j e];exact(w.at' j).keep k (hs j e)
 nd:=λj=>by
  by_cases e:j=i
  .subst e;rw[zcV];exact nd
  .rw[zcq e];exact w.nd j
 nj:=λj b hb=>by
  by_cases e:j=i
  .subst e;rw[zcV] at hb;exact nj b hb
  .rw[zcq e] at hb;exact hj j e b hb
 dj:=λj l ne b hb=>by
  by_cases e:j=i
  .subst e;rw[zcV] at hb;rw[zcq (Ne.symm ne)];exact dj l (Ne.symm ne) b hb
  .rw[zcq e] at hb;by_cases e2:l=i
   .subst e2;rw[zcV];exact λhb2=>dj j e b hb2 hb
   .rw[zcq e2];exact w.dj j l ne b hb
def ST.psNe {i:Nat}(s:ST K Hz Jz O Z Y H J)(hp:∀n d,Z[i]?≠some (.par n d)):∀q∈O.ps,q.1≠i:=λq hq e=>by
 obtain⟨_,d,h⟩:=s.ps q hq;exact hp _ d (e▸h)
theorem ST.set {i:Nat}{v:V}{d:D}(s:ST K Hz Jz O Z Y H J)(r:Rp K H J v d)(hi:i<Z.length)(hp:∀n d,Z[i]?≠some (.par n d)):ST K Hz Jz O (Z.set i (.val d)) (Y.set i (some v)) H J where
 same:=s.same
 j0:=s.j0
 jn:=s.jn
 ja:=s.ja
 len:=by simp[s.len]
 vl:=λj e h=>by
  rcases zcK h with⟨rfl,he⟩|⟨ne,h⟩
  .cases he;exact⟨v,waw (by rw[s.len];exact hi),r⟩
  .rw[wag (Ne.symm ne)];exact s.vl j e h
 ow:=by
  obtain⟨fp,w⟩:=s.ow;refine⟨_,w.put (i:=i) (A:=[]) Keep.refl (λ_ _ _ _ _ h=>h) (λj _=>w.nj j) (λj e=>wag (Ne.symm e)) (λj e=>wag (Ne.symm e)) ?_ wbi (by simp) (by simp)⟩;rw[waw hi];rfl
 ps:=λq hq=>by
  have e:=s.psNe hp q hq
  rw[wag (Ne.symm e),wag (Ne.symm e)];exact s.ps q hq
 al:=s.al
def ST.drop {i:Nat}(s:ST K Hz Jz O Z Y H J)(hp:∀n d,Z[i]?≠some (.par n d)):ST K Hz Jz O (Z.set i .un) Y H J where
 same:=s.same
 j0:=s.j0
 jn:=s.jn
 ja:=s.ja
 len:=by simp[s.len]
 vl:=λj e h=>by
  rcases zcK h with⟨rfl,he⟩|⟨ne,h⟩
  .cases he
  .exact s.vl j e h
 ow:=by
  obtain⟨fp,w⟩:=s.ow;refine⟨_,w.put (i:=i) (A:=[]) Keep.refl (λ_ _ _ _ _ h=>h) (λj _=>w.nj j) (λj e=>wag (Ne.symm e)) (λ_ _=>rfl) ?_ wbi (by simp) (by simp)⟩;by_cases hi:i<Z.length
  .rw[waw hi];rfl
  .have z:(List.set Z i SV.un)[i]?=none:=wba (by simp;omega)
   rw[z];rfl
 ps:=λq hq=>by
  have e:=s.psNe hp q hq
  rw[wag (Ne.symm e)];exact s.ps q hq
 al:=s.al
def ST.setOwn {i n:Nat}{v:V}{d:D}{A:List Addr}(s:ST K Hz Jz O Z Y H1 J1)(u:Up H1 J1 H J)(fr:∀b∈A,H1 b=none)(r:RpU K H J n v d A)(nd:A.Nodup)(nj:∀b∈A,¬J b)(hi:i<Z.length)(hp:∀n d,Z[i]?≠some (.par n d)) :
 ST K Hz Jz O (Z.set i (.own n d)) (Y.set i (some v)) H J:=by
 have s':=s.up u
 refine⟨s'.same,s'.j0,s'.jn,s'.ja,by simp[s.len],λj e h=>?_,?_,λq hq=>?_,s'.al⟩
 .rcases zcK h with⟨rfl,he⟩|⟨ne,h⟩
  .cases he
  .rw[wag (Ne.symm ne)];exact s'.vl j e h
 .obtain⟨fp,w⟩:=s.ow;have h0:∀b∈A,Hz b=none:=λb hb=>by
   cases e:Hz b with
  |none=>rfl
  |some o=>exact absurd (fr b hb) (s.al b (by rw[e];simp))
  refine⟨_,w.put (i:=i) (A:=A) u.keep (λj _ b _ o=>u.same b o) (λj _ b hb jb=>?_) (λj e=>wag (Ne.symm e)) (λj e=>wag (Ne.symm e)) ?_ nd nj (λj _ b hb hb2=>?_)⟩
  .rcases u.jn b jb with jb|jb
   .exact w.nj j b hb jb
   .obtain⟨o,e,_⟩:=(w.at' j).ru b hb;rw[e] at jb;cases jb
  .rw[waw hi,waw (by rw[s.len];exact hi)];exact⟨⟨v,rfl,r⟩,h0⟩
  .obtain⟨o,e,_⟩:=(w.at' j).ru b hb2;rw[fr b hb] at e;cases e
 .have e:=s.psNe hp q hq
  rw[wag (Ne.symm e),wag (Ne.symm e)];exact s.ps q hq
def ownD:Option SV->Option (Nat×D)
|some (.own n d)=>some (n,d)
|some (.par n d)=>some (n,d)
|_=>none
def putD (s:Option SV)(d:D):SV:=match s with
|some (.own n _)=>.own n d
|some (.par n _)=>.par n d
|_=>.un
def zjD {A:List Addr}(hm:∀b∈A,∃o,H b=some o/\MutO o)(nj:∀b∈A,¬J b)(hs:∀b o,b∉A->H b=some o->H' b=some o)(jj:∀a,J a->J' a):Keep K H J H' J':=⟨jj,λp o j h=>hs p o (λhp=>nj p hp j) h,λp vs h=>by
 rcases h with(h|⟨u,h⟩)|h
 .exact .inl (.inl (hs p _ (λhp=>by obtain⟨o,e,m⟩:=hm p hp;rw[h] at e;cases e;exact m) h))
 .exact .inl (.inr ⟨u,hs p _ (λhp=>by obtain⟨o,e,m⟩:=hm p hp;rw[h] at e;cases e;exact m) h⟩)
 .exact .inr h⟩
def ST.chg {i n:Nat}{d:D}(s:ST K Hz Jz O Z Y H J)(h0:ownD (Z[i]?)=some (n,d)):∃v A,Y[i]?=some (some v)/\RpU K H J n v d A/\A.Nodup/\(∀b∈A,¬J b)/\
 ∀(H':Hp) (J':Addr->Prop) (d':D) (A':List Addr),(∀b o,b∉A->H b=some o->H' b=some o)->(∀b,H b≠none->H' b≠none)->(∀a,J a->J' a)->(∀a,J' a->J a\/H a=none)->(∀a,J' a->H' a≠none)->
  RpU K H' J' n v d' A'->A'.Nodup->(∀b∈A',¬J' b)->(∀b∈A',b∈A\/H b=none)->ST K Hz Jz O (Z.set i (putD (Z[i]?) d')) Y H' J'/\Keep K H J H' J':=by
 obtain⟨fp,w⟩:=s.ow;have hat:=w.at' i
 have hi:i<Z.length:=by
  by_cases hi:i<Z.length
  .exact hi
  .rw[wba (by omega)] at h0;cases h0
 have main:(∃v,Y[i]?=some (some v)/\RpU K H J n v d (fp i))/\(∀b∈fp i,Hz b=none\/b∈O.fpo i):=by
  match hq:Z[i]?,h0,hat with
 |some (.own m e),h0,hat=>cases h0;exact⟨hat.1,λb hb=>.inl (hat.2 b hb)⟩
 |some (.par m e),h0,hat=>cases h0;exact hat
 obtain⟨⟨v,hv,r⟩,hfr⟩:=main;refine⟨v,fp i,hv,r,w.nd i,w.nj i,λH' J' d' A' hs ha jj jn ja r' nd nj hA=>?_⟩;have kp:Keep K H J H' J':=zjD (λb hb=>hat.ru b hb) (w.nj i) hs jj
 have out:∀j,j≠i->∀b∈fp j,b∉fp i:=λj e b hb hb2=>w.dj j i e b hb hb2
 have free:∀b,H b=none->Hz b=none:=λb hb=>by
  cases e:Hz b with
 |none=>rfl
 |some o=>exact absurd hb (s.al b (by rw[e];simp))
 refine⟨⟨λb o hb h=>hs b o (λhb2=>?_) (s.same b o hb h),λa h=>jj a (s.j0 a h),λa h=>?_,ja,by simp[s.len],λj e h=>?_,?_,λq hq=>?_,λb h=>ha b (s.al b h)⟩,kp⟩
 .rcases hfr b hb2 with h2|h2
  .rw[h2] at h;cases h
  .exact hb ⟨i,h2⟩
 .rcases jn a h with h|h
  .exact s.jn a h
  .exact .inr (free a h)
 .rcases zcK h with⟨rfl,he⟩|⟨ne,h⟩
  .exfalso
   unfold putD at he;match hq:Z[j]?,h0 with
  |some (.own m e),h0=>rw[hq] at he;cases he
  |some (.par m e),h0=>rw[hq] at he;cases he
  .obtain⟨v,e1,r1⟩:=s.vl j e h;exact⟨v,e1,r1.keep kp⟩
 .refine⟨_,w.put (i:=i) (A:=A') kp (λj e b hb o ho=>hs b o (out j e b hb) ho) (λj e b hb jb=>?_) (λj e=>wag (Ne.symm e)) (λ_ _=>rfl) ?_ nd nj (λj e b hb hb2=>?_)⟩
  .rcases jn b jb with jb|jb
   .exact w.nj j b hb jb
   .obtain⟨o,e,_⟩:=(w.at' j).ru b hb;rw[e] at jb;cases jb
  .rw[waw hi];match hq:Z[i]?,h0,hat with
  |some (.own m e),h0,hat=>
     cases h0;refine⟨⟨v,hv,r'⟩,λb hb=>?_⟩;rcases hA b hb with hb|hb
     .exact hat.2 b hb
     .exact free b hb
  |some (.par m e),h0,hat=>
     cases h0;refine⟨⟨v,hv,r'⟩,λb hb=>?_⟩;rcases hA b hb with hb|hb
     .exact hat.2 b hb
     .exact .inl (free b hb)
  .rcases hA b hb with hb|hb
   .exact w.dj j i e b hb2 hb
   .obtain⟨o,e,_⟩:=(w.at' j).ru b hb2;rw[hb] at e;cases e
 .obtain⟨e1,e,h⟩:=s.ps q hq;refine⟨e1,?_⟩;by_cases e:q.1=i
  .rw[e,waw hi];rw[e] at h;exact⟨d',by rw[h];rfl⟩
  .rw[wag (Ne.symm e)];exact⟨_,h⟩
def ST.frz {i n:Nat}{d:D}(s:ST K Hz Jz O Z Y H J)(h0:Z[i]?=some (.own n d)):∃J',ST K Hz Jz O (Z.set i (.val d)) Y H J'/\Keep K H J H J':=by
 obtain⟨fp,w⟩:=s.ow;have hat:=w.at' i
 rw[h0] at hat
 obtain⟨⟨v,hv,r⟩,hn⟩:=hat
 have hi:i<Z.length:=(wae.mp h0).1
 have kp:Keep K H J H (λb=>J b\/b∈fp i):=⟨λ_ h=>.inl h,λ_ _ _ h=>h,λ_ _ h=>h⟩
 refine⟨λb=>J b\/b∈fp i,⟨s.same,λb h=>.inl (s.j0 b h),λb h=>?_,λb h=>?_,by simp[s.len],λj e h=>?_,?_,λq hq=>?_,s.al⟩,kp⟩
 .rcases h with h|h
  .exact s.jn b h
  .exact .inr (hn b h)
 .rcases h with h|h
  .exact s.ja b h
  .obtain⟨o,e,_⟩:=r.some b h;rw[e];simp
 .rcases zcK h with⟨rfl,he⟩|⟨ne,h⟩
  .cases he;exact⟨v,hv,r.rp (λ_ h=>.inl h) (λb hb=>.inr hb)⟩
  .obtain⟨v,e1,r1⟩:=s.vl j e h;exact⟨v,e1,r1.keep kp⟩
 .refine⟨_,w.put (i:=i) (A:=[]) kp (λ_ _ _ _ _ h=>h) (λj e b hb jb=>?_) (λj e=>wag (Ne.symm e)) (λ_ _=>rfl) ?_ wbi (by simp) (by simp)⟩
  .rcases jb with jb|jb
   .exact w.nj j b hb jb
   .exact w.dj j i e b hb jb
  .rw[waw hi];rfl
 .have e:=s.psNe (i:=i) (λn d z=>by rw[h0] at z;cases z) q hq
  rw[wag (Ne.symm e)];exact s.ps q hq
def Weak (Z' Z:En):Prop:=Z'.length=Z.length/\∀(i:Nat),Z'[i]?=Z[i]?\/Z'[i]?=some .un
def isUn:Option SV->Bool
|some .un=>true
|_=>false
def ST.weak {Z':En}(s:ST K Hz Jz O Z Y H J)(w:Weak Z' Z)(hO:O.ps = []):ST K Hz Jz O Z' Y H J where
 same:=s.same
 j0:=s.j0
 jn:=s.jn
 ja:=s.ja
 len:=by rw[s.len,w.1]
 vl:=λi d h=>by
  rcases w.2 i with e|e
  .exact s.vl i d (e▸h)
  .rw[e] at h;cases h
 ow:=by
  obtain⟨fp,o⟩:=s.ow;have key:∀i:Nat,(Z'[i]?=some SV.un)\/Z'[i]?=Z[i]?:=λi=>(w.2 i).symm
  refine⟨λi=>if isUn (Z'[i]?) then[] else fp i,λi=>?_,λi=>?_,λi b hb=>?_,λi j ne b hb=>?_⟩
  .have q:=o.at' i
   rcases key i with e|e
   .rw[e];rfl
   .rw[e];cases z:Z[i]? with
   |none=>rw[z] at q;exact q
   |some x=>
      rw[z] at q;cases x with
     |un=>rfl
     |val d=>exact q
     |own n d=>exact q
     |par n d=>exact q
  .split
   .exact wbi
   .exact o.nd i
  .split at hb
   .cases hb
   .exact o.nj i b hb
  .split at hb
   .cases hb
   .split
    .simp
    .exact o.dj i j ne b hb
 ps:=by rw[hO];simp
 al:=s.al
end
end VD
namespace VD
open PySem PySem.Spec PyProof PyProof.Rows L2
abbrev FE:=En->Option D
abbrev FT:=En->Option Bool
abbrev FA:=En->Option (List D)
def lim:Nat:=100000
def zd9:lim<sizeLine:=by decide
def zca {n:Nat}(h:n<=lim):n<=sizeLine:=waq h (wbu zd9)
def mkL (ds:List D):Option D:=if ds.length<=lim then some (.lst ds) else none
def mkT (ds:List D):Option D:=if ds.length<=lim then some (.tup ds) else none
def zjE {ds:List D}{d:D}(h:mkL ds=some d):ds.length<=lim/\d=.lst ds:=by
 unfold mkL at h;by_cases e:ds.length<=lim
 .rw[if_pos e] at h;exact⟨e,(wau h).symm⟩
 .rw[if_neg e] at h;cases h
def zes {ds:List D}{d:D}(h:mkT ds=some d):ds.length<=lim/\d=.tup ds:=by
 unfold mkT at h;by_cases e:ds.length<=lim
 .rw[if_pos e] at h;exact⟨e,(wau h).symm⟩
 .rw[if_neg e] at h;cases h
section
variable (K:W.Frag)
def zeX (H:Hp)(J:Addr->Prop)(d:D)(Q:VK):Prop:=∀v H' J',Up H J H' J'->Rp K H' J' v d->Q v H'
def znA (H:Hp)(J:Addr->Prop)(d:D)(Q:VK):Prop:=∀v H' J',Up H J H' J'->RpW K H' J' v d->Q v H'
def zkI (H:Hp)(J:Addr->Prop)(ds:List D)(Q:VK):Prop:=∀p vs H' J',Up H J H' J'->H p=none->¬J' p->H' p=some (.lst vs)->RpL K H' J' vs ds->Q (.ref p) H'
def zkJ (H:Hp)(J:Addr->Prop)(b:Bool)(Q:Bool->Hp->Prop):Prop:=∀H' J',Up H J H' J'->Q b H'
def znB (H:Hp)(J:Addr->Prop)(ds:List D)(Q:List V->Hp->Prop):Prop:=∀vs H' J',Up H J H' J'->RpL K H' J' vs ds->Q vs H'
def GoE (t:TE)(f:FE):Prop:=∀Hz Jz O Z Y H J d Q,ST K Hz Jz O Z Y H J->f Z=some d->zeX K H J d Q->t Y H Q
def GoW (t:TE)(f:FE):Prop:=∀Hz Jz O Z Y H J d Q,ST K Hz Jz O Z Y H J->f Z=some d->znA K H J d Q->t Y H Q
def GoN (t:TE)(f:FA):Prop:=∀Hz Jz O Z Y H J d Q,ST K Hz Jz O Z Y H J->f Z=some d->zkI K H J d Q->t Y H Q
def GoT (t:TT)(f:FT):Prop:=∀Hz Jz O Z Y H J b Q,ST K Hz Jz O Z Y H J->f Z=some b->zkJ H J b Q->t Y H Q
def GoA (t:TA)(f:FA):Prop:=∀Hz Jz O Z Y H J ds Q,ST K Hz Jz O Z Y H J->f Z=some ds->znB K H J ds Q->t Y H Q
end
def VE (X:Cx)(e:Expr)(f:FE):Prop:=∃t,PE X e t/\GoE X.K t f
def VW (X:Cx)(e:Expr)(f:FE):Prop:=∃t,PE X e t/\GoW X.K t f
def VN (X:Cx)(e:Expr)(f:FA):Prop:=∃t,PE X e t/\GoN X.K t f
def VT (X:Cx)(e:Expr)(f:FT):Prop:=∃t,PT X e t/\GoT X.K t f
def VP (X:Cx)(e:Expr)(f:FT):Prop:=∃t,PW X e t/\GoT X.K t f
def VA (X:Cx)(es:List Expr)(f:FA):Prop:=∃t,PA X es t/\GoA X.K t f
def RpWL (K:W.Frag)(H:Hp)(J:Addr->Prop):List V->List D->Prop
|[],[]=>True
|v::vs,d::ds=>RpW K H J v d/\RpWL K H J vs ds
|_,_=>False
def GoAW (K:W.Frag)(t:TA)(f:FA):Prop:=∀Hz Jz O Z Y H J ds Q,ST K Hz Jz O Z Y H J->f Z=some ds->(∀vs H' J',Up H J H' J'->RpWL K H' J' vs ds->Q vs H')->t Y H Q
def VAW (X:Cx)(es:List Expr)(f:FA):Prop:=∃t,PA X es t/\GoAW X.K t f
def RpW.up {K:W.Frag}{H H':Hp}{J J':Addr->Prop}{v:V}{d:D}(h:RpW K H J v d)(u:Up H J H' J'):RpW K H' J' v d:=by
 rcases h with h|⟨A,h⟩
 .exact .inl (h.keep u.keep)
 .exact .inr ⟨A,h.keep u.keep λb _ o=>u.same b o⟩
section
variable {X:Cx}{a b c e:Expr}{es rest:List Expr}{fa fb:FE}{ft fu:FT}{fl:FA}{pos p:Pos}
theorem VE.w (h:VE X a fa):VW X a fa:=by
 obtain⟨t,p,g⟩:=h;exact⟨t,p,λHz Jz O Z Y H J d Q s e w=>g Hz Jz O Z Y H J d Q s e λv H' J' u r=>w v H' J' u (.inl r)⟩
def eVar (i:Nat):FE:=λZ=>match Z[i]? with|some (.val d)=>some d|_=>none
def eRd (i:Nat):FE:=λZ=>match Z[i]? with|some (.val d)=>some d|some (.own 1 d)=>some d|some (.par 1 d)=>some d|_=>none
def znC {K:W.Frag}{i:Nat}:GoE K (tVar i) (eVar i):=by
 intro Hz Jz O Z Y H J d Q s e w;unfold eVar at e;split at e
 .rename_i d' q
  cases e;obtain⟨v,hv,r⟩:=s.vl i _ q;exact⟨v,hv,w v H J (Up.refl s.ja) r⟩
 .cases e
def ST.rd {K:W.Frag}{Hz H:Hp}{Jz J:Addr->Prop}{O:Pr}{Z:En}{Y:L2.St}{i n:Nat}{d:D}(s:ST K Hz Jz O Z Y H J)(h:ownD (Z[i]?)=some (n,d)):∃v A,Y[i]?=some (some v)/\RpU K H J n v d A:=by
 obtain⟨v,A,h1,h2,_⟩:=s.chg h;exact⟨v,A,h1,h2⟩
def znD {K:W.Frag}{i:Nat}:GoW K (tVar i) (eRd i):=by
 intro Hz Jz O Z Y H J d Q s e w;unfold eRd at e;split at e
 .rename_i d' q
  cases e;obtain⟨v,hv,r⟩:=s.vl i _ q;exact⟨v,hv,w v H J (Up.refl s.ja) (.inl r)⟩
 .rename_i d' q
  cases e;obtain⟨v,A,hv,r⟩:=s.rd (i:=i) (n:=1) (d:=d) (by rw[q];rfl);exact⟨v,hv,w v H J (Up.refl s.ja) (.inr ⟨A,r⟩)⟩
 .rename_i d' q
  cases e;obtain⟨v,A,hv,r⟩:=s.rd (i:=i) (n:=1) (d:=d) (by rw[q];rfl);exact⟨v,hv,w v H J (Up.refl s.ja) (.inr ⟨A,r⟩)⟩
 .cases e
def vv (i:Nat){x:Str}{pos:Pos}(hN:X.N[i]?=some x:=by rfl)(hv:Vis X.env.scope x:=by first|exact Or.inl rfl|exact Or.inr (Or.inl rfl)|exact Or.inr (Or.inr rfl))(hd:(x == ("__debug__" : Str))=false:=by decide)
 (hcd:(x == ("__classdict__" : Str))=false:=by decide):VE X (.Name x pos) (eVar i):=⟨_,zdg hN hv hd hcd,znC⟩
def vr (i:Nat){x:Str}{pos:Pos}(hN:X.N[i]?=some x:=by rfl)(hv:Vis X.env.scope x:=by first|exact Or.inl rfl|exact Or.inr (Or.inl rfl)|exact Or.inr (Or.inr rfl))(hd:(x == ("__debug__" : Str))=false:=by decide)
 (hcd:(x == ("__classdict__" : Str))=false:=by decide):VW X (.Name x pos) (eRd i):=⟨_,zdg hN hv hd hcd,znD⟩
def eK (d:D):FE:=λ_=>some d
def go_c {K:W.Frag}{v:V}{d:D}(h:∀H J,Rp K H J v d):GoE K (tC v) (eK d):=by
 intro Hz Jz O Z Y H J d' Q s e w;cases e;exact w v H J (Up.refl s.ja) (h H J)
def zad {i j pos}:VE X (.Constant (.int i) j pos) (eK (.int i)):=⟨_,zm3,go_c λ_ _=>.int i⟩
def zbR {i j pos}:VE X (.Constant (.bool i) j pos) (eK (.bl i)):=⟨_,zo6,go_c λ_ _=>.bl i⟩
def zaA {i j pos}:VE X (.Constant (.str i) j pos) (eK (.str i)):=⟨_,zm5,go_c λ_ _=>.str i⟩
def zbE {j pos}:VE X (.Constant .none j pos) (eK .non):=⟨_,zm4,go_c λ_ _=>.non⟩
structure GlobD (K:W.Frag)(mg:Str->Option Value)(x:Str)(d:D):Prop where
 ex:∃u v,mg x=some u/\RelV v u/\∀H J,Rp K H J v d
def za4 {x:Str}{d:D}{pos:Pos}(G:GlobD X.K X.mg x d)(hg:Gl X x:=by rfl)(hd:(x == ("__debug__" : Str))=false:=by decide):VE X (.Name x pos) (eK d):=by
 obtain⟨u,v,h1,h2,h3⟩:=G.ex;exact⟨_,zfA hg h1 h2 hd,go_c h3⟩
def e2 (F:D->D->Option D)(f g:FE):FE:=λZ=>(f Z).bind λx=>(g Z).bind λy=>F x y
def e1 (F:D->Option D)(f:FE):FE:=λZ=>(f Z).bind F
def bind_some {α β:Type}{o:Option α}{f:α->Option β}{b:β}(h:o.bind f=some b):∃a,o=some a/\f a=some b:=by
 cases o with
|none=>cases h
|some a=>exact⟨a,rfl,h⟩
def Im2 (K:W.Frag)(r:R2)(F:D->D->Option D):Prop:=∀H J x y d e d' Q,(∀a,J a->H a≠none)->RpW K H J x d->RpW K H J y e->F d e=some d'->zeX K H J d' Q->r x y H Q
def zjF {K:W.Frag}{r:R2}{F:D->D->Option D}{ta tb:TE}(im:Im2 K r F)(ga:GoW K ta fa)(gb:GoW K tb fb):GoE K (tOp r ta tb) (e2 F fa fb):=by
 intro Hz Jz O Z Y H J d Q s e w;obtain⟨x,ex,e⟩:=bind_some e;obtain⟨y,ey,e⟩:=bind_some e;refine ga Hz Jz O Z Y H J x _ s ex λv1 H1 J1 u1 r1=>?_
 refine gb Hz Jz O Z Y H1 J1 y _ (s.up u1) ey λv2 H2 J2 u2 r2=>?_
 exact im H2 J2 v1 v2 x y d Q u2.ja (r1.up u2) r2 e λv3 H3 J3 u3 r3=>w v3 H3 J3 (u1.trans (u2.trans u3)) r3
def zax {op:Operator}{r:R2}{F:D->D->Option D}(ho:OpR X (binaryOp op) r)(im:Im2 X.K r F)(ha:VW X a fa)(hb:VW X b fb):VE X (.BinOp a op b pos) (e2 F fa fb):=by
 obtain⟨ta,pa,ga⟩:=ha;obtain⟨tb,pb,gb⟩:=hb;exact⟨_,zpf ho pa pb,zjF im ga gb⟩
def zdi {op:CmpOp}{r:R2}{F:D->D->Option D}(ho:OpR X (compareOp op) r)(im:Im2 X.K r F)(ha:VW X a fa)(hb:VW X b fb)(hm:behindInMarks op b=false):VE X (.Compare a [op] [b] pos) (e2 F fa fb):=by
 obtain⟨ta,pa,ga⟩:=ha;obtain⟨tb,pb,gb⟩:=hb;exact⟨_,zlo ho pa pb hm,zjF im ga gb⟩
def dB:D->Option Bool
|.bl b=>some b
|_=>none
def t1 (f:FE):FT:=λZ=>(f Z).bind dB
def zh5 {K:W.Frag}{t:TE}{f:FE}(g:GoE K t f):GoT K (zlp t) (t1 f):=by
 intro Hz Jz O Z Y H J d Q s e w;obtain⟨x,ex,e⟩:=bind_some e;refine g Hz Jz O Z Y H J x _ s ex λv H1 J1 u1 r1=>?_
 cases x with
|bl k=>cases e;cases r1;exact⟨_,rfl,w H1 J1 u1⟩
|_=>cases e
def zaP {op:CmpOp}{r:R2}{F:D->D->Option D}(ho:OpR X (compareOp op) r)(im:Im2 X.K r F)(ha:VW X a fa)(hb:VW X b fb)(hm:behindInMarks op b=false):VT X (.Compare a [op] [b] pos) (t1 (e2 F fa fb)):=by
 obtain⟨ta,pa,ga⟩:=ha;obtain⟨tb,pb,gb⟩:=hb;exact⟨_,zlq ho pa pb hm,zh5 (zjF im ga gb)⟩
def e3 (F G:D->D->Option D)(f g h:FE):FE:=λZ=>(f Z).bind λx=>(g Z).bind λy=>(F x y).bind λz=>(dB z).bind λk=>if k then(h Z).bind λw=>G y w else some (.bl false)
def zjG {K:W.Frag}{r r':R2}{F G:D->D->Option D}{ta tb tc:TE}{fc:FE}(im:Im2 K r F)(im':Im2 K r' G)(ga:GoW K ta fa)(gb:GoW K tb fb)(gc:GoW K tc fc):GoE K (zkD r r' ta tb tc) (e3 F G fa fb fc):=by
 intro Hz Jz O Z Y H J d Q s e w;obtain⟨x,ex,e⟩:=bind_some e;obtain⟨y,ey,e⟩:=bind_some e;obtain⟨z,ez,e⟩:=bind_some e;obtain⟨k,ek,e⟩:=bind_some e;refine ga Hz Jz O Z Y H J x _ s ex λv1 H1 J1 u1 r1=>?_
 refine gb Hz Jz O Z Y H1 J1 y _ (s.up u1) ey λv2 H2 J2 u2 r2=>?_
 refine im H2 J2 v1 v2 x y z _ u2.ja (r1.up u2) r2 ez λv3 H3 J3 u3 r3=>?_
 cases z with
|bl k'=>
   have ek':k'=k:=wau ek
   subst ek';cases r3;refine⟨_,rfl,?_⟩;cases k' with
  |true=>
     refine iteT ?_;have e':((fc Z).bind λw=>G y w)=some d:=e
     obtain⟨q,eq,e'⟩:=bind_some e';refine gc Hz Jz O Z Y H3 J3 q _ (s.up (u1.trans (u2.trans u3))) eq λv4 H4 J4 u4 r4=>?_
     exact im' H4 J4 v2 v4 y q d Q u4.ja (r2.up (u3.trans u4)) r4 e' λv5 H5 J5 u5 r5=>w v5 H5 J5 (u1.trans (u2.trans (u3.trans (u4.trans u5)))) r5
  |false=>
     refine iteF ?_;have e':some (D.bl false)=some d:=e
     cases e';exact w _ H3 J3 (u1.trans (u2.trans u3)) (.bl false)
|_=>cases ek
def zjH {op op':CmpOp}{r r':R2}{F G:D->D->Option D}{fc:FE}(ho:OpR X (compareOp op) r)(im:Im2 X.K r F)(ho':OpR X (compareOp op') r')(im':Im2 X.K r' G)(ha:VW X a fa)(hb:VW X b fb)(hc:VW X c fc)(hm:lastMarks [op,op'] [b,c]=false:=by with_unfolding_all rfl):VT X (.Compare a [op,op'] [b,c] pos) (t1 (e3 F G fa fb fc)):=by
 obtain⟨ta,pa,ga⟩:=ha;obtain⟨tb,pb,gb⟩:=hb;obtain⟨tc,pc,gc⟩:=hc;exact⟨_,zjo ho ho' pa pb pc hm,zh5 (zjG im im' ga gb gc)⟩
def dTru:D->Option Bool
|.non=>some false
|.bl b=>some b
|.int i=>some (i != 0)
|.str x=>if x.length<=lim then some ((x.length:Int) != 0) else none
|.tup ds=>some (!ds.isEmpty)
|.lst ds=>some (!ds.isEmpty)
|.dct ks _=>some (!ks.isEmpty)
|.scr _=>none
|.exc _ _ _=>none
|.dcu _ _=>none
def tT (f:FE):FT:=λZ=>(f Z).bind dTru
def zdB {α β:Type}{xs:List α}{ys:List β}(h:xs.length=ys.length):xs.isEmpty=ys.isEmpty:=by
 cases xs <;> cases ys <;> first|rfl|cases h
def znE {K:W.Frag}{H:Hp}{J:Addr->Prop}{v:V}{d:D}{k:Bool}(r:RpW K H J v d)(h:dTru d=some k):TruV K v H k:=by
 cases d with
|non=>rw[r.non];cases h;rfl
|bl b=>rw[r.bl];cases h;rfl
|int b=>rw[r.int];cases h;rfl
|str x=>
   rw[r.str];have h:(if x.length<=lim then some ((x.length:Int) != 0) else none)=some k:=h
   by_cases e:x.length<=lim
   .rw[if_pos e] at h;cases h;exact⟨zca e,rfl⟩
   .rw[if_neg e] at h;cases h
|tup ds=>obtain⟨p,vs,rfl,h1,h2⟩:=r.tup;cases h;exact .inr (.inl ⟨vs,h1,by rw[zdB h2.length]⟩)
|lst ds=>obtain⟨p,vs,rfl,h1,h2⟩:=r.lst;cases h;exact .inl ⟨vs,SqL.of h1,by rw[zdB h2.length]⟩
|scr p=>cases h
|exc _ _ _=>cases h
|dcu _ _=>cases h
|dct ks ds=>
   obtain⟨p,kvs,vs,rfl,h1,h2,h3,h4⟩:=r.dct;cases h;refine .inr (.inr ⟨kvs,h1,?_⟩);rw[<-h2];cases kvs <;> rfl
def zaY (ha:VW X a fa)(he:∀whole,isTrue a X.env whole=(do let v <-whole;standAt a.pos;holding [v] (truthy v)):=by intro _;rfl):VT X a (tT fa):=by
 obtain⟨ta,pa,ga⟩:=ha;refine⟨_,zjp pa he,?_⟩;intro Hz Jz O Z Y H J d Q s e w;obtain⟨x,ex,e⟩:=bind_some e;refine ga Hz Jz O Z Y H J x _ s ex λv H1 J1 u1 r1=>?_
 exact⟨d,znE r1 e,w H1 J1 u1⟩
def tAndF (f g:FT):FT:=λZ=>(f Z).bind λk=>if k then g Z else some false
def tOrF (f g:FT):FT:=λZ=>(f Z).bind λk=>if k then some true else g Z
def tNotF (f:FT):FT:=λZ=>(f Z).bind λk=>some (!k)
def znF {K:W.Frag}{t u:TT}(g1:GoT K t ft)(g2:GoT K u fu):GoT K (tAnd t u) (tAndF ft fu):=by
 intro Hz Jz O Z Y H J d Q s e w;obtain⟨k,ek,e⟩:=bind_some e;refine g1 Hz Jz O Z Y H J k _ s ek λH1 J1 u1=>?_
 cases k with
|true=>exact iteT (g2 Hz Jz O Z Y H1 J1 d Q (s.up u1) e λH2 J2 u2=>w H2 J2 (u1.trans u2))
|false=>have e':some false=some d:=e;cases e';exact iteF (w H1 J1 u1)
def zpn {K:W.Frag}{t u:TT}(g1:GoT K t ft)(g2:GoT K u fu):GoT K (tOr t u) (tOrF ft fu):=by
 intro Hz Jz O Z Y H J d Q s e w;obtain⟨k,ek,e⟩:=bind_some e;refine g1 Hz Jz O Z Y H J k _ s ek λH1 J1 u1=>?_
 cases k with
|true=>have e':some true=some d:=e;cases e';exact iteT (w H1 J1 u1)
|false=>exact iteF (g2 Hz Jz O Z Y H1 J1 d Q (s.up u1) e λH2 J2 u2=>w H2 J2 (u1.trans u2))
def zfK (h:VT X a ft):VP X (.BoolOp .And [a] pos) ft:=let ⟨t,p,g⟩:=h;⟨t,zlh p,g⟩
def zdC (h:VT X a ft):VP X (.BoolOp .Or [a] pos) ft:=let ⟨t,p,g⟩:=h;⟨t,zm6 p,g⟩
def zgq (h:VT X a ft)(h2:VP X (.BoolOp .And (b::rest) pos) fu):VP X (.BoolOp .And (a::b::rest) pos) (tAndF ft fu):=let ⟨_,p,g⟩:=h;let ⟨_,p2,g2⟩:=h2;⟨_,zm7 p p2,znF g g2⟩
def zeY (h:VT X a ft)(h2:VP X (.BoolOp .Or (b::rest) pos) fu):VP X (.BoolOp .Or (a::b::rest) pos) (tOrF ft fu):=let ⟨_,p,g⟩:=h;let ⟨_,p2,g2⟩:=h2;⟨_,zo7 p p2,zpn g g2⟩
theorem VP.t (h:VP X a ft):VT X a ft:=let ⟨t,p,g⟩:=h;⟨t,p.pt,g⟩
def zbb (h:VT X a ft):VT X (.UnaryOp .Not a pos) (tNotF ft):=by
 obtain⟨t,p,g⟩:=h;refine⟨_,zm8 p,?_⟩;intro Hz Jz O Z Y H J d Q s e w;obtain⟨k,ek,e⟩:=bind_some e;cases e;exact g Hz Jz O Z Y H J k _ s ek λH1 J1 u1=>w H1 J1 u1
def eAnd (f g:FE):FE:=λZ=>(t1 f Z).bind λk=>if k then g Z else some (.bl false)
def eOr (f g:FE):FE:=λZ=>(t1 f Z).bind λk=>if k then some (.bl true) else g Z
def eNot (f:FE):FE:=λZ=>(t1 f Z).bind λk=>some (.bl (!k))
def zea {op}(h:VE X a fa):VE X (.BoolOp op [a] pos) fa:=let ⟨_,p,g⟩:=h;⟨_,zm9 p,g⟩
def zeb (h:VE X a fa)(h2:VE X (.BoolOp .And (b::rest) pos) fb):VE X (.BoolOp .And (a::b::rest) pos) (eAnd fa fb):=by
 obtain⟨t,p,g⟩:=h;obtain⟨t2,p2,g2⟩:=h2;refine⟨_,zna p p2,?_⟩;intro Hz Jz O Z Y H J d Q s e w;obtain⟨k,ek,e⟩:=bind_some e;obtain⟨x,ex,ek⟩:=bind_some ek;refine g Hz Jz O Z Y H J x _ s ex λv H1 J1 u1 r1=>?_
 cases x with
|bl k'=>
   have ek':k'=k:=wau ek
   subst ek';cases r1;refine⟨_,rfl,?_⟩;cases k' with
  |true=>exact iteT (g2 Hz Jz O Z Y H1 J1 d Q (s.up u1) e λv2 H2 J2 u2 r2=>w v2 H2 J2 (u1.trans u2) r2)
  |false=>have e':some (D.bl false)=some d:=e;cases e';exact iteF (w _ H1 J1 u1 (.bl false))
|_=>cases ek
def zpo (h:VE X a fa)(h2:VE X (.BoolOp .Or (b::rest) pos) fb):VE X (.BoolOp .Or (a::b::rest) pos) (eOr fa fb):=by
 obtain⟨t,p,g⟩:=h;obtain⟨t2,p2,g2⟩:=h2;refine⟨_,zpa p p2,?_⟩;intro Hz Jz O Z Y H J d Q s e w;obtain⟨k,ek,e⟩:=bind_some e;obtain⟨x,ex,ek⟩:=bind_some ek;refine g Hz Jz O Z Y H J x _ s ex λv H1 J1 u1 r1=>?_
 cases x with
|bl k'=>
   have ek':k'=k:=wau ek
   subst ek';cases r1;refine⟨_,rfl,?_⟩;cases k' with
  |false=>exact iteF (g2 Hz Jz O Z Y H1 J1 d Q (s.up u1) e λv2 H2 J2 u2 r2=>w v2 H2 J2 (u1.trans u2) r2)
  |true=>have e':some (D.bl true)=some d:=e;cases e';exact iteT (w _ H1 J1 u1 (.bl true))
|_=>cases ek
def zkK (h:VE X a fa):VE X (.UnaryOp .Not a pos) (eNot fa):=by
 obtain⟨t,p,g⟩:=h;refine⟨_,znb p,?_⟩;intro Hz Jz O Z Y H J d Q s e w;obtain⟨k,ek,e⟩:=bind_some e;obtain⟨x,ex,ek⟩:=bind_some ek;refine g Hz Jz O Z Y H J x _ s ex λv H1 J1 u1 r1=>?_
 cases x with
|bl k'=>
   have ek':k'=k:=wau ek
   subst ek';cases r1;cases e;exact⟨_,rfl,w _ H1 J1 u1 (.bl _)⟩
|_=>cases ek
def aNil:FA:=λ_=>some []
def aCons (f:FE)(g:FA):FA:=λZ=>(f Z).bind λx=>(g Z).bind λxs=>some (x::xs)
def zae:VA X [] aNil:=⟨_,zcS,λHz Jz O Z Y H J ds Q s e w=>by cases e;exact w [] H J (Up.refl s.ja) .nil⟩
def zaa (ha:VE X e fa)(hr:VA X es fl)(hs:starEach (e::es) X.env=(false,eval e X.env)::starEach es X.env:=by rfl):VA X (e::es) (aCons fa fl):=by
 obtain⟨t,p,g⟩:=ha;obtain⟨t2,p2,g2⟩:=hr;refine⟨_,zbd p p2 hs,?_⟩;intro Hz Jz O Z Y H J ds Q s e w;obtain⟨x,ex,e⟩:=bind_some e;obtain⟨xs,exs,e⟩:=bind_some e;cases e;refine g Hz Jz O Z Y H J x _ s ex λv1 H1 J1 u1 r1=>?_
 refine g2 Hz Jz O Z Y H1 J1 xs _ (s.up u1) exs λvs H2 J2 u2 r2=>?_
 exact w _ H2 J2 (u1.trans u2) (.cons (r1.keep u2.keep) r2)
def zaO:VAW X [] aNil:=⟨_,zcS,λHz Jz O Z Y H J ds Q s e w=>by cases e;exact w [] H J (Up.refl s.ja) trivial⟩
def zav (ha:VW X e fa)(hr:VAW X es fl)(hs:starEach (e::es) X.env=(false,eval e X.env)::starEach es X.env:=by rfl):VAW X (e::es) (aCons fa fl):=by
 obtain⟨t,p,g⟩:=ha;obtain⟨t2,p2,g2⟩:=hr;refine⟨_,zbd p p2 hs,?_⟩;intro Hz Jz O Z Y H J ds Q s e w;obtain⟨x,ex,e⟩:=bind_some e;obtain⟨xs,exs,e⟩:=bind_some e;cases e;refine g Hz Jz O Z Y H J x _ s ex λv1 H1 J1 u1 r1=>?_
 refine g2 Hz Jz O Z Y H1 J1 xs _ (s.up u1) exs λvs H2 J2 u2 r2=>?_
 exact w _ H2 J2 (u1.trans u2) ⟨r1.up u2,r2⟩
def eTup (f:FA):FE:=λZ=>(f Z).bind mkT
def zap {x1}(h:VA X es fl):VE X (.Tuple es x1 pos) (eTup fl):=by
 obtain⟨t,p,g⟩:=h;refine⟨_,zkE p,?_⟩;intro Hz Jz O Z Y H J d Q s e w;obtain⟨xs,exs,e⟩:=bind_some e;obtain⟨hl,rfl⟩:=zes e;refine g Hz Jz O Z Y H J xs _ s exs λvs H1 J1 u1 r1=>⟨by rw[r1.length];exact zca hl,λp hp=>?_⟩
 have un:=Up.new u1.ja hp (.tup vs)
 exact w _ _ _ (u1.trans un) (.tup (SqT.of zah) (r1.keep un.keep))
def aMk (f:FA):FA:=λZ=>(f Z).bind λds=>if ds.length<=lim then some ds else none
def zjI {f:FA}{Z:En}{ds:List D}(h:aMk f Z=some ds):f Z=some ds/\ds.length<=lim:=by
 obtain⟨xs,e1,e2⟩:=bind_some h;by_cases hl:xs.length<=lim
 .rw[if_pos hl] at e2;cases e2;exact⟨e1,hl⟩
 .rw[if_neg hl] at e2;cases e2
def zaK (h:VA X es fl):VN X (.List es pos) (aMk fl):=by
 obtain⟨t,p,g⟩:=h;refine⟨_,znl p,?_⟩;intro Hz Jz O Z Y H J ds Q s e w;obtain⟨e1,hl⟩:=zjI e;refine g Hz Jz O Z Y H J ds _ s e1 λvs H1 J1 u1 r1=>⟨by rw[r1.length];exact zca hl,λp hp=>?_⟩
 have un:=Up.new u1.ja hp (.lst vs)
 exact w p vs _ J1 (u1.trans un) (u1.same.free hp) (λj=>u1.ja p j hp) zah (r1.keep un.keep)
def eL (f:FA):FE:=λZ=>(f Z).bind λds=>some (.lst ds)
def zkL {K:W.Frag}{t:TE}{f:FA}(g:GoN K t f):GoE K t (eL f):=by
 intro Hz Jz O Z Y H J d Q s e w;obtain⟨ds,e1,e⟩:=bind_some e;cases e;refine g Hz Jz O Z Y H J ds _ s e1 λp vs H1 J1 u1 hp nj h1 r1=>?_
 have kp:Keep K H1 J1 H1 (λa=>J1 a\/a=p):=⟨λ_ h=>.inl h,λ_ _ _ h=>h,λ_ _ h=>h⟩
 refine w (.ref p) H1 (λa=>J1 a\/a=p) ⟨u1.same,λa h=>.inl (u1.jj a h),λa h=>?_,λa h=>?_⟩ (.lst h1 (.inr rfl) (r1.keep kp))
 .rcases h with h|rfl
  .exact u1.jn a h
  .exact .inr hp
 .rcases h with h|rfl
  .exact u1.ja a h
  .rw[h1];simp
def VN.ve {f:FA}(h:VN X a f):VE X a (eL f):=let ⟨_,p,g⟩:=h;⟨_,p,zkL g⟩
def spF (K:W.Frag)(F:List D->Option D):Sp:=λvs H Q _=>∃J ds d,(∀a,J a->H a≠none)/\RpL K H J vs ds/\F ds=some d/\zeX K H J d Q
def eCall (F:List D->Option D)(f:FA):FE:=λZ=>(f Z).bind F
def zar {k k':Nat}{x:Str}{ps:List Str}{F:List D->Option D}(C:Cal X.prog X.w X.K X.mg X.base k x ps (spF X.K F))(hr:Room k' X.A)(ha:VA X (e::es) fl)(hk:k<=k':=by decide)(hg:Gl X x:=by rfl)(hdb:(x == ("__debug__" : Str))=false:=by decide)
 (he:starEach (e::es) X.env=(false,eval e X.env)::starEach es X.env:=by rfl) (hpl:(backTo pos (starEach es X.env)).any (·.1)=false:=by rfl):VE X (.Call (.Name x p) (e::es) [] pos) (eCall F fl):=by
 obtain⟨t,p,g⟩:=ha;refine⟨_,pc C hr p hk hg hdb he hpl,?_⟩;intro Hz Jz O Z Y H J d Q s e w;obtain⟨ds,e1,e⟩:=bind_some e;refine g Hz Jz O Z Y H J ds _ s e1 λvs H1 J1 u1 r1=>?_
 refine⟨J1,ds,d,u1.ja,by rw[waY];exact r1,e,λv H2 J2 u2 r2=>w v H2 J2 (u1.trans u2) r2⟩
def ImC (K:W.Frag)(r:List V->Hp->VK->Prop)(F:List D->Option D):Prop:=∀H J vs ds d Q,(∀a,J a->H a≠none)->RpWL K H J vs ds->F ds=some d->zeX K H J d Q->r vs H Q
def znG {K:W.Frag}{r:List V->Hp->VK->Prop}{F:List D->Option D}{t:TA}(im:ImC K r F)(g:GoAW K t fl):GoE K (tCB r t) (eCall F fl):=by
 intro Hz Jz O Z Y H J d Q s e w;obtain⟨ds,e1,e⟩:=bind_some e;refine g Hz Jz O Z Y H J ds _ s e1 λvs H1 J1 u1 r1=>?_
 exact im H1 J1 vs ds d Q u1.ja r1 e λv H2 J2 u2 r2=>w v H2 J2 (u1.trans u2) r2
def ve_b {id:String}{x:Str}{r:List V->Hp->VK->Prop}{F:List D->Option D}(hc:zcE X (.builtin id) r)(im:ImC X.K r F)(B:Blt X.mg)(hv:bootBuiltins x=some (.builtin id))(ha:VAW X (e::es) fl)(hB:x∈zbD:=by decide +kernel)(hg:Gl X x:=by rfl)(hn:x≠"__name__":=by decide)(hdb:(x == ("__debug__" : Str))=false:=by decide)
 (he:starEach (e::es) X.env=(false,eval e X.env)::starEach es X.env:=by rfl) (hpl:(backTo pos (starEach es X.env)).any (·.1)=false:=by rfl):VE X (.Call (.Name x p) (e::es) [] pos) (eCall F fl):=by
 obtain⟨t,p,g⟩:=ha;exact⟨_,pb hc B hv p hB hg hn hdb he hpl,znG im g⟩
def zh6 {T:String}{x:Str}{r:List V->Hp->VK->Prop}{F:List D->Option D}(hc:zcE X (.type T) r)(im:ImC X.K r F)(B:Blt X.mg)(hv:bootBuiltins x=some (.type T))(ha:VAW X (e::es) fl)(hB:x∈zbD:=by decide +kernel)(hg:Gl X x:=by rfl)(hn:x≠"__name__":=by decide)(hdb:(x == ("__debug__" : Str))=false:=by decide)
 (he:starEach (e::es) X.env=(false,eval e X.env)::starEach es X.env:=by rfl) (hpl:(backTo pos (starEach es X.env)).any (·.1)=false:=by rfl):VE X (.Call (.Name x p) (e::es) [] pos) (eCall F fl):=by
 obtain⟨t,p,g⟩:=ha;exact⟨_,pty hc B hv p hB hg hn hdb he hpl,znG im g⟩
end
section
variable {K:W.Frag}{X:Cx}
def dAdd:D->D->Option D
|.int i,.int j=>some (.int (i+j))
|.str x,.str y=>if x.length+y.length<=lim then some (.str (x++y)) else none
|.lst xs,.lst ys=>mkL (xs++ys)
|.tup xs,.tup ys=>if ys = [] then none else mkT (xs++ys)
|_,_=>none
def zjJ (K:W.Frag):R2:=λx y H Q=>(rI0 λi j=>.int (i+j)) x y H Q\/(∃i j,x=.str i/\y=.str j/\i.length+j.length<=sizeLine/\Q (.str (i++j)) H)\/rCat x y H Q\/znu K x y H Q
def opAdd:OpR X (binaryOp .Add) (zjJ X.K):=op_add.or (op_add_str.or (op_cat.or zlH))
def zbS:Im2 K (zjJ K) dAdd:=by
 intro H J x y d e d' Q ja hx hy hF w;match d,e,hF with
|.int i,.int j,hF=>
   cases hF;rw[hx.int,hy.int];exact .inl ⟨i,j,rfl,rfl,w _ H J (Up.refl ja) (.int _)⟩
|.str a,.str b,hF=>
   have hF:(if a.length+b.length<=lim then some (D.str (a++b)) else none)=some d':=hF
   by_cases hl:a.length+b.length<=lim
   .rw[if_pos hl] at hF;cases hF;rw[hx.str,hy.str];exact .inr (.inl ⟨a,b,rfl,rfl,zca hl,w _ H J (Up.refl ja) (.str _)⟩)
   .rw[if_neg hl] at hF;cases hF
|.lst xs,.lst ys,hF=>
   have hF:mkL (xs++ys)=some d':=hF
   obtain⟨hl,rfl⟩:=zjE hF;obtain⟨p,vs,rfl,h1,r1⟩:=hx.lst;obtain⟨q,us,rfl,h2,r2⟩:=hy.lst;refine .inr (.inr (.inl ⟨p,q,vs,us,rfl,rfl,h1,h2,?_,λc hc=>?_⟩))
   .rw[r1.length,r2.length,<-wap];exact zca hl
   .have un:=Up.newJ ja hc (.lst (vs++us))
    exact w _ _ _ un (.lst zah (.inr rfl) ((r1.append r2).keep un.keep))
|.tup xs,.tup ys,hF=>
   have hF:(if ys = [] then none else mkT (xs++ys))=some d':=hF
   by_cases hy0:ys = []
   .rw[if_pos hy0] at hF;cases hF
   .rw[if_neg hy0] at hF;obtain⟨hl,rfl⟩:=zes hF;obtain⟨p,vs,rfl,h1,r1⟩:=hx.tup;obtain⟨q,us,rfl,h2,r2⟩:=hy.tup;refine .inr (.inr (.inr ⟨p,q,vs,us,rfl,rfl,h1,h2,?_,?_,λe=>?_,λ_ c hc=>?_⟩))
    .rintro rfl;exact hy0 (List.length_eq_zero_iff.mp (by rw[<-r2.length];rfl))
    .rw[r1.length,r2.length,<-wap];exact zca hl
    .subst e;obtain rfl:xs = []:=List.length_eq_zero_iff.mp (by rw[<-r1.length];rfl);exact w _ H J (Up.refl ja) (.tup h2 r2)
    .have un:=Up.new ja hc (.tup (vs++us))
     exact w _ _ _ un (.tup (SqT.of zah) ((r1.append r2).keep un.keep))
def dI (C:Int->Int->Prop)[∀i j,Decidable (C i j)](g:Int->Int->D):D->D->Option D
|.int i,.int j=>if C i j then some (g i j) else none
|_,_=>none
def im_I {C:Int->Int->Prop}[∀i j,Decidable (C i j)]{g:Int->Int->V}{g':Int->Int->D}(hg:∀i j H J,Rp K H J (g i j) (g' i j)):Im2 K (rI C g) (dI C g'):=by
 intro H J x y d e d' Q ja hx hy hF w;match d,e,hF with
|.int i,.int j,hF=>
   have hF:(if C i j then some (g' i j) else none)=some d':=hF
   by_cases hc:C i j
   .rw[if_pos hc] at hF;cases hF;rw[hx.int,hy.int];exact⟨i,j,rfl,rfl,hc,w _ H J (Up.refl ja) (hg i j H J)⟩
   .rw[if_neg hc] at hF;cases hF
def dI0 (g:Int->Int->D):D->D->Option D
|.int i,.int j=>some (g i j)
|_,_=>none
def zh7 {g:Int->Int->V}{g':Int->Int->D}(hg:∀i j H J,Rp K H J (g i j) (g' i j)):Im2 K (rI0 g) (dI0 g'):=by
 intro H J x y d e d' Q ja hx hy hF w;match d,e,hF with
|.int i,.int j,hF=>
   cases hF;rw[hx.int,hy.int];exact⟨i,j,rfl,rfl,w _ H J (Up.refl ja) (hg i j H J)⟩
instance (i j:Int):Decidable (CMul i j):=by unfold CMul;infer_instance
instance (i j:Int):Decidable (CDiv i j):=by unfold CDiv;infer_instance
instance (i j:Int):Decidable (CPow i j):=by unfold CPow;infer_instance
def dSub:=dI0 λi j=>.int (i - j)
def dMod:=dI (λ_ j=>0<j) λi j=>.int (i % j)
def dPow:=dI CPow λi j=>.int (i ^ j.toNat)
def dLt:=dI0 λi j=>.bl (decide (i<j))
def dLe:=dI0 λi j=>.bl (decide (i<=j))
def dGt:=dI0 λi j=>.bl (decide (j<i))
def dGe:=dI0 λi j=>.bl (decide (j<=i))
def zec:Im2 K (rI0 λi j=>.int (i - j)) dSub:=zh7 λ_ _ _ _=>.int _
def zby:Im2 K (rI (λ_ j=>0<j) λi j=>.int (i % j)) dMod:=im_I λ_ _ _ _=>.int _
def zgr:Im2 K (rI CPow λi j=>.int (i ^ j.toNat)) dPow:=im_I λ_ _ _ _=>.int _
def zpp:Im2 K (rI0 λi j=>.bl (decide (i<j))) dLt:=zh7 λ_ _ _ _=>.bl _
def znH:Im2 K (rI0 λi j=>.bl (decide (i<=j))) dLe:=zh7 λ_ _ _ _=>.bl _
def zlQ:Im2 K (rI0 λi j=>.bl (decide (j<i))) dGt:=zh7 λ_ _ _ _=>.bl _
def zlR:Im2 K (rI0 λi j=>.bl (decide (j<=i))) dGe:=zh7 λ_ _ _ _=>.bl _
def dMul:D->D->Option D
|.int i,.int j=>if CMul i j then some (.int (i*j)) else none
|.str z,.int n=>if -1000<=n/\n<=1000/\z.length<=1000 then some (.str (Txt.mul z n)) else none
|.lst xs,.int k=>if 0<=k/\k<=1000/\xs.length<=1000 then some (.lst (List.replicate k.toNat xs).flatten) else none
|_,_=>none
def znI:R2:=λx y H Q=>(rI CMul λi j=>.int (i*j)) x y H Q\/(∃z n,x=.str z/\y=.int n/\-1000<=n/\n<=1000/\z.length<=1000/\Q (.str (Txt.mul z n)) H)\/rRep x y H Q
def zjK:OpR X (binaryOp .Mult) znI:=op_mul.or (op_rep_str.or znq)
theorem RpL.rep {H:Hp}{J:Addr->Prop}{vs:List V}{ds:List D}(r:RpL K H J vs ds):∀n:Nat,RpL K H J (List.replicate n vs).flatten (List.replicate n ds).flatten
|0=>.nil
|n+1=>by
   rw[waZ,waZ,wbD,wbD];exact r.append (RpL.rep r n)
def zgs:Im2 K znI dMul:=by
 intro H J x y d e d' Q ja hx hy hF w;match d,e,hF with
|.int i,.int j,hF=>
   have hF:(if CMul i j then some (D.int (i*j)) else none)=some d':=hF
   by_cases hc:CMul i j
   .rw[if_pos hc] at hF;cases hF;rw[hx.int,hy.int];exact .inl ⟨i,j,rfl,rfl,hc,w _ H J (Up.refl ja) (.int _)⟩
   .rw[if_neg hc] at hF;cases hF
|.str z,.int n,hF=>
   have hF:(if -1000<=n/\n<=1000/\z.length<=1000 then some (D.str (Txt.mul z n)) else none)=some d':=hF
   by_cases hc:-1000<=n/\n<=1000/\z.length<=1000
   .rw[if_pos hc] at hF;cases hF;rw[hx.str,hy.int];exact .inr (.inl ⟨z,n,rfl,rfl,hc.1,hc.2.1,hc.2.2,w _ H J (Up.refl ja) (.str _)⟩)
   .rw[if_neg hc] at hF;cases hF
|.lst xs,.int n,hF=>
   have hF:(if 0<=n/\n<=1000/\xs.length<=1000 then some (D.lst (List.replicate n.toNat xs).flatten) else none)=some d':=hF
   by_cases hc:0<=n/\n<=1000/\xs.length<=1000
   .rw[if_pos hc] at hF;cases hF;obtain⟨p,vs,rfl,h1,r1⟩:=hx.lst;rw[hy.int];refine .inr (.inr ⟨p,n,vs,rfl,rfl,h1,by omega,by omega,?_,λc hc=>?_⟩)
    .rw[r1.length];have h1:xs.length*n.toNat<=1000*1000:=wcB hc.2.2 (by omega)
     exact waq h1 (by decide)
    .have un:=Up.newJ ja hc (.lst (List.replicate n.toNat vs).flatten)
     exact w _ _ _ un (.lst zah (.inr rfl) ((r1.rep _).keep un.keep))
   .rw[if_neg hc] at hF;cases hF
def dV:D->V
|.non=>.non
|.bl b=>.bl b
|.int i=>.int i
|.str x=>.str x
|_=>.ty ""
def zgt:D->Bool
|.non=>true
|.int _=>true
|.str _=>true
|_=>false
def zat {p q:Prop}[Decidable p][Decidable q](h:p↔q):decide p=decide q:=by
 by_cases hp:p
 .rw[waA hp,waA (h.mp hp)]
 .rw[wat hp,wat (λz=>hp (h.mpr z))]
def dIn (neg:Bool):D->D->Option D
|x,.lst ds=>if zgt x=true/\ds.all zgt=true then some (.bl (if neg then !decide (x∈ds) else decide (x∈ds))) else none
|x,.tup ds=>if zgt x=true/\ds.all zgt=true then some (.bl (if neg then !decide (x∈ds) else decide (x∈ds))) else none
|_,_=>none
def dIs (neg:Bool):D->D->Option D
|d,.non=>some (.bl (if neg then !decide (d=.non) else decide (d=.non)))
|_,_=>none
def zh8 {H:Hp}{J:Addr->Prop}{v:V}{d:D}(r:RpW K H J v d):v=.non↔d=.non:=by
 rcases r with r|⟨A,r⟩
 .cases r <;> simp
 .cases r <;> simp
def znJ:Im2 K (λx y H Q=>y=.non/\Q (.bl (decide (x=.non))) H) (dIs false):=by
 intro H J x y d e d' Q ja hx hy hF w;cases e with
|non=>
   cases hF;refine⟨hy.non,?_⟩;rw[zat (zh8 hx)];exact w _ H J (Up.refl ja) (.bl _)
|_=>cases hF
def zlS:Im2 K (λx y H Q=>y=.non/\Q (.bl (!decide (x=.non))) H) (dIs true):=by
 intro H J x y d e d' Q ja hx hy hF w;cases e with
|non=>
   cases hF;refine⟨hy.non,?_⟩;rw[zat (zh8 hx)];exact w _ H J (Up.refl ja) (.bl _)
|_=>cases hF
def dIx:D->D->Option D
|.lst ds,.int i=>atI ds i
|.tup ds,.int i=>atI ds i
|.str z,.int i=>if z.length<=lim then(atI z.cps.toList i).map λc=>.str ⟨#[c]⟩ else none
|_,_=>none
def zpq:Im2 K (rIx K) dIx:=by
 intro H J x y d e d' Q ja hx hy hF w;match d,e,hF with
|.lst ds,.int i,hF=>
   have hF:atI ds i=some d':=hF
   obtain⟨p,vs,rfl,h1,r1⟩:=hx.lst;obtain⟨v,hv,rv⟩:=r1.at hF;rw[hy.int];exact .inl ⟨p,vs,i,v,rfl,rfl,SqL.of h1,hv,w v H J (Up.refl ja) rv⟩
|.tup ds,.int i,hF=>
   have hF:atI ds i=some d':=hF
   obtain⟨p,vs,rfl,h1,r1⟩:=hx.tup;obtain⟨v,hv,rv⟩:=r1.at hF;rw[hy.int];exact .inr (.inl ⟨p,vs,i,v,rfl,rfl,h1,hv,w v H J (Up.refl ja) rv⟩)
|.str z,.int i,hF=>
   have hF:(if z.length<=lim then(atI z.cps.toList i).map λc=>D.str ⟨#[c]⟩ else none)=some d':=hF
   by_cases hl:z.length<=lim
   .rw[if_pos hl] at hF;cases q:atI z.cps.toList i with
   |none=>rw[q] at hF;cases hF
   |some c=>
      rw[q] at hF;cases hF;rw[hx.str,hy.int];exact .inr (.inr ⟨z,i,c,rfl,rfl,zca hl,q,w _ H J (Up.refl ja) (.str _)⟩)
   .rw[if_neg hl] at hF;cases hF
variable {a b:Expr}{fa fb:FE}{pos p2:Pos}
def za6 (ha:VW X a fa)(hb:VW X b fb)(hs:zdx b:=by exact λ_ _=>rfl):VE X (.Subscript a b pos) (e2 dIx fa fb):=by
 obtain⟨ta,pa,ga⟩:=ha;obtain⟨tb,pb,gb⟩:=hb;exact⟨_,zjs zhN pa pb hs,zjF zpq ga gb⟩
def cut {α:Type}(xs:List α)(lo hi:Option Int):List α:=(xs.drop (HT.sIx xs.length 0 lo)).take (HT.sIx xs.length xs.length hi - HT.sIx xs.length 0 lo)
theorem RpL.cut {H:Hp}{J:Addr->Prop}{vs:List V}{ds:List D}(r:RpL K H J vs ds)(lo hi:Option Int):RpL K H J (cutV vs lo hi) (VD.cut ds lo hi):=by
 unfold cutV VD.cut;rw[r.length];exact(r.drop _).take _
def dSl:D->Option Int->Option Int->Option D
|.lst ds,lo,hi=>some (.lst (cut ds lo hi))
|.tup ds,lo,hi=>if HT.sIx ds.length 0 lo=0/\HT.sIx ds.length ds.length hi=ds.length then none else some (.tup (cut ds lo hi))
|.str z,lo,hi=>if z.length<=lim then some (.str (Txt.slice z lo hi)) else none
|_,_,_=>none
abbrev FO:=En->Option (Option Int)
def GoO (K:W.Frag)(t:TO)(f:FO):Prop:=∀Hz Jz O Z Y H J o Q,ST K Hz Jz O Z Y H J->f Z=some o->(∀H' J',Up H J H' J'->Q o H')->t Y H Q
def VO (X:Cx)(e:Option Expr)(f:FO):Prop:=∃t,PO X e t/\GoO X.K t f
def oN:FO:=λ_=>some none
def dInt:D->Option Int
|.int i=>some i
|_=>none
def oS (f:FE):FO:=λZ=>(f Z).bind λd=>(dInt d).bind λi=>some (some i)
def zbX:VO X none oN:=⟨_,zlx,λHz Jz O Z Y H J o Q s e w=>by cases e;exact w H J (Up.refl s.ja)⟩
def zbY (h:VE X a fa):VO X (some a) (oS fa):=by
 obtain⟨t,p,g⟩:=h;refine⟨_,zly p,?_⟩;intro Hz Jz O Z Y H J o Q s e w;obtain⟨d,e1,e⟩:=bind_some e;obtain⟨i,e2,e⟩:=bind_some e;cases e;refine g Hz Jz O Z Y H J d _ s e1 λv H1 J1 u1 r1=>?_
 cases d with
|int k=>cases e2;cases r1;exact⟨_,rfl,w H1 J1 u1⟩
|_=>cases e2
def eSl (f:FE)(lo hi:FO):FE:=λZ=>(f Z).bind λx=>(lo Z).bind λl=>(hi Z).bind λh=>dSl x l h
def rSlD (K:W.Frag):V->Option Int->Option Int->Hp->VK->Prop:=λx lo hi H Q=>rSlL K x lo hi H Q\/rSlT K x lo hi H Q\/rSlS x lo hi H Q
def zcr {lo hi:Option Expr}{fl fh:FO}(ha:VW X a fa)(hl:VO X lo fl)(hh:VO X hi fh):VE X (.Subscript a (.Slice lo hi none p2) pos) (eSl fa fl fh):=by
 obtain⟨t,p,g⟩:=ha;obtain⟨tl,pl,gl⟩:=hl;obtain⟨th,ph,gh⟩:=hh;refine⟨_,zep (r:=rSlD X.K) (sl_list.or (sl_tup.or zkG)) p pl ph,?_⟩;intro Hz Jz O Z Y H J d Q s e w;obtain⟨x,e1,e⟩:=bind_some e;obtain⟨l,e2,e⟩:=bind_some e;obtain⟨h,e3,e⟩:=bind_some e;refine g Hz Jz O Z Y H J x _ s e1 λv H1 J1 u1 r1=>?_
 refine gl Hz Jz O Z Y H1 J1 l _ (s.up u1) e2 λH2 J2 u2=>?_
 refine gh Hz Jz O Z Y H2 J2 h _ (s.up (u1.trans u2)) e3 λH3 J3 u3=>?_
 have r3:=r1.up (u2.trans u3)
 have u:=u1.trans (u2.trans u3)
 match x,e with
|.lst ds,e=>
   cases e;obtain⟨p,vs,rfl,h1,rl⟩:=r3.lst;refine .inl ⟨p,vs,rfl,SqL.of h1,λc hc=>?_⟩;have un:=Up.newJ u3.ja hc (.lst (cutV vs l h))
   exact w _ _ _ (u.trans un) (.lst zah (.inr rfl) ((rl.cut l h).keep un.keep))
|.tup ds,e=>
   have e:(if HT.sIx ds.length 0 l=0/\HT.sIx ds.length ds.length h=ds.length then none else some (D.tup (cut ds l h)))=some d:=e
   by_cases hc:HT.sIx ds.length 0 l=0/\HT.sIx ds.length ds.length h=ds.length
   .rw[if_pos hc] at e;cases e
   .rw[if_neg hc] at e;cases e;obtain⟨p,vs,rfl,h1,rl⟩:=r3.tup;refine .inr (.inl ⟨p,vs,rfl,h1,by rw[rl.length];exact hc,λc hc=>?_⟩);have un:=Up.new u3.ja hc (.tup (cutV vs l h))
    exact w _ _ _ (u.trans un) (.tup (SqT.of zah) ((rl.cut l h).keep un.keep))
|.str z,e=>
   have e:(if z.length<=lim then some (D.str (Txt.slice z l h)) else none)=some d:=e
   by_cases hc:z.length<=lim
   .rw[if_pos hc] at e;cases e;rw[r3.str];exact .inr (.inr ⟨z,rfl,zca hc,w _ _ _ u (.str _)⟩)
   .rw[if_neg hc] at e;cases e
def dLst:D->Option (List D)
|.lst ds=>some ds
|_=>none
def aRev (f:FE):FA:=λZ=>(f Z).bind λd=>(dLst d).bind λds=>some ds.reverse
def zkM {p3 p4:Pos}{j:Nat}(ha:VW X a fa):VN X (.Subscript a (.Slice none none (some (.UnaryOp .USub (.Constant (.int 1) j p3) p4)) p2) pos) (aRev fa):=by
 obtain⟨t,p,g⟩:=ha;refine⟨_,znx p,?_⟩;intro Hz Jz O Z Y H J ds Q s e w;obtain⟨x,e1,e⟩:=bind_some e;obtain⟨xs,e2,e⟩:=bind_some e;cases e;refine g Hz Jz O Z Y H J x _ s e1 λv H1 J1 u1 r1=>?_
 cases x with
|lst ds=>
   cases e2;obtain⟨p,vs,rfl,h1,rl⟩:=r1.lst;refine⟨p,vs,rfl,SqL.of h1,λc hc=>?_⟩;have un:=Up.new u1.ja hc (.lst vs.reverse)
   exact w c _ _ _ (u1.trans un) (u1.same.free hc) (λj=>u1.ja c j hc) zah (rl.reverse.keep un.keep)
|_=>cases e2
def RpWL.one {H:Hp}{J:Addr->Prop}{vs:List V}{d:D}(h:RpWL K H J vs [d]):∃v,vs = [v]/\RpW K H J v d:=by
 match vs,h with
|[v],h=>exact⟨v,rfl,h.1⟩
|[],h=>exact h.elim
|_::_::_,h=>exact h.2.elim
def RpWL.two {H:Hp}{J:Addr->Prop}{vs:List V}{d e:D}(h:RpWL K H J vs [d,e]):∃v u,vs = [v,u]/\RpW K H J v d/\RpW K H J u e:=by
 match vs,h with
|[v,u],h=>exact⟨v,u,rfl,h.1,h.2.1⟩
|[],h=>exact h.elim
|[_],h=>exact h.2.elim
|_::_::_::_,h=>exact h.2.2.elim
def bLen:List D->Option D
|[.lst ds]=>some (.int ds.length)
|[.tup ds]=>some (.int ds.length)
|[.str z]=>if z.length<=lim then some (.int z.length) else none
|_=>none
def zcG:ImC K (λxs H Q=>∃x n,xs = [x]/\LenV K x H n/\Q (.int n) H) bLen:=by
 intro H J vs ds d Q ja r hF w;match ds,r,hF with
|[.lst ds],r,hF=>
   obtain⟨v,rfl,rr⟩:=r.one;cases hF;obtain⟨p,us,rfl,h1,rl⟩:=rr.lst;refine⟨_,us.length,rfl,.inl ⟨us,SqL.of h1,rfl⟩,?_⟩;rw[rl.length];exact w _ H J (Up.refl ja) (.int _)
|[.tup ds],r,hF=>
   obtain⟨v,rfl,rr⟩:=r.one;cases hF;obtain⟨p,us,rfl,h1,rl⟩:=rr.tup;refine⟨_,us.length,rfl,.inr ⟨us,h1,rfl⟩,?_⟩;rw[rl.length];exact w _ H J (Up.refl ja) (.int _)
|[.str z],r,hF=>
   obtain⟨v,rfl,rr⟩:=r.one;have hF:(if z.length<=lim then some (D.int z.length) else none)=some d:=hF
   by_cases hl:z.length<=lim
   .rw[if_pos hl] at hF;cases hF;rw[rr.str];exact⟨_,z.length,rfl,⟨zca hl,rfl⟩,w _ H J (Up.refl ja) (.int _)⟩
   .rw[if_neg hl] at hF;cases hF
def bMax:List D->Option D
|[.int i,.int j]=>some (.int (if j>i then j else i))
|_=>none
def bMin:List D->Option D
|[.int i,.int j]=>some (.int (if j<i then j else i))
|_=>none
def zh9:ImC K (λxs H Q=>∃i j,xs = [.int i,.int j]/\Q (.int (if j<i then j else i)) H) bMin:=by
 intro H J vs ds d Q ja r hF w;match ds,r,hF with
|[.int i,.int j],r,hF=>obtain⟨v,u,rfl,q1,q2⟩:=r.two;cases hF;exact⟨i,j,by rw[q1.int,q2.int],w _ H J (Up.refl ja) (.int _)⟩
def bList:List D->Option D
|[.lst ds]=>some (.lst ds)
|[.tup ds]=>some (.lst ds)
|_=>none
def zfL:ImC K (λxs H Q=>∃p ys,xs = [.ref p]/\(SqL K H p ys\/SqT K H p ys)/\∀l,H l=none->Q (.ref l) (upd H l (.lst ys))) bList:=by
 intro H J vs ds d Q ja r hF w;match ds,r,hF with
|[.lst ds],r,hF=>
   obtain⟨v,rfl,rr⟩:=r.one;cases hF;obtain⟨p,us,rfl,h1,rl⟩:=rr.lst;refine⟨p,us,rfl,.inl (SqL.of h1),λc hc=>?_⟩;have un:=Up.newJ ja hc (.lst us)
   exact w _ _ _ un (.lst zah (.inr rfl) (rl.keep un.keep))
|[.tup ds],r,hF=>
   obtain⟨v,rfl,rr⟩:=r.one;cases hF;obtain⟨p,us,rfl,h1,rl⟩:=rr.tup;refine⟨p,us,rfl,.inr h1,λc hc=>?_⟩;have un:=Up.newJ ja hc (.lst us)
   exact w _ _ _ un (.lst zah (.inr rfl) (rl.keep un.keep))
def bTuple:List D->Option D
|[.lst ds]=>some (.tup ds)
|[.tup ds]=>some (.tup ds)
|_=>none
def zgu:ImC K (λxs H Q=>∃p ys,xs = [.ref p]/\((SqL K H p ys/\∀l,H l=none->Q (.ref l) (upd H l (.tup ys)))\/(SqT K H p ys/\Q (.ref p) H))) bTuple:=by
 intro H J vs ds d Q ja r hF w;match ds,r,hF with
|[.lst ds],r,hF=>
   obtain⟨v,rfl,rr⟩:=r.one;cases hF;obtain⟨p,us,rfl,h1,rl⟩:=rr.lst;refine⟨p,us,rfl,.inl ⟨SqL.of h1,λc hc=>?_⟩⟩;have un:=Up.new ja hc (.tup us)
   exact w _ _ _ un (.tup (SqT.of zah) (rl.keep un.keep))
|[.tup ds],r,hF=>
   obtain⟨v,rfl,rr⟩:=r.one;cases hF;obtain⟨p,us,rfl,h1,rl⟩:=rr.tup;exact⟨p,us,rfl,.inr ⟨h1,w _ H J (Up.refl ja) (.tup h1 rl)⟩⟩
end
def Src (K:W.Frag)(I:It)(H:Hp)(J:Addr->Prop)(ds:List D):Prop:=∀H2 J2,Keep K H J H2 J2->(∀a,J2 a->H2 a≠none)->
 I.stop ds.length H2/\∀i d,ds[i]?=some d->I.go i H2/\∀x H3,I.yld i H2 x H3->∃J3,Up H2 J2 H3 J3/\Rp K H3 J3 x d
def GoI (K:W.Frag)(wi:TI)(f:FA):Prop:=∀Hz Jz O Z Y H J ds R,ST K Hz Jz O Z Y H J->f Z=some ds->(∀I H' J',Up H J H' J'->Src K I H' J' ds->R I H')->wi Y H R
def VI (X:Cx)(tg iter:Expr)(f:FA):Prop:=∃wi,PI X tg iter wi/\GoI X.K wi f
section
variable {X:Cx}{K:W.Frag}{tg a b:Expr}{fa fb:FE}{fl:FA}{pos p:Pos}
def znK {wi wi':TI}{iter:Expr}(h:PI X tg iter wi)(h':PI X tg iter wi'):PI X tg iter (λY H R=>wi Y H R\/wi' Y H R):=by
 intro pins s Y H R I q;rcases q with q|q
 .exact h pins s Y H R I q
 .exact h' pins s Y H R I q
def dSeq:D->Option (List D)
|.lst ds=>some ds
|.tup ds=>some ds
|_=>none
def aSeq (f:FE):FA:=λZ=>(f Z).bind dSeq
def zcb (h:VE X a fa):VI X tg a (aSeq fa):=by
 obtain⟨t,p,g⟩:=h;refine⟨_,znK (zlk p) (znh p),?_⟩;intro Hz Jz O Z Y H J ds R s e w;obtain⟨x,e1,e⟩:=bind_some e;cases x with
|lst xs=>
   cases e;refine .inl (g Hz Jz O Z Y H J _ _ s e1 λv H1 J1 u1 r1=>?_);cases r1 with
  |lst h j r=>
     refine⟨_,rfl,⟨_,SqL.of h⟩,w _ H1 J1 u1 λH2 J2 k ja=>?_⟩;have h2:=k.jo _ _ j h
     refine⟨⟨_,SqL.of h2,by rw[r.length];exact wai _⟩,λi d hd=>?_⟩;obtain⟨v,hv,rv⟩:=r.get hd;refine⟨⟨_,v,SqL.of h2,hv⟩,λx H3 y=>?_⟩;obtain⟨rfl,y⟩:=y;have e:=y _ (SqL.of h2)
     rw[hv] at e;cases e;exact⟨J2,Up.refl ja,rv.keep k⟩
|tup xs=>
   cases e;refine .inr (g Hz Jz O Z Y H J _ _ s e1 λv H1 J1 u1 r1=>?_);cases r1 with
  |tup h r=>
     refine⟨_,rfl,⟨_,h⟩,w _ H1 J1 u1 λH2 J2 k ja=>?_⟩;have h2:=k.tp _ _ h
     refine⟨⟨_,h2,by rw[r.length];exact wai _⟩,λi d hd=>?_⟩;obtain⟨v,hv,rv⟩:=r.get hd;refine⟨⟨_,v,h2,hv⟩,λx H3 y=>?_⟩;obtain⟨rfl,y⟩:=y;have e:=y _ h2
     rw[hv] at e;cases e;exact⟨J2,Up.refl ja,rv.keep k⟩
|_=>cases e
def zaS (lo:Int)(n:Nat):List D:=(List.range n).map λ(i:Nat)=>.int (lo+(i:Int))
def zia {H:Hp}{J:Addr->Prop}(lo:Int)(n:Nat):Src K (Itr lo n) H J (zaS lo n):=by
 intro H2 J2 k ja;have hl:(zaS lo n).length=n:=by simp[zaS]
 rw[hl];refine⟨wai _,λi d hd=>?_⟩;have hi:i<n:=by rw[<-hl];exact(wae.mp hd).1
 refine⟨hi,λx H3 y=>?_⟩;obtain⟨rfl,rfl⟩:=y;unfold zaS at hd;rw[war,wcv hi] at hd;cases hd;exact⟨J2,Up.refl ja,.int _⟩
def a1Int:List D->Option Int
|[.int i]=>some i
|_=>none
def aRng1 (f:FA):FA:=λZ=>(f Z).bind λl=>(a1Int l).bind λj=>if -1000000<=j/\j<=1000000 then some (zaS 0 j.toNat) else none
def zdD (B:Blt X.mg)(ha:VA X [a] fl)(hg:Gl X "range":=by rfl)(hs:starEach [a] X.env = [(false,eval a X.env)]:=by rfl):VI X tg (.Call (.Name "range" p) [a] [] pos) (aRng1 fl):=by
 obtain⟨t,p,g⟩:=ha;refine⟨_,zhC hg (B.get "range") p hs,?_⟩;intro Hz Jz O Z Y H J ds R s e w;obtain⟨l,e1,e⟩:=bind_some e;obtain⟨j,e2,e⟩:=bind_some e;by_cases hj:-1000000<=j/\j<=1000000
 .rw[if_pos hj] at e;cases e;refine g Hz Jz O Z Y H J _ _ s e1 λvs H1 J1 u1 r1=>?_
  match l,e2,r1 with
 |[.int i],e2,r1=>
    cases e2;cases r1 with
   |cons h t=>cases t;cases h;exact⟨j,rfl,by omega,by omega,w _ H1 J1 u1 (zia 0 _)⟩
 .rw[if_neg hj] at e;cases e
def zdm (ds:List D):List D:=ds.zipIdx.map λp=>.tup [.int (p.2:Nat),p.1]
def a1Tup:List D->Option (List D)
|[.tup ds]=>some ds
|_=>none
def aEnum (f:FA):FA:=λZ=>(f Z).bind λl=>(a1Tup l).bind λds=>some (zdm ds)
def zce (ds:List D):(zdm ds).length=ds.length:=by simp[zdm]
def zdE {ds:List D}{i:Nat}{d:D}(h:(zdm ds)[i]?=some d):∃x,ds[i]?=some x/\d=.tup [.int (i:Nat),x]:=by
 unfold zdm at h;rw[war,List.getElem?_zipIdx] at h;cases q:ds[i]? with
|none=>rw[q] at h;cases h
|some x=>rw[q] at h;simp at h;exact⟨x,rfl,h.symm⟩
def zlT {elts:List Expr}{x1}{tpos:Pos}(B:Blt X.mg)(ha:VA X [a] fl)(hg:Gl X "enumerate":=by rfl)(hs:starEach [a] X.env = [(false,eval a X.env)]:=by rfl):VI X (.Tuple elts x1 tpos) (.Call (.Name "enumerate" p) [a] [] pos) (aEnum fl):=by
 obtain⟨t,p,g⟩:=ha;refine⟨_,zhW hg (B.get "enumerate") p hs,?_⟩;intro Hz Jz O Z Y H J ds R s e w;obtain⟨l,e1,e⟩:=bind_some e;obtain⟨xs,e2,e⟩:=bind_some e;cases e;refine g Hz Jz O Z Y H J _ _ s e1 λvs H1 J1 u1 r1=>?_
 match l,e2,r1 with
|[.tup _],e2,r1=>
   cases e2;cases r1 with
  |cons h t=>
     cases t;cases h with
    |tup h r=>
       refine⟨_,rfl,⟨_,h⟩,w _ H1 J1 u1 λH2 J2 k ja=>?_⟩;have h2:=k.tp _ _ h
       refine⟨⟨_,h2,by rw[r.length,zce];exact wai _⟩,λi d hd=>?_⟩;obtain⟨x,hx,rfl⟩:=zdE hd;obtain⟨v,hv,rv⟩:=r.get hx;refine⟨⟨_,v,h2,hv⟩,λy H3 hy=>?_⟩;obtain⟨q,hn,rfl,hy⟩:=hy;obtain⟨y,ey,rfl⟩:=hy _ h2;rw[hv] at ey;cases ey;have un:=Up.new ja hn (.tup [.int (i:Nat),v])
       exact⟨J2,un,.tup (SqT.of zah) (.cons (.int _) (.cons ((rv.keep k).keep un.keep) .nil))⟩
end
abbrev FG:=D->En->Option En
abbrev FGs:=List D->En->Option En
def Only (is:List Nat)(Z Z':En):Prop:=Z'.length=Z.length/\∀j,j∉is->Z'[j]?=Z[j]?
def GoG (K:W.Frag)(g:TG)(is:List Nat)(f:FG):Prop:=(∀d Z Z',f d Z=some Z'->Only is Z Z')/\∀Hz Jz O Z Y H J v d Z' Q,ST K Hz Jz O Z Y H J->Rp K H J v d->f d Z=some Z'->(∀Y',ST K Hz Jz O Z' Y' H J->Q Y' H)->g v Y H Q
def GoGs (K:W.Frag)(g:TGs)(is:List Nat)(f:FGs):Prop:=(∀d Z Z',f d Z=some Z'->Only is Z Z')/\∀Hz Jz O Z Y H J vs ds Z' Q,ST K Hz Jz O Z Y H J->RpL K H J vs ds->f ds Z=some Z'->(∀Y',ST K Hz Jz O Z' Y' H J->Q Y' H)->g vs Y H Q
def VG (X:Cx)(tg:Expr)(is:List Nat)(f:FG):Prop:=∃g,PG X tg g/\GoG X.K g is f
def VGs (X:Cx)(tgs:List Expr)(is:List Nat)(f:FGs):Prop:=∃g,PGs X tgs g/\GoGs X.K g is f
def isPar:Option SV->Bool
|some (.par _ _)=>true
|_=>false
def zbF {x:Option SV}(h:isPar x=false):∀n d,x≠some (.par n d):=λn d e=>by rw[e] at h;cases h
def gN (i:Nat):FG:=λd Z=>if i<Z.length/\isPar (Z[i]?)=false then some (Z.set i (.val d)) else none
def gNil':FGs:=λds Z=>if ds = [] then some Z else none
def gCons' (f:FG)(g:FGs):FGs:=λds Z=>match ds with|d::r=>(f d Z).bind λZ1=>g r Z1|[]=>none
def gT (n:Nat)(f:FGs):FG:=λd Z=>match d with|.tup ds=>if ds.length=n then f ds Z else none|_=>none
def zfM {K:W.Frag}{i:Nat}:GoG K (zdl i) [i] (gN i):=by
 refine⟨λd Z Z' h=>?_,λHz Jz O Z Y H J v d Z' Q s r e w=>?_⟩
 .unfold gN at h;by_cases hi:i<Z.length/\isPar (Z[i]?)=false
  .rw[if_pos hi] at h;cases h;exact⟨by simp,λj hj=>wag (λz=>hj (by simp[z]))⟩
  .rw[if_neg hi] at h;cases h
 .unfold gN at e;by_cases hi:i<Z.length/\isPar (Z[i]?)=false
  .rw[if_pos hi] at e;cases e;exact w _ (s.set r hi.1 (zbF hi.2))
  .rw[if_neg hi] at e;cases e
theorem Only.trans {is js:List Nat}{Z Z1 Z2:En}(a:Only is Z Z1)(b:Only js Z1 Z2):Only (is++js) Z Z2:=⟨b.1.trans a.1,λj hj=>by
 rw[waz] at hj;rw[b.2 j (λz=>hj (.inr z)),a.2 j (λz=>hj (.inl z))]⟩
def zlU {K:W.Frag}:GoGs K gNil [] gNil':=by
 refine⟨λd Z Z' h=>?_,λHz Jz O Z Y H J vs ds Z' Q s r e w=>?_⟩
 .unfold gNil' at h;by_cases hd:d = []
  .rw[if_pos hd] at h;cases h;exact⟨rfl,λ_ _=>rfl⟩
  .rw[if_neg hd] at h;cases h
 .unfold gNil' at e;by_cases hd:ds = []
  .rw[if_pos hd] at e;cases e;subst hd;cases r;exact⟨rfl,w _ s⟩
  .rw[if_neg hd] at e;cases e
def zjL {K:W.Frag}{g:TG}{gs:TGs}{is js:List Nat}{f:FG}{fs:FGs}(h1:GoG K g is f)(h2:GoGs K gs js fs):GoGs K (zne g gs) (is++js) (gCons' f fs):=by
 refine⟨λd Z Z' h=>?_,λHz Jz O Z Y H J vs ds Z' Q s r e w=>?_⟩
 .cases d with
 |nil=>cases h
 |cons d r=>
    obtain⟨Z1,e1,e2⟩:=bind_some (show((f d Z).bind λZ1=>fs r Z1)=some Z' from h);exact(h1.1 _ _ _ e1).trans (h2.1 _ _ _ e2)
 .cases ds with
 |nil=>cases e
 |cons d ds=>
    obtain⟨Z1,e1,e2⟩:=bind_some (show((f d Z).bind λZ1=>fs ds Z1)=some Z' from e);cases r with
   |cons r1 r2=>
      refine⟨_,_,rfl,h1.2 Hz Jz O Z Y H J _ d Z1 _ s r1 e1 λY1 s1=>?_⟩;exact h2.2 Hz Jz O Z1 Y1 H J _ ds Z' _ s1 r2 e2 w
def zlV {K:W.Frag}{n:Nat}{gs:TGs}{is:List Nat}{fs:FGs}(h:GoGs K gs is fs):GoG K (gTup K n gs) is (gT n fs):=by
 refine⟨λd Z Z' e=>?_,λHz Jz O Z Y H J v d Z' Q s r e w=>?_⟩
 .cases d with
 |tup ds=>
    have e:(if ds.length=n then fs ds Z else none)=some Z':=e
    by_cases hn:ds.length=n
    .rw[if_pos hn] at e;exact h.1 _ _ _ e
    .rw[if_neg hn] at e;cases e
 |_=>cases e
 .cases d with
 |tup ds=>
    have e:(if ds.length=n then fs ds Z else none)=some Z':=e
    by_cases hn:ds.length=n
    .rw[if_pos hn] at e;cases r with
    |tup hq rl=>exact⟨_,_,rfl,hq,by rw[rl.length];exact hn,h.2 Hz Jz O Z Y H J _ ds Z' Q s rl e w⟩
    .rw[if_neg hn] at e;cases e
 |_=>cases e
section
variable {X:Cx}{pos:Pos}
def zlW {i:Nat}{x:Str}(hN:X.N.Nodup)(hi:X.N[i]?=some x)(hx:Loc X.env.scope x)(hf:X.fn x=true\/X.env.scope.names.lookup x=some .local:=by first|exact .inl rfl|exact .inr rfl|assumption):VG X (.Name x pos) [i] (gN i):=⟨_,zfC hN hi hx hf,zfM⟩
def zcL:VGs X [] [] gNil':=⟨_,zlj,zlU⟩
def zaD {e:Expr}{es:List Expr}{is js:List Nat}{f:FG}{fs:FGs}(h1:VG X e is f)(h2:VGs X es js fs)(hs:(assignEach (e::es) X.env).map (·.2)=assign e X.env::(assignEach es X.env).map (·.2):=by rfl):VGs X (e::es) (is++js) (gCons' f fs):=by
 obtain⟨g,p,q⟩:=h1;obtain⟨gs,ps,qs⟩:=h2;exact⟨_,zjl p ps hs,zjL q qs⟩
def zdF {es:List Expr}{k:Nat}{is:List Nat}{n:Nat}{fs:FGs}(hc:X.calm=true)(h:VGs X es is fs)(hn:(assignEach es X.env).length=n:=by rfl)(hst:(assignEach es X.env).findIdx? (·.1)=none:=by rfl):VG X (.Tuple es k pos) is (gT n fs):=by
 obtain⟨gs,ps,qs⟩:=h;exact⟨_,znf hc ps hn hst,zlV qs⟩
def vgC (i:Nat){X:Cx}{scope:Scope}{cl:List (Str×Addr)}{NC:List Str}{C:Addr}{s0:Shared}{H0:Hp}{ex:List Addr}{pn:List (Addr×Obj)}{x:Str}{pos:Pos}(nd:NC.Nodup)(hi:NC[i]?=some x)(hx:scope.names.lookup x=some .local):VG (cxC X scope cl NC C s0 H0 ex pn) (.Name x pos) [i] (gN i):=⟨_,pgC i nd hi hx,zfM⟩
end
def TEof (K:W.Frag)(f:FE):TE:=λY H Q=>∃Hz Jz O Z J d,ST K Hz Jz O Z Y H J/\f Z=some d/\zeX K H J d Q
def TTof (K:W.Frag)(f:FT):TT:=λY H Q=>∃Hz Jz O Z J b,ST K Hz Jz O Z Y H J/\f Z=some b/\zkJ H J b Q
def TGof (K:W.Frag)(f:FG):TG:=λv Y H Q=>∃Hz Jz O Z J d Z',ST K Hz Jz O Z Y H J/\Rp K H J v d/\f d Z=some Z'/\∀Y',ST K Hz Jz O Z' Y' H J->Q Y' H
def VE.of {X:Cx}{e:Expr}{f:FE}(h:VE X e f):PE X e (TEof X.K f):=by
 obtain⟨t,p,g⟩:=h;rintro pins s Y H Q I ⟨Hz,Jz,O,Z,J,d,s1,e1,w⟩;exact p pins s Y H Q I (g Hz Jz O Z Y H J d Q s1 e1 w)
def VT.of {X:Cx}{e:Expr}{f:FT}(h:VT X e f):PT X e (TTof X.K f):=by
 obtain⟨t,p,g⟩:=h;rintro pins s Y H Q I ⟨Hz,Jz,O,Z,J,d,s1,e1,w⟩;exact p pins s Y H Q I (g Hz Jz O Z Y H J d Q s1 e1 w)
def VG.of {X:Cx}{e:Expr}{is:List Nat}{f:FG}(h:VG X e is f):PG X e (TGof X.K f):=by
 obtain⟨t,p,g⟩:=h;rintro pins s Y H v u Q I r ⟨Hz,Jz,O,Z,J,d,Z',s1,r1,e1,w⟩;exact p pins s Y H v u Q I r (g.2 Hz Jz O Z Y H J v d Z' Q s1 r1 e1 w)
def zaF (Z:En)(fr:List (Option Nat)):En:=fr.map λo=>match o with
|none=>.un
|some j=>match Z[j]? with
  |some (.val d)=>.val d
  |_=>.un
def zcF (f:D->Option (Option D)):List D->Option (List D)
|[]=>some []
|d::r=>(f d).bind λo=>(zcF f r).bind λxs=>some (match o with|some x=>x::xs|none=>xs)
def zbZ (Z:En)(g:FG)(t:FT)(e:FE)(d:D):Option (Option D):=(g d Z).bind λZ1=>(t Z1).bind λok=>if ok then(e Z1).bind λx=>some (some x) else some none
def zet (fr:List (Option Nat))(fi:FA)(g:FG)(t:FT)(e:FE):FA:=λZ=>(fi Z).bind λds=>(zcF (zbZ (zaF Z fr) g t e) ds).bind λout=>if out.length<=lim then some out else none
def tTrue:FT:=λ_=>some true
def VTs (X:Cx)(ifs:List Expr)(f:FT):Prop:=PTs X ifs (TTof X.K f)
def zdG {X:Cx}:VTs X [] tTrue:=by
 rintro pins s Y H Q I ⟨Hz,Jz,O,Z,J,d,s1,e1,w⟩;cases e1;exact zlD pins s Y H Q I (w H J (Up.refl s1.ja))
def zib {X:Cx}{c:Expr}{f:FT}(h:VT X c f):VTs X [c] f:=zlE h.of
def zjM (Y:L2.St)(fr:List (Option Nat)):(pick Y fr).length=fr.length:=by simp[pick]
def zic (Z:En)(fr:List (Option Nat)):(zaF Z fr).length=fr.length:=by simp[zaF]
section
variable {K:W.Frag}{H H' H1 Hz:Hp}{J J' J1 Jz:Addr->Prop}{Z:En}{Y:L2.St}
def Pr.blk (O:Pr):Pr:=⟨[],O.fpo⟩
def zb0 (Z:En)(fr:List (Option Nat)):∀i:Nat,ownD ((zaF Z fr)[i]?)=none:=by
 intro i;unfold zaF;rw[war];cases q:fr[i]? with
|none=>rfl
|some o=>
   cases o with
  |none=>rfl
  |some j=>
     simp only[wcw];cases z:Z[j]? with
    |none=>rfl
    |some y=>cases y <;> rfl
def zid {x:Option (Option V)}{s:Option SV}{O:List Addr}(h:ownD s=none):OwAt K Hz H J O x [] s:=by
 match s,h with
|none,_=>rfl
|some .un,_=>rfl
|some (.val _),_=>rfl
theorem ST.pick {O:Pr}(s:ST K Hz Jz O Z Y H J)(fr:List (Option Nat)):ST K Hz Jz O.blk (zaF Z fr) (pick Y fr) H J where
 same:=s.same
 j0:=s.j0
 jn:=s.jn
 ja:=s.ja
 al:=s.al
 ps:=λq hq=>absurd hq (by simp[Pr.blk])
 ow:=⟨λ_=>[],λi=>zid (zb0 Z fr i),λ_=>wbi,λ_ b hb=>absurd hb (by simp),λ_ _ _ b hb=>absurd hb (by simp)⟩
 len:=by rw[zjM,zic]
 vl:=λi d h=>by
  unfold zaF at h;rw[war] at h;cases q:fr[i]? with
 |none=>rw[q] at h;cases h
 |some o=>
    rw[q] at h;cases o with
   |none=>simp at h
   |some j=>
      simp only[wcw,Option.some.injEq] at h;cases z:Z[j]? with
     |none=>rw[z] at h;cases h
     |some y=>
        rw[z] at h;cases y with
       |val d'=>
          cases h;obtain⟨v,hv,r⟩:=s.vl j _ z;refine⟨v,?_,r⟩;show(fr.map _)[i]?=_
          rw[war,q];simp[hv]
       |_=>cases h
def Mt:HO->Prop
|.lst _=>True
|.dK _=>True
|_=>False
def zcf {D:Addr}{o0 o:HO}(hD:H D=some o0)(nj:¬J D)(hm:Mt o0:=by exact True.intro):Keep K H J (upd H D o) J:=⟨λ_ h=>h,λp u j h=>by rw[zai (show p≠D from λz=>nj (z▸j))];exact h,λp vs h=>by
 rcases h with(h|⟨u,h⟩)|h
 .refine .inl (.inl ?_);rw[zai];exact h;rintro rfl;rw[h] at hD;cases hD;exact hm
 .refine .inl (.inr ⟨u,?_⟩);rw[zai];exact h;rintro rfl;rw[h] at hD;cases hD;exact hm
 .exact .inr h⟩
def OwAt.nil {x:Option (Option V)}{A:List Addr}{s:Option SV}{O:List Addr}(h:OwAt K Hz H J O x A s)(n:ownD s=none):A = []:=by
 match s,h,n with
|none,h,_=>exact h
|some .un,h,_=>exact h
|some (.val _),h,_=>exact h
theorem ST.at {O:Pr}{D:Addr}{o0 o:HO}(s:ST K Hz Jz O Z Y H J)(no:∀i:Nat,ownD (Z[i]?)=none)(hD:H D=some o0)(nj:¬J D)(h0:Hz D=none)(hm:Mt o0:=by exact True.intro):ST K Hz Jz O Z Y (upd H D o) J where
 same:=λb u hb h=>by rw[zai (show b≠D from λz=>by rw[z,h0] at h;cases h)];exact s.same b u hb h
 j0:=s.j0
 jn:=s.jn
 ja:=λa h=>by
  by_cases e:a=D
  .subst e;rw[zah];simp
  .rw[zai e];exact s.ja a h
 al:=λa h=>by
  by_cases e:a=D
  .subst e;rw[zah];simp
  .rw[zai e];exact s.al a h
 len:=s.len
 vl:=λi d h=>let ⟨v,e,r⟩:=s.vl i d h;⟨v,e,r.keep (zcf hD nj hm)⟩
 ps:=s.ps
 ow:=by
  obtain⟨fp,w⟩:=s.ow;refine⟨fp,λi=>(w.at' i).keep (zcf hD nj hm) λb hb=>?_,w.nd,w.nj,w.dj⟩;rw[(w.at' i).nil (no i)] at hb;cases hb
theorem Up.at {D:Addr}{ys:List V}{o:HO}(u:Up H1 J1 H J)(h1:H1 D=none):Up H1 J1 (upd H D o) J:=⟨λb v h=>by rw[zai (show b≠D from λz=>by rw[z,h1] at h;cases h)];exact u.same b v h,u.jj,u.jn,λa h=>by
 by_cases e:a=D
 .subst e;rw[zah];simp
 .rw[zai e];exact u.ja a h⟩
end
def apart (is:List Nat)(fr:List (Option Nat)):Bool:=is.all λi=>fr[i]? == some none
def zeu {Z Z1:En}{fr:List (Option Nat)}{is:List Nat}(o:Only is (zaF Z fr) Z1)(h:apart is fr=true):Weak (zaF Z fr) Z1:=by
 refine⟨o.1.symm,λi=>?_⟩;by_cases hi:i∈is
 .right
  have q:=waJ.mp h i hi
  have q':fr[i]?=some none:=by simpa using q
  unfold zaF;rw[war,q'];rfl
 .left;exact(o.2 i hi).symm
def ST.free {K:W.Frag}{Hz H H1:Hp}{Jz J J1:Addr->Prop}{O:Pr}{Z:En}{Y:L2.St}(s:ST K Hz Jz O Z Y H J)(u:Up H J H1 J1){b:Addr}(h:H1 b=none):Hz b=none:=by
 cases e:Hz b with
|none=>rfl
|some o=>exact absurd h ((s.up u).al b (by rw[e];simp))
def SrcU (K:W.Frag)(I:It)(H:Hp)(J:Addr->Prop)(ds:List D):Prop:=∀H2 J2,Up H J H2 J2->(∀a,J2 a->H2 a≠none)->I.stop ds.length H2/\∀i d,ds[i]?=some d->I.go i H2/\∀x H3,I.yld i H2 x H3->∃J3,Up H2 J2 H3 J3/\Rp K H3 J3 x d
def GoIU (K:W.Frag)(wi:TI)(f:FA):Prop:=∀Hz Jz O Z Y H J ds R,ST K Hz Jz O Z Y H J->f Z=some ds->(∀I H' J',Up H J H' J'->SrcU K I H' J' ds->R I H')->wi Y H R
theorem GoI.u {K:W.Frag}{wi:TI}{f:FA}(h:GoI K wi f):GoIU K wi f:=λHz Jz O Z Y H J ds R s e w=>h Hz Jz O Z Y H J ds R s e λI H' J' u src=>w I H' J' u λH2 J2 u2 ja=>src H2 J2 u2.keep ja
def zjN {K:W.Frag}{fr:List (Option Nat)}{wi:TI}{fi:FA}{g:FG}{is:List Nat}{ft:FT}{fe:FE}(hi:GoIU K wi fi)(hon:∀d Z Z',g d Z=some Z'->Only is Z Z')(hap:apart is fr=true) :
 GoN K (zeV fr wi (TGof K g) (TTof K ft) (TEof K fe)) (zet fr fi g ft fe):=by
 intro Hz Jz O Z Y H J out Q s e w;obtain⟨ds,e1,e⟩:=bind_some e;obtain⟨out',e2,e⟩:=bind_some e;by_cases hl:out'.length<=lim
 .rw[if_pos hl] at e;cases e;refine hi Hz Jz O Z Y H J ds _ s e1 λI H1 J1 u1 src=>?_
  intro Da hD;have hD0:Hz Da=none:=(s.free (u:=u1) hD)
  have nJ1:¬J1 Da:=λj=>u1.ja Da j hD
  refine⟨λi m ys Y2 H2=>m=ds.length - i/\i<=ds.length/\∃J2 dn rs,ST K Hz Jz O.blk (zaF Z fr) Y2 H2 J2/\Up H1 J1 H2 J2/\¬J2 Da/\Keep K H1 J1 H2 J2/\RpL K H2 J2 ys dn/\out=dn++rs/\zcF (zbZ (zaF Z fr) g ft fe) (ds.drop i)=some rs,⟨ds.length,by simp,wbz _,?_⟩,?_⟩
  .have un:=Up.new u1.ja hD (.lst [])
   exact⟨J1,[],out,((s.up u1).up un).pick fr,un,nJ1,un.keep,.nil,rfl,by simpa using e2⟩
  .rintro i m ys Y2 H2 ⟨rfl,hil,J2,dn,rs,s2,u2,nj2,k2,r2,eo,ec⟩ hys;obtain⟨stop,turn⟩:=src H2 J2 u2 s2.ja;by_cases hlt:i<ds.length
   .right
    have hd:ds[i]?=some ds[i]:=wan hlt
    generalize hdd:ds[i]=d at hd;obtain⟨go,yl⟩:=turn i d hd;have edrop:ds.drop i=d::ds.drop (i+1):=by rw[<-hdd];exact(wbK hlt).symm
    rw[edrop] at ec;obtain⟨o,eo1,ec⟩:=bind_some (show((zbZ (zaF Z fr) g ft fe d).bind λo=>(zcF (zbZ (zaF Z fr) g ft fe) (ds.drop (i+1))).bind λxs=>some (match o with|some x=>x::xs|none=>xs))=some rs from ec);obtain⟨rs',er,ec⟩:=bind_some ec;obtain⟨Z1,eg,eo1⟩:=bind_some eo1;obtain⟨ok,et,eo1⟩:=bind_some eo1;refine⟨go,λzs Y' H'=>∃J2 dn rs,ST K Hz Jz O.blk (zaF Z fr) Y' H' J2/\Up H1 J1 H' J2/\¬J2 Da/\Keep K H1 J1 H' J2/\RpL K H' J2 zs dn/\out=dn++rs/\zcF (zbZ (zaF Z fr) g ft fe) (ds.drop (i+1))=some rs,λzs Y' H' h=>⟨ds.length - (i+1),by omega,rfl,hlt,h⟩,λx H3 y=>?_⟩;obtain⟨J3,u3,r3⟩:=yl x H3 y;have wk:Weak (zaF Z fr) Z1:=zeu (hon _ _ _ eg) hap
    refine⟨Hz,Jz,O.blk,zaF Z fr,J3,d,Z1,s2.up u3,r3,eg,λY4 s4=>?_⟩;refine⟨Hz,Jz,O.blk,Z1,J3,ok,s4,et,λH5 J5 u5=>?_⟩;have s5:=s4.up u5
    have u25:=u3.trans u5
    have nj5:¬J5 Da:=λj=>by
     rcases u25.jn Da j with j|j
     .exact nj2 j
     .rw[hys] at j;cases j
    have hy5:H5 Da=some (.lst ys):=u25.same _ _ hys
    refine⟨λhok=>?_,λhok=>?_⟩
    .subst hok;rw[if_pos rfl] at eo1;obtain⟨xd,ex,eo1⟩:=bind_some eo1;cases eo1;cases ec;refine⟨Hz,Jz,O.blk,Z1,J5,xd,s5,ex,λv H6 J6 u6 r6=>?_⟩;have u26:=u25.trans u6
     have nj6:¬J6 Da:=λj=>by
      rcases u6.jn Da j with j|j
      .exact nj5 j
      .rw[hy5] at j;cases j
     have hy6:H6 Da=some (.lst ys):=u6.same _ _ hy5
     have kA:Keep K H6 J6 (upd H6 Da (.lst (ys++[v]))) J6:=zcf hy6 nj6
     refine⟨hy6,?_,J6,dn++[xd],rs',?_,(u2.trans u26).at (ys:=ys) hD,nj6,(k2.trans u26.keep).trans kA,((r2.keep u26.keep).append (.cons r6 .nil)).keep kA,by rw[eo];simp,er⟩
     .have:(dn++xd::rs').length<=lim:=by rw[<-eo];exact hl
      rw[wap,wbp] at this;rw[r2.length];exact wao (by omega:dn.length<lim) (wbu zd9)
     .exact((s5.up u6).weak wk rfl).at (zb0 Z fr) hy6 nj6 hD0
    .subst hok;rw[if_neg (by simp)] at eo1;cases eo1;cases ec;exact⟨hy5,J5,dn,rs',s5.weak wk rfl,u2.trans u25,nj5,k2.trans u25.keep,r2.keep u25.keep,eo,er⟩
   .left
    have hi':i=ds.length:=by omega
    subst hi';rw[wcm] at ec;cases ec;refine⟨stop,?_⟩;rw[waY] at eo;subst eo;exact w Da ys H2 J2 (u1.trans u2) (u1.same.free hD) nj2 hys r2
 .rw[if_neg hl] at e;cases e
def zfN {K:W.Frag}{fr:List (Option Nat)}{wi:TI}{fi:FA}{g:FG}{is:List Nat}{ft:FT}{fe:FE}(hi:GoI K wi fi)(hon:∀d Z Z',g d Z=some Z'->Only is Z Z')(hap:apart is fr=true):GoN K (zeV fr wi (TGof K g) (TTof K ft) (TEof K fe)) (zet fr fi g ft fe):=zjN hi.u hon hap
def zjO (N:List Str)(st:Stmt){X:Cx}{elt iter tg:Expr}{ifs:List Expr}{scope:Scope}{pos:Pos}{NC:List Str}(fr:List (Option Nat)){fi:FA}{g:FG}{is:List Nat}{ft:FT}{fe:FE}{RR:Hp->Prop}(hRR:∀pins Y H s,Inv X pins Y H s->RR H)(hcalm:X.calm=true)(hi:VI X tg iter fi)
 (hcells:∀x,X.env.scope.names.lookup x=some .cell->∃c,X.env.cells.lookup x=some c) (hfk:X.env.scope.kind=.function) (hN:X.N=N) (hsc:X.env.scope.names=(zab st).names)
 (hfree':∀y∈scope.names,y.2=.free->(zab st).names.lookup y.1=some .cell) (hcell:∀y∈scope.names,y.2≠.cell) (hkind:scope.kind=.function) (hnames:∀y∈scope.names,y.2=.local->scope.names.lookup y.1=some .local)
 (hfr':zbW N (zab st).names scope.names NC fr=true) (hlen:fr.length=NC.length) (hap:apart is fr=true)
 (hg:∀cl C s0 H0 ex pn,VG (cxC X scope cl NC C s0 H0 ex pn) tg is g) (ht:∀cl C s0 H0 ex pn,VTs (cxC X scope cl NC C s0 H0 ex pn) ifs ft) (he:∀cl C s0 H0 ex pn,RR H0->VE (cxC X scope cl NC C s0 H0 ex pn) elt fe)
 (hs:∀x,foldedSetIterable iter X.env x=pure x:=by intro _;rfl):VN X (.ListComp elt [⟨tg,iter,ifs,0⟩] scope pos) (zet fr fi g ft fe):=by
 obtain⟨wi,pi,gi⟩:=hi;obtain⟨_,_,hon,_⟩:=hg [] 0 X.s₀ X.Hz [] [];exact⟨_,zh2 N st fr hRR hcalm pi hcells hfk hN hsc hfree' hcell hkind hnames hfr' hlen (λcl C s0 H0 ex pn=>(hg cl C s0 H0 ex pn).of) (λcl C s0 H0 ex pn=>show PTs (cxC X scope cl NC C s0 H0 ex pn) ifs (TTof X.K ft) from ht cl C s0 H0 ex pn) (λcl C s0 H0 ex pn r=>(he cl C s0 H0 ex pn r).of) hs,zfN gi hon hap⟩
def zlX (N:List Str)(st:Stmt){X:Cx}{elt iter tg:Expr}{ifs:List Expr}{scope:Scope}{pos:Pos}{NC:List Str}(fr:List (Option Nat)){fi:FA}{g:FG}{is:List Nat}{ft:FT}{fe:FE}(hcalm:X.calm=true)(hi:VI X tg iter fi)
 (hcells:∀x,X.env.scope.names.lookup x=some .cell->∃c,X.env.cells.lookup x=some c) (hfk:X.env.scope.kind=.function) (hN:X.N=N) (hsc:X.env.scope.names=(zab st).names)
 (hfree':∀y∈scope.names,y.2=.free->(zab st).names.lookup y.1=some .cell) (hcell:∀y∈scope.names,y.2≠.cell) (hkind:scope.kind=.function) (hnames:∀y∈scope.names,y.2=.local->scope.names.lookup y.1=some .local)
 (hfr':zbW N (zab st).names scope.names NC fr=true) (hlen:fr.length=NC.length) (hap:apart is fr=true)
 (hg:∀cl C s0 H0 ex pn,VG (cxC X scope cl NC C s0 H0 ex pn) tg is g) (ht:∀cl C s0 H0 ex pn,VTs (cxC X scope cl NC C s0 H0 ex pn) ifs ft) (he:∀cl C s0 H0 ex pn,VE (cxC X scope cl NC C s0 H0 ex pn) elt fe)
 (hs:∀x,foldedSetIterable iter X.env x=pure x:=by intro _;rfl):VN X (.ListComp elt [⟨tg,iter,ifs,0⟩] scope pos) (zet fr fi g ft fe):=
 zjO (RR:=λ_=>True) N st fr (λ_ _ _ _ _=>trivial) hcalm hi hcells hfk hN hsc hfree' hcell hkind hnames hfr' hlen hap hg ht (λcl C s0 H0 ex pn _=>he cl C s0 H0 ex pn) hs
inductive RV where
|told (d:D)|new (n:Nat) (d:D)
inductive Out where
|nx (Z:En)|ret (r:RV) (Z:En)|bk (Z:En)|ct (Z:En)
abbrev FS:=En->Option Out
def RtAt (K:W.Frag)(Hz:Hp)(O:Pr)(Z:En)(Y:L2.St)(H:Hp)(J:Addr->Prop)(v:V):RV->Prop
|.told d=>Rp K H J v d
|.new n d=>∃A fp,Ow K Hz O Z Y H J fp/\RpU K H J n v d A/\A.Nodup/\(∀b∈A,¬J b/\Hz b=none)/\∀i:Nat,∀b∈A,b∉fp i
def Fits (K:W.Frag)(Hz:Hp)(Jz:Addr->Prop)(O:Pr)(H:Hp)(J:Addr->Prop)(E:Ends):Out->Prop
|.nx Z'=>∀Y' H' J',ST K Hz Jz O Z' Y' H' J'->Keep K H J H' J'->E.nx Y' H'
|.bk Z'=>∀Y' H' J',ST K Hz Jz O Z' Y' H' J'->Keep K H J H' J'->E.bk Y' H'
|.ct Z'=>∀Y' H' J',ST K Hz Jz O Z' Y' H' J'->Keep K H J H' J'->E.ct Y' H'
|.ret r Z'=>∀v Y' H' J',ST K Hz Jz O Z' Y' H' J'->RtAt K Hz O Z' Y' H' J' v r->E.rt v H'
def Fits.keep {K:W.Frag}{Hz:Hp}{Jz:Addr->Prop}{O:Pr}{H H1:Hp}{J J1:Addr->Prop}{E:Ends}(k:Keep K H J H1 J1):∀{o:Out},Fits K Hz Jz O H J E o->Fits K Hz Jz O H1 J1 E o
|.nx _,h=>λY' H' J' s q=>h Y' H' J' s (k.trans q)
|.bk _,h=>λY' H' J' s q=>h Y' H' J' s (k.trans q)
|.ct _,h=>λY' H' J' s q=>h Y' H' J' s (k.trans q)
|.ret _ _,h=>h
def GoS (K:W.Frag)(t:TS)(g:FS):Prop:=∀Hz Jz O Z Y H J o E,ST K Hz Jz O Z Y H J->g Z=some o->Fits K Hz Jz O H J E o->t E Y H
def VS (X:Cx)(st:Stmt)(g:FS):Prop:=∃t,PS X st t/\GoS X.K t g
def VSs (X:Cx)(sts:List Stmt)(g:FS):Prop:=∃t,PSs X sts t/\GoS X.K t g
def gSeq (a b:FS):FS:=λZ=>(a Z).bind λo=>match o with
|.nx Z'=>b Z'
|.bk Z'=>some (.bk Z')
|.ct Z'=>some (.ct Z')
|.ret d Z'=>some (.ret d Z')
def gNx:FS:=λZ=>some (.nx Z)
def RpL.one {K:W.Frag}{H:Hp}{J:Addr->Prop}{vs:List V}{d:D}(r:RpL K H J vs [d]):∃v,vs = [v]/\Rp K H J v d:=by
 cases r with
|cons h t=>cases t;exact⟨_,rfl,h⟩
section
variable {X:Cx}{K:W.Frag}{st:Stmt}{sts:List Stmt}{g g2:FS}{pos:Pos}{e a:Expr}{fa:FE}{fl:FA}{ft:FT}
def zaj:VSs X [] gNx:=⟨_,zhw,λHz Jz O Z Y H J o E s e w=>by cases e;exact w Y H J s Keep.refl⟩
def znL {t u:TS}(h1:GoS K t g)(h2:GoS K u g2):GoS K (tSeq t u) (gSeq g g2):=by
 intro Hz Jz O Z Y H J o E s e w;obtain⟨o1,e1,e⟩:=bind_some e;refine h1 Hz Jz O Z Y H J o1 _ s e1 ?_;cases o1 with
|nx Z'=>exact λY' H' J' s' k=>h2 Hz Jz O Z' Y' H' J' o E s' e (w.keep k)
|bk Z'=>cases e;exact w
|ct Z'=>cases e;exact w
|ret d Z'=>cases e;exact w
def zac (h1:VS X st g)(h2:VSs X sts g2):VSs X (st::sts) (gSeq g g2):=by
 obtain⟨t,p,q⟩:=h1;obtain⟨u,p2,q2⟩:=h2;exact⟨_,zgf p p2,znL q q2⟩
def zam (h:VS X st g):VSs X [st] g:=let ⟨t,p,q⟩:=h;⟨t,zhx p,q⟩
def frzE (i:Nat)(Z:En):En:=match Z[i]? with
|some (.own _ d)=>Z.set i (.val d)
|_=>Z
def zfO (i:Nat)(h:VSs X sts g):VSs X sts (λZ=>g (frzE i Z)):=by
 obtain⟨t,p,q⟩:=h;refine⟨t,p,λHz Jz O Z Y H J o E s e w=>?_⟩;have e:g (frzE i Z)=some o:=e
 unfold frzE at e;cases z:Z[i]? with
|none=>rw[z] at e;exact q Hz Jz O Z Y H J o E s e w
|some x=>
   rw[z] at e;cases x with
  |own n d=>
     obtain⟨J',s',k⟩:=s.frz z;exact q Hz Jz O _ Y H J' o E s' e (w.keep k)
  |_=>exact q Hz Jz O Z Y H J o E s e w
def gCt:FS:=λZ=>some (.ct Z)
def zfP:VS X (.Continue pos) gCt:=⟨_,zfB,λHz Jz O Z Y H J o E s e w=>by cases e;exact w Y H J s Keep.refl⟩
def gNo:FS:=λ_=>none
def zcs:VS X st gNo:=⟨_,zjk,λHz Jz O Z Y H J o E s e w=>by cases e⟩
def gRet (f:FE):FS:=λZ=>(f Z).bind λd=>some (.ret (.told d) Z)
def zau (h:VE X e fa):VS X (.Return (some e) pos) (gRet fa):=by
 obtain⟨t,p,q⟩:=h;refine⟨_,znc p,λHz Jz O Z Y H J o E s e w=>?_⟩;obtain⟨d,e1,e⟩:=bind_some e;cases e;exact q Hz Jz O Z Y H J d _ s e1 λv H' J' u r=>w v Y H' J' (s.up u) r
def gEx (f:FE):FS:=λZ=>(f Z).bind λ_=>some (.nx Z)
def zie (h:VE X e fa)(hs:swapsWith e none pos.line X.env=pure false:=by rfl):VS X (.Expr e pos) (gEx fa):=by
 obtain⟨t,p,q⟩:=h;refine⟨_,zel p hs,λHz Jz O Z Y H J o E s e w=>?_⟩;obtain⟨d,e1,e⟩:=bind_some e;cases e;exact q Hz Jz O Z Y H J d _ s e1 λv H' J' u r=>w Y H' J' (s.up u) u.keep
def gIf (c:FT)(a b:FS):FS:=λZ=>(c Z).bind λk=>if k then a Z else b Z
def za7 {c:Expr}{bs os:List Stmt}(hc:VT X c ft)(ha:VSs X bs g)(hb:VSs X os g2):VS X (.If c bs os pos) (gIf ft g g2):=by
 obtain⟨tc,pc,qc⟩:=hc;obtain⟨t,p,q⟩:=ha;obtain⟨u,p2,q2⟩:=hb;refine⟨_,znd pc p p2,λHz Jz O Z Y H J o E s e w=>?_⟩;obtain⟨k,e1,e⟩:=bind_some e;refine qc Hz Jz O Z Y H J k _ s e1 λH1 J1 u1=>?_
 cases k with
|true=>exact iteT (q Hz Jz O Z Y H1 J1 o E (s.up u1) e (w.keep u1.keep))
|false=>exact iteF (q2 Hz Jz O Z Y H1 J1 o E (s.up u1) e (w.keep u1.keep))
def gSet (i:Nat)(f:FE):FS:=λZ=>(f Z).bind λd=>if i<Z.length/\isPar (Z[i]?)=false then some (.nx (Z.set i (.val d))) else none
def zif {i:Nat}{t:TE}(q:GoE K t fa):GoS K (tAsg t (zdl i)) (gSet i fa):=by
 intro Hz Jz O Z Y H J o E s e w;obtain⟨d,e1,e⟩:=bind_some e;by_cases hi:i<Z.length/\isPar (Z[i]?)=false
 .rw[if_pos hi] at e;cases e;exact q Hz Jz O Z Y H J d _ s e1 λv H' J' u r=>w _ H' J' ((s.up u).set r hi.1 (zbF hi.2)) u.keep
 .rw[if_neg hi] at e;cases e
def znM {i:Nat}{x:Str}{pos':Pos}(hN:X.N.Nodup)(hi:X.N[i]?=some x)(hx:Loc X.env.scope x)(h:VE X e fa)(hs:swapsWith e (some (.Name x pos')) pos.line X.env=pure false:=by rfl)(hf:X.fn x=true\/X.env.scope.names.lookup x=some .local:=by first|exact .inl rfl|exact .inr rfl|assumption) :
 VS X (.Assign [.Name x pos'] e pos) (gSet i fa):=by
 obtain⟨t,p,q⟩:=h;exact⟨_,zkz hN hi hx p hs hf,zif q⟩
def gOwn (i:Nat)(f:FA):FS:=λZ=>(f Z).bind λds=>if i<Z.length/\isPar (Z[i]?)=false then some (.nx (Z.set i (.own 1 (.lst ds)))) else none
def zkN {i:Nat}{t:TE}(q:GoN K t fl):GoS K (tAsg t (zdl i)) (gOwn i fl):=by
 intro Hz Jz O Z Y H J o E s e w;obtain⟨ds,e1,e⟩:=bind_some e;by_cases hi:i<Z.length/\isPar (Z[i]?)=false
 .rw[if_pos hi] at e;cases e;refine q Hz Jz O Z Y H J ds _ s e1 λp vs H' J' u hp nj h' r=>w _ H' J' (s.setOwn (A:=[p]) u (λb hb=>by rw[wal.mp hb];exact hp) (.lst h' (RpUL.of r)) (by simp) (λb hb=>by rw[wal.mp hb];exact nj) hi.1 (zbF hi.2)) u.keep
 .rw[if_neg hi] at e;cases e
def znN {i:Nat}{x:Str}{pos':Pos}(hN:X.N.Nodup)(hi:X.N[i]?=some x)(hx:Loc X.env.scope x)(h:VN X e fl)(hs:swapsWith e (some (.Name x pos')) pos.line X.env=pure false:=by rfl)(hf:X.fn x=true\/X.env.scope.names.lookup x=some .local:=by first|exact .inl rfl|exact .inr rfl|assumption) :
 VS X (.Assign [.Name x pos'] e pos) (gOwn i fl):=by
 obtain⟨t,p,q⟩:=h;exact⟨_,zkz hN hi hx p hs hf,zkN q⟩
def gAsg (f:FE)(g:FG):FS:=λZ=>(f Z).bind λd=>(g d Z).bind λZ'=>some (.nx Z')
def znO {tg:Expr}{is:List Nat}{fg:FG}(h:VE X e fa)(hg:VG X tg is fg)(hs:swapsWithSole [tg] e pos.line X.env=pure false:=by rfl)(hw:swappedStores [tg] e X.env=pure none:=by rfl)(h1:(assignEach [tg] X.env).map (·.2) = [assign tg X.env]:=by rfl):VS X (.Assign [tg] e pos) (gAsg fa fg):=by
 obtain⟨t,p,q⟩:=h;obtain⟨u,p2,q2⟩:=hg;refine⟨_,zky p p2 hs hw h1,λHz Jz O Z Y H J o E s e w=>?_⟩;obtain⟨d,e1,e⟩:=bind_some e;obtain⟨Z',e2,e⟩:=bind_some e;cases e;exact q Hz Jz O Z Y H J d _ s e1 λv H' J' u r=>q2.2 Hz Jz O Z Y H' J' v d Z' _ (s.up u) r e2 λY' s'=>w Y' H' J' s' u.keep
def setO (Z:En)(i:Nat)(d:D):En:=Z.set i (putD (Z[i]?) d)
def ST.top {Hz H H':Hp}{Jz J:Addr->Prop}{O:Pr}{Z:En}{Y:L2.St}{i:Nat}{ds es:List D}(s:ST K Hz Jz O Z Y H J)(h0:ownD (Z[i]?)=some (1,.lst ds)):∃a vs,Y[i]?=some (some (.ref a))/\H a=some (.lst vs)/\RpL K H J vs ds/\
 ∀(us:List V) (es:List D),RpL K H J us es->ST K Hz Jz O (setO Z i (.lst es)) Y (upd H a (.lst us)) J/\Keep K H J (upd H a (.lst us)) J:=by
 obtain⟨v,A,hv,r,nd,nj,go⟩:=s.chg h0;obtain⟨a,vs,rfl,rfl,ha,rl⟩:=r.one;refine⟨a,vs,hv,ha,rl,λus es re=>?_⟩;have nja:¬J a:=nj a (by simp)
 have kp:Keep K H J (upd H a (.lst us)) J:=zcf ha nja
 refine go (upd H a (.lst us)) J (.lst es) [a] (λb o hb h=>?_) (λb h=>?_) (λ_ h=>h) (λ_ h=>.inl h) (λb h=>?_) (.lst zah (RpUL.of (re.keep kp))) (by simp) nj (λb hb=>.inl hb)
 .rw[zai (λz=>hb (by simp[z]))];exact h
 .by_cases e:b=a
  .subst e;rw[zah];simp
  .rw[zai e];exact h
 .by_cases e:b=a
  .subst e;rw[zah];simp
  .rw[zai e];exact s.ja b h
def gApp (i:Nat)(f:FE):FS:=λZ=>(f Z).bind λd=>match ownD (Z[i]?) with
|some (1,.lst ds)=>if ds.length<lim then some (.nx (setO Z i (.lst (ds++[d])))) else none
|_=>none
def znP {i:Nat}{t:TA}(q:GoA K t fl)(f:FE)(hf:∀Z d,f Z=some d->fl Z=some [d]):GoS K (zli (tBM K "list" zfE (tVar i) t)) (gApp i f):=by
 intro Hz Jz O Z Y H J o E s e w;obtain⟨d,e1,e⟩:=bind_some e;split at e
 .rename_i ds z
  by_cases hl:ds.length<lim
  .rw[if_pos hl] at e;cases e;obtain⟨a,vs,ha,hv,_,_⟩:=s.top (H':=H) (es:=[]) z;refine⟨.ref a,ha,.inl ⟨rfl,vs,SqL.of hv⟩,q Hz Jz O Z Y H J [d] _ s (hf Z d e1) λws H1 J1 u1 r1=>?_⟩;obtain⟨v,rfl,rv⟩:=r1.one;obtain⟨a',vs',ha',hv',rl,go⟩:=(s.up u1).top (H':=H) (es:=[]) z;rw[ha] at ha';cases ha';refine⟨a,vs',v,rfl,rfl,hv',by rw[rl.length];exact wao hl (wbu zd9),?_⟩;obtain⟨s2,k2⟩:=go (vs'++[v]) (ds++[d]) (rl.append (.cons rv .nil));exact w Y _ J1 s2 (u1.keep.trans k2)
  .rw[if_neg hl] at e;cases e
 .cases e
def zig (i:Nat){x:Str}{xp apos cpos:Pos}(h:VE X e fa)(hN:X.N[i]?=some x:=by rfl)(hv:Vis X.env.scope x:=by first|exact Or.inl rfl|exact Or.inr (Or.inl rfl)|exact Or.inr (Or.inr rfl))(hd:(x == ("__debug__" : Str))=false:=by decide)
 (hcd:(x == ("__classdict__" : Str))=false:=by decide) (h1:starEach [e] X.env=(false,eval e X.env)::starEach [] X.env:=by rfl)
 (hbase:attributeBase (.Name x xp) "append" X.env (eval (.Name x xp) X.env)=eval (.Name x xp) X.env:=by rfl)
 (hfew:((backTo cpos (starEach [e] X.env)).all (λx=>!x.1)&&(backToKw cpos (keywordEach [] X.env)).all (λx=>x.1.isSome)
  && decide ([e].length+([]:List Keyword).length+(if([]:List Keyword).isEmpty then 0 else 1)<30))=true:=by rfl)
 (hline:(apos.endLine == cpos.line)=true:=by rfl) (hs:starEach [e] X.env = [(false,eval e X.env)]:=by rfl) (hsw:swapsWith (.Call (.Attribute (.Name x xp) "append" apos) [e] [] cpos) none pos.line X.env=pure false:=by rfl) :
 VS X (.Expr (.Call (.Attribute (.Name x xp) "append" apos) [e] [] cpos) pos) (gApp i fa):=by
 obtain⟨t,p,q⟩:=zaa h zae h1;refine⟨_,zel (papp (zdg hN hv hd hcd) p hbase hfew hline hs) hsw,znP q fa λZ d e=>?_⟩;show((fa Z).bind λx=>(aNil Z).bind λxs=>some (x::xs))=some [d]
 rw[e];rfl
def gExt (i:Nat)(f:FE):FS:=λZ=>(f Z).bind λd=>match d,ownD (Z[i]?) with
|.lst es,some (1,.lst ds)=>if(ds++es).length<=lim then some (.nx (setO Z i (.lst (ds++es)))) else none
|_,_=>none
def znQ {i:Nat}{t:TA}(q:GoA K t fl)(f:FE)(hf:∀Z d,f Z=some d->fl Z=some [d]):GoS K (zli (tBM K "list" zhO (tVar i) t)) (gExt i f):=by
 intro Hz Jz O Z Y H J o E s e w;obtain⟨d,e1,e⟩:=bind_some e;split at e
 .rename_i es ds z
  by_cases hl:(ds++es).length<=lim
  .rw[if_pos hl] at e;cases e;obtain⟨a,vs,ha,hv,_,_⟩:=s.top (H':=H) (es:=[]) z;refine⟨.ref a,ha,.inl ⟨rfl,vs,SqL.of hv⟩,q Hz Jz O Z Y H J [.lst es] _ s (hf Z _ e1) λws H1 J1 u1 r1=>?_⟩;obtain⟨v,rfl,rv⟩:=r1.one;obtain⟨b,us,rfl,hb,rb⟩:=RpW.lst (.inl rv);obtain⟨a',vs',ha',hv',rl,go⟩:=(s.up u1).top (H':=H) (es:=[]) z;rw[ha] at ha';cases ha';refine⟨a,b,vs',us,rfl,rfl,hv',hb,by rw[rl.length,rb.length,<-wap];exact zca hl,?_⟩;obtain⟨s2,k2⟩:=go (vs'++us) (ds++es) (rl.append rb);exact w Y _ J1 s2 (u1.keep.trans k2)
  .rw[if_neg hl] at e;cases e
 .cases e
def zkO (i:Nat){x:Str}{xp apos cpos:Pos}(h:VE X e fa)(hN:X.N[i]?=some x:=by rfl)(hv:Vis X.env.scope x:=by first|exact Or.inl rfl|exact Or.inr (Or.inl rfl)|exact Or.inr (Or.inr rfl))(hd:(x == ("__debug__" : Str))=false:=by decide)
 (hcd:(x == ("__classdict__" : Str))=false:=by decide) (h1:starEach [e] X.env=(false,eval e X.env)::starEach [] X.env:=by rfl)
 (hbase:attributeBase (.Name x xp) "extend" X.env (eval (.Name x xp) X.env)=eval (.Name x xp) X.env:=by rfl)
 (hfew:((backTo cpos (starEach [e] X.env)).all (λx=>!x.1)&&(backToKw cpos (keywordEach [] X.env)).all (λx=>x.1.isSome)
  && decide ([e].length+([]:List Keyword).length+(if([]:List Keyword).isEmpty then 0 else 1)<30))=true:=by rfl)
 (hline:(apos.endLine == cpos.line)=true:=by rfl) (hs:starEach [e] X.env = [(false,eval e X.env)]:=by rfl) (hsw:swapsWith (.Call (.Attribute (.Name x xp) "extend" apos) [e] [] cpos) none pos.line X.env=pure false:=by rfl) :
 VS X (.Expr (.Call (.Attribute (.Name x xp) "extend" apos) [e] [] cpos) pos) (gExt i fa):=by
 obtain⟨t,p,q⟩:=zaa h zae h1;refine⟨_,zel (znp PySem.F.plainAttrs_list PySem.F.slot_list_extend PySem.F.type_list_extend zhP (zdg hN hv hd hcd) p hbase hfew hline hs rfl) hsw,znQ q fa λZ d e=>?_⟩;show((fa Z).bind λx=>(aNil Z).bind λxs=>some (x::xs))=some [d]
 rw[e];rfl
end
def forL (tg:FG)(b:FS):List D->En->Option Out
|[],Z=>some (.nx Z)
|d::r,Z=>(tg d Z).bind λZ1=>(b Z1).bind λo=>match o with
  |.nx Z2=>forL tg b r Z2
  |.ct Z2=>forL tg b r Z2
  |.bk Z2=>some (.nx Z2)
  |.ret d Z2=>some (.ret d Z2)
def gFor (fi:FA)(tg:FG)(b:FS):FS:=λZ=>(fi Z).bind λds=>forL tg b ds Z
section
variable {X:Cx}{K:W.Frag}{fi:FA}{g:FS}{pos:Pos}{ft:FT}
def znR {wi:TI}{tb:TS}{tg:TG}{fg:FG}{is:List Nat}(hi:GoI K wi fi)(hg:GoG K tg is fg)(hb:GoS K tb g):GoS K (tFor wi tg tb) (gFor fi fg g):=by
 intro Hz Jz O Z Y H J o E s e w;obtain⟨ds,e1,e⟩:=bind_some e;refine hi Hz Jz O Z Y H J ds _ s e1 λI H1 J1 u1 src=>?_
 refine⟨λi m Y' H'=>m=ds.length - i/\i<=ds.length/\∃Z' J',ST K Hz Jz O Z' Y' H' J'/\Keep K H1 J1 H' J'/\forL fg g (ds.drop i) Z'=some o,⟨ds.length,by simp,wbz _,Z,J1,s.up u1,Keep.refl,by simpa using e⟩,?_⟩;rintro i m Y2 H2 ⟨rfl,hil,Z2,J2,s2,k2,e2⟩;obtain⟨stop,turn⟩:=src H2 J2 k2 s2.ja;by_cases hlt:i<ds.length
 .right
  have hd:ds[i]?=some ds[i]:=wan hlt
  generalize hdd:ds[i]=d at hd;obtain⟨go,yl⟩:=turn i d hd;have edrop:ds.drop i=d::ds.drop (i+1):=by rw[<-hdd];exact(wbK hlt).symm
  rw[edrop] at e2;unfold forL at e2;obtain⟨Z3,eg,e2⟩:=bind_some e2;obtain⟨ob,eb,e2⟩:=bind_some e2;refine⟨go,λY' H'=>∃Z' J',ST K Hz Jz O Z' Y' H' J'/\Keep K H1 J1 H' J'/\forL fg g (ds.drop (i+1)) Z'=some o,λY' H' h=>⟨ds.length - (i+1),by omega,rfl,hlt,h⟩,λx H3 y=>?_⟩;obtain⟨J3,u3,r3⟩:=yl x H3 y;refine hg.2 Hz Jz O Z2 Y2 H3 J3 x d Z3 _ (s2.up u3) r3 eg λY4 s4=>?_
  refine hb Hz Jz O Z3 Y4 H3 J3 ob _ s4 eb ?_;have k3:=k2.trans u3.keep
  cases ob with
 |nx Z5=>exact λY5 H5 J5 s5 k5=>⟨Z5,J5,s5,k3.trans k5,e2⟩
 |ct Z5=>exact λY5 H5 J5 s5 k5=>⟨Z5,J5,s5,k3.trans k5,e2⟩
 |bk Z5=>cases e2;exact λY5 H5 J5 s5 k5=>w Y5 H5 J5 s5 ((u1.keep.trans k3).trans k5)
 |ret d Z5=>cases e2;exact w
 .left
  have hi':i=ds.length:=by omega
  subst hi';rw[wcm] at e2;cases e2;exact⟨stop,w Y2 H2 J2 s2 (u1.keep.trans k2)⟩
def zcW {tg iter:Expr}{body:List Stmt}{is:List Nat}{fg:FG}(hi:VI X tg iter fi)(hg:VG X tg is fg)(hb:VSs X body g)(hp:PassesOwn (model X.prog X.w) X.A X.env X.xe:=by exact PassesOwn.never)(hc:X.calm=true:=by rfl)
 (hs:∀x,foldedSetIterable iter X.env x=pure x:=by intro _;rfl):VS X (.For tg iter body [] pos) (gFor fi fg g):=by
 obtain⟨wi,p1,q1⟩:=hi;obtain⟨t,p2,q2⟩:=hg;obtain⟨tb,p3,q3⟩:=hb;exact⟨_,zni hp hc p1 p2 p3 hs,znR q1 q2 q3⟩
def zdj (c:FT)(b:FS):Nat->En->Option Out
|0,_=>none
|n+1,Z=>(c Z).bind λk=>if k then(b Z).bind λo=>match o with
  |.nx Z2=>zdj c b n Z2
  |.ct Z2=>zdj c b n Z2
  |.bk Z2=>some (.nx Z2)
  |.ret d Z2=>some (.ret d Z2)
   else some (.nx Z)
def gWhile (c:FT)(b:FS)(fuel:En->Nat):FS:=λZ=>zdj c b (fuel Z) Z
def zjP {tc:TT}{tb:TS}{fuel:En->Nat}(hc:GoT K tc ft)(hb:GoS K tb g):GoS K (zkA tc tb) (gWhile ft g fuel):=by
 intro Hz Jz O Z Y H J o E s e w;refine⟨λm Y' H'=>∃Z' J',ST K Hz Jz O Z' Y' H' J'/\Keep K H J H' J'/\zdj ft g m Z'=some o,⟨fuel Z,Z,J,s,Keep.refl,e⟩,?_⟩;rintro m Y2 H2 ⟨Z2,J2,s2,k2,e2⟩;cases m with
|zero=>cases e2
|succ n=>
   unfold zdj at e2;obtain⟨k,ek,e2⟩:=bind_some e2;refine hc Hz Jz O Z2 Y2 H2 J2 k _ s2 ek λH3 J3 u3=>?_
   have s3:=s2.up u3
   have k3:=k2.trans u3.keep
   cases k with
  |true=>
     refine iteT ?_;rw[if_pos rfl] at e2;obtain⟨ob,eb,e2⟩:=bind_some e2;refine⟨λY' H'=>∃Z' J',ST K Hz Jz O Z' Y' H' J'/\Keep K H J H' J'/\zdj ft g n Z'=some o,λY' H' h=>⟨n,Nat.lt_succ_self n,h⟩,?_⟩;refine hb Hz Jz O Z2 Y2 H3 J3 ob _ s3 eb ?_;cases ob with
    |nx Z5=>exact λY5 H5 J5 s5 k5=>⟨Z5,J5,s5,k3.trans k5,e2⟩
    |ct Z5=>exact λY5 H5 J5 s5 k5=>⟨Z5,J5,s5,k3.trans k5,e2⟩
    |bk Z5=>cases e2;exact λY5 H5 J5 s5 k5=>w Y5 H5 J5 s5 (k3.trans k5)
    |ret d Z5=>cases e2;exact w
  |false=>
     refine iteF ?_;rw[if_neg (by simp)] at e2;cases e2;exact w Y2 H3 J3 s3 k3
def zjQ {c:Expr}{body:List Stmt}(fuel:En->Nat)(hc:VT X c ft)(hb:VSs X body g)(hp:PassesOwn (model X.prog X.w) X.A X.env X.xe:=by exact PassesOwn.never):VS X (.While c body [] pos) (gWhile ft g fuel):=by
 obtain⟨t,p2,q2⟩:=hc;obtain⟨tb,p3,q3⟩:=hb;exact⟨_,zjm hp p2 p3,zjP q2 q3⟩
end
def zjR (N:List Str)(st:Stmt){X:Cx}{i:Nat}{x:Str}{elt iter tg:Expr}{ifs:List Expr}{scope:Scope}{pos pos' cp:Pos}{NC:List Str}(fr:List (Option Nat)){fi:FA}{g:FG}{is:List Nat}{ft:FT}{fe:FE}(hND:X.N.Nodup)(hix:X.N[i]?=some x)(hx:Loc X.env.scope x){RR:Hp->Prop}(hRR:∀pins Y H s,Inv X pins Y H s->RR H)(hcalm:X.calm=true)(hi:VI X tg iter fi)
 (hcells:∀x,X.env.scope.names.lookup x=some .cell->∃c,X.env.cells.lookup x=some c) (hfk:X.env.scope.kind=.function) (hN:X.N=N) (hsc:X.env.scope.names=(zab st).names)
 (hfree':∀y∈scope.names,y.2=.free->(zab st).names.lookup y.1=some .cell) (hcell:∀y∈scope.names,y.2≠.cell) (hkind:scope.kind=.function) (hnames:∀y∈scope.names,y.2=.local->scope.names.lookup y.1=some .local)
 (hfr':zbW N (zab st).names scope.names NC fr=true) (hlen:fr.length=NC.length) (hap:apart is fr=true)
 (hg:∀cl C s0 H0 ex pn,VG (cxC X scope cl NC C s0 H0 ex pn) tg is g) (ht:∀cl C s0 H0 ex pn,VTs (cxC X scope cl NC C s0 H0 ex pn) ifs ft) (he:∀cl C s0 H0 ex pn,RR H0->VE (cxC X scope cl NC C s0 H0 ex pn) elt fe)
 (hs:∀x,foldedSetIterable iter X.env x=pure x:=by intro _;rfl) (hsw:swapsWith (.ListComp elt [⟨tg,iter,ifs,0⟩] scope cp) (some (.Name x pos')) pos.line X.env=pure true:=by rfl)
 (hf:X.fn x=true\/X.env.scope.names.lookup x=some .local:=by first|exact .inl rfl|exact .inr rfl|assumption) :
 VS X (.Assign [.Name x pos'] (.ListComp elt [⟨tg,iter,ifs,0⟩] scope cp) pos) (gSet i (eL (zet fr fi g ft fe)))/\VS X (.Assign [.Name x pos'] (.ListComp elt [⟨tg,iter,ifs,0⟩] scope cp) pos) (gOwn i (zet fr fi g ft fe)):=by
 obtain⟨wi,pi,gi⟩:=hi;obtain⟨_,_,hon,_⟩:=hg [] 0 X.s₀ X.Hz [] [];have p:=zgp N st (i:=i) (pos:=pos) (pos':=pos') (cp:=cp) fr hND hix hx hRR hcalm pi hcells hfk hN hsc hfree' hcell hkind hnames hfr' hlen (λcl C s0 H0 ex pn=>show PG (cxC X scope cl NC C s0 H0 ex pn) tg (TGof X.K g) from(hg cl C s0 H0 ex pn).of) (λcl C s0 H0 ex pn=>show PTs (cxC X scope cl NC C s0 H0 ex pn) ifs (TTof X.K ft) from ht cl C s0 H0 ex pn) (λcl C s0 H0 ex pn r=>show PE (cxC X scope cl NC C s0 H0 ex pn) elt (TEof X.K fe) from(he cl C s0 H0 ex pn r).of) hs hsw hf
 exact⟨⟨_,p,zif (zkL (zfN gi hon hap))⟩,⟨_,p,zkN (zfN gi hon hap)⟩⟩
def zlY (N:List Str)(st:Stmt){X:Cx}{i:Nat}{x:Str}{elt iter tg:Expr}{ifs:List Expr}{scope:Scope}{pos pos' cp:Pos}{NC:List Str}(fr:List (Option Nat)){fi:FA}{g:FG}{is:List Nat}{ft:FT}{fe:FE}(hND:X.N.Nodup)(hix:X.N[i]?=some x)(hx:Loc X.env.scope x)(hcalm:X.calm=true)(hi:VI X tg iter fi)
 (hcells:∀x,X.env.scope.names.lookup x=some .cell->∃c,X.env.cells.lookup x=some c) (hfk:X.env.scope.kind=.function) (hN:X.N=N) (hsc:X.env.scope.names=(zab st).names)
 (hfree':∀y∈scope.names,y.2=.free->(zab st).names.lookup y.1=some .cell) (hcell:∀y∈scope.names,y.2≠.cell) (hkind:scope.kind=.function) (hnames:∀y∈scope.names,y.2=.local->scope.names.lookup y.1=some .local)
 (hfr':zbW N (zab st).names scope.names NC fr=true) (hlen:fr.length=NC.length) (hap:apart is fr=true)
 (hg:∀cl C s0 H0 ex pn,VG (cxC X scope cl NC C s0 H0 ex pn) tg is g) (ht:∀cl C s0 H0 ex pn,VTs (cxC X scope cl NC C s0 H0 ex pn) ifs ft) (he:∀cl C s0 H0 ex pn,VE (cxC X scope cl NC C s0 H0 ex pn) elt fe)
 (hs:∀x,foldedSetIterable iter X.env x=pure x:=by intro _;rfl) (hsw:swapsWith (.ListComp elt [⟨tg,iter,ifs,0⟩] scope cp) (some (.Name x pos')) pos.line X.env=pure true:=by rfl)
 (hf:X.fn x=true\/X.env.scope.names.lookup x=some .local:=by first|exact .inl rfl|exact .inr rfl|assumption) :
 VS X (.Assign [.Name x pos'] (.ListComp elt [⟨tg,iter,ifs,0⟩] scope cp) pos) (gSet i (eL (zet fr fi g ft fe)))/\VS X (.Assign [.Name x pos'] (.ListComp elt [⟨tg,iter,ifs,0⟩] scope cp) pos) (gOwn i (zet fr fi g ft fe)):=
 zjR (RR:=λ_=>True) N st fr hND hix hx (λ_ _ _ _ _=>trivial) hcalm hi hcells hfk hN hsc hfree' hcell hkind hnames hfr' hlen hap hg ht (λcl C s0 H0 ex pn _=>he cl C s0 H0 ex pn) hs hsw hf
section
variable {P:Program}{w:World}{K:W.Frag}{mg:Str->Option Value}{base:Heap}
def ST.out {Hz H:Hp}{Jz J:Addr->Prop}{Z:En}{Y:L2.St}(s:ST K Hz Jz Pr.no Z Y H J):Up Hz Jz H J:=⟨λb o=>s.same b o (λ⟨_,h⟩ =>by simp[Pr.no] at h),s.j0,s.jn,s.ja⟩
def zev {N:List Str}{H:Hp}{J:Addr->Prop}{vs:List V}{ds:List D}(ja:∀a,J a->H a≠none)(r:RpL K H J vs ds):ST K H J Pr.no (ds.map SV.val++List.replicate (N.length - ds.length) .un) (start N vs) H J where
 same:=λ_ _ _ h=>h
 j0:=λ_ h=>h
 jn:=λ_ h=>.inl h
 ja:=ja
 al:=λ_ h=>h
 ps:=λq hq=>absurd hq (by simp[Pr.no])
 len:=by simp[L2.start,r.length]
 vl:=λi x h=>by
  rw[List.getElem?_append] at h;by_cases hi:i<(ds.map SV.val).length
  .rw[if_pos hi,war] at h;cases q:ds[i]? with
  |none=>rw[q] at h;cases h
  |some d=>
     rw[q] at h;cases h;obtain⟨v,hv,rv⟩:=r.get q;refine⟨v,?_,rv⟩;unfold L2.start;rw[waI (by simp at hi⊢;rw[r.length];exact hi),war,hv];rfl
  .rw[if_neg hi] at h;have:=waE h
   cases List.eq_of_mem_replicate this
 ow:=⟨λ_=>[],λi=>zid (by
  cases h:(List.map SV.val ds++List.replicate (N.length - ds.length) SV.un)[i]? with
 |none=>rfl
 |some x=>
    rcases waz.mp (waE h) with h|h
    .obtain⟨d',_,h⟩:=waO.mp h;subst h;rfl
    .cases List.eq_of_mem_replicate h;rfl),λ_=>wbi,λ_ b hb=>absurd hb (by simp),λ_ _ _ b hb=>absurd hb (by simp)⟩
end
theorem zkP {P:Program}{w:World}{K:W.Frag}{mg:Str->Option Value}{base:Heap}{f:Addr}{fd:FuncData}{ps:List Str}{x:Str}{b:(List D->Option D)->List D->Option D}{m:Nat->List D->Option D}(h0:∀ds,m 0 ds=none)(hs:∀n,m (n+1)=b (m n))
 (bd:Binds K fd ps []) (kp:W.keepIn K (.ref f)=true) (mx:mg x=some (.ref f)) {k:Nat}(hlen:∀n ds d,m n ds=some d->ds.length=ps.length)
 (step:∀{n:Nat}{self:List D->Option D},Cal P w K mg base (k+n) x ps (spF K self)->FnOk P w K mg base CX0 (k+n+1) f fd ps (spF K (b self))):∀n,FnOk P w K mg base CX0 (k+n) f fd ps (spF K (m n))
|0=>by
   refine⟨λvs H Q E h=>?_,λA outer s H args us vs Q E _ _ _ _ h=>?_⟩
   .obtain⟨J,ds,d,_,_,e,_⟩:=h;rw[h0] at e;cases e
   .obtain⟨J,ds,d,_,_,e,_⟩:=h;rw[h0] at e;cases e
|n+1=>by
   rw[hs];exact step ⟨f,fd,zkP h0 hs bd kp mx hlen step n,bd,kp,mx⟩
section
variable {K:W.Frag}{mg:Str->Option Value}
def zct {x:Str}{n:Int}{t:Tok}(h:mg x=some (.int n t)):GlobD K mg x (.int n):=⟨_,.int n,h,⟨t,rfl⟩,λ_ _=>.int n⟩
def zjS {x n:Str}{t:Tok}(h:mg x=some (.str n t)):GlobD K mg x (.str n):=⟨_,.str n,h,⟨t,rfl⟩,λ_ _=>.str n⟩
def zjT {x:Str}{p:Addr}{o:Obj}{its:Array Value}{n:Nat}{vs:List V}{ds:List D}(h:mg x=some (.ref p))(l:K.lookup p=some o)(hc:o.cls=.type "tuple")(hd:o.data=.seq its n)(hz:its.size<=sizeLine)(hv:Vals vs its.toList)(hr:∀H J,RpL K H J vs ds):GlobD K mg x (.tup ds):=
 ⟨_,.ref p,h,rfl,λH J=>.tup (.inr ⟨o,its,n,l,hc,hd,hz,hv⟩) (hr H J)⟩
end
def tyD:D->String
|.non=>"NoneType"
|.bl _=>"bool"
|.int _=>"int"
|.str _=>"str"
|.tup _=>"tuple"
|.lst _=>"list"
|.dct _ _=>"dict"
|.scr _=>"list"
|.exc _ _ _=>"?"
|.dcu _ _=>"?"
def isK (k T:String):Bool:=k == T||(k == "bool"&&T == "int")
structure Kit (K:W.Frag)(T:String):Prop where
 non:PySem.W.kitOne K (.type "NoneType") (.type T)=some (isK "NoneType" T)
 bl:PySem.W.kitOne K (.type "bool") (.type T)=some (isK "bool" T)
 int:PySem.W.kitOne K (.type "int") (.type T)=some (isK "int" T)
 str:PySem.W.kitOne K (.type "str") (.type T)=some (isK "str" T)
 tup:PySem.W.kitOne K (.type "tuple") (.type T)=some (isK "tuple" T)
 lst:PySem.W.kitOne K (.type "list") (.type T)=some (isK "list" T)
 dct:PySem.W.kitOne K (.type "dict") (.type T)=some (isK "dict" T)
def zkQ (K:W.Frag):List V->Hp->VK->Prop:=λxs H Q=>zny K xs H Q\/∃a vs n k,xs = [.ref a,.ty n]/\SqT K H a vs/\PySem.W.kitOne K (.type "tuple") (.type n)=some k/\Q (.bl k) H
def zg0 {X:Cx}:zcE X (.builtin "isinstance") (zkQ X.K):=by
 intro pins s Y H xs us Q I r h;rcases h with h|⟨a,vs,n,k,rfl,hs,e,q⟩
 .exact zlM pins s Y H xs us Q I r h
 .obtain⟨u,w',rfl,r1,r2⟩:=zhE r;obtain rfl:w'=Value.type n:=r2;obtain rfl:u=Value.ref a:=r1;obtain⟨its,_,p,_⟩:=I.tuple hs;obtain⟨o,h1,h2,_⟩:=p;exact waM PySem.W.kitx_tuple I.kIn ⟨o,h1,h2⟩ e (λz=>nomatch z) λtk=>⟨.bl k,H,I.tok _,rfl,q⟩
def isD (T:String):D->Option D
|.scr _=>none
|.exc _ _ _=>none
|.dcu _ _=>none
|d=>some (.bl (isK (tyD d) T))
def zpr (T:String)(f:FE):FE:=λZ=>(f Z).bind (isD T)
def zcg {T:String}{Ts:Str}{X:Cx}{a:Expr}{fa:FE}{p q pos:Pos}(KT:Kit X.K T)(B:Blt X.mg)(hv:bootBuiltins Ts=some (.type T))(ha:VW X a fa)(hBT:Ts∈zbD:=by decide +kernel)(hgT:Gl X Ts:=by rfl)(hnT:Ts≠"__name__":=by decide)(hdT:(Ts == ("__debug__" : Str))=false:=by decide)(hg:Gl X "isinstance":=by rfl)
 (h1:starEach [a,.Name Ts q] X.env=(false,eval a X.env)::starEach [.Name Ts q] X.env:=by rfl) (h2:starEach [.Name Ts q] X.env=(false,eval (.Name Ts q) X.env)::starEach [] X.env:=by rfl)
 (hpl:(backTo pos (starEach [.Name Ts q] X.env)).any (·.1)=false:=by rfl):VE X (.Call (.Name "isinstance" p) [a,.Name Ts q] [] pos) (zpr T fa):=by
 obtain⟨t,pa,g⟩:=ha;refine⟨_,pb zg0 B boot_isinstance (zbd pa (zbd (ptn (v:=.ty T) (u:=.type T) B hv rfl hBT hgT hnT hdT) zcS h2) h1) (by decide +kernel) hg (by decide) (by decide) h1 hpl,?_⟩;intro Hz Jz O Z Y H J d Q s e w;obtain⟨x,e1,e⟩:=bind_some e;refine g Hz Jz O Z Y H J x _ s e1 λv H1 J1 u1 r1=>?_
 show zkQ X.K [v,.ty T] H1 Q
 cases x with
|scr p=>cases e
|exc _ _ _=>cases e
|dcu _ _=>cases e
|non=>cases e;rw[r1.non];exact .inl ⟨_,_,_,_,rfl,.non,KT.non,w _ H1 J1 u1 (.bl _)⟩
|bl b=>cases e;rw[r1.bl];exact .inl ⟨_,_,_,_,rfl,.bl b,KT.bl,w _ H1 J1 u1 (.bl _)⟩
|int b=>cases e;rw[r1.int];exact .inl ⟨_,_,_,_,rfl,.int b,KT.int,w _ H1 J1 u1 (.bl _)⟩
|str b=>cases e;rw[r1.str];exact .inl ⟨_,_,_,_,rfl,.str b,KT.str,w _ H1 J1 u1 (.bl _)⟩
|tup ds=>cases e;obtain⟨a,vs,rfl,h1,_⟩:=r1.tup;exact .inr ⟨a,vs,T,_,rfl,h1,KT.tup,w _ H1 J1 u1 (.bl _)⟩
|lst ds=>cases e;obtain⟨a,vs,rfl,h1,_⟩:=r1.lst;exact .inl ⟨_,_,_,_,rfl,.lst h1,KT.lst,w _ H1 J1 u1 (.bl _)⟩
|dct ks ds=>cases e;obtain⟨a,kvs,vs,rfl,h1,_⟩:=r1.dct;exact .inl ⟨_,_,_,_,rfl,.dK h1,KT.dct,w _ H1 J1 u1 (.bl _)⟩
section
variable {K:W.Frag}{H H':Hp}{J J':Addr->Prop}
end
abbrev FX:=En->Option (D×En)
abbrev FR:=En->Option (RV×En)
section
variable (K:W.Frag)
def GoR (t:TE)(f:FR):Prop:=∀Hz Jz O Z Y H J r Z' Q,ST K Hz Jz O Z Y H J->f Z=some (r,Z')->(∀v H' J',ST K Hz Jz O Z' Y H' J'->Keep K H J H' J'->RtAt K Hz O Z' Y H' J' v r->Q v H')->t Y H Q
end
section
variable {X:Cx}{K:W.Frag}{a b c e:Expr}{es rest:List Expr}{fa fb fc:FX}{fe:FE}{ft fu:FTX}{fl:FAX}{fr:FR}{pos p p2:Pos}
def x2 (F:D->D->Option D)(f g:FX):FX:=λZ=>(f Z).bind λq=>(g q.2).bind λr=>(F q.1 r.1).bind λd=>some (d,r.2)
def x1 (F:D->Option D)(f:FX):FX:=λZ=>(f Z).bind λq=>(F q.1).bind λd=>some (d,q.2)
end
section
variable {X:Cx}{K:W.Frag}{H H' H1 H2 Hz:Hp}{J J' J1 J2 Jz:Addr->Prop}{Z Z':En}{Y:L2.St}{O:Pr}
end
section
variable {P:Program}{w:World}{K:W.Frag}{mg:Str->Option Value}{base:Heap}
end
section
variable {X:Cx}{K:W.Frag}{e:Expr}{es:List Expr}{fa:FX}{fl:FAG}{pos p:Pos}{i:Nat}
end
section
variable {X:Cx}{K:W.Frag}{a b c e:Expr}{es:List Expr}{fa fb:FX}{fe:FE}{ft:FTX}{fl:FAX}{fr:FR}{g g2:FS}{pos p:Pos}
def ST.take {Hz H:Hp}{Jz J:Addr->Prop}{O:Pr}{Z:En}{Y:L2.St}{i n:Nat}{v:V}{d:D}(s:ST K Hz Jz O Z Y H J)(q:RtAt K Hz O Z Y H J v (.new n d))(hi:i<Z.length)(hp:∀n d,Z[i]?≠some (.par n d)):ST K Hz Jz O (Z.set i (.own n d)) (Y.set i (some v)) H J:=by
 obtain⟨A,fp,w,r,nd,hA,dj⟩:=q;refine⟨s.same,s.j0,s.jn,s.ja,by simp[s.len],λj e h=>?_,?_,λq hq=>?_,s.al⟩
 .rcases zcK h with⟨rfl,he⟩|⟨ne,h⟩
  .cases he
  .rw[wag (Ne.symm ne)];exact s.vl j e h
 .refine⟨_,w.put (i:=i) (A:=A) Keep.refl (λ_ _ _ _ _ h=>h) (λj _=>w.nj j) (λj e=>wag (Ne.symm e)) (λj e=>wag (Ne.symm e)) ?_ nd (λb hb=>(hA b hb).1) (λj _ b hb=>dj j b hb)⟩;rw[waw hi,waw (by rw[s.len];exact hi)];exact⟨⟨v,rfl,r⟩,λb hb=>(hA b hb).2⟩
 .have e:=s.psNe hp q hq
  rw[wag (Ne.symm e),wag (Ne.symm e)];exact s.ps q hq
def gOwnR (i:Nat)(f:FR):FS:=λZ=>(f Z).bind λq=>match q.1 with
|.new n d=>if i<q.2.length/\isPar (q.2[i]?)=false then some (.nx (q.2.set i (.own n d))) else none
|.told _=>none
end
section
variable {X:Cx}{K:W.Frag}{fi fl:FAX}{fa:FX}{g:FS}{pos p:Pos}{ft:FT}{tg a b:Expr}
def keyD:D->Option Key
|.int i=>some (.inl i)
|.str x=>some (.inr x)
|_=>none
def zih {H:Hp}{J:Addr->Prop}{v:V}{d:D}{k:Key}(r:RpW K H J v d)(h:keyD d=some k):v=kV k:=by
 cases d with
|int i=>cases h;exact r.int
|str x=>cases h;exact r.str
|_=>cases h
def dLook:List Key->List D->Key->Option D
|k::ks,d::ds,j=>if k=j then some d else dLook ks ds j
|_,_,_=>none
theorem zgv {H:Hp}{J:Addr->Prop}:∀{kvs:List (Key×V)}{ks:List Key}{ds:List D}{j:Key}{d:D},kvs.map (·.1)=ks->RpL K H J (kvs.map (·.2)) ds->dLook ks ds j=some d->∃v,valV kvs j=some v/\Rp K H J v d
|[],_,_,_,_,e,r,h=>by subst e;cases r;cases h
|(k,v)::kvs,_,_,j,d,e,r,h=>by
   subst e;cases r with
  |cons h1 t=>
     unfold valV;rw[wbF];unfold dLook at h;rw[waL] at h;by_cases hk:k=j
     .simp only[hk,if_true] at h;cases h;simp only[hk,decide_true];exact⟨v,rfl,h1⟩
     .simp only[hk,if_false] at h;simp only[hk,decide_false];exact zgv rfl t h
def dGet:D->D->Option D
|.dct ks ds,k=>(keyD k).bind λj=>dLook ks ds j
|_,_=>none
def zlZ {fd fk:FE}(hu:X.A.units+1<cLine)(ha:VW X a fd)(hb:VW X b fk)(hs:NoSl b:=by exact λ_ _=>rfl):VE X (.Subscript a b pos) (e2 dGet fd fk):=by
 obtain⟨t,p,g⟩:=ha;obtain⟨t2,p2,g2⟩:=hb;refine⟨_,zlL hu p p2 hs,?_⟩;intro Hz Jz O Z Y H J d Q s e w;obtain⟨x,ex,eA⟩:=bind_some e;obtain⟨y,ey,eB⟩:=bind_some eA;refine g Hz Jz O Z Y H J x _ s ex λv1 H1 J1 u1 r1=>?_
 refine g2 Hz Jz O Z Y H1 J1 y _ (s.up u1) ey λv2 H2 J2 u2 r2=>?_
 cases x with
|dct ks ds=>
   obtain⟨j,ej,eC⟩:=bind_some (show((keyD y).bind λj=>dLook ks ds j)=some d from eB);obtain⟨q,kvs,vs,rfl,h1,h2,h3,rl⟩:=(r1.up u2).dct;subst h3;obtain⟨v,hv,rv⟩:=zgv h2 rl eC;refine⟨q,v,rfl,?_,w v H2 J2 (u1.trans u2) rv⟩;rw[zih r2 ej,<-hv];exact DGet.k h1
|_=>cases eB
end
section
variable {X:Cx}{K:W.Frag}{a b c e:Expr}{es:List Expr}{fa fb:FX}{fe fk fv:FE}{fl:FA}{pos p p2:Pos}
def ST.top2 {Hz H:Hp}{Jz J:Addr->Prop}{O:Pr}{Z:En}{Y:L2.St}{i j:Nat}{ds es:List D}(s:ST K Hz Jz O Z Y H J)(h0:ownD (Z[i]?)=some (2,.lst ds))(hj:ds[j]?=some (.lst es)):∃a vs b us,Y[i]?=some (some (.ref a))/\H a=some (.lst vs)/\vs.length=ds.length/\vs[j]?=some (.ref b)/\H b=some (.lst us)/\RpL K H J us es/\
 (∀(us':List V) (es':List D),RpL K H J us' es'->ST K Hz Jz O (setO Z i (.lst (ds.set j (.lst es')))) Y (upd H b (.lst us')) J/\Keep K H J (upd H b (.lst us')) J)/\
 (∀(H':Hp) (J':Addr->Prop) (q:Addr) (us':List V) (es':List D),Up H J H' J'->H q=none->¬J' q->H' q=some (.lst us')->RpL K H' J' us' es'->ST K Hz Jz O (setO Z i (.lst (ds.set j (.lst es')))) Y (upd H' a (.lst (vs.set j (.ref q)))) J'/\Keep K H J (upd H' a (.lst (vs.set j (.ref q)))) J'):=by
 obtain⟨v,A,hv,r,nd,nj,go⟩:=s.chg h0;cases r with
|lst ha rl=>
   rename_i a vs A
   obtain⟨w,A1,A2,A3,hw,rfl,rw',up⟩:=rl.split j hj;obtain⟨b,us,rfl,rfl,hb,ru⟩:=rw'.one;have hab:a≠b:=by
    rintro rfl;have:=(waK.mp nd).1
    exact this (by simp)
   have ndA:=(waK.mp nd).2
   have naA:=(waK.mp nd).1
   have hb13:∀x∈A1++A3,x≠b:=by
    intro x hx z;subst z;rw[wbg] at ndA;obtain⟨n1,n2,n3⟩:=ndA;rw[wci,waK] at n2;rcases waz.mp hx with h|h
    .exact n3 x h x (by simp) rfl
    .exact n2.1 h
   refine⟨a,vs,b,us,hv,ha,rl.length,hw,hb,ru,λus' es' re=>?_,λH' J' q us' es' u hq njq hq' re=>?_⟩
   .have nja:¬J b:=nj b (by simp)
    have kp:Keep K H J (upd H b (.lst us')) J:=zcf hb nja
    refine go (upd H b (.lst us')) J (.lst (ds.set j (.lst es'))) (a::(A1++([b]++A3))) (λc o hc h=>?_) (λc h=>?_) (λ_ h=>h) (λ_ h=>.inl h) (λc h=>?_) ?_ nd nj (λc hc=>.inl hc)
    .rw[zai (λz=>hc (by simp[z]))];exact h
    .by_cases z:c=b
     .subst z;rw[zah];simp
     .rw[zai z];exact h
    .by_cases z:c=b
     .subst z;rw[zah];simp
     .rw[zai z];exact s.ja c h
    .have vset:vs.set j (V.ref b)=vs:=by
      apply List.ext_getElem?;intro k;by_cases hk:k=j
      .subst hk;rw[hw,waw (wae.mp hw).1]
      .rw[wag (Ne.symm hk)]
     have:=up (upd H b (.lst us')) J (.ref b) (.lst es') [b] kp (λc hc o ho=>by rw[zai (hb13 c hc)];exact ho) (.lst zah (RpUL.of (re.keep kp)))
     rw[vset] at this;exact .lst (by rw[zai hab];exact ha) this
   .have haH':=u.same _ _ ha
    have hqa:q≠a:=by rintro rfl;rw[ha] at hq;cases hq
    have nja:¬J' a:=λz=>by
     rcases u.jn a z with z|z
     .exact nj a (by simp) z
     .rw[ha] at z;cases z
    have kp:Keep K H' J' (upd H' a (.lst (vs.set j (.ref q)))) J':=zcf haH' nja
    have qfree:∀c∈a::(A1++([b]++A3)),c≠q:=by
     intro c hc z;subst z;rcases waf.mp hc with rfl|hc
     .rw[ha] at hq;cases hq
     .obtain⟨o,e,_⟩:=rl.some c hc;rw[hq] at e;cases e
    refine(go (upd H' a (.lst (vs.set j (.ref q)))) J' (.lst (ds.set j (.lst es'))) (a::(A1++([q]++A3))) (λc o hc h=>?_) (λc h=>?_) u.jj u.jn (λc h=>?_) ?_ ?_ (λc hc=>?_) (λc hc=>?_))
    .rw[zai (λz=>hc (by simp[z]))];exact u.same _ _ h
    .by_cases z:c=a
     .subst z;rw[zah];simp
     .rw[zai z];cases e:H c with
     |none=>exact absurd e h
     |some o=>rw[u.same _ _ e];simp
    .by_cases z:c=a
     .subst z;rw[zah];simp
     .rw[zai z];exact u.ja c h
    .have:=up (upd H' a (.lst (vs.set j (.ref q)))) J' (.ref q) (.lst es') [q] (u.keep.trans kp) (λc hc o ho=>by
      rw[zai (λz=>naA (by rw[<-z];simp at hc⊢;rcases hc with hc|hc <;> simp[hc]))];exact u.same _ _ ho) (.lst (by rw[zai hqa];exact hq') (RpUL.of (re.keep kp)))
     exact .lst zah this
    .have h1:q∉a::(A1++([b]++A3)):=λz=>qfree q z rfl
     rw[wbg] at ndA;obtain⟨n1,n2,n3⟩:=ndA;rw[wci,waK] at n2;simp only[waf,waz,not_or,wal] at h1;refine waK.mpr ⟨?_,wbg.mpr ⟨n1,?_,?_⟩⟩
     .simp only[waz,wal,not_or] at naA⊢;exact⟨naA.1,λz=>h1.1 z.symm,naA.2.2⟩
     .rw[wci];exact waK.mpr ⟨h1.2.2.2,n2.2⟩
     .intro x hx y hy z;subst z;rcases waz.mp hy with hy|hy
      .rw[wal.mp hy] at hx;exact h1.2.1 hx
      .exact n3 x hx x (by simp[hy]) rfl
    .simp only[waf,waz,wbt,or_false] at hc;have old:c∈a::(A1++([b]++A3))->¬J' c:=λh z=>by
      rcases u.jn c z with z|z
      .exact nj c h z
      .rcases waf.mp h with rfl|h
       .rw[ha] at z;cases z
       .obtain⟨o,e,_⟩:=rl.some c h;rw[z] at e;cases e
     rcases hc with rfl|hc|rfl|hc
     .exact nja
     .exact old (by simp[hc])
     .exact njq
     .exact old (by simp[hc])
    .simp only[waf,waz,wbt,or_false] at hc;rcases hc with rfl|hc|rfl|hc
     .exact .inl (by simp)
     .exact .inl (by simp[hc])
     .exact .inr hq
     .exact .inl (by simp[hc])
def eIx2 (i:Nat)(fk:FE):FE:=λZ=>(fk Z).bind λk=>(dInt k).bind λk=>match ownD (Z[i]?) with
|some (2,.lst ds)=>(atI ds k).bind λd=>match d with|.lst es=>some (.lst es)|_=>none
|_=>none
def zkR (i:Nat){x:Str}{xp:Pos}(hk:VE X a fk)(hN:X.N[i]?=some x:=by rfl)(hv:Vis X.env.scope x:=by first|exact Or.inl rfl|exact Or.inr (Or.inl rfl)|exact Or.inr (Or.inr rfl))(hd:(x == ("__debug__" : Str))=false:=by decide)(hcd:(x == ("__classdict__" : Str))=false:=by decide)(hs:zdx a:=by exact λ_ _=>rfl) :
 VW X (.Subscript (.Name x xp) a pos) (eIx2 i fk):=by
 obtain⟨t,p,g⟩:=hk;refine⟨_,zjs zhN (zdg hN hv hd hcd) p hs,?_⟩;intro Hz Jz O Z Y H J d Q s e w;obtain⟨k,e1,eA⟩:=bind_some e;obtain⟨kk,e2,eB⟩:=bind_some eA;split at eB
 .rename_i ds z
  obtain⟨d1,e3,eC⟩:=bind_some eB;split at eC
  .rename_i es
   cases eC;obtain⟨v,A,hv,r⟩:=s.rd z;refine⟨v,hv,?_⟩;refine g Hz Jz O Z Y H J k _ s e1 λvk H1 J1 u1 rk=>?_
   cases k with
  |int k0=>
     cases e2;cases rk;have r1:=r.keep u1.keep λb _ o=>u1.same b o
     cases r1 with
    |lst ha rl=>
       unfold atI at e3;cases q:ixN ds.length kk with
      |none=>rw[q] at e3;cases e3
      |some j=>
         rw[q] at e3;obtain⟨u,A1,A2,A3,hu,_,ru,_⟩:=rl.split j e3;refine .inl ⟨_,_,kk,u,rfl,rfl,SqL.of ha,?_,w u H1 J1 u1 (.inr ⟨A2,ru⟩)⟩;unfold atI;rw[rl.length,q];exact hu
  |_=>cases e2
  .cases eC
 .cases eB
def zl0 (i:Nat)(fk fv:FE):FS:=λZ=>(fk Z).bind λk=>(dInt k).bind λk=>(fv Z).bind λd=>match ownD (Z[i]?) with
|some (2,.lst ds)=>(ixN ds.length k).bind λj=>match ds[j]? with
  |some (.lst es)=>if es.length<lim then some (.nx (setO Z i (.lst (ds.set j (.lst (es++[d])))))) else none
  |_=>none
|_=>none
def zl1 (i:Nat){x:Str}{xp sp apos cpos:Pos}(hk:VE X a fk)(h:VE X e fv)(hN:X.N[i]?=some x:=by rfl)(hv:Vis X.env.scope x:=by first|exact Or.inl rfl|exact Or.inr (Or.inl rfl)|exact Or.inr (Or.inr rfl))(hd:(x == ("__debug__" : Str))=false:=by decide)
 (hcd:(x == ("__classdict__" : Str))=false:=by decide) (hpi:zdx a:=by exact λ_ _=>rfl) (h1:starEach [e] X.env=(false,eval e X.env)::starEach [] X.env:=by rfl)
 (hbase:attributeBase (.Subscript (.Name x xp) a sp) "append" X.env (eval (.Subscript (.Name x xp) a sp) X.env)=eval (.Subscript (.Name x xp) a sp) X.env:=by rfl)
 (hfew:((backTo cpos (starEach [e] X.env)).all (λx=>!x.1)&&(backToKw cpos (keywordEach [] X.env)).all (λx=>x.1.isSome)
  && decide ([e].length+([]:List Keyword).length+(if([]:List Keyword).isEmpty then 0 else 1)<30))=true:=by rfl)
 (hline:(apos.endLine == cpos.line)=true:=by rfl) (hs:starEach [e] X.env = [(false,eval e X.env)]:=by rfl) (hsw:swapsWith (.Call (.Attribute (.Subscript (.Name x xp) a sp) "append" apos) [e] [] cpos) none pos.line X.env=pure false:=by rfl) :
 VS X (.Expr (.Call (.Attribute (.Subscript (.Name x xp) a sp) "append" apos) [e] [] cpos) pos) (zl0 i fk fv):=by
 obtain⟨tk,pk,qk⟩:=hk;obtain⟨t,p,q⟩:=h;refine⟨_,zel (papp (zjs zhN (zdg hN hv hd hcd) pk hpi) (zbd p zcS h1) hbase hfew hline hs) hsw,?_⟩;intro Hz Jz O Z Y H J o E s e w;obtain⟨k,e1,eA⟩:=bind_some e;obtain⟨kk,e2,eB⟩:=bind_some eA;obtain⟨d,e3,eC⟩:=bind_some eB;split at eC
 .rename_i ds z
  obtain⟨j,e4,eD⟩:=bind_some eC;split at eD
  .rename_i es ze
   by_cases hl:es.length<lim
   .rw[if_pos hl] at eD;cases eD;obtain⟨v0,A0,hv0,r0⟩:=s.rd z;refine⟨v0,hv0,?_⟩;refine qk Hz Jz O Z Y H J k _ s e1 λvk H1 J1 u1 rk=>?_
    cases k with
   |int k0=>
      cases e2;cases rk;have s1:=s.up u1
      obtain⟨a1,vs1,b1,us1,ha1,hA1,hl1,hj1,hb1,ru1,_,_⟩:=s1.top2 z ze;rw[hv0] at ha1;cases ha1;refine .inl ⟨a1,vs1,kk,.ref b1,rfl,rfl,SqL.of hA1,by unfold atI;rw[hl1,e4];exact hj1,?_⟩;refine⟨.inl ⟨rfl,us1,SqL.of hb1⟩,?_⟩;refine q Hz Jz O Z Y H1 J1 d _ s1 e3 λv H2 J2 u2 r2=>?_
      have s2:=s1.up u2
      obtain⟨a2,vs2,b2,us2,ha2,hA2,hl2,hj2,hb2,ru2,go,_⟩:=s2.top2 z ze;rw[hv0] at ha2;cases ha2;have hA12:=u2.same _ _ hA1
      rw[hA2] at hA12;cases hA12;rw[hj2] at hj1;cases hj1;refine⟨b1,us2,v,rfl,rfl,hb2,by rw[ru2.length];exact wao hl (wbu zd9),?_⟩;obtain⟨s3,k3⟩:=go (us2++[v]) (es++[d]) (ru2.append (.cons r2 .nil));exact w Y _ J2 s3 ((u1.trans u2).keep.trans k3)
   |_=>cases e2
   .rw[if_neg hl] at eD;cases eD
  .cases eD
 .cases eC
def zl2 (i:Nat)(fk:FE)(f:FA):FS:=λZ=>(f Z).bind λes=>(fk Z).bind λk=>(dInt k).bind λk=>match ownD (Z[i]?) with
|some (2,.lst ds)=>(ixN ds.length k).bind λj=>match ds[j]? with
  |some (.lst _)=>some (.nx (setO Z i (.lst (ds.set j (.lst es)))))
  |_=>none
|_=>none
def zl3 (i:Nat){x:Str}{xp sp:Pos}(h:VN X e fl)(hk:VE X a fk)(hN:X.N[i]?=some x:=by rfl)(hv:Vis X.env.scope x:=by first|exact Or.inl rfl|exact Or.inr (Or.inl rfl)|exact Or.inr (Or.inr rfl))(hd:(x == ("__debug__" : Str))=false:=by decide)(hcd:(x == ("__classdict__" : Str))=false:=by decide)
 (ha:∀v,assign (.Subscript (.Name x xp) a sp) X.env v=(do
  let ov <-holding [v] (eval (.Name x xp) X.env)
  let iv <-holding [v,ov] (eval a X.env)
  standAt sp
  holding [v,ov,iv] (setItem ov iv v)
  release [v,ov,iv] []):=by intro _;rfl)
 (hs:swapsWithSole [.Subscript (.Name x xp) a sp] e pos.line X.env=pure false:=by rfl) (hw:swappedStores [.Subscript (.Name x xp) a sp] e X.env=pure none:=by rfl) (h1:(assignEach [.Subscript (.Name x xp) a sp] X.env).map (·.2) = [assign (.Subscript (.Name x xp) a sp) X.env]:=by rfl) :
 VS X (.Assign [.Subscript (.Name x xp) a sp] e pos) (zl2 i fk fl):=by
 obtain⟨t,p,q⟩:=h;obtain⟨tk,pk,qk⟩:=hk;refine⟨_,zky p (zng (zdg hN hv hd hcd) pk zjt ha) hs hw h1,λHz Jz O Z Y H J o E s e w=>?_⟩;obtain⟨es,e1,eA⟩:=bind_some e;obtain⟨k,e2,eB⟩:=bind_some eA;obtain⟨kk,e3,eC⟩:=bind_some eB;split at eC
 .rename_i ds z
  obtain⟨j,e4,eD⟩:=bind_some eC;split at eD
  .rename_i es0 ze
   cases eD;refine q Hz Jz O Z Y H J es _ s e1 λp1 us H1 J1 u1 hp1 nj1 hq1 r1=>?_
   obtain⟨v0,A0,hv0,r0⟩:=s.rd z;refine⟨v0,hv0,?_⟩;refine qk Hz Jz O Z Y H1 J1 k _ (s.up u1) e2 λvk H2 J2 u2 rk=>?_
   cases k with
  |int k0=>
     cases e3;cases rk;obtain⟨a0,vs0,b0,us0,ha0,hA0,hl0,hj0,hb0,ru0,_,go⟩:=s.top2 z ze;rw[hv0] at ha0;cases ha0;have u:=u1.trans u2
     have hq2:=u2.same _ _ hq1
     have nj2:¬J2 p1:=λz=>by
      rcases u2.jn p1 z with z|z
      .exact nj1 z
      .rw[hq1] at z;cases z
     refine⟨a0,vs0,kk,j,rfl,rfl,u.same _ _ hA0,by rw[hl0];exact e4,?_⟩;obtain⟨s3,k3⟩:=go H2 J2 p1 us es u hp1 nj2 hq2 (r1.keep u2.keep);exact w Y _ J2 s3 k3
  |_=>cases e3
  .cases eD
 .cases eC
end
section
variable {X:Cx}{K:W.Frag}{elt iter tg:Expr}{ifs:List Expr}{scope:Scope}{pos:Pos}{NC:List Str}
def TNof (K:W.Frag)(f:FA):TE:=λY H Q=>∃Hz Jz O Z J d,ST K Hz Jz O Z Y H J/\f Z=some d/\zkI K H J d Q
def VN.of {X:Cx}{e:Expr}{f:FA}(h:VN X e f):PE X e (TNof X.K f):=by
 obtain⟨t,p,g⟩:=h;rintro pins s Y H Q I ⟨Hz,Jz,O,Z,J,d,s1,e1,w⟩;exact p pins s Y H Q I (g Hz Jz O Z Y H J d Q s1 e1 w)
def zch (Z:En)(g:FG)(e:FA)(d:D):Option (Option D):=(g d Z).bind λZ1=>(e Z1).bind λx=>some (some (.lst x))
def zkS (fr:List (Option Nat))(fi:FA)(g:FG)(e:FA):FR:=λZ=>(fi Z).bind λds=>(zcF (zch (zaF Z fr) g e) ds).bind λout=>if out.length<=lim then some (.new 2 (.lst out),Z) else none
def zjU {fr:List (Option Nat)}{wi:TI}{fi:FA}{g:FG}{is:List Nat}{fe:FA}(hi:GoI K wi fi)(hon:∀d Z Z',g d Z=some Z'->Only is Z Z')(hap:apart is fr=true) :
 GoR K (zeV fr wi (TGof K g) (TTof K tTrue) (TNof K fe)) (zkS fr fi g fe):=by
 intro Hz Jz O Z Y H J rr Z' Q s e w;obtain⟨ds,e1,eA⟩:=bind_some e;obtain⟨out,e2,eB⟩:=bind_some eA;by_cases hl:out.length<=lim
 .rw[if_pos hl] at eB;cases eB;refine hi Hz Jz O Z Y H J ds _ s e1 λI H1 J1 u1 src=>?_
  intro Da hD;have hD0:Hz Da=none:=s.free (u:=u1) hD
  have nJ1:¬J1 Da:=λj=>u1.ja Da j hD
  refine⟨λi m ys Y2 H2=>m=ds.length - i/\i<=ds.length/\∃J2 dn rs A,ST K Hz Jz O.blk (zaF Z fr) Y2 H2 J2/\Up H1 J1 H2 J2/\¬J2 Da/\RpUL K H2 J2 1 ys dn A/\A.Nodup/\(∀b∈A,¬J2 b/\H1 b=none/\b≠Da)/\out=dn++rs/\zcF (zch (zaF Z fr) g fe) (ds.drop i)=some rs,⟨ds.length,by simp,wbz _,?_⟩,?_⟩
  .have un:=Up.new u1.ja hD (.lst [])
   exact⟨J1,[],out,[],((s.up u1).up un).pick fr,un,nJ1,.nil,wbi,by simp,rfl,by simpa using e2⟩
  .rintro i m ys Y2 H2 ⟨rfl,hil,J2,dn,rs,A,s2,u2,nj2,r2,nd2,hA2,eo,ec⟩ hys;obtain⟨stop,turn⟩:=src H2 J2 u2.keep s2.ja;by_cases hlt:i<ds.length
   .right
    have hd:ds[i]?=some ds[i]:=wan hlt
    generalize hdd:ds[i]=d at hd;obtain⟨go,yl⟩:=turn i d hd;have edrop:ds.drop i=d::ds.drop (i+1):=by rw[<-hdd];exact(wbK hlt).symm
    rw[edrop] at ec;obtain⟨o,eo1,ec1⟩:=bind_some (show((zch (zaF Z fr) g fe d).bind λo=>(zcF (zch (zaF Z fr) g fe) (ds.drop (i+1))).bind λxs=>some (match o with|some x=>x::xs|none=>xs))=some rs from ec);obtain⟨rs',er,ec2⟩:=bind_some ec1;obtain⟨Z1,eg,eo2⟩:=bind_some eo1;obtain⟨x,ex,eo3⟩:=bind_some eo2;cases eo3;cases ec2;refine⟨go,λzs Y' H'=>∃J2 dn rs A,ST K Hz Jz O.blk (zaF Z fr) Y' H' J2/\Up H1 J1 H' J2/\¬J2 Da/\RpUL K H' J2 1 zs dn A/\A.Nodup/\(∀b∈A,¬J2 b/\H1 b=none/\b≠Da)/\out=dn++rs/\zcF (zch (zaF Z fr) g fe) (ds.drop (i+1))=some rs,λzs Y' H' h=>⟨ds.length - (i+1),by omega,rfl,hlt,h⟩,λxv H3 y=>?_⟩;obtain⟨J3,u3,r3⟩:=yl xv H3 y;have wk:Weak (zaF Z fr) Z1:=zeu (hon _ _ _ eg) hap
    refine⟨Hz,Jz,O.blk,zaF Z fr,J3,d,Z1,s2.up u3,r3,eg,λY4 s4=>?_⟩;refine⟨Hz,Jz,O.blk,Z1,J3,true,s4,rfl,λH5 J5 u5=>?_⟩;have s5:=s4.up u5
    refine⟨λ_=>?_,λz=>by cases z⟩;refine⟨Hz,Jz,O.blk,Z1,J5,x,s5,ex,λq vs H6 J6 u6 hq nq hq6 r6=>?_⟩;have u26:=(u3.trans u5).trans u6
    have old:∀{b:Addr}{o:HO},H2 b=some o->¬J2 b->¬J6 b:=λ{b o} hb nb jb=>by
     rcases u26.jn b jb with jb|jb
     .exact nb jb
     .rw[hb] at jb;cases jb
    have nj6:¬J6 Da:=old hys nj2
    have hy6:H6 Da=some (.lst ys):=u26.same _ _ hys
    have kA:Keep K H6 J6 (upd H6 Da (.lst (ys++[.ref q]))) J6:=zcf hy6 nj6
    have hqD:q≠Da:=λz=>by
     subst z;have:=(u3.trans u5).same _ _ hys
     rw[this] at hq;cases hq
    have hqA:q∉A:=λz=>by
     obtain⟨o,eo,_⟩:=r2.some q z;rw[(u3.trans u5).same _ _ eo] at hq;cases hq
    refine⟨hy6,?_,J6,dn++[.lst x],rs',A++[q],?_,(u2.trans u26).at (ys:=ys) hD,nj6,?_,?_,λb hb=>?_,by rw[eo];simp,er⟩
    .have:(dn++.lst x::rs').length<=lim:=by rw[<-eo];exact hl
     rw[wap,wbp] at this;rw[r2.length];exact wao (by omega:dn.length<lim) (wbu zd9)
    .exact((s5.up u6).weak wk rfl).at (zb0 Z fr) hy6 nj6 hD0
    .have ra:RpUL K H6 J6 1 ys dn A:=r2.keep u26.keep λb _ o=>u26.same b o
     have rb:RpUL K H6 J6 1 [.ref q] [.lst x] [q]:=by
      have:=RpUL.cons (n:=1) (RpU.lst hq6 (RpUL.of r6)) (RpUL.nil (K:=K) (H:=H6) (J:=J6))
      simpa using this
     refine(ra.append rb).keep kA λb hb o ho=>?_
     rw[zai];exact ho;rcases waz.mp hb with hb|hb
     .exact(hA2 b hb).2.2
     .rw[wal.mp hb];exact hqD
    .refine wbg.mpr ⟨nd2,by simp,λa ha b hb z=>?_⟩;rw[wal.mp hb] at z;exact hqA (z▸ha)
    .rcases waz.mp hb with hb|hb
     .obtain⟨o,eo,_⟩:=r2.some b hb;exact⟨old eo (hA2 b hb).1,(hA2 b hb).2⟩
     .rw[wal.mp hb];exact⟨nq,(u2.trans (u3.trans u5)).same.free hq,hqD⟩
   .left
    have hi':i=ds.length:=by omega
    subst hi';rw[wcm] at ec;cases ec;refine⟨stop,?_⟩;rw[waY] at eo;subst eo;have u:=u1.trans u2
    obtain⟨fp,ow⟩:=s.ow;refine w (.ref Da) H2 J2 (s.up u) u.keep ⟨Da::A,fp,⟨λi=>(ow.at' i).keep u.keep λb _=>u.same b,ow.nd,λi b hb jb=>?_,ow.dj⟩,.lst hys r2,?_,λb hb=>?_,λi b hb hb2=>?_⟩
    .rcases u.jn b jb with jb|jb
     .exact ow.nj i b hb jb
     .obtain⟨o,e,_⟩:=(ow.at' i).ru b hb;rw[e] at jb;cases jb
    .exact waK.mpr ⟨λz=>(hA2 Da z).2.2 rfl,nd2⟩
    .rcases waf.mp hb with rfl|hb
     .exact⟨nj2,hD0⟩
     .exact⟨(hA2 b hb).1,s.free (u:=u1) (hA2 b hb).2.1⟩
    .obtain⟨o,e,_⟩:=(ow.at' i).ru b hb2;have e1:=u1.same _ _ e
     rcases waf.mp hb with rfl|hb
     .rw[hD] at e1;cases e1
     .rw[(hA2 b hb).2.1] at e1;cases e1
 .rw[if_neg hl] at eB;cases eB
end
section
variable {X:Cx}{K:W.Frag}{H H' H1 H2 Hz:Hp}{J J' J1 J2 Jz:Addr->Prop}{Z Z' Z2:En}{Y Y2:L2.St}{O:Pr}{fp:Nat->List Addr}
end
section
variable {X:Cx}{K:W.Frag}
end
def putKD (ks:List Key)(ds:List D)(j:Key)(d:D):List Key×List D:=if ks.any (λk=>decide (k=j))=true then(ks,(ks.zip ds).map λp=>if p.1=j then d else p.2) else(ks++[j],ds++[d])
section
variable {X:Cx}{K:W.Frag}{a b c e:Expr}{es:List Expr}{fa fb:FX}{fe fk fv:FE}{fl:FA}{fr:FR}{pos p p2:Pos}
def zl4 {H:Hp}{J:Addr->Prop}{kvs:List (Key×V)}{ks:List Key}{ds:List D}{j:Key}{v:V}{d:D}(e1:kvs.map (·.1)=ks)(r:RpL K H J (kvs.map (·.2)) ds)(rv:Rp K H J v d) :
 (putK kvs j v).map (·.1)=(putKD ks ds j d).1/\RpL K H J ((putK kvs j v).map (·.2)) (putKD ks ds j d).2:=by
 have hany:(kvs.any λkv=>decide (kv.1=j))=ks.any (λk=>decide (k=j)):=by
  rw[<-e1,List.any_map];rfl
 unfold putK putKD;rw[hany];by_cases h:ks.any (λk=>decide (k=j))=true
 .rw[if_pos h,if_pos h];constructor
  .rw[<-e1,wbl];apply List.map_congr_left;intro kv _;simp only[Function.comp];split <;> rfl
  .clear h hany
   show RpL K H J ((kvs.map λkv=>if kv.1=j then(kv.1,v) else kv).map (·.2)) ((ks.zip ds).map λp=>if p.1=j then d else p.2)
   induction kvs generalizing ks ds with
  |nil=>subst e1;cases r;exact .nil
  |cons kv kvs ih=>
     subst e1;cases r with
    |cons h t=>
       simp only[waL,List.zip_cons_cons];refine .cons ?_ (ih rfl t);by_cases hk:kv.1=j
       .simp only[hk,if_true];exact rv
       .simp only[hk,if_false];exact h
 .rw[if_neg h,if_neg h];constructor
  .rw[waG,e1];rfl
  .rw[waG];exact r.append (.cons rv .nil)
def aRevR (f:FA):FA:=λZ=>(f Z).bind λl=>(a1Int l).bind λj=>if 0<=j/\j<=1000000 then some (zaS 0 j.toNat).reverse else none
def zjV {H:Hp}{J:Addr->Prop}(n:Nat):Src K (Itd ((n:Int) - 1) n) H J (zaS 0 n).reverse:=by
 intro H2 J2 k ja;have hl:(zaS 0 n).length=n:=by simp[zaS]
 rw[wbX,hl];refine⟨wai _,λi d hd=>?_⟩;have hi:i<n:=by
  have:=(wae.mp hd).1
  rwa [wbX,hl] at this
 refine⟨hi,λx H3 y=>?_⟩;obtain⟨rfl,rfl⟩:=y;rw[List.getElem?_reverse (by rw[hl];exact hi),hl] at hd;unfold zaS at hd;rw[war,wcv (by omega)] at hd;cases hd;refine⟨J2,Up.refl ja,?_⟩;have e:(n:Int) - 1 - (i:Int)=0+((n - 1 - i:Nat):Int):=by omega
 rw[e];exact .int _
def zl5 {tg:Expr}{pos2:Pos}(B:Blt X.mg)(ha:VA X [a] fl)(hg:Gl X "range":=by rfl)(hg2:Gl X "reversed":=by rfl)(hs:starEach [a] X.env = [(false,eval a X.env)]:=by rfl)
 (hs2:starEach [.Call (.Name "range" p) [a] [] pos] X.env = [(false,eval (.Call (.Name "range" p) [a] [] pos) X.env)]:=by rfl):VI X tg (.Call (.Name "reversed" p2) [.Call (.Name "range" p) [a] [] pos] [] pos2) (aRevR fl):=by
 obtain⟨t,p,g⟩:=ha;refine⟨_,zlN hg (B.get "range") hg2 (B.get "reversed") p hs hs2,?_⟩;intro Hz Jz O Z Y H J ds R s e w;obtain⟨l,e1,eA⟩:=bind_some e;obtain⟨j,e2,eB⟩:=bind_some eA;by_cases hj:0<=j/\j<=1000000
 .rw[if_pos hj] at eB;cases eB;refine g Hz Jz O Z Y H J _ _ s e1 λvs H1 J1 u1 r1=>?_
  match l,e2,r1 with
 |[.int i],e2,r1=>
    cases e2;cases r1 with
   |cons h t=>
      cases t;cases h;have ej:j - 1=((j.toNat:Nat):Int) - 1:=by omega
      refine⟨j,rfl,by omega,by omega,?_⟩;rw[ej];exact w _ H1 J1 u1 (zjV _)
 .rw[if_neg hj] at eB;cases eB
end
section
variable {X:Cx}{K:W.Frag}{a b c e:Expr}{es:List Expr}{fa fb:FX}{fe fk fv:FE}{fl:FA}{fr:FR}{pos p p2:Pos}
end
section
variable {X:Cx}{K:W.Frag}{fa:FX}{fr:FR}
def zl6 {i:Nat}{t:TE}(q:GoR K t fr):GoS K (tAsg t (zdl i)) (gOwnR i fr):=by
 intro Hz Jz O Z Y H J o E s e w;obtain⟨⟨r,Z1⟩,e1,eA⟩:=bind_some e;cases r with
|told d=>cases eA
|new n d=>
   have eA:(if i<Z1.length/\isPar (Z1[i]?)=false then some (Out.nx (Z1.set i (.own n d))) else none)=some o:=eA
   by_cases hi:i<Z1.length/\isPar (Z1[i]?)=false
   .rw[if_pos hi] at eA;cases eA;exact q Hz Jz O Z Y H J _ Z1 _ s e1 λv H' J' s' k r=>w _ H' J' (s'.take r hi.1 (zbF hi.2)) k
   .rw[if_neg hi] at eA;cases eA
def zjW (N:List Str)(st:Stmt){i:Nat}{x:Str}{elt iter tg:Expr}{scope:Scope}{pos pos' cp:Pos}{NC:List Str}(fr:List (Option Nat)){fi:FA}{g:FG}{is:List Nat}{fe:FA}(hND:X.N.Nodup)(hix:X.N[i]?=some x)(hx:Loc X.env.scope x)(hcalm:X.calm=true)(hi:VI X tg iter fi)
 (hcells:∀x,X.env.scope.names.lookup x=some .cell->∃c,X.env.cells.lookup x=some c) (hfk:X.env.scope.kind=.function) (hN:X.N=N) (hsc:X.env.scope.names=(zab st).names)
 (hfree':∀y∈scope.names,y.2=.free->(zab st).names.lookup y.1=some .cell) (hcell:∀y∈scope.names,y.2≠.cell) (hkind:scope.kind=.function) (hnames:∀y∈scope.names,y.2=.local->scope.names.lookup y.1=some .local)
 (hfr':zbW N (zab st).names scope.names NC fr=true) (hlen:fr.length=NC.length) (hap:apart is fr=true)
 (hg:∀cl C s0 H0 ex pn,VG (cxC X scope cl NC C s0 H0 ex pn) tg is g) (he:∀cl C s0 H0 ex pn,VN (cxC X scope cl NC C s0 H0 ex pn) elt fe)
 (hs:∀x,foldedSetIterable iter X.env x=pure x:=by intro _;rfl) (hsw:swapsWith (.ListComp elt [⟨tg,iter,[],0⟩] scope cp) (some (.Name x pos')) pos.line X.env=pure true:=by rfl)
 (hf:X.fn x=true\/X.env.scope.names.lookup x=some .local:=by first|exact .inl rfl|exact .inr rfl|assumption) :
 VS X (.Assign [.Name x pos'] (.ListComp elt [⟨tg,iter,[],0⟩] scope cp) pos) (gOwnR i (zkS fr fi g fe)):=by
 obtain⟨wi,pi,gi⟩:=hi;obtain⟨_,_,hon,_⟩:=hg [] 0 X.s₀ X.Hz [] [];have p:=zlO N st (i:=i) (pos:=pos) (pos':=pos') (cp:=cp) fr hND hix hx hcalm pi hcells hfk hN hsc hfree' hcell hkind hnames hfr' hlen (λcl C s0 H0 ex pn=>show PG (cxC X scope cl NC C s0 H0 ex pn) tg (TGof X.K g) from(hg cl C s0 H0 ex pn).of) (λcl C s0 H0 ex pn=>show PTs (cxC X scope cl NC C s0 H0 ex pn) [] (TTof X.K tTrue) from zdG) (λcl C s0 H0 ex pn=>show PE (cxC X scope cl NC C s0 H0 ex pn) elt (TNof X.K fe) from(he cl C s0 H0 ex pn).of) hs hsw hf
 exact⟨_,p,zl6 (zjU gi hon hap)⟩
def vrC (i:Nat){scope:Scope}{cl:List (Str×Addr)}{NC:List Str}{C:Addr}{s0:Shared}{H0:Hp}{ex:List Addr}{pn:List (Addr×Obj)}{x:Str}{pos:Pos}(hi:NC[i]?=some x)(hfk:X.env.scope.kind=.function)
 (h1:scope.names.lookup x=some .free) (h2:X.env.scope.names.lookup x=some .cell) (hd:(x == ("__debug__" : Str))=false:=by decide) (hcd:(x == ("__classdict__" : Str))=false:=by decide):VW (cxC X scope cl NC C s0 H0 ex pn) (.Name x pos) (eRd i):=
 ⟨_,pvC i hi hfk h1 h2 hd hcd,znD⟩
end
def zl7 (Z:En)(i:Nat):En:=if isPar (Z[i]?)=false then Z.set i .un else Z
def dropE (is:List Nat)(Z:En):En:=is.foldl zl7 Z
theorem ST.dropE {K:W.Frag}{Hz H:Hp}{Jz J:Addr->Prop}{O:Pr}{Y:L2.St}:∀(is:List Nat) {Z:En},ST K Hz Jz O Z Y H J->ST K Hz Jz O (dropE is Z) Y H J
|[],_,s=>s
|i::is,Z,s=>by
   refine ST.dropE is (Z:=zl7 Z i) ?_;unfold zl7;by_cases h:isPar (Z[i]?)=false
   .rw[if_pos h];exact s.drop λn d z=>by rw[z] at h;cases h
   .rw[if_neg h];exact s
def znS (is:List Nat)(g:FS):FS:=λZ=>g (dropE is Z)
section
variable {X:Cx}{sts:List Stmt}{g:FS}
def za8 (is:List Nat)(h:VSs X sts g):VSs X sts (znS is g):=by
 obtain⟨t,p,q⟩:=h;exact⟨t,p,λHz Jz O Z Y H J o E s e w=>q Hz Jz O _ Y H J o E (s.dropE is) e w⟩
end
def EvS {R A:Type}(k:Out->Option R)(φ:A->Option R)(g:FS)(Z:En)(a:Option A):Prop:=∀r,a.bind φ=some r->(g Z).bind k=some r
def Step {α:Type}(g:FS)(Z:En)(x:Option α)(Z':α->En):Prop:=∀d,x=some d->g Z=some (.nx (Z' d))
def okS (i:Nat)(Z:En):Bool:=decide (i<Z.length) && !isPar (Z[i]?)
def zed {i:Nat}{Z:En}(h:okS i Z=true):i<Z.length/\isPar (Z[i]?)=false:=by
 unfold okS at h;simpa using h
section
variable {R A α S:Type}{k:Out->Option R}{φ:A->Option R}{g g2 a b:FS}{Z:En}{x:Option α}{Z':α->En}{c:FT}{e:FE}{fl:FA}
def zag {β γ:Type}{x:Option β}{f:β->Option γ}{r:γ}(h:x.bind f=some r):∃y,x=some y/\f y=some r:=by
 cases x with
|none=>cases h
|some y=>exact⟨y,rfl,h⟩
def zak {K:α->Option A}(s:Step g Z x Z')(h:∀d,EvS k φ g2 (Z' d) (K d)):EvS k φ (gSeq g g2) Z (x.bind K):=λr e=>by
 obtain⟨y,e,e2⟩:=zag e;obtain⟨d,e0,e⟩:=zag e;unfold gSeq;rw[s d e0];exact h d r (by rw[e];exact e2)
def znT {K:α->Option A}(s:Step g Z x Z')(h:∀d r,(K d).bind φ=some r->k (.nx (Z' d))=some r):EvS k φ g Z (x.bind K):=λr e=>by
 obtain⟨y,e,e2⟩:=zag e;obtain⟨d,e0,e⟩:=zag e;rw[s d e0];exact h d r (by rw[e];exact e2)
def zaw {a:Option A}(h:∀r,a.bind φ=some r->k (.nx Z)=some r):EvS k φ gNx Z a:=λr e=>h r e
def zbN {a:Option A}(h:EvS k φ g Z a):EvS k φ (gSeq gNx g) Z a:=h
def zii (i:Nat){a:Option A}(h:EvS k φ g (frzE i Z) a):EvS k φ (λZ=>g (frzE i Z)) Z a:=h
def zbz (is:List Nat){a:Option A}(h:EvS k φ g (dropE is Z) a):EvS k φ (znS is g) Z a:=h
def zps {a' b':Option A}(h1:EvS k φ a Z a')(h2:EvS k φ b Z b'):EvS k φ (gIf c a b) Z ((c Z).bind λt=>if t then a' else b'):=λr e=>by
 obtain⟨y,e,e2⟩:=zag e;obtain⟨t,e0,e⟩:=zag e;unfold gIf;rw[e0,zOB];cases t with
|true=>exact h1 r (by rw[if_pos rfl] at e;rw[e];exact e2)
|false=>exact h2 r (by rw[if_neg (by decide)] at e;rw[e];exact e2)
def kx (k:Out->Option R):Out->Option R
|.nx _=>none
|o=>k o
def znU {r:R}(h:(a Z).bind (kx k)=some r):(gSeq a g Z).bind k=some r:=by
 unfold gSeq;cases z:a Z with
|none=>rw[z] at h;cases h
|some o=>rw[z] at h;cases o <;> first|cases h|exact h
def zaZ {a' b':Option A}(h1:EvS (kx k) φ a Z a')(h2:EvS k φ (gSeq b g) Z b'):EvS k φ (gSeq (gIf c a b) g) Z ((c Z).bind λt=>if t then a' else b'):=λr e=>by
 obtain⟨y,e,e2⟩:=zag e;obtain⟨t,e0,e⟩:=zag e;cases t with
|true=>
   have:=znU (g:=g) (h1 r (by rw[if_pos rfl] at e;rw[e];exact e2))
   unfold gSeq gIf at *;rw[e0];exact this
|false=>
   have:=h2 r (by rw[if_neg (by decide)] at e;rw[e];exact e2)
   unfold gSeq gIf at *;rw[e0];exact this
def zeZ {a':Option A}(h:a'=none):EvS k φ gNo Z a':=λr e=>by rw[h] at e;cases e
def zas {K:D->Option A}(h:∀d r,(K d).bind φ=some r->k (.ret (.told d) Z)=some r):EvS k φ (gRet e) Z ((e Z).bind K):=λr z=>by
 obtain⟨y,z,z2⟩:=zag z;obtain⟨d,e0,z⟩:=zag z;unfold gRet;rw[e0];exact h d r (by rw[z];exact z2)
def zpt {a':Option A}(h:∀r,a'.bind φ=some r->k (.ct Z)=some r):EvS k φ gCt Z a':=λr e=>h r e
def zaq {i:Nat}(h:okS i Z=true):Step (gSet i e) Z (e Z) λd=>Z.set i (.val d):=λd z=>by
 unfold gSet;rw[z,zOB,if_pos (zed h)]
def znV:Step (gEx e) Z (e Z) λ_=>Z:=λd z=>by unfold gEx;rw[z];rfl
def zij {i:Nat}(h:okS i Z=true):Step (gOwn i fl) Z (fl Z) λds=>Z.set i (.own 1 (.lst ds)):=λd z=>by
 unfold gOwn;rw[z,zOB,if_pos (zed h)]
def appL (xs:List D)(d:D):Option (List D):=if xs.length<lim then some (xs++[d]) else none
def extL (xs:List D)(d:D):Option (List D):=match d with|.lst es=>if(xs++es).length<=lim then some (xs++es) else none|_=>none
def zik {i:Nat}{xs:List D}(h:ownD (Z[i]?)=some (1,.lst xs)):Step (gApp i e) Z ((e Z).bind (appL xs)) λys=>setO Z i (.lst ys):=λd z=>by
 obtain⟨y,e0,z⟩:=zag z;unfold gApp;rw[e0,zOB,h];unfold appL at z;split at z
 .rename_i q;cases z;exact if_pos q
 .cases z
def zkT {i:Nat}{xs:List D}(h:ownD (Z[i]?)=some (1,.lst xs)):Step (gExt i e) Z ((e Z).bind (extL xs)) λys=>setO Z i (.lst ys):=λd z=>by
 obtain⟨y,e0,z⟩:=zag z;unfold gExt;rw[e0,zOB,h];unfold extL at z;cases y <;> try cases z
 rename_i es
 have z:(if(xs++es).length<=lim then some (xs++es) else none)=some d:=z
 split at z
 .rename_i q;cases z;exact if_pos q
 .cases z
def k0:Out->Option En
|.nx Z=>some Z
|_=>none
def kL:Out->Option En
|.nx Z=>some Z
|.ct Z=>some Z
|_=>none
def zd2 {emb:S->En}{a' b':Option S}(h1:EvS k0 (λs=>some (emb s)) a Z a')(h2:EvS k0 (λs=>some (emb s)) b Z b'):Step (gIf c a b) Z ((c Z).bind λt=>if t then a' else b') emb:=λs z=>by
 have:=zps (c:=c) h1 h2 (emb s) (by rw[z];rfl)
 obtain⟨o,e1,e2⟩:=zag this;rw[e1];cases o <;> cases e2
 rfl
end
def Tg {α:Type}(tg:FG)(d:D)(Z:En)(x:Option α)(Z':α->En):Prop:=∀y,x=some y->tg d Z=some (Z' y)
section
variable {d:D}{Z:En}
def tg_n {i:Nat}(h:okS i Z=true):Tg (gN i) d Z (some d) λd=>Z.set i (.val d):=λy e=>by
 cases e;unfold gN;rw[if_pos (zed h)]
def un2:D->Option (D×D)
|.tup [a,b]=>some (a,b)
|_=>none
def zjX {d:D}{y:D×D}(h:un2 d=some y):d=.tup [y.1,y.2]:=by
 unfold un2 at h;split at h
 .cases h;rfl
 .cases h
def ze0 {i:Nat}{d:D}{Z:En}(h:okS i Z=true):gN i d Z=some (Z.set i (.val d)):=by unfold gN;rw[if_pos (zed h)]
def tg_2 {i j:Nat}(h1:okS i Z=true)(h2:∀x,okS j (Z.set i (.val x))=true):Tg (gT 2 (gCons' (gN i) (gCons' (gN j) gNil'))) d Z (un2 d) λy=>(Z.set i (.val y.1)).set j (.val y.2):=λy e=>by
 rw[zjX e];show((gN i y.1 Z).bind λZ1=>(gN j y.2 Z1).bind λZ2=>gNil' [] Z2)=_
 rw[ze0 h1,zOB,ze0 (h2 _)];rfl
def znW {α:Type}{e:FE}{tg:FG}{x:D->Option α}{Z':α->En}(h:∀d,Tg tg d Z (x d) Z'):Step (gAsg e tg) Z ((e Z).bind x) Z':=λy z=>by
 obtain⟨d,e0,z⟩:=zag z;unfold gAsg;rw[e0,zOB,h d y z];rfl
end
def zaX {S:Type}(f:S->D->Option S):S->List D->Option S
|s,[]=>some s
|s,d::ds=>(f s d).bind λs=>zaX f s ds
def zkU {α S:Type}{Z:En}{fi:FA}{tg:FG}{b:FS}{x:D->Option α}{emb:S->En}{Z1:S->α->En}{step:S->α->Option S}{s0:S}(h0:emb s0=Z)(ht:∀s d,Tg tg d (emb s) (x d) (Z1 s))(hb:∀s y,EvS kL (λs=>some (emb s)) b (Z1 s y) (step s y)) :
 Step (gFor fi tg b) Z ((fi Z).bind (zaX (λs d=>(x d).bind (step s)) s0)) emb:=λs z=>by
 have key:∀(ds:List D) (s0:S),zaX (λs d=>(x d).bind (step s)) s0 ds=some s->forL tg b ds (emb s0)=some (.nx (emb s)):=by
  intro ds;induction ds with
 |nil=>intro s0 q;cases q;rfl
 |cons d ds ih=>
    intro s0 q;obtain⟨s1,e1,q1⟩:=zag q;obtain⟨y,e2,e5⟩:=zag e1;have hb1:=hb s0 y (emb s1) (by rw[e5];rfl)
    obtain⟨o,e3,e4⟩:=zag hb1;unfold forL;rw[ht s0 d y e2,zOB,e3,zOB];cases o <;> cases e4 <;> exact ih _ q1
 obtain⟨ds,e0,z1⟩:=zag z;unfold gFor;rw[e0,zOB,<-h0];exact key ds s0 z1
inductive Fl (S A:Type) where
|nx (s:S)|bk (s:S)|ret (a:A)
def ze1 {S A:Type}(f:S->D->Option (Fl S A)):S->List D->Option (Fl S A)
|s,[]=>some (.nx s)
|s,d::ds=>(f s d).bind λo=>match o with
  |.nx s=>ze1 f s ds
  |.bk s=>some (.nx s)
  |.ret a=>some (.ret a)
def kR {R:Type}(k:Out->Option R):Out->Option (Fl En R)
|.nx Z=>some (.nx Z)
|.ct Z=>some (.nx Z)
|.bk Z=>some (.bk Z)
|.ret v Z=>(k (.ret v Z)).map .ret
def fR {S A R:Type}(φ:A->Option R)(emb:S->En):Fl S A->Option (Fl En R)
|.nx s=>some (.nx (emb s))
|.bk s=>some (.bk (emb s))
|.ret a=>(φ a).map .ret
def znX {α S A R:Type}{k:Out->Option R}{φ:A->Option R}{Z:En}{fi:FA}{tg:FG}{b g:FS}{x:D->Option α}{emb:S->En}{Z1:S->α->En}{step:S->α->Option (Fl S A)}{K:S->Option A}{s0:S}(h0:emb s0=Z)(ht:∀s d,Tg tg d (emb s) (x d) (Z1 s))(hb:∀s y,EvS (kR k) (fR φ emb) b (Z1 s y) (step s y))(hk:∀s,EvS k φ g (emb s) (K s)) :
 EvS k φ (gSeq (gFor fi tg b) g) Z ((fi Z).bind λds=>(ze1 (λs d=>(x d).bind (step s)) s0 ds).bind λo=>match o with|.nx s=>K s|.bk s=>K s|.ret a=>some a):=λr z=>by
 have key:∀(ds:List D) (s0:S) (v:A) (o:Fl S A),ze1 (λs d=>(x d).bind (step s)) s0 ds=some o->(match o with|.nx s=>K s|.bk s=>K s|.ret a=>some a)=some v->φ v=some r->((forL tg b ds (emb s0)).bind λo=>match o with|.nx Z'=>g Z'|.bk Z'=>some (.bk Z')|.ct Z'=>some (.ct Z')|.ret d Z'=>some (.ret d Z')).bind k=some r:=by
  intro ds;induction ds with
 |nil=>
    intro s0 v o q1 q2 q3;cases q1;exact hk s0 r (by rw[show K s0=some v from q2];exact q3)
 |cons d ds ih=>
    intro s0 v o q1 q2 q3;obtain⟨o1,e1,q4⟩:=zag q1;obtain⟨y,e2,e5⟩:=zag e1;unfold forL;rw[ht s0 d y e2,zOB];cases o1 with
   |nx s1=>
      have hb1:=hb s0 y (.nx (emb s1)) (by rw[e5];rfl)
      obtain⟨ob,e3,e4⟩:=zag hb1;rw[e3,zOB];have ih:=ih s1 v o q4 q2 q3
      cases ob with
     |nx Z2=>cases e4;exact ih
     |ct Z2=>cases e4;exact ih
     |bk Z2=>cases e4
     |ret v Z2=>
        have e4:(k (.ret v Z2)).map Fl.ret=some (Fl.nx (emb s1)):=e4
        cases h:k (.ret v Z2) <;> rw[h] at e4 <;> cases e4
   |bk s1=>
      cases q4;have q2:K s1=some v:=q2
      have hb1:=hb s0 y (.bk (emb s1)) (by rw[e5];rfl)
      obtain⟨ob,e3,e4⟩:=zag hb1;rw[e3,zOB];cases ob with
     |nx Z2=>cases e4
     |ct Z2=>cases e4
     |bk Z2=>cases e4;exact hk s1 r (by rw[q2];exact q3)
     |ret v Z2=>
        have e4:(k (.ret v Z2)).map Fl.ret=some (Fl.bk (emb s1)):=e4
        cases h:k (.ret v Z2) <;> rw[h] at e4 <;> cases e4
   |ret a=>
      cases q4;cases q2;have hb1:=hb s0 y (.ret r) (by rw[e5];show(φ _).map Fl.ret=_;rw[q3];rfl)
      obtain⟨ob,e3,e4⟩:=zag hb1;rw[e3,zOB];cases ob with
     |nx Z2=>cases e4
     |ct Z2=>cases e4
     |bk Z2=>cases e4
     |ret v Z2=>
        have e4:(k (.ret v Z2)).map Fl.ret=some (Fl.ret r):=e4
        cases h:k (.ret v Z2) with
       |none=>rw[h] at e4;cases e4
       |some r'=>rw[h] at e4;cases e4;exact h
 obtain⟨v,z1,z2⟩:=zag z;obtain⟨ds,e0,z3⟩:=zag z1;obtain⟨o,z4,z5⟩:=zag z3;unfold gSeq gFor;rw[e0,zOB,<-h0];exact key ds s0 v o z4 z5 z2
def znY {S:Type}(c:S->Option Bool)(f:S->Option S):Nat->S->Option S
|0,_=>none
|n+1,s=>(c s).bind λt=>if t then(f s).bind λs=>znY c f n s else some s
def zee {S A:Type}(c:S->Option Bool)(f:S->Option (Fl S A)):Nat->S->Option (Fl S A)
|0,_=>none
|n+1,s=>(c s).bind λt=>if t then(f s).bind λo=>match o with
  |.nx s=>zee c f n s
  |.bk s=>some (.nx s)
  |.ret a=>some (.ret a)
   else some (.nx s)
def zjY {S A R:Type}{k:Out->Option R}{φ:A->Option R}{Z:En}{c:FT}{b g:FS}{fuel:En->Nat}{emb:S->En}{test:S->Option Bool}{step:S->Option (Fl S A)}{n:S->Nat}{K:S->Option A}{s0:S}(h0:emb s0=Z)(hn:n s0=fuel Z)(hc:∀s,c (emb s)=test s)(hb:∀s,EvS (kR k) (fR φ emb) b (emb s) (step s))(hk:∀s,EvS k φ g (emb s) (K s)) :
 EvS k φ (gSeq (gWhile c b fuel) g) Z ((zee test step (n s0) s0).bind λo=>match o with|.nx s=>K s|.bk s=>K s|.ret a=>some a):=λr z=>by
 have key:∀(m:Nat) (s0:S) (v:A) (o:Fl S A),zee test step m s0=some o->(match o with|.nx s=>K s|.bk s=>K s|.ret a=>some a)=some v->φ v=some r->((zdj c b m (emb s0)).bind λo=>match o with|.nx Z'=>g Z'|.bk Z'=>some (.bk Z')|.ct Z'=>some (.ct Z')|.ret d Z'=>some (.ret d Z')).bind k=some r:=by
  intro m;induction m with
 |zero=>intro s0 v o q;cases q
 |succ m ih=>
    intro s0 v o q1 q2 q3;obtain⟨t,e0,q4⟩:=zag q1;unfold zdj;rw[hc,e0,zOB];cases t with
   |false=>
      cases q4;exact hk s0 r (by rw[show K s0=some v from q2];exact q3)
   |true=>
      obtain⟨o1,e1,q5⟩:=zag (show(step s0).bind _=some o from q4);rw[if_pos rfl];cases o1 with
     |nx s1=>
        have hb1:=hb s0 (.nx (emb s1)) (by rw[e1];rfl)
        obtain⟨ob,e3,e4⟩:=zag hb1;rw[e3,zOB];have ih:=ih s1 v o q5 q2 q3
        cases ob with
       |nx Z2=>cases e4;exact ih
       |ct Z2=>cases e4;exact ih
       |bk Z2=>cases e4
       |ret v Z2=>
          have e4:(k (.ret v Z2)).map Fl.ret=some (Fl.nx (emb s1)):=e4
          cases h:k (.ret v Z2) <;> rw[h] at e4 <;> cases e4
     |bk s1=>
        cases q5;have q2:K s1=some v:=q2
        have hb1:=hb s0 (.bk (emb s1)) (by rw[e1];rfl)
        obtain⟨ob,e3,e4⟩:=zag hb1;rw[e3,zOB];cases ob with
       |nx Z2=>cases e4
       |ct Z2=>cases e4
       |bk Z2=>cases e4;exact hk s1 r (by rw[q2];exact q3)
       |ret v Z2=>
          have e4:(k (.ret v Z2)).map Fl.ret=some (Fl.bk (emb s1)):=e4
          cases h:k (.ret v Z2) <;> rw[h] at e4 <;> cases e4
     |ret a=>
        cases q5;cases q2;have hb1:=hb s0 (.ret r) (by rw[e1];show(φ _).map Fl.ret=_;rw[q3];rfl)
        obtain⟨ob,e3,e4⟩:=zag hb1;rw[e3,zOB];cases ob with
       |nx Z2=>cases e4
       |ct Z2=>cases e4
       |bk Z2=>cases e4
       |ret v Z2=>
          have e4:(k (.ret v Z2)).map Fl.ret=some (Fl.ret r):=e4
          cases h:k (.ret v Z2) with
         |none=>rw[h] at e4;cases e4
         |some r'=>rw[h] at e4;cases e4;exact h
 obtain⟨v,z1,z2⟩:=zag z;obtain⟨o,z4,z5⟩:=zag z1;unfold gSeq gWhile;rw[<-hn,<-h0];exact key _ s0 v o z4 z5 z2
def aC (x:Option D)(xs:Option (List D)):Option (List D):=x.bind λd=>xs.bind λds=>some (d::ds)
def aN:Option (List D):=some []
def zci (f:D->Option (Option D))(ds:List D):Option (List D):=(zcF f ds).bind λout=>if out.length<=lim then some out else none
def zpu (l:List D):Option (List D):=(a1Tup l).bind λds=>some (zdm ds)
def rngA (l:List D):Option (List D):=(a1Int l).bind λj=>if -1000000<=j/\j<=1000000 then some (zaS 0 j.toNat) else none
def znZ (l:List D):Option (List D):=(a1Int l).bind λj=>if 0<=j/\j<=1000000 then some (zaS 0 j.toNat).reverse else none
def mkLs (ds:List D):Option (List D):=if ds.length<=lim then some ds else none
def flK {S A:Type}(K:S->Option A):Fl S A->Option A
|.nx s=>K s
|.bk s=>K s
|.ret a=>some a
section
variable {α S A R:Type}{k:Out->Option R}{φ:A->Option R}{Z:En}{fi:FA}{b g:FS}{emb:S->En}{s0:S}
def zew {i:Nat}{step:S->D->Option S}(h0:emb s0=Z)(hi:∀s,okS i (emb s)=true)(hb:∀s d,EvS kL (λs=>some (emb s)) b ((emb s).set i (.val d)) (step s d)) :
 Step (gFor fi (gN i) b) Z ((fi Z).bind (zaX step s0)) emb:=
 zkU (x:=λd=>some d) (step:=step) h0 (λs d=>tg_n (hi s)) hb
def zfQ {i j:Nat}{step:S->D×D->Option S}(h0:emb s0=Z)(hi:∀s,okS i (emb s)=true)(hj:∀s x,okS j ((emb s).set i (.val x))=true)(hb:∀s y,EvS kL (λs=>some (emb s)) b (((emb s).set i (.val y.1)).set j (.val y.2)) (step s y)) :
 Step (gFor fi (gT 2 (gCons' (gN i) (gCons' (gN j) gNil'))) b) Z ((fi Z).bind (zaX (λs d=>(un2 d).bind (step s)) s0)) emb:=
 zkU (x:=un2) (step:=step) h0 (λs d=>tg_2 (hi s) (hj s)) hb
def zil {i:Nat}{step:S->D->Option (Fl S A)}{K:S->Option A}(h0:emb s0=Z)(hi:∀s,okS i (emb s)=true)(hb:∀s d,EvS (kR k) (fR φ emb) b ((emb s).set i (.val d)) (step s d))(hk:∀s,EvS k φ g (emb s) (K s)) :
 EvS k φ (gSeq (gFor fi (gN i) b) g) Z ((fi Z).bind λds=>(ze1 step s0 ds).bind (flK K)):=λr z=>
 znX (x:=λd=>some d) (step:=step) h0 (λs d=>tg_n (hi s)) hb hk r (by
  rw[<-z];congr 1)
def zim {c:FT}{n:Nat}{test:S->Option Bool}{step:S->Option (Fl S A)}{K:S->Option A}(h0:emb s0=Z)(hc:∀s,c (emb s)=test s)(hb:∀s,EvS (kR k) (fR φ emb) b (emb s) (step s))(hk:∀s,EvS k φ g (emb s) (K s)) :
 EvS k φ (gSeq (gWhile c b λ_=>n) g) Z ((zee test step n s0).bind (flK K)):=λr z=>
 zjY (n:=λ_=>n) h0 rfl hc hb hk r (by
  rw[<-z];congr 1)
end
def zl8 {i n:Nat}{Z:En}{f:FR}{x:D}(hf:f Z=some (.new n x,Z))(h:okS i Z=true):Step (gOwnR i f) Z (some ()) λ_=>Z.set i (.own n x):=λd z=>by
 unfold gOwnR;rw[hf,zOB];exact if_pos (zed h)
def kF:Out->Option D
|.ret (.told d) _=>some d
|.ret (.new _ d) _=>some d
|.nx _=>some .non
|_=>none
section
variable {P:Program}{w:World}{K:W.Frag}{mg:Str->Option Value}{base:Heap}
def zbo {x qual:Str}{st:Stmt}{f:Addr}{fd:FuncData}{N ps:List Str}{k:Nat}{c:List D->Option D}(F:Fun K x qual st f fd)(S:FnScope N ps (zab st))(hlen:∀ds d,c ds=some d->ds.length=ps.length)
 (hbody:∀(cdv:Value) (A:Around) (outer:List Env) (s:Shared) (H:Hp) (E:XK),Room k (A.deeper (envOfC qual (zab st) s.heap.objs.size f cdv))->∃g,VSs (cxOf CX0 P w K mg base N qual (zab st) f cdv A outer s H E).nox (zaW st) g/\∀ds,ds.length=ps.length->EvS kF some g (ds.map SV.val++List.replicate (N.length - ps.length) .un) (c ds)):FnOk P w K mg base CX0 (k+1) f fd ps (spF K c):=by
 refine F.ok S (λvs H Q E h=>?_) (λcdv A outer s H vs Q E hr h=>?_)
 .obtain⟨J,ds,d,ja,r,e,w⟩:=h;rw[r.length];exact hlen ds d e
 .obtain⟨J,ds,d,ja,r,e,w⟩:=h;have hl:=hlen ds d e
  obtain⟨g,⟨t,p,q⟩,ev⟩:=hbody cdv A outer s H E hr;refine⟨t,p,?_⟩;have e:=ev ds hl d (by rw[e];rfl)
  rw[<-hl] at e;have s0:=zev (N:=N) ja r
  cases z:g (ds.map SV.val++List.replicate (N.length - ds.length) .un) with
 |none=>rw[z] at e;cases e
 |some o=>
    rw[z] at e;refine q H J Pr.no _ _ H J o _ s0 z ?_;cases o with
   |nx Z'=>cases e;exact λY' H' J' s' k'=>w .non H' J' s'.out .non
   |ret r Z'=>
      cases r with
     |told d'=>cases e;exact λv Y' H' J' s' r'=>w v H' J' s'.out r'
     |new n d'=>
        cases e;rintro v Y' H' J' s' ⟨B,fp,_,ru,_,hb,_⟩;have u:=s'.out
        refine w v H' (λb=>J' b\/b∈B) ⟨u.same,λa h=>.inl (u.jj a h),λa h=>?_,λa h=>?_⟩ (ru.rp (λ_ h=>.inl h) (λb hb=>.inr hb))
        .rcases h with h|h
         .exact u.jn a h
         .exact .inr (hb a h).2
        .rcases h with h|h
         .exact u.ja a h
         .obtain⟨o,e,_⟩:=ru.some a h;rw[e];simp
   |bk _=>cases e
   |ct _=>cases e
end
def c0 (b:Option D):List D->Option D|[]=>b|_=>none
def c1 (b:D->Option D):List D->Option D|[x]=>b x|_=>none
def c2 (b:D->D->Option D):List D->Option D|[x,y]=>b x y|_=>none
def c3 (b:D->D->D->Option D):List D->Option D|[x,y,z]=>b x y z|_=>none
def c4 (b:D->D->D->D->Option D):List D->Option D|[x,y,z,u]=>b x y z u|_=>none
def c5 (b:D->D->D->D->D->Option D):List D->Option D|[x,y,z,u,v]=>b x y z u v|_=>none
def c6 (b:D->D->D->D->D->D->Option D):List D->Option D|[x,y,z,u,v,t]=>b x y z u v t|_=>none
def c1_len {b:D->Option D}:∀ds d,c1 b ds=some d->ds.length=1:=λds d h=>by unfold c1 at h;split at h;rfl;cases h
def zcX {b:D->D->Option D}:∀ds d,c2 b ds=some d->ds.length=2:=λds d h=>by unfold c2 at h;split at h;rfl;cases h
def zkV {b:D->D->D->Option D}:∀ds d,c3 b ds=some d->ds.length=3:=λds d h=>by unfold c3 at h;split at h;rfl;cases h
section
variable {R:Type}{k:Out->Option R}{φ:D->Option R}{g:FS}{n:List SV}
def zcc {b:D->Option D}(h:∀x,EvS k φ g (.val x::n) (b x)):∀ds:List D,ds.length=1->EvS k φ g (ds.map SV.val++n) (c1 b ds)
|[x],_=>h x
def zfR {b:D->D->Option D}(h:∀x y,EvS k φ g (.val x::.val y::n) (b x y)):∀ds:List D,ds.length=2->EvS k φ g (ds.map SV.val++n) (c2 b ds)
|[x,y],_=>h x y
def zn0 {b:D->D->D->Option D}(h:∀x y z,EvS k φ g (.val x::.val y::.val z::n) (b x y z)):∀ds:List D,ds.length=3->EvS k φ g (ds.map SV.val++n) (c3 b ds)
|[x,y,z],_=>h x y z
end
mutual
inductive Rh (h:Heap):Value->D->Prop
|non:Rh h .none .non
|bl (b:Bool):Rh h (.bool b) (.bl b)
|int (i:Int) (t:Tok):Rh h (.int i t) (.int i)
|str (x:Str) (t:Tok):Rh h (.str x t) (.str x)
|tup {l:Addr}{us:List Value}{ds:List D}(p:h.IsTuple l us.toArray) (r:RhL h us ds):Rh h (.ref l) (.tup ds)
|lst {l:Addr}{us:List Value}{ds:List D}(p:h.IsList l us.toArray) (r:RhL h us ds):Rh h (.ref l) (.lst ds)
inductive RhL (h:Heap):List Value->List D->Prop
|nil:RhL h [] []
|cons {u:Value}{d:D}{us:List Value}{ds:List D}(a:Rh h u d) (t:RhL h us ds):RhL h (u::us) (d::ds)
end
mutual
def ndD:D->Bool
|.dct _ _=>false
|.scr _=>false
|.exc _ _ _=>false
|.dcu _ _=>false
|.tup ds=>ndL ds
|.lst ds=>ndL ds
|_=>true
def ndL:List D->Bool
|[]=>true
|d::ds=>ndD d&&ndL ds
end
mutual
def depD:D->Nat
|.tup ds=>depL ds+1
|.lst ds=>depL ds+1
|_=>0
def depL:List D->Nat
|[]=>0
|d::ds=>max (depD d) (depL ds)
end
mutual
def eqOk:D->D->Bool
|.non,.non=>true
|.non,.int _=>true
|.non,.str _=>true
|.int _,.non=>true
|.str _,.non=>true
|.int _,.int _=>true
|.str _,.str _=>true
|.int _,.str _=>true
|.str _,.int _=>true
|.bl _,.bl _=>true
|.tup xs,.tup ys=>zdn xs ys
|.lst xs,.lst ys=>zdn xs ys
|.non,.tup _=>true
|.tup _,.non=>true
|.non,.lst _=>true
|.lst _,.non=>true
|_,_=>false
def zdn:List D->List D->Bool
|x::xs,y::ys=>eqOk x y&&zdn xs ys
|_,_=>true
end
section
variable {X:Cx}{pins:List (Addr×Obj)}{Y:L2.St}{H:Hp}{J:Addr->Prop}{s:Shared}
mutual
theorem Rp.rh (I:Inv X pins Y H s){v:V}{d:D}:Rp X.K H J v d->ndD d=true->∀{u:Value},RelV v u->Rh s.heap u d
|.non,_,_,q=>by cases q;exact .non
|.bl b,_,_,q=>by cases q;exact .bl b
|.int i,_,_,q=>by obtain⟨t,rfl⟩:=q;exact .int i t
|.str x,_,_,q=>by obtain⟨t,rfl⟩:=q;exact .str x t
|.tup h r,n,_,q=>by
   cases q;obtain⟨its,rv,pt,_⟩:=I.tuple h;exact .tup pt (RpL.rh I r n rv)
|.lst h j r,n,_,q=>by
   cases q;obtain⟨its,rv,pt,_⟩:=I.list (SqL.of h);exact .lst pt.isList (RpL.rh I r n rv)
|.dct h j ek ev r,n,_,q=>by cases n
|.scr p,n,_,q=>by cases n
|.exc _ _,n,_,q=>by cases n
|.dcu h j ek ev r,n,_,q=>by cases n
theorem RpL.rh (I:Inv X pins Y H s){vs:List V}{ds:List D}:RpL X.K H J vs ds->ndL ds=true->∀{us:List Value},Vals vs us->RhL s.heap us ds
|.nil,_,us,q=>by cases q;exact .nil
|.cons h t,n,us,q=>by
   have n:(ndD _&&ndL _)=true:=n
   rw[waC] at n;cases q with
  |cons q1 q2=>exact .cons (Rp.rh I h n.1 q1) (RpL.rh I t n.2 q2)
end
theorem RpW.rh (I:Inv X pins Y H s){v:V}{d:D}(r:RpW X.K H J v d)(n:ndD d=true){u:Value}(q:RelV v u):Rh s.heap u d:=by
 rcases r with r|⟨A,r⟩
 .exact r.rh I n q
 .have w:RpW X.K H J v d:=.inr ⟨A,r⟩
  cases r with
 |lst h r=>
    obtain⟨p,vs,e,hp,rl⟩:=w.lst;cases e;cases q;obtain⟨its,rv,pt,_⟩:=I.list (SqL.of hp);exact .lst pt.isList (RpL.rh I rl n rv)
 |dct h ek ev r=>cases n
 |dcu h ek ev r=>cases n
end
section
variable {h:Heap}
theorem RhL.length:∀{us:List Value}{ds:List D},RhL h us ds->us.length=ds.length
|_,_,.nil=>rfl
|_,_,.cons _ t=>by simp[RhL.length t]
theorem RhL.get:∀{us:List Value}{ds:List D},RhL h us ds->∀(i:Nat) (hi:i<us.length) (hj:i<ds.length),Rh h us[i] ds[i]
|_,_,.cons a _,0,_,_=>a
|_,_,.cons _ t,i+1,hi,hj=>RhL.get t i (by simpa using hi) (by simpa using hj)
def zdH {l:Addr}{us ws:List Value}(p:h.IsTuple l us.toArray)(q:h.IsTuple l ws.toArray):us=ws:=by
 obtain⟨o,e,_,_,d⟩:=p;obtain⟨o',e',_,_,d'⟩:=q;rw[e] at e';cases e';rw[d] at d';injection d' with d1 _
 simpa using wbb Array.toList d1
def zef {l:Addr}{us ws:List Value}(p:h.IsList l us.toArray)(q:h.IsList l ws.toArray):us=ws:=by
 obtain⟨o,e,_,_,d⟩:=p;obtain⟨o',e',_,_,d'⟩:=q;rw[e] at e';cases e';rw[d] at d';injection d' with d1 _
 simpa using wbb Array.toList d1
def zcH {l:Addr}{us ws:Array Value}(p:h.IsTuple l us)(q:h.IsList l ws):False:=by
 obtain⟨o,e,c,_⟩:=p;obtain⟨o',e',c',_⟩:=q;rw[e] at e';cases e';rw[c] at c';simp at c'
mutual
theorem Rh.inj:∀{d e:D}{u:Value},Rh h u d->Rh h u e->d=e
|_,_,_,.non,q=>by cases q;rfl
|_,_,_,.bl b,q=>by cases q;rfl
|_,_,_,.int i t,q=>by cases q;rfl
|_,_,_,.str x t,q=>by cases q;rfl
|_,_,_,.tup p r,q=>by
   cases q with
  |tup p' r'=>cases zdH p p';rw[RhL.inj r r']
  |lst p' r'=>exact(zcH p p').elim
|_,_,_,.lst p r,q=>by
   cases q with
  |lst p' r'=>cases zef p p';rw[RhL.inj r r']
  |tup p' r'=>exact(zcH p' p).elim
theorem RhL.inj:∀{ds es:List D}{us:List Value},RhL h us ds->RhL h us es->ds=es
|_,_,_,.nil,q=>by cases q;rfl
|_,_,_,.cons a t,q=>by
   cases q with
  |cons a' t'=>rw[Rh.inj a a',RhL.inj t t']
end
end
theorem zdI:∀{xs ys:List D},zdn xs ys=true->∀(i:Nat) (hi:i<xs.length) (hj:i<ys.length),eqOk xs[i] ys[i]=true
|x::xs,y::ys,h,i,hi,hj=>by
   have h:(eqOk x y&&zdn xs ys)=true:=h
   rw[waC] at h;cases i with
  |zero=>exact h.1
  |succ i=>exact zdI h.2 i (by simpa using hi) (by simpa using hj)
theorem zex:∀{xs:List D}(i:Nat) (hi:i<xs.length),depD xs[i]<=depL xs
|x::xs,i,hi=>by
   cases i with
  |zero=>exact Nat.le_max_left _ _
  |succ i=>exact waq (zex i (by simpa using hi)) (Nat.le_max_right _ _)
def zbG (xs ys:List D):((List.range (min xs.length ys.length)).all (λj=>decide (xs[j]?=ys[j]?))&&xs.length == ys.length)=decide (xs=ys):=by
 rw[wbC];simp only[waC,waJ,wcA,decide_eq_true_eq,beq_iff_eq];constructor
 .rintro⟨a,b⟩;refine List.ext_getElem? λj=>?_
  by_cases hj:j<min xs.length ys.length
  .exact a j hj
  .rw[wba (by omega),wba (by omega)]
 .rintro rfl;exact⟨λ_ _=>rfl,rfl⟩
def zbT {p:Prop}[Decidable p](h:¬p):false=decide p:=(wat h).symm
def zin {xs ys:List D}(j:Nat)(h1:j<xs.length)(h2:j<ys.length):decide (xs[j]=ys[j])=decide (xs[j]?=ys[j]?):=by
 rw[wan h1,wan h2];exact zat ⟨λz=>by rw[z],λz=>wau z⟩
def zem (i j:Int):decide (D.int i=D.int j)=(i == j):=by rw[wcj];exact zat ⟨λz=>by cases z;rfl,λz=>by rw[z]⟩
def zen (i j:Str):decide (D.str i=D.str j)=(i == j):=by rw[wcj];exact zat ⟨λz=>by cases z;rfl,λz=>by rw[z]⟩
def zgh (i j:Bool):decide (D.bl i=D.bl j)=(i == j):=by rw[wcj];exact zat ⟨λz=>by cases z;rfl,λz=>by rw[z]⟩
section
variable {A:Around}{s:Shared}
def zgw {v:Value}{e:D}(hu:A.units<cLine)(rv:Rh s.heap v e)(ho:eqOk .non e=true):SeqAt.EqAt A s .none v (decide (D.non=e)):=by
 cases rv with
|non=>exact SeqAt.EqAt.same _
|bl b=>cases ho
|int i t=>rw[<-zbT (λz=>by cases z)];exact SeqAt.EqAt.none_int _ _
|str x t=>rw[<-zbT (λz=>by cases z)];exact SeqAt.EqAt.none_str _ _
|tup p r=>rw[<-zbT (λz=>by cases z)];exact SeqAt.EqAt.none_tuple p hu
|lst p r=>rw[<-zbT (λz=>by cases z)];exact SeqAt.EqAt.none_list p hu
def zio {v:Value}{e:D}{b:Bool}(rv:Rh s.heap v e)(ho:eqOk (.bl b) e=true):SeqAt.EqAt A s (.bool b) v (decide (D.bl b=e)):=by
 cases rv with
|bl c=>rw[zgh];exact SeqAt.EqAt.bool_bool _ _
|non=>cases ho
|int i t=>cases ho
|str x t=>cases ho
|tup p r=>cases ho
|lst p r=>cases ho
def zeo {v:Value}{e:D}{b:Int}{u:Tok}(rv:Rh s.heap v e)(ho:eqOk (.int b) e=true):SeqAt.EqAt A s (.int b u) v (decide (D.int b=e)):=by
 cases rv with
|int i t=>rw[zem];exact SeqAt.EqAt.int_int _ _ _ _
|non=>rw[<-zbT (λz=>by cases z)];exact SeqAt.EqAt.int_none _ _
|bl c=>cases ho
|str x t=>rw[<-zbT (λz=>by cases z)];exact SeqAt.EqAt.int_str _ _ _ _
|tup p r=>cases ho
|lst p r=>cases ho
def zgx {v:Value}{e:D}{b:Str}{u:Tok}(rv:Rh s.heap v e)(ho:eqOk (.str b) e=true):SeqAt.EqAt A s (.str b u) v (decide (D.str b=e)):=by
 cases rv with
|str i t=>rw[zen];exact SeqAt.EqAt.str_str _ _ _ _
|non=>rw[<-zbT (λz=>by cases z)];exact SeqAt.EqAt.str_none _ _
|bl c=>cases ho
|int x t=>rw[<-zbT (λz=>by cases z)];exact SeqAt.EqAt.str_int _ _ _ _
|tup p r=>cases ho
|lst p r=>cases ho
def zn1 {l l':Addr}{us us':List Value}{ds ds':List D}(hu:A.units<cLine)(p:s.heap.IsTuple l us.toArray)(p':s.heap.IsTuple l' us'.toArray)(r:RhL s.heap us ds)(r':RhL s.heap us' ds')
 (he:∀j (h1:j<us.toArray.size) (h2:j<us'.toArray.size),SeqAt.EqAt A.in1 s us.toArray[j] us'.toArray[j] (decide (ds[j]?=ds'[j]?))):SeqAt.RcAt A s (.ref l) (.ref l') (decide (D.tup ds=D.tup ds')):=by
 have q:=SeqAt.RcAt.tuples p p' hu he
 rw[wab,wab,r.length,r'.length,zbG] at q;rw[zat (show D.tup ds=D.tup ds'↔ds=ds' from⟨λz=>by cases z;rfl,λz=>by rw[z]⟩)];exact q
def zn2 {l l':Addr}{us us':List Value}{ds ds':List D}(hu:A.units<cLine)(p:s.heap.IsList l us.toArray)(p':s.heap.IsList l' us'.toArray)(r:RhL s.heap us ds)(r':RhL s.heap us' ds')
 (he:∀j (h1:j<us.toArray.size) (h2:j<us'.toArray.size),SeqAt.EqAt A.in1 s us.toArray[j] us'.toArray[j] (decide (ds[j]?=ds'[j]?))):SeqAt.RcAt A s (.ref l) (.ref l') (decide (D.lst ds=D.lst ds')):=by
 rw[zat (show D.lst ds=D.lst ds'↔ds=ds' from⟨λz=>by cases z;rfl,λz=>by rw[z]⟩)];by_cases hz:ds.length=ds'.length
 .have hsz:us.toArray.size=us'.toArray.size:=by simp only[wab];rw[r.length,r'.length,hz]
  have q:=SeqAt.RcAt.lists p p' hsz hu he
  have e1:=zbG ds ds'
  rw[hz,Nat.min_self,beq_self_eq_true,Bool.and_true,<-hz] at e1;rw[wab,r.length,e1] at q;exact q
 .have q:=SeqAt.RcAt.lists_lengths p p' (by simp only[wab,r.length,r'.length];simpa using hz) hu
  rw[wat (λz=>hz (by rw[z]))];exact q
end
def zkW:∀(n:Nat) {A:Around}{s:Shared}{u v:Value}{d e:D},depD d<=n->A.units+n<cLine->Rh s.heap u d->Rh s.heap v e->eqOk d e=true->SeqAt.EqAt A s u v (decide (d=e)):=by
 intro n;induction n with
|zero=>
   intro A s u v d e hn hu ru rv ho;cases ru with
  |non=>exact zgw (by omega) rv ho
  |bl b=>exact zio rv ho
  |int i t=>exact zeo rv ho
  |str x t=>exact zgx rv ho
  |tup p r=>exact absurd hn (Nat.not_succ_le_zero _)
  |lst p r=>exact absurd hn (Nat.not_succ_le_zero _)
|succ n ih=>
   intro A s u v d e hn hu ru rv ho;have hu0:A.units<cLine:=by omega
   have he:∀{us us':List Value}{ds ds':List D}(r:RhL s.heap us ds) (r':RhL s.heap us' ds') (hd:depL ds<=n) (ho:zdn ds ds'=true),∀j (h1:j<us.toArray.size) (h2:j<us'.toArray.size),SeqAt.EqAt A.in1 s us.toArray[j] us'.toArray[j] (decide (ds[j]?=ds'[j]?)):=λ{us us' ds ds'} r r' hd ho j h1 h2=>by
    simp only[wab] at h1 h2;have g1:j<ds.length:=by rw[<-r.length];exact h1
    have g2:j<ds'.length:=by rw[<-r'.length];exact h2
    have q:=ih (A:=A.in1) (waq (zex j g1) hd) (show A.units+1+n<cLine by omega) (r.get j h1 g1) (r'.get j h2 g2) (zdI ho j g1 g2)
    rw[zin j g1 g2] at q;exact q
   cases ru with
  |non=>exact zgw hu0 rv ho
  |bl b=>exact zio rv ho
  |int i t=>exact zeo rv ho
  |str x t=>exact zgx rv ho
  |tup p r=>
     rename_i l us ds
     have hd:depL ds<=n:=wbd hn
     cases rv with
    |tup p' r'=>
       rename_i l' us' ds'
       by_cases hl:l=l'
       .subst hl;cases zdH p p';rw[r.inj r',waA rfl];exact SeqAt.EqAt.same _
       .exact SeqAt.EqAt.of_refs hl (zn1 hu0 p p' r r' (he r r' hd ho))
    |non=>rw[<-zbT (λz=>by cases z)];exact SeqAt.EqAt.tuple_none p hu0
    |bl c=>cases ho
    |int i t=>cases ho
    |str x t=>cases ho
    |lst p' r'=>cases ho
  |lst p r=>
     rename_i l us ds
     have hd:depL ds<=n:=wbd hn
     cases rv with
    |lst p' r'=>
       rename_i l' us' ds'
       by_cases hl:l=l'
       .subst hl;cases zef p p';rw[r.inj r',waA rfl];exact SeqAt.EqAt.same _
       .exact SeqAt.EqAt.of_refs hl (zn2 hu0 p p' r r' (he r r' hd ho))
    |non=>rw[<-zbT (λz=>by cases z)];exact SeqAt.EqAt.list_none p hu0
    |bl c=>cases ho
    |int i t=>cases ho
    |str x t=>cases ho
    |tup p' r'=>cases ho
end VD
namespace VD
open PySem PySem.Spec PyProof PyProof.Rows L2
section
variable {A:Around}{s:Shared}{u v:Value}{d e:D}
def zjZ {n:Nat}(hu:A.units+1+n<cLine){us us':List Value}{ds ds':List D}(r:RhL s.heap us ds)(r':RhL s.heap us' ds')(hd:depL ds<=n)(ho:zdn ds ds'=true):∀j (h1:j<us.toArray.size) (h2:j<us'.toArray.size),SeqAt.EqAt A.in1 s us.toArray[j] us'.toArray[j] (decide (ds[j]?=ds'[j]?)):=λj h1 h2=>by
 simp only[wab] at h1 h2;have g1:j<ds.length:=by rw[<-r.length];exact h1
 have g2:j<ds'.length:=by rw[<-r'.length];exact h2
 have q:=zkW n (A:=A.in1) (waq (zex j g1) hd) hu (r.get j h1 g1) (r'.get j h2 g2) (zdI ho j g1 g2)
 rw[zin j g1 g2] at q;exact q
def zn3 {n:Nat}(hu:A.units+1+n<cLine)(hn:depD d<=n+1)(ru:Rh s.heap u d)(rv:Rh s.heap v e)(ho:eqOk d e=true):SeqAt.RcAt A s u v (decide (d=e)):=by
 have hu0:A.units<cLine:=by omega
 cases ru with
|non=>
   cases rv with
  |non=>exact SeqAt.RcAt.none_none
  |bl b=>cases ho
  |int i t=>rw[<-zbT (λz=>by cases z)];exact SeqAt.RcAt.none_int _ _
  |str x t=>rw[<-zbT (λz=>by cases z)];exact SeqAt.RcAt.none_str _ _
  |tup p r=>rw[<-zbT (λz=>by cases z)];exact SeqAt.RcAt.none_tuple p hu0
  |lst p r=>rw[<-zbT (λz=>by cases z)];exact SeqAt.RcAt.none_list p hu0
|bl b=>
   cases rv with
  |bl c=>rw[zgh];exact SeqAt.RcAt.bool_bool _ _
  |non=>cases ho
  |int i t=>cases ho
  |str x t=>cases ho
  |tup p r=>cases ho
  |lst p r=>cases ho
|int i t=>
   cases rv with
  |int i t=>rw[zem];exact SeqAt.RcAt.int_int _ _ _ _
  |non=>rw[<-zbT (λz=>by cases z)];exact SeqAt.RcAt.int_none _ _
  |str x t=>rw[<-zbT (λz=>by cases z)];exact SeqAt.RcAt.int_str _ _ _ _
  |bl b=>cases ho
  |tup p r=>cases ho
  |lst p r=>cases ho
|str x t=>
   cases rv with
  |str i t=>rw[zen];exact SeqAt.RcAt.str_str _ _ _ _
  |non=>rw[<-zbT (λz=>by cases z)];exact SeqAt.RcAt.str_none _ _
  |int x t=>rw[<-zbT (λz=>by cases z)];exact SeqAt.RcAt.str_int _ _ _ _
  |bl b=>cases ho
  |tup p r=>cases ho
  |lst p r=>cases ho
|tup p r=>
   cases rv with
  |tup p' r'=>exact zn1 hu0 p p' r r' (zjZ hu r r' (wbd hn) ho)
  |non=>rw[<-zbT (λz=>by cases z)];exact SeqAt.RcAt.tuple_none p hu0
  |int i t=>cases ho
  |bl b=>cases ho
  |str x t=>cases ho
  |lst p r=>cases ho
|lst p r=>
   cases rv with
  |lst p' r'=>exact zn2 hu0 p p' r r' (zjZ hu r r' (wbd hn) ho)
  |non=>rw[<-zbT (λz=>by cases z)];exact SeqAt.RcAt.list_none p hu0
  |int i t=>cases ho
  |bl b=>cases ho
  |str x t=>cases ho
  |tup p r=>cases ho
def zd3 {p:Prop}[Decidable p](h:¬p):true = !decide p:=by rw[wat h];rfl
def zj0 {n:Nat}(hu:A.units+1+n<cLine)(hn:depD d<=n+1)(ru:Rh s.heap u d)(rv:Rh s.heap v e)(ho:eqOk d e=true):SeqAt.RcNeAt A s u v (!decide (d=e)):=by
 have hu0:A.units<cLine:=by omega
 cases ru with
|non=>
   cases rv with
  |non=>rw[waA rfl];exact SeqAt.RcNeAt.none_none
  |bl b=>cases ho
  |int i t=>rw[<-zd3 (λz=>by cases z)];exact SeqAt.RcNeAt.none_int _ _
  |str x t=>rw[<-zd3 (λz=>by cases z)];exact SeqAt.RcNeAt.none_str _ _
  |tup p r=>rw[<-zd3 (λz=>by cases z)];exact SeqAt.RcNeAt.none_tuple p hu0
  |lst p r=>rw[<-zd3 (λz=>by cases z)];exact SeqAt.RcNeAt.none_list p hu0
|bl b=>
   cases rv with
  |bl c=>rw[zgh];exact SeqAt.RcNeAt.bool_bool _ _
  |non=>cases ho
  |int i t=>cases ho
  |str x t=>cases ho
  |tup p r=>cases ho
  |lst p r=>cases ho
|int i t=>
   cases rv with
  |int i t=>rw[zem];exact SeqAt.RcNeAt.int_int _ _ _ _
  |non=>rw[<-zd3 (λz=>by cases z)];exact SeqAt.RcNeAt.int_none _ _
  |str x t=>rw[<-zd3 (λz=>by cases z)];exact SeqAt.RcNeAt.int_str _ _ _ _
  |bl b=>cases ho
  |tup p r=>cases ho
  |lst p r=>cases ho
|str x t=>
   cases rv with
  |str i t=>rw[zen];exact SeqAt.RcNeAt.str_str _ _ _ _
  |non=>rw[<-zd3 (λz=>by cases z)];exact SeqAt.RcNeAt.str_none _ _
  |int x t=>rw[<-zd3 (λz=>by cases z)];exact SeqAt.RcNeAt.str_int _ _ _ _
  |bl b=>cases ho
  |tup p r=>cases ho
  |lst p r=>cases ho
|tup p r=>
   cases rv with
  |tup p' r'=>
     rename_i us ds l' us' ds'
     have q:=SeqAt.RcNeAt.tuples p p' hu0 (zjZ hu r r' (wbd hn) ho)
     rw[wab,wab,r.length,r'.length,zbG] at q;rw[zat (show D.tup ds=D.tup ds'↔ds=ds' from⟨λz=>by cases z;rfl,λz=>by rw[z]⟩)];exact q
  |non=>rw[<-zd3 (λz=>by cases z)];exact SeqAt.RcNeAt.tuple_none p hu0
  |int i t=>cases ho
  |bl b=>cases ho
  |str x t=>cases ho
  |lst p r=>cases ho
|lst p r=>
   cases rv with
  |lst p' r'=>
     rename_i us ds l' us' ds'
     rw[zat (show D.lst ds=D.lst ds'↔ds=ds' from⟨λz=>by cases z;rfl,λz=>by rw[z]⟩)];by_cases hz:ds.length=ds'.length
     .have hsz:us.toArray.size=us'.toArray.size:=by simp only[wab];rw[r.length,r'.length,hz]
      have q:=SeqAt.RcNeAt.lists p p' hsz hu0 (zjZ hu r r' (wbd hn) ho)
      have e1:=zbG ds ds'
      rw[hz,Nat.min_self,beq_self_eq_true,Bool.and_true,<-hz] at e1;rw[wab,r.length,e1] at q;exact q
     .have q:=SeqAt.RcNeAt.lists_lengths p p' (by simp only[wab,r.length,r'.length];simpa using hz) hu0
      rw[wat (λz=>hz (by rw[z]))];exact q
  |non=>rw[<-zd3 (λz=>by cases z)];exact SeqAt.RcNeAt.list_none p hu0
  |int i t=>cases ho
  |bl b=>cases ho
  |str x t=>cases ho
  |tup p r=>cases ho
end
def eqC (d e:D):Bool:=eqOk d e&&ndD d&&ndD e&&decide (depD d<=40)
def dEqG (neg:Bool)(d e:D):Option D:=if eqC d e=true then some (.bl (if neg then !decide (d=e) else decide (d=e))) else none
def rEqG (K:W.Frag)(neg:Bool):R2:=λx y H Q=>∃J d e,RpW K H J x d/\RpW K H J y e/\eqC d e=true/\Q (.bl (if neg then !decide (d=e) else decide (d=e))) H
def zgy {d e:D}(h:eqC d e=true):eqOk d e=true/\ndD d=true/\ndD e=true/\depD d<=40:=by
 unfold eqC at h;simp only[waC,decide_eq_true_eq] at h;exact⟨h.1.1.1,h.1.1.2,h.1.2,h.2⟩
section
variable {X:Cx}{K:W.Frag}{k:Nat}
def zc7 (hr:Room k X.A):OpR X (compareOp .Eq) (rEqG X.K false):=by
 intro pins s Y H x y v u Q I rx ry ⟨J,d,e,r1,r2,hc,q⟩;obtain⟨ho,n1,n2,hd⟩:=zgy hc;have:=hr.units
 exact zn3 (n:=40) (by omega) (by omega) (r1.rh I n1 rx) (r2.rh I n2 ry) ho _ _ _ _ ⟨.bl _,H,I,rfl,q⟩
def zl9 (hr:Room k X.A):OpR X (compareOp .NotEq) (rEqG X.K true):=by
 intro pins s Y H x y v u Q I rx ry ⟨J,d,e,r1,r2,hc,q⟩;obtain⟨ho,n1,n2,hd⟩:=zgy hc;have:=hr.units
 exact zj0 (n:=40) (by omega) (by omega) (r1.rh I n1 rx) (r2.rh I n2 ry) ho _ _ _ _ ⟨.bl _,H,I,rfl,q⟩
def zbs (neg:Bool):Im2 K (rEqG K neg) (dEqG neg):=by
 intro H J x y d e d' Q ja hx hy hF w;unfold dEqG at hF;by_cases hc:eqC d e=true
 .rw[if_pos hc] at hF;cases hF;exact⟨J,d,e,hx,hy,hc,w _ H J (Up.refl ja) (.bl _)⟩
 .rw[if_neg hc] at hF;cases hF
end
def inC (x:D)(ds:List D):Bool:=ndD x&&ds.all λy=>eqC y x
def hasK (ks:List Key)(j:Key):Bool:=ks.any λk=>decide (k=j)
def dInG (neg:Bool):D->D->Option D
|x,.lst ds=>if inC x ds=true then some (.bl (if neg then !decide (x∈ds) else decide (x∈ds))) else none
|x,.tup ds=>if inC x ds=true then some (.bl (if neg then !decide (x∈ds) else decide (x∈ds))) else none
|x,.dct ks _=>(keyD x).bind λj=>some (.bl (if neg then !hasK ks j else hasK ks j))
|_,_=>none
def zma (K:W.Frag)(neg:Bool):R2:=λx y H Q=>∃J d ds p vs,RpW K H J x d/\y=.ref p/\(SqL K H p vs\/SqT K H p vs)/\RpL K H J vs ds/\inC d ds=true/\Q (.bl (if neg then !decide (d∈ds) else decide (d∈ds))) H
open Classical in
noncomputable def ze2 (h:Heap)(u:Value):D:=if q:∃d,Rh h u d then q.choose else .non
def ze3 {h:Heap}{u:Value}{d:D}(r:Rh h u d):ze2 h u=d:=by
 unfold ze2;have q:∃d,Rh h u d:=⟨d,r⟩
 rw[dif_pos q];exact q.choose_spec.inj r
theorem RhL.mem {h:Heap}:∀{us:List Value}{ds:List D},RhL h us ds->∀u∈us,∃d∈ds,Rh h u d
|_,_,.cons a t,u,hu=>by
   rcases waf.mp hu with rfl|hu
   .exact⟨_,wah,a⟩
   .obtain⟨d,hd,r⟩:=RhL.mem t u hu;exact⟨d,wad _ hd,r⟩
theorem RhL.map {h:Heap}:∀{us:List Value}{ds:List D},RhL h us ds->us.map (ze2 h)=ds
|_,_,.nil=>rfl
|_,_,.cons a t=>by rw[waL,ze3 a,RhL.map t]
theorem ziq:∀{ds:List D},(∀d∈ds,ndD d=true)->ndL ds=true
|[],_=>rfl
|d::ds,h=>by
   show(ndD d&&ndL ds)=true
   rw[h d wah,ziq λe he=>h e (wad _ he)];rfl
def zdp {h:Heap}{us:List Value}{ds:List D}(r:RhL h us ds)(x:D):us.toArray.any (λy=>decide (ze2 h y=x))=decide (x∈ds):=by
 rw[List.any_toArray,<-r.map,wbC];simp only[List.any_eq_true,decide_eq_true_eq,waO]
section
variable {X:Cx}{K:W.Frag}{k:Nat}
def zdq {A:Around}{s:Shared}{us:List Value}{ds:List D}{x:Value}{d:D}(hu:A.units+1+40<cLine)(r:RhL s.heap us ds)(rx:Rh s.heap x d)(hc:∀y∈ds,eqC y d=true):∀y,y∈us.toArray->SeqAt.EqAt A.in1 s y x (decide (ze2 s.heap y=d)):=λy hy=>by
 obtain⟨e,he,re⟩:=r.mem y (by simpa using hy);obtain⟨ho,_,_,hd⟩:=zgy (hc e he);rw[ze3 re];exact zkW 40 (A:=A.in1) hd hu re rx ho
def zkX {x:D}{ds:List D}(h:inC x ds=true):ndD x=true/\(∀y∈ds,eqC y x=true)/\ndL ds=true:=by
 unfold inC at h;rw[waC,waJ] at h;exact⟨h.1,h.2,ziq λy hy=>(zgy (h.2 y hy)).2.1⟩
def zn4 (hr:Room k X.A):OpR X (compareOp .In) (zma X.K false):=by
 intro pins s Y H x y v u Q I rx ry ⟨J,d,ds,p,vs,r1,e,hq,rl,hc,q⟩;subst e;cases ry;have hu:=hr.units
 obtain⟨n1,hc,n2⟩:=zkX hc;rcases hq with hq|hq
 .obtain⟨its,rv,pl,hz⟩:=I.list hq;refine SeqAt.in_listAt _ pl.isList (zdq (by omega) (rl.rh I n2 rv) (r1.rh I n1 rx) hc) ⟨.bl _,H,I,rfl,?_⟩;rw[zdp (rl.rh I n2 rv)];exact q
 .obtain⟨its,rv,pl,hz⟩:=I.tuple hq;refine SeqAt.in_tupleAt _ pl (zdq (by omega) (rl.rh I n2 rv) (r1.rh I n1 rx) hc) ⟨.bl _,H,I,rfl,?_⟩;rw[zdp (rl.rh I n2 rv)];exact q
def zir (hr:Room k X.A):OpR X (compareOp .NotIn) (zma X.K true):=by
 intro pins s Y H x y v u Q I rx ry ⟨J,d,ds,p,vs,r1,e,hq,rl,hc,q⟩;subst e;cases ry;have hu:=hr.units
 obtain⟨n1,hc,n2⟩:=zkX hc;rcases hq with hq|hq
 .obtain⟨its,rv,pl,hz⟩:=I.list hq;refine SeqAt.notIn_listAt _ pl.isList (zdq (by omega) (rl.rh I n2 rv) (r1.rh I n1 rx) hc) ⟨.bl _,H,I,rfl,?_⟩;rw[zdp (rl.rh I n2 rv)];exact q
 .obtain⟨its,rv,pl,hz⟩:=I.tuple hq;refine SeqAt.notIn_tupleAt _ pl (zdq (by omega) (rl.rh I n2 rv) (r1.rh I n1 rx) hc) ⟨.bl _,H,I,rfl,?_⟩;rw[zdp (rl.rh I n2 rv)];exact q
def rInD (neg:Bool):R2:=λx y H Q=>∃a ov,y=.ref a/\DGet H a x ov/\Q (.bl (if neg then !ov.isSome else ov.isSome)) H
def rInG (K:W.Frag)(neg:Bool):R2:=λx y H Q=>zma K neg x y H Q\/rInD neg x y H Q
def zpv (hr:Room k X.A):OpR X (compareOp .In) (rInD false):=by
 intro pins s Y H x y v u Q I rx ry ⟨a,ov,e,g,q⟩;subst e;obtain rfl:u=Value.ref a:=ry;exact d_in (zlB hr) I g rx λs3 I3=>⟨.bl ov.isSome,H,I3,rfl,q⟩
def zj1 (hr:Room k X.A):OpR X (compareOp .NotIn) (rInD true):=by
 intro pins s Y H x y v u Q I rx ry ⟨a,ov,e,g,q⟩;subst e;obtain rfl:u=Value.ref a:=ry;exact zlI (zlB hr) I g rx λs3 I3=>⟨.bl (!ov.isSome),H,I3,rfl,q⟩
def zj2 (hr:Room k X.A):OpR X (compareOp .In) (rInG X.K false):=(zn4 hr).or (zpv hr)
def zj3 (hr:Room k X.A):OpR X (compareOp .NotIn) (rInG X.K true):=(zir hr).or (zj1 hr)
def zis {kvs:List (Key×V)}{j:Key}:(valV kvs j).isSome=hasK (kvs.map (·.1)) j:=by
 unfold valV hasK;rw[Option.isSome_map,List.any_map,wbC,List.find?_isSome,List.any_eq_true];rfl
def ze4 (neg:Bool):Im2 K (rInG K neg) (dInG neg):=by
 intro H J x y d e d' Q ja hx hy hF w;cases e with
|lst ds=>
   have hF:(if inC d ds=true then some (D.bl (if neg then !decide (d∈ds) else decide (d∈ds))) else none)=some d':=hF
   by_cases hc:inC d ds=true
   .rw[if_pos hc] at hF;cases hF;obtain⟨p,vs,rfl,h1,r1⟩:=hy.lst;exact .inl ⟨J,d,ds,p,vs,hx,rfl,.inl (SqL.of h1),r1,hc,w _ H J (Up.refl ja) (.bl _)⟩
   .rw[if_neg hc] at hF;cases hF
|tup ds=>
   have hF:(if inC d ds=true then some (D.bl (if neg then !decide (d∈ds) else decide (d∈ds))) else none)=some d':=hF
   by_cases hc:inC d ds=true
   .rw[if_pos hc] at hF;cases hF;obtain⟨p,vs,rfl,h1,r1⟩:=hy.tup;exact .inl ⟨J,d,ds,p,vs,hx,rfl,.inr h1,r1,hc,w _ H J (Up.refl ja) (.bl _)⟩
   .rw[if_neg hc] at hF;cases hF
|dct ks ds=>
   obtain⟨j,ej,hF⟩:=zag (show((keyD d).bind λj=>some (D.bl (if neg then !hasK ks j else hasK ks j)))=some d' from hF);cases hF;obtain⟨p,kvs,vs,rfl,h1,h2,h3,rl⟩:=hy.dct;refine .inr ⟨p,valV kvs j,rfl,?_,?_⟩
   .rw[zih hx ej];exact DGet.k h1
   .rw[zis,h2];exact w _ H J (Up.refl ja) (.bl _)
|_=>cases hF
end
end VD
namespace Mn
open PySem PySem.Spec PyProof PyProof.Rows
open Sem (wp)
section
variable {prog:Program}{w:World}{A:Around}{R:Result->Shared->Prop}{I:Addr}{fp wr:List Addr}{n:Nat}{P:Nat->Value->Prop}{St:Nat->Heap->Prop}
end
section
variable {prog:Program}{w:World}{A:Around}{E:Value->Shared->Prop}{s:Shared}
end
end Mn
namespace VD
open PySem PySem.Spec PyProof PyProof.Rows L2
mutual
def ltD:D->D->Option Bool
|.int a,.int b=>some (decide (a<b))
|.tup xs,.tup ys=>ltL xs ys
|_,_=>none
def ltL:List D->List D->Option Bool
|[],[]=>some false
|x::xs,y::ys=>if eqOk x y=true then(if x=y then ltL xs ys else if xs.length=ys.length then ltD x y else none) else none
|_,_=>none
end
section
variable {X:Cx}{K:W.Frag}{k:Nat}
end
end VD
namespace VD
open PySem PySem.Spec PyProof PyProof.Rows L2
section
variable {X:Cx}{K:W.Frag}{k:Nat}
end
section
variable {S:Type}{emb:S->En}{Z:En}{s:S}{f g:FX}{x:Option (D×S)}{y:D×S->Option (D×S)}{e:FE}
section
variable {R A:Type}{k:Out->Option R}{φ:A->Option R}{a b g':FS}
end
end
section
variable {S S0 α A R:Type}{emb:S->En}{emb0:S0->En}{Z:En}{fi:FAX}{b g:FS}{tg:FG}{xa:Option (List D×S0)}{ini:S0->S}
def okT:SV->Bool
|.un=>true
|.val _=>true
|_=>false
end
section
variable {P:Program}{w:World}{K:W.Frag}{mg:Str->Option Value}{base:Heap}
end
def g1 (b:D->Option (RV×List D)):List D->Option (RV×List D)|[x]=>b x|_=>none
def g2 (b:D->D->Option (RV×List D)):List D->Option (RV×List D)|[x,y]=>b x y|_=>none
def g3 (b:D->D->D->Option (RV×List D)):List D->Option (RV×List D)|[x,y,z]=>b x y z|_=>none
section
variable {R:Type}{k:Out->Option R}{φ:RV×List D->Option R}{g:FS}{n:List SV}{ks:List (Option Nat)}
end
section
variable {X:Cx}{K:W.Frag}{k:Nat}
end
end VD
namespace GM
open PySem PySem.Spec PyProof PyProof.Rows L2 VD
structure Bx where
 x:Int
 y:Int
 wd:Int
 hg:Int
def Bx.d (b:Bx):D:=.tup [.int b.x,.int b.y,.int b.wd,.int b.hg]
structure Row where
 deep:Nat
 name:Str
 box:Bx
 word:Str
 rank:Int
 head:Option Str
def zpw:Option Str->D
|none=>.non
|some x=>.str x
def Row.d (r:Row):D:=.lst [.int r.deep,.str r.name,r.box.d,.str r.word,.int r.rank,zpw r.head]
def rowsD (L:List Row):D:=.lst (L.map Row.d)
def zit (ds:Nat->Nat)(cur:Nat):Nat->List Nat
|0=>[]
|n+1=>if ds n<cur then zit ds (ds n) n++[n] else zit ds cur n
def dsOf (L:List Row)(k:Nat):Nat:=((L[k]?).map (·.deep)).getD 0
def above (L:List Row)(k:Nat):List Nat:=zit (dsOf L) (dsOf L k) k
def sg (c:Nat):Str:=⟨#[c]⟩
def zey (c:Nat)(n:Int)(h:1<=n):(Txt.mul (sg c) n).cps.toList=List.replicate n.toNat c:=by
 unfold Txt.mul;rw[if_neg (by omega)];by_cases h1:n=1
 .subst h1;rfl
 .have:(n == 1||(sg c).length == 0)=false:=by
   have:(n == 1)=false:=by simpa using h1
   rw[this];rfl
  rw[this,if_neg (by decide)];have key:∀(k:Nat) (acc:Array Nat),((List.replicate k (sg c).cps).foldl (·++·) acc).toList=acc.toList++List.replicate k c:=by
   intro k;induction k with
  |zero=>intro acc;simp
  |succ k ih=>
     intro acc;rw[waZ,List.foldl_cons,ih];show(acc++#[c]).toList++_=_
     rw[Array.toList_append,waN];rfl
  show((List.replicate n.toNat (sg c).cps).foldl (·++·) #[]).toList=_
  rw[key];rfl
def zmb {c d:Nat}{n m:Int}(hn:1<=n)(hm:1<=m)(e:Txt.mul (sg c) n=Txt.mul (sg d) m):n=m/\c=d:=by
 have q:=wbb (λ(s:Str)=>s.cps.toList) e
 simp only[zey c n hn,zey d m hm] at q;have l:=wbb List.length q
 rw[wbL,wbL] at l;refine⟨by omega,?_⟩;have h0:c∈List.replicate m.toNat d:=by rw[<-q];exact List.mem_replicate.mpr ⟨by omega,rfl⟩
 exact(List.mem_replicate.mp h0).2
def zmc (c:Nat)(n:Int)(h:1<=n):(Txt.mul (sg c) n).length=n.toNat:=by
 have:=wbb List.length (zey c n h)
 rw[wbL] at this;simpa[Str.length] using this
inductive Tr where
|mk (name:Str) (box:Bx) (word:Str) (rank:Int) (head:Option Str) (parts:List Tr)
namespace Tr
def name:Tr->Str|mk n _ _ _ _ _=>n
def parts:Tr->List Tr|mk _ _ _ _ _ x=>x
end Tr
structure Seg (d:Nat)(M:List Row):Prop where
 few:M.length<=200
 low:∀r∈M,d<=r.deep/\r.deep<=4
 first:∀r,M[0]?=some r->r.deep=d
 step:∀k r r',M[k]?=some r->M[k+1]?=some r'->r'.deep<=r.deep+1
def Fits:Nat->List Tr->Prop
|0,ts=>ts = []
|n+1,ts=>∀t∈ts,Fits n t.parts
section
variable {ts:List Tr}{L:List Row}
end
end GM
namespace GM
open PySem PySem.Spec PyProof PyProof.Rows L2 VD
def zg1 {n:Nat}{i:Nat}{d:D}(h:(zaS 0 n)[i]?=some d):i<n/\d=.int (i:Int):=by
 have hl:(zaS 0 n).length=n:=by simp[zaS]
 have hi:i<n:=by rw[<-hl];exact(wae.mp h).1
 refine⟨hi,?_⟩;unfold zaS at h;rw[war,wcv hi] at h;simp at h;exact h.symm
def zg2 (n:Nat):(zaS 0 n).length=n:=by simp[zaS]
def zmd {α:Type}{xs:List α}{i:Int}(h0:0<=i)(h1:i<xs.length):∃x,xs[i.toNat]?=some x/\atI xs i=some x:=by
 have hi:i.toNat<xs.length:=by omega
 refine⟨xs[i.toNat],wan hi,?_⟩;have e:i=((i.toNat:Nat):Int):=by omega
 have h:=zaR (xs:=xs) (wan hi)
 rw[<-e] at h;exact h
def zn5 (c:Nat):(sg c).length=1:=rfl
def zn6 (c:Nat){n:Int}(h0:-1000<=n)(h1:n<=1000):dMul (.str (sg c)) (.int n)=some (.str (Txt.mul (sg c) n)):=by
 show(if -1000<=n/\n<=1000/\(sg c).length<=1000 then some (D.str (Txt.mul (sg c) n)) else none)=_
 rw[if_pos ⟨h0,h1,by rw[zn5];decide⟩]
theorem zc8 {S A α:Type}{f:S->D->Option (Fl S A)}(h:α->D):∀{xs:List α}{s:S},(∀x,x∈xs->f s (h x)=some (.nx s))->ze1 f s (xs.map h)=some (.nx s)
|[],s,_=>rfl
|x::xs,s,hf=>by
   show(f s (h x)).bind _=_
   rw[hf x wah,zOB];exact zc8 h λy hy=>hf y (wad _ hy)
def zfS {S A:Type}{f:S->D->Option (Fl S A)}{ds:List D}{s:S}(hf:∀x,x∈ds->f s x=some (.nx s)):ze1 f s ds=some (.nx s):=by
 have:=zc8 (f:=f) (λd:D=>d) (xs:=ds) (s:=s) hf
 rwa [List.map_id'] at this
def zfT {xs:List D}{d:D}(h:xs.length<lim):appL xs d=some (xs++[d]):=if_pos h
def zdJ {α:Type}{f:D->Option (Option D)}(h:α->D)(g:α->D){xs:List α}(hl:xs.length<=10000)(hf:∀x,x∈xs->f (h x)=some (some (g x))):zci f (xs.map h)=some (xs.map g):=by
 unfold zci;have:zcF f (xs.map h)=some (xs.map g):=by
  clear hl
  induction xs with
 |nil=>rfl
 |cons x xs ih=>
    show(f (h x)).bind _=_
    rw[hf x wah,zOB];show(zcF f (xs.map h)).bind _=_
    rw[ih λy hy=>hf y (wad _ hy)];rfl
 rw[this,zOB,if_pos];rw[wam];exact waq hl (by decide)
def zcj {α:Type}{f:D->Option (Option D)}(h:α->D)(p:α->Bool)(g:α->D){xs:List α}(hl:xs.length<=10000)(hf:∀x,x∈xs->f (h x)=some (if p x then some (g x) else none)):zci f (xs.map h)=some ((xs.filter p).map g):=by
 unfold zci;have:zcF f (xs.map h)=some ((xs.filter p).map g):=by
  clear hl
  induction xs with
 |nil=>rfl
 |cons x xs ih=>
    have ih:=ih λy hy=>hf y (wad _ hy)
    show(f (h x)).bind _=_
    rw[hf x wah,zOB];cases hp:p x with
   |true=>
      show(zcF f (xs.map h)).bind _=_
      rw[ih,List.filter_cons,if_pos hp];rfl
   |false=>
      rw[ih,List.filter_cons,hp];rfl
 rw[this,zOB,if_pos];rw[wam];exact waq (wck _ _) (waq hl (by decide))
def ziu {α:Type}(f:α->D)(xs:List α):zdm (xs.map f)=xs.zipIdx.map λp=>.tup [.int (p.2:Nat),f p.1]:=by
 unfold zdm;rw[List.zipIdx_map,wbl];rfl
def zdr (x y:Int):dEqG false (.int x) (.int y)=some (.bl (decide (x=y))):=by
 show(if eqC (.int x) (.int y)=true then some (D.bl (if false=true then !decide (D.int x=D.int y) else decide (D.int x=D.int y))) else none)=_
 rw[if_pos (by rfl),if_neg (by decide),zat (show D.int x=D.int y↔x=y from⟨λh=>by cases h;rfl,λh=>by rw[h]⟩)]
def zj4 (x y:Int):dEqG true (.int x) (.int y)=some (.bl (!decide (x=y))):=by
 show(if eqC (.int x) (.int y)=true then some (D.bl (if true=true then !decide (D.int x=D.int y) else decide (D.int x=D.int y))) else none)=_
 rw[if_pos (by rfl),if_pos rfl,zat (show D.int x=D.int y↔x=y from⟨λh=>by cases h;rfl,λh=>by rw[h]⟩)]
def ziv {d:D}(h:eqC d d=true)(neg:Bool):dEqG neg d d=some (.bl (!neg)):=by
 unfold dEqG;rw[if_pos h,waA rfl];cases neg <;> rfl
mutual
theorem ze5:∀{d:D},ndD d=true->eqOk d d=true
|.non,_=>rfl
|.bl _,_=>rfl
|.int _,_=>rfl
|.str _,_=>rfl
|.tup ds,h=>zc9 (ds:=ds) h
|.lst ds,h=>zc9 (ds:=ds) h
|.dct _ _,h=>by cases h
|.scr _,h=>by cases h
|.exc _ _ _,h=>by cases h
|.dcu _ _,h=>by cases h
theorem zc9:∀{ds:List D},ndL ds=true->zdn ds ds=true
|[],_=>rfl
|d::ds,h=>by
   have h:(ndD d&&ndL ds)=true:=h
   rw[waC] at h;show(eqOk d d&&zdn ds ds)=true
   rw[ze5 h.1,zc9 h.2];rfl
end
def zj5 {d:D}(h:ndD d=true)(hd:depD d<=40):eqC d d=true:=by
 unfold eqC;rw[ze5 h,h,waA hd];rfl
theorem zfU {m:Nat}:∀{ds:List D},(∀d∈ds,depD d<=m)->depL ds<=m
|[],_=>wbz _
|d::ds,h=>Nat.max_le.mpr ⟨h d wah,zfU λe he=>h e (wad _ he)⟩
theorem ziw:∀{ds:List D},(∀d∈ds,ndD d=true)->ndL ds=true
|[],_=>rfl
|d::ds,h=>by
   show(ndD d&&ndL ds)=true
   rw[h d wah,ziw λe he=>h e (wad _ he)];rfl
def zfV {x:Str}{th:List Str}:dInG false (.str x) (.lst (th.map D.str))=some (.bl (decide (x∈th))):=by
 have hc:inC (.str x) (th.map D.str)=true:=by
  unfold inC;rw[waC];refine⟨rfl,waJ.mpr λy hy=>?_⟩;obtain⟨z,_,rfl⟩:=waO.mp hy;rfl
 show(if inC (.str x) (th.map D.str)=true then some (D.bl (if false=true then !decide (D.str x∈th.map D.str) else decide (D.str x∈th.map D.str))) else none)=_
 rw[if_pos hc,if_neg (by decide),zat (show D.str x∈th.map D.str↔x∈th from⟨λh=>by
  obtain⟨z,hz,e⟩:=waO.mp h;cases e;exact hz,λh=>waO.mpr ⟨x,h,rfl⟩⟩)]
def zgz {xs:List D}{r:Int}(h0:0<=r)(h1:r<=xs.length):VD.cut xs none (some r)=xs.take r.toNat:=by
 unfold VD.cut HT.sIx;dsimp only[];rw[if_neg (by omega),wcC,Nat.sub_zero,wbm (by omega)]
end GM
namespace GM
open PySem PySem.Spec PyProof PyProof.Rows L2 VD
end GM
namespace VD
open PySem PySem.Spec PyProof PyProof.Rows L2 PySem.W
structure TabX (X:Cx)(q:Str):Prop where
 ex:∃c P bm ob,X.env.code=.ref c/\CodeK X.K c P/\BMod X.base mainGlobals X.mg bm ob/\∃tp,X.Hz P=some (.tbl tp)/\tp[0]?=some (Value.str q 0)
section
variable {X:Cx}{a:Expr}{fa:FE}
end
structure Pers (Pc:Hp->Prop):Prop where
 st:∀{fs ex:List Addr}{H H':Hp}{h h':Heap},Un fs ex H H' h h'->Pc H->Pc H'
 sm:∀{H H':Hp},Same H H'->Pc H->Pc H'
def Prs (X:Cx)(Pc:Hp->Prop):Prop:=∀pins Y H s,Inv X pins Y H s->Pc H
def Prs.of {X:Cx}{Pc:Hp->Prop}(p:Pers Pc)(h:Pc X.Hz):Prs X Pc:=λ_ _ _ _ I=>p.st I.base h
def pcS (Pc:Hp->Prop)(sp:Sp):Sp:=λvs H Q E=>Pc H/\sp vs H Q E
structure Scr where
 p:Addr
 ns:List Int
def SqF (K:W.Frag)(S:Scr)(H:Hp):Prop:=(∃o,H S.p=some (.frz o (.lst (S.ns.map V.int))))\/∀H,SqL K H S.p (S.ns.map V.int)
def SqF.sq {K:W.Frag}{S:Scr}{H:Hp}(h:SqF K S H):SqL K H S.p (S.ns.map V.int):=by
 rcases h with⟨o,h⟩|h
 .exact .inl (.inr ⟨o,h⟩)
 .exact h H
def SqF.of {K:W.Frag}{S:Scr}{H:Hp}(h:SqL K H S.p (S.ns.map V.int))(hf:H S.p≠none->∃o xs,H S.p=some (.frz o (.lst xs))):SqF K S H:=by
 rcases h with(h|⟨o,h⟩)|h
 .obtain⟨o,xs,e⟩:=hf (by rw[h];simp);rw[h] at e;cases e
 .exact .inl ⟨o,h⟩
 .exact .inr λ_=>.inr h
def TabH (P:Addr)(q:Str)(H:Hp):Prop:=∃tp,H P=some (.tbl tp)/\tp[0]?=some (Value.str q 0)
def tab0 {tp more:Array Value}{q:Str}(htp:tp[0]?=some (Value.str q 0)):(tp++more)[0]?=some (Value.str q 0):=by
 have:0<tp.size:=by
  rcases Nat.eq_zero_or_pos tp.size with z|z
  .rw[Array.getElem?_eq_none (by omega)] at htp;cases htp
  .exact z
 rw[Array.getElem?_append_left this];exact htp
def pers_F {K:W.Frag}{S:Scr}:Pers (SqF K S):=⟨λu h=>by
 rcases h with⟨o,h⟩|h
 .exact .inl ⟨o,u.frzs _ _ _ h⟩
 .exact .inr h,λs h=>by
 rcases h with⟨o,h⟩|h
 .exact .inl ⟨o,s _ _ h⟩
 .exact .inr h⟩
def pers_T {P:Addr}{q:Str}:Pers (TabH P q):=⟨λu ⟨tp,h,e⟩ =>by
 obtain⟨more,h'⟩:=u.tbls _ _ h;exact⟨_,h',tab0 e⟩,λs ⟨tp,h,e⟩ =>⟨tp,s _ _ h,e⟩⟩
section
variable {X:Cx}{a b e:Expr}{es:List Expr}{fa fb:FE}{fl:FA}{p pos:Pos}{Pc:Hp->Prop}
def pcP {k k':Nat}{x:Str}{ps:List Str}{sp:Sp}{t:TA}(C:Cal X.prog X.w X.K X.mg X.base k x ps (pcS Pc sp))(hp:Prs X Pc)(hr:Room k' X.A)(ha:PA X (e::es) t)(hk:k<=k')(hg:Gl X x)(hdb:(x == ("__debug__" : Str))=false)
 (he:starEach (e::es) X.env=(false,eval e X.env)::starEach es X.env) (hpl:(backTo pos (starEach es X.env)).any (·.1)=false):PE X (.Call (.Name x p) (e::es) [] pos) (zlt sp [] E0 t):=by
 obtain⟨f,fd,F,hb,hkp,hm⟩:=C.ex;intro pins s Y H Q I h;refine waQ (zc6 I hg hm ?_ hdb);refine callWith_K (h₀:=X.base) I.ok.mod.kin hkp (thn (ha pos pins s Y H _ I h) λus s1 ⟨vs,H1,I1,r,q⟩ =>⟨I1.kIn,?_⟩) he hpl;exact zkF (F.mono hk) hr hb .nil znr I1 r ⟨hp _ _ _ _ I1,q⟩
def zaQ {k k':Nat}{x:Str}{ps:List Str}{F:List D->Option D}(C:Cal X.prog X.w X.K X.mg X.base k x ps (pcS Pc (spF X.K F)))(hp:Prs X Pc)(hr:Room k' X.A)(ha:VA X (e::es) fl)(hk:k<=k':=by decide)(hg:Gl X x:=by rfl)(hdb:(x == ("__debug__" : Str))=false:=by decide)
 (he:starEach (e::es) X.env=(false,eval e X.env)::starEach es X.env:=by rfl) (hpl:(backTo pos (starEach es X.env)).any (·.1)=false:=by rfl):VE X (.Call (.Name x p) (e::es) [] pos) (eCall F fl):=by
 obtain⟨t,pa,g⟩:=ha;refine⟨_,pcP C hp hr pa hk hg hdb he hpl,?_⟩;intro Hz Jz O Z Y H J d Q s e w;obtain⟨ds,e1,e⟩:=bind_some e;refine g Hz Jz O Z Y H J ds _ s e1 λvs H1 J1 u1 r1=>?_
 refine⟨J1,ds,d,u1.ja,by rw[waY];exact r1,e,λv H2 J2 u2 r2=>w v H2 J2 (u1.trans u2) r2⟩
def lenS (S:Scr):D->Option D
|.scr q=>if q=S.p then some (.int S.ns.length) else none
|_=>none
def ixS (S:Scr):D->D->Option D
|.scr q,.int i=>if q=S.p then(atI S.ns i).map D.int else none
|_,_=>none
def zix {S:Scr}{d r:D}(h:lenS S d=some r):d=.scr S.p/\r=.int S.ns.length:=by
 unfold lenS at h;split at h
 .split at h
  .rename_i z;rw[z];cases h;exact⟨rfl,rfl⟩
  .cases h
 .cases h
def zj6 {S:Scr}{x y r:D}(h:ixS S x y=some r):∃i n,x=.scr S.p/\y=.int i/\atI S.ns i=some n/\r=.int n:=by
 match x,y,h with
|.scr q,.int i,h=>
   have h:(if q=S.p then(atI S.ns i).map D.int else none)=some r:=h
   by_cases z:q=S.p
   .rw[if_pos z] at h;cases hi:atI S.ns i with
   |none=>rw[hi] at h;cases h
   |some n=>rw[hi] at h;cases h;exact⟨i,n,by rw[z],rfl,hi,rfl⟩
   .rw[if_neg z] at h;cases h
def zme {α β:Type}{f:α->β}{xs:List α}{i:Int}:atI (xs.map f) i=(atI xs i).map f:=by
 unfold atI;rw[wam];cases ixN xs.length i with
|none=>rfl
|some j=>simp
def zmf {S:Scr}(hp:Prs X (SqF X.K S))(B:Blt X.mg)(ha:VE X a fa)(hg:Gl X "len":=by rfl)(h1:starEach [a] X.env=(false,eval a X.env)::starEach [] X.env:=by rfl):VE X (.Call (.Name "len" p) [a] [] pos) (e1 (lenS S) fa):=by
 obtain⟨ta,pa,ga⟩:=ha;refine⟨λY H Q=>∃Hz Jz O Z J d,ST X.K Hz Jz O Z Y H J/\e1 (lenS S) fa Z=some d/\zeX X.K H J d Q,λpins s Y H Q I hyp=>?_,λHz Jz O Z Y H J d Q st e w=>⟨Hz,Jz,O,Z,J,d,st,e,w⟩⟩;obtain⟨Hz,Jz,O,Z,J,d,st,e,w⟩:=hyp;obtain⟨x,ex,e⟩:=bind_some e;obtain⟨rfl,rfl⟩:=zix e;refine pb zeQ B PySem.boot_len (zbd pa zcS h1) (by decide +kernel) hg (by decide) (by decide) h1 rfl pins s Y H Q I ?_;refine ga Hz Jz O Z Y H J _ _ st ex λv H1 J1 u r=>?_
 cases r;refine⟨S.p,S.ns.map V.int,rfl,.inl (pers_F.sm u.same (hp _ _ _ _ I)).sq,?_⟩;rw[wam];exact w _ H1 J1 u (.int _)
def zcI {S:Scr}(hp:Prs X (SqF X.K S))(ha:VE X a fa)(hb:VE X b fb)(hs:zdx b:=by exact λ_ _=>rfl):VE X (.Subscript a b pos) (e2 (ixS S) fa fb):=by
 obtain⟨ta,pa,ga⟩:=ha;obtain⟨tb,pb,gb⟩:=hb;refine⟨λY H Q=>∃Hz Jz O Z J d,ST X.K Hz Jz O Z Y H J/\e2 (ixS S) fa fb Z=some d/\zeX X.K H J d Q,λpins s Y H Q I hyp=>?_,λHz Jz O Z Y H J d Q st e w=>⟨Hz,Jz,O,Z,J,d,st,e,w⟩⟩;obtain⟨Hz,Jz,O,Z,J,d,st,e,w⟩:=hyp;obtain⟨x,ex,e⟩:=bind_some e;obtain⟨y,ey,e⟩:=bind_some e;obtain⟨i,n,rfl,rfl,hi,rfl⟩:=zj6 e;refine zjs ix_list pa pb hs pins s Y H Q I ?_;refine ga Hz Jz O Z Y H J _ _ st ex λv H1 J1 u r=>?_
 refine gb Hz Jz O Z Y H1 J1 _ _ (st.up u) ey λv2 H2 J2 u2 r2=>?_
 cases r;cases r2;exact⟨S.p,_,i,.int n,rfl,rfl,(pers_F.sm u2.same (pers_F.sm u.same (hp _ _ _ _ I))).sq,by rw[zme,hi];rfl,w _ H2 J2 (u.trans u2) (.int _)⟩
end
section
variable {P:Program}{w:World}{K:W.Frag}{mg:Str->Option Value}{base:Heap}{Pc:Hp->Prop}
def zb1 {x qual:Str}{st:Stmt}{f:Addr}{fd:FuncData}{N ps:List Str}{k:Nat}{c:List D->Option D}(pe:Pers Pc)(F:Fun K x qual st f fd)(S:FnScope N ps (zab st))(hlen:∀ds d,c ds=some d->ds.length=ps.length)
 (hbody:∀(cdv:Value) (A:Around) (outer:List Env) (s:Shared) (H:Hp) (E:XK),fd.code=cdv->Room k (A.deeper (envOfC qual (zab st) s.heap.objs.size f cdv))->Pc H->Prs (cxOf CX0 P w K mg base N qual (zab st) f cdv A outer s H E).nox Pc->∃g,VSs (cxOf CX0 P w K mg base N qual (zab st) f cdv A outer s H E).nox (zaW st) g/\∀ds,ds.length=ps.length->EvS kF some g (ds.map SV.val++List.replicate (N.length - ps.length) .un) (c ds)):FnOk P w K mg base CX0 (k+1) f fd ps (pcS Pc (spF K c)):=by
 refine F.okC S (λvs H Q E h=>?_) (λcdv A outer s H vs Q E hcv hr h=>?_)
 .obtain⟨_,J,ds,d,ja,r,e,w⟩:=h;rw[r.length];exact hlen ds d e
 .obtain⟨hPc,J,ds,d,ja,r,e,w⟩:=h;have hl:=hlen ds d e
  obtain⟨g,⟨t,p,q⟩,ev⟩:=hbody cdv A outer s H E hcv hr hPc (Prs.of pe hPc);refine⟨t,p,?_⟩;have e:=ev ds hl d (by rw[e];rfl)
  rw[<-hl] at e;have s0:=zev (N:=N) ja r
  cases z:g (ds.map SV.val++List.replicate (N.length - ds.length) .un) with
 |none=>rw[z] at e;cases e
 |some o=>
    rw[z] at e;refine q H J Pr.no _ _ H J o _ s0 z ?_;cases o with
   |nx Z'=>cases e;exact λY' H' J' s' k'=>w .non H' J' s'.out .non
   |ret r Z'=>
      cases r with
     |told d'=>cases e;exact λv Y' H' J' s' r'=>w v H' J' s'.out r'
     |new n d'=>
        cases e;rintro v Y' H' J' s' ⟨B,fp,_,ru,_,hb,_⟩;have u:=s'.out
        refine w v H' (λb=>J' b\/b∈B) ⟨u.same,λa h=>.inl (u.jj a h),λa h=>?_,λa h=>?_⟩ (ru.rp (λ_ h=>.inl h) (λb hb=>.inr hb))
        .rcases h with h|h
         .exact u.jn a h
         .exact .inr (hb a h).2
        .rcases h with h|h
         .exact u.ja a h
         .obtain⟨o,e,_⟩:=ru.some a h;rw[e];simp
   |bk _=>cases e
   |ct _=>cases e
structure TabF (K:W.Frag)(mg:Str->Option Value)(base:Heap)(fd:FuncData)(P:Addr):Prop where
 ex:∃c bm ob,fd.code=.ref c/\CodeK K c P/\BMod base mainGlobals mg bm ob
def zfW {X:Cx}{fd:FuncData}{P:Addr}{q:Str}(T:TabF X.K X.mg X.base fd P)(hc:fd.code=X.env.code)(h:TabH P q X.Hz):TabX X q:=by
 obtain⟨c,bm,ob,e1,e2,e3⟩:=T.ex;exact⟨c,P,bm,ob,by rw[<-hc];exact e1,e2,e3,h⟩
end
end VD
namespace L2
open PySem PySem.Spec PyProof PyProof.Rows
section
variable {X:Cx}
end
end L2
namespace VD
open PySem PySem.Spec PyProof PyProof.Rows L2 PySem.W
section
variable {X:Cx}{a b e:Expr}{fa fb:FE}
end
end VD
namespace HT
open PySem PySem.Spec PyProof PyProof.Rows
section
variable {prog:Program}{w:World}{A:Around}{E:Value->Shared->Prop}{s:Shared}
end
end HT
namespace L2
open PySem PySem.Spec PyProof PyProof.Rows
section
variable {X:Cx}
end
end L2
namespace VD
open PySem PySem.Spec PyProof PyProof.Rows L2 PySem.W
section
variable {X:Cx}{a:Expr}{fa:FE}{p2 pos:Pos}
end
end VD
namespace VD
open PySem PySem.Spec PyProof PyProof.Rows L2
def ix2C (xs:List D)(k:D):Option D:=(dInt k).bind λk=>(atI xs k).bind λd=>match d with|.lst es=>some (.lst es)|_=>none
def zj7 (xs:List D)(es:List D)(k:D):Option (List D):=(dInt k).bind λk=>(ixN xs.length k).bind λj=>match xs[j]? with
|some (.lst _)=>some (xs.set j (.lst es))
|_=>none
def zmg (xs:List D)(k d:D):Option (List D):=(dInt k).bind λk=>(ixN xs.length k).bind λj=>match xs[j]? with
|some (.lst es)=>if es.length<lim then some (xs.set j (.lst (es++[d]))) else none
|_=>none
section
variable {Z:En}{xs:List D}{i:Nat}{fk fv:FE}{f:FA}
def zmh (h:ownD (Z[i]?)=some (2,.lst xs)):Step (zl2 i fk f) Z ((f Z).bind λes=>(fk Z).bind λk=>zj7 xs es k) λys=>setO Z i (.lst ys):=λd z=>by
 obtain⟨es,e0,z⟩:=zag z;obtain⟨k,e1,z⟩:=zag z;obtain⟨kk,e2,z⟩:=zag z;obtain⟨j,e3,z⟩:=zag z;unfold zl2;rw[e0,zOB,e1,zOB,e2,zOB,h];show(ixN xs.length kk).bind _=_
 rw[e3,zOB];split at z
 .rename_i q;cases z;first|rw[q]|rfl
 .cases z
def zmi (h:ownD (Z[i]?)=some (2,.lst xs)):Step (zl0 i fk fv) Z ((fk Z).bind λk=>(fv Z).bind λd=>zmg xs k d) λys=>setO Z i (.lst ys):=λd z=>by
 obtain⟨k,e1,z⟩:=zag z;obtain⟨x,e0,z⟩:=zag z;obtain⟨kk,e2,z⟩:=zag z;obtain⟨j,e3,z⟩:=zag z;unfold zl0;rw[e1,zOB,e2,zOB,e0,zOB,h];show(ixN xs.length kk).bind _=_
 rw[e3,zOB];split at z
 .rename_i es q
  try rw[q]
  split at z
  .rename_i hl;cases z;exact if_pos hl
  .cases z
 .cases z
end
section
variable {S:Type}{emb:S->En}{Z:En}{s:S}{f:FX}{x:Option (D×S)}
end
end VD
namespace VD
open PySem PySem.Spec PyProof PyProof.Rows L2 PySem.W
section
variable {X:Cx}{a b e e1':Expr}{es:List Expr}{fa fb:FE}{fl:FA}{p pos:Pos}{Pc:Hp->Prop}
end
end VD
namespace VD
open PySem PySem.Spec PyProof PyProof.Rows L2
section
variable {X:Cx}{i b:Expr}{ty:TE}{pos p':Pos}{x:Str}
end
section
variable {X:Cx}{e:Expr}{fa:FE}{fl:FA}{pos pos':Pos}{x:Str}
def vsS (i:Nat)(hN:X.N.Nodup)(h:VE X e fa)(hi:X.N[i]?=some x:=by rfl)(hx:Loc X.env.scope x:=by first|exact Or.inl rfl|exact Or.inr rfl)(hs:swapsWith e (some (.Name x pos')) pos.line X.env=pure false:=by rfl)(hf:X.fn x=true\/X.env.scope.names.lookup x=some .local:=by first|exact .inl rfl|exact .inr rfl|assumption) :
 VS X (.Assign [.Name x pos'] e pos) (gSet i fa):=znM hN hi hx h hs hf
def vsO (i:Nat)(hN:X.N.Nodup)(h:VN X e fl)(hi:X.N[i]?=some x:=by rfl)(hx:Loc X.env.scope x:=by first|exact Or.inl rfl|exact Or.inr rfl)(hs:swapsWith e (some (.Name x pos')) pos.line X.env=pure false:=by rfl)(hf:X.fn x=true\/X.env.scope.names.lookup x=some .local:=by first|exact .inl rfl|exact .inr rfl|assumption) :
 VS X (.Assign [.Name x pos'] e pos) (gOwn i fl):=znN hN hi hx h hs hf
def vgN (i:Nat)(hN:X.N.Nodup)(hi:X.N[i]?=some x:=by rfl)(hx:Loc X.env.scope x:=by first|exact Or.inl rfl|exact Or.inr rfl)(hf:X.fn x=true\/X.env.scope.names.lookup x=some .local:=by first|exact .inl rfl|exact .inr rfl|assumption):VG X (.Name x pos) [i] (gN i):=zlW hN hi hx hf
def vgc (i:Nat){X:Cx}{scope:Scope}{cl:List (Str×Addr)}{NC:List Str}{C:Addr}{s0:Shared}{H0:Hp}{ex:List Addr}{pn:List (Addr×Obj)}{x:Str}{pos:Pos}(nd:NC.Nodup:=by decide +kernel)(hi:NC[i]?=some x:=by rfl)(hx:scope.names.lookup x=some .local:=by rfl):VG (cxC X scope cl NC C s0 H0 ex pn) (.Name x pos) [i] (gN i):=vgC i nd hi hx
def fsc {N P:List Str}{sc:Scope}(a:sc.kind=.function:=by rfl)(b:sc.isCoroutine=false:=by rfl)(c:sc.isGenerator=false:=by rfl)(d:N.Nodup:=by decide +kernel)(e:N.take P.length=P:=by rfl)(f:∀x∈P,sc.names.lookup x=some .local\/sc.names.lookup x=some .cell:=by decide +kernel)(g:∀y∈sc.names,y.2≠.free:=by decide +kernel):FnScope N P sc:=⟨a,b,c,d,e,f,g⟩
def vnC (N:List Str)(st:Stmt){X:Cx}{elt iter tg:Expr}{ifs:List Expr}{scope:Scope}{pos:Pos}{NC:List Str}(fr:List (Option Nat)){fi:FA}{g:FG}{is:List Nat}{ft:FT}{fe:FE}(hi:VI X tg iter fi)
 (hg:∀{cl C s0 H0 ex pn},VG (cxC X scope cl NC C s0 H0 ex pn) tg is g) (ht:∀{cl C s0 H0 ex pn},VTs (cxC X scope cl NC C s0 H0 ex pn) ifs ft) (he:∀{cl C s0 H0 ex pn},VE (cxC X scope cl NC C s0 H0 ex pn) elt fe)
 (hcalm:X.calm=true:=by rfl) (hcells:∀x,X.env.scope.names.lookup x=some .cell->∃c,X.env.cells.lookup x=some c:=by exact λx h=>zbC h) (hfk:X.env.scope.kind=.function:=by rfl) (hN:X.N=N:=by rfl) (hsc:X.env.scope.names=(zab st).names:=by rfl)
 (hfree':∀y∈scope.names,y.2=.free->(zab st).names.lookup y.1=some .cell:=by decide +kernel) (hcell:∀y∈scope.names,y.2≠.cell:=by decide +kernel) (hkind:scope.kind=.function:=by rfl) (hnames:∀y∈scope.names,y.2=.local->scope.names.lookup y.1=some .local:=by decide +kernel)
 (hfr':zbW N (zab st).names scope.names NC fr=true:=by decide +kernel) (hlen:fr.length=NC.length:=by rfl) (hap:apart is fr=true:=by decide)
 (hs:∀x,foldedSetIterable iter X.env x=pure x:=by intro _;rfl):VN X (.ListComp elt [⟨tg,iter,ifs,0⟩] scope pos) (zet fr fi g ft fe):=
 zlX N st fr hcalm hi hcells hfk hN hsc hfree' hcell hkind hnames hfr' hlen hap (λ_ _ _ _ _ _=>hg) (λ_ _ _ _ _ _=>ht) (λ_ _ _ _ _ _=>he) hs
end
end VD
namespace EX
open PySem PySem.Spec PySem.W PyProof.Rows
section
variable {prog:Program}{w:World}{A:Around}{E:Value->Shared->Prop}{h:Heap}{g:Array GenState}{d:Drawn}{t:Nat}{os:OsState}
variable {nm q:Str}{C N:Addr}{bs bm bmB:List Value}{hdct:Bool}{sn:List Str}{sub:List Value}{ab:Bool}{col:Option Bool}{dd:Option Addr}{k0 k1 k2 k3 k5:Option Value}{B newId initId:String}
end
section
variable {prog:Program}{w:World}{A:Around}{E:Value->Shared->Prop}{h:Heap}{g:Array GenState}{d:Drawn}{t:Nat}{os:OsState}
variable {nm q:Str}{C N:Addr}{bs bm bmB:List Value}{hdct:Bool}{sn:List Str}{sub:List Value}{ab:Bool}{col:Option Bool}{dd:Option Addr}{k0 k1 k2 k3 k5:Option Value}{B newId:String}
end
structure XC (K:Frag)(C N:Addr)(bm:List Value):Prop where
 obj:∃nm q bs hdct sn sub ab col dd k0 k1 k2 k3 k5,K.lookup C=some (excClassObj nm q C N bs bm hdct sn sub ab col dd k0 k1 k2 k3 k5 "ValueError.__new__")
 tail:∀h:Heap,K.In h->OwnTail h [.type "ValueError",.type "Exception",.type "BaseException",.type "object"] bm
 opq:nsIn K cStatics "thirdparty.any"=some none
 self:mroIn K C (.ref C)=some true
section
variable {prog:Program}{w:World}{A:Around}{E:Value->Shared->Prop}{h:Heap}{g:Array GenState}{d:Drawn}{t:Nat}{os:OsState}
variable {C N:Addr}{bm:List Value}{K:Frag}{env:Env}{body:List Stmt}{p0 p1 ap cp:Pos}{J:Expr}{f cda cc e t0:Addr}{of ocd:Obj}{fd:FuncData}{ar:Arg}{vs:Array Value}{file:Str}{tf:Tok}{mg mb m:Str->Option Value}{dx:Option Addr}
end
open Builtin.ObjectAttr
section
variable {prog:Program}{w:World}{A:Around}{E:Value->Shared->Prop}{h:Heap}{g:Array GenState}{d:Drawn}{t:Nat}{os:OsState}
variable {C N x:Addr}{K:Frag}{o:Obj}{name:Str}{v:Value}{Q:Unit->Shared->Prop}{R:Result->Shared->Prop}{s:Shared}
end
section
variable {prog:Program}{w:World}{A:Around}{E:Value->Shared->Prop}{h:Heap}{g:Array GenState}{d:Drawn}{t:Nat}{os:OsState}
variable {C N fI:Addr}{bm:List Value}{slf x nm:Str}{J:Expr}{fd:FuncData}{K:Frag}
end
end EX
namespace EX
open PySem PySem.Spec PyProof.Rows L2
def XAt (h0:Heap)(H:Hp)(h:Heap)(e:Addr)(cls:Value)(dx:Option Addr):Prop:=
 h0.objs.size<=e/\H e=none/\(∀d,dx=some d->h0.objs.size<=d)/\∃vs sl,h.get? e=some ⟨cls,dx,.fields vs,sl⟩ /\(vs[1]?=some .none\/∃T oT ts,vs[1]?=some (.ref T)/\T≠e/\h0.objs.size<=T/\H T=none/\h.get? T=some oT/\oT.data=.fields ts/\ts[3]?=some .none)
structure LeftX (h0:Heap)(H:Hp)(l:List Env)(base h h':Heap)(e:Addr)(cls:Value)(dx:Option Addr):Prop where
 funs:h'.FunFrames base l
 size:h.objs.size<=h'.objs.size
 keep:∀b o,h.get? b=some o->(b<h0.objs.size\/H b≠none)->b∉frs l->h'.get? b=some o
 slot:∀b o,h.get? b=some o->(b<h0.objs.size\/H b≠none)->∃sl,h'.get? b=some {o with slots:=sl}
 at_:XAt h0 H h' e cls dx
section
variable {M:Model}{A:Around}{E:Value->Shared->Prop}{s:Shared}{h0 base:Heap}{H:Hp}{env:Env}{outer:List Env}{L e:Addr}{cls:Value}{dx:Option Addr}{vs:Array Value}{sl:Array (Option Value)}
def ze6 {head:Value}{hadNext:Bool}{Q:Unit->Shared->Prop}(hfr:A.frames=some (env::outer))(hl:s.heap.FunFrames base (env::outer))(hf:env.frame=some L)
 (e0:h0.objs.size<=e) (eH:H e=none) (eD:∀d,dx=some d->h0.objs.size<=d) (he:s.heap.get? e=some ⟨cls,dx,.fields vs,sl⟩) (hsz:1<vs.size) (hz:h0.objs.size<=s.heap.objs.size) (hH:∀b,s.heap.objs.size<=b->H b=none)
 (h:∀h',LeftX h0 H (env::outer) base s.heap h' e cls dx->Q () {s with heap:=h'}) :
 wpAny M A (do let a <-frameOf env;let pl <-entryPlaceOf L hadNext;let b <-EntryCells.newEntry head a .none (rawInt L) .none pl;setField (.ref e) 1 b) (λ_ s'=>wpAny M A (setFlight (.ref e) none) Q E s') E s:=by
 have hene:e∉(env::outer).filterMap (·.frame):=λhm=>by
  obtain⟨_,o,ho,hnf⟩:=hl.mem hm;rw[he] at ho;injection ho with ho;subst ho;exact hnf vs rfl
 refine waa (wpAny_frameOf_fun hfr hl hf λh₁ hs₁=>?_);refine waa (wpAny_entryPlaceOf λpl hpl=>?_);unfold EntryCells.newEntry newFields;refine waa (wbf ?_ (hpl.sizeOk5 _ _ _ _ _));have he₁:h₁.get? e=some ⟨cls,dx,.fields vs,sl⟩:=(hs₁.2.1 e hene).trans he
 have he₂:=wac (h:=h₁) {cls:=.type "traceback",dict:=none,data:=.fields ([head,.ref L,.none,rawInt L,.none]++(if pl.isEmpty then List.replicate 6 Value.none else pl)).toArray} he₁
 refine wbU he₂ rfl hsz ?_;have hTe:h₁.objs.size≠e:=Nat.ne_of_gt (waj he₁)
 have hd₃:=wbn (o:=⟨cls,dx,.fields vs,sl⟩) rfl (·.setIfInBounds 1 (Value.ref h₁.objs.size))
 have he₃:=wbk (Obj.mapFields (·.setIfInBounds 1 (Value.ref h₁.objs.size))) he₂ (wbN hd₃)
 have hT₃:=(waF (h₁.push {cls:=.type "traceback",dict:=none,data:=.fields ([head,.ref L,.none,rawInt L,.none]++(if pl.isEmpty then List.replicate 6 Value.none else pl)).toArray})
  (Obj.mapFields (·.setIfInBounds 1 (Value.ref h₁.objs.size))) (Ne.symm hTe)).trans (wav h₁ rfl)
 unfold setFlight;refine waa (wbo he₃ hd₃ (x:=.ref h₁.objs.size) (by simp[hsz]) ?_);rw[if_pos (show(Value.ref h₁.objs.size != Value.none)=true from by simp)];refine wbU hT₃ rfl (by simp only[wab,wap,wbp,wcu] <;> omega) (h _ ?_);have keep:∀b o,b≠e->h₁.get? b=some o->
  (((h₁.push {cls:=.type "traceback",dict:=none,data:=.fields ([head,.ref L,.none,rawInt L,.none]++(if pl.isEmpty then List.replicate 6 Value.none else pl)).toArray}).update e (Obj.mapFields (·.setIfInBounds 1 (Value.ref h₁.objs.size)))).update h₁.objs.size
    (Obj.mapFields (·.setIfInBounds 3 ((none:Option Addr).elim Value.none λf=>rawInt f)))).get? b=some o:=λb o hbe hb=>by
  have hbT:h₁.objs.size≠b:=Nat.ne_of_gt (waj hb)
  rw[waF _ _ hbT,waF _ _ (Ne.symm hbe)];exact wac _ hb
 have noRecord:∀b o,s.heap.get? b=some o->(∀vs,o.data≠.fields vs)->b≠e:=λb o hb hnf q=>by
  rw[q,he] at hb;injection hb with hb;subst hb;exact hnf vs rfl
 have ne:∀b,(b<h0.objs.size\/H b≠none)->b≠e:=λb z q=>by rw[q] at z;exact z.elim (λz=>absurd z (Nat.not_lt.mpr e0)) λz=>z eH
 have hn0:h0.objs.size<=h₁.objs.size:=by rw[hs₁.1];exact hz
 refine⟨hl.of_keeps λb o hb hnf=>?_,?_,λb o hb z hbf=>keep b o (ne b z) ((hs₁.2.1 b hbf).trans hb),λb o hb z=>?_,e0,eH,eD,?_⟩
 .obtain⟨sl,hs⟩:=hs₁.2.2 b o hb;exact⟨_,keep b _ (noRecord b o hb hnf) hs,rfl⟩
 .rw[wbs,wbs,wby,hs₁.1];exact wbW _
 .obtain⟨sl,hs⟩:=hs₁.2.2 b o hb;exact⟨sl,keep b _ (ne b z) hs⟩
 .refine⟨vs.setIfInBounds 1 (.ref h₁.objs.size),sl,?_,.inr ⟨h₁.objs.size,_,_,by simp[hsz],hTe,hn0,hH _ (by rw[hs₁.1];exact wai _),wbk _ hT₃ (wbN (wbn rfl _)),wbn rfl _,by first|(simp;done)|(rcases hpl with rfl|⟨_,_,_,_,_,_,_,rfl⟩ <;> simp)⟩⟩;rw[waF _ _ hTe];exact he₃
def zn7 {Q:Unit->Shared->Prop}(hfr:A.frames=some (env::outer))(hl:s.heap.FunFrames base (env::outer))(hf:env.frame=some L)(X:XAt h0 H s.heap e cls dx)
 (hz:h0.objs.size<=s.heap.objs.size) (hH:∀b,s.heap.objs.size<=b->H b=none)
 (h:∀h',LeftX h0 H (env::outer) base s.heap h' e cls dx->Q () {s with heap:=h'}):wpAny M A (noteFrame (.ref e) env) (λ_ s'=>wpAny M A (setFlight (.ref e) none) Q E s') E s:=by
 obtain⟨e0,eH,eD,vs,sl,he,h1|⟨T,oT,ts,h1,hTe,hnT,HT,hT,hdT,h3⟩⟩:=X
 .unfold noteFrame;simp only[hf];refine waa (wbo he rfl h1 ?_);rw[if_neg (by decide)];exact ze6 hfr hl hf e0 eH eD he (waU.mp h1).1 hz hH h
 .unfold noteFrame;simp only[hf];refine waa (wbo he rfl h1 ?_);rw[if_pos (show(Value.ref T != Value.none)=true from by simp)];refine waa (wbo hT hdT h3 ?_);rw[if_neg (show ¬((Value.none == rawInt L)=true) from by simp[rawInt])];refine waa (wbU hT hdT (waU.mp h3).1 ?_);have other:∀b,b≠T->(s.heap.update T (Obj.mapFields (·.setIfInBounds 3 Value.none))).get? b=s.heap.get? b:=λb hb=>waF _ _ (Ne.symm hb)
  have noRecord:∀b o,s.heap.get? b=some o->(∀vs,o.data≠.fields vs)->b≠T:=λb o hb hnf q=>by
   rw[q,hT] at hb;injection hb with hb;subst hb;exact hnf ts hdT
  have ne:∀b,(b<h0.objs.size\/H b≠none)->b≠T:=λb z q=>by rw[q] at z;exact z.elim (λz=>absurd z (Nat.not_lt.mpr hnT)) λz=>z HT
  refine ze6 hfr (hl.of_keeps λb o hb hnf=>⟨o,(other b (noRecord b o hb hnf)).trans hb,rfl⟩) hf e0 eH eD ((other e (Ne.symm hTe)).trans he) (waU.mp h1).1
   (by show _<=(s.heap.update T _).objs.size;rw[wbs];exact hz) (λb hb=>hH b (by rw[<-wbs s.heap T];exact hb))
   λh' ⟨x1,x2,x3,x4,x5⟩ =>h h' ⟨x1,by rw[<-wbs s.heap T];exact x2,λb o hb z hbf=>x3 b o ((other b (ne b z)).trans hb) z hbf,λb o hb z=>x4 b o ((other b (ne b z)).trans hb) z,x5⟩
def zn8 {Q:Unit->Shared->Prop}(hfr:A.frames=some (env::outer))(hl:s.heap.FunFrames base (env::outer))(hf:env.frame=some L)(X:XAt h0 H s.heap e cls dx)
 (hz:h0.objs.size<=s.heap.objs.size) (hH:∀b,s.heap.objs.size<=b->H b=none)
 (h:∀h',LeftX h0 H (env::outer) base s.heap h' e cls dx->Q () {s with heap:=h'}):wpAny M A (leaving env (.ref e)) Q E s:=waa (zn7 hfr hl hf X hz hH h)
end
def CXE (P:Program)(w:World):CXT:=λouter H s E e s'=>∃a cls dx H',e=.ref a/\XAt s.heap H' s'.heap a cls dx/\s'.os=s.os/\AllBare s'.gens/\Un (frs outer) [] H H' s.heap s'.heap/\HOk P w H' s'.heap/\E cls dx H'
def zgA (X:Cx)(E:XK):Prop:=∀(pins:List (Addr×Obj)) (Y:L2.St) (H:Hp) (s:Shared) (a:Addr) (cls:Value) (dx:Option Addr),Inv X pins Y H s->XAt X.s₀.heap H s.heap a cls dx->E cls dx H->X.xe (.ref a) s
def zkY {X:Cx}{pins:List (Addr×Obj)}{Y:L2.St}{H:Hp}{s s':Shared}{E:XK}{e:Value}(I:Inv X pins Y H s)(h:CXE X.prog X.w X.stack H s E e s') :
 ∃a cls dx H',e=.ref a/\Inv X pins Y H' s'/\XAt s.heap H' s'.heap a cls dx/\E cls dx H':=by
 obtain⟨a,cls,dx,H',rfl,x,os,bare,un,hok,q⟩:=h;exact⟨a,cls,dx,H',rfl,I.call' (ch:=[]) os un hok bare (λb z=>absurd z (by simp)),x,q⟩
def ziy {P:Program}{w:World}{K:W.Frag}{mg:Str->Option Value}{base:Heap}{N:List Str}{qual:Str}{scope:Scope}{f:Addr}{cd:Value}{A:Around}{outer:List Env}{s:Shared}{H:Hp}{E:XK} :
 zgA (cxOf (CXE P w) P w K mg base N qual scope f cd A outer s H E) E:=by
 intro pins Y H1 s1 a cls dx I x q;have nl:∀b,b<s.heap.objs.size->b∉frs outer->b∉frs (envOfC qual scope s.heap.objs.size f cd::outer):=λb hb hn hm=>by
  rcases waf.mp (I.stkSub b hm) with z|z
  .exact absurd hb (Nat.not_lt.mpr (by rw[z];exact I.ok.above))
  .exact hn z
 refine zn8 (M:=model P w) (h0:=s.heap) (H:=H1) I.ok.frames I.stack rfl x I.sz (λb hb=>I.hok.fresh hb) λh' L=>?_
 refine⟨a,cls,dx,H1,rfl,L.at_,I.os,I.bare,⟨λb o e n hf hx=>?_,λb o e n hf hx=>?_,I.base.free,λb o e hx=>?_,I.base.tups,I.base.frzs,I.base.tbls⟩,λb u e=>?_,q⟩
 .exact L.keep b o (I.base.keep b o e n hf hx) (.inl (waj e)) (nl b (waj e) hf)
 .obtain⟨sl,z⟩:=I.base.slot b o e n hf hx;obtain⟨sl',z'⟩:=L.slot b _ z (.inl (waj e));exact⟨sl',z'⟩
 .obtain⟨o',z⟩:=I.base.there b o e hx;obtain⟨sl',z'⟩:=L.slot b _ z (.inl (waj e));exact⟨_,z'⟩
 .refine(I.hok b u e).stay (λc v hc q=>L.keep c v q ?_ ?_) (λ_ q=>q) λ_ _ _ q=>q
  .rcases hc with z|z
   .rw[z,e];exact .inr (by simp)
   .rw[z];exact .inr (by simp)
  .intro hm;have:=I.stkFree c hm
   rcases hc with z|z
   .rw[z,e] at this;cases this
   .rw[z] at this;cases this
section
variable {M:Model}{A:Around}{E:Value->Shared->Prop}{env:Env}
variable {nm q:Str}{C N:Addr}{bs bm:List Value}{hdct:Bool}{sn:List Str}{sub:List Value}{ab:Bool}{col:Option Bool}{dd:Option Addr}{k0 k1 k2 k3 k5:Option Value}{newId:String}
def zg3 {s:Shared}{x:Sem Value}{Q:Flow->Shared->Prop}(hbase:bm.contains (.type "BaseException")=true)(hh:A.handled=none)
 (h:wpAny M A x (λv s₁=>∃e t dx,v=.ref e/\s₁.heap.get? C=some (excClassObj nm q C N bs bm hdct sn sub ab col dd k0 k1 k2 k3 k5 newId)/\
  s₁.heap.get? e=some {cls:=.ref C,dict:=dx,data:=.fields #[.ref t,.none,.none,.none,.bool false,.none]}/\E (.ref e) s₁) E s) :
 wpAny M A (raiseStmt env (some x) none) Q E s:=by
 have hcB:(Value.ref C::bm).contains (.type "BaseException")=true:=by rw[List.contains_cons,hbase,Bool.or_true]
 unfold raiseStmt;refine waa (wax h (λv s₁ h₁=>?_) λ_ _ x=>x);obtain⟨e,t,dx,rfl,hC,he,hE⟩:=h₁;obtain⟨hp,g,d,tk,os⟩:=s₁;repeat (first|with_reducible refine wbQ he ?_|with_reducible refine wbQ hC ?_|(with_reducible refine wpAny_isSubtype_exc hC ?_;rw[hcB])|wp_step)
 exact wpAny_raiseNew_none hh hE
end
section
variable {X:Cx}{C N fI:Addr}{bm:List Value}{slf x nm cn:Str}{J e:Expr}{fd:FuncData}{te:TA}{E:XK}{np cp pos:Pos}{k:Nat}
end
def XP (X:Cx)(pins:List (Addr×Obj))(Y:L2.St)(E:XK)(e:Value)(s':Shared):Prop:=∃H1 s1,Inv X pins Y H1 s1/\CXE X.prog X.w X.stack H1 s1 E e s'
section
variable {X:Cx}{pins:List (Addr×Obj)}{Y:L2.St}{E:XK}{e:Value}{s':Shared}{Ex:Value->Shared->Prop}
def zj8 {Q:Unit->Shared->Prop}(hst:X.stack=X.env::X.outer)(hf:X.env.frame=some X.env.locals)(h:XP X pins Y E e s')(hq:∀h',XP X pins Y E e {s' with heap:=h'}->Q () {s' with heap:=h'}) :
 wpAny (model X.prog X.w) X.A (noteFrame e X.env) (λ_ s2=>wpAny (model X.prog X.w) X.A (setFlight e none) Q Ex s2) Ex s':=by
 obtain⟨H1,s1,I1,hc⟩:=h;obtain⟨_,_,_,_,_,J,_,_⟩:=zkY I1 hc;obtain⟨a,cls,dx,H',rfl,x,os,bare,un,hok,q⟩:=hc;have hz:s1.heap.objs.size<=s'.heap.objs.size:=by
  obtain⟨e0,_,_,vs,sl,he,_⟩:=x;exact waq e0 (wbu (waj he))
 refine zn7 (M:=model X.prog X.w) (h0:=s1.heap) (H:=H') (base:=X.base) (outer:=X.outer) (by rw[<-hst];exact I1.ok.frames) (by rw[<-hst];exact J.stack) hf x hz (λb hb=>hok.fresh hb) λh' L=>hq h' ?_
 rw[<-hst] at L;refine⟨H1,s1,I1,a,cls,dx,H',rfl,L.at_,os,bare,⟨λb o e n hf hx=>L.keep b o (un.keep b o e n hf hx) (.inl (waj e)) hf,λb o e n hf hx=>?_,un.free,λb o e hx=>?_,un.tups,un.frzs,un.tbls⟩,λb u e=>?_,q⟩
 .obtain⟨sl,z⟩:=un.slot b o e n hf hx;obtain⟨sl',z'⟩:=L.slot b _ z (.inl (waj e));exact⟨sl',z'⟩
 .obtain⟨o',z⟩:=un.there b o e hx;obtain⟨sl',z'⟩:=L.slot b _ z (.inl (waj e));exact⟨_,z'⟩
 .refine(hok b u e).stay (λc v hc q=>L.keep c v q ?_ ?_) (λ_ q=>q) λ_ _ _ q=>q
  .rcases hc with z|z
   .rw[z,e];exact .inr (by simp)
   .rw[z];exact .inr (by simp)
  .intro hm;have:=un.free c
   have fr:=I1.stkFree c hm
   obtain⟨_,o,ho,_⟩:=I1.stack.mem hm;have h0:=un.free c o ho fr (by simp)
   rcases hc with z|z
   .rw[z,e] at h0;cases h0
   .rw[z] at h0;cases h0
end
def ze7 {M:Model}{A:Around}{Ex:Value->Shared->Prop}{K:W.Frag}{s:Shared}{a C CT:Addr}{oe:Obj}{b:Bool}{Q:Bool->Shared->Prop}(X:K.In s.heap)(he:s.heap.get? a=some oe)(hc:oe.cls=.ref C)
 (hb:PySem.W.mroIn K CT (.type "BaseException")=some true) (ht:PySem.W.typeIn K (.ref CT)=some (.type "type")) (hm:PySem.W.mroIn K C (.ref CT)=some b) (hq:Q b s):wpAny M A (excMatches (.ref a) (.ref CT)) Q Ex s:=by
 obtain⟨hp,g,d,t,os⟩:=s;have L1:=PySem.W.looks_mroIn (M:=M) X hb
 have L2:=PySem.W.looks_mroIn (M:=M) X hm
 have L3:=PySem.W.looks_typeIn (M:=M) X ht
 obtain⟨cd,hcd,-⟩:=Option.bind_eq_some_iff.mp hb;obtain⟨oC,hoC,hdC⟩:∃oC,hp.get? CT=some oC/\oC.data=.cls cd:=by
  unfold PySem.W.clsIn at hcd;split at hcd
  .rename_i ho;cases hcd;exact⟨_,X _ _ ho,rfl⟩
  .cases hcd
 have f:=tc_notTuple
 have f':PySem.W.Looks M hp (isSubtype (.type "type") (.type "tuple")) false:=.of_pure f
 have T:PySem.W.Looks M hp (isInstance (.ref CT) (.type "tuple")) false:=L3.andThen f'
 have B:PySem.W.Looks M hp (isExcClass (.ref CT)) true:=by
  refine PySem.W.Looks.andThen (a:=true) ?_ L1;exact(PySem.W.Looks.ld (part:=some PySem.headPart) hoC).andThen (by rw[hdC];exact .now)
 have Y:PySem.W.Looks M hp (typeOf (.ref a)) (.ref C):=(PySem.W.Looks.ld he).andThen (by rw[hc];exact .now)
 unfold excMatches;refine waa (T.here ?_);simp only[wcc,if_false];refine waa (wak ?_);simp only[List.forIn_cons,List.forIn_nil];refine waa (waa (waa (B.here ?_)));simp only[Bool.not_true,wcc,if_false];refine wak (wak (waa (Y.here (waa (waa (waa (L2.here ?_)))))));cases b with
|true=>exact wak (wak (wak hq))
|false=>exact wak (wak (wak hq))
section
variable {X:Cx}{pins:List (Addr×Obj)}{Y:L2.St}{H:Hp}{s:Shared}
def zcY {M:Model}{A:Around}{E:Value->Shared->Prop}{i:Nat}{x:Str}{pos:Pos}{Q:Unit->Shared->Prop}(I:Inv X pins Y H s)(hN:X.N.Nodup)(hi:X.N[i]?=some x)(hk:X.env.kindOf x=some .local)
 (h:∀s',Inv X pins (Y.set i none) H s'->Q () s'):wpAny M A (do bindName X.env x .none;unbindBehindTheSuite X.env x pos) Q E s:=by
 obtain⟨m,hn,hl⟩:=id I.loc;have hcls:(X.env.scope.kind == .class||(X.env.scope.kind == .module&&X.env.locals != X.env.globals))=false:=by rw[I.ok.kind];rfl
 have hiσ:i<Y.length:=by rw[I.len];exact(wae.mp hi).1
 have cne:=I.cne
 have tracked:∀{a:Addr}{h':Heap},(∃o,s.heap.get? a=some o/\H a=none)->Heap.SameBut a s.heap h'->HOk X.prog X.w H h':=λ{a h'} ha hs b ob e=>by
  obtain⟨_,_,hfree⟩:=ha;refine(I.hok b ob e).stay (λc w' hc q=>(hs.2 c ?_).trans q) (λ_ q=>q) λ_ _ _ q=>q
  rintro rfl;rcases hc with rfl|hc
  .rw[hfree] at e;cases e
  .rw[hfree] at hc;cases hc
 refine wpAny_nameGoes_keeps hk hn hcls λh' v hn' hs=>?_
 obtain⟨oL,_,_,hoL,_⟩:=id hn;refine h _ ⟨I.ok,I.os,I.bare,⟨λb o e n hb hx=>?_,λb o e n hb hx=>?_,I.base.free,λb o e hx=>?_,I.base.tups,I.base.frzs,I.base.tbls⟩,⟨_,hn',λj y v' e1 e2 e3=>?_⟩,λy c e=>?_,I.free,I.freeC,λp hp=>?_,tracked ⟨oL,hoL,I.free⟩ hs,by simpa using I.len⟩
 .exact(hs.2 b (way (wao (waj e) I.ok.above))).trans (I.base.keep b o e n hb hx)
 .obtain⟨sl,e1⟩:=I.base.slot b o e n hb hx;exact⟨sl,(hs.2 b (way (wao (waj e) I.ok.above))).trans e1⟩
 .obtain⟨o',e1⟩:=I.base.there b o e hx;exact⟨o',(hs.2 b (way (wao (waj e) I.ok.above))).trans e1⟩
 .by_cases hj:j=i
  .subst hj;rw[waw hiσ] at e2;cases e2
  .rw[wag (Ne.symm hj)] at e2;obtain⟨u',r',q⟩:=hl j y v' e1 e2 e3;refine⟨u',r',?_⟩;rcases q with⟨k,e⟩|⟨k,c,e,z⟩
   .refine .inl ⟨k,?_⟩;have:y≠x:=λe=>hj (zej hN e1 (e▸hi))
    simp[this,e]
   .exact .inr ⟨k,c,e,z.sameBut hs (cne y c e)⟩
 .obtain⟨w',z⟩:=I.cell y c e;exact⟨w',z.sameBut hs (cne y c e)⟩
 .obtain⟨e,n,ne,nf,d⟩:=I.pin p hp;exact⟨(hs.2 p.1 ne).trans e,n,ne,nf,d⟩
def zg4 {M:Model}{A:Around}{E:XK}{e:Value}{s':Shared}{Ex:Value->Shared->Prop}{Q:Unit->Shared->Prop}(h:XP X pins Y E e s')(hq:∀h',XP X pins Y E e {s' with heap:=h'}->Q () {s' with heap:=h'}) :
 wpAny M A (setFlight e none) Q Ex s':=by
 obtain⟨H1,s1,I1,hc⟩:=h;obtain⟨a,cls,dx,H',rfl,x,os,bare,un,hok,q⟩:=id hc;obtain⟨e0,eH,eD,vs,sl,he,h1|⟨T,oT,ts,h1,hTe,hnT,HT,hT,hdT,h3⟩⟩:=id x
 .unfold setFlight;refine waa (wbo he rfl h1 ?_);rw[if_neg (by decide)];exact wak (hq s'.heap ⟨H1,s1,I1,hc⟩)
 .unfold setFlight;refine waa (wbo he rfl h1 ?_);rw[if_pos (show(Value.ref T != Value.none)=true from by simp)];refine wbU hT hdT (waU.mp h3).1 ?_;have other:∀b,b≠T->(s'.heap.update T (Obj.mapFields (·.setIfInBounds 3 Value.none))).get? b=s'.heap.get? b:=λb hb=>waF _ _ (Ne.symm hb)
  have ne1:∀b o,s1.heap.get? b=some o->b≠T:=λb o e z=>absurd (waj e) (Nat.not_lt.mpr (by rw[z];exact hnT))
  have self:(s'.heap.update T (Obj.mapFields (·.setIfInBounds 3 Value.none))).get? T=some _:=wbk _ hT (wbN (wbn hdT _))
  refine hq _ ⟨H1,s1,I1,a,cls,dx,H',rfl,⟨e0,eH,eD,vs,sl,(other a (Ne.symm hTe)).trans he,.inr ⟨T,_,_,h1,hTe,hnT,HT,self,wbn hdT _,by simp[(waU.mp h3).1]⟩⟩,os,bare,⟨λb o e n hf hx=>(other b (ne1 b o e)).trans (un.keep b o e n hf hx),λb o e n hf hx=>?_,un.free,λb o e hx=>?_,un.tups,un.frzs,un.tbls⟩,λb u e=>?_,q⟩
  .obtain⟨sl,z⟩:=un.slot b o e n hf hx;exact⟨sl,(other b (ne1 b o e)).trans z⟩
  .obtain⟨o',z⟩:=un.there b o e hx;exact⟨o',(other b (ne1 b o e)).trans z⟩
  .refine(hok b u e).stay (λc v hc q=>(other c ?_).trans q) (λ_ q=>q) λ_ _ _ q=>q
   rintro rfl;rcases hc with z|z
   .rw[<-z,HT] at e;cases e
   .rw[HT] at z;cases z
end
def X0:HO:=.ext λ_=>True
def Held (H:Hp)(a:Addr)(oa:Obj)(H2:Hp):Prop:=
 (oa.dict=none/\H2=upd H a (.frz oa X0))\/∃d od fs,oa.dict=some d/\H d=some (.xd fs)/\H2=upd (upd H a (.frz oa X0)) d (.frz od (.xd fs))
def Held.same {H H2:Hp}{a:Addr}{oa:Obj}(h:Held H a oa H2)(ha:H a=none){c:Addr}{z:HO}(e:H c=some z)(n:∀fs,z≠.xd fs):H2 c=some z:=by
 have hca:c≠a:=by rintro rfl;rw[ha] at e;cases e
 rcases h with⟨_,rfl⟩|⟨d,od,fs,_,hd,rfl⟩
 .rw[zai hca];exact e
 .have hcd:c≠d:=by rintro rfl;rw[hd] at e;cases e;exact n _ rfl
  rw[zai hcd,zai hca];exact e
section
variable {X:Cx}{pins:List (Addr×Obj)}{Y:L2.St}{H:Hp}{s:Shared}
def zj9 {E:XK}{e:Value}{s':Shared}(h:XP X pins Y E e s')(hxd:∀cls dx H',E cls dx H'->∀d,dx=some d->∃fs,H' d=some (.xd fs)) :
 ∃a cls dx H' oa H2,e=.ref a/\E cls dx H'/\H' a=none/\s'.heap.get? a=some oa/\oa.cls=cls/\oa.dict=dx/\PySem.W.notCls oa=true/\Held H' a oa H2/\Inv X pins Y H2 s':=by
 obtain⟨H1,s1,I1,a,cls,dx,H',rfl,x,os,bare,un,hok,q⟩:=h;obtain⟨e0,eH,eD,vs,sl,he,_⟩:=id x;have hold:∃H2,Held H' a ⟨cls,dx,.fields vs,sl⟩ H2/\HOk X.prog X.w H2 s'.heap/\∀b,b<s1.heap.objs.size->H' b=none->H2 b=none:=by
  have ex0:∀H2,ObjOk X.prog X.w H2 s'.heap a (.frz ⟨cls,dx,.fields vs,sl⟩ X0):=λH2=>⟨he,trivial,⟨_,he⟩,λ_ _ _ _=>trivial⟩
  cases hdx:dx with
 |none=>
    subst hdx;have hh:Held H' a ⟨cls,none,.fields vs,sl⟩ (upd H' a (.frz ⟨cls,none,.fields vs,sl⟩ X0)):=.inl ⟨rfl,rfl⟩
    refine⟨_,hh,λb u e=>?_,λb hb n=>?_⟩
    .by_cases hba:b=a
     .subst hba;rw[zah] at e;cases e;exact ex0 _
     .rw[zai hba] at e;exact(hok b u e).stay (λ_ _ _ q=>q) (λc q=>hh.same eH q (λ_ z=>by cases z)) λc z hz q=>hh.same eH q (λfs y=>by rw[y] at hz;exact hz)
    .rw[zai (way (wao hb e0))];exact n
 |some d=>
    subst hdx;obtain⟨fs,hd⟩:=hxd _ _ _ q d rfl;obtain⟨mA,⟨od,es,ep,hod,r1⟩,r2⟩:=hok d _ hd;have hh:Held H' a ⟨cls,some d,.fields vs,sl⟩ (upd (upd H' a (.frz ⟨cls,some d,.fields vs,sl⟩ X0)) d (.frz od (.xd fs))):=.inr ⟨d,od,fs,rfl,hd,rfl⟩
    have hda:d≠a:=by rintro rfl;rw[eH] at hd;cases hd
    refine⟨_,hh,λb u e=>?_,λb hb n=>?_⟩
    .by_cases hbd:b=d
     .subst hbd;rw[zah] at e;cases e;exact⟨hod,mA,⟨od,es,ep,hod,r1⟩,r2⟩
     rw[zai hbd] at e;by_cases hba:b=a
     .subst hba;rw[zah] at e;cases e;exact ex0 _
     .rw[zai hba] at e;exact(hok b u e).stay (λ_ _ _ q=>q) (λc q=>hh.same eH q (λ_ z=>by cases z)) λc z hz q=>hh.same eH q (λfs y=>by rw[y] at hz;exact hz)
    .rw[zai (way (wao hb (eD d rfl))),zai (way (wao hb e0))];exact n
 obtain⟨H2,hh,hok2,hn2⟩:=hold;refine⟨a,cls,dx,H',_,H2,rfl,q,eH,he,rfl,rfl,rfl,hh,I1.call' (ch:=[]) os ⟨un.keep,un.slot,λb o e n hx=>hn2 b (waj e) (un.free b o e n hx),un.there,λb xs e=>hh.same eH (un.tups b xs e) (λ_ z=>by cases z),λb o u e=>hh.same eH (un.frzs b o u e) (λ_ z=>by cases z),λb ps e=>?_⟩ hok2 bare (λb z=>absurd z (by simp))⟩;obtain⟨more,z⟩:=un.tbls b ps e;exact⟨more,hh.same eH z (λ_ z=>by cases z)⟩
end
def inH (X:Cx)(e:Value):Cx:={X with A:=X.A.mark (some e),calm:=false,xe:=λ_ _=>False}
section
variable {X:Cx}{pins:List (Addr×Obj)}{Y:L2.St}{H:Hp}{s:Shared}{e:Value}
def toH (I:Inv X pins Y H s):Inv (inH X e) pins Y H s:=by
 obtain⟨⟨a1,a2,a3,a4,a5,a6,a7,a8,a9,a10,a11,a12,a13,a14,a15,a16,a17,a18⟩,b2,b3,b4,b5,b6,b7,b8,b9,b10,b11⟩:=I;exact⟨⟨a1,a2,a3,a4,a5,a6,a7,a8,(λz=>by cases z),a10,a11,a12,a13,a14,a15,a16,a17,a18⟩,b2,b3,b4,b5,b6,b7,b8,b9,b10,b11⟩
def ofH (I:Inv (inH X e) pins Y H s)(ok:X.Ok):Inv X pins Y H s:=by
 obtain⟨_,b2,b3,b4,b5,b6,b7,b8,b9,b10,b11⟩:=I;exact⟨ok,b2,b3,b4,b5,b6,b7,b8,b9,b10,b11⟩
end
abbrev TX:=Ends->XK->L2.St->Hp->Prop
def PSX (X:Cx)(ss:List Stmt)(t:TX):Prop:=∀(pins:List (Addr×Obj)) (s:Shared) (Y:L2.St) (H:Hp) (D:Ends) (E:XK),Inv X pins Y H s->t D E Y H->wpAny (model X.prog X.w) X.A (execs ss X.env) (SP X pins D) (XP X pins Y E) s
def unset (i:Nat)(D:Ends):Ends:={nx:=λY H=>D.nx (Y.set i none) H,bk:=λY H=>D.bk (Y.set i none) H,ct:=λY H=>D.ct (Y.set i none) H,rt:=D.rt}
def tTry (K:W.Frag)(CT:Addr)(i:Nat)(tb:TX)(th:TS):TS:=λD Y H=>tb D (λcls dx H'=>(∃C,cls=.ref C/\PySem.W.mroIn K C (.ref CT)=some true)/\(∀d,dx=some d->∃fs,H' d=some (.xd fs))/\
 ∀a oa H2,H' a=none->oa.cls=cls->oa.dict=dx->PySem.W.notCls oa=true->Held H' a oa H2->th (unset i D) (Y.set i (some (.ref a))) H2) Y H
section
variable {X:Cx}{T n:Str}{tp hp pos:Pos}{body suite:List Stmt}{b₀:Stmt}{CT:Addr}{i:Nat}{tb:TX}{th:TS}
def zn9 (hst:X.stack=X.env::X.outer)(hf:X.env.frame=some X.env.locals)(hg:Gl X T)(hm:X.mg T=some (.ref CT))(hN:X.N.Nodup)(hi:X.N[i]?=some n)(hk:X.env.kindOf n=some .local)
 (hB:PySem.W.mroIn X.K CT (.type "BaseException")=some true) (hT:PySem.W.typeIn X.K (.ref CT)=some (.type "type")) (hb:PSX X body tb) (hh:∀e,PSs (inH X e) (b₀::suite) th)
 (hdb:(T == ("__debug__" : Str))=false:=by decide) :
 PS X (.Try body [.ExceptHandler (some (.Name T tp)) (some n) (b₀::suite) hp] [] [] pos) (tTry X.K CT i tb th):=by
 intro pins s Y H D I h;refine wpAny_Try_except (wax (hb pins s Y H D _ I h) (λf s1 h1=>?_) (λe s1 h1=>?_))
 .cases f <;> first|exact h1|exact wak h1
 refine zj8 hst hf h1 λh2 x2=>?_
 obtain⟨H1,s0,I0,hc⟩:=id x2;obtain⟨a,cls,dx,H',rfl,J,x,⟨C,rfl,hmm⟩,_,_⟩:=zkY I0 hc;obtain⟨e0,eH,eD,vs,sl,he,_⟩:=x;refine wpAny_handleBy_cons (codeAny_handlers_test ?_) (by intro q;cases q);refine zc6 (X:=inH X (.ref a)) (toH J) hg hm ?_ hdb;refine ze7 J.kIn he rfl hB hT hmm ?_;refine codeAny_handlers_suite_as (zg4 x2 λh3 x3=>?_);obtain⟨a',cls,dx',H3,oa,H2,ea,q,ha,hoa,hcl,hdx,hnc,hh2,J2⟩:=zj9 x3 (λcls dx H' q=>q.2.1);cases ea;refine zek (X:=inH X (.ref a)) (toH J2) hN hi (.inl hk) (v:=.ref a) rfl (λs4 J4=>?_) (.inr hk);refine wax (hh (.ref a) pins s4 _ _ (unset i D) J4 (q.2.2 a oa H2 ha hcl hdx hnc hh2)) (λf s5 h5=>?_) (λ_ _ z=>z.elim);cases f with
|next=>obtain⟨Y',H',J5,q5⟩:=h5;exact zcY (ofH J5 I.ok) hN hi hk λs6 J6=>⟨_,_,J6,q5⟩
|brk=>obtain⟨Y',H',J5,q5⟩:=h5;exact zcY (ofH J5 I.ok) hN hi hk λs6 J6=>⟨_,_,J6,q5⟩
|cont=>obtain⟨Y',H',J5,q5⟩:=h5;exact zcY (ofH J5 I.ok) hN hi hk λs6 J6=>⟨_,_,J6,q5⟩
|ret u=>obtain⟨v,Y',H',J5,r5,q5⟩:=h5;exact zcY (ofH J5 I.ok) hN hi hk λs6 J6=>⟨v,_,_,J6,r5,q5⟩
end
abbrev TEX:=L2.St->Hp->VK->XK->Prop
def PEX (X:Cx)(e:Expr)(t:TEX):Prop:=∀(pins:List (Addr×Obj)) (s:Shared) (Y:L2.St) (H:Hp) (Q:VK) (E:XK),Inv X pins Y H s->t Y H Q E->wpAny (model X.prog X.w) X.A (eval e X.env) (EP X pins Y Q) (XP X pins Y E) s
section
variable {X:Cx}{k:Nat}{f:Addr}{fd:FuncData}{ps:List Str}{sp:Sp}{dvs:List V}{ds:List Value}{x:Str}{p pos:Pos}{e:Expr}{es:List Expr}{t:TA}{te:TEX}
def zkZ {pins:List (Addr×Obj)}{Y:L2.St}{H:Hp}{s:Shared}(I:Inv X pins Y H s):Inv X.nox pins Y H s:=by
 obtain⟨⟨a1,a2,a3,a4,a5,a6,a7,a8,a9,a10,a11,a12,a13,a14,a15,a16,a17,a18⟩,b2,b3,b4,b5,b6,b7,b8,b9,b10,b11⟩:=I;exact⟨⟨a1,a2,a3,a4,a5,a6,a7,a8,a9,a10,a11,a12,a13,a14,a15,a16,a17,a18⟩,b2,b3,b4,b5,b6,b7,b8,b9,b10,b11⟩
def ze8 {pins:List (Addr×Obj)}{Y:L2.St}{H:Hp}{s:Shared}(I:Inv X.nox pins Y H s):Inv X pins Y H s:=by
 obtain⟨⟨a1,a2,a3,a4,a5,a6,a7,a8,a9,a10,a11,a12,a13,a14,a15,a16,a17,a18⟩,b2,b3,b4,b5,b6,b7,b8,b9,b10,b11⟩:=I;exact⟨⟨a1,a2,a3,a4,a5,a6,a7,a8,a9,a10,a11,a12,a13,a14,a15,a16,a17,a18⟩,b2,b3,b4,b5,b6,b7,b8,b9,b10,b11⟩
def zka (he:PEX X e te)(hs:swapsWith e none pos.line X.env=pure false:=by rfl):PSX X [.Expr e pos] (λD E Y H=>te Y H (λ_ H1=>D.nx Y H1) E):=by
 intro pins s Y H D E I h;refine wpAny_execs_cons (wpAny_Expr_any (thn (he pins s Y H _ E I h) λv s1 ⟨x,H1,I1,r1,q1⟩ =>?_) I.quiet hs);exact wbZ ⟨Y,H1,I1,q1⟩
end
end EX
namespace EX
open PySem PySem.Spec PySem.W PyProof.Rows
def strsIn (K:Frag)(a:Addr):Bool:=match K.lookup a with
|some ⟨_,_,.dict es _,_⟩ =>es.toList.all λe=>match e.key with|.str _ _=>true|_=>false
|_=>false
def ns_K {K:Frag}{a:Addr}(e:strsIn K a=true):∃m:Str->Option Value,(∀h:Heap,K.In h->h.Ns a m)/\∀x r,nsIn K a x=some r->m x=r:=by
 unfold strsIn at e;split at e
 .rename_i c d es ep sl ho
  refine⟨nsFind es,λh X=>⟨_,es,ep,X _ _ ho,rfl,λen hen=>?_,λ_=>rfl⟩,λx r hr=>?_⟩
  .have:=waJ.mp e en (by simpa using hen)
   split at this
   .rename_i n t hk;exact⟨n,t,hk⟩
   .cases this
  .unfold nsIn at hr;rw[ho] at hr;dsimp only at hr;unfold nsFind findBy;obtain⟨es⟩:=es;rw[List.find?_toArray];dsimp only at hr;split at hr
   .rename_i en hen
    cases hr;rw[show List.find? (λe:DictEntry=>(λn (v:Value)=>v.isStr n) x e.key) es=some en from hen];rfl
   .rename_i hen
    rw[show List.find? (λe:DictEntry=>(λn (v:Value)=>v.isStr n) x e.key) es=none from hen];split at hr
    .cases hr
    .cases hr;rfl
 .cases e
def tailIn (K:Frag)(bmB:List Value):List Value->Bool
|.ref A::tl=>((clsIn K A).any λcd=>strsIn K cd.ns&&(nsIn K cd.ns "__init__" == some none))&&tailIn K bmB tl
|l=>l == bmB
def tail_K {K:Frag}{h:Heap}(X:K.In h){bmB:List Value}(hb:∀A tl,bmB≠.ref A::tl):∀{bm:List Value},tailIn K bmB bm=true->OwnTail h bmB bm:=by
 intro bm;induction bm with
|nil=>intro e;rw[show([]:List Value)=bmB from beq_iff_eq.mp e];exact .base
|cons v tl ih=>
   intro e;by_cases hv:∃c,v=.ref c
   .obtain⟨c,rfl⟩:=hv;unfold tailIn at e;rw[waC] at e;obtain⟨cd,hcd,hr⟩:=any_some e.1;rw[waC] at hr;obtain⟨m,hm,hm2⟩:=ns_K hr.1;unfold clsIn at hcd;split at hcd
    .rename_i c0 d0 cd0 sl0 ho
     cases hcd;exact OwnTail.own (X _ _ ho) (hm h X) (hm2 _ _ (beq_iff_eq.mp hr.2)) (ih e.2)
    .cases hcd
   .have:v::tl=bmB:=by
     cases v <;> first|exact beq_iff_eq.mp e|exact absurd ⟨_,rfl⟩ hv
    rw[this];exact .base
section
variable {prog:Program}{w:World}{A:Around}{E:Value->Shared->Prop}{h:Heap}{g:Array GenState}{d:Drawn}{t:Nat}{os:OsState}
variable {C x:Addr}{K:Frag}{ox:Obj}{od:Option Obj}{name:Str}{v:Value}{expr:Bool}{Q:Value->Shared->Prop}
def ga_ve:Slot "ValueError" "__getattribute__" "BaseException.__getattribute__":=.of (owner:="BaseException") (n:="__getattribute__") (by rw[typeLookup_type,builtinLookup_eq_fast];kernel_rfl) (by decide +kernel) (by decide +kernel) (by decide +kernel)
 (by first|exact .inl (by decide +kernel)|exact .inr (by decide +kernel)) (by rw[isSubtype_type];kernel_rfl)
def zmj:builtinKind "BaseException.__getattribute__"=some .slot:=by decide +kernel
def zkb:splitId "BaseException.__getattribute__"=some ("BaseException","__getattribute__"):=by decide +kernel
end
section
variable {prog:Program}{w:World}{A:Around}{E:Value->Shared->Prop}{h:Heap}{g:Array GenState}{d:Drawn}{t:Nat}{os:OsState}
variable {C x:Addr}{K:Frag}{ox:Obj}{od:Option Obj}
def ze9 {tk:Tok}{R:Result->Shared->Prop}(X:K.In h)(I:InstAt h x ox C od)(hm:mroIn K C (.type "BaseException")=some true)(hmo:mroIn K C (.type "object")=some true)
 (hf:findObj K C od "__class__"=some (.bind (.builtin "getset_descriptor.__get__") (.builtin "object.__class__"))) (hq:R (.ok (.ret (.ref C))) ⟨h,g,d,t,os⟩) :
 codeAny (model prog w) A (.call (.builtin "BaseException.__getattribute__") ⟨[.ref x,.str "__class__" tk],[]⟩) R ⟨h,g,d,t,os⟩:=by
 have L0:=I.type (M:=model prog w)
 have L1:=looks_find (M:=model prog w) X I hf
 have sub:Looks (model prog w) h (isInstance (.ref x) (.type "BaseException")) true:=L0.andThen (looks_mroIn X hm)
 refine wcp ga_ve.plain F.entry_bexc_ga (@check_slot (model prog w) _ _ ⟨h,g,d,t,os⟩ "BaseException.__getattribute__" "BaseException" "__getattribute__" (.ref x) [.str "__class__" tk] [] _ zmj zkb sub (F.args_bexc_ga (.ref x) (.str "__class__" tk)) ?_);unfold Builtin.«object.__getattribute__»;repeat (any_goals (first|assumption|with_reducible refine Looks.at L0 ?_|with_reducible refine Looks.at L1 ?_|wp_step))
 exact class_get (s:=⟨h,g,d,t,os⟩) X I hmo (wak hq)
def ziz {Q:Option Value->Shared->Prop}(X:K.In h)(I:InstAt h x ox C od)(hga:findIn K (.ref C) "__getattribute__"=some (some (.builtin "BaseException.__getattribute__")))(hgt:findIn K (.ref C) "__getattr__"=some none)
 (hm:mroIn K C (.type "BaseException")=some true) (hmo:mroIn K C (.type "object")=some true)
 (hf:findObj K C od "__class__"=some (.bind (.builtin "getset_descriptor.__get__") (.builtin "object.__class__"))) (hq:Q (some (.ref C)) ⟨h,g,d,t+1,os⟩) :
 wpAny (model prog w) A (getAttr? (.ref x) "__class__") Q E ⟨h,g,d,t,os⟩:=by
 have L0:=I.type (M:=model prog w)
 have L1:=looks_findIn (M:=model prog w) X hga
 have L2:=looks_findIn (M:=model prog w) X hgt
 have f3:=ga_ve.bind (.ref x)
 have hx2:(Value.builtin "BaseException.__getattribute__" == Value.builtin "object.__getattribute__")=false:=by decide +kernel
 have hx1:(onTheHeap (Value.ref C)&&Value.builtin "BaseException.__getattribute__" == Value.builtin "object.__getattribute__")=false:=by rw[hx2];rfl
 unfold getAttr? getAttrBy? getAttrBy;repeat (any_goals (first|assumption|with_reducible refine Looks.at L0 ?_|with_reducible refine Looks.at L1 ?_|with_reducible refine Looks.at L2 ?_|wp_step))
 refine ze9 X I hm hmo hf ?_;repeat (any_goals (first|assumption|wp_step))
def zds (hga:findIn K (.ref C) "__getattribute__"=some (some (.builtin "BaseException.__getattribute__")))(hgt:findIn K (.ref C) "__getattr__"=some none)
 (hm:mroIn K C (.type "BaseException")=some true) (hmo:mroIn K C (.type "object")=some true) (hdct:hasDictIn K C=true)
 (hf:findObj K C od "__class__"=some (.bind (.builtin "getset_descriptor.__get__") (.builtin "object.__class__"))):KitX K (.ref x) (.ref C) (λh=>InstAt h x ox C od) where
 ty:=λ_ _ _ I=>I.type
 it:=λ_ _ X _=>by
  obtain⟨cdD,hcD,_⟩:=any_some hdct;unfold clsIn at hcD;split at hcD
  .rename_i c' d' cd' sl' ho
   intro A' Q' E' s' k q;unfold isType loadHead;exact waa (wpAny_loadPart (k _ _ (X _ _ ho)) (wak q))
  .cases hcD
 ne:=λh tp dd its n sl X htp=>by
  obtain⟨cdD,hcD,_⟩:=any_some hdct;refine Bool.eq_false_iff.mpr λq=>?_
  have e:C=tp:=Value.ref.inj (beq_iff_eq.mp q)
  subst e;unfold clsIn at hcD;split at hcD
  .rename_i c' d' cd' sl' ho
   have z:=(X _ _ ho).symm.trans htp
   cases z
  .cases hcD
 ca:=λ{_ _ _ _ _ s} X I k=>by
  obtain⟨h,g,d,t,os⟩:=s;exact ziz X I hga hgt hm hmo hf k
end
section
variable {prog:Program}{w:World}{K:Frag}{fd:FuncData}{fI:Addr}{x p y:Str}{tk0:Tok}{h0:Heap}{cp np fp jp:Pos}{k:Nat}
end
end EX
namespace EX
open PySem PySem.Spec PyProof.Rows L2
section
variable {X:Cx}{pins:List (Addr×Obj)}{Y:L2.St}{H:Hp}{s:Shared}{A:Around}{E:Value->Shared->Prop}{C a d:Addr}{oa od:Obj}{f:Str}{fs:List (Str×V)}{v:V}{expr:Bool}{Q:Value->Shared->Prop}
def ziA (H:Hp)(a C:Addr)(fs:List (Str×V)):Prop:=∃oa d od,H a=some (.frz oa X0)/\oa.cls=.ref C/\PySem.W.notCls oa=true/\oa.dict=some d/\H d=some (.frz od (.xd fs))
structure XK1 (K:W.Frag)(C:Addr):Prop where
 ga:PySem.W.findIn K (.ref C) "__getattribute__"=some (some (.builtin "BaseException.__getattribute__"))
 gt:PySem.W.findIn K (.ref C) "__getattr__"=some none
 bm:PySem.W.mroIn K C (.type "BaseException")=some true
 om:PySem.W.mroIn K C (.type "object")=some true
 hd:PySem.W.hasDictIn K C=true
 cl:PySem.W.findIn K (.ref C) "__class__"=some (some (.builtin "object.__class__"))
 sg:PySem.W.specialIn K (.builtin "object.__class__") "__get__"=some (some (.builtin "getset_descriptor.__get__"))
 tk:PySem.W.takesIn K (.builtin "object.__class__")=some true
def ziB (I:Inv X pins Y H s)(c:XK1 X.K C)(hc:ziA H a C fs){cv:Value}{b:Bool}(e:PySem.W.kitOne X.K (.ref C) cv=some b)(hq:∀tk,Q (.bool b) {s with toks:=tk}) :
 wpAny (model X.prog X.w) A (call (.builtin "isinstance") [.ref a,cv]) Q E s:=by
 obtain⟨oa,d,od,h1,h2,h3,h4,h5⟩:=hc;obtain⟨e1,_⟩:=I.hok a _ h1;obtain⟨e2,_⟩:=I.hok d _ h5;have J:PySem.W.InstAt s.heap a oa C (some od):=⟨e1,h2,h3,by rw[h4];exact e2⟩
 have hf:PySem.W.findObj X.K C (some od) "__class__"=some (.bind (.builtin "getset_descriptor.__get__") (.builtin "object.__class__")):=
  PySem.W.findObj_data (by obtain⟨cd,hc,_⟩:=PySem.W.any_some c.hd;rw[hc];rfl) c.cl c.sg c.tk
 exact waM (zds c.ga c.gt c.bm c.om c.hd hf) I.kIn J e (λz=>nomatch z) hq
def zg5 (I:Inv X pins Y H s)(c:XK1 X.K C)(hc:ziA H a C fs){tp:Addr}{dd:Option Addr}{its:List Value}{n:Nat}{sl:Array (Option Value)}{b:Bool}(htp:s.heap.get? tp=some ⟨.type "tuple",dd,.seq its.toArray n,sl⟩)
 (e:PySem.W.kitAny X.K (.ref C) its=some b) (hq:∀tk,Q (.bool b) {s with toks:=tk}):wpAny (model X.prog X.w) A (call (.builtin "isinstance") [.ref a,.ref tp]) Q E s:=by
 obtain⟨oa,d,od,h1,h2,h3,h4,h5⟩:=hc;obtain⟨e1,_⟩:=I.hok a _ h1;obtain⟨e2,_⟩:=I.hok d _ h5;have J:PySem.W.InstAt s.heap a oa C (some od):=⟨e1,h2,h3,by rw[h4];exact e2⟩
 have hf:PySem.W.findObj X.K C (some od) "__class__"=some (.bind (.builtin "getset_descriptor.__get__") (.builtin "object.__class__")):=
  PySem.W.findObj_data (by obtain⟨cd,hc,_⟩:=PySem.W.any_some c.hd;rw[hc];rfl) c.cl c.sg c.tk
 exact PySem.W.kia_tup (zds c.ga c.gt c.bm c.om c.hd hf) I.kIn J htp e (λz=>nomatch z) hq
end
end EX
namespace EX
open PySem PySem.Spec PySem.W PyProof.Rows
section
variable {prog:Program}{w:World}{A:Around}{E:Value->Shared->Prop}{h:Heap}{g:Array GenState}{d:Drawn}{t:Nat}{os:OsState}
variable {nm q:Str}{C N:Addr}{bs bm bmB:List Value}{hdct:Bool}{sn:List Str}{sub:List Value}{ab:Bool}{col:Option Bool}{dd:Option Addr}{k0 k1 k2 k3 k5:Option Value}{B newId initId:String}
def zd4 (F:ExcBaseFacts B newId initId bmB)(T:OwnTail h bmB bm){mN:Str->Option Value}{rest:List Value}{Q:Fin->Shared->Prop}(hC:h.get? C=some (excClassObj nm q C N bs bm hdct sn sub ab col dd k0 k1 k2 k3 k5 newId))(hn:h.Ns N mN)(hi:mN "__init__"=none)
 (hq:∀h' e,Heap.MadeExcOf h h' e (.ref C) rest->h.objs.size<=e->Q (.done (.ret (.ref e))) ⟨h',g,d,t,os⟩) (hrest:rest.length<=sizeLine):wpAny (model prog w) A (Builtin.«type.__call__» ⟨.ref C::rest,[]⟩) Q E ⟨h,g,d,t,os⟩:=by
 repeat (first|with_reducible refine wbQ hC ?_|with_reducible refine wpAny_madeBy_exc hC ?_|wp_step)
 refine codeAny_call_builtin_code (Code.quiet_builtin _ F.quiet) (wpAny_check_new_subT F T hC (codeAny_exc_new_subT F T hC ?_ hrest));show wpAny _ _ _ _ _ _
 have up:∀b o,h.get? b=some o->((h.push {cls:=.type "tuple",data:=.seq rest.toArray}).push {cls:=.ref C,data:=.fields #[.ref h.objs.size,.none,.none,.none,.bool false,.none]}).get? b=some o:=λb o e=>wac _ (wac _ e)
 have c1:=up _ _ hC;have n1:=hn.keeps up;have T1:=T.keeps up
 have hget:((h.push {cls:=.type "tuple",data:=.seq rest.toArray}).push {cls:=.ref C,data:=.fields #[.ref h.objs.size,.none,.none,.none,.bool false,.none]}).get? (h.objs.size+1)=some {cls:=.ref C,data:=.fields #[.ref h.objs.size,.none,.none,.none,.bool false,.none]}:=by heap_get
 have hcC:(Value.ref C::bm).contains (.ref C)=true:=by simp
 unfold isInstance;repeat (first|with_reducible refine wbQ hget ?_|(with_reducible refine wpAny_isSubtype_exc c1 ?_;rw[hcC])|wp_step)
 show wpAny _ _ (typeLookup (.ref C) _) _ _ _
 refine wpAny_typeLookup_tail c1 n1 T1 F.mroIs F.init.lookup ?_;rw[hi];refine wbv (waa (wpAny_of_eq (F.init.bind _) (waa (wpAny_call (wcp F.init.plain F.initEntry (wpAny_check_init_subT F T1 c1 hget rfl ?_))))));wp_walk
 refine hq _ (h.objs.size+1) ⟨λb o hb=>?_,wco (wbW _),h.objs.size+2,?_,wco (by omega),?_⟩ (wbW _)
 .rw[waF _ _ (Nat.ne_of_gt (Nat.lt_succ_of_lt (waj hb)))];exact wac _ (up _ _ hb)
 .rw[wbk _ (wac _ hget) rfl];simp only[wby];rfl
 .rw[waF _ _ (show h.objs.size+1≠h.objs.size+2 by omega)];exact Heap.get?_push_at (by simp only[wby]) rfl
def ziC (F:ExcBaseFacts B newId initId bmB)(T:OwnTail h bmB bm){mN:Str->Option Value}{rest:List Value}{Q:Value->Shared->Prop}
 (hC:h.get? C=some (excClassObj nm q C N bs bm hdct sn sub ab col dd k0 k1 k2 k3 k5 newId)) (hn:h.Ns N mN) (hi:mN "__init__"=none)
 (hq:∀h' e,Heap.MadeExcOf h h' e (.ref C) rest->h.objs.size<=e->Q (.ref e) ⟨h',g,d,t,os⟩) (hrest:rest.length<=sizeLine):wpAny (model prog w) A (call (.ref C) rest) Q E ⟨h,g,d,t,os⟩:=by
 have f1:=tc_lookup;have f2:=tc_bind (.ref C)
 have hT:(⟨h,g,d,t,os⟩:Shared).TypeIs (.ref C) "type":=⟨_,hC,rfl⟩
 refine wpAny_call (codeAny_of_tree ?_);show wpAny _ _ (callAny (.ref C) _) _ _ _
 repeat (any_goals (first|assumption|with_reducible refine wbQ hC ?_|wp_step))
 refine⟨rfl,?_⟩;refine codeAny_call_builtin_at (Code.quiet_builtin _ (by decide +kernel)) entry_typeCall (wpAny_check_type_call_sub hC (zd4 F T hC hn hi (λh' e hm he=>?_) hrest));exact hq h' e hm he
end
open L2
structure XJ (K:Frag)(C N:Addr)(bm:List Value):Prop where
 cls:XC K C N bm
 no:nsIn K N "__init__"=some none
 sts:strsIn K N=true
section
variable {X:Cx}{C N:Addr}{bm:List Value}{cn:Str}{e:Expr}{te:TA}{E:XK}{np cp pos:Pos}{k:Nat}
def zmk (C:Addr)(E:XK)(te:TA):TS:=λD Y H=>te Y H λvs H1=>vs.length<=1/\E (.ref C) none H1
def ziD (c:XJ X.K C N bm)(hg:Gl X cn)(hm:X.mg cn=some (.ref C))(hk:keepIn X.K (.ref C)=true)(hB:bm.contains (.type "BaseException")=true)(hr:Room (k+1) X.A)(hL:zgA X E)(ha:PA X [e] te)
 (hdb:(cn == ("__debug__" : Str))=false:=by decide) (he:starEach [e] X.env=(false,eval e X.env)::starEach [] X.env:=by rfl):PS X (.Raise (some (.Call (.Name cn np) [e] [] cp)) none pos) (zmk C E te):=by
 intro pins s Y H D I h;obtain⟨nm',q,bs,hdct,sn,sub,ab,col,dd,k0,k1,k2,k3,k5,ho⟩:=c.cls.obj;obtain⟨mN,hN,hmN⟩:=ns_K c.sts;show wpAny (model X.prog X.w) X.A (do standAt pos;raiseStmt X.env (some (do let v <-eval (.Call (.Name cn np) [e] [] cp) X.env;standAt pos;pure v)) none) _ X.xe s
 refine waa (wbh (zg3 (C:=C) (nm:=nm') (q:=q) (N:=N) (bs:=bs) (bm:=bm) (hdct:=hdct) (sn:=sn) (sub:=sub) (ab:=ab) (col:=col) (dd:=dd) (k0:=k0) (k1:=k1) (k2:=k2) (k3:=k3) (k5:=k5) (newId:="ValueError.__new__") hB hr.hd (waa ?_)));refine waQ (zc6 I hg hm ?_ hdb);refine callWith_K (h₀:=X.base) I.ok.mod.kin hk (thn (ha cp pins s Y H _ I h) λus s1 ⟨vs,H1,I1,r,hl,q⟩ =>⟨I1.kIn,?_⟩) he rfl;obtain⟨h1,g,d,t,os⟩:=s1;refine ziC PySem.F.excBase_ValueError (c.cls.tail h1 I1.kIn) (I1.kIn _ _ ho) (hN h1 I1.kIn) (hmN _ _ c.no) (λh' e' M he'=>?_) (waq (by rw[<-r.length];exact hl:us.length<=1) (by decide +kernel));obtain⟨tt,ht,_,_⟩:=M.there;refine waa (wbh (wak ⟨e',tt,none,rfl,M.keeps _ _ (I1.kIn _ _ ho),ht,?_⟩));exact hL pins Y H1 _ e' (.ref C) none (I1.kept (t':=t) M.keeps) ⟨waq I1.sz he',I1.hok.fresh he',(λd z=>nomatch z),_,_,ht,.inl rfl⟩ q
end
def zfX (H:Hp)(a C:Addr):Prop:=∃oa,H a=some (.frz oa X0)/\oa.cls=.ref C/\notCls oa=true/\oa.dict=none
section
variable {X:Cx}{pins:List (Addr×Obj)}{Y:L2.St}{H:Hp}{s:Shared}{A:Around}{E:Value->Shared->Prop}{C a:Addr}{oa:Obj}{Q:Value->Shared->Prop}
def zg6 (I:Inv X pins Y H s)(c:XK1 X.K C)(hc:zfX H a C){cv:Value}{b:Bool}(e:kitOne X.K (.ref C) cv=some b)(hq:∀tk,Q (.bool b) {s with toks:=tk}):wpAny (model X.prog X.w) A (call (.builtin "isinstance") [.ref a,cv]) Q E s:=by
 obtain⟨oa,h1,h2,h3,h4⟩:=hc;obtain⟨e1,_⟩:=I.hok a _ h1;have J:InstAt s.heap a oa C none:=⟨e1,h2,h3,by rw[h4];trivial⟩
 have hf:findObj X.K C none "__class__"=some (.bind (.builtin "getset_descriptor.__get__") (.builtin "object.__class__")):=by obtain⟨cd,hcd,_⟩:=any_some c.hd;unfold findObj;rw[hcd,zOB,c.cl,zOB];simp[c.sg,c.tk]
 exact kia_one (zds c.ga c.gt c.bm c.om c.hd hf) I.kIn J e (λz=>nomatch z) hq
def zfY (I:Inv X pins Y H s)(c:XK1 X.K C)(hc:zfX H a C){tp:Addr}{dd:Option Addr}{its:List Value}{n:Nat}{sl:Array (Option Value)}{b:Bool}(htp:s.heap.get? tp=some ⟨.type "tuple",dd,.seq its.toArray n,sl⟩)(e:kitAny X.K (.ref C) its=some b)(hq:∀tk,Q (.bool b) {s with toks:=tk}) :
 wpAny (model X.prog X.w) A (call (.builtin "isinstance") [.ref a,.ref tp]) Q E s:=by
 obtain⟨oa,h1,h2,h3,h4⟩:=hc;obtain⟨e1,_⟩:=I.hok a _ h1;have J:InstAt s.heap a oa C none:=⟨e1,h2,h3,by rw[h4];trivial⟩
 have hf:findObj X.K C none "__class__"=some (.bind (.builtin "getset_descriptor.__get__") (.builtin "object.__class__")):=by obtain⟨cd,hcd,_⟩:=any_some c.hd;unfold findObj;rw[hcd,zOB,c.cl,zOB];simp[c.sg,c.tk]
 exact kia_tup (zds c.ga c.gt c.bm c.om c.hd hf) I.kIn J htp e (λz=>nomatch z) hq
end
end EX
namespace VD
open PySem PySem.Spec PyProof PyProof.Rows L2 EX
def XAtD (K:W.Frag)(H:Hp)(J:Addr->Prop)(x:D)(cls:Value)(dx:Option Addr):Prop:=
 ∃c ns ds C,x=.exc c ns ds/\W.nsIn K mainGlobals c=some (some (.ref C))/\cls=.ref C/\
  ((dx=none/\ns = []/\ds = [])\/∃d vs,dx=some d/\¬J d/\H d=some (.xd (ns.zip vs))/\ns.length=vs.length/\RpL K H J vs ds)
def WantsX (K:W.Frag)(H:Hp)(J:Addr->Prop)(x:D)(E:XK):Prop:=
 ∀H' J' cls dx,Up H J H' J'->XAtD K H' J' x cls dx->(∀d,dx=some d->H d=none)->E cls dx H'
def zpx (K:W.Frag)(Hz:Hp)(Jz:Addr->Prop)(O:Pr)(x:D)(E:XK):Prop:=
 ∀Z' Y' H' J' cls dx,ST K Hz Jz O Z' Y' H' J'->XAtD K H' J' x cls dx->(∀d,dx=some d->Hz d=none)->E cls dx H'
section
variable {K:W.Frag}{H H' H1 Hz:Hp}{J J' J1 Jz:Addr->Prop}{O:Pr}{Z:En}{Y:L2.St}{x:D}{E:XK}
def WantsX.up (w:WantsX K H J x E)(u:Up H J H1 J1):WantsX K H1 J1 x E:=λH' J' cls dx u' a n=>
 w H' J' cls dx (u.trans u') a λd e=>u.same.free (n d e)
def ST.unset {i:Nat}(s:ST K Hz Jz O Z Y H J)(hp:∀n d,Z[i]?≠some (.par n d)):ST K Hz Jz O (Z.set i .un) (Y.set i none) H J where
 same:=s.same
 j0:=s.j0
 jn:=s.jn
 ja:=s.ja
 len:=by simp[s.len]
 vl:=λj e h=>by
  rcases zcK h with⟨rfl,he⟩|⟨ne,h⟩
  .cases he
  .rw[wag (Ne.symm ne)];exact s.vl j e h
 ow:=by
  obtain⟨fp,w⟩:=s.ow;refine⟨_,w.put (i:=i) (A:=[]) Keep.refl (λ_ _ _ _ _ h=>h) (λj _=>w.nj j) (λj e=>wag (Ne.symm e)) (λj e=>wag (Ne.symm e)) ?_ wbi (by simp) (by simp)⟩;by_cases hi:i<Z.length
  .rw[waw hi];rfl
  .have z:(List.set Z i SV.un)[i]?=none:=wba (by simp;omega)
   rw[z];rfl
 ps:=λq hq=>by
  have e:=s.psNe hp q hq
  rw[wag (Ne.symm e),wag (Ne.symm e)];exact s.ps q hq
 al:=s.al
end
def GoQ (K:W.Frag)(t:TEX)(f:FE):Prop:=∀Hz Jz O Z Y H J x Q E,ST K Hz Jz O Z Y H J->f Z=some x->WantsX K H J x E->t Y H Q E
def VQ (X:Cx)(e:Expr)(f:FE):Prop:=∃t,PEX X e t/\GoQ X.K t f
def spX (K:W.Frag)(F:List D->Option D):Sp:=λvs H _ E=>∃J ds x,(∀a,J a->H a≠none)/\RpL K H J vs ds/\F ds=some x/\WantsX K H J x E
structure CalX (P:Program)(w:World)(K:W.Frag)(mg:Str->Option Value)(base:Heap)(k:Nat)(x:Str)(ps:List Str)(sp:Sp):Prop where
 ex:∃(f:Addr) (fd:FuncData),FnOk P w K mg base (CXE P w) k f fd ps sp/\Binds K fd ps []/\W.keepIn K (.ref f)=true/\mg x=some (.ref f)
def zml {P:Program}{w:World}{K:W.Frag}{mg:Str->Option Value}{base:Heap}{k:Nat}{x:Str}{ps:List Str}{sp:Sp}{f:Addr}{fd:FuncData}(h:FnOk P w K mg base (CXE P w) k f fd ps sp)(b:Binds K fd ps [])(c:W.keepIn K (.ref f)=true)(d:mg x=some (.ref f)) :
 CalX P w K mg base k x ps sp:=⟨f,fd,h,b,c,d⟩
section
variable {X:Cx}{k k':Nat}{x:Str}{ps:List Str}{F:List D->Option D}{e:Expr}{es:List Expr}{fl:FA}{f:FE}{p pos:Pos}
end
def FitsR (K:W.Frag)(Hz:Hp)(Jz:Addr->Prop)(O:Pr)(H:Hp)(J:Addr->Prop)(D:Ends)(E:XK):Out->Prop
|.nx Z'=>∀Y' H' J',ST K Hz Jz O Z' Y' H' J'->Keep K H J H' J'->D.nx Y' H'
|.bk Z'=>∀Y' H' J',ST K Hz Jz O Z' Y' H' J'->Keep K H J H' J'->D.bk Y' H'
|.ct Z'=>∀Y' H' J',ST K Hz Jz O Z' Y' H' J'->Keep K H J H' J'->D.ct Y' H'
|.ret (.told x) _=>zpx K Hz Jz O x E
|.ret (.new _ _) _=>False
def FitsR.keep {K:W.Frag}{Hz:Hp}{Jz:Addr->Prop}{O:Pr}{H H1:Hp}{J J1:Addr->Prop}{D:Ends}{E:XK}(k:Keep K H J H1 J1):∀{o:Out},FitsR K Hz Jz O H J D E o->FitsR K Hz Jz O H1 J1 D E o
|.nx _,h=>λY' H' J' s q=>h Y' H' J' s (k.trans q)
|.bk _,h=>λY' H' J' s q=>h Y' H' J' s (k.trans q)
|.ct _,h=>λY' H' J' s q=>h Y' H' J' s (k.trans q)
|.ret (.told _) _,h=>h
|.ret (.new _ _) _,h=>h
def GoRz (K:W.Frag)(E:XK)(t:TS)(g:FS):Prop:=∀Hz Jz O Z Y H J o D,ST K Hz Jz O Z Y H J->g Z=some o->FitsR K Hz Jz O H J D E o->t D Y H
def VRS (X:Cx)(E:XK)(st:Stmt)(g:FS):Prop:=∃t,PS X st t/\GoRz X.K E t g
def VRs (X:Cx)(E:XK)(sts:List Stmt)(g:FS):Prop:=∃t,PSs X sts t/\GoRz X.K E t g
section
variable {X:Cx}{E:XK}{st:Stmt}{sts:List Stmt}{g g2:FS}{pos:Pos}{e a:Expr}{fa:FE}{fl:FA}{ft:FT}
def zmm:VRs X E [] gNx:=⟨_,zhw,λHz Jz O Z Y H J o D s e w=>by cases e;exact w Y H J s Keep.refl⟩
def zmn {K:W.Frag}{t u:TS}(h1:GoRz K E t g)(h2:GoRz K E u g2):GoRz K E (tSeq t u) (gSeq g g2):=by
 intro Hz Jz O Z Y H J o D s e w;obtain⟨o1,e1,e⟩:=bind_some e;refine h1 Hz Jz O Z Y H J o1 _ s e1 ?_;cases o1 with
|nx Z'=>exact λY' H' J' s' k=>h2 Hz Jz O Z' Y' H' J' o D s' e (w.keep k)
|bk Z'=>cases e;exact w
|ct Z'=>cases e;exact w
|ret d Z'=>cases e;cases d <;> exact w
def zmo (h:VRS X E st g):VRs X E [st] g:=let ⟨t,p,q⟩:=h;⟨t,zhx p,q⟩
def zoa (h:VRS X E st g):VRs X E (st::sts) (gSeq g gNo):=by
 obtain⟨t,p,q⟩:=h;have nv:∀sts:List Stmt,PSs X sts zhy:=λsts _ _ _ _ _ _ h=>h.elim
 exact⟨_,zgf p (nv sts),zmn q λHz Jz O Z Y H J o D s e w=>by cases e⟩
def zpy {c:Expr}{bs os:List Stmt}(hc:VT X c ft)(ha:VRs X E bs g)(hb:VRs X E os g2):VRS X E (.If c bs os pos) (gIf ft g g2):=by
 obtain⟨tc,pc,qc⟩:=hc;obtain⟨t,p,q⟩:=ha;obtain⟨u,p2,q2⟩:=hb;refine⟨_,znd pc p p2,λHz Jz O Z Y H J o D s e w=>?_⟩;obtain⟨k,e1,e⟩:=bind_some e;refine qc Hz Jz O Z Y H J k _ s e1 λH1 J1 u1=>?_
 cases k with
|true=>exact iteT (q Hz Jz O Z Y H1 J1 o D (s.up u1) e (w.keep u1.keep))
|false=>exact iteF (q2 Hz Jz O Z Y H1 J1 o D (s.up u1) e (w.keep u1.keep))
end
section
variable {X:Cx}{E:XK}{c nm:Str}{ok:D->Bool}{e:Expr}{fa:FE}{k:Nat}{np cp pos:Pos}
end
def kX:Out->Option D
|.ret (.told d) _=>some d
|_=>none
section
variable {X:Cx}{body ss:List Stmt}{e:Expr}{pos:Pos}{f fx:FE}{ft:FT}
def zob {t:TS}(h:PSs X.nox ss t):PSX X ss (λD _ Y H=>t D Y H):=λpins s Y H D E I hw=>
 wax (h pins s Y H D (zkZ I) hw) (λfl s' q=>by
  cases fl with
 |next=>obtain⟨Y',H',J,q⟩:=q;exact⟨Y',H',ze8 J,q⟩
 |brk=>obtain⟨Y',H',J,q⟩:=q;exact⟨Y',H',ze8 J,q⟩
 |cont=>obtain⟨Y',H',J,q⟩:=q;exact⟨Y',H',ze8 J,q⟩
 |ret u=>obtain⟨v,Y',H',J,r,q⟩:=q;exact⟨v,Y',H',ze8 J,r,q⟩) λ_ _ z=>z.elim
def VXB (X:Cx)(ss:List Stmt)(gx:FE):Prop:=∃t,PSX X ss t/\∀Hz Jz O Z Y H J x D E,ST X.K Hz Jz O Z Y H J->gx Z=some x->WantsX X.K H J x E->t D E Y H
def zkc (h:VQ X e f)(hs:swapsWith e none pos.line X.env=pure false:=by rfl):VXB X [.Expr e pos] f:=by
 obtain⟨t,p,q⟩:=h;exact⟨_,zka p hs,λHz Jz O Z Y H J x D E s e w=>q Hz Jz O Z Y H J x _ E s e w⟩
def zda (cs:List Str):D->Bool
|.exc c _ _=>cs.contains c
|_=>false
structure XTy (K:W.Frag)(mg:Str->Option Value)(T:Str)(cs:List Str):Prop where
 ex:∃CT,mg T=some (.ref CT)/\PySem.W.mroIn K CT (.type "BaseException")=some true/\PySem.W.typeIn K (.ref CT)=some (.type "type")/\∀c C,c∈cs->W.nsIn K mainGlobals c=some (some (.ref C))->PySem.W.mroIn K C (.ref CT)=some true
def unO (i:Nat):Out->Option Out
|.nx Z=>if isPar (Z[i]?)=false then some (.nx (Z.set i .un)) else none
|.bk Z=>if isPar (Z[i]?)=false then some (.bk (Z.set i .un)) else none
|.ct Z=>if isPar (Z[i]?)=false then some (.ct (Z.set i .un)) else none
|.ret r Z=>some (.ret r Z)
def gTry (cs:List Str)(i:Nat)(gx:FE)(gb gh:FS):FS:=λZ=>match gx Z with
|some x=>if zda cs x&&okS i Z then(gh (Z.set i (.val x))).bind (unO i) else none
|none=>gb Z
def zmp {K:W.Frag}{H H' H2:Hp}{J J':Addr->Prop}{x:D}{cls:Value}{dx:Option Addr}{a:Addr}{oa:Obj}(ja:∀a,J a->H a≠none)(u:Up H J H' J')(at':XAtD K H' J' x cls dx)(fr:∀d,dx=some d->H d=none)(ha:H' a=none)(hc:oa.cls=cls)(hd:oa.dict=dx)(hn:PySem.W.notCls oa=true)(h:Held H' a oa H2) :
 ∃J2,Up H J H2 J2/\Rp K H2 J2 (.ref a) x:=by
 obtain⟨c,ns,ds,C,rfl,hns,rfl,hx⟩:=at';rcases hx with⟨rfl,rfl,rfl⟩|⟨d,vs,rfl,njd,hxd,hl,rl⟩
 .rcases h with⟨hd',rfl⟩|⟨d,od,fs,hd',_,_⟩
  .refine⟨λb=>J' b\/b=a,⟨u.same.trans (zer ha _),λb h=>.inl (u.jj b h),λb h=>?_,λb h=>?_⟩,.exc ⟨.inr rfl,oa,C,hns,zah,hc,hn,.inl ⟨rfl,rfl,hd⟩⟩ .nil⟩
   .rcases h with h|rfl
    .exact u.jn b h
    .exact .inr (u.same.free ha)
   .by_cases z:b=a
    .subst z;rw[zah];simp
    .rw[zai z];rcases h with h|h
     .exact u.ja b h
     .exact absurd h z
  .rw[hd] at hd';cases hd'
 .rcases h with⟨hd',_⟩|⟨d',od,fs,hd',hf,rfl⟩
  .rw[hd] at hd';cases hd'
  .obtain rfl:d=d':=wau (hd.symm.trans hd');rw[hxd] at hf;cases hf;have hda:d≠a:=by rintro rfl;rw[hxd] at ha;cases ha
   have hHd:=fr d rfl
   have hne:∀b o,b≠a->b≠d->H' b=o->(upd (upd H' a (.frz oa X0)) d (.frz od (.xd (ns.zip vs)))) b=o:=λb o h1 h2 h3=>by rw[zai h2,zai h1];exact h3
   have kp:Keep K H' J' (upd (upd H' a (.frz oa X0)) d (.frz od (.xd (ns.zip vs)))) (λb=>J' b\/b=a\/b=d):=⟨λ_ h=>.inl h,λp o j h=>hne p _ (λz=>by subst z;rw[ha] at h;cases h) (λz=>by subst z;exact njd j) h,λp us h=>by
    have sm:∀o,H' p=some o->(∀fs,o≠.xd fs)->(upd (upd H' a (.frz oa X0)) d (.frz od (.xd (ns.zip vs)))) p=some o:=λo h hx=>hne p _ (λz=>by subst z;rw[ha] at h;cases h) (λz=>by subst z;rw[hxd] at h;cases h;exact hx _ rfl) h
    rcases h with(h|⟨o,h⟩)|h
    .exact .inl (.inl (sm _ h λ_ z=>by cases z))
    .exact .inl (.inr ⟨o,sm _ h λ_ z=>by cases z⟩)
    .exact .inr h⟩
   refine⟨λb=>J' b\/b=a\/b=d,⟨λb o e=>?_,λb h=>.inl (u.jj b h),λb h=>?_,λb h=>?_⟩,.exc ⟨.inr (.inl rfl),oa,C,hns,by rw[zai hda.symm,zah];rfl,hc,hn,.inr ⟨d,od,hd,.inr (.inr rfl),zah,hl⟩⟩ (rl.keep kp)⟩
   .exact hne b _ (λz=>by subst z;rw[u.same.free ha] at e;cases e) (λz=>by subst z;rw[hHd] at e;cases e) (u.same b o e)
   .rcases h with h|rfl|rfl
    .exact u.jn b h
    .exact .inr (u.same.free ha)
    .exact .inr hHd
   .by_cases z2:b=d
    .subst z2;rw[zah];simp
    .rw[zai z2];by_cases z:b=a
     .subst z;rw[zah];simp
     .rw[zai z];rcases h with h|h|h
      .exact u.ja b h
      .exact absurd h z
      .exact absurd h z2
def zoc {T n:Str}{tp hp:Pos}{suite:List Stmt}{b₀:Stmt}{cs:List Str}{gx:FE}{gb gh:FS}(i:Nat)(ty:XTy X.K X.mg T cs)(hN:X.N.Nodup)(hx:VXB X body gx)(hb:VSs X.nox body gb)(hh:∀e,VSs (inH X e) (b₀::suite) gh)
 (hg:Gl X T:=by rfl) (hi:X.N[i]?=some n:=by rfl) (hk:X.env.kindOf n=some .local:=by rfl) (hst:X.stack=X.env::X.outer:=by rfl) (hf:X.env.frame=some X.env.locals:=by rfl) (hdb:(T == ("__debug__" : Str))=false:=by decide) :
 VS X (.Try body [.ExceptHandler (some (.Name T tp)) (some n) (b₀::suite) hp] [] [] pos) (gTry cs i gx gb gh):=by
 obtain⟨CT,hm,hB,hT,hC⟩:=ty.ex;obtain⟨t1,p1,q1⟩:=hx;obtain⟨t2,p2,q2⟩:=hb;have pb:PSX X body (λD E Y H=>t1 D E Y H\/t2 D Y H):=λpins s Y H D E I h=>h.elim (p1 pins s Y H D E I) (zob p2 pins s Y H D E I)
 have ph:∀e,PSs (inH X e) (b₀::suite) (λD Y H=>∀e,(hh e).choose D Y H):=λe pins s Y H D I h=>(hh e).choose_spec.1 pins s Y H D I (h e)
 refine⟨_,zn9 hst hf hg hm hN hi hk hB hT pb ph hdb,?_⟩;intro Hz Jz O Z Y H J o D s e w;unfold gTry at e;split at e
 .rename_i x e1
  by_cases hq:(zda cs x&&okS i Z)=true
  .rw[if_pos hq] at e;rw[waC] at hq;obtain⟨o1,e2,e⟩:=bind_some e;have hok:=zed hq.2
   refine .inl (q1 Hz Jz O Z Y H J x D _ s e1 λH' J' cls dx u at' fr=>?_);have at0:=at'
   obtain⟨c,ns,ds,C,hxx,hns,hcl,hx⟩:=at';have hcc:c∈cs:=by
    have:=hq.1
    rw[hxx] at this;exact List.contains_iff_mem.mp this
   refine⟨⟨C,hcl,hC c C hcc hns⟩,λd hd=>?_,λa oa H2 ha hc' hd' hn' hh'=>?_⟩
   .rcases hx with⟨z,_,_⟩|⟨d',vs,z,_,hxd,_,_⟩
    .rw[hd] at z;cases z
    .rw[hd] at z;cases z;exact⟨_,hxd⟩
   .obtain⟨J2,u2,r2⟩:=zmp s.ja u at0 fr ha hc' hd' hn' hh';have s2:=(s.up u2).set r2 hok.1 (zbF hok.2)
    intro ev;refine(hh ev).choose_spec.2 Hz Jz O _ _ H2 J2 o1 (unset i D) s2 e2 ?_;cases o1 with
   |nx Z'=>
      unfold unO at e;by_cases hp:isPar (Z'[i]?)=false
      .simp only[if_pos hp] at e;cases e;exact λY' H' J' s' k'=>w _ H' J' (s'.unset (zbF hp)) (u2.keep.trans k')
      .simp only[if_neg hp] at e;cases e
   |bk Z'=>
      unfold unO at e;by_cases hp:isPar (Z'[i]?)=false
      .simp only[if_pos hp] at e;cases e;exact λY' H' J' s' k'=>w _ H' J' (s'.unset (zbF hp)) (u2.keep.trans k')
      .simp only[if_neg hp] at e;cases e
   |ct Z'=>
      unfold unO at e;by_cases hp:isPar (Z'[i]?)=false
      .simp only[if_pos hp] at e;cases e;exact λY' H' J' s' k'=>w _ H' J' (s'.unset (zbF hp)) (u2.keep.trans k')
      .simp only[if_neg hp] at e;cases e
   |ret r Z'=>cases e;exact w
  .rw[if_neg hq] at e;cases e
 .exact .inr (q2 Hz Jz O Z Y H J o D s e w)
end
def kU (i:Nat):Out->Option En
|.nx Z=>if isPar (Z[i]?)=false then some (Z.set i .un) else none
|_=>none
def zod {S:Type}{cs:List Str}{i:Nat}{gx:FE}{gb gh:FS}{Z:En}{emb:S->En}{h:D->Option S}{b:Option S}(hi:okS i Z=true)(hh:∀x,EvS (kU i) (λs=>some (emb s)) gh (Z.set i (.val x)) (h x))(hb:gx Z=none->EvS k0 (λs=>some (emb s)) gb Z b) :
 Step (gTry cs i gx gb gh) Z (match gx Z with|some x=>if zda cs x then h x else none|none=>b) emb:=λs z=>by
 unfold gTry;cases e:gx Z with
|some x=>
   rw[e] at z;dsimp only at z⊢;by_cases hc:zda cs x=true
   .rw[if_pos hc] at z;rw[if_pos (by rw[hc,hi];rfl)];obtain⟨o,e1,e2⟩:=zag (hh x (emb s) (by rw[z];rfl));rw[e1,zOB];cases o with
   |nx Z'=>
      unfold kU at e2;unfold unO;by_cases hp:isPar (Z'[i]?)=false
      .simp only[if_pos hp] at e2⊢;rw[wau e2]
      .simp only[if_neg hp] at e2;cases e2
   |_=>cases e2
   .rw[if_neg hc] at z;cases z
|none=>
   rw[e] at z;obtain⟨o,e1,e2⟩:=zag (hb e (emb s) (by rw[show b=some s from z];rfl));show gb Z=_
   rw[e1];cases o <;> cases e2
   rfl
def zfZ (H:Hp)(a C:Addr):Prop:=(∃fs,ziA H a C fs)\/zfX H a C
def Exh.caughtA {K:W.Frag}{H:Hp}{J:Addr->Prop}{a:Addr}{c:Str}{ns:List Str}{vs:List V}(h:Exh K H J a c ns vs):∃C,W.nsIn K mainGlobals c=some (some (.ref C))/\zfZ H a C:=by
 obtain⟨j,oa,C,h1,h2,h3,h4,h5⟩:=h;rcases h5 with⟨_,_,z⟩|⟨d,od,h6,h7,h8,h9⟩
 .exact⟨C,h1,.inr ⟨oa,h2,h3,h4,z⟩⟩
 .exact⟨C,h1,.inl ⟨_,oa,d,od,h2,h3,h4,h6,h8⟩⟩
def isX (tab:List (Str×Bool)):D->Option D
|.exc c _ _=>(tab.lookup c).map .bl
|_=>none
structure XInst (K:W.Frag)(cv:Value)(tab:List (Str×Bool)):Prop where
 ok:∀c b,tab.lookup c=some b->∀C,W.nsIn K mainGlobals c=some (some (.ref C))->XK1 K C/\PySem.W.kitOne K (.ref C) cv=some b
def rIsX (K:W.Frag):List V->Hp->VK->Prop:=λxs H Q=>∃a c C cv b,xs = [.ref a,c]/\(∀u,RelV c u->u=cv)/\zfZ H a C/\XK1 K C/\PySem.W.kitOne K (.ref C) cv=some b/\Q (.bl b) H
def zgB {X:Cx}:zcE X (.builtin "isinstance") (rIsX X.K):=by
 rintro pins s Y H xs us Q I r ⟨a,c,C,cv,b,rfl,hc,hca,k1,e,q⟩;obtain⟨u,w',rfl,r1,r2⟩:=zhE r;obtain rfl:u=Value.ref a:=r1;obtain rfl:=hc _ r2;rcases hca with⟨fs,hca⟩|hca
 .exact ziB I k1 hca e λtk=>⟨.bl b,H,I.tok _,rfl,q⟩
 .exact zg6 I k1 hca e λtk=>⟨.bl b,H,I.tok _,rfl,q⟩
section
variable {X:Cx}{a e:Expr}{fa:FE}{p q pos:Pos}{T:Str}{cv:V}{u:Value}{tab:List (Str×Bool)}
def zk0 {t:TE}(IN:XInst X.K u tab)(hu:∀u',RelV cv u'->u'=u)(g:GoE X.K t fa):GoE X.K (tCB (rIsX X.K) (zls t (zls (tC cv) tNil))) (λZ=>(fa Z).bind (isX tab)):=by
 intro Hz Jz O Z Y H J d Q s e w;obtain⟨x,e1,e⟩:=bind_some e;unfold isX at e;split at e
 .rename_i c ns ds
  obtain⟨b,e2,e3⟩:=wbr.mp e;cases e3;refine g Hz Jz O Z Y H J _ _ s e1 λv H1 J1 u1 r1=>?_
  show rIsX X.K [v,cv] H1 Q
  cases r1 with
 |exc h rl=>
    obtain⟨C,hC,ca⟩:=h.caughtA;obtain⟨k1,k2⟩:=IN.ok c b e2 C hC;exact⟨_,cv,C,u,b,rfl,hu,ca,k1,k2,w _ H1 J1 u1 (.bl b)⟩
 .cases e
def zoe {CT:Addr}(IN:XInst X.K (.ref CT) tab)(hm:X.mg T=some (.ref CT))(B:Blt X.mg)(ha:VE X a fa)(hgT:Gl X T:=by rfl)(hdT:(T == ("__debug__" : Str))=false:=by decide)(hg:Gl X "isinstance":=by rfl)
 (h1:starEach [a,.Name T q] X.env=(false,eval a X.env)::starEach [.Name T q] X.env:=by rfl) (h2:starEach [.Name T q] X.env=(false,eval (.Name T q) X.env)::starEach [] X.env:=by rfl)
 (hpl:(backTo pos (starEach [.Name T q] X.env)).any (·.1)=false:=by rfl):VE X (.Call (.Name "isinstance" p) [a,.Name T q] [] pos) (λZ=>(fa Z).bind (isX tab)):=by
 obtain⟨t,pa,g⟩:=ha;exact⟨_,pb zgB B boot_isinstance (zbd pa (zbd (zfA (v:=.ref CT) hgT hm rfl hdT) zcS h2) h1) (by decide +kernel) hg (by decide) (by decide) h1 hpl,zk0 IN (λu' r=>r) g⟩
def zof {Tt:String}(IN:XInst X.K (.type Tt) tab)(hm:X.mg T=none)(hv:bootBuiltins T=some (.type Tt))(B:Blt X.mg)(ha:VE X a fa)(hgT:Gl X T:=by rfl)(hnT:T≠"__name__":=by decide)(hdT:(T == ("__debug__" : Str))=false:=by decide)(hg:Gl X "isinstance":=by rfl)
 (h1:starEach [a,.Name T q] X.env=(false,eval a X.env)::starEach [.Name T q] X.env:=by rfl) (h2:starEach [.Name T q] X.env=(false,eval (.Name T q) X.env)::starEach [] X.env:=by rfl)
 (hpl:(backTo pos (starEach [.Name T q] X.env)).any (·.1)=false:=by rfl):VE X (.Call (.Name "isinstance" p) [a,.Name T q] [] pos) (λZ=>(fa Z).bind (isX tab)):=by
 obtain⟨t,pa,g⟩:=ha;exact⟨_,pb zgB B boot_isinstance (zbd pa (zbd (zhv (v:=.ty Tt) hgT hm hv rfl hnT hdT) zcS h2) h1) (by decide +kernel) hg (by decide) (by decide) h1 hpl,zk0 IN (λu' r=>r) g⟩
def PCl (X:Cx)(es:List Expr)(Cs:List Addr):Prop:=PA X es (λY H Q=>Q (Cs.map V.ref) H)
def zmq:PCl X [] []:=zcS
def za2 {es:List Expr}{Cs:List Addr}{CT:Addr}(hm:X.mg T=some (.ref CT))(h:PCl X es Cs)(hg:Gl X T:=by rfl)(hd:(T == ("__debug__" : Str))=false:=by decide)
 (h1:starEach (.Name T q::es) X.env=(false,eval (.Name T q) X.env)::starEach es X.env:=by rfl):PCl X (.Name T q::es) (CT::Cs):=zbd (zfA (v:=.ref CT) hg hm rfl hd) h h1
structure XInstT (K:W.Frag)(Cs:List Addr)(tab:List (Str×Bool)):Prop where
 ok:∀c b,tab.lookup c=some b->∀C,W.nsIn K mainGlobals c=some (some (.ref C))->XK1 K C/\PySem.W.kitAny K (.ref C) (Cs.map Value.ref)=some b
 le:Cs.length<=sizeLine
def zog (K:W.Frag):List V->Hp->VK->Prop:=λxs H Q=>∃(a p C:Addr) (Cs:List Addr) (b:Bool),xs = [.ref a,.ref p]/\H p=some (.tup (Cs.map V.ref))/\zfZ H a C/\XK1 K C/\PySem.W.kitAny K (.ref C) (Cs.map Value.ref)=some b/\Q (.bl b) H
theorem zfa:∀{Cs:List Addr}{us:List Value},Vals (Cs.map V.ref) us->us=Cs.map Value.ref
|[],_,h=>by cases h;rfl
|c::cs,_,h=>by
   cases h with
  |cons a b=>rw[zfa b];cases a;rfl
def ziE {X:Cx}:zcE X (.builtin "isinstance") (zog X.K):=by
 rintro pins s Y H xs us Q I r ⟨a,p,C,Cs,b,rfl,hp,hca,k1,e,q⟩;obtain⟨u,w',rfl,r1,r2⟩:=zhE r;obtain rfl:u=Value.ref a:=r1;obtain rfl:w'=Value.ref p:=r2;obtain⟨its,rv,pt,_⟩:=I.tuple (SqT.of hp);rw[zfa rv] at pt;obtain⟨⟨c0,d0,dt0,sl0⟩,h1,h2,n,h3⟩:=pt;dsimp only at h2 h3;subst h2 h3;rcases hca with⟨fs,hca⟩|hca
 .exact zg5 I k1 hca h1 e λtk=>⟨.bl b,H,I.tok _,rfl,q⟩
 .exact zfY I k1 hca h1 e λtk=>⟨.bl b,H,I.tok _,rfl,q⟩
def zmr {es:List Expr}{Cs:List Addr}{x1}(IN:XInstT X.K Cs tab)(B:Blt X.mg)(ha:VE X a fa)(hc:PCl X es Cs)(hg:Gl X "isinstance":=by rfl)
 (h1:starEach [a,.Tuple es x1 q] X.env=(false,eval a X.env)::starEach [.Tuple es x1 q] X.env:=by rfl) (h2:starEach [.Tuple es x1 q] X.env=(false,eval (.Tuple es x1 q) X.env)::starEach [] X.env:=by rfl)
 (hpl:(backTo pos (starEach [.Tuple es x1 q] X.env)).any (·.1)=false:=by rfl):VE X (.Call (.Name "isinstance" p) [a,.Tuple es x1 q] [] pos) (λZ=>(fa Z).bind (isX tab)):=by
 obtain⟨t,pa,g⟩:=ha;refine⟨_,pb ziE B boot_isinstance (zbd pa (zbd (zkE hc) zcS h2) h1) (by decide +kernel) hg (by decide) (by decide) h1 hpl,?_⟩;intro Hz Jz O Z Y H J d Q s e w;obtain⟨x,e1,e⟩:=bind_some e;unfold isX at e;split at e
 .rename_i c ns ds
  obtain⟨b,e2,e3⟩:=wbr.mp e;cases e3;refine g Hz Jz O Z Y H J _ _ s e1 λv H1 J1 u1 r1=>⟨by rw[wam];exact IN.le,λp' hp'=>?_⟩
  have un:=Up.new u1.ja hp' (.tup (Cs.map V.ref))
  show zog X.K [v,.ref p'] (upd H1 p' (.tup (Cs.map V.ref))) Q
  cases r1.keep un.keep with
 |exc h rl=>
    obtain⟨C,hC,ca⟩:=h.caughtA;obtain⟨k1,k2⟩:=IN.ok c b e2 C hC;exact⟨_,p',C,Cs,b,rfl,zah,ca,k1,k2,w _ _ J1 (u1.trans un) (.bl b)⟩
 .cases e
end
section
variable {X:Cx}{E:XK}{fa:FE}{pos:Pos}
end
def zdK:bootBuiltins "ValueError"=some (.type "ValueError"):=by decide +kernel
section
variable {K:W.Frag}{mg:Str->Option Value}{c T f:Str}{C CT:Addr}{cv:Value}{b:Bool}{tab:List (Str×Bool)}{Cs:List Addr}{cs:List Str}
def ziF:XInst K cv []:=⟨λc b e=>by cases e⟩
def zg7 (hn:W.nsIn K mainGlobals c=some (some (.ref C)))(k:XK1 K C)(e:PySem.W.kitOne K (.ref C) cv=some b)(t:XInst K cv tab):XInst K cv ((c,b)::tab):=⟨λx y h C' hC=>by
 rw[waT] at h;by_cases z:(x == c)=true
 .rw[z] at h;obtain rfl:x=c:=by simpa using z
  rw[hn] at hC;cases hC;cases h;exact⟨k,e⟩
 .have z:(x == c)=false:=by simpa using z
  rw[z] at h;exact t.ok x y h C' hC⟩
def zg8 (h:Cs.length<=sizeLine):XInstT K Cs []:=⟨(λc b e=>by cases e),h⟩
def zf0 (hn:W.nsIn K mainGlobals c=some (some (.ref C)))(k:XK1 K C)(e:PySem.W.kitAny K (.ref C) (Cs.map Value.ref)=some b)(t:XInstT K Cs tab):XInstT K Cs ((c,b)::tab):=⟨λx y h C' hC=>by
 rw[waT] at h;by_cases z:(x == c)=true
 .rw[z] at h;obtain rfl:x=c:=by simpa using z
  rw[hn] at hC;cases hC;cases h;exact⟨k,e⟩
 .have z:(x == c)=false:=by simpa using z
  rw[z] at h;exact t.ok x y h C' hC,t.le⟩
def zms (hm:mg T=some (.ref CT))(hB:PySem.W.mroIn K CT (.type "BaseException")=some true)(hT:PySem.W.typeIn K (.ref CT)=some (.type "type")):XTy K mg T []:=⟨CT,hm,hB,hT,λc C h=>by cases h⟩
def zkd (hm:mg T=some (.ref CT))(hn:W.nsIn K mainGlobals c=some (some (.ref C)))(e:PySem.W.mroIn K C (.ref CT)=some true)(t:XTy K mg T cs):XTy K mg T (c::cs):=by
 obtain⟨CT',h1,h2,h3,h4⟩:=t.ex;rw[hm] at h1;cases h1;refine⟨_,hm,h2,h3,λx C' h hC=>?_⟩;by_cases z:x=c
 .subst z;rw[hn] at hC;cases hC;exact e
 .exact h4 x C' ((waf.mp h).resolve_left z) hC
end
section
variable {X:Cx}{e a b c:Expr}{es:List Expr}{f fx:FE}{fa:FE}{ft:FT}{pos:Pos}
end
section
variable {X:Cx}{k k':Nat}{x:Str}{p:Pos}{es fs:List Expr}{e ie:Expr}{fl:FA}{fi:FE}{g:List D->Option D}{gs:List (List D->Option D)}{pos lp sp:Pos}
end
section
variable {prog:Program}{w:World}{K:W.Frag}{fd:FuncData}{fI:Addr}{x p:Str}{cp np fp jp:Pos}{k:Nat}
end
def zmt {P:Program}{w:World}{K:W.Frag}{mg:Str->Option Value}{base:Heap}{x qual:Str}{st:Stmt}{f:Addr}{fd:FuncData}{N ps:List Str}{k:Nat}{c:List D->Option D}{Pc:Hp->Prop}(pe:Pers Pc)(F:Fun K x qual st f fd)(S:FnScope N ps (zab st))(hlen:∀ds d,c ds=some d->ds.length=ps.length)
 (hbody:∀(cdv:Value) (A:Around) (outer:List Env) (s:Shared) (H:Hp) (E:XK),Room k (A.deeper (envOfC qual (zab st) s.heap.objs.size f cdv))->zgA (cxOf (CXE P w) P w K mg base N qual (zab st) f cdv A outer s H E) E->Prs (cxOf (CXE P w) P w K mg base N qual (zab st) f cdv A outer s H E) Pc->
  ∃g,VRs (cxOf (CXE P w) P w K mg base N qual (zab st) f cdv A outer s H E) E (zaW st) g/\∀ds,ds.length=ps.length->EvS kX some g (ds.map SV.val++List.replicate (N.length - ps.length) .un) (c ds)):FnOk P w K mg base (CXE P w) (k+1) f fd ps (pcS Pc (spX K c)):=by
 obtain⟨oc,od,kV,doc,pm,an,cdv,ct,osl,rfl,lk,hcd⟩:=F.ex;refine zlv lk hcd S (λvs H Q E h=>?_) λA outer s H vs Q E hr h=>?_
 .obtain⟨_,J,ds,d,ja,r,e,w⟩:=h;rw[r.length];exact hlen ds d e
 .obtain⟨hPc,J,ds,d,ja,r,e,w⟩:=h;have hl:=hlen ds d e
  obtain⟨g,⟨t,p,q⟩,ev⟩:=hbody cdv A outer s H E hr ziy (Prs.of pe hPc);refine⟨t,p,?_⟩;have e:=ev ds hl d (by rw[e];rfl)
  rw[<-hl] at e;have s0:=zev (N:=N) ja r
  cases z:g (ds.map SV.val++List.replicate (N.length - ds.length) .un) with
 |none=>rw[z] at e;cases e
 |some o=>
    rw[z] at e;refine q H J Pr.no _ _ H J o _ s0 z ?_;cases o with
   |ret r Z'=>
      cases r with
     |told d'=>cases e;exact λZ' Y' H' J' cls dx s' x' n'=>w H' J' cls dx s'.out x' n'
     |new n d'=>cases e
   |_=>cases e
section
variable {X:Cx}{k k':Nat}{x:Str}{ps:List Str}{F:List D->Option D}{e:Expr}{es:List Expr}{fl:FA}{f:FE}{p pos:Pos}{Pc:Hp->Prop}
def zke (C:CalX X.prog X.w X.K X.mg X.base k x ps (pcS Pc (spX X.K F)))(hp:Prs X Pc)(hr:Room k' X.A)(ha:VA X.nox (e::es) fl)(hk:k<=k':=by decide)(hg:Gl X x:=by rfl)(hdb:(x == ("__debug__" : Str))=false:=by decide)
 (he:starEach (e::es) X.env=(false,eval e X.env)::starEach es X.env:=by rfl) (hpl:(backTo pos (starEach es X.env)).any (·.1)=false:=by rfl):VQ X (.Call (.Name x p) (e::es) [] pos) (eCall F fl):=by
 obtain⟨f,fd,a,b,c,d⟩:=C.ex;obtain⟨t,pa,g⟩:=ha;have G:FnOk X.prog X.w X.K X.mg X.base (CXE X.prog X.w) k f fd ps (pcS Pc (spX X.K F)):=a
 refine⟨λY H Q E=>t Y H λvs H1=>spX X.K F (vs++[]) H1 Q E,λpins s Y H Q E I h=>?_,?_⟩
 .refine waQ (zc6 I hg d ?_ hdb);refine PySem.W.callWith_K (h₀:=X.base) I.ok.mod.kin c (wax (pa pos pins s Y H _ (zkZ I) h) (λus s1 ⟨vs,H1,I1,r,q⟩ =>⟨I1.kIn,?_⟩) λ_ _ z=>z.elim) he hpl;have J1:=ze8 I1
  have r2:Vals (vs++[]) (us++[]):=r.append .nil
  have q':pcS Pc (spX X.K F) (vs++[]) H1 Q E:=⟨hp pins Y H1 s1 J1,q⟩
  have hl:(us++[]).length=ps.length:=by rw[<-r2.length];exact G.len _ _ _ _ q'
  refine wpAny_call (wcy ((G.mono hk).run X.A X.stack s1 H1 ⟨us,[]⟩ (us++[]) (vs++[]) Q E hr J1.env0 (b s1 us J1.kIn hl) r2 q') λr s' hq=>?_);cases r with
 |error e=>exact⟨H1,s1,J1,hq⟩
 |ok fl=>
    cases fl with
   |ret u=>exact J1.after hq
   |next=>exact False.elim hq
   |brk=>exact False.elim hq
   |cont=>exact False.elim hq
 .intro Hz Jz O Z Y H J x Q E s e w;obtain⟨ds,e1,e⟩:=bind_some e;refine g Hz Jz O Z Y H J ds _ s e1 λvs H1 J1 u1 r1=>?_
  exact⟨J1,ds,x,u1.ja,by rw[waY];exact r1,e,w.up u1⟩
end
variable {X:Cx}{f:FE}{e:Expr}{es:List Expr}{fl:FA}{p pos:Pos}
end VD
namespace VD
open PySem PySem.Spec PyProof PyProof.Rows L2
def zfb (Z:En)(g:FG)(fk fv:FE)(d:D):Option (Key×D):=(g d Z).bind λZ1=>(fk Z1).bind λk=>(keyD k).bind λk=>(fv Z1).bind λv=>some (k,v)
def zdL (f:D->Option (Key×D)):List D->List Key×List D->Option (List Key×List D)
|[],a=>some a
|d::ds,a=>(f d).bind λp=>if a.1.length<lim then zdL f ds (putKD a.1 a.2 p.1 p.2) else none
def zk1 (fr:List (Option Nat))(fi:FA)(g:FG)(fk fv:FE):FE:=λZ=>(fi Z).bind λds=>(zdL (zfb (zaF Z fr) g fk fv) ds ([],[])).bind λr=>some (.dct r.1 r.2)
def zkf {K:W.Frag}{fr:List (Option Nat)}{wi:TI}{fi:FA}{g:FG}{is:List Nat}{fk fv:FE}(hi:GoI K wi fi)(hon:∀d Z Z',g d Z=some Z'->Only is Z Z')(hap:apart is fr=true) :
 GoE K (zh3 fr wi (TGof K g) (TTof K tTrue) (TEof K fk) (TEof K fv)) (zk1 fr fi g fk fv):=by
 intro Hz Jz O Z Y H J out Q s e w;obtain⟨ds,e1,e⟩:=bind_some e;obtain⟨r,e2,e⟩:=bind_some e;cases e;refine hi Hz Jz O Z Y H J ds _ s e1 λI H1 J1 u1 src=>?_
 intro Da hD;have hD0:Hz Da=none:=(s.free (u:=u1) hD)
 have nJ1:¬J1 Da:=λj=>u1.ja Da j hD
 refine⟨λi m ys Y2 H2=>m=ds.length - i/\i<=ds.length/\∃J2 ks dn,ST K Hz Jz O.blk (zaF Z fr) Y2 H2 J2/\Up H1 J1 H2 J2/\¬J2 Da/\Keep K H1 J1 H2 J2/\ys.map (·.1)=ks/\RpL K H2 J2 (ys.map (·.2)) dn/\zdL (zfb (zaF Z fr) g fk fv) (ds.drop i) (ks,dn)=some r,⟨ds.length,by simp,wbz _,?_⟩,?_⟩
 .have un:=Up.new u1.ja hD (.dK [])
  exact⟨J1,[],[],((s.up u1).up un).pick fr,un,nJ1,un.keep,rfl,.nil,by simpa using e2⟩
 .rintro i m ys Y2 H2 ⟨rfl,hil,J2,ks,dn,s2,u2,nj2,k2,ek,r2,ec⟩ hys;obtain⟨stop,turn⟩:=src H2 J2 k2 s2.ja;by_cases hlt:i<ds.length
  .right
   have hd:ds[i]?=some ds[i]:=wan hlt
   generalize hdd:ds[i]=d at hd;obtain⟨go,yl⟩:=turn i d hd;have edrop:ds.drop i=d::ds.drop (i+1):=by rw[<-hdd];exact(wbK hlt).symm
   rw[edrop] at ec;obtain⟨p,ep,ec⟩:=bind_some (show((zfb (zaF Z fr) g fk fv d).bind λp=>if ks.length<lim then zdL (zfb (zaF Z fr) g fk fv) (ds.drop (i+1)) (putKD ks dn p.1 p.2) else none)=some r from ec);by_cases hl:ks.length<lim
   .rw[if_pos hl] at ec;obtain⟨Z1,eg,ep⟩:=bind_some ep;obtain⟨kd,ekd,ep⟩:=bind_some ep;obtain⟨kk,ekk,ep⟩:=bind_some ep;obtain⟨vd,evd,ep⟩:=bind_some ep;cases ep;refine⟨go,λzs Y' H'=>∃J2 ks dn,ST K Hz Jz O.blk (zaF Z fr) Y' H' J2/\Up H1 J1 H' J2/\¬J2 Da/\Keep K H1 J1 H' J2/\zs.map (·.1)=ks/\RpL K H' J2 (zs.map (·.2)) dn/\zdL (zfb (zaF Z fr) g fk fv) (ds.drop (i+1)) (ks,dn)=some r,λzs Y' H' h=>⟨ds.length - (i+1),by omega,rfl,hlt,h⟩,λx H3 y=>?_⟩;obtain⟨J3,u3,r3⟩:=yl x H3 y;have wk:Weak (zaF Z fr) Z1:=zeu (hon _ _ _ eg) hap
    refine⟨Hz,Jz,O.blk,zaF Z fr,J3,d,Z1,s2.up u3,r3,eg,λY4 s4=>?_⟩;refine⟨Hz,Jz,O.blk,Z1,J3,true,s4,rfl,λH5 J5 u5=>?_⟩;refine⟨λ_=>?_,λz=>by cases z⟩;refine⟨Hz,Jz,O.blk,Z1,J5,kd,s4.up u5,ekd,λvk H6 J6 u6 r6=>?_⟩;refine⟨Hz,Jz,O.blk,Z1,J6,vd,(s4.up u5).up u6,evd,λv H7 J7 u7 r7=>?_⟩;have u27:=((u3.trans u5).trans u6).trans u7
    have nj7:¬J7 Da:=λj=>by
     rcases u27.jn Da j with j|j
     .exact nj2 j
     .rw[hys] at j;cases j
    have hy7:H7 Da=some (.dK ys):=u27.same _ _ hys
    have kA:Keep K H7 J7 (upd H7 Da (.dK (putK ys kk v))) J7:=zcf hy7 nj7
    obtain⟨p1,p2⟩:=zl4 (j:=kk) ek (r2.keep u27.keep) r7;refine⟨kk,zih (.inl r6) ekk,hy7,?_,J7,_,_,?_,(u2.trans u27).at (ys:=[]) hD,nj7,(k2.trans u27.keep).trans kA,p1,p2.keep kA,ec⟩
    .have:ys.length=ks.length:=by rw[<-ek,wam]
     rw[this];exact wao hl (wbu zd9)
    .exact((((s4.up u5).up u6).up u7).weak wk rfl).at (zb0 Z fr) hy7 nj7 hD0
   .rw[if_neg hl] at ec;cases ec
  .left
   have hi':i=ds.length:=by omega
   subst hi';rw[wcm] at ec;cases ec;refine⟨stop,?_⟩;have hnone:H Da=none:=u1.same.free hD
   have ut:Up H J H2 J2:=u1.trans u2
   refine w (.ref Da) H2 (λb=>J2 b\/b=Da) ⟨ut.same,λb h=>.inl (ut.jj b h),λb h=>?_,λb h=>?_⟩ (.dct hys (.inr rfl) ek rfl ?_)
   .rcases h with h|rfl
    .exact ut.jn b h
    .exact .inr hnone
   .rcases h with h|rfl
    .exact ut.ja b h
    .rw[hys];simp
   .exact r2.keep ⟨λ_ h=>.inl h,λ_ _ _ h=>h,λ_ _ h=>h⟩
section
variable {X:Cx}{kx vx iter tg:Expr}{scope:Scope}{pos:Pos}{NC:List Str}{fi:FA}{g:FG}{is:List Nat}{fk fv:FE}
def zkg (i:Nat){x:Str}{pos' cp:Pos}(hND:X.N.Nodup)(N:List Str)(st:Stmt)(fr:List (Option Nat))(hi:VI X tg iter fi)
 (hg:∀{cl C s0 H0 ex pn},VG (cxC X scope cl NC C s0 H0 ex pn) tg is g) (hk:∀{cl C s0 H0 ex pn},VE (cxC X scope cl NC C s0 H0 ex pn) kx fk) (hv:∀{cl C s0 H0 ex pn},VE (cxC X scope cl NC C s0 H0 ex pn) vx fv)
 (hcalm:X.calm=true:=by rfl) (hcells:∀x,X.env.scope.names.lookup x=some .cell->∃c,X.env.cells.lookup x=some c:=by exact λx h=>zbC h) (hfk:X.env.scope.kind=.function:=by rfl) (hN:X.N=N:=by rfl) (hsc:X.env.scope.names=(zab st).names:=by rfl)
 (hfree':∀y∈scope.names,y.2=.free->(zab st).names.lookup y.1=some .cell:=by decide +kernel) (hcell:∀y∈scope.names,y.2≠.cell:=by decide +kernel) (hkind:scope.kind=.function:=by rfl) (hnames:∀y∈scope.names,y.2=.local->scope.names.lookup y.1=some .local:=by decide +kernel)
 (hfr':zbW N (zab st).names scope.names NC fr=true:=by decide +kernel) (hlen:fr.length=NC.length:=by rfl) (hap:apart is fr=true:=by decide)
 (hs:∀x,foldedSetIterable iter X.env x=pure x:=by intro _;rfl) (hix:X.N[i]?=some x:=by rfl) (hx:Loc X.env.scope x:=by first|exact Or.inl rfl|exact Or.inr rfl) (hsw:swapsWith (.DictComp kx vx [⟨tg,iter,[],0⟩] scope cp) (some (.Name x pos')) pos.line X.env=pure true:=by rfl)
 (hf:X.fn x=true\/X.env.scope.names.lookup x=some .local:=by first|exact .inl rfl|exact .inr rfl|assumption):VS X (.Assign [.Name x pos'] (.DictComp kx vx [⟨tg,iter,[],0⟩] scope cp) pos) (gSet i (zk1 fr fi g fk fv)):=by
 obtain⟨wi,pi,gi⟩:=hi;obtain⟨_,_,hon,_⟩:=@hg [] 0 X.s₀ X.Hz [] [];exact⟨_,zjz hND hix hx N st fr hcalm pi hcells hfk hN hsc hfree' hcell hkind hnames hfr' hlen (λ_ _ _ _ _ _=>hg.of) (λ_ _ _ _ _ _=>show PTs _ [] (TTof X.K tTrue) from zdG) (λ_ _ _ _ _ _=>hk.of) (λ_ _ _ _ _ _=>hv.of) hs hsw hf,zif (zkf gi hon hap)⟩
end
end VD
namespace EX
open PySem PySem.Spec PySem.W PyProof.Rows
section
variable {prog:Program}{w:World}{K:Frag}{fd:FuncData}{fI:Addr}{x p q y:Str}{tk0:Tok}{h0:Heap}{cp cq np fp jp:Pos}{k k2:Nat}
end
end EX
namespace VD
open PySem PySem.Spec PyProof PyProof.Rows L2 EX
structure XCl0 (K:W.Frag)(mg:Str->Option Value)(c:Str):Prop where
 ex:∃C N bm,XJ K C N bm/\mg c=some (.ref C)/\W.nsIn K mainGlobals c=some (some (.ref C))/\W.keepIn K (.ref C)=true/\bm.contains (.type "BaseException")=true
section
variable {X:Cx}{E:XK}{c:Str}{e:Expr}{fa:FE}{k:Nat}{np cp pos:Pos}
def ziG (cl:XCl0 X.K X.mg c)(hr:Room (k+1) X.A)(hL:zgA X E)(ha:VE X e fa)(hg:Gl X c:=by rfl)
 (hdb:(c == ("__debug__" : Str))=false:=by decide) (he:starEach [e] X.env=(false,eval e X.env)::starEach [] X.env:=by rfl):VRS X E (.Raise (some (.Call (.Name c np) [e] [] cp)) none pos) (gRet λZ=>(fa Z).bind λ_=>some (.exc c [] [])):=by
 obtain⟨C,N,bm,xj,hm,hn,hk,hB⟩:=cl.ex;obtain⟨t,p,g⟩:=zaa ha zae he;refine⟨_,ziD xj hg hm hk hB hr hL p hdb he,?_⟩;intro Hz Jz O Z Y H J o D s e w;obtain⟨y,e1,e⟩:=bind_some e;cases e;obtain⟨d,e0,e2⟩:=bind_some e1;cases e2;have e3:aCons fa aNil Z=some [d]:=by unfold aCons;rw[e0];rfl
 refine g Hz Jz O Z Y H J [d] _ s e3 λvs H1 J1 u1 r1=>⟨by rw[r1.length];exact wai 1,?_⟩
 exact w Z Y _ J1 _ _ (s.up u1) ⟨c,[],[],C,rfl,hn,rfl,.inl ⟨rfl,rfl,rfl⟩⟩ λb z=>nomatch z
end
end VD
namespace VD
open PySem PySem.Spec PyProof PyProof.Rows L2
def Its (y:Str):It:=⟨λi _=>i<y.cps.size,λi H x H'=>H'=H/\∃c,y.cps[i]?=some c/\x=.str ⟨#[c]⟩,λi _=>i=y.cps.size⟩
def zgC {P:Program}{w:World}{K:W.Frag}{tg:Expr}{it:Addr}{y:Str}{t:Tok}{ty:String}(W:∀A:Around,A.handled=none->Walks P w A it [it] [it] y.cps.size (SignAt y) (λi h=>h.IsStrIter it ty y t i))
 (hS:∀(A:Around) (i:Nat) (s:Shared) (Q:Value->Shared->Prop) (E:Value->Shared->Prop),s.heap.IsStrIter it ty y t i->Q (.ref it) s->wpAny (model P w) A (pyIter (.ref it)) Q E s)
 (hty:["enumerate","zip","dict_itemiterator","dict_reverseitemiterator","odict_iterator","itertools.zip_longest","itertools.pairwise"].contains ty=false):Turn P w K tg (Its y) [it] it (λi h=>h.IsStrIter it ty y t i) where
 mem:=by simp
 obj:=λi h st b hb=>by
  rw[wal.mp hb];obtain⟨o,e,c,d⟩:=st;exact⟨o,e,λv z=>by rw[d] at z;cases z⟩
 keep:=λi h h' st k=>let ⟨o,e,r⟩:=st;⟨o,k it (by simp) o e,r⟩
 item:=by
  intro X hP hw hK hc i pins s Y H E I hf st hg;subst hP hw hK;obtain⟨f0,f1,f2,f3,f4,f5⟩:=hf it (by simp);refine(W X.A (I.ok.hd hc)).item i s _ _ hg st λv h' tk hv st' kk=>?_
  obtain⟨c,u,hc1,rfl⟩:=hv;have I1:Inv X pins Y H {s with heap:=h',toks:=tk}:=I.turned (λb o hb e=>kk b o (by simpa using hb) e) f0 f1 f3 f4 f5
  obtain⟨o,e,c',d⟩:=id st';exact⟨_,rfl,zhA (s:={s with heap:=h',toks:=tk}) e c' d hty ⟨.str ⟨#[c]⟩,H,I1,⟨u,rfl⟩,⟨rfl,c,hc1,rfl⟩,st',λb hb=>(hf b hb).1⟩⟩
 done:=by
  intro X hP hw hK hc i pins s Y H E I hf st hg;subst hP hw hK;obtain rfl:i=y.cps.size:=hg;obtain⟨f0,f1,f2,f3,f4,f5⟩:=hf it (by simp);exact(W X.A (I.ok.hd hc)).done s _ _ st λh' tk eb=>⟨rfl,I.turned (λb o hb e=>eb b o (by simpa using hb) e) f0 f1 f3 f4 f5⟩
 self:=hS
def iStr (tl:TE):TI:=λY H R=>tl Y H λx H1=>∃y,x=.str y/\R (Its y) H1
section
variable {X:Cx}{tg a b:Expr}{fa fb:FE}{pos:Pos}
def zoh {l:Expr}{tl:TE}(hl:PE X l tl):PI X tg l (iStr tl):=by
 intro pins s Y H R I h;refine thn (hl pins s Y H _ I h) λv s1 ⟨x,H1,I1,r1,y,e,q⟩ =>?_
 subst e;obtain⟨t,rfl⟩:=r1;have fin:∀(ty:String) (o:Obj) (_:o = {cls:=.type ty,data:=.fields #[.str y t,.int 0 0]}),Turn X.prog X.w X.K tg (Its y) [s1.heap.objs.size] s1.heap.objs.size (λi h=>h.IsStrIter s1.heap.objs.size ty y t i)->PIE X pins Y tg R (.ref s1.heap.objs.size) {s1 with heap:=s1.heap.push o}:=λty o eo T=>by
  subst eo;refine⟨s1.heap.objs.size,[s1.heap.objs.size],_,_,H1,rfl,I1.kept (t':=s1.toks) λb o e=>wac _ e,T,⟨_,wav _ rfl,rfl,rfl⟩,λb hb=>?_,q⟩;rw[wal.mp hb];exact I1.fpOk (wai _) (I1.hok.fresh (wai _))
 cases ha:y.cps.all (·<128)
 .exact wpAny_pyIter_wide ha (fin _ _ rfl (zgC (λA hA=>Walks.strWide hA _ y t) (λ_ _ _ _ _ a b=>wpAny_pyIter_striter_wide a b) (by decide)))
 .exact wpAny_pyIter_ascii ha (fin _ _ rfl (zgC (λA hA=>Walks.strAscii hA _ y t) (λ_ _ _ _ _ a b=>wpAny_pyIter_striter_ascii a b) (by decide)))
def zoi:D->Option (List D)
|.str y=>some (y.cps.toList.map λc=>.str ⟨#[c]⟩)
|_=>none
def zpz (f:FE):FA:=λZ=>(f Z).bind zoi
def zoj (h:VE X a fa):VI X tg a (zpz fa):=by
 obtain⟨t,p,g⟩:=h;refine⟨_,zoh p,?_⟩;intro Hz Jz O Z Y H J ds R s e w;obtain⟨x,e1,e⟩:=bind_some e;cases x with
|str y=>
   cases e;refine g Hz Jz O Z Y H J _ _ s e1 λv H1 J1 u1 r1=>?_
   cases r1;refine⟨y,rfl,w _ H1 J1 u1 λH2 J2 k ja=>?_⟩;refine⟨by show _=_;simp,λi d hd=>?_⟩;rw[war] at hd;obtain⟨c,hc,rfl⟩:=wbr.mp hd;have hc:y.cps[i]?=some c:=by simpa using hc
   have hi:i<y.cps.size:=(waU.mp hc).1
   refine⟨hi,λx H3 z=>?_⟩;obtain⟨rfl,c',hc',rfl⟩:=z;rw[hc] at hc';cases hc';exact⟨J2,Up.refl ja,.str _⟩
|_=>cases e
def inTx (a b:Str):Bool:=!(Builtin.Str.occurrences b a 0 b.length 1).isEmpty
def rInS (neg:Bool):R2:=λx y H Q=>∃a b,x=.str a/\y=.str b/\Q (.bl (if neg then !inTx a b else inTx a b)) H
def zok:OpR X (compareOp .In) (rInS false):=by
 intro pins s Y H x y v u Q I rx ry ⟨a,b,e1,e2,q⟩;subst e1 e2;obtain⟨t1,rfl⟩:=rx;obtain⟨t2,rfl⟩:=ry;exact in_str ⟨.bl _,H,I,rfl,q⟩
def dInS (neg:Bool):D->D->Option D
|.str a,.str b=>some (.bl (if neg then !inTx a b else inTx a b))
|_,_=>none
def zol {K:W.Frag}(neg:Bool):Im2 K (rInS neg) (dInS neg):=by
 intro H J x y d e d' Q ja hx hy hF w;cases d with
|str p=>cases e with
  |str q=>cases hF;exact⟨p,q,hx.str,hy.str,w _ H J (Up.refl ja) (.bl _)⟩
  |_=>cases hF
|_=>cases hF
end
def un6:D->Option (D×D×D×D×D×D)
|.tup [a,b,c,d,e,f]=>some (a,b,c,d,e,f)
|_=>none
def zkh {d:D}{y:D×D×D×D×D×D}(h:un6 d=some y):d=.tup [y.1,y.2.1,y.2.2.1,y.2.2.2.1,y.2.2.2.2.1,y.2.2.2.2.2]:=by
 unfold un6 at h;split at h
 .cases h;rfl
 .cases h
def tg_6 {Z:En}{d:D}{i j l m n o:Nat}(h1:okS i Z=true)(h2:∀x,okS j (Z.set i (.val x))=true)(h3:∀x y,okS l ((Z.set i (.val x)).set j (.val y))=true)(h4:∀x y z,okS m (((Z.set i (.val x)).set j (.val y)).set l (.val z))=true)(h5:∀x y z w,okS n ((((Z.set i (.val x)).set j (.val y)).set l (.val z)).set m (.val w))=true)(h6:∀x y z w v,okS o (((((Z.set i (.val x)).set j (.val y)).set l (.val z)).set m (.val w)).set n (.val v))=true) :
 Tg (gT 6 (gCons' (gN i) (gCons' (gN j) (gCons' (gN l) (gCons' (gN m) (gCons' (gN n) (gCons' (gN o) gNil'))))))) d Z (un6 d) λy=>(((((Z.set i (.val y.1)).set j (.val y.2.1)).set l (.val y.2.2.1)).set m (.val y.2.2.2.1)).set n (.val y.2.2.2.2.1)).set o (.val y.2.2.2.2.2):=λy e=>by
 rw[zkh e];show((gN i y.1 Z).bind λZ1=>(gN j y.2.1 Z1).bind λZ2=>(gN l y.2.2.1 Z2).bind λZ3=>(gN m y.2.2.2.1 Z3).bind λZ4=>(gN n y.2.2.2.2.1 Z4).bind λZ5=>(gN o y.2.2.2.2.2 Z5).bind λZ6=>gNil' [] Z6)=_
 rw[ze0 h1,zOB,ze0 (h2 _),zOB,ze0 (h3 _ _),zOB,ze0 (h4 _ _ _),zOB,ze0 (h5 _ _ _ _),zOB,ze0 (h6 _ _ _ _ _)];rfl
def dSlW:D->Option Int->Option Int->Option D
|.tup ds,lo,hi=>some (.tup (cut ds lo hi))
|x,lo,hi=>dSl x lo hi
def eSlW (f:FE)(lo hi:FO):FE:=λZ=>(f Z).bind λx=>(lo Z).bind λl=>(hi Z).bind λh=>dSlW x l h
section
variable {X:Cx}{a b:Expr}{fa fb:FE}{pos p2:Pos}
def zmu {ds:List D}{lo hi:Option Int}(h0:HT.sIx ds.length 0 lo=0)(h1:HT.sIx ds.length ds.length hi=ds.length):VD.cut ds lo hi=ds:=by
 unfold VD.cut;rw[h0,h1];simp
def zfc {lo hi:Option Expr}{fl fh:FO}(ha:VW X a fa)(hl:VO X lo fl)(hh:VO X hi fh):VE X (.Subscript a (.Slice lo hi none p2) pos) (eSlW fa fl fh):=by
 obtain⟨t,p,g⟩:=ha;obtain⟨tl,pl,gl⟩:=hl;obtain⟨th,ph,gh⟩:=hh;refine⟨_,zep (r:=λx lo hi H Q=>rSlD X.K x lo hi H Q\/rSlW X.K x lo hi H Q) (SlR.or (sl_list.or (sl_tup.or zkG)) zjA) p pl ph,?_⟩;intro Hz Jz O Z Y H J d Q s e w;obtain⟨x,e1,e⟩:=bind_some e;obtain⟨l,e2,e⟩:=bind_some e;obtain⟨h,e3,e⟩:=bind_some e;refine g Hz Jz O Z Y H J x _ s e1 λv H1 J1 u1 r1=>?_
 refine gl Hz Jz O Z Y H1 J1 l _ (s.up u1) e2 λH2 J2 u2=>?_
 refine gh Hz Jz O Z Y H2 J2 h _ (s.up (u1.trans u2)) e3 λH3 J3 u3=>?_
 have r3:=r1.up (u2.trans u3)
 have u:=u1.trans (u2.trans u3)
 match x,e with
|.lst ds,e=>
   cases e;obtain⟨p,vs,rfl,h1,rl⟩:=r3.lst;refine .inl (.inl ⟨p,vs,rfl,SqL.of h1,λc hc=>?_⟩);have un:=Up.newJ u3.ja hc (.lst (cutV vs l h))
   exact w _ _ _ (u.trans un) (.lst zah (.inr rfl) ((rl.cut l h).keep un.keep))
|.tup ds,e=>
   cases e;obtain⟨p,vs,rfl,h1,rl⟩:=r3.tup;by_cases hc:HT.sIx ds.length 0 l=0/\HT.sIx ds.length ds.length h=ds.length
   .refine .inr ⟨p,vs,rfl,h1,by rw[rl.length];exact hc.1,by rw[rl.length];exact hc.2,?_⟩;rw[show cut ds l h=ds from zmu hc.1 hc.2] at w;exact w _ H3 J3 u (.tup h1 rl)
   .refine .inl (.inr (.inl ⟨p,vs,rfl,h1,by rw[rl.length];exact hc,λc hc=>?_⟩));have un:=Up.new u3.ja hc (.tup (cutV vs l h))
    exact w _ _ _ (u.trans un) (.tup (SqT.of zah) ((rl.cut l h).keep un.keep))
|.str z,e=>
   have e:(if z.length<=lim then some (D.str (Txt.slice z l h)) else none)=some d:=e
   by_cases hl:z.length<=lim
   .rw[if_pos hl] at e;cases e;rw[r3.str];exact .inl (.inr (.inr ⟨z,rfl,zca hl,w _ H3 J3 u (.str _)⟩))
   .rw[if_neg hl] at e;cases e
end
end VD
namespace VD
open PySem PySem.Spec PyProof PyProof.Rows L2 EX
end VD
namespace VD
open PySem PySem.Spec PyProof PyProof.Rows L2
def zpA:List D->Option (List D)
|[.lst ds]=>some ds
|[.tup ds]=>some ds
|_=>none
def zgD (l:List D):Option (List D):=(zpA l).bind λds=>some (zdm ds)
def zom (f:FA):FA:=λZ=>(f Z).bind zgD
section
variable {X:Cx}{a b:Expr}{fl:FA}{pos p p2:Pos}
def zki {elts:List Expr}{x1}{tpos:Pos}(B:Blt X.mg)(ha:VA X [a] fl)(hg:Gl X "enumerate":=by rfl)(hs:starEach [a] X.env = [(false,eval a X.env)]:=by rfl):VI X (.Tuple elts x1 tpos) (.Call (.Name "enumerate" p) [a] [] pos) (zom fl):=by
 obtain⟨t,q,g⟩:=ha;refine⟨_,znK (zjB hg (B.get "enumerate") q hs) (zhW hg (B.get "enumerate") q hs),?_⟩;intro Hz Jz O Z Y H J ds R s e w;obtain⟨l,e1,e⟩:=bind_some e;obtain⟨xs,e2,e⟩:=bind_some e;cases e;match l,e2 with
|[.lst _],e2=>
   cases e2;refine .inl (g Hz Jz O Z Y H J _ _ s e1 λvs H1 J1 u1 r1=>?_);cases r1 with
  |cons h t=>
     cases t;cases h with
    |lst h j r=>
       refine⟨_,rfl,⟨_,SqL.of h⟩,w _ H1 J1 u1 λH2 J2 k ja=>?_⟩;have h2:=SqL.of (K:=X.K) (k.jo _ _ j h)
       refine⟨⟨_,h2,by rw[r.length,zce];exact wai _⟩,λi d hd=>?_⟩;obtain⟨x,hx,rfl⟩:=zdE hd;obtain⟨v,hv,rv⟩:=r.get hx;refine⟨⟨_,v,h2,hv⟩,λy H3 hy=>?_⟩;obtain⟨q,hn,rfl,hy⟩:=hy;obtain⟨y,ey,rfl⟩:=hy _ h2;rw[hv] at ey;cases ey;have un:=Up.new ja hn (.tup [.int (i:Nat),v])
       exact⟨J2,un,.tup (SqT.of zah) (.cons (.int _) (.cons ((rv.keep k).keep un.keep) .nil))⟩
|[.tup _],e2=>
   cases e2;refine .inr (g Hz Jz O Z Y H J _ _ s e1 λvs H1 J1 u1 r1=>?_);cases r1 with
  |cons h t=>
     cases t;cases h with
    |tup h r=>
       refine⟨_,rfl,⟨_,h⟩,w _ H1 J1 u1 λH2 J2 k ja=>?_⟩;have h2:=k.tp _ _ h
       refine⟨⟨_,h2,by rw[r.length,zce];exact wai _⟩,λi d hd=>?_⟩;obtain⟨x,hx,rfl⟩:=zdE hd;obtain⟨v,hv,rv⟩:=r.get hx;refine⟨⟨_,v,h2,hv⟩,λy H3 hy=>?_⟩;obtain⟨q,hn,rfl,hy⟩:=hy;obtain⟨y,ey,rfl⟩:=hy _ h2;rw[hv] at ey;cases ey;have un:=Up.new ja hn (.tup [.int (i:Nat),v])
       exact⟨J2,un,.tup (SqT.of zah) (.cons (.int _) (.cons ((rv.keep k).keep un.keep) .nil))⟩
def ziH {sts:List Stmt}:VSs X sts gNo:=⟨_,zhz,λHz Jz O Z Y H J o E s e w=>by cases e⟩
end
section
variable {X:Cx}{K:W.Frag}{a b e:Expr}{es:List Expr}{fa fb fk:FE}{fv:FX}{fl:FA}{pos p2:Pos}{H H':Hp}{J J':Addr->Prop}
end
section
variable {K:W.Frag}{H H' Hz:Hp}{J J' Jz:Addr->Prop}{Z:En}{Y:L2.St}{O:Pr}{fp:Nat->List Addr}
end
end VD
namespace GX
open PySem PySem.Spec PyProof PyProof.Rows L2
abbrev GP:=Nat->Shared->Prop
def zg9 (n:Nat)(P:Nat->Value->Prop)(Mid St:GP):Protocol:=λm _ v s kap=>
 ∃i,i+1+m=n/\P i v/\Mid (i+1) s/\∀s'':Shared,St (i+1) s''->kap (.send .none) s''
def gend (Dn:Shared->Prop):GenEnd:=λm _ r s₁=>r=.ok .next/\(m=0/\Dn s₁)
def zbp (elt target iter:Expr)(scope:Scope)(pos:Pos)(it:Value)(cenv:Env):Code:=.compLoop (.GeneratorExp elt [⟨target,iter,[],0⟩] scope pos) 0 it .none cenv
def zdM (elt target iter:Expr)(scope:Scope)(pos:Pos)(it:Value)(cenv:Env):Code:=.compStart (.GeneratorExp elt [⟨target,iter,[],0⟩] scope pos) 0 it .none cenv
def zcZ {gens:Array GenState}{g:Nat}{x:GenState}(h:AllBare gens)(hx:x.bare=true){s:Shared}(e:gens=s.gens):AllBare (s.setGen g x).gens:=by
 subst e;intro y hy;obtain⟨i,hi,rfl⟩:=Array.mem_iff_getElem.mp hy;simp only[Shared.setGen] at hi⊢;by_cases z:g=i
 .subst z;simp[hx]
 .rw[Array.getElem_setIfInBounds_ne (by simpa using hi) z];exact h _ (Array.getElem_mem _)
section
variable {prog:Program}{w:World}{A:Around}{elt target iter:Expr}{scope:Scope}{pos:Pos}{it:Value}{cenv:Env}{n:Nat}{P:Nat->Value->Prop}{Mid St:GP}{Dn:Shared->Prop}
def zkj (hco:cenv.scope.isCoroutine=false)
 (turn:∀i s,i<n->St i s->wpAny (model prog w) (A.over (zbp elt target iter scope pos it cenv) []) (pyNext it) (λr s1=>∃v,r=some v/\
  wpAny (model prog w) (A.over (zbp elt target iter scope pos it cenv) []) (letOwnedTupleGo target it v) (λ_ s2=>
   wpAny (model prog w) (A.over (zbp elt target iter scope pos it cenv) []) (assign target cenv v) (λ_ s3=>
    wpAny (model prog w) (A.over (zbp elt target iter scope pos it cenv) []) (eval elt cenv) (λy s4=>P i y/\Mid (i+1) s4) (λ_ _=>False) s3) (λ_ _=>False) s2) (λ_ _=>False) s1) (λ_ _=>False) s)
 (done:∀s,St n s->wpAny (model prog w) (A.over (zbp elt target iter scope pos it cenv) []) (pyNext it) (λr s1=>r=none/\Dn s1) (λ_ _=>False) s) :
 ∀(k i:Nat) (s₀ s:Shared),n - i=k->i<=n->St i s->Seg (model prog w) A (gend Dn) (zg9 n P Mid St) k s₀ (zbp elt target iter scope pos it cenv) ((model prog w).den (zbp elt target iter scope pos it cenv)) [] s:=by
 intro k;induction k with
|zero=>
   intro i s₀ s hk hi hst;have hin:i=n:=by omega
   subst hin;show Seg _ A _ _ _ s₀ _ ((compTurn (.GeneratorExp elt [⟨target,iter,[],0⟩] scope pos) 0 it .none cenv).onRaise (leaving cenv)) [] s
   rw[compTurn_gen,wcx];refine seg_bind_wrap (wbh ?_);refine seg_bind_wrap (wax (done s hst) (λr s1 ⟨hr,hd⟩ =>?_) λ_ _ e=>e.elim);subst hr;exact seg_end (.ok .next) ⟨rfl,rfl,hd⟩
|succ k ih=>
   intro i s₀ s hk hi hst;have hlt:i<n:=by omega
   show Seg _ A _ _ _ s₀ _ ((compTurn (.GeneratorExp elt [⟨target,iter,[],0⟩] scope pos) 0 it .none cenv).onRaise (leaving cenv)) [] s
   rw[compTurn_gen,wcx];refine seg_bind_wrap (wbh ?_);refine seg_bind_wrap (wax (turn i s hlt hst) (λr s1 ⟨v,hr,h1⟩ =>?_) λ_ _ e=>e.elim);subst hr;refine seg_bind_wrap (wax h1 (λ_ s2 h2=>?_) λ_ _ e=>e.elim);refine seg_bind_wrap (wax h2 (λ_ s3 h3=>?_) λ_ _ e=>e.elim);refine seg_bind_wrap (wak ?_);simp only[if_true];have hy:∀v,yieldOut cenv v=yieldValue v:=λv=>by simp only[yieldOut,hco,wcc,if_false]
   simp only[hy];rw[Sem.bind_eq_wrap',Sem.bind_eq_wrap',Sem.wrap_wrap,Sem.wrap_wrap];refine seg_wrap (wax h3 (λy s4 h4=>?_) λ_ _ e=>e.elim);refine seg_at (seg_yield rfl rfl rfl ⟨i,by omega,h4.1,h4.2,λs'' hs=>?_⟩)
   exact seg_again rfl (ih (i+1) s'' s'' (by omega) hlt hs)
def ziI (hloop:∀s₀ s,St 0 s->Seg (model prog w) A (gend Dn) (zg9 n P Mid St) n s₀ (zbp elt target iter scope pos it cenv) ((model prog w).den (zbp elt target iter scope pos it cenv)) [] s)
 (self:∀(A':Around) s,St 0 s->wpAny (model prog w) A' (pyIter it) (λx s'=>x=it/\St 0 s') (λ_ _=>False) s) (s₀ s:Shared) (h:St 0 s) :
 Seg (model prog w) A (gend Dn) (zg9 n P Mid St) n s₀ (zdM elt target iter scope pos it cenv) ((model prog w).den (zdM elt target iter scope pos it cenv)) [] s:=by
 show Seg _ A _ _ _ s₀ _ ((compStart (.GeneratorExp elt [⟨target,iter,[],0⟩] scope pos) 0 it .none cenv).onRaise (leaving cenv)) [] s
 unfold compStart;rw[wcx];show Seg _ A _ _ _ s₀ _ ((ask >>= _).wrap _ _ _ _) [] s
 refine seg_bind_wrap (wpAny_askSetting ?_);split
 .exact seg_again rfl (hloop _ _ h)
 .refine seg_bind_wrap (wcE ?_);show Seg _ A _ _ _ s₀ _ ((standAt iter.pos >>= _).wrap _ _ _ _) [] s
  refine seg_bind_wrap (wbh ?_);refine seg_bind_wrap (wax (self _ s h) (λx s' hx=>?_) λ_ _ e=>e.elim);obtain⟨rfl,hx⟩:=hx;exact seg_again rfl (hloop _ _ hx)
structure At (prog:Program)(w:World)(A:Around)(a:Addr)(g n:Nat)(P:Nat->Value->Prop)(Mid St:GP)(Dn:Shared->Prop)(j:Nat)(s:Shared):Prop where
 bare:AllBare s.gens
 gen:s.heap.IsGen a g
 lim:s.heap.NoLimit
 go:∃gs,s.gens[g]?=some gs/\∀s'',St j s''->gs.Goes (model prog w) A.in1 (gend Dn) (zg9 n P Mid St) (n - j) (.send .none) s''
 run:St j (s.setGen g .running)
structure Holds (a:Addr)(g:Nat)(Mid St:GP):Prop where
 bare:∀i s,Mid i s->AllBare s.gens
 gen:∀i s,Mid i s->s.heap.IsGen a g
 lim:∀i s,Mid i s->s.heap.NoLimit
 size:∀i s,Mid i s->g<s.gens.size
 on:∀i s gs,gs.bare=true->Mid i s->St i ((s.setGen g gs).setGen g .running)
def ziJ {s:Shared}{g:Nat}{x:GenState}(h:g<s.gens.size):(s.setGen g x).gens[g]?=some x:=by simp[Shared.setGen,h]
def ziK {a:Addr}{g j:Nat}{s:Shared}{Q:Option Value->Shared->Prop}(hh:A.handled=none)(hroom:A.depth<recursionLimit)(hd:Holds a g Mid St)(hj:j<n)(h:At prog w A a g n P Mid St Dn j s)
 (hQ:∀v s1 gs,P j v->Mid (j+1) s1->gs.bare=true->At prog w A a g n P Mid St Dn (j+1) (s1.setGen g gs)->Q (some v) (s1.setGen g gs)):wpAny (model prog w) A (pyNext (.ref a)) Q (λ_ _=>False) s:=by
 obtain⟨_,hg,hl,⟨gs,hgs,hgo⟩,hr⟩:=h;obtain⟨m,hm⟩:∃m,n - j=m+1:=⟨n - j - 1,by omega⟩
 have go1:=hgo _ hr
 rw[hm] at go1;refine wpAny_pyNext_genexpQ (P:=λm _ s₁=>m=0/\Dn s₁) hh hl hroom hg hgs go1 (λv s₁ gs' hb hv=>?_) (λs₁ hp h' hk=>absurd hp.1 (Nat.succ_ne_zero m));obtain⟨i,hi,hP,hM,hkap⟩:=hv;have hij:i=j:=by omega
 subst hij;refine hQ v s₁ gs' hP hM hb ⟨zcZ (hd.bare (i+1) s₁ hM) hb rfl,hd.gen (i+1) s₁ hM,hd.lim (i+1) s₁ hM,⟨gs',ziJ (hd.size (i+1) s₁ hM),λs'' hs=>?_⟩,hd.on (i+1) s₁ gs' hb hM⟩;rw[show n - (i+1)=m by omega];exact hkap s'' hs
def ziL {a:Addr}{g:Nat}{s:Shared}{Q:Option Value->Shared->Prop}(hh:A.handled=none)(hroom:A.depth<recursionLimit)(hd:Holds a g Mid St)(h:At prog w A a g n P Mid St Dn n s)
 (hQ:∀s1 h',Dn s1->(∀b o,s1.heap.get? b=some o->h'.get? b=some o)->Q none {s1.setGen g .finished with heap:=h'}):wpAny (model prog w) A (pyNext (.ref a)) Q (λ_ _=>False) s:=by
 obtain⟨_,hg,hl,⟨gs,hgs,hgo⟩,hr⟩:=h;have go1:=hgo _ hr
 rw[wbG] at go1;refine wpAny_pyNext_genexpQ (P:=λm _ s₁=>m=0/\Dn s₁) hh hl hroom hg hgs go1 (λv s₁ gs' hb hv=>?_) (λs₁ hp h' hk=>hQ s₁ h' hp.2 hk);obtain⟨i,hi,_,hM,hkap⟩:=hv;exact(hkap _ (hd.on (i+1) s₁ gs' hb hM)).elim
end
section
variable {prog:Program}{w:World}{A:Around}{R:Result->Shared->Prop}{I:Addr}{n:Nat}{P:Nat->Value->Prop}{Wt:GP}{Fin:Shared->Prop}{tr:Nat->Bool}
def zkk (htr:TruthOf prog w A.in1 P tr)
 (item:∀i s,i<n->Wt i s->wpAny (model prog w) A.in1 (pyNext (.ref I)) (λr s'=>∃v,r=some v/\P i v/\Wt (i+1) s') (λ_ _=>False) s)
 (done:∀s,Wt n s->wpAny (model prog w) A.in1 (pyNext (.ref I)) (λr s'=>r=none/\Fin s') (λ_ _=>False) s)
 (stop:∀i s,i<n->tr i=false->Wt (i+1) s->Fin s):∀(k i:Nat) (s:Shared),n - i=k->i<=n->Wt i s->
 (∀s',Fin s'->R (.ok (.ret (.bool (((List.range n).drop i).all tr)))) s')->codeAny (model prog w) A (.builtin "all.loop" ⟨[.ref I],[]⟩) R s:=by
 intro k;induction k with
|zero=>
   intro i s hk hi hst hR;have hin:i=n:=by omega
   subst hin;refine codeAny_builtin F.entry_all_loop ?_;rw[Around.under_plainId wcn _];show wpAny _ A.in1 (pyNext (.ref I) >>= _) _ _ s
   refine waa (wax (done s hst) (λr s' ⟨hr,hf⟩ =>?_) λ_ _ e=>e.elim);subst hr;refine waa (wcE (wak ?_));have:=hR s' hf
   rw[wcf (by simp)] at this;exact this
|succ k ih=>
   intro i s hk hi hst hR;have hlt:i<n:=by omega
   have hd:(List.range n).drop i=i::(List.range n).drop (i+1):=by
    rw[wbV (by simpa using hlt)];simp
   refine codeAny_builtin F.entry_all_loop ?_;rw[Around.under_plainId wcn _];show wpAny _ A.in1 (pyNext (.ref I) >>= _) _ _ s
   refine waa (wax (item i s hlt hst) (λr s' ⟨v,hr,hP,hst'⟩ =>?_) λ_ _ e=>e.elim);subst hr;refine waa (wbv (htr i v _ _ _ hP ?_));refine waa (wpAny_letGo ?_);cases hb:tr i with
  |true=>
     simp only[if_true];refine wak ⟨plainId_quiet wcn _,ih (i+1) _ (by omega) hlt hst' λs'' hf=>?_⟩;have:=hR s'' hf
     rw[hd,List.all_cons,hb,Bool.true_and] at this;exact this
  |false=>
     simp only[wcc,if_false];refine waa (wcE (wak ?_));have:=hR s' (stop i s' hlt hb hst')
     rw[hd,List.all_cons,hb,Bool.false_and] at this;exact this
end
section
variable {prog:Program}{w:World}{A:Around}{E:Value->Shared->Prop}{s:Shared}{a:Addr}{n:Nat}{P:Nat->Value->Prop}{Wt:GP}{Fin:Shared->Prop}{tr:Nat->Bool}{Q:Value->Shared->Prop}
def zkl (htr:TruthOf prog w A.in1 P tr)
 (item:∀i s,i<n->Wt i s->wpAny (model prog w) A.in1 (pyNext (.ref a)) (λr s'=>∃v,r=some v/\P i v/\Wt (i+1) s') (λ_ _=>False) s)
 (done:∀s,Wt n s->wpAny (model prog w) A.in1 (pyNext (.ref a)) (λr s'=>r=none/\Fin s') (λ_ _=>False) s)
 (stop:∀i s,i<n->tr i=false->Wt (i+1) s->Fin s) {g:Nat}(hg:s.heap.IsGen a g) (h:Wt 0 s) (hQ:∀s',Fin s'->Q (.bool ((List.range n).all tr)) s') :
 wpAny (model prog w) A (call (.builtin "all") [.ref a]) Q E s:=by
 refine call_function_tree F.kind_all F.plain_all F.entry_all (F.args_all1 _) ?_;unfold Builtin.«all»;refine waa (m:=oneArg "all" _) (wak ?_);refine waa (wpAny_pyIter_gen hg ?_);exact wak ⟨plainId_quiet wcn _,zkk htr item done stop n 0 s rfl (wbz _) h λs' hf=>by simpa using hQ s' hf⟩
end
def gcx (X:Cx)(scope:Scope)(cl:List (Str×Addr))(NC:List Str)(C:Addr)(code:Value)(bi:Addr)(A':Around)(s0:Shared)(H0:Hp)(ex:List Addr)(pn:List (Addr×Obj)):Cx where
 prog:=X.prog
 w:=X.w
 K:=X.K
 mg:=X.mg
 base:=X.base
 A:=A'
 N:=NC
 s₀:=s0
 Hz:=H0
 env:=genEnv scope cl C code bi X.env
 outer:=X.stack
 stack:=genEnv scope cl C code bi X.env::X.stack
 ex:=ex
 fn:=λ_=>false
 calm:=true
 pn:=pn
 xe:=λ_ _=>False
def frO:Obj:={cls:=.type "frame",data:=.dict #[]}
def zmv {X:Cx}{pins:List (Addr×Obj)}{s4:Shared}{Y:L2.St}{H1:Hp}{fp:List Addr}{scope:Scope}{cl:List (Str×Addr)}{NC:List Str}{fr:List (Option Nat)}{code:Value}{bi:Addr}{A':Around}{mm:Str->Option Value}{h':Heap}{gs:Array GenState}{tk:Nat}{og:Obj}
 (I:Inv X pins Y H1 s4) (f2:∀b∈fp,FpOk X pins H1 b) (obj:∀b∈fp,∃o,s4.heap.get? b=some o/\∀v,o.data≠.cell v) (hkind:scope.kind=.function) (hbi:bi=builtinsNs)
 (hcl:∀x c,cl.lookup x=some c->X.env.cells.lookup x=some c)
 (hhas:∀x,(scope.names.lookup x=some .cell\/scope.names.lookup x=some .free)->∃c,cl.lookup x=some c)
 (hfr:∀(i:Nat) (x:Str) (j:Nat),NC[i]?=some x->fr[i]?=some (some j)->X.N[j]?=some x/\Vis X.env.scope x/\X.env.kindOf x≠some .local/\(scope.names.lookup x=some .cell\/scope.names.lookup x=some .free))
 (hlen:fr.length=NC.length) (hA:A'.handled=none) (hAf:A'.frames=some (genEnv scope cl s4.heap.objs.size code bi X.env::X.stack))
 (hn':h'.Ns s4.heap.objs.size mm) (hs':Heap.SameBut s4.heap.objs.size (s4.heap.push frO) h') (hg:AllBare gs) (hog:∀v,og.data≠.cell v) (hfz:og.isFreed=false) :
 Inv (gcx X scope cl NC s4.heap.objs.size code bi A' s4 H1 fp (X.pn++pins)) [(h'.objs.size,og)] (pick Y fr) H1 {s4 with gens:=gs,toks:=tk,heap:=h'.push og}:=by
 have sz:h'.objs.size=s4.heap.objs.size+1:=by rw[hs'.1,wby]
 generalize hC:s4.heap.objs.size=C at *;have ltC:∀{b:Addr}{o:Obj},s4.heap.get? b=some o->b<C:=λe=>by rw[<-hC];exact waj e
 have k4:∀b o,s4.heap.get? b=some o->(h'.push og).get? b=some o:=λb o e=>wac _ (hs'.extBut b o (way (ltC e)) (wac _ e))
 have hCn:H1 C=none:=I.hok.fresh (waX hC)
 have stkNo:∀b,s4.heap.objs.size<=b->b∉frs X.stack:=λb hb z=>by
  have f:=I.fpOk hb (I.hok.fresh hb)
  rcases waf.mp (I.stkSub b z) with z|z
  .exact f.2.1 z
  .exact f.2.2.1 z
 have okC:(gcx X scope cl NC C code bi A' s4 H1 fp (X.pn++pins)).Ok:=by
  refine⟨I.ok.mod,hkind,I.ok.glob,hbi,waX hC,λx y c h1 h2=>I.ok.inj x y c (hcl x c h1) (hcl y c h2),λx hx=>hhas x hx,λx c hf _=>(by cases hf),λ_=>hA,hAf,.inr ⟨rfl,rfl⟩,λb hb=>⟨?_,λx c e=>?_⟩,λb o e=>I.bs b o e,?_,λb o e hb=>?_,λb hb hf=>?_,?_,λb hb=>I.stkFree b hb⟩
  .obtain⟨o,eo,_⟩:=obj b hb;exact way (ltC eo)
  .exact(f2 b hb).2.2.2.2.1 x c (hcl x c e)
  .exact waq I.ok.bsz I.sz
  .obtain⟨e1,_⟩:=I.ok.bs b o e;have f:=f2 b hb
   rcases f.2.2.2.1 with z|z
   .exact I.ok.noex b o e z
   .exact absurd (wao (waj e1) z) (waP _)
  .rcases waf.mp (I.stkSub b hf) with z|z
   .exact(f2 b hb).2.1 z
   .exact(f2 b hb).2.2.1 z
  .exact I.stack
 refine⟨okC,rfl,hg,Un.kept k4,⟨_,hn'.push _,λi x v hN hv hvis=>?_⟩,λx c e=>?_,hCn,λx c e=>I.freeC x c (hcl x c e),λp hp=>?_,I.hok.kept k4,?_⟩
 .have hfi:∃j,fr[i]?=some (some j)/\Y[j]?=some (some v):=by
   unfold pick at hv;rw[war] at hv;cases e1:fr[i]? with
  |none=>rw[e1] at hv;cases hv
  |some o=>
     rw[e1] at hv;cases o with
    |none=>cases hv
    |some j=>
       refine⟨j,rfl,?_⟩;have hv':(Y[j]?).join=some v:=wau hv
       cases e2:Y[j]? with
      |none=>rw[e2] at hv';cases hv'
      |some w'=>rw[e2] at hv';exact wbb some hv'
  obtain⟨j,hj,hσ⟩:=hfi;obtain⟨q1,q2,q3,q4⟩:=hfr i x j hN hj;obtain⟨m,hm,hl⟩:=I.loc;obtain⟨u,ru,lk⟩:=hl j x v q1 hσ q2;refine⟨u,ru,?_⟩;rcases lk with⟨z,_⟩|⟨_,c,ec,ic⟩
  .exact absurd z q3
  .obtain⟨c',ec'⟩:=hhas x q4;have:c'=c:=by rw[hcl x c' ec'] at ec;exact wau ec
   subst this;obtain⟨oc,h1,h2⟩:=ic;exact .inr ⟨q4,c',ec',oc,k4 _ _ h1,h2⟩
 .obtain⟨v,oc,h1,h2⟩:=I.cell x c (hcl x c e);exact⟨v,oc,k4 _ _ h1,h2⟩
 .have hp':p∈(X.pn++pins)++[(h'.objs.size,og)]:=hp
  rcases waz.mp hp' with hp'|hp'
  .obtain⟨e1,e2,e3,e4,e5⟩:=I.pin p hp';refine⟨k4 _ _ e1,e2,way (ltC e1),λz=>?_,e5⟩;rcases waf.mp (I.stkSub p.1 z) with z'|z'
   .exact e3 z'
   .exact e4 z'
  .rw[wal.mp hp'];have hle:s4.heap.objs.size<=h'.objs.size:=by omega
   exact⟨wav _ hfz,I.hok.fresh hle,by show h'.objs.size≠C;omega,stkNo _ hle,hog⟩
 .unfold pick;rw[wam];exact hlen
def zkm {X:Cx}{pins pins':List (Addr×Obj)}{s4 s':Shared}{Y Y':L2.St}{H1 H':Hp}{fp:List Addr}{scope:Scope}{cl:List (Str×Addr)}{NC:List Str}{C:Addr}{code:Value}{bi:Addr}{A':Around}{pn:List (Addr×Obj)}
 (I:Inv X pins Y H1 s4) (f2:∀b∈fp,FpOk X pins H1 b) (J:Inv (gcx X scope cl NC C code bi A' s4 H1 fp pn) pins' Y' H' s'):Inv X pins Y H' s':=
 I.call' J.os J.base J.hok J.bare λb hb=>let f:=f2 b hb;⟨f.2.2.2.1,f.2.1,f.2.2.2.2.1,f.2.2.2.2.2⟩
def zez {X:Cx}{pins:List (Addr×Obj)}{Y:L2.St}{H:Hp}{s:Shared}{gs:Array GenState}(I:Inv X pins Y H s)(h:AllBare gs):Inv X pins Y H {s with gens:=gs}:=by
 obtain⟨a,b,c,d,e,f,g,h1,i,j,k⟩:=I;exact⟨a,b,h,d,e,f,g,h1,i,j,k⟩
def zaT {s:Shared}{g:Nat}{x:GenState}:(s.setGen g x).gens.size=s.gens.size:=by simp[Shared.setGen]
def zfd {M:Model}{Γ:PySem.Ctx}{p:Pos}{t:Sem Fin}{fs:List Frame}{s s':Shared}{e:End}(h:Runs M Γ p t fs s e s'):s.gens.size<=s'.gens.size:=by
 induction h <;> (try simp only[zaT,Array.size_push] at *) <;> omega
def zha {M:Model}{Γ:PySem.Ctx}{p:Pos}{g:Nat}{r:Resume}{s s':Shared}{res:GenResult}(h:Wakes M Γ p g r s res s'):s.gens.size<=s'.gens.size:=by
 have key:∀{Δ:PySem.Ctx}{q:Pos}{u:Sem Fin}{fs:List Frame}{e:End}{s1:Shared}{x:GenState},Runs M Δ q u fs (s.setGen g .running) e s1->s.gens.size<=(s1.setGen g x).gens.size:=λhr=>by
  have:=zfd hr
  rw[zaT] at this⊢;exact this
 unfold Wakes at h;split at h
 .exact h.elim
 .split at h
  .obtain⟨_,_,hr,_,_,rfl⟩:=h;exact key hr
  .exact waX (by rw[h.2];try rw[zaT])
  .exact waX (by rw[h.2];try rw[zaT])
 .obtain⟨_,_,hr,_,_,rfl⟩:=h;exact key hr
 .exact waX (by rw[h.2];try rw[zaT])
 .exact waX (by rw[h.2];try rw[zaT])
def zmw {α:Type}(M:Model)(Γ:PySem.Ctx)(n:Nat)(t:Sem α):∀(Q:α->Pos->Shared->Prop) (E:Value->Pos->Shared->Prop) (p:Pos) (s:Shared),n<=s.gens.size->Sem.wp M Γ t Q E p s->
 Sem.wp M Γ t (λa p' s'=>n<=s'.gens.size/\Q a p' s') (λe p' s'=>n<=s'.gens.size/\E e p' s') p s:=by
 induction t with
|pure a=>exact λQ E p s hn h=>⟨hn,h⟩
|raise e=>exact λQ E p s hn h=>⟨hn,h⟩
|newGen c k ih=>exact λQ E p s hn h=>ih _ Q E p _ (by show n<=(s.gens.push _).size;rw[Array.size_push];omega) h
|resume g r _ k ih=>exact λQ E p s hn h=>let ⟨res,s',hw,h⟩:=h;⟨res,s',hw,ih res Q E p s' (waq hn (zha hw)) h⟩
|call c hd _ _ k ih=>exact λQ E p s hn h=>let ⟨r,s',hr,h⟩:=h;⟨r,s',hr,ih r Q E p s' (waq hn (zfd hr)) h⟩
|load a _ k ih=>exact λQ E p s hn h=>let ⟨o,ho,h⟩:=h;⟨o,ho,ih o Q E p s hn h⟩
|genState g k ih=>exact λQ E p s hn h=>let ⟨st,hs,h⟩:=h;⟨st,hs,ih _ Q E p s hn h⟩
|update a _ f k ih=>exact λQ E p s hn h=>⟨h.1,ih () Q E p _ hn h.2⟩
|choose src m k ih=>exact λQ E p s hn h=>⟨h.1,ih _ Q E p _ hn h.2⟩
|rule _ k ih=>exact λQ E p s hn h=>ih () Q E p s hn h
|«at» p' k ih=>exact λQ E p s hn h=>ih () Q E p' s hn h
|point _ k ih=>exact λQ E p s hn h=>ih () Q E p s hn h
|loadIfAlive a k ih=>exact λQ E p s hn h=>ih _ Q E p s hn h
|alloc o k ih=>exact λQ E p s hn h=>ih _ Q E p _ hn h
|fresh k ih=>exact λQ E p s hn h=>ih _ Q E p _ hn h
|ask k ih=>exact λQ E p s hn h=>ih _ Q E p s hn h
|os q _ k ih=>exact λQ E p s hn h=>ih _ Q E p _ hn h
|handled own k ih=>exact λQ E p s hn h=>ih _ Q E p s hn h
|stack k ih=>exact λQ E p s hn h=>ih _ Q E p s hn h
|thread k ih=>exact λQ E p s hn h=>ih _ Q E p s hn h
|_=>exact λQ E p s hn h=>h
def zcu {α:Type}{M:Model}{A:Around}{s:Shared}{t:Sem α}{Q:α->Shared->Prop}{E:Value->Shared->Prop}{n:Nat}(hn:n<=s.gens.size)(h:wpAny M A t Q E s) :
 wpAny M A t (λa s'=>n<=s'.gens.size/\Q a s') (λe s'=>n<=s'.gens.size/\E e s') s:=
 λΓ p hΓ=>zmw M Γ n t _ _ p s hn (h Γ p hΓ)
end GX
namespace GX
open PySem PySem.Spec PyProof PyProof.Rows L2 PySem.W
def zkn {X:Cx}{pins:List (Addr×Obj)}{Y:L2.St}{H:Hp}{s:Shared}{A:Around}{tp:Array Value}{scope:Scope}{pos:Pos}{c P:Addr}{q:Str}{Q:Value->Shared->Prop}{E:Value->Shared->Prop}(I:Inv X pins Y H s)(hcd:X.env.code=.ref c)(hC:CodeK X.K c P)
 (hH:H P=some (.tbl tp)) (hps:tp[0]?=some (Value.str q 0)) (hq:X.env.qual++"<genexpr>"=q)
 (h:∀(code:Value) (H1:Hp) (s':Shared),(∀b o,H b=some o->H1 b=some o)->(∀b,H1 b=none->H b=none)->(∀b,b<s.heap.objs.size->H b=none->H1 b=none)->(∀b o,b≠P->s.heap.get? b=some o->s'.heap.get? b=some o)->s.gens.size<=s'.gens.size->Inv X pins Y H1 s'->Q code s') :
 wpAny (model X.prog X.w) A (genexprCode X.env pos (X.env.qual++"<genexpr>") scope) Q E s:=by
 obtain⟨ps,hP,ht⟩:=I.tblAt hH;have C:=hC.hd I.kIn
 rw[hq];cases e:codeAmong pos ps.toList with
|none=>
   refine wpAny_genexprCodeX hcd (C.code hP ht.1) (C.tab hP) e λc' h' tk hx hge hlt _ hrec htb _=>?_
   obtain⟨c2,oc,vs,t,e2,hoc,hd,hv⟩:=hrec;cases e2;have J:=I.grownC (t':=tk) hH hps ht (λb o hb e=>hx b o hb e) htb.2 hge hoc hd hv
   have hn:H c'=none:=I.hok.fresh hge
   refine h (.ref c') _ _ (λb o q=>by rw[zai (λz=>by rw[z,hn] at q;cases q)];exact q) (λb q=>?_) (λb hb q=>by rw[zai (λz=>by rw[z] at hb;exact absurd (wao hb hge) (waP _))];exact q) (λb o hb e=>hx b o hb e) (wai _) J;by_cases z:b=c'
   .rw[z];exact hn
   .rw[zai z] at q;exact q
|some cv=>
   refine wpAny_genexprCode_hit hcd (C.code hP ht.1) e ?_;exact h cv H s (λ_ _ q=>q) (λ_ q=>q) (λ_ _ q=>q) (λ_ _ _ e=>e) (wai _) I
def zfe {X:Cx}{pins:List (Addr×Obj)}{Y:L2.St}{H:Hp}{s:Shared}{A:Around}{bm:Addr}{ob:Obj}{Q:Addr->Shared->Prop}{E:Value->Shared->Prop}(I:Inv X pins Y H s)(hB:BMod X.base mainGlobals X.mg bm ob)(h:Q builtinsNs s) :
 wpAny (model X.prog X.w) A (builtinsFor X.env.globals X.env.builtins) Q E s:=by
 have hg:=I.mod.glob.keeps I.bk
 rw[I.ok.glob];exact wpAny_builtinsFor hg hB.name hB.ne (I.bk _ _ hB.obj) hB.cls hB.dict hB.data h
section
variable {X:Cx}{elt tg iter:Expr}{scope:Scope}{gpos:Pos}{cl:List (Str×Addr)}{NC:List Str}{fr:List (Option Nat)}{g:TG}{te:TE}
def aG (X:Cx)(c:Code):Around:=X.A.in1.in1.over c []
def ogen (g:Nat)(x y:Value):Obj:={cls:=.type "generator",data:=.fields #[.int g 0,x,y]}
def zhb {X:Cx}{it:Value}{cenv:Env}(h:X.A.frames=some X.stack):(aG X (zbp elt tg iter scope gpos it cenv)).frames=some (cenv::X.stack):=by
 show pushEnvs (zbp elt tg iter scope gpos it cenv).envs (pushEnvs (envsOf ([].map Frame.where_)) X.A.frames)=_
 rw[h];rfl
def Sta (G:Cx)(fp:List Addr)(tn:Nat->Heap->Prop)(a:Addr)(og:Obj)(g:Nat)(W:Nat->L2.St->Hp->Prop):GP:=λi s=>g<s.gens.size/\tn i s.heap/\∃Y H,Inv G [(a,og)] Y H s/\(∀b∈fp,H b=none)/\W i Y H
def zff {G:Cx}{fp:List Addr}{tn:Nat->Heap->Prop}{a:Addr}{x y:Value}{g:Nat}{W:Nat->L2.St->Hp->Prop}:Holds a g (Sta G fp tn a (ogen g x y) g W) (Sta G fp tn a (ogen g x y) g W) where
 bare:=λi s ⟨_,_,Y,H,J,_,_⟩ =>J.bare
 gen:=λi s ⟨_,_,Y,H,J,_,_⟩ =>⟨_,x,y,(J.pin (a,ogen g x y) (was _ (wal.mpr rfl))).1,rfl,rfl,rfl⟩
 lim:=λi s ⟨_,_,Y,H,J,_,_⟩ =>J.nolimit
 size:=λi s h=>h.1
 on:=λi s gs hb ⟨h1,h2,Y,H,J,h3,h4⟩ =>by
  have b1:AllBare (s.setGen g gs).gens:=zcZ J.bare hb rfl
  have b2:AllBare ((s.setGen g gs).setGen g .running).gens:=zcZ b1 rfl rfl
  exact⟨by rw[zaT,zaT];exact h1,h2,Y,H,zez (s:=s) (gs:=((s.setGen g gs).setGen g .running).gens) J b2,h3,h4⟩
def zmx {pins:List (Addr×Obj)}{Y:L2.St}{s4:Shared}{H1:Hp}{fp:List Addr}{it:Addr}{tn:Nat->Heap->Prop}{J:It}{code:Value}{Q:VK}{n:Nat}{tr:Nat->Bool}{W:Nat->L2.St->Hp->Prop}{mm:Str->Option Value}{h':Heap}{tk:Nat}{x y:Value}
 (I:Inv X pins Y H1 s4) (T:Turn X.prog X.w X.K tg J fp it tn) (st:tn 0 s4.heap) (f2:∀b∈fp,FpOk X pins H1 b) (hh:X.A.handled=none) (hroom:X.A.depth<recursionLimit) (hco:scope.isCoroutine=false) (hkind:scope.kind=.function)
 (hcl:∀x c,cl.lookup x=some c->X.env.cells.lookup x=some c)
 (hhas:∀x,(scope.names.lookup x=some .cell\/scope.names.lookup x=some .free)->∃c,cl.lookup x=some c)
 (hfr:∀(i:Nat) (x:Str) (j:Nat),NC[i]?=some x->fr[i]?=some (some j)->X.N[j]?=some x/\Vis X.env.scope x/\X.env.kindOf x≠some .local/\(scope.names.lookup x=some .cell\/scope.names.lookup x=some .free))
 (hlen:fr.length=NC.length)
 (hg:PG (gcx X scope cl NC s4.heap.objs.size code builtinsNs (aG X (zbp elt tg iter scope gpos (.ref it) (genEnv scope cl s4.heap.objs.size code builtinsNs X.env))) s4 H1 fp (X.pn++pins)) tg g)
 (he:PE (gcx X scope cl NC s4.heap.objs.size code builtinsNs (aG X (zbp elt tg iter scope gpos (.ref it) (genEnv scope cl s4.heap.objs.size code builtinsNs X.env))) s4 H1 fp (X.pn++pins)) elt te)
 (w0:W 0 (pick Y fr) H1) (step:∀i Y2 H2,i<n->W i Y2 H2->J.go i H2/\∀x H3,J.yld i H2 x H3->g x Y2 H3 λY4 H4=>te Y4 H4 λv H6=>v=.bl (tr i)/\W (i+1) Y4 H6)
 (stop:∀i Y2 H2,i<n->tr i=false->W (i+1) Y2 H2->Q (.bl ((List.range n).all tr)) H2) (done:∀Y2 H2,W n Y2 H2->J.stop n H2/\Q (.bl ((List.range n).all tr)) H2)
 (hn':h'.Ns s4.heap.objs.size mm) (hs':Heap.SameBut s4.heap.objs.size (s4.heap.push frO) h') :
 wpAny (model X.prog X.w) X.A (call (.builtin "all") [.ref h'.objs.size]) (EP X pins Y Q) X.xe {s4 with gens:=s4.gens.push (.fresh (zdM elt tg iter scope gpos (.ref it) (genEnv scope cl s4.heap.objs.size code builtinsNs X.env))),toks:=tk,heap:=h'.push (ogen s4.gens.size x y)}:=by
 generalize hL:zbp elt tg iter scope gpos (.ref it) (genEnv scope cl s4.heap.objs.size code builtinsNs X.env)=L at hg he;generalize hG:gcx X scope cl NC s4.heap.objs.size code builtinsNs (aG X L) s4 H1 fp (X.pn++pins)=G at hg he;have gA:G.A=aG X L:=by rw[<-hG];rfl
 have gp:G.prog=X.prog:=by rw[<-hG];rfl
 have gw:G.w=X.w:=by rw[<-hG];rfl
 have gK:G.K=X.K:=by rw[<-hG];rfl
 have gc:G.calm=true:=by rw[<-hG];rfl
 have gE:G.env=genEnv scope cl s4.heap.objs.size code builtinsNs X.env:=by rw[<-hG];rfl
 have gx:G.xe=λ_ _=>False:=by rw[<-hG];rfl
 have gfs:∀{Y':L2.St}{H':Hp}{s':Shared},Inv G [(h'.objs.size,ogen s4.gens.size x y)] Y' H' s'->Inv X pins Y H' s':=λ{Y' H' s'} J'=>by
  subst hG;exact zkm I f2 J'
 have obj:∀b∈fp,∃o,s4.heap.get? b=some o/\∀v,o.data≠.cell v:=T.obj 0 _ st
 have start:∀gs:Array GenState,AllBare gs->Inv G [(h'.objs.size,ogen s4.gens.size x y)] (pick Y fr) H1 {s4 with gens:=gs,toks:=tk,heap:=h'.push (ogen s4.gens.size x y)}:=λgs hb=>by
  subst hG;refine zmv I f2 obj hkind rfl hcl hhas hfr hlen hh ?_ hn' hs' hb (λv e=>by cases e) rfl;subst hL;exact zhb I.ok.frames
 have fC:∀{H':Hp},(∀b∈fp,H' b=none)->∀b∈fp,FpOk G [(h'.objs.size,ogen s4.gens.size x y)] H' b:=λ{H'} hn b hb=>by
  obtain⟨q1,q2,q3,q4,q5,q6⟩:=f2 b hb;obtain⟨o,eo,_⟩:=obj b hb;have lt:b<s4.heap.objs.size:=waj eo
  subst hG;refine⟨hn b hb,way lt,λz=>?_,.inl hb,λx c e=>q5 x c (hcl x c e),λp hp z=>?_⟩
  .rcases waf.mp (I.stkSub b z) with z'|z'
   .exact q2 z'
   .exact q3 z'
  .have hp':p∈(X.pn++pins)++[(h'.objs.size,ogen s4.gens.size x y)]:=hp
   rcases waz.mp hp' with hp'|hp'
   .exact q6 p hp' z
   .rw[wal.mp hp'] at z;have:h'.objs.size=s4.heap.objs.size+1:=by rw[hs'.1,wby]
    have z:b=s4.heap.objs.size+1:=(show h'.objs.size=b from z).symm.trans this
    rw[z] at lt;exact absurd lt (Nat.not_lt.mpr (wbW _))
 have st5:tn 0 (h'.push (ogen s4.gens.size x y)):=T.keep _ _ _ st λb hb o e=>wac _ (hs'.extBut b o (way (waj e)) (wac _ e))
 have turn:∀i s,i<n->Sta G fp tn h'.objs.size (ogen s4.gens.size x y) s4.gens.size W i s->wpAny (model X.prog X.w) (aG X L) (pyNext (.ref it)) (λr s1=>∃v,r=some v/\
  wpAny (model X.prog X.w) (aG X L) (letOwnedTupleGo tg (.ref it) v) (λ_ s2=>wpAny (model X.prog X.w) (aG X L) (assign tg G.env v) (λ_ s3=>
   wpAny (model X.prog X.w) (aG X L) (eval elt G.env) (λy' s4'=>y'=.bool (tr i)/\Sta G fp tn h'.objs.size (ogen s4.gens.size x y) s4.gens.size W (i+1) s4') (λ_ _=>False) s3) (λ_ _=>False) s2) (λ_ _=>False) s1) (λ_ _=>False) s:=λi s hi ⟨h1,h2,Y2,H2,J2,h3,h4⟩ =>by
  obtain⟨go,next⟩:=step i Y2 H2 hi h4;have q:=T.item G gp gw gK gc i _ s Y2 H2 (λ_ _=>False) J2 (fC h3) h2 go
  rw[gA] at q;refine wax (zcu (n:=s4.gens.size+1) h1 q) (λr s1 ⟨n1,u,hr,q1⟩ =>⟨u,hr,?_⟩) λ_ _ z=>z.2
  refine wax (zcu n1 q1) (λ_ s2 ⟨n2,v,H3,J3,r3,y3,t3,f3⟩ =>?_) λ_ _ z=>z.2
  have J3':=J3.pinned (fC f3) (T.obj _ _ t3)
  have q2:=hg _ s2 Y2 H3 v u _ J3' r3 (next v H3 y3)
  rw[gp,gw,gA,gx] at q2;refine wax (zcu n2 q2) (λ_ s3 ⟨n3,Y4,H4,J4,q4⟩ =>?_) λ_ _ z=>z.2
  have q3:=he _ s3 Y4 H4 _ J4 q4
  rw[gp,gw,gA,gx] at q3;refine wax (zcu n3 q3) (λy' s5 ⟨n5,v',H6,J6,r6,hv,w6⟩ =>?_) λ_ _ z=>z.2
  subst hv;refine⟨r6,n5,T.keep _ _ _ t3 λb hb o e=>(J6.pin (b,o) (was _ (was _ (zbt hb e)))).1,Y4,H6,J6.unpinned,λb hb=>?_,w6⟩;obtain⟨o,e,_⟩:=T.obj _ _ t3 b hb;exact(J6.pin (b,o) (was _ (was _ (zbt hb e)))).2.1
 have fin:∀s,Sta G fp tn h'.objs.size (ogen s4.gens.size x y) s4.gens.size W n s->wpAny (model X.prog X.w) (aG X L) (pyNext (.ref it)) (λr s1=>r=none/\∃Y' H',Inv G [(h'.objs.size,ogen s4.gens.size x y)] Y' H' s1/\Q (.bl ((List.range n).all tr)) H') (λ_ _=>False) s:=λs ⟨h1,h2,Y2,H2,J2,h3,h4⟩ =>by
  obtain⟨go,hq⟩:=done Y2 H2 h4;have q:=T.done G gp gw gK gc n _ s Y2 H2 (λ_ _=>False) J2 (fC h3) h2 go
  rw[gA] at q;exact wax q (λr s1 ⟨hr,J3⟩ =>⟨hr,Y2,H2,J3,hq⟩) λ_ _ z=>z
 have wl:∀s₀ s,Sta G fp tn h'.objs.size (ogen s4.gens.size x y) s4.gens.size W 0 s->Seg (model X.prog X.w) X.A.in1.in1 (gend λs1=>∃Y' H',Inv G [(h'.objs.size,ogen s4.gens.size x y)] Y' H' s1/\Q (.bl ((List.range n).all tr)) H') (zg9 n (λi v=>v=.bool (tr i)) (Sta G fp tn h'.objs.size (ogen s4.gens.size x y) s4.gens.size W) (Sta G fp tn h'.objs.size (ogen s4.gens.size x y) s4.gens.size W)) n s₀ L ((model X.prog X.w).den L) [] s:=λs₀ s hs=>by
  rw[gE] at turn;subst hL;exact zkj hco turn fin n 0 s₀ s (Nat.sub_zero _) (wbz _) hs
 have self:∀(A':Around) s,Sta G fp tn h'.objs.size (ogen s4.gens.size x y) s4.gens.size W 0 s->wpAny (model X.prog X.w) A' (pyIter (.ref it)) (λz s'=>z=.ref it/\Sta G fp tn h'.objs.size (ogen s4.gens.size x y) s4.gens.size W 0 s') (λ_ _=>False) s:=λA' s hs=>T.self A' 0 s _ _ hs.2.1 ⟨rfl,hs⟩
 have ws:∀s₀ s,Sta G fp tn h'.objs.size (ogen s4.gens.size x y) s4.gens.size W 0 s->Seg (model X.prog X.w) X.A.in1.in1 (gend λs1=>∃Y' H',Inv G [(h'.objs.size,ogen s4.gens.size x y)] Y' H' s1/\Q (.bl ((List.range n).all tr)) H') (zg9 n (λi v=>v=.bool (tr i)) (Sta G fp tn h'.objs.size (ogen s4.gens.size x y) s4.gens.size W) (Sta G fp tn h'.objs.size (ogen s4.gens.size x y) s4.gens.size W)) n s₀ (zdM elt tg iter scope gpos (.ref it) (genEnv scope cl s4.heap.objs.size code builtinsNs X.env)) ((model X.prog X.w).den (zdM elt tg iter scope gpos (.ref it) (genEnv scope cl s4.heap.objs.size code builtinsNs X.env))) [] s:=λs₀ s hs=>by
  subst hL;exact ziI wl self s₀ s hs
 have b0:AllBare (s4.gens.push (.fresh (zdM elt tg iter scope gpos (.ref it) (genEnv scope cl s4.heap.objs.size code builtinsNs X.env)))):=AllBare.push I.bare rfl
 have sta0:∀gs:Array GenState,AllBare gs->s4.gens.size<gs.size->Sta G fp tn h'.objs.size (ogen s4.gens.size x y) s4.gens.size W 0 {s4 with gens:=gs,toks:=tk,heap:=h'.push (ogen s4.gens.size x y)}:=λgs hb hz=>⟨hz,st5,_,H1,start gs hb,λb hb=>(f2 b hb).1,w0⟩
 have I5:=start _ b0
 have at0:At X.prog X.w X.A.in1 h'.objs.size s4.gens.size n (λi v=>v=.bool (tr i)) (Sta G fp tn h'.objs.size (ogen s4.gens.size x y) s4.gens.size W) (Sta G fp tn h'.objs.size (ogen s4.gens.size x y) s4.gens.size W) (λs1=>∃Y' H',Inv G [(h'.objs.size,ogen s4.gens.size x y)] Y' H' s1/\Q (.bl ((List.range n).all tr)) H') 0 {s4 with gens:=s4.gens.push (.fresh (zdM elt tg iter scope gpos (.ref it) (genEnv scope cl s4.heap.objs.size code builtinsNs X.env))),toks:=tk,heap:=h'.push (ogen s4.gens.size x y)}:=by
  refine⟨b0,⟨_,x,y,wav _ rfl,rfl,rfl,rfl⟩,I5.nolimit,⟨_,Array.getElem?_push_size ..,λs'' hs=>⟨rfl,?_⟩⟩,?_⟩
  .rw[Nat.sub_zero];exact ws s'' s'' hs
  .exact sta0 _ (zcZ b0 rfl rfl) (by show s4.gens.size<((s4.gens.push _).setIfInBounds _ _).size;simp)
 refine zkl (P:=λi v=>v=.bool (tr i)) (Wt:=λi s=>At X.prog X.w X.A.in1 h'.objs.size s4.gens.size n (λi v=>v=.bool (tr i)) (Sta G fp tn h'.objs.size (ogen s4.gens.size x y) s4.gens.size W) (Sta G fp tn h'.objs.size (ogen s4.gens.size x y) s4.gens.size W) (λs1=>∃Y' H',Inv G [(h'.objs.size,ogen s4.gens.size x y)] Y' H' s1/\Q (.bl ((List.range n).all tr)) H') i s)
  (Fin:=λs'=>∃H',Inv X pins Y H' s'/\Q (.bl ((List.range n).all tr)) H') (tr:=tr) (n:=n) ?_ ?_ ?_ ?_ at0.gen at0 λs' ⟨H',J',q⟩ =>⟨.bl _,H',J',rfl,q⟩
 .intro i v s Q' E' hv hq;subst hv;exact wak hq
 .intro i s hi hs;refine ziK hh hroom zff hi hs λv s1 gs hP hM hb hA=>⟨v,rfl,hP,hA⟩
 .intro s hs;refine ziL hh hroom zff hs λs1 h2 ⟨Y',H',J',hq⟩ hk=>⟨rfl,H',?_,hq⟩
  have J2:=gfs J'
  exact(zez (s:=s1) (gs:=(s1.setGen s4.gens.size .finished).gens) J2 (zcZ J2.bare rfl rfl)).kept (t':=s1.toks) hk
 .intro i s hi ht hs;obtain⟨h1,h2,Y',H',J',_,w'⟩:=hs.run;have J2:=gfs J'
  exact⟨H',zez (s:=s.setGen s4.gens.size .running) (gs:=s.gens) J2 hs.bare,stop i Y' H' hi ht w'⟩
end
def tAll (fr:List (Option Nat))(wi:TI)(g:TG)(te:TE):TE:=λY H Q=>wi Y H λJ H1=>∀H3:Hp,(∀b o,H1 b=some o->H3 b=some o)->(∀b,H3 b=none->H1 b=none)->∃(n:Nat) (tr:Nat->Bool) (W:Nat->L2.St->Hp->Prop),W 0 (pick Y fr) H3/\
 (∀i Y2 H2,i<n->W i Y2 H2->J.go i H2/\∀x H3,J.yld i H2 x H3->g x Y2 H3 λY4 H4=>te Y4 H4 λv H6=>v=.bl (tr i)/\W (i+1) Y4 H6)/\
 (∀i Y2 H2,i<n->tr i=false->W (i+1) Y2 H2->Q (.bl ((List.range n).all tr)) H2)/\∀Y2 H2,W n Y2 H2->J.stop n H2/\Q (.bl ((List.range n).all tr)) H2
def zon {X:Cx}{elt tg iter:Expr}{scope:Scope}{gpos np cpos:Pos}{cl:List (Str×Addr)}{NC:List Str}{fr:List (Option Nat)}{wi:TI}{g:TG}{te:TE}{c P bm:Addr}{ob:Obj}{q:Str}{RR:Hp->Prop}(hRR:∀pins Y H s,Inv X pins Y H s->RR H)
 (hcalm:X.calm=true) (B:Blt X.mg) (hi:PI X tg iter wi) (hclos:closureFor scope X.env=pure cl) (hcell:∀y∈scope.names,y.2≠.cell) (h0:scope.names.lookup (".0" : Str)=some NameKind.local) (hkind:scope.kind=.function) (hco:scope.isCoroutine=false) (hroom:X.A.depth<recursionLimit)
 (hcl:∀x c,cl.lookup x=some c->X.env.cells.lookup x=some c)
 (hhas:∀x,(scope.names.lookup x=some .cell\/scope.names.lookup x=some .free)->∃c,cl.lookup x=some c)
 (hfr:∀(i:Nat) (x:Str) (j:Nat),NC[i]?=some x->fr[i]?=some (some j)->X.N[j]?=some x/\Vis X.env.scope x/\X.env.kindOf x≠some .local/\(scope.names.lookup x=some .cell\/scope.names.lookup x=some .free))
 (hlen:fr.length=NC.length) (hcd:X.env.code=.ref c) (hC:CodeK X.K c P) (hB:BMod X.base mainGlobals X.mg bm ob) (hT:∀pins Y H s,Inv X pins Y H s->VD.TabH P q H) (hq:X.env.qual++"<genexpr>"=q)
 (hg:∀C code it s0 H0 ex pn,PG (gcx X scope cl NC C code builtinsNs (aG X (zbp elt tg iter scope gpos it (genEnv scope cl C code builtinsNs X.env))) s0 H0 ex pn) tg g)
 (he:∀C code it s0 H0 ex pn,RR H0->PE (gcx X scope cl NC C code builtinsNs (aG X (zbp elt tg iter scope gpos it (genEnv scope cl C code builtinsNs X.env))) s0 H0 ex pn) elt te)
 (hgl:Gl X "all":=by rfl) (hs:∀x,genFold iter X.env x=pure x:=by intro _;rfl)
 (he1:starEach [.GeneratorExp elt [⟨tg,iter,[],0⟩] scope gpos] X.env=(false,eval (.GeneratorExp elt [⟨tg,iter,[],0⟩] scope gpos) X.env)::starEach [] X.env:=by rfl) :
 PE X (.Call (.Name "all" np) [.GeneratorExp elt [⟨tg,iter,[],0⟩] scope gpos] [] cpos) (tAll fr wi g te):=by
 intro pins s Y H Q I h;refine waQ (zcR I hgl (B "all" (by decide +kernel)) boot_all ?_ (by decide) (by decide));refine PyProof.Rows.callWith_builtin1 ?_ he1 rfl;rw[he1];refine Calls.spliced_cons ?_;refine wpAny_GeneratorExp_make hco hclos hcell h0 hkind hroom (thn (hi pins s Y H _ I h) λv s1 h1=>thn h1 λitv s2 h2=>?_) hs;obtain⟨it,fp,tn,J,H1,rfl,I2,T,st2,f2,hW⟩:=h2;obtain⟨tp,hH,hps⟩:=hT _ _ _ _ I2;refine⟨I2.nolimit,zkn I2 hcd hC hH hps hq λcode H3 s3 k1 k2 k3 k4 k5 I3=>zfe I3 hB ?_⟩;intro h' hn' hs';obtain⟨n,tr,W,w0,step,stop,done⟩:=hW H3 k1 k2;have lt:∀b∈fp,b<s2.heap.objs.size:=λb hb=>let ⟨o,e,_⟩:=T.obj _ _ st2 b hb;waj e
 have st3:tn 0 s3.heap:=T.keep _ _ _ st2 λb hb o e=>k4 b o (λz=>by
  have:=(f2 b hb).1
  rw[z,hH] at this;cases this) e
 have f3:∀b∈fp,FpOk X pins H3 b:=λb hb=>⟨k3 b (lt b hb) (f2 b hb).1,(f2 b hb).2⟩
 have run:=λtk=>zmx (Q:=Q) (tk:=tk) (x:=.str "<genexpr>" (s3.toks+1)) (y:=.str (X.env.qual++"<genexpr>") (s3.toks+1+1)) I3 T st3 f3 (I.ok.hd hcalm) hroom hco hkind hcl hhas hfr hlen (hg _ code _ _ _ _ _) (he _ code _ _ _ _ _ (hRR _ _ _ _ I3)) w0 step stop done hn' hs'
 exact wak (run _)
end GX
namespace VD
open PySem PySem.Spec PyProof PyProof.Rows L2 PySem.W GX
def zeA (f:D->Option Bool):List D->Option (List Bool)
|[]=>some []
|d::ds=>(f d).bind λb=>(zeA f ds).bind λbs=>some (b::bs)
theorem zfg {f:D->Option Bool}:∀{ds:List D}{bs:List Bool},zeA f ds=some bs->bs.length=ds.length/\∀(i:Nat) (d:D),ds[i]?=some d->f d=some (bs.getD i true)
|[],bs,e=>by cases e;exact⟨rfl,λi d h=>by simp at h⟩
|d::ds,bs,e=>by
   obtain⟨b,e1,e⟩:=bind_some e;obtain⟨bs',e2,e⟩:=bind_some e;cases e;obtain⟨l,h⟩:=zfg e2;refine⟨by simp[l],λi x hx=>?_⟩;cases i with
  |zero=>cases hx;exact e1
  |succ i=>exact h i x (by simpa using hx)
def ziM (bs:List Bool):(List.range bs.length).all (λi=>bs.getD i true)=bs.all id:=by
 rw[wbC,waJ,waJ];constructor
 .intro h b hb;obtain⟨i,hi,rfl⟩:=List.mem_iff_getElem.mp hb;have:=h i (wcA.mpr hi)
  simpa[List.getD,wan hi] using this
 .intro h i hi;have hi:=wcA.mp hi
  have:=h bs[i] (List.getElem_mem hi)
  simpa[List.getD,wan hi] using this
def eAll (fr:List (Option Nat))(fi:FA)(g:FG)(fe:FE):FE:=λZ=>(fi Z).bind λds=>(zeA (λd=>(g d (zaF Z fr)).bind λZ1=>(fe Z1).bind dB) ds).bind λbs=>some (.bl (bs.all id))
def zoo {K:W.Frag}{fr:List (Option Nat)}{wi:TI}{fi:FA}{g:FG}{is:List Nat}{fe:FE}(hi:GoI K wi fi)(hon:∀d Z Z',g d Z=some Z'->Only is Z Z')(hap:apart is fr=true) :
 GoE K (tAll fr wi (TGof K g) (TEof K fe)) (eAll fr fi g fe):=by
 intro Hz Jz O Z Y H J out Q s e w;obtain⟨ds,e1,e⟩:=bind_some e;obtain⟨bs,e2,e⟩:=bind_some e;cases e;obtain⟨bl,bg⟩:=zfg e2;refine hi Hz Jz O Z Y H J ds _ s e1 λI H1 J1 u1 src=>?_
 intro H3 k1 k2;have u0:Up H1 J1 H3 J1:=⟨λb o h=>k1 b o h,λ_ h=>h,λ_ h=>.inl h,λa h z=>u1.ja a h (k2 a z)⟩
 have fin:∀H2 J2,Up H1 J1 H2 J2->Q (.bl ((List.range ds.length).all λi=>bs.getD i true)) H2:=λH2 J2 u2=>by
  rw[<-bl,ziM];exact w _ H2 J2 (u1.trans u2) (.bl _)
 refine⟨ds.length,λi=>bs.getD i true,λi Y2 H2=>i<=ds.length/\∃J2,ST K Hz Jz O.blk (zaF Z fr) Y2 H2 J2/\Up H1 J1 H2 J2,⟨wbz _,J1,((s.up u1).up u0).pick fr,u0⟩,?_,?_,?_⟩
 .rintro i Y2 H2 hlt ⟨_,J2,s2,u2⟩;obtain⟨_,turn⟩:=src H2 J2 u2.keep s2.ja;have hd:ds[i]?=some ds[i]:=wan hlt
  obtain⟨go,yl⟩:=turn i _ hd;obtain⟨Z1,eg,ee⟩:=bind_some (bg i _ hd);obtain⟨xd,ex,eb⟩:=bind_some ee;refine⟨go,λx H4 y=>?_⟩;obtain⟨J3,u3,r3⟩:=yl x H4 y;have wk:Weak (zaF Z fr) Z1:=zeu (hon _ _ _ eg) hap
  refine⟨Hz,Jz,O.blk,zaF Z fr,J3,_,Z1,s2.up u3,r3,eg,λY4 s4=>?_⟩;refine⟨Hz,Jz,O.blk,Z1,J3,xd,s4,ex,λv H6 J6 u6 r6=>?_⟩;have hxd:xd=.bl (bs.getD i true):=by
   cases xd with
  |bl b=>cases eb;rfl
  |_=>cases eb
  subst hxd;cases r6;exact⟨rfl,hlt,J6,(s4.up u6).weak wk rfl,u2.trans (u3.trans u6)⟩
 .rintro i Y2 H2 _ _ ⟨_,J2,_,u2⟩;exact fin H2 J2 u2
 .rintro Y2 H2 ⟨_,J2,s2,u2⟩;obtain⟨stop,_⟩:=src H2 J2 u2.keep s2.ja;exact⟨stop,fin H2 J2 u2⟩
def zk2 (N:List Str)(st:Stmt){X:Cx}{elt iter tg:Expr}{scope:Scope}{gpos np cpos:Pos}{NC:List Str}(fr:List (Option Nat)){fi:FA}{g:FG}{is:List Nat}{fe:FE}{q:Str}{RR:Hp->Prop}(hRR:∀pins Y H s,Inv X pins Y H s->RR H)(hcalm:X.calm=true)(B:Blt X.mg)(hi:VI X tg iter fi)(TX:TabX X q)(hroom:X.A.depth<recursionLimit)
 (hcells:∀x,X.env.scope.names.lookup x=some .cell->∃c,X.env.cells.lookup x=some c) (hfk:X.env.scope.kind=.function) (hN:X.N=N) (hsc:X.env.scope.names=(zab st).names)
 (hfree':∀y∈scope.names,y.2=.free->(zab st).names.lookup y.1=some .cell) (hcell:∀y∈scope.names,y.2≠.cell) (hkind:scope.kind=.function) (hco:scope.isCoroutine=false) (h0:scope.names.lookup (".0" : Str)=some NameKind.local)
 (hfr':zbW N (zab st).names scope.names NC fr=true) (hlen:fr.length=NC.length) (hap:apart is fr=true) (hq:X.env.qual++"<genexpr>"=q)
 (hg:∀cl C code it s0 H0 ex pn,VG (gcx X scope cl NC C code builtinsNs (aG X (zbp elt tg iter scope gpos it (genEnv scope cl C code builtinsNs X.env))) s0 H0 ex pn) tg is g)
 (he:∀cl C code it s0 H0 ex pn,RR H0->VE (gcx X scope cl NC C code builtinsNs (aG X (zbp elt tg iter scope gpos it (genEnv scope cl C code builtinsNs X.env))) s0 H0 ex pn) elt fe)
 (hgl:Gl X "all":=by rfl) (hs:∀x,genFold iter X.env x=pure x:=by intro _;rfl)
 (he1:starEach [.GeneratorExp elt [⟨tg,iter,[],0⟩] scope gpos] X.env=(false,eval (.GeneratorExp elt [⟨tg,iter,[],0⟩] scope gpos) X.env)::starEach [] X.env:=by rfl) :
 VE X (.Call (.Name "all" np) [.GeneratorExp elt [⟨tg,iter,[],0⟩] scope gpos] [] cpos) (eAll fr fi g fe):=by
 obtain⟨wi,pi,gi⟩:=hi;obtain⟨c,P,bm,ob,e1,e2,e3,hT⟩:=TX;obtain⟨_,_,hon,_⟩:=hg [] 0 .none .none X.s₀ X.Hz [] [];have hfree:∀y∈scope.names,y.2=.free->X.env.scope.names.lookup y.1=some .cell:=by rw[hsc];exact hfree'
 have hfr:zbW X.N X.env.scope.names scope.names NC fr=true:=by rw[hsc,hN];exact hfr'
 have hc:∀y∈scope.names,y.2=.free->∃c,X.env.cells.lookup y.1=some c:=λy hy h=>hcells _ (hfree y hy h)
 refine⟨_,zon (fr:=fr) (NC:=NC) (cl:=clo X.env.cells scope.names []) (RR:=RR) hRR hcalm B pi (zgo hc) hcell h0 hkind hco hroom (λx c e=>zdz _ _ _ (λ_ _ z=>by cases z) hc x c e) (λx hx=>?_) (λi x j h1 h2=>?_) hlen e1 e2 e3 (λpins Y H s I=>pers_T.st I.base hT) hq (λC code it s0 H0 ex pn=>(hg _ C code it s0 H0 ex pn).of) (λC code it s0 H0 ex pn rH=>(he _ C code it s0 H0 ex pn rH).of) hgl hs he1,zoo gi hon hap⟩
 .refine zdA _ _ _ x (.inr (zbu ?_));rcases hx with e|e
  .exact absurd rfl (hcell _ (zbu e))
  .exact e
 .have hm:(x,some j)∈NC.zip fr:=by
   have:(NC.zip fr)[i]?=some (x,some j):=by rw[wbA];exact⟨h1,h2⟩
   exact waE this
  have q:=waJ.mp hfr _ hm
  have q':((X.N[j]? == some x)&&(X.env.scope.names.lookup x == some .cell)&&(scope.names.lookup x == some .free))=true:=q
  simp only[waC,beq_iff_eq] at q';obtain⟨⟨q1,q2⟩,q3⟩:=q';refine⟨q1,.inr (.inl q2),?_,.inr q3⟩;intro z;have z':X.env.scope.names.lookup x=some .local:=z
  rw[q2] at z';cases z'
def vgg (i:Nat){X:Cx}{scope:Scope}{cl:List (Str×Addr)}{NC:List Str}{C:Addr}{code:Value}{bi:Addr}{A':Around}{s0:Shared}{H0:Hp}{ex:List Addr}{pn:List (Addr×Obj)}{x:Str}{pos:Pos}(nd:NC.Nodup:=by decide +kernel)(hi:NC[i]?=some x:=by rfl)(hx:scope.names.lookup x=some .local:=by rfl) :
 VG (gcx X scope cl NC C code bi A' s0 H0 ex pn) (.Name x pos) [i] (gN i):=⟨_,zfC (X:=gcx X scope cl NC C code bi A' s0 H0 ex pn) nd hi (.inl hx) (.inr hx),zfM⟩
def zgE {X:Cx}{k:Nat}{elt tg iter:Expr}{scope:Scope}{gpos:Pos}{it:Value}{cenv:Env}(r:Room (k+1) X.A):Room k (aG X (zbp elt tg iter scope gpos it cenv)):=by
 have hd:=r.dp
 have hu:=r.un
 refine⟨r.hd,?_,?_,?_⟩
 .show X.A.depth+0+(zbp elt tg iter scope gpos it cenv).weight+3*k+5<recursionLimit
  have:(zbp elt tg iter scope gpos it cenv).weight=1:=rfl
  omega
 .show X.A.units+1+1+0+(zbp elt tg iter scope gpos it cenv).cUnits+16*k+200<cLine
  have:(zbp elt tg iter scope gpos it cenv).cUnits<=3:=by first|exact wai _|decide
  omega
 .show pushGuards (zbp elt tg iter scope gpos it cenv).guards (pushGuards [] X.A.guards)=some []
  rw[r.gd];rfl
def zop (N:List Str)(st:Stmt){X:Cx}{k:Nat}{elt iter tg:Expr}{scope:Scope}{gpos np cpos:Pos}{NC:List Str}(fr:List (Option Nat)){fi:FA}{g:FG}{is:List Nat}{fe:FE}{q:Str}(hr:Room k X.A)(B:Blt X.mg)(TX:TabX X q)(hi:VI X tg iter fi)
 (hg:∀{cl C code A' s0 H0 ex pn},VG (gcx X scope cl NC C code builtinsNs A' s0 H0 ex pn) tg is g)
 (he:∀{cl C code it s0 H0 ex pn},VE (gcx X scope cl NC C code builtinsNs (aG X (zbp elt tg iter scope gpos it (genEnv scope cl C code builtinsNs X.env))) s0 H0 ex pn) elt fe)
 (hcalm:X.calm=true:=by rfl) (hcells:∀x,X.env.scope.names.lookup x=some .cell->∃c,X.env.cells.lookup x=some c:=by exact λx h=>zbC h) (hfk:X.env.scope.kind=.function:=by rfl) (hN:X.N=N:=by rfl) (hsc:X.env.scope.names=(zab st).names:=by rfl)
 (hfree':∀y∈scope.names,y.2=.free->(zab st).names.lookup y.1=some .cell:=by decide +kernel) (hcell:∀y∈scope.names,y.2≠.cell:=by decide +kernel) (hkind:scope.kind=.function:=by rfl) (hco:scope.isCoroutine=false:=by rfl) (h0:scope.names.lookup (".0" : Str)=some NameKind.local:=by rfl)
 (hfr':zbW N (zab st).names scope.names NC fr=true:=by decide +kernel) (hlen:fr.length=NC.length:=by rfl) (hap:apart is fr=true:=by decide) (hq:X.env.qual++"<genexpr>"=q:=by decide +kernel)
 (hgl:Gl X "all":=by rfl) (hs:∀x,genFold iter X.env x=pure x:=by intro _;rfl)
 (he1:starEach [.GeneratorExp elt [⟨tg,iter,[],0⟩] scope gpos] X.env=(false,eval (.GeneratorExp elt [⟨tg,iter,[],0⟩] scope gpos) X.env)::starEach [] X.env:=by rfl) :
 VE X (.Call (.Name "all" np) [.GeneratorExp elt [⟨tg,iter,[],0⟩] scope gpos] [] cpos) (eAll fr fi g fe):=
 zk2 (RR:=λ_=>True) N st fr (λ_ _ _ _ _=>trivial) hcalm B hi TX hr.depth hcells hfk hN hsc hfree' hcell hkind hco h0 hfr' hlen hap hq (λ_ _ _ _ _ _ _ _=>hg) (λ_ _ _ _ _ _ _ _ _=>he) hgl hs he1
def zoq (N:List Str)(st:Stmt){X:Cx}{k:Nat}{elt iter tg:Expr}{scope:Scope}{gpos np cpos:Pos}{NC:List Str}(fr:List (Option Nat)){fi:FA}{g:FG}{is:List Nat}{fe:FE}{q:Str}{Pc:Hp->Prop}(hp:Prs X Pc)(hr:Room k X.A)(B:Blt X.mg)(TX:TabX X q)(hi:VI X tg iter fi)
 (hg:∀{cl C code A' s0 H0 ex pn},VG (gcx X scope cl NC C code builtinsNs A' s0 H0 ex pn) tg is g)
 (he:∀{cl C code it s0 H0 ex pn},Pc H0->VE (gcx X scope cl NC C code builtinsNs (aG X (zbp elt tg iter scope gpos it (genEnv scope cl C code builtinsNs X.env))) s0 H0 ex pn) elt fe)
 (hcalm:X.calm=true:=by rfl) (hcells:∀x,X.env.scope.names.lookup x=some .cell->∃c,X.env.cells.lookup x=some c:=by exact λx h=>zbC h) (hfk:X.env.scope.kind=.function:=by rfl) (hN:X.N=N:=by rfl) (hsc:X.env.scope.names=(zab st).names:=by rfl)
 (hfree':∀y∈scope.names,y.2=.free->(zab st).names.lookup y.1=some .cell:=by decide +kernel) (hcell:∀y∈scope.names,y.2≠.cell:=by decide +kernel) (hkind:scope.kind=.function:=by rfl) (hco:scope.isCoroutine=false:=by rfl) (h0:scope.names.lookup (".0" : Str)=some NameKind.local:=by rfl)
 (hfr':zbW N (zab st).names scope.names NC fr=true:=by decide +kernel) (hlen:fr.length=NC.length:=by rfl) (hap:apart is fr=true:=by decide) (hq:X.env.qual++"<genexpr>"=q:=by decide +kernel)
 (hgl:Gl X "all":=by rfl) (hs:∀x,genFold iter X.env x=pure x:=by intro _;rfl)
 (he1:starEach [.GeneratorExp elt [⟨tg,iter,[],0⟩] scope gpos] X.env=(false,eval (.GeneratorExp elt [⟨tg,iter,[],0⟩] scope gpos) X.env)::starEach [] X.env:=by rfl) :
 VE X (.Call (.Name "all" np) [.GeneratorExp elt [⟨tg,iter,[],0⟩] scope gpos] [] cpos) (eAll fr fi g fe):=
 zk2 (RR:=Pc) N st fr hp hcalm B hi TX hr.depth hcells hfk hN hsc hfree' hcell hkind hco h0 hfr' hlen hap hq (λ_ _ _ _ _ _ _ _=>hg) (λ_ _ _ _ _ _ _ _ rH=>he rH) hgl hs he1
end VD
namespace VD
open PySem PySem.Spec PyProof PyProof.Rows L2 PySem.W GX EX
end VD
namespace VD
open PySem PySem.Spec PyProof PyProof.Rows L2
def slS (S:Scr)(x:D)(lo hi:Option Int):Option D:=match x with
|.scr p=>if p=S.p then some (.lst ((cut S.ns lo hi).map D.int)) else none
|_=>none
def eSlS (S:Scr)(f:FE)(lo hi:FO):FE:=λZ=>(f Z).bind λx=>(lo Z).bind λl=>(hi Z).bind λh=>slS S x l h
theorem ziN {K:W.Frag}{H:Hp}{J:Addr->Prop}:∀{ns:List Int},RpL K H J (ns.map V.int) (ns.map D.int)
|[]=>.nil
|_::_=>.cons (.int _) ziN
def zor {X:Cx}{S:Scr}{a:Expr}{lo hi:Option Expr}{fa:FE}{fl fh:FO}{pos p2:Pos}(hp:Prs X (SqF X.K S))(ha:VE X a fa)(hl:VO X lo fl)(hh:VO X hi fh):VE X (.Subscript a (.Slice lo hi none p2) pos) (eSlS S fa fl fh):=by
 obtain⟨ta,pa,ga⟩:=ha;obtain⟨tl,pl,gl⟩:=hl;obtain⟨th,ph,gh⟩:=hh;refine⟨λY H Q=>∃Hz Jz O Z J d,ST X.K Hz Jz O Z Y H J/\eSlS S fa fl fh Z=some d/\zeX X.K H J d Q,λpins s Y H Q I hyp=>?_,λHz Jz O Z Y H J d Q st e w=>⟨Hz,Jz,O,Z,J,d,st,e,w⟩⟩;obtain⟨Hz,Jz,O,Z,J,d,st,e,w⟩:=hyp;obtain⟨x,ex,e⟩:=bind_some e;obtain⟨l,el,e⟩:=bind_some e;obtain⟨h,eh,e⟩:=bind_some e;refine zep (r:=rSlL X.K) sl_list pa pl ph pins s Y H Q I ?_;cases x with
|scr p=>
   have e:(if p=S.p then some (D.lst ((cut S.ns l h).map D.int)) else none)=some d:=e
   by_cases hps:p=S.p
   .rw[if_pos hps] at e;cases e;subst hps;refine ga Hz Jz O Z Y H J _ _ st ex λv H1 J1 u1 r=>?_
    refine gl Hz Jz O Z Y H1 J1 l _ (st.up u1) el λH2 J2 u2=>?_
    refine gh Hz Jz O Z Y H2 J2 h _ (st.up (u1.trans u2)) eh λH3 J3 u3=>?_
    cases r;have u:=(u1.trans u2).trans u3
    refine⟨S.p,_,rfl,(pers_F.sm u.same (hp _ _ _ _ I)).sq,λc hc=>?_⟩;have un:=Up.newJ u3.ja hc (.lst (cutV (S.ns.map V.int) l h))
    have ec:cutV (S.ns.map V.int) l h=(cut S.ns l h).map V.int:=by
     unfold cutV VD.cut;rw[wam,List.map_take,List.map_drop]
    exact w _ _ _ (u.trans un) (.lst zah (.inr rfl) (by rw[ec];exact ziN))
   .rw[if_neg hps] at e;cases e
|_=>cases e
def zb2:D->D->Option D
|.tup xs,.tup ys=>if ys = [] then(if xs = [] then none else mkT xs) else mkT (xs++ys)
|x,y=>dAdd x y
def zdk {X:Cx}:OpR X (binaryOp .Add) (λx y H Q=>zjJ X.K x y H Q\/zlz X.K x y H Q):=opAdd.or zhL
def zck {K:W.Frag}:Im2 K (λx y H Q=>zjJ K x y H Q\/zlz K x y H Q) zb2:=by
 intro H J x y d e d' Q ja hx hy hF w;by_cases hc:∃xs,d=.tup xs/\e=.tup []/\xs≠[]
 .obtain⟨xs,rfl,rfl,hx0⟩:=hc;have hF:(if xs = [] then none else mkT xs)=some d':=hF
  rw[if_neg hx0] at hF;obtain⟨hl,rfl⟩:=zes hF;obtain⟨p,vs,rfl,h1,r1⟩:=hx.tup;obtain⟨q,us,rfl,h2,r2⟩:=hy.tup;cases r2;refine .inr ⟨p,q,vs,[],rfl,rfl,h1,h2,?_,?_,λ_=>w _ H J (Up.refl ja) (.tup h1 r1),λz=>absurd rfl z⟩
  .rintro rfl;cases r1;exact hx0 rfl
  .rw[r1.length];exact zca hl
 .refine .inl (zbS H J x y d e d' Q ja hx hy ?_ w);unfold zb2 at hF;split at hF
  .rename_i xs ys
   by_cases hy0:ys = []
   .subst hy0;by_cases hx0:xs = []
    .rw[if_pos rfl,if_pos hx0] at hF;cases hF
    .exact absurd ⟨xs,rfl,rfl,hx0⟩ hc
   .rw[if_neg hy0] at hF;show(if ys = [] then none else mkT (xs++ys))=some d'
    rw[if_neg hy0];exact hF
  .exact hF
end VD
namespace GB
open PySem PySem.Spec PyProof PyProof.Rows L2 VD GM
def Po {A:Type}(o:Option A)(R:A->Prop):Prop:=∃a,o=some a/\R a
section
variable {A B:Type}{o:Option A}{k:A->Option B}{P:A->Prop}{R:B->Prop}{a:A}
def sx (e:o=some a)(h:Po (k a) R):Po (o.bind k) R:=by rw[e];exact h
def asc {C:Type}{g:B->Option C}{R:C->Prop}(h:Po (o.bind λx=>(k x).bind g) R):Po ((o.bind k).bind g) R:=by
 cases o with
|none=>exact h
|some x=>exact h
theorem Po.bind (h:Po o P)(hk:∀a,P a->Po (k a) R):Po (o.bind k) R:=by
 obtain⟨a,e,p⟩:=h;exact sx e (hk a p)
def zmy {b:Bool}{x y:Option A}(h1:b=true->Po x P)(h2:b=false->Po y P):Po (if b then x else y) P:=by
 cases b with
|true=>exact h1 rfl
|false=>exact h2 rfl
end
def zmz {S A:Type}{f:S->D->Option S}{ds:List D}{s0:S}{k:S->Option A}{R:A->Prop}(I:Nat->S->Prop)(h0:I 0 s0)(hs:∀i s d,ds[i]?=some d->I i s->Po (f s d) (I (i+1)))(hk:∀s,I ds.length s->Po (k s) R):Po ((zaX f s0 ds).bind k) R:=by
 have key:∀(ds:List D) (b:Nat) (s:S),(∀i s d,ds[i]?=some d->I (b+i) s->Po (f s d) (I (b+i+1)))->I b s->Po (zaX f s ds) (I (b+ds.length)):=by
  intro ds;induction ds with
 |nil=>intro b s _ h;exact⟨s,rfl,h⟩
 |cons d ds ih=>
    intro b s hf h;obtain⟨s1,e1,h1⟩:=hf 0 s d rfl h;show Po ((f s d).bind λs=>zaX f s ds) _
    refine sx e1 ?_;rw[wbp,show b+(ds.length+1)=b+1+ds.length by omega];exact ih (b+1) s1 (λi s d hd hI=>by
     rw[show b+1+i=b+(i+1) by omega] at hI⊢;exact hf (i+1) s d hd hI) h1
 have:=key ds 0 s0 (λi s d hd hI=>by rw[wcz] at hI⊢;exact hs i s d hd hI) h0
 rw[wcz] at this;exact this.bind hk
structure Itm where
 dp:Nat
 nm:Str
 ba:Int
 bb:Int
 bc:Int
 bd:Int
 wd:Str
 rk:Int
 hd:Option Str
def Itm.bx (x:Itm):D:=.tup [.int x.ba,.int x.bb,.int x.bc,.int x.bd]
def hdO:Option Str->D
|none=>.non
|some h=>.str h
def Itm.d (x:Itm):D:=.tup [.int (x.dp:Int),.str x.nm,x.bx,.str x.wd,.int x.rk,hdO x.hd]
def rowsD (L:List Itm):D:=.lst (L.map Itm.d)
inductive Vd:Nat->List Itm->Prop
|nil {m:Nat}:Vd m []
|cons {m:Nat}{x:Itm}{S:List Itm}(hm:x.dp<=m) (h4:x.dp<=4) (t:Vd (x.dp+1) S):Vd m (x::S)
def part (x:Itm)(_:Nat)(inn:List D):D:=.tup [.str x.nm,x.bx,.str x.wd,.int x.rk,hdO x.hd,.tup inn]
def fo:List Itm->Nat->List D
|[],_=>[]
|x::S,d=>if d=x.dp then part x 0 (fo S (d+1))::fo S d else if d=x.dp+1 then[] else fo S d
def ot (fr:Str->Bool):Nat->List D->List D
|0,_=>[]
|n+1,ds=>ds.flatMap λd=>match d with
  |.tup [_,_,.str w,_,_,.tup inn]=>if fr w then d::ot fr n inn else[]
  |_=>[]
theorem ziO:∀{m:Nat}{S:List Itm},Vd m S->∀d,m<d->fo S d = []
|_,_,.nil,_,_=>rfl
|m,_,.cons (x:=x) (S:=S) hm h4 t,d,hd=>by
   show(if d=x.dp then _ else if d=x.dp+1 then[] else fo S d) = []
   rw[if_neg (by omega)];by_cases e:d=x.dp+1
   .rw[if_pos e]
   .rw[if_neg e];exact ziO t d (by omega)
def nr:D->Int×Str
|.tup [.str n,_,_,.int r,_,_]=>(r,n)
|_=>(0,"")
def zmA {fr:Str->Bool}{n:Nat}{x:Itm}{dp:Nat}{inn ds:List D}:ot fr (n+1) (part x dp inn::ds)=(if fr x.wd then part x dp inn::ot fr n inn else[])++ot fr (n+1) ds:=by
 show(List.flatMap _ (_::ds))=_
 rw[List.flatMap_cons];rfl
def Ok:Nat->List D->Prop
|0,ds=>ds = []
|n+1,ds=>∀d∈ds,∃x dp inn,d=part x dp inn/\Ok n inn
def Ok.nil:∀{n:Nat},Ok n []
|0=>rfl
|_+1=>λd h=>by cases h
theorem zfh:∀{m:Nat}{S:List Itm},Vd m S->∀d,Ok (6 - d) (fo S d)
|_,_,.nil,_=>Ok.nil
|m,_,.cons (x:=x) (S:=S) hm h4 t,d=>by
   show Ok (6 - d) (if d=x.dp then part x 0 (fo S (d+1))::fo S d else if d=x.dp+1 then[] else fo S d)
   by_cases e:d=x.dp
   .rw[if_pos e];have h1:=zfh t (d+1)
    have h2:=zfh t d
    rw[show 6 - d=(6 - (d+1))+1 by omega] at h2⊢;intro y hy;rcases waf.mp hy with rfl|hy
    .exact⟨_,_,_,rfl,h1⟩
    .exact h2 y hy
   .rw[if_neg e];by_cases e2:d=x.dp+1
    .rw[if_pos e2];exact Ok.nil
    .rw[if_neg e2];exact zfh t d
theorem Ok.up:∀{n:Nat}{ds:List D},Ok n ds->Ok (n+1) ds
|0,ds,h=>by rw[show ds = [] from h];exact Ok.nil
|n+1,ds,h=>λd hd=>by
   obtain⟨x,dp,inn,e,o⟩:=h d hd;exact⟨x,dp,inn,e,o.up⟩
end GB
namespace Pg
open PySem L2
def top (i:Nat):Stmt:=PySem.Challenge.pw_focuswalk_k04_what_is_no_sheet.main.body.getD i (.Pass ⟨0,0,0,0⟩)
abbrev zbq:Stmt:=top 21
abbrev zcv:Stmt:=top 22
abbrev zcw:Stmt:=top 23
abbrev zbO:Stmt:=top 24
abbrev zbA:Stmt:=top 25
abbrev zc0:Stmt:=top 30
abbrev zcx:Stmt:=top 31
abbrev zaU:Stmt:=top 32
abbrev zdN:Stmt:=top 33
abbrev zdb:Stmt:=top 34
abbrev zbH:Stmt:=top 35
abbrev zdO:Stmt:=top 36
abbrev zdP:Stmt:=top 37
abbrev zdQ:Stmt:=top 38
abbrev zbP:Stmt:=top 39
abbrev zbh:Stmt:=top 40
abbrev zcl:Stmt:=top 41
abbrev zdR:Stmt:=top 42
abbrev zbr:Stmt:=top 43
abbrev zcm:Stmt:=top 46
abbrev zcM:Stmt:=top 47
abbrev zb3:Stmt:=top 48
abbrev zcN:Stmt:=top 49
abbrev zbQ:Stmt:=top 50
abbrev zcO:Stmt:=top 51
abbrev zeB:Stmt:=top 52
end Pg
namespace Pg
open PySem PySem.Spec PyProof PyProof.Rows L2 VD EX
section
variable {P:Program}{w:World}{K:W.Frag}{mg:Str->Option Value}{base:Heap}{f g:Addr}{fd gd:FuncData}
def za9 (self:List D->Option D)(p_parts p_outer_place:D):Option D:=
 (Option.bind (some ([]:List D)) λ(x1:List D)=>(Option.bind (Option.bind (zpu [p_parts]) (zaX (λ(s2:List D) (d8:D)=>Option.bind (un2 d8) λ(y3:D×D)=>(Option.bind (dAdd p_outer_place (.tup [y3.1])) λ(x4:D)=>(Option.bind (appL s2 (.tup [x4,y3.2])) λ(x5:List D)=>(Option.bind (Option.bind (Option.bind (aC (dIx y3.2 (.int 5)) (aC (some x4) aN)) self) (extL x5)) λ(x6:List D)=>(some x6))))) x1)) λ(s2:List D)=>(Option.bind (some (.lst s2)) λ(r7:D)=>(some r7))))
def zbB (self:List D->Option D):List D->Option D:=c2 (za9 self)
def zaB:Nat->List D->Option D
|0=>λ_=>none
|n+1=>zbB (zaB n)
def sc_placed_within:FnScope ["parts","outer_place","pairs","number","part","place"] ["parts","outer_place"] (zab zbA):=fsc
def zdo (F:Fun K "placed_within" "placed_within" zbA f fd)(B:Blt mg){n:Nat}{self:List D->Option D}(C_placed_within:Cal P w K mg base n "placed_within" ["parts","outer_place"] (spF K self))(G_PARTS:GlobD K mg "PARTS" (.int 5)):FnOk P w K mg base CX0 (n+1) f fd ["parts","outer_place"] (spF K (zbB self)):=
 zbo F sc_placed_within zcX λcdv A outer s H E hr=>by
  have nd:=sc_placed_within.nd
  refine⟨_,(zac (vsO 2 nd (zaK zae)) (zac (zcW (zlT B (zaa (vv 0) zae)) (zdF rfl (zaD (vgN 3 nd) (zaD (vgN 4 nd) zcL))) (zac (vsS 5 nd (zax opAdd zbS (vr 1) (VE.w (zap (zaa (vv 3) zae))))) (zac (zig 2 (zap (zaa (vv 5) (zaa (vv 4) zae)))) (zac (zkO 2 (zar (hk:=wai _) C_placed_within hr (zaa (za6 (vr 4) (VE.w (za4 G_PARTS))) (zaa (vv 5) zae)))) (za8 [3,4,5] zaj))))) (zfO 2 (zam (zau (vv 2)))))),zfR ?_⟩;intro p_parts p_outer_place;unfold za9;exact(zak (zij rfl) λx1=>(zak (zfQ (emb:=(λ(s2:List D)=>[.val p_parts,.val p_outer_place,.own 1 (.lst s2),.un,.un,.un])) rfl (λ_=>rfl) (λ_ _=>rfl) λs2 y3=>(zak (zaq rfl) λx4=>(zak (zik rfl) λx5=>(zak (zkT rfl) λx6=>(zbz [3,4,5] (zaw λ_ h=>h)))))) λs2=>(zii 2 (zas λ_ _ h=>h))))
def zbi (p_sheet:D):Option D:=
 (Option.bind ((zaB 8) [p_sheet,(.tup [])]) λ(r1:D)=>(some r1))
def zaz:List D->Option D:=c1 zbi
def zdS:FnScope ["sheet"] ["sheet"] (zab zbO):=fsc
def zdT (F:Fun K "placed_parts" "placed_parts" zbO f fd)(B:Blt mg)(C_placed_within:Cal P w K mg base 8 "placed_within" ["parts","outer_place"] (spF K (zaB 8))):FnOk P w K mg base CX0 (8+1) f fd ["sheet"] (spF K zaz):=
 zbo F zdS c1_len λcdv A outer s H E hr=>by
  refine⟨_,(zam (zau (zar C_placed_within hr (zaa (vv 0) (zaa (zap zae) zae))))),zcc ?_⟩;intro p_sheet;unfold zbi;exact(zas λ_ _ h=>h)
def zcy (p_sheet:D):Option D:=
 (Option.bind (Option.bind (Option.bind (Option.bind (zaz [p_sheet]) dSeq) (zci (zbZ [.un,.un] (gT 2 (gCons' (gN 0) (gCons' (gN 1) gNil'))) tTrue (eVar 1)))) λds=>some (.lst ds)) λ(r1:D)=>(some r1))
def zbv:List D->Option D:=c1 zcy
def zf1:FnScope ["sheet"] ["sheet"] (zab zcw):=fsc
def zf2 (F:Fun K "parts_of" "parts_of" zcw f fd)(B:Blt mg)(C_placed_parts:Cal P w K mg base 9 "placed_parts" ["sheet"] (spF K zaz)):FnOk P w K mg base CX0 (9+1) f fd ["sheet"] (spF K zbv):=
 zbo F zf1 c1_len λcdv A outer s H E hr=>by
  refine⟨_,(zam (zau (VN.ve (vnC ["sheet"] zcw (NC:=["place","part"]) [none,none] (zcb (zar C_placed_parts hr (zaa (vv 0) zae))) ((zdF (n:=2) rfl (zaD (vgc 0) (zaD (vgc 1) zcL)))) (zdG) ((vv 1)))))),zcc ?_⟩;intro p_sheet;unfold zcy;exact(zas λ_ _ h=>h)
def zcz (p_sheet:D):Option D:=
 (Option.bind (Option.bind (Option.bind (Option.bind (zbv [p_sheet]) dSeq) (zci (λd1=>(Option.bind (dIx d1 (.int 0)) λz=>some (some z))))) λds=>some (.lst ds)) λ(r2:D)=>(some r2))
def zcA:List D->Option D:=c1 zcz
def zf3:FnScope ["sheet"] ["sheet"] (zab zcv):=fsc
def zf4 (F:Fun K "names_of" "names_of" zcv f fd)(B:Blt mg)(C_parts_of:Cal P w K mg base 10 "parts_of" ["sheet"] (spF K zbv))(G_NAME:GlobD K mg "NAME" (.int 0)):FnOk P w K mg base CX0 (10+1) f fd ["sheet"] (spF K zcA):=
 zbo F zf3 c1_len λcdv A outer s H E hr=>by
  refine⟨_,(zam (zau (VN.ve (vnC ["sheet"] zcv (NC:=["part"]) [none] (zcb (zar C_parts_of hr (zaa (vv 0) zae))) ((vgc 0)) (zdG) ((za6 (vr 0) (VE.w (za4 G_NAME)))))))),zcc ?_⟩;intro p_sheet;unfold zcz;exact(zas λ_ _ h=>h)
def zc1 (p_thing:D):Option D:=
 (Option.bind (Option.bind (Option.bind (Option.bind ((isD "str") p_thing) dTru) λk6=>some (!k6)) λk5=>if k5 then some true else(Option.bind (Option.bind (Option.bind (bLen [p_thing]) λv4=>(Option.bind (dLe (.int 1) v4) λzk3=>Option.bind (dB zk3) λk3=>if k3 then(dLe v4 (.int 8)) else some (.bl false))) dB) λk2=>some (!k2))) λk1=>if k1 then(Option.bind (some (.bl false)) λ(r7:D)=>(some r7)) else(Option.bind (Option.bind (zoi p_thing) λds=>Option.bind (zeA (λd8=>Option.bind ((dInS false) d8 (.str "abcdefghijklmnopqrstuvwxyz")) dB) ds) λbs=>some (D.bl (bs.all id))) λ(r9:D)=>(some r9)))
def zaC:List D->Option D:=c1 zc1
def zhc:FnScope ["thing"] ["thing"] (zab zbq):=fsc
def zhd (F:Fun K "is_name" "is_name" zbq f fd)(B:Blt mg){Pc:Hp->Prop}(pe:Pers Pc){tP:Addr}(T:TabF K mg base fd tP)(hT:∀H,Pc H->TabH tP "is_name.<locals>.<genexpr>" H)(K_str:Kit K "str")(G_LONGEST_NAME:GlobD K mg "LONGEST_NAME" (.int 8))(G_LETTERS:GlobD K mg "LETTERS" (.str "abcdefghijklmnopqrstuvwxyz")):FnOk P w K mg base CX0 (1+1) f fd ["thing"] (pcS Pc (spF K zaC)):=
 zb1 pe F zhc c1_len λcdv A outer s H E hcv hr hPc hp=>by
  have TX:TabX (cxOf CX0 P w K mg base ["thing"] "is_name" (zab zbq) f cdv A outer s H E).nox "is_name.<locals>.<genexpr>":=zfW T hcv (hT _ hPc)
  refine⟨_,(zac (za7 (VP.t (zeY (zbb (zaY (VE.w (zcg K_str B boot_str (vr 0))))) (zdC (zbb (zjH znj znH znj znH (VE.w zad) (VE.w (ve_b zbg zcG B boot_len (zav (vr 0) zaO))) (VE.w (za4 G_LONGEST_NAME))))))) (zam (zau zbR)) zaj) (zam (zau (zop ["thing"] zbq (NC:=["sign"]) [none] hr B TX (zoj (vv 0)) (vgg 0) (hq:=by show((("is_name" : Str)++".<locals>." : Str))++"<genexpr>"=_;decide +kernel) (zdi zok (zol false) (vr 0) (VE.w (za4 G_LETTERS)) rfl))))),zcc ?_⟩;intro p_thing;unfold zc1;exact(zaZ (zas λ_ _ h=>h) (zbN (zas λ_ _ h=>h)))
def zeg (p_thing:D):Option D:=
 (Option.bind (Option.bind (Option.bind ((isD "int") p_thing) dB) λk2=>if k2 then(Option.bind (Option.bind ((isD "bool") p_thing) dB) λk1=>some (.bl (!k1))) else some (.bl false)) λ(r3:D)=>(some r3))
def zbU:List D->Option D:=c1 zeg
def zf5:FnScope ["thing"] ["thing"] (zab zdb):=fsc
def zf6 (F:Fun K "is_whole" "is_whole" zdb f fd)(B:Blt mg)(K_bool:Kit K "bool")(K_int:Kit K "int"):FnOk P w K mg base CX0 (0+1) f fd ["thing"] (spF K zbU):=
 zbo F zf5 c1_len λcdv A outer s H E hr=>by
  refine⟨_,(zam (zau (zeb (zcg K_int B boot_int (vr 0)) (zea (zkK (zcg K_bool B boot_bool (vr 0))))))),zcc ?_⟩;intro p_thing;unfold zeg;exact(zas λ_ _ h=>h)
def zcB (p_thing:D):Option D:=
 (Option.bind (Option.bind (Option.bind (Option.bind ((isD "tuple") p_thing) dTru) λk4=>some (!k4)) λk3=>if k3 then some true else(Option.bind (Option.bind (bLen [p_thing]) λv2=>((dEqG true) v2 (.int 4))) dB)) λk1=>if k1 then(Option.bind (some (.bl false)) λ(r5:D)=>(some r5)) else(Option.bind (Option.bind (Option.bind (Option.bind (dSeq p_thing) λds=>Option.bind (zeA (λd8=>Option.bind (zbU [d8]) dB) ds) λbs=>some (D.bl (bs.all id))) dTru) λk7=>some (!k7)) λk6=>if k6 then(Option.bind (some (.bl false)) λ(r9:D)=>(some r9)) else(Option.bind (Option.bind (Option.bind (Option.bind (dIx p_thing (.int 2)) λv12=>(dGe v12 (.int 1))) dB) λk11=>if k11 then(Option.bind (dIx p_thing (.int 3)) λv10=>(dGe v10 (.int 1))) else some (.bl false)) λ(r13:D)=>(some r13))))
def zaJ:List D->Option D:=c1 zcB
def ziP:FnScope ["thing"] ["thing"] (zab zbH):=fsc
def ziQ (F:Fun K "is_box" "is_box" zbH f fd)(B:Blt mg){Pc:Hp->Prop}(pe:Pers Pc){tP:Addr}(T:TabF K mg base fd tP)(hT:∀H,Pc H->TabH tP "is_box.<locals>.<genexpr>" H)(C_is_whole:Cal P w K mg base 1 "is_whole" ["thing"] (spF K zbU))(K_tuple:Kit K "tuple"):FnOk P w K mg base CX0 (2+1) f fd ["thing"] (pcS Pc (spF K zaJ)):=
 zb1 pe F ziP c1_len λcdv A outer s H E hcv hr hPc hp=>by
  have TX:TabX (cxOf CX0 P w K mg base ["thing"] "is_box" (zab zbH) f cdv A outer s H E).nox "is_box.<locals>.<genexpr>":=zfW T hcv (hT _ hPc)
  refine⟨_,(zac (za7 (VP.t (zeY (zbb (zaY (VE.w (zcg K_tuple B boot_tuple (vr 0))))) (zdC (zaP (zl9 hr) (zbs true) (VE.w (ve_b zbg zcG B boot_len (zav (vr 0) zaO))) (VE.w zad) (zaG _))))) (zam (zau zbR)) zaj) (zac (za7 (zbb (zaY (VE.w (zop ["thing"] zbH (NC:=["number"]) [none] hr B TX (zcb (vv 0)) (vgg 0) (hq:=by show((("is_box" : Str)++".<locals>." : Str))++"<genexpr>"=_;decide +kernel) (zar C_is_whole (zgE hr) (zaa (vv 0) zae)))))) (zam (zau zbR)) zaj) (zam (zau (zeb (zdi zlm zlR (VE.w (za6 (vr 0) (VE.w zad))) (VE.w zad) (zaG _)) (zea (zdi zlm zlR (VE.w (za6 (vr 0) (VE.w zad))) (VE.w zad) (zaG _)))))))),zcc ?_⟩;intro p_thing;unfold zcB;exact(zaZ (zas λ_ _ h=>h) (zbN (zaZ (zas λ_ _ h=>h) (zbN (zas λ_ _ h=>h)))))
def zfi (p_thing:D):Option D:=
 (Option.bind (Option.bind (Option.bind ((isD "str") p_thing) dB) λk1=>if k1 then((dInG false) p_thing (.tup [(.str "free"),(.str "shut"),(.str "hidden")])) else some (.bl false)) λ(r2:D)=>(some r2))
def zaL:List D->Option D:=c1 zfi
def zhe:FnScope ["thing"] ["thing"] (zab zdO):=fsc
def zhf (F:Fun K "is_word" "is_word" zdO f fd)(B:Blt mg)(K_str:Kit K "str")(G_WORDS:GlobD K mg "WORDS" (.tup [(.str "free"),(.str "shut"),(.str "hidden")])):FnOk P w K mg base CX0 (0+1) f fd ["thing"] (spF K zaL):=
 zbo F zhe c1_len λcdv A outer s H E hr=>by
  refine⟨_,(zam (zau (zeb (zcg K_str B boot_str (vr 0)) (zea (zdi (zj2 hr) (ze4 false) (vr 0) (VE.w (za4 G_WORDS)) rfl))))),zcc ?_⟩;intro p_thing;unfold zfi;exact(zas λ_ _ h=>h)
def zfj (p_thing:D):Option D:=
 (Option.bind (Option.bind (Option.bind (zbU [p_thing]) dB) λk1=>if k1 then(dGe p_thing (.int 0)) else some (.bl false)) λ(r2:D)=>(some r2))
def zaM:List D->Option D:=c1 zfj
def zhg:FnScope ["thing"] ["thing"] (zab zdP):=fsc
def zhh (F:Fun K "is_rank" "is_rank" zdP f fd)(B:Blt mg)(C_is_whole:Cal P w K mg base 1 "is_whole" ["thing"] (spF K zbU)):FnOk P w K mg base CX0 (1+1) f fd ["thing"] (spF K zaM):=
 zbo F zhg c1_len λcdv A outer s H E hr=>by
  refine⟨_,(zam (zau (zeb (zar C_is_whole hr (zaa (vv 0) zae)) (zea (zdi zlm zlR (vr 0) (VE.w zad) (zaG _)))))),zcc ?_⟩;intro p_thing;unfold zfj;exact(zas λ_ _ h=>h)
def zfk (p_thing:D):Option D:=
 (Option.bind (Option.bind (Option.bind ((dIs false) p_thing D.non) dB) λk1=>if k1 then some (.bl true) else(zaC [p_thing])) λ(r2:D)=>(some r2))
def za0:List D->Option D:=c1 zfk
def zhi:FnScope ["thing"] ["thing"] (zab zdQ):=fsc
def zhj (F:Fun K "is_head" "is_head" zdQ f fd)(B:Blt mg){Pc:Hp->Prop}(pe:Pers Pc)(C_is_name:Cal P w K mg base 2 "is_name" ["thing"] (pcS Pc (spF K zaC))):FnOk P w K mg base CX0 (2+1) f fd ["thing"] (pcS Pc (spF K za0)):=
 zb1 pe F zhi c1_len λcdv A outer s H E hcv hr hPc hp=>by
  refine⟨_,(zam (zau (zpo (zdi zkC znJ (vr 0) (VE.w zbE) (zaG _)) (zea (zaQ C_is_name hp hr (zaa (vv 0) zae)))))),zcc ?_⟩;intro p_thing;unfold zfk;exact(zas λ_ _ h=>h)
def zaE (self:List D->Option D)(p_thing p_deep:D):Option D:=
 (Option.bind (Option.bind (Option.bind (Option.bind ((isD "tuple") p_thing) dTru) λk4=>some (!k4)) λk3=>if k3 then some true else(Option.bind (Option.bind (bLen [p_thing]) λv2=>((dEqG true) v2 (.int 6))) dB)) λk1=>if k1 then(Option.bind (some (.bl false)) λ(r5:D)=>(some r5)) else(Option.bind (un6 p_thing) λ(y6:D×D×D×D×D×D)=>(Option.bind (Option.bind (Option.bind (Option.bind (zaC [y6.1]) dTru) λk12=>some (!k12)) λk11=>if k11 then some true else(Option.bind (Option.bind (Option.bind (zaJ [y6.2.1]) dTru) λk10=>some (!k10)) λk9=>if k9 then some true else(Option.bind (Option.bind (zaL [y6.2.2.1]) dTru) λk8=>some (!k8)))) λk7=>if k7 then(Option.bind (some (.bl false)) λ(r13:D)=>(some r13)) else(Option.bind (Option.bind (Option.bind (zaM [y6.2.2.2.1]) dB) λk15=>if k15 then(Option.bind (Option.bind (za0 [y6.2.2.2.2.1]) dB) λk14=>if k14 then(Option.bind (aC (some y6.2.2.2.2.2) (aC (dAdd p_deep (.int 1)) aN)) self) else some (.bl false)) else some (.bl false)) λ(r16:D)=>(some r16)))))
def zal (self:List D->Option D):List D->Option D:=c2 (zaE self)
def sc_is_part:FnScope ["thing","deep","name","box","word","rank","head","parts"] ["thing","deep"] (zab zdN):=fsc
def zhk (F:Fun K "is_part" "is_part" zdN f fd)(B:Blt mg){Pc:Hp->Prop}(pe:Pers Pc)(C_is_word:Cal P w K mg base 1 "is_word" ["thing"] (spF K zaL))(C_is_box:Cal P w K mg base 3 "is_box" ["thing"] (pcS Pc (spF K zaJ)))(C_is_name:Cal P w K mg base 2 "is_name" ["thing"] (pcS Pc (spF K zaC))){n:Nat}{self:List D->Option D}(C_are_parts:Cal P w K mg base n "are_parts" ["thing","deep"] (pcS Pc (spF K self)))(C_is_head:Cal P w K mg base 3 "is_head" ["thing"] (pcS Pc (spF K za0)))(C_is_rank:Cal P w K mg base 2 "is_rank" ["thing"] (spF K zaM))(K_tuple:Kit K "tuple"):FnOk P w K mg base CX0 (n+4+1) f fd ["thing","deep"] (pcS Pc (spF K (zal self))):=
 zb1 pe F sc_is_part zcX λcdv A outer s H E hcv hr hPc hp=>by
  have nd:=sc_is_part.nd
  refine⟨_,(zac (za7 (VP.t (zeY (zbb (zaY (VE.w (zcg K_tuple B boot_tuple (vr 0))))) (zdC (zaP (zl9 hr) (zbs true) (VE.w (ve_b zbg zcG B boot_len (zav (vr 0) zaO))) (VE.w zad) (zaG _))))) (zam (zau zbR)) zaj) (zac (znO (vv 0) (zdF rfl (zaD (vgN 2 nd) (zaD (vgN 3 nd) (zaD (vgN 4 nd) (zaD (vgN 5 nd) (zaD (vgN 6 nd) (zaD (vgN 7 nd) zcL)))))))) (zac (za7 (VP.t (zeY (zbb (zaY (VE.w (zaQ (hk:=by omega) C_is_name hp hr (zaa (vv 2) zae))))) (zeY (zbb (zaY (VE.w (zaQ (hk:=by omega) C_is_box hp hr (zaa (vv 3) zae))))) (zdC (zbb (zaY (VE.w (zar (hk:=by omega) C_is_word hr (zaa (vv 4) zae))))))))) (zam (zau zbR)) zaj) (zam (zau (zeb (zar (hk:=by omega) C_is_rank hr (zaa (vv 5) zae)) (zeb (zaQ (hk:=by omega) C_is_head hp hr (zaa (vv 6) zae)) (zea (zaQ (hk:=by omega) C_are_parts hp hr (zaa (vv 7) (zaa (zax opAdd zbS (vr 1) (VE.w zad)) zae))))))))))),zfR ?_⟩;intro p_thing p_deep;unfold zaE;exact(zaZ (zas λ_ _ h=>h) (zbN (zak (znW λ_=>tg_6 rfl (λ_=>rfl) (λ_ _=>rfl) (λ_ _ _=>rfl) (λ_ _ _ _=>rfl) (λ_ _ _ _ _=>rfl)) λy6=>(zaZ (zas λ_ _ h=>h) (zbN (zas λ_ _ h=>h))))))
def zbe (self:List D->Option D)(p_thing p_deep:D):Option D:=
 (Option.bind (Option.bind (Option.bind ((isD "tuple") p_thing) dTru) λk2=>some (!k2)) λk1=>if k1 then(Option.bind (some (.bl false)) λ(r3:D)=>(some r3)) else(Option.bind (Option.bind (dTru p_thing) λk5=>if k5 then(Option.bind (dGt p_deep (.int 5)) dB) else some false) λk4=>if k4 then(Option.bind (some (.bl false)) λ(r6:D)=>(some r6)) else(Option.bind (Option.bind (dSeq p_thing) λds=>Option.bind (zeA (λd7=>Option.bind ((zal self) [d7,p_deep]) dB) ds) λbs=>some (D.bl (bs.all id))) λ(r8:D)=>(some r8))))
def zcP (self:List D->Option D):List D->Option D:=c2 (zbe self)
def zaf:Nat->List D->Option D
|0=>λ_=>none
|n+1=>zcP (zaf n)
def zfl:FnScope ["thing","deep"] ["thing","deep"] (zab zaU):=fsc
def zfm (F:Fun K "are_parts" "are_parts" zaU f fd)(B:Blt mg){Pc:Hp->Prop}(pe:Pers Pc){tP:Addr}(T:TabF K mg base fd tP)(hT:∀H,Pc H->TabH tP "are_parts.<locals>.<genexpr>" H){n:Nat}{self:List D->Option D}(C_is_part:Cal P w K mg base (n+5) "is_part" ["thing","deep"] (pcS Pc (spF K (zal self))))(K_tuple:Kit K "tuple")(G_DEEPEST:GlobD K mg "DEEPEST" (.int 5)):FnOk P w K mg base CX0 (n+6+1) f fd ["thing","deep"] (pcS Pc (spF K (zcP self))):=
 zb1 pe F zfl zcX λcdv A outer s H E hcv hr hPc hp=>by
  have TX:TabX (cxOf CX0 P w K mg base ["thing","deep"] "are_parts" (zab zaU) f cdv A outer s H E).nox "are_parts.<locals>.<genexpr>":=zfW T hcv (hT _ hPc)
  refine⟨_,(zac (za7 (zbb (zaY (VE.w (zcg K_tuple B boot_tuple (vr 0))))) (zam (zau zbR)) zaj) (zac (za7 (VP.t (zgq (zaY (vr 0)) (zfK (zaP zll zlQ (vr 1) (VE.w (za4 G_DEEPEST)) (zaG _))))) (zam (zau zbR)) zaj) (zam (zau (zoq ["thing","deep"] zaU (NC:=["part","deep"]) [none,some 1] hp hr B TX (zcb (vv 0)) (vgg 0) (hq:=by show((("are_parts" : Str)++".<locals>." : Str))++"<genexpr>"=_;decide +kernel) (λrH=>(zaQ (hk:=by omega) C_is_part (Prs.of pe rH) (zgE hr) (zaa (vv 0) (zaa (vv 1) zae))))))))),zfR ?_⟩;intro p_thing p_deep;unfold zbe;exact(zaZ (zas λ_ _ h=>h) (zbN (zaZ (zas λ_ _ h=>h) (zbN (zas λ_ _ h=>h)))))
def zcC (p_sheet:D):Option D:=
 (Option.bind (some ([]:List D)) λ(x1:List D)=>(Option.bind (Option.bind (Option.bind (zbv [p_sheet]) dSeq) (zaX (λ(s2:List D) (d3:D)=>(Option.bind (Option.bind (Option.bind (Option.bind (Option.bind (dIx d3 (.int 5)) dSeq) (zci (λd4=>(Option.bind (Option.bind (aC (dIx d3 (.int 0)) (aC (dIx d4 (.int 0)) aN)) mkT) λz=>some (some z))))) λds=>some (.lst ds)) (extL s2)) λ(x5:List D)=>(Option.bind (Option.bind (Option.bind (Option.bind (dIx d3 (.int 4)) λv7=>((dIs true) v7 D.non)) dB) λk6=>if k6 then(Option.bind (Option.bind (Option.bind (aC (dIx d3 (.int 4)) (aC (dIx d3 (.int 0)) aN)) mkT) (appL x5)) λ(x8:List D)=>(some x8)) else(some x5)) λ(s9:List D)=>(some s9)))) x1)) λ(s2:List D)=>(Option.bind (some (.lst s2)) λ(r10:D)=>(some r10))))
def zcD:List D->Option D:=c1 zcC
def sc_musts_of:FnScope ["sheet","musts","part"] ["sheet"] (zab zcx):=fsc
def zf7 (F:Fun K "musts_of" "musts_of" zcx f fd)(B:Blt mg)(C_parts_of:Cal P w K mg base 10 "parts_of" ["sheet"] (spF K zbv))(G_PARTS:GlobD K mg "PARTS" (.int 5))(G_NAME:GlobD K mg "NAME" (.int 0))(G_HEAD:GlobD K mg "HEAD" (.int 4)):FnOk P w K mg base CX0 (10+1) f fd ["sheet"] (spF K zcD):=
 zbo F sc_musts_of c1_len λcdv A outer s H E hr=>by
  have nd:=sc_musts_of.nd
  refine⟨_,(zac (vsO 1 nd (zaK zae)) (zac (zcW (zcb (zar C_parts_of hr (zaa (vv 0) zae))) (vgN 2 nd) (zac (zkO 1 (VN.ve (vnC ["sheet","musts","part"] zcx (NC:=["inner","part"]) [none,some 2] (zcb (za6 (vr 2) (VE.w (za4 G_PARTS)))) ((vgc 0)) (zdG) ((zap (zaa (za6 (vrC 1 rfl rfl rfl rfl) (VE.w (za4 G_NAME))) (zaa (za6 (vr 0) (VE.w (za4 G_NAME))) zae))))))) (zac (za7 (zaP zln zlS (VE.w (za6 (vr 2) (VE.w (za4 G_HEAD)))) (VE.w zbE) (zaG _)) (zac (zig 1 (zap (zaa (za6 (vr 2) (VE.w (za4 G_HEAD))) (zaa (za6 (vr 2) (VE.w (za4 G_NAME))) zae)))) zaj) zaj) (za8 [2] zaj)))) (zfO 1 (zam (zau (vv 1)))))),zcc ?_⟩;intro p_sheet;unfold zcC;exact(zak (zij rfl) λx1=>(zak (zew (emb:=(λ(s2:List D)=>[.val p_sheet,.own 1 (.lst s2),.un])) rfl (λ_=>rfl) λs2 d3=>(zak (zkT rfl) λx5=>(zak (zd2 (emb:=(λ(s9:List D)=>[.val p_sheet,.own 1 (.lst s9),.val d3])) (zak (zik rfl) λx8=>(zaw λ_ h=>h)) (zaw λ_ h=>h)) λs9=>(zbz [2] (zaw λ_ h=>h))))) λs2=>(zii 1 (zas λ_ _ h=>h))))
def zbj (p_names:D):Option D:=
 (Option.bind (Option.bind (zgD [p_names]) (zaX (λ(s1:Unit) (d6:D)=>Option.bind (un2 d6) λ(y2:D×D)=>(Option.bind (Option.bind (Option.bind (Option.bind (Option.bind (dInt y2.1) λi=>some (some i)) λv4=>(dSl p_names none v4)) λv5=>((dInG false) y2.2 v5)) dB) λk3=>if k3 then none else(some ()))) ())) λ(s1:Unit)=>(some D.non))
def za1:List D->Option D:=c1 zbj
def sc_refuse_twice:FnScope ["names","number","name"] ["names"] (zab zbP):=fsc
def zdU (F:Fun K "refuse_twice" "refuse_twice" zbP f fd)(B:Blt mg):FnOk P w K mg base CX0 (1+1) f fd ["names"] (spF K za1):=
 zbo F sc_refuse_twice c1_len λcdv A outer s H E hr=>by
  have nd:=sc_refuse_twice.nd
  refine⟨_,(zac (zcW (zki B (zaa (vv 0) zae)) (zdF rfl (zaD (vgN 1 nd) (zaD (vgN 2 nd) zcL))) (zac (za7 (zaP (zj2 hr) (ze4 false) (vr 2) (VE.w (zcr (vr 0) zbX (zbY (vv 1)))) rfl) (zam zcs) zaj) (za8 [1,2] zaj))) zaj),zcc ?_⟩;intro p_names;unfold zbj;exact(zak (zfQ (emb:=(λ(s1:Unit)=>[.val p_names,.un,.un])) rfl (λ_=>rfl) (λ_ _=>rfl) λs1 y2=>(zaZ (zeZ rfl) (zbN (zbz [1,2] (zaw λ_ h=>h))))) λs1=>(zaw λ_ h=>h))
def zbI (p_one p_other:D):Option D:=
 (Option.bind (Option.bind (aC (bLen [p_one]) (aC (bLen [p_other]) aN)) bMin) λ(x1:D)=>(Option.bind (Option.bind (Option.bind (Option.bind (dInt x1) λi=>some (some i)) λv2=>(dSlW p_one none v2)) λv4=>(Option.bind (Option.bind (Option.bind (dInt x1) λi=>some (some i)) λv3=>(dSlW p_other none v3)) λv5=>((dEqG false) v4 v5))) λ(r6:D)=>(some r6)))
def zaH:List D->Option D:=c2 zbI
def sc_are_nested:FnScope ["one","other","short"] ["one","other"] (zab zcl):=fsc
def zeC (F:Fun K "are_nested" "are_nested" zcl f fd)(B:Blt mg):FnOk P w K mg base CX0 (0+1) f fd ["one","other"] (spF K zaH):=
 zbo F sc_are_nested zcX λcdv A outer s H E hr=>by
  have nd:=sc_are_nested.nd
  refine⟨_,(zac (vsS 2 nd (ve_b (zdv rfl) zh9 B boot_min (zav (VE.w (ve_b zbg zcG B boot_len (zav (vr 0) zaO))) (zav (VE.w (ve_b zbg zcG B boot_len (zav (vr 1) zaO))) zaO)))) (zam (zau (zdi (zc7 hr) (zbs false) (VE.w (zfc (vr 0) zbX (zbY (vv 2)))) (VE.w (zfc (vr 1) zbX (zbY (vv 2)))) (zaG _))))),zfR ?_⟩;intro p_one p_other;unfold zbI;exact(zak (zaq rfl) λx1=>(zas λ_ _ h=>h))
def zbk (p_sheet:D):Option D:=
 (Option.bind (zaz [p_sheet]) λ(x1:D)=>(Option.bind (Option.bind (dSeq x1) λds=>Option.bind (zdL (zfb [.un,.un] (gT 2 (gCons' (gN 0) (gCons' (gN 1) gNil'))) (e2 dIx (eRd 1) (eK (.int 0))) (eVar 0)) ds ([],[])) λr=>some (D.dct r.1 r.2)) λ(x2:D)=>(Option.bind (Option.bind (dSeq x1) (zaX (λ(s3:Unit) (d9:D)=>Option.bind (un2 d9) λ(y4:D×D)=>(Option.bind (dIx y4.2 (.int 4)) λ(x5:D)=>(Option.bind (Option.bind ((dIs false) x5 D.non) dB) λk6=>if k6 then(some ()) else(Option.bind (Option.bind (Option.bind ((dInG true) x5 x2) dB) λk8=>if k8 then some true else(Option.bind (Option.bind (aC (dGet x2 x5) (aC (some y4.1) aN)) zaH) dTru)) λk7=>if k7 then none else(some ()))))) ())) λ(s3:Unit)=>(some D.non))))
def zbl:List D->Option D:=c1 zbk
def sc_refuse_heads:FnScope ["sheet","pairs","places","place","part","head"] ["sheet"] (zab zbh):=fsc
def zdV (F:Fun K "refuse_heads" "refuse_heads" zbh f fd)(B:Blt mg)(C_placed_parts:Cal P w K mg base 9 "placed_parts" ["sheet"] (spF K zaz))(C_are_nested:Cal P w K mg base 1 "are_nested" ["one","other"] (spF K zaH))(G_NAME:GlobD K mg "NAME" (.int 0))(G_HEAD:GlobD K mg "HEAD" (.int 4)):FnOk P w K mg base CX0 (9+1) f fd ["sheet"] (spF K zbl):=
 zbo F sc_refuse_heads c1_len λcdv A outer s H E hr=>by
  have nd:=sc_refuse_heads.nd
  have hu2:=zlB hr
  refine⟨_,(zac (vsS 1 nd (zar C_placed_parts hr (zaa (vv 0) zae))) (zac (zkg 2 nd ["sheet","pairs","places","place","part","head"] zbh (NC:=["place","part"]) [none,none] (zcb (vv 1)) (zdF (n:=2) rfl (zaD (vgc 0) (zaD (vgc 1) zcL))) (za6 (vr 1) (VE.w (za4 G_NAME))) (vv 0)) (zac (zcW (zcb (vv 1)) (zdF rfl (zaD (vgN 3 nd) (zaD (vgN 4 nd) zcL))) (zac (vsS 5 nd (za6 (vr 4) (VE.w (za4 G_HEAD)))) (zac (za7 (zaP zkC znJ (vr 5) (VE.w zbE) (zaG _)) (za8 [3,4,5] (zam zfP)) zaj) (zac (za7 (VP.t (zeY (zaP (zj3 hr) (ze4 true) (vr 5) (vr 2) rfl) (zdC (zaY (VE.w (zar C_are_nested hr (zaa (zlZ hu2 (vr 2) (vr 5)) (zaa (vv 3) zae)))))))) (zam zcs) zaj) (za8 [3,4,5] zaj))))) zaj))),zcc ?_⟩;intro p_sheet;unfold zbk;exact(zak (zaq rfl) λx1=>(zak (zaq rfl) λx2=>(zak (zfQ (emb:=(λ(s3:Unit)=>[.val p_sheet,.val x1,.val x2,.un,.un,.un])) rfl (λ_=>rfl) (λ_ _=>rfl) λs3 y4=>(zak (zaq rfl) λx5=>(zaZ (zbz [3,4,5] (zpt λ_ h=>h)) (zbN (zaZ (zeZ rfl) (zbN (zbz [3,4,5] (zaw λ_ h=>h)))))))) λs3=>(zaw λ_ h=>h))))
def zbJ (p_names p_musts:D):Option D:=
 (Option.bind (some p_names) λ(x1:D)=>(Option.bind (zee (λ(s2:D)=>(dTru (.bl true))) (λ(s2:D)=>(Option.bind (Option.bind (Option.bind (dSeq p_musts) (zci (zbZ [.un,.un,.val s2] (gT 2 (gCons' (gN 0) (gCons' (gN 1) gNil'))) (t1 (e2 (dInG false) (eRd 0) (eRd 2))) (eVar 1)))) λds=>some (.lst ds)) λ(x3:D)=>(Option.bind (Option.bind (Option.bind (dSeq s2) (zci (λd4=>(Option.bind (Option.bind ((dInG false) d4 x3) dB) λk5=>if k5 then(some (some d4)) else some none)))) λds=>some (.lst ds)) λ(x6:D)=>(Option.bind (Option.bind (Option.bind (bLen [x6]) λv8=>(Option.bind (bLen [s2]) λv9=>((dEqG false) v8 v9))) dB) λk7=>if k7 then(Option.bind (some x6) λ(r10:D)=>(some (Fl.ret r10:Fl (D) (D)))) else(Option.bind (some x6) λ(x11:D)=>(some (Fl.nx x11:Fl (D) (D)))))))) 50 x1) (flK λ(s2:D)=>(some D.non))))
def zbK:List D->Option D:=c2 zbJ
def sc_tied_names:FnScope ["names","musts","left","held","tied"] ["names","musts"] (zab zbr):=fsc
def zeD (F:Fun K "tied_names" "tied_names" zbr f fd)(B:Blt mg):FnOk P w K mg base CX0 (0+1) f fd ["names","musts"] (spF K zbK):=
 zbo F sc_tied_names zcX λcdv A outer s H E hr=>by
  have nd:=sc_tied_names.nd
  refine⟨_,(zac (vsS 2 nd (vv 0)) (zac (zjQ (λ_=>50) (zaY (VE.w zbR)) (zac (vsS 3 nd (VN.ve (vnC ["names","musts","left","held","tied"] zbr (NC:=["one","other","left"]) [none,none,some 2] (zcb (vv 1)) ((zdF (n:=2) rfl (zaD (vgc 0) (zaD (vgc 1) zcL)))) ((zib (zaP (zj2 hr) (ze4 false) (vr 0) (vrC 2 rfl rfl rfl rfl) rfl))) ((vv 1))))) (zac (And.left (zlY ["names","musts","left","held","tied"] zbr (i:=4) (NC:=["name","held"]) [none,some 3] nd rfl (Or.inl rfl) rfl (zcb (vv 2)) (λx h=>zbC h) rfl rfl rfl (by decide +kernel) (by decide +kernel) rfl (by decide +kernel) (by decide +kernel) rfl (by decide) (λcl C s0 H0 ex pn=>(vgc 0)) (λcl C s0 H0 ex pn=>(zib (zaP (zj2 hr) (ze4 false) (vr 0) (vrC 1 rfl rfl rfl rfl) rfl))) (λcl C s0 H0 ex pn=>(vv 0)))) (zac (za7 (zaP (zc7 hr) (zbs false) (VE.w (ve_b zbg zcG B boot_len (zav (vr 4) zaO))) (VE.w (ve_b zbg zcG B boot_len (zav (vr 2) zaO))) (zaG _)) (zam (zau (vv 4))) zaj) (zac (vsS 2 nd (vv 4)) (za8 [3,4] zaj)))))) zaj)),zfR ?_⟩;intro p_names p_musts;unfold zbJ;exact(zak (zaq rfl) λx1=>(zim (emb:=(λ(s2:D)=>[.val p_names,.val p_musts,.val s2,.un,.un])) rfl (λ_=>rfl) (λs2=>(zak (zaq rfl) λx3=>(zak (zaq rfl) λx6=>(zaZ (zas λ_ _ h=>h) (zbN (zak (zaq rfl) λx11=>(zbz [3,4] (zaw λ_ h=>h)))))))) λs2=>(zaw λ_ h=>h)))
def zc2 (p_names p_musts:D):Option D:=
 (Option.bind (zbK [p_names,p_musts]) λ(x1:D)=>(Option.bind (Option.bind (dTru x1) λk3=>some (!k3)) λk2=>if k2 then(Option.bind (some (.lst [])) λ(r4:D)=>(some r4)) else none))
def zcn:List D->Option D:=c2 zc2
def sc_ring_of:FnScope ["names","musts","tied","row","ahead","ring"] ["names","musts"] (zab zdR):=fsc
def zhl (F:Fun K "ring_of" "ring_of" zdR f fd)(B:Blt mg)(C_tied_names:Cal P w K mg base 1 "tied_names" ["names","musts"] (spF K zbK)):FnOk P w K mg base CX0 (2+1) f fd ["names","musts"] (spF K zcn):=
 zbo F sc_ring_of zcX λcdv A outer s H E hr=>by
  have nd:=sc_ring_of.nd
  refine⟨_,(zac (vsS 2 nd (zar C_tied_names hr (zaa (vv 0) (zaa (vv 1) zae)))) (zac (za7 (zbb (zaY (vr 2))) (zam (zau (VN.ve (zaK zae)))) zaj) ziH)),zfR ?_⟩;intro p_names p_musts;unfold zc2;exact(zak (zaq rfl) λx1=>(zaZ (zas λ_ _ h=>h) (zbN (zeZ rfl))))
def zc3 (p_thing:D):Option D:=
 (Option.bind (Option.bind (Option.bind ((zaf 7) [p_thing,(.int 1)]) dTru) λk2=>some (!k2)) λk1=>if k1 then none else(Option.bind (zcA [p_thing]) λ(x3:D)=>(Option.bind (Option.bind (Option.bind (bLen [x3]) λv5=>(dGt v5 (.int 40))) dB) λk4=>if k4 then none else(Option.bind (za1 [x3]) λ(u6:D)=>(Option.bind (zbl [p_thing]) λ(u7:D)=>(Option.bind (Option.bind (aC (some x3) (aC (zcD [p_thing]) aN)) zcn) λ(x8:D)=>(Option.bind (dTru x8) λk9=>if k9 then none else(Option.bind (some p_thing) λ(r10:D)=>(some r10)))))))))
def zbV:List D->Option D:=c1 zc3
def sc_checked:FnScope ["thing","names","ring"] ["thing"] (zab zc0):=fsc
def zhm (F:Fun K "checked" "checked" zc0 f fd)(B:Blt mg){Pc:Hp->Prop}(pe:Pers Pc)(C_are_parts:Cal P w K mg base 49 "are_parts" ["thing","deep"] (pcS Pc (spF K (zaf 7))))(C_names_of:Cal P w K mg base 11 "names_of" ["sheet"] (spF K zcA))(C_refuse_twice:Cal P w K mg base 2 "refuse_twice" ["names"] (spF K za1))(C_refuse_heads:Cal P w K mg base 10 "refuse_heads" ["sheet"] (spF K zbl))(C_ring_of:Cal P w K mg base 3 "ring_of" ["names","musts"] (spF K zcn))(C_musts_of:Cal P w K mg base 11 "musts_of" ["sheet"] (spF K zcD))(G_MOST_PARTS:GlobD K mg "MOST_PARTS" (.int 40)):FnOk P w K mg base CX0 (49+1) f fd ["thing"] (pcS Pc (spF K zbV)):=
 zb1 pe F sc_checked c1_len λcdv A outer s H E hcv hr hPc hp=>by
  have nd:=sc_checked.nd
  refine⟨_,(zac (za7 (zbb (zaY (VE.w (zaQ C_are_parts hp hr (zaa (vv 0) (zaa zad zae)))))) (zam zcs) zaj) (zac (vsS 1 nd (zar C_names_of hr (zaa (vv 0) zae))) (zac (za7 (zaP zll zlQ (VE.w (ve_b zbg zcG B boot_len (zav (vr 1) zaO))) (VE.w (za4 G_MOST_PARTS)) (zaG _)) (zam zcs) zaj) (zac (zie (zar C_refuse_twice hr (zaa (vv 1) zae))) (zac (zie (zar C_refuse_heads hr (zaa (vv 0) zae))) (zac (vsS 2 nd (zar C_ring_of hr (zaa (vv 1) (zaa (zar C_musts_of hr (zaa (vv 0) zae)) zae)))) (zac (za7 (zaY (vr 2)) (zam zcs) zaj) (zam (zau (vv 0)))))))))),zcc ?_⟩;intro p_thing;unfold zc3;exact(zaZ (zeZ rfl) (zbN (zak (zaq rfl) λx3=>(zaZ (zeZ rfl) (zbN (zak znV λu6=>(zak znV λu7=>(zak (zaq rfl) λx8=>(zaZ (zeZ rfl) (zbN (zas λ_ _ h=>h)))))))))))
def zba (p_thing:D):Option D:=
 (Option.bind (Option.bind (Option.bind ((zaf 7) [p_thing,(.int 1)]) dTru) λk2=>some (!k2)) λk1=>if k1 then(Option.bind (some (D.exc "NoSheet" [] [])) λ(r:D)=>some r) else none)
def zco:List D->Option D:=VD.c1 zba
def zfn (F:Fun K "checked" "checked" zc0 f fd)(B:Blt mg){Pc:Hp->Prop}(pe:Pers Pc)(C_are_parts:Cal P w K mg base 49 "are_parts" ["thing","deep"] (pcS Pc (spF K (zaf 7))))(X_NoSheet:XCl0 K mg "NoSheet"):FnOk P w K mg base (CXE P w) (49+1) f fd ["thing"] (pcS Pc (spX K zco)):=
 (zmt pe F sc_checked VD.c1_len λcdv A outer s H E hr L hp=>by
  refine⟨_,(zoa (zpy (zbb (zaY (VE.w (zaQ C_are_parts hp hr (zaa (vv 0) (zaa zad zae)))))) (zmo (ziG (k:=48) X_NoSheet hr L zaA)) zmm)),zcc ?_⟩;intro p_thing;unfold zba;exact(zaZ (zas λ_ _ h=>h) (zbN (zeZ rfl))))
def zbL (pLnumber pLprime pLmany:D):Option D:=
 (Option.bind (Option.bind (Option.bind (Option.bind (Option.bind (Option.bind (dMod pLnumber (.int 1000003)) λv1=>(dMul v1 (.int 48271))) λv2=>(dMod v2 pLprime)) λv4=>(Option.bind (Option.bind (dMod pLnumber (.int 65521)) λv3=>(dAdd v3 (.int 3))) λv5=>(dMul v4 v5))) λv6=>(dMod v6 (.int 2147483629))) λv7=>(dMod v7 pLmany)) λ(r8:D)=>(some r8))
def zan:List D->Option D:=c3 zbL
def zeE:FnScope ["_law_number","_law_prime","_law_many"] ["_law_number","_law_prime","_law_many"] (zab zcm):=fsc
def zeF (F:Fun K "_law_mixed" "_law_mixed" zcm f fd)(B:Blt mg):FnOk P w K mg base CX0 (0+1) f fd ["_law_number","_law_prime","_law_many"] (spF K zan):=
 zbo F zeE zkV λcdv A outer s H E hr=>by
  refine⟨_,(zam (zau (zax zbw zby (VE.w (zax zbw zby (VE.w (zax zjK zgs (VE.w (zax zbw zby (VE.w (zax zjK zgs (VE.w (zax zbw zby (vr 0) (VE.w zad))) (VE.w zad))) (vr 1))) (VE.w (zax opAdd zbS (VE.w (zax zbw zby (vr 0) (VE.w zad))) (VE.w zad))))) (VE.w zad))) (vr 2)))),zn0 ?_⟩;intro pLnumber pLprime pLmany;unfold zbL;exact(zas λ_ _ h=>h)
def zb4 (S:Scr)(pLscript:D):Option D:=
 (Option.bind (some ([]:List D)) λ(x1:List D)=>(Option.bind (dSub (.int 0) (.int 1)) λ(x2:D)=>(Option.bind (Option.bind (Option.bind (aC (Option.bind (aC (some (.int 9)) (aC ((lenS S) pLscript) aN)) bMin) aN) rngA) (zaX (λ(s3:List D×D) (d4:D)=>(Option.bind (Option.bind (aC (ixS S pLscript d4) (aC (some (.int 999983)) (aC (Option.bind (aC (some (.int 5)) (aC (dAdd s3.2 (.int 2)) aN)) bMin) aN))) zan) λ(x5:D)=>(Option.bind (Option.bind (Option.bind (Option.bind (Option.bind (Option.bind (aC (ixS S pLscript (.int 0)) (aC (some (.int 131071)) (aC (some (.int 9)) aN))) zan) λv6=>(dAdd v6 d4)) λv7=>(dMod v7 (.int 9))) λv8=>(dIx (.str "abcdefghi") v8)) λv10=>(Option.bind (Option.bind (Option.bind (aC (ixS S pLscript (.int 0)) (aC (some (.int 524287)) (aC (some (.int 8)) aN))) zan) λv9=>(dAdd (.int 1) v9)) λv11=>(dMul v10 v11))) λ(x12:D)=>(Option.bind (Option.bind (aC (Option.bind (ixS S pLscript d4) λv13=>(Option.bind (dPow (.int 10) (.int 60)) λv14=>(dMod v13 v14))) (aC (Option.bind (Option.bind (ixS S pLscript d4) λv15=>(dMod v15 (.int 1009))) λv16=>(dSub (.int 0) v16)) (aC (Option.bind (Option.bind (ixS S pLscript d4) λv17=>(Option.bind (dPow (.int 10) (.int 59)) λv18=>(dMod v17 v18))) λv19=>(dAdd (.int 1) v19)) (aC (Option.bind (Option.bind (ixS S pLscript d4) λv20=>(dMod v20 (.int 7))) λv21=>(dAdd (.int 1) v21)) aN)))) mkT) λ(x22:D)=>(Option.bind (Option.bind (Option.bind (aC (ixS S pLscript d4) (aC (some (.int 8191)) (aC (some (.int 3)) aN))) zan) λv23=>(dIx (.lst [(.str "free"),(.str "shut"),(.str "hidden")]) v23)) λ(x24:D)=>(Option.bind (some D.non) λ(x25:D)=>(Option.bind (Option.bind (Option.bind (Option.bind ((dEqG false) x5 (.int 0)) dB) λk29=>if k29 then(Option.bind (Option.bind (dGt d4 (.int 0)) dB) λk28=>if k28 then(Option.bind (Option.bind (Option.bind (aC (ixS S pLscript d4) (aC (some (.int 65537)) (aC (some (.int 2)) aN))) zan) λv27=>((dEqG false) v27 (.int 0))) dB) else some false) else some false) λk26=>if k26 then(Option.bind (Option.bind (dIx (.lst s3.1) (.int 0)) λv30=>(dIx v30 (.int 1))) λ(x31:D)=>(some x31)) else(some x25)) λ(s32:D)=>(Option.bind (Option.bind (Option.bind (aC (some x5) (aC (some x12) (aC (some x22) (aC (some x24) (aC (Option.bind (ixS S pLscript d4) λv33=>(Option.bind (dPow (.int 10) (.int 60)) λv34=>(dMod v33 v34))) (aC (some s32) aN)))))) mkT) (appL s3.1)) λ(x35:List D)=>(some (x35,x5)))))))))) (x1,x2))) λ(s3:List D×D)=>(Option.bind (some (.lst s3.1)) λ(r36:D)=>(some r36)))))
def zb5 (S:Scr):List D->Option D:=c1 (zb4 S)
def scLrows:FnScope ["_law_script","_law_rows_here","_law_deep_here","_law_k","_law_name","_law_box","_law_word","_law_head"] ["_law_script"] (zab zcM):=fsc
def zfo (F:Fun K "_law_rows" "_law_rows" zcM f fd)(B:Blt mg){Pc:Hp->Prop}(pe:Pers Pc){S:Scr}(hSq:∀H,Pc H->SqF K S H)(CLmixed:Cal P w K mg base 1 "_law_mixed" ["_law_number","_law_prime","_law_many"] (spF K zan)):FnOk P w K mg base CX0 (2+1) f fd ["_law_script"] (pcS Pc (spF K (zb5 S))):=
 zb1 pe F scLrows c1_len λcdv A outer s H E hcv hr hPc hp=>by
  have nd:=scLrows.nd
  have hS:Prs _ (SqF K S):=λp Y H s I=>hSq _ (hp p Y H s I)
  refine⟨_,(zac (vsO 1 nd (zaK zae)) (zac (vsS 2 nd (zax zd6 zec (VE.w zad) (VE.w zad))) (zac (zcW (zdD B (zaa (ve_b (zdv rfl) zh9 B boot_min (zav (VE.w zad) (zav (VE.w (zmf hS B (vv 0))) zaO))) zae)) (vgN 3 nd) (zac (vsS 2 nd (zar CLmixed hr (zaa (zcI hS (vv 0) (vv 3)) (zaa zad (zaa (ve_b (zdv rfl) zh9 B boot_min (zav (VE.w zad) (zav (VE.w (zax opAdd zbS (vr 2) (VE.w zad))) zaO))) zae))))) (zac (vsS 4 nd (zax zjK zgs (VE.w (za6 (VE.w zaA) (VE.w (zax zbw zby (VE.w (zax opAdd zbS (VE.w (zar CLmixed hr (zaa (zcI hS (vv 0) zad) (zaa zad (zaa zad zae))))) (vr 3))) (VE.w zad))))) (VE.w (zax opAdd zbS (VE.w zad) (VE.w (zar CLmixed hr (zaa (zcI hS (vv 0) zad) (zaa zad (zaa zad zae))))))))) (zac (vsS 5 nd (zap (zaa (zax zbw zby (VE.w (zcI hS (vv 0) (vv 3))) (VE.w (zax zgg zgr (VE.w zad) (VE.w zad)))) (zaa (zax zd6 zec (VE.w zad) (VE.w (zax zbw zby (VE.w (zcI hS (vv 0) (vv 3))) (VE.w zad)))) (zaa (zax opAdd zbS (VE.w zad) (VE.w (zax zbw zby (VE.w (zcI hS (vv 0) (vv 3))) (VE.w (zax zgg zgr (VE.w zad) (VE.w zad)))))) (zaa (zax opAdd zbS (VE.w zad) (VE.w (zax zbw zby (VE.w (zcI hS (vv 0) (vv 3))) (VE.w zad)))) zae)))))) (zac (vsS 6 nd (za6 (VE.w (VN.ve (zaK (zaa zaA (zaa zaA (zaa zaA zae)))))) (VE.w (zar CLmixed hr (zaa (zcI hS (vv 0) (vv 3)) (zaa zad (zaa zad zae))))))) (zac (vsS 7 nd zbE) (zac (za7 (VP.t (zgq (zaP (zc7 hr) (zbs false) (vr 2) (VE.w zad) (zaG _)) (zgq (zaP zll zlQ (vr 3) (VE.w zad) (zaG _)) (zfK (zaP (zc7 hr) (zbs false) (VE.w (zar CLmixed hr (zaa (zcI hS (vv 0) (vv 3)) (zaa zad (zaa zad zae))))) (VE.w zad) (zaG _)))))) (zac (vsS 7 nd (za6 (VE.w (za6 (vr 1) (VE.w zad))) (VE.w zad))) zaj) zaj) (zac (zig 1 (zap (zaa (vv 2) (zaa (vv 4) (zaa (vv 5) (zaa (vv 6) (zaa (zax zbw zby (VE.w (zcI hS (vv 0) (vv 3))) (VE.w (zax zgg zgr (VE.w zad) (VE.w zad)))) (zaa (vv 7) zae)))))))) (za8 [3,4,5,6,7] zaj))))))))) (zfO 1 (zam (zau (vv 1))))))),zcc ?_⟩;intro pLscript;unfold zb4;exact(zak (zij rfl) λx1=>(zak (zaq rfl) λx2=>(zak (zew (emb:=(λ(s3:List D×D)=>[.val pLscript,.own 1 (.lst s3.1),.val s3.2,.un,.un,.un,.un,.un])) rfl (λ_=>rfl) λs3 d4=>(zak (zaq rfl) λx5=>(zak (zaq rfl) λx12=>(zak (zaq rfl) λx22=>(zak (zaq rfl) λx24=>(zak (zaq rfl) λx25=>(zak (zd2 (emb:=(λ(s32:D)=>[.val pLscript,.own 1 (.lst s3.1),.val x5,.val d4,.val x12,.val x22,.val x24,.val s32])) (zak (zaq rfl) λx31=>(zaw λ_ h=>h)) (zaw λ_ h=>h)) λs32=>(zak (zik rfl) λx35=>(zbz [3,4,5,6,7] (zaw λ_ h=>h)))))))))) λs3=>(zii 1 (zas λ_ _ h=>h)))))
def zb6 (pLrows_here pLat pLthing:D):Option D:=
 (Option.bind (some ()) λ(u1:Unit)=>(Option.bind (Option.bind (Option.bind (aC (bLen [pLrows_here]) aN) znZ) (zaX (λ(s2:List D) (d3:D)=>(Option.bind (Option.bind (dIx pLrows_here d3) λv4=>(dIx v4 (.int 0))) λ(x5:D)=>(Option.bind (Option.bind (Option.bind (dIx pLrows_here d3) λv6=>(dSl v6 (some 1) none)) λv9=>(Option.bind (Option.bind (aC (Option.bind (aC (Option.bind (Option.bind (Option.bind (zb2 x5 (.int 1)) λv7=>(ix2C s2 v7)) λv8=>(Option.bind (dLst v8) λds=>some ds.reverse)) λds=>some (.lst ds)) aN) bTuple) aN) mkT) λv10=>(zb2 v9 v10))) λ(x11:D)=>(Option.bind (Option.bind (zb2 x5 (.int 1)) λv12=>(zj7 s2 [] v12)) λ(x13:List D)=>(Option.bind (Option.bind (Option.bind (Option.bind ((dEqG false) d3 pLat) dB) λk16=>if k16 then(Option.bind (Option.bind (dIx pLthing (.int 0)) λv15=>(dLt v15 (.int 6))) dB) else some false) λk14=>if k14 then(Option.bind (Option.bind (Option.bind (Option.bind (Option.bind (dIx pLthing (.int 0)) λd=>Option.bind (dInt d) λi=>some (some i)) λv17=>(dSl x11 none v17)) λv18=>(Option.bind (Option.bind (aC (dIx pLthing (.int 1)) aN) mkT) λv19=>(zb2 v18 v19))) λv22=>(Option.bind (Option.bind (Option.bind (Option.bind (dIx pLthing (.int 0)) λv20=>(zb2 v20 (.int 1))) λd=>Option.bind (dInt d) λi=>some (some i)) λv21=>(dSl x11 v21 none)) λv23=>(zb2 v22 v23))) λ(x24:D)=>(some x24)) else(Option.bind (Option.bind (Option.bind ((dEqG false) d3 pLat) dB) λk25=>if k25 then(Option.bind (Option.bind (Option.bind (Option.bind (aC (bList [x11]) (aC (dSl x11 none (some 5)) (aC (Option.bind (Option.bind (aC (dIx x11 (.int 5)) aN) mkT) λv26=>(zb2 x11 v26)) (aC (dIx x11 (.int 0)) (aC (some D.non) (aC (Option.bind (dSl x11 none (some 5)) λv27=>(Option.bind (Option.bind (aC (Option.bind (aC (dIx x11 (.int 5)) aN) bList) aN) mkT) λv28=>(zb2 v27 v28))) aN)))))) mkLs) λds=>some (.lst ds)) λv30=>(Option.bind (Option.bind (dIx pLthing (.int 1)) λv29=>(dMod v29 (.int 6))) λv31=>(dIx v30 v31))) λ(x32:D)=>(some x32)) else(some x11)) λ(s33:D)=>(some s33))) λ(s34:D)=>(Option.bind (zmg x13 x5 s34) λ(x35:List D)=>(some x35))))))) [D.lst [],D.lst [],D.lst [],D.lst [],D.lst [],D.lst [],D.lst []])) λ(s2:List D)=>(Option.bind (Option.bind (aC (Option.bind (Option.bind (ix2C s2 (.int 0)) λv36=>(Option.bind (dLst v36) λds=>some ds.reverse)) λds=>some (.lst ds)) aN) bTuple) λ(r37:D)=>(some r37))))
def za5:List D->Option D:=c3 zb6
def scLhung:FnScope ["_law_rows_here","_law_at","_law_thing","_law_waiting","_law_k","_law_deep_here","_law_part"] ["_law_rows_here","_law_at","_law_thing"] (zab zb3):=fsc
def zfp (F:Fun K "_law_hung" "_law_hung" zb3 f fd)(B:Blt mg):FnOk P w K mg base CX0 (1+1) f fd ["_law_rows_here","_law_at","_law_thing"] (spF K za5):=
 zbo F scLhung zkV λcdv A outer s H E hr=>by
  have nd:=scLhung.nd
  refine⟨_,(zac (zjW ["_law_rows_here","_law_at","_law_thing","_law_waiting","_law_k","_law_deep_here","_law_part"] zb3 (i:=3) (NC:=["_law_deep_here"]) [none] nd rfl (Or.inl rfl) rfl (zdD B (zaa zad zae)) (λx h=>zbC h) rfl rfl rfl (by decide +kernel) (by decide +kernel) rfl (by decide +kernel) (by decide +kernel) rfl (by decide) (λcl C s0 H0 ex pn=>(vgc 0)) (λcl C s0 H0 ex pn=>(zaK zae))) (zac (zcW (zl5 B (zaa (ve_b zbg zcG B boot_len (zav (vr 0) zaO)) zae)) (vgN 4 nd) (zac (vsS 5 nd (za6 (VE.w (za6 (vr 0) (vr 4))) (VE.w zad))) (zac (vsS 6 nd (zax zdk zck (VE.w (zcr (VE.w (za6 (vr 0) (vr 4))) (zbY zad) zbX)) (VE.w (zap (zaa (zh6 zcT zgu B boot_tuple (zav (VE.w (VN.ve (zkM (zkR 3 (zax zdk zck (vr 5) (VE.w zad)))))) zaO)) zae))))) (zac (zl3 3 (zaK zae) (zax zdk zck (vr 5) (VE.w zad))) (zac (za7 (VP.t (zgq (zaP (zc7 hr) (zbs false) (vr 4) (vr 1) (zaG _)) (zfK (zaP zpg zpp (VE.w (za6 (vr 2) (VE.w zad))) (VE.w zad) (zaG _))))) (zac (vsS 6 nd (zax zdk zck (VE.w (zax zdk zck (VE.w (zcr (vr 6) zbX (zbY (za6 (vr 2) (VE.w zad))))) (VE.w (zap (zaa (za6 (vr 2) (VE.w zad)) zae))))) (VE.w (zcr (vr 6) (zbY (zax zdk zck (VE.w (za6 (vr 2) (VE.w zad))) (VE.w zad))) zbX)))) zaj) (zac (za7 (zaP (zc7 hr) (zbs false) (vr 4) (vr 1) (zaG _)) (zac (vsS 6 nd (za6 (VE.w (VN.ve (zaK (zaa (zh6 zcd zfL B boot_list (zav (vr 6) zaO)) (zaa (zcr (vr 6) zbX (zbY zad)) (zaa (zax zdk zck (vr 6) (VE.w (zap (zaa (za6 (vr 6) (VE.w zad)) zae)))) (zaa (za6 (vr 6) (VE.w zad)) (zaa zbE (zaa (zax zdk zck (VE.w (zcr (vr 6) zbX (zbY zad))) (VE.w (zap (zaa (zh6 zcd zfL B boot_list (zav (VE.w (za6 (vr 6) (VE.w zad))) zaO)) zae)))) zae))))))))) (VE.w (zax zbw zby (VE.w (za6 (vr 2) (VE.w zad))) (VE.w zad))))) zaj) zaj) zaj)) (zac (zl1 3 (vv 5) (vv 6)) (za8 [4,5,6] zaj))))))) (zam (zau (zh6 zcT zgu B boot_tuple (zav (VE.w (VN.ve (zkM (zkR 3 zad)))) zaO)))))),zn0 ?_⟩;intro pLrows_here pLat pLthing;unfold zb6;exact(zak (zl8 (n:=2) (x:=.lst [D.lst [],D.lst [],D.lst [],D.lst [],D.lst [],D.lst [],D.lst []]) rfl rfl) λu1=>(zak (zew (emb:=(λ(s2:List D)=>[.val pLrows_here,.val pLat,.val pLthing,.own 2 (.lst s2),.un,.un,.un])) rfl (λ_=>rfl) λs2 d3=>(zak (zaq rfl) λx5=>(zak (zaq rfl) λx11=>(zak (zmh rfl) λx13=>(zak (zd2 (emb:=(λ(s34:D)=>[.val pLrows_here,.val pLat,.val pLthing,.own 2 (.lst x13),.val d3,.val x5,.val s34])) (zak (zaq rfl) λx24=>(zaw λ_ h=>h)) (zak (zd2 (emb:=(λ(s33:D)=>[.val pLrows_here,.val pLat,.val pLthing,.own 2 (.lst x13),.val d3,.val x5,.val s33])) (zak (zaq rfl) λx32=>(zaw λ_ h=>h)) (zaw λ_ h=>h)) λs33=>(zaw λ_ h=>h))) λs34=>(zak (zmi rfl) λx35=>(zbz [4,5,6] (zaw λ_ h=>h)))))))) λs2=>(zas λ_ _ h=>h)))
def zao (pLcell:D):Option D:=
 (Option.bind (zan [pLcell,(.int 1000033),(.int 7)]) λ(x1:D)=>(Option.bind (Option.bind (dSub (.int 0) (.int 1)) λv3=>(Option.bind (Option.bind (dPow (.int 10) (.int 9)) λv2=>(dMod pLcell v2)) λv4=>(dSub v3 v4))) λ(x5:D)=>(Option.bind (some (.lst [(.int 0),(.int 1),(.int 2),(.int 3),(.int 4),(.int 5),(.int 0),(.int 1)])) λ(x6:D)=>(Option.bind (Option.bind (Option.bind ((dEqG false) x1 (.int 0)) dB) λk7=>if k7 then(Option.bind (some (.lst [(.str ""),(.str "abcdefghi"),(.str "A"),(.str "a b"),(.int 5),D.non,(.tup [(.str "a")]),(.bl true)])) λ(x8:D)=>(some x8)) else(some x6)) λ(s9:D)=>(Option.bind (Option.bind (Option.bind ((dEqG false) x1 (.int 1)) dB) λk10=>if k10 then(Option.bind (some (.lst [(.tup [(.int 1),(.int 2),(.int 3)]),(.tup [(.int 1),(.int 2),(.int 3),(.int 4),(.int 5)]),(.lst [(.int 1),(.int 2),(.int 3),(.int 4)]),(.tup [(.int 1),(.int 2),(.int 0),(.int 4)]),(.tup [(.int 1),(.int 2),(.int 3),x5])])) λ(x11:D)=>(Option.bind (dAdd x11 (.lst [(.tup [(.bl true),(.int 2),(.int 3),(.int 4)]),(.tup [(.int 1),(.str "2"),(.int 3),(.int 4)]),D.non])) λ(x12:D)=>(some x12))) else(some s9)) λ(s13:D)=>(Option.bind (Option.bind (Option.bind ((dEqG false) x1 (.int 2)) dB) λk14=>if k14 then(Option.bind (some (.lst [(.str "Free"),(.str ""),(.str "open"),D.non,(.int 1),(.bl true),(.lst [(.str "free")]),(.str "free ")])) λ(x15:D)=>(some x15)) else(some s13)) λ(s16:D)=>(Option.bind (Option.bind (Option.bind ((dEqG false) x1 (.int 3)) dB) λk17=>if k17 then(Option.bind (Option.bind (Option.bind (aC (some x5) (aC (some (.bl true)) (aC (some (.str "1")) (aC (some D.non) (aC (some (.tup [(.int 1)])) (aC (some (.lst [])) (aC (dSub (.int 0) (.int 1)) (aC (some (.bl false)) aN)))))))) mkLs) λds=>some (.lst ds)) λ(x18:D)=>(some x18)) else(some s16)) λ(s19:D)=>(Option.bind (Option.bind (Option.bind ((dEqG false) x1 (.int 4)) dB) λk20=>if k20 then(Option.bind (some (.lst [(.str ""),(.str "abcdefghi"),(.str "B"),(.int 7),(.bl true),(.tup []),(.lst [(.str "a")]),(.str "-")])) λ(x21:D)=>(some x21)) else(some s19)) λ(s22:D)=>(Option.bind (Option.bind (Option.bind ((dEqG false) x1 (.int 5)) dB) λk23=>if k23 then(Option.bind (some (.lst [(.lst []),D.non,(.str ""),(.int 0),(.tup [(.str "a")]),(.tup [(.int 5)]),(.tup [(.tup [])]),(.lst [(.tup [])])])) λ(x24:D)=>(some x24)) else(some s22)) λ(s25:D)=>(Option.bind (Option.bind (aC (some x1) (aC (Option.bind (zan [pLcell,(.int 999979),(.int 8)]) λv26=>(dIx s25 v26)) aN)) mkT) λ(r27:D)=>(some r27)))))))))))
def zbf:List D->Option D:=c1 zao
def scLbent:FnScope ["_law_cell","_law_place","_law_near","_law_menu"] ["_law_cell"] (zab zcN):=fsc
def zfq (F:Fun K "_law_bent" "_law_bent" zcN f fd)(B:Blt mg)(CLmixed:Cal P w K mg base 1 "_law_mixed" ["_law_number","_law_prime","_law_many"] (spF K zan)):FnOk P w K mg base CX0 (2+1) f fd ["_law_cell"] (spF K zbf):=
 zbo F scLbent c1_len λcdv A outer s H E hr=>by
  have nd:=scLbent.nd
  refine⟨_,(zac (vsS 1 nd (zar CLmixed hr (zaa (vv 0) (zaa zad (zaa zad zae))))) (zac (vsS 2 nd (zax zd6 zec (VE.w (zax zd6 zec (VE.w zad) (VE.w zad))) (VE.w (zax zbw zby (vr 0) (VE.w (zax zgg zgr (VE.w zad) (VE.w zad))))))) (zac (vsS 3 nd (VN.ve (zaK (zaa zad (zaa zad (zaa zad (zaa zad (zaa zad (zaa zad (zaa zad (zaa zad zae))))))))))) (zac (za7 (zaP (zc7 hr) (zbs false) (vr 1) (VE.w zad) (zaG _)) (zac (vsS 3 nd (VN.ve (zaK (zaa zaA (zaa zaA (zaa zaA (zaa zaA (zaa zad (zaa zbE (zaa (zap (zaa zaA zae)) (zaa zbR zae))))))))))) zaj) zaj) (zac (za7 (zaP (zc7 hr) (zbs false) (vr 1) (VE.w zad) (zaG _)) (zac (vsS 3 nd (VN.ve (zaK (zaa (zap (zaa zad (zaa zad (zaa zad zae)))) (zaa (zap (zaa zad (zaa zad (zaa zad (zaa zad (zaa zad zae)))))) (zaa (VN.ve (zaK (zaa zad (zaa zad (zaa zad (zaa zad zae)))))) (zaa (zap (zaa zad (zaa zad (zaa zad (zaa zad zae))))) (zaa (zap (zaa zad (zaa zad (zaa zad (zaa (vv 2) zae))))) zae)))))))) (zac (vsS 3 nd (zax opAdd zbS (vr 3) (VE.w (VN.ve (zaK (zaa (zap (zaa zbR (zaa zad (zaa zad (zaa zad zae))))) (zaa (zap (zaa zad (zaa zaA (zaa zad (zaa zad zae))))) (zaa zbE zae)))))))) zaj)) zaj) (zac (za7 (zaP (zc7 hr) (zbs false) (vr 1) (VE.w zad) (zaG _)) (zac (vsS 3 nd (VN.ve (zaK (zaa zaA (zaa zaA (zaa zaA (zaa zbE (zaa zad (zaa zbR (zaa (VN.ve (zaK (zaa zaA zae))) (zaa zaA zae))))))))))) zaj) zaj) (zac (za7 (zaP (zc7 hr) (zbs false) (vr 1) (VE.w zad) (zaG _)) (zac (vsS 3 nd (VN.ve (zaK (zaa (vv 2) (zaa zbR (zaa zaA (zaa zbE (zaa (zap (zaa zad zae)) (zaa (VN.ve (zaK zae)) (zaa (zax zd6 zec (VE.w zad) (VE.w zad)) (zaa zbR zae))))))))))) zaj) zaj) (zac (za7 (zaP (zc7 hr) (zbs false) (vr 1) (VE.w zad) (zaG _)) (zac (vsS 3 nd (VN.ve (zaK (zaa zaA (zaa zaA (zaa zaA (zaa zad (zaa zbR (zaa (zap zae) (zaa (VN.ve (zaK (zaa zaA zae))) (zaa zaA zae))))))))))) zaj) zaj) (zac (za7 (zaP (zc7 hr) (zbs false) (vr 1) (VE.w zad) (zaG _)) (zac (vsS 3 nd (VN.ve (zaK (zaa (VN.ve (zaK zae)) (zaa zbE (zaa zaA (zaa zad (zaa (zap (zaa zaA zae)) (zaa (zap (zaa zad zae)) (zaa (zap (zaa (zap zae) zae)) (zaa (VN.ve (zaK (zaa (zap zae) zae))) zae))))))))))) zaj) zaj) (zam (zau (zap (zaa (vv 1) (zaa (za6 (vr 3) (VE.w (zar CLmixed hr (zaa (vv 0) (zaa zad (zaa zad zae)))))) zae)))))))))))))),zcc ?_⟩;intro pLcell;unfold zao;exact(zak (zaq rfl) λx1=>(zak (zaq rfl) λx5=>(zak (zaq rfl) λx6=>(zak (zd2 (emb:=(λ(s9:D)=>[.val pLcell,.val x1,.val x5,.val s9])) (zak (zaq rfl) λx8=>(zaw λ_ h=>h)) (zaw λ_ h=>h)) λs9=>(zak (zd2 (emb:=(λ(s13:D)=>[.val pLcell,.val x1,.val x5,.val s13])) (zak (zaq rfl) λx11=>(zak (zaq rfl) λx12=>(zaw λ_ h=>h))) (zaw λ_ h=>h)) λs13=>(zak (zd2 (emb:=(λ(s16:D)=>[.val pLcell,.val x1,.val x5,.val s16])) (zak (zaq rfl) λx15=>(zaw λ_ h=>h)) (zaw λ_ h=>h)) λs16=>(zak (zd2 (emb:=(λ(s19:D)=>[.val pLcell,.val x1,.val x5,.val s19])) (zak (zaq rfl) λx18=>(zaw λ_ h=>h)) (zaw λ_ h=>h)) λs19=>(zak (zd2 (emb:=(λ(s22:D)=>[.val pLcell,.val x1,.val x5,.val s22])) (zak (zaq rfl) λx21=>(zaw λ_ h=>h)) (zaw λ_ h=>h)) λs22=>(zak (zd2 (emb:=(λ(s25:D)=>[.val pLcell,.val x1,.val x5,.val s25])) (zak (zaq rfl) λx24=>(zaw λ_ h=>h)) (zaw λ_ h=>h)) λs25=>(zas λ_ _ h=>h))))))))))
def scLrefused:FnScope ["_law_thing","_law_got","e"] ["_law_thing"] (zab zbQ):=fsc
def zmB (x:D):Option D:=
 (Option.bind (Option.bind (Option.bind (Option.bind (isX [("NoSheet",true)] x) dTru) λk2=>some (!k2)) λk3=>if k3 then some true else(Option.bind (Option.bind (isX [("NoSheet",true)] x) dTru) λk5=>some (!k5))) λk4=>if k4 then(Option.bind (some (.bl false)) λ(r5:D)=>(some r5)) else(Option.bind (Option.bind (Option.bind (isX [("NoSheet",false)] x) dB) λk6=>some (.bl (!k6))) λ(r8:D)=>(some r8)))
def zbm (p_thing:D):Option D:=
 (Option.bind (some D.non) λ(x1:D)=>(Option.bind (match (Option.bind (aC (some p_thing) aN) zco) with|some x=>if zda ["NoSheet"] x then(Option.bind (some x) λ(x9:D)=>some x9) else none|none=>none) λ(x10:D)=>zmB x10))
def zaN:List D->Option D:=VD.c1 zbm
def zdW {c0:Addr}{cs:List Addr}(F:Fun K "_law_refused" "_law_refused" zbQ f fd)(B:Blt mg){Pc:Hp->Prop}(pe:Pers Pc)(X_checked:CalX P w K mg base 50 "checked" ["thing"] (pcS Pc (spX K zco)))(TY:XTy K mg "FocusError" ["NoSheet"])
 (m0:mg "NoSheet"=some (.ref c0)) (mv:mg "ValueError"=none) (i0:XInst K (.ref c0) [("NoSheet",true)]) {c1 c2 c3 c4 c5 c6 c7 c8 c9 c10 c11 c12:Addr}
 (m1:mg "MustRing"=some (.ref c1)) (m2:mg "NoDeed"=some (.ref c2)) (m3:mg "NoHead"=some (.ref c3)) (m4:mg "NoKey"=some (.ref c4)) (m5:mg "NoLine"=some (.ref c5)) (m6:mg "NoPart"=some (.ref c6)) (m7:mg "NoPlace"=some (.ref c7)) (m8:mg "NoText"=some (.ref c8)) (m9:mg "NotOpen"=some (.ref c9)) (m10:mg "NoWay"=some (.ref c10)) (m11:mg "TooMany"=some (.ref c11)) (m12:mg "Twice"=some (.ref c12))
 (iT:XInstT K [c1,c2,c3,c4,c5,c6,c7,c8,c9,c10,c11,c12] [("NoSheet",false)]) (iv:XInst K (.type "ValueError") [("NoSheet",true)]):FnOk P w K mg base CX0 (50+1) f fd ["_law_thing"] (pcS Pc (spF K zaN)):=
 zb1 pe F scLrefused VD.c1_len λcdv A outer s H E hcv hr hPc hp=>by
  have nd:=scLrefused.nd
  refine⟨_,(zac (vsS 1 nd zbE) (zac (zoc 2 TY nd (zkc (zke X_checked hp hr (zaa (vv 0) zae))) (zam zcs) (λev=>zam (vsS 1 nd (vv 2)))) (zac (za7 (VP.t (zeY (zbb (zaY (VE.w (zoe i0 m0 B (vv 1))))) (zdC (zbb (zaY (VE.w (zof iv mv zdK B (vv 1)))))))) (zam (zau zbR)) zaj) (zam (zau (zkK (zmr iT B (vv 1) (za2 m1 (za2 m2 (za2 m3 (za2 m4 (za2 m5 (za2 m6 (za2 m7 (za2 m8 (za2 m9 (za2 m10 (za2 m11 (za2 m12 zmq))))))))))))))))))),zcc ?_⟩;intro p_thing;unfold zbm;exact(zak (zaq rfl) λx1=>(zak (zod (emb:=λx10=>[.val p_thing,.val x10,.un]) rfl (λx=>(znT (zaq rfl) λ_ _ h=>h)) (λ_=>zeZ rfl)) λx10=>(by unfold zmB;exact(zaZ (zas λ_ _ h=>h) (zbN (zas λ_ _ h=>h))))))
def zb7 (pLsheet pLcell:D):Option D:=
 (Option.bind (some (.tup [(.str "z"),(.tup [(.int 0),(.int 0),(.int 1),(.int 1)]),(.str "free"),(.int 0),D.non,(.tup [])])) λ(x1:D)=>(Option.bind (Option.bind (rngA [(.int 5)]) (zaX (λ(s2:D) (d3:D)=>(Option.bind (Option.bind (aC (Option.bind (Option.bind (dMod d3 (.int 2)) λv4=>(dAdd (.int 1) v4)) λv5=>(dMul (.str "z") v5)) (aC (some (.tup [(.int 0),(.int 0),(.int 1),(.int 1)])) (aC (some (.str "free")) (aC (some (.int 0)) (aC (some (.str "nobody")) (aC (some (.tup [s2])) aN)))))) mkT) λ(x6:D)=>(some x6))) x1)) λ(s2:D)=>(Option.bind (Option.bind (Option.bind (Option.bind (aC (dAdd pLsheet (.tup [s2])) (aC (dAdd (.tup [s2]) pLsheet) aN)) mkLs) λds=>some (.lst ds)) λv7=>(Option.bind (dMod pLcell (.int 2)) λv8=>(dIx v7 v8))) λ(r9:D)=>(some r9))))
def zb8:List D->Option D:=c2 zb7
def scLdeep:FnScope ["_law_sheet","_law_cell","_law_part","_law_k"] ["_law_sheet","_law_cell"] (zab zcO):=fsc
def zfr (F:Fun K "_law_deep" "_law_deep" zcO f fd)(B:Blt mg):FnOk P w K mg base CX0 (1+1) f fd ["_law_sheet","_law_cell"] (spF K zb8):=
 zbo F scLdeep zcX λcdv A outer s H E hr=>by
  have nd:=scLdeep.nd
  refine⟨_,(zac (vsS 2 nd (zap (zaa zaA (zaa (zap (zaa zad (zaa zad (zaa zad (zaa zad zae))))) (zaa zaA (zaa zad (zaa zbE (zaa (zap zae) zae)))))))) (zac (zcW (zdD B (zaa zad zae)) (vgN 3 nd) (zac (vsS 2 nd (zap (zaa (zax zjK zgs (VE.w zaA) (VE.w (zax opAdd zbS (VE.w zad) (VE.w (zax zbw zby (vr 3) (VE.w zad)))))) (zaa (zap (zaa zad (zaa zad (zaa zad (zaa zad zae))))) (zaa zaA (zaa zad (zaa zaA (zaa (zap (zaa (vv 2) zae)) zae)))))))) (za8 [3] zaj))) (zam (zau (za6 (VE.w (VN.ve (zaK (zaa (zax opAdd zbS (vr 0) (VE.w (zap (zaa (vv 2) zae)))) (zaa (zax opAdd zbS (VE.w (zap (zaa (vv 2) zae))) (vr 0)) zae))))) (VE.w (zax zbw zby (vr 1) (VE.w zad)))))))),zfR ?_⟩;intro pLsheet pLcell;unfold zb7;exact(zak (zaq rfl) λx1=>(zak (zew (emb:=(λ(s2:D)=>[.val pLsheet,.val pLcell,.val s2,.un])) rfl (λ_=>rfl) λs2 d3=>(zak (zaq rfl) λx6=>(zbz [3] (zaw λ_ h=>h)))) λs2=>(zas λ_ _ h=>h)))
def zko (S:Scr)(pLscript:D):Option D:=
 (Option.bind ((zb5 S) [pLscript]) λ(x1:D)=>(Option.bind (Option.bind (aC (some x1) (aC (dSub (.int 0) (.int 1)) (aC (some D.non) aN))) za5) λ(x2:D)=>(Option.bind (Option.bind (Option.bind (Option.bind (aC (some D.non) (aC (some (.int 5)) (aC (some (.bl true)) (aC (some (.str "a")) (aC (some (.lst [])) (aC (bList [x2]) (aC (some (.tup [(.tup [])])) (aC (some (.tup [x2])) (aC (some (.tup [(.str "a")])) (aC (some (.tup [(.int 0)])) aN)))))))))) mkLs) λds=>some (.lst ds)) dSeq) λds24=>Option.bind ((ze1 (λ(s3:Unit) (d4:D)=>(Option.bind (Option.bind (Option.bind (zaN [d4]) dTru) λk6=>some (!k6)) λk5=>if k5 then(Option.bind (some (.bl false)) λ(r7:D)=>(some (Fl.ret r7:Fl (Unit) (D)))) else(some (Fl.nx ():Fl (Unit) (D))))) ()) ds24) (flK λ(s3:Unit)=>(Option.bind (Option.bind (slS S pLscript none (some 24)) dSeq) λds23=>Option.bind ((ze1 (λ(s8:Unit) (d9:D)=>(Option.bind (Option.bind (Option.bind (Option.bind (aC (Option.bind (aC (some x1) (aC (Option.bind (aC (some d9) (aC (some (.int 262147)) (aC (bLen [x1]) aN))) zan) (aC (zbf [d9]) aN))) za5) aN) zaN) dTru) λk11=>some (!k11)) λk10=>if k10 then(Option.bind (some (.bl false)) λ(r12:D)=>(some (Fl.ret r12:Fl (Unit) (D)))) else(Option.bind (Option.bind (Option.bind (Option.bind (aC (zb8 [x2,d9]) aN) zaN) dTru) λk14=>some (!k14)) λk13=>if k13 then(Option.bind (some (.bl false)) λ(r15:D)=>(some (Fl.ret r15:Fl (Unit) (D)))) else(Option.bind (zbV [x2]) λ(x16:D)=>(Option.bind (Option.bind (Option.bind (Option.bind ((isD "tuple") x16) dTru) λk19=>some (!k19)) λk18=>if k18 then some true else(Option.bind ((dEqG true) x16 x2) dB)) λk17=>if k17 then(Option.bind (some (.bl false)) λ(r20:D)=>(some (Fl.ret r20:Fl (Unit) (D)))) else(some (Fl.nx ():Fl (Unit) (D)))))))) ()) ds23) (flK λ(s8:Unit)=>(Option.bind (Option.bind (zbV [(.tup [])]) λv21=>((dEqG false) v21 (.tup []))) λ(r22:D)=>(some r22))))))))
def zmC (S:Scr):List D->Option D:=c1 (zko S)
def sc_law:FnScope ["_law_script","_law_rows_here","_law_sheet","_law_thing","_law_cell","_law_found"] ["_law_script"] (zab zeB):=fsc
def zos (F:Fun K "law" "law" zeB f fd)(B:Blt mg){Pc:Hp->Prop}(pe:Pers Pc){S:Scr}(hSq:∀H,Pc H->SqF K S H)(CLrows:Cal P w K mg base 3 "_law_rows" ["_law_script"] (pcS Pc (spF K (zb5 S))))(CLhung:Cal P w K mg base 2 "_law_hung" ["_law_rows_here","_law_at","_law_thing"] (spF K za5))(CLrefused:Cal P w K mg base 51 "_law_refused" ["_law_thing"] (pcS Pc (spF K zaN)))(CLbent:Cal P w K mg base 3 "_law_bent" ["_law_cell"] (spF K zbf))(CLmixed:Cal P w K mg base 1 "_law_mixed" ["_law_number","_law_prime","_law_many"] (spF K zan))(CLdeep:Cal P w K mg base 2 "_law_deep" ["_law_sheet","_law_cell"] (spF K zb8))(C_checked:Cal P w K mg base 50 "checked" ["thing"] (pcS Pc (spF K zbV)))(K_tuple:Kit K "tuple"):FnOk P w K mg base CX0 (52+1) f fd ["_law_script"] (pcS Pc (spF K (zmC S))):=
 zb1 pe F sc_law c1_len λcdv A outer s H E hcv hr hPc hp=>by
  have nd:=sc_law.nd
  have hS:Prs _ (SqF K S):=λp Y H s I=>hSq _ (hp p Y H s I)
  refine⟨_,(zac (vsS 1 nd (zaQ CLrows hp hr (zaa (vv 0) zae))) (zac (vsS 2 nd (zar CLhung hr (zaa (vv 1) (zaa (zax zd6 zec (VE.w zad) (VE.w zad)) (zaa zbE zae))))) (zac (zcW (zcb (VN.ve (zaK (zaa zbE (zaa zad (zaa zbR (zaa zaA (zaa (VN.ve (zaK zae)) (zaa (zh6 zcd zfL B boot_list (zav (vr 2) zaO)) (zaa (zap (zaa (zap zae) zae)) (zaa (zap (zaa (vv 2) zae)) (zaa (zap (zaa zaA zae)) (zaa (zap (zaa zad zae)) zae))))))))))))) (vgN 3 nd) (zac (za7 (zbb (zaY (VE.w (zaQ CLrefused hp hr (zaa (vv 3) zae))))) (zam (zau zbR)) zaj) (za8 [3] zaj))) (zac (zcW (zcb (zor hS (vv 0) zbX (zbY zad))) (vgN 4 nd) (zac (za7 (zbb (zaY (VE.w (zaQ CLrefused hp hr (zaa (zar CLhung hr (zaa (vv 1) (zaa (zar CLmixed hr (zaa (vv 4) (zaa zad (zaa (ve_b zbg zcG B boot_len (zav (vr 1) zaO)) zae)))) (zaa (zar CLbent hr (zaa (vv 4) zae)) zae)))) zae))))) (zam (zau zbR)) zaj) (zac (za7 (zbb (zaY (VE.w (zaQ CLrefused hp hr (zaa (zar CLdeep hr (zaa (vv 2) (zaa (vv 4) zae))) zae))))) (zam (zau zbR)) zaj) (zac (vsS 5 nd (zaQ C_checked hp hr (zaa (vv 2) zae))) (zac (za7 (VP.t (zeY (zbb (zaY (VE.w (zcg K_tuple B boot_tuple (vr 5))))) (zdC (zaP (zl9 hr) (zbs true) (vr 5) (vr 2) (zaG _))))) (zam (zau zbR)) zaj) (za8 [4,5] zaj)))))) (zam (zau (zdi (zc7 hr) (zbs false) (VE.w (zaQ C_checked hp hr (zaa (zap zae) zae))) (VE.w (zap zae)) (zaG _)))))))),zcc ?_⟩;intro pLscript;unfold zko;exact(zak (zaq rfl) λx1=>(zak (zaq rfl) λx2=>(zil (emb:=(λ(s3:Unit)=>[.val pLscript,.val x1,.val x2,.un,.un,.un])) rfl (λ_=>rfl) (λs3 d4=>(zaZ (zas λ_ _ h=>h) (zbN (zbz [3] (zaw λ_ h=>h))))) λs3=>(zil (emb:=(λ(s8:Unit)=>[.val pLscript,.val x1,.val x2,.un,.un,.un])) rfl (λ_=>rfl) (λs8 d9=>(zaZ (zas λ_ _ h=>h) (zbN (zaZ (zas λ_ _ h=>h) (zbN (zak (zaq rfl) λx16=>(zaZ (zas λ_ _ h=>h) (zbN (zbz [4,5] (zaw λ_ h=>h)))))))))) λs8=>(zas λ_ _ h=>h)))))
end
end Pg
namespace Pg
open PySem PyProof PyProof.Rows L2 VD GM GB
def zdc (x:Itm)(dp:Nat)(inn:List D):dIx (part x dp inn) (.int 0)=some (.str x.nm)/\dIx (part x dp inn) (.int 2)=some (.str x.wd)/\dIx (part x dp inn) (.int 3)=some (.int x.rk)/\dIx (part x dp inn) (.int 5)=some (.tup inn):=
 ⟨zaR (j:=0) rfl,zaR (j:=2) rfl,zaR (j:=3) rfl,zaR (j:=5) rfl⟩
def ziR (x:Itm)(dp:Nat)(inn:List D):dIx (part x dp inn) (.int 4)=some (hdO x.hd):=zaR (j:=4) rfl
theorem zk4 {fr:Str->Bool}:∀{n:Nat}{ds:List D},Ok n ds->∀d∈ot fr (n+1) ds,∃x dp inn,d=part x dp inn
|0,ds,o,d,h=>by rw[show ds = [] from o] at h;cases h
|n+1,ds,o,d,h=>by
   obtain⟨y,hy,hd⟩:=List.mem_flatMap.mp (show d∈List.flatMap _ ds from h);obtain⟨x,dp,inn,rfl,oi⟩:=o y hy;have hd:d∈(if fr x.wd then part x dp inn::ot fr (n+1) inn else[]):=hd
   split at hd
   .rcases waf.mp hd with rfl|hd
    .exact⟨_,_,_,rfl⟩
    .exact zk4 oi d hd
   .cases hd
def innD:D->List D
|.tup [_,_,_,_,_,.tup l]=>l
|_=>[]
def plI (rc:List D->List D->List D->List (List D×List D))(pre ch:List D):Nat->List D->List (List D×List D)
|_,[]=>[]
|i,d::ds=>(pre++[.int (i:Int)],ch++[d])::(rc (innD d) (pre++[.int (i:Int)]) (ch++[d])++plI rc pre ch (i+1) ds)
def zgF (rc:List D->List D->List D->List (List D×List D))(pre ch:List D)(b:Nat)(x:Itm)(dp:Nat)(inn es:List D):plI rc pre ch b (part x dp inn::es)=(pre++[.int (b:Int)],ch++[part x dp inn])::(rc inn (pre++[.int (b:Int)]) (ch++[part x dp inn])++plI rc pre ch (b+1) es):=rfl
def pl:Nat->List D->List D->List D->List (List D×List D)
|0,_,_,_=>[]
|n+1,ds,pre,ch=>plI (pl n) pre ch 0 ds
def zfs (c:List D):D:=c.getLast?.getD .non
def zdd (c:List D)(d:D):zfs (c++[d])=d:=by unfold zfs;simp
def ent (q:List D×List D):D:=.tup [.tup q.1,zfs q.2]
def zmD {pre:List D}{d:D}(h:pre.length<=100):dAdd (.tup pre) (.tup [d])=some (.tup (pre++[d])):=by
 rw[dAdd,if_neg (by simp)];unfold mkT;rw[if_pos (waq (by simp;omega:_<=101) (by decide))]
def zot {xs es:List D}(h:xs.length+es.length<=1000):extL xs (.lst es)=some (xs++es):=by
 show(if(xs++es).length<=lim then _ else _)=_
 rw[if_pos (waq (by rw[wap];omega:_<=1000) (by decide))]
def ac2 (a b:D):aC (some a) (aC (some b) aN)=some [a,b]:=rfl
def zmE {S:Type}(f:S->D->Option S)(s:S)(d:D)(ds:List D):zaX f s (d::ds)=(f s d).bind λs=>zaX f s ds:=rfl
def ziS:∀{n:Nat}{ds pre ch:List D},Ok n ds->(pl (n+1) ds pre ch).length<=1000->pre.length+n<=100->zaB (n+1) [.tup ds,.tup pre]=some (.lst ((pl (n+1) ds pre ch).map ent)):=by
 intro n;induction n with
|zero=>intro ds pre ch o _ _;rw[show ds = [] from o];rfl
|succ n ih=>
   intro ds pre ch o hl hp;show za9 (zaB (n+1)) (.tup ds) (.tup pre)=_
   unfold za9;rw[zOB];show Option.bind (Option.bind (some (zdm ds)) _) _=_
   rw[zOB];generalize hf:(λ(s2:List D) (d8:D)=>Option.bind (un2 d8) _)=f;have stp:∀(acc:List D) (i:Nat) (x:Itm) (dp:Nat) (inn:List D),Ok n inn->acc.length+1+(pl (n+1) inn (pre++[.int (i:Int)]) (ch++[part x dp inn])).length<=1000->
    f acc (.tup [.int (i:Int),part x dp inn])=some (acc++ent (pre++[.int (i:Int)],ch++[part x dp inn])::(pl (n+1) inn (pre++[.int (i:Int)]) (ch++[part x dp inn])).map ent):=by
    intro acc i x dp inn oi ha;rw[<-hf];show Option.bind (dAdd (.tup pre) (.tup [.int (i:Int)])) _=_
    rw[zmD (by omega),zOB,zfT (wbx (by omega:_<=1000) (by decide)),zOB,(zdc x dp inn).2.2.2,ac2,zOB,ih (ch:=ch++[part x dp inn]) oi (by omega) (by simp;omega),zOB,zot (by simp;omega),zOB];unfold ent;rw[zdd];simp
   have key:∀(ds:List D) (b:Nat) (acc:List D),(∀d∈ds,∃x dp inn,d=part x dp inn/\Ok n inn)->acc.length+(plI (pl (n+1)) pre ch b ds).length<=1000->zaX f acc ((ds.zipIdx b).map λp=>.tup [.int (p.2:Nat),p.1])=some (acc++(plI (pl (n+1)) pre ch b ds).map ent):=by
    intro ds;induction ds with
   |nil=>intro b acc _ _;show some acc=some (acc++[]);rw[waY]
   |cons d ds ih2=>
      intro b acc o ha;obtain⟨x,dp,inn,rfl,oi⟩:=o d wah;rw[zgF] at ha⊢;rw[wbp,wap] at ha;rw[List.zipIdx_cons,waL,zmE,stp acc b x dp inn oi (by omega),zOB,ih2 _ _ (λy hy=>o y (wad _ hy)) (by simp;omega)];simp
   have e9:=key ds 0 [] o (by rw[wcu,wcz];exact hl)
   rw[show(zaX f [] (zdm ds))=_ from e9];rfl
def ziT:∀{n:Nat}{ds pre ch:List D},Ok n ds->(pl (n+1) ds pre ch).map (λq=>zfs q.2)=ot (λ_=>true) (n+1) ds:=by
 intro n;induction n with
|zero=>intro ds pre ch o;rw[show ds = [] from o];rfl
|succ n ih=>
   intro ds pre ch o;have key:∀(es:List D) (b:Nat),(∀d∈es,∃x dp inn,d=part x dp inn/\Ok n inn)->(plI (pl (n+1)) pre ch b es).map (λq=>zfs q.2)=ot (λ_=>true) (n+1+1) es:=by
    intro es;induction es with
   |nil=>intro b _;rfl
   |cons d es ih2=>
      intro b o;obtain⟨x,dp,inn,rfl,oi⟩:=o d wah;rw[zgF,zmA,waL,waG,ih oi,ih2 _ λy hy=>o y (wad _ hy),zdd];rfl
   exact key ds 0 o
def inD (P:List Nat):List D:=P.map λ(i:Nat)=>D.int (i:Int)
def tri (q:List D×List D):List D×D:=(q.1,zfs q.2)
def trI (rc:List D->List Nat->List (List D×D))(pre:List Nat):Nat->List D->List (List D×D)
|_,[]=>[]
|b,d::ds=>(inD (pre++[b]),d)::(rc (innD d) (pre++[b])++trI rc pre (b+1) ds)
def tr:Nat->List D->List Nat->Nat->List (List D×D)
|0,_,_,_=>[]
|n+1,ds,pre,b=>trI (λinn pre=>tr n inn pre 0) pre b ds
def zkp (P:List Nat)(b:Nat):inD (P++[b])=inD P++[.int (b:Int)]:=by unfold inD;rw[waG];rfl
def zpB:∀{n:Nat}{ds:List D}{pre:List Nat}{ch:List D},(pl n ds (inD pre) ch).map tri=tr n ds pre 0:=by
 intro n;induction n with
|zero=>intro ds pre ch;rfl
|succ n ih=>
   intro ds pre ch;have key:∀(es:List D) (b:Nat),(plI (pl n) (inD pre) ch b es).map tri=tr (n+1) es pre b:=by
    intro es;induction es with
   |nil=>intro b;rfl
   |cons d es ih2=>
      intro b;show(inD pre++[.int (b:Int)],zfs (ch++[d]))::(pl n (innD d) (inD pre++[.int (b:Int)]) (ch++[d])++plI (pl n) (inD pre) ch (b+1) es).map tri=(inD (pre++[b]),d)::(tr n (innD d) (pre++[b]) 0++tr (n+1) es pre (b+1))
      rw[waG,<-zkp,ih,ih2,zdd]
   exact key ds 0
def bat (P:List Nat)(d:Nat):Nat:=match P[d]? with
|some i=>i+1
|none=>0
def stp (P:List Nat)(c:Nat):List Nat:=P.take c++[bat P c]
def trL:List Nat->List Itm->List (List D×D)
|_,[]=>[]
|P,x::S=>(inD (stp P x.dp),part x 0 (fo S (x.dp+1)))::trL (stp P x.dp) S
def sl (G:Nat->List (List D×D)):Nat->List (List D×D)
|0=>[]
|d+1=>G d++sl G d
theorem ziU {G:Nat->List (List D×D)}{m:Nat}(h:∀d,m<=d->G d = []):∀k,sl G (m+k)=sl G m
|0=>rfl
|k+1=>by
   show G (m+k)++sl G (m+k)=_
   rw[h _ (by omega),ziU h k];simp
theorem zgG {G K:Nat->List (List D×D)}:∀{m:Nat},(∀d,d<m->G d=K d)->sl G m=sl K m
|0,_=>rfl
|m+1,h=>by
   show G m++sl G m=K m++sl K m
   rw[h m (by omega),zgG λd hd=>h d (by omega)]
def zou {P:List Nat}{c d:Nat}(h:d<c)(hc:c<=P.length):bat (stp P c) d=bat P d:=by
 unfold bat stp;rw[waI (by rw[waB];omega),waR,if_pos h]
def zov {P:List Nat}{c:Nat}(hc:c<=P.length):bat (stp P c) c=bat P c+1:=by
 have:(stp P c)[c]?=some (bat P c):=by
  unfold stp;rw[waD (by rw[waB];omega),waB,wbm hc,wbG];rfl
 show(match (stp P c)[c]? with|some i=>i+1|none=>0)=_
 rw[this]
def zcp {P:List Nat}{c:Nat}(hc:c<=P.length):(stp P c).length=c+1:=by unfold stp;rw[wap,waB,wbm hc];rfl
def zow {P:List Nat}{c:Nat}(hc:P.length<=c):bat P c=0:=by unfold bat;rw[wba hc]
def zc4 {P:List Nat}{c d:Nat}(h:d<=c)(hc:c<=P.length):(stp P c).take d=P.take d:=by
 unfold stp;rw[List.take_append_of_le_length (by rw[waB];omega),wcD,wbm h]
theorem ziV:∀{m:Nat}{S:List Itm},Vd m S->∀(P:List Nat),P.length=m->trL P S=sl (λd=>tr (8 - d) (fo S d) (P.take d) (bat P d)) (m+1)
|m,_,.nil,P,hP=>by
   have:∀k,sl (λd=>tr (8 - d) (fo [] d) (P.take d) (bat P d)) k = []:=λk=>by
    induction k with
   |zero=>rfl
   |succ k ih=>
      show tr (8 - k) [] _ _++sl _ k = []
      rw[ih];have:tr (8 - k) [] (P.take k) (bat P k) = []:=by cases 8 - k <;> rfl
      rw[this];rfl
   rw[this];rfl
|m,_,.cons (x:=x) (S:=S) hm h4 t,P,hP=>by
   obtain⟨c,hc⟩:∃c,x.dp=c:=⟨_,rfl⟩
   have ih:=ziV t (stp P c) (by rw[zcp (by omega),hc])
   have f1:fo (x::S) c=part x 0 (fo S (c+1))::fo S c:=by
    show(if c=x.dp then _ else _)=_
    rw[if_pos hc.symm]
   have f2:∀d,d<c->fo (x::S) d=fo S d:=λd hd=>by
    show(if d=x.dp then _ else if d=x.dp+1 then[] else fo S d)=_
    rw[if_neg (by omega),if_neg (by omega)]
   have f3:∀d,c+1<=d->fo (x::S) d = []:=λd hd=>by
    show(if d=x.dp then _ else if d=x.dp+1 then[] else fo S d)=_
    rw[if_neg (by omega)];by_cases e:d=x.dp+1
    .rw[if_pos e]
    .rw[if_neg e];exact ziO t d (by omega)
   have o0:∀n pre b,tr n [] pre b = []:=λn pre b=>by cases n <;> rfl
   have e1:sl (λd=>tr (8 - d) (fo (x::S) d) (P.take d) (bat P d)) (m+1)=sl (λd=>tr (8 - d) (fo (x::S) d) (P.take d) (bat P d)) (c+1):=by
    have:=ziU (G:=λd=>tr (8 - d) (fo (x::S) d) (P.take d) (bat P d)) (m:=c+1) (λd hd=>by show tr (8 - d) _ _ _ = [];rw[f3 d hd,o0]) (m - c)
    rw[show c+1+(m - c)=m+1 by omega] at this;exact this
   have lower:sl (λd=>tr (8 - d) (fo S d) ((stp P c).take d) (bat (stp P c) d)) c=sl (λd=>tr (8 - d) (fo (x::S) d) (P.take d) (bat P d)) c:=zgG λd hd=>by rw[f2 d hd,zc4 (by omega) (by omega),zou hd (by omega)]
   rw[e1];show(inD (stp P x.dp),part x 0 (fo S (x.dp+1)))::trL (stp P x.dp) S=tr (8 - c) (fo (x::S) c) (P.take c) (bat P c)++sl _ c
   rw[hc,f1,<-lower,show 8 - c=(8 - (c+1))+1 by omega];show _=(inD (P.take c++[bat P c]),part x 0 (fo S (c+1)))::(tr (8 - (c+1)) (fo S (c+1)) (P.take c++[bat P c]) 0++tr (8 - (c+1)+1) (fo S c) (P.take c) (bat P c+1))++_
   rw[List.cons_append];refine wbb _ ?_;rw[hc] at ih;refine ih.trans ?_;show tr (8 - (c+1)) (fo S (c+1)) ((stp P c).take (c+1)) (bat (stp P c) (c+1))++(tr (8 - c) (fo S c) ((stp P c).take c) (bat (stp P c) c)++sl (λd=>tr (8 - d) (fo S d) ((stp P c).take d) (bat (stp P c) d)) c)=_
   rw[zow (c:=c+1) (waX (zcp (by omega))),wcg (waX (zcp (by omega))),zc4 (wai _) (by omega),zov (by omega),waN,show 8 - c=8 - (c+1)+1 by omega];rfl
def zeG {L:List Itm}(t:Vd 0 L):(pl 8 (fo L 0) [] []).map tri=trL [] L:=by
 have:=ziV t [] rfl
 rw[show sl (λd=>tr (8 - d) (fo L d) (([]:List Nat).take d) (bat [] d)) (0+1)=tr 8 (fo L 0) [] 0++[] from rfl,waY] at this;rw[this];exact zpB (n:=8) (pre:=[])
theorem zeH:∀{P:List Nat}{L:List Itm},(trL P L).length=L.length
|_,[]=>rfl
|P,x::S=>by show(trL _ S).length+1=_;rw[zeH];rfl
theorem zk5:∀{P:List Nat}{L:List Itm},(trL P L).map (λq=>(nr q.2).2)=L.map Itm.nm
|_,[]=>rfl
|P,x::S=>by show x.nm::(trL _ S).map _=_;rw[zk5];rfl
def zk6 {L:List Itm}(t:Vd 0 L):(ot (λ_=>true) 8 (fo L 0))=(trL [] L).map (·.2):=by
 have o:Ok 7 (fo L 0):=(zfh t 0).up
 rw[<-ziT (pre:=[]) (ch:=[]) o,<-zeG t,wbl];rfl
def zk7 {L:List Itm}(t:Vd 0 L):(ot (λ_=>true) 8 (fo L 0)).length=L.length:=by
 rw[zk6 t,wam,zeH]
def zft {ds:List D}(o:Ok 7 ds)(hl:(ot (λ_=>true) 8 ds).length<=1000):zaz [.tup ds]=some (.lst ((pl 8 ds [] []).map ent)):=by
 have l1:(pl 8 ds [] []).length<=1000:=by
  have:=wbb List.length (ziT (pre:=[]) (ch:=[]) o)
  rw[wam] at this;show(pl (7+1) ds [] []).length<=1000
  rw[this];exact hl
 show zbi (.tup ds)=_
 unfold zbi;rw[ziS (n:=7) (ch:=[]) o l1 (by decide)];rfl
def zgH {L:List Itm}(t:Vd 0 L)(hl:L.length<=1000):zbv [.tup (fo L 0)]=some (.lst ((trL [] L).map (·.2))):=by
 have o:Ok 7 (fo L 0):=(zfh t 0).up
 have hll:(pl 8 (fo L 0) [] []).length<=1000:=by
  have:=wbb List.length (zeG t)
  rw[wam,zeH] at this;omega
 show zcy _=_
 unfold zcy;rw[zft o (by rw[zk7 t];omega),zOB];show Option.bind (Option.bind (zci _ ((pl 8 (fo L 0) [] []).map ent)) _) _=_
 rw[zdJ ent (λq=>zfs q.2) (by omega) λq hq=>rfl,<-zeG t,wbl];rfl
def zhn {L:List Itm}(t:Vd 0 L)(hl:L.length<=1000):zaz [.tup (fo L 0)]=some (.lst ((trL [] L).map λq=>.tup [.tup q.1,q.2])):=by
 have o:Ok 7 (fo L 0):=(zfh t 0).up
 rw[zft o (by rw[zk7 t];omega),<-zeG t,wbl];rfl
def zkq {L:List Itm}(t:Vd 0 L)(hl:L.length<=1000):zcA [.tup (fo L 0)]=some (.lst ((L.map Itm.nm).map D.str)):=by
 show zcz _=_
 unfold zcz;rw[zgH t hl,zOB];show Option.bind (Option.bind (zci _ ((trL [] L).map (·.2))) _) _=_
 rw[zdJ (·.2) (λq:List D×D=>D.str (nr q.2).2) (by rw[zeH];omega) λq hq=>?_]
 .rw[zOB,zOB,<-zk5 (P:=[]),wbl];rfl
 .have:q.2∈ot (λ_=>true) (7+1) (fo L 0):=by
   rw[show ot (λ_=>true) (7+1) (fo L 0)=_ from zk6 t];exact waO.mpr ⟨q,hq,rfl⟩
  obtain⟨x,dp,inn,ex⟩:=zk4 (zfh t 0).up _ this;rw[ex,(zdc x dp inn).1];rfl
def nmOk (y:Str):Prop:=1<=y.length/\y.length<=8/\∀c∈y.cps.toList,97<=c/\c<123
def zox {c:Nat}(h0:97<=c)(h1:c<123):inTx ⟨#[c]⟩ "abcdefghijklmnopqrstuvwxyz"=true:=by
 have h:∀i<26,inTx ⟨#[97+i]⟩ "abcdefghijklmnopqrstuvwxyz"=true:=by decide +kernel
 have:=h (c - 97) (by omega)
 rwa [show 97+(c - 97)=c by omega] at this
theorem zdX {α:Type}{f:D->Option Bool}(h:α->D)(g:α->Bool):∀{ds:List α},(∀d∈ds,f (h d)=some (g d))->zeA f (ds.map h)=some (ds.map g)
|[],_=>rfl
|d::ds,k=>by
   show(f (h d)).bind _=_
   rw[k d wah,zOB,zdX h g λy hy=>k y (wad _ hy)];rfl
def zkr {α:Type}{g:α->Bool}{ds:List α}(h:∀d∈ds,g d=true):(ds.map g).all id=true:=by
 rw[waJ];intro b hb;obtain⟨d,hd,rfl⟩:=waO.mp hb;exact h d hd
def zdY {y:Str}(h:nmOk y):zaC [.str y]=some (.bl true):=by
 obtain⟨h1,h2,h3⟩:=h;have l:bLen [.str y]=some (.int y.length):=if_pos (waq h2 (by decide))
 show zc1 _=_
 unfold zc1;rw[show isD "str" (.str y)=some (.bl true) from rfl,l];show Option.bind (Option.bind (Option.bind (Option.bind (some (D.bl (decide ((1:Int)<=(y.length:Int))))) λzk3=>Option.bind (dB zk3) λk3=>if k3 then(dLe (.int y.length) (.int 8)) else some (.bl false)) dB) λk2=>some (!k2)) _=_
 rw[waA (show(1:Int)<=(y.length:Int) by omega)];show Option.bind (Option.bind (Option.bind (some (D.bl (decide ((y.length:Int)<=8)))) dB) λk2=>some (!k2)) _=_
 rw[waA (show(y.length:Int)<=8 by omega)];show Option.bind (Option.bind (some (y.cps.toList.map λc=>D.str ⟨#[c]⟩)) _) _=_
 rw[zOB,zdX (λc=>D.str ⟨#[c]⟩) (λ_=>true) λc hc=>by
  show some (inTx ⟨#[c]⟩ "abcdefghijklmnopqrstuvwxyz")=_
  rw[zox (h3 c hc).1 (h3 c hc).2],zOB,zkr λ_ _=>rfl]
 rfl
def ziW {x:Itm}(h1:1<=x.bc)(h2:1<=x.bd):zaJ [x.bx]=some (.bl true):=by
 show zcB (.tup [.int x.ba,.int x.bb,.int x.bc,.int x.bd])=_
 unfold zcB;have g:∀a b:Int,dGe (.int a) (.int b)=some (.bl (decide (b<=a))):=λ_ _=>rfl
 have i2:dIx (.tup [.int x.ba,.int x.bb,.int x.bc,.int x.bd]) (.int 2)=some (.int x.bc):=zaR (j:=2) rfl
 have i3:dIx (.tup [.int x.ba,.int x.bb,.int x.bc,.int x.bd]) (.int 3)=some (.int x.bd):=zaR (j:=3) rfl
 rw[i2,i3];show Option.bind (Option.bind (Option.bind (some (D.bl (decide (1<=x.bc)))) dB) λk11=>if k11 then(some (D.bl (decide (1<=x.bd)))) else some (.bl false)) _=_
 rw[waA h1,waA h2];rfl
def Wd (w:Str):Prop:=w = "free"\/w = "shut"\/w = "hidden"
def ziX {w:Str}(h:Wd w):zaL [.str w]=some (.bl true):=by
 rcases h with rfl|rfl|rfl <;> rfl
def zf8 {r:Int}(h:0<=r):zaM [.int r]=some (.bl true):=by
 show Option.bind (some (D.bl (decide (0<=r)))) _=_
 rw[waA h];rfl
def ziY {h:Option Str}(k:∀y,h=some y->nmOk y):za0 [hdO h]=some (.bl true):=by
 cases h with
|none=>rfl
|some y=>
   show Option.bind (zaC [.str y]) _=_
   rw[zdY (k y rfl)];rfl
structure Gd (x:Itm):Prop where
 nm:nmOk x.nm
 c:1<=x.bc
 d:1<=x.bd
 wd:Wd x.wd
 rk:0<=x.rk
 hd:∀y,x.hd=some y->nmOk y
def zdZ {self:List D->Option D}{x:Itm}(g:Gd x){dp:Nat}{inn:List D}{deep:Int}{b:Bool}(h:self [.tup inn,.int (deep+1)]=some (.bl b)):(zal self) [part x dp inn,.int deep]=some (.bl b):=by
 show zaE self (.tup [.str x.nm,x.bx,.str x.wd,.int x.rk,hdO x.hd,.tup inn]) (.int deep)=_
 unfold zaE;show Option.bind (Option.bind (Option.bind (Option.bind (zaC [.str x.nm]) dTru) λk12=>some (!k12)) λk11=>if k11 then some true else(Option.bind (Option.bind (Option.bind (zaJ [x.bx]) dTru) λk10=>some (!k10)) λk9=>if k9 then some true else(Option.bind (Option.bind (zaL [.str x.wd]) dTru) λk8=>some (!k8)))) _=_
 rw[zdY g.nm,ziW g.c g.d,ziX g.wd];show Option.bind (Option.bind (Option.bind (zaM [.int x.rk]) dB) λk15=>if k15 then(Option.bind (Option.bind (za0 [hdO x.hd]) dB) λk14=>if k14 then(Option.bind (aC (some (.tup inn)) (aC (some (.int (deep+1))) aN)) self) else some (.bl false)) else some (.bl false)) _=_
 rw[zf8 g.rk,ziY g.hd];show Option.bind (self [.tup inn,.int (deep+1)]) _=_
 rw[h];rfl
def zgI {n:Nat}{ds:List D}{deep:Int}(bf:D->Bool)(hd:deep<=5)(hp:∀d∈ds,zal (zaf n) [d,.int deep]=some (.bl (bf d))):zaf (n+1) [.tup ds,.int deep]=some (.bl (ds.all bf)):=by
 show zbe (zaf n) (.tup ds) (.int deep)=_
 unfold zbe;rw[show isD "tuple" (.tup ds)=some (.bl true) from rfl,show dGt (.int deep) (.int 5)=some (.bl (decide (5<deep))) from rfl,wat (by omega)];have e:(Option.bind (dTru (.tup ds)) λk5=>if k5 then(Option.bind (some (D.bl false)) dB) else some false)=some false:=by
  show(if(!ds.isEmpty)=true then some false else some false)=_
  split <;> rfl
 show Option.bind (Option.bind (dTru (.tup ds)) λk5=>if k5 then(Option.bind (some (D.bl false)) dB) else some false) _=_
 rw[e];show Option.bind (Option.bind (zeA (λd7=>Option.bind ((zal (zaf n)) [d7,.int deep]) dB) ds) _) _=_
 have hb:zeA (λd7=>Option.bind ((zal (zaf n)) [d7,.int deep]) dB) ds=some (ds.map bf):=by
  have:=zdX (f:=λd7=>Option.bind ((zal (zaf n)) [d7,.int deep]) dB) (λd=>d) bf (ds:=ds) λd hd=>by rw[hp d hd];rfl
  rwa [List.map_id'] at this
 rw[hb,zOB,zOB,List.all_map];rfl
def ziZ (n:Nat)(deep:Int):zaf (n+1) [.tup [],.int deep]=some (.bl true):=rfl
def zks {n:Nat}{d:D}{ds:List D}{deep:Int}(h:5<deep):zaf (n+1) [.tup (d::ds),.int deep]=some (.bl false):=by
 show zbe (zaf n) (.tup (d::ds)) (.int deep)=_
 unfold zbe;rw[show isD "tuple" (.tup (d::ds))=some (.bl true) from rfl,show dGt (.int deep) (.int 5)=some (.bl (decide (5<deep))) from rfl,waA h];rfl
def GOk:Nat->List D->Prop
|0,ds=>ds = []
|n+1,ds=>∀d∈ds,∃x dp inn,d=part x dp inn/\Gd x/\GOk n inn
def GOk.nil:∀{n:Nat},GOk n []
|0=>rfl
|_+1=>λd h=>by cases h
theorem gfo:∀{m:Nat}{S:List Itm},Vd m S->(∀x∈S,Gd x)->∀d,d<=5->GOk (5 - d) (fo S d)
|_,_,.nil,_,_,_=>GOk.nil
|m,_,.cons (x:=x) (S:=S) hm h4 t,g,d,h5=>by
   have gS:∀y∈S,Gd y:=λy hy=>g y (wad _ hy)
   show GOk (5 - d) (if d=x.dp then part x 0 (fo S (d+1))::fo S d else if d=x.dp+1 then[] else fo S d)
   by_cases e:d=x.dp
   .rw[if_pos e];have h1:=gfo t gS (d+1) (by omega)
    have h2:=gfo t gS d h5
    rw[show 5 - d=(5 - (d+1))+1 by omega] at h2⊢;intro y hy;rcases waf.mp hy with rfl|hy
    .exact⟨_,_,_,rfl,g x wah,h1⟩
    .exact h2 y hy
   .rw[if_neg e];by_cases e2:d=x.dp+1
    .rw[if_pos e2];exact GOk.nil
    .rw[if_neg e2];exact gfo t gS d h5
theorem zi0:∀{n:Nat}{ds:List D}{deep:Int}{m:Nat},GOk n ds->deep+n<=6->n+1<=m->zaf m [.tup ds,.int deep]=some (.bl true)
|0,ds,deep,m+1,o,_,_=>by rw[show ds = [] from o];exact ziZ m deep
|n+1,ds,deep,m+1,o,hd,hm=>by
   rw[zgI (n:=m) (λ_=>true) (by omega) λd h=>by
    obtain⟨x,dp,inn,rfl,g,oi⟩:=o d h;exact zdZ g (zi0 oi (by omega) (by omega))]
   simp
def zoy {ds:List D}(o:GOk 5 ds):∀d∈ds,zal (zaf 6) [d,.int 1]=some (.bl true):=λd h=>by
 obtain⟨x,dp,inn,rfl,g,oi⟩:=o d h;exact zdZ g (zi0 (n:=4) oi (by decide) (by decide))
def zoz {xs:List Str}{i:Nat}(h:i<=xs.length):dSl (.lst (xs.map D.str)) none (some (i:Int))=some (.lst ((xs.take i).map D.str)):=by
 show some (D.lst (VD.cut (xs.map D.str) none (some (i:Int))))=_
 rw[zgz (by omega) (by rw[wam];omega),<-List.map_take,wbE]
def zho (N:List Str):zgD [.lst (N.map D.str)]=some (N.zipIdx.map λp=>.tup [.int (p.2:Nat),.str p.1]):=by
 have e:zgD [.lst (N.map D.str)]=some (zdm (N.map D.str)):=rfl
 rw[e,ziu]
theorem zi1 {f:Unit->D->Option Unit}:∀{l:List D},(∀d∈l,f () d=some ())->zaX f () l=some ()
|[],_=>rfl
|d::l,h=>by
   show(f () d).bind _=_
   rw[h d wah,zOB];exact zi1 λy hy=>h y (wad _ hy)
def zhp {α:Type}{N:List α}(nd:N.Nodup){i:Nat}{x:α}(h:N[i]?=some x):x∉N.take i:=λq=>by
 obtain⟨j,hj⟩:=waW q;rw[waR] at hj;split at hj
 .rename_i hji
  have:=(wbR (by have:=(wae.mp h).1;omega) nd).mp (hj.trans h.symm)
  omega
 .cases hj
def zmF {N:List Str}(nd:N.Nodup):za1 [.lst (N.map D.str)]=some .non:=by
 show zbj (.lst (N.map D.str))=_
 unfold zbj;rw[zho,zOB,zi1 λd hd=>?_]
 .rfl
 .obtain⟨p,hp,rfl⟩:=waO.mp hd;obtain⟨x,i⟩:=p;have hx:N[i]?=some x:=List.mem_zipIdx_iff_getElem?.mp hp
  have hi:i<N.length:=(wae.mp hx).1
  show Option.bind (Option.bind (Option.bind (dSl (.lst (N.map D.str)) none (some (i:Int))) _) dB) _=_
  rw[zoz (by omega),zOB,zfV,wat (zhp nd hx)];rfl
theorem zeh {S:Type}{f:S->D->Option S}{d:D}:∀{ds:List D}{s:S},zaX f s (ds++[d])=(zaX f s ds).bind λs=>f s d
|[],s=>by show(f s d).bind (λs=>some s)=f s d;cases f s d <;> rfl
|e::ds,s=>by
   show(f s e).bind (λs=>zaX f s (ds++[d]))=((f s e).bind λs=>zaX f s ds).bind _
   cases f s e with
  |none=>rfl
  |some s'=>exact zeh
theorem zfu:∀{S:List Itm}{d:Nat},(fo S d).length<=S.length
|[],_=>wai _
|x::S,d=>by
   show(if d=x.dp then part x 0 (fo S (d+1))::fo S d else if d=x.dp+1 then[] else fo S d).length<=S.length+1
   have:=zfu (S:=S) (d:=d)
   split
   .simp;omega
   .split
    .simp
    .omega
def prD (q:Str×Str):D:=.tup [.str q.1,.str q.2]
def Fwd (N:List Str)(q:Str×Str):Prop:=∃i j:Nat,i<j/\N[i]?=some q.1/\N[j]?=some q.2
def zhq (left:List Str)(M:List (Str×Str)):List Str:=(M.filter λq=>decide (q.1∈left)).map (·.2)
def zf9 (left:List Str)(M:List (Str×Str)):List Str:=left.filter λx=>decide (x∈zhq left M)
def zcj {α:Type}{f:D->Option (Option D)}(h:α->D)(p:α->Bool)(g:α->D){ds:List α}(hl:ds.length<=lim)(hf:∀d∈ds,f (h d)=some (if p d then some (g d) else none)):zci f (ds.map h)=some ((ds.filter p).map g):=by
 have key:∀(ds:List α),(∀d∈ds,f (h d)=some (if p d then some (g d) else none))->zcF f (ds.map h)=some ((ds.filter p).map g):=by
  intro ds;induction ds with
 |nil=>intro _;rfl
 |cons d ds ih=>
    intro k;show(f (h d)).bind _=_
    rw[k d wah,zOB];show(zcF f (ds.map h)).bind _=_
    rw[ih λy hy=>k y (wad _ hy)];by_cases q:p d=true
    .rw[List.filter_cons_of_pos q,if_pos q];rfl
    .rw[List.filter_cons_of_neg q,if_neg q];rfl
 unfold zci;rw[key ds hf,zOB,if_pos (waq (by rw[wam];exact wck _ _) hl)]
def zi2 {N left:List Str}{M:List (Str×Str)}(nd:N.Nodup)(sb:left.Sublist N)(hm:∀q∈M,Fwd N q)(h0:left≠[]):(zf9 left M).length<left.length:=by
 cases left with
|nil=>exact absurd rfl h0
|cons x r=>
   have hx:x∉zhq (x::r) M:=by
    intro hx;obtain⟨q,hq,e⟩:=waO.mp hx;obtain⟨hq,h1⟩:=List.mem_filter.mp hq;have h1:q.1∈x::r:=wbS h1
    obtain⟨i,j,hij,e1,e2⟩:=hm q hq;rw[e] at e2;obtain⟨A,B,rfl,hA,hB⟩:=List.cons_sublist_iff.mp sb;obtain⟨j',hj'⟩:=waW hA;have lj:j'<A.length:=(wae.mp hj').1
    have ej:(A++B)[j']?=some x:=by rw[waI lj];exact hj'
    have hj:j=j':=((wbR (by rw[wap];omega) nd).mp (ej.trans e2.symm)).symm
    rcases waf.mp h1 with z|z
    .rw[z] at e1;have:=(wbR (by rw[wap];omega) nd).mp (ej.trans e1.symm)
     omega
    .obtain⟨i',hi'⟩:=waW (hB.subset z);have ei:(A++B)[A.length+i']?=some q.1:=by rw[waD (by omega)];simpa using hi'
     have:=(wbR (wae.mp e1).1 nd).mp (e1.trans ei.symm)
     omega
   unfold zf9;rw[List.filter_cons_of_neg (by simpa using hx)];exact Nat.lt_succ_of_le (wck _ _)
def zoA {a b:Nat}:dEqG false (.int (a:Int)) (.int (b:Int))=some (.bl (decide (a=b))):=by
 have e1:eqC (.int (a:Int)) (.int (b:Int))=true:=rfl
 unfold dEqG;rw[if_pos e1];show some (D.bl (decide (D.int (a:Int)=D.int (b:Int))))=_
 congr 2;simp;omega
def zmG {N:List Str}{M:List (Str×Str)}(nd:N.Nodup)(hm:∀q∈M,Fwd N q)(hN:N.length<=48)(hM:M.length<=2000):zbK [.lst (N.map D.str),.lst (M.map prD)]=some (.lst []):=by
 show zbJ (.lst (N.map D.str)) (.lst (M.map prD))=_
 unfold zbJ;rw[zOB];generalize hf:(λ(s2:D)=>(Option.bind (Option.bind (Option.bind (dSeq (.lst (M.map prD))) _) λds=>some (.lst ds)) λ(x3:D)=>_))=f;have stp:∀left:List Str,left.length<=48->f (.lst (left.map D.str))=some (if(zf9 left M).length=left.length then Fl.ret (.lst ((zf9 left M).map D.str)) else Fl.nx (.lst ((zf9 left M).map D.str))):=by
  intro left hl;rw[<-hf];show Option.bind (Option.bind (zci _ (M.map prD)) _) _=_
  rw[zcj prD (λq=>decide (q.1∈left)) (λq=>D.str q.2) (waq hM (by decide)) λq hq=>?_]
  .rw[zOB,zOB];have e:(M.filter λq=>decide (q.1∈left)).map (λq=>D.str q.2)=(zhq left M).map D.str:=by unfold zhq;rw[wbl];rfl
   rw[e];show Option.bind (Option.bind (zci _ (left.map D.str)) _) _=_
   rw[zcj D.str (λx=>decide (x∈zhq left M)) D.str (waq hl (by decide)) λx hx=>?_]
   .rw[zOB,zOB];show Option.bind (Option.bind (dEqG false (.int ((((zf9 left M).map D.str).length:Nat):Int)) (.int (((left.map D.str).length:Nat):Int))) dB) _=_
    rw[wam,wam,zoA];by_cases z:(zf9 left M).length=left.length
    .rw[if_pos z,waA z];rfl
    .rw[if_neg z,wat z];rfl
   .rw[zfV,zOB];show(if decide (x∈zhq left M) then some (some (D.str x)) else some none)=_
    split <;> simp_all
  .refine Eq.trans (b:=Option.bind (Option.bind (dInG false (.str q.1) (.lst (left.map D.str))) dB) λok=>if ok then some (some (D.str q.2)) else some none) rfl ?_;rw[zfV,zOB];show(if decide (q.1∈left) then some (some (D.str q.2)) else some none)=_
   split <;> simp_all
 have key:∀(n:Nat) (left:List Str),left.length<n->left.length<=48->left.Sublist N->zee (λ(s2:D)=>dTru (.bl true)) f n (.lst (left.map D.str))=some (.ret (.lst [])):=by
  intro n;induction n with
 |zero=>intro left h;omega
 |succ n ih=>
    intro left h hl sb;show(Option.bind (f (.lst (left.map D.str))) _)=_
    rw[stp left hl,zOB];by_cases h0:left = []
    .subst h0;rfl
    .have:=zi2 nd sb hm h0
     rw[if_neg (by omega)];exact ih _ (by omega) (by omega) (List.Sublist.trans List.filter_sublist sb)
 rw[key 50 N (by omega) hN (List.Sublist.refl _)];rfl
def zmH {N:List Str}{M:List (Str×Str)}(nd:N.Nodup)(hm:∀q∈M,Fwd N q)(hN:N.length<=48)(hM:M.length<=2000):zcn [.lst (N.map D.str),.lst (M.map prD)]=some (.lst []):=by
 show zc2 _ _=_
 unfold zc2;rw[zmG nd hm hN hM,zOB];rfl
def trR:List Nat->List Itm->List (List Nat×Itm×List D)
|_,[]=>[]
|P,x::S=>(stp P x.dp,x,fo S (x.dp+1))::trR (stp P x.dp) S
def ptR (q:List Nat×Itm×List D):D:=part q.2.1 0 q.2.2
theorem zoB:∀{P:List Nat}{L:List Itm},trL P L=(trR P L).map λq=>(inD q.1,ptR q)
|_,[]=>rfl
|P,x::S=>by show _::trL _ S=_::_;rw[zoB];rfl
theorem zfv:∀{P:List Nat}{L:List Itm},(trR P L).map (λq=>q.2.1)=L
|_,[]=>rfl
|P,x::S=>by show x::(trR _ S).map _=_;rw[zfv]
def zi3 {P:List Nat}{L:List Itm}:(trR P L).length=L.length:=by
 have:=wbb List.length (zfv (P:=P) (L:=L))
 rwa [wam] at this
theorem zgJ:∀{S:List Itm}{e:Nat}{d:D},d∈fo S e->∃y∈S,∃inn,d=part y 0 inn
|[],_,_,h=>by cases h
|x::S,e,d,h=>by
   have h:d∈(if e=x.dp then part x 0 (fo S (e+1))::fo S e else if e=x.dp+1 then[] else fo S e):=h
   have up:d∈fo S e->∃y∈x::S,∃inn,d=part y 0 inn:=λh=>by
    obtain⟨y,hy,i,e⟩:=zgJ h;exact⟨y,wad _ hy,i,e⟩
   split at h
   .rcases waf.mp h with rfl|h
    .exact⟨x,wah,_,rfl⟩
    .exact up h
   .split at h
    .cases h
    .exact up h
theorem zfw {α:Type}{f:D->Option (Key×D)}{h:α->D}{k:α->Key}{v:α->D}:∀{E:List α}{pre:List α},(∀q∈E,f (h q)=some (k q,v q))->((pre++E).map k).Nodup->(pre++E).length<=10000->zdL f (E.map h) (pre.map k,pre.map v)=some ((pre++E).map k,(pre++E).map v)
|[],pre,_,_,_=>by rw[waY];rfl
|q::E,pre,hf,nd,hl=>by
   show((f (h q)).bind λp=>if(pre.map k).length<lim then zdL f (E.map h) (putKD (pre.map k) (pre.map v) p.1 p.2) else none)=_
   rw[hf q wah,zOB,if_pos (wbx (by rw[wam];rw[wap] at hl;omega:_<=10000) (by decide))];have hn:(pre.map k).any (λx=>decide (x=k q))=false:=by
    rw[List.any_eq_false];intro x hx hz;have hz:=wbS hz
    subst hz;rw[waG,wbg] at nd;exact nd.2.2 _ hx _ (by rw[waL];exact wah) rfl
   have hp:putKD (pre.map k) (pre.map v) (k q) (v q)=((pre++[q]).map k,(pre++[q]).map v):=by
    unfold putKD;rw[hn,if_neg (by decide),waG,waG];rfl
   show zdL f (E.map h) (putKD (pre.map k) (pre.map v) (k q) (v q))=_
   rw[hp,zfw (E:=E) (pre:=pre++[q]) (λy hy=>hf y (wad _ hy)) (by rw[waN];exact nd) (by rw[waN];exact hl),waN];rfl
theorem zi4 {α:Type}{k:α->Key}{v:α->D}:∀{E:List α}{q:α},q∈E->(E.map k).Nodup->dLook (E.map k) (E.map v) (k q)=some (v q)
|p::E,q,hq,nd=>by
   rw[waL,waK] at nd;show(if k p=k q then some (v p) else dLook (E.map k) (E.map v) (k q))=_
   rcases waf.mp hq with rfl|hq
   .rw[if_pos rfl]
   .rw[if_neg λz=>nd.1 (by rw[z];exact waO.mpr ⟨q,hq,rfl⟩),zi4 hq nd.2]
def kyR (q:List Nat×Itm×List D):Key:=.inr q.2.1.nm
def plR (q:List Nat×Itm×List D):D:=.tup (inD q.1)
def enR (q:List Nat×Itm×List D):D:=.tup [plR q,ptR q]
def plsD (L:List Itm):D:=.dct ((trR [] L).map kyR) ((trR [] L).map plR)
def zgK {L:List Itm}(nd:(L.map Itm.nm).Nodup):((trR [] L).map kyR).Nodup:=by
 have:(trR [] L).map kyR=(L.map Itm.nm).map Sum.inr:=by
  rw[wbl];conv=>rhs;rw[<-zfv (P:=[]) (L:=L),wbl]
  rfl
 rw[this];exact List.pairwise_map.mpr (nd.imp λh z=>h (Sum.inr.inj z))
def zi5 {L:List Itm}(nd:(L.map Itm.nm).Nodup)(hl:L.length<=1000):(zdL (zfb [.un,.un] (gT 2 (gCons' (gN 0) (gCons' (gN 1) gNil'))) (e2 dIx (eRd 1) (eK (.int 0))) (eVar 0)) ((trR [] L).map enR) ([],[]))=some ((trR [] L).map kyR,(trR [] L).map plR):=by
 refine zfw (h:=enR) (k:=kyR) (v:=plR) (pre:=[]) (λq hq=>?_) (zgK nd) (by rw[List.nil_append,zi3];omega);have:zfb [.un,.un] (gT 2 (gCons' (gN 0) (gCons' (gN 1) gNil'))) (e2 dIx (eRd 1) (eK (.int 0))) (eVar 0) (enR q)=Option.bind (dIx (ptR q) (.int 0)) λk=>(keyD k).bind λk=>some (k,plR q):=rfl
 rw[this,show dIx (ptR q) (.int 0)=_ from(zdc q.2.1 0 q.2.2).1];rfl
def zpC {L:List Itm}(t:Vd 0 L)(hl:L.length<=1000):zaz [.tup (fo L 0)]=some (.lst ((trR [] L).map enR)):=by
 rw[zhn t hl,zoB,wbl];rfl
def zga (Q:List Nat):ndL (inD Q)=true/\depL (inD Q)<=0:=by
 unfold inD;refine⟨ziw λd hd=>?_,zfU λd hd=>?_⟩
 .obtain⟨i,_,rfl⟩:=waO.mp hd;rfl
 .obtain⟨i,_,rfl⟩:=waO.mp hd;exact wai _
def Lt (Q P:List Nat):Prop:=∃d a b,Q.take d=P.take d/\Q[d]?=some a/\P[d]?=some b/\a<b
def Px (Q P:List Nat):Prop:=∃n,n<P.length/\Q=P.take (n+1)
def Rl (a:List Nat×Str)(b:List Nat×Str×List Str):Prop:=(a.2∈b.2.2->Px a.1 b.1)/\(a.2∉b.2.2->Lt a.1 b.1)
def tz:List Nat->List Str->List (Nat×Str)->List (List Nat×Str×List Str)
|_,_,[]=>[]
|P,l,q::S=>(stp P q.1,q.2,l.take q.1)::tz (stp P q.1) (l.take q.1++[q.2]) S
structure Hs (P:List Nat)(l:List Str)(E:List (List Nat×Str)):Prop where
 len:P.length=l.length
 nd:l.Nodup
 sub:∀y∈l,y∈E.map (·.2)
 hi:∀q∈E,(∃d,d<P.length/\q.1=P.take (d+1)/\l[d]?=some q.2)\/(Lt q.1 P/\q.2∉l)
section
variable {P Q:List Nat}{l:List Str}{E:List (List Nat×Str)}{c:Nat}{y:Str}
def zoC {d:Nat}(h:d<c)(hc:c<=P.length):(stp P c)[d]?=P[d]?:=by
 unfold stp;rw[waI (by rw[waB];omega),waR,if_pos h]
def zoD (hc:c<=P.length):(stp P c)[c]?=some (bat P c):=by
 unfold stp;rw[waD (by rw[waB];omega),waB,wbm hc,wbG];rfl
def zmI {z a:Nat}(hc:c<=P.length)(hz:P[c]?=some z)(ha:Q[c]?=some a)(hle:a<=z)(ht:Q.take c=P.take c):Lt Q (stp P c):=
 ⟨c,a,z+1,by rw[zc4 (wai _) hc];exact ht,ha,by rw[zoD hc];unfold bat;rw[hz],by omega⟩
def zmJ {d:Nat}(h:Q.take d=P.take d)(hc:c<=d):Q.take c=P.take c:=by
 have:=wbb (List.take c) h
 rwa [wcD,wcD,wbm hc] at this
def zmK {d:Nat}(h:Q.take d=P.take d)(hc:c<d):Q[c]?=P[c]?:=by
 have:=wbb (λx=>x[c]?) h
 rwa [waR,waR,if_pos hc,if_pos hc] at this
def Hs.step (h:Hs P l E)(hc:c<=P.length)(hy:y∉E.map (·.2)):Hs (stp P c) (l.take c++[y]) (E++[(stp P c,y)])/\∀q∈E,Rl q (stp P c,y,l.take c):=by
 have hyl:y∉l:=λz=>hy (h.sub y z)
 have hcl:c<=l.length:=by rw[<-h.len];exact hc
 have key:∀q∈E,((∃d,d<(stp P c).length/\q.1=(stp P c).take (d+1)/\(l.take c++[y])[d]?=some q.2)/\Px q.1 (stp P c)/\q.2∈l.take c)\/(Lt q.1 (stp P c)/\q.2∉l.take c++[y]):=by
  intro q hq;have hqy:q.2≠y:=λz=>hy (z▸waO.mpr ⟨q,hq,rfl⟩)
  have nol:q.2∉l.take c->q.2∉l.take c++[y]:=λh1 h2=>by
   rcases waz.mp h2 with h2|h2
   .exact h1 h2
   .exact hqy (wal.mp h2)
  rcases h.hi q hq with⟨d,hd,e1,e2⟩|⟨⟨d,a,b,ht,ha,hb,hab⟩,hn⟩
  .by_cases hdc:d<c
   .left
    have e3:q.1=(stp P c).take (d+1):=by rw[zc4 (by omega) hc];exact e1
    have hl:d<(stp P c).length:=by rw[zcp hc];omega
    have hm:(l.take c)[d]?=some q.2:=by rw[waR,if_pos hdc];exact e2
    exact⟨⟨d,hl,e3,by rw[waI (by rw[waB];omega)];exact hm⟩,⟨d,hl,e3⟩,waE hm⟩
   .right
    have hcl':c<P.length:=by omega
    refine⟨zmI hc (wan hcl') (a:=P[c]) ?_ (wai _) ?_,nol λz=>?_⟩
    .rw[e1,waR,if_pos (by omega)];exact wan hcl'
    .rw[e1,wcD,wbm (by omega)]
    .obtain⟨i,hi⟩:=waW z;rw[waR] at hi;split at hi
     .rename_i hic
      have:=(wbR (wae.mp hi).1 h.nd).mp (hi.trans e2.symm)
      omega
     .cases hi
  .right
   have hn':q.2∉l.take c++[y]:=nol λz=>hn (wbT z)
   by_cases hdc:d<c
   .exact⟨⟨d,a,b,by rw[zc4 (by omega) hc];exact ht,ha,by rw[zoC hdc hc];exact hb,hab⟩,hn'⟩
   .have hdl:=(wae.mp hb).1
    have hcl':c<P.length:=by omega
    refine⟨?_,hn'⟩;by_cases e:d=c
    .subst e;exact zmI hc hb ha (by omega) ht
    .exact zmI hc (wan hcl') ((zmK ht (by omega)).trans (wan hcl')) (wai _) (zmJ ht (by omega))
 refine⟨⟨?_,?_,?_,?_⟩,λq hq=>?_⟩
 .rw[zcp hc,wap,waB,wbm hcl];rfl
 .rw[wbg];refine⟨h.nd.sublist (List.take_sublist _ _),by simp,λa ha b hb e=>?_⟩;rw[wal.mp hb] at e;exact hyl (e▸wbT ha)
 .intro z hz;rw[waG];rcases waz.mp hz with hz|hz
  .exact waV _ (h.sub z (wbT hz))
  .exact was _ (by rw[wal.mp hz];exact wal.mpr rfl)
 .intro q hq;rcases waz.mp hq with hq|hq
  .rcases key q hq with⟨h1,_⟩|h2
   .exact .inl h1
   .exact .inr h2
  .rw[wal.mp hq];refine .inl ⟨c,by rw[zcp hc];omega,by rw[wcg (waX (zcp hc))],?_⟩;rw[waD (by rw[waB];omega),waB,wbm hcl,wbG];rfl
 .rcases key q hq with⟨_,h1,h2⟩|⟨h1,h2⟩
  .exact⟨λ_=>h1,λz=>absurd h2 z⟩
  .exact⟨λz=>absurd (waV _ z) h2,λ_=>h1⟩
end
def Ch:Nat->List (Nat×Str)->Prop
|_,[]=>True
|m,q::S=>q.1<=m/\Ch (q.1+1) S
theorem zk8:∀(S:List (Nat×Str)) (P:List Nat) (l:List Str) (E:List (List Nat×Str)),Hs P l E->Ch P.length S->(E.map (·.2)++S.map (·.2)).Nodup->(∀q∈E,∀b∈tz P l S,Rl q b)/\(tz P l S).Pairwise λa b=>Rl (a.1,a.2.1) b
|[],_,_,_,_,_,_=>⟨λ_ _ _ hb=>(by cases hb),List.Pairwise.nil⟩
|q::S,P,l,E,h,hc,nd=>by
   rw[waL,List.append_cons] at nd;have hy:q.2∉E.map (·.2):=λz=>(wbg.mp (wbg.mp nd).1).2.2 _ z _ (wal.mpr rfl) rfl
   obtain⟨h1,h2⟩:=h.step (c:=q.1) (y:=q.2) hc.1 hy;obtain⟨g1,g2⟩:=zk8 S (stp P q.1) (l.take q.1++[q.2]) (E++[(stp P q.1,q.2)]) h1 (by rw[zcp hc.1];exact hc.2) (by rw[waG];exact nd);refine⟨λp hp b hb=>?_,List.pairwise_cons.mpr ⟨λb hb=>g1 _ (was _ (wal.mpr rfl)) b hb,g2⟩⟩;rcases waf.mp hb with rfl|hb
   .exact h2 p hp
   .exact g1 p (waV _ hp) b hb
def dn (x:Itm):Nat×Str:=(x.dp,x.nm)
theorem zoE:∀{m:Nat}{L:List Itm},Vd m L->Ch m (L.map dn)
|_,_,.nil=>trivial
|_,_,.cons hm _ t=>⟨hm,zoE t⟩
theorem zoF:∀{P:List Nat}{l:List Str}{L:List Itm},(trR P L).map (λq=>(q.1,q.2.1.nm))=(tz P l (L.map dn)).map λb=>(b.1,b.2.1)
|_,_,[]=>rfl
|P,l,x::S=>by
   show(stp P x.dp,x.nm)::(trR (stp P x.dp) S).map _=(stp P x.dp,x.nm)::(tz (stp P x.dp) (l.take x.dp++[x.nm]) (S.map dn)).map _
   rw[zoF (l:=l.take x.dp++[x.nm])]
def zoG {L:List Itm}(v:Vd 0 L)(nd:(L.map Itm.nm).Nodup){i j:Nat}(hij:i<j){p q:List Nat×Itm×List D}(ei:(trR [] L)[i]?=some p)(ej:(trR [] L)[j]?=some q){b:List Nat×Str×List Str}(eb:(tz [] [] (L.map dn))[j]?=some b):Rl (p.1,p.2.1.nm) (q.1,q.2.1.nm,b.2.2):=by
 have h:=(zk8 (L.map dn) [] [] [] ⟨rfl,wbi,(λy h=>by cases h),(λq h=>by cases h)⟩ (zoE v) (by rw[wbl];exact nd)).2
 have e:=zoF (P:=[]) (l:=[]) (L:=L)
 have e1:=wbb (λx=>x[i]?) e
 have e2:=wbb (λx=>x[j]?) e
 rw[war,war,ei] at e1;rw[war,war,ej,eb] at e2;obtain⟨a,ea,e1⟩:=wbr.mp e1.symm;have e2:=wau e2
 obtain⟨la,ha⟩:=wae.mp ea;obtain⟨lb,hb⟩:=wae.mp eb;have r:=List.pairwise_iff_getElem.mp h i j la lb hij
 rw[ha,hb] at r;rw[show(p.1,p.2.1.nm)=(a.1,a.2.1) from e1.symm,show q.1=b.1 from wbb Prod.fst e2];exact r
def zfx {xs:List D}{n:Nat}:VD.cut xs none (some (n:Int))=xs.take n:=by
 by_cases h:n<=xs.length
 .rw[zgz (by omega) (by omega),wbE]
 .unfold VD.cut HT.sIx;try dsimp only[]
  rw[if_neg (by omega),wcC,Nat.sub_zero,Nat.min_eq_right (by omega),List.take_length,wcg (by omega)]
theorem zi6:∀{A B:List Nat},inD A=inD B->A=B
|[],[],_=>rfl
|[],_::_,h=>by cases h
|_::_,[],h=>by cases h
|a::A,b::B,h=>by
   have h:D.int (a:Int)::inD A=D.int (b:Int)::inD B:=h
   injection h with h1 h2
   injection h1 with h1
   rw[zi6 h2,Int.ofNat.inj h1]
theorem zi7:∀{A B:List Nat},A.length=B.length->zdn (inD A) (inD B)=true
|[],[],_=>rfl
|[],_::_,h=>by cases h
|_::_,[],h=>by cases h
|a::A,b::B,h=>by
   have ih:=zi7 (A:=A) (B:=B) (Nat.succ.inj h)
   show(zdn (D.int (a:Int)::inD A) (D.int (b:Int)::inD B))=true
   unfold zdn;rw[ih];rfl
def nst (A B:List Nat):Bool:=decide (A.take (min A.length B.length)=B.take (min A.length B.length))
def zmL (A B:List Nat):zaH [.tup (inD A),.tup (inD B)]=some (.bl (nst A B)):=by
 show zbI (.tup (inD A)) (.tup (inD B))=_
 unfold zbI;show Option.bind (some (D.int (if((inD B).length:Int)<((inD A).length:Int) then((inD B).length:Int) else((inD A).length:Int)))) _=_
 have hm:(if((inD B).length:Int)<((inD A).length:Int) then((inD B).length:Int) else((inD A).length:Int))=((min A.length B.length:Nat):Int):=by
  unfold inD;rw[wam,wam];split <;> omega
 rw[hm,zOB];show Option.bind (dEqG false (.tup (VD.cut (inD A) none (some ((min A.length B.length:Nat):Int)))) (.tup (VD.cut (inD B) none (some ((min A.length B.length:Nat):Int))))) _=_
 have tk:∀C:List Nat,(inD C).take (min A.length B.length)=inD (C.take (min A.length B.length)):=λC=>(List.map_take ..).symm
 rw[zfx,zfx,tk,tk];have hl:(A.take (min A.length B.length)).length=(B.take (min A.length B.length)).length:=by rw[waB,waB];omega
 unfold nst;generalize A.take (min A.length B.length)=X at hl⊢;generalize B.take (min A.length B.length)=Y at hl⊢;have hc:eqC (.tup (inD X)) (.tup (inD Y))=true:=by
  unfold eqC;rw[show eqOk (.tup (inD X)) (.tup (inD Y))=true from zi7 hl,show ndD (.tup (inD X))=true from(zga X).1,show ndD (.tup (inD Y))=true from(zga Y).1,waA (show depD (.tup (inD X))<=40 by show depL (inD X)+1<=40;have:=(zga X).2;omega)];rfl
 unfold dEqG;rw[if_pos hc];have hd:decide (D.tup (inD X)=D.tup (inD Y))=decide (X=Y):=decide_eq_decide.mpr ⟨λz=>zi6 (D.tup.inj z),λz=>by rw[z]⟩
 show some (D.bl (decide (D.tup (inD X)=D.tup (inD Y))))=_
 rw[hd]
def zoH {A B:List Nat}(h:Lt A B):nst A B=false:=by
 obtain⟨d,a,b,_,ha,hb,hab⟩:=h;have la:=(wae.mp ha).1
 have lb:=(wae.mp hb).1
 refine wat λz=>?_
 have:=wbb (λx=>x[d]?) z
 rw[waR,waR,if_pos (by omega),if_pos (by omega),ha,hb] at this;have:=wau this
 omega
abbrev Tp:=List Nat×Itm×List D
def GdH (T:List Tp)(q:Tp):Prop:=q.2.1.hd=none\/∃p∈T,q.2.1.hd=some p.2.1.nm/\nst p.1 q.1=false
section
variable {L:List Itm}(nd:(L.map Itm.nm).Nodup)
def zoI {p:Tp}(hp:p∈trR [] L):hasK ((trR [] L).map kyR) (.inr p.2.1.nm)=true:=by
 unfold hasK;rw[List.any_eq_true];exact⟨kyR p,waO.mpr ⟨p,hp,rfl⟩,waA rfl⟩
def zpD {h:Str}(hn:∀p∈trR [] L,p.2.1.nm≠h):hasK ((trR [] L).map kyR) (.inr h)=false:=by
 unfold hasK;rw[List.any_eq_false];intro x hx hh;have hh:=wbS hh
 obtain⟨p,hp,rfl⟩:=waO.mp hx;exact hn p hp (Sum.inr.inj hh)
include nd
theorem zmM {q:Tp}{h:Str}{b:Bool}(hb:((∀p∈trR [] L,p.2.1.nm≠h)/\b=true)\/∃p∈trR [] L,p.2.1.nm=h/\nst p.1 q.1=b):(Option.bind (Option.bind ((dInG true) (.str h) (plsD L)) dB) λk8=>if k8 then some true else(Option.bind (Option.bind (aC (dGet (plsD L) (.str h)) (aC (some (plR q)) aN)) zaH) dTru))=some b:=by
 show(Option.bind (Option.bind (some (D.bl (!hasK ((trR [] L).map kyR) (.inr h)))) dB) λk8=>if k8 then some true else(Option.bind (Option.bind (aC (dGet (plsD L) (.str h)) (aC (some (plR q)) aN)) zaH) dTru))=some b
 rcases hb with⟨hn,rfl⟩|⟨p,hp,rfl,hb⟩
 .rw[zpD hn];rfl
 .have hg:dGet (plsD L) (.str p.2.1.nm)=some (plR p):=zi4 (k:=kyR) (v:=plR) hp (zgK nd)
  rw[zoI hp,hg];show Option.bind (zaH [.tup (inD p.1),.tup (inD q.1)]) dTru=_
  rw[zmL,hb];rfl
end
theorem zgL {f:Unit->D->Option Unit}{g:Tp->D}:∀{E:List Tp},(∀q∈E,f () (g q)=some ())->zaX f () (E.map g)=some ()
|[],_=>rfl
|q::E,h=>by
   show(f () (g q)).bind (λs=>zaX f s (E.map g))=_
   rw[h q wah,zOB];exact zgL λy hy=>h y (wad _ hy)
section
variable {L:List Itm}(t:Vd 0 L)(nd:(L.map Itm.nm).Nodup)(hl:L.length<=1000)
include t nd hl
theorem zmN (hg:∀q∈trR [] L,GdH (trR [] L) q):zbl [.tup (fo L 0)]=some .non:=by
 show zbk (.tup (fo L 0))=_
 unfold zbk;rw[zpC t hl,zOB];show Option.bind (Option.bind (zdL _ ((trR [] L).map enR) ([],[])) _) _=_
 rw[zi5 nd hl,zOB,zOB];show Option.bind (zaX _ () ((trR [] L).map enR)) _=_
 rw[zgL λq hq=>?_]
 .rfl
 .rw[show un2 (enR q)=some (plR q,ptR q) from rfl,zOB];show Option.bind (dIx (ptR q) (.int 4)) _=_
  rw[show dIx (ptR q) (.int 4)=some (hdO q.2.1.hd) from ziR ..,zOB];rcases hg q hq with e|⟨p,hp,e,hb⟩
  .rw[e];rfl
  .rw[e];show Option.bind (Option.bind (Option.bind ((dInG true) (.str p.2.1.nm) (plsD L)) dB) λk8=>if k8 then some true else(Option.bind (Option.bind (aC (dGet (plsD L) (.str p.2.1.nm)) (aC (some (plR q)) aN)) zaH) dTru)) _=_
   rw[zmM nd (b:=false) (.inr ⟨p,hp,rfl,hb⟩)];rfl
end
def hdM (x:Itm):List (Str×Str):=match x.hd with
|some h=>[(h,x.nm)]
|none=>[]
def mus:List Itm->List (Str×Str)
|[]=>[]
|x::S=>((fo S (x.dp+1)).map λd=>(x.nm,(nr d).2))++hdM x++mus S
def zmO (x:Itm):(hdM x).length<=1:=by
 unfold hdM;split <;> simp
theorem zgb:∀{L:List Itm},(mus L).length<=L.length*L.length+L.length
|[]=>wai _
|x::S=>by
   show(((fo S (x.dp+1)).map λd=>(x.nm,(nr d).2))++hdM x++mus S).length<=(S.length+1)*(S.length+1)+(S.length+1)
   rw[wap,wap,wam];have h1:=zfu (S:=S) (d:=x.dp+1)
   have h2:=zgb (L:=S)
   have h3:=zmO x
   rw[Nat.add_mul,Nat.mul_add,Nat.mul_one,Nat.one_mul];omega
def Ahd:List Str->List Itm->Prop
|_,[]=>True
|e,x::S=>(∀h,x.hd=some h->h∈e)/\Ahd (e++[x.nm]) S
theorem zi8:∀{L pre:List Itm}{q:Str×Str},Ahd (pre.map Itm.nm) L->q∈mus L->Fwd ((pre++L).map Itm.nm) q
|[],_,_,_,h=>by cases h
|x::S,pre,q,ha,h=>by
   rcases waz.mp (show q∈((fo S (x.dp+1)).map λd=>(x.nm,(nr d).2))++hdM x++mus S from h) with h|h
   .rcases waz.mp h with h|h
    .obtain⟨d,hd,rfl⟩:=waO.mp h;obtain⟨y,hy,inn,rfl⟩:=zgJ hd;obtain⟨k,hk⟩:=waW hy;refine⟨pre.length,pre.length+1+k,by omega,?_,?_⟩
     .rw[war,waD (wai _),wbG];rfl
     .rw[war,waD (by omega),show pre.length+1+k - pre.length=k+1 by omega,List.getElem?_cons_succ,hk];rfl
    .unfold hdM at h;cases e:x.hd with
    |none=>rw[e] at h;cases h
    |some y=>
       rw[e] at h;rw[wal.mp h];obtain⟨k,hk⟩:=waW (ha.1 y e);have lk:=(wae.mp hk).1
       rw[wam] at lk;refine⟨k,pre.length,lk,?_,?_⟩
       .rw[waG,waI (by rw[wam];exact lk)];exact hk
       .rw[war,waD (wai _),wbG];rfl
   .have:=zi8 (pre:=pre++[x]) (by rw[waG];exact ha.2) h
    rwa [waN] at this
def zkt {L:List Itm}(t:Vd 0 L)(hl:L.length<=40):zcD [.tup (fo L 0)]=some (.lst ((mus L).map prD)):=by
 show zcC (.tup (fo L 0))=_
 unfold zcC;rw[zOB,zgH t (by omega)];generalize hf:(λ(s2:List D) (d3:D)=>(Option.bind (Option.bind (Option.bind (Option.bind (Option.bind (dIx d3 (.int 5)) dSeq) _) λds=>some (.lst ds)) (extL s2)) λ(x5:List D)=>_))=f;show Option.bind (zaX f [] ((trL [] L).map (·.2))) _=_
 have stp:∀(x:Itm) (S:List Itm) (M0:List (Str×Str)),S.length<=44->M0.length<=2000->f (M0.map prD) (part x 0 (fo S (x.dp+1)))=some ((M0++(((fo S (x.dp+1)).map λd=>(x.nm,(nr d).2))++hdM x)).map prD):=by
  intro x S M0 hs hM;rw[<-hf];dsimp only[];rw[(zdc x 0 _).2.2.2,ziR,(zdc x 0 _).1];show Option.bind (Option.bind (Option.bind (zci _ (fo S (x.dp+1))) _) _) _=_
  have hc:zci (λd4=>(Option.bind (Option.bind (aC (some (.str x.nm)) (aC (dIx d4 (.int 0)) aN)) mkT) λz=>some (some z))) (fo S (x.dp+1))=some (((fo S (x.dp+1)).map λd=>(x.nm,(nr d).2)).map prD):=by
   have:=zdJ (f:=λd4=>(Option.bind (Option.bind (aC (some (.str x.nm)) (aC (dIx d4 (.int 0)) aN)) mkT) λz=>some (some z))) (λd=>d) (λd=>prD (x.nm,(nr d).2)) (xs:=fo S (x.dp+1)) (waq zfu (by omega)) λd hd=>by
    obtain⟨y,hy,inn,rfl⟩:=zgJ hd;rw[(zdc y 0 _).1];rfl
   rw[List.map_id'] at this;rw[this,wbl];rfl
  have hfl:=zfu (S:=S) (d:=x.dp+1)
  rw[hc,zOB,zOB];have hx:extL (M0.map prD) (.lst (((fo S (x.dp+1)).map λd=>(x.nm,(nr d).2)).map prD))=some ((M0++(fo S (x.dp+1)).map λd=>(x.nm,(nr d).2)).map prD):=by
   rw[waG];exact if_pos (waq (by
    rw[wap,wam,wam,wam];omega:_<=2044) (by decide))
  rw[hx,zOB];unfold hdM;cases x.hd with
 |none=>rw[waY];rfl
 |some h=>
    show Option.bind (Option.bind (appL ((M0++(fo S (x.dp+1)).map λd=>(x.nm,(nr d).2)).map prD) (prD (h,x.nm))) _) _=_
    rw[zfT (wbx (by rw[wam,wap,wam];omega:_<=2044) (by decide)),<-waN,waG (l₁:=M0++_)];rfl
 have key:∀(L:List Itm) (P:List Nat) (M0:List (Str×Str)),L.length<=44->M0.length+(mus L).length<=2000->zaX f (M0.map prD) ((trL P L).map (·.2))=some ((M0++mus L).map prD):=by
  intro L;induction L with
 |nil=>intro P M0 _ _;show some _=_;rw[show mus [] = [] from rfl,waY]
 |cons x S ih=>
    intro P M0 hs hM;rw[show mus (x::S)=((fo S (x.dp+1)).map λd=>(x.nm,(nr d).2))++hdM x++mus S from rfl,wap] at hM;rw[wbp] at hs;show(f (M0.map prD) (part x 0 (fo S (x.dp+1)))).bind (λs=>zaX f s ((trL (Pg.stp P x.dp) S).map (·.2)))=_
    rw[stp x S M0 (by omega) (by omega),zOB,ih _ _ (by omega) (by rw[wap];omega),waN];rfl
 have h2:(mus L).length<=2000:=waq zgb (waq (Nat.add_le_add (wcB hl hl) hl) (by decide))
 have:=key L [] [] (by omega) (by rw[wcu];omega)
 rw[show zaX f [] ((trL [] L).map (·.2))=_ from this];rfl
def zd0 (at_ th d3 x11:D):Option D:=
 (Option.bind (Option.bind (Option.bind ((dEqG false) d3 at_) dB) λk16=>if k16 then(Option.bind (Option.bind (dIx th (.int 0)) λv15=>(dLt v15 (.int 6))) dB) else some false) λk14=>if k14 then(Option.bind (Option.bind (Option.bind (Option.bind (Option.bind (dIx th (.int 0)) λd=>Option.bind (dInt d) λi=>some (some i)) λv17=>(dSl x11 none v17)) λv18=>(Option.bind (Option.bind (aC (dIx th (.int 1)) aN) mkT) λv19=>(zb2 v18 v19))) λv22=>(Option.bind (Option.bind (Option.bind (Option.bind (dIx th (.int 0)) λv20=>(zb2 v20 (.int 1))) λd=>Option.bind (dInt d) λi=>some (some i)) λv21=>(dSl x11 v21 none)) λv23=>(zb2 v22 v23))) λ(x24:D)=>(some x24)) else(Option.bind (Option.bind (Option.bind ((dEqG false) d3 at_) dB) λk25=>if k25 then(Option.bind (Option.bind (Option.bind (Option.bind (aC (bList [x11]) (aC (dSl x11 none (some 5)) (aC (Option.bind (Option.bind (aC (dIx x11 (.int 5)) aN) mkT) λv26=>(zb2 x11 v26)) (aC (dIx x11 (.int 0)) (aC (some D.non) (aC (Option.bind (dSl x11 none (some 5)) λv27=>(Option.bind (Option.bind (aC (Option.bind (aC (dIx x11 (.int 5)) aN) bList) aN) mkT) λv28=>(zb2 v27 v28))) aN)))))) mkLs) λds=>some (.lst ds)) λv30=>(Option.bind (Option.bind (dIx th (.int 1)) λv29=>(dMod v29 (.int 6))) λv31=>(dIx v30 v31))) λ(x32:D)=>(some x32)) else(some x11)) λ(s33:D)=>(some s33)))
def foT (τ:Nat->D->D):Nat->List Itm->Nat->List D
|_,[],_=>[]
|k,x::S,d=>if d=x.dp then τ k (part x 0 (foT τ (k+1) S (d+1)))::foT τ (k+1) S d else if d=x.dp+1 then[] else foT τ (k+1) S d
theorem zi9:∀{k:Nat}{S:List Itm}{d:Nat},foT (λ_ p=>p) k S d=fo S d
|_,[],_=>rfl
|k,x::S,d=>by
   show(if d=x.dp then part x 0 (foT (λ_ p=>p) (k+1) S (d+1))::foT (λ_ p=>p) (k+1) S d else if d=x.dp+1 then[] else foT (λ_ p=>p) (k+1) S d)=(if d=x.dp then part x 0 (fo S (d+1))::fo S d else if d=x.dp+1 then[] else fo S d)
   rw[zi9,zi9]
section
variable {τ:Nat->D->D}
def wt7 (τ:Nat->D->D)(k:Nat)(S:List Itm):List D:=[.lst (foT τ k S 0).reverse,.lst (foT τ k S 1).reverse,.lst (foT τ k S 2).reverse,.lst (foT τ k S 3).reverse,.lst (foT τ k S 4).reverse,.lst (foT τ k S 5).reverse,.lst (foT τ k S 6).reverse]
theorem zja:∀{k:Nat}{S:List Itm}{d:Nat},(foT τ k S d).length<=S.length
|_,[],_=>wai _
|k,x::S,d=>by
   show(if d=x.dp then τ k (part x 0 (foT τ (k+1) S (d+1)))::foT τ (k+1) S d else if d=x.dp+1 then[] else foT τ (k+1) S d).length<=S.length+1
   have:=zja (k:=k+1) (S:=S) (d:=d)
   split
   .simp;omega
   .split
    .simp
    .omega
def zku {x:Itm}{k:Nat}{S:List Itm}{e:Nat}(h:x.dp=e)(d:Nat):foT τ k (x::S) d=if d=e then τ k (part x 0 (foT τ (k+1) S (e+1)))::foT τ (k+1) S d else if d=e+1 then[] else foT τ (k+1) S d:=by
 show(if d=x.dp then τ k (part x 0 (foT τ (k+1) S (d+1)))::foT τ (k+1) S d else if d=x.dp+1 then[] else foT τ (k+1) S d)=_
 rw[h];by_cases z:d=e
 .subst z;simp
 .rw[if_neg z,if_neg z]
def zoJ {k:Nat}{S:List Itm}{e:Nat}(he:e<=4):zj7 (wt7 τ k S) [] (.int (e+1))=some ((wt7 τ k S).set (e+1) (.lst [])):=by
 match e,he with
|0,_=>rfl
|1,_=>rfl
|2,_=>rfl
|3,_=>rfl
|4,_=>rfl
def zpE {k:Nat}{S:List Itm}{e:Nat}(he:e<=4):ix2C (wt7 τ k S) (.int (e+1))=some (.lst (foT τ k S (e+1)).reverse):=by
 match e,he with
|0,_=>rfl
|1,_=>rfl
|2,_=>rfl
|3,_=>rfl
|4,_=>rfl
def zoK {x:Itm}{k:Nat}{S:List Itm}{e:Nat}(he:e<=4)(h:x.dp=e)(hs:S.length<=1000):zmg ((wt7 τ (k+1) S).set (e+1) (.lst [])) (.int e) (τ k (part x 0 (foT τ (k+1) S (e+1))))=some (wt7 τ k (x::S)):=by
 have hb:∀d,(foT τ (k+1) S d).reverse.length<lim:=λd=>wbx (by rw[wbX];exact waq zja hs) (by decide:1000<lim)
 have fc:=zku (τ:=τ) (k:=k) (S:=S) h
 match e,he with
|0,_=>
   show(if(foT τ (k+1) S 0).reverse.length<lim then _ else none)=_
   rw[if_pos (hb 0)];simp[wt7,fc]
|1,_=>
   show(if(foT τ (k+1) S 1).reverse.length<lim then _ else none)=_
   rw[if_pos (hb 1)];simp[wt7,fc]
|2,_=>
   show(if(foT τ (k+1) S 2).reverse.length<lim then _ else none)=_
   rw[if_pos (hb 2)];simp[wt7,fc]
|3,_=>
   show(if(foT τ (k+1) S 3).reverse.length<lim then _ else none)=_
   rw[if_pos (hb 3)];simp[wt7,fc]
|4,_=>
   show(if(foT τ (k+1) S 4).reverse.length<lim then _ else none)=_
   rw[if_pos (hb 4)];simp[wt7,fc]
def zjb {at_ th:D}{L:List Itm}(hb:∀(k:Nat) (x:Itm) (inn:List D),zd0 at_ th (.int (k:Int)) (part x 0 inn)=some (τ k (part x 0 inn)))(h4:∀x∈L,x.dp<=4)(hl:L.length<=1000):za5 [GB.rowsD L,at_,th]=some (.tup (foT τ 0 L 0)):=by
 show zb6 (.lst (L.map Itm.d)) at_ th=_
 unfold zb6;rw[zOB];have hn:(Option.bind (aC (bLen [.lst (L.map Itm.d)]) aN) znZ)=some (zaS 0 L.length).reverse:=by
  show(if(0:Int)<=((L.map Itm.d).length:Int)/\((L.map Itm.d).length:Int)<=1000000 then some (zaS 0 (((L.map Itm.d).length:Nat):Int).toNat).reverse else none)=_
  rw[wam,if_pos ⟨by omega,by omega⟩,wbE]
 rw[hn];generalize hf:(λ(s2:List D) (d3:D)=>(Option.bind (Option.bind (dIx (.lst (L.map Itm.d)) d3) λv4=>(dIx v4 (.int 0))) λ(x5:D)=>_))=f;have stp:∀(k:Nat) (x:Itm) (S:List Itm),L[k]?=some x->S.length<=1000->f (wt7 τ (k+1) S) (.int (k:Int))=some (wt7 τ k (x::S)):=by
  intro k x S er hs';obtain⟨e,he⟩:∃e,x.dp=e:=⟨_,rfl⟩
  have e4:e<=4:=by rw[<-he];exact h4 x (waE er)
  rw[<-hf];have b0:dIx x.d (.int 0)=some (.int (e:Int)):=by rw[<-he];exact zaR (j:=0) rfl
  have b3:zb2 (.int (e:Int)) (.int 1)=some (.int ((e:Int)+1)):=rfl
  have b4:dSl x.d (some 1) none=some (.tup [.str x.nm,x.bx,.str x.wd,.int x.rk,hdO x.hd]):=rfl
  have br:dIx (.lst (L.map Itm.d)) (.int (k:Int))=some x.d:=zaR (j:=k) (by rw[war,er];rfl)
  dsimp only[];have hw:(Option.bind (zb2 (.int (e:Int)) (.int 1)) λv7=>ix2C (wt7 τ (k+1) S) v7)=some (.lst (foT τ (k+1) S (e+1)).reverse):=by rw[b3];exact zpE e4
  have hp:(Option.bind (zb2 (.int (e:Int)) (.int 1)) λv12=>zj7 (wt7 τ (k+1) S) [] v12)=some ((wt7 τ (k+1) S).set (e+1) (.lst [])):=by rw[b3];exact zoJ e4
  rw[br,zOB,b0,zOB,zOB,b4,hw,hp];show Option.bind (Option.bind (Option.bind (aC (Option.bind (some [D.lst (foT τ (k+1) S (e+1)).reverse.reverse]) bTuple) aN) mkT) λv10=>zb2 (.tup [.str x.nm,x.bx,.str x.wd,.int x.rk,hdO x.hd]) v10) _=_
  rw[List.reverse_reverse];show Option.bind (mkT ([.str x.nm,x.bx,.str x.wd,.int x.rk,hdO x.hd]++[.tup (foT τ (k+1) S (e+1))])) _=_
  rw[show mkT ([.str x.nm,x.bx,.str x.wd,.int x.rk,hdO x.hd]++[.tup (foT τ (k+1) S (e+1))])=some (part x 0 (foT τ (k+1) S (e+1))) from if_pos (by show 6<=lim;decide),zOB,zOB];show Option.bind (zd0 at_ th (.int (k:Int)) (part x 0 (foT τ (k+1) S (e+1)))) _=_
  rw[hb,zOB,zoK (x:=x) (e:=e) e4 he hs'];rfl
 have key:∀j:Nat,j<=L.length->zaX f (wt7 τ L.length []) ((((List.range L.length).drop (L.length - j)).map λ(i:Nat)=>D.int (i:Int)).reverse)=some (wt7 τ (L.length - j) (L.drop (L.length - j))):=by
  intro j;induction j with
 |zero=>
    intro _;rw[wcf (by rw[List.length_range];omega),wcf (by omega)];rfl
 |succ j ih=>
    intro hj;obtain⟨k,hk⟩:∃k,L.length - (j+1)=k:=⟨_,rfl⟩
    have hk1:L.length - j=k+1:=by omega
    have kl:k<L.length:=by omega
    have er:L[k]?=some L[k]:=wan kl
    rw[hk,wbV (show k<(List.range L.length).length by rw[List.length_range];exact kl),wbV kl,List.getElem_range,waL,wbP,zeh];have ih:=ih (by omega)
    rw[hk1] at ih;rw[ih,zOB];exact stp k _ _ er (by rw[List.length_drop];omega)
 have hr:(zaS 0 L.length).reverse=(((List.range L.length).drop (L.length - L.length)).map λ(i:Nat)=>D.int (i:Int)).reverse:=by
  rw[wbG,wcC];unfold zaS;congr 2;funext i
  rw[Int.zero_add]
 rw[hr];show Option.bind (zaX f (wt7 τ L.length []) _) _=_
 rw[key L.length (wai _),wbG,wcC,zOB];show Option.bind (bTuple [.lst (foT τ 0 L 0).reverse.reverse]) _=_
 rw[List.reverse_reverse];rfl
end
def zeI (p:Nat)(v:D):D->D
|.tup [a,b,c,d,e,f]=>match p with
  |0=>.tup [v,b,c,d,e,f]
  |1=>.tup [a,v,c,d,e,f]
  |2=>.tup [a,b,v,d,e,f]
  |3=>.tup [a,b,c,v,e,f]
  |4=>.tup [a,b,c,d,v,f]
  |_=>.tup [a,b,c,d,e,v]
|z=>z
def zkv (j:Nat):D->D
|.tup [a,b,c,d,e,.tup f]=>match j with
  |0=>.lst [a,b,c,d,e,.tup f]
  |1=>.tup [a,b,c,d,e]
  |2=>.tup [a,b,c,d,e,.tup f,.tup f]
  |3=>a
  |4=>.non
  |_=>.tup [a,b,c,d,e,.lst f]
|z=>z
def Bnd (th:D)(β:D->D):Prop:=
 (∀(at_ k:Nat) (x:Itm) (inn:List D),zd0 (.int (at_:Int)) th (.int (k:Int)) (part x 0 inn)=some (if k=at_ then β (part x 0 inn) else part x 0 inn))/\
 ∀(x:Itm) (inn:List D) (n:Nat) (deep:Int),Gd x->zal (zaf (n+1)) [β (part x 0 inn),.int deep]=some (.bl false)
def zjc {a b:Nat}:dEqG false (.int (a:Int)) (.int (b:Int))=some (.bl (decide (a=b))):=by
 rw[zdr,decide_eq_decide.mpr Int.ofNat_inj]
def zjd {at_ k:Nat}{th p:D}(h:k≠at_):zd0 (.int (at_:Int)) th (.int (k:Int)) p=some p:=by
 unfold zd0;rw[zjc,wat h];rfl
def zje {k:Nat}{p:D}:zd0 (.int (0 - 1)) .non (.int (k:Int)) p=some p:=by
 unfold zd0;rw[zdr,wat (by omega)];rfl
def zmP {at_:Nat}{v:D}{x:Itm}{inn:List D}{p:Nat}(hp:p<6):zd0 (.int (at_:Int)) (.tup [.int (p:Int),v]) (.int (at_:Int)) (part x 0 inn)=some (zeI p v (part x 0 inn)):=by
 unfold zd0;rw[zjc,waA rfl];match p,hp with
|0,_=>rfl
|1,_=>rfl
|2,_=>rfl
|3,_=>rfl
|4,_=>rfl
|5,_=>rfl
def zoL {at_:Nat}{x:Itm}{inn:List D}{j:Nat}(hj:j<6):zd0 (.int (at_:Int)) (.tup [.int 6,.int (j:Int)]) (.int (at_:Int)) (part x 0 inn)=some (zkv j (part x 0 inn)):=by
 unfold zd0;rw[zjc,waA rfl];match j,hj with
|0,_=>rfl
|1,_=>rfl
|2,_=>rfl
|3,_=>rfl
|4,_=>rfl
|5,_=>rfl
def zei {p:Nat}{v:D}(hp:p<6)(h:∀(x:Itm) (inn:List D) (n:Nat) (deep:Int),Gd x->zal (zaf (n+1)) [zeI p v (part x 0 inn),.int deep]=some (.bl false)):Bnd (.tup [.int (p:Int),v]) (zeI p v):=
 ⟨λat_ k x inn=>by
  by_cases e:k=at_
  .subst e;rw[if_pos rfl];exact zmP hp
  .rw[if_neg e];exact zjd e,h⟩
def zhr {j:Nat}(hj:j<6)(h:∀(x:Itm) (inn:List D) (n:Nat) (deep:Int),Gd x->zal (zaf (n+1)) [zkv j (part x 0 inn),.int deep]=some (.bl false)):Bnd (.tup [.int 6,.int (j:Int)]) (zkv j):=
 ⟨λat_ k x inn=>by
  by_cases e:k=at_
  .subst e;rw[if_pos rfl];exact zoL hj
  .rw[if_neg e];exact zjd e,h⟩
def zk9 {self:List D->Option D}{v b w r h i:D}{deep:Int}(e:zaC [v]=some (.bl false)):zal self [.tup [v,b,w,r,h,i],.int deep]=some (.bl false):=by
 show zaE self (.tup [v,b,w,r,h,i]) (.int deep)=_
 unfold zaE;show Option.bind (Option.bind (Option.bind (Option.bind (zaC [v]) dTru) λk12=>some (!k12)) λk11=>if k11 then some true else(Option.bind (Option.bind (Option.bind (zaJ [b]) dTru) λk10=>some (!k10)) λk9=>if k9 then some true else(Option.bind (Option.bind (zaL [w]) dTru) λk8=>some (!k8)))) _=_
 rw[e];rfl
def zoM {self:List D->Option D}{x:Itm}(g:Gd x){v w r h i:D}{deep:Int}(e:zaJ [v]=some (.bl false)):zal self [.tup [.str x.nm,v,w,r,h,i],.int deep]=some (.bl false):=by
 show zaE self (.tup [.str x.nm,v,w,r,h,i]) (.int deep)=_
 unfold zaE;show Option.bind (Option.bind (Option.bind (Option.bind (zaC [.str x.nm]) dTru) λk12=>some (!k12)) λk11=>if k11 then some true else(Option.bind (Option.bind (Option.bind (zaJ [v]) dTru) λk10=>some (!k10)) λk9=>if k9 then some true else(Option.bind (Option.bind (zaL [w]) dTru) λk8=>some (!k8)))) _=_
 rw[zdY g.nm,e];rfl
def zoN {self:List D->Option D}{x:Itm}(g:Gd x){v r h i:D}{deep:Int}(e:zaL [v]=some (.bl false)):zal self [.tup [.str x.nm,x.bx,v,r,h,i],.int deep]=some (.bl false):=by
 show zaE self (.tup [.str x.nm,x.bx,v,r,h,i]) (.int deep)=_
 unfold zaE;show Option.bind (Option.bind (Option.bind (Option.bind (zaC [.str x.nm]) dTru) λk12=>some (!k12)) λk11=>if k11 then some true else(Option.bind (Option.bind (Option.bind (zaJ [x.bx]) dTru) λk10=>some (!k10)) λk9=>if k9 then some true else(Option.bind (Option.bind (zaL [v]) dTru) λk8=>some (!k8)))) _=_
 rw[zdY g.nm,ziW g.c g.d,e];rfl
def zgc {self:List D->Option D}{x:Itm}(g:Gd x){r h i:D}{deep:Int}(e:(Option.bind (Option.bind (zaM [r]) dB) λk15=>if k15 then(Option.bind (Option.bind (za0 [h]) dB) λk14=>if k14 then self [i,.int (deep+1)] else some (.bl false)) else some (.bl false))=some (.bl false)):zal self [.tup [.str x.nm,x.bx,.str x.wd,r,h,i],.int deep]=some (.bl false):=by
 show zaE self (.tup [.str x.nm,x.bx,.str x.wd,r,h,i]) (.int deep)=_
 unfold zaE;show Option.bind (Option.bind (Option.bind (Option.bind (zaC [.str x.nm]) dTru) λk12=>some (!k12)) λk11=>if k11 then some true else(Option.bind (Option.bind (Option.bind (zaJ [x.bx]) dTru) λk10=>some (!k10)) λk9=>if k9 then some true else(Option.bind (Option.bind (zaL [.str x.wd]) dTru) λk8=>some (!k8)))) _=_
 rw[zdY g.nm,ziW g.c g.d,ziX g.wd];show Option.bind (Option.bind (Option.bind (zaM [r]) dB) λk15=>if k15 then(Option.bind (Option.bind (za0 [h]) dB) λk14=>if k14 then self [i,.int (deep+1)] else some (.bl false)) else some (.bl false)) _=_
 rw[e];rfl
def zoO {self:List D->Option D}{x:Itm}(g:Gd x){v h i:D}{deep:Int}(e:zaM [v]=some (.bl false)):zal self [.tup [.str x.nm,x.bx,.str x.wd,v,h,i],.int deep]=some (.bl false):=zgc g (by rw[e];rfl)
def zoP {self:List D->Option D}{x:Itm}(g:Gd x){v i:D}{deep:Int}(e:za0 [v]=some (.bl false)):zal self [.tup [.str x.nm,x.bx,.str x.wd,.int x.rk,v,i],.int deep]=some (.bl false):=zgc g (by rw[zf8 g.rk,e];rfl)
def zla {self:List D->Option D}{x:Itm}(g:Gd x){v:D}{deep:Int}(e:self [v,.int (deep+1)]=some (.bl false)):zal self [.tup [.str x.nm,x.bx,.str x.wd,.int x.rk,hdO x.hd,v],.int deep]=some (.bl false):=zgc g (by rw[zf8 g.rk,ziY g.hd];exact e)
def zcQ {n:Nat}{z:D}{deep:Int}(e:zal (zaf n) [z,.int deep]=some (.bl false)):zaf (n+1) [.tup [z],.int deep]=some (.bl false):=by
 by_cases h:5<deep
 .exact zks h
 .rw[zgI (λ_=>false) (by omega) λd hd=>by rw[wal.mp hd];exact e];rfl
def zoQ {v:D}(e:zaC [v]=some (.bl false)):Bnd (.tup [.int 0,v]) (zeI 0 v):=zei (p:=0) (by decide) λ_ _ _ _ _=>zk9 e
def zoR {v:D}(e:zaJ [v]=some (.bl false)):Bnd (.tup [.int 1,v]) (zeI 1 v):=zei (p:=1) (by decide) λ_ _ _ _ g=>zoM g e
def zoS {v:D}(e:zaL [v]=some (.bl false)):Bnd (.tup [.int 2,v]) (zeI 2 v):=zei (p:=2) (by decide) λ_ _ _ _ g=>zoN g e
def zoT {v:D}(e:zaM [v]=some (.bl false)):Bnd (.tup [.int 3,v]) (zeI 3 v):=zei (p:=3) (by decide) λ_ _ _ _ g=>zoO g e
def zoU {v:D}(e:za0 [v]=some (.bl false)):Bnd (.tup [.int 4,v]) (zeI 4 v):=zei (p:=4) (by decide) λ_ _ _ _ g=>zoP g e
def zoV {v:D}(e:∀(n:Nat) (deep:Int),zaf (n+1) [v,.int deep]=some (.bl false)):Bnd (.tup [.int 5,v]) (zeI 5 v):=zei (p:=5) (by decide) λ_ _ n _ g=>zla g (e n _)
def zoW:∀{j:Nat},j<6->Bnd (.tup [.int 6,.int (j:Int)]) (zkv j)
|0,h=>zhr h λ_ _ _ _ _=>rfl
|1,h=>zhr h λ_ _ _ _ _=>rfl
|2,h=>zhr h λ_ _ _ _ _=>rfl
|3,h=>zhr h λ_ _ _ _ _=>rfl
|4,h=>zhr h λ_ _ _ _ _=>rfl
|5,h=>zhr h λ_ _ _ _ g=>zla g rfl
def zlb {xs:List D}{P:D->Prop}{i:Int}(h:∀d∈xs,P d)(h0:0<=i)(h1:i<xs.length):∃d,dIx (.lst xs) (.int i)=some d/\P d:=by
 obtain⟨x,hx,e⟩:=zmd (xs:=xs) h0 h1;exact⟨x,e,h x (waE hx)⟩
def zbM {c p m:Int}(p0:0<p)(p1:p<1000000000)(m0:0<m):∃r,zan [.int c,.int p,.int m]=some (.int r)/\0<=r/\r<m:=by
 have hm:∀a b:Int,0<b->dMod (.int a) (.int b)=some (.int (a % b)):=λa b h=>if_pos h
 have hr:∀a b:Int,-(2 ^ 64)<b->b<2 ^ 64->dMul (.int a) (.int b)=some (.int (a*b)):=λa b h1 h2=>if_pos (show CMul a b from .inr ⟨h1,h2⟩)
 have ha:∀a b:Int,dAdd (.int a) (.int b)=some (.int (a+b)):=λ_ _=>rfl
 refine⟨c % 1000003*48271 % p*(c % 65521+3) % 2147483629 % m,?_,wbO _ (Int.ne_of_gt m0),Int.emod_lt_of_pos _ m0⟩
 .show zbL _ _ _=_
  unfold zbL;rw[hm _ _ (by decide),zOB,hr _ _ (by decide) (by decide),zOB,hm _ _ p0,zOB,hm _ _ (by decide),zOB,ha,zOB,hr _ _ (by have:=wbO c (b:=65521) (by decide);omega) (by have:=Int.emod_lt_of_pos c (b:=65521) (by decide);omega),zOB,hm _ _ (by decide),zOB,hm _ _ m0,zOB]
def zmQ (c p M:D):Option D:=Option.bind (Option.bind (aC (some p) (aC (Option.bind (zan [c,.int 999979,.int 8]) λv26=>dIx M v26) aN)) mkT) λr27=>some r27
def zgM {c:Int}{p:D}{M:List D}{P:D->Prop}(hM:M.length=8)(h:∀d∈M,P d):∃v,zmQ (.int c) p (.lst M)=some (.tup [p,v])/\P v:=by
 obtain⟨r,e,h0,h1⟩:=zbM (c:=c) (p:=999979) (m:=8) (by decide) (by decide) (by decide);obtain⟨v,ev,hv⟩:=zlb (i:=r) h h0 (by omega);refine⟨v,?_,hv⟩;unfold zmQ;rw[e,zOB,ev];rfl
def zkw {n:Int}(h:n<1):zaJ [.tup [.int 1,.int 2,.int 3,.int n]]=some (.bl false):=by
 show zcB (.tup [.int 1,.int 2,.int 3,.int n])=_
 unfold zcB;have g:∀a b:Int,dGe (.int a) (.int b)=some (.bl (decide (b<=a))):=λ_ _=>rfl
 have i2:dIx (.tup [.int 1,.int 2,.int 3,.int n]) (.int 2)=some (.int 3):=zaR (j:=2) rfl
 have i3:dIx (.tup [.int 1,.int 2,.int 3,.int n]) (.int 3)=some (.int n):=zaR (j:=3) rfl
 rw[i2,i3];show Option.bind (Option.bind (Option.bind (some (D.bl (decide ((1:Int)<=3)))) dB) λk11=>if k11 then(some (D.bl (decide (1<=n)))) else some (.bl false)) _=_
 rw[waA (show(1:Int)<=3 by decide),wat (show ¬(1<=n) by omega)];rfl
def zjf {n:Int}(h:n<0):zaM [.int n]=some (.bl false):=by
 show Option.bind (some (D.bl (decide (0<=n)))) _=_
 rw[wat (by omega)];rfl
def NoPs (v:D):Prop:=∀(n:Nat) (deep:Int),zaf (n+1) [v,.int deep]=some (.bl false)
def zmR {c:Int}:∃th β,zbf [.int c]=some th/\Bnd th β:=by
 obtain⟨p,e,h0,h1⟩:=zbM (c:=c) (p:=1000033) (m:=7) (by decide) (by decide) (by decide);have hn:-1 - c % 1000000000<0:=by have:=wbO c (b:=1000000000) (by decide);omega
 have fin:∀{p:D}{M:List D}{P:D->Prop}{β:D->D->D},M.length=8->(∀d∈M,P d)->(∀v,P v->Bnd (.tup [p,v]) (β v))->zbf [.int c]=zmQ (.int c) p (.lst M)->∃th β,zbf [.int c]=some th/\Bnd th β:=λhM h k e=>by
  obtain⟨v,ev,hv⟩:=zgM (c:=c) hM h;exact⟨_,_,e.trans ev,k v hv⟩
 have hp:p=0\/p=1\/p=2\/p=3\/p=4\/p=5\/p=6:=by omega
 rcases hp with rfl|rfl|rfl|rfl|rfl|rfl|rfl
 .refine fin (p:=.int 0) (M:=[(.str ""),(.str "abcdefghi"),(.str "A"),(.str "a b"),(.int 5),D.non,(.tup [(.str "a")]),(.bl true)]) (P:=λv=>zaC [v]=some (.bl false)) rfl (by decide +kernel) (λv h=>zoQ h) ?_;show zao _=_
  unfold zao;rw[e,zOB];rfl
 .refine fin (p:=.int 1) (M:=[(.tup [(.int 1),(.int 2),(.int 3)]),(.tup [(.int 1),(.int 2),(.int 3),(.int 4),(.int 5)]),(.lst [(.int 1),(.int 2),(.int 3),(.int 4)]),(.tup [(.int 1),(.int 2),(.int 0),(.int 4)]),(.tup [(.int 1),(.int 2),(.int 3),.int (-1 - c % 1000000000)]),(.tup [(.bl true),(.int 2),(.int 3),(.int 4)]),(.tup [(.int 1),(.str "2"),(.int 3),(.int 4)]),D.non]) (P:=λv=>zaJ [v]=some (.bl false)) rfl (λd hd=>?_) (λv h=>zoR h) ?_
  .rcases waz.mp (show d∈[(.tup [(.int 1),(.int 2),(.int 3)]),(.tup [(.int 1),(.int 2),(.int 3),(.int 4),(.int 5)]),(.lst [(.int 1),(.int 2),(.int 3),(.int 4)]),(.tup [(.int 1),(.int 2),(.int 0),(.int 4)])]++(.tup [(.int 1),(.int 2),(.int 3),.int (-1 - c % 1000000000)])::[(.tup [(.bl true),(.int 2),(.int 3),(.int 4)]),(.tup [(.int 1),(.str "2"),(.int 3),(.int 4)]),D.non] from hd) with h|h
   .exact(by decide +kernel:∀d∈[D.tup [(.int 1),(.int 2),(.int 3)],(.tup [(.int 1),(.int 2),(.int 3),(.int 4),(.int 5)]),(.lst [(.int 1),(.int 2),(.int 3),(.int 4)]),(.tup [(.int 1),(.int 2),(.int 0),(.int 4)])],zaJ [d]=some (.bl false)) d h
   .rcases waf.mp h with rfl|h
    .exact zkw (by omega)
    .exact(by decide +kernel:∀d∈[D.tup [(.bl true),(.int 2),(.int 3),(.int 4)],(.tup [(.int 1),(.str "2"),(.int 3),(.int 4)]),D.non],zaJ [d]=some (.bl false)) d h
  .show zao _=_
   unfold zao;rw[e,zOB];rfl
 .refine fin (p:=.int 2) (M:=[(.str "Free"),(.str ""),(.str "open"),D.non,(.int 1),(.bl true),(.lst [(.str "free")]),(.str "free ")]) (P:=λv=>zaL [v]=some (.bl false)) rfl (by decide +kernel) (λv h=>zoS h) ?_;show zao _=_
  unfold zao;rw[e,zOB];rfl
 .refine fin (p:=.int 3) (M:=[.int (-1 - c % 1000000000),(.bl true),(.str "1"),D.non,(.tup [(.int 1)]),(.lst []),.int (-1),(.bl false)]) (P:=λv=>zaM [v]=some (.bl false)) rfl (λd hd=>?_) (λv h=>zoT h) ?_
  .rcases waf.mp hd with rfl|h
   .exact zjf hn
   .exact(by decide +kernel:∀d∈[(.bl true),(.str "1"),D.non,(.tup [(.int 1)]),(.lst []),.int (-1),(.bl false)],zaM [d]=some (.bl false)) d h
  .show zao _=_
   unfold zao;rw[e,zOB];rfl
 .refine fin (p:=.int 4) (M:=[(.str ""),(.str "abcdefghi"),(.str "B"),(.int 7),(.bl true),(.tup []),(.lst [(.str "a")]),(.str "-")]) (P:=λv=>za0 [v]=some (.bl false)) rfl (by decide +kernel) (λv h=>zoU h) ?_;show zao _=_
  unfold zao;rw[e,zOB];rfl
 .refine fin (p:=.int 5) (M:=[(.lst []),D.non,(.str ""),(.int 0),(.tup [(.str "a")]),(.tup [(.int 5)]),(.tup [(.tup [])]),(.lst [(.tup [])])]) (P:=NoPs) rfl (λd hd=>?_) (λv h=>zoV h) ?_
  .simp only[waf,wbt,or_false] at hd;intro n deep;rcases hd with rfl|rfl|rfl|rfl|rfl|rfl|rfl|rfl
   .rfl
   .rfl
   .rfl
   .rfl
   .exact zcQ rfl
   .exact zcQ rfl
   .exact zcQ rfl
   .rfl
  .show zao _=_
   unfold zao;rw[e,zOB];rfl
 .obtain⟨v,ev,j,hj,rfl⟩:=zgM (c:=c) (p:=.int 6) (M:=[.int 0,.int 1,.int 2,.int 3,.int 4,.int 5,.int 0,.int 1]) (P:=λv=>∃j:Nat,j<6/\v=.int (j:Int)) rfl (λd hd=>by
   simp only[waf,wbt,or_false] at hd;rcases hd with rfl|rfl|rfl|rfl|rfl|rfl|rfl|rfl
   .exact⟨0,by decide,rfl⟩
   .exact⟨1,by decide,rfl⟩
   .exact⟨2,by decide,rfl⟩
   .exact⟨3,by decide,rfl⟩
   .exact⟨4,by decide,rfl⟩
   .exact⟨5,by decide,rfl⟩
   .exact⟨0,by decide,rfl⟩
   .exact⟨1,by decide,rfl⟩)
  refine⟨_,_,Eq.trans ?_ ev,zoW hj⟩;show zao _=_
  unfold zao;rw[e,zOB];rfl
def tst (n:Nat)(deep:Int)(d:D):Bool:=decide (zal (zaf n) [d,.int deep]=some (.bl true))
def AllD (n:Nat)(deep:Int)(ds:List D)(b:Bool):Prop:=(∀d∈ds,zal (zaf n) [d,.int deep]=some (.bl (tst n deep d)))/\ds.all (tst n deep)=b
def AllD.nil {n:Nat}{deep:Int}:AllD n deep [] true:=⟨λd h=>by(cases h),rfl⟩
def AllD.cons {n:Nat}{deep:Int}{d:D}{ds:List D}{a b:Bool}(h:zal (zaf n) [d,.int deep]=some (.bl a))(t:AllD n deep ds b):AllD n deep (d::ds) (a&&b):=by
 have e:tst n deep d=a:=by
  unfold tst;rw[h];cases a
  .exact wat λe=>by cases e
  .exact waA rfl
 refine⟨λy hy=>?_,?_⟩
 .rcases waf.mp hy with rfl|hy
  .rw[e];exact h
  .exact t.1 y hy
 .rw[List.all_cons,e,t.2]
def AllD.are {n:Nat}{deep:Int}{ds:List D}{b:Bool}(t:AllD n deep ds b)(hd:deep<=5):zaf (n+1) [.tup ds,.int deep]=some (.bl b):=by
 rw[zgI (tst n deep) hd t.1,t.2]
def okT (a:Nat):Nat->List Itm->Nat->Bool
|_,[],_=>true
|k,x::S,d=>if d=x.dp then((if k=a then false else okT a (k+1) S (d+1))&&okT a (k+1) S d) else if d=x.dp+1 then true else okT a (k+1) S d
section
variable {a:Nat}{β:D->D}
abbrev tauB (a:Nat)(β:D->D):Nat->D->D:=λk p=>if k=a then β p else p
theorem zoX {τ:Nat->D->D}:∀{S:List Itm}{k:Nat},(∀x∈S,x.dp<=4)->foT τ k S 5 = []
|[],_,_=>rfl
|x::S,k,h=>by
   show(if 5=x.dp then _ else if 5=x.dp+1 then[] else foT τ (k+1) S 5) = []
   rw[if_neg (by have:=h x wah;omega),zoX λy hy=>h y (wad _ hy)];split <;> rfl
theorem zoY:∀{S:List Itm}{k:Nat},(∀x∈S,x.dp<=4)->okT a k S 5=true
|[],_,_=>rfl
|x::S,k,h=>by
   show(if 5=x.dp then _ else if 5=x.dp+1 then true else okT a (k+1) S 5)=true
   rw[if_neg (by have:=h x wah;omega),zoY λy hy=>h y (wad _ hy)];split <;> rfl
theorem zgN (hb:∀(x:Itm) (inn:List D) (n:Nat) (deep:Int),Gd x->zal (zaf (n+1)) [β (part x 0 inn),.int deep]=some (.bl false)):∀{S:List Itm}{k:Nat},(∀x∈S,x.dp<=4)->(∀x∈S,Gd x)->∀d,d<=5->AllD (6 - d) ((d:Int)+1) (foT (tauB a β) k S d) (okT a k S d)
|[],_,_,_,_,_=>.nil
|x::S,k,h4,g,d,hd=>by
   have h4':∀y∈S,y.dp<=4:=λy hy=>h4 y (wad _ hy)
   have g':∀y∈S,Gd y:=λy hy=>g y (wad _ hy)
   have ih:=λd hd=>zgN hb (S:=S) (k:=k+1) h4' g' d hd
   show AllD (6 - d) ((d:Int)+1) (if d=x.dp then tauB a β k (part x 0 (foT (tauB a β) (k+1) S (d+1)))::foT (tauB a β) (k+1) S d else if d=x.dp+1 then[] else foT (tauB a β) (k+1) S d) (if d=x.dp then((if k=a then false else okT a (k+1) S (d+1))&&okT a (k+1) S d) else if d=x.dp+1 then true else okT a (k+1) S d)
   by_cases e:d=x.dp
   .have d4:d<=4:=by rw[e];exact h4 x wah
    rw[if_pos e,if_pos e];refine AllD.cons ?_ (ih d hd);show zal (zaf (6 - d)) [if k=a then β (part x 0 (foT (tauB a β) (k+1) S (d+1))) else part x 0 (foT (tauB a β) (k+1) S (d+1)),.int ((d:Int)+1)]=_
    by_cases ek:k=a
    .rw[if_pos ek,if_pos ek,show 6 - d=(5 - d)+1 by omega];exact hb x _ _ _ (g x wah)
    .rw[if_neg ek,if_neg ek];refine zdZ (g x wah) ?_;by_cases e4:d=4
     .subst e4;rw[zoX h4',zoY h4'];exact ziZ _ _
     .have t:=(ih (d+1) (by omega)).are (by omega)
      rw[show 6 - (d+1)+1=6 - d by omega] at t;exact t
   .rw[if_neg e,if_neg e];by_cases e2:d=x.dp+1
    .rw[if_pos e2,if_pos e2];exact .nil
    .rw[if_neg e2,if_neg e2];exact ih d hd
theorem zlc:∀{m:Nat}{S:List Itm}{k:Nat},Vd m S->k<=a->a<k+S.length->∃d,d<=m/\okT a k S d=false
|_,_,k,.nil,h0,h1=>by simp at h1;omega
|m,_,k,.cons (x:=x) (S:=S) hm h4 t,h0,h1=>by
   have step:∀d,okT a k (x::S) d=(if d=x.dp then((if k=a then false else okT a (k+1) S (d+1))&&okT a (k+1) S d) else if d=x.dp+1 then true else okT a (k+1) S d):=λd=>rfl
   by_cases ek:k=a
   .refine⟨x.dp,hm,?_⟩;rw[step,if_pos rfl,if_pos ek];rfl
   .obtain⟨d,hd,e⟩:=zlc (k:=k+1) t (by omega) (by rw[wbp] at h1;omega);by_cases e1:d=x.dp+1
    .refine⟨x.dp,hm,?_⟩;rw[step,if_pos rfl,if_neg ek,<-e1,e];rfl
    .by_cases e0:d=x.dp
     .refine⟨x.dp,hm,?_⟩;rw[step,if_pos rfl,if_neg ek];rw[e0] at e;rw[e,Bool.and_false]
     .exact⟨d,by omega,by rw[step,if_neg e0,if_neg e1,e]⟩
end
def zmS {L:List Itm}{th:D}{β:D->D}{a:Nat}(hb:Bnd th β)(v:Vd 0 L)(h4:∀x∈L,x.dp<=4)(g:∀x∈L,Gd x)(ha:a<L.length)(hl:L.length<=1000):∃ds,za5 [GB.rowsD L,.int (a:Int),th]=some (.tup ds)/\zaf 7 [.tup ds,.int 1]=some (.bl false):=by
 refine⟨_,zjb (τ:=tauB a β) (λk x inn=>hb.1 a k x inn) h4 hl,?_⟩;obtain⟨d,hd,e⟩:=zlc (a:=a) (k:=0) v (wbz _) (by omega);have d0:d=0:=by omega
 subst d0;have:=(zgN (a:=a) hb.2 (S:=L) (k:=0) h4 g 0 (by decide)).are (by decide)
 rw[e] at this;exact this
def zmT {L:List Itm}(h4:∀x∈L,x.dp<=4)(hl:L.length<=1000):za5 [GB.rowsD L,.int (0 - 1),.non]=some (.tup (fo L 0)):=by
 rw[zjb (τ:=λ_ p=>p) (λk x inn=>zje) h4 hl,zi9]
def zkx:D:=.exc "NoSheet" [] []
def zoZ {N:List Str}:Option.bind (Option.bind (bLen [.lst (N.map D.str)]) λv5=>dGt v5 (.int 40)) dB=some (decide (40<N.length)):=by
 show some (decide ((40:Int)<((N.map D.str).length:Int)))=_
 rw[wam];congr 1;exact decide_eq_decide.mpr (by omega)
def zde {t:D}(h:zaf 7 [t,.int 1]=some (.bl false)):zaN [t]=some (.bl true):=by
 have e:zco [t]=some zkx:=by
  show zba t=_
  unfold zba;rw[h];rfl
 show zbm t=_
 unfold zbm;show Option.bind (some D.non) (λ(x1:D)=>(Option.bind (match zco [t] with|some x=>if zda ["NoSheet"] x then(Option.bind (some x) λ(x9:D)=>some x9) else none|none=>none) λ(x10:D)=>zmB x10))=_
 rw[e];rfl
def zo0 {self:List D->Option D}{ds:List D}{deep:Int}(hl:ds.length<=1000)(h:ds.length≠6):zal self [.tup ds,.int deep]=some (.bl false):=by
 have l:bLen [.tup ds]=some (.int ds.length):=rfl
 show zaE self (.tup ds) (.int deep)=_
 unfold zaE;rw[show isD "tuple" (.tup ds)=some (.bl true) from rfl,l];show Option.bind (Option.bind (dEqG true (.int (ds.length:Int)) (.int 6)) dB) _=_
 rw[zj4,wat (by omega)];rfl
def zmU {ds:List D}(hl:ds.length<=1000)(hp:∀d∈ds,∃x dp inn,d=part x dp inn):zaf 7 [.tup [.tup ds],.int 1]=some (.bl false):=by
 refine zcQ ?_;by_cases h:ds.length=6
 .match ds,h with
 |[a,b,c,d,e,f],_=>
    obtain⟨x,dp,inn,rfl⟩:=hp a wah;exact zk9 rfl
 .exact zo0 hl h
def zo1 {ds:List D}(hl:ds.length<=1000)(hp:∀d∈ds,∃x dp inn,d=part x dp inn):∀t∈[D.non,.int 5,.bl true,.str "a",.lst [],.lst ds,.tup [.tup []],.tup [.tup ds],.tup [.str "a"],.tup [.int 0]],zaf 7 [t,.int 1]=some (.bl false):=by
 intro t h;simp only[waf,wbt,or_false] at h;rcases h with rfl|rfl|rfl|rfl|rfl|rfl|rfl|rfl|rfl|rfl
 .rfl
 .rfl
 .rfl
 .rfl
 .rfl
 .rfl
 .exact zcQ rfl
 .exact zmU hl hp
 .exact zcQ rfl
 .exact zcQ rfl
def zdf:D:=[("z" : Str),"zz","z","zz","z"].foldl (λs n=>D.tup [.str n,(.tup [(.int 0),(.int 0),(.int 1),(.int 1)]),(.str "free"),(.int 0),(.str "nobody"),(.tup [s])]) (.tup [(.str "z"),(.tup [(.int 0),(.int 0),(.int 1),(.int 1)]),(.str "free"),(.int 0),D.non,(.tup [])])
def zgO:zal (zaf 6) [zdf,.int 1]=some (.bl false):=by decide +kernel
def zmV {ds:List D}{c:Int}(h0:ds≠[])(hl:ds.length<=60):∃es,zb8 [.tup ds,.int c]=some (.tup es)/\zdf∈es/\∀d∈es,d=zdf\/d∈ds:=by
 have a1:dAdd (.tup ds) (.tup [zdf])=some (.tup (ds++[zdf])):=if_pos (waq (by rw[wap,wbM];omega:_<=64) (by decide))
 have a2:dAdd (.tup [zdf]) (.tup ds)=some (.tup (zdf::ds)):=by
  show(if ds = [] then none else if([zdf]++ds).length<=lim then some (D.tup ([zdf]++ds)) else none)=_
  rw[if_neg h0,if_pos (waq (by rw[wap,wbM];omega:_<=64) (by decide))];rfl
 have hc:c % 2=0\/c % 2=1:=by omega
 have key:∃es,(Option.bind (Option.bind (Option.bind (Option.bind (aC (dAdd (.tup ds) (.tup [zdf])) (aC (dAdd (.tup [zdf]) (.tup ds)) aN)) mkLs) λds=>some (.lst ds)) λv7=>(Option.bind (dMod (.int c) (.int 2)) λv8=>(dIx v7 v8))) λ(r9:D)=>(some r9))=some (.tup es)/\zdf∈es/\∀d∈es,d=zdf\/d∈ds:=by
  rw[a1,a2,show dMod (.int c) (.int 2)=some (.int (c % 2)) from rfl];rcases hc with e|e
  .rw[e];exact⟨_,rfl,by simp,λd hd=>by
    rcases waz.mp hd with h|h
    .exact .inr h
    .exact .inl (wal.mp h)⟩
  .rw[e];exact⟨_,rfl,by simp,λd hd=>by
    rcases waf.mp hd with h|h
    .exact .inl h
    .exact .inr h⟩
 obtain⟨es,e,k⟩:=key;refine⟨es,Eq.trans ?_ e,k⟩;show zb7 (.tup ds) (.int c)=_
 unfold zb7;rw[zOB];rfl
def zo2 {ds:List D}{bad:D}(hb:bad∈ds)(hbad:zal (zaf 6) [bad,.int 1]=some (.bl false))(hg:∀d∈ds,zal (zaf 6) [d,.int 1]=some (.bl true)\/zal (zaf 6) [d,.int 1]=some (.bl false)):zaf 7 [.tup ds,.int 1]=some (.bl false):=by
 rw[zgI (n:=6) (λd=>decide (zal (zaf 6) [d,.int 1]=some (.bl true))) (by decide) λd h=>by
  rcases hg d h with e|e
  .rw[e];rfl
  .rw[e];rfl]
 congr 2;rw[List.all_eq_false];exact⟨bad,hb,by rw[hbad];decide⟩
structure Gf (L:List Itm):Prop where
 v:Vd 0 L
 h4:∀x∈L,x.dp<=4
 nd:(L.map Itm.nm).Nodup
 g:∀x∈L,Gd x
 hd:∀q∈trR [] L,GdH (trR [] L) q
 ah:Ahd [] L
 l9:L.length<=9
def Gf.told {L:List Itm}(G:Gf L):zbV [.tup (fo L 0)]=some (.tup (fo L 0)):=by
 have l9:=G.l9
 show zc3 (.tup (fo L 0))=_
 unfold zc3;rw[zi0 (n:=5) (gfo G.v G.g 0 (by decide)) (by decide) (by decide),zkq G.v (by omega)];show Option.bind (Option.bind (Option.bind (bLen [.lst ((L.map Itm.nm).map D.str)]) λv5=>dGt v5 (.int 40)) dB) (λk4=>if k4 then none else(Option.bind (za1 [.lst ((L.map Itm.nm).map D.str)]) λ(u6:D)=>_))=_
 rw[zoZ,wam,wat (by omega),zOB,if_neg (by decide),zmF G.nd,zOB,zmN G.v G.nd (by omega) G.hd,zOB,zkt G.v (by omega)];show Option.bind (zcn [.lst ((L.map Itm.nm).map D.str),.lst ((mus L).map prD)]) _=_
 rw[zmH G.nd (λq hq=>zi8 (pre:=[]) G.ah hq) (by rw[wam];omega) (waq zgb (waq (Nat.add_le_add (wcB l9 l9) l9) (by decide)))];rfl
def adI (a b:Int):dAdd (.int a) (.int b)=some (.int (a+b)):=rfl
def nm4 (a b:Int)(j:Nat):Str:=Txt.mul (sg (97+((a+(j:Int)) % 9).toNat)) (1+b)
def ix9 {i:Int}(h0:0<=i)(h1:i<9):dIx (.str "abcdefghi") (.int i)=some (.str (sg (97+i.toNat))):=by
 have k:∀n:Fin 9,("abcdefghi" : Str).cps.toList[n.val]?=some (97+n.val):=by decide +kernel
 have hn:i.toNat<9:=by omega
 have e:i=((i.toNat:Nat):Int):=by omega
 rw[e];show(atI ("abcdefghi" : Str).cps.toList ((i.toNat:Nat):Int)).map (λc=>D.str (sg c))=_
 rw[zaR (k ⟨i.toNat,hn⟩)];rfl
def zld {a b:Int}{j:Nat}(h0:0<=b)(h1:b<8):nmOk (nm4 a b j):=by
 have hl:(nm4 a b j).length=(1+b).toNat:=zmc _ _ (by omega)
 refine⟨by rw[hl];omega,by rw[hl];omega,λc hc=>?_⟩;rw[show(nm4 a b j).cps.toList=List.replicate (1+b).toNat (97+((a+(j:Int)) % 9).toNat) from zey _ _ (by omega)] at hc;rw[(List.mem_replicate.mp hc).2];omega
def zmW {a b:Int}{i j:Nat}(h0:0<=b)(hi:i<9)(hj:j<9)(e:nm4 a b i=nm4 a b j):i=j:=by
 have:=(zmb (by omega) (by omega) e).2
 omega
def mx:Nat->List Itm->Nat
|m,[]=>m
|_,x::S=>mx (x.dp+1) S
theorem zjg:∀{m:Nat}{L:List Itm}{x:Itm},Vd m L->x.dp<=mx m L->x.dp<=4->Vd m (L++[x])
|_,[],x,.nil,h,h4=>.cons h h4 .nil
|_,y::S,x,.cons hm hy t,h,h4=>.cons hm hy (zjg t h h4)
theorem zjh:∀{m:Nat}{L:List Itm}{x:Itm},mx m (L++[x])=x.dp+1
|_,[],_=>rfl
|_,y::S,x=>zjh (L:=S)
structure Rw (a b:Int)(j:Nat)(x:Itm):Prop where
 nm:x.nm=nm4 a b j
 c:1<=x.bc
 d:1<=x.bd
 wd:Wd x.wd
 rk:0<=x.rk
 hd:x.hd=none\/(x.dp=0/\0<j/\x.hd=some (nm4 a b 0))
def RI (a b:Int)(L:List Itm):Prop:=∀(j:Nat) (x:Itm),L[j]?=some x->Rw a b j x
def RI.snoc {a b:Int}{L:List Itm}{x:Itm}(h:RI a b L)(hx:Rw a b L.length x):RI a b (L++[x]):=λj y e=>by
 by_cases hj:j<L.length
 .rw[waI hj] at e;exact h j y e
 .have lk:=(wae.mp e).1
  rw[wap,wbM] at lk;have:j=L.length:=by omega
  subst this;rw[waD (wai _),wbG] at e;cases e;exact hx
def zmX {S:Scr}{a b:Int}(a0:0<=a)(b0:0<=b)(b1:b<8)(hab:∀c,S.ns[0]?=some c->zan [.int c,.int 131071,.int 9]=some (.int a)/\zan [.int c,.int 524287,.int 8]=some (.int b)):Po (zb4 S (.scr S.p)) λd=>∃L,d=GB.rowsD L/\Vd 0 L/\RI a b L/\L.length=min 9 S.ns.length:=by
 have hm:∀a b:Int,0<b->dMod (.int a) (.int b)=some (.int (a % b)):=λa b h=>if_pos h
 unfold zb4;refine sx rfl ?_;refine sx (a:=.int (-1)) rfl ?_;have hr:Option.bind (aC (Option.bind (aC (some (.int 9)) (aC ((lenS S) (.scr S.p)) aN)) bMin) aN) rngA=some (zaS 0 (min 9 S.ns.length)):=by
  rw[show lenS S (.scr S.p)=some (.int S.ns.length) from if_pos rfl];show rngA [.int (if(S.ns.length:Int)<9 then(S.ns.length:Int) else 9)]=_
  rw[show(if(S.ns.length:Int)<9 then(S.ns.length:Int) else 9)=((min 9 S.ns.length:Nat):Int) by split <;> omega];exact(if_pos ⟨by omega,by omega⟩).trans (by rw[wbE])
 rw[hr];refine asc (sx rfl ?_);try dsimp only[]
 refine zmz (λi s=>∃L,s=(L.map Itm.d,.int ((mx 0 L:Int) - 1))/\Vd 0 L/\L.length=i/\RI a b L) ⟨[],rfl,.nil,rfl,λj x e=>by simp at e⟩ (λi s d hd hI=>?_) λs hI=>?_
 .obtain⟨L,rfl,t,hL,hG⟩:=hI;obtain⟨hi,rfl⟩:=zg1 hd;have i9:i<9:=by omega
  have hn0:0<S.ns.length:=by omega
  obtain⟨c,hc⟩:∃c,S.ns[i]?=some c:=⟨_,wan (by omega)⟩
  obtain⟨c0,hc0⟩:∃c,S.ns[0]?=some c:=⟨_,wan hn0⟩
  have eI:ixS S (.scr S.p) (.int (i:Int))=some (.int c):=by
   show(if S.p=S.p then _ else _)=_
   rw[if_pos rfl,zaR hc];rfl
  have e0:ixS S (.scr S.p) (.int 0)=some (.int c0):=by
   show(if S.p=S.p then _ else _)=_
   rw[if_pos rfl,show atI S.ns 0=some c0 from zaR (j:=0) hc0];rfl
  obtain⟨ea,eb⟩:=hab c0 hc0;obtain⟨p60,e60,h60⟩:∃p:Int,dPow (.int 10) (.int 60)=some (.int p)/\0<p:=⟨10 ^ 60,rfl,by decide⟩
  obtain⟨p59,e59,h59⟩:∃p:Int,dPow (.int 10) (.int 59)=some (.int p)/\0<p:=⟨10 ^ 59,rfl,by decide⟩
  try dsimp only[]
  rw[eI,e0,e60,e59];obtain⟨r,er,r0,r1⟩:=zbM (c:=c) (p:=999983) (m:=if(mx 0 L:Int) - 1+2<5 then(mx 0 L:Int) - 1+2 else 5) (by decide) (by decide) (by split <;> omega);have r2:r<=mx 0 L/\r<=4:=by split at r1 <;> omega
  obtain⟨r,rfl⟩:∃k:Nat,r=k:=⟨r.toNat,by omega⟩
  have r3:r<=mx 0 L:=by omega
  have r4:r<=4:=by omega
  refine sx (a:=.int (r:Int)) er ?_;repeat (with_reducible refine asc ?_)
  refine sx (a:=[.int c0,.int 131071,.int 9]) rfl (sx ea ?_);refine sx (adI _ _) ?_;refine sx (hm _ _ (by decide)) ?_;refine sx (ix9 (wbO _ (by decide)) (Int.emod_lt_of_pos _ (by decide))) ?_;repeat (with_reducible refine asc ?_)
  refine sx (a:=[.int c0,.int 524287,.int 8]) rfl (sx eb ?_);refine sx (adI _ _) ?_;refine sx (show dMul (.str (sg (97+((a+(i:Int)) % 9).toNat))) (.int (1+b))=some (.str (nm4 a b i)) from zn6 _ (by omega) (by omega)) ?_;refine sx (a:=.tup [.int (c % p60),.int (0 - c % 1009),.int (1+c % p59),.int (1+c % 7)]) ?_ ?_
  .show Option.bind (aC (dMod (.int c) (.int p60)) (aC (Option.bind (dMod (.int c) (.int 1009)) λv16=>dSub (.int 0) v16) (aC (Option.bind (dMod (.int c) (.int p59)) λv19=>dAdd (.int 1) v19) (aC (Option.bind (dMod (.int c) (.int 7)) λv21=>dAdd (.int 1) v21) aN)))) mkT=_
   rw[hm _ _ h60,hm _ _ h59,hm _ _ (by decide),hm _ _ (by decide)];rfl
  obtain⟨w,ew,w0,w1⟩:=zbM (c:=c) (p:=8191) (m:=3) (by decide) (by decide) (by decide);refine asc (sx (a:=.int w) ew ?_);obtain⟨_,ed,wd,rfl,hwd⟩:=zlb (P:=λd=>∃y,d=.str y/\Wd y) (i:=w) (xs:=[.str "free",.str "shut",.str "hidden"]) (λd hd=>by
   simp only[waf,wbt,or_false] at hd;rcases hd with rfl|rfl|rfl
   .exact⟨_,rfl,.inl rfl⟩
   .exact⟨_,rfl,.inr (.inl rfl)⟩
   .exact⟨_,rfl,.inr (.inr rfl)⟩) w0 (by show w<3;omega)
  refine sx ed (sx rfl ?_);try dsimp only[]
  refine Po.bind (P:=λq=>∃h,q=hdO h/\(h=none\/(r=0/\0<i/\h=some (nm4 a b 0)))) ?_ ?_
  .refine Po.bind (P:=λq=>q=true->r=0/\0<i) ?_ ?_
   .refine asc (sx (zdr _ _) (sx rfl ?_));try dsimp only[]
    refine zmy (λhz=>?_) λ_=>⟨_,rfl,λz=>by cases z⟩
    have hz:=wbS hz
    refine asc (sx (show dGt (.int (i:Int)) (.int 0)=some (.bl (decide ((0:Int)<(i:Int)))) from rfl) (sx rfl ?_));try dsimp only[]
    refine zmy (λhi0=>?_) λ_=>⟨_,rfl,λz=>by cases z⟩
    have hi0:=wbS hi0
    obtain⟨g,eg,_,_⟩:=zbM (c:=c) (p:=65537) (m:=2) (by decide) (by decide) (by decide);refine asc (sx (a:=.int g) eg (sx (zdr _ _) ?_));exact⟨_,rfl,λ_=>⟨by omega,by omega⟩⟩
   .intro q hq;refine zmy (λhz=>?_) λ_=>⟨_,rfl,none,rfl,.inl rfl⟩
    obtain⟨hr0,hi0⟩:=hq hz;obtain⟨x0,hx0⟩:∃x,L[0]?=some x:=⟨_,wan (by omega)⟩
    refine asc (sx (show dIx (.lst (L.map Itm.d)) (.int 0)=some x0.d from zaR (j:=0) (by rw[war,hx0];rfl)) (sx (show dIx x0.d (.int 1)=some (.str x0.nm) from zaR (j:=1) rfl) ?_));exact⟨_,rfl,some x0.nm,rfl,.inr ⟨hr0,hi0,by rw[(hG 0 x0 hx0).nm]⟩⟩
  .rintro q ⟨h,rfl,hh⟩;refine asc (sx (a:=Itm.d ⟨r,nm4 a b i,c % p60,0 - c % 1009,1+c % p59,1+c % 7,wd,c % p60,h⟩) ?_ (sx (zfT (wbx (by rw[wam];omega:_<=100) (by decide))) ?_))
   .show Option.bind (aC (some (.int (r:Int))) (aC (some (.str (nm4 a b i))) (aC (some (D.tup [.int (c % p60),.int (0 - c % 1009),.int (1+c % p59),.int (1+c % 7)])) (aC (some (.str wd)) (aC (dMod (.int c) (.int p60)) (aC (some (hdO h)) aN)))))) mkT=_
    rw[hm _ _ h60];rfl
   .refine⟨_,rfl,L++[⟨r,nm4 a b i,c % p60,0 - c % 1009,1+c % p59,1+c % 7,wd,c % p60,h⟩],?_,zjg t r3 r4,by simp[hL],RI.snoc hG ?_⟩
    .rw[zjh,waG,show((r+1:Nat):Int) - 1=(r:Int) by omega];rfl
    .rw[hL];have q1:=wbO c (b:=p59) (by omega)
     have q2:=wbO c (b:=p60) (by omega)
     exact⟨rfl,by show 1<=1+c % p59;omega,by show 1<=1+c % 7;omega,hwd,q2,hh⟩
 .obtain⟨L,rfl,t,hL,hG⟩:=hI;rw[zg2] at hL;exact⟨_,rfl,L,rfl,t,hG,hL⟩
theorem zo3:∀{P:List Nat}{l:List Str}{S:List (Nat×Str)}{k:Nat}{q:Nat×Str},S[k]?=some q->q.1=0->∃b,(tz P l S)[k]?=some b/\b.2.2 = []
|_,_,[],_,_,e,_=>by simp at e
|P,l,x::S,0,q,e,h=>by
   cases e;exact⟨_,rfl,by show l.take x.1 = [];rw[h];rfl⟩
|P,l,x::S,k+1,q,e,h=>zo3 (S:=S) (k:=k) e h
theorem dp4:∀{m:Nat}{L:List Itm},Vd m L->∀x∈L,x.dp<=4
|_,_,.cons hm h4 t,x,hx=>by
   rcases waf.mp hx with rfl|hx
   .exact h4
   .exact dp4 t x hx
theorem zle {a b:Int}:∀{S:List Itm}{k:Nat}{e:List Str},(∀(j:Nat) (x:Itm),S[j]?=some x->Rw a b (k+j) x)->(0<k->nm4 a b 0∈e)->Ahd e S
|[],_,_,_,_=>trivial
|x::S,k,e,h,he=>by
   have hx:=h 0 x rfl
   refine⟨λy ey=>?_,zle (k:=k+1) (λj z ez=>by have:=h (j+1) z ez;rwa [show k+(j+1)=k+1+j by omega] at this) λ_=>?_⟩
   .rcases hx.hd with q|⟨_,q0,q⟩
    .rw[q] at ey;cases ey
    .rw[q] at ey;cases ey;exact he (by omega)
   .by_cases hk:0<k
    .exact waV _ (he hk)
    .have:k=0:=by omega
     subst this;exact was _ (by rw[hx.nm];exact wal.mpr rfl)
def zpF {a b:Int}{L:List Itm}(b0:0<=b)(b1:b<8)(v:Vd 0 L)(h:RI a b L)(l9:L.length<=9):Gf L:=by
 have nd:(L.map Itm.nm).Nodup:=by
  refine List.pairwise_iff_getElem.mpr λi j hi hj hij e=>?_
  rw[wam] at hi hj;rw[List.getElem_map,List.getElem_map,(h i _ (wan hi)).nm,(h j _ (wan hj)).nm] at e;have:=zmW b0 (by omega) (by omega) e
  omega
 refine⟨v,dp4 v,nd,λx hx=>?_,λq hq=>?_,zle (k:=0) (λj x e=>by rw[wcz];exact h j x e) (λz=>by omega),l9⟩
 .obtain⟨j,ej⟩:=waW hx;have r:=h j x ej
  exact⟨by rw[r.nm];exact zld b0 b1,r.c,r.d,r.wd,r.rk,λy ey=>by
   rcases r.hd with q|⟨_,_,q⟩
   .rw[q] at ey;cases ey
   .rw[q] at ey;cases ey;exact zld b0 b1⟩
 .obtain⟨k,hk⟩:=waW hq;have ek:L[k]?=some q.2.1:=by
   have:=wbb (λl=>l[k]?) (zfv (P:=[]) (L:=L))
   simp only[war,hk,wcw] at this;exact this.symm
  have r:=h k _ ek
  rcases r.hd with e|⟨hd,k0,e⟩
  .exact .inl e
  .have lk:=(wae.mp ek).1
   have l0:0<(trR [] L).length:=by rw[zi3];omega
   obtain⟨p,ep⟩:∃p,(trR [] L)[0]?=some p:=⟨_,wan l0⟩
   have e0:L[0]?=some p.2.1:=by
    have:=wbb (λl=>l[0]?) (zfv (P:=[]) (L:=L))
    simp only[war,ep,wcw] at this;exact this.symm
   obtain⟨z,ez,hz⟩:=zo3 (P:=[]) (l:=[]) (S:=L.map dn) (k:=k) (q:=dn q.2.1) (by rw[war,ek];rfl) hd;refine .inr ⟨p,waE ep,by rw[e,(h 0 _ e0).nm],zoH ((zoG v nd k0 ep hk ez).2 ?_)⟩;show p.2.1.nm∉z.2.2
   rw[hz];exact wbt
def zmY {S:Scr}:∃L,zb5 S [.scr S.p]=some (GB.rowsD L)/\Gf L/\L.length=min 9 S.ns.length:=by
 have:∃a b:Int,0<=a/\0<=b/\b<8/\∀c,S.ns[0]?=some c->zan [.int c,.int 131071,.int 9]=some (.int a)/\zan [.int c,.int 524287,.int 8]=some (.int b):=by
  cases h:S.ns[0]? with
 |none=>exact⟨0,0,by decide,by decide,by decide,λc e=>by cases e⟩
 |some c=>
    obtain⟨a,ea,a0,_⟩:=zbM (c:=c) (p:=131071) (m:=9) (by decide) (by decide) (by decide);obtain⟨b,eb,b0,b1⟩:=zbM (c:=c) (p:=524287) (m:=8) (by decide) (by decide) (by decide);exact⟨a,b,a0,b0,b1,λc' e=>by cases e;exact⟨ea,eb⟩⟩
 obtain⟨a,b,a0,b0,b1,hab⟩:=this;obtain⟨d,e,L,rfl,v,hG,hl⟩:=zmX a0 b0 b1 hab;exact⟨L,e,zpF b0 b1 v hG (by omega),hl⟩
theorem zgd:∀{n:Nat}{ds:List D},Ok n ds->ndL ds=true/\depL ds<=2*n
|0,ds,o=>by rw[show ds = [] from o];exact⟨rfl,wai _⟩
|n+1,ds,o=>by
   refine⟨ziw λd hd=>?_,zfU λd hd=>?_⟩
   .obtain⟨x,dp,inn,rfl,oi⟩:=o d hd;have h:=(zgd oi).1
    show(true&&(true&&(true&&(true&&(ndD (hdO x.hd)&&(ndL inn&&true))))))=true
    rw[h];cases x.hd <;> rfl
   .obtain⟨x,dp,inn,rfl,oi⟩:=o d hd;have h:=(zgd oi).2
    show max 0 (max 1 (max 0 (max 0 (max (depD (hdO x.hd)) (max (depL inn+1) 0)))))+1<=2*(n+1)
    have:depD (hdO x.hd)=0:=by cases x.hd <;> rfl
    rw[this];omega
def bst {A B:Type}{o:Option A}{k:A->Option B}{a:A}{r:Option B}(e:o=some a)(h:k a=r):o.bind k=r:=by rw[e];exact h
def zo4 {S:Scr}:zmC S [.scr S.p]=some (.bl true):=by
 obtain⟨L,eR,G,hL⟩:=zmY (S:=S);have l9:=G.l9
 show zko S (.scr S.p)=_
 unfold zko;refine bst eR ?_;refine bst (a:=.tup (fo L 0)) (bst (a:=[GB.rowsD L,.int (0 - 1),.non]) rfl (zmT G.h4 (by omega))) ?_;refine bst (a:=[D.non,.int 5,.bl true,.str "a",.lst [],.lst (fo L 0),.tup [.tup []],.tup [.tup (fo L 0)],.tup [.str "a"],.tup [.int 0]]) rfl ?_;have hlen:(fo L 0).length<=60:=waq zfu (by omega)
 refine bst (zfS (s:=()) λd hd=>?_) ?_
 .refine bst (a:=false) ?_ rfl;rw[zde (zo1 (ds:=fo L 0) (by omega) (λd h=>by
   obtain⟨y,_,inn,rfl⟩:=zgJ h;exact⟨_,_,_,rfl⟩) d hd)]
  rfl
 refine bst (a:=(VD.cut S.ns none (some 24)).map D.int) ?_ ?_
 .rw[show slS S (.scr S.p) none (some 24)=some (.lst ((VD.cut S.ns none (some 24)).map D.int)) from if_pos rfl];rfl
 have told:=G.told
 refine bst (zc8 (s:=()) D.int λc hc=>?_) ?_
 .have hc:c∈S.ns:=by
   unfold VD.cut HT.sIx at hc;exact List.mem_of_mem_drop (wbT hc)
  have hn:0<S.ns.length:=List.length_pos_of_mem hc
  have hL0:0<L.length:=by omega
  obtain⟨th,β,eth,hb⟩:=zmR (c:=c);obtain⟨r,er,r0,r1⟩:=zbM (c:=c) (p:=262147) (m:=(L.length:Int)) (by decide) (by decide) (by omega);obtain⟨a,rfl⟩:∃k:Nat,r=k:=⟨r.toNat,by omega⟩
  obtain⟨ds,eh,hds⟩:=zmS (a:=a) hb G.v G.h4 G.g (by omega) (by omega);have eB:bLen [GB.rowsD L]=some (.int (L.length:Int)):=by
   show some (D.int ((L.map Itm.d).length:Int))=_
   rw[wam]
  have hne:fo L 0≠[]:=by
   obtain⟨x,S',rfl⟩:∃x S',L=x::S':=by
    cases L with
   |nil=>simp at hL0
   |cons x S'=>exact⟨x,S',rfl⟩
   have v:=G.v
   have hd0:x.dp=0:=by
    cases v with
   |cons hm h4 t=>omega
   show(if 0=x.dp then part x 0 (fo S' 1)::fo S' 0 else _)≠[]
   rw[if_pos hd0.symm];exact List.cons_ne_nil _ _
  obtain⟨es,ees,mem,hes⟩:=zmV (c:=c) hne hlen;have hgood:∀d∈fo L 0,zal (zaf 6) [d,.int 1]=some (.bl true):=zoy (gfo G.v G.g 0 (by decide))
  have hdeep:zaf 7 [.tup es,.int 1]=some (.bl false):=zo2 mem zgO λd hd=>by
   rcases hes d hd with rfl|h
   .exact .inr zgO
   .exact .inl (hgood d h)
  rw[eB];refine bst (a:=false) ?_ ?_
  .refine bst (a:=true) ?_ rfl;refine bst (a:=D.bl true) ?_ rfl;refine bst (a:=[D.tup ds]) ?_ (zde hds);refine bst (a:=D.tup ds) ?_ rfl;refine bst (a:=[GB.rowsD L,.int (a:Int),th]) ?_ eh;refine bst (a:=GB.rowsD L) rfl (bst (a:=[D.int (a:Int),th]) (bst (a:=D.int (a:Int)) er (bst (a:=[th]) (bst eth rfl) rfl)) rfl)
  rw[if_neg (by decide)];refine bst (a:=false) ?_ ?_
  .refine bst (a:=true) ?_ rfl;refine bst (a:=D.bl true) ?_ rfl;refine bst (a:=[D.tup es]) ?_ (zde hdeep);exact bst ees rfl
  rw[if_neg (by decide)];refine bst told ?_;refine bst (a:=false) ?_ rfl;refine bst (a:=false) rfl ?_;rw[if_neg (by decide)];have ot:=zgd (zfh G.v 0)
  have hs:eqC (.tup (fo L 0)) (.tup (fo L 0))=true:=zj5 ot.1 (by show depL (fo L 0)+1<=40;omega)
  rw[ziv hs];rfl
 show Option.bind (Option.bind (zbV [.tup []]) λv21=>dEqG false v21 (.tup [])) (λr22=>some r22)=_
 refine bst (a:=D.bl true) ?_ rfl;refine bst (a:=D.tup []) ?_ rfl;exact(Gf.told (L:=[]) ⟨.nil,λx h=>(by cases h),wbi,λx h=>(by cases h),λq h=>(by cases h),trivial,by decide⟩)
end Pg
namespace VD
open PySem PySem.Spec PyProof PyProof.Rows L2 PySem.W
def PcM (K:W.Frag)(S:Scr)(ts:List (Addr×Str))(H:Hp):Prop:=SqF K S H/\∀t∈ts,TabH t.1 t.2 H
def zo5 {K:W.Frag}{S:Scr}{ts:List (Addr×Str)}:Pers (PcM K S ts):=⟨λu h=>⟨pers_F.st u h.1,λt ht=>pers_T.st u (h.2 t ht)⟩,λs h=>⟨pers_F.sm s h.1,λt ht=>pers_T.sm s (h.2 t ht)⟩⟩
def zge {K:W.Frag}{S:Scr}{ts:List (Addr×Str)}(i:Nat){t:Addr×Str}(h:ts[i]?=some t):∀H,PcM K S ts H->TabH t.1 t.2 H:=λH hp=>hp.2 t (waE h)
def nmM (ts:List (Addr×Str))(a:Addr):Array Value:=#[.str ((ts.lookup a).getD "") 0]
theorem zlf:∀{ts:List (Addr×Str)},(ts.map (·.1)).Nodup->∀t∈ts,(nmM ts t.1)[0]?=some (Value.str t.2 0)
|[],_,t,h=>by cases h
|(a,q)::ts,nd,t,h=>by
   rw[waL,waK] at nd;rcases waf.mp h with rfl|h
   .unfold nmM;simp
   .have hne:(t.1 == a)=false:=beq_eq_false_iff_ne.mpr λz=>nd.1 (by rw[<-z];exact waO.mpr ⟨t,h,rfl⟩)
    have ih:=zlf nd.2 t h
    unfold nmM at ih⊢;rw[waT,hne];exact ih
def spM (K:W.Frag)(qs:List Str):List Addr->(Addr->Array Value)->Sp:=λtb nm vs H Q _=>vs.length=1/\(tb.length=qs.length->(∀t∈tb.zip qs,(nm t.1)[0]?=some (Value.str t.2 0))->∃S:Scr,vs = [.ref S.p]/\PcM K S (tb.zip qs) H/\∀H',Q (.bl true) H')
def lawM {P:Program}{w:World}{K:W.Frag}{mg:Str->Option Value}{base:Heap}{k:Nat}{f:Addr}{fd:FuncData}{x:Str}{tb:List Addr}{qs:List Str}{m:Scr->List D->Option D}{nm:Addr->Array Value}
 (hl0:tb.length=qs.length) (hn:∀t∈tb.zip qs,(nm t.1)[0]?=some (Value.str t.2 0)) (F:∀S:Scr,FnOk P w K mg base CX0 k f fd [x] (pcS (PcM K S (tb.zip qs)) (spF K (m S)))) (hl:∀S:Scr,m S [.scr S.p]=some (.bl true)):FnOk P w K mg base CX0 k f fd [x] (spM K qs tb nm):=
 ⟨λvs H Q E h=>h.1,λA outer s H args us vs Q E hr he hb hv h=>by
  obtain⟨S,e,hP,hq⟩:=h.2 hl0 hn;subst e;refine(F S).run A outer s H args us _ Q E hr he hb hv ⟨hP,λ_=>False,[.scr S.p],.bl true,λ_ h=>h.elim,.cons (.scr _) .nil,hl S,λv H' J' u r=>?_⟩;cases r;exact hq _⟩
def walkM {l:PySem.W.OpenLaw}{k:Nat}{x:Str}{qs:List Str}{q:Program}{loose:List Str}{XP:(Str->Option Value)->Heap->Prop}{YP:World->Heap->Prop}{d:DefRec}{K:Params->W.Frag}(hn:l.most=some 63)(hdf:d.params.defaults = [])(hr:Room k callerA)
 (hY:∀(w:World) (h:Heap),YP w h->(K w.params).In h)
 (F:∀(w:World) (mg mb:Str->Option Value) (mean:ExcName->Option Value) (fa:Addr) (h:Heap),(K w.params).In h->Top q (PySem.W.looseW q loose) mean mg mb h->mg d.name=some (.ref fa)->
  ∃(fd:FuncData) (tb:List Addr) (nm:Addr->Array Value),Tabs (K w.params) h tb/\(∀(s:Shared) (u:Value),BindsTo s fd ⟨[u],[]⟩ [(x,u)])/\
   ∀(base:Heap) (bm:Addr) (ob:Obj),(K w.params).In base->base.Ns mainGlobals mg->BMod base mainGlobals mg bm ob->FnOk l.prog w (K w.params) mg base CX0 k fa fd [x] (spM (K w.params) qs tb nm)) :
 PySem.W.WalkO q loose XP YP l.row.toRowW d [] (λf vs=>PySem.call f vs):=
 zju (n:=63) (k:=k) (x:=x) (CX:=λ_=>CX0) (sp:=λw=>spM (K w.params) qs) hn (by decide) hdf hr hY F
  (λw tb nm H a ns hl hT hS hF=>⟨rfl,λh0 h1=>⟨⟨a,ns⟩,rfl,⟨SqF.of hS hF,λt ht=>⟨_,hT t.1 (wct ht).1,h1 t ht⟩⟩,λ_=>rfl⟩⟩) λ_ _ _ _ _ z=>z
def zeJ {K:W.Frag}{h:Heap}{ct Pt p:Addr}{ocd:Obj}{vs:Array Value}(X:K.In h)(hB:Based h h ct Pt #[])(lt:K.lookup ct=some ocd)(dt:ocd.data=.fields vs)(v11:vs.getD 11 .none=.ref p):Pt=p:=by
 obtain⟨o,vs',_,_,_,_,_,_,_,_,e1,e2,e3,_⟩:=hB.code;rw[X _ _ lt] at e1;cases e1;rw[dt] at e2;cases e2;rw[v11] at e3;cases e3;rfl
theorem zji {P:Program}{w:World}{K:W.Frag}{mg:Str->Option Value}{base:Heap}{f:Addr}{fd:FuncData}{ps:List Str}{x:Str}{Pc:Hp->Prop}{b:(List D->Option D)->List D->Option D}{m:Nat->List D->Option D}{c:Nat}(h0:∀ds,m 0 ds=none)(hs:∀n,m (n+1)=b (m n))
 (bd:Binds K fd ps []) (kp:W.keepIn K (.ref f)=true) (mx:mg x=some (.ref f)) {k:Nat}(hlen:∀n ds d,m n ds=some d->ds.length=ps.length)
 (step:∀{n:Nat}{self:List D->Option D},Cal P w K mg base n x ps (pcS Pc (spF K self))->FnOk P w K mg base CX0 (n+c) f fd ps (pcS Pc (spF K (b self)))):∀n,FnOk P w K mg base CX0 (k+c*n) f fd ps (pcS Pc (spF K (m n)))
|0=>by
   refine⟨λvs H Q E h=>?_,λA outer s H args us vs Q E _ _ _ _ h=>?_⟩
   .obtain⟨_,J,ds,d,_,_,e,_⟩:=h;rw[h0] at e;cases e
   .obtain⟨_,J,ds,d,_,_,e,_⟩:=h;rw[h0] at e;cases e
|n+1=>by
   rw[hs,Nat.mul_succ,<-Nat.add_assoc];exact step ⟨f,fd,zji h0 hs bd kp mx hlen step n,bd,kp,mx⟩
end VD
namespace PySem.W.Fast
def tw14418723744139936771:=0
def tw16613736630926070723:=0
def tw6760404712478262975:=0
def tw5876589623957120952:=0
def tw587601385026836692:=0
def tw16515583488210602945:=0
def tw7265505570262269433:=0
def tw14769796393705897763:=0
def tw4749927198505595140:=0
def tw16978903309686418606:=0
def tw6026009150848772203:=0
def tw7576593649151050777:=0
def tw1648642593238690343:=0
def tw15041998147858720173:=0
def tw10553243497077697375:=0
def tw11717063426321701183:=0
def tw14151352066110805992:=0
def tw16709636311415120422:=0
def tw10421713484142029964:=0
def tw6308030341011632604:=0
def tw13647029284863964266:=0
def tw17179141760850272540:=0
def tw3422565469621398379:=0
def tw13038884852784068720:=0
def tw2451738817495961392:=0
def tw1983382920199549399:=0
def tw11275100088460848753:=0
def tw115027486899842255:=0
def tw15491901025636384144:=0
def tw7773598201123904343:=0
def tw12293219924421914140:=0
def tw14955993020132060231:=0
def tw13657369621304323384:=0
def tw16131457571260234567:=0
def tw4776527325258792692:=0
def tw803717893176008657:=0
def tw8664501802643019602:=0
def tw7956303701335116065:=0
def tw420050931187742056:=0
def tw1398149779666295039:=0
def tw17826468616683165983:=0
def tw6349720000413737277:=0
def tw8182143133748284199:=0
def tw4069445011674954081:=0
def tw685143915428995479:=0
def tw11520812897358199434:=0
def tw7889524120598555182:=0
def tw12294109020778970201:=0
def tw12562791081357185146:=0
def tw2036013147568023753:=0
def tw2695549800252161561:=0
def tw16199804418179453447:=0
def tw6260083325889388621:=0
def tw3078803234247332142:=0
def tw5718092649169554193:=0
def tw1118464109199556713:=0
def tw14725740090477177271:=0
def tw14675741563373105257:=0
def tw15747646089454803125:=0
def tw10628511410456848958:=0
def tw3487105324114580179:=0
def tw15182244977104121955:=0
def tw12173802533892801503:=0
def tw10273906506752142196:=0
def tw10075090483374128113:=0
def tw2054717534314366653:=0
def tw3890785187906989443:=0
def tw5068442853486255401:=0
def tw9605431159231298237:=0
def tw10772039402256533509:=0
def tw2864269015788107234:=0
def tw15099898812562897623:=0
def tw5701851058712635989:=0
def tw3902788852829823512:=0
def tw12172656645505647828:=0
def tw6531399815308847223:=0
def tw1709041038225249:=0
def tw1045282552688035962:=0
def tw6556760571605943981:=0
def tw3704839107467940134:=0
def tw13256972667570614519:=0
def tw4389297502479492041:=0
def tw6190974737889298087:=0
def tw11675131506153726358:=0
def tw18382161716029264979:=0
def tw18337082157041507059:=0
def tw14172754937975435039:=0
def tw16723115087081878421:=0
def tw8959441227074203672:=0
def tw901530704391329584:=0
def tw13205361081355966904:=0
def tw8239898448904069769:=0
def tw14826673794809642718:=0
def tw9242201103953756828:=0
def tw13609743390313819422:=0
def tw14368590974152304556:=0
def tw10327625161659084603:=0
def tw18184615873356170231:=0
def tw2246657661833471005:=0
def tw6390534189517917108:=0
def tw7227667959404065083:=0
def tw11745968055388646354:=0
def tw1972023652866328869:=0
def tw8156902598550888547:=0
def tw7572544855903841292:=0
def tw9620646834263482056:=0
def tw13917822709545143359:=0
def tw8592606146367115819:=0
def tw17157093813996754259:=0
def tw9930378598595881320:=0
def tw15627067863688587675:=0
def tw10073924188407422545:=0
def tw7509320396906656694:=0
def tw12046961379600074587:=0
def tw6657981513239327350:=0
def tw17559042195559169521:=0
def tw15880392892783735218:=0
def tw3727875382726020267:=0
def tw9171093423051235340:=0
def tw10288300383573330194:=0
def tw1418169126264101254:=0
def tw12592628428000943153:=0
def tw12626981662199057298:=0
def tw621796696766774722:=0
def tw2917665619739872572:=0
def tw8513992564664174323:=0
def tw1765489525690519491:=0
def tw3365706172196940808:=0
def tw1608302746596081468:=0
def tw12270952751492834712:=0
def tw17735796839229600474:=0
def tw16847094362412112209:=0
def tw9215340916636346039:=0
def tw3068451361038038339:=0
def tw10177299696686289700:=0
def tw7735762862436058476:=0
def tw341303070425842475:=0
def tw15185464133720810166:=0
def tw1636861232073275261:=0
def tw2915593576451879528:=0
def tw7174533927129396108:=0
def tw6540021696180533709:=0
def tw4382141448434419809:=0
def tw15256446421157082254:=0
def tw18280919492764372857:=0
def tw4400713514759850337:=0
def tw12166235698810037996:=0
def tw645456522659548992:=0
def tw10127327986294475187:=0
def tw13861277167602389367:=0
def tw7496646246458587193:=0
def tw1841656071214252414:=0
def tw11510573860960393430:=0
def tw8461098278445144380:=0
def tw6309043984540663364:=0
def tw8013039128548474109:=0
def tw17374210645824045773:=0
def tw11304368867491497533:=0
def tw10865168009196934963:=0
def tw4823100591839031547:=0
def tw6953597446553396258:=0
def tw11199296597766907728:=0
def tw2552589851953062543:=0
def tw16902207685556093431:=0
def tw12407773516389729075:=0
def tw2507657823486132490:=0
def tw16360725252534896131:=0
def tw1065869596653143478:=0
def tw4224630222690104192:=0
def tw18143541055320085447:=0
def tw5849870709346649722:=0
def tw13876766416445519608:=0
def tw14241919021650722030:=0
def tw17174903067416265811:=0
def tw9952347641681950446:=0
def tw3357270241390644029:=0
def tw925761363377049535:=0
def tw2009165150010580156:=0
def tw11954403801812622313:=0
def tw12540618469622191889:=0
def tw8648841517058922192:=0
def tw18391867671569788596:=0
def tw14553714142706760430:=0
def tw14914449420209555459:=0
def tw11516650674734551652:=0
def tw14971006353963606162:=0
def tw13212092547090556775:=0
def tw13688186550751994714:=0
def tw15200705880805221196:=0
def tw4098845861853648210:=0
def tw18321783247719571175:=0
def tw13309691811680097137:=0
def tw5708729190277953169:=0
def tw11952554848377215737:=0
def tw5462735599278525117:=0
def tw17567587517463859804:=0
def tw15787821961029651685:=0
def tw10550202783182526007:=0
def tw13935295623512327439:=0
def tw12816651567548449454:=0
def tw14994021961394052794:=0
def tw15044296337966051339:=0
def tw15569919471759508791:=0
def tw10582476943148095646:=0
def tw4733481277003468862:=0
def tw7962098769277837661:=0
def tw9815129109873677006:=0
def tw13555368537637474848:=0
def tw1018066632665758786:=0
def tw14900401756838062006:=0
def tw12899435523538881221:=0
def tw6110167482296471708:=0
def tw1800678179516720249:=0
def tw7692149996626399537:=0
def tw14184745414132521636:=0
def tw16202543730643134920:=0
def tw4789280087780814982:=0
def tw5471005402070162230:=0
def tw15475661206260886095:=0
def tw8191935262362604644:=0
def tw3484503433267211830:=0
def tw17100855139554175537:=0
def tw18202064819335800478:=0
def tw16646301352293251248:=0
def tw7978787215499206304:=0
def tw18078538924136615159:=0
def tw15063260863043155153:=0
def tw13970019084951309032:=0
def tw5845556999146763692:=0
def tw4603954545829193317:=0
def tw16238737591406725057:=0
def tw10266072804875477179:=0
def tw7057401560021294863:=0
def tw17885649712123429231:=0
def tw18094977703491054502:=0
def tw13191521121970752681:=0
def tw12857000581689549583:=0
def tw1589170794916391068:=0
def tw11532064036185530401:=0
def tw15273862698355822802:=0
def tw104579941302836809:=0
end PySem.W.Fast
namespace Pg
open PySem PySem.Spec PyProof PyProof.Rows L2 VD EX
def zay {p:Str->Prop}{x:Str}{xs:List Str}(h:p x)(t:∀y∈xs,p y):∀y∈x::xs,p y:=λy hy=>(waf.mp hy).elim (λe=>e▸h) (t y)
def FH (K:W.Frag)(x:Str)(st:Stmt)(f:Addr):Prop:=W.nsIn K mainGlobals x=some (some (.ref f))/\(∃fd,Fun K x x st f fd)/\W.keepIn K (.ref f)=true
def fh_mk {K:W.Frag}{x:Str}{st:Stmt}{f:Addr}{oc:Value}{od an:Option Addr}{osl:Array (Option Value)}{kV doc pm cdv ct:Value}(a:W.nsIn K mainGlobals x=some (some (.ref f)))(l:K.lookup f=some ⟨oc,od,.func (W.fnOf x x (zbx st) (zaW st) (zab st) .none kV doc pm an cdv ct),osl⟩)(c:W.codeIn K cdv x=true)(k:W.keepIn K (.ref f)=true):FH K x st f:=⟨a,⟨_,zeU l c k⟩,k⟩
def xj_mk {K:W.Frag}{C N:Addr}{nm0 q:Str}{bs bm:List Value}{hdct:Bool}{sn:List Str}{sub:List Value}{ab:Bool}{col:Option Bool}{dd:Option Addr}{k0 k1 k2 k3 k5:Option Value}
 (lk:K.lookup C=some (excClassObj nm0 q C N bs bm hdct sn sub ab col dd k0 k1 k2 k3 k5 "ValueError.__new__")) (opq:W.nsIn K PySem.cStatics "thirdparty.any"=some none) (self:PySem.W.mroIn K C (.ref C)=some true) (t1:EX.tailIn K [.type "ValueError",.type "Exception",.type "BaseException",.type "object"] bm=true) (no:W.nsIn K N "__init__"=some none) (sN:EX.strsIn K N=true):EX.XJ K C N bm:=
 ⟨⟨⟨nm0,q,bs,hdct,sn,sub,ab,col,dd,k0,k1,k2,k3,k5,lk⟩,λh X=>EX.tail_K X (λA tl=>by simp) t1,opq,self⟩,no,sN⟩
def zc5:∀(n:Nat) (ds:List D) (d:D),zaB n ds=some d->ds.length=2
|0,ds,d,e=>by cases e
|n+1,ds,d,e=>zcX ds d e
def zd5:∀(n:Nat) (ds:List D) (d:D),zaf n ds=some d->ds.length=2
|0,ds,d,e=>by cases e
|n+1,ds,d,e=>zcX ds d e
def all_mk {l:PySem.W.OpenLaw}{q:Program}{loose:List Str}{w:World}{K:W.Frag}{h:Heap}{mg mb:Str->Option Value}{mean:ExcName->Option Value}{dR5 dR7 dR12:DefRec}{fa f1 f2 f3 f4 f5 f6 f7 f8 f9 f10 f11 f12 f13 f14 f15 f16 f17 f18 f19 f20 f21 f22 f23 f24 f25 f26 q5 p5 q7 p7 q12 p12:Addr}(X:K.In h)(T:Top q loose mean mg mb h)(hfa:mg "law"=some (.ref fa))
 {od5 an5 od7 an7 od12 an12 od26 an26:Option Addr}{sl5 sl7 sl12 sl26:Array (Option Value)}{oc5 kV5 dc5 pm5 ct5 oc7 kV7 dc7 pm7 ct7 oc12 kV12 dc12 pm12 ct12 oc26 kV26 dc26 pm26 ct26 cd26:Value}
 {oct5:Obj}{vs5:Array Value}(lt5:K.lookup q5=some oct5) (dt5:oct5.data=.fields vs5) (v5:vs5.getD 11 .none=.ref p5)
 {oct7:Obj}{vs7:Array Value}(lt7:K.lookup q7=some oct7) (dt7:oct7.data=.fields vs7) (v7:vs7.getD 11 .none=.ref p7)
 {oct12:Obj}{vs12:Array Value}(lt12:K.lookup q12=some oct12) (dt12:oct12.data=.fields vs12) (v12:vs12.getD 11 .none=.ref p12)
 (nd:[p5,p7,p12].Nodup)
 (h1:FH K "placed_within" zbA f1)
 (h2:FH K "placed_parts" zbO f2)
 (h3:FH K "parts_of" zcw f3)
 (h4:FH K "names_of" zcv f4)
 (a5:W.nsIn K mainGlobals "is_name"=some (some (.ref f5))) (l5:K.lookup f5=some ⟨oc5,od5,.func (W.fnOf "is_name" "is_name" (zbx zbq) (zaW zbq) (zab zbq) .none kV5 dc5 pm5 an5 (.ref q5) ct5),sl5⟩) (c5:W.codeIn K (.ref q5) "is_name"=true) (k5:W.keepIn K (.ref f5)=true)
 (h6:FH K "is_whole" zdb f6)
 (a7:W.nsIn K mainGlobals "is_box"=some (some (.ref f7))) (l7:K.lookup f7=some ⟨oc7,od7,.func (W.fnOf "is_box" "is_box" (zbx zbH) (zaW zbH) (zab zbH) .none kV7 dc7 pm7 an7 (.ref q7) ct7),sl7⟩) (c7:W.codeIn K (.ref q7) "is_box"=true) (k7:W.keepIn K (.ref f7)=true)
 (h8:FH K "is_word" zdO f8)
 (h9:FH K "is_rank" zdP f9)
 (h10:FH K "is_head" zdQ f10)
 (h11:FH K "is_part" zdN f11)
 (a12:W.nsIn K mainGlobals "are_parts"=some (some (.ref f12))) (l12:K.lookup f12=some ⟨oc12,od12,.func (W.fnOf "are_parts" "are_parts" (zbx zaU) (zaW zaU) (zab zaU) .none kV12 dc12 pm12 an12 (.ref q12) ct12),sl12⟩) (c12:W.codeIn K (.ref q12) "are_parts"=true) (k12:W.keepIn K (.ref f12)=true)
 (h13:FH K "musts_of" zcx f13)
 (h14:FH K "refuse_twice" zbP f14)
 (h15:FH K "are_nested" zcl f15)
 (h16:FH K "refuse_heads" zbh f16)
 (h17:FH K "tied_names" zbr f17)
 (h18:FH K "ring_of" zdR f18)
 (h19:FH K "checked" zc0 f19)
 (h20:FH K "_law_mixed" zcm f20)
 (h21:FH K "_law_rows" zcM f21)
 (h22:FH K "_law_hung" zb3 f22)
 (h23:FH K "_law_bent" zcN f23)
 (h24:FH K "_law_refused" zbQ f24)
 (h25:FH K "_law_deep" zcO f25)
 (a26:W.nsIn K mainGlobals "law"=some (some (.ref f26))) (l26:K.lookup f26=some ⟨oc26,od26,.func (W.fnOf "law" "law" (zbx zeB) (zaW zeB) (zab zeB) .none kV26 dc26 pm26 an26 cd26 ct26),sl26⟩) (c26:W.codeIn K cd26 "law"=true) (k26:W.keepIn K (.ref f26)=true)
 (z0:W.nsIn K mainGlobals "len"=some none)
 (z1:W.nsIn K mainGlobals "range"=some none)
 (z2:W.nsIn K mainGlobals "min"=some none)
 (z3:W.nsIn K mainGlobals "max"=some none)
 (z4:W.nsIn K mainGlobals "int"=some none)
 (z5:W.nsIn K mainGlobals "str"=some none)
 (z6:W.nsIn K mainGlobals "bool"=some none)
 (z7:W.nsIn K mainGlobals "list"=some none)
 (z8:W.nsIn K mainGlobals "tuple"=some none)
 (z9:W.nsIn K mainGlobals "isinstance"=some none)
 (z10:W.nsIn K mainGlobals "any"=some none)
 (z11:W.nsIn K mainGlobals "all"=some none)
 (z12:W.nsIn K mainGlobals "enumerate"=some none)
 (z13:W.nsIn K mainGlobals "abs"=some none)
 (z14:W.nsIn K mainGlobals "sorted"=some none)
 (z15:W.nsIn K mainGlobals "dict"=some none)
 (z16:W.nsIn K mainGlobals "ord"=some none)
 (z17:W.nsIn K mainGlobals "chr"=some none)
 (z18:W.nsIn K mainGlobals "reversed"=some none)
 {tk_PARTS:Tok}
 {tk_NAME:Tok}
 {tk_LONGEST_NAME:Tok}
 {tk_LETTERS:Tok}
 {p_WORDS:Addr}{od_WORDS:Option Addr}{n_WORDS:Nat}{sl_WORDS:Array (Option Value)}{tk_WORDS_0 tk_WORDS_1 tk_WORDS_2:Tok}
 {tk_DEEPEST:Tok}
 {tk_HEAD:Tok}
 {tk_MOST_PARTS:Tok}
 (K_str:Kit K "str")
 (K_bool:Kit K "bool")
 (K_int:Kit K "int")
 (K_tuple:Kit K "tuple")
 (g_PARTS:W.nsIn K mainGlobals "PARTS"=some (some (.int 5 tk_PARTS)))
 (g_NAME:W.nsIn K mainGlobals "NAME"=some (some (.int 0 tk_NAME)))
 (g_LONGEST_NAME:W.nsIn K mainGlobals "LONGEST_NAME"=some (some (.int 8 tk_LONGEST_NAME)))
 (g_LETTERS:W.nsIn K mainGlobals "LETTERS"=some (some (.str "abcdefghijklmnopqrstuvwxyz" tk_LETTERS)))
 (g_WORDS:W.nsIn K mainGlobals "WORDS"=some (some (.ref p_WORDS)))
 (l_WORDS:K.lookup p_WORDS=some ⟨.type "tuple",od_WORDS,.seq #[.str "free" tk_WORDS_0,.str "shut" tk_WORDS_1,.str "hidden" tk_WORDS_2] n_WORDS,sl_WORDS⟩)
 (g_DEEPEST:W.nsIn K mainGlobals "DEEPEST"=some (some (.int 5 tk_DEEPEST)))
 (g_HEAD:W.nsIn K mainGlobals "HEAD"=some (some (.int 4 tk_HEAD)))
 (g_MOST_PARTS:W.nsIn K mainGlobals "MOST_PARTS"=some (some (.int 40 tk_MOST_PARTS)))
 {C_NoSheet:Addr}(n_NoSheet:W.nsIn K mainGlobals "NoSheet"=some (some (.ref C_NoSheet)))
 {C_FocusError:Addr}(n_FocusError:W.nsIn K mainGlobals "FocusError"=some (some (.ref C_FocusError)))
 {C_MustRing:Addr}(n_MustRing:W.nsIn K mainGlobals "MustRing"=some (some (.ref C_MustRing)))
 {C_NoDeed:Addr}(n_NoDeed:W.nsIn K mainGlobals "NoDeed"=some (some (.ref C_NoDeed)))
 {C_NoHead:Addr}(n_NoHead:W.nsIn K mainGlobals "NoHead"=some (some (.ref C_NoHead)))
 {C_NoKey:Addr}(n_NoKey:W.nsIn K mainGlobals "NoKey"=some (some (.ref C_NoKey)))
 {C_NoLine:Addr}(n_NoLine:W.nsIn K mainGlobals "NoLine"=some (some (.ref C_NoLine)))
 {C_NoPart:Addr}(n_NoPart:W.nsIn K mainGlobals "NoPart"=some (some (.ref C_NoPart)))
 {C_NoPlace:Addr}(n_NoPlace:W.nsIn K mainGlobals "NoPlace"=some (some (.ref C_NoPlace)))
 {C_NoText:Addr}(n_NoText:W.nsIn K mainGlobals "NoText"=some (some (.ref C_NoText)))
 {C_NotOpen:Addr}(n_NotOpen:W.nsIn K mainGlobals "NotOpen"=some (some (.ref C_NotOpen)))
 {C_NoWay:Addr}(n_NoWay:W.nsIn K mainGlobals "NoWay"=some (some (.ref C_NoWay)))
 {C_TooMany:Addr}(n_TooMany:W.nsIn K mainGlobals "TooMany"=some (some (.ref C_TooMany)))
 {C_Twice:Addr}(n_Twice:W.nsIn K mainGlobals "Twice"=some (some (.ref C_Twice)))
 {N_NoSheet:Addr}{bm_NoSheet:List Value}(xj_NoSheet:EX.XJ K C_NoSheet N_NoSheet bm_NoSheet) (kp_NoSheet:W.keepIn K (.ref C_NoSheet)=true) (bb_NoSheet:bm_NoSheet.contains (.type "BaseException")=true)
 (fe_b:PySem.W.mroIn K C_FocusError (.type "BaseException")=some true)
 (fe_t:PySem.W.typeIn K (.ref C_FocusError)=some (.type "type"))
 (z_VE:W.nsIn K mainGlobals "ValueError"=some none)
 (fe_NoSheet:PySem.W.mroIn K C_NoSheet (.ref C_FocusError)=some true)
 (xk_NoSheet:EX.XK1 K C_NoSheet)
 (i_1:PySem.W.kitOne K (.ref C_NoSheet) (.ref C_NoSheet)=some true)
 (i_2:PySem.W.kitAny K (.ref C_NoSheet) [.ref C_MustRing,.ref C_NoDeed,.ref C_NoHead,.ref C_NoKey,.ref C_NoLine,.ref C_NoPart,.ref C_NoPlace,.ref C_NoText,.ref C_NotOpen,.ref C_NoWay,.ref C_TooMany,.ref C_Twice]=some false)
 (i_3:PySem.W.kitOne K (.ref C_NoSheet) (.type "ValueError")=some true)
 (hK:PySem.W.kb_classed K=true) (hf5:(recsOf q).find? (λe=>e.name == (Str.ofString "is_name"))=some dR5) (hf7:(recsOf q).find? (λe=>e.name == (Str.ofString "is_box"))=some dR7) (hf12:(recsOf q).find? (λe=>e.name == (Str.ofString "are_parts"))=some dR12)
 : ∃(fd:FuncData) (tb:List Addr) (nm:Addr->Array Value),Tabs K h tb/\(∀(s:Shared) (v:Value),BindsTo s fd ⟨[v],[]⟩ [("_law_script",v)])/\∀(base:Heap) (bm:Addr) (ob:Obj),K.In base->base.Ns mainGlobals mg->BMod base mainGlobals mg bm ob->FnOk l.prog w K mg base CX0 53 fa fd ["_law_script"] (spM K ["is_name.<locals>.<genexpr>","is_box.<locals>.<genexpr>","are_parts.<locals>.<genexpr>"] tb nm):=by
 have e:=hfa.symm.trans (wbc X T.g a26)
 cases e;have G_PARTS:GlobD K mg "PARTS" (.int 5):=zct (wbc X T.g g_PARTS)
 have G_NAME:GlobD K mg "NAME" (.int 0):=zct (wbc X T.g g_NAME)
 have G_LONGEST_NAME:GlobD K mg "LONGEST_NAME" (.int 8):=zct (wbc X T.g g_LONGEST_NAME)
 have G_LETTERS:GlobD K mg "LETTERS" (.str "abcdefghijklmnopqrstuvwxyz"):=zjS (wbc X T.g g_LETTERS)
 have G_WORDS:GlobD K mg "WORDS" (.tup [(.str "free"),(.str "shut"),(.str "hidden")]):=zjT (vs:=[.str "free",.str "shut",.str "hidden"]) (wbc X T.g g_WORDS) l_WORDS rfl rfl (by show 3<=sizeLine;decide) (.cons ⟨_,rfl⟩ (.cons ⟨_,rfl⟩ (.cons ⟨_,rfl⟩ (.nil)))) (λ_ _=>.cons (.str _) (.cons (.str _) (.cons (.str _) (.nil))))
 have G_DEEPEST:GlobD K mg "DEEPEST" (.int 5):=zct (wbc X T.g g_DEEPEST)
 have G_HEAD:GlobD K mg "HEAD" (.int 4):=zct (wbc X T.g g_HEAD)
 have G_MOST_PARTS:GlobD K mg "MOST_PARTS" (.int 40):=zct (wbc X T.g g_MOST_PARTS)
 obtain⟨a1,⟨_,F1⟩,k1⟩:=h1;have b1:=F1.binds (ps:=["parts","outer_place"]) λ_ _ _ _ _ _ us hl=>match us,hl with|[_,_],_=>rfl
 have m1:=wbc X T.g a1
 obtain⟨a2,⟨_,F2⟩,k2⟩:=h2;obtain⟨a3,⟨_,F3⟩,k3⟩:=h3;obtain⟨a4,⟨_,F4⟩,k4⟩:=h4;have F5:=zeU (st:=zbq) l5 c5 k5
 have m5:=wbc X T.g a5
 obtain⟨a6,⟨_,F6⟩,k6⟩:=h6;have F7:=zeU (st:=zbH) l7 c7 k7
 have m7:=wbc X T.g a7
 obtain⟨a8,⟨_,F8⟩,k8⟩:=h8;obtain⟨a9,⟨_,F9⟩,k9⟩:=h9;obtain⟨a10,⟨_,F10⟩,k10⟩:=h10;obtain⟨a11,⟨_,F11⟩,k11⟩:=h11;have F12:=zeU (st:=zaU) l12 c12 k12
 have b12:=F12.binds (ps:=["thing","deep"]) λ_ _ _ _ _ _ us hl=>match us,hl with|[_,_],_=>rfl
 have m12:=wbc X T.g a12
 obtain⟨a13,⟨_,F13⟩,k13⟩:=h13;obtain⟨a14,⟨_,F14⟩,k14⟩:=h14;obtain⟨a15,⟨_,F15⟩,k15⟩:=h15;obtain⟨a16,⟨_,F16⟩,k16⟩:=h16;obtain⟨a17,⟨_,F17⟩,k17⟩:=h17;obtain⟨a18,⟨_,F18⟩,k18⟩:=h18;obtain⟨a19,⟨_,F19⟩,k19⟩:=h19;have b19:=F19.binds (ps:=["thing"]) λ_ _ _ _ _ _ us hl=>match us,hl with|[_],_=>rfl
 have m19:=wbc X T.g a19
 obtain⟨a20,⟨_,F20⟩,k20⟩:=h20;obtain⟨a21,⟨_,F21⟩,k21⟩:=h21;obtain⟨a22,⟨_,F22⟩,k22⟩:=h22;obtain⟨a23,⟨_,F23⟩,k23⟩:=h23;obtain⟨a24,⟨_,F24⟩,k24⟩:=h24;obtain⟨a25,⟨_,F25⟩,k25⟩:=h25;have F26:=zeU (st:=zeB) l26 c26 k26
 have B:Blt mg:=zay (waH X T.g z0) (zay (waH X T.g z1) (zay (waH X T.g z2) (zay (waH X T.g z3) (zay (waH X T.g z4) (zay (waH X T.g z5) (zay (waH X T.g z6) (zay (waH X T.g z7) (zay (waH X T.g z8) (zay (waH X T.g z9) (zay (waH X T.g z10) (zay (waH X T.g z11) (zay (waH X T.g z12) (zay (waH X T.g z13) (zay (waH X T.g z14) (zay (waH X T.g z15) (zay (waH X T.g z16) (zay (waH X T.g z17) (zay (waH X T.g z18) (λ_ hy=>by cases hy)))))))))))))))))))
 have m_NoSheet:=wbc X T.g n_NoSheet
 have m_FocusError:=wbc X T.g n_FocusError
 have m_MustRing:=wbc X T.g n_MustRing
 have m_NoDeed:=wbc X T.g n_NoDeed
 have m_NoHead:=wbc X T.g n_NoHead
 have m_NoKey:=wbc X T.g n_NoKey
 have m_NoLine:=wbc X T.g n_NoLine
 have m_NoPart:=wbc X T.g n_NoPart
 have m_NoPlace:=wbc X T.g n_NoPlace
 have m_NoText:=wbc X T.g n_NoText
 have m_NotOpen:=wbc X T.g n_NotOpen
 have m_NoWay:=wbc X T.g n_NoWay
 have m_TooMany:=wbc X T.g n_TooMany
 have m_Twice:=wbc X T.g n_Twice
 have X_NoSheet:XCl0 K mg "NoSheet":=⟨C_NoSheet,N_NoSheet,bm_NoSheet,xj_NoSheet,m_NoSheet,n_NoSheet,kp_NoSheet,bb_NoSheet⟩
 have xi {v:Value}{p:Bool}(h:PySem.W.kitOne K (.ref C_NoSheet) v=some p):XInst K v [("NoSheet",p)]:=zg7 n_NoSheet xk_NoSheet h ziF
 obtain⟨ct'5,Pt5,hcd5,hB5⟩:=wcq T hf5 m5 (X _ _ l5) rfl;obtain rfl:q5=ct'5:=Value.ref.inj hcd5;obtain rfl:Pt5=p5:=zeJ X hB5 lt5 dt5 v5;have hC5:=CodeK.of X c5 hB5
 obtain⟨ct'7,Pt7,hcd7,hB7⟩:=wcq T hf7 m7 (X _ _ l7) rfl;obtain rfl:q7=ct'7:=Value.ref.inj hcd7;obtain rfl:Pt7=p7:=zeJ X hB7 lt7 dt7 v7;have hC7:=CodeK.of X c7 hB7
 obtain⟨ct'12,Pt12,hcd12,hB12⟩:=wcq T hf12 m12 (X _ _ l12) rfl;obtain rfl:q12=ct'12:=Value.ref.inj hcd12;obtain rfl:Pt12=p12:=zeJ X hB12 lt12 dt12 v12;have hC12:=CodeK.of X c12 hB12
 refine⟨W.fnOf "law" "law" (zbx zeB) (zaW zeB) (zab zeB) .none kV26 dc26 pm26 an26 cd26 ct26,[Pt5,Pt7,Pt12],nmM [(Pt5,"is_name.<locals>.<genexpr>"),(Pt7,"is_box.<locals>.<genexpr>"),(Pt12,"are_parts.<locals>.<genexpr>")],⟨(λP hP=>by
  rcases waf.mp hP with rfl|hP
  .exact⟨_,hB5.tab⟩
  rcases waf.mp hP with rfl|hP
  .exact⟨_,hB7.tab⟩
  rcases waf.mp hP with rfl|hP
  .exact⟨_,hB12.tab⟩
  cases hP),(λP hP=>by
  rcases waf.mp hP with rfl|hP
  .exact zfH X T.g hB5 hK
  rcases waf.mp hP with rfl|hP
  .exact zfH X T.g hB7 hK
  rcases waf.mp hP with rfl|hP
  .exact zfH X T.g hB12 hK
  cases hP)⟩,λs v=>.of_eq rfl,λbase bm ob hk hn hM=>lawM (m:=zmC) (tb:=[Pt5,Pt7,Pt12]) (qs:=["is_name.<locals>.<genexpr>","is_box.<locals>.<genexpr>","are_parts.<locals>.<genexpr>"]) rfl (zlf (ts:=[(Pt5,"is_name.<locals>.<genexpr>"),(Pt7,"is_box.<locals>.<genexpr>"),(Pt12,"are_parts.<locals>.<genexpr>")]) nd) (λS=>?_) λS=>zo4 (S:=S)⟩
 have CM {k:Nat}{x:Str}{ps:List Str}{sp:Sp}{f:Addr}{fd:FuncData}{st:Stmt}(F:Fun K x x st f fd) (h:FnOk l.prog w K mg base CX0 k f fd ps sp) (c:W.keepIn K (.ref f)=true) (a:W.nsIn K mainGlobals x=some (some (.ref f))) (b:∀(kV doc pm:Value) (an:Option Addr) (cdv ct:Value) (us:List Value),us.length=ps.length->bindArgs (W.fnOf x x (zbx st) (zaW st) (zab st) .none kV doc pm an cdv ct) ⟨us,[]⟩=pure (ps.zip us):=by(intro _ _ _ _ _ _ us hl;first|exact(match us,hl with|[_],_=>rfl)|exact(match us,hl with|[_,_],_=>rfl)|exact(match us,hl with|[_,_,_],_=>rfl))):Cal l.prog w K mg base k x ps sp:=⟨f,fd,h,F.binds b,c,wbc X T.g a⟩
 have zc:=@zo5 K S [(Pt5,"is_name.<locals>.<genexpr>"),(Pt7,"is_box.<locals>.<genexpr>"),(Pt12,"are_parts.<locals>.<genexpr>")]
 have TT5:TabF K mg base _ Pt5:=⟨q5,bm,ob,hcd5,hC5,hM⟩
 have TT7:TabF K mg base _ Pt7:=⟨q7,bm,ob,hcd7,hC7,hM⟩
 have TT12:TabF K mg base _ Pt12:=⟨q12,bm,ob,hcd12,hC12,hM⟩
 have C_placed_within:=CM F1 (zkP (P:=l.prog) (w:=w) (K:=K) (mg:=mg) (base:=base) (x:="placed_within") (ps:=["parts","outer_place"]) (b:=zbB) (m:=zaB) (k:=0) (λ_=>rfl) (λ_=>rfl) b1 k1 m1 (zc5) (λ{n} {self} C=>by rw[wcz] at *;exact zdo F1 B C G_PARTS) 8) k1 a1
 have C_placed_parts:=CM F2 (zdT F2 B C_placed_within) k2 a2
 have C_parts_of:=CM F3 (zf2 F3 B C_placed_parts) k3 a3
 have C_names_of:=CM F4 (zf4 F4 B C_parts_of G_NAME) k4 a4
 have C_is_name:=CM F5 (zhd F5 B zc TT5 (zge (t:=(Pt5,"is_name.<locals>.<genexpr>")) 0 rfl) K_str G_LONGEST_NAME G_LETTERS) k5 a5
 have C_is_whole:=CM F6 (zf6 F6 B K_bool K_int) k6 a6
 have C_is_box:=CM F7 (ziQ F7 B zc TT7 (zge (t:=(Pt7,"is_box.<locals>.<genexpr>")) 1 rfl) C_is_whole K_tuple) k7 a7
 have C_is_word:=CM F8 (zhf F8 B K_str G_WORDS) k8 a8
 have C_is_rank:=CM F9 (zhh F9 B C_is_whole) k9 a9
 have C_is_head:=CM F10 (zhj F10 B zc C_is_name) k10 a10
 have C_are_parts:=CM F12 (zji (P:=l.prog) (w:=w) (K:=K) (mg:=mg) (base:=base) (x:="are_parts") (ps:=["thing","deep"]) (b:=zcP) (m:=zaf) (c:=7) (k:=0) (λ_=>rfl) (λ_=>rfl) b12 k12 m12 (zd5) (λ{n} {self} C=>by
  have C_is_part:=CM F11 (zhk F11 B zc C_is_word C_is_box C_is_name C C_is_head C_is_rank K_tuple) k11 a11
  exact zfm F12 B zc TT12 (zge (t:=(Pt12,"are_parts.<locals>.<genexpr>")) 2 rfl) C_is_part K_tuple G_DEEPEST) 7) k12 a12
 have C_musts_of:=CM F13 (zf7 F13 B C_parts_of G_PARTS G_NAME G_HEAD) k13 a13
 have C_refuse_twice:=CM F14 (zdU F14 B) k14 a14
 have C_are_nested:=CM F15 (zeC F15 B) k15 a15
 have C_refuse_heads:=CM F16 (zdV F16 B C_placed_parts C_are_nested G_NAME G_HEAD) k16 a16
 have C_tied_names:=CM F17 (zeD F17 B) k17 a17
 have C_ring_of:=CM F18 (zhl F18 B C_tied_names) k18 a18
 have C_checked:=CM F19 (zhm F19 B zc C_are_parts C_names_of C_refuse_twice C_refuse_heads C_ring_of C_musts_of G_MOST_PARTS) k19 a19
 have CLmixed:=CM F20 (zeF F20 B) k20 a20
 have CLrows:=CM F21 (zfo F21 B zc (S:=S) (λH h=>h.1) CLmixed) k21 a21
 have CLhung:=CM F22 (zfp F22 B) k22 a22
 have CLbent:=CM F23 (zfq F23 B CLmixed) k23 a23
 have X_checked:=zml (zfn F19 B zc C_are_parts X_NoSheet) b19 k19 m19
 have CLrefused:=CM F24 (zdW F24 B (cs:=[]) zc X_checked (zkd m_FocusError n_NoSheet fe_NoSheet (zms m_FocusError fe_b fe_t)) m_NoSheet (waH X T.g z_VE) (xi i_1) m_MustRing m_NoDeed m_NoHead m_NoKey m_NoLine m_NoPart m_NoPlace m_NoText m_NotOpen m_NoWay m_TooMany m_Twice (zf0 n_NoSheet xk_NoSheet i_2 (zg8 (by show 12<=sizeLine;decide))) (xi i_3)) k24 a24
 have CLdeep:=CM F25 (zfr F25 B) k25 a25
 exact zos F26 B zc (S:=S) (λH h=>h.1) CLrows CLhung CLrefused CLbent CLmixed CLdeep C_checked K_tuple
end Pg
open PySem PySem.W PyProof.Rows
set_option maxRecDepth 100000 in
set_option maxHeartbeats 0 in
theorem PySem.Challenge.cw_focuswalk_k04_what_is_no_sheet_holds : PySem.Challenge.rw_focuswalk_k04_what_is_no_sheet.Holds := by
 w_on;o_law;k_head;(case hw=>w_witness2)
 k_fill
 refine VD.walkM (l:=PySem.Challenge.rw_focuswalk_k04_what_is_no_sheet) (k:=53) (x:="_law_script") (qs:=["is_name.<locals>.<genexpr>","is_box.<locals>.<genexpr>","are_parts.<locals>.<genexpr>"]) rfl rfl ⟨rfl,by decide,by decide,rfl⟩ (λw h Y=>PySem.W.kIn_of Y) ?F;case F=>
  intro w mg mb mean fa h KX T hmg;refine' Pg.all_mk KX T hmg ?lt5 ?dt5 ?v5 ?lt7 ?dt7 ?v7 ?lt12 ?dt12 ?v12 ?nd (Pg.fh_mk ?a1 ?l1 ?c1 ?k1) (Pg.fh_mk ?a2 ?l2 ?c2 ?k2) (Pg.fh_mk ?a3 ?l3 ?c3 ?k3) (Pg.fh_mk ?a4 ?l4 ?c4 ?k4) ?a5 ?l5 ?c5 ?k5 (Pg.fh_mk ?a6 ?l6 ?c6 ?k6) ?a7 ?l7 ?c7 ?k7 (Pg.fh_mk ?a8 ?l8 ?c8 ?k8) (Pg.fh_mk ?a9 ?l9 ?c9 ?k9) (Pg.fh_mk ?a10 ?l10 ?c10 ?k10) (Pg.fh_mk ?a11 ?l11 ?c11 ?k11) ?a12 ?l12 ?c12 ?k12 (Pg.fh_mk ?a13 ?l13 ?c13 ?k13) (Pg.fh_mk ?a14 ?l14 ?c14 ?k14) (Pg.fh_mk ?a15 ?l15 ?c15 ?k15) (Pg.fh_mk ?a16 ?l16 ?c16 ?k16) (Pg.fh_mk ?a17 ?l17 ?c17 ?k17) (Pg.fh_mk ?a18 ?l18 ?c18 ?k18) (Pg.fh_mk ?a19 ?l19 ?c19 ?k19) (Pg.fh_mk ?a20 ?l20 ?c20 ?k20) (Pg.fh_mk ?a21 ?l21 ?c21 ?k21) (Pg.fh_mk ?a22 ?l22 ?c22 ?k22) (Pg.fh_mk ?a23 ?l23 ?c23 ?k23) (Pg.fh_mk ?a24 ?l24 ?c24 ?k24) (Pg.fh_mk ?a25 ?l25 ?c25 ?k25) ?a26 ?l26 ?c26 ?k26 ?z0 ?z1 ?z2 ?z3 ?z4 ?z5 ?z6 ?z7 ?z8 ?z9 ?z10 ?z11 ?z12 ?z13 ?z14 ?z15 ?z16 ?z17 ?z18 ⟨?t_str_NoneType,?t_str_bool,?t_str_int,?t_str_str,?t_str_tuple,?t_str_list,?t_str_dict⟩ ⟨?t_bool_NoneType,?t_bool_bool,?t_bool_int,?t_bool_str,?t_bool_tuple,?t_bool_list,?t_bool_dict⟩ ⟨?t_int_NoneType,?t_int_bool,?t_int_int,?t_int_str,?t_int_tuple,?t_int_list,?t_int_dict⟩ ⟨?t_tuple_NoneType,?t_tuple_bool,?t_tuple_int,?t_tuple_str,?t_tuple_tuple,?t_tuple_list,?t_tuple_dict⟩ ?g_PARTS ?g_NAME ?g_LONGEST_NAME ?g_LETTERS ?g_WORDS ?l_WORDS ?g_DEEPEST ?g_HEAD ?g_MOST_PARTS ?n_NoSheet ?n_FocusError ?n_MustRing ?n_NoDeed ?n_NoHead ?n_NoKey ?n_NoLine ?n_NoPart ?n_NoPlace ?n_NoText ?n_NotOpen ?n_NoWay ?n_TooMany ?n_Twice (Pg.xj_mk ?lk_NoSheet ?opq_NoSheet ?self_NoSheet ?t1_NoSheet ?no_NoSheet ?sN_NoSheet) ?kp_NoSheet ?bb_NoSheet ?fe_b ?fe_t ?z_VE ?fe_NoSheet ⟨?ga_NoSheet,?gt_NoSheet,?xb_NoSheet,?xo_NoSheet,?hd_NoSheet,?cl_NoSheet,?x_sg,?x_tk⟩ ?i_1 ?i_2 ?i_3 ?hK ?hf5 ?hf7 ?hf12
  (case n_NoSheet|n_FocusError|n_MustRing|n_NoDeed|n_NoHead|n_NoKey|n_NoLine|n_NoPart|n_NoPlace|n_NoText|n_NotOpen|n_NoWay|n_TooMany|n_Twice=>k_is)
  (case lk_NoSheet=>k_is)
  (case opq_NoSheet=>k_is)
  (case self_NoSheet=>k_is)
  (case t1_NoSheet=>exact rfl)
  (case no_NoSheet=>k_is)
  (case sN_NoSheet=>exact rfl)
  (case hK=>first|(with_unfolding_all rfl)|rfl)
  (case hf5=>rfl)
  (case hf7=>rfl)
  (case hf12=>rfl)
  (case a5=>k_is)
  (case l5=>k_is)
  (case c5=>k_is)
  (case k5=>k_is)
  (case lt5=>k_is)
  (case dt5=>exact rfl)
  (case v5=>exact rfl)
  (case a7=>k_is)
  (case l7=>k_is)
  (case c7=>k_is)
  (case k7=>k_is)
  (case lt7=>k_is)
  (case dt7=>exact rfl)
  (case v7=>exact rfl)
  (case a12=>k_is)
  (case l12=>k_is)
  (case c12=>k_is)
  (case k12=>k_is)
  (case lt12=>k_is)
  (case dt12=>exact rfl)
  (case v12=>exact rfl)
  (case nd=>decide)
  all_goals try first|k_is|exact rfl|kit_is

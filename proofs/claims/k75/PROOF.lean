import PyProof.Rows.All
import Wide.All
import OpenK.AllK
import Wide.FinOn
import Lean
import PyProof.EqAt
import PyProof.EqKinds
import PyProof.TupleCall
import KE.KSortTup
import KE.KLam
import PyProof.NeKinds
import PyProof.StrCalls2
import PyProof.StrLawsJoin
import PyProof.MinMaxWalk
import PyProof.Rows.CallKwBuiltin
import PyProof.DictCompW
import KE.KRevIter
import PyProof.FactsAll.list_3
import PyProof.ExcInit
import PyProof.ExcClass3
import PyProof.StationsW
import KE.KSuper
import PyProof.ExcBaseAll.ValueError
import PyProof.RulesAs
import PyProof.NsDelKeeps
import PyProof.ExcArgs
import KE.KIsAll
import PyProof.FString4
import PyProof.ExcClass2
import PyProof.StrWalks
import PyProof.GenQ
import PyProof.ConsumeS
import PyProof.CodeObjX
import PySem.Challenge.RW_focuswalk_k75_what_is_no_deed
set_option Elab.async false
set_option linter.all false
set_option maxRecDepth 100000
set_option maxHeartbeats 4000000
def waa:=@PySem.wpAny_bind
def wab:=@PySem.Heap.get?_push_of_some
def wac:=@List.size_toArray
def wad:=@PySem.Heap.lt_size
def wae:=@PySem.wpAny_pure
def waf:=@List.mem_cons_of_mem
def wag:=@List.getElem?_set_ne
def wah:=@List.mem_cons
def wai:=@Nat.le_refl
def waj:=@List.mem_cons_self
def wak:=@Nat.lt_of_lt_of_le
def wal:=@List.length_append
def wam:=@Nat.le_trans
def wan:=@List.mem_append_right
def wao:=@decide_eq_false
def wap:=@Nat.ne_of_lt
def waq:=@Option.some.inj
def war:=@PySem.wpAny_mono
def was:=@List.getElem?_set_self
def wat:=@PySem.Heap.get?_push_size
def wau:=@List.mem_singleton
def wav:=@List.getElem?_eq_some_iff
def waw:=@List.getElem?_eq_getElem
def wax:=@decide_eq_true
def waz:=@List.length_singleton
def waA:=@PySem.Heap.get?_update_other
def waB:=@PySem.W.mg_none_of
def waC:=@List.getElem?_map
def waD:=@Bool.and_eq_true
def waE:=@PySem.wpAny_Call_Name_kw
def waF:=@PySem.W.kia_one
def waG:=@List.length_map
def waH:=@List.lookup_cons
def waI:=@List.not_mem_nil
def waJ:=@List.all_eq_true
def waK:=@Nat.lt_irrefl
def waL:=@Array.getElem?_eq_some_iff
def waM:=@List.mem_append
def waN:=@Int.emod_nonneg
def waO:=@PySem.wpAny_field
def waP:=@List.replicate_succ
def waQ:=@PySem.wpAny_newObj_type
def waR:=@PySem.Heap.get?_update_self
def waS:=@PySem.wpAny_loadPart_at
def waT:=@Nat.zero_le
def waU:=@PySem.W.mg_of
def waV:=@PySem.Heap.get?_none_of_le
def waW:=@List.mem_of_getElem?
def waX:=@Nat.le_of_succ_le_succ
def waY:=@Option.map_eq_some_iff
def waZ:=@PyProof.Rows.slot_tuple_getitem
def wba:=@Nat.le_of_eq
def wbb:=@List.getElem?_eq_none
def wbc:=@PySem.Obj.data_mapFields
def wbd:=@PySem.wpAny_truthy_bool
def wbe:=@List.append_nil
def wbf:=@PySem.Heap.size_after_update
def wbg:=@List.length_cons
def wbh:=@PySem.wpAny_standAt
def wbi:=@Int.emod_lt_of_pos
def wbj:=@PySem.Heap.size_push
def wbk:=@List.mem_append_left
def wbl:=@PySem.wpAny_loadName_local
def wbm:=@Bool.eq_iff_iff
def wbn:=@PySem.wpAny_loadPart'
def wbo:=@List.flatten_cons
def wbp:=@Nat.le_of_lt
def wbq:=@PySem.mem_of_lookup
def wbr:=@PySem.wpAny_holding
def wbs:=@PySem.wpAny_callSpecial?_slot
def wbt:=@List.map_cons
def wbu:=@PySem.wpAny_getItem_str_slice
def wbv:=@List.length_take
def wbw:=@PySem.wpAny_call_entry
def wbx:=@List.nodup_nil
def wby:=@Bool.false_ne_true
def wbz:=@PySem.W.callWith_K
def wbA:=@PySem.Code.quiet_builtin
def wbB:=@Bool.false_eq_true
def wbC:=@PyProof.Rows.callWith_type1
def wbD:=@PySem.Obj.isFreed_of_fields
def wbE:=@List.find?_cons
def wbF:=@PySem.Heap.get?_push_at
def wbG:=@PySem.F.excBase_ValueError
def wbH:=@PySem.codeAny_call_builtin
def wbI:=@PySem.wpAny_setField
def wbJ:=@congrArg
def wbK:=@Nat.le_succ
def wbL:=@PySem.wpAny_isSubtype_exc
def wbM:=@PySem.F.args_tuple_add_2
def wbN:=@PySem.wpAny_pyIter_tuple
def wbO:=@List.mem_filterMap
def wbP:=@PySem.wpAny_passesOwn
def wbQ:=@PySem.Calls.spliced_cons
def wbR:=@List.nodup_cons
def wbS:=@PySem.F.entry_tuple_add
def wbT:=@List.mem_replicate
def wbU:=@PySem.F.slot_tuple_add
def wbV:=@List.getElem_cons_drop
def wbW:=@PySem.wpAny_call
def wbX:=@PySem.wpAny_of_eq
def wbY:=@List.mem_range
def wbZ:=@List.length_replicate
def wca:=@Bool.beq_eq_decide_eq
def wcb:=@List.length_drop
def wcc:=@PySem.F.plain_all_loop
def wcd:=@PySem.Around.under_plainId
def wce:=@PySem.W.based_of_top
def wcf:=@List.filterMap_cons
def wcg:=@Array.length_toList
def wch:=@PySem.wpAny_execs_nil
def wci:=@List.of_mem_zip
def wcj:=@PySem.Sem.onRaise_eq_wrap
def wck:=@Nat.ne_of_gt
def wcl:=@PySem.codeAny_mono
def wcm:=@PySem.wpAny_typeOf
def wcn:=@List.mem_map
def wco:=@PySem.wpAny_Name
def wcp:=@PySem.wpAny_rule
def zOB {α β:Type _} (a:α) (f:α->Option β):Option.bind (some a) f=f a:=rfl
namespace L2
open PySem PySem.Spec PyProof.Rows
abbrev Key:=Sum Int Str
def zgG:Key->Value->Bool
|.inl k,v=>Value.isInt k v
|.inr x,v=>Value.isStrOf x v
def keyH (w:World):Key->Int
|.inl k=>hashInt k
|.inr x=>hashStr w x
def zaN:∀{k:Key}{v:Value},zgG k v=true->(∃i t,k=Sum.inl i/\v=Value.int i t)\/(∃x t,k=Sum.inr x/\v=Value.str x t)
|.inl i,v,h=>by
   obtain⟨t,e⟩:=Value.isInt_shape (k:=i) (v:=v) h;exact .inl ⟨i,t,rfl,e⟩
|.inr x,v,h=>by
   obtain⟨t,e⟩:=Value.isStrOf_shape (x:=x) (v:=v) h;exact .inr ⟨x,t,rfl,e⟩
def zhq (i:Int)(t:Tok):zgG (.inl i) (.int i t)=true:=by simp[zgG,Value.isInt]
def zhr (x:Str)(t:Tok):zgG (.inr x) (.str x t)=true:=by simp[zgG,Value.isStrOf]
def zl0 (a b:Int):decide ((Sum.inl a:Key)=Sum.inl b)=(a == b):=by
 by_cases e:a=b
 .subst e;simp
 .have h:¬(Sum.inl a:Key)=Sum.inl b:=λq=>e (Sum.inl.inj q)
  rw[wao h];exact(beq_eq_false_iff_ne.mpr e).symm
def zl1 (a b:Str):decide ((Sum.inr a:Key)=Sum.inr b)=decide (a=b):=by
 by_cases e:a=b
 .subst e;simp
 .have h:¬(Sum.inr a:Key)=Sum.inr b:=λq=>e (Sum.inr.inj q)
  rw[wao h,wao e]
def zl2 (a:Int)(b:Str):decide ((Sum.inl a:Key)=Sum.inr b)=false:=wao (λq=>nomatch q)
def zl3 (a:Str)(b:Int):decide ((Sum.inr a:Key)=Sum.inl b)=false:=wao (λq=>nomatch q)
def zbD (prog:Program)(w:World):PySem.KeyKind prog w Key where
 is:=zgG
 hash:=keyH w
 inj:=λv a b ha hb=>by
  rcases zaN ha with⟨i,t,rfl,rfl⟩|⟨x,t,rfl,rfl⟩
  .rcases zaN hb with⟨j,u,rfl,e⟩|⟨y,u,rfl,e⟩
   .injection e with e1 _;rw[e1]
   .exact nomatch e
  .rcases zaN hb with⟨j,u,rfl,e⟩|⟨y,u,rfl,e⟩
   .exact nomatch e
   .injection e with e1 _;rw[e1]
 byValue:=λk v h=>by
  rcases zaN h with⟨i,t,rfl,rfl⟩|⟨x,t,rfl,rfl⟩ <;> rfl
 pyHash:=λhv h=>by
  rcases zaN hv with⟨i,t,rfl,rfl⟩|⟨x,t,rfl,rfl⟩
  .exact wpAny_pyHash_int h
  .exact wpAny_pyHash_str h
 eqBool:=λhu hv h=>by
  rcases zaN hu with⟨i,t,rfl,rfl⟩|⟨x,t,rfl,rfl⟩
  .rcases zaN hv with⟨j,u,rfl,rfl⟩|⟨y,u,rfl,rfl⟩
   .rw[zl0] at h;exact wpAny_eqBool_int h
   .rw[zl2] at h;exact SeqAt.EqAt.int_str i t y u _ _ _ _ h
  .rcases zaN hv with⟨j,u,rfl,rfl⟩|⟨y,u,rfl,rfl⟩
   .rw[zl3] at h;exact SeqAt.EqAt.str_int x t j u _ _ _ _ h
   .rw[zl1] at h;exact wpAny_eqBool_str h
 «strs»:=λk x t v h=>by
  rcases zaN h with⟨i,u,rfl,e⟩|⟨y,u,rfl,e⟩
  .exact nomatch e
  .injection e with e1 _
   subst e1;cases v <;> rfl
def zfy (prog:Program)(w:World)(i:Int)(t:Tok):(zbD prog w).is (.inl i) (.int i t)=true:=zhq i t
def zfz (prog:Program)(w:World)(x:Str)(t:Tok):(zbD prog w).is (.inr x) (.str x t)=true:=zhr x t
inductive V where
|non|bl (b:Bool)|int (i:Int)|str (x:Str)|byt (b:Array UInt8)|flt (b:UInt64)|ref (a:Addr)|ty (n:String)
 deriving DecidableEq
def RelV:V->Value->Prop
|.non,u=>u=Value.none
|.bl b,u=>u=Value.bool b
|.int i,u=>∃t,u=Value.int i t
|.str x,u=>∃t,u=Value.str x t
|.byt b,u=>∃t,u=Value.bytes b t
|.flt b,u=>∃t,u=Value.float b t
|.ref a,u=>u=Value.ref a
|.ty n,u=>u=Value.type n
abbrev Vals:List V->List Value->Prop:=Paired RelV
theorem Vals.length {xs:List V}{us:List Value}(r:Vals xs us):xs.length=us.length:=Paired.length r
theorem Vals.get:∀{xs:List V}{us:List Value}{i:Nat}{x:V},Vals xs us->xs[i]?=some x->∃u,us[i]?=some u/\RelV x u
|_,_,_,_,.nil,e=>by simp at e
|_,_,0,_,.cons r _,e=>by simp at e;subst e;exact⟨_,rfl,r⟩
|_,_,i+1,x,.cons _ t,e=>by
   obtain⟨u,h1,h2⟩:=Vals.get (i:=i) (x:=x) t (by simpa using e);exact⟨u,by simpa using h1,h2⟩
theorem Vals.append:∀{xs ys:List V}{us ws:List Value},Vals xs us->Vals ys ws->Vals (xs++ys) (us++ws)
|_,_,_,_,.nil,s=>s
|_,_,_,_,.cons r t,s=>.cons r (Vals.append t s)
theorem Vals.take:∀{xs:List V}{us:List Value}(n:Nat),Vals xs us->Vals (xs.take n) (us.take n)
|_,_,0,_=>.nil
|_,_,_+1,.nil=>.nil
|_,_,n+1,.cons r t=>.cons r (Vals.take n t)
theorem Vals.drop:∀{xs:List V}{us:List Value}(n:Nat),Vals xs us->Vals (xs.drop n) (us.drop n)
|_,_,0,r=>r
|_,_,_+1,.nil=>.nil
|_,_,n+1,.cons _ t=>Vals.drop n t
def RelO:Option V->Option Value->Prop
|some v,some u=>RelV v u
|none,none=>True
|_,_=>False
def KV {κ:Type}:List (κ×V)->List (κ×Value)->Prop:=Paired λ(p:κ×V) (q:κ×Value)=>p.1=q.1/\RelV p.2 q.2
def kV:Key->V
|.inl i=>.int i
|.inr x=>.str x
inductive HO where
|lst (xs:List V)
|tup (xs:List V)
|dK (kvs:List (Key×V))|dT (kvs:List (List Key×V))
|set (S:Int->Bool) (n:Nat)
|ins (C dx:Addr) (fs:List (Str×V))
|own (x:Addr)
|xd (fs:List (Str×V))
|met (f x:Addr)
|rng (lo hi:Int)
|frz (o:Obj) (u:HO)
|tbl (ps:Array Value)
|ext (φ:Heap->Prop)
abbrev Hp:=Addr->Option HO
def upd (H:Hp)(a:Addr)(o:HO):Hp:=λb=>if b=a then some o else H b
def zai {H:Hp}{a:Addr}{o:HO}:upd H a o a=some o:=by unfold upd;rw[if_pos rfl]
def zag {H:Hp}{a b:Addr}{o:HO}(h:b≠a):upd H a o b=H b:=by unfold upd;rw[if_neg h]
def zax {H:Hp}{a b:Addr}{o:HO}(h:H a=some o)(h':H b=none):a≠b:=by
 intro e;subst e;rw[h] at h';cases h'
section
variable (P:Program)(w:World)
def ObjOk (H:Hp)(h:Heap)(a:Addr):HO->Prop
|.lst xs=>xs.length<=sizeLine/\∃(its:List Value) (n:Nat),Vals xs its/\h.get? a=some {cls:=.type "list",data:=.seq its.toArray n}
|.tup xs=>xs.length<=sizeLine/\∃its:List Value,Vals xs its/\IsTup h a its.toArray
|.dK kvs=>kvs.length<=sizeLine/\(a == sysModules)=false/\∃vs,KV kvs vs/\h.DictOf (zbD P w) a vs
|.dT kvs=>kvs.length<=sizeLine/\(a == sysModules)=false/\∃xs:List (List Key×Addr×Value),
  Paired (λ(p:List Key×V) (q:List Key×Addr×Value)=>p.1=q.1/\H q.2.1=some (.tup (p.1.map kV))/\RelV p.2 q.2.2) kvs xs/\
  ∃o es ep,h.get? a=some o/\o.ExactDict/\o.data=.dict es ep/\es.toList=xs.map (entryOfKey (tupleKind (zbD P w)))/\(xs.map (·.1)).Nodup
|.set S n=>h.SetOf (intKind P w) a S n
|.ins C dx fs=>H dx=some (.own a)/\fs.length<=1000/\dx≠a/\h.get? a=some (PySem.W.instObj C dx)/\
  ∃mA,h.Ns1 dx mA/\(∀f,RelO (fs.lookup f) (mA f))/\PySem.Within mA (fs.map (·.1))
|.own _=>∃o,h.get? a=some o
|.xd fs=>∃mA,h.Ns1 a mA/\∀f,RelO (fs.lookup f) (mA f)
|.rng lo hi=>∃t u v,h.get? a=some {cls:=.type "range",data:=.fields #[.int lo t,.int hi u,.int 1 v]}
|.frz o u=>h.get? a=some o/\ObjOk H h a u
|.tbl ps=>∃qs:Array Value,h.get? a=some {cls:=.none,data:=.fields qs}/\TriplesOk qs.toList/\∀pos cv,codeAmong pos qs.toList=some cv->∃c' o u vs t q,cv=Value.ref c'/\H c'=some (.frz o u)/\o.data=.fields vs/\vs[1]?=some (Value.str q t)/\ps[0]?=some (Value.str q 0)
|.met f x=>h.get? a=some (PySem.W.methodObj (.ref f) (.ref x))
|.ext φ=>φ h/\(∃o,h.get? a=some o)/\∀h1 h2:Heap,φ h1->(∀o,h1.get? a=some o->h2.get? a=some o)->φ h2
def HOk (H:Hp)(h:Heap):Prop:=∀a o,H a=some o->ObjOk P w H h a o
end
section
variable {P:Program}{w:World}{H H':Hp}{h h':Heap}{a:Addr}{o:HO}
theorem ObjOk.lt (x:ObjOk P w H h a o):a<h.objs.size:=by
 cases o with
|lst xs=>obtain⟨_,_,_,_,e⟩:=x;exact wad e
|tup xs=>obtain⟨_,_,_,p⟩:=x;exact p.lt
|dK kvs=>obtain⟨_,_,_,_,o,_,_,e,_⟩:=x;exact wad e
|dT kvs=>obtain⟨_,_,_,_,o,_,_,e,_⟩:=x;exact wad e
|set S n=>obtain⟨o,_,_,_,e,_⟩:=x;exact wad e
|ins C dx fs=>obtain⟨_,_,_,e,_⟩:=x;exact wad e
|own y=>obtain⟨_,e⟩:=x;exact wad e
|xd fs=>obtain⟨_,⟨_,_,_,e,_⟩,_⟩:=x;exact wad e
|rng lo hi=>obtain⟨_,_,_,e⟩:=x;exact wad e
|frz ob u=>obtain⟨e,_⟩:=x;exact wad e
|tbl ps=>obtain⟨_,e,_⟩:=x;exact wad e
|met f y=>exact wad (show h.get? a=some _ from x)
|ext φ=>obtain⟨_,⟨_,e⟩,_⟩:=x;exact wad e
theorem Paired.mapP {α β:Type}{F G:α->β->Prop}:∀{l₁:List α}{l₂:List β},Paired F l₁ l₂->(∀a b,F a b->G a b)->Paired G l₁ l₂
|_,_,.nil,_=>.nil
|_,_,.cons r t,f=>.cons (f _ _ r) (Paired.mapP t f)
def Cst:HO->Prop
|.tup _=>True
|.frz _ _=>True
|_=>False
def ObjOk.stay (x:ObjOk P w H h a o)(k:∀b u,(b=a\/H b=some (.own a))->h.get? b=some u->h'.get? b=some u)
 (ho:∀b,H b=some (.own a)->H' b=some (.own a)) (ht:∀b z,Cst z->H b=some z->H' b=some z):ObjOk P w H' h' a o:=by
 induction o with
|lst xs=>obtain⟨z,its,n,r,e⟩:=x;exact⟨z,its,n,r,k _ _ (.inl rfl) e⟩
|tup xs=>obtain⟨z,its,r,ob,e,c⟩:=x;exact⟨z,its,r,ob,k _ _ (.inl rfl) e,c⟩
|dK kvs=>obtain⟨z,y,vs,r,ob,es,ep,e,c⟩:=x;exact⟨z,y,vs,r,ob,es,ep,k _ _ (.inl rfl) e,c⟩
|dT kvs=>
   obtain⟨z,y,xs,r,ob,es,ep,e,c⟩:=x;exact⟨z,y,xs,Paired.mapP r λp q z=>⟨z.1,ht _ _ trivial z.2.1,z.2.2⟩,ob,es,ep,k _ _ (.inl rfl) e,c⟩
|set S n=>obtain⟨ob,es,ep,t,e,c⟩:=x;exact⟨ob,es,ep,t,k _ _ (.inl rfl) e,c⟩
|ins C dx fs=>
   obtain⟨d,z,ne,e,mA,⟨od,es,ep,e2,c⟩,r⟩:=x;exact⟨ho _ d,z,ne,k _ _ (.inl rfl) e,mA,⟨od,es,ep,k _ _ (.inr d) e2,c⟩,r⟩
|own y=>obtain⟨ob,e⟩:=x;exact⟨ob,k _ _ (.inl rfl) e⟩
|xd fs=>obtain⟨mA,⟨od,es,ep,e,c⟩,r⟩:=x;exact⟨mA,⟨od,es,ep,k _ _ (.inl rfl) e,c⟩,r⟩
|rng lo hi=>obtain⟨t,u,v,e⟩:=x;exact⟨t,u,v,k _ _ (.inl rfl) e⟩
|frz ob u ih=>obtain⟨e,q⟩:=x;exact⟨k _ _ (.inl rfl) e,ih q⟩
|tbl ps=>obtain⟨qs,e,r,rc⟩:=x;exact⟨qs,k a _ (.inl rfl) e,r,λpos cv q=>let ⟨c',o,u,vs,t,q',e1,e2,e3⟩:=rc pos cv q;⟨c',o,u,vs,t,q',e1,ht _ _ trivial e2,e3⟩⟩
|met f y=>
   have e:h.get? a=some (PySem.W.methodObj (.ref f) (.ref y)):=x
   show h'.get? a=some (PySem.W.methodObj (.ref f) (.ref y))
   exact k a _ (.inl rfl) e
|ext φ=>obtain⟨p,⟨o,e⟩,st⟩:=x;exact⟨st _ _ p λo q=>k _ _ (.inl rfl) q,⟨o,k _ _ (.inl rfl) e⟩,st⟩
theorem HOk.lt (x:HOk P w H h)(e:H a=some o):a<h.objs.size:=(x a o e).lt
def HOk.fresh (x:HOk P w H h)(e:h.objs.size<=a):H a=none:=by
 cases q:H a with
|none=>rfl
|some u=>exact absurd (wak (x.lt q) e) (waK _)
def HOk.kept (x:HOk P w H h)(k:∀b u,h.get? b=some u->h'.get? b=some u):HOk P w H h':=λa o e=>
 (x a o e).stay (λb u _ q=>k b u q) (λ_ q=>q) λ_ _ _ q=>q
def HOk.laid (x:HOk P w H h)(k:∀b u,h.get? b=some u->h'.get? b=some u)(hp:h.objs.size<=a)(new:ObjOk P w (upd H a o) h' a o):HOk P w (upd H a o) h':=λb u e=>by
 have hn:=x.fresh hp
 by_cases hb:b=a
 .subst hb;rw[zai] at e;cases e;exact new
 .rw[zag hb] at e;exact(x b u e).stay (λc v _ q=>k c v q) (λc q=>by rw[zag (zax q hn)];exact q) λc xs _ q=>by rw[zag (zax q hn)];exact q
end
def Rd (H:Hp)(a:Addr)(u:HO):Prop:=H a=some u\/∃o,H a=some (.frz o u)
def Rd.ok {P:Program}{w:World}{H:Hp}{h:Heap}{a:Addr}{u:HO}(r:Rd H a u)(x:HOk P w H h):ObjOk P w H h a u:=by
 rcases r with r|⟨o,r⟩
 .exact x a u r
 .obtain⟨_,q⟩:=x a _ r;exact q
def Mut:Option HO->Prop
|some (.lst _)=>True
|some (.dK _)=>True
|some (.dT _)=>True
|some (.set _ _)=>True
|some (.ins _ _ _)=>True
|some (.ext _)=>True
|_=>False
section
variable {P:Program}{w:World}{H:Hp}{h h':Heap}{x e:Addr}{o':HO}
def HOk.write (ok:HOk P w H h)(mu:Mut (H x))(he:e=x\/H e=some (.own x))(k:∀b u,b≠e->h.get? b=some u->h'.get? b=some u)(heo:∃u,h'.get? e=some u)
 (new:ObjOk P w (upd H x o') h' x o'):HOk P w (upd H x o') h':=λb u q=>by
 have nown:∀c y,H c=some (.own y)->c≠x:=λc y r z=>by subst z;rw[r] at mu;exact mu
 have ntup:∀c o,Cst o->H c=some o->c≠x:=λc o hc r z=>by subst z;rw[r] at mu;cases o <;> first|exact mu|exact hc
 by_cases hb:b=x
 .subst hb;rw[zai] at q;cases q;exact new
 .rw[zag hb] at q;by_cases hbe:b=e
  .have q':H b=some (.own x):=by
    rcases he with z|z
    .exact absurd (hbe.trans z) hb
    .rw[hbe];exact z
   rw[q] at q';cases q';obtain⟨v,hv⟩:=heo;exact⟨v,by rw[hbe];exact hv⟩
  .refine(ok b u q).stay (λc v hc r=>k c v ?_ r) (λc r=>by rw[zag (nown c b r)];exact r) λc xs hc r=>by rw[zag (ntup c xs hc r)];exact r
   rcases hc with rfl|hc
   .exact hbe
   .rintro rfl;rcases he with z|z
    .exact nown c b hc z
    .rw[hc] at z;cases z;exact hb rfl
end
structure Un (fs ex:List Addr)(H H':Hp)(h h':Heap):Prop where
 keep:∀b o,h.get? b=some o->H b=none->b∉fs->b∉ex->h'.get? b=some o
 slot:∀b o,h.get? b=some o->H b=none->b∈fs->b∉ex->∃sl,h'.get? b=some {o with slots:=sl}
 free:∀b o,h.get? b=some o->H b=none->b∉ex->H' b=none
 there:∀b o,h.get? b=some o->b∉ex->∃o',h'.get? b=some o'
 tups:∀b xs,H b=some (.tup xs)->H' b=some (.tup xs)
 frzs:∀b o u,H b=some (.frz o u)->H' b=some (.frz o u)
 tbls:∀b ps,H b=some (.tbl ps)->∃more,H' b=some (.tbl (ps++more))
section
variable {fs fs' ex ex':List Addr}{H H1 H2:Hp}{h h1 h2 h':Heap}{a x e:Addr}{o:HO}
def Un.any (u:Un fs ex H H1 h h1){b:Addr}{ob:Obj}(q:h.get? b=some ob)(n:H b=none)(hx:b∉ex):∃sl,h1.get? b=some {ob with slots:=sl}:=by
 by_cases hb:b∈fs
 .exact u.slot b ob q n hb hx
 .exact⟨ob.slots,u.keep b ob q n hb hx⟩
def Un.kept (k:∀b u,h.get? b=some u->h'.get? b=some u):Un fs ex H H h h':=
 ⟨λb ob q _ _ _=>k b ob q,λb ob q _ _ _=>⟨ob.slots,k b ob q⟩,λ_ _ _ n _=>n,λb ob q _=>⟨ob,k b ob q⟩,λ_ _ q=>q,λ_ _ _ q=>q,λ_ ps q=>⟨#[],by rw[q];simp⟩⟩
def Un.refl:Un fs ex H H h h:=Un.kept λ_ _ q=>q
def Un.laid (k:∀b u,h.get? b=some u->h'.get? b=some u)(hp:h.objs.size<=a)(hn:H a=none):Un fs ex H (upd H a o) h h' where
 keep:=λb u q _ _ _=>k b u q
 slot:=λb u q _ _ _=>⟨u.slots,k b u q⟩
 free:=λb u q n _=>by rw[zag (wap (wak (wad q) hp))];exact n
 there:=λb u q _=>⟨u,k b u q⟩
 tups:=λb xs q=>by rw[zag (zax q hn)];exact q
 frzs:=λb u xs q=>by rw[zag (zax q hn)];exact q
 tbls:=λb ps q=>⟨#[],by rw[zag (zax q hn),q];simp⟩
def Un.write (mu:Mut (H x))(he:e=x\/H e=some (.own x))(k:∀b u,b≠e->h.get? b=some u->h'.get? b=some u)(heo:∃u,h'.get? e=some u):Un fs ex H (upd H x o) h h':=by
 have hx:∀b,H b=none->b≠x:=λb n z=>by subst z;rw[n] at mu;exact mu
 have hb:∀b,H b=none->b≠e:=λb n z=>by
  subst z;rcases he with r|r
  .exact hx b n r
  .rw[n] at r;cases r
 have hm:∀b u,H b=some u->¬Mut (some u)->b≠x:=λb u q nm z=>by subst z;rw[q] at mu;exact nm mu
 refine⟨λb u q n _ _=>k b u (hb b n) q,λb u q n _ _=>⟨u.slots,k b u (hb b n) q⟩,λb u q n _=>by rw[zag (hx b n)];exact n,λb u q _=>?_,
  λb xs q=>by rw[zag (hm b _ q λz=>z)];exact q,λb u xs q=>by rw[zag (hm b _ q λz=>z)];exact q,λb ps q=>⟨#[],by rw[zag (hm b _ q λz=>z),q];simp⟩⟩
 by_cases hbe:b=e
 .subst hbe;exact heo
 .exact⟨u,k b u hbe q⟩
end
def trk (h:Heap)(H:Hp):List Addr:=(List.range h.objs.size).filter λa=>(H a).isSome
def hidT (h:Heap)(H:Hp):Heap:=PySem.W.hideAll h (trk h H)
def zhs (h:Heap)(H:Hp):(hidT h H).objs.size=h.objs.size:=PySem.W.hideAll_size _ _
def zi7 {h:Heap}{H:Hp}{b:Addr}{o:Obj}(e:h.get? b=some o)(n:H b=none):(hidT h H).get? b=some o:=
 PySem.W.hideAll_get _ e λhm=>by
  have q:(H b).isSome=true:=(List.mem_filter.mp hm).2
  rw[n] at q;simp at q
def zkI {h:Heap}{H:Hp}{b:Addr}{o:Obj}(e:(hidT h H).get? b=some o):h.get? b=some o/\H b=none:=by
 have e':h.get? b=some o:=PySem.W.of_hideAll (trk h H) e
 refine⟨e',?_⟩;cases q:H b with
|none=>rfl
|some x=>
   have hm:b∈trk h H:=List.mem_filter.mpr ⟨wbY.mpr (wad e'),by simp[q]⟩
   have z:(hidT h H).get? b=none:=PySem.W.hideAll_none (trk h H) hm
   rw[z] at e;cases e
structure Mod (K:W.Frag)(mg:Str->Option Value)(base:Heap):Prop where
 kin:K.In base
 glob:base.Ns mainGlobals mg
 blt:∃mb,base.Ns builtinsNs mb/\∀x:Str,x≠"__name__"->mb x=bootBuiltins x
 nolimit:base.NoLimit
structure Cx where
 prog:Program
 w:World
 K:W.Frag
 mg:Str->Option Value
 base:Heap
 A:Around
 N:List Str
 s₀:Shared
 Hz:Hp
 env:Env
 outer:List Env
 stack:List Env
 ex:List Addr
 fn:Str->Bool
 calm:Bool
 pn:List (Addr×Obj)
 xe:Value->Shared->Prop
def frs (l:List Env):List Addr:=l.filterMap (·.frame)
abbrev Cx.fs (X:Cx):List Addr:=frs X.outer
def Vis (sc:Scope)(x:Str):Prop:=sc.names.lookup x=some .local\/sc.names.lookup x=some .cell\/sc.names.lookup x=some .free
def Loc (sc:Scope)(x:Str):Prop:=sc.names.lookup x=some .local\/sc.names.lookup x=some .cell
def Look (env:Env)(h:Heap)(m:Str->Option Value)(x:Str)(u:Value):Prop:=
 (env.kindOf x=some .local/\m x=some u)\/((env.kindOf x=some .cell\/env.kindOf x=some .free)/\∃c,env.cells.lookup x=some c/\h.IsCell c (some u))
structure Cx.Ok (X:Cx):Prop where
 mod:Mod X.K X.mg X.base
 kind:X.env.scope.kind=.function
 glob:X.env.globals=mainGlobals
 blt:X.env.builtins=builtinsNs
 above:X.s₀.heap.objs.size<=X.env.locals
 inj:∀x y c,X.env.cells.lookup x=some c->X.env.cells.lookup y=some c->x=y
 has:∀x,(X.env.kindOf x=some .cell\/X.env.kindOf x=some .free)->∃c,X.env.cells.lookup x=some c
 cab:∀x c,X.fn x=true->X.env.cells.lookup x=some c->X.s₀.heap.objs.size<=c
 hd:X.calm=true->X.A.handled=none
 frames:X.A.frames=some X.stack
 stk:X.stack=X.outer\/(X.stack=X.env::X.outer/\X.env.frame=some X.env.locals)
 exf:∀b∈X.ex,b≠X.env.locals/\∀x c,X.env.cells.lookup x=some c->c≠b
 bs:∀b o,X.base.get? b=some o->X.s₀.heap.get? b=some o/\X.Hz b=none
 bsz:X.base.objs.size<=X.s₀.heap.objs.size
 noex:∀b o,X.base.get? b=some o->b∉X.ex
 exfs:∀b∈X.ex,b∉X.fs
 funs:X.s₀.heap.FunFrames X.base X.outer
 frf:∀b∈X.fs,X.Hz b=none
structure Inv (X:Cx)(pins:List (Addr×Obj))(Y:List (Option V))(H:Hp)(s:Shared):Prop where
 ok:X.Ok
 os:s.os=X.s₀.os
 bare:AllBare s.gens
 base:Un X.fs X.ex X.Hz H X.s₀.heap s.heap
 loc:∃m,s.heap.Ns X.env.locals m/\∀(i:Nat) (x:Str) (v:V),X.N[i]?=some x->Y[i]?=some (some v)->Vis X.env.scope x->∃u,RelV v u/\Look X.env s.heap m x u
 cell:∀x c,X.env.cells.lookup x=some c->∃v,s.heap.IsCell c v
 free:H X.env.locals=none
 freeC:∀x c,X.env.cells.lookup x=some c->H c=none
 pin:∀p∈X.pn++pins,s.heap.get? p.1=some p.2/\H p.1=none/\p.1≠X.env.locals/\p.1∉X.fs/\∀v,p.2.data≠.cell v
 hok:HOk X.prog X.w H s.heap
 len:Y.length=X.N.length
section
variable {X:Cx}{pins:List (Addr×Obj)}{Y:List (Option V)}{H H':Hp}{s:Shared}{h':Heap}
def Cx.Ok.nofr (ok:X.Ok){b:Addr}{o:Obj}(e:X.base.get? b=some o):b∉X.fs:=λhb=>by
 have:=(ok.funs.mem hb).1
 rw[e] at this;cases this
theorem Inv.bs (I:Inv X pins Y H s):∀b o,X.base.get? b=some o->s.heap.get? b=some o/\H b=none:=λb o e=>
 ⟨I.base.keep b o (I.ok.bs b o e).1 (I.ok.bs b o e).2 (I.ok.nofr e) (I.ok.noex b o e),I.base.free b o (I.ok.bs b o e).1 (I.ok.bs b o e).2 (I.ok.noex b o e)⟩
def Inv.bk (I:Inv X pins Y H s):∀b o,X.base.get? b=some o->s.heap.get? b=some o:=λb o e=>(I.bs b o e).1
theorem Inv.mod (I:Inv X pins Y H s):Mod X.K X.mg X.base:=I.ok.mod
def Inv.kIn (I:Inv X pins Y H s):X.K.In s.heap:=I.ok.mod.kin.keeps I.bk
theorem Inv.nolimit (I:Inv X pins Y H s):s.heap.NoLimit:=I.ok.mod.nolimit.keeps I.bk
theorem Inv.lt (I:Inv X pins Y H s):X.env.locals<s.heap.objs.size:=let ⟨_,hn,_⟩:=I.loc;hn.lt
def Inv.sz (I:Inv X pins Y H s):X.s₀.heap.objs.size<=s.heap.objs.size:=wam I.ok.above (wbp I.lt)
def Inv.nofs (I:Inv X pins Y H s){a:Addr}(h:s.heap.objs.size<=a):a∉X.fs:=λhb=>by
 obtain⟨_,o,ho,_⟩:=I.ok.funs.mem hb;exact absurd (wak (wad ho) (wam I.sz h)) (waK _)
def Inv.cne (I:Inv X pins Y H s):∀x c,X.env.cells.lookup x=some c->c≠X.env.locals:=λx c e z=>by
 obtain⟨v,o,ho,hd⟩:=I.cell x c e;obtain⟨m,⟨o',es,ep,ho',hd',_⟩,_⟩:=I.loc;rw[z,ho'] at ho;cases ho;rw[hd'] at hd;cases hd
theorem Inv.funs (I:Inv X pins Y H s):s.heap.FunFrames X.base X.outer:=by
 have all:∀(l:List Env),(∀b∈frs l,b∈X.fs)->X.s₀.heap.FunFrames X.base l->s.heap.FunFrames X.base l:=by
  intro l;induction l with
 |nil=>intro _ _;trivial
 |cons env r ih=>
    intro hs hl;obtain⟨hk,⟨L,o,hf,hn,ho,hd⟩,hr⟩:=hl;have hL:L∈X.fs:=hs L (by unfold frs;rw[wcf,hf];exact waj)
    obtain⟨sl,e⟩:=I.base.slot L o ho (I.ok.frf L hL) hL λz=>I.ok.exfs L z hL
    exact⟨hk,⟨L,_,hf,hn,e,hd⟩,ih (λb hb=>hs b (by unfold frs;rw[wcf,hf];exact waf _ hb)) hr⟩
 exact all X.outer (λ_ hb=>hb) I.ok.funs
theorem Inv.stack (I:Inv X pins Y H s):s.heap.FunFrames X.base X.stack:=by
 rcases I.ok.stk with e|⟨e,hf⟩
 .rw[e];exact I.funs
 .rw[e];obtain⟨m,hn,_⟩:=I.loc;refine .cons (by rw[I.ok.kind];decide) hf hn ?_ I.funs;exact waV (wam I.ok.bsz I.ok.above)
def Inv.stkSub (I:Inv X pins Y H s):∀b∈frs X.stack,b∈X.env.locals::X.fs:=λb hb=>by
 rcases I.ok.stk with e|⟨e,hf⟩
 .rw[e] at hb;exact waf _ hb
 .rw[e] at hb;unfold frs at hb;rw[wcf,hf] at hb;exact hb
def Inv.stkFree (I:Inv X pins Y H s):∀b∈frs X.stack,H b=none:=λb hb=>by
 rcases wah.mp (I.stkSub b hb) with e|hb
 .rw[e];exact I.free
 .obtain⟨_,o,ho,_⟩:=I.ok.funs.mem hb;exact I.base.free b o ho (I.ok.frf b hb) λz=>I.ok.exfs b z hb
def Inv.step {g':Array GenState}{t':Nat}{d':Drawn}{ch:List Addr}(I:Inv X pins Y H s)
 (hch:∀b∈ch,(b∈X.ex\/X.s₀.heap.objs.size<=b)/\b≠X.env.locals/\(∀x c,X.env.cells.lookup x=some c->c≠b)/\∀p∈X.pn++pins,p.1≠b)
 (keep:∀b o,b≠X.env.locals->b∉X.fs->b∉ch->s.heap.get? b=some o->H b=none->h'.get? b=some o)
 (slot:∀b o,b≠X.env.locals->b∈X.fs->b∉ch->s.heap.get? b=some o->H b=none->∃sl,h'.get? b=some {o with slots:=sl}) (free:∀b o,b∉ch->s.heap.get? b=some o->H b=none->H' b=none)
 (there:∀b o,b∉ch->s.heap.get? b=some o->∃o',h'.get? b=some o')
 (tups:∀b xs,H b=some (.tup xs)->H' b=some (.tup xs)) (frzs:∀b o u,H b=some (.frz o u)->H' b=some (.frz o u)) (tbls:∀b ps,H b=some (.tbl ps)->∃more,H' b=some (.tbl (ps++more)))
 (ns:∀m,s.heap.Ns X.env.locals m->h'.Ns X.env.locals m) (hok:HOk X.prog X.w H' h') (hg:AllBare g') :
 Inv X pins Y H' {s with heap:=h',gens:=g',drawn:=d',toks:=t'}:=by
 have neL:∀b o,X.s₀.heap.get? b=some o->b≠X.env.locals:=λb o e=>wap (wak (wad e) I.ok.above)
 have neC:∀b o,X.s₀.heap.get? b=some o->b∉X.ex->b∉ch:=λb o e hx hb=>by
  rcases(hch b hb).1 with z|z
  .exact hx z
  .exact absurd (wak (wad e) z) (waK _)
 have cellK:∀x c,X.env.cells.lookup x=some c->∀v,s.heap.IsCell c v->h'.IsCell c v:=λx c e v ⟨o,ho,hd⟩ =>by
  have nch:c∉ch:=λz=>(hch c z).2.2.1 x c e rfl
  by_cases hc:c∈X.fs
  .obtain⟨sl,q⟩:=slot c o (I.cne x c e) hc nch ho (I.freeC x c e);exact⟨_,q,hd⟩
  .exact⟨o,keep c o (I.cne x c e) hc nch ho (I.freeC x c e),hd⟩
 refine⟨I.ok,I.os,hg,⟨λb o e n hb hx=>?_,λb o e n hb hx=>?_,λb o e n hx=>?_,λb o e hx=>?_,λb xs e=>tups b xs (I.base.tups b xs e),λb o xs e=>frzs b o xs (I.base.frzs b o xs e),λb ps e=>?_⟩,?_,λx c e=>?_,?_,λx c e=>?_,λp hp=>?_,hok,I.len⟩
 .exact keep b o (neL b o e) hb (neC b o e hx) (I.base.keep b o e n hb hx) (I.base.free b o e n hx)
 .obtain⟨sl,e1⟩:=I.base.slot b o e n hb hx;obtain⟨sl',e2⟩:=slot b _ (neL b o e) hb (neC b o e hx) e1 (I.base.free b o e n hx);exact⟨sl',e2⟩
 .obtain⟨o',e1⟩:=I.base.there b o e hx;exact free b o' (neC b o e hx) e1 (I.base.free b o e n hx)
 .obtain⟨o',e1⟩:=I.base.there b o e hx;exact there b o' (neC b o e hx) e1
 .obtain⟨m1,e1⟩:=I.base.tbls b ps e;obtain⟨m2,e2⟩:=tbls b _ e1;exact⟨m1++m2,by rw[e2,Array.append_assoc]⟩
 .obtain⟨m,hn,hl⟩:=I.loc;refine⟨m,ns m hn,λi x v e1 e2 e3=>?_⟩;obtain⟨u,r,l⟩:=hl i x v e1 e2 e3;refine⟨u,r,?_⟩;rcases l with l|⟨k,c,e,z⟩
  .exact .inl l
  .exact .inr ⟨k,c,e,cellK x c e _ z⟩
 .obtain⟨v,z⟩:=I.cell x c e;exact⟨v,cellK x c e v z⟩
 .obtain⟨m,⟨o,_,_,ho,_⟩,_⟩:=I.loc;exact free _ o (λz=>(hch _ z).2.1 rfl) ho I.free
 .obtain⟨v,o,ho,hd⟩:=I.cell x c e;exact free c o (λz=>(hch c z).2.2.1 x c e rfl) ho (I.freeC x c e)
 .obtain⟨e,n,ne,nf,d⟩:=I.pin p hp;have nch:p.1∉ch:=λz=>(hch p.1 z).2.2.2 p hp rfl
  exact⟨keep p.1 p.2 ne nf nch e n,free p.1 p.2 nch e n,ne,nf,d⟩
def Inv.un {t':Nat}(I:Inv X pins Y H s)(u:Un X.fs [] H H' s.heap h')(hok:HOk X.prog X.w H' h'):Inv X pins Y H' {s with heap:=h',toks:=t'}:=by
 obtain⟨m,⟨o,es,ep,ho,r⟩,_⟩:=id I.loc;obtain⟨sl,hL⟩:=u.any ho I.free (by simp);exact I.step (g':=s.gens) (d':=s.drawn) (ch:=[]) (λ_ z=>nomatch z) (λb o _ hb _ e n=>u.keep b o e n hb (by simp)) (λb o _ hb _ e n=>u.slot b o e n hb (by simp)) (λb o _ e n=>u.free b o e n (by simp)) (λb o _ e=>u.there b o e (by simp)) u.tups u.frzs u.tbls (λm' hm=>by
  obtain⟨o',es',ep',ho',r'⟩:=hm;rw[ho] at ho';cases ho';exact⟨_,es',ep',hL,r'⟩) hok I.bare
def Inv.call {g':Array GenState}{t':Nat}{d':Drawn}{ch:List Addr}(I:Inv X pins Y H s)(u:Un (frs X.stack) ch H H' s.heap h')(hok:HOk X.prog X.w H' h')(hg:AllBare g')
 (hch:∀b∈ch,(b∈X.ex\/X.s₀.heap.objs.size<=b)/\b≠X.env.locals/\(∀x c,X.env.cells.lookup x=some c->c≠b)/\∀p∈X.pn++pins,p.1≠b) :
 Inv X pins Y H' {s with heap:=h',gens:=g',drawn:=d',toks:=t'}:=by
 obtain⟨m,⟨o,es,ep,ho,r⟩,_⟩:=id I.loc;obtain⟨sl,hL⟩:=u.any ho I.free λz=>(hch _ z).2.1 rfl
 exact I.step (ch:=ch) hch (λb o hL hb hc e n=>u.keep b o e n (λz=>(wah.mp (I.stkSub b z)).elim hL hb) hc) (λb o _ _ hc e n=>u.any e n hc) (λb o hc e n=>u.free b o e n hc) (λb o hc e=>u.there b o e hc) u.tups u.frzs u.tbls (λm' hm=>by
  obtain⟨o',es',ep',ho',r'⟩:=hm;rw[ho] at ho';cases ho';exact⟨_,es',ep',hL,r'⟩) hok hg
def Inv.turned {t':Nat}{it:Addr}(I:Inv X pins Y H s)(k:∀b o,b≠it->s.heap.get? b=some o->h'.get? b=some o)(hn:H it=none)(hL:it≠X.env.locals)
 (h1:it∈X.ex\/X.s₀.heap.objs.size<=it) (h2:∀x c,X.env.cells.lookup x=some c->c≠it) (h3:∀p∈X.pn++pins,p.1≠it):Inv X pins Y H {s with heap:=h',toks:=t'}:=by
 have nit:∀b u,H b=some u->b≠it:=λb u e z=>by rw[z,hn] at e;cases e
 refine I.step (g':=s.gens) (d':=s.drawn) (ch:=[it]) (λb hb=>?_) (λb o _ _ hc e _=>k b o (λz=>hc (by simp[z])) e) (λb o _ _ hc e _=>⟨o.slots,k b o (λz=>hc (by simp[z])) e⟩) (λ_ _ _ _ n=>n)
  (λb o hc e=>⟨o,k b o (λz=>hc (by simp[z])) e⟩) (λ_ _ e=>e) (λ_ _ _ e=>e) (λb ps e=>⟨#[],by rw[e];simp⟩) (λm hm=>?_) (λb u e=>?_) I.bare
 .have e:b=it:=by simpa using hb
  subst e;exact⟨h1,hL,h2,h3⟩
 .obtain⟨o,es,ep,ho,r⟩:=hm;exact⟨o,es,ep,k _ o (Ne.symm hL) ho,r⟩
 .refine(I.hok b u e).stay (λc v hc q=>k c v ?_ q) (λ_ q=>q) λ_ _ _ q=>q
  rcases hc with z|z
  .rw[z];exact nit b u e
  .exact nit c _ z
def Inv.tok (I:Inv X pins Y H s)(t:Nat):Inv X pins Y H {s with toks:=t}:=I.un (h':=s.heap) (t':=t) Un.refl I.hok
theorem Inv.kept {t':Nat}(I:Inv X pins Y H s)(k:∀b u,s.heap.get? b=some u->h'.get? b=some u):Inv X pins Y H {s with heap:=h',toks:=t'}:=I.un (Un.kept k) (I.hok.kept k)
theorem Inv.laid {a:Addr}{o:HO}{t':Nat}(I:Inv X pins Y H s)(k:∀b u,s.heap.get? b=some u->h'.get? b=some u)(hp:s.heap.objs.size<=a)(new:ObjOk X.prog X.w (upd H a o) h' a o) :
 Inv X pins Y (upd H a o) {s with heap:=h',toks:=t'}:=I.un (Un.laid k hp (I.hok.fresh hp)) (I.hok.laid k hp new)
theorem Inv.write {x e:Addr}{o:HO}{t':Nat}(I:Inv X pins Y H s)(mu:Mut (H x))(he:e=x\/H e=some (.own x))(k:∀b u,b≠e->s.heap.get? b=some u->h'.get? b=some u)(heo:∃u,h'.get? e=some u)
 (new:ObjOk X.prog X.w (upd H x o) h' x o):Inv X pins Y (upd H x o) {s with heap:=h',toks:=t'}:=I.un (Un.write mu he k heo) (I.hok.write mu he k heo new)
def Inv.pins_of {pins':List (Addr×Obj)}(I:Inv X pins Y H s)(h:∀p∈pins',s.heap.get? p.1=some p.2/\H p.1=none/\p.1≠X.env.locals/\p.1∉X.fs/\∀v,p.2.data≠.cell v):Inv X pins' Y H s:=
 ⟨I.ok,I.os,I.bare,I.base,I.loc,I.cell,I.free,I.freeC,λp hp=>(waM.mp hp).elim (λz=>I.pin p (wbk _ z)) (h p),I.hok,I.len⟩
def zei {N:List Str}(hN:N.Nodup){i j:Nat}{x:Str}(a:N[i]?=some x)(b:N[j]?=some x):i=j:=by
 obtain⟨h1,e1⟩:=wav.mp a;obtain⟨h2,e2⟩:=wav.mp b;exact(List.getElem_inj hN).mp (e1.trans e2.symm)
def zht {M:Model}{A:Around}{E:Value->Shared->Prop}{i:Nat}{x:Str}{v:V}{u:Value}{Q:Unit->Shared->Prop}(I:Inv X pins Y H s)(hN:X.N.Nodup)(hi:X.N[i]?=some x)(hx:Loc X.env.scope x)(r:RelV v u)
 (h:∀s',Inv X pins (Y.set i (some v)) H s'->(∃a,Heap.SameBut a s.heap s'.heap/\(a=X.env.locals\/X.env.cells.lookup x=some a))->Q () s') (hf:X.fn x=true\/X.env.scope.names.lookup x=some .local:=by first|exact .inl rfl|exact .inr rfl|assumption):wpAny M A (storeName X.env x u) Q E s:=by
 obtain⟨m,hn,hl⟩:=id I.loc;have hcls:(X.env.scope.kind == .class||(X.env.scope.kind == .module&&X.env.locals != X.env.globals))=false:=by rw[I.ok.kind];rfl
 have hiσ:i<Y.length:=by rw[I.len];exact(wav.mp hi).1
 have cne:=I.cne
 have tracked:∀{a:Addr}{h':Heap},(∃o,s.heap.get? a=some o/\H a=none)->Heap.SameBut a s.heap h'->HOk X.prog X.w H h':=λ{a h'} ha hs b ob e=>by
  obtain⟨_,_,hfree⟩:=ha;refine(I.hok b ob e).stay (λc w' hc q=>(hs.2 c ?_).trans q) (λ_ q=>q) λ_ _ _ q=>q
  rintro rfl;rcases hc with rfl|hc
  .rw[hfree] at e;cases e
  .rw[hfree] at hc;cases hc
 rcases hx with hk|hk
 .refine wpAny_storeName_local hk hn (λh' hn' hs=>?_) hcls;obtain⟨oL,_,_,hoL,_⟩:=id hn;refine h _ ⟨I.ok,I.os,I.bare,⟨λb o e n hb hx=>?_,λb o e n hb hx=>?_,I.base.free,λb o e hx=>?_,I.base.tups,I.base.frzs,I.base.tbls⟩,⟨_,hn',λj y v' e1 e2 e3=>?_⟩,λy c e=>?_,I.free,I.freeC,λp hp=>?_,tracked ⟨oL,hoL,I.free⟩ hs,by simpa using I.len⟩ ⟨_,hs,.inl rfl⟩
  .exact(hs.2 b (wap (wak (wad e) I.ok.above))).trans (I.base.keep b o e n hb hx)
  .obtain⟨sl,e1⟩:=I.base.slot b o e n hb hx;exact⟨sl,(hs.2 b (wap (wak (wad e) I.ok.above))).trans e1⟩
  .obtain⟨o',e1⟩:=I.base.there b o e hx;exact⟨o',(hs.2 b (wap (wak (wad e) I.ok.above))).trans e1⟩
  .by_cases hj:j=i
   .subst hj;rw[hi] at e1;cases e1;rw[was hiσ] at e2;cases e2;exact⟨u,r,.inl ⟨hk,by simp⟩⟩
   .rw[wag (Ne.symm hj)] at e2;obtain⟨u',r',q⟩:=hl j y v' e1 e2 e3;refine⟨u',r',?_⟩;rcases q with⟨k,e⟩|⟨k,c,e,z⟩
    .refine .inl ⟨k,?_⟩;have:y≠x:=λe=>hj (zei hN e1 (e▸hi))
     simp[this,e]
    .exact .inr ⟨k,c,e,z.sameBut hs (cne y c e)⟩
  .obtain⟨w',z⟩:=I.cell y c e;exact⟨w',z.sameBut hs (cne y c e)⟩
  .obtain⟨e,n,ne,nf,d⟩:=I.pin p hp;exact⟨(hs.2 p.1 ne).trans e,n,ne,nf,d⟩
 .have hfn:X.fn x=true:=by
   rcases hf with z|z
   .exact z
   .rw[z] at hk;cases hk
  obtain⟨c,hc⟩:=I.ok.has x (.inl hk);obtain⟨w',z⟩:=I.cell x c hc;refine wpAny_storeName_cell I.ok.kind hk hc z (λh' hc' hs=>?_);obtain⟨oc,hoc,hocd⟩:=id z;refine h {s with heap:=h'} ⟨I.ok,I.os,I.bare,⟨λb o e n hb hx=>?_,λb o e n hb hx=>?_,I.base.free,λb o e hx=>?_,I.base.tups,I.base.frzs,I.base.tbls⟩,⟨m,hn.sameBut hs (Ne.symm (cne x c hc)),λj y v' e1 e2 e3=>?_⟩,λy c' e=>?_,I.free,I.freeC,λp hp=>?_,tracked ⟨oc,hoc,I.freeC x c hc⟩ hs,by simpa using I.len⟩ ⟨c,hs,.inr hc⟩
  .exact(hs.2 b (wap (wak (wad e) (I.ok.cab x c hfn hc)))).trans (I.base.keep b o e n hb hx)
  .obtain⟨sl,e1⟩:=I.base.slot b o e n hb hx;exact⟨sl,(hs.2 b (wap (wak (wad e) (I.ok.cab x c hfn hc)))).trans e1⟩
  .obtain⟨o',e1⟩:=I.base.there b o e hx;exact⟨o',(hs.2 b (wap (wak (wad e) (I.ok.cab x c hfn hc)))).trans e1⟩
  .by_cases hj:j=i
   .subst hj;rw[hi] at e1;cases e1;rw[was hiσ] at e2;cases e2;exact⟨u,r,.inr ⟨.inl hk,c,hc,hc'⟩⟩
   .rw[wag (Ne.symm hj)] at e2;obtain⟨u',r',q⟩:=hl j y v' e1 e2 e3;refine⟨u',r',?_⟩;rcases q with q|⟨k,c',e,z'⟩
    .exact .inl q
    .refine .inr ⟨k,c',e,z'.sameBut hs ?_⟩;rintro rfl;exact hj (zei hN e1 (I.ok.inj _ _ _ e hc▸hi))
  .by_cases hcc:c'=c
   .subst hcc;exact⟨_,hc'⟩
   .obtain⟨w2,z2⟩:=I.cell y c' e;exact⟨w2,z2.sameBut hs hcc⟩
  .obtain⟨e,n,ne,nf,d⟩:=I.pin p hp;refine⟨(hs.2 p.1 ?_).trans e,n,ne,nf,d⟩;intro q;rw[q,hoc] at e;have q':oc=p.2:=waq e
   exact d w' (by rw[<-q'];exact hocd)
def zcs {M:Model}{A:Around}{E:Value->Shared->Prop}{i:Nat}{x:Str}{v:V}{u:Value}{Q:Unit->Shared->Prop}(I:Inv X pins Y H s)(hN:X.N.Nodup)(hi:X.N[i]?=some x)(hx:Loc X.env.scope x)(r:RelV v u)
 (h:∀s',Inv X pins (Y.set i (some v)) H s'->Q () s') (hf:X.fn x=true\/X.env.scope.names.lookup x=some .local:=by first|exact .inl rfl|exact .inr rfl|assumption):wpAny M A (storeName X.env x u) Q E s:=
 zht I hN hi hx r (λs' I' _=>h s' I') hf
def Inv.call' {s':Shared}{ch:List Addr}(I:Inv X pins Y H s)(ho:s'.os=s.os)(u:Un (frs X.stack) ch H H' s.heap s'.heap)(hok:HOk X.prog X.w H' s'.heap)(hg:AllBare s'.gens)
 (hch:∀b∈ch,(b∈X.ex\/X.s₀.heap.objs.size<=b)/\b≠X.env.locals/\(∀x c,X.env.cells.lookup x=some c->c≠b)/\∀p∈X.pn++pins,p.1≠b):Inv X pins Y H' s':=by
 obtain⟨h',g',d',t',o'⟩:=s';have e:o'=s.os:=ho
 subst e;exact I.call (g':=g') (t':=t') (d':=d') u hok hg hch
end
abbrev XK:=Value->Option Addr->Hp->Prop
abbrev St:=List (Option V)
abbrev VK:=V->Hp->Prop
abbrev TE:=St->Hp->VK->Prop
abbrev TT:=St->Hp->(Bool->Hp->Prop)->Prop
abbrev TA:=St->Hp->(List V->Hp->Prop)->Prop
structure Ends where
 nx:St->Hp->Prop
 rt:VK
 bk:St->Hp->Prop:=λ_ _=>False
 ct:St->Hp->Prop:=λ_ _=>False
abbrev TS:=Ends->St->Hp->Prop
def EP (X:Cx)(pins:List (Addr×Obj))(Y:St)(Q:VK)(u:Value)(s':Shared):Prop:=∃v H',Inv X pins Y H' s'/\RelV v u/\Q v H'
def TP (X:Cx)(pins:List (Addr×Obj))(Y:St)(Q:Bool->Hp->Prop)(b:Bool)(s':Shared):Prop:=∃H',Inv X pins Y H' s'/\Q b H'
def AP (X:Cx)(pins:List (Addr×Obj))(Y:St)(Q:List V->Hp->Prop)(us:List Value)(s':Shared):Prop:=∃vs H',Inv X pins Y H' s'/\Vals vs us/\Q vs H'
def SP (X:Cx)(pins:List (Addr×Obj))(D:Ends)(f:Flow)(s':Shared):Prop:=
 match f with
|.next=>∃Y' H',Inv X pins Y' H' s'/\D.nx Y' H'
|.brk=>∃Y' H',Inv X pins Y' H' s'/\D.bk Y' H'
|.cont=>∃Y' H',Inv X pins Y' H' s'/\D.ct Y' H'
|.ret u=>∃v Y' H',Inv X pins Y' H' s'/\RelV v u/\D.rt v H'
def PE (X:Cx)(e:Expr)(t:TE):Prop:=
 ∀(pins:List (Addr×Obj)) (s:Shared) (Y:St) (H:Hp) (Q:VK),Inv X pins Y H s->t Y H Q->wpAny (model X.prog X.w) X.A (eval e X.env) (EP X pins Y Q) X.xe s
def PT (X:Cx)(e:Expr)(t:TT):Prop:=
 ∀(pins:List (Addr×Obj)) (s:Shared) (Y:St) (H:Hp) (Q:Bool->Hp->Prop),Inv X pins Y H s->t Y H Q->wpAny (model X.prog X.w) X.A (isTrue e X.env (eval e X.env)) (TP X pins Y Q) X.xe s
def PW (X:Cx)(e:Expr)(t:TT):Prop:=
 ∀(whole:Sem Value) (pins:List (Addr×Obj)) (s:Shared) (Y:St) (H:Hp) (Q:Bool->Hp->Prop),Inv X pins Y H s->t Y H Q->wpAny (model X.prog X.w) X.A (isTrue e X.env whole) (TP X pins Y Q) X.xe s
def PW.pt {X:Cx}{e:Expr}{t:TT}(h:PW X e t):PT X e t:=h _
def PA (X:Cx)(es:List Expr)(t:TA):Prop:=
 ∀(pos:Pos) (pins:List (Addr×Obj)) (s:Shared) (Y:St) (H:Hp) (Q:List V->Hp->Prop),Inv X pins Y H s->t Y H Q->wpAny (model X.prog X.w) X.A (spliced (backTo pos (starEach es X.env))) (AP X pins Y Q) X.xe s
def PS (X:Cx)(st:Stmt)(t:TS):Prop:=
 ∀(pins:List (Addr×Obj)) (s:Shared) (Y:St) (H:Hp) (D:Ends),Inv X pins Y H s->t D Y H->wpAny (model X.prog X.w) X.A (exec st X.env) (SP X pins D) X.xe s
def PSs (X:Cx)(st:List Stmt)(t:TS):Prop:=
 ∀(pins:List (Addr×Obj)) (s:Shared) (Y:St) (H:Hp) (D:Ends),Inv X pins Y H s->t D Y H->wpAny (model X.prog X.w) X.A (execs st X.env) (SP X pins D) X.xe s
def thn {α:Type}{t:Sem α}{Q Q':α->Shared->Prop}{M:Model}{A:Around}{E:Value->Shared->Prop}{s:Shared}(h:wpAny M A t Q E s)(hQ:∀a s,Q a s->Q' a s):wpAny M A t Q' E s:=war h hQ λ_ _ x=>x
section
variable {X:Cx}
def bin {a b:Expr}{ta tb:TE}(ha:PE X a ta)(hb:PE X b tb){pins:List (Addr×Obj)}{s:Shared}{Y:St}{H:Hp}{R:V->V->Hp->Prop}(I:Inv X pins Y H s)(h:ta Y H λx H1=>tb Y H1 λy H2=>R x y H2)
 {α:Type}{Q:α->Shared->Prop}{f:Value->Value->Sem α}
 (hf:∀v u s2 x y H2,Inv X pins Y H2 s2->RelV x v->RelV y u->R x y H2->wpAny (model X.prog X.w) X.A (f v u) Q X.xe s2) :
 wpAny (model X.prog X.w) X.A (eval a X.env) (λv s₁=>wpAny (model X.prog X.w) X.A (eval b X.env) (λu s₂=>wpAny (model X.prog X.w) X.A (f v u) Q X.xe s₂) X.xe s₁) X.xe s:=by
 refine thn (ha pins s Y H _ I h) λv s1 ⟨x,H1,I1,r1,q1⟩ =>?_
 refine thn (hb pins s1 Y H1 _ I1 q1) λu s2 ⟨y,H2,I2,r2,q2⟩ =>?_
 exact hf v u s2 x y H2 I2 r1 r2 q2
def tVar (i:Nat):TE:=λY H Q=>∃v,Y[i]?=some (some v)/\Q v H
def tC (v:V):TE:=λ_ H Q=>Q v H
def zf9 {i:Nat}{x:Str}{pos:Pos}(hN:X.N[i]?=some x)(hv:Vis X.env.scope x)(hd:(x == ("__debug__" : Str))=false:=by decide)(hcd:(x == ("__classdict__" : Str))=false:=by decide):PE X (.Name x pos) (tVar i):=by
 intro pins s Y H Q I h;obtain⟨v,e,h⟩:=h;obtain⟨m,hn,hl⟩:=I.loc;obtain⟨u,r,l⟩:=hl i x v hN e hv;have fin:EP X pins Y Q u s:=⟨v,H,I,r,h⟩
 rcases l with⟨hk,hm⟩|⟨hk,c,hc,hcell⟩
 .exact wco (wbl I.ok.kind hk hn hm fin) hd
 .rcases hk with hk|hk
  .exact wco (wpAny_loadName_cell I.ok.kind hk hc hcell fin) hd
  .exact wco (wpAny_loadName_free I.ok.kind hk hc hcell fin hcd) hd
def zl4 {i j pos}:PE X (.Constant (.int i) j pos) (tC (.int i)):=λ_ _ _ H _ I h=>wpAny_Constant_int ⟨.int i,H,I.tok _,⟨_,rfl⟩,h⟩
def znV {b j pos}:PE X (.Constant (.bool b) j pos) (tC (.bl b)):=λ_ _ _ H _ I h=>Constant_bool ⟨.bl b,H,I,rfl,h⟩
def zl5 {j pos}:PE X (.Constant .none j pos) (tC .non):=λ_ _ _ H _ I h=>Constant_none ⟨.non,H,I,rfl,h⟩
def zl6 {x j pos}:PE X (.Constant (.str x) j pos) (tC (.str x)):=λ_ _ _ H _ I h=>Calls.Constant_str ⟨.str x,H,I.tok _,⟨_,rfl⟩,h⟩
def Gl (X:Cx)(x:Str):Prop:=X.env.kindOf x=some .globalImplicit
def zcb {E:Value->Shared->Prop}{pins:List (Addr×Obj)}{s:Shared}{Y:St}{H:Hp}{x:Str}{u:Value}{pos:Pos}{Q:Value->Shared->Prop}(I:Inv X pins Y H s)(hg:Gl X x)(hm:X.mg x=some u)(h:Q u s)
 (hd:(x == ("__debug__" : Str))=false:=by decide):wpAny (model X.prog X.w) X.A (eval (.Name x pos) X.env) Q E s:=
 Calls.Name_function_global I.ok.kind hg (Calls.loadGlobal_global (by rw[I.ok.glob];exact I.mod.glob.keeps I.bk) hm h) hd
def zd5 {E:Value->Shared->Prop}{pins:List (Addr×Obj)}{s:Shared}{Y:St}{H:Hp}{x:Str}{u:Value}{pos:Pos}{Q:Value->Shared->Prop}(I:Inv X pins Y H s)(hg:Gl X x)(hm:X.mg x=none)(hv:bootBuiltins x=some u)(h:Q u s)
 (hn:x≠"__name__":=by decide) (hd:(x == ("__debug__" : Str))=false:=by decide):wpAny (model X.prog X.w) X.A (eval (.Name x pos) X.env) Q E s:=by
 obtain⟨mb,h1,h2⟩:=I.mod.blt;exact Calls.Name_function_global I.ok.kind hg (Calls.loadGlobal_builtin (by rw[I.ok.glob];exact I.mod.glob.keeps I.bk) hm (by rw[I.ok.blt];exact h1.keeps I.bk) ((h2 x hn).trans hv) h) hd
def zfA {x:Str}{v:V}{u:Value}{pos:Pos}(hg:Gl X x)(hm:X.mg x=some u)(r:RelV v u)(hd:(x == ("__debug__" : Str))=false:=by decide):PE X (.Name x pos) (tC v):=
 λ_ _ _ H _ I h=>zcb I hg hm ⟨v,H,I,r,h⟩ hd
def zhu {x:Str}{v:V}{u:Value}{pos:Pos}(hg:Gl X x)(hm:X.mg x=none)(hv:bootBuiltins x=some u)(r:RelV v u)(hn:x≠"__name__":=by decide)(hd:(x == ("__debug__" : Str))=false:=by decide):PE X (.Name x pos) (tC v):=
 λ_ _ _ H _ I h=>zd5 I hg hm hv ⟨v,H,I,r,h⟩ hn hd
variable {a b:Expr}{ta tb:TE}{pos:Pos}
variable {tA tB':TT}{rest:List Expr}
def tAnd (t u:TT):TT:=λY H Q=>t Y H λc H1=>if c=true then u Y H1 Q else Q false H1
def tOr (t u:TT):TT:=λY H Q=>t Y H λc H1=>if c=true then Q true H1 else u Y H1 Q
def tNot (t:TT):TT:=λY H Q=>t Y H λc H1=>Q (!c) H1
def zkJ (ha:PT X a tA):PW X (.BoolOp .And [a] pos) tA:=by
 intro wh pins s Y H Q I h;refine isTrue_and (thn (ha pins s Y H Q I h) λc s1 e=>?_);cases c with
|true=>exact isTrue_and_nil e
|false=>exact e
def zl7 (ha:PT X a tA):PW X (.BoolOp .Or [a] pos) tA:=by
 intro wh pins s Y H Q I h;refine isTrue_or (thn (ha pins s Y H Q I h) λc s1 e=>?_);cases c with
|false=>exact isTrue_or_nil e
|true=>exact e
def zl8 (ha:PT X a tA)(hb:PW X (.BoolOp .And (b::rest) pos) tB'):PW X (.BoolOp .And (a::b::rest) pos) (tAnd tA tB'):=by
 intro wh pins s Y H Q I h;refine isTrue_and (thn (ha pins s Y H _ I h) λc s1 ⟨H1,I1,q1⟩ =>?_);cases c with
|true=>exact hb wh pins s1 Y H1 Q I1 q1
|false=>exact⟨H1,I1,q1⟩
def znW (ha:PT X a tA)(hb:PW X (.BoolOp .Or (b::rest) pos) tB'):PW X (.BoolOp .Or (a::b::rest) pos) (tOr tA tB'):=by
 intro wh pins s Y H Q I h;refine isTrue_or (thn (ha pins s Y H _ I h) λc s1 ⟨H1,I1,q1⟩ =>?_);cases c with
|true=>exact⟨H1,I1,q1⟩
|false=>exact hb wh pins s1 Y H1 Q I1 q1
def zl9 (ha:PT X a tA):PT X (.UnaryOp .Not a pos) (tNot tA):=by
 intro pins s Y H Q I h;exact isTrue_not (ha pins s Y H (λc H1=>Q (!c) H1) I h)
def znX (ta tb:TE):TE:=λY H Q=>ta Y H λx H1=>∃c,x=.bl c/\if c=true then tb Y H1 Q else Q (.bl false) H1
def tOrV (ta tb:TE):TE:=λY H Q=>ta Y H λx H1=>∃c,x=.bl c/\if c=true then Q (.bl true) H1 else tb Y H1 Q
def znY (ta:TE):TE:=λY H Q=>ta Y H λx H1=>∃c,x=.bl c/\Q (.bl (!c)) H1
def zma {op}{t:TE}(h:PE X a t):PE X (.BoolOp op [a] pos) t:=λpins s Y H Q I hw=>BoolOp_one (h pins s Y H Q I hw)
def zmb (ha:PE X a ta)(hb:PE X (.BoolOp .And (b::rest) pos) tb):PE X (.BoolOp .And (a::b::rest) pos) (znX ta tb):=by
 intro pins s Y H Q I h;refine BoolOp_and (thn (ha pins s Y H _ I h) λv s1 ⟨x,H1,I1,r1,q1⟩ =>?_);obtain⟨c,rfl,q1⟩:=q1;cases r1;refine wbd ?_;cases c with
|true=>exact hb pins s1 Y H1 Q I1 q1
|false=>exact⟨.bl false,H1,I1,rfl,q1⟩
def znZ (ha:PE X a ta)(hb:PE X (.BoolOp .Or (b::rest) pos) tb):PE X (.BoolOp .Or (a::b::rest) pos) (tOrV ta tb):=by
 intro pins s Y H Q I h;refine BoolOp_or (thn (ha pins s Y H _ I h) λv s1 ⟨x,H1,I1,r1,q1⟩ =>?_);obtain⟨c,rfl,q1⟩:=q1;cases r1;refine wbd ?_;cases c with
|false=>exact hb pins s1 Y H1 Q I1 q1
|true=>exact⟨.bl true,H1,I1,rfl,q1⟩
def zmc (ha:PE X a ta):PE X (.UnaryOp .Not a pos) (znY ta):=by
 intro pins s Y H Q I h;refine UnaryOp_ (thn (ha pins s Y H _ I h) λv s1 ⟨x,H1,I1,r1,q1⟩ =>?_);obtain⟨c,rfl,q1⟩:=q1;cases r1;exact not_of (wbd ⟨.bl (!c),H1,I1,rfl,q1⟩)
def tIf (t:TT)(ta tb:TE):TE:=λY H Q=>t Y H λc H1=>if c=true then ta Y H1 Q else tb Y H1 Q
def zi8 {c:Expr}(hc:PT X c tA)(ha:PE X a ta)(hb:PE X b tb):PE X (.IfExp c a b pos) (tIf tA ta tb):=by
 intro pins s Y H Q I h;refine wpAny_IfExp (thn (hc pins s Y H _ I h) λd s1 ⟨H1,I1,q1⟩ =>?_);cases d with
|true=>exact ha pins s1 Y H1 Q I1 q1
|false=>exact hb pins s1 Y H1 Q I1 q1
end
def SqL (K:W.Frag)(H:Hp)(a:Addr)(xs:List V):Prop:=
 Rd H a (.lst xs)\/
  ∃(o:Obj) (its:Array Value) (n:Nat),K.lookup a=some o/\o.cls=.type "list"/\o.dict=none/\o.data=.seq its n/\its.size<=sizeLine/\Vals xs its.toList
def SqT (K:W.Frag)(H:Hp)(a:Addr)(xs:List V):Prop:=
 Rd H a (.tup xs)\/
  ∃(o:Obj) (its:Array Value) (n:Nat),K.lookup a=some o/\o.cls=.type "tuple"/\o.data=.seq its n/\its.size<=sizeLine/\Vals xs its.toList
def absV:Value->Option V
|.none=>some .non
|.bool b=>some (.bl b)
|.int i _=>some (.int i)
|.str x _=>some (.str x)
|.bytes b _=>some (.byt b)
|.float b _=>some (.flt b)
|.ref a=>some (.ref a)
|.type n=>some (.ty n)
|_=>none
def RelV.abs {x:V}{u:Value}(r:RelV x u):absV u=some x:=by
 cases x with
|non=>cases r;rfl
|bl _=>cases r;rfl
|int _=>obtain⟨t,rfl⟩:=r;rfl
|str _=>obtain⟨t,rfl⟩:=r;rfl
|byt _=>obtain⟨t,rfl⟩:=r;rfl
|flt _=>obtain⟨t,rfl⟩:=r;rfl
|ref _=>cases r;rfl
|ty _=>cases r;rfl
def RelV.inj {x y:V}{u:Value}(r:RelV x u)(q:RelV y u):x=y:=waq (r.abs.symm.trans q.abs)
theorem Vals.inj:∀{xs ys:List V}{us:List Value},Vals xs us->Vals ys us->xs=ys
|_,_,_,.nil,.nil=>rfl
|_,_,_,.cons r t,.cons r' t'=>by rw[r.inj r',Vals.inj t t']
section
variable {X:Cx}{pins:List (Addr×Obj)}{Y:St}{H:Hp}{s:Shared}{a:Addr}{xs ys:List V}
def SqL.of {K:W.Frag}(h:H a=some (.lst xs)):SqL K H a xs:=.inl (.inl h)
def SqT.of {K:W.Frag}(h:H a=some (.tup xs)):SqT K H a xs:=.inl (.inl h)
def Inv.list (I:Inv X pins Y H s)(h:SqL X.K H a xs):∃its:List Value,Vals xs its/\PlainL s.heap a its.toArray/\xs.length<=sizeLine:=by
 rcases h with h|⟨o,its,n,hk,hc,hd,hs,hz,r⟩
 .obtain⟨z,its,n,r,e⟩:=h.ok I.hok;exact⟨its,r,⟨_,n,e,rfl,rfl,rfl⟩,z⟩
 .refine⟨its.toList,r,⟨o,n,I.kIn a o hk,hc,hd,by simpa using hs⟩,?_⟩;have e:=r.length
  simp only[wcg] at e;omega
def Inv.tuple (I:Inv X pins Y H s)(h:SqT X.K H a xs):∃its:List Value,Vals xs its/\IsTup s.heap a its.toArray/\xs.length<=sizeLine:=by
 rcases h with h|⟨o,its,n,hk,hc,hs,hz,r⟩
 .obtain⟨z,its,r,p⟩:=h.ok I.hok;exact⟨its,r,p,z⟩
 .refine⟨its.toList,r,⟨o,I.kIn a o hk,hc,n,by simpa using hs⟩,?_⟩;have e:=r.length
  simp only[wcg] at e;omega
def Inv.list_inj (I:Inv X pins Y H s)(h:SqL X.K H a xs)(h':SqL X.K H a ys):xs=ys:=by
 obtain⟨its,r,⟨o,n,e,_,_,d⟩,_⟩:=I.list h;obtain⟨its',r',⟨o',n',e',_,_,d'⟩,_⟩:=I.list h';rw[e] at e';cases e';rw[d] at d';injection d' with d1 _
 have:its=its':=by simpa using wbJ Array.toList d1
 subst this;exact r.inj r'
def Inv.tuple_inj (I:Inv X pins Y H s)(h:SqT X.K H a xs)(h':SqT X.K H a ys):xs=ys:=by
 obtain⟨its,r,⟨o,e,_,n,d⟩,_⟩:=I.tuple h;obtain⟨its',r',⟨o',e',_,n',d'⟩,_⟩:=I.tuple h';rw[e] at e';cases e';rw[d] at d';injection d' with d1 _
 have:its=its':=by simpa using wbJ Array.toList d1
 subst this;exact r.inj r'
end
abbrev Cx.wish (X:Cx)(E:Value->Shared->Prop):Cx:={X with xe:=E}
abbrev Cx.nox (X:Cx):Cx:=X.wish λ_ _=>False
theorem Cx.Ok.wish {X:Cx}(ok:X.Ok)(E:Value->Shared->Prop):(X.wish E).Ok:=
 ⟨ok.mod,ok.kind,ok.glob,ok.blt,ok.above,ok.inj,ok.has,ok.cab,ok.hd,ok.frames,ok.stk,ok.exf,ok.bs,ok.bsz,ok.noex,ok.exfs,ok.funs,ok.frf⟩
def Cx.Ok.unwish {X:Cx}{E:Value->Shared->Prop}(ok:(X.wish E).Ok):X.Ok:=
 ⟨ok.mod,ok.kind,ok.glob,ok.blt,ok.above,ok.inj,ok.has,ok.cab,ok.hd,ok.frames,ok.stk,ok.exf,ok.bs,ok.bsz,ok.noex,ok.exfs,ok.funs,ok.frf⟩
section
variable {X:Cx}{pins:List (Addr×Obj)}{Y:St}{H:Hp}{s:Shared}{E:Value->Shared->Prop}
theorem Inv.wish (I:Inv X pins Y H s)(E:Value->Shared->Prop):Inv (X.wish E) pins Y H s:=⟨I.ok.wish E,I.os,I.bare,I.base,I.loc,I.cell,I.free,I.freeC,I.pin,I.hok,I.len⟩
theorem Inv.unwish (I:Inv (X.wish E) pins Y H s):Inv X pins Y H s:=⟨I.ok.unwish,I.os,I.bare,I.base,I.loc,I.cell,I.free,I.freeC,I.pin,I.hok,I.len⟩
theorem SP.unwish {D:Ends}{f:Flow}{s':Shared}(h:SP (X.wish E) pins D f s'):SP X pins D f s':=by
 cases f with
|next=>obtain⟨Y',H',I,q⟩:=h;exact⟨Y',H',I.unwish,q⟩
|brk=>obtain⟨Y',H',I,q⟩:=h;exact⟨Y',H',I.unwish,q⟩
|cont=>obtain⟨Y',H',I,q⟩:=h;exact⟨Y',H',I.unwish,q⟩
|ret u=>obtain⟨v,Y',H',I,r,q⟩:=h;exact⟨v,Y',H',I.unwish,r,q⟩
theorem PSs.nox {st:List Stmt}{t:TS}(h:PSs X.nox st t):PSs X st t:=λpins s Y H D I hw=>
 war (h pins s Y H D (I.wish _) hw) (λ_ _ q=>q.unwish) λ_ _ z=>False.elim z
end
section
variable {X:Cx}{st:Stmt}{rest:List Stmt}{t u:TS}{e:Expr}{te:TE}{pos:Pos}
def zn0:TS:=λD Y H=>D.nx Y H
def tSeq (t u:TS):TS:=λD Y H=>t {D with nx:=u D} Y H
def zhv:PSs X [] zn0:=λ_ _ Y H _ I h=>wch ⟨Y,H,I,h⟩
def zej (h1:PS X st t)(h2:PSs X rest u):PSs X (st::rest) (tSeq t u):=by
 intro pins s Y H D I h;refine wpAny_execs_cons (thn (h1 pins s Y H {D with nx:=u D} I h) λf s1 q=>?_);cases f with
|next=>
   obtain⟨Y',H',I',q⟩:=q;exact h2 pins s1 Y' H' D I' q
|ret v=>exact q
|brk=>exact q
|cont=>exact q
def zhw (h1:PS X st t):PSs X [st] t:=by
 intro pins s Y H D I h;refine wpAny_execs_cons (thn (h1 pins s Y H D I h) λf s1 q=>?_);cases f with
|next=>exact wch q
|ret v=>exact q
|brk=>exact q
|cont=>exact q
def Inv.quiet {pins:List (Addr×Obj)}{Y:St}{H:Hp}{s:Shared}(I:Inv X pins Y H s):interactive X.env=false:=by simp[interactive,I.ok.kind]
def zkK (te:TE):TS:=λD Y H=>te Y H λ_ H1=>D.nx Y H1
def zhx (he:PE X e te)(hs:swapsWith e none pos.line X.env=pure false:=by rfl):PS X (.Expr e pos) (zkK te):=by
 intro pins s Y H D I h;exact wpAny_Expr_any (thn (he pins s Y H _ I h) λv s1 ⟨x,H1,I1,r1,q1⟩ =>⟨Y,H1,I1,q1⟩) I.quiet hs
def tRet (te:TE):TS:=λD Y H=>te Y H D.rt
def zkg (he:PE X e te):PS X (.Return (some e) pos) (tRet te):=by
 intro pins s Y H D I h;exact wpAny_Return_some (thn (he pins s Y H _ I h) λv s1 ⟨x,H1,I1,r1,q1⟩ =>⟨x,Y,H1,I1,r1,q1⟩)
def tIfS (c:TT)(t u:TS):TS:=λD Y H=>c Y H λb H1=>if b=true then t D Y H1 else u D Y H1
def zmd {c:Expr}{a b:List Stmt}{tc:TT}(hc:PT X c tc)(ha:PSs X a t)(hb:PSs X b u):PS X (.If c a b pos) (tIfS tc t u):=by
 intro pins s Y H D I h;refine wpAny_If (thn (hc pins s Y H _ I h) λd s1 ⟨H1,I1,q1⟩ =>?_);cases d with
|true=>exact ha pins s1 Y H1 D I1 q1
|false=>exact hb pins s1 Y H1 D I1 q1
def zkh:TS:=λ_ _ _=>False
def zga:PS X st zkh:=λ_ _ _ _ _ _ h=>h.elim
end
abbrev TG:=V->St->Hp->(St->Hp->Prop)->Prop
abbrev TGs:=List V->St->Hp->(St->Hp->Prop)->Prop
def PG (X:Cx)(target:Expr)(t:TG):Prop:=
 ∀(pins:List (Addr×Obj)) (s:Shared) (Y:St) (H:Hp) (v:V) (u:Value) (Q:St->Hp->Prop),Inv X pins Y H s->RelV v u->t v Y H Q->
  wpAny (model X.prog X.w) X.A (assign target X.env u) (λ_ s'=>∃Y' H',Inv X pins Y' H' s'/\Q Y' H') X.xe s
def PGs (X:Cx)(ts:List Expr)(t:TGs):Prop:=
 ∀(pins:List (Addr×Obj)) (s:Shared) (Y:St) (H:Hp) (vs:List V) (us:List Value) (Q:St->Hp->Prop),Inv X pins Y H s->Vals vs us->t vs Y H Q->
  wpAny (model X.prog X.w) X.A (assignInOrder ((assignEach ts X.env).map (·.2)) us) (λ_ s'=>∃Y' H',Inv X pins Y' H' s'/\Q Y' H') X.xe s
section
variable {X:Cx}{pos:Pos}
def zgH (i:Nat):TG:=λv Y H Q=>Q (Y.set i (some v)) H
def zfB {i:Nat}{x:Str}(hN:X.N.Nodup)(hi:X.N[i]?=some x)(hx:Loc X.env.scope x)(hf:X.fn x=true\/X.env.scope.names.lookup x=some .local:=by first|exact .inl rfl|exact .inr rfl|assumption):PG X (.Name x pos) (zgH i):=by
 intro pins s Y H v u Q I r h;exact wpAny_assign_Name (zcs I hN hi hx r (λs' I'=>⟨_,H,I',h⟩) hf)
def gNil:TGs:=λvs Y H Q=>vs = []/\Q Y H
def zme (t:TG)(u:TGs):TGs:=λvs Y H Q=>∃v r,vs=v::r/\t v Y H λY' H'=>u r Y' H' Q
def zkL:PGs X [] gNil:=by
 intro pins s Y H vs us Q I r h;obtain⟨e,h⟩:=h;subst e;cases r;exact assignInOrder_nil ⟨Y,H,I,h⟩
def zi9 {e:Expr}{es:List Expr}{t:TG}{u:TGs}(h1:PG X e t)(h2:PGs X es u)
 (hs:(assignEach (e::es) X.env).map (·.2)=assign e X.env::(assignEach es X.env).map (·.2):=by rfl):PGs X (e::es) (zme t u):=by
 intro pins s Y H vs us Q I r h;obtain⟨v,vr,e1,h⟩:=h;subst e1;cases r with
|cons r rr=>
   rw[hs];refine assignInOrder_cons (thn (h1 pins s Y H _ _ _ I r h) λ_ s1 ⟨Y1,H1,I1,q1⟩ =>?_);exact h2 pins s1 Y1 H1 _ _ Q I1 rr q1
def gTup (K:W.Frag)(n:Nat)(t:TGs):TG:=λv Y H Q=>∃a xs,v=.ref a/\SqT K H a xs/\xs.length=n/\t xs Y H Q
def zmf {es:List Expr}{k:Nat}{t:TGs}{n:Nat}(hc:X.calm=true)(h:PGs X es t)
 (hn:(assignEach es X.env).length=n:=by rfl) (hst:(assignEach es X.env).findIdx? (·.1)=none:=by rfl):PG X (.Tuple es k pos) (gTup X.K n t):=by
 intro pins s Y H v u Q I r hw;obtain⟨a,xs,e1,hq,hl,hw⟩:=hw;subst e1;cases r;obtain⟨its,rv,ht,hz⟩:=I.tuple hq;refine assign_Tuple_tuple (I.ok.hd hc) ht (by simp[hn,<-hl,rv.length]) hst λh' hx=>?_
 have I1:Inv X pins Y H {s with heap:=h'}:=I.kept (t':=s.toks) λb o e=>hx b o (wap (wad e)) e
 exact h pins _ Y H xs _ Q I1 (by simpa using rv) hw
def tAsg (te:TE)(g:TG):TS:=λD Y H=>te Y H λx H1=>g x Y H1 D.nx
def zmg {tg e:Expr}{te:TE}{g:TG}(he:PE X e te)(hg:PG X tg g)(hs:swapsWithSole [tg] e pos.line X.env=pure false:=by rfl)(hw:swappedStores [tg] e X.env=pure none:=by rfl)
 (h1:(assignEach [tg] X.env).map (·.2) = [assign tg X.env]:=by rfl):PS X (.Assign [tg] e pos) (tAsg te g):=by
 intro pins s Y H D I h;refine wpAny_Assign_stores (thn (he pins s Y H _ I h) λv s1 ⟨x,H1,I1,r1,q1⟩ =>?_) hs hw;rw[h1];exact thn (hg pins s1 Y H1 x v _ I1 r1 q1) λ_ s2 q=>q
def zhy {i:Nat}{x:Str}{e:Expr}{te:TE}{pos':Pos}(hN:X.N.Nodup)(hi:X.N[i]?=some x)(hx:Loc X.env.scope x)(he:PE X e te)(hs:swapsWith e (some (.Name x pos')) pos.line X.env=pure false:=by rfl)(hf:X.fn x=true\/X.env.scope.names.lookup x=some .local:=by first|exact .inl rfl|exact .inr rfl|assumption) :
 PS X (.Assign [.Name x pos'] e pos) (tAsg te (zgH i)):=by
 intro pins s Y H D I h;refine wpAny_Assign_Name (thn (he pins s Y H _ I h) λv s1 ⟨y,H1,I1,r1,q1⟩ =>?_) hs;exact zcs I1 hN hi hx r1 (λs2 I2=>⟨_,H1,I2,q1⟩) hf
def tPar (i j:Nat)(ta:TA):TS:=λD Y H=>ta Y H λvs H1=>∃v w,vs = [v,w]/\D.nx ((Y.set i (some v)).set j (some w)) H1
def zmh {i j:Nat}{x y:Str}{a b:Expr}{ta:TA}{px py pt:Pos}{kt k2 pt2}(hc:X.calm=true)(hN:X.N.Nodup)(hi:X.N[i]?=some x)(hj:X.N[j]?=some y)(hij:i≠j)
 (hx:X.env.scope.names.lookup x=some .local) (hy:X.env.scope.names.lookup y=some .local) (ha:PA X [a,b] ta)
 (hw:swappedStores [.Tuple [.Name x px,.Name y py] kt pt] (.Tuple [a,b] k2 pt2) X.env=pure (some [x,y]))
 (hs:swapsWithSole [.Tuple [.Name x px,.Name y py] kt pt] (.Tuple [a,b] k2 pt2) pos.line X.env=pure false:=by rfl) :
 PS X (.Assign [.Tuple [.Name x px,.Name y py] kt pt] (.Tuple [a,b] k2 pt2) pos) (tPar i j ta):=by
 intro pins s Y H D I h;rw[exec_Assign_arm];refine waa (wbh ?_);rw[hs];refine waa (wae ?_);rw[if_neg (by decide)];refine waa (Tuple_ (thn (ha _ pins s Y H _ I h) λus s1 ⟨vs,H1,I1,r1,q1⟩ =>?_));obtain⟨v,w,e1,q1⟩:=q1;subst e1;obtain⟨u1,u2,rfl,rv,rw'⟩:∃u1 u2,us = [u1,u2]/\RelV v u1/\RelV w u2:=by
  cases r1 with
 |cons p q=>
    cases q with
   |cons p' q'=>
      cases q';exact⟨_,_,rfl,p,p'⟩
 refine waQ ?_ (by show 2<=sizeLine;decide);have I2:Inv X pins Y H1 {s1 with heap:=s1.heap.push {cls:=.type "tuple",data:=.seq [u1,u2].toArray}}:=I1.kept (t':=s1.toks) λb o e=>wab _ e
 rw[hw];refine waa (wae ?_);show wpAny (model X.prog X.w) X.A (do rule "assign.swapped-stores";let items <-unpackItems (.ref s1.heap.objs.size) 2 none;assignInOrder [λv=>bindName X.env y v,λv=>bindName X.env x v] items.reverse;pure Flow.next) _ _ _
 refine waa (wcp (waa (unpackItems_tuple (items:=#[u1,u2]) (I.ok.hd hc) (IsTup.new s1.heap _) λh' hx'=>?_)));have I3:=I2.kept (h':=h') (t':=s1.toks) λb o e=>hx' b o (wap (wad e)) e
 show wpAny _ _ (assignInOrder [λv=>bindName X.env y v,λv=>bindName X.env x v] [u2,u1] >>= λ_=>pure Flow.next) _ _ _
 refine waa (assignInOrder_cons (wpAny_bindName (zcs I3 hN hj (.inl hy) rw' (λs2 I4=>?_) (.inr hy))));refine assignInOrder_cons (wpAny_bindName (zcs I4 hN hi (.inl hx) rv (λs3 I5=>assignInOrder_nil (wae ?_)) (.inr hx)));rw[List.set_comm _ _ (Ne.symm hij)] at I5;exact⟨_,H1,I5,q1⟩
end
section
variable {X:Cx}{pos:Pos}
end
structure It where
 go:Nat->Hp->Prop
 yld:Nat->Hp->V->Hp->Prop
 stop:Nat->Hp->Prop
def FpOk (X:Cx)(pins:List (Addr×Obj))(H:Hp)(b:Addr):Prop:=
 H b=none/\b≠X.env.locals/\b∉X.fs/\(b∈X.ex\/X.s₀.heap.objs.size<=b)/\(∀x c,X.env.cells.lookup x=some c->c≠b)/\∀p∈X.pn++pins,p.1≠b
def Inv.fpOk {X:Cx}{pins:List (Addr×Obj)}{Y:St}{H H':Hp}{s:Shared}{b:Addr}(I:Inv X pins Y H s)(hb:s.heap.objs.size<=b)(hn:H' b=none):FpOk X pins H' b:=by
 refine⟨hn,wck (wak I.lt hb),I.nofs hb,.inr (wam I.sz hb),λx c e z=>?_,λp hp z=>?_⟩
 .obtain⟨v,q⟩:=I.cell x c e;exact absurd (wak q.lt (by rw[z];exact hb)) (waK _)
 .exact absurd (wak (wad (I.pin p hp).1) (by rw[z];exact hb)) (waK _)
structure Turn (P:Program)(w:World)(K:W.Frag)(tg:Expr)(J:It)(fp:List Addr)(it:Addr)(tn:Nat->Heap->Prop):Prop where
 mem:it∈fp
 obj:∀i h,tn i h->∀b∈fp,∃o,h.get? b=some o/\∀v,o.data≠.cell v
 keep:∀i h h',tn i h->(∀b∈fp,∀o,h.get? b=some o->h'.get? b=some o)->tn i h'
 item:∀(X:Cx),X.prog=P->X.w=w->X.K=K->X.calm=true->∀(i:Nat) (pins:List (Addr×Obj)) (s:Shared) (Y:St) (H:Hp) (E:Value->Shared->Prop),Inv X pins Y H s->(∀b∈fp,FpOk X pins H b)->tn i s.heap->J.go i H->
  wpAny (model P w) X.A (pyNext (.ref it)) (λr s1=>∃u,r=some u/\
   wpAny (model P w) X.A (letOwnedTupleGo tg (.ref it) u) (λ_ s2=>∃x H',Inv X pins Y H' s2/\RelV x u/\J.yld i H x H'/\tn (i+1) s2.heap/\∀b∈fp,H' b=none) E s1) E s
 done:∀(X:Cx),X.prog=P->X.w=w->X.K=K->X.calm=true->∀(i:Nat) (pins:List (Addr×Obj)) (s:Shared) (Y:St) (H:Hp) (E:Value->Shared->Prop),Inv X pins Y H s->(∀b∈fp,FpOk X pins H b)->tn i s.heap->J.stop i H->
  wpAny (model P w) X.A (pyNext (.ref it)) (λr s1=>r=none/\Inv X pins Y H s1) E s
 self:∀(A:Around) (i:Nat) (s:Shared) (Q:Value->Shared->Prop) (E:Value->Shared->Prop),tn i s.heap->Q (.ref it) s->wpAny (model P w) A (pyIter (.ref it)) Q E s
abbrev TI:=St->Hp->(It->Hp->Prop)->Prop
def PIE (X:Cx)(pins:List (Addr×Obj))(Y:St)(tg:Expr)(R:It->Hp->Prop)(itv:Value)(s2:Shared):Prop:=
 ∃(it:Addr) (fp:List Addr) (tn:Nat->Heap->Prop) (J:It) (H':Hp),itv=.ref it/\Inv X pins Y H' s2/\Turn X.prog X.w X.K tg J fp it tn/\tn 0 s2.heap/\(∀b∈fp,FpOk X pins H' b)/\R J H'
def PI (X:Cx)(tg iter:Expr)(wi:TI):Prop:=
 ∀(pins:List (Addr×Obj)) (s:Shared) (Y:St) (H:Hp) (R:It->Hp->Prop),Inv X pins Y H s->wi Y H R->
  wpAny (model X.prog X.w) X.A (eval iter X.env) (λv s1=>wpAny (model X.prog X.w) X.A (pyIter v) (PIE X pins Y tg R) X.xe s1) X.xe s
def zja {M:Model}{A:Around}{E:Value->Shared->Prop}{s:Shared}{tg:Expr}{it:Addr}{u:Value}{o:Obj}{n:String}{vs:Array Value}{Q:Unit->Shared->Prop}(ho:s.heap.get? it=some o)(hc:o.cls=.type n)(hd:o.data=.fields vs)
 (hn:["enumerate","zip","dict_itemiterator","dict_reverseitemiterator","odict_iterator","itertools.zip_longest","itertools.pairwise"].contains n=false) (hQ:Q () s):wpAny M A (letOwnedTupleGo tg (.ref it) u) Q E s:=by
 unfold letOwnedTupleGo;cases tg <;> first
 |exact wae hQ
 |(cases u <;> first
  |exact wae hQ
  |(refine waa (wpAny_load ho ?_)
    rw[hc,hd];show wpAny M A (if(["enumerate","zip","dict_itemiterator","dict_reverseitemiterator","odict_iterator","itertools.zip_longest","itertools.pairwise"].contains n&&vs[0]? == some (rawInt _))=true then _ else _) Q E s
    rw[if_neg (by intro h;rw[hn,Bool.false_and] at h;cases h)];exact wae hQ))
def Itl (K:W.Frag)(a:Addr):It:=
 ⟨λi H=>∃xs x,SqL K H a xs/\xs[i]?=some x,λi H x H'=>H'=H/\∀xs,SqL K H a xs->xs[i]?=some x,λi H=>∃xs,SqL K H a xs/\xs.length<=i⟩
def Itt (K:W.Frag)(a:Addr):It:=
 ⟨λi H=>∃xs x,SqT K H a xs/\xs[i]?=some x,λi H x H'=>H'=H/\∀xs,SqT K H a xs->xs[i]?=some x,λi H=>∃xs,SqT K H a xs/\xs.length<=i⟩
def Itr (lo:Int)(n:Nat):It:=⟨λi _=>i<n,λi H x H'=>H'=H/\x=.int (lo+i),λi _=>n<=i⟩
def zhz {P:Program}{w:World}{K:W.Frag}{tg:Expr}(a it:Addr):Turn P w K tg (Itl K a) [it] it (λi h=>h.IsListIter it a i) where
 mem:=by simp
 obj:=λi h st b hb=>by
  have e:b=it:=by simpa using hb
  subst e;obtain⟨o,e,c,d⟩:=st;exact⟨o,e,λv z=>by rw[d] at z;cases z⟩
 keep:=λi h h' st k=>st.at λo e=>k it (by simp) o e
 item:=by
  intro X hP hw hK hc i pins s Y H E I hf st hg;subst hP hw hK;obtain⟨xs,x,hq,hx⟩:=hg;obtain⟨its,rv,p,hz⟩:=I.list hq;obtain⟨u,hu,ru⟩:=rv.get hx;obtain⟨f0,f1,f2,f3,f4,f5⟩:=hf it (by simp);refine wpAny_pyNext_list_item st p.isList (x:=u) (by simpa using hu) λh' st' sb=>?_
  have I1:Inv X pins Y H {s with heap:=h'}:=I.turned (t':=s.toks) (λb o hb e=>(sb.2 b hb).trans e) f0 f1 f3 f4 f5
  obtain⟨o,e,c,d⟩:=id st';exact⟨u,rfl,zja (s:={s with heap:=h'}) e c d (by decide) ⟨x,H,I1,ru,⟨rfl,λys hy=>by rw[I.list_inj hy hq];exact hx⟩,st',λb hb=>(hf b hb).1⟩⟩
 done:=by
  intro X hP hw hK hc i pins s Y H E I hf st hg;subst hP hw hK;obtain⟨xs,hq,hx⟩:=hg;obtain⟨its,rv,p,hz⟩:=I.list hq;obtain⟨f0,f1,f2,f3,f4,f5⟩:=hf it (by simp);have hl:=rv.length
  exact wpAny_pyNext_list_end (I.ok.hd hc) st p.isList (by simp;omega) λh' eb=>⟨rfl,I.turned (t':=s.toks) (λb o hb e=>eb b o hb e) f0 f1 f3 f4 f5⟩
 self:=λ_ _ _ _ _ st h=>wpAny_pyIter_listiter st h
def zgI {P:Program}{w:World}{K:W.Frag}{tg:Expr}(a it:Addr):Turn P w K tg (Itt K a) [it] it (λi h=>h.IsTupleIter it a i) where
 mem:=by simp
 obj:=λi h st b hb=>by
  have e:b=it:=by simpa using hb
  subst e;obtain⟨o,e,c,d⟩:=st;exact⟨o,e,λv z=>by rw[d] at z;cases z⟩
 keep:=λi h h' st k=>st.at λo e=>k it (by simp) o e
 item:=by
  intro X hP hw hK hc i pins s Y H E I hf st hg;subst hP hw hK;obtain⟨xs,x,hq,hx⟩:=hg;obtain⟨its,rv,p,hz⟩:=I.tuple hq;obtain⟨u,hu,ru⟩:=rv.get hx;obtain⟨f0,f1,f2,f3,f4,f5⟩:=hf it (by simp);refine wpAny_pyNext_tuple_item st (show s.heap.IsTuple a its.toArray from p) (x:=u) (by simpa using hu) λh' st' sb=>?_
  have I1:Inv X pins Y H {s with heap:=h'}:=I.turned (t':=s.toks) (λb o hb e=>(sb.2 b hb).trans e) f0 f1 f3 f4 f5
  obtain⟨o,e,c,d⟩:=id st';exact⟨u,rfl,zja (s:={s with heap:=h'}) e c d (by decide) ⟨x,H,I1,ru,⟨rfl,λys hy=>by rw[I.tuple_inj hy hq];exact hx⟩,st',λb hb=>(hf b hb).1⟩⟩
 done:=by
  intro X hP hw hK hc i pins s Y H E I hf st hg;subst hP hw hK;obtain⟨xs,hq,hx⟩:=hg;obtain⟨its,rv,p,hz⟩:=I.tuple hq;obtain⟨f0,f1,f2,f3,f4,f5⟩:=hf it (by simp);have hl:=rv.length
  exact wpAny_pyNext_tuple_end (I.ok.hd hc) st (show s.heap.IsTuple a its.toArray from p) (by simp;omega) λh' eb=>⟨rfl,I.turned (t':=s.toks) (λb o hb e=>eb b o hb e) f0 f1 f3 f4 f5⟩
 self:=λ_ _ _ _ _ st h=>wpAny_pyIter_tupleiter st h
def zgJ {P:Program}{w:World}{K:W.Frag}{tg:Expr}(it:Addr)(lo:Int)(n:Nat):Turn P w K tg (Itr lo n) [it] it (λi h=>IsRangeIter h it (lo+(i:Nat)*1) ((n:Int) - (i:Nat)) 1) where
 mem:=by simp
 obj:=λi h st b hb=>by
  have e:b=it:=by simpa using hb
  subst e;exact⟨_,st,λv z=>by
   have z':Data.fields _=Data.cell v:=z
   cases z'⟩
 keep:=λi h h' st k=>k it (by simp) _ st
 item:=by
  intro X hP hw hK hc i pins s Y H E I hf st hg;subst hP hw hK;obtain⟨f0,f1,f2,f3,f4,f5⟩:=hf it (by simp);have W:=Walks.range (prog:=X.prog) (w:=X.w) (I.ok.hd hc) it lo 1 n
  refine W.item i s _ _ hg st λv h' tk hv st' kk=>?_
  obtain⟨t,rfl⟩:=hv;have I1:Inv X pins Y H {s with heap:=h',toks:=tk}:=I.turned (λb o hb e=>kk b o (by simpa using hb) e) f0 f1 f3 f4 f5
  refine⟨_,rfl,zja (s:={s with heap:=h',toks:=tk}) (n:="range_iterator") st' rfl rfl (by decide) ⟨.int (lo+i),H,I1,⟨t,?_⟩,⟨rfl,rfl⟩,st',λb hb=>(hf b hb).1⟩⟩;rw[Int.mul_one]
 done:=by
  intro X hP hw hK hc i pins s Y H E I hf st hg;subst hP hw hK;obtain⟨f0,f1,f2,f3,f4,f5⟩:=hf it (by simp);exact wpAny_pyNext_range_end (I.ok.hd hc) st (by have:n<=i:=hg;omega) λh' eb=>⟨rfl,I.turned (t':=s.toks) (λb o hb e=>eb b o hb e) f0 f1 f3 f4 f5⟩
 self:=λ_ _ _ _ _ st h=>wpAny_pyIter_rangeiter st h
section
variable {X:Cx}{tg:Expr}
def zn1 (K:W.Frag)(tl:TE):TI:=λY H R=>tl Y H λx H1=>∃a,x=.ref a/\(∃xs,SqL K H1 a xs)/\R (Itl K a) H1
def iTup (K:W.Frag)(tl:TE):TI:=λY H R=>tl Y H λx H1=>∃a,x=.ref a/\(∃xs,SqT K H1 a xs)/\R (Itt K a) H1
def zkM {l:Expr}{tl:TE}(hl:PE X l tl):PI X tg l (zn1 X.K tl):=by
 intro pins s Y H R I h;refine thn (hl pins s Y H _ I h) λv s1 ⟨x,H1,I1,r1,q1⟩ =>?_
 obtain⟨a,e,⟨xs,hq⟩,q⟩:=q1;subst e;cases r1;obtain⟨its,rv,p,hz⟩:=I1.list hq;refine wpAny_pyIter_list p.isList ?_;refine⟨s1.heap.objs.size,[s1.heap.objs.size],_,_,H1,rfl,I1.kept (t':=s1.toks) λb o e=>wab _ e,zhz a _,⟨_,wat _ rfl,rfl,rfl⟩,λb hb=>?_,q⟩;have e:b=s1.heap.objs.size:=by simpa using hb
 subst e;exact I1.fpOk (wai _) (I1.hok.fresh (wai _))
def zmi {l:Expr}{tl:TE}(hl:PE X l tl):PI X tg l (iTup X.K tl):=by
 intro pins s Y H R I h;refine thn (hl pins s Y H _ I h) λv s1 ⟨x,H1,I1,r1,q1⟩ =>?_
 obtain⟨a,e,⟨xs,hq⟩,q⟩:=q1;subst e;cases r1;obtain⟨its,rv,p,hz⟩:=I1.tuple hq;refine wbN (show s1.heap.IsTuple a its.toArray from p) ?_;refine⟨s1.heap.objs.size,[s1.heap.objs.size],_,_,H1,rfl,I1.kept (t':=s1.toks) λb o e=>wab _ e,zgI a _,⟨_,wat _ rfl,rfl,rfl⟩,λb hb=>?_,q⟩;have e:b=s1.heap.objs.size:=by simpa using hb
 subst e;exact I1.fpOk (wai _) (I1.hok.fresh (wai _))
def zjb {pins:List (Addr×Obj)}{Y:St}{H:Hp}{s:Shared}{R:It->Hp->Prop}{E:Value->Shared->Prop}{lo hi:Int}{t u v:Tok}{tk:Nat}(I:Inv X pins Y H s)(h1:-(2 ^ 62)<=lo)(h2:lo<2 ^ 62)(h3:-(2 ^ 62)<=hi)(h4:hi<2 ^ 62)
 (q:R (Itr lo (hi - lo).toNat) H):wpAny (model X.prog X.w) X.A (pyIter (.ref s.heap.objs.size)) (PIE X pins Y tg R) E {s with heap:=s.heap.push {cls:=.type "range",data:=.fields #[.int lo t,.int hi u,.int 1 v]},toks:=tk}:=by
 refine wpAny_pyIter_range (IsRange.new ..) (small_one h1 h2 h3 h4) ?_;have I1:Inv X pins Y H {s with heap:=s.heap.push {cls:=.type "range",data:=.fields #[.int lo t,.int hi u,.int 1 v]},toks:=tk}:=I.kept λb o e=>wab _ e
 refine⟨(s.heap.push {cls:=.type "range",data:=.fields #[.int lo t,.int hi u,.int 1 v]}).objs.size,[(s.heap.push {cls:=.type "range",data:=.fields #[.int lo t,.int hi u,.int 1 v]}).objs.size],_,_,H,rfl,
  I1.kept (t':=tk) λb o e=>wab _ e,zgJ _ lo (hi - lo).toNat,?_,λb hb=>?_,q⟩
 .have e1:lo+((0:Nat):Int)*1=lo:=by simp
  have e2:(((hi - lo).toNat:Nat):Int) - ((0:Nat):Int)=Builtin.Range.rangeSize lo hi 1:=by rw[rangeSize_one];split <;> omega
  show IsRangeIter _ _ (lo+((0:Nat):Int)*1) ((((hi - lo).toNat:Nat):Int) - ((0:Nat):Int)) 1
  rw[e1,e2];exact wat _ rfl
 .have e:b=(s.heap.push {cls:=.type "range",data:=.fields #[.int lo t,.int hi u,.int 1 v]}).objs.size:=by simpa using hb
  subst e;exact I1.fpOk (wai _) (I1.hok.fresh (wai _))
def zn2 (ta:TA):TI:=λY H R=>ta Y H λvs H1=>∃j:Int,vs = [.int j]/\-(2 ^ 62)<=j/\j<2 ^ 62/\R (Itr 0 j.toNat) H1
def zhA {a:Expr}{ta:TA}{p pos:Pos}(hg:Gl X "range")(hm:X.mg "range"=none)(ha:PA X [a] ta)(hs:starEach [a] X.env = [(false,eval a X.env)]:=by rfl):PI X tg (.Call (.Name "range" p) [a] [] pos) (zn2 ta):=by
 intro pins s Y H R I h;refine Call_ (zd5 I hg hm boot_range (wbC (thn (ha pos pins s Y H _ I h) λus s1 ⟨vs,H1,I1,r1,q1⟩ =>?_) hs rfl));obtain⟨j,e,q1,q2,q⟩:=q1;subst e;cases r1 with
|cons r rr=>
   cases rr;obtain⟨t,rfl⟩:=r;exact call_range_1 (zjb I1 (by omega) (by omega) q1 q2 (by simpa using q))
def tFor (wi:TI)(g:TG)(tb:TS):TS:=λD Y H=>wi Y H λJ H1=>∃W:Nat->Nat->St->Hp->Prop,(∃m,W 0 m Y H1)/\∀i m Y H,W i m Y H->
 (J.stop i H/\D.nx Y H)\/(J.go i H/\∃N:St->Hp->Prop,(∀Y' H',N Y' H'->∃m',m'<m/\W (i+1) m' Y' H')/\∀x H',J.yld i H x H'->g x Y H' λY2 H2=>tb {D with nx:=N,ct:=N,bk:=D.nx} Y2 H2)
def zeK (fp:List Addr)(h:Heap):List (Addr×Obj):=fp.filterMap λb=>(h.get? b).map λo=>(b,o)
def zbA {fp:List Addr}{h:Heap}{b:Addr}{o:Obj}(hb:b∈fp)(e:h.get? b=some o):(b,o)∈zeK fp h:=wbO.mpr ⟨b,hb,by rw[e];rfl⟩
def zhB {fp:List Addr}{h:Heap}{p:Addr×Obj}(hp:p∈zeK fp h):p.1∈fp/\h.get? p.1=some p.2:=by
 obtain⟨b,hb,e⟩:=wbO.mp hp;cases q:h.get? b with
|none=>rw[q] at e;cases e
|some o=>
   rw[q] at e;have e':(b,o)=p:=waq e
   subst e';exact⟨hb,q⟩
def Inv.pinned {pins:List (Addr×Obj)}{Y:St}{H:Hp}{s:Shared}{fp:List Addr}(I:Inv X pins Y H s)(hf:∀b∈fp,FpOk X pins H b)(ho:∀b∈fp,∃o,s.heap.get? b=some o/\∀v,o.data≠.cell v):Inv X (pins++zeK fp s.heap) Y H s:=
 I.pins_of λp hp=>(waM.mp hp).elim (λz=>I.pin p (wan _ z)) λz=>by
  obtain⟨hb,e⟩:=zhB z;obtain⟨f0,f1,f2,_⟩:=hf p.1 hb;obtain⟨o,e',d⟩:=ho p.1 hb;rw[e] at e';cases e';exact⟨e,f0,f1,f2,d⟩
def Inv.unpinned {pins pl:List (Addr×Obj)}{Y:St}{H:Hp}{s:Shared}(I:Inv X (pins++pl) Y H s):Inv X pins Y H s:=I.pins_of λp hp=>I.pin p (wan _ (wbk _ hp))
def zki {iter:Expr}{body:List Stmt}{wi:TI}{g:TG}{tb:TS}{pos:Pos}(hp:PassesOwn (model X.prog X.w) X.A X.env X.xe)(hc:X.calm=true)(hi:PI X tg iter wi)(hg:PG X tg g)(hb:PSs X body tb)
 (hs:∀x,foldedSetIterable iter X.env x=pure x:=by intro _;rfl):PS X (.For tg iter body [] pos) (tFor wi g tb):=by
 intro pins s Y H D I h;refine wpAny_For (thn (hi pins s Y H _ I h) λv s1 h1=>thn h1 λitv s2 h2=>?_) hs;obtain⟨it,fp,tn,J,H2,e,I2,T,st2,f2,W,⟨m0,w0⟩,turn⟩:=h2;subst e;have stat:∀{H':Hp},(∀b∈fp,H' b=none)->∀b∈fp,FpOk X pins H' b:=λhn b hb=>⟨hn b hb,(f2 b hb).2⟩
 refine codeAny_forLoop_any (λn s'=>∃i Y' H',Inv X pins Y' H' s'/\tn i s'.heap/\(∀b∈fp,H' b=none)/\W i n Y' H') ?_ m0 ⟨0,Y,H2,I2,st2,λb hb=>(f2 b hb).1,w0⟩;rintro n s3 ⟨i,Y3,H3,I3,st3,fr3,w3⟩;rcases turn i n Y3 H3 w3 with⟨stop,qn⟩|⟨go,N,hN,step⟩
 .refine wbP hp (thn (T.done X rfl rfl rfl hc i pins s3 Y3 H3 X.xe I3 (stat fr3) st3 stop) λr s4 ⟨hr,I4⟩ =>?_);subst hr;exact wch ⟨Y3,H3,I4,qn⟩
 .refine wbP hp (thn (T.item X rfl rfl rfl hc i pins s3 Y3 H3 X.xe I3 (stat fr3) st3 go) λr s4 ⟨u,hr,h4⟩ =>?_);subst hr;refine wbP hp (thn h4 λ_ s5 ⟨x,H5,I5,r5,y5,st5,fr5⟩ =>?_);have I5':=I5.pinned (stat fr5) (T.obj _ _ st5)
  refine wbP hp (thn (hg _ s5 Y3 H5 x u _ I5' r5 (step x H5 y5)) λ_ s6 ⟨Y6,H6,I6,q6⟩ =>?_);refine wbP hp (thn (hb _ s6 Y6 H6 _ I6 q6) λf s7 q7=>?_);have again:∀{Y7:St}{H7:Hp},Inv X (pins++zeK fp s5.heap) Y7 H7 s7->N Y7 H7->∃m,m<n/\∃i Y' H',Inv X pins Y' H' s7/\tn i s7.heap/\(∀b∈fp,H' b=none)/\W i m Y' H':=λ{Y7 H7} I7 n7=>by
   obtain⟨m',hm,w7⟩:=hN Y7 H7 n7;refine⟨m',hm,i+1,Y7,H7,I7.unpinned,T.keep _ _ _ st5 λb hb o e=>(I7.pin (b,o) (wan _ (wan _ (zbA hb e)))).1,λb hb=>?_,w7⟩;obtain⟨o,e,d⟩:=T.obj _ _ st5 b hb;exact(I7.pin (b,o) (wan _ (wan _ (zbA hb e)))).2.1
  cases f with
 |next=>obtain⟨Y7,H7,I7,n7⟩:=q7;exact again I7 n7
 |cont=>obtain⟨Y7,H7,I7,n7⟩:=q7;exact again I7 n7
 |brk=>obtain⟨Y7,H7,I7,q7⟩:=q7;exact⟨Y7,H7,I7.unpinned,q7⟩
 |ret v=>obtain⟨x7,Y7,H7,I7,r7,q7⟩:=q7;exact⟨x7,Y7,H7,I7.unpinned,r7,q7⟩
end
abbrev R2:=V->V->Hp->VK->Prop
def OpR (X:Cx)(f:Value->Value->Sem Value)(r:R2):Prop:=
 ∀(pins:List (Addr×Obj)) (s:Shared) (Y:St) (H:Hp) (x y:V) (v u:Value) (Q:VK),Inv X pins Y H s->RelV x v->RelV y u->r x y H Q->
  wpAny (model X.prog X.w) X.A (f v u) (EP X pins Y Q) X.xe s
def UnR (X:Cx)(f:Value->Sem Value)(r:V->Hp->VK->Prop):Prop:=
 ∀(pins:List (Addr×Obj)) (s:Shared) (Y:St) (H:Hp) (x:V) (v:Value) (Q:VK),Inv X pins Y H s->RelV x v->r x H Q->
  wpAny (model X.prog X.w) X.A (f v) (EP X pins Y Q) X.xe s
def zcL (X:Cx)(f:Value)(r:List V->Hp->VK->Prop):Prop:=
 ∀(pins:List (Addr×Obj)) (s:Shared) (Y:St) (H:Hp) (xs:List V) (us:List Value) (Q:VK),Inv X pins Y H s->Vals xs us->r xs H Q->
  wpAny (model X.prog X.w) X.A (call f us) (EP X pins Y Q) X.xe s
def TruR (X:Cx)(r:V->Hp->(Bool->Hp->Prop)->Prop):Prop:=
 ∀(pins:List (Addr×Obj)) (s:Shared) (Y:St) (H:Hp) (x:V) (v:Value) (Q:Bool->Hp->Prop),Inv X pins Y H s->RelV x v->r x H Q->
  wpAny (model X.prog X.w) X.A (truthy v) (TP X pins Y Q) X.xe s
def tOp (r:R2)(ta tb:TE):TE:=λY H Q=>ta Y H λx H1=>tb Y H1 λy H2=>r x y H2 Q
def tUn (r:V->Hp->VK->Prop)(ta:TE):TE:=λY H Q=>ta Y H λx H1=>r x H1 Q
def rI (C:Int->Int->Prop)(g:Int->Int->V):R2:=λx y H Q=>∃i j,x=.int i/\y=.int j/\C i j/\Q (g i j) H
def rI0 (g:Int->Int->V):R2:=λx y H Q=>∃i j,x=.int i/\y=.int j/\Q (g i j) H
def rU (g:Int->V):V->Hp->VK->Prop:=λx H Q=>∃i,x=.int i/\Q (g i) H
section
variable {X:Cx}{a b c:Expr}{ta tb tc:TE}{pos:Pos}
def binT (ha:PE X a ta)(hb:PE X b tb){pins:List (Addr×Obj)}{s:Shared}{Y:St}{H:Hp}{R:V->V->Hp->Prop}(I:Inv X pins Y H s)
 (h:ta Y H λx H1=>tb Y H1 λy H2=>R x y H2) {Q:Value->Shared->Prop}{f:Value->Value->Sem Value}
 (hf:∀v u s2 x y H2,Inv X pins Y H2 s2->RelV x v->RelV y u->R x y H2->wpAny (model X.prog X.w) X.A (f v u) Q X.xe s2) :
 wpAny (model X.prog X.w) X.A (eval a X.env) (λv s₁=>wpAny (model X.prog X.w) X.A (eval b X.env) (λu s₂=>wpAny (model X.prog X.w) X.A (f v u) Q X.xe s₂) X.xe s₁) X.xe s:=by
 refine thn (ha pins s Y H _ I h) λv s1 ⟨x,H1,I1,r1,q1⟩ =>?_
 refine thn (hb pins s1 Y H1 _ I1 q1) λu s2 ⟨y,H2,I2,r2,q2⟩ =>?_
 exact hf v u s2 x y H2 I2 r1 r2 q2
def zmj {op:Operator}{r:R2}(ho:OpR X (binaryOp op) r)(ha:PE X a ta)(hb:PE X b tb):PE X (.BinOp a op b pos) (tOp r ta tb):=by
 intro pins s Y H Q I h;exact wpAny_BinOp (binT ha hb I h λv u s2 x y H2 I2 rx ry q=>ho pins s2 Y H2 x y v u Q I2 rx ry q)
def zn3 {op:UnaryOp}{r:V->Hp->VK->Prop}(ho:UnR X (unaryOp op) r)(ha:PE X a ta):PE X (.UnaryOp op a pos) (tUn r ta):=by
 intro pins s Y H Q I h;exact UnaryOp_ (thn (ha pins s Y H _ I h) λv s1 ⟨x,H1,I1,r1,q1⟩ =>ho pins s1 Y H1 x v Q I1 r1 q1)
def opI {f:Value->Value->Sem Value}{C:Int->Int->Prop}{g:Int->Int->Int}
 (rule:∀(i j:Int) (t u:Tok) (s:Shared) (Q:Value->Shared->Prop) (E:Value->Shared->Prop),C i j->Q (.int (g i j) s.toks) {s with toks:=s.toks+1}->wpAny (model X.prog X.w) X.A (f (.int i t) (.int j u)) Q E s) :
 OpR X f (rI C λi j=>.int (g i j)):=by
 intro pins s Y H x y v u Q I rx ry h;obtain⟨i,j,rfl,rfl,hc,q⟩:=h;obtain⟨t,rfl⟩:=rx;obtain⟨t',rfl⟩:=ry;exact rule i j t t' s _ _ hc ⟨.int (g i j),H,I.tok _,⟨_,rfl⟩,q⟩
def opI0 {f:Value->Value->Sem Value}{g:Int->Int->Int}
 (rule:∀(i j:Int) (t u:Tok) (s:Shared) (Q:Value->Shared->Prop) (E:Value->Shared->Prop),Q (.int (g i j) s.toks) {s with toks:=s.toks+1}->wpAny (model X.prog X.w) X.A (f (.int i t) (.int j u)) Q E s) :
 OpR X f (rI0 λi j=>.int (g i j)):=by
 intro pins s Y H x y v u Q I rx ry h;obtain⟨i,j,rfl,rfl,q⟩:=h;obtain⟨t,rfl⟩:=rx;obtain⟨t',rfl⟩:=ry;exact rule i j t t' s _ _ ⟨.int (g i j),H,I.tok _,⟨_,rfl⟩,q⟩
def opB0 {f:Value->Value->Sem Value}{g:Int->Int->Bool}
 (rule:∀(i j:Int) (t u:Tok) (s:Shared) (Q:Value->Shared->Prop) (E:Value->Shared->Prop),Q (.bool (g i j)) s->wpAny (model X.prog X.w) X.A (f (.int i t) (.int j u)) Q E s) :
 OpR X f (rI0 λi j=>.bl (g i j)):=by
 intro pins s Y H x y v u Q I rx ry h;obtain⟨i,j,rfl,rfl,q⟩:=h;obtain⟨t,rfl⟩:=rx;obtain⟨t',rfl⟩:=ry;exact rule i j t t' s _ _ ⟨.bl (g i j),H,I,rfl,q⟩
def CDiv (i j:Int):Prop:=0<j/\j<1073741824
def CPow (i j:Int):Prop:=0<=j/\j<=1000000/\i.natAbs<2 ^ 64
def CMul (i j:Int):Prop:=(-(2 ^ 64)<i/\i<2 ^ 64)\/(-(2 ^ 64)<j/\j<2 ^ 64)
def CMul.ok {i j:Int}(h:CMul i j):IntMulOk i j:=by
 rcases h with⟨h1,h2⟩|⟨h1,h2⟩
 .exact .of_left (intBits_le_64 h1 h2)
 .exact .of_right (intBits_le_64 h1 h2)
def op_add:OpR X (binaryOp .Add) (rI0 λi j=>.int (i+j)):=opI0 λ_ _ _ _ _ _ _ q=>add_int q
def zd6:OpR X (binaryOp .Sub) (rI0 λi j=>.int (i - j)):=opI0 λ_ _ _ _ _ _ _ q=>sub_int q
def op_mul:OpR X (binaryOp .Mult) (rI CMul λi j=>.int (i*j)):=opI λ_ _ _ _ _ _ _ hc q=>mul_int q hc.ok
def zba:OpR X (binaryOp .Mod) (rI (λ_ j=>0<j) λi j=>.int (i % j)):=opI λi j _ _ _ _ _ hc q=>by
 have h1:(0:Int)<j:=hc
 exact mod_int' (by omega) (by rw[Int.fmod_eq_emod_of_nonneg i (by omega)];exact q)
def zgb:OpR X (binaryOp .Pow) (rI CPow λi j=>.int (i ^ j.toNat)):=opI λ_ _ _ _ _ _ _ hc q=>pow_int_small hc.1 hc.2.1 hc.2.2 q
def unI {f:Value->Sem Value}{g:Int->Int}
 (rule:∀(i:Int) (t:Tok) (s:Shared) (Q:Value->Shared->Prop) (E:Value->Shared->Prop),Q (.int (g i) s.toks) {s with toks:=s.toks+1}->wpAny (model X.prog X.w) X.A (f (.int i t)) Q E s) :
 UnR X f (rU λi=>.int (g i)):=by
 intro pins s Y H x v Q I rx h;obtain⟨i,rfl,q⟩:=h;obtain⟨t,rfl⟩:=rx;exact rule i t s _ _ ⟨.int (g i),H,I.tok _,⟨_,rfl⟩,q⟩
def zmk:UnR X (unaryOp .USub) (rU λi=>.int (-i)):=unI λ_ _ _ _ _ q=>neg_int q
end
def zek {i j:Int}:decide (V.int i=V.int j)=(i == j):=by
 rw[wbm];simp
def zgc {i j:Bool}:decide (V.bl i=V.bl j)=(i == j):=by
 rw[wbm];simp
def zel {i j:Str}:decide (V.str i=V.str j)=(i == j):=by
 rw[wbm];simp
section
variable {X:Cx}{a b c:Expr}{ta tb tc:TE}{pos:Pos}
def zml {pins:List (Addr×Obj)}{Y:St}{H:Hp}{s:Shared}{Q:VK}{k k':Bool}(I:Inv X pins Y H s)(q:Q (.bl k) H)(e:k=k'):EP X pins Y Q (.bool k') s:=by
 subst e;exact⟨.bl k,H,I,rfl,q⟩
def zn4:OpR X (compareOp .Lt) (rI0 λi j=>.bl (decide (i<j))):=opB0 λ_ _ _ _ _ _ _ q=>lt_int q
def zgK:OpR X (compareOp .LtE) (rI0 λi j=>.bl (decide (i<=j))):=opB0 λ_ _ _ _ _ _ _ q=>le_int q
def zhC:OpR X (compareOp .Gt) (rI0 λi j=>.bl (decide (j<i))):=opB0 λ_ _ _ _ _ _ _ q=>gt_int q
def zkN:OpR X (compareOp .GtE) (rI0 λi j=>.bl (decide (j<=i))):=opB0 λ_ _ _ _ _ _ _ q=>ge_int q
def zd7:OpR X (compareOp .Is) (λx y H Q=>y=.non/\Q (.bl (decide (x=.non))) H):=by
 intro pins s Y H x y v u Q I rx ry h;obtain⟨rfl,q⟩:=h;cases ry;refine is_none_gen (zml I q ?_);cases x <;> first
 |(cases rx;rfl)
 |(obtain⟨t,rfl⟩:=rx;rfl)
def OpR.or {f:Value->Value->Sem Value}{r r':R2}(h:OpR X f r)(h':OpR X f r'):OpR X f (λx y H Q=>r x y H Q\/r' x y H Q):=by
 intro pins s Y H x y v u Q I rx ry q;rcases q with q|q
 .exact h pins s Y H x y v u Q I rx ry q
 .exact h' pins s Y H x y v u Q I rx ry q
def zat (b:Expr){op:CmpOp}(h:op≠.In:=by decide)(h2:op≠.NotIn:=by decide):behindInMarks op b=false:=by
 have e1:(op == CmpOp.In)=false:=by cases op <;> first|rfl|exact absurd rfl h
 have e2:(op == CmpOp.NotIn)=false:=by cases op <;> first|rfl|exact absurd rfl h2
 cases b <;> simp[behindInMarks,e1,e2]
def zkO {op:CmpOp}{r:R2}(ho:OpR X (compareOp op) r)(ha:PE X a ta)(hb:PE X b tb)(hm:behindInMarks op b=false):PE X (.Compare a [op] [b] pos) (tOp r ta tb):=by
 intro pins s Y H Q I h;exact wpAny_Compare1 (binT ha hb I h λv u s2 x y H2 I2 rx ry q=>ho pins s2 Y H2 x y v u Q I2 rx ry q) hm
def zkP (t:TE):TT:=λY H Q=>t Y H λx H'=>∃k,x=.bl k/\Q k H'
def zkQ {op:CmpOp}{r:R2}(ho:OpR X (compareOp op) r)(ha:PE X a ta)(hb:PE X b tb)(hm:behindInMarks op b=false):PT X (.Compare a [op] [b] pos) (zkP (tOp r ta tb)):=by
 intro pins s Y H Q I h;refine wpAny_isTrue_Compare1 (thn (ha pins s Y H _ I h) λv s1 ⟨x,H1,I1,r1,q1⟩ =>thn (hb pins s1 Y H1 _ I1 q1) λu s2 ⟨y,H2,I2,r2,q2⟩ =>
  thn (ho pins s2 Y H2 x y v u _ I2 r1 r2 q2) λc s3 ⟨z,H3,I3,r3,k,e,q3⟩ =>?_) hm
 subst e;cases r3;exact wbd ⟨H3,I3,q3⟩
def zkj (r r':R2)(ta tb tc:TE):TE:=λY H Q=>ta Y H λx H1=>tb Y H1 λy H2=>r x y H2 λz H3=>∃k,z=.bl k/\
 (if k=true then tc Y H3 λw' H4=>r' y w' H4 Q else Q (.bl false) H3)
def zjc {op op':CmpOp}{r r':R2}(ho:OpR X (compareOp op) r)(ho':OpR X (compareOp op') r')(ha:PE X a ta)(hb:PE X b tb)(hc:PE X c tc)
 (hm:lastMarks [op,op'] [b,c]=false:=by with_unfolding_all rfl):PT X (.Compare a [op,op'] [b,c] pos) (zkP (zkj r r' ta tb tc)):=by
 intro pins s Y H Q I h;refine isTrue_chain (thn (ha pins s Y H _ I h) λv s1 ⟨x,H1,I1,r1,q1⟩ =>test_link (thn (hb pins s1 Y H1 _ I1 q1) λu s2 ⟨y,H2,I2,r2,q2⟩ =>
  thn (ho pins s2 Y H2 x y v u _ I2 r1 r2 q2) λd s3 ⟨z,H3,I3,r3,k,e,q3⟩ =>?_)) hm
 subst e;cases r3;refine wbd ?_;cases k with
|false=>
   obtain⟨k',e',q'⟩:=q3;cases e';exact ite_ff ⟨H3,I3,q'⟩
|true=>
   refine ite_tt (test_last (thn (hc pins s3 Y H3 _ I3 q3) λw' s4 ⟨z',H4,I4,r4,q4⟩ =>thn (ho' pins s4 Y H4 y z' u w' _ I4 r2 r4 q4) λd' s5 ⟨z2,H5,I5,r5,k2,e2,q5⟩ =>?_));subst e2;cases r5;exact wbd ⟨H5,I5,q5⟩
def TruV (K:W.Frag)(x:V)(H:Hp)(k:Bool):Prop:=
 match x with
|.non=>k=false
|.bl b=>k=b
|.int i=>k=(i != 0)
|.str y=>y.length<=sizeLine/\k=((y.length:Int) != 0)
|.byt y=>y.size<=sizeLine/\k=((y.size:Int) != 0)
|.ref p=>(∃xs,SqL K H p xs/\k = !xs.isEmpty)\/(∃xs,SqT K H p xs/\k = !xs.isEmpty)\/∃kvs,H p=some (.dK kvs)/\k = !kvs.isEmpty
|_=>False
def zgL {κ:Type}{kvs:List (κ×V)}{vs:List (κ×Value)}(r:KV kvs vs):(!vs.isEmpty) = !kvs.isEmpty:=by
 cases r <;> rfl
def zd8 {xs:List V}{its:List Value}(r:Vals xs its):(!its.toArray.isEmpty) = !xs.isEmpty:=by
 cases r <;> simp
def zd9:(sizeLine:Nat)<2 ^ 63:=by rw[sizeLine_eq];decide
def zmm:TruR X (λx H Q=>∃k,TruV X.K x H k/\Q k H):=by
 intro pins s Y H x v Q I rx h;obtain⟨k,e,q⟩:=h;have hl:=zd9
 have hs:sizeLine=16777216:=sizeLine_eq
 cases x with
|non=>
   cases rx;have e':k=false:=e
   subst e';exact truthy_none ⟨H,I,q⟩
|bl b=>
   cases rx;have e':k=b:=e
   subst e';exact wbd ⟨H,I,q⟩
|int i=>
   obtain⟨t,rfl⟩:=rx;have e':k=(i != 0):=e
   subst e';exact PySem.P.truthy_int ⟨H,I,q⟩
|str y=>
   obtain⟨t,rfl⟩:=rx;obtain⟨hy,e'⟩:y.length<=sizeLine/\k=((y.length:Int) != 0):=e;subst e';exact PySem.P.truthy_str (by omega) ⟨H,I.tok _,q⟩
|byt y=>
   obtain⟨t,rfl⟩:=rx;obtain⟨hy,e'⟩:y.size<=sizeLine/\k=((y.size:Int) != 0):=e;subst e';exact PySem.W.truthy_bytes (by omega) ⟨H,I.tok _,q⟩
|ref p=>
   cases rx;have e':(∃xs,SqL X.K H p xs/\k = !xs.isEmpty)\/(∃xs,SqT X.K H p xs/\k = !xs.isEmpty)\/∃kvs,H p=some (.dK kvs)/\k = !kvs.isEmpty:=e
   rcases e' with⟨xs,hx,e'⟩|⟨xs,hx,e'⟩|⟨kvs,hx,e'⟩
   .subst e';obtain⟨its,r,pl,hz⟩:=I.list hx;have hlen:=r.length
    exact wpAny_truthy_list pl.isList (by simp only[wac];omega) ⟨H,I.tok _,by rw[zd8 r];exact q⟩
   .subst e';obtain⟨its,r,pl,hz⟩:=I.tuple hx;have hlen:=r.length
    exact truthy_tuple pl (by simp only[wac];omega) ⟨H,I.tok _,by rw[zd8 r];exact q⟩
   .subst e';obtain⟨hz,hS,vs,r,m⟩:kvs.length<=sizeLine/\(p == sysModules)=false/\∃vs,KV kvs vs/\s.heap.DictOf (zbD X.prog X.w) p vs:=I.hok p _ hx;have hlen:kvs.length=vs.length:=Paired.length r
    exact wpAny_truthy_dict hS m (by omega) ⟨H,I.tok _,by rw[zgL r];exact q⟩
|_=>exact(show False from e).elim
def zjd (ha:PE X a ta)(he:∀whole,isTrue a X.env whole=(do let v <-whole;standAt a.pos;holding [v] (truthy v))) :
 PT X a (λY H Q=>ta Y H λx H'=>∃k,TruV X.K x H' k/\Q k H'):=by
 intro pins s Y H Q I h;exact isTrue_plain (thn (ha pins s Y H _ I h) λv s1 ⟨x,H1,I1,r1,q1⟩ =>zmm pins s1 Y H1 x v Q I1 r1 q1) (he _)
def op_add_str:OpR X (binaryOp .Add) (λx y H Q=>∃i j,x=.str i/\y=.str j/\i.length+j.length<=sizeLine/\Q (.str (i++j)) H):=by
 intro pins s Y H x y v u Q I rx ry h;obtain⟨i,j,rfl,rfl,hz,q⟩:=h;obtain⟨t,rfl⟩:=rx;obtain⟨t',rfl⟩:=ry;exact add_str (λt' tk=>⟨.str (i++j),H,I.tok _,⟨_,rfl⟩,q⟩) hz
def zje {x:V}{us:List Value}(r:Vals [x] us):∃u,us = [u]/\RelV x u:=by
 cases r with
|cons r1 r2=>cases r2;exact⟨_,rfl,r1⟩
def zjf {x y:V}{us:List Value}(r:Vals [x,y] us):∃u w',us = [u,w']/\RelV x u/\RelV y w':=by
 cases r with
|cons r1 r2=>
   cases r2 with
  |cons r3 r4=>cases r4;exact⟨_,_,rfl,r1,r3⟩
def LenV (K:W.Frag)(x:V)(H:Hp)(n:Nat):Prop:=
 match x with
|.str y=>y.length<=sizeLine/\n=y.length
|.byt y=>y.size<=sizeLine/\n=y.size
|.ref p=>(∃xs,SqL K H p xs/\n=xs.length)\/∃xs,SqT K H p xs/\n=xs.length
|_=>False
def zaS:zcL X (.builtin "len") (λxs H Q=>∃x n,xs = [x]/\LenV X.K x H n/\Q (.int n) H):=by
 intro pins s Y H xs us Q I r h;obtain⟨x,n,rfl,e,q⟩:=h;obtain⟨u,rfl,rx⟩:=zje r;have hl:=zd9
 have hs:sizeLine=16777216:=sizeLine_eq
 cases x with
|str y=>
   obtain⟨t,rfl⟩:=rx;obtain⟨hy,e'⟩:y.length<=sizeLine/\n=y.length:=e;subst e';exact len_str (by omega) ⟨.int _,H,I.tok _,⟨_,rfl⟩,q⟩
|byt y=>
   obtain⟨t,rfl⟩:=rx;obtain⟨hy,e'⟩:y.size<=sizeLine/\n=y.size:=e;subst e';exact PySem.W.len_bytes (by omega) ⟨.int _,H,I.tok _,⟨_,rfl⟩,q⟩
|ref p=>
   cases rx;have e':(∃xs,SqL X.K H p xs/\n=xs.length)\/∃xs,SqT X.K H p xs/\n=xs.length:=e
   rcases e' with⟨xs,hx,e'⟩|⟨xs,hx,e'⟩
   .subst e';obtain⟨its,r',pl,hz⟩:=I.list hx;have hlen:=r'.length
    exact Calls.call_len_list pl.isList (by simp only[wac];omega) ⟨.int xs.length,H,I.tok _,⟨_,by simp only[wac];rw[hlen]⟩,q⟩
   .subst e';obtain⟨its,r',pl,hz⟩:=I.tuple hx;have hlen:=r'.length
    exact len_tuple pl (by simp only[wac];omega) ⟨.int xs.length,H,I.tok _,⟨_,by simp only[wac];rw[hlen]⟩,q⟩
|_=>exact(show False from e).elim
end
structure ObjM (h:Heap)(x dx C:Addr)(mA:Str->Option Value):Prop where
 obj:h.get? x=some (PySem.W.instObj C dx)
 ns:h.Ns1 dx mA
 ne:dx≠x
def zhD {h:Heap}{dx:Addr}{mA:Str->Option Value}(n:h.Ns1 dx mA):∃od,h.get? dx=some od/\∀name,PySem.W.lookIn name od=some (mA name):=by
 obtain⟨o,es,ep,ho,hd,hk,_,hm⟩:=n;refine⟨o,ho,λname=>?_⟩;have e:=hm name
 unfold nsFind findBy at e;rw[<-Array.find?_toList] at e;unfold PySem.W.lookIn;rw[hd];dsimp only;split
 .rename_i y q
  rw[q] at e;exact wbJ some e
 .rename_i q
  rw[q] at e;have a:es.toList.any (·.refKey)=false:=by
   rw[List.any_eq_false];intro y hy;obtain⟨z,t,hkey⟩:=hk y (Array.mem_toList_iff.mp hy);simp[DictEntry.refKey,hkey]
  have a':¬es.toList.any (·.refKey)=true:=by rw[a];exact wby
  rw[if_neg a'];exact wbJ some e
def ObjM.look {h:Heap}{x dx C:Addr}{mA:Str->Option Value}(I:ObjM h x dx C mA):∃od,PySem.W.InstAt h x (PySem.W.instObj C dx) C (some od)/\∀name,PySem.W.lookIn name od=some (mA name):=
 let ⟨od,ho,hl⟩:=zhD I.ns
 ⟨od,⟨I.obj,rfl,rfl,ho⟩,hl⟩
section
variable {prog:Program}{w:World}{A:Around}{E:Value->Shared->Prop}{s:Shared}{K:W.Frag}{x dx C f:Addr}{mA:Str->Option Value}{name:Str}{v:Value}
end
section
variable {P:Program}{w:World}{H H':Hp}{h h':Heap}{a C dx:Addr}{fs fs':List (Str×V)}
def zkR (hok:HOk P w H h)(e:H a=some (.ins C dx fs)):∃mA,ObjM h a dx C mA/\(∀f,RelO (fs.lookup f) (mA f))/\PySem.Within mA (fs.map (·.1))/\fs.length<=1000/\H dx=some (.own a):=by
 obtain⟨d,z,ne,ob,mA,n,r,q⟩:=(show ObjOk P w H h a (.ins C dx fs) from hok a _ e)
 exact⟨mA,⟨ob,n,ne⟩,r,q,z,d⟩
end
structure Cls (K:W.Frag)(C:Addr):Prop where
 pg:PySem.W.plainGet K C Str.empty=true
 hd:PySem.W.hasDictIn K C=true
 po:PySem.W.plainOver K C=true
 sa:PySem.W.findIn K (.ref C) "__setattr__"=some (some (.builtin "object.__setattr__"))
def Cls.get {K:W.Frag}{C:Addr}(c:Cls K C)(f:Str):PySem.W.plainGet K C f=true:=c.pg
section
variable {X:Cx}{pins:List (Addr×Obj)}{Y:St}{H:Hp}{s:Shared}{a C dx:Addr}{fs:List (Str×V)}{f:Str}{v:V}{A:Around}{E:Value->Shared->Prop}
def zkS {prog:Program}{w:World}{env:Env}{e:Expr}{f:Str}{pos:Pos}{s:Shared}{Q:Value->Shared->Prop}(hb:attributeBase e f env (eval e env)=eval e env)
 (h:wpAny (model prog w) A (eval e env) (λo s₁=>wpAny (model prog w) A (getAttr o f true) Q E s₁) E s):wpAny (model prog w) A (eval (.Attribute e f pos) env) Q E s:=
 Attribute_any_ h (by rw[arm_eval_Attribute,hb])
end
section
variable {X:Cx}{o e value:Expr}{f:Str}{pos pos' tpos:Pos}{ta tv:TE}
end
section
variable {X:Cx}{pins:List (Addr×Obj)}{Y:St}{H:Hp}{s:Shared}{A:Around}{E:Value->Shared->Prop}{Q:Value->Shared->Prop}{c:Value}{b:Bool}
inductive TyOf (K:W.Frag)(H:Hp):V->Value->Prop where
|non:TyOf K H .non (.type "NoneType")
|bl (x:Bool):TyOf K H (.bl x) (.type "bool")
|int (i:Int):TyOf K H (.int i) (.type "int")
|str (x:Str):TyOf K H (.str x) (.type "str")
|flt (x:UInt64):TyOf K H (.flt x) (.type "float")
|lst {a:Addr}{xs:List V}(e:H a=some (.lst xs)):TyOf K H (.ref a) (.type "list")
|frz {a:Addr}{o:Obj}{xs:List V}(e:H a=some (.frz o (.lst xs))):TyOf K H (.ref a) (.type "list")
|tup {a:Addr}{xs:List V}(e:H a=some (.tup xs)):TyOf K H (.ref a) (.type "tuple")
|dK {a:Addr}{kvs:List (Key×V)}(e:H a=some (.dK kvs)):TyOf K H (.ref a) (.type "dict")
|dT {a:Addr}{kvs:List (List Key×V)}(e:H a=some (.dT kvs)):TyOf K H (.ref a) (.type "dict")
|ins {a C dx:Addr}{fs:List (Str×V)}(e:H a=some (.ins C dx fs)) (cl:Cls K C) (ha:PySem.W.findIn K (.ref C) "__class__"=some (some (.builtin "object.__class__")))
  (hn:PySem.W.specialIn K (.builtin "object.__class__") "__get__"=some (some (.builtin "getset_descriptor.__get__"))) (htk:PySem.W.takesIn K (.builtin "object.__class__")=some true)
  (hm:PySem.W.mroIn K C (.type "object")=some true):TyOf K H (.ref a) (.ref C)
def zhE {x:V}{u t:Value}(I:Inv X pins Y H s)(rx:RelV x u)(ty:TyOf X.K H x t)(e:PySem.W.kitOne X.K t c=some b)(h:∀tk,Q (.bool b) {s with toks:=tk}) :
 wpAny (model X.prog X.w) A (call (.builtin "isinstance") [u,c]) Q E s:=by
 cases ty with
|non=>cases(show u=Value.none from rx);exact waF PySem.W.kitx_none I.kIn True.intro e (λz=>nomatch z) h
|bl y=>cases(show u=Value.bool y from rx);exact waF PySem.W.kitx_bool I.kIn True.intro e (λz=>nomatch z) h
|int i=>obtain⟨t,q⟩:=(show ∃t,u=Value.int i t from rx);cases q;exact waF PySem.W.kitx_int I.kIn True.intro e (λz=>nomatch z) h
|str y=>obtain⟨t,q⟩:=(show ∃t,u=Value.str y t from rx);cases q;exact waF PySem.W.kitx_str I.kIn True.intro e (λz=>nomatch z) h
|flt y=>obtain⟨t,q⟩:=(show ∃t,u=Value.float y t from rx);cases q;exact waF PySem.W.kitx_float I.kIn True.intro e (λz=>nomatch z) h
|@lst a xs ea=>
   cases(show u=Value.ref a from rx);obtain⟨_,_,n,_,h1⟩:=(show ObjOk X.prog X.w H s.heap a (.lst xs) from I.hok a _ ea)
   exact waF PySem.W.kitx_list I.kIn ⟨_,h1,rfl⟩ e (λz=>nomatch z) h
|@frz a ob xs ea=>
   cases(show u=Value.ref a from rx);obtain⟨_,_,_,n,_,h1⟩:=(show ObjOk X.prog X.w H s.heap a (.frz ob (.lst xs)) from I.hok a _ ea)
   exact waF PySem.W.kitx_list I.kIn ⟨_,h1,rfl⟩ e (λz=>nomatch z) h
|@tup a xs ea=>
   cases(show u=Value.ref a from rx);obtain⟨_,_,_,p⟩:=(show ObjOk X.prog X.w H s.heap a (.tup xs) from I.hok a _ ea)
   obtain⟨o,h1,h2,_⟩:=p;exact waF PySem.W.kitx_tuple I.kIn ⟨o,h1,h2⟩ e (λz=>nomatch z) h
|@dK a kvs ea=>
   cases(show u=Value.ref a from rx);obtain⟨_,_,vs,_,p⟩:=(show ObjOk X.prog X.w H s.heap a (.dK kvs) from I.hok a _ ea)
   obtain⟨o,es,ep,h1,h2,_⟩:=p;exact waF PySem.W.kitx_dict I.kIn ⟨o,h1,h2.1⟩ e (λz=>nomatch z) h
|@dT a kvs ea=>
   cases(show u=Value.ref a from rx);obtain⟨_,_,xs,_,o,es,ep,h1,h2,_⟩:=(show ObjOk X.prog X.w H s.heap a (.dT kvs) from I.hok a _ ea)
   exact waF PySem.W.kitx_dict I.kIn ⟨o,h1,h2.1⟩ e (λz=>nomatch z) h
|@ins a C dx fs ea cl ha hn htk hm=>
   cases(show u=Value.ref a from rx);obtain⟨mA,O,_⟩:=zkR I.hok ea;obtain⟨od,J,_⟩:=O.look;exact waF (PySem.W.kitx_own (cl.get _) cl.hd ha hn htk hm) I.kIn J e (λz=>nomatch z) h
end
structure Room (k:Nat)(A:Around):Prop where
 hd:A.handled=none
 dp:A.depth+3*k+5<recursionLimit
 un:A.units+16*k+200<cLine
 gd:A.guards=some []
def Room.mono {j k:Nat}{A:Around}(r:Room k A)(h:j<=k):Room j A:=⟨r.hd,by have:=r.dp;omega,by have:=r.un;omega,r.gd⟩
theorem Room.deeper {k:Nat}{A:Around}(r:Room (k+1) A)(env:Env):Room k (A.deeper env):=
 ⟨r.hd,by have:=r.dp;show A.depth+1+3*k+5<_;omega,by have:=r.un;show A.units+3+16*k+200<_;omega,r.gd⟩
def make_units {A:Around}{C:Addr}{us:List Value}{kw:List (Str×Value)}:(A.under (.builtin "type.__call__" ⟨.ref C::us,kw⟩)).units=A.units+1:=by
 first|rfl|simp[Around.under,Code.cUnits,Code.frames,Code.isFrame]
theorem Room.depth {k:Nat}{A:Around}(r:Room k A):A.depth<recursionLimit:=by have:=r.dp;omega
theorem Room.units {k:Nat}{A:Around}(r:Room k A):A.units+64<cLine:=by have:=r.un;omega
def tNil:TA:=λ_ H Q=>Q [] H
def zkT (ta:TE)(tr:TA):TA:=λY H Q=>ta Y H λx H1=>tr Y H1 λxs H2=>Q (x::xs) H2
section
variable {X:Cx}{e:Expr}{es:List Expr}{te:TE}{t:TA}{pos:Pos}
def zdg:PA X [] tNil:=λ_ _ _ _ H Q I h=>Calls.spliced_nil ⟨[],H,I,.nil,h⟩
def zbu (ha:PE X e te)(hr:PA X es t)(hs:starEach (e::es) X.env=(false,eval e X.env)::starEach es X.env:=by rfl):PA X (e::es) (zkT te t):=by
 intro pos pins s Y H Q I h;rw[hs];show wpAny _ _ (spliced ((false,eval e X.env)::backTo pos (starEach es X.env))) _ _ s
 refine wbQ (thn (ha pins s Y H _ I h) λu s1 ⟨x,H1,I1,r1,q1⟩ =>?_);exact thn (hr pos pins s1 Y H1 _ I1 q1) λus s2 ⟨xs,H2,I2,r2,q2⟩ =>⟨x::xs,H2,I2,.cons r1 r2,q2⟩
def tTup (t:TA):TE:=λY H Q=>t Y H λxs H1=>xs.length<=sizeLine/\∀p,H1 p=none->Q (.ref p) (upd H1 p (.tup xs))
def tLst (t:TA):TE:=λY H Q=>t Y H λxs H1=>xs.length<=sizeLine/\∀p,H1 p=none->Q (.ref p) (upd H1 p (.lst xs))
def zkk {x1}(h:PA X es t):PE X (.Tuple es x1 pos) (tTup t):=by
 intro pins s Y H Q I hq;refine wpAny_Tuple_spliced (thn (h pos pins s Y H _ I hq) λus s1 ⟨xs,H1,I1,r,z,q⟩ =>⟨by rw[<-r.length];exact z,?_⟩);have hf:H1 s1.heap.objs.size=none:=I1.hok.fresh (wai _)
 refine⟨.ref s1.heap.objs.size,upd H1 s1.heap.objs.size (.tup xs),I1.laid (t':=s1.toks) (λb u e=>wab _ e) (wai _) ?_,rfl,q _ hf⟩;exact⟨z,us,r,⟨_,wat _ rfl,rfl,_,rfl⟩⟩
def zmn (h:PA X es t):PE X (.List es pos) (tLst t):=by
 intro pins s Y H Q I hq;refine wpAny_List_spliced (thn (h pos pins s Y H _ I hq) λus s1 ⟨xs,H1,I1,r,z,q⟩ =>⟨by rw[<-r.length];exact z,?_⟩);have hf:H1 s1.heap.objs.size=none:=I1.hok.fresh (wai _)
 refine⟨.ref s1.heap.objs.size,upd H1 s1.heap.objs.size (.lst xs),I1.laid (t':=s1.toks) (λb u e=>wab _ e) (wai _) ?_,rfl,q _ hf⟩;exact⟨z,us,0,r,wat _ rfl⟩
end
abbrev Sp:=List V->Hp->VK->XK->Prop
abbrev CXT:=List Env->Hp->Shared->XK->Value->Shared->Prop
structure Env0 (P:Program)(w:World)(K:W.Frag)(mg:Str->Option Value)(base:Heap)(A:Around)(outer:List Env)(s:Shared)(H:Hp):Prop where
 frames:A.frames=some outer
 mod:Mod K mg base
 bs:∀b o,base.get? b=some o->s.heap.get? b=some o/\H b=none
 bsz:base.objs.size<=s.heap.objs.size
 funs:s.heap.FunFrames base outer
 frf:∀b∈frs outer,H b=none
 hok:HOk P w H s.heap
 bare:AllBare s.gens
def CE (outer:List Env)(P:Program)(w:World)(H:Hp)(s:Shared)(Q:VK)(u:Value)(s':Shared):Prop:=
 ∃v H',s'.os=s.os/\AllBare s'.gens/\Un (frs outer) [] H H' s.heap s'.heap/\HOk P w H' s'.heap/\RelV v u/\Q v H'
def CR (CX:CXT)(outer:List Env)(P:Program)(w:World)(H:Hp)(s:Shared)(Q:VK)(E:XK)(r:Result)(s':Shared):Prop:=
 match r with
|.ok (.ret u)=>CE outer P w H s Q u s'
|.ok _=>False
|.error e=>CX outer H s E e s'
structure FnOk (P:Program)(w:World)(K:W.Frag)(mg:Str->Option Value)(base:Heap)(CX:CXT)(k:Nat)(f:Addr)(fd:FuncData)(ps:List Str)(sp:Sp):Prop where
 len:∀vs H Q E,sp vs H Q E->vs.length=ps.length
 run:∀(A:Around) (outer:List Env) (s:Shared) (H:Hp) (args:Args) (us:List Value) (vs:List V) (Q:VK) (E:XK),Room k A->Env0 P w K mg base A outer s H->BindsTo s fd args (ps.zip us)->Vals vs us->sp vs H Q E->
  codeAny (model P w) A (.call (.ref f) args) (CR CX outer P w H s Q E) s
theorem FnOk.mono {P:Program}{w:World}{K:W.Frag}{mg:Str->Option Value}{base:Heap}{CX:CXT}{j k:Nat}{f:Addr}{fd:FuncData}{ps:List Str}{sp:Sp}(F:FnOk P w K mg base CX j f fd ps sp)(h:j<=k) :
 FnOk P w K mg base CX k f fd ps sp:=⟨F.len,λA outer s H args us vs Q E hr=>F.run A outer s H args us vs Q E (hr.mono h)⟩
section
variable {X:Cx}{pins:List (Addr×Obj)}{Y:St}{H:Hp}{s s':Shared}
def Inv.env0 (I:Inv X pins Y H s):Env0 X.prog X.w X.K X.mg X.base X.A X.stack s H:=
 ⟨I.ok.frames,I.ok.mod,I.bs,wam I.ok.bsz I.sz,I.stack,I.stkFree,I.hok,I.bare⟩
def Inv.after {Q:VK}{u:Value}(I:Inv X pins Y H s)(h:CE X.stack X.prog X.w H s Q u s'):EP X pins Y Q u s':=by
 obtain⟨v,H',os,bare,un,hok,r,q⟩:=h;obtain⟨hh,g,d,t,os'⟩:=s';obtain rfl:os'=s.os:=os;exact⟨v,H',I.call (h':=hh) (g':=g) (d':=d) (t':=t) (ch:=[]) un hok bare (λb z=>absurd z (by simp)),r,q⟩
end
def zjg (sp:Sp)(dvs:List V)(E:XK)(t:TA):TE:=λY H Q=>t Y H λvs H1=>sp (vs++dvs) H1 Q E
def Binds (K:W.Frag)(fd:FuncData)(ps:List Str)(ds:List Value):Prop:=
 ∀(s:Shared) (us:List Value),K.In s.heap->(us++ds).length=ps.length->BindsTo s fd ⟨us,[]⟩ (ps.zip (us++ds))
def Binds.all {K:W.Frag}{fd:FuncData}{ps:List Str}(h:∀us:List Value,us.length=ps.length->bindArgs fd ⟨us,[]⟩=pure (ps.zip us)):Binds K fd ps []:=λs us _ hl=>by
 rw[wbe] at hl⊢;exact .of_eq (h us hl)
def zgd (CX:CXT)(X:Cx)(E:XK):Prop:=∀(pins:List (Addr×Obj)) (Y:St) (H:Hp) (s:Shared) (e:Value) (s':Shared),Inv X pins Y H s->CX X.stack H s E e s'->X.xe e s'
section
variable {X:Cx}{CX:CXT}{k:Nat}{f C:Addr}{fd:FuncData}{ps:List Str}{sp:Sp}{dvs:List V}{ds:List Value}{E:XK}{x m:Str}{p pos apos:Pos}{e o:Expr}{es:List Expr}{ta:TE}{t:TA}
def zkl {pins:List (Addr×Obj)}{Y:St}{H:Hp}{s:Shared}{Q:VK}{us:List Value}{vs:List V}(F:FnOk X.prog X.w X.K X.mg X.base CX k f fd ps sp)(hr:Room k X.A)(hb:Binds X.K fd ps ds)(hd:Vals dvs ds)(hx:zgd CX X E)
 (I:Inv X pins Y H s) (r:Vals vs us) (h:sp (vs++dvs) H Q E):wpAny (model X.prog X.w) X.A (call (.ref f) us) (EP X pins Y Q) X.xe s:=by
 have r2:Vals (vs++dvs) (us++ds):=r.append hd
 have hl:(us++ds).length=ps.length:=by rw[<-r2.length];exact F.len _ _ _ _ h
 refine wbW (wcl (F.run X.A X.stack s H ⟨us,[]⟩ (us++ds) (vs++dvs) Q E hr I.env0 (hb s us I.kIn hl) r2 h) λr s' hq=>?_);cases r with
|error e=>exact hx pins Y H s e s' I hq
|ok fl=>
   cases fl with
  |ret u=>exact I.after hq
  |next=>exact False.elim hq
  |brk=>exact False.elim hq
  |cont=>exact False.elim hq
def zkU (F:FnOk X.prog X.w X.K X.mg X.base CX k f fd ps sp)(hr:Room k X.A)(hg:Gl X x)(hm:X.mg x=some (.ref f))(hk:W.keepIn X.K (.ref f)=true)(hb:Binds X.K fd ps ds)(hd:Vals dvs ds)(hx:zgd CX X E)
 (ha:PA X (e::es) t) (hdb:(x == ("__debug__" : Str))=false:=by decide) (he:starEach (e::es) X.env=(false,eval e X.env)::starEach es X.env:=by rfl) (hpl:(backTo pos (starEach es X.env)).any (·.1)=false:=by rfl) :
 PE X (.Call (.Name x p) (e::es) [] pos) (zjg sp dvs E t):=by
 intro pins s Y H Q I h;refine waE (zcb I hg hm ?_ hdb);refine wbz (h₀:=X.base) I.ok.mod.kin hk (thn (ha pos pins s Y H _ I h) λus s1 ⟨vs,H1,I1,r,q⟩ =>⟨I1.kIn,?_⟩) he hpl;exact zkl F hr hb hd hx I1 r q
end
section
variable {X:Cx}{CX:CXT}{k:Nat}{f C:Addr}{fd:FuncData}{ps ks:List Str}{sp:Sp}{E:XK}{x m:Str}{p pos apos kpos:Pos}{e o:Expr}{es:List Expr}{kws:List Keyword}{te ta:TE}{t tk:TA}{nm:Option Str}
variable {g:List Value->List Value->List Value}{gV:List V->List V->List V}
end
structure FnScope (N P:List Str)(sc:Scope):Prop where
 kind:sc.kind=.function
 co:sc.isCoroutine=false
 gen:sc.isGenerator=false
 nd:N.Nodup
 pre:N.take P.length=P
 par:∀x∈P,sc.names.lookup x=some .local\/sc.names.lookup x=some .cell
 nofree:∀y∈sc.names,y.2≠.free
theorem zeL {kindOf:Str->Option NameKind}{x:Str}:∀{binds:List (Str×Value)}{m:Str->Option Value},(∀v,(x,v)∉binds)->bindL kindOf binds m x=m x
|[],_,_=>rfl
|(n,v)::r,m,h=>by
   unfold bindL;rw[zeL λw hw=>h w (waf _ hw)];split
   .have:x≠n:=by rintro rfl;exact h v waj
    simp[this]
   .rfl
theorem zeM {kindOf:Str->Option NameKind}{x:Str}:∀{binds:List (Str×Value)}{m:Str->Option Value},(∀v,(x,v)∉binds)->bindC kindOf binds m x=m x
|[],_,_=>rfl
|(n,v)::r,m,h=>by
   unfold bindC;rw[zeM λw hw=>h w (waf _ hw)];split
   .rfl
   .have:x≠n:=by rintro rfl;exact h v waj
    simp[this]
theorem zeN {kindOf:Str->Option NameKind}{x:Str}{v:Value}:∀{P:List Str}{vs:List Value}{i:Nat}{m:Str->Option Value},P.Nodup->P[i]?=some x->vs[i]?=some v->kindOf x=some .local->
 bindL kindOf (P.zip vs) m x=some v
|[],_,_,_,_,h,_,_=>by simp at h
|_::_,[],_,_,_,_,h,_=>by simp at h
|p::P,w::vs,0,m,nd,h1,h2,hk=>by
   simp at h1 h2;subst h1;subst h2;show bindL kindOf ((p,w)::P.zip vs) m p=_
   unfold bindL;rw[zeL λv hv=>(wbR.mp nd).1 (wci hv).1,if_pos hk];simp
|p::P,w::vs,i+1,m,nd,h1,h2,hk=>by
   show bindL kindOf ((p,w)::P.zip vs) m x=_
   unfold bindL;exact zeN (i:=i) (wbR.mp nd).2 (by simpa using h1) (by simpa using h2) hk
theorem zeO {kindOf:Str->Option NameKind}{x:Str}{v:Value}:∀{P:List Str}{vs:List Value}{i:Nat}{m:Str->Option Value},P.Nodup->P[i]?=some x->vs[i]?=some v->kindOf x≠some .local->
 bindC kindOf (P.zip vs) m x=some v
|[],_,_,_,_,h,_,_=>by simp at h
|_::_,[],_,_,_,_,h,_=>by simp at h
|p::P,w::vs,0,m,nd,h1,h2,hk=>by
   simp at h1 h2;subst h1;subst h2;show bindC kindOf ((p,w)::P.zip vs) m p=_
   unfold bindC;rw[zeM λv hv=>(wbR.mp nd).1 (wci hv).1,if_neg hk];simp
|p::P,w::vs,i+1,m,nd,h1,h2,hk=>by
   show bindC kindOf ((p,w)::P.zip vs) m x=_
   unfold bindC;exact zeO (i:=i) (wbR.mp nd).2 (by simpa using h1) (by simpa using h2) hk
def start (N:List Str)(vs:List V):St:=vs.map some++List.replicate (N.length - vs.length) none
def cxOf (CX:CXT)(P:Program)(w:World)(K:W.Frag)(mg:Str->Option Value)(base:Heap)(N:List Str)(qual:Str)(scope:Scope)(f:Addr)(cd:Value)(A:Around)(outer:List Env)(s:Shared)(H:Hp)(E:XK):Cx where
 prog:=P
 w:=w
 K:=K
 mg:=mg
 base:=base
 A:=A.deeper (envOfC qual scope s.heap.objs.size f cd)
 N:=N
 s₀:=s
 Hz:=H
 env:=envOfC qual scope s.heap.objs.size f cd
 outer:=outer
 stack:=envOfC qual scope s.heap.objs.size f cd::outer
 ex:=[]
 calm:=true
 fn:=λ_=>true
 pn:=[]
 xe:=λe s'=>wpAny (model P w) (A.deeper (envOfC qual scope s.heap.objs.size f cd)) (leaving (envOfC qual scope s.heap.objs.size f cd) e) (λ_ s''=>CX outer H s E e s'') (λe' s''=>CX outer H s E e' s'') s'
def zcM {sc:Scope}{n:Nat}{x:Str}(h:sc.names.lookup x=some .cell):∃c,(cellsFrom n sc.names []).lookup x=some c:=by
 have q:=PySem.W.cellsFrom_some sc.names n [] (.inl h)
 exact Option.isSome_iff_exists.mp q
def zhF {CX:CXT}{P:Program}{w:World}{K:W.Frag}{mg:Str->Option Value}{base:Heap}{N ps:List Str}{qual:Str}{scope:Scope}{f:Addr}{cd:Value}{A:Around}{outer:List Env}{s s1:Shared}{H:Hp}{E:XK}{us:List Value}{vs:List V}
 (S:FnScope N ps scope) (hd:A.handled=none) (e0:Env0 P w K mg base A outer s H) (hl:vs.length=ps.length) (r:Vals vs us)
 (x:InCallC s s.heap.objs.size (bindL (envOfC qual scope s.heap.objs.size f cd).kindOf (ps.zip us) λ_=>none) (cellsFrom (s.heap.objs.size+1) scope.names []) (bindC (envOfC qual scope s.heap.objs.size f cd).kindOf (ps.zip us) λ_=>none) s1) :
 Inv (cxOf CX P w K mg base N qual scope f cd A outer s H E) [] (start N vs) H s1:=by
 have hpl:ps.length<=N.length:=by have:=wbJ List.length S.pre;rw[wbv] at this;omega
 obtain⟨h1,tk,rfl,hk⟩:=x.done;have noA:∀b:Addr,b∉(cxOf CX P w K mg base N qual scope f cd A outer s H E).ex:=λb z=>absurd (show b∈([]:List Addr) from z) (by simp)
 refine⟨⟨e0.mod,S.kind,rfl,rfl,wai _,λy z c h1 h2=>?_,λy hy=>?_,λy c _ h=>?_,λ_=>hd,Around.frames_deeper e0.frames,.inr ⟨rfl,rfl⟩,λb z=>absurd z (noA b),e0.bs,e0.bsz,λb _ _=>noA b,λb z=>absurd z (noA b),e0.funs,e0.frf⟩,
  rfl,e0.bare,Un.kept hk,⟨_,x.toInCall.ns,λi y v h1 h2 h3=>?_⟩,λy c h=>⟨_,x.cell y c h⟩,e0.hok.fresh (wai _),λy c h=>?_,λp hp=>absurd (show p∈([]:List (Addr×Obj)) from hp) (by simp),e0.hok.kept hk,?_⟩
 .exact name_of_addr x.apart (wbq h1) (wbq h2)
 .have hy:scope.names.lookup y=some .cell\/scope.names.lookup y=some .free:=hy
  rcases hy with hy|hy
  .exact zcM hy
  .exact absurd rfl (S.nofree _ (wbq hy))
 .exact wbp (x.above y c (wbq h))
 .have hi:i<vs.length:=by
   unfold start at h2;by_cases hi:i<vs.length
   .exact hi
   .rw[List.getElem?_append_right (by simpa using hi)] at h2;rw[List.getElem?_replicate] at h2;split at h2 <;> cases h2
  have ha:vs[i]?=some v:=by
   unfold start at h2;rw[List.getElem?_append_left (by simpa using hi),waC] at h2;cases e:vs[i]? with
  |none=>rw[e] at h2;cases h2
  |some a=>rw[e] at h2;cases h2;rfl
  obtain⟨u,hu,rv⟩:=r.get ha;have hp:ps[i]?=some y:=by
   rw[<-S.pre,List.getElem?_take_of_lt (by omega)];exact h1
  have ndP:ps.Nodup:=by rw[<-S.pre];exact S.nd.sublist (List.take_sublist _ _)
  refine⟨u,rv,?_⟩;rcases S.par y (waW hp) with k|k
  .exact .inl ⟨k,zeN ndP hp hu k⟩
  .obtain⟨c,e⟩:=zcM (n:=s.heap.objs.size+1) k;refine .inr ⟨.inl k,c,e,?_⟩;have q:=x.cell y c e
   rw[zeO ndP hp hu (by show scope.names.lookup y≠_;rw[k];decide)] at q;exact q
 .exact e0.hok.fresh (wbp (x.above y c (wbq h)))
 .unfold start;show _=N.length
  rw[wal,waG,wbZ];omega
def zjh {CX:CXT}{P:Program}{w:World}{K:W.Frag}{mg:Str->Option Value}{base:Heap}{k:Nat}{f:Addr}{name qual:Str}{params:Arguments}{body:List Stmt}{scope:Scope}{dV kV doc pm cdv ct oc:Value}{an od:Option Addr}
 {osl:Array (Option Value)}{N ps:List Str}{sp:Sp}(lk:K.lookup f=some ⟨oc,od,.func (W.fnOf name qual params body scope dV kV doc pm an cdv ct),osl⟩) (hcd:W.codeIn K cdv qual=true) (S:FnScope N ps scope)
 (len:∀vs H Q E,sp vs H Q E->vs.length=ps.length)
 (hbody:∀(A:Around) (outer:List Env) (s:Shared) (H:Hp) (vs:List V) (Q:VK) (E:XK),Room k (A.deeper (envOfC qual scope s.heap.objs.size f cdv))->sp vs H Q E->
  ∃t,PSs (cxOf CX P w K mg base N qual scope f cdv A outer s H E) body t/\t {nx:=λ_ H'=>Q .non H',rt:=Q} (start N vs) H) :
 FnOk P w K mg base CX (k+1) f (W.fnOf name qual params body scope dV kV doc pm an cdv ct) ps sp:=by
 refine⟨len,λA outer s H args us vs Q E hr e0 hb r hsp=>?_⟩;have hl:=len _ _ _ _ hsp
 have KX:K.In s.heap:=e0.mod.kin.keeps λb o e=>(e0.bs b o e).1
 have lim:s.heap.NoLimit:=e0.mod.nolimit.keeps λb o e=>(e0.bs b o e).1
 have hkind:∀y∈ps.zip us,scope.names.lookup y.1=some .local\/(scope.names.lookup y.1=some .cell/\((cellsFrom (s.heap.objs.size+1) scope.names []).lookup y.1).isSome=true):=λ⟨n,v⟩ hy=>by
  rcases S.par n (wci hy).1 with q|q
  .exact .inl q
  .exact .inr ⟨q,PySem.W.cellsFrom_some _ _ _ (.inl q)⟩
 refine codeAny_call_function hr.depth (KX _ _ lk) rfl S.co S.gen rfl (PySem.W.codeRec_of KX hcd) (hb _ _ _ _ ?_);refine wpAny_newFunctionEnv_cells S.kind hkind λenv he s1 x=>?_
 subst he;refine⟨lim.keeps x.toInCall.keep,codeAny_func ?_⟩;obtain⟨t,ht,hq⟩:=hbody A outer s H vs Q E (hr.deeper _) hsp;have I:Inv (cxOf CX P w K mg base N qual scope f cdv A outer s H E) [] (start N vs) H s1:=zhF S hr.hd e0 hl r x
 refine war (ht [] s1 (start N vs) H _ I hq) (λfl s' hs=>?_) λe s' hs=>hs
 have fin:∀{Y':St}{H':Hp}{v:V}{u:Value},Inv (cxOf CX P w K mg base N qual scope f cdv A outer s H E) [] Y' H' s'->RelV v u->Q v H'->CE outer P w H s Q u s':=
  λ{Y' H' v u} J rv q=>⟨v,H',J.os,J.bare,J.base,J.hok,rv,q⟩
 cases fl with
|ret u=>
   obtain⟨v,Y',H',J,rv,q⟩:=hs;exact fin J rv q
|next=>
   obtain⟨Y',H',J,q⟩:=hs;exact fin (v:=V.non) (u:=Value.none) J rfl q
|brk=>
   obtain⟨_,_,_,q⟩:=hs;exact False.elim q
|cont=>
   obtain⟨_,_,_,q⟩:=hs;exact False.elim q
section
variable {X:Cx}{x:Str}{p pos:Pos}{e:Expr}{es:List Expr}{t:TA}{id T:String}{r:List V->Hp->VK->Prop}
def tCB (r:List V->Hp->VK->Prop)(t:TA):TE:=λY H Q=>t Y H λvs H1=>r vs H1 Q
def zji (hc:zcL X (.builtin id) r)(hg:Gl X x)(hm:X.mg x=none)(hv:bootBuiltins x=some (.builtin id))(ha:PA X (e::es) t)(hn:x≠"__name__":=by decide)(hdb:(x == ("__debug__" : Str))=false:=by decide)
 (he:starEach (e::es) X.env=(false,eval e X.env)::starEach es X.env:=by rfl) (hpl:(backTo pos (starEach es X.env)).any (·.1)=false:=by rfl):PE X (.Call (.Name x p) (e::es) [] pos) (tCB r t):=by
 intro pins s Y H Q I h;refine waE (zd5 I hg hm hv ?_ hn hdb);exact PyProof.Rows.callWith_builtin1 (thn (ha pos pins s Y H _ I h) λus s1 ⟨vs,H1,I1,r1,q1⟩ =>hc pins s1 Y H1 vs us Q I1 r1 q1) he hpl
def zhG (hc:zcL X (.type T) r)(hg:Gl X x)(hm:X.mg x=none)(hv:bootBuiltins x=some (.type T))(ha:PA X (e::es) t)(hn:x≠"__name__":=by decide)(hdb:(x == ("__debug__" : Str))=false:=by decide)
 (he:starEach (e::es) X.env=(false,eval e X.env)::starEach es X.env:=by rfl) (hpl:(backTo pos (starEach es X.env)).any (·.1)=false:=by rfl):PE X (.Call (.Name x p) (e::es) [] pos) (tCB r t):=by
 intro pins s Y H Q I h;refine waE (zd5 I hg hm hv ?_ hn hdb);exact wbC (thn (ha pos pins s Y H _ I h) λus s1 ⟨vs,H1,I1,r1,q1⟩ =>hc pins s1 Y H1 vs us Q I1 r1 q1) he hpl
end
end L2
namespace HT
open PySem PyProof.Rows
def zem (A:Around)(s:Shared)(a:Int)(t:Tok)(c:Int)(u:Tok):∃e,SeqAt.EqAt A s (.int a t) (.int c u) e/\(e=true↔a=c):=
 ⟨(a == c),SeqAt.EqAt.int_int a t c u,by simp⟩
section
open PySem.SeqAt
open PySem.AutoSeq1 (wpAny_loadPart')
open PySem.MeetsSeq PySem.MeetsSeq2 PySem.MeetsSeq3
end
section
variable {prog:Program}{w:World}{A:Around}{E:Value->Shared->Prop}{s:Shared}
def cat_tup {t b:Addr}{vs ws:List Value}{Q:Value->Shared->Prop}(ht:IsTup s.heap t vs.toArray)(hb:IsTup s.heap b ws.toArray)(hv:vs≠[])
 (h1:ws = []->Q (.ref t) s) (h2:ws≠[]->Q (.ref s.heap.objs.size) {s with heap:=s.heap.push {cls:=.type "tuple",data:=.seq (vs++ws).toArray}})
 (hsz:vs.length+ws.length<=sizeLine):wpAny (model prog w) A (binaryOp .Add (.ref t) (.ref b)) Q E s:=by
 obtain⟨⟨cls,dd,data,sl⟩,ho,hc,n,hd⟩:=id ht;obtain⟨⟨cls2,dd2,data2,sl2⟩,ho2,hc2,n2,hd2⟩:=id hb;simp only at hc hd hc2 hd2;subst hc hd hc2 hd2;have e:vs.toArray++ws.toArray=(vs++ws).toArray:=by simp
 by_cases hw:ws = []
 .exact concat_meets ⟨_,ho,rfl⟩ ⟨_,ho2,rfl⟩ noFill_tuple_add seq_tuple_add wbU wbS (wbM _ _)
   (tuple_addW1 t b vs.toArray ws.toArray n n2 dd dd2 sl sl2 (by simpa using hv) (by simp[hw])) ⟨ho,ho2,h1 hw⟩
 .refine concat_meets ⟨_,ho,rfl⟩ ⟨_,ho2,rfl⟩ noFill_tuple_add seq_tuple_add wbU wbS (wbM _ _)
   (tuple_addW2 t b vs.toArray ws.toArray n n2 dd dd2 sl sl2 (by simpa using hv) (by simpa using hw) (by rw[wac,wac];exact hsz)) ⟨ho,ho2,?_⟩
  rw[e];exact h2 hw
def sIx (n d:Nat):Option Int->Nat
|none=>d
|some v=>if v<0 then(v+(n:Int)).toNat else min v.toNat n
def zmo (n d:Nat)(hd:d<=n)(o:Option Int):sIx n d o<=n:=by
 cases o with
|none=>exact hd
|some v=>
   show(if v<0 then(v+(n:Int)).toNat else min v.toNat n)<=n
   by_cases hv:v<0
   .rw[if_pos hv];omega
   .rw[if_neg hv];exact Nat.min_le_right _ _
def zhH (v:Int)(n d:Nat):(if v<0 then max (v+(n:Int)) 0 else min v (n:Int))=((sIx n d (some v):Nat):Int):=by
 show(if v<0 then max (v+(n:Int)) 0 else min v (n:Int))=(((if v<0 then(v+(n:Int)).toNat else min v.toNat n):Nat):Int)
 by_cases hv:v<0
 .simp only[if_pos hv];omega
 .simp only[if_neg hv];omega
def zgM (lo hi:Option Int)(n:Nat):Builtin.Slice.sliceAdjust lo hi 1 (n:Int)=(((sIx n 0 lo:Nat):Int),((sIx n n hi:Nat):Int)):=by
 have h1:¬((1:Int)<0):=by omega
 unfold Builtin.Slice.sliceAdjust;simp only[h1,if_false];refine Prod.ext ?_ ?_
 .cases lo with
 |none=>rfl
 |some v=>exact zhH v n 0
 .cases hi with
 |none=>rfl
 |some v=>exact zhH v n n
def zgN (i j:Nat):Builtin.Slice.slicePlaces (i:Int) (j:Int) 1=j - i:=by
 unfold Builtin.Slice.slicePlaces;have h1:(1:Int)>0:=by omega
 simp only[h1,if_true,Int.ediv_one];split <;> omega
def zea {v:Value}{o:Option Int}{Q:Option Int->Shared->Prop}(p:IsPart v o)(h:Q o s):wpAny (model prog w) A (Builtin.Slice.slicePartIndex v) Q E s:=by
 cases p with
|none=>exact slicePart_none h
|int i t=>exact slicePart_int h
def zch {sl:Addr}{vl vu:Value}{lo hi:Option Int}{n:Nat}{Q:Int×Int×Nat->Shared->Prop}(hs:s.heap.IsSliceOf sl vl vu .none)(pl:IsPart vl lo)(pu:IsPart vu hi)
 (h:Q (((sIx n 0 lo:Nat):Int),1,sIx n n hi - sIx n 0 lo) s):wpAny (model prog w) A (Builtin.Slice.sliceApplied (.ref sl) (pure (n:Int))) Q E s:=by
 obtain⟨os,hos,hcs,hds⟩:=id hs;unfold Builtin.Slice.sliceApplied Builtin.Slice.sliceFields;refine waa (waa (waO hos hds (x:=vl) rfl (waa (waO hos hds (x:=vu) rfl (waa (waO hos hds (x:=.none) rfl (wae ?_)))))));refine waa (slicePart_none ?_);show wpAny _ _ (if((1:Int) == 0)=true then _ else _) _ _ s
 rw[if_neg (by decide)];refine waa (zea pl (waa (zea pu (waa (wae ?_)))));show wpAny _ _ (match Builtin.Slice.sliceAdjust lo hi 1 (n:Int) with|(lo,hi)=>pure (lo,(1:Int),Builtin.Slice.slicePlaces lo hi 1)) _ _ s
 rw[zgM lo hi n];show wpAny _ _ (pure (((sIx n 0 lo:Nat):Int),(1:Int),Builtin.Slice.slicePlaces ((sIx n 0 lo:Nat):Int) ((sIx n n hi:Nat):Int) 1)) _ _ s
 rw[zgN];exact wae h
def zjj (xs:Array Value)(i k:Nat):((List.range k).filterMap λ(m:Nat)=>xs[((i:Int)+(m:Int)*1).toNat]?).toArray=((xs.toList.drop i).take k).toArray:=by
 have e:(λ(m:Nat)=>xs[((i:Int)+(m:Int)*1).toNat]?)=λm=>xs[i+m]?:=by
  funext m
  have:((i:Int)+(m:Int)*1).toNat=i+m:=by omega
  rw[this]
 rw[e];have:=pick_run xs i k
 rw[List.filterMap_map] at this;have e2:((λx=>xs[x]?)∘λx=>i+x)=λm=>xs[i+m]?:=rfl
 rw[e2] at this;rw[this]
def getItem_tuple_cut {t sl:Addr}{items:Array Value}{vl vu:Value}{lo hi:Option Int}{Q:Value->Shared->Prop}(ht:IsTup s.heap t items)(hs:s.heap.IsSliceOf sl vl vu .none)(pl:IsPart vl lo)(pu:IsPart vu hi)
 (hw:¬(sIx items.size 0 lo=0/\sIx items.size items.size hi=items.size))
 (h:Q (.ref s.heap.objs.size) {s with heap:=s.heap.push {cls:=.type "tuple",data:=.seq ((items.toList.drop (sIx items.size 0 lo)).take (sIx items.size items.size hi - sIx items.size 0 lo)).toArray}})
 (hsz:items.size<=sizeLine):wpAny (model prog w) A (getItem (.ref t) (.ref sl)) Q E s:=by
 have htake:sizeOk (.seq ((items.toList.drop (sIx items.size 0 lo)).take (sIx items.size items.size hi - sIx items.size 0 lo)).toArray):=by
  show((items.toList.drop (sIx items.size 0 lo)).take (sIx items.size items.size hi - sIx items.size 0 lo)).toArray.size<=sizeLine
  rw[wac,wbv,wcb,wcg];omega
 have hj:sIx items.size items.size hi<=items.size:=zmo _ _ (wai _) hi
 obtain⟨os,hos,hcs,hds⟩:=id hs;have hTs:s.TypeIs (.ref sl) "slice":=⟨os,hos,hcs⟩
 unfold getItem;try with_reducible refine wbr ?_
 first|refine waa (wae ?_)|skip
 refine waa (wpAny_sequenceKey ht.typeIs (by decide) ?_);refine waa (wbs (name:=Str.ofString "__getitem__") ht.typeIs waZ
  (wbw waZ ht.typeIs entry_tuple_getitem ?_ (args_tuple_getitem _ _)))
 show wpAny _ _ (Builtin.Tuple.tupleItemsOf (.ref t) >>= _) _ _ s
 refine waa (tupleItemsOf_ ht ?_);refine waa (wcm hTs ?_);rw[if_pos (by decide)];refine waa (zch hs pl pu ?_);have hno:¬((((sIx items.size 0 lo:Nat):Int) == 0&&(1:Int) == 1&&(sIx items.size items.size hi - sIx items.size 0 lo) == items.size)=true):=by
  intro q;rw[waD,waD] at q;have q1:((sIx items.size 0 lo:Nat):Int)=0:=eq_of_beq q.1.1
  have q2:sIx items.size items.size hi - sIx items.size 0 lo=items.size:=eq_of_beq q.2
  exact hw ⟨by omega,by omega⟩
 show wpAny _ _ (if(((sIx items.size 0 lo:Nat):Int) == 0&&(1:Int) == 1&&(sIx items.size items.size hi - sIx items.size 0 lo) == items.size)=true then _ else _) _ _ s
 rw[if_neg hno,zjj];first
 |exact waa (m:=Builtin.Tuple.tupleExact _) (waQ (wae ⟨_,rfl,wae h⟩) htake)
 |exact waa (m:=Builtin.Tuple.tupleExact _) (waQ (waa (wae (wae ⟨_,rfl,wae h⟩))) htake)
 |exact waa (waa (m:=Builtin.Tuple.tupleExact _) (waQ (wae (wae ⟨_,rfl,wae h⟩)) htake))
 |exact waa (waa (m:=Builtin.Tuple.tupleExact _) (waQ (wae ⟨_,rfl,wae h⟩) htake))
end
end HT
namespace L2
open PySem PySem.Spec PyProof.Rows
abbrev TO:=St->Hp->(Option Int->Hp->Prop)->Prop
def PO (X:Cx)(e:Option Expr)(t:TO):Prop:=
 ∀(pins:List (Addr×Obj)) (s:Shared) (Y:St) (H:Hp) (Q:Option Int->Hp->Prop),Inv X pins Y H s->t Y H Q->
  wpAny (model X.prog X.w) X.A (evalPart e X.env) (λu s'=>∃o H',Inv X pins Y H' s'/\IsPart u o/\Q o H') X.xe s
def zkV:TO:=λ_ H Q=>Q none H
def zn5 (t:TE):TO:=λY H Q=>t Y H λx H1=>∃i,x=.int i/\Q (some i) H1
section
variable {X:Cx}{e:Expr}{te:TE}{lo hi:Option Expr}{tl th:TO}{pos p2:Pos}
def zkW:PO X none zkV:=by
 intro pins s Y H Q I h;rw[evalPart_none];exact wae ⟨none,H,I,.none,h⟩
def zkX (h:PE X e te):PO X (some e) (zn5 te):=by
 intro pins s Y H Q I hw;rw[evalPart_some];refine thn (h pins s Y H _ I hw) λu s1 ⟨x,H1,I1,r1,q1⟩ =>?_
 obtain⟨i,rfl,q⟩:=q1;obtain⟨t,rfl⟩:=r1;exact⟨some i,H1,I1,.int i t,q⟩
def SlR (X:Cx)(r:V->Option Int->Option Int->Hp->VK->Prop):Prop:=
 ∀(pins:List (Addr×Obj)) (s:Shared) (Y:St) (H:Hp) (x:V) (v vl vu:Value) (lo hi:Option Int) (sl:Addr) (Q:VK),Inv X pins Y H s->RelV x v->s.heap.IsSliceOf sl vl vu .none->IsPart vl lo->IsPart vu hi->r x lo hi H Q->
  ∃T id,typeLookup (.type T) "__getitem__"=pure (some (.builtin id))/\s.TypeIs v T/\wpAny (model X.prog X.w) X.A (getItem v (.ref sl)) (EP X pins Y Q) X.xe s
def SlR.or {r r':V->Option Int->Option Int->Hp->VK->Prop}(h:SlR X r)(h':SlR X r'):SlR X (λx lo hi H Q=>r x lo hi H Q\/r' x lo hi H Q):=by
 intro pins s Y H x v vl vu lo hi sl Q I rx hs pl pu q;rcases q with q|q
 .exact h pins s Y H x v vl vu lo hi sl Q I rx hs pl pu q
 .exact h' pins s Y H x v vl vu lo hi sl Q I rx hs pl pu q
def tSl (r:V->Option Int->Option Int->Hp->VK->Prop)(te:TE)(tl th:TO):TE:=λY H Q=>te Y H λx H1=>tl Y H1 λl H2=>th Y H2 λu H3=>r x l u H3 Q
def zge {r:V->Option Int->Option Int->Hp->VK->Prop}(hr:SlR X r)(he:PE X e te)(hl:PO X lo tl)(hu:PO X hi th):PE X (.Subscript e (.Slice lo hi none p2) pos) (tSl r te tl th):=by
 intro pins s Y H Q I h;refine Subscript_ (thn (he pins s Y H _ I h) λv s1 ⟨x,H1,I1,r1,q1⟩ =>?_);refine wpAny_Slice (thn (hl pins s1 Y H1 _ I1 q1) λvl s2 ⟨l,H2,I2,pl,q2⟩ =>thn (hu pins s2 Y H2 _ I2 q2) λvu s3 ⟨u,H3,I3,pu,q3⟩ =>?_);rw[evalPart_none];refine wae ?_;have I4:Inv X pins Y H3 {s3 with heap:=s3.heap.push {cls:=.type "slice",data:=.fields #[vl,vu,.none]}}:=I3.kept (t':=s3.toks) λb ob q=>wab _ q
 obtain⟨T,id,hT,ht,hg⟩:=hr pins {s3 with heap:=s3.heap.push {cls:=.type "slice",data:=.fields #[vl,vu,.none]}} Y H3 x v vl vu l u s3.heap.objs.size Q I4 r1 (Heap.IsSliceOf.new ..) pl pu q3;show wpAny (model X.prog X.w) X.A (subscriptTail e (.Slice lo hi none p2) v (.ref s3.heap.objs.size)) (EP X pins Y Q) X.xe {s3 with heap:=s3.heap.push {cls:=.type "slice",data:=.fields #[vl,vu,.none]}}
 exact tail_any (ops:=[.ref s3.heap.objs.size,v]) ht hT hg (by with_unfolding_all rfl)
def cutV (xs:List V)(lo hi:Option Int):List V:=(xs.drop (HT.sIx xs.length 0 lo)).take (HT.sIx xs.length xs.length hi - HT.sIx xs.length 0 lo)
def zdw (xs:List V)(lo hi:Option Int):(cutV xs lo hi).length<=xs.length:=by
 unfold cutV;rw[wbv,wcb];omega
def rSlT (K:W.Frag):V->Option Int->Option Int->Hp->VK->Prop:=λx lo hi H Q=>∃a xs,x=.ref a/\SqT K H a xs/\
 ¬(HT.sIx xs.length 0 lo=0/\HT.sIx xs.length xs.length hi=xs.length)/\∀p,H p=none->Q (.ref p) (upd H p (.tup (cutV xs lo hi)))
def sl_tup:SlR X (rSlT X.K):=by
 intro pins s Y H x v vl vu lo hi sl Q I rx hs pl pu h;obtain⟨a,xs,rfl,hx,hw,q⟩:=h;cases rx;obtain⟨its,r,ht,hz⟩:=I.tuple hx;have hlen:its.toArray.size=xs.length:=by rw[wac];exact r.length.symm
 refine⟨"tuple",_,PyProof.Rows.slot_tuple_getitem.lookup,ht.typeIs,?_⟩;refine HT.getItem_tuple_cut ht hs pl pu (by rw[hlen];exact hw) ?_ (by rw[hlen];exact hz);rw[hlen];refine⟨.ref s.heap.objs.size,_,I.laid (t':=s.toks) (o:=.tup (cutV xs lo hi)) (λb ob q=>wab _ q) (wai _) ?_,rfl,q _ (I.hok.fresh (wai _))⟩;exact⟨wam (zdw xs lo hi) hz,_,(r.drop (HT.sIx xs.length 0 lo)).take (HT.sIx xs.length xs.length hi - HT.sIx xs.length 0 lo),IsTup.new _ _⟩
def zkY (K:W.Frag):R2:=λx y H Q=>∃a b xs ys,x=.ref a/\y=.ref b/\SqT K H a xs/\SqT K H b ys/\xs≠[]/\xs.length+ys.length<=sizeLine/\
 (ys = []->Q (.ref a) H)/\(ys≠[]->∀p,H p=none->Q (.ref p) (upd H p (.tup (xs++ys))))
def Vals.nil_iff {xs:List V}{us:List Value}(r:Vals xs us):us = []↔xs = []:=by
 cases r with
|nil=>simp
|cons _ _=>simp
def zhI:OpR X (binaryOp .Add) (zkY X.K):=by
 intro pins s Y H x y v u Q I rx ry h;obtain⟨a,b,xs,ys,rfl,rfl,ha,hb,hx,hz,q1,q2⟩:=h;cases rx;cases ry;obtain⟨its,r1,p1,_⟩:=I.tuple ha;obtain⟨its2,r2,p2,_⟩:=I.tuple hb;refine HT.cat_tup p1 p2 (λz=>hx (r1.nil_iff.mp z)) (λz=>⟨.ref a,H,I,rfl,q1 (r2.nil_iff.mp z)⟩) (λz=>?_) (by rw[<-r1.length,<-r2.length];exact hz);refine⟨.ref s.heap.objs.size,_,I.laid (t':=s.toks) (o:=.tup (xs++ys)) (λb ob q=>wab _ q) (wai _) ?_,rfl,q2 (λw=>z (r2.nil_iff.mpr w)) _ (I.hok.fresh (wai _))⟩;exact⟨by rw[wal];exact hz,_,r1.append r2,IsTup.new _ _⟩
end
def ixN (n:Nat)(i:Int):Option Nat:=if 0<=i then(if i<n then some i.toNat else none) else if -(n:Int)<=i then some (i+n).toNat else none
def atI {α:Type}(xs:List α)(i:Int):Option α:=(ixN xs.length i).bind λj=>xs[j]?
def zkZ {n:Nat}{i:Int}{j:Nat}(h:ixN n i=some j):seqIndex? i n=some j/\j<n/\-(n:Int)<=i/\i<n:=by
 unfold ixN at h;by_cases h0:0<=i
 .rw[if_pos h0] at h;by_cases h1:i<n
  .rw[if_pos h1] at h;have e:i.toNat=j:=waq h
   exact⟨by rw[seqIndex_of h0 h1,e],by omega,by omega,h1⟩
  .rw[if_neg h1] at h;cases h
 .rw[if_neg h0] at h;by_cases h1:-(n:Int)<=i
  .rw[if_pos h1] at h;have e:(i+n).toNat=j:=waq h
   exact⟨by rw[seqIndex_neg (by omega) h1,e],by omega,h1,by omega⟩
  .rw[if_neg h1] at h;cases h
def zfC {α:Type}{xs:List α}{i:Int}{v:α}(h:atI xs i=some v):∃j,seqIndex? i xs.length=some j/\xs[j]?=some v/\j<xs.length/\-(xs.length:Int)<=i/\i<xs.length:=by
 unfold atI at h;cases e:ixN xs.length i with
|none=>rw[e] at h;cases h
|some j=>
   rw[e] at h;obtain⟨h1,h2,h3,h4⟩:=zkZ e;exact⟨j,h1,h,h2,h3,h4⟩
def zbh {α:Type}{xs:List α}{j:Nat}{v:α}(h:xs[j]?=some v):atI xs (j:Int)=some v:=by
 have hj:j<xs.length:=(wav.mp h).1
 have e:ixN xs.length (j:Int)=some j:=by
  unfold ixN;rw[if_pos (by omega),if_pos (by omega)];simp
 unfold atI;rw[e];exact h
def zhJ (b:Expr):Prop:=∀o i,subscripted b false o i=operate [o,i] (getItem o i)
def IxR (X:Cx)(r:R2):Prop:=
 ∀(value slice:Expr) (pins:List (Addr×Obj)) (s:Shared) (Y:St) (H:Hp) (x y:V) (v u:Value) (Q:VK),Inv X pins Y H s->RelV x v->RelV y u->r x y H Q->
  subscripted slice false v u=operate [v,u] (getItem v u)->wpAny (model X.prog X.w) X.A (subscriptTail value slice v u) (EP X pins Y Q) X.xe s
def MtR (X:Cx)(id:String)(r:V->List V->Hp->VK->Prop):Prop:=
 ∀(pins:List (Addr×Obj)) (s:Shared) (Y:St) (H:Hp) (x:V) (xs:List V) (v:Value) (us:List Value) (Q:VK),Inv X pins Y H s->RelV x v->Vals xs us->r x xs H Q->
  wpAny (model X.prog X.w) X.A (call (.builtin id) (v::us)) (EP X pins Y Q) X.xe s
section
variable {X:Cx}{a b:Expr}{ta tb:TE}{pos:Pos}
def IxR.or {r r':R2}(h:IxR X r)(h':IxR X r'):IxR X (λx y H Q=>r x y H Q\/r' x y H Q):=by
 intro value slice pins s Y H x y v u Q I rx ry q hs;rcases q with q|q
 .exact h value slice pins s Y H x y v u Q I rx ry q hs
 .exact h' value slice pins s Y H x y v u Q I rx ry q hs
def zn6 {r:R2}(hr:IxR X r)(ha:PE X a ta)(hb:PE X b tb)(hs:zhJ b):PE X (.Subscript a b pos) (tOp r ta tb):=by
 intro pins s Y H Q I h;exact Subscript_ (binT ha hb I h λv u s2 x y H2 I2 rx ry q=>hr a b pins s2 Y H2 x y v u Q I2 rx ry q (hs _ _))
def rIxL (K:W.Frag):R2:=λx y H Q=>∃p xs i v,x=.ref p/\y=.int i/\SqL K H p xs/\atI xs i=some v/\Q v H
def rIxT (K:W.Frag):R2:=λx y H Q=>∃p xs i v,x=.ref p/\y=.int i/\SqT K H p xs/\atI xs i=some v/\Q v H
def rIxS:R2:=λx y H Q=>∃z i c,x=.str z/\y=.int i/\z.length<=sizeLine/\atI z.cps.toList i=some c/\Q (.str ⟨#[c]⟩) H
def ix_list:IxR X (rIxL X.K):=by
 intro value slice pins s Y H x y v u Q I rx ry h hs;obtain⟨p,xs,i,z,rfl,rfl,hq,he,q⟩:=h;cases rx;obtain⟨t,rfl⟩:=ry;obtain⟨its,r,pl,hz⟩:=I.list hq;obtain⟨j,h1,h2,h3,h4,h5⟩:=zfC he;obtain⟨w,ew,rw'⟩:=r.get h2;have hl:=r.length
 have hn:=zd9
 have fin:EP X pins Y Q w s:=⟨z,H,I,rw',q⟩
 by_cases h0:0<=i
 .have hj:i.toNat=j:=by
   rw[seqIndex_of h0 h5] at h1;exact waq h1
  exact item_listR pl.isList h0 (by omega) (by rw[hj];simpa using ew) fin hs
 .have hj:(i+(its.toArray.size:Int)).toNat=j:=by
   rw[seqIndex_neg (by omega) h4] at h1;rw[wac,<-hl];exact waq h1
  exact subscriptTail_builtinR (x:=w) pl.isList.typeIs slot_list_getitem.lookup
   (wpAny_getItem_list_neg (Q:=λr s'=>r=w/\EP X pins Y Q r s') pl.isList (by omega) (by rw[wac] <;> omega) (by omega) (by rw[hj];simpa using ew) ⟨rfl,fin⟩) hs
def ix_tup:IxR X (rIxT X.K):=by
 intro value slice pins s Y H x y v u Q I rx ry h hs;obtain⟨p,xs,i,z,rfl,rfl,hq,he,q⟩:=h;cases rx;obtain⟨t,rfl⟩:=ry;obtain⟨its,r,pl,hz⟩:=I.tuple hq;obtain⟨j,h1,h2,h3,h4,h5⟩:=zfC he;obtain⟨w,ew,rw'⟩:=r.get h2;have hl:=r.length
 have hn:=zd9
 have fin:EP X pins Y Q w s:=⟨z,H,I,rw',q⟩
 exact subscriptTail_builtinR (x:=w) pl.typeIs slot_tuple_getitem.lookup
  (getItem_tuple (j:=j) (Q:=λr s'=>r=w/\EP X pins Y Q r s') pl (by omega) (by omega) (by rw[wac,<-hl];exact h1) (by simpa using ew) ⟨rfl,fin⟩) hs
def zmp:IxR X rIxS:=by
 intro value slice pins s Y H x y v u Q I rx ry h hs;obtain⟨z,i,c,rfl,rfl,hz,he,q⟩:=h;obtain⟨t,rfl⟩:=rx;obtain⟨t',rfl⟩:=ry;obtain⟨j,h1,h2,h3,h4,h5⟩:=zfC he;have hl:z.cps.toList.length=z.length:=by simp[Str.length]
 rw[hl] at h1 h4 h5;have hn:=zd9
 exact tail_any (typeIs_str s z t) slot_str_getitem.lookup (getItem_str (c:=c) (by
  have e1:decide (i < -(2 ^ 63:Int))=false:=wao (by omega)
  have e2:decide (i≥2 ^ 63)=false:=wao (by omega)
  rw[e1,e2,Bool.or_false]) (by rw[h1];simpa using h2) ⟨.str ⟨#[c]⟩,H,I.tok _,⟨_,rfl⟩,q⟩) hs
def rIx (K:W.Frag):R2:=λx y H Q=>rIxL K x y H Q\/rIxT K x y H Q\/rIxS x y H Q
def zmq:IxR X (rIx X.K):=ix_list.or (ix_tup.or zmp)
def zeP (lo hi:Option Int)(n:Nat):(sliceBounds lo hi none n).1=((HT.sIx n 0 lo:Nat):Int)/\(sliceBounds lo hi none n).2.1=((HT.sIx n n hi:Nat):Int)/\(sliceBounds lo hi none n).2.2=1:=by
 refine⟨?_,?_,rfl⟩
 .cases lo with
 |none=>simp[sliceBounds,HT.sIx]
 |some i=>
    simp only[sliceBounds,HT.sIx,Option.getD_none,show(1:Int)>0 by decide,if_true];by_cases h:i<0
    .simp only[h,if_true] <;> omega
    .simp only[h,if_false] <;> omega
 .cases hi with
 |none=>simp[sliceBounds,HT.sIx]
 |some i=>
    simp only[sliceBounds,HT.sIx,Option.getD_none,show(1:Int)>0 by decide,if_true];by_cases h:i<0
    .simp only[h,if_true] <;> omega
    .simp only[h,if_false] <;> omega
def zen (its:List Value)(lo hi:Option Int):slicePick its.toArray lo hi none=((its.drop (HT.sIx its.length 0 lo)).take (HT.sIx its.length its.length hi - HT.sIx its.length 0 lo)).toArray:=by
 obtain⟨h1,h2,h3⟩:=zeP lo hi its.toArray.size;unfold slicePick;rw[h1,h2,h3];simp only[sliceRange_one,pick_run,wac] <;> rfl
def rSlL (K:W.Frag):V->Option Int->Option Int->Hp->VK->Prop:=λx lo hi H Q=>∃a xs,x=.ref a/\SqL K H a xs/\∀p,H p=none->Q (.ref p) (upd H p (.lst (cutV xs lo hi)))
def sl_list:SlR X (rSlL X.K):=by
 intro pins s Y H x v vl vu lo hi sl Q I rx hs pl pu h;obtain⟨a,xs,rfl,hx,q⟩:=h;cases rx;obtain⟨its,r,ht,hz⟩:=I.list hx;have hlen:=r.length
 refine⟨"list",_,slot_list_getitem.lookup,ht.isList.typeIs,?_⟩;refine wpAny_getItem_list_slice ht.isList hs pl pu .none (by simp) ?_ (by rw[wac] <;> omega);rw[zen,<-hlen];refine⟨.ref s.heap.objs.size,_,I.laid (t':=s.toks) (o:=.lst (cutV xs lo hi)) (λb ob q=>wab _ q) (wai _) ?_,rfl,q _ (I.hok.fresh (wai _))⟩;exact⟨wam (zdw xs lo hi) hz,_,0,(r.drop (HT.sIx xs.length 0 lo)).take (HT.sIx xs.length xs.length hi - HT.sIx xs.length 0 lo),wat _ rfl⟩
def zeQ:zcL X (.builtin "len") (λxs H Q=>∃p ys,xs = [.ref p]/\(SqL X.K H p ys\/SqT X.K H p ys)/\Q (.int ys.length) H):=by
 intro pins s Y H xs us Q I r h;obtain⟨p,ys,rfl,hq,q⟩:=h;obtain⟨u,rfl,rx⟩:=zje r;cases rx;have hn:=zd9
 rcases hq with hq|hq
 .obtain⟨its,r',pl,hz⟩:=I.list hq;have hlen:=r'.length
  exact Calls.call_len_list pl.isList (by simp only[wac] <;> omega) ⟨.int ys.length,H,I.tok _,⟨s.toks+1,by rw[wac,hlen]⟩,q⟩
 .obtain⟨its,r',pl,hz⟩:=I.tuple hq;have hlen:=r'.length
  exact len_tuple pl (by simp only[wac] <;> omega) ⟨.int ys.length,H,I.tok _,⟨s.toks+1,by rw[wac,hlen]⟩,q⟩
def zeR:zcL X (.type "list") (λxs H Q=>∃p ys,xs = [.ref p]/\(SqL X.K H p ys\/SqT X.K H p ys)/\∀l,H l=none->Q (.ref l) (upd H l (.lst ys))):=by
 intro pins s Y H xs us Q I r h;obtain⟨p,ys,rfl,hq,q⟩:=h;obtain⟨u,rfl,rx⟩:=zje r;cases rx;have fin:∀(its:List Value),Vals ys its->ys.length<=sizeLine->∀(h':Heap) (c':Nat),(∀b o',s.heap.get? b=some o'->h'.get? b=some o')->
  h'.get? s.heap.objs.size=some {cls:=.type "list",dict:=none,data:=.seq its.toArray c',slots:=#[]}->EP X pins Y Q (.ref s.heap.objs.size) {s with heap:=h'}:=λits r' hz h' c' kp e=>
  ⟨.ref s.heap.objs.size,_,I.laid (t':=s.toks) kp (wai _) (show ObjOk X.prog X.w _ h' _ (.lst ys) from⟨hz,its,c',r',e⟩),rfl,q _ (I.hok.fresh (wai _))⟩
 rcases hq with hq|hq
 .obtain⟨its,r',pl,hz⟩:=I.list hq;have hlen:=r'.length
  obtain⟨o,ho,hc,n,hd⟩:=pl.isList;exact call_list_seq p (.inl rfl) ho hc hd (λh' c' kp e=>fin its r' hz h' c' kp e) (by simp only[wac] <;> omega)
 .obtain⟨its,r',pl,hz⟩:=I.tuple hq;have hlen:=r'.length
  obtain⟨o,ho,hc,n,hd⟩:=pl;exact call_list_seq p (.inr rfl) ho hc hd (λh' c' kp e=>fin its r' hz h' c' kp e) (by simp only[wac] <;> omega)
def tyV (K:W.Frag)(T:String)(x:V)(H:Hp):Prop:=match x with
|.str _=>T = "str"
|.int _=>T = "int"
|.ref p=>(T = "list"/\∃xs,SqL K H p xs)\/(T = "tuple"/\∃o,K.lookup p=some o/\o.cls=.type "tuple"/\o.dict=none)\/
  (T = "dict"/\((∃kvs,H p=some (.dK kvs))\/∃kvs,H p=some (.dT kvs)))\/(T = "set"/\∃S n,H p=some (.set S n))
|_=>False
def zmr {pins:List (Addr×Obj)}{Y:St}{H:Hp}{s:Shared}{T:String}{x:V}{v:Value}(I:Inv X pins Y H s)(r:RelV x v)(ty:tyV X.K T x H) :
 s.TypeIs v T/\∀a,v=.ref a->∃ob,s.heap.get? a=some ob/\ob.dict=none:=by
 cases x with
|str z=>
   obtain⟨t,rfl⟩:=r;cases(show T = "str" from ty);exact⟨typeIs_str s z t,λ_ e=>nomatch e⟩
|int i=>
   obtain⟨t,rfl⟩:=r;cases(show T = "int" from ty);exact⟨typeIs_int s i t,λ_ e=>nomatch e⟩
|ref p=>
   cases r;rcases ty with⟨rfl,xs,hq⟩|⟨rfl,o,hk,hc,hd⟩|⟨rfl,hk⟩|⟨rfl,S,n,hk⟩
   .obtain⟨its,_,pl,_⟩:=I.list hq;refine⟨pl.isList.typeIs,λa e=>?_⟩;cases e;obtain⟨o,n,e,c,hd,_⟩:=pl;exact⟨o,e,hd⟩
   .refine⟨⟨o,I.kIn p o hk,hc⟩,λa e=>?_⟩;cases e;exact⟨o,I.kIn _ o hk,hd⟩
   .have z:∃o,s.heap.get? p=some o/\o.ExactDict:=by
     rcases hk with⟨kvs,hk⟩|⟨kvs,hk⟩
     .obtain⟨_,_,_,_,o,_,_,e,ex,_⟩:=I.hok p _ hk;exact⟨o,e,ex⟩
     .obtain⟨_,_,_,_,o,_,_,e,ex,_⟩:=I.hok p _ hk;exact⟨o,e,ex⟩
    obtain⟨o,e,ex⟩:=z;refine⟨⟨o,e,ex.1⟩,λa e2=>?_⟩;cases e2;exact⟨o,e,ex.2.1⟩
   .obtain⟨o,_,_,_,e,ex,_⟩:=I.hok p _ hk;refine⟨⟨o,e,ex.1⟩,λa e2=>?_⟩;cases e2;exact⟨o,e,ex.2.1⟩
|_=>exact False.elim ty
def tBM (K:W.Frag)(T:String)(r:V->List V->Hp->VK->Prop)(to:TE)(t:TA):TE:=λY H Q=>to Y H λx H1=>tyV K T x H1/\t Y H1 λxs H2=>r x xs H2 Q
variable {o e:Expr}{es:List Expr}{to:TE}{t:TA}{name:Str}{apos cpos:Pos}{T id:String}{r:V->List V->Hp->VK->Prop}
def zms (pa:PlainAttrs T)(slot:Slot T name id)(hty:typeOf (.builtin id)=pure (.type "method_descriptor"))(hm:MtR X id r)(ho:PE X o to)(ha:PA X (e::es) t)
 (hbase:attributeBase o name X.env (eval o X.env)=eval o X.env:=by rfl)
 (hfew:((backTo cpos (starEach (e::es) X.env)).all (λx=>!x.1)&&(backToKw cpos (keywordEach [] X.env)).all (λx=>x.1.isSome)
  && decide ((e::es).length+([]:List Keyword).length+(if([]:List Keyword).isEmpty then 0 else 1)<30))=true:=by rfl)
 (hline:(apos.endLine == cpos.line)=true:=by rfl) (hs:starEach (e::es) X.env=(false,eval e X.env)::starEach es X.env:=by rfl) (hplain:(backTo cpos (starEach es X.env)).any (·.1)=false:=by rfl) :
 PE X (.Call (.Attribute o name apos) (e::es) [] cpos) (tBM X.K T r to t):=by
 intro pins s Y H Q I h;refine wpAny_Call_method_late hbase hfew hline rfl (thn (ho pins s Y H _ I h) λv s1 ⟨x,H1,I1,r1,ty,q1⟩ =>?_);obtain⟨h1,h2⟩:=zmr I1 r1 ty;refine⟨T,id,pa,slot,hty,h1,h2,?_⟩;have hA:=ha cpos pins s1 Y H1 _ I1 q1
 rw[hs] at hA⊢;refine Calls.callWith_builtin (by show(false||(backTo cpos (starEach es X.env)).any (·.1))=false;rw[hplain] <;> rfl) (Calls.evalArgs_plain ?_);exact thn hA λus s2 ⟨vs,H2,I2,r2,q2⟩ =>hm pins s2 Y H2 x vs v us Q I2 r1 r2 q2
end
def MtM (X:Cx)(id:String)(r:V->List V->Hp->VK->Prop):Prop:=
 ∀(pins:List (Addr×Obj)) (s:Shared) (Y:St) (H:Hp) (x:V) (xs:List V) (v:Value) (us:List Value) (Q:VK),Inv X pins Y H s->RelV x v->Vals xs us->r x xs H Q->
  wpAny (model X.prog X.w) X.A (call (.builtin id) (v::us)) (EP X pins Y Q) X.xe s
def Vals.one:∀{x:V}{us:List Value},Vals [x] us->∃u,us = [u]/\RelV x u
|_,_,.cons r .nil=>⟨_,rfl,r⟩
theorem Vals.rep {xs:List V}{us:List Value}(h:Vals xs us):∀k:Nat,Vals (List.replicate k xs).flatten (List.replicate k us).flatten
|0=>.nil
|k+1=>by
   rw[waP,waP,wbo,wbo];exact Vals.append h (Vals.rep h k)
theorem zeS (its:List Value):∀(k:Nat) (acc:List Value),
 List.foldl (λx1 x2=>x1++x2) acc.toArray (List.replicate k its.toArray)=(acc++(List.replicate k its).flatten).toArray
|0,acc=>by simp
|k+1,acc=>by
   have e:acc.toArray++its.toArray=(acc++its).toArray:=by simp
   have e2:(acc++its)++(List.replicate k its).flatten=acc++(List.replicate (k+1) its).flatten:=by
    rw[waP,wbo,List.append_assoc]
   rw[<-e2,<-zeS its k (acc++its),<-e,waP,List.foldl_cons]
section
variable {X:Cx}{pins:List (Addr×Obj)}{Y:St}{H:Hp}{s:Shared}{l b:Addr}{xs ys zs:List V}
def Inv.lset {its its':List Value}{n:Nat}{f:Array Value->Array Value}{t':Nat}(I:Inv X pins Y H s)(hH:H l=some (.lst xs))
 (e:s.heap.get? l=some {cls:=.type "list",data:=.seq its.toArray n}) (hf:f its.toArray=its'.toArray) (hv:Vals ys its') (hz:ys.length<=sizeLine) :
 Inv X pins Y (upd H l (.lst ys)) {s with heap:=s.heap.update l (Obj.mapSeq f),toks:=t'}:=by
 have q:=PySem.IsL.update e f
 rw[hf] at q;refine I.write (x:=l) (e:=l) (by rw[hH];exact trivial) (.inl rfl) (λb' u hb hu=>(waA s.heap (Obj.mapSeq f) (Ne.symm hb)).trans hu) ⟨_,q⟩ ?_;exact⟨hz,its',_,hv,q⟩
def Inv.lnew {its:List Value}{t':Nat}(I:Inv X pins Y H s)(hv:Vals ys its)(hz:ys.length<=sizeLine) :
 Inv X pins Y (upd H s.heap.objs.size (.lst ys)) {s with heap:=s.heap.push {cls:=.type "list",data:=.seq its.toArray},toks:=t'}:=
 I.laid (λ_ _ q=>wab _ q) (wai _) ⟨hz,its,0,hv,wat _ rfl⟩
theorem Inv.fresh (I:Inv X pins Y H s):H s.heap.objs.size=none:=I.hok.fresh (wai _)
def Inv.lstM (I:Inv X pins Y H s)(hH:H l=some (.lst xs)):xs.length<=sizeLine/\∃(its:List Value) (n:Nat),Vals xs its/\xs.length=its.length/\s.heap.get? l=some {cls:=.type "list",data:=.seq its.toArray n}:=by
 obtain⟨z,its,n,r,e⟩:=I.hok l _ hH;exact⟨z,its,n,r,r.length,e⟩
def zgf {n:Nat}(h:n<=sizeLine):Builtin.List.listTooLong n=false:=by
 unfold Builtin.List.listTooLong;exact wao (by omega)
end
section
variable {X:Cx}
def zfD:V->List V->Hp->VK->Prop:=λx vs H Q=>∃l xs y,x=.ref l/\vs = [y]/\H l=some (.lst xs)/\xs.length<sizeLine/\Q .non (upd H l (.lst (xs++[y])))
def zeT:MtM X "list.append" zfD:=by
 intro pins s Y H x vs v us Q I rx rv h;obtain⟨l,xs,y,rfl,rfl,hH,hz,q⟩:=h;cases rx;obtain⟨u,rfl,ru⟩:=rv.one;obtain⟨z,its,n,r,hl,e⟩:=I.lstM hH;refine call_meets F.slot_list_append ⟨_,e,rfl⟩ F.entry_list_append (F.args_list_append_2 _ _) (PySem.list_append l its.toArray n u (by rw[wac];omega)) ⟨e,?_⟩;refine⟨.non,_,I.lset (its':=its++[u]) hH e (by simp) (r.append (.cons ru .nil)) ?_,rfl,q⟩;rw[wal,waz];omega
def zhK:V->List V->Hp->VK->Prop:=λx vs H Q=>∃l b xs zs,x=.ref l/\vs = [.ref b]/\H l=some (.lst xs)/\H b=some (.lst zs)/\xs.length+zs.length<=sizeLine/\Q .non (upd H l (.lst (xs++zs)))
def zhL:MtM X "list.extend" zhK:=by
 intro pins s Y H x vs v us Q I rx rv h;obtain⟨l,b,xs,zs,rfl,rfl,hH,hB,hz,q⟩:=h;cases rx;obtain⟨u,rfl,ru⟩:=rv.one;cases ru;obtain⟨z,its,n,r,hl,e⟩:=I.lstM hH;obtain⟨z2,its2,n2,r2,hl2,e2⟩:=I.lstM hB;have hsz:its.toArray.size+its2.toArray.size<=sizeLine:=by rw[wac,wac];omega
 have hlong:¬(!its.toArray.isEmpty&&Builtin.List.listTooLong (its.toArray.size+its2.toArray.size))=true:=by
  rw[zgf hsz,Bool.and_false];exact wby
 refine call_meets F.slot_list_extend ⟨_,e,rfl⟩ F.entry_list_extend (F.args_list_extend_2 _ _)
  (AutoSeq1.list_extend_list_list_0 l its.toArray n b its2.toArray n2 hlong (by rw[wac];omega) (by omega)) ⟨e,e2,?_⟩
 refine⟨.non,_,I.lset (its':=its++its2) hH e (by simp) (r.append r2) ?_,rfl,q⟩;rw[wal];omega
def rCat:R2:=λx y H Q=>∃l b xs zs,x=.ref l/\y=.ref b/\H l=some (.lst xs)/\H b=some (.lst zs)/\xs.length+zs.length<=sizeLine/\∀p,H p=none->Q (.ref p) (upd H p (.lst (xs++zs)))
def op_cat:OpR X (binaryOp .Add) rCat:=by
 intro pins s Y H x y v u Q I rx ry h;obtain⟨l,b,xs,zs,rfl,rfl,hH,hB,hz,q⟩:=h;cases rx;cases ry;obtain⟨z,its,n,r,hl,e⟩:=I.lstM hH;obtain⟨z2,its2,n2,r2,hl2,e2⟩:=I.lstM hB;refine PySem.P.add_list e e2 ?_ (by rw[wac,wac];omega);have ea:its.toArray++its2.toArray=(its++its2).toArray:=by simp
 rw[ea];exact⟨.ref _,_,I.lnew (t':=s.toks) (r.append r2) (by rw[wal];omega),rfl,q _ I.fresh⟩
def rRep:R2:=λx y H Q=>∃l k xs,x=.ref l/\y=.int k/\H l=some (.lst xs)/\-(2 ^ 63)<=k/\k<2 ^ 63/\xs.length*k.toNat<=sizeLine/\
 ∀p,H p=none->Q (.ref p) (upd H p (.lst (List.replicate k.toNat xs).flatten))
def zk0 {α:Type}(xs:List α)(k:Nat):(List.replicate k xs).flatten.length=k*xs.length:=by
 induction k with
|zero=>simp
|succ k ih=>rw[waP,wbo,wal,ih,Nat.succ_mul,Nat.add_comm]
def zmt:OpR X (binaryOp .Mult) rRep:=by
 intro pins s Y H x y v u Q I rx ry h;obtain⟨l,k,xs,rfl,rfl,hH,h1,h2,hz,q⟩:=h;cases rx;obtain⟨t,rfl⟩:=ry;obtain⟨z,its,n,r,hl,e⟩:=I.lstM hH;have hlen:its.toArray.size*k.toNat<=sizeLine:=by rw[wac,<-hl];exact hz
 have hcap:¬its.toArray.size*k.toNat>(2 ^ 63 - 1) / 8:=by
  have:(sizeLine:Nat)<=(2 ^ 63 - 1) / 8:=by decide
  omega
 have hfit:¬(!Builtin.List.listFitsIndex k)=true:=by
  rw[fitsIndex_both h1 h2];exact wby
 have hlong:¬Builtin.List.listTooLong (its.toArray.size*k.toNat)=true:=by
  rw[zgf hlen];exact wby
 have hnew:List.foldl (λx1 x2=>x1++x2) #[] (List.replicate (if its.toArray.isEmpty=true then 0 else k.toNat) its.toArray)=(List.replicate k.toNat its).flatten.toArray:=by
  have f0:∀m:Nat,List.foldl (λx1 x2=>x1++x2) #[] (List.replicate m its.toArray)=(List.replicate m its).flatten.toArray:=λm=>by
   have:=zeS its m []
   rw[List.nil_append] at this;exact this
  rw[f0];cases its with
 |nil=>simp
 |cons a r'=>rw[if_neg (by simp)]
 refine wpAny_binaryOp_repeat_ref (T:="list") (U:="int") (by decide) ⟨_,e,rfl⟩ (λs'=>typeIs_int s' k t) noFill_list_mul F.fills_int_mul F.slot_int_rmul repeat_list F.slot_int_index.lookup
  (call_meets F.slot_int_rmul (typeIs_int s k t) F.entry_int_rmul (F.args_int_rmul_2 _ _) (int___rmul___int_list k t l its.toArray n)
   ⟨e,rfl,⟨_,e,rfl⟩,call_meets F.slot_list_mul ⟨_,e,rfl⟩ F.entry_list_mul (F.args_list_mul_2 _ _) (AutoListH.list___mul___list_int_3 l its.toArray n k t hfit hcap hlong) ⟨e,?_⟩⟩)
 rw[hnew];exact⟨.ref _,_,I.lnew (t':=s.toks) (r.rep k.toNat) (by rw[zk0,Nat.mul_comm];exact hz),rfl,q _ I.fresh⟩
end
section
variable {prog:Program}{w:World}{A:Around}{E:Value->Shared->Prop}{s:Shared}
end
section
variable {X:Cx}
end
end L2
namespace Att
open PySem PySem.W PySem.Calls PyProof.Rows
def zdx {P:Params}{h:Heap}:∀(ns:List Int) (vs:List Value),WellAll P h vs (ns.map WData.int)->IntsAre vs ns:=by
 intro ns;induction ns with
|nil=>
   intro vs w;rw[List.map_nil] at w;cases w;exact .nil
|cons n ns ih=>
   intro vs w;rw[wbt] at w;cases w with
  |cons a b=>
     cases a;exact .cons _ _ (ih _ b)
def zhM {l:OpenLaw}{n:Nat}(hn:l.most=some n){P:Params}{h:Heap}{args:List WData}{vals:List Value}
 (hpre:l.row.toRowW.claim.pre args=true) (hwl:WellAll P h vals args) :
 ∃a vs ns,vals = [Value.ref a]/\args = [WData.list (ns.map WData.int)]/\h.get? a=some {cls:=.type "list",data:=.seq vs.toArray}/\IntsAre vs ns/\ns.length<=n:=by
 have hsh:WShape.hasAll [] args [.list .int]=true:=(pre_splitW hpre).1
 have hc:l.pre.holds [] {args:=args}=true:=(pre_splitW hpre).2
 obtain⟨d,r,rfl,h1,h2⟩:=hasAllW_cons hsh;obtain rfl:=hasAllW_nil h2;obtain⟨xs,rfl,h3⟩:=hasW_list h1;obtain⟨ns,rfl⟩:=items_int h3;have hlen:ns.length<=n:=by
  unfold OpenLaw.pre at hc;have h4:(WTm.not (.lt (.lit (.int (n:Int))) (.len (.arg 0)))).holds [] {args:=[.list (ns.map .int)]}=true:=by
   have h4:=(holds_andW hc).1
   rw[hn] at h4;exact h4
  have h5:=condW_of h4 (w_not (w_lt w_lit (w_len_list (w_arg rfl))))
  rw[waG] at h5;refine Nat.le_of_not_lt λq=>?_
  have q':(n:Int)<((ns.length:Nat):Int):=by omega
  first
  |(rw[wax q'] at h5;exact absurd h5 (by decide))
  |(simp at h5;omega)
 cases hwl with
|cons w1 w2=>
   cases w2;cases w1 with
  |list ho hall=>exact⟨_,_,ns,rfl,rfl,ho,zdx ns _ hall,hlen⟩
def zhN (l:OpenLaw)(args:List WData):l.row.toRowW.claim.post args (.bool true) args=true:=
 postW_of (r:=l.row.toRowW) (X:=(true == true))
  (show WShape.has [] (.bool true) .bool=true by first|rfl|decide|simp[WShape.has,WShape.arms,WShape.armsAll])
  (show(WTm.eq .res (.lit (.bool true))).value [] {args:=args,res:=some (.bool true),after:=args}=some (.bool (true == true)) from w_eq_bool (w_res rfl) w_lit) rfl
def attach_call {l:OpenLaw}{n:Nat}{q:Program}{loose:List Str}{XP:(Str->Option Value)->Heap->Prop}{YP:World->Heap->Prop}{d:DefRec}
 (hn:l.most=some n) (hdf:d.params.defaults = [])
 (call:∀(w:World) (s₀ s₁:Shared) (mg mb:Str->Option Value) (fa:Addr) (o:Obj) (pm cd doc:Value) (a:Addr) (vs:List Value) (ns:List Int),
  Ground q loose [] XP w s₀ mg mb s₁.heap->YP w s₁.heap->
  s₁.heap.get? fa=some o->o.data=.func (docDef d.name d.params d.body d.scope pm cd doc)->s₁.heap.CodeRec cd d.name->mg d.name=some (.ref fa)->
  s₁.heap.get? a=some {cls:=.type "list",data:=.seq vs.toArray}->IntsAre vs ns->ns.length<=n->s₁.gens = #[]->
  codeAny (model l.prog w) callerA (.call (.ref fa) ⟨[.ref a],[]⟩) (λr s'=>r=.ok (.ret (.bool true))/\OldK s₁.heap s'.heap/\s'.os=s₁.os/\AllBare s'.gens) s₁) :
 WalkO q loose XP YP l.row.toRowW d [] (λf vs=>PySem.call f vs):=by
 intro w s₀ s₁ mg mb G Y fa o pm cd doc dV kV ho hd hcd hD hmg hg args vals as hpre hlay hrd hwl hlo;obtain rfl:dV=.none:=Dflts.none hD hdf;obtain rfl:kV=.none:=Dflts.noKw hD;obtain⟨a,vs,ns,rfl,rfl,hobj,hints,hlen⟩:=zhM hn hpre hwl;refine enter_call (wcl (call w s₀ s₁ mg mb fa o pm cd doc a vs ns G Y ho (fd_plain hd) hcd hmg hobj hints hlen hg) λr s' hq=>?_);obtain⟨rfl,h2,h3,h4⟩:=hq;exact⟨.inl ⟨.bool true,.bool true,[],rfl,λ_=>rfl,.bool true,zhN l _,λ_=>⟨List.Pairwise.nil,λ_ hm=>(nomatch hm)⟩⟩,h2,h3,h4⟩
section
variable {prog:Program}{w:World}{A:Around}{E:Value->Shared->Prop}{s:Shared}{K:Frag}
end
end Att
namespace L2
open PySem PySem.Spec PyProof.Rows
theorem zeU:∀{vs:List Value}{ns:List Int},IntsAre vs ns->Vals (ns.map V.int) vs
|_,_,.nil=>.nil
|_,_,.cons n t h=>.cons ⟨t,rfl⟩ (zeU h)
def Only (H:Hp):Prop:=∀b,H b=none\/∃o xs,H b=some (.frz o (.lst xs))
def zbE (s:Stmt):Arguments:=match s with
|.FunctionDef _ a _ _ _ _ _ _ _ _=>a
|_=>{posonlyargs:=[],args:=[],vararg:=none,kwonlyargs:=[],kw_defaults:=[],kwarg:=none,defaults:=[]}
def zaT (s:Stmt):List Stmt:=match s with
|.FunctionDef _ _ b _ _ _ _ _ _ _=>b
|_=>[]
def zad (s:Stmt):Scope:=match s with
|.FunctionDef _ _ _ _ _ _ sc _ _ _=>sc
|_=>{kind:=.function,names:=[],isGenerator:=false,isCoroutine:=false}
abbrev CX0:CXT:=λ_ _ _ _ _ _=>False
abbrev E0:XK:=λ_ _ _=>False
def zmu {X:Cx}:zgd CX0 X E0:=λ_ _ _ _ _ _ _ h=>h.elim
structure Fun (K:W.Frag)(x qual:Str)(st:Stmt)(f:Addr)(fd:FuncData):Prop where
 ex:∃(oc:Value) (od:Option Addr) (kV doc pm:Value) (an:Option Addr) (cdv ct:Value) (osl:Array (Option Value)),
  fd=W.fnOf x qual (zbE st) (zaT st) (zad st) .none kV doc pm an cdv ct/\K.lookup f=some ⟨oc,od,.func fd,osl⟩ /\W.codeIn K cdv qual=true
 kp:W.keepIn K (.ref f)=true
section
variable {P:Program}{w:World}{K:W.Frag}{mg:Str->Option Value}{base:Heap}
def Fun.ok {x qual:Str}{st:Stmt}{f:Addr}{fd:FuncData}{N ps:List Str}{k:Nat}{sp:Sp}(F:Fun K x qual st f fd)(S:FnScope N ps (zad st))(len:∀vs H Q E,sp vs H Q E->vs.length=ps.length)
 (hbody:∀(cdv:Value) (A:Around) (outer:List Env) (s:Shared) (H:Hp) (vs:List V) (Q:VK) (E:XK),Room k (A.deeper (envOfC qual (zad st) s.heap.objs.size f cdv))->sp vs H Q E->
  ∃t,PSs (cxOf CX0 P w K mg base N qual (zad st) f cdv A outer s H E).nox (zaT st) t/\t {nx:=λ_ H'=>Q .non H',rt:=Q} (start N vs) H):FnOk P w K mg base CX0 (k+1) f fd ps sp:=by
 obtain⟨oc,od,kV,doc,pm,an,cdv,ct,osl,rfl,lk,hcd⟩:=F.ex;refine zjh lk hcd S len λA outer s H vs Q E hr hsp=>?_
 obtain⟨t,h,q⟩:=hbody cdv A outer s H vs Q E hr hsp;exact⟨t,h.nox,q⟩
def Fun.binds {x qual:Str}{st:Stmt}{f:Addr}{fd:FuncData}{ps:List Str}(F:Fun K x qual st f fd)
 (h:∀(kV doc pm:Value) (an:Option Addr) (cdv ct:Value) (us:List Value),us.length=ps.length->bindArgs (W.fnOf x qual (zbE st) (zaT st) (zad st) .none kV doc pm an cdv ct) ⟨us,[]⟩=pure (ps.zip us)):Binds K fd ps []:=by
 obtain⟨oc,od,kV,doc,pm,an,cdv,ct,osl,rfl,lk,hcd⟩:=F.ex;exact .all (h kV doc pm an cdv ct)
def zeV {x qual:Str}{st:Stmt}{f:Addr}{oc:Value}{od an:Option Addr}{osl:Array (Option Value)}{kV doc pm cdv ct:Value}(l:K.lookup f=some ⟨oc,od,.func (W.fnOf x qual (zbE st) (zaT st) (zad st) .none kV doc pm an cdv ct),osl⟩)
 (c:W.codeIn K cdv qual=true) (k:W.keepIn K (.ref f)=true):Fun K x qual st f (W.fnOf x qual (zbE st) (zaT st) (zad st) .none kV doc pm an cdv ct):=⟨⟨oc,od,kV,doc,pm,an,cdv,ct,osl,rfl,l,c⟩,k⟩
end
def zn7 {A:Around}{k:Nat}(hr:Room k A):A.units+1<cLine:=Nat.lt_of_le_of_lt (Nat.add_le_add_left (by decide:1<=64) _) hr.units
section
variable {X:Cx}
end
def iteF {A B:Prop}(h:B):if false=true then A else B:=by
 rw[if_neg wby];exact h
def iteT {A B:Prop}(h:A):if true=true then A else B:=by
 rw[if_pos rfl];exact h
def Same (H H':Hp):Prop:=∀b o,H b=some o->H' b=some o
def Same.refl (H:Hp):Same H H:=λ_ _ h=>h
def Same.trans {H H1 H2:Hp}(a:Same H H1)(b:Same H1 H2):Same H H2:=λc o h=>b c o (a c o h)
def Same.free {H H':Hp}(e:Same H H'){l:Addr}(h:H' l=Option.none):H l=Option.none:=by
 cases q:H l with
|none=>rfl
|some o=>
   rw[e l o q] at h;cases h
end L2
namespace L2
open PySem PySem.Spec PyProof PyProof.Rows
structure CodeK (K:W.Frag)(c P:Addr):Prop where
 ex:∃(o:Obj) (vs:Array Value) (file:Str) (tf:Tok) (flags:Int) (tg:Tok) (inF:Bool) (text:Int) (tt:Tok),K.lookup c=some o/\o.cls=.type "code"/\o.data=.fields vs/\vs[11]?=some (.ref P)/\vs.getD 11 .none=.ref P/\
  vs.getD 18 .none=.str file tf/\vs.getD 7 .none=.int flags tg/\vs.getD 9 .none=.bool inF/\vs.getD 10 .none=.int text tt/\c≠P
abbrev tabO (ps:Array Value):Obj:={cls:=.none,data:=.fields ps}
def CodeK.of {K:W.Frag}{c P:Addr}{h:Heap}{q:Str}(X:K.In h)(hc:W.codeIn K (.ref c) q=true)(B:Based h h c P #[]):CodeK K c P:=by
 have hl:∃o,K.lookup c=some o:=by
  unfold W.codeIn at hc;cases e:K.lookup c with
 |some o=>exact⟨o,rfl⟩
 |none=>simp only[e] at hc;cases hc
 obtain⟨o,lo⟩:=hl;obtain⟨⟨o1,vs1,a1,a2,a3,a4⟩,_⟩:=B.tab;obtain⟨o2,vs2,file,tf,flags,tg,inF,text,tt,op,b1,b2,b3,b4,b5,b6,b7,b8,b9,b10,b11⟩:=B.code;rw[X _ _ lo] at a1 b1;cases a1;cases b1;rw[a3] at b2;cases b2;exact⟨o,_,file,tf,flags,tg,inF,text,tt,lo,a2,a3,a4,b3,b4,b5,b6,b7,b11⟩
section
variable {X:Cx}{pins:List (Addr×Obj)}{Y:St}{H:Hp}{s:Shared}
def TabC (H:Hp)(ps qs:Array Value):Prop:=TriplesOk qs.toList/\∀pos cv,codeAmong pos qs.toList=some cv->∃c' o u vs t q,cv=Value.ref c'/\H c'=some (.frz o u)/\o.data=.fields vs/\vs[1]?=some (Value.str q t)/\ps[0]?=some (Value.str q 0)
def Inv.tblAt {P:Addr}{ps:Array Value}(I:Inv X pins Y H s)(h:H P=some (.tbl ps)):∃qs:Array Value,s.heap.get? P=some (tabO qs)/\TabC H ps qs:=I.hok P _ h
def Inv.ne_tbl {P b:Addr}{ps:Array Value}(h:H P=some (.tbl ps))(n:H b=none):b≠P:=λz=>by subst z;rw[h] at n;cases n
end
section
variable {X:Cx}{a b c:Expr}{ta tb tc:TE}{pos:Pos}
def rSlS:V->Option Int->Option Int->Hp->VK->Prop:=λx lo hi H Q=>∃z,x=.str z/\z.length<=sizeLine/\Q (.str (Txt.slice z lo hi)) H
def zkm:SlR X rSlS:=by
 intro pins s Y H x v vl vu lo hi sl Q I rx hs pl pu h;obtain⟨z,rfl,hz,q⟩:=h;obtain⟨t,rfl⟩:=rx;refine⟨"str",_,F.slot_str_getitem.lookup,typeIs_str _ _ _,?_⟩;obtain⟨o,e1,e2,e3⟩:=hs;cases pl with
|none=>
   cases pu with
  |none=>exact wbu (l:=none) (u:=none) (st:=none) ⟨o,e1,e2,e3⟩ rfl (post_val_or_str ⟨wam (Txt.slice_le z _ _) hz,λt' k=>⟨.str (Txt.slice z none none),H,I.tok _,⟨_,rfl⟩,q⟩⟩)
  |int j uj=>exact wbu (l:=none) (u:=some (j,uj)) (st:=none) ⟨o,e1,e2,e3⟩ rfl (post_val_or_str ⟨wam (Txt.slice_le z _ _) hz,λt' k=>⟨.str (Txt.slice z none (some j)),H,I.tok _,⟨_,rfl⟩,q⟩⟩)
|int i ui=>
   cases pu with
  |none=>exact wbu (l:=some (i,ui)) (u:=none) (st:=none) ⟨o,e1,e2,e3⟩ rfl (post_val_or_str ⟨wam (Txt.slice_le z _ _) hz,λt' k=>⟨.str (Txt.slice z (some i) none),H,I.tok _,⟨_,rfl⟩,q⟩⟩)
  |int j uj=>exact wbu (l:=some (i,ui)) (u:=some (j,uj)) (st:=none) ⟨o,e1,e2,e3⟩ rfl (post_val_or_str ⟨wam (Txt.slice_le z _ _) hz,λt' k=>⟨.str (Txt.slice z (some i) (some j)),H,I.tok _,⟨_,rfl⟩,q⟩⟩)
def zfE {z:Str}{n:Int}(h1:-1000<=n)(h2:n<=1000)(h3:z.length<=1000):MulOk z n:=by
 refine⟨?_,λh _=>?_,λh _=>?_⟩
 .have e1:¬n < -(2 ^ 63:Int):=by omega
  have e2:¬n≥2 ^ 63:=by omega
  rw[wao e1,wao e2];rfl
 .have:(1000:Int)<=(2 ^ 63 - 1) / n:=by
   rw[Int.le_ediv_iff_mul_le (by omega)];omega
  omega
 .have h4:z.length*n.toNat<=1000*1000:=Nat.mul_le_mul h3 (by omega)
  unfold PySem.Builtin.Str.tooLong;simp only[decide_eq_false_iff_not];have:sizeLine=16777216:=sizeLine_eq
  omega
def op_rep_str:OpR X (binaryOp .Mult) (λx y H Q=>∃z n,x=.str z/\y=.int n/\-1000<=n/\n<=1000/\z.length<=1000/\Q (.str (Txt.mul z n)) H):=by
 intro pins s Y H x y v u Q I rx ry h;obtain⟨z,n,rfl,rfl,h1,h2,h3,q⟩:=h;obtain⟨t,rfl⟩:=rx;obtain⟨t',rfl⟩:=ry;exact SB.mul (zfE h1 h2 h3) λt' k=>⟨.str (Txt.mul z n),H,I.tok _,⟨_,rfl⟩,q⟩
def zfF:zcL X (.builtin "isinstance") (λxs H Q=>∃x n t k,xs = [x,.ty n]/\TyOf X.K H x t/\PySem.W.kitOne X.K t (.type n)=some k/\Q (.bl k) H):=by
 intro pins s Y H xs us Q I r h;obtain⟨x,n,t,k,rfl,ty,e,q⟩:=h;obtain⟨u,w',rfl,r1,r2⟩:=zjf r;obtain rfl:w'=Value.type n:=r2;exact zhE I r1 ty e λtk=>⟨.bl k,H,I.tok _,rfl,q⟩
end
def ObjOk.there {P:Program}{w:World}{H:Hp}{h:Heap}{a:Addr}{o:HO}(x:ObjOk P w H h a o):∃ob,h.get? a=some ob:=by
 induction o with
|lst xs=>obtain⟨z,its,n,r,e⟩:=x;exact⟨_,e⟩
|tup xs=>obtain⟨z,its,r,ob,e,c⟩:=x;exact⟨_,e⟩
|dK kvs=>obtain⟨z,y,vs,r,ob,es,ep,e,c⟩:=x;exact⟨_,e⟩
|dT kvs=>obtain⟨z,y,xs,r,ob,es,ep,e,c⟩:=x;exact⟨_,e⟩
|set S n=>obtain⟨ob,es,ep,t,e,c⟩:=x;exact⟨_,e⟩
|ins C dx fs=>obtain⟨d,z,ne,e,_⟩:=x;exact⟨_,e⟩
|own y=>exact x
|xd fs=>obtain⟨mA,⟨od,es,ep,e,c⟩,r⟩:=x;exact⟨_,e⟩
|rng lo hi=>obtain⟨t,u,v,e⟩:=x;exact⟨_,e⟩
|frz ob u ih=>exact⟨_,x.1⟩
|tbl ps=>obtain⟨_,e,_⟩:=x;exact⟨_,e⟩
|met f y=>exact⟨_,x⟩
|ext φ=>exact x.2.1
section
variable {P:Program}{w:World}{K:W.Frag}{mg:Str->Option Value}{base:Heap}
def Fun.okC {x qual:Str}{st:Stmt}{f:Addr}{fd:FuncData}{N ps:List Str}{k:Nat}{sp:Sp}(F:Fun K x qual st f fd)(S:FnScope N ps (zad st))(len:∀vs H Q E,sp vs H Q E->vs.length=ps.length)
 (hbody:∀(cdv:Value) (A:Around) (outer:List Env) (s:Shared) (H:Hp) (vs:List V) (Q:VK) (E:XK),fd.code=cdv->Room k (A.deeper (envOfC qual (zad st) s.heap.objs.size f cdv))->sp vs H Q E->
  ∃t,PSs (cxOf CX0 P w K mg base N qual (zad st) f cdv A outer s H E).nox (zaT st) t/\t {nx:=λ_ H'=>Q .non H',rt:=Q} (start N vs) H):FnOk P w K mg base CX0 (k+1) f fd ps sp:=by
 obtain⟨oc,od,kV,doc,pm,an,cdv,ct,osl,rfl,lk,hcd⟩:=F.ex;refine zjh lk hcd S len λA outer s H vs Q E hr hsp=>?_
 obtain⟨t,h,q⟩:=hbody cdv A outer s H vs Q E rfl hr hsp;exact⟨t,h.nox,q⟩
end
structure Tabs (K:W.Frag)(h:Heap)(tb:List Addr):Prop where
 at_:∀P∈tb,∃c,h.TableAt c P #[]
 out:∀P∈tb,K.lookup P=none
def zhO {P:Program}{w:World}{K:W.Frag}{mg mb:Str->Option Value}{CX:CXT}{k:Nat}{fa a bm:Addr}{ob:Obj}{fd:FuncData}{x:Str}{sp:Sp}{s₁:Shared}{vs:List Value}{ns:List Int}{tb:List Addr}{nm:Addr->Array Value}
 (KX:K.In s₁.heap) (hns:s₁.heap.Ns mainGlobals mg) (hb:s₁.heap.Ns builtinsNs mb) (hbb:∀x:Str,x≠"__name__"->mb x=bootBuiltins x) (hlim:s₁.heap.NoLimit) (hg:s₁.gens = #[]) (hBM:BMod s₁.heap mainGlobals mg bm ob)
 (ha:s₁.heap.get? a=some {cls:=.type "list",data:=.seq vs.toArray}) (hi:IntsAre vs ns) (hl:ns.length<=sizeLine) (hr:Room k callerA) (hT:Tabs K s₁.heap tb)
 (F:∀base:Heap,K.In base->base.Ns mainGlobals mg->BMod base mainGlobals mg bm ob->FnOk P w K mg base CX k fa fd [x] sp) (hbind:∀(s:Shared) (u:Value),BindsTo s fd ⟨[u],[]⟩ [(x,u)])
 (hsp:∀H:Hp,(∀P∈tb,H P=some (.tbl (nm P)))->SqL K H a (ns.map V.int)->(H a≠none->∃o xs,H a=some (.frz o (.lst xs)))->sp [.ref a] H (λv _=>v=.bl true) λ_ _ _=>False)
 (hCX:∀H e s',CX [] H s₁ (λ_ _ _=>False) e s'->False) :
 codeAny (model P w) callerA (.call (.ref fa) ⟨[.ref a],[]⟩) (λr s'=>r=.ok (.ret (.bool true))/\OldK s₁.heap s'.heap/\s'.os=s₁.os/\AllBare s'.gens) s₁:=by
 have rv:=zeU hi
 have lenV:=hi.length
 have tabAt:∀P∈tb,s₁.heap.get? P=some (tabO #[]):=λP hP=>by obtain⟨c,h⟩:=hT.at_ P hP;exact h.2
 have aT:a∉tb:=λh=>by have:=tabAt a h;rw[ha] at this;cases this
 have core:∀H:Hp,(∀P∈tb,H P=some (.tbl (nm P)))->SqL K H a (ns.map V.int)->HOk P w H s₁.heap->(∀b,H b≠none->b=a\/b∈tb)->(H a≠none->K.lookup a=none/\∃o xs,H a=some (.frz o (.lst xs)))->
  codeAny (model P w) callerA (.call (.ref fa) ⟨[.ref a],[]⟩) (λr s'=>r=.ok (.ret (.bool true))/\OldK s₁.heap s'.heap/\s'.os=s₁.os/\AllBare s'.gens) s₁:=by
  intro H hTb hS hok hA hK;have base_of:∀{b:Addr}{o:Obj},s₁.heap.get? b=some o->H b=none->(hidT s₁.heap H).get? b=some o:=λe n=>zi7 e n
  have noA:∀{b:Addr}{o:Obj},s₁.heap.get? b=some o->o.cls≠.type "list"->(o.cls≠.none\/∃es ep,o.data=.dict es ep)->H b=none:=λ{b o} e d1 d2=>by
   cases q:H b with
  |none=>rfl
  |some u=>
     rcases hA b (by rw[q];simp) with e'|e'
     .subst e';rw[ha] at e;cases e;exact absurd rfl d1
     .rw[tabAt b e'] at e;cases e;rcases d2 with d|⟨es,ep,d⟩
      .exact absurd rfl d
      .cases d
  have noD:∀{b:Addr}{o:Obj}{es:Array DictEntry}{ep:Nat},s₁.heap.get? b=some o->o.data=.dict es ep->H b=none:=λ{b o es ep} e d=>by
   cases q:H b with
  |none=>rfl
  |some u=>
     rcases hA b (by rw[q];simp) with e'|e'
     .subst e';rw[ha] at e;cases e;have d':Data.seq vs.toArray _=Data.dict es ep:=d
      cases d'
     .rw[tabAt b e'] at e;cases e;cases d
  have nsK:∀{b:Addr}{m:Str->Option Value},s₁.heap.Ns b m->(hidT s₁.heap H).Ns b m:=λ{b m} ⟨o,es,ep,e,d,r⟩ =>⟨o,es,ep,base_of e (noD e d),d,r⟩
  have hKb:K.In (hidT s₁.heap H):=λb o e=>base_of (KX b o e) (by
   cases q:H b with
  |none=>rfl
  |some u=>
     rcases hA b (by rw[q];simp) with e'|e'
     .subst e';rw[(hK (by rw[q];simp)).1] at e;cases e
     .rw[hT.out b e'] at e;cases e)
  have hM:Mod K mg (hidT s₁.heap H):=⟨hKb,nsK hns,⟨mb,nsK hb,hbb⟩,let ⟨mc,h1,h2⟩:=hlim;⟨mc,nsK h1,h2⟩⟩
  have hBM':BMod (hidT s₁.heap H) mainGlobals mg bm ob:=⟨nsK hBM.ns,hBM.name,hBM.ne,base_of hBM.obj (noA hBM.obj (by rw[hBM.cls];simp) (.inl (by rw[hBM.cls];simp))),hBM.cls,hBM.dict,hBM.data⟩
  have e0:Env0 P w K mg (hidT s₁.heap H) callerA [] s₁ H:=⟨rfl,hM,λb o e=>zkI e,wba (zhs _ _),trivial,λb hb=>absurd (show b∈([]:List Addr) from hb) (by simp),hok,.of_eq hg⟩
  refine wcl ((F _ hKb (nsK hns) hBM').run callerA [] s₁ H ⟨[.ref a],[]⟩ [.ref a] [.ref a] _ _ hr e0 (hbind s₁ (.ref a)) (.cons rfl .nil) (hsp H hTb hS λz=>(hK z).2)) λr s' h=>?_
  cases r with
 |error e=>exact(hCX H e s' h).elim
 |ok fl=>
    cases fl with
   |next=>exact False.elim h
   |brk=>exact False.elim h
   |cont=>exact False.elim h
   |ret u=>
      obtain⟨v,H',os,bare,un,hok',r',q⟩:=h;have q':v=.bl true:=q
      subst q';obtain rfl:u=Value.bool true:=r';have key:∀b o,s₁.heap.get? b=some o->asItWas s₁.heap s'.heap b o:=λb o e=>by
       cases q:H b with
      |none=>exact .inl (un.keep b o e q (by intro z;exact absurd (show b∈([]:List Addr) from z) (by simp)) (by simp))
      |some u=>
         rcases hA b (by rw[q];simp) with e'|e'
         .subst e';obtain⟨_,oo,xs,z⟩:=hK (by rw[q];simp);have z2:=un.frzs b oo _ z
          obtain⟨e1,_⟩:=hok b _ z;obtain⟨e2,_⟩:=hok' b _ z2;rw[e] at e1;cases e1;exact .inl e2
         .obtain⟨more,z⟩:=un.tbls b _ (hTb b e');obtain⟨qs,e2,_⟩:=hok' b _ z;obtain⟨c,ht⟩:=hT.at_ b e';rw[tabAt b e'] at e;cases e;exact .inr (.inl ⟨ht.isCodeTable,rfl,#[],qs,rfl,by simpa using e2⟩)
      refine⟨rfl,⟨key,λb o e=>un.there b o e (by simp)⟩,os,bare⟩
 cases hk:K.lookup a with
|some o=>
   have e:=KX a o hk
   rw[ha] at e;cases e;refine core (λb=>if b∈tb then some (.tbl (nm b)) else none) (λP hP=>if_pos hP) (.inr ⟨_,vs.toArray,_,hk,rfl,rfl,rfl,by rw[wac,lenV];exact hl,by simpa using rv⟩) (λb u z=>?_) (λb z=>?_) λz=>absurd (if_neg aT) z
   .by_cases hb':b∈tb
    .have z':=(if_pos hb').symm.trans z
     cases z';exact⟨#[],tabAt b hb',trivial,λpos cv q=>by simp[codeAmong] at q⟩
    .have z':=(if_neg hb').symm.trans z
     cases z'
   .by_cases hb':b∈tb
    .exact .inr hb'
    .exact absurd (if_neg hb') z
|none=>
   have hA:∀b,(if b=a then some (HO.frz {cls:=.type "list",data:=.seq vs.toArray} (.lst (ns.map V.int))) else if b∈tb then some (.tbl (nm b)) else none:Option HO)≠none->b=a\/b∈tb:=λb z=>by
    by_cases h1:b=a
    .exact .inl h1
    .rw[if_neg h1] at z;by_cases h2:b∈tb
     .exact .inr h2
     .rw[if_neg h2] at z;exact absurd rfl z
   refine core (λb=>if b=a then some (.frz {cls:=.type "list",data:=.seq vs.toArray} (.lst (ns.map V.int))) else if b∈tb then some (.tbl (nm b)) else none) (λP hP=>?_) (.inl (.inr ⟨{cls:=.type "list",data:=.seq vs.toArray},if_pos rfl⟩)) (λb u z=>?_) hA λ_=>⟨hk,_,_,if_pos rfl⟩
   .have:P≠a:=λz=>aT (z▸hP)
    show(if P=a then _ else if P∈tb then _ else _)=_
    rw[if_neg this,if_pos hP]
   .by_cases hb':b=a
    .have z':=(if_pos hb').symm.trans z
     cases z';subst hb';exact⟨ha,by rw[waG];exact hl,vs,_,rv,ha⟩
    .have z':=(if_neg hb').symm.trans z
     by_cases h2:b∈tb
     .have z2:=(if_pos h2).symm.trans z'
      cases z2;exact⟨#[],tabAt b h2,trivial,λpos cv q=>by simp[codeAmong] at q⟩
     .have z2:=(if_neg h2).symm.trans z'
      cases z2
def zfG {K:W.Frag}{h:Heap}{mg:Str->Option Value}{c P:Addr}{ps:Array Value}(X:K.In h)(G:h.Ns mainGlobals mg)(B:Based h h c P ps)(hK:PySem.W.kb_classed K=true):K.lookup P=none:=by
 cases e:K.lookup P with
|none=>rfl
|some o=>
   have ha:=X P o e
   have q:=waJ.mp hK (P,o) (PySem.W.kb_mem e)
   simp only[Bool.or_eq_true,decide_eq_true_eq,beq_iff_eq] at q;rcases q with(q|q)|q
   .exact absurd rfl (B.ne_of_cls ha q)
   .exact absurd q B.notStatics
   .exact absurd q.symm (B.ne_of_ns G)
def zjk {l:PySem.W.OpenLaw}{n k:Nat}{q:Program}{loose:List Str}{XP:(Str->Option Value)->Heap->Prop}{YP:World->Heap->Prop}{d:DefRec}{K:Params->W.Frag}{CX:World->CXT}{sp:World->List Addr->(Addr->Array Value)->Sp}{x:Str}
 (hn:l.most=some n) (hn2:n<=sizeLine) (hdf:d.params.defaults = []) (hr:Room k callerA)
 (hY:∀(w:World) (h:Heap),YP w h->(K w.params).In h)
 (F:∀(w:World) (mg mb:Str->Option Value) (mean:ExcName->Option Value) (fa:Addr) (h:Heap),(K w.params).In h->Top q (PySem.W.looseW q loose) mean mg mb h->mg d.name=some (.ref fa)->
  ∃(fd:FuncData) (tb:List Addr) (nm:Addr->Array Value),Tabs (K w.params) h tb/\(∀(s:Shared) (u:Value),BindsTo s fd ⟨[u],[]⟩ [(x,u)])/\
   ∀(base:Heap) (bm:Addr) (ob:Obj),(K w.params).In base->base.Ns mainGlobals mg->BMod base mainGlobals mg bm ob->FnOk l.prog w (K w.params) mg base (CX w) k fa fd [x] (sp w tb nm))
 (hsp:∀(w:World) (tb:List Addr) (nm:Addr->Array Value) (H:Hp) (a:Addr) (ns:List Int),ns.length<=n->(∀P∈tb,H P=some (.tbl (nm P)))->SqL (K w.params) H a (ns.map V.int)->(H a≠none->∃o xs,H a=some (.frz o (.lst xs)))->sp w tb nm [.ref a] H (λv _=>v=.bl true) λ_ _ _=>False)
 (hCX:∀(w:World) (H:Hp) (s:Shared) (e:Value) (s':Shared),CX w [] H s (λ_ _ _=>False) e s'->False) :
 PySem.W.WalkO q loose XP YP l.row.toRowW d [] (λf vs=>PySem.call f vs):=by
 refine Att.attach_call hn hdf λw s₀ s₁ mg mb fa o pm cd doc a vs ns G Y ho hd hcd hmg hobj hints hlen hg=>?_
 have KX:=hY w _ Y
 obtain⟨fd,tb,nm,hT,hb,hF⟩:=F w mg mb _ fa _ KX G.T hmg;obtain⟨bm,ob,hBM⟩:=PySem.W.bmod_of_top G.T;exact zhO KX G.T.g G.T.b G.T.builtins G.T.nolimit hg hBM hobj hints (wam hlen hn2) hr hT (λbase h1 h2 h3=>hF base bm ob h1 h2 h3) hb (λH hO hS hF=>hsp w tb nm H a ns hlen hO hS hF) λH e s'=>hCX w H s₁ e s'
def PTs (X:Cx)(ifs:List Expr)(t:TT):Prop:=
 ∀(pins:List (Addr×Obj)) (s:Shared) (Y:St) (H:Hp) (Q:Bool->Hp->Prop),Inv X pins Y H s->t Y H Q->
  wpAny (model X.prog X.w) X.A (forIn ifs true λc r=>if r=true then do let ok <-isTrue c X.env (eval c X.env);pure (ForInStep.yield ok) else pure (ForInStep.yield r)) (TP X pins Y Q) X.xe s
def zk1:TT:=λ_ H Q=>Q true H
def zk2 {X:Cx}:PTs X [] zk1:=λ_ _ _ H _ I h=>wpAny_tests_nil ⟨H,I,h⟩
def cxC (X:Cx)(scope:Scope)(cl:List (Str×Addr))(NC:List Str)(C:Addr)(s0:Shared)(H0:Hp)(ex:List Addr)(pn:List (Addr×Obj)):Cx where
 prog:=X.prog
 w:=X.w
 K:=X.K
 mg:=X.mg
 base:=X.base
 A:=X.A
 N:=NC
 s₀:=s0
 Hz:=H0
 env:=compEnvC scope cl C X.env
 outer:=X.stack
 stack:=X.stack
 ex:=ex
 fn:=λ_=>false
 calm:=true
 pn:=pn
 xe:=λ_ _=>False
def pick (Y:St)(fr:List (Option Nat)):St:=fr.map λo=>o.bind λj=>(Y[j]?).join
def zhP {prog:Program}{w:World}{A:Around}{R:Result->Shared->Prop}{s:Shared}{elt target iter:Expr}{ifs:List Expr}{scope:Scope}{pos:Pos}{it acc:Value}{env:Env}(I:Nat->Shared->Prop)
 (turn:∀n s,I n s->wpAny (model prog w) A (pyNext it) (λr s1=>
  (r=none->R (.ok .next) s1)/\∀v,r=some v->wpAny (model prog w) A (letOwnedTupleGo target it v) (λ_ s2=>wpAny (model prog w) A (assign target env v) (λ_ s3=>
   wpAny (model prog w) A (forIn ifs true λc r=>if r=true then do let ok <-isTrue c env (eval c env);pure (ForInStep.yield ok) else pure (ForInStep.yield r)) (λok s4=>
    (ok=true->wpAny (model prog w) A (eval elt env) (λx s5=>wpAny (model prog w) A (call (.builtin "list.append") [acc,x]) (λ_ s6=>∃m,m<n/\I m s6) (λ_ _=>False) s5) (λ_ _=>False) s4)/\
    (ok=false->∃m,m<n/\I m s4)) (λ_ _=>False) s3) (λ_ _=>False) s2) (λ_ _=>False) s1) (λ_ _=>False) s)
 (n:Nat) (h:I n s):codeAny (model prog w) A (.compLoop (.ListComp elt [⟨target,iter,ifs,0⟩] scope pos) 0 it acc env) R s:=by
 refine codeAny_loop rfl I (λn s hI=>?_) n h;refine wpAny_noted (m:=compTurn (.ListComp elt [⟨target,iter,ifs,0⟩] scope pos) 0 it acc env) ?_;rw[compTurn_list];refine waa (wbh (waa (war (turn n s hI) (λr s1 h1=>?_) λ_ _ f=>f.elim)));cases r with
|none=>exact wae (h1.1 rfl)
|some v=>
   refine waa (war (h1.2 v rfl) (λ_ s2 h2=>?_) λ_ _ f=>f.elim);refine waa (war h2 (λ_ s3 h3=>?_) λ_ _ f=>f.elim);refine waa (war h3 (λok s4 h4=>?_) λ_ _ f=>f.elim);cases ok with
  |false=>exact wae ⟨rfl,h4.2 rfl⟩
  |true=>exact waa (waa (war (h4.1 rfl) (λx s5 h5=>waa (war h5 (λ_ s6 h6=>wae (wae ⟨rfl,h6⟩)) λ_ _ f=>f.elim)) λ_ _ f=>f.elim))
def tGen {τ:Type}(ac:τ->HO)(t0:τ)(fr:List (Option Nat))(wi:TI)(g:TG)(tt:TT)(tel:Addr->τ->St->Hp->(τ->Hp->Prop)->Prop):TE:=λY H Q=>wi Y H λJ H1=>∀D,H1 D=none->∃W:Nat->Nat->τ->St->Hp->Prop,
 (∃m,W 0 m t0 (pick Y fr) (upd H1 D (ac t0)))/\∀i m ys Y2 H2,W i m ys Y2 H2->H2 D=some (ac ys)->
  (J.stop i H2/\Q (.ref D) H2)\/(J.go i H2/\∃N:τ->St->Hp->Prop,(∀zs Y' H',N zs Y' H'->∃m',m'<m/\W (i+1) m' zs Y' H')/\∀x H3,J.yld i H2 x H3->g x Y2 H3 λY4 H4=>tt Y4 H4 λok H5=>
   (ok=true->tel D ys Y4 H5 λzs H6=>N zs Y4 H6)/\
   (ok=false->H5 D=some (ac ys)/\N ys Y4 H5))
def telL (te:TE)(D:Addr)(ys:List V)(Y:St)(H:Hp)(Q:List V->Hp->Prop):Prop:=te Y H λv H6=>H6 D=some (.lst ys)/\ys.length<sizeLine/\Q (ys++[v]) (upd H6 D (.lst (ys++[v])))
def zhQ (fr:List (Option Nat))(wi:TI)(g:TG)(tt:TT)(te:TE):TE:=tGen HO.lst [] fr wi g tt (telL te)
abbrev ElR:=Env->Addr->(Shared->Prop)->Shared->Prop
def zn8 (P:Program)(w:World)(A:Around)(cexp tg:Expr)(ifs:List Expr)(EL:ElR):Prop:=∀{R:Result->Shared->Prop}{s:Shared}{it:Value}{D:Addr}{env:Env}(I:Nat->Shared->Prop)
    (_:∀n s,I n s->wpAny (model P w) A (pyNext it) (λr s1=>
     (r=none->R (.ok .next) s1)/\∀v,r=some v->wpAny (model P w) A (letOwnedTupleGo tg it v) (λ_ s2=>wpAny (model P w) A (assign tg env v) (λ_ s3=>
      wpAny (model P w) A (forIn ifs true λc r=>if r=true then do let ok <-isTrue c env (eval c env);pure (ForInStep.yield ok) else pure (ForInStep.yield r)) (λok s4=>
       (ok=true->EL env D (λs6=>∃m,m<n/\I m s6) s4)/\
       (ok=false->∃m,m<n/\I m s4)) (λ_ _=>False) s3) (λ_ _=>False) s2) (λ_ _=>False) s1) (λ_ _=>False) s)
    (n:Nat) (_:I n s),codeAny (model P w) A (.compLoop cexp 0 it (.ref D) env) R s
def zmv (P:Program)(w:World)(A:Around)(cexp:Expr):Prop:=∀{R:Result->Shared->Prop}{s:Shared}{it acc:Value}{env:Env},codeAny (model P w) A (.compLoop cexp 0 it acc env) R s->
    wpAny (model P w) A (pyIter it) (λit' s'=>codeAny (model P w) A (.compLoop cexp 0 it' acc env) R s') (notedBy (model P w) A env λx s'=>R (.error x) s') s->codeAny (model P w) A (.compStart cexp 0 it acc env) R s
def zjl {X:Cx}{τ:Type}{ac:τ->HO}{t0:τ}{Tn:String}{dt:Data}{cexp:Expr}{EL:ElR}{tel:Addr->τ->St->Hp->(τ->Hp->Prop)->Prop}{use:Option (Value->Sem Unit)}{R:Value->Shared->Prop}{pins:List (Addr×Obj)}{s:Shared}{Y:St}{H:Hp}{Q:VK}{cpos:Pos}{iter tg:Expr}{ifs:List Expr}{scope:Scope}{cl:List (Str×Addr)}{NC:List Str}{fr:List (Option Nat)}{wi:TI}{g:TG}{tt:TT}{RR:Hp->Prop}(hRR:∀pins Y H s,Inv X pins Y H s->RR H)(hcalm:X.calm=true)(hi:PI X tg iter wi)
 (hclos:closureFor scope X.env=pure cl) (hcell:∀y∈scope.names,y.2≠.cell) (hkind:scope.kind=.function) (hnames:∀y∈scope.names,y.2=.local->scope.names.lookup y.1=some .local)
 (hcl:∀x c,cl.lookup x=some c->X.env.cells.lookup x=some c)
 (hhas:∀x,((compEnvC scope cl 0 X.env).kindOf x=some .cell\/(compEnvC scope cl 0 X.env).kindOf x=some .free)->∃c,cl.lookup x=some c)
 (hfr:∀(i:Nat) (x:Str) (j:Nat),NC[i]?=some x->fr[i]?=some (some j)->X.N[j]?=some x/\Vis X.env.scope x/\X.env.kindOf x≠some .local/\((compEnvC scope cl 0 X.env).kindOf x=some .cell\/(compEnvC scope cl 0 X.env).kindOf x=some .free))
 (hlen:fr.length=NC.length)
 (hg:∀C s0 H0 ex pn,PG (cxC X scope cl NC C s0 H0 ex pn) tg g) (ht:∀C s0 H0 ex pn,PTs (cxC X scope cl NC C s0 H0 ex pn) ifs tt) (hcls:clausesOf cexp = [⟨tg,iter,ifs,0⟩]) (hd:sizeOk dt)
 (hob:∀{pins Y H H' s},Inv X pins Y H s->ObjOk X.prog X.w H' (s.heap.push {cls:=.type Tn,dict:=none,data:=dt}) s.heap.objs.size (ac t0)) (LP:zn8 X.prog X.w X.A cexp tg ifs EL) (SR:zmv X.prog X.w X.A cexp)
 (hel:∀C s0 H0 ex pn,RR H0->∀(pins:List (Addr×Obj)) (D:Addr) (ys:τ) (s:Shared) (Y:St) (H:Hp) (Po:Shared->Prop) (F:τ->Hp->Prop),Inv (cxC X scope cl NC C s0 H0 ex pn) pins Y H s->tel D ys Y H F->
  (∀s' zs H',Inv (cxC X scope cl NC C s0 H0 ex pn) pins Y H' s'->H' D=some (ac zs)->F zs H'->Po s')->EL (compEnvC scope cl C X.env) D Po s)
 (hs:∀x,foldedSetIterable iter X.env x=pure x) (I:Inv X pins Y H s) (h:tGen ac t0 fr wi g tt tel Y H Q)
 (hfin:∀(C D:Addr) (H':Hp) (s':Shared) (m:Str->Option Value),Inv X pins Y H' s'->s'.heap.Ns C m->FpOk X pins H' C->Q (.ref D) H'->compPost (model X.prog X.w) X.A X.xe use R (.ref D) C (.ok .next) s') :
 wpAny (model X.prog X.w) X.A (comprehension cexp scope X.env cpos (newObj (.type Tn) dt none) false (eval iter X.env) use) R X.xe s:=by
 refine wpAny_comprehension_free (use:=use) (g:=⟨tg,iter,ifs,0⟩) (gs:=[]) hcls hs hclos hkind hnames (thn (hi pins s Y H _ I h) λv s1 h1=>thn h1 λitv s2 h2=>?_);obtain⟨it,fp,tn,J,H1,e,I2,T,st2,f2,hW⟩:=h2;subst e;refine waQ (wpAny_newFunctionEnv hcell (by intro y hy;simp at hy) (λh4 hn4 hs4=>?_) hkind) hd;have hD0:H1 s2.heap.objs.size=none:=I2.hok.fresh (wai _)
 obtain⟨W,⟨m0,w0⟩,turn⟩:=hW s2.heap.objs.size hD0;generalize hDe:s2.heap.objs.size=D at hD0 w0 turn;generalize h3e:s2.heap.push {cls:=.type Tn,dict:=none,data:=dt}=h3 at hn4 hs4;have sz3:h3.objs.size=D+1:=by rw[<-h3e,wbj,hDe]
 have k3:∀b o,s2.heap.get? b=some o->h3.get? b=some o:=λb o e=>by rw[<-h3e];exact wab _ e
 have ltD:∀{b:Addr}{o:Obj},s2.heap.get? b=some o->b<D:=λe=>by rw[<-hDe];exact wad e
 have I3:Inv X pins Y (upd H1 D (ac t0)) {s2 with heap:=h3}:=I2.laid (h':=h3) (t':=s2.toks) k3 (wba hDe) (by rw[<-h3e,<-hDe];exact hob I2)
 have rH:=hRR _ _ _ _ I3
 generalize hCe:h3.objs.size=C at hn4 hs4;have k4:∀b o,h3.get? b=some o->h4.get? b=some o:=λb o e=>hs4.extBut b o (λz=>by rw[z,<-hCe] at e;exact absurd (wad e) (waK _)) (wab _ e)
 have ltC:∀{b:Addr}{o:Obj},h3.get? b=some o->b<C:=λe=>by rw[<-hCe];exact wad e
 have hne:∀(c:Env->Addr),True:=λ_=>trivial
 have okC:(cxC X scope cl NC C {s2 with heap:=h3} (upd H1 D (ac t0)) fp (X.pn++pins)).Ok:=by
  refine⟨I.ok.mod,?_,I.ok.glob,I.ok.blt,wba hCe,λx y c h1 h2=>I.ok.inj x y c (hcl x c h1) (hcl y c h2),λx hx=>hhas x hx,λx c hf _=>(by cases hf),λ_=>I.ok.hd hcalm,I.ok.frames,.inl rfl,λb hb=>⟨?_,λx c e=>?_⟩,λb o e=>I3.bs b o e,?_,λb o e hb=>?_,λb hb hf=>?_,?_,λb hb=>I3.stkFree b hb⟩
  .show(relabel scope X.env).kind=.function
   exact hkind
  .obtain⟨o,eo,_⟩:=T.obj _ _ st2 b hb;exact wap (ltC (k3 b o eo))
  .exact(f2 b hb).2.2.2.2.1 x c (hcl x c e)
  .exact wam I.ok.bsz I3.sz
  .obtain⟨e1,_⟩:=I.ok.bs b o e;have f:=f2 b hb
   rcases f.2.2.2.1 with z|z
   .exact I.ok.noex b o e z
   .exact absurd (wak (wad e1) z) (waK _)
  .rcases wah.mp (I2.stkSub b hf) with z|z
   .exact(f2 b hb).2.1 z
   .exact(f2 b hb).2.2.1 z
  .exact I3.stack
 have IC:Inv (cxC X scope cl NC C {s2 with heap:=h3} (upd H1 D (ac t0)) fp (X.pn++pins)) [] (pick Y fr) (upd H1 D (ac t0)) {s2 with heap:=h4,toks:=s2.toks+([]:List (Str×Value)).length}:=by
  refine⟨okC,rfl,I2.bare,Un.kept k4,⟨_,hn4,λi x v hN hv hvis=>?_⟩,λx c e=>?_,?_,λx c e=>I3.freeC x c (hcl x c e),λp hp=>?_,I3.hok.kept k4,?_⟩
  .have hfi:∃j,fr[i]?=some (some j)/\Y[j]?=some (some v):=by
    unfold pick at hv;rw[waC] at hv;cases e1:fr[i]? with
   |none=>rw[e1] at hv;cases hv
   |some o=>
      rw[e1] at hv;cases o with
     |none=>cases hv
     |some j=>
        refine⟨j,rfl,?_⟩;have hv':(Y[j]?).join=some v:=waq hv
        cases e2:Y[j]? with
       |none=>rw[e2] at hv';cases hv'
       |some w'=>rw[e2] at hv';exact wbJ some hv'
   obtain⟨j,hj,hσ⟩:=hfi;obtain⟨q1,q2,q3,q4⟩:=hfr i x j hN hj;obtain⟨m,hm,hl⟩:=I3.loc;obtain⟨u,ru,lk⟩:=hl j x v q1 hσ q2;refine⟨u,ru,?_⟩;rcases lk with⟨z,_⟩|⟨_,c,ec,ic⟩
   .exact absurd z q3
   .obtain⟨c',ec'⟩:=hhas x q4;have:c'=c:=by rw[hcl x c' ec'] at ec;exact waq ec
    subst this;obtain⟨oc,h1,h2⟩:=ic;exact .inr ⟨q4,c',ec',oc,k4 _ _ h1,h2⟩
  .obtain⟨v,oc,h1,h2⟩:=I3.cell x c (hcl x c e);exact⟨v,oc,k4 _ _ h1,h2⟩
  .show upd H1 D (ac t0) C=none
   exact I3.hok.fresh (wba hCe)
  .have hp':p∈X.pn++pins:=by simpa[cxC] using hp
   obtain⟨e1,e2,e3,e4,e5⟩:=I3.pin p hp';refine⟨k4 _ _ e1,e2,wap (ltC e1),λz=>?_,e5⟩;rcases wah.mp (I2.stkSub p.1 z) with z'|z'
   .exact e3 z'
   .exact e4 z'
  .unfold pick;rw[waG];exact hlen
 have fC:∀b∈fp,FpOk (cxC X scope cl NC C {s2 with heap:=h3} (upd H1 D (ac t0)) fp (X.pn++pins)) [] H1 b:=λb hb=>by
  obtain⟨q1,q2,q3,q4,q5,q6⟩:=f2 b hb;obtain⟨o,eo,_⟩:=T.obj _ _ st2 b hb;refine⟨q1,wap (ltC (k3 b o eo)),λz=>?_,.inl hb,λx c e=>q5 x c (hcl x c e),λp hp=>q6 p (by simpa[cxC] using hp)⟩;rcases wah.mp (I2.stkSub b z) with z'|z'
  .exact q2 z'
  .exact q3 z'
 have stat:∀{H':Hp},(∀b∈fp,H' b=none)->∀b∈fp,FpOk (cxC X scope cl NC C {s2 with heap:=h3} (upd H1 D (ac t0)) fp (X.pn++pins)) [] H' b:=λhn b hb=>⟨hn b hb,(fC b hb).2⟩
 have fD:∀b∈fp,b≠D:=λb hb z=>by
  obtain⟨o,eo,_⟩:=T.obj _ _ st2 b hb;have:=ltD eo
  rw[z] at this;exact absurd this (waK _)
 have st4:tn 0 h4:=T.keep _ _ _ st2 λb hb o e=>k4 b o (k3 b o e)
 have fin:∀{Y':St}{H':Hp}{s':Shared},Inv (cxC X scope cl NC C {s2 with heap:=h3} (upd H1 D (ac t0)) fp (X.pn++pins)) [] Y' H' s'->Q (.ref D) H'->compPost (model X.prog X.w) X.A X.xe use R (.ref D) C (.ok .next) s':=λ{Y' H' s'} I' q'=>by
  obtain⟨m,hm,_⟩:=I'.loc;have hfp:FpOk X pins H' C:=⟨I'.free,(I3.fpOk (wba hCe) (I3.hok.fresh (wba hCe))).2⟩
  refine hfin C D H' s' m ?_ hm hfp q';have nC:∀{b:Addr}{o:Obj},s2.heap.get? b=some o->b≠C:=λe=>wap (ltC (k3 _ _ e))
  have nD:∀{b:Addr}{o:Obj},s2.heap.get? b=some o->b≠D:=λe=>wap (ltD e)
  refine I2.call' (s':=s') (ch:=fp) ?_ ⟨λb o e n hf hx=>?_,λb o e n hf hx=>?_,λb o e n hx=>?_,λb o e hx=>?_,λb xs e=>?_,λb o u e=>?_,λb ps e=>?_⟩ (λb u e=>?_) I'.bare λb hb=>?_
  .exact I'.os
  .exact(I'.base.keep b o (k3 b o e) (by show upd H1 D _ b=none;rw[zag (nD e)];exact n) hf hx)
  .obtain⟨sl,z⟩:=I'.base.slot b o (k3 b o e) (by show upd H1 D _ b=none;rw[zag (nD e)];exact n) hf hx;exact⟨sl,z⟩
  .exact I'.base.free b o (k3 b o e) (by show upd H1 D _ b=none;rw[zag (nD e)];exact n) hx
  .obtain⟨o',z⟩:=I'.base.there b o (k3 b o e) hx;exact⟨o',z⟩
  .exact I'.base.tups b xs (by show upd H1 D _ b=_;rw[zag (zax e hD0)];exact e)
  .exact I'.base.frzs b o u (by show upd H1 D _ b=_;rw[zag (zax e hD0)];exact e)
  .exact I'.base.tbls b ps (by show upd H1 D _ b=_;rw[zag (zax e hD0)];exact e)
  .exact I'.hok b u e
  .obtain⟨q1,q2,q3,q4,q5,q6⟩:=f2 b hb;exact⟨q4,q2,q5,q6⟩
 have loop:codeAny (model X.prog X.w) X.A (.compLoop cexp 0 (.ref it) (.ref D) (compEnvC scope cl C X.env)) (compPost (model X.prog X.w) X.A X.xe use R (.ref D) C) {s2 with heap:=h4,toks:=s2.toks+([]:List (Str×Value)).length}:=by
  refine LP (λn s'=>∃i ys Y' H',Inv (cxC X scope cl NC C {s2 with heap:=h3} (upd H1 D (ac t0)) fp (X.pn++pins)) [] Y' H' s'/\tn i s'.heap/\(∀b∈fp,H' b=none)/\H' D=some (ac ys)/\W i n ys Y' H') ?_ m0 ⟨0,t0,_,_,IC,st4,λb hb=>by rw[zag (fD b hb)];exact(f2 b hb).1,zai,w0⟩;rintro n s3 ⟨i,ys,Y3,H3,J3,st3,fr3,hD3,w3⟩;rcases turn i n ys Y3 H3 w3 hD3 with⟨stop,qn⟩|⟨go,N,hN,step⟩
  .refine thn (T.done (cxC X scope cl NC C {s2 with heap:=h3} (upd H1 D (ac t0)) fp (X.pn++pins)) rfl rfl rfl rfl i [] s3 Y3 H3 _ J3 (stat fr3) st3 stop) λr s4 ⟨hr,J4⟩ =>⟨λ_=>fin J4 qn,λv z=>?_⟩
   rw[hr] at z;cases z
  .refine thn (T.item (cxC X scope cl NC C {s2 with heap:=h3} (upd H1 D (ac t0)) fp (X.pn++pins)) rfl rfl rfl rfl i [] s3 Y3 H3 _ J3 (stat fr3) st3 go) λr s4 ⟨u,hr,h4'⟩ =>⟨λz=>?_,λv z=>?_⟩
   .rw[hr] at z;cases z
   rw[hr] at z;cases z;refine thn h4' λ_ s5 ⟨x,H5,J5,r5,y5,st5,fr5⟩ =>?_
   have J5':=J5.pinned (stat fr5) (T.obj _ _ st5)
   refine thn (hg C _ _ fp _ _ s5 Y3 H5 x _ _ J5' r5 (step x H5 y5)) λ_ s6 ⟨Y6,H6,J6,q6⟩ =>?_
   have back:∀{Y7:St}{H7:Hp}{s7:Shared},Inv (cxC X scope cl NC C {s2 with heap:=h3} (upd H1 D (ac t0)) fp (X.pn++pins)) ([]++zeK fp s5.heap) Y7 H7 s7->tn (i+1) s7.heap/\∀b∈fp,H7 b=none:=λ{Y7 H7 s7} J7=>
    ⟨T.keep _ _ _ st5 λb hb o e=>(J7.pin (b,o) (wan _ (wan _ (zbA hb e)))).1,λb hb=>by
     obtain⟨o,e,d⟩:=T.obj _ _ st5 b hb;exact(J7.pin (b,o) (wan _ (wan _ (zbA hb e)))).2.1⟩
   refine thn (ht C _ _ fp _ _ s6 Y6 H6 _ J6 q6) λok s7 ⟨H7,J7,q7⟩ =>⟨λhok=>?_,λhok=>?_⟩
   .refine hel C _ _ fp _ rH _ D ys s7 Y6 H7 _ _ J7 (q7.1 hok) λs9 zs H9 J9 hD9 n9=>?_
    obtain⟨m',hm,w8⟩:=hN _ _ _ n9;obtain⟨b1,b2⟩:=back J9;exact⟨m',hm,i+1,_,_,_,J9.unpinned,b1,b2,hD9,w8⟩
   .obtain⟨hD7,n7⟩:=q7.2 hok;obtain⟨m',hm,w7⟩:=hN _ _ _ n7;obtain⟨b1,b2⟩:=back J7;exact⟨m',hm,i+1,_,_,_,J7.unpinned,b1,b2,hD7,w7⟩
 exact SR loop (T.self X.A 0 _ _ _ st4 loop)
def zjm {X:Cx}{use:Option (Value->Sem Unit)}{R:Value->Shared->Prop}{pins:List (Addr×Obj)}{s:Shared}{Y:St}{H:Hp}{Q:VK}{cpos:Pos}{elt iter tg:Expr}{ifs:List Expr}{scope:Scope}{pos:Pos}{cl:List (Str×Addr)}{NC:List Str}{fr:List (Option Nat)}{wi:TI}{g:TG}{tt:TT}{te:TE}{RR:Hp->Prop}(hRR:∀pins Y H s,Inv X pins Y H s->RR H)(hcalm:X.calm=true)(hi:PI X tg iter wi)
 (hclos:closureFor scope X.env=pure cl) (hcell:∀y∈scope.names,y.2≠.cell) (hkind:scope.kind=.function) (hnames:∀y∈scope.names,y.2=.local->scope.names.lookup y.1=some .local)
 (hcl:∀x c,cl.lookup x=some c->X.env.cells.lookup x=some c)
 (hhas:∀x,((compEnvC scope cl 0 X.env).kindOf x=some .cell\/(compEnvC scope cl 0 X.env).kindOf x=some .free)->∃c,cl.lookup x=some c)
 (hfr:∀(i:Nat) (x:Str) (j:Nat),NC[i]?=some x->fr[i]?=some (some j)->X.N[j]?=some x/\Vis X.env.scope x/\X.env.kindOf x≠some .local/\((compEnvC scope cl 0 X.env).kindOf x=some .cell\/(compEnvC scope cl 0 X.env).kindOf x=some .free))
 (hlen:fr.length=NC.length)
 (hg:∀C s0 H0 ex pn,PG (cxC X scope cl NC C s0 H0 ex pn) tg g) (ht:∀C s0 H0 ex pn,PTs (cxC X scope cl NC C s0 H0 ex pn) ifs tt) (he:∀C s0 H0 ex pn,RR H0->PE (cxC X scope cl NC C s0 H0 ex pn) elt te)
 (hs:∀x,foldedSetIterable iter X.env x=pure x) (I:Inv X pins Y H s) (h:zhQ fr wi g tt te Y H Q)
 (hfin:∀(C D:Addr) (H':Hp) (s':Shared) (m:Str->Option Value),Inv X pins Y H' s'->s'.heap.Ns C m->FpOk X pins H' C->Q (.ref D) H'->compPost (model X.prog X.w) X.A X.xe use R (.ref D) C (.ok .next) s') :
 wpAny (model X.prog X.w) X.A (comprehension (.ListComp elt [⟨tg,iter,ifs,0⟩] scope pos) scope X.env cpos (newList []) false (eval iter X.env) use) R X.xe s:=by
 refine zjl (Tn:="list") (dt:=.seq ([]:List Value).toArray) (ac:=HO.lst) (t0:=[]) (tel:=telL te) (EL:=λenv D Q s=>wpAny (model X.prog X.w) X.A (eval elt env) (λx s5=>wpAny (model X.prog X.w) X.A (call (.builtin "list.append") [.ref D,x]) (λ_ s6=>Q s6) (λ_ _=>False) s5) (λ_ _=>False) s)
  hRR hcalm hi hclos hcell hkind hnames hcl hhas hfr hlen hg ht rfl (by size_fits) (λI=>⟨waT _,[],0,.nil,wat _ rfl⟩) (λI turn n h=>zhP I turn n h) (λa b=>codeAny_compStart_list (rest:=[]) a b) (λC s0 H0 ex pn rH pins D ys s Y H Po F J q k=>?_) hs I h hfin
 refine thn (he C _ _ _ _ rH _ s Y H _ J q) λxv s8 ⟨v,H8,J8,r8,hD8,hz,n8⟩ =>?_
 refine thn (zeT (X:=cxC X scope cl NC C s0 H0 ex pn) _ s8 Y H8 (.ref D) [v] (.ref D) [xv] (λ_ H9=>H9=upd H8 D (.lst (ys++[v]))) J8 rfl (.cons r8 .nil) ⟨D,ys,v,rfl,rfl,hD8,hz,rfl⟩) λ_ s9 ⟨_,H9,J9,_,e9⟩ =>?_
 subst e9;exact k s9 _ _ J9 zai n8
def zjn {X:Cx}{elt iter tg:Expr}{ifs:List Expr}{scope:Scope}{pos:Pos}{cl:List (Str×Addr)}{NC:List Str}{fr:List (Option Nat)}{wi:TI}{g:TG}{tt:TT}{te:TE}{RR:Hp->Prop}(hRR:∀pins Y H s,Inv X pins Y H s->RR H)(hcalm:X.calm=true)(hi:PI X tg iter wi)
 (hclos:closureFor scope X.env=pure cl) (hcell:∀y∈scope.names,y.2≠.cell) (hkind:scope.kind=.function) (hnames:∀y∈scope.names,y.2=.local->scope.names.lookup y.1=some .local)
 (hcl:∀x c,cl.lookup x=some c->X.env.cells.lookup x=some c)
 (hhas:∀x,((compEnvC scope cl 0 X.env).kindOf x=some .cell\/(compEnvC scope cl 0 X.env).kindOf x=some .free)->∃c,cl.lookup x=some c)
 (hfr:∀(i:Nat) (x:Str) (j:Nat),NC[i]?=some x->fr[i]?=some (some j)->X.N[j]?=some x/\Vis X.env.scope x/\X.env.kindOf x≠some .local/\((compEnvC scope cl 0 X.env).kindOf x=some .cell\/(compEnvC scope cl 0 X.env).kindOf x=some .free))
 (hlen:fr.length=NC.length)
 (hg:∀C s0 H0 ex pn,PG (cxC X scope cl NC C s0 H0 ex pn) tg g) (ht:∀C s0 H0 ex pn,PTs (cxC X scope cl NC C s0 H0 ex pn) ifs tt) (he:∀C s0 H0 ex pn,RR H0->PE (cxC X scope cl NC C s0 H0 ex pn) elt te)
 (hs:∀x,foldedSetIterable iter X.env x=pure x:=by intro _;rfl):PE X (.ListComp elt [⟨tg,iter,ifs,0⟩] scope pos) (zhQ fr wi g tt te):=by
 intro pins s Y H Q I h;rw[eval_ListComp];refine zjm (use:=none) (R:=EP X pins Y Q) hRR hcalm hi hclos hcell hkind hnames hcl hhas hfr hlen hg ht he hs I h λC D H' s' m I' hm hfp q=>?_
 obtain⟨f0,f1,f2,f3,f4,f5⟩:=hfp;exact⟨m,hm,λh' hs'=>⟨.ref D,H',I'.turned (t':=s'.toks) (λb o hb e=>hs'.extBut b o hb e) f0 f1 f3 f4 f5,rfl,q⟩⟩
def pgC (i:Nat){X:Cx}{scope:Scope}{cl:List (Str×Addr)}{NC:List Str}{C:Addr}{s0:Shared}{H0:Hp}{ex:List Addr}{pn:List (Addr×Obj)}{x:Str}{pos:Pos}(nd:NC.Nodup)(hi:NC[i]?=some x)(hx:scope.names.lookup x=some .local) :
 PG (cxC X scope cl NC C s0 H0 ex pn) (.Name x pos) (zgH i):=zfB (X:=cxC X scope cl NC C s0 H0 ex pn) nd hi (.inl (lookup_relabel_local hx)) (.inr (lookup_relabel_local hx))
end L2
namespace En
open PySem
open AutoSeq1 (wpAny_loadPart')
section
variable {prog:Program}{w:World}{A:Around}{E:Value->Shared->Prop}{s:Shared}
def zk4 {it t:Addr}{i:Nat}{items:Array Value}{x:Value}{Q:Value->Shared->Prop}(a1:s.heap.IsTupleIter it t i)(a2:s.heap.IsTuple t items)(a3:items[i]?=some x)
 (q:∀h',h'.IsTupleIter it t (i+1)->Heap.SameBut it s.heap h'->Q x {s with heap:=h'}):wpAny (model prog w) A (Builtin.SmallTypes.nextOf (.ref it)) Q E s:=by
 obtain⟨o,b1,b2,b3⟩:=id a1;obtain⟨ot,c1,_,n,c2⟩:=a2;unfold Builtin.SmallTypes.nextOf;have body:wpAny (model prog w) A.in1 (Builtin.«tuple_iterator.__next__» ⟨[.ref it],[]⟩) (λf s'=>∃v,f=.done (.ret v)/\Q v s') E s:=by
  show wpAny _ _ (do let v <-field (.ref it) 0;_) _ _ s
  refine waa (waO b1 b3 (x:=.ref t) rfl ?_);show wpAny _ _ (ite ((Value.ref t == Value.none)=true) _ _) _ _ s
  rw[if_neg (show ¬(Value.ref t == Value.none)=true by intro z;cases z)];show wpAny _ _ (do let v <-field (.ref it) 1;_) _ _ s
  refine waa (waO b1 b3 (x:=.int i 0) rfl ?_);show wpAny _ _ (do let v <-seqItems? (.ref t);_) _ _ s
  refine waa (wpAny_seqItems c1 c2 ?_);simp only[Int.toNat_natCast,a3];refine waa (wbI b1 b3 (by simp) (wae ⟨x,rfl,q _ ⟨_,waR _ b1 (wbD (wbc b3 _)),(Obj.cls_mapFields ..).trans b2,?_⟩ (Heap.SameBut.update ..)⟩));rw[wbc b3];simp[rawInt]
 have nx:=F.slot_tuple_iterator_next
 exact waa (wbs (name:=Str.ofString "__next__") a1.typeIs nx (wbw nx a1.typeIs F.entry_tuple_iterator_next (war body (λf s' ⟨v,e,h⟩ =>⟨v,e,wae h⟩) λ_ _ x=>x) (F.args_tuple_iterator_next_1 _)))
def zkn {it t:Addr}{i:Nat}{items:Array Value}{Q:Value->Shared->Prop}(hh:A.handled=none)(a1:s.heap.IsTupleIter it t i)(a2:s.heap.IsTuple t items)(a3:items[i]?=none)
 (q:∀h' e,Heap.ExtBut it s.heap h'->(∃o,h'.get? e=some o/\o.cls=.type "StopIteration")->E (.ref e) {s with heap:=h'}):wpAny (model prog w) A (Builtin.SmallTypes.nextOf (.ref it)) Q E s:=by
 obtain⟨o,b1,b2,b3⟩:=id a1;obtain⟨ot,c1,_,n,c2⟩:=a2;unfold Builtin.SmallTypes.nextOf;have nx:=F.slot_tuple_iterator_next
 refine waa (wbs (name:=Str.ofString "__next__") a1.typeIs nx (wbw nx a1.typeIs F.entry_tuple_iterator_next ?_ (F.args_tuple_iterator_next_1 _)));show wpAny _ _ (do let v <-field (.ref it) 0;_) _ _ s
 refine waa (waO b1 b3 (x:=.ref t) rfl ?_);show wpAny _ _ (ite ((Value.ref t == Value.none)=true) _ _) _ _ s
 rw[if_neg (show ¬(Value.ref t == Value.none)=true by intro z;cases z)];show wpAny _ _ (do let v <-field (.ref it) 1;_) _ _ s
 refine waa (waO b1 b3 (x:=.int i 0) rfl ?_);show wpAny _ _ (do let v <-seqItems? (.ref t);_) _ _ s
 refine waa (wpAny_seqItems c1 c2 ?_);simp only[Int.toNat_natCast,a3];refine waa (wcp (waa (wbI b1 b3 (by simp) ?_)));show wpAny _ _ (do let x <-newExc (.type "StopIteration") [];_) _ _ _
 refine waa ?_;simp only[newExc,newTuple];refine waa (waQ ?_ (by size_fits));refine waa (m:=firstArgMember _ _) (wbX (a:=Value.none) (by first|rfl|(simp only[firstArgMember];rfl)) ?_);refine waQ ?_ (by size_fits);simp only[raiseNew];refine waa (wpAny_handled ?_);first|rw[show A.in1.handled=none from hh]|rw[hh]
 exact waa (wae (wpAny_throw (q _ _ (((Heap.SameBut.update ..).extBut.push _).push _) ⟨_,wat _ rfl,rfl⟩)))
end
def draws_tuple {prog:Program}{w:World}{A:Around}(hh:A.handled=none)(it t:Addr)(hne:t≠it)(items:Array Value) :
 Draws prog w A it [it,t] items.size (λi v=>items[i]?=some v) (λi h=>h.IsTupleIter it t i/\h.IsTuple t items) where
 live:=λ_ _ st=>let ⟨o,ho,_⟩:=st.1;⟨o,ho⟩
 frame:=λ_ _ _ ⟨⟨o,e,r⟩,⟨o',e',r'⟩⟩ hk=>⟨⟨o,hk it (by simp) o e,r⟩,⟨o',hk t (by simp) o' e',r'⟩⟩
 item:=λi s Q E hi st hQ=>zk4 st.1 st.2 (x:=items[i]) (by simp[hi]) λh' a b=>hQ _ h' s.toks (by simp[hi]) ⟨a,st.2.extBut b.extBut hne⟩ b
 done:=λs Q E st hE=>zkn hh st.1 st.2 (by simp) hE
def draws_end {prog:Program}{w:World}{A:Around}(hh:A.handled=none)(it t:Addr)(i:Nat)(items:Array Value)(hx:items[i]?=none) :
 Draws prog w A it [it,t] i (λi v=>items[i]?=some v) (λj h=>j=i/\h.IsTupleIter it t i/\h.IsTuple t items) where
 live:=λ_ _ st=>let ⟨o,ho,_⟩:=st.2.1;⟨o,ho⟩
 frame:=λ_ _ _ ⟨hj,⟨o,e,r⟩,⟨o',e',r'⟩⟩ hk=>⟨hj,⟨o,hk it (by simp) o e,r⟩,⟨o',hk t (by simp) o' e',r'⟩⟩
 item:=λj s Q E hi st hQ=>by rw[st.1] at hi;exact absurd hi (waK _)
 done:=λs Q E st hE=>zkn hh st.2.1 st.2.2 hx hE
def zhR (t:Addr)(items:Array Value)(n:Nat)(dct:Option Addr)(sl:Array (Option Value)) :
 Meets (Builtin.«enumerate.__new__» ⟨[.type "enumerate",.ref t],[]⟩) (λ_ R s=>s.heap.get? t=some {cls:=.type "tuple",dict:=dct,data:=.seq items n,slots:=sl}/\
  R (.ok (.ret (.ref (s.heap.push {cls:=.type "tuple_iterator",data:=.fields #[.ref t,.int 0 0]}).objs.size)))
    {s with heap:=(s.heap.push {cls:=.type "tuple_iterator",data:=.fields #[.ref t,.int 0 0]}).push {cls:=.type "enumerate",data:=.fields #[.none,.bool false,.ref s.heap.objs.size,rawInt 0,.none,.none]}}):=
 .of_wp λprog w A R s h=>by
  obtain⟨hp,g,d,tk,os⟩:=s;obtain⟨hl,h⟩:=h;have hsub:=PySem.sub_enumerate
  have hL:Heap.IsTuple (Shared.heap ⟨hp,g,d,tk,os⟩) t items:=⟨_,hl,rfl,n,rfl⟩
  wp_walk using wbn hl
  refine wpAny_stack_any λst=>wae ?_
  split
  .rename_i c _ _ _ _ _
   cases(c == Value.type "enumerate")
   .wp_walk using wbn hl,wbN hL
    exact⟨_,rfl,h⟩
   .wp_walk using wbn hl,wbN hL
    exact⟨_,rfl,h⟩
  .wp_walk using wbn hl,wbN hL
   exact⟨_,rfl,h⟩
def call_enum {prog:Program}{w:World}{A:Around}{E:Value->Shared->Prop}{s:Shared}{t:Addr}{items:Array Value}{Q:Value->Shared->Prop}(hL:s.heap.IsTuple t items)
 (h:∀h',IsEnum h' (s.heap.objs.size+1) s.heap.objs.size 0 .none->h'.IsTupleIter s.heap.objs.size t 0->h'.objs.size=s.heap.objs.size+2->
  (∀b o,s.heap.get? b=some o->h'.get? b=some o)->Q (.ref (s.heap.objs.size+1)) {s with heap:=h'}) :
 wpAny (model prog w) A (call (.type "enumerate") [.ref t]) Q E s:=by
 obtain⟨⟨c,dct,dt,sl⟩,hl,hc,n,hd⟩:=hL;obtain rfl:c=.type "tuple":=hc;obtain rfl:dt=.seq items n:=hd;refine callType_new F.called_enumerate (by decide) (F.typeCall_enumerate_1 _) (F.newCall_enumerate_1 _) (λobj=>F.args_object_init_2 obj _) F.entry_enumerate_new (zhR t items n dct sl) ⟨hl,?_⟩;have hz:(s.heap.push {cls:=.type "tuple_iterator",data:=.fields #[.ref t,.int 0 0]}).objs.size=s.heap.objs.size+1:=wbj ..
 have q:=wat (s.heap.push {cls:=.type "tuple_iterator",data:=.fields #[.ref t,.int 0 0]}) (o:={cls:=.type "enumerate",data:=.fields #[.none,.bool false,.ref s.heap.objs.size,rawInt 0,.none,.none]}) rfl
 show _/\_
 rw[hz] at q⊢;exact⟨⟨_,q,rfl⟩,h _ q ⟨_,wab _ (wat _ rfl),rfl,rfl⟩ (by rw[wbj,hz]) λb o x=>wab _ (wab _ x)⟩
end En
namespace L2
open PySem PySem.Spec PyProof PyProof.Rows
def Inv.laidF {X:Cx}{pins:List (Addr×Obj)}{Y:St}{H:Hp}{s:Shared}{h':Heap}{t':Nat}{fp:List Addr}{D:Addr}{o:HO}(I:Inv X pins Y H s)(hf:∀b∈fp,FpOk X pins H b)(k:∀b o,b∉fp->s.heap.get? b=some o->h'.get? b=some o)
 (hth:∀b∈fp,∃o,h'.get? b=some o) (hD:s.heap.get? D=none) (new:ObjOk X.prog X.w (upd H D o) h' D o):H D=none/\Inv X pins Y (upd H D o) {s with heap:=h',toks:=t'}:=by
 have hHD:H D=none:=by
  cases e:H D with
 |none=>rfl
 |some u=>
    obtain⟨ob,q⟩:=(I.hok D u e).there;rw[hD] at q;cases q
 refine⟨hHD,?_⟩;have nit:∀b u,H b=some u->b∉fp:=λb u e z=>by rw[(hf b z).1] at e;cases e
 have nD:∀b u,H b=some u->b≠D:=λb u e z=>by rw[z,hHD] at e;cases e
 have nD':∀b ob,s.heap.get? b=some ob->b≠D:=λb u e z=>by rw[z,hD] at e;cases e
 refine I.step (g':=s.gens) (d':=s.drawn) (t':=t') (ch:=fp) (λb hb=>?_) (λb o _ _ hc e _=>k b o hc e) (λb o _ _ hc e _=>⟨o.slots,k b o hc e⟩) (λb ob _ e n=>by rw[zag (nD' b ob e)];exact n)
  (λb o hc e=>⟨o,k b o hc e⟩) (λb _ e=>by rw[zag (nD b _ e)];exact e) (λb _ _ e=>by rw[zag (nD b _ e)];exact e) (λb ps e=>⟨#[],by rw[zag (nD b _ e),e];simp⟩) (λm hm=>?_) (λb u e=>?_) I.bare
 .obtain⟨f0,f1,f2,f3,f4,f5⟩:=hf b hb;exact⟨f3,f1,f4,f5⟩
 .obtain⟨o,es,ep,ho,r⟩:=hm;exact⟨o,es,ep,k _ o (λz=>(hf _ z).2.1 rfl) ho,r⟩
 .by_cases z:b=D
  .subst z;rw[zai] at e;cases e;exact new
  .rw[zag z] at e;refine(I.hok b u e).stay (λc v hc q=>k c v ?_ q) (λc q=>by rw[zag (nD c _ q)];exact q) λc _ _ q=>by rw[zag (nD c _ q)];exact q
   rcases hc with z|z
   .rw[z];exact nit b u e
   .exact nit c _ z
def Ite (K:W.Frag)(a:Addr):It:=
 ⟨λi H=>∃xs x,SqT K H a xs/\xs[i]?=some x,λi H x H'=>∃p,H p=none/\x=.ref p/\∀xs,SqT K H a xs->∃y,xs[i]?=some y/\H'=upd H p (.tup [.int (i:Nat),y]),λi H=>∃xs,SqT K H a xs/\xs.length<=i⟩
def zhS {P:Program}{w:World}{K:W.Frag}{elts:List Expr}{x1}{tpos:Pos}(a e it:Addr)(hei:e≠it)(hae:a≠e)(hai:a≠it) :
 Turn P w K (.Tuple elts x1 tpos) (Ite K a) [e,it] e (λi h=>(∃old,IsEnum h e it (i:Nat) old)/\h.IsTupleIter it a i) where
 mem:=by simp
 obj:=λi h st b hb=>by
  obtain⟨⟨old,e1⟩,o,e2,c,d⟩:=st;rcases wah.mp hb with z|z
  .subst z;exact⟨_,e1,λv z=>by cases z⟩
  .have z:=wau.mp z
   subst z;exact⟨o,e2,λv z=>by rw[d] at z;cases z⟩
 keep:=λi h h' st k=>by
  obtain⟨⟨old,e1⟩,o,e2,c,d⟩:=st;exact⟨⟨old,k e (by simp) _ e1⟩,o,k it (by simp) _ e2,c,d⟩
 item:=by
  intro X hP hw hK hc i pins s Y H E I hf st hg;subst hP hw hK;obtain⟨⟨old,en⟩,ti⟩:=st;obtain⟨xs,x,hq,hx⟩:=hg;obtain⟨its,rv,p,hz⟩:=I.tuple hq;obtain⟨u,hu,ru⟩:=rv.get hx;have hl:=rv.length
  have hlt:i<its.toArray.size:=by
   rw[wac,<-hl];exact(wav.mp hx).1
  have hh:X.A.in1.handled=none:=I.ok.hd hc
  refine wpAny_pyNext_enum_itemD (En.draws_tuple (A:=X.A.in1) hh it a hai its.toArray) en ⟨ti,p⟩ hlt hei (by simp[hei,Ne.symm hae]) λy h' tk hy en' st' tup sz k=>?_
  have ey:y=u:=by
   have hy':its[i]?=some y:=by simpa using hy
   rw[hu] at hy';exact(waq hy').symm
  subst ey;refine⟨_,rfl,wpAny_letOwnedTupleGo_enum en' λh2 en2 sb2=>?_⟩;have frS:s.heap.get? s.heap.objs.size=none:=by
   cases q:s.heap.get? s.heap.objs.size with
  |none=>rfl
  |some o=>exact absurd (wad q) (waK _)
  have neS:∀b∈[e,it],b≠s.heap.objs.size:=λb hb z=>by
   rcases wah.mp hb with q|q
   .have en1:=(show s.heap.get? e=some _ from en)
    rw[<-z,q,en1] at frS;cases frS
   .obtain⟨o,e2,_⟩:=ti;rw[<-z,wau.mp q,e2] at frS;cases frS
  obtain⟨hn,I1⟩:=I.laidF (h':=h2) (t':=tk+1) (fp:=[e,it]) (D:=s.heap.objs.size) (o:=.tup [.int (i:Nat),x]) hf (λb o hb q=>sb2.extBut b o (λz=>hb (by simp[z])) (k b o (λz=>hb (by simp[z])) (λz=>hb (by simp[z])) q))
   (λb hb=>by
    rcases wah.mp hb with q|q
    .subst q;exact⟨_,en2⟩
    .have q:=wau.mp q
     subst q;obtain⟨o,e2,_⟩:=st'.1;exact⟨o,sb2.extBut _ o (Ne.symm hei) e2⟩) frS
   ⟨by show 2<=sizeLine;decide,[.int (i:Nat) tk,y],.cons ⟨_,rfl⟩ (.cons ru .nil),⟨_,sb2.extBut _ _ (neS e (by simp)).symm tup,rfl,_,rfl⟩⟩
  refine⟨.ref s.heap.objs.size,_,I1,rfl,⟨_,hn,rfl,λys hy=>⟨x,by rw[I.tuple_inj hy hq];exact hx,rfl⟩⟩,⟨⟨_,en2⟩,?_⟩,λb hb=>?_⟩
  .obtain⟨o,e2,c,d⟩:=st'.1;exact⟨o,sb2.extBut _ o (Ne.symm hei) e2,c,d⟩
  .rw[zag (neS b hb)];exact(hf b hb).1
 done:=by
  intro X hP hw hK hc i pins s Y H E I hf st hg;subst hP hw hK;obtain⟨⟨old,en⟩,ti⟩:=st;obtain⟨xs,hq,hx⟩:=hg;obtain⟨its,rv,p,hz⟩:=I.tuple hq;obtain⟨f0,f1,f2,f3,f4,f5⟩:=hf it (by simp);have hl:=rv.length
  have hh:X.A.in1.handled=none:=I.ok.hd hc
  refine wpAny_pyNext_enum_endD (En.draws_end (A:=X.A.in1) hh it a i its.toArray (by simp;omega)) en ⟨rfl,ti,p⟩ λh' eb=>⟨rfl,I.turned (t':=s.toks) (λb o hb e=>eb b o hb e) f0 f1 f3 f4 f5⟩
 self:=λ_ _ _ _ _ st h=>by
  obtain⟨⟨old,en⟩,_⟩:=st;exact wpAny_pyIter_enum en h
def zn9 (K:W.Frag)(ta:TA):TI:=λY H R=>ta Y H λvs H1=>∃a,vs = [.ref a]/\(∃xs,SqT K H1 a xs)/\R (Ite K a) H1
def zk7 {X:Cx}{elts:List Expr}{x1}{tpos:Pos}{l:Expr}{ta:TA}{p pos:Pos}(hg:Gl X "enumerate")(hm:X.mg "enumerate"=none)(ha:PA X [l] ta)(hs:starEach [l] X.env = [(false,eval l X.env)]:=by rfl) :
 PI X (.Tuple elts x1 tpos) (.Call (.Name "enumerate" p) [l] [] pos) (zn9 X.K ta):=by
 intro pins s Y H R I h;refine waE (zd5 I hg hm boot_enumerate ?_ (by decide) (by decide));refine wbC (thn (ha pos pins s Y H _ I h) λus s1 ⟨vs,H1,I1,rv,q1⟩ =>?_) hs rfl;obtain⟨a,e,⟨xs,hq⟩,q⟩:=q1;subst e;obtain⟨u,rfl,r1⟩:=zje rv;obtain rfl:u=Value.ref a:=r1;obtain⟨its,rv,pt,hz⟩:=I1.tuple hq;refine En.call_enum pt λh' en ti sz k=>?_
 have alt:a<s1.heap.objs.size:=pt.lt
 refine wpAny_pyIter_enum en ⟨s1.heap.objs.size+1,[s1.heap.objs.size+1,s1.heap.objs.size],_,_,H1,rfl,I1.kept (t':=s1.toks) k,zhS a _ _ (Nat.succ_ne_self _) (wap (Nat.lt_succ_of_lt alt)) (wap alt),⟨⟨_,en⟩,ti⟩,λb hb=>?_,q⟩;rcases wah.mp hb with z|z
 .subst z;exact I1.fpOk (wbK _) (I1.hok.fresh (wbK _))
 .have z:=wau.mp z
  subst z;exact I1.fpOk (wai _) (I1.hok.fresh (wai _))
section
variable {X:Cx}
def zk8:OpR X (binaryOp .Add) (λx y H Q=>∃a b ys,x=.ref a/\y=.ref b/\SqT X.K H a []/\SqT X.K H b ys/\Q (.ref b) H):=by
 intro pins s Y H x y v u Q I rx ry h;obtain⟨a,b,ys,rfl,rfl,ha,hb,q⟩:=h;cases rx;cases ry;obtain⟨its,r1,p1,_⟩:=I.tuple ha;obtain⟨its2,r2,p2,_⟩:=I.tuple hb;have e1:its = []:=r1.nil_iff.mpr rfl
 subst e1;obtain⟨⟨c1,d1,dt1,s1⟩,g1,g2,n1,g3⟩:=p1;obtain⟨⟨c2,d2,dt2,s2⟩,k1,k2,n2,k3⟩:=p2;obtain rfl:c1=.type "tuple":=g2;obtain rfl:c2=.type "tuple":=k2;obtain rfl:dt1=.seq _ n1:=g3;obtain rfl:dt2=.seq _ n2:=k3;exact concat_meets ⟨_,g1,rfl⟩ ⟨_,k1,rfl⟩ noFill_tuple_add seq_tuple_add wbU wbS (wbM _ _) (tuple_addW0 a b _ _ n1 n2 d1 d2 s1 s2 rfl) ⟨g1,k1,⟨.ref b,H,I,rfl,q⟩⟩
def zmw (K:W.Frag):R2:=λx y H Q=>∃a b xs ys,x=.ref a/\y=.ref b/\SqT K H a xs/\SqT K H b ys/\ys≠[]/\xs.length+ys.length<=sizeLine/\
 (xs = []->Q (.ref b) H)/\(xs≠[]->∀p,H p=none->Q (.ref p) (upd H p (.tup (xs++ys))))
def zk9:OpR X (binaryOp .Add) (zmw X.K):=by
 intro pins s Y H x y v u Q I rx ry h;obtain⟨a,b,xs,ys,rfl,rfl,ha,hb,hy,hz,q1,q2⟩:=h;by_cases hx:xs = []
 .subst hx;exact zk8 pins s Y H _ _ v u Q I rx ry ⟨a,b,ys,rfl,rfl,ha,hb,q1 rfl⟩
 .exact zhI pins s Y H _ _ v u Q I rx ry ⟨a,b,xs,ys,rfl,rfl,ha,hb,hx,hz,λz=>absurd z hy,λ_=>q2 hx⟩
end
def zeo {H:Hp}{p:Addr}(h:H p=none)(o:HO):Same H (upd H p o):=λb u q=>by rw[zag (zax q h)];exact q
end L2
namespace Sh
open PySem L2
namespace Tr
end Tr
end Sh
namespace SO
open PySem PySem.W PyProof.Rows
section
variable {k:Nat->Int}{N:Nat}
end
end SO
namespace L2
open PySem PySem.Spec PyProof PyProof.Rows PySem.W
section
variable {X:Cx}{pins:List (Addr×Obj)}{Y:St}{H:Hp}{s:Shared}
end
def zgO {pos:Pos}{a b:Int}{c cv:Value}(l:List Value)(h:TriplesOk l):codeAmong pos (l++[rawInt a,rawInt b,c])=some cv->codeAmong pos l=some cv\/cv=c:=by
 fun_induction TriplesOk l with
|case1=>
   intro q;simp only[List.nil_append,codeAmong,rawInt] at q;split at q
   .cases q;exact .inr rfl
   .simp[codeAmong] at q
|case2 x t y u z rest ih=>
   intro q;simp only[List.cons_append,codeAmong] at q⊢;split at q
   .rename_i hc;rw[if_pos hc];exact .inl q
   .rename_i hc;rw[if_neg hc];exact ih h q
|case3 l h1 h2=>exact h.elim
section
variable {X:Cx}{pins:List (Addr×Obj)}{Y:St}{H:Hp}{s:Shared}
def CodeK.hd {K:W.Frag}{c P:Addr}{h:Heap}(hC:CodeK K c P)(x:K.In h):CodeHd h c P:=by
 obtain⟨o,vs,file,tf,flags,tg,inF,text,tt,l,e⟩:=hC.ex;exact⟨o,vs,file,tf,flags,tg,inF,text,tt,x _ _ l,e⟩
def Inv.grownC {P c':Addr}{ps qs:Array Value}{h':Heap}{t':Nat}{oc:Obj}{vs:Array Value}{t:Tok}{q:Str}{a b:Int}(I:Inv X pins Y H s)(hH:H P=some (.tbl ps))(hps:ps[0]?=some (Value.str q 0))(ht:TabC H ps qs)(k:∀b o,b≠P->s.heap.get? b=some o->h'.get? b=some o)
 (e:h'.get? P=some (tabO (qs++#[rawInt a,rawInt b,.ref c']))) (hc:s.heap.objs.size<=c') (ho:h'.get? c'=some oc) (hd:oc.data=.fields vs) (hv:vs[1]?=some (.str q t)) :
 Inv X pins Y (upd H c' (.frz oc (.ext λ_=>True))) {s with heap:=h',toks:=t'}:=by
 have hn:H c'=none:=I.hok.fresh hc
 have nP:∀b u,H b=some u->b≠c':=λb u q z=>by rw[z,hn] at q;cases q
 refine I.un ⟨λb o q n _ _=>k b o (Inv.ne_tbl hH n) q,λb o q n _ _=>⟨o.slots,k b o (Inv.ne_tbl hH n) q⟩,λb o q n _=>?_,λb o q _=>?_,λb xs q=>?_,λb o u q=>?_,λb qs q=>⟨#[],?_⟩⟩ λb u q=>?_
 .rw[zag (λ(z:b=c')=>by have e2:=wad q;rw[z] at e2;exact waK _ (wak e2 hc))];exact n
 .by_cases z:b=P
  .subst z;exact⟨_,e⟩
  .exact⟨o,k b o z q⟩
 .rw[zag (nP b _ q)];exact q
 .rw[zag (nP b _ q)];exact q
 .rw[zag (nP b _ q),q];simp
 .by_cases z0:b=c'
  .subst z0;rw[zai] at q;cases q;exact⟨ho,trivial,⟨_,ho⟩,λ_ _ _ _=>trivial⟩
  .rw[zag z0] at q;by_cases z:b=P
   .subst z;rw[hH] at q;cases q;refine⟨_,e,?_,λpos cv z=>?_⟩
    .simpa using TriplesOk_snoc a _ (.ref c') _ ht.1
    .rcases zgO (a:=a) (b:=_) (c:=.ref c') qs.toList ht.1 (by simpa using z) with z|z
     .obtain⟨c2,o,u,vs,t,q',e1,e2,e3⟩:=ht.2 pos cv z;exact⟨c2,o,u,vs,t,q',e1,by rw[zag (nP _ _ e2)];exact e2,e3⟩
     .exact⟨c',oc,_,vs,t,q,z,zai,hd,hv,hps⟩
   .refine(I.hok b u q).stay (λc v hc q'=>k c v ?_ q') (λc q'=>by rw[zag (nP _ _ q')];exact q') λc xs _ q'=>by rw[zag (nP _ _ q')];exact q'
    rcases hc with r|r
    .rw[r];exact z
    .intro r';subst r';rw[hH] at r;cases r
end
end L2
namespace L2
open PySem PySem.Spec PyProof.Rows
section
variable {κ:Type}[DecidableEq κ]
def valV (kvs:List (κ×V))(k:κ):Option V:=(kvs.find? λkv=>decide (kv.1=k)).map (·.2)
def zgg {p:κ×V}{r:List (κ×V)}{k:κ}(e:p.1=k):valV (p::r) k=some p.2:=by simp[valV,wbE,e]
def zgh {p:κ×V}{r:List (κ×V)}{k:κ}(e:¬p.1=k):valV (p::r) k=valV r k:=by simp[valV,wbE,e]
def RelO.isSome_eq {o:Option V}{u:Option Value}(r:RelO o u):o.isSome=u.isSome:=by
 cases o with
|none=>cases u with
  |none=>rfl
  |some _=>exact(show False from r).elim
|some _=>cases u with
  |none=>exact(show False from r).elim
  |some _=>rfl
def KV.val {kvs:List (κ×V)}{vs:List (κ×Value)}(r:KV kvs vs)(k:κ):RelO (valV kvs k) (valueAt vs k):=by
 unfold KV at r;induction r with
|nil=>exact True.intro
|@cons p q ps qs h t ih=>
   obtain⟨h1,h2⟩:=h;by_cases e:p.1=k
   .have e':q.1=k:=h1.symm.trans e
    have b:valueAt (q::qs) k=some q.2:=by simp[valueAt,wbE,e']
    rw[zgg e,b];exact h2
   .have e':¬q.1=k:=λz=>e (h1.trans z)
    have b:valueAt (q::qs) k=valueAt qs k:=by simp[valueAt,wbE,e']
    rw[zgh e,b];exact ih
end
def zmx {P:Program}{w:World}{k:Key}{u:Value}(r:RelV (kV k) u):(zbD P w).is k u=true:=by
 cases k with
|inl i=>obtain⟨t,e⟩:=(show ∃t,u=Value.int i t from r);subst e;exact zfy P w i t
|inr x=>obtain⟨t,e⟩:=(show ∃t,u=Value.str x t from r);subst e;exact zfz P w x t
theorem zeW {P:Program}{w:World}:∀{ks:List Key}{us:List Value},Vals (ks.map kV) us->ItemsAre (zbD P w) ks us
|[],_,r=>by rw[List.map_nil] at r;cases r;exact .nil
|k::ks,_,r=>by
   rw[wbt] at r;cases r with
  |cons h t=>exact .cons (zmx h) (zeW t)
abbrev KT (H:Hp):List (List Key×V)->List (List Key×Addr×Value)->Prop:=Paired λp q=>p.1=q.1/\H q.2.1=some (.tup (p.1.map kV))/\RelV p.2 q.2.2
def KT.val {H:Hp}{kvs:List (List Key×V)}{xs:List (List Key×Addr×Value)}(r:KT H kvs xs)(k:List Key):RelO (valV kvs k) ((atKey xs k).map (·.2)):=by
 induction r with
|nil=>exact True.intro
|@cons p q ps qs h t ih=>
   obtain⟨h1,_,h2⟩:=h;by_cases e:p.1=k
   .have e':q.1=k:=h1.symm.trans e
    have b:atKey (q::qs) k=some q.2:=by simp[atKey,wbE,e']
    rw[zgg e,b];exact h2
   .have e':¬q.1=k:=λz=>e (h1.trans z)
    have b:atKey (q::qs) k=atKey qs k:=by simp[atKey,wbE,e']
    rw[zgh e,b];exact ih
section
variable {P:Program}{w:World}{H:Hp}{h:Heap}{a:Addr}
def zmy {u:HO}(ok:HOk P w H h)(e:Rd H a u):ObjOk P w H h a u:=e.ok ok
def zoa {kvs:List (Key×V)}(ok:HOk P w H h)(e:Rd H a (.dK kvs)):kvs.length<=sizeLine/\(a == sysModules)=false/\∃vs,KV kvs vs/\h.DictOf (zbD P w) a vs:=
 show ObjOk P w H h a (.dK kvs) from zmy ok e
def zko {ks:List Key}(ok:HOk P w H h)(e:H a=some (.tup (ks.map kV))):(tupleKind (zbD P w)).is h ks a:=by
 obtain⟨_,its,r,o,h1,h2,n,h3⟩:=(show ObjOk P w H h a (.tup (ks.map kV)) from ok a _ e)
 exact⟨o,its.toArray,n,h1,h2,h3,by simpa using zeW r⟩
def zob {kvs:List (List Key×V)}(ok:HOk P w H h)(e:Rd H a (.dT kvs)):kvs.length<=sizeLine/\(a == sysModules)=false/\
 ∃xs,KT H kvs xs/\h.DictOfH (tupleKind (zbD P w)) a xs:=by
 obtain⟨z,y,xs,r,o,es,ep,h1,h2,h3,h4,h5⟩:=(show ObjOk P w H h a (.dT kvs) from zmy ok e)
 refine⟨z,y,xs,r,o,es,ep,h1,h2,h3,h4,λx hx=>?_,h5⟩;have all:∀{l:List (List Key×V)}{m:List (List Key×Addr×Value)},KT H l m->∀x∈m,(tupleKind (zbD P w)).is h x.1 x.2.1:=by
  intro l m q;induction q with
 |nil=>intro x hx;exact nomatch hx
 |@cons p q ps qs hq t ih=>
    intro x hx;rcases wah.mp hx with e|hx
    .subst e;exact zko ok (by rw[<-hq.1];exact hq.2.1)
    .exact ih x hx
 exact all r x hx
end
def DGet (H:Hp)(a:Addr)(y:V)(r:Option V):Prop:=
 (∃kvs k,Rd H a (.dK kvs)/\y=kV k/\r=valV kvs k)\/∃kvs k b,Rd H a (.dT kvs)/\y=.ref b/\H b=some (.tup (k.map kV))/\r=valV kvs k
theorem DGet.k {H:Hp}{a:Addr}{kvs:List (Key×V)}{k:Key}(e:H a=some (.dK kvs)):DGet H a (kV k) (valV kvs k):=.inl ⟨kvs,k,.inl e,rfl,rfl⟩
section
variable {X:Cx}{pins:List (Addr×Obj)}{Y:St}{H:Hp}{s:Shared}{a:Addr}{y v:V}{u r:Value}{o:Option V}{A:Around}{E:Value->Shared->Prop}
def d_in {Q:Value->Shared->Prop}(hu:A.units+1<cLine)(I:Inv X pins Y H s)(g:DGet H a y o)(ry:RelV y u)(h:∀s',Inv X pins Y H s'->Q (.bool o.isSome) s') :
 wpAny (model X.prog X.w) A (compareOp .In u (.ref a)) Q E s:=by
 rcases g with⟨kvs,k,e,ey,l⟩|⟨kvs,k,b,e,ey,eb,l⟩
 .subst ey;obtain⟨z,hd,vs,rel,dd⟩:=zoa I.hok e;refine wpAny_in_of (zmx ry) hd dd.mapOf ?_;rw[<-(rel.val k).isSome_eq,<-l];exact h _ (I.tok _)
 .subst ey;cases(show u=Value.ref b from ry);obtain⟨z,hd,xs,rel,dd⟩:=zob I.hok e;refine wpAny_in_heap (tupleKind_room_in1 hu) (zko I.hok eb) hd dd ?_;have q:=(rel.val k).isSome_eq
  rw[Option.isSome_map] at q;rw[<-q,<-l];exact h _ (I.tok _)
end
section
variable {X:Cx}{pins:List (Addr×Obj)}{Y:St}{H:Hp}{s:Shared}{a:Addr}{kvs:List (Key×V)}{k:Key}{u:Value}{A:Around}{E:Value->Shared->Prop}
end
section
variable {X:Cx}{o i e value:Expr}{pos pos' tpos:Pos}{td ty tv:TE}
end
section
variable {X:Cx}{pos:Pos}
end
section
variable {X:Cx}{pins:List (Addr×Obj)}{Y:St}{H:Hp}{s:Shared}{a:Addr}{y d:V}{u r:Value}{o:Option V}{A:Around}{E:Value->Shared->Prop}
end
section
variable {X:Cx}{o e f:Expr}{apos cpos:Pos}{td ty tx:TE}
end
section
variable {X:Cx}{pins:List (Addr×Obj)}{Y:St}{H:Hp}{s:Shared}{a:Addr}{kvs:List (Key×V)}{A:Around}{E:Value->Shared->Prop}
end
section
variable {X:Cx}{pins:List (Addr×Obj)}{Y:St}{H:Hp}{s:Shared}{a:Addr}{y:V}{u:Value}{A:Around}{E:Value->Shared->Prop}
end
end L2
namespace L2
open PySem PySem.Spec PyProof PyProof.Rows
section
variable {X:Cx}
end
structure Cal (P:Program)(w:World)(K:W.Frag)(mg:Str->Option Value)(base:Heap)(k:Nat)(x:Str)(ps:List Str)(sp:Sp):Prop where
 ex:∃(f:Addr) (fd:FuncData),FnOk P w K mg base CX0 k f fd ps sp/\Binds K fd ps []/\W.keepIn K (.ref f)=true/\mg x=some (.ref f)
section
variable {X:Cx}{k:Nat}{x:Str}{ps:List Str}{sp:Sp}{t:TA}{p pos:Pos}{e:Expr}{es:List Expr}
def pc {k':Nat}(C:Cal X.prog X.w X.K X.mg X.base k x ps sp)(hr:Room k' X.A)(ha:PA X (e::es) t)(hk:k<=k':=by decide)(hg:Gl X x:=by rfl)(hdb:(x == ("__debug__" : Str))=false:=by decide)
 (he:starEach (e::es) X.env=(false,eval e X.env)::starEach es X.env:=by rfl) (hpl:(backTo pos (starEach es X.env)).any (·.1)=false:=by rfl):PE X (.Call (.Name x p) (e::es) [] pos) (zjg sp [] E0 t):=by
 obtain⟨f,fd,a,b,c,d⟩:=C.ex;exact zkU (a.mono hk) hr hg d c b .nil zmu ha hdb he hpl
end
def zbL:List Str:=["len","range","min","max","int","str","bool","list","tuple","isinstance","any","all","enumerate","abs","sorted","dict","ord","chr","reversed"]
def Blt (mg:Str->Option Value):Prop:=∀x∈zbL,mg x=none
def Blt.get {mg:Str->Option Value}(B:Blt mg)(x:Str)(h:x∈zbL:=by decide +kernel):mg x=none:=B x h
section
variable {X:Cx}{r:List V->Hp->VK->Prop}{t:TA}{p pos:Pos}{e:Expr}{es:List Expr}{id T:String}{x:Str}
def pb (hc:zcL X (.builtin id) r)(B:Blt X.mg)(hv:bootBuiltins x=some (.builtin id))(ha:PA X (e::es) t)(hB:x∈zbL:=by decide +kernel)(hg:Gl X x:=by rfl)(hn:x≠"__name__":=by decide)(hdb:(x == ("__debug__" : Str))=false:=by decide)
 (he:starEach (e::es) X.env=(false,eval e X.env)::starEach es X.env:=by rfl) (hpl:(backTo pos (starEach es X.env)).any (·.1)=false:=by rfl):PE X (.Call (.Name x p) (e::es) [] pos) (tCB r t):=
 zji hc hg (B x hB) hv ha hn hdb he hpl
def pty (hc:zcL X (.type T) r)(B:Blt X.mg)(hv:bootBuiltins x=some (.type T))(ha:PA X (e::es) t)(hB:x∈zbL:=by decide +kernel)(hg:Gl X x:=by rfl)(hn:x≠"__name__":=by decide)(hdb:(x == ("__debug__" : Str))=false:=by decide)
 (he:starEach (e::es) X.env=(false,eval e X.env)::starEach es X.env:=by rfl) (hpl:(backTo pos (starEach es X.env)).any (·.1)=false:=by rfl):PE X (.Call (.Name x p) (e::es) [] pos) (tCB r t):=
 zhG hc hg (B x hB) hv ha hn hdb he hpl
def ptn {v:V}{u:Value}(B:Blt X.mg)(hv:bootBuiltins x=some u)(rl:RelV v u)(hB:x∈zbL:=by decide +kernel)(hg:Gl X x:=by rfl)(hn:x≠"__name__":=by decide)(hdb:(x == ("__debug__" : Str))=false:=by decide):PE X (.Name x pos) (tC v):=
 zhu hg (B x hB) hv rl hn hdb
def papp {o:Expr}{to:TE}{apos cpos:Pos}(ho:PE X o to)(ha:PA X [e] t)
 (hbase:attributeBase o "append" X.env (eval o X.env)=eval o X.env:=by rfl)
 (hfew:((backTo cpos (starEach [e] X.env)).all (λx=>!x.1)&&(backToKw cpos (keywordEach [] X.env)).all (λx=>x.1.isSome)
  && decide ([e].length+([]:List Keyword).length+(if([]:List Keyword).isEmpty then 0 else 1)<30))=true:=by rfl)
 (hline:(apos.endLine == cpos.line)=true:=by rfl) (hs:starEach [e] X.env = [(false,eval e X.env)]:=by rfl) :
 PE X (.Call (.Attribute o "append" apos) [e] [] cpos) (tBM X.K "list" zfD to t):=
 zms PySem.F.plainAttrs_list PySem.F.slot_list_append PySem.F.type_list_append zeT ho ha hbase hfew hline hs rfl
end
def zmz (K:W.Frag):List V->Hp->VK->Prop:=λxs H Q=>∃x n t k,xs = [x,.ty n]/\TyOf K H x t/\PySem.W.kitOne K t (.type n)=some k/\Q (.bl k) H
def zla {X:Cx}:zcL X (.builtin "isinstance") (zmz X.K):=zfF
end L2
namespace Rv
open PySem PySem.Spec PyProof PyProof.Rows
open Sem (wp)
section
variable {prog:Program}{w:World}{A:Around}{E:Value->Shared->Prop}{s:Shared}
end
end Rv
namespace L2
open PySem PySem.Spec PyProof PyProof.Rows
section
variable {X:Cx}{tg:Expr}
end
section
variable {X:Cx}
end
def clo (cells:List (Str×Addr)):List (Str×NameKind)->List (Str×Addr)->List (Str×Addr)
|[],acc=>acc
|(n,k)::r,acc=>clo cells r (if(k == NameKind.free)=true then(n,(cells.lookup n).getD 0)::acc else acc)
theorem zhT {env:Env}:∀(names:List (Str×NameKind)) (acc:List (Str×Addr)),(∀y∈names,y.2=.free->∃c,env.cells.lookup y.1=some c)->
 (forIn names acc λ(x:Str×NameKind) (cs:List (Str×Addr))=>match x with|(name,kind)=>if(kind == NameKind.free)=true then(do let c <-cellOf env name;pure (ForInStep.yield ((name,c)::cs))) else(pure (ForInStep.yield cs):Sem _))=pure (clo env.cells names acc)
|[],acc,_=>rfl
|(n,k)::r,acc,h=>by
   rw[List.forIn_cons];have ih:=zhT (env:=env) r
   by_cases hk:(k == NameKind.free)=true
   .obtain⟨c,hc⟩:=h (n,k) (waj ..) (by cases k <;> first|rfl|cases hk);have e1:cellOf env n=pure c:=by unfold cellOf;rw[hc]
    show(if(k == NameKind.free)=true then _ else _) >>= _=_
    rw[if_pos hk,e1];show(forIn r ((n,c)::acc) _:Sem _)=pure (clo env.cells r (if(k == NameKind.free)=true then _ else _))
    rw[if_pos hk,hc];exact ih _ λy hy=>h y (waf _ hy)
   .show(if(k == NameKind.free)=true then _ else _) >>= _=_
    rw[if_neg hk];show(forIn r acc _:Sem _)=pure (clo env.cells r (if(k == NameKind.free)=true then _ else _))
    rw[if_neg hk];exact ih _ λy hy=>h y (waf _ hy)
def zkp {env:Env}{scope:Scope}(h:∀y∈scope.names,y.2=.free->∃c,env.cells.lookup y.1=some c):closureFor scope env=pure (clo env.cells scope.names []):=by
 have e:=zhT (env:=env) scope.names [] h
 unfold closureFor;show(forIn scope.names ([]:List (Str×Addr)) _ >>= λcs=>pure cs)=_
 have e2:(forIn scope.names ([]:List (Str×Addr)) (λ(x:Str×NameKind) (cs:List (Str×Addr))=>match x with|(name,kind)=>if(kind == NameKind.free)=true then(do let c <-cellOf env name;pure (ForInStep.yield ((name,c)::cs))) else(pure (ForInStep.yield cs):Sem _)) >>= λcs=>pure cs)=pure (clo env.cells scope.names []):=by
  rw[e];rfl
 exact e2
theorem zfH (cells:List (Str×Addr)):∀(names:List (Str×NameKind)) (acc:List (Str×Addr)),(∀x c,acc.lookup x=some c->cells.lookup x=some c)->(∀y∈names,y.2=.free->∃c,cells.lookup y.1=some c)->
 ∀x c,(clo cells names acc).lookup x=some c->cells.lookup x=some c
|[],acc,h,_,x,c,e=>h x c e
|(n,k)::r,acc,h,hf,x,c,e=>by
   refine zfH cells r _ (λy d e'=>?_) (λy hy=>hf y (waf _ hy)) x c e;by_cases hk:(k == NameKind.free)=true
   .rw[if_pos hk,waH] at e';obtain⟨c',hc⟩:=hf (n,k) (waj ..) (by cases k <;> first|rfl|cases hk);cases hy:y == n with
   |true=>
      rw[hy] at e';have:y=n:=by simpa using hy
      rw[this,hc];rw[hc] at e';exact e'
   |false=>rw[hy] at e';exact h y d e'
   .rw[if_neg hk] at e';exact h y d e'
theorem zfI (cells:List (Str×Addr)):∀(names:List (Str×NameKind)) (acc:List (Str×Addr)) (x:Str),((∃c,acc.lookup x=some c)\/(x,NameKind.free)∈names)->∃c,(clo cells names acc).lookup x=some c
|[],acc,x,h=>by
   rcases h with h|h
   .exact h
   .cases h
|(n,k)::r,acc,x,h=>by
   refine zfI cells r _ x ?_;rcases h with⟨c,h⟩|h
   .left
    by_cases hk:(k == NameKind.free)=true
    .rw[if_pos hk,waH];cases hy:x == n with
    |true=>exact⟨_,rfl⟩
    |false=>exact⟨c,h⟩
    .rw[if_neg hk];exact⟨c,h⟩
   .rcases wah.mp h with h|h
    .left
     cases h;rw[if_pos (by rfl),waH,beq_self_eq_true];exact⟨_,rfl⟩
    .exact .inr h
theorem zct {κ β:Type}[BEq κ][LawfulBEq κ]:∀{l:List (κ×β)}{x:κ}{k:β},l.lookup x=some k->(x,k)∈l
|[],x,k,h=>by cases h
|(n,k')::r,x,k,h=>by
   rw[waH] at h;cases hx:x == n with
  |true=>
     rw[hx] at h;cases h;have:x=n:=by simpa using hx
     rw[this];exact waj ..
  |false=>rw[hx] at h;exact waf _ (zct h)
theorem zcG {env:Env}:∀(l:List (Str×NameKind)),(∀y∈l,y.2≠.cell)->∀x k,(l.map λ(n,k)=>if(k == NameKind.free&&env.scope.kind == .function&&env.kindOf n == some .cell) then(n,NameKind.cell) else(n,k)).lookup x=some k->(k=.cell\/k=.free)->l.lookup x=some .free
|[],_,x,k,e,_=>by cases e
|(n,k0)::r,h,x,k,e,hk=>by
   rw[wbt] at e;have h0:k0≠.cell:=h _ (waj ..)
   rw[waH];cases hx:x == n with
  |true=>
     cases k0 with
    |free=>rfl
    |cell=>exact absurd rfl h0
    |_=>
       exfalso
       obtain rfl:x=n:=by simpa using hx
       rw[waH] at e;rcases hk with rfl|rfl <;> (revert e;simp)
  |false=>
     refine zcG (env:=env) r (λy hy=>h y (waf _ hy)) x k ?_ hk;rw[waH] at e;have:(x == (if(k0 == NameKind.free&&env.scope.kind == .function&&env.kindOf n == some .cell)=true then(n,NameKind.cell) else(n,k0)).1)=false:=by split <;> exact hx
     rw[this] at e;exact e
theorem zdh {env:Env}(hf:env.scope.kind=.function):∀(l:List (Str×NameKind)) (x:Str),l.lookup x=some .free->env.kindOf x=some .cell->(l.map λ(n,k)=>if(k == NameKind.free&&env.scope.kind == .function&&env.kindOf n == some .cell) then(n,NameKind.cell) else(n,k)).lookup x=some .cell
|[],x,e,_=>by cases e
|(n,k0)::r,x,e,hk=>by
   rw[wbt];rw[waH] at e⊢;cases hx:x == n with
  |true=>
     rw[hx] at e;cases e;have hn:x=n:=by simpa using hx
     have hk':(env.kindOf n == some NameKind.cell)=true:=by rw[<-hn,hk];rfl
     have hcond:(NameKind.free == NameKind.free&&env.scope.kind == .function&&env.kindOf n == some .cell)=true:=by
      rw[hf,hk'];rfl
     simp only[hcond,if_true,hx]
  |false=>
     rw[hx] at e;have:(x == (if(k0 == NameKind.free&&env.scope.kind == .function&&env.kindOf n == some .cell)=true then(n,NameKind.cell) else(n,k0)).1)=false:=by split <;> exact hx
     simp only[this];exact zdh hf r x e hk
def zep (N:List Str)(sc:List (Str×NameKind))(names:List (Str×NameKind))(NC:List Str)(fr:List (Option Nat)):Bool:=
 (NC.zip fr).all λp=>match p.2 with|none=>true|some j=>(N[j]? == some p.1)&&(sc.lookup p.1 == some .cell)&&(names.lookup p.1 == some .free)
def zhU (N:List Str)(st:Stmt){X:Cx}{elt iter tg:Expr}{ifs:List Expr}{scope:Scope}{pos:Pos}{NC:List Str}(fr:List (Option Nat)){wi:TI}{g:TG}{tt:TT}{te:TE}{RR:Hp->Prop}(hRR:∀pins Y H s,Inv X pins Y H s->RR H)(hcalm:X.calm=true)(hi:PI X tg iter wi)
 (hcells:∀x,X.env.scope.names.lookup x=some .cell->∃c,X.env.cells.lookup x=some c) (hfk:X.env.scope.kind=.function) (hN:X.N=N) (hsc:X.env.scope.names=(zad st).names)
 (hfree':∀y∈scope.names,y.2=.free->(zad st).names.lookup y.1=some .cell) (hcell:∀y∈scope.names,y.2≠.cell) (hkind:scope.kind=.function) (hnames:∀y∈scope.names,y.2=.local->scope.names.lookup y.1=some .local)
 (hfr':zep N (zad st).names scope.names NC fr=true) (hlen:fr.length=NC.length)
 (hg:∀cl C s0 H0 ex pn,PG (cxC X scope cl NC C s0 H0 ex pn) tg g) (ht:∀cl C s0 H0 ex pn,PTs (cxC X scope cl NC C s0 H0 ex pn) ifs tt) (he:∀cl C s0 H0 ex pn,RR H0->PE (cxC X scope cl NC C s0 H0 ex pn) elt te)
 (hs:∀x,foldedSetIterable iter X.env x=pure x:=by intro _;rfl):PE X (.ListComp elt [⟨tg,iter,ifs,0⟩] scope pos) (zhQ fr wi g tt te):=by
 have hfree:∀y∈scope.names,y.2=.free->X.env.scope.names.lookup y.1=some .cell:=by rw[hsc];exact hfree'
 have hfr:zep X.N X.env.scope.names scope.names NC fr=true:=by rw[hsc,hN];exact hfr'
 have hc:∀y∈scope.names,y.2=.free->∃c,X.env.cells.lookup y.1=some c:=λy hy h=>hcells _ (hfree y hy h)
 refine zjn (cl:=clo X.env.cells scope.names []) hRR hcalm hi (zkp hc) hcell hkind hnames (λx c e=>zfH _ _ _ (λ_ _ z=>by cases z) hc x c e) (λx hx=>?_) (λi x j h1 h2=>?_) hlen (hg _) (ht _) (he _) hs
 .refine zfI _ _ _ x (.inr (zct ?_));rcases hx with e|e
  .exact zcG scope.names hcell x _ e (.inl rfl)
  .exact zcG scope.names hcell x _ e (.inr rfl)
 .have hm:(x,some j)∈NC.zip fr:=by
   have hi1:=(wav.mp h1).1
   have:(NC.zip fr)[i]?=some (x,some j):=by rw[List.getElem?_zip_eq_some];exact⟨h1,h2⟩
   exact waW this
  have q:=waJ.mp hfr _ hm
  have q':((X.N[j]? == some x)&&(X.env.scope.names.lookup x == some .cell)&&(scope.names.lookup x == some .free))=true:=q
  simp only[waD,beq_iff_eq] at q';obtain⟨⟨q1,q2⟩,q3⟩:=q';refine⟨q1,.inr (.inl q2),?_,.inl (zdh hfk scope.names x q3 q2)⟩;intro z;have z':X.env.scope.names.lookup x=some .local:=z
  rw[q2] at z';cases z'
section
variable {X:Cx}{scope:Scope}{cl:List (Str×Addr)}{NC:List Str}{C:Addr}{s0:Shared}{H0:Hp}{ex:List Addr}{pn:List (Addr×Obj)}
end
end L2
namespace Mn
open PySem PySem.Spec PyProof PyProof.Rows
open Sem (wp)
section
variable {prog:Program}{w:World}{A:Around}{R:Result->Shared->Prop}{I:Addr}{fp wr:List Addr}{n:Nat}{P:Nat->Value->Prop}{St:Nat->Heap->Prop}
end
section
variable {prog:Program}{w:World}{A:Around}{E:Value->Shared->Prop}{s:Shared}
end
section
open PySem.SeqAt
open PySem.AutoSeq1 (wpAny_loadPart')
open PySem.MeetsSeq PySem.MeetsSeq2 PySem.MeetsSeq3
end
end Mn
namespace L2
open PySem PySem.Spec PyProof PyProof.Rows
section
variable {X:Cx}
end
section
variable {X:Cx}{kx vx iter tg:Expr}{ifs:List Expr}{scope:Scope}{pos:Pos}{NC:List Str}{wi:TI}{g:TG}{tt:TT}{tk tv:TE}
end
end L2
namespace HT
open PySem PySem.Spec PyProof PyProof.Rows L2
section
variable {prog:Program}{w:World}{A:Around}{E:Value->Shared->Prop}{s:Shared}
def getItem_whole {t sl:Addr}{items:Array Value}{vl vu:Value}{lo hi:Option Int}{Q:Value->Shared->Prop}(ht:IsTup s.heap t items)(hs:s.heap.IsSliceOf sl vl vu .none)(pl:IsPart vl lo)(pu:IsPart vu hi)(h0:sIx items.size 0 lo=0)(h1:sIx items.size items.size hi=items.size)(h:Q (.ref t) s)(hsz:items.size<=sizeLine):wpAny (model prog w) A (getItem (.ref t) (.ref sl)) Q E s:=by
 obtain⟨os,hos,hcs,hds⟩:=id hs;have hTs:s.TypeIs (.ref sl) "slice":=⟨os,hos,hcs⟩
 unfold getItem;try with_reducible refine wbr ?_
 try refine waa (wae ?_)
 refine waa (wpAny_sequenceKey ht.typeIs (by decide) ?_);refine waa (wbs (name:=Str.ofString "__getitem__") ht.typeIs waZ (wbw waZ ht.typeIs entry_tuple_getitem ?_ (args_tuple_getitem _ _)));show wpAny _ _ (Builtin.Tuple.tupleItemsOf (.ref t) >>= _) _ _ s
 refine waa (tupleItemsOf_ ht (waa (wcm hTs ?_)));rw[if_pos (by decide)];refine waa (zch hs pl pu ?_);have hy:(((sIx items.size 0 lo:Nat):Int) == 0&&(1:Int) == 1&&(sIx items.size items.size hi - sIx items.size 0 lo) == items.size)=true:=by rw[h0,h1];simp
 show wpAny _ _ (if(((sIx items.size 0 lo:Nat):Int) == 0&&(1:Int) == 1&&(sIx items.size items.size hi - sIx items.size 0 lo) == items.size)=true then _ else _) _ _ s
 rw[if_pos hy];refine waa (war (Q:=λb s'=>b=true/\s'=s) ?_ (λb s1 hb=>?_) λ_ _ z=>z)
 .unfold Builtin.Tuple.tupleIsExact;exact waa (wcm ht.typeIs (wae ⟨by decide,rfl⟩))
 .obtain⟨rfl,rfl⟩:=hb;rw[if_pos rfl];exact waa (wcp (wae ⟨_,rfl,wae h⟩))
end
end HT
namespace L2
open PySem PySem.Spec PyProof PyProof.Rows
def rSlW (K:W.Frag):V->Option Int->Option Int->Hp->VK->Prop:=λx lo hi H Q=>∃a xs,x=.ref a/\SqT K H a xs/\HT.sIx xs.length 0 lo=0/\HT.sIx xs.length xs.length hi=xs.length/\Q x H
def zjo {X:Cx}:SlR X (rSlW X.K):=by
 intro pins s Y H x v vl vu lo hi sl Q I rx hs pl pu h;obtain⟨a,xs,rfl,hx,h0,h1,q⟩:=h;cases rx;obtain⟨its,r,ht,hz⟩:=I.tuple hx;have hlen:its.toArray.size=xs.length:=by rw[wac];exact r.length.symm
 exact⟨"tuple",_,PyProof.Rows.slot_tuple_getitem.lookup,ht.typeIs,HT.getItem_whole ht hs pl pu (by rw[hlen];exact h0) (by rw[hlen];exact h1) ⟨.ref a,H,I,rfl,q⟩ (by rw[hlen];exact hz)⟩
end L2
namespace En
open PySem PySem.Spec PyProof PyProof.Rows
end En
namespace L2
open PySem PySem.Spec PyProof PyProof.Rows
end L2
namespace VD
open PySem PySem.Spec PyProof PyProof.Rows L2
inductive D where
|non|bl (b:Bool)|int (i:Int)|str (x:Str)|tup (ds:List D)|lst (ds:List D)|dct (ks:List Key) (ds:List D)|dcu (ks:List (List Key)) (ds:List D)|scr (p:Addr)|exc (c:Str) (ns:List Str) (ds:List D)
mutual
def D.beq:D->D->Bool
|.non,.non=>true
|.bl a,.bl b=>a == b
|.int a,.int b=>a == b
|.str a,.str b=>a == b
|.tup a,.tup b=>D.beqL a b
|.lst a,.lst b=>D.beqL a b
|.dct ks a,.dct ls b=>decide (ks=ls)&&D.beqL a b
|.dcu ks a,.dcu ls b=>decide (ks=ls)&&D.beqL a b
|.scr a,.scr b=>a == b
|.exc c ns a,.exc c' ms b=>c == c'&&decide (ns=ms)&&D.beqL a b
|_,_=>false
def D.beqL:List D->List D->Bool
|[],[]=>true
|a::as,b::bs=>D.beq a b&&D.beqL as bs
|_,_=>false
end
mutual
theorem D.beq_iff:∀(a b:D),D.beq a b=true↔a=b
|.non,b=>by cases b <;> simp[D.beq]
|.bl _,b=>by cases b <;> simp[D.beq]
|.int _,b=>by cases b <;> simp[D.beq]
|.str _,b=>by cases b <;> simp[D.beq]
|.tup xs,b=>by cases b <;> simp[D.beq,D.beqL_iff xs]
|.lst xs,b=>by cases b <;> simp[D.beq,D.beqL_iff xs]
|.dct ks xs,b=>by cases b <;> simp[D.beq,D.beqL_iff xs]
|.dcu ks xs,b=>by cases b <;> simp[D.beq,D.beqL_iff xs]
|.scr _,b=>by cases b <;> simp[D.beq]
|.exc c ns xs,b=>by cases b <;> simp[D.beq,D.beqL_iff xs,and_assoc]
theorem D.beqL_iff:∀(a b:List D),D.beqL a b=true↔a=b
|[],b=>by cases b <;> simp[D.beqL]
|x::xs,b=>by
   cases b with
  |nil=>simp[D.beqL]
  |cons y ys=>simp[D.beqL,D.beq_iff x y,D.beqL_iff xs ys]
end
instance:DecidableEq D:=λa b=>decidable_of_iff _ (D.beq_iff a b)
instance:Inhabited D:=⟨.non⟩
def Exh (K:W.Frag)(H:Hp)(J:Addr->Prop)(a:Addr)(c:Str)(ns:List Str)(vs:List V):Prop:=
 J a/\∃oa C,W.nsIn K mainGlobals c=some (some (.ref C))/\H a=some (.frz oa (.ext λ_=>True))/\oa.cls=.ref C/\PySem.W.notCls oa=true/\
   ((ns = []/\vs = []/\oa.dict=none)\/∃d od,oa.dict=some d/\J d/\H d=some (.frz od (.xd (ns.zip vs)))/\ns.length=vs.length)
mutual
inductive Rp (K:W.Frag)(H:Hp)(J:Addr->Prop):V->D->Prop
|non:Rp K H J .non .non
|bl (b:Bool):Rp K H J (.bl b) (.bl b)
|int (i:Int):Rp K H J (.int i) (.int i)
|str (x:Str):Rp K H J (.str x) (.str x)
|scr (p:Addr):Rp K H J (.ref p) (.scr p)
|tup {p:Addr}{vs:List V}{ds:List D}(h:SqT K H p vs) (r:RpL K H J vs ds):Rp K H J (.ref p) (.tup ds)
|lst {p:Addr}{vs:List V}{ds:List D}(h:H p=some (.lst vs)) (j:J p) (r:RpL K H J vs ds):Rp K H J (.ref p) (.lst ds)
|dct {p:Addr}{kvs:List (Key×V)}{vs:List V}{ks:List Key}{ds:List D}(h:H p=some (.dK kvs)) (j:J p) (ek:kvs.map (·.1)=ks) (ev:kvs.map (·.2)=vs) (r:RpL K H J vs ds):Rp K H J (.ref p) (.dct ks ds)
|dcu {p:Addr}{kvs:List (List Key×V)}{vs:List V}{ks:List (List Key)}{ds:List D}(h:H p=some (.dT kvs)) (j:J p) (ek:kvs.map (·.1)=ks) (ev:kvs.map (·.2)=vs) (r:RpL K H J vs ds):Rp K H J (.ref p) (.dcu ks ds)
|exc {p:Addr}{c:Str}{ns:List Str}{vs:List V}{ds:List D}(h:Exh K H J p c ns vs) (r:RpL K H J vs ds):Rp K H J (.ref p) (.exc c ns ds)
inductive RpL (K:W.Frag)(H:Hp)(J:Addr->Prop):List V->List D->Prop
|nil:RpL K H J [] []
|cons {v:V}{d:D}{vs:List V}{ds:List D}(h:Rp K H J v d) (t:RpL K H J vs ds):RpL K H J (v::vs) (d::ds)
end
structure Keep (K:W.Frag)(H:Hp)(J:Addr->Prop)(H':Hp)(J':Addr->Prop):Prop where
 jj:∀a,J a->J' a
 jo:∀p o,J p->H p=some o->H' p=some o
 tp:∀p vs,SqT K H p vs->SqT K H' p vs
section
variable {K:W.Frag}{H H' H1 H2 Hz:Hp}{J J' J1 J2 Jz:Addr->Prop}
def Keep.refl:Keep K H J H J:=⟨λ_ h=>h,λ_ _ _ h=>h,λ_ _ h=>h⟩
def Keep.trans (a:Keep K H J H1 J1)(b:Keep K H1 J1 H2 J2):Keep K H J H2 J2:=⟨λp h=>b.jj p (a.jj p h),λp o j h=>b.jo p o (a.jj p j) (a.jo p o j h),λp vs h=>b.tp p vs (a.tp p vs h)⟩
def Exh.keep {a:Addr}{c:Str}{ns:List Str}{vs:List V}(k:Keep K H J H' J')(h:Exh K H J a c ns vs):Exh K H' J' a c ns vs:=by
 obtain⟨j,oa,C,h1,h2,h3,h4,h5⟩:=h;refine⟨k.jj _ j,oa,C,h1,k.jo _ _ j h2,h3,h4,h5.imp (λh=>h) λ⟨d,od,h6,h7,h8,h9⟩ =>⟨d,od,h6,k.jj _ h7,k.jo _ _ h7 h8,h9⟩⟩
mutual
theorem Rp.keep {v:V}{d:D}(k:Keep K H J H' J'):Rp K H J v d->Rp K H' J' v d
|.non=>.non
|.bl b=>.bl b
|.int i=>.int i
|.str x=>.str x
|.scr p=>.scr p
|.tup h r=>.tup (k.tp _ _ h) (RpL.keep k r)
|.lst h j r=>.lst (k.jo _ _ j h) (k.jj _ j) (RpL.keep k r)
|.dct h j ek ev r=>.dct (k.jo _ _ j h) (k.jj _ j) ek ev (RpL.keep k r)
|.dcu h j ek ev r=>.dcu (k.jo _ _ j h) (k.jj _ j) ek ev (RpL.keep k r)
|.exc h r=>.exc (h.keep k) (RpL.keep k r)
theorem RpL.keep {vs:List V}{ds:List D}(k:Keep K H J H' J'):RpL K H J vs ds->RpL K H' J' vs ds
|.nil=>.nil
|.cons h t=>.cons (Rp.keep k h) (RpL.keep k t)
end
def zjp (h:Same H H')(p:Addr)(vs:List V):SqT K H p vs->SqT K H' p vs:=by
 rintro((h1|⟨o,h1⟩)|h1)
 .exact .inl (.inl (h _ _ h1))
 .exact .inl (.inr ⟨o,h _ _ h1⟩)
 .exact .inr h1
structure Up (H:Hp)(J:Addr->Prop)(H':Hp)(J':Addr->Prop):Prop where
 same:Same H H'
 jj:∀a,J a->J' a
 jn:∀a,J' a->J a\/H a=none
 ja:∀a,J' a->H' a≠none
def Up.keep (u:Up H J H' J'):Keep K H J H' J':=⟨u.jj,λp o _ h=>u.same p o h,zjp u.same⟩
theorem Up.refl (ja:∀a,J a->H a≠none):Up H J H J:=⟨Same.refl H,λ_ h=>h,λ_ h=>.inl h,ja⟩
theorem Up.trans (a:Up H J H1 J1)(b:Up H1 J1 H2 J2):Up H J H2 J2:=⟨a.same.trans b.same,λp h=>b.jj p (a.jj p h),λp h=>by
 rcases b.jn p h with h|h
 .exact a.jn p h
 .exact .inr (a.same.free h),b.ja⟩
def Up.new {p:Addr}(ja:∀a,J a->H a≠none)(hp:H p=none)(o:HO):Up H J (upd H p o) J:=
 ⟨zeo hp o,λ_ h=>h,λ_ h=>.inl h,λa h=>by
  by_cases e:a=p
  .subst e;rw[zai];simp
  .rw[zag e];exact ja a h⟩
def Up.newJ {p:Addr}(ja:∀a,J a->H a≠none)(hp:H p=none)(o:HO):Up H J (upd H p o) (λa=>J a\/a=p):=
 ⟨zeo hp o,λ_ h=>.inl h,λa h=>by rcases h with h|h;exact .inl h;subst h;exact .inr hp,λa h=>by
  by_cases e:a=p
  .subst e;rw[zai];simp
  .rw[zag e];rcases h with h|h;exact ja a h;exact absurd h e⟩
theorem RpL.length:∀{vs:List V}{ds:List D},RpL K H J vs ds->vs.length=ds.length
|_,_,.nil=>rfl
|_,_,.cons _ t=>by simp[RpL.length t]
theorem RpL.get:∀{vs:List V}{ds:List D}{i:Nat}{d:D},RpL K H J vs ds->ds[i]?=some d->∃v,vs[i]?=some v/\Rp K H J v d
|_,_,_,_,.nil,e=>by simp at e
|_,_,0,_,.cons h _,e=>by simp at e;subst e;exact⟨_,rfl,h⟩
|_,_,i+1,d,.cons _ t,e=>by
   obtain⟨v,h1,h2⟩:=RpL.get (i:=i) (d:=d) t (by simpa using e);exact⟨v,by simpa using h1,h2⟩
theorem RpL.append:∀{vs us:List V}{ds es:List D},RpL K H J vs ds->RpL K H J us es->RpL K H J (vs++us) (ds++es)
|_,_,_,_,.nil,s=>s
|_,_,_,_,.cons h t,s=>.cons h (RpL.append t s)
theorem RpL.take:∀{vs:List V}{ds:List D}(n:Nat),RpL K H J vs ds->RpL K H J (vs.take n) (ds.take n)
|_,_,0,_=>.nil
|_,_,_+1,.nil=>.nil
|_,_,n+1,.cons h t=>.cons h (RpL.take n t)
theorem RpL.drop:∀{vs:List V}{ds:List D}(n:Nat),RpL K H J vs ds->RpL K H J (vs.drop n) (ds.drop n)
|_,_,0,h=>h
|_,_,_+1,.nil=>.nil
|_,_,n+1,.cons _ t=>RpL.drop n t
theorem RpL.at {vs:List V}{ds:List D}{i:Int}{d:D}(r:RpL K H J vs ds)(h:atI ds i=some d):∃v,atI vs i=some v/\Rp K H J v d:=by
 unfold atI at h⊢;rw[r.length];cases e:ixN ds.length i with
|none=>rw[e] at h;cases h
|some j=>rw[e] at h;exact r.get h
end
mutual
inductive RpU (K:W.Frag)(H:Hp)(J:Addr->Prop):Nat->V->D->List Addr->Prop
|frz {v:V}{d:D}(h:Rp K H J v d):RpU K H J 0 v d []
|lst {n:Nat}{a:Addr}{vs:List V}{ds:List D}{A:List Addr}(h:H a=some (.lst vs)) (r:RpUL K H J n vs ds A):RpU K H J (n+1) (.ref a) (.lst ds) (a::A)
|dct {n:Nat}{a:Addr}{kvs:List (Key×V)}{vs:List V}{ks:List Key}{ds:List D}{A:List Addr}(h:H a=some (.dK kvs)) (ek:kvs.map (·.1)=ks) (ev:kvs.map (·.2)=vs) (r:RpUL K H J n vs ds A):RpU K H J (n+1) (.ref a) (.dct ks ds) (a::A)
|dcu {n:Nat}{a:Addr}{kvs:List (List Key×V)}{vs:List V}{ks:List (List Key)}{ds:List D}{A:List Addr}(h:H a=some (.dT kvs)) (ek:kvs.map (·.1)=ks) (ev:kvs.map (·.2)=vs) (r:RpUL K H J n vs ds A):RpU K H J (n+1) (.ref a) (.dcu ks ds) (a::A)
inductive RpUL (K:W.Frag)(H:Hp)(J:Addr->Prop):Nat->List V->List D->List Addr->Prop
|nil {n:Nat}:RpUL K H J n [] [] []
|cons {n:Nat}{v:V}{d:D}{vs:List V}{ds:List D}{A B:List Addr}(h:RpU K H J n v d A) (t:RpUL K H J n vs ds B):RpUL K H J n (v::vs) (d::ds) (A++B)
end
def MutO:HO->Prop
|.lst _=>True
|.dK _=>True
|.dT _=>True
|_=>False
section
variable {K:W.Frag}{H H' H1 H2 Hz:Hp}{J J' J1 J2 Jz:Addr->Prop}
mutual
theorem RpU.keep {n:Nat}{v:V}{d:D}{A:List Addr}(k:Keep K H J H' J')(hA:∀b∈A,∀o,H b=some o->H' b=some o):RpU K H J n v d A->RpU K H' J' n v d A
|.frz h=>.frz (h.keep k)
|.lst h r=>.lst (hA _ waj _ h) (RpUL.keep k (λb hb=>hA b (waf _ hb)) r)
|.dct h ek ev r=>.dct (hA _ waj _ h) ek ev (RpUL.keep k (λb hb=>hA b (waf _ hb)) r)
|.dcu h ek ev r=>.dcu (hA _ waj _ h) ek ev (RpUL.keep k (λb hb=>hA b (waf _ hb)) r)
theorem RpUL.keep {n:Nat}{vs:List V}{ds:List D}{A:List Addr}(k:Keep K H J H' J')(hA:∀b∈A,∀o,H b=some o->H' b=some o):RpUL K H J n vs ds A->RpUL K H' J' n vs ds A
|.nil=>.nil
|.cons h t=>.cons (RpU.keep k (λb hb=>hA b (wbk _ hb)) h) (RpUL.keep k (λb hb=>hA b (wan _ hb)) t)
end
mutual
theorem RpU.some {n:Nat}{v:V}{d:D}{A:List Addr}:RpU K H J n v d A->∀b∈A,∃o,H b=Option.some o/\MutO o
|.frz _=>λb hb=>absurd hb (by simp)
|.lst h r=>λb hb=>by
   rcases wah.mp hb with rfl|hb
   .exact⟨_,h,trivial⟩
   .exact RpUL.some r b hb
|.dct h _ _ r=>λb hb=>by
   rcases wah.mp hb with rfl|hb
   .exact⟨_,h,trivial⟩
   .exact RpUL.some r b hb
|.dcu h _ _ r=>λb hb=>by
   rcases wah.mp hb with rfl|hb
   .exact⟨_,h,trivial⟩
   .exact RpUL.some r b hb
theorem RpUL.some {n:Nat}{vs:List V}{ds:List D}{A:List Addr}:RpUL K H J n vs ds A->∀b∈A,∃o,H b=Option.some o/\MutO o
|.nil=>λb hb=>absurd hb (by simp)
|.cons h t=>λb hb=>by
   rcases waM.mp hb with hb|hb
   .exact RpU.some h b hb
   .exact RpUL.some t b hb
end
mutual
theorem RpU.rp {n:Nat}{v:V}{d:D}{A:List Addr}(j:∀a,J a->J' a)(hA:∀b∈A,J' b):RpU K H J n v d A->Rp K H J' v d
|.frz h=>h.keep ⟨j,λ_ _ _ h=>h,λ_ _ h=>h⟩
|.lst h r=>.lst h (hA _ waj) (RpUL.rp j (λb hb=>hA b (waf _ hb)) r)
|.dct h ek ev r=>.dct h (hA _ waj) ek ev (RpUL.rp j (λb hb=>hA b (waf _ hb)) r)
|.dcu h ek ev r=>.dcu h (hA _ waj) ek ev (RpUL.rp j (λb hb=>hA b (waf _ hb)) r)
theorem RpUL.rp {n:Nat}{vs:List V}{ds:List D}{A:List Addr}(j:∀a,J a->J' a)(hA:∀b∈A,J' b):RpUL K H J n vs ds A->RpL K H J' vs ds
|.nil=>.nil
|.cons h t=>.cons (RpU.rp j (λb hb=>hA b (wbk _ hb)) h) (RpUL.rp j (λb hb=>hA b (wan _ hb)) t)
end
theorem RpUL.zero:∀{vs:List V}{ds:List D}{A:List Addr},RpUL K H J 0 vs ds A->RpL K H J vs ds/\A = []
|_,_,_,.nil=>⟨.nil,rfl⟩
|_,_,_,.cons (.frz h) t=>by
   obtain⟨r,e⟩:=RpUL.zero t;subst e;exact⟨.cons h r,rfl⟩
theorem RpUL.of:∀{vs:List V}{ds:List D},RpL K H J vs ds->RpUL K H J 0 vs ds []
|_,_,.nil=>.nil
|_,_,.cons h t=>.cons (A:=[]) (B:=[]) (.frz h) (RpUL.of t)
def RpU.one {v:V}{ds:List D}{A:List Addr}(h:RpU K H J 1 v (.lst ds) A):∃a vs,v=.ref a/\A = [a]/\H a=Option.some (.lst vs)/\RpL K H J vs ds:=by
 cases h with
|lst h r=>obtain⟨r',rfl⟩:=r.zero;exact⟨_,_,rfl,rfl,h,r'⟩
def RpU.oneD {v:V}{ks:List Key}{ds:List D}{A:List Addr}(h:RpU K H J 1 v (.dct ks ds) A):∃a kvs vs,v=.ref a/\A = [a]/\H a=Option.some (.dK kvs)/\kvs.map (·.1)=ks/\kvs.map (·.2)=vs/\RpL K H J vs ds:=by
 cases h with
|dct h e1 e2 r=>obtain⟨r',rfl⟩:=r.zero;exact⟨_,_,_,rfl,rfl,h,e1,e2,r'⟩
def RpW (K:W.Frag)(H:Hp)(J:Addr->Prop)(v:V)(d:D):Prop:=Rp K H J v d\/∃A,RpU K H J 1 v d A
theorem RpW.lst {v:V}{ds:List D}(h:RpW K H J v (.lst ds)):∃p vs,v=.ref p/\H p=some (.lst vs)/\RpL K H J vs ds:=by
 rcases h with h|⟨A,h⟩
 .cases h with|lst h j r=>exact⟨_,_,rfl,h,r⟩
 .obtain⟨a,vs,rfl,_,h,r⟩:=h.one;exact⟨a,vs,rfl,h,r⟩
theorem RpW.tup {v:V}{ds:List D}(h:RpW K H J v (.tup ds)):∃p vs,v=.ref p/\SqT K H p vs/\RpL K H J vs ds:=by
 rcases h with h|⟨A,h⟩
 .cases h with|tup h r=>exact⟨_,_,rfl,h,r⟩
 .cases h
theorem RpW.dct {v:V}{ks:List Key}{ds:List D}(h:RpW K H J v (.dct ks ds)):∃p kvs vs,v=.ref p/\H p=some (.dK kvs)/\kvs.map (·.1)=ks/\kvs.map (·.2)=vs/\RpL K H J vs ds:=by
 rcases h with h|⟨A,h⟩
 .cases h with|dct h j e1 e2 r=>exact⟨_,_,_,rfl,h,e1,e2,r⟩
 .obtain⟨a,kvs,vs,rfl,_,h,e1,e2,r⟩:=h.oneD;exact⟨a,kvs,vs,rfl,h,e1,e2,r⟩
theorem RpW.int {v:V}{i:Int}(h:RpW K H J v (.int i)):v=.int i:=by
 rcases h with h|⟨A,h⟩ <;> cases h
 rfl
theorem RpW.str {v:V}{i:Str}(h:RpW K H J v (.str i)):v=.str i:=by
 rcases h with h|⟨A,h⟩ <;> cases h
 rfl
theorem RpW.bl {v:V}{i:Bool}(h:RpW K H J v (.bl i)):v=.bl i:=by
 rcases h with h|⟨A,h⟩ <;> cases h
 rfl
theorem RpW.non {v:V}(h:RpW K H J v .non):v=.non:=by
 rcases h with h|⟨A,h⟩ <;> cases h
 rfl
end
inductive SV where
|un|val (d:D)|own (n:Nat) (d:D)|par (n:Nat) (d:D)
abbrev En:=List SV
structure Pr where
 ps:List (Nat×Addr×Nat)
 fpo:Nat->List Addr
def Pr.no:Pr:=⟨[],λ_=>[]⟩
def Pr.has (O:Pr)(b:Addr):Prop:=∃i,b∈O.fpo i
def OwAt (K:W.Frag)(Hz H:Hp)(J:Addr->Prop)(O:List Addr)(x:Option (Option V))(A:List Addr):Option SV->Prop
|some (.own n d)=>(∃v,x=some (some v)/\RpU K H J n v d A)/\∀b∈A,Hz b=none
|some (.par n d)=>(∃v,x=some (some v)/\RpU K H J n v d A)/\∀b∈A,Hz b=none\/b∈O
|_=>A = []
structure Ow (K:W.Frag)(Hz:Hp)(O:Pr)(Z:En)(Y:L2.St)(H:Hp)(J:Addr->Prop)(fp:Nat->List Addr):Prop where
 at':∀i,OwAt K Hz H J (O.fpo i) (Y[i]?) (fp i) (Z[i]?)
 nd:∀i,(fp i).Nodup
 nj:∀i,∀b∈fp i,¬J b
 dj:∀i j,i≠j->∀b∈fp i,b∉fp j
structure ST (K:W.Frag)(Hz:Hp)(Jz:Addr->Prop)(O:Pr)(Z:En)(Y:L2.St)(H:Hp)(J:Addr->Prop):Prop where
 same:∀b o,¬O.has b->Hz b=some o->H b=some o
 j0:∀a,Jz a->J a
 jn:∀a,J a->Jz a\/Hz a=none
 ja:∀a,J a->H a≠none
 len:Y.length=Z.length
 vl:∀(i:Nat) (d:D),Z[i]?=some (.val d)->∃v,Y[i]?=some (some v)/\Rp K H J v d
 ow:∃fp,Ow K Hz O Z Y H J fp
 ps:∀q∈O.ps,Y[q.1]?=some (some (.ref q.2.1))/\∃d,Z[q.1]?=some (.par q.2.2 d)
 al:∀b,Hz b≠none->H b≠none
section
variable {K:W.Frag}{H H' H1 H2 Hz:Hp}{J J' J1 J2 Jz:Addr->Prop}{Z:En}{Y:L2.St}{O:Pr}
def OwAt.ru {B:List Addr}{x:Option (Option V)}{A:List Addr}{s:Option SV}(h:OwAt K Hz H J B x A s):∀b∈A,∃o,H b=some o/\MutO o:=by
 match s,h with
|some (.own n d),⟨⟨v,_,r⟩,_⟩ =>exact r.some
|some (.par n d),⟨⟨v,_,r⟩,_⟩ =>exact r.some
|none,h=>cases h;simp
|some .un,h=>cases h;simp
|some (.val _),h=>cases h;simp
theorem OwAt.keep {B:List Addr}{x:Option (Option V)}{A:List Addr}{s:Option SV}(k:Keep K H J H' J')(hA:∀b∈A,∀o,H b=some o->H' b=some o)(h:OwAt K Hz H J B x A s):OwAt K Hz H' J' B x A s:=by
 match s,h with
|some (.own n d),⟨⟨v,e,r⟩,q⟩ =>exact⟨⟨v,e,r.keep k hA⟩,q⟩
|some (.par n d),⟨⟨v,e,r⟩,q⟩ =>exact⟨⟨v,e,r.keep k hA⟩,q⟩
|none,h=>exact h
|some .un,h=>exact h
|some (.val _),h=>exact h
def ST.up (s:ST K Hz Jz O Z Y H J)(u:Up H J H' J'):ST K Hz Jz O Z Y H' J' where
 same:=λb o hb h=>u.same b o (s.same b o hb h)
 j0:=λa h=>u.jj a (s.j0 a h)
 jn:=λa h=>by
  rcases u.jn a h with h|h
  .exact s.jn a h
  .right
   cases e:Hz a with
  |none=>rfl
  |some o=>
     exact absurd h (s.al a (by rw[e];simp))
 ja:=u.ja
 len:=s.len
 vl:=λi d h=>let ⟨v,e,r⟩:=s.vl i d h;⟨v,e,r.keep u.keep⟩
 ow:=by
  obtain⟨fp,w⟩:=s.ow;refine⟨fp,λi=>(w.at' i).keep u.keep λb _=>u.same b,w.nd,λi b hb j=>?_,w.dj⟩;rcases u.jn b j with j|j
  .exact w.nj i b hb j
  .obtain⟨o,e,_⟩:=(w.at' i).ru b hb;rw[e] at j;cases j
 ps:=s.ps
 al:=λb h=>by
  cases e:H b with
 |none=>exact absurd e (s.al b h)
 |some o=>rw[u.same b o e];simp
def zc3 {α:Type}{l:List α}{i j:Nat}{x y:α}(h:(l.set i x)[j]?=some y):(j=i/\y=x)\/(j≠i/\l[j]?=some y):=by
 by_cases e:j=i
 .subst e;by_cases hl:j<l.length
  .rw[was hl] at h;exact .inl ⟨rfl,(waq h).symm⟩
  .rw[wbb (by simp;omega)] at h;cases h
 .rw[wag (Ne.symm e)] at h;exact .inr ⟨e,h⟩
def zlb (fp:Nat->List Addr)(i:Nat)(A:List Addr):Nat->List Addr:=λj=>if j=i then A else fp j
def zcN {fp:Nat->List Addr}{i:Nat}{A:List Addr}:zlb fp i A i=A:=if_pos rfl
def zcu {fp:Nat->List Addr}{i j:Nat}{A:List Addr}(h:j≠i):zlb fp i A j=fp j:=if_neg h
def Ow.put {fp:Nat->List Addr}{Z':En}{Y':L2.St}{i:Nat}{A:List Addr}(w:Ow K Hz O Z Y H J fp)(k:Keep K H J H' J')(hs:∀j,j≠i->∀b∈fp j,∀o,H b=some o->H' b=some o)
 (hj:∀j,j≠i->∀b∈fp j,¬J' b) (hρ:∀j,j≠i->Z'[j]?=Z[j]?) (hσ:∀j,j≠i->Y'[j]?=Y[j]?) (hi:OwAt K Hz H' J' (O.fpo i) (Y'[i]?) A (Z'[i]?)) (nd:A.Nodup) (nj:∀b∈A,¬J' b) (dj:∀j,j≠i->∀b∈A,b∉fp j) :
 Ow K Hz O Z' Y' H' J' (zlb fp i A) where
 at':=λj=>by
  by_cases e:j=i
  .subst e;rw[zcN];exact hi
  .rw[zcu e,hρ j e,hσ j e];exact(w.at' j).keep k (hs j e)
 nd:=λj=>by
  by_cases e:j=i
  .subst e;rw[zcN];exact nd
  .rw[zcu e];exact w.nd j
 nj:=λj b hb=>by
  by_cases e:j=i
  .subst e;rw[zcN] at hb;exact nj b hb
  .rw[zcu e] at hb;exact hj j e b hb
 dj:=λj l ne b hb=>by
  by_cases e:j=i
  .subst e;rw[zcN] at hb;rw[zcu (Ne.symm ne)];exact dj l (Ne.symm ne) b hb
  .rw[zcu e] at hb;by_cases e2:l=i
   .subst e2;rw[zcN];exact λhb2=>dj j e b hb2 hb
   .rw[zcu e2];exact w.dj j l ne b hb
def ST.psNe {i:Nat}(s:ST K Hz Jz O Z Y H J)(hp:∀n d,Z[i]?≠some (.par n d)):∀q∈O.ps,q.1≠i:=λq hq e=>by
 obtain⟨_,d,h⟩:=s.ps q hq;exact hp _ d (e▸h)
theorem ST.set {i:Nat}{v:V}{d:D}(s:ST K Hz Jz O Z Y H J)(r:Rp K H J v d)(hi:i<Z.length)(hp:∀n d,Z[i]?≠some (.par n d)):ST K Hz Jz O (Z.set i (.val d)) (Y.set i (some v)) H J where
 same:=s.same
 j0:=s.j0
 jn:=s.jn
 ja:=s.ja
 len:=by simp[s.len]
 vl:=λj e h=>by
  rcases zc3 h with⟨rfl,he⟩|⟨ne,h⟩
  .cases he;exact⟨v,was (by rw[s.len];exact hi),r⟩
  .rw[wag (Ne.symm ne)];exact s.vl j e h
 ow:=by
  obtain⟨fp,w⟩:=s.ow;refine⟨_,w.put (i:=i) (A:=[]) Keep.refl (λ_ _ _ _ _ h=>h) (λj _=>w.nj j) (λj e=>wag (Ne.symm e)) (λj e=>wag (Ne.symm e)) ?_ wbx (by simp) (by simp)⟩;rw[was hi];rfl
 ps:=λq hq=>by
  have e:=s.psNe hp q hq
  rw[wag (Ne.symm e),wag (Ne.symm e)];exact s.ps q hq
 al:=s.al
def ST.drop {i:Nat}(s:ST K Hz Jz O Z Y H J)(hp:∀n d,Z[i]?≠some (.par n d)):ST K Hz Jz O (Z.set i .un) Y H J where
 same:=s.same
 j0:=s.j0
 jn:=s.jn
 ja:=s.ja
 len:=by simp[s.len]
 vl:=λj e h=>by
  rcases zc3 h with⟨rfl,he⟩|⟨ne,h⟩
  .cases he
  .exact s.vl j e h
 ow:=by
  obtain⟨fp,w⟩:=s.ow;refine⟨_,w.put (i:=i) (A:=[]) Keep.refl (λ_ _ _ _ _ h=>h) (λj _=>w.nj j) (λj e=>wag (Ne.symm e)) (λ_ _=>rfl) ?_ wbx (by simp) (by simp)⟩;by_cases hi:i<Z.length
  .rw[was hi];rfl
  .have z:(List.set Z i SV.un)[i]?=none:=wbb (by simp;omega)
   rw[z];rfl
 ps:=λq hq=>by
  have e:=s.psNe hp q hq
  rw[wag (Ne.symm e)];exact s.ps q hq
 al:=s.al
def ST.setOwn {i n:Nat}{v:V}{d:D}{A:List Addr}(s:ST K Hz Jz O Z Y H1 J1)(u:Up H1 J1 H J)(fr:∀b∈A,H1 b=none)(r:RpU K H J n v d A)(nd:A.Nodup)(nj:∀b∈A,¬J b)(hi:i<Z.length)(hp:∀n d,Z[i]?≠some (.par n d)) :
 ST K Hz Jz O (Z.set i (.own n d)) (Y.set i (some v)) H J:=by
 have s':=s.up u
 refine⟨s'.same,s'.j0,s'.jn,s'.ja,by simp[s.len],λj e h=>?_,?_,λq hq=>?_,s'.al⟩
 .rcases zc3 h with⟨rfl,he⟩|⟨ne,h⟩
  .cases he
  .rw[wag (Ne.symm ne)];exact s'.vl j e h
 .obtain⟨fp,w⟩:=s.ow;have h0:∀b∈A,Hz b=none:=λb hb=>by
   cases e:Hz b with
  |none=>rfl
  |some o=>exact absurd (fr b hb) (s.al b (by rw[e];simp))
  refine⟨_,w.put (i:=i) (A:=A) u.keep (λj _ b _ o=>u.same b o) (λj _ b hb jb=>?_) (λj e=>wag (Ne.symm e)) (λj e=>wag (Ne.symm e)) ?_ nd nj (λj _ b hb hb2=>?_)⟩
  .rcases u.jn b jb with jb|jb
   .exact w.nj j b hb jb
   .obtain⟨o,e,_⟩:=(w.at' j).ru b hb;rw[e] at jb;cases jb
  .rw[was hi,was (by rw[s.len];exact hi)];exact⟨⟨v,rfl,r⟩,h0⟩
  .obtain⟨o,e,_⟩:=(w.at' j).ru b hb2;rw[fr b hb] at e;cases e
 .have e:=s.psNe hp q hq
  rw[wag (Ne.symm e),wag (Ne.symm e)];exact s.ps q hq
def ownD:Option SV->Option (Nat×D)
|some (.own n d)=>some (n,d)
|some (.par n d)=>some (n,d)
|_=>none
def putD (s:Option SV)(d:D):SV:=match s with
|some (.own n _)=>.own n d
|some (.par n _)=>.par n d
|_=>.un
def zjq {A:List Addr}(hm:∀b∈A,∃o,H b=some o/\MutO o)(nj:∀b∈A,¬J b)(hs:∀b o,b∉A->H b=some o->H' b=some o)(jj:∀a,J a->J' a):Keep K H J H' J':=⟨jj,λp o j h=>hs p o (λhp=>nj p hp j) h,λp vs h=>by
 rcases h with(h|⟨u,h⟩)|h
 .exact .inl (.inl (hs p _ (λhp=>by obtain⟨o,e,m⟩:=hm p hp;rw[h] at e;cases e;exact m) h))
 .exact .inl (.inr ⟨u,hs p _ (λhp=>by obtain⟨o,e,m⟩:=hm p hp;rw[h] at e;cases e;exact m) h⟩)
 .exact .inr h⟩
def ST.chg {i n:Nat}{d:D}(s:ST K Hz Jz O Z Y H J)(h0:ownD (Z[i]?)=some (n,d)):∃v A,Y[i]?=some (some v)/\RpU K H J n v d A/\A.Nodup/\(∀b∈A,¬J b)/\
 ∀(H':Hp) (J':Addr->Prop) (d':D) (A':List Addr),(∀b o,b∉A->H b=some o->H' b=some o)->(∀b,H b≠none->H' b≠none)->(∀a,J a->J' a)->(∀a,J' a->J a\/H a=none)->(∀a,J' a->H' a≠none)->
  RpU K H' J' n v d' A'->A'.Nodup->(∀b∈A',¬J' b)->(∀b∈A',b∈A\/H b=none)->ST K Hz Jz O (Z.set i (putD (Z[i]?) d')) Y H' J'/\Keep K H J H' J':=by
 obtain⟨fp,w⟩:=s.ow;have hat:=w.at' i
 have hi:i<Z.length:=by
  by_cases hi:i<Z.length
  .exact hi
  .rw[wbb (by omega)] at h0;cases h0
 have main:(∃v,Y[i]?=some (some v)/\RpU K H J n v d (fp i))/\(∀b∈fp i,Hz b=none\/b∈O.fpo i):=by
  match hq:Z[i]?,h0,hat with
 |some (.own m e),h0,hat=>cases h0;exact⟨hat.1,λb hb=>.inl (hat.2 b hb)⟩
 |some (.par m e),h0,hat=>cases h0;exact hat
 obtain⟨⟨v,hv,r⟩,hfr⟩:=main;refine⟨v,fp i,hv,r,w.nd i,w.nj i,λH' J' d' A' hs ha jj jn ja r' nd nj hA=>?_⟩;have kp:Keep K H J H' J':=zjq (λb hb=>hat.ru b hb) (w.nj i) hs jj
 have out:∀j,j≠i->∀b∈fp j,b∉fp i:=λj e b hb hb2=>w.dj j i e b hb hb2
 have free:∀b,H b=none->Hz b=none:=λb hb=>by
  cases e:Hz b with
 |none=>rfl
 |some o=>exact absurd hb (s.al b (by rw[e];simp))
 refine⟨⟨λb o hb h=>hs b o (λhb2=>?_) (s.same b o hb h),λa h=>jj a (s.j0 a h),λa h=>?_,ja,by simp[s.len],λj e h=>?_,?_,λq hq=>?_,λb h=>ha b (s.al b h)⟩,kp⟩
 .rcases hfr b hb2 with h2|h2
  .rw[h2] at h;cases h
  .exact hb ⟨i,h2⟩
 .rcases jn a h with h|h
  .exact s.jn a h
  .exact .inr (free a h)
 .rcases zc3 h with⟨rfl,he⟩|⟨ne,h⟩
  .exfalso
   unfold putD at he;match hq:Z[j]?,h0 with
  |some (.own m e),h0=>rw[hq] at he;cases he
  |some (.par m e),h0=>rw[hq] at he;cases he
  .obtain⟨v,e1,r1⟩:=s.vl j e h;exact⟨v,e1,r1.keep kp⟩
 .refine⟨_,w.put (i:=i) (A:=A') kp (λj e b hb o ho=>hs b o (out j e b hb) ho) (λj e b hb jb=>?_) (λj e=>wag (Ne.symm e)) (λ_ _=>rfl) ?_ nd nj (λj e b hb hb2=>?_)⟩
  .rcases jn b jb with jb|jb
   .exact w.nj j b hb jb
   .obtain⟨o,e,_⟩:=(w.at' j).ru b hb;rw[e] at jb;cases jb
  .rw[was hi];match hq:Z[i]?,h0,hat with
  |some (.own m e),h0,hat=>
     cases h0;refine⟨⟨v,hv,r'⟩,λb hb=>?_⟩;rcases hA b hb with hb|hb
     .exact hat.2 b hb
     .exact free b hb
  |some (.par m e),h0,hat=>
     cases h0;refine⟨⟨v,hv,r'⟩,λb hb=>?_⟩;rcases hA b hb with hb|hb
     .exact hat.2 b hb
     .exact .inl (free b hb)
  .rcases hA b hb with hb|hb
   .exact w.dj j i e b hb2 hb
   .obtain⟨o,e,_⟩:=(w.at' j).ru b hb2;rw[hb] at e;cases e
 .obtain⟨e1,e,h⟩:=s.ps q hq;refine⟨e1,?_⟩;by_cases e:q.1=i
  .rw[e,was hi];rw[e] at h;exact⟨d',by rw[h];rfl⟩
  .rw[wag (Ne.symm e)];exact⟨_,h⟩
def ST.frz {i n:Nat}{d:D}(s:ST K Hz Jz O Z Y H J)(h0:Z[i]?=some (.own n d)):∃J',ST K Hz Jz O (Z.set i (.val d)) Y H J'/\Keep K H J H J':=by
 obtain⟨fp,w⟩:=s.ow;have hat:=w.at' i
 rw[h0] at hat
 obtain⟨⟨v,hv,r⟩,hn⟩:=hat
 have hi:i<Z.length:=(wav.mp h0).1
 have kp:Keep K H J H (λb=>J b\/b∈fp i):=⟨λ_ h=>.inl h,λ_ _ _ h=>h,λ_ _ h=>h⟩
 refine⟨λb=>J b\/b∈fp i,⟨s.same,λb h=>.inl (s.j0 b h),λb h=>?_,λb h=>?_,by simp[s.len],λj e h=>?_,?_,λq hq=>?_,s.al⟩,kp⟩
 .rcases h with h|h
  .exact s.jn b h
  .exact .inr (hn b h)
 .rcases h with h|h
  .exact s.ja b h
  .obtain⟨o,e,_⟩:=r.some b h;rw[e];simp
 .rcases zc3 h with⟨rfl,he⟩|⟨ne,h⟩
  .cases he;exact⟨v,hv,r.rp (λ_ h=>.inl h) (λb hb=>.inr hb)⟩
  .obtain⟨v,e1,r1⟩:=s.vl j e h;exact⟨v,e1,r1.keep kp⟩
 .refine⟨_,w.put (i:=i) (A:=[]) kp (λ_ _ _ _ _ h=>h) (λj e b hb jb=>?_) (λj e=>wag (Ne.symm e)) (λ_ _=>rfl) ?_ wbx (by simp) (by simp)⟩
  .rcases jb with jb|jb
   .exact w.nj j b hb jb
   .exact w.dj j i e b hb jb
  .rw[was hi];rfl
 .have e:=s.psNe (i:=i) (λn d z=>by rw[h0] at z;cases z) q hq
  rw[wag (Ne.symm e)];exact s.ps q hq
def Weak (Z' Z:En):Prop:=Z'.length=Z.length/\∀(i:Nat),Z'[i]?=Z[i]?\/Z'[i]?=some .un
def isUn:Option SV->Bool
|some .un=>true
|_=>false
def ST.weak {Z':En}(s:ST K Hz Jz O Z Y H J)(w:Weak Z' Z)(hO:O.ps = []):ST K Hz Jz O Z' Y H J where
 same:=s.same
 j0:=s.j0
 jn:=s.jn
 ja:=s.ja
 len:=by rw[s.len,w.1]
 vl:=λi d h=>by
  rcases w.2 i with e|e
  .exact s.vl i d (e▸h)
  .rw[e] at h;cases h
 ow:=by
  obtain⟨fp,o⟩:=s.ow;have key:∀i:Nat,(Z'[i]?=some SV.un)\/Z'[i]?=Z[i]?:=λi=>(w.2 i).symm
  refine⟨λi=>if isUn (Z'[i]?) then[] else fp i,λi=>?_,λi=>?_,λi b hb=>?_,λi j ne b hb=>?_⟩
  .have q:=o.at' i
   rcases key i with e|e
   .rw[e];rfl
   .rw[e];cases z:Z[i]? with
   |none=>rw[z] at q;exact q
   |some x=>
      rw[z] at q;cases x with
     |un=>rfl
     |val d=>exact q
     |own n d=>exact q
     |par n d=>exact q
  .split
   .exact wbx
   .exact o.nd i
  .split at hb
   .cases hb
   .exact o.nj i b hb
  .split at hb
   .cases hb
   .split
    .simp
    .exact o.dj i j ne b hb
 ps:=by rw[hO];simp
 al:=s.al
end
end VD
namespace VD
open PySem PySem.Spec PyProof PyProof.Rows L2
abbrev FE:=En->Option D
abbrev FT:=En->Option Bool
abbrev FA:=En->Option (List D)
def lim:Nat:=100000
def zhV:lim<sizeLine:=by decide
def zb1 {n:Nat}(h:n<=lim):n<=sizeLine:=wam h (wbp zhV)
def mkL (ds:List D):Option D:=if ds.length<=lim then some (.lst ds) else none
def mkT (ds:List D):Option D:=if ds.length<=lim then some (.tup ds) else none
def zjr {ds:List D}{d:D}(h:mkL ds=some d):ds.length<=lim/\d=.lst ds:=by
 unfold mkL at h;by_cases e:ds.length<=lim
 .rw[if_pos e] at h;exact⟨e,(waq h).symm⟩
 .rw[if_neg e] at h;cases h
def zeq {ds:List D}{d:D}(h:mkT ds=some d):ds.length<=lim/\d=.tup ds:=by
 unfold mkT at h;by_cases e:ds.length<=lim
 .rw[if_pos e] at h;exact⟨e,(waq h).symm⟩
 .rw[if_neg e] at h;cases h
section
variable (K:W.Frag)
def zgP (H:Hp)(J:Addr->Prop)(d:D)(Q:VK):Prop:=∀v H' J',Up H J H' J'->Rp K H' J' v d->Q v H'
def zmA (H:Hp)(J:Addr->Prop)(d:D)(Q:VK):Prop:=∀v H' J',Up H J H' J'->RpW K H' J' v d->Q v H'
def zkq (H:Hp)(J:Addr->Prop)(ds:List D)(Q:VK):Prop:=∀p vs H' J',Up H J H' J'->H p=none->¬J' p->H' p=some (.lst vs)->RpL K H' J' vs ds->Q (.ref p) H'
def zkr (H:Hp)(J:Addr->Prop)(b:Bool)(Q:Bool->Hp->Prop):Prop:=∀H' J',Up H J H' J'->Q b H'
def zmB (H:Hp)(J:Addr->Prop)(ds:List D)(Q:List V->Hp->Prop):Prop:=∀vs H' J',Up H J H' J'->RpL K H' J' vs ds->Q vs H'
def GoE (t:TE)(f:FE):Prop:=∀Hz Jz O Z Y H J d Q,ST K Hz Jz O Z Y H J->f Z=some d->zgP K H J d Q->t Y H Q
def GoW (t:TE)(f:FE):Prop:=∀Hz Jz O Z Y H J d Q,ST K Hz Jz O Z Y H J->f Z=some d->zmA K H J d Q->t Y H Q
def GoN (t:TE)(f:FA):Prop:=∀Hz Jz O Z Y H J d Q,ST K Hz Jz O Z Y H J->f Z=some d->zkq K H J d Q->t Y H Q
def GoT (t:TT)(f:FT):Prop:=∀Hz Jz O Z Y H J b Q,ST K Hz Jz O Z Y H J->f Z=some b->zkr H J b Q->t Y H Q
def GoA (t:TA)(f:FA):Prop:=∀Hz Jz O Z Y H J ds Q,ST K Hz Jz O Z Y H J->f Z=some ds->zmB K H J ds Q->t Y H Q
end
def VE (X:Cx)(e:Expr)(f:FE):Prop:=∃t,PE X e t/\GoE X.K t f
def VW (X:Cx)(e:Expr)(f:FE):Prop:=∃t,PE X e t/\GoW X.K t f
def VN (X:Cx)(e:Expr)(f:FA):Prop:=∃t,PE X e t/\GoN X.K t f
def VT (X:Cx)(e:Expr)(f:FT):Prop:=∃t,PT X e t/\GoT X.K t f
def VP (X:Cx)(e:Expr)(f:FT):Prop:=∃t,PW X e t/\GoT X.K t f
def VA (X:Cx)(es:List Expr)(f:FA):Prop:=∃t,PA X es t/\GoA X.K t f
def RpWL (K:W.Frag)(H:Hp)(J:Addr->Prop):List V->List D->Prop
|[],[]=>True
|v::vs,d::ds=>RpW K H J v d/\RpWL K H J vs ds
|_,_=>False
def GoAW (K:W.Frag)(t:TA)(f:FA):Prop:=∀Hz Jz O Z Y H J ds Q,ST K Hz Jz O Z Y H J->f Z=some ds->(∀vs H' J',Up H J H' J'->RpWL K H' J' vs ds->Q vs H')->t Y H Q
def VAW (X:Cx)(es:List Expr)(f:FA):Prop:=∃t,PA X es t/\GoAW X.K t f
def RpW.up {K:W.Frag}{H H':Hp}{J J':Addr->Prop}{v:V}{d:D}(h:RpW K H J v d)(u:Up H J H' J'):RpW K H' J' v d:=by
 rcases h with h|⟨A,h⟩
 .exact .inl (h.keep u.keep)
 .exact .inr ⟨A,h.keep u.keep λb _ o=>u.same b o⟩
section
variable {X:Cx}{a b c e:Expr}{es rest:List Expr}{fa fb:FE}{ft fu:FT}{fl:FA}{pos p:Pos}
theorem VE.w (h:VE X a fa):VW X a fa:=by
 obtain⟨t,p,g⟩:=h;exact⟨t,p,λHz Jz O Z Y H J d Q s e w=>g Hz Jz O Z Y H J d Q s e λv H' J' u r=>w v H' J' u (.inl r)⟩
def eVar (i:Nat):FE:=λZ=>match Z[i]? with|some (.val d)=>some d|_=>none
def eRd (i:Nat):FE:=λZ=>match Z[i]? with|some (.val d)=>some d|some (.own 1 d)=>some d|some (.par 1 d)=>some d|_=>none
def zmC {K:W.Frag}{i:Nat}:GoE K (tVar i) (eVar i):=by
 intro Hz Jz O Z Y H J d Q s e w;unfold eVar at e;split at e
 .rename_i d' q
  cases e;obtain⟨v,hv,r⟩:=s.vl i _ q;exact⟨v,hv,w v H J (Up.refl s.ja) r⟩
 .cases e
def ST.rd {K:W.Frag}{Hz H:Hp}{Jz J:Addr->Prop}{O:Pr}{Z:En}{Y:L2.St}{i n:Nat}{d:D}(s:ST K Hz Jz O Z Y H J)(h:ownD (Z[i]?)=some (n,d)):∃v A,Y[i]?=some (some v)/\RpU K H J n v d A:=by
 obtain⟨v,A,h1,h2,_⟩:=s.chg h;exact⟨v,A,h1,h2⟩
def zoc {K:W.Frag}{i:Nat}:GoW K (tVar i) (eRd i):=by
 intro Hz Jz O Z Y H J d Q s e w;unfold eRd at e;split at e
 .rename_i d' q
  cases e;obtain⟨v,hv,r⟩:=s.vl i _ q;exact⟨v,hv,w v H J (Up.refl s.ja) (.inl r)⟩
 .rename_i d' q
  cases e;obtain⟨v,A,hv,r⟩:=s.rd (i:=i) (n:=1) (d:=d) (by rw[q];rfl);exact⟨v,hv,w v H J (Up.refl s.ja) (.inr ⟨A,r⟩)⟩
 .rename_i d' q
  cases e;obtain⟨v,A,hv,r⟩:=s.rd (i:=i) (n:=1) (d:=d) (by rw[q];rfl);exact⟨v,hv,w v H J (Up.refl s.ja) (.inr ⟨A,r⟩)⟩
 .cases e
def vv (i:Nat){x:Str}{pos:Pos}(hN:X.N[i]?=some x:=by rfl)(hv:Vis X.env.scope x:=by first|exact Or.inl rfl|exact Or.inr (Or.inl rfl)|exact Or.inr (Or.inr rfl))(hd:(x == ("__debug__" : Str))=false:=by decide)
 (hcd:(x == ("__classdict__" : Str))=false:=by decide):VE X (.Name x pos) (eVar i):=⟨_,zf9 hN hv hd hcd,zmC⟩
def vr (i:Nat){x:Str}{pos:Pos}(hN:X.N[i]?=some x:=by rfl)(hv:Vis X.env.scope x:=by first|exact Or.inl rfl|exact Or.inr (Or.inl rfl)|exact Or.inr (Or.inr rfl))(hd:(x == ("__debug__" : Str))=false:=by decide)
 (hcd:(x == ("__classdict__" : Str))=false:=by decide):VW X (.Name x pos) (eRd i):=⟨_,zf9 hN hv hd hcd,zoc⟩
def eK (d:D):FE:=λ_=>some d
def go_c {K:W.Frag}{v:V}{d:D}(h:∀H J,Rp K H J v d):GoE K (tC v) (eK d):=by
 intro Hz Jz O Z Y H J d' Q s e w;cases e;exact w v H J (Up.refl s.ja) (h H J)
def zab {i j pos}:VE X (.Constant (.int i) j pos) (eK (.int i)):=⟨_,zl4,go_c λ_ _=>.int i⟩
def zbi {i j pos}:VE X (.Constant (.bool i) j pos) (eK (.bl i)):=⟨_,znV,go_c λ_ _=>.bl i⟩
def zaf {i j pos}:VE X (.Constant (.str i) j pos) (eK (.str i)):=⟨_,zl6,go_c λ_ _=>.str i⟩
def zaG {j pos}:VE X (.Constant .none j pos) (eK .non):=⟨_,zl5,go_c λ_ _=>.non⟩
structure GlobD (K:W.Frag)(mg:Str->Option Value)(x:Str)(d:D):Prop where
 ex:∃u v,mg x=some u/\RelV v u/\∀H J,Rp K H J v d
def zbW {x:Str}{d:D}{pos:Pos}(G:GlobD X.K X.mg x d)(hg:Gl X x:=by rfl)(hd:(x == ("__debug__" : Str))=false:=by decide):VE X (.Name x pos) (eK d):=by
 obtain⟨u,v,h1,h2,h3⟩:=G.ex;exact⟨_,zfA hg h1 h2 hd,go_c h3⟩
def e2 (F:D->D->Option D)(f g:FE):FE:=λZ=>(f Z).bind λx=>(g Z).bind λy=>F x y
def e1 (F:D->Option D)(f:FE):FE:=λZ=>(f Z).bind F
def bind_some {α β:Type}{o:Option α}{f:α->Option β}{b:β}(h:o.bind f=some b):∃a,o=some a/\f a=some b:=by
 cases o with
|none=>cases h
|some a=>exact⟨a,rfl,h⟩
def Im2 (K:W.Frag)(r:R2)(F:D->D->Option D):Prop:=∀H J x y d e d' Q,(∀a,J a->H a≠none)->RpW K H J x d->RpW K H J y e->F d e=some d'->zgP K H J d' Q->r x y H Q
def zjs {K:W.Frag}{r:R2}{F:D->D->Option D}{ta tb:TE}(im:Im2 K r F)(ga:GoW K ta fa)(gb:GoW K tb fb):GoE K (tOp r ta tb) (e2 F fa fb):=by
 intro Hz Jz O Z Y H J d Q s e w;obtain⟨x,ex,e⟩:=bind_some e;obtain⟨y,ey,e⟩:=bind_some e;refine ga Hz Jz O Z Y H J x _ s ex λv1 H1 J1 u1 r1=>?_
 refine gb Hz Jz O Z Y H1 J1 y _ (s.up u1) ey λv2 H2 J2 u2 r2=>?_
 exact im H2 J2 v1 v2 x y d Q u2.ja (r1.up u2) r2 e λv3 H3 J3 u3 r3=>w v3 H3 J3 (u1.trans (u2.trans u3)) r3
def zaw {op:Operator}{r:R2}{F:D->D->Option D}(ho:OpR X (binaryOp op) r)(im:Im2 X.K r F)(ha:VW X a fa)(hb:VW X b fb):VE X (.BinOp a op b pos) (e2 F fa fb):=by
 obtain⟨ta,pa,ga⟩:=ha;obtain⟨tb,pb,gb⟩:=hb;exact⟨_,zmj ho pa pb,zjs im ga gb⟩
def zbM {op:CmpOp}{r:R2}{F:D->D->Option D}(ho:OpR X (compareOp op) r)(im:Im2 X.K r F)(ha:VW X a fa)(hb:VW X b fb)(hm:behindInMarks op b=false):VE X (.Compare a [op] [b] pos) (e2 F fa fb):=by
 obtain⟨ta,pa,ga⟩:=ha;obtain⟨tb,pb,gb⟩:=hb;exact⟨_,zkO ho pa pb hm,zjs im ga gb⟩
def dB:D->Option Bool
|.bl b=>some b
|_=>none
def t1 (f:FE):FT:=λZ=>(f Z).bind dB
def zhW {K:W.Frag}{t:TE}{f:FE}(g:GoE K t f):GoT K (zkP t) (t1 f):=by
 intro Hz Jz O Z Y H J d Q s e w;obtain⟨x,ex,e⟩:=bind_some e;refine g Hz Jz O Z Y H J x _ s ex λv H1 J1 u1 r1=>?_
 cases x with
|bl k=>cases e;cases r1;exact⟨_,rfl,w H1 J1 u1⟩
|_=>cases e
def zaA {op:CmpOp}{r:R2}{F:D->D->Option D}(ho:OpR X (compareOp op) r)(im:Im2 X.K r F)(ha:VW X a fa)(hb:VW X b fb)(hm:behindInMarks op b=false):VT X (.Compare a [op] [b] pos) (t1 (e2 F fa fb)):=by
 obtain⟨ta,pa,ga⟩:=ha;obtain⟨tb,pb,gb⟩:=hb;exact⟨_,zkQ ho pa pb hm,zhW (zjs im ga gb)⟩
def e3 (F G:D->D->Option D)(f g h:FE):FE:=λZ=>(f Z).bind λx=>(g Z).bind λy=>(F x y).bind λz=>(dB z).bind λk=>if k then(h Z).bind λw=>G y w else some (.bl false)
def zjt {K:W.Frag}{r r':R2}{F G:D->D->Option D}{ta tb tc:TE}{fc:FE}(im:Im2 K r F)(im':Im2 K r' G)(ga:GoW K ta fa)(gb:GoW K tb fb)(gc:GoW K tc fc):GoE K (zkj r r' ta tb tc) (e3 F G fa fb fc):=by
 intro Hz Jz O Z Y H J d Q s e w;obtain⟨x,ex,e⟩:=bind_some e;obtain⟨y,ey,e⟩:=bind_some e;obtain⟨z,ez,e⟩:=bind_some e;obtain⟨k,ek,e⟩:=bind_some e;refine ga Hz Jz O Z Y H J x _ s ex λv1 H1 J1 u1 r1=>?_
 refine gb Hz Jz O Z Y H1 J1 y _ (s.up u1) ey λv2 H2 J2 u2 r2=>?_
 refine im H2 J2 v1 v2 x y z _ u2.ja (r1.up u2) r2 ez λv3 H3 J3 u3 r3=>?_
 cases z with
|bl k'=>
   have ek':k'=k:=waq ek
   subst ek';cases r3;refine⟨_,rfl,?_⟩;cases k' with
  |true=>
     refine iteT ?_;have e':((fc Z).bind λw=>G y w)=some d:=e
     obtain⟨q,eq,e'⟩:=bind_some e';refine gc Hz Jz O Z Y H3 J3 q _ (s.up (u1.trans (u2.trans u3))) eq λv4 H4 J4 u4 r4=>?_
     exact im' H4 J4 v2 v4 y q d Q u4.ja (r2.up (u3.trans u4)) r4 e' λv5 H5 J5 u5 r5=>w v5 H5 J5 (u1.trans (u2.trans (u3.trans (u4.trans u5)))) r5
  |false=>
     refine iteF ?_;have e':some (D.bl false)=some d:=e
     cases e';exact w _ H3 J3 (u1.trans (u2.trans u3)) (.bl false)
|_=>cases ek
def zer {op op':CmpOp}{r r':R2}{F G:D->D->Option D}{fc:FE}(ho:OpR X (compareOp op) r)(im:Im2 X.K r F)(ho':OpR X (compareOp op') r')(im':Im2 X.K r' G)(ha:VW X a fa)(hb:VW X b fb)(hc:VW X c fc)(hm:lastMarks [op,op'] [b,c]=false:=by with_unfolding_all rfl):VT X (.Compare a [op,op'] [b,c] pos) (t1 (e3 F G fa fb fc)):=by
 obtain⟨ta,pa,ga⟩:=ha;obtain⟨tb,pb,gb⟩:=hb;obtain⟨tc,pc,gc⟩:=hc;exact⟨_,zjc ho ho' pa pb pc hm,zhW (zjt im im' ga gb gc)⟩
def dTru:D->Option Bool
|.non=>some false
|.bl b=>some b
|.int i=>some (i != 0)
|.str x=>if x.length<=lim then some ((x.length:Int) != 0) else none
|.tup ds=>some (!ds.isEmpty)
|.lst ds=>some (!ds.isEmpty)
|.dct ks _=>some (!ks.isEmpty)
|.scr _=>none
|.exc _ _ _=>none
|.dcu _ _=>none
def tT (f:FE):FT:=λZ=>(f Z).bind dTru
def zdy {α β:Type}{xs:List α}{ys:List β}(h:xs.length=ys.length):xs.isEmpty=ys.isEmpty:=by
 cases xs <;> cases ys <;> first|rfl|cases h
def zmD {K:W.Frag}{H:Hp}{J:Addr->Prop}{v:V}{d:D}{k:Bool}(r:RpW K H J v d)(h:dTru d=some k):TruV K v H k:=by
 cases d with
|non=>rw[r.non];cases h;rfl
|bl b=>rw[r.bl];cases h;rfl
|int b=>rw[r.int];cases h;rfl
|str x=>
   rw[r.str];have h:(if x.length<=lim then some ((x.length:Int) != 0) else none)=some k:=h
   by_cases e:x.length<=lim
   .rw[if_pos e] at h;cases h;exact⟨zb1 e,rfl⟩
   .rw[if_neg e] at h;cases h
|tup ds=>obtain⟨p,vs,rfl,h1,h2⟩:=r.tup;cases h;exact .inr (.inl ⟨vs,h1,by rw[zdy h2.length]⟩)
|lst ds=>obtain⟨p,vs,rfl,h1,h2⟩:=r.lst;cases h;exact .inl ⟨vs,SqL.of h1,by rw[zdy h2.length]⟩
|scr p=>cases h
|exc _ _ _=>cases h
|dcu _ _=>cases h
|dct ks ds=>
   obtain⟨p,kvs,vs,rfl,h1,h2,h3,h4⟩:=r.dct;cases h;refine .inr (.inr ⟨kvs,h1,?_⟩);rw[<-h2];cases kvs <;> rfl
def zaQ (ha:VW X a fa)(he:∀whole,isTrue a X.env whole=(do let v <-whole;standAt a.pos;holding [v] (truthy v)):=by intro _;rfl):VT X a (tT fa):=by
 obtain⟨ta,pa,ga⟩:=ha;refine⟨_,zjd pa he,?_⟩;intro Hz Jz O Z Y H J d Q s e w;obtain⟨x,ex,e⟩:=bind_some e;refine ga Hz Jz O Z Y H J x _ s ex λv H1 J1 u1 r1=>?_
 exact⟨d,zmD r1 e,w H1 J1 u1⟩
def tAndF (f g:FT):FT:=λZ=>(f Z).bind λk=>if k then g Z else some false
def tOrF (f g:FT):FT:=λZ=>(f Z).bind λk=>if k then some true else g Z
def tNotF (f:FT):FT:=λZ=>(f Z).bind λk=>some (!k)
def zmE {K:W.Frag}{t u:TT}(g1:GoT K t ft)(g2:GoT K u fu):GoT K (tAnd t u) (tAndF ft fu):=by
 intro Hz Jz O Z Y H J d Q s e w;obtain⟨k,ek,e⟩:=bind_some e;refine g1 Hz Jz O Z Y H J k _ s ek λH1 J1 u1=>?_
 cases k with
|true=>exact iteT (g2 Hz Jz O Z Y H1 J1 d Q (s.up u1) e λH2 J2 u2=>w H2 J2 (u1.trans u2))
|false=>have e':some false=some d:=e;cases e';exact iteF (w H1 J1 u1)
def zod {K:W.Frag}{t u:TT}(g1:GoT K t ft)(g2:GoT K u fu):GoT K (tOr t u) (tOrF ft fu):=by
 intro Hz Jz O Z Y H J d Q s e w;obtain⟨k,ek,e⟩:=bind_some e;refine g1 Hz Jz O Z Y H J k _ s ek λH1 J1 u1=>?_
 cases k with
|true=>have e':some true=some d:=e;cases e';exact iteT (w H1 J1 u1)
|false=>exact iteF (g2 Hz Jz O Z Y H1 J1 d Q (s.up u1) e λH2 J2 u2=>w H2 J2 (u1.trans u2))
def zfJ (h:VT X a ft):VP X (.BoolOp .And [a] pos) ft:=let ⟨t,p,g⟩:=h;⟨t,zkJ p,g⟩
def zcO (h:VT X a ft):VP X (.BoolOp .Or [a] pos) ft:=let ⟨t,p,g⟩:=h;⟨t,zl7 p,g⟩
def zgi (h:VT X a ft)(h2:VP X (.BoolOp .And (b::rest) pos) fu):VP X (.BoolOp .And (a::b::rest) pos) (tAndF ft fu):=let ⟨_,p,g⟩:=h;let ⟨_,p2,g2⟩:=h2;⟨_,zl8 p p2,zmE g g2⟩
def zdZ (h:VT X a ft)(h2:VP X (.BoolOp .Or (b::rest) pos) fu):VP X (.BoolOp .Or (a::b::rest) pos) (tOrF ft fu):=let ⟨_,p,g⟩:=h;let ⟨_,p2,g2⟩:=h2;⟨_,znW p p2,zod g g2⟩
theorem VP.t (h:VP X a ft):VT X a ft:=let ⟨t,p,g⟩:=h;⟨t,p.pt,g⟩
def zaR (h:VT X a ft):VT X (.UnaryOp .Not a pos) (tNotF ft):=by
 obtain⟨t,p,g⟩:=h;refine⟨_,zl9 p,?_⟩;intro Hz Jz O Z Y H J d Q s e w;obtain⟨k,ek,e⟩:=bind_some e;cases e;exact g Hz Jz O Z Y H J k _ s ek λH1 J1 u1=>w H1 J1 u1
def eAnd (f g:FE):FE:=λZ=>(t1 f Z).bind λk=>if k then g Z else some (.bl false)
def eOr (f g:FE):FE:=λZ=>(t1 f Z).bind λk=>if k then some (.bl true) else g Z
def eNot (f:FE):FE:=λZ=>(t1 f Z).bind λk=>some (.bl (!k))
def zb2 {op}(h:VE X a fa):VE X (.BoolOp op [a] pos) fa:=let ⟨_,p,g⟩:=h;⟨_,zma p,g⟩
def zci (h:VE X a fa)(h2:VE X (.BoolOp .And (b::rest) pos) fb):VE X (.BoolOp .And (a::b::rest) pos) (eAnd fa fb):=by
 obtain⟨t,p,g⟩:=h;obtain⟨t2,p2,g2⟩:=h2;refine⟨_,zmb p p2,?_⟩;intro Hz Jz O Z Y H J d Q s e w;obtain⟨k,ek,e⟩:=bind_some e;obtain⟨x,ex,ek⟩:=bind_some ek;refine g Hz Jz O Z Y H J x _ s ex λv H1 J1 u1 r1=>?_
 cases x with
|bl k'=>
   have ek':k'=k:=waq ek
   subst ek';cases r1;refine⟨_,rfl,?_⟩;cases k' with
  |true=>exact iteT (g2 Hz Jz O Z Y H1 J1 d Q (s.up u1) e λv2 H2 J2 u2 r2=>w v2 H2 J2 (u1.trans u2) r2)
  |false=>have e':some (D.bl false)=some d:=e;cases e';exact iteF (w _ H1 J1 u1 (.bl false))
|_=>cases ek
def zlc (h:VE X a fa)(h2:VE X (.BoolOp .Or (b::rest) pos) fb):VE X (.BoolOp .Or (a::b::rest) pos) (eOr fa fb):=by
 obtain⟨t,p,g⟩:=h;obtain⟨t2,p2,g2⟩:=h2;refine⟨_,znZ p p2,?_⟩;intro Hz Jz O Z Y H J d Q s e w;obtain⟨k,ek,e⟩:=bind_some e;obtain⟨x,ex,ek⟩:=bind_some ek;refine g Hz Jz O Z Y H J x _ s ex λv H1 J1 u1 r1=>?_
 cases x with
|bl k'=>
   have ek':k'=k:=waq ek
   subst ek';cases r1;refine⟨_,rfl,?_⟩;cases k' with
  |false=>exact iteF (g2 Hz Jz O Z Y H1 J1 d Q (s.up u1) e λv2 H2 J2 u2 r2=>w v2 H2 J2 (u1.trans u2) r2)
  |true=>have e':some (D.bl true)=some d:=e;cases e';exact iteT (w _ H1 J1 u1 (.bl true))
|_=>cases ek
def zks (h:VE X a fa):VE X (.UnaryOp .Not a pos) (eNot fa):=by
 obtain⟨t,p,g⟩:=h;refine⟨_,zmc p,?_⟩;intro Hz Jz O Z Y H J d Q s e w;obtain⟨k,ek,e⟩:=bind_some e;obtain⟨x,ex,ek⟩:=bind_some ek;refine g Hz Jz O Z Y H J x _ s ex λv H1 J1 u1 r1=>?_
 cases x with
|bl k'=>
   have ek':k'=k:=waq ek
   subst ek';cases r1;cases e;exact⟨_,rfl,w _ H1 J1 u1 (.bl _)⟩
|_=>cases ek
def eIf (c:FT)(f g:FE):FE:=λZ=>(c Z).bind λk=>if k then f Z else g Z
def zld (hc:VT X c ft)(ha:VE X a fa)(hb:VE X b fb):VE X (.IfExp c a b pos) (eIf ft fa fb):=by
 obtain⟨t,p,g⟩:=hc;obtain⟨ta,pa,ga⟩:=ha;obtain⟨tb,pb,gb⟩:=hb;refine⟨_,zi8 p pa pb,?_⟩;intro Hz Jz O Z Y H J d Q s e w;obtain⟨k,ek,e⟩:=bind_some e;refine g Hz Jz O Z Y H J k _ s ek λH1 J1 u1=>?_
 cases k with
|true=>exact iteT (ga Hz Jz O Z Y H1 J1 d Q (s.up u1) e λv2 H2 J2 u2 r2=>w v2 H2 J2 (u1.trans u2) r2)
|false=>exact iteF (gb Hz Jz O Z Y H1 J1 d Q (s.up u1) e λv2 H2 J2 u2 r2=>w v2 H2 J2 (u1.trans u2) r2)
def aNil:FA:=λ_=>some []
def aCons (f:FE)(g:FA):FA:=λZ=>(f Z).bind λx=>(g Z).bind λxs=>some (x::xs)
def zac:VA X [] aNil:=⟨_,zdg,λHz Jz O Z Y H J ds Q s e w=>by cases e;exact w [] H J (Up.refl s.ja) .nil⟩
def zaa (ha:VE X e fa)(hr:VA X es fl)(hs:starEach (e::es) X.env=(false,eval e X.env)::starEach es X.env:=by rfl):VA X (e::es) (aCons fa fl):=by
 obtain⟨t,p,g⟩:=ha;obtain⟨t2,p2,g2⟩:=hr;refine⟨_,zbu p p2 hs,?_⟩;intro Hz Jz O Z Y H J ds Q s e w;obtain⟨x,ex,e⟩:=bind_some e;obtain⟨xs,exs,e⟩:=bind_some e;cases e;refine g Hz Jz O Z Y H J x _ s ex λv1 H1 J1 u1 r1=>?_
 refine g2 Hz Jz O Z Y H1 J1 xs _ (s.up u1) exs λvs H2 J2 u2 r2=>?_
 exact w _ H2 J2 (u1.trans u2) (.cons (r1.keep u2.keep) r2)
def za8:VAW X [] aNil:=⟨_,zdg,λHz Jz O Z Y H J ds Q s e w=>by cases e;exact w [] H J (Up.refl s.ja) trivial⟩
def zaO (ha:VW X e fa)(hr:VAW X es fl)(hs:starEach (e::es) X.env=(false,eval e X.env)::starEach es X.env:=by rfl):VAW X (e::es) (aCons fa fl):=by
 obtain⟨t,p,g⟩:=ha;obtain⟨t2,p2,g2⟩:=hr;refine⟨_,zbu p p2 hs,?_⟩;intro Hz Jz O Z Y H J ds Q s e w;obtain⟨x,ex,e⟩:=bind_some e;obtain⟨xs,exs,e⟩:=bind_some e;cases e;refine g Hz Jz O Z Y H J x _ s ex λv1 H1 J1 u1 r1=>?_
 refine g2 Hz Jz O Z Y H1 J1 xs _ (s.up u1) exs λvs H2 J2 u2 r2=>?_
 exact w _ H2 J2 (u1.trans u2) ⟨r1.up u2,r2⟩
def eTup (f:FA):FE:=λZ=>(f Z).bind mkT
def zam {x1}(h:VA X es fl):VE X (.Tuple es x1 pos) (eTup fl):=by
 obtain⟨t,p,g⟩:=h;refine⟨_,zkk p,?_⟩;intro Hz Jz O Z Y H J d Q s e w;obtain⟨xs,exs,e⟩:=bind_some e;obtain⟨hl,rfl⟩:=zeq e;refine g Hz Jz O Z Y H J xs _ s exs λvs H1 J1 u1 r1=>⟨by rw[r1.length];exact zb1 hl,λp hp=>?_⟩
 have un:=Up.new u1.ja hp (.tup vs)
 exact w _ _ _ (u1.trans un) (.tup (SqT.of zai) (r1.keep un.keep))
def aMk (f:FA):FA:=λZ=>(f Z).bind λds=>if ds.length<=lim then some ds else none
def zju {f:FA}{Z:En}{ds:List D}(h:aMk f Z=some ds):f Z=some ds/\ds.length<=lim:=by
 obtain⟨xs,e1,e2⟩:=bind_some h;by_cases hl:xs.length<=lim
 .rw[if_pos hl] at e2;cases e2;exact⟨e1,hl⟩
 .rw[if_neg hl] at e2;cases e2
def zaB (h:VA X es fl):VN X (.List es pos) (aMk fl):=by
 obtain⟨t,p,g⟩:=h;refine⟨_,zmn p,?_⟩;intro Hz Jz O Z Y H J ds Q s e w;obtain⟨e1,hl⟩:=zju e;refine g Hz Jz O Z Y H J ds _ s e1 λvs H1 J1 u1 r1=>⟨by rw[r1.length];exact zb1 hl,λp hp=>?_⟩
 have un:=Up.new u1.ja hp (.lst vs)
 exact w p vs _ J1 (u1.trans un) (u1.same.free hp) (λj=>u1.ja p j hp) zai (r1.keep un.keep)
def eL (f:FA):FE:=λZ=>(f Z).bind λds=>some (.lst ds)
def zmF {K:W.Frag}{t:TE}{f:FA}(g:GoN K t f):GoE K t (eL f):=by
 intro Hz Jz O Z Y H J d Q s e w;obtain⟨ds,e1,e⟩:=bind_some e;cases e;refine g Hz Jz O Z Y H J ds _ s e1 λp vs H1 J1 u1 hp nj h1 r1=>?_
 have kp:Keep K H1 J1 H1 (λa=>J1 a\/a=p):=⟨λ_ h=>.inl h,λ_ _ _ h=>h,λ_ _ h=>h⟩
 refine w (.ref p) H1 (λa=>J1 a\/a=p) ⟨u1.same,λa h=>.inl (u1.jj a h),λa h=>?_,λa h=>?_⟩ (.lst h1 (.inr rfl) (r1.keep kp))
 .rcases h with h|rfl
  .exact u1.jn a h
  .exact .inr hp
 .rcases h with h|rfl
  .exact u1.ja a h
  .rw[h1];simp
def VN.ve {f:FA}(h:VN X a f):VE X a (eL f):=let ⟨_,p,g⟩:=h;⟨_,p,zmF g⟩
def spF (K:W.Frag)(F:List D->Option D):Sp:=λvs H Q _=>∃J ds d,(∀a,J a->H a≠none)/\RpL K H J vs ds/\F ds=some d/\zgP K H J d Q
def eCall (F:List D->Option D)(f:FA):FE:=λZ=>(f Z).bind F
def zau {k k':Nat}{x:Str}{ps:List Str}{F:List D->Option D}(C:Cal X.prog X.w X.K X.mg X.base k x ps (spF X.K F))(hr:Room k' X.A)(ha:VA X (e::es) fl)(hk:k<=k':=by decide)(hg:Gl X x:=by rfl)(hdb:(x == ("__debug__" : Str))=false:=by decide)
 (he:starEach (e::es) X.env=(false,eval e X.env)::starEach es X.env:=by rfl) (hpl:(backTo pos (starEach es X.env)).any (·.1)=false:=by rfl):VE X (.Call (.Name x p) (e::es) [] pos) (eCall F fl):=by
 obtain⟨t,p,g⟩:=ha;refine⟨_,pc C hr p hk hg hdb he hpl,?_⟩;intro Hz Jz O Z Y H J d Q s e w;obtain⟨ds,e1,e⟩:=bind_some e;refine g Hz Jz O Z Y H J ds _ s e1 λvs H1 J1 u1 r1=>?_
 refine⟨J1,ds,d,u1.ja,by rw[wbe];exact r1,e,λv H2 J2 u2 r2=>w v H2 J2 (u1.trans u2) r2⟩
def ImC (K:W.Frag)(r:List V->Hp->VK->Prop)(F:List D->Option D):Prop:=∀H J vs ds d Q,(∀a,J a->H a≠none)->RpWL K H J vs ds->F ds=some d->zgP K H J d Q->r vs H Q
def zmG {K:W.Frag}{r:List V->Hp->VK->Prop}{F:List D->Option D}{t:TA}(im:ImC K r F)(g:GoAW K t fl):GoE K (tCB r t) (eCall F fl):=by
 intro Hz Jz O Z Y H J d Q s e w;obtain⟨ds,e1,e⟩:=bind_some e;refine g Hz Jz O Z Y H J ds _ s e1 λvs H1 J1 u1 r1=>?_
 exact im H1 J1 vs ds d Q u1.ja r1 e λv H2 J2 u2 r2=>w v H2 J2 (u1.trans u2) r2
def ve_b {id:String}{x:Str}{r:List V->Hp->VK->Prop}{F:List D->Option D}(hc:zcL X (.builtin id) r)(im:ImC X.K r F)(B:Blt X.mg)(hv:bootBuiltins x=some (.builtin id))(ha:VAW X (e::es) fl)(hB:x∈zbL:=by decide +kernel)(hg:Gl X x:=by rfl)(hn:x≠"__name__":=by decide)(hdb:(x == ("__debug__" : Str))=false:=by decide)
 (he:starEach (e::es) X.env=(false,eval e X.env)::starEach es X.env:=by rfl) (hpl:(backTo pos (starEach es X.env)).any (·.1)=false:=by rfl):VE X (.Call (.Name x p) (e::es) [] pos) (eCall F fl):=by
 obtain⟨t,p,g⟩:=ha;exact⟨_,pb hc B hv p hB hg hn hdb he hpl,zmG im g⟩
def zoe {T:String}{x:Str}{r:List V->Hp->VK->Prop}{F:List D->Option D}(hc:zcL X (.type T) r)(im:ImC X.K r F)(B:Blt X.mg)(hv:bootBuiltins x=some (.type T))(ha:VAW X (e::es) fl)(hB:x∈zbL:=by decide +kernel)(hg:Gl X x:=by rfl)(hn:x≠"__name__":=by decide)(hdb:(x == ("__debug__" : Str))=false:=by decide)
 (he:starEach (e::es) X.env=(false,eval e X.env)::starEach es X.env:=by rfl) (hpl:(backTo pos (starEach es X.env)).any (·.1)=false:=by rfl):VE X (.Call (.Name x p) (e::es) [] pos) (eCall F fl):=by
 obtain⟨t,p,g⟩:=ha;exact⟨_,pty hc B hv p hB hg hn hdb he hpl,zmG im g⟩
end
section
variable {K:W.Frag}{X:Cx}
def dAdd:D->D->Option D
|.int i,.int j=>some (.int (i+j))
|.str x,.str y=>if x.length+y.length<=lim then some (.str (x++y)) else none
|.lst xs,.lst ys=>mkL (xs++ys)
|.tup xs,.tup ys=>if ys = [] then none else mkT (xs++ys)
|_,_=>none
def zjv (K:W.Frag):R2:=λx y H Q=>(rI0 λi j=>.int (i+j)) x y H Q\/(∃i j,x=.str i/\y=.str j/\i.length+j.length<=sizeLine/\Q (.str (i++j)) H)\/rCat x y H Q\/zmw K x y H Q
def opAdd:OpR X (binaryOp .Add) (zjv X.K):=op_add.or (op_add_str.or (op_cat.or zk9))
def zcP:Im2 K (zjv K) dAdd:=by
 intro H J x y d e d' Q ja hx hy hF w;match d,e,hF with
|.int i,.int j,hF=>
   cases hF;rw[hx.int,hy.int];exact .inl ⟨i,j,rfl,rfl,w _ H J (Up.refl ja) (.int _)⟩
|.str a,.str b,hF=>
   have hF:(if a.length+b.length<=lim then some (D.str (a++b)) else none)=some d':=hF
   by_cases hl:a.length+b.length<=lim
   .rw[if_pos hl] at hF;cases hF;rw[hx.str,hy.str];exact .inr (.inl ⟨a,b,rfl,rfl,zb1 hl,w _ H J (Up.refl ja) (.str _)⟩)
   .rw[if_neg hl] at hF;cases hF
|.lst xs,.lst ys,hF=>
   have hF:mkL (xs++ys)=some d':=hF
   obtain⟨hl,rfl⟩:=zjr hF;obtain⟨p,vs,rfl,h1,r1⟩:=hx.lst;obtain⟨q,us,rfl,h2,r2⟩:=hy.lst;refine .inr (.inr (.inl ⟨p,q,vs,us,rfl,rfl,h1,h2,?_,λc hc=>?_⟩))
   .rw[r1.length,r2.length,<-wal];exact zb1 hl
   .have un:=Up.newJ ja hc (.lst (vs++us))
    exact w _ _ _ un (.lst zai (.inr rfl) ((r1.append r2).keep un.keep))
|.tup xs,.tup ys,hF=>
   have hF:(if ys = [] then none else mkT (xs++ys))=some d':=hF
   by_cases hy0:ys = []
   .rw[if_pos hy0] at hF;cases hF
   .rw[if_neg hy0] at hF;obtain⟨hl,rfl⟩:=zeq hF;obtain⟨p,vs,rfl,h1,r1⟩:=hx.tup;obtain⟨q,us,rfl,h2,r2⟩:=hy.tup;refine .inr (.inr (.inr ⟨p,q,vs,us,rfl,rfl,h1,h2,?_,?_,λe=>?_,λ_ c hc=>?_⟩))
    .rintro rfl;exact hy0 (List.length_eq_zero_iff.mp (by rw[<-r2.length];rfl))
    .rw[r1.length,r2.length,<-wal];exact zb1 hl
    .subst e;obtain rfl:xs = []:=List.length_eq_zero_iff.mp (by rw[<-r1.length];rfl);exact w _ H J (Up.refl ja) (.tup h2 r2)
    .have un:=Up.new ja hc (.tup (vs++us))
     exact w _ _ _ un (.tup (SqT.of zai) ((r1.append r2).keep un.keep))
def dI (C:Int->Int->Prop)[∀i j,Decidable (C i j)](g:Int->Int->D):D->D->Option D
|.int i,.int j=>if C i j then some (g i j) else none
|_,_=>none
def im_I {C:Int->Int->Prop}[∀i j,Decidable (C i j)]{g:Int->Int->V}{g':Int->Int->D}(hg:∀i j H J,Rp K H J (g i j) (g' i j)):Im2 K (rI C g) (dI C g'):=by
 intro H J x y d e d' Q ja hx hy hF w;match d,e,hF with
|.int i,.int j,hF=>
   have hF:(if C i j then some (g' i j) else none)=some d':=hF
   by_cases hc:C i j
   .rw[if_pos hc] at hF;cases hF;rw[hx.int,hy.int];exact⟨i,j,rfl,rfl,hc,w _ H J (Up.refl ja) (hg i j H J)⟩
   .rw[if_neg hc] at hF;cases hF
def dI0 (g:Int->Int->D):D->D->Option D
|.int i,.int j=>some (g i j)
|_,_=>none
def zhX {g:Int->Int->V}{g':Int->Int->D}(hg:∀i j H J,Rp K H J (g i j) (g' i j)):Im2 K (rI0 g) (dI0 g'):=by
 intro H J x y d e d' Q ja hx hy hF w;match d,e,hF with
|.int i,.int j,hF=>
   cases hF;rw[hx.int,hy.int];exact⟨i,j,rfl,rfl,w _ H J (Up.refl ja) (hg i j H J)⟩
instance (i j:Int):Decidable (CMul i j):=by unfold CMul;infer_instance
instance (i j:Int):Decidable (CDiv i j):=by unfold CDiv;infer_instance
instance (i j:Int):Decidable (CPow i j):=by unfold CPow;infer_instance
def dSub:=dI0 λi j=>.int (i - j)
def dMod:=dI (λ_ j=>0<j) λi j=>.int (i % j)
def dPow:=dI CPow λi j=>.int (i ^ j.toNat)
def dLt:=dI0 λi j=>.bl (decide (i<j))
def dLe:=dI0 λi j=>.bl (decide (i<=j))
def dGt:=dI0 λi j=>.bl (decide (j<i))
def dGe:=dI0 λi j=>.bl (decide (j<=i))
def zeb:Im2 K (rI0 λi j=>.int (i - j)) dSub:=zhX λ_ _ _ _=>.int _
def zbb:Im2 K (rI (λ_ j=>0<j) λi j=>.int (i % j)) dMod:=im_I λ_ _ _ _=>.int _
def zgj:Im2 K (rI CPow λi j=>.int (i ^ j.toNat)) dPow:=im_I λ_ _ _ _=>.int _
def zof:Im2 K (rI0 λi j=>.bl (decide (i<j))) dLt:=zhX λ_ _ _ _=>.bl _
def zgQ:Im2 K (rI0 λi j=>.bl (decide (i<=j))) dLe:=zhX λ_ _ _ _=>.bl _
def zhY:Im2 K (rI0 λi j=>.bl (decide (j<i))) dGt:=zhX λ_ _ _ _=>.bl _
def zle:Im2 K (rI0 λi j=>.bl (decide (j<=i))) dGe:=zhX λ_ _ _ _=>.bl _
def dMul:D->D->Option D
|.int i,.int j=>if CMul i j then some (.int (i*j)) else none
|.str z,.int n=>if -1000<=n/\n<=1000/\z.length<=1000 then some (.str (Txt.mul z n)) else none
|.lst xs,.int k=>if 0<=k/\k<=1000/\xs.length<=1000 then some (.lst (List.replicate k.toNat xs).flatten) else none
|_,_=>none
def zmH:R2:=λx y H Q=>(rI CMul λi j=>.int (i*j)) x y H Q\/(∃z n,x=.str z/\y=.int n/\-1000<=n/\n<=1000/\z.length<=1000/\Q (.str (Txt.mul z n)) H)\/rRep x y H Q
def zlf:OpR X (binaryOp .Mult) zmH:=op_mul.or (op_rep_str.or zmt)
theorem RpL.rep {H:Hp}{J:Addr->Prop}{vs:List V}{ds:List D}(r:RpL K H J vs ds):∀n:Nat,RpL K H J (List.replicate n vs).flatten (List.replicate n ds).flatten
|0=>.nil
|n+1=>by
   rw[waP,waP,wbo,wbo];exact r.append (RpL.rep r n)
def zhZ:Im2 K zmH dMul:=by
 intro H J x y d e d' Q ja hx hy hF w;match d,e,hF with
|.int i,.int j,hF=>
   have hF:(if CMul i j then some (D.int (i*j)) else none)=some d':=hF
   by_cases hc:CMul i j
   .rw[if_pos hc] at hF;cases hF;rw[hx.int,hy.int];exact .inl ⟨i,j,rfl,rfl,hc,w _ H J (Up.refl ja) (.int _)⟩
   .rw[if_neg hc] at hF;cases hF
|.str z,.int n,hF=>
   have hF:(if -1000<=n/\n<=1000/\z.length<=1000 then some (D.str (Txt.mul z n)) else none)=some d':=hF
   by_cases hc:-1000<=n/\n<=1000/\z.length<=1000
   .rw[if_pos hc] at hF;cases hF;rw[hx.str,hy.int];exact .inr (.inl ⟨z,n,rfl,rfl,hc.1,hc.2.1,hc.2.2,w _ H J (Up.refl ja) (.str _)⟩)
   .rw[if_neg hc] at hF;cases hF
|.lst xs,.int n,hF=>
   have hF:(if 0<=n/\n<=1000/\xs.length<=1000 then some (D.lst (List.replicate n.toNat xs).flatten) else none)=some d':=hF
   by_cases hc:0<=n/\n<=1000/\xs.length<=1000
   .rw[if_pos hc] at hF;cases hF;obtain⟨p,vs,rfl,h1,r1⟩:=hx.lst;rw[hy.int];refine .inr (.inr ⟨p,n,vs,rfl,rfl,h1,by omega,by omega,?_,λc hc=>?_⟩)
    .rw[r1.length];have h1:xs.length*n.toNat<=1000*1000:=Nat.mul_le_mul hc.2.2 (by omega)
     exact wam h1 (by decide)
    .have un:=Up.newJ ja hc (.lst (List.replicate n.toNat vs).flatten)
     exact w _ _ _ un (.lst zai (.inr rfl) ((r1.rep _).keep un.keep))
   .rw[if_neg hc] at hF;cases hF
def dV:D->V
|.non=>.non
|.bl b=>.bl b
|.int i=>.int i
|.str x=>.str x
|_=>.ty ""
def zgk:D->Bool
|.non=>true
|.int _=>true
|.str _=>true
|_=>false
def zaC {p q:Prop}[Decidable p][Decidable q](h:p↔q):decide p=decide q:=by
 by_cases hp:p
 .rw[wax hp,wax (h.mp hp)]
 .rw[wao hp,wao (λz=>hp (h.mpr z))]
def dIn (neg:Bool):D->D->Option D
|x,.lst ds=>if zgk x=true/\ds.all zgk=true then some (.bl (if neg then !decide (x∈ds) else decide (x∈ds))) else none
|x,.tup ds=>if zgk x=true/\ds.all zgk=true then some (.bl (if neg then !decide (x∈ds) else decide (x∈ds))) else none
|_,_=>none
def dIs (neg:Bool):D->D->Option D
|d,.non=>some (.bl (if neg then !decide (d=.non) else decide (d=.non)))
|_,_=>none
def zlg {H:Hp}{J:Addr->Prop}{v:V}{d:D}(r:RpW K H J v d):v=.non↔d=.non:=by
 rcases r with r|⟨A,r⟩
 .cases r <;> simp
 .cases r <;> simp
def zgR:Im2 K (λx y H Q=>y=.non/\Q (.bl (decide (x=.non))) H) (dIs false):=by
 intro H J x y d e d' Q ja hx hy hF w;cases e with
|non=>
   cases hF;refine⟨hy.non,?_⟩;rw[zaC (zlg hx)];exact w _ H J (Up.refl ja) (.bl _)
|_=>cases hF
def dIx:D->D->Option D
|.lst ds,.int i=>atI ds i
|.tup ds,.int i=>atI ds i
|.str z,.int i=>if z.length<=lim then(atI z.cps.toList i).map λc=>.str ⟨#[c]⟩ else none
|_,_=>none
def zog:Im2 K (rIx K) dIx:=by
 intro H J x y d e d' Q ja hx hy hF w;match d,e,hF with
|.lst ds,.int i,hF=>
   have hF:atI ds i=some d':=hF
   obtain⟨p,vs,rfl,h1,r1⟩:=hx.lst;obtain⟨v,hv,rv⟩:=r1.at hF;rw[hy.int];exact .inl ⟨p,vs,i,v,rfl,rfl,SqL.of h1,hv,w v H J (Up.refl ja) rv⟩
|.tup ds,.int i,hF=>
   have hF:atI ds i=some d':=hF
   obtain⟨p,vs,rfl,h1,r1⟩:=hx.tup;obtain⟨v,hv,rv⟩:=r1.at hF;rw[hy.int];exact .inr (.inl ⟨p,vs,i,v,rfl,rfl,h1,hv,w v H J (Up.refl ja) rv⟩)
|.str z,.int i,hF=>
   have hF:(if z.length<=lim then(atI z.cps.toList i).map λc=>D.str ⟨#[c]⟩ else none)=some d':=hF
   by_cases hl:z.length<=lim
   .rw[if_pos hl] at hF;cases q:atI z.cps.toList i with
   |none=>rw[q] at hF;cases hF
   |some c=>
      rw[q] at hF;cases hF;rw[hx.str,hy.int];exact .inr (.inr ⟨z,i,c,rfl,rfl,zb1 hl,q,w _ H J (Up.refl ja) (.str _)⟩)
   .rw[if_neg hl] at hF;cases hF
variable {a b:Expr}{fa fb:FE}{pos p2:Pos}
def zaD (ha:VW X a fa)(hb:VW X b fb)(hs:zhJ b:=by exact λ_ _=>rfl):VE X (.Subscript a b pos) (e2 dIx fa fb):=by
 obtain⟨ta,pa,ga⟩:=ha;obtain⟨tb,pb,gb⟩:=hb;exact⟨_,zn6 zmq pa pb hs,zjs zog ga gb⟩
def cut {α:Type}(xs:List α)(lo hi:Option Int):List α:=(xs.drop (HT.sIx xs.length 0 lo)).take (HT.sIx xs.length xs.length hi - HT.sIx xs.length 0 lo)
theorem RpL.cut {H:Hp}{J:Addr->Prop}{vs:List V}{ds:List D}(r:RpL K H J vs ds)(lo hi:Option Int):RpL K H J (cutV vs lo hi) (VD.cut ds lo hi):=by
 unfold cutV VD.cut;rw[r.length];exact(r.drop _).take _
def dSl:D->Option Int->Option Int->Option D
|.lst ds,lo,hi=>some (.lst (cut ds lo hi))
|.tup ds,lo,hi=>if HT.sIx ds.length 0 lo=0/\HT.sIx ds.length ds.length hi=ds.length then none else some (.tup (cut ds lo hi))
|.str z,lo,hi=>if z.length<=lim then some (.str (Txt.slice z lo hi)) else none
|_,_,_=>none
abbrev FO:=En->Option (Option Int)
def GoO (K:W.Frag)(t:TO)(f:FO):Prop:=∀Hz Jz O Z Y H J o Q,ST K Hz Jz O Z Y H J->f Z=some o->(∀H' J',Up H J H' J'->Q o H')->t Y H Q
def VO (X:Cx)(e:Option Expr)(f:FO):Prop:=∃t,PO X e t/\GoO X.K t f
def oN:FO:=λ_=>some none
def dInt:D->Option Int
|.int i=>some i
|_=>none
def oS (f:FE):FO:=λZ=>(f Z).bind λd=>(dInt d).bind λi=>some (some i)
def zaU:VO X none oN:=⟨_,zkW,λHz Jz O Z Y H J o Q s e w=>by cases e;exact w H J (Up.refl s.ja)⟩
def zaV (h:VE X a fa):VO X (some a) (oS fa):=by
 obtain⟨t,p,g⟩:=h;refine⟨_,zkX p,?_⟩;intro Hz Jz O Z Y H J o Q s e w;obtain⟨d,e1,e⟩:=bind_some e;obtain⟨i,e2,e⟩:=bind_some e;cases e;refine g Hz Jz O Z Y H J d _ s e1 λv H1 J1 u1 r1=>?_
 cases d with
|int k=>cases e2;cases r1;exact⟨_,rfl,w H1 J1 u1⟩
|_=>cases e2
def eSl (f:FE)(lo hi:FO):FE:=λZ=>(f Z).bind λx=>(lo Z).bind λl=>(hi Z).bind λh=>dSl x l h
def rSlD (K:W.Frag):V->Option Int->Option Int->Hp->VK->Prop:=λx lo hi H Q=>rSlL K x lo hi H Q\/rSlT K x lo hi H Q\/rSlS x lo hi H Q
def zbc {lo hi:Option Expr}{fl fh:FO}(ha:VW X a fa)(hl:VO X lo fl)(hh:VO X hi fh):VE X (.Subscript a (.Slice lo hi none p2) pos) (eSl fa fl fh):=by
 obtain⟨t,p,g⟩:=ha;obtain⟨tl,pl,gl⟩:=hl;obtain⟨th,ph,gh⟩:=hh;refine⟨_,zge (r:=rSlD X.K) (sl_list.or (sl_tup.or zkm)) p pl ph,?_⟩;intro Hz Jz O Z Y H J d Q s e w;obtain⟨x,e1,e⟩:=bind_some e;obtain⟨l,e2,e⟩:=bind_some e;obtain⟨h,e3,e⟩:=bind_some e;refine g Hz Jz O Z Y H J x _ s e1 λv H1 J1 u1 r1=>?_
 refine gl Hz Jz O Z Y H1 J1 l _ (s.up u1) e2 λH2 J2 u2=>?_
 refine gh Hz Jz O Z Y H2 J2 h _ (s.up (u1.trans u2)) e3 λH3 J3 u3=>?_
 have r3:=r1.up (u2.trans u3)
 have u:=u1.trans (u2.trans u3)
 match x,e with
|.lst ds,e=>
   cases e;obtain⟨p,vs,rfl,h1,rl⟩:=r3.lst;refine .inl ⟨p,vs,rfl,SqL.of h1,λc hc=>?_⟩;have un:=Up.newJ u3.ja hc (.lst (cutV vs l h))
   exact w _ _ _ (u.trans un) (.lst zai (.inr rfl) ((rl.cut l h).keep un.keep))
|.tup ds,e=>
   have e:(if HT.sIx ds.length 0 l=0/\HT.sIx ds.length ds.length h=ds.length then none else some (D.tup (cut ds l h)))=some d:=e
   by_cases hc:HT.sIx ds.length 0 l=0/\HT.sIx ds.length ds.length h=ds.length
   .rw[if_pos hc] at e;cases e
   .rw[if_neg hc] at e;cases e;obtain⟨p,vs,rfl,h1,rl⟩:=r3.tup;refine .inr (.inl ⟨p,vs,rfl,h1,by rw[rl.length];exact hc,λc hc=>?_⟩);have un:=Up.new u3.ja hc (.tup (cutV vs l h))
    exact w _ _ _ (u.trans un) (.tup (SqT.of zai) ((rl.cut l h).keep un.keep))
|.str z,e=>
   have e:(if z.length<=lim then some (D.str (Txt.slice z l h)) else none)=some d:=e
   by_cases hc:z.length<=lim
   .rw[if_pos hc] at e;cases e;rw[r3.str];exact .inr (.inr ⟨z,rfl,zb1 hc,w _ _ _ u (.str _)⟩)
   .rw[if_neg hc] at e;cases e
def dNeg:D->Option D
|.int i=>some (.int (-i))
|_=>none
def zh0 (ha:VE X a fa):VE X (.UnaryOp .USub a pos) (e1 dNeg fa):=by
 obtain⟨t,p,g⟩:=ha;refine⟨_,zn3 zmk p,?_⟩;intro Hz Jz O Z Y H J d Q s e w;obtain⟨x,e1,e⟩:=bind_some e;refine g Hz Jz O Z Y H J x _ s e1 λv H1 J1 u1 r1=>?_
 cases x with
|int i=>cases e;cases r1;exact⟨i,rfl,w _ H1 J1 u1 (.int _)⟩
|_=>cases e
def RpWL.one {H:Hp}{J:Addr->Prop}{vs:List V}{d:D}(h:RpWL K H J vs [d]):∃v,vs = [v]/\RpW K H J v d:=by
 match vs,h with
|[v],h=>exact⟨v,rfl,h.1⟩
|[],h=>exact h.elim
|_::_::_,h=>exact h.2.elim
def bLen:List D->Option D
|[.lst ds]=>some (.int ds.length)
|[.tup ds]=>some (.int ds.length)
|[.str z]=>if z.length<=lim then some (.int z.length) else none
|_=>none
def zbN:ImC K (λxs H Q=>∃x n,xs = [x]/\LenV K x H n/\Q (.int n) H) bLen:=by
 intro H J vs ds d Q ja r hF w;match ds,r,hF with
|[.lst ds],r,hF=>
   obtain⟨v,rfl,rr⟩:=r.one;cases hF;obtain⟨p,us,rfl,h1,rl⟩:=rr.lst;refine⟨_,us.length,rfl,.inl ⟨us,SqL.of h1,rfl⟩,?_⟩;rw[rl.length];exact w _ H J (Up.refl ja) (.int _)
|[.tup ds],r,hF=>
   obtain⟨v,rfl,rr⟩:=r.one;cases hF;obtain⟨p,us,rfl,h1,rl⟩:=rr.tup;refine⟨_,us.length,rfl,.inr ⟨us,h1,rfl⟩,?_⟩;rw[rl.length];exact w _ H J (Up.refl ja) (.int _)
|[.str z],r,hF=>
   obtain⟨v,rfl,rr⟩:=r.one;have hF:(if z.length<=lim then some (D.int z.length) else none)=some d:=hF
   by_cases hl:z.length<=lim
   .rw[if_pos hl] at hF;cases hF;rw[rr.str];exact⟨_,z.length,rfl,⟨zb1 hl,rfl⟩,w _ H J (Up.refl ja) (.int _)⟩
   .rw[if_neg hl] at hF;cases hF
def bList:List D->Option D
|[.lst ds]=>some (.lst ds)
|[.tup ds]=>some (.lst ds)
|_=>none
def zlh:ImC K (λxs H Q=>∃p ys,xs = [.ref p]/\(SqL K H p ys\/SqT K H p ys)/\∀l,H l=none->Q (.ref l) (upd H l (.lst ys))) bList:=by
 intro H J vs ds d Q ja r hF w;match ds,r,hF with
|[.lst ds],r,hF=>
   obtain⟨v,rfl,rr⟩:=r.one;cases hF;obtain⟨p,us,rfl,h1,rl⟩:=rr.lst;refine⟨p,us,rfl,.inl (SqL.of h1),λc hc=>?_⟩;have un:=Up.newJ ja hc (.lst us)
   exact w _ _ _ un (.lst zai (.inr rfl) (rl.keep un.keep))
|[.tup ds],r,hF=>
   obtain⟨v,rfl,rr⟩:=r.one;cases hF;obtain⟨p,us,rfl,h1,rl⟩:=rr.tup;refine⟨p,us,rfl,.inr h1,λc hc=>?_⟩;have un:=Up.newJ ja hc (.lst us)
   exact w _ _ _ un (.lst zai (.inr rfl) (rl.keep un.keep))
end
def Src (K:W.Frag)(I:It)(H:Hp)(J:Addr->Prop)(ds:List D):Prop:=∀H2 J2,Keep K H J H2 J2->(∀a,J2 a->H2 a≠none)->
 I.stop ds.length H2/\∀i d,ds[i]?=some d->I.go i H2/\∀x H3,I.yld i H2 x H3->∃J3,Up H2 J2 H3 J3/\Rp K H3 J3 x d
def GoI (K:W.Frag)(wi:TI)(f:FA):Prop:=∀Hz Jz O Z Y H J ds R,ST K Hz Jz O Z Y H J->f Z=some ds->(∀I H' J',Up H J H' J'->Src K I H' J' ds->R I H')->wi Y H R
def VI (X:Cx)(tg iter:Expr)(f:FA):Prop:=∃wi,PI X tg iter wi/\GoI X.K wi f
section
variable {X:Cx}{K:W.Frag}{tg a b:Expr}{fa fb:FE}{fl:FA}{pos p:Pos}
def zoh {wi wi':TI}{iter:Expr}(h:PI X tg iter wi)(h':PI X tg iter wi'):PI X tg iter (λY H R=>wi Y H R\/wi' Y H R):=by
 intro pins s Y H R I q;rcases q with q|q
 .exact h pins s Y H R I q
 .exact h' pins s Y H R I q
def dSeq:D->Option (List D)
|.lst ds=>some ds
|.tup ds=>some ds
|_=>none
def aSeq (f:FE):FA:=λZ=>(f Z).bind dSeq
def zcE (h:VE X a fa):VI X tg a (aSeq fa):=by
 obtain⟨t,p,g⟩:=h;refine⟨_,zoh (zkM p) (zmi p),?_⟩;intro Hz Jz O Z Y H J ds R s e w;obtain⟨x,e1,e⟩:=bind_some e;cases x with
|lst xs=>
   cases e;refine .inl (g Hz Jz O Z Y H J _ _ s e1 λv H1 J1 u1 r1=>?_);cases r1 with
  |lst h j r=>
     refine⟨_,rfl,⟨_,SqL.of h⟩,w _ H1 J1 u1 λH2 J2 k ja=>?_⟩;have h2:=k.jo _ _ j h
     refine⟨⟨_,SqL.of h2,by rw[r.length];exact wai _⟩,λi d hd=>?_⟩;obtain⟨v,hv,rv⟩:=r.get hd;refine⟨⟨_,v,SqL.of h2,hv⟩,λx H3 y=>?_⟩;obtain⟨rfl,y⟩:=y;have e:=y _ (SqL.of h2)
     rw[hv] at e;cases e;exact⟨J2,Up.refl ja,rv.keep k⟩
|tup xs=>
   cases e;refine .inr (g Hz Jz O Z Y H J _ _ s e1 λv H1 J1 u1 r1=>?_);cases r1 with
  |tup h r=>
     refine⟨_,rfl,⟨_,h⟩,w _ H1 J1 u1 λH2 J2 k ja=>?_⟩;have h2:=k.tp _ _ h
     refine⟨⟨_,h2,by rw[r.length];exact wai _⟩,λi d hd=>?_⟩;obtain⟨v,hv,rv⟩:=r.get hd;refine⟨⟨_,v,h2,hv⟩,λx H3 y=>?_⟩;obtain⟨rfl,y⟩:=y;have e:=y _ h2
     rw[hv] at e;cases e;exact⟨J2,Up.refl ja,rv.keep k⟩
|_=>cases e
def zb3 (lo:Int)(n:Nat):List D:=(List.range n).map λ(i:Nat)=>.int (lo+(i:Int))
def zh1 {H:Hp}{J:Addr->Prop}(lo:Int)(n:Nat):Src K (Itr lo n) H J (zb3 lo n):=by
 intro H2 J2 k ja;have hl:(zb3 lo n).length=n:=by simp[zb3]
 rw[hl];refine⟨wai _,λi d hd=>?_⟩;have hi:i<n:=by rw[<-hl];exact(wav.mp hd).1
 refine⟨hi,λx H3 y=>?_⟩;obtain⟨rfl,rfl⟩:=y;unfold zb3 at hd;rw[waC,List.getElem?_range hi] at hd;cases hd;exact⟨J2,Up.refl ja,.int _⟩
def a1Int:List D->Option Int
|[.int i]=>some i
|_=>none
def aRng1 (f:FA):FA:=λZ=>(f Z).bind λl=>(a1Int l).bind λj=>if -1000000<=j/\j<=1000000 then some (zb3 0 j.toNat) else none
def zh2 (B:Blt X.mg)(ha:VA X [a] fl)(hg:Gl X "range":=by rfl)(hs:starEach [a] X.env = [(false,eval a X.env)]:=by rfl):VI X tg (.Call (.Name "range" p) [a] [] pos) (aRng1 fl):=by
 obtain⟨t,p,g⟩:=ha;refine⟨_,zhA hg (B.get "range") p hs,?_⟩;intro Hz Jz O Z Y H J ds R s e w;obtain⟨l,e1,e⟩:=bind_some e;obtain⟨j,e2,e⟩:=bind_some e;by_cases hj:-1000000<=j/\j<=1000000
 .rw[if_pos hj] at e;cases e;refine g Hz Jz O Z Y H J _ _ s e1 λvs H1 J1 u1 r1=>?_
  match l,e2,r1 with
 |[.int i],e2,r1=>
    cases e2;cases r1 with
   |cons h t=>cases t;cases h;exact⟨j,rfl,by omega,by omega,w _ H1 J1 u1 (zh1 0 _)⟩
 .rw[if_neg hj] at e;cases e
def zeX (ds:List D):List D:=ds.zipIdx.map λp=>.tup [.int (p.2:Nat),p.1]
def a1Tup:List D->Option (List D)
|[.tup ds]=>some ds
|_=>none
def aEnum (f:FA):FA:=λZ=>(f Z).bind λl=>(a1Tup l).bind λds=>some (zeX ds)
def zeY (ds:List D):(zeX ds).length=ds.length:=by simp[zeX]
def zh3 {ds:List D}{i:Nat}{d:D}(h:(zeX ds)[i]?=some d):∃x,ds[i]?=some x/\d=.tup [.int (i:Nat),x]:=by
 unfold zeX at h;rw[waC,List.getElem?_zipIdx] at h;cases q:ds[i]? with
|none=>rw[q] at h;cases h
|some x=>rw[q] at h;simp at h;exact⟨x,rfl,h.symm⟩
def zli {elts:List Expr}{x1}{tpos:Pos}(B:Blt X.mg)(ha:VA X [a] fl)(hg:Gl X "enumerate":=by rfl)(hs:starEach [a] X.env = [(false,eval a X.env)]:=by rfl):VI X (.Tuple elts x1 tpos) (.Call (.Name "enumerate" p) [a] [] pos) (aEnum fl):=by
 obtain⟨t,p,g⟩:=ha;refine⟨_,zk7 hg (B.get "enumerate") p hs,?_⟩;intro Hz Jz O Z Y H J ds R s e w;obtain⟨l,e1,e⟩:=bind_some e;obtain⟨xs,e2,e⟩:=bind_some e;cases e;refine g Hz Jz O Z Y H J _ _ s e1 λvs H1 J1 u1 r1=>?_
 match l,e2,r1 with
|[.tup _],e2,r1=>
   cases e2;cases r1 with
  |cons h t=>
     cases t;cases h with
    |tup h r=>
       refine⟨_,rfl,⟨_,h⟩,w _ H1 J1 u1 λH2 J2 k ja=>?_⟩;have h2:=k.tp _ _ h
       refine⟨⟨_,h2,by rw[r.length,zeY];exact wai _⟩,λi d hd=>?_⟩;obtain⟨x,hx,rfl⟩:=zh3 hd;obtain⟨v,hv,rv⟩:=r.get hx;refine⟨⟨_,v,h2,hv⟩,λy H3 hy=>?_⟩;obtain⟨q,hn,rfl,hy⟩:=hy;obtain⟨y,ey,rfl⟩:=hy _ h2;rw[hv] at ey;cases ey;have un:=Up.new ja hn (.tup [.int (i:Nat),v])
       exact⟨J2,un,.tup (SqT.of zai) (.cons (.int _) (.cons ((rv.keep k).keep un.keep) .nil))⟩
end
abbrev FG:=D->En->Option En
abbrev FGs:=List D->En->Option En
def Only (is:List Nat)(Z Z':En):Prop:=Z'.length=Z.length/\∀j,j∉is->Z'[j]?=Z[j]?
def GoG (K:W.Frag)(g:TG)(is:List Nat)(f:FG):Prop:=(∀d Z Z',f d Z=some Z'->Only is Z Z')/\∀Hz Jz O Z Y H J v d Z' Q,ST K Hz Jz O Z Y H J->Rp K H J v d->f d Z=some Z'->(∀Y',ST K Hz Jz O Z' Y' H J->Q Y' H)->g v Y H Q
def GoGs (K:W.Frag)(g:TGs)(is:List Nat)(f:FGs):Prop:=(∀d Z Z',f d Z=some Z'->Only is Z Z')/\∀Hz Jz O Z Y H J vs ds Z' Q,ST K Hz Jz O Z Y H J->RpL K H J vs ds->f ds Z=some Z'->(∀Y',ST K Hz Jz O Z' Y' H J->Q Y' H)->g vs Y H Q
def VG (X:Cx)(tg:Expr)(is:List Nat)(f:FG):Prop:=∃g,PG X tg g/\GoG X.K g is f
def VGs (X:Cx)(tgs:List Expr)(is:List Nat)(f:FGs):Prop:=∃g,PGs X tgs g/\GoGs X.K g is f
def isPar:Option SV->Bool
|some (.par _ _)=>true
|_=>false
def zbx {x:Option SV}(h:isPar x=false):∀n d,x≠some (.par n d):=λn d e=>by rw[e] at h;cases h
def gN (i:Nat):FG:=λd Z=>if i<Z.length/\isPar (Z[i]?)=false then some (Z.set i (.val d)) else none
def gNil':FGs:=λds Z=>if ds = [] then some Z else none
def gCons' (f:FG)(g:FGs):FGs:=λds Z=>match ds with|d::r=>(f d Z).bind λZ1=>g r Z1|[]=>none
def gT (n:Nat)(f:FGs):FG:=λd Z=>match d with|.tup ds=>if ds.length=n then f ds Z else none|_=>none
def zfK {K:W.Frag}{i:Nat}:GoG K (zgH i) [i] (gN i):=by
 refine⟨λd Z Z' h=>?_,λHz Jz O Z Y H J v d Z' Q s r e w=>?_⟩
 .unfold gN at h;by_cases hi:i<Z.length/\isPar (Z[i]?)=false
  .rw[if_pos hi] at h;cases h;exact⟨by simp,λj hj=>wag (λz=>hj (by simp[z]))⟩
  .rw[if_neg hi] at h;cases h
 .unfold gN at e;by_cases hi:i<Z.length/\isPar (Z[i]?)=false
  .rw[if_pos hi] at e;cases e;exact w _ (s.set r hi.1 (zbx hi.2))
  .rw[if_neg hi] at e;cases e
theorem Only.trans {is js:List Nat}{Z Z1 Z2:En}(a:Only is Z Z1)(b:Only js Z1 Z2):Only (is++js) Z Z2:=⟨b.1.trans a.1,λj hj=>by
 rw[waM] at hj;rw[b.2 j (λz=>hj (.inr z)),a.2 j (λz=>hj (.inl z))]⟩
def zlj {K:W.Frag}:GoGs K gNil [] gNil':=by
 refine⟨λd Z Z' h=>?_,λHz Jz O Z Y H J vs ds Z' Q s r e w=>?_⟩
 .unfold gNil' at h;by_cases hd:d = []
  .rw[if_pos hd] at h;cases h;exact⟨rfl,λ_ _=>rfl⟩
  .rw[if_neg hd] at h;cases h
 .unfold gNil' at e;by_cases hd:ds = []
  .rw[if_pos hd] at e;cases e;subst hd;cases r;exact⟨rfl,w _ s⟩
  .rw[if_neg hd] at e;cases e
def zjw {K:W.Frag}{g:TG}{gs:TGs}{is js:List Nat}{f:FG}{fs:FGs}(h1:GoG K g is f)(h2:GoGs K gs js fs):GoGs K (zme g gs) (is++js) (gCons' f fs):=by
 refine⟨λd Z Z' h=>?_,λHz Jz O Z Y H J vs ds Z' Q s r e w=>?_⟩
 .cases d with
 |nil=>cases h
 |cons d r=>
    obtain⟨Z1,e1,e2⟩:=bind_some (show((f d Z).bind λZ1=>fs r Z1)=some Z' from h);exact(h1.1 _ _ _ e1).trans (h2.1 _ _ _ e2)
 .cases ds with
 |nil=>cases e
 |cons d ds=>
    obtain⟨Z1,e1,e2⟩:=bind_some (show((f d Z).bind λZ1=>fs ds Z1)=some Z' from e);cases r with
   |cons r1 r2=>
      refine⟨_,_,rfl,h1.2 Hz Jz O Z Y H J _ d Z1 _ s r1 e1 λY1 s1=>?_⟩;exact h2.2 Hz Jz O Z1 Y1 H J _ ds Z' _ s1 r2 e2 w
def zlk {K:W.Frag}{n:Nat}{gs:TGs}{is:List Nat}{fs:FGs}(h:GoGs K gs is fs):GoG K (gTup K n gs) is (gT n fs):=by
 refine⟨λd Z Z' e=>?_,λHz Jz O Z Y H J v d Z' Q s r e w=>?_⟩
 .cases d with
 |tup ds=>
    have e:(if ds.length=n then fs ds Z else none)=some Z':=e
    by_cases hn:ds.length=n
    .rw[if_pos hn] at e;exact h.1 _ _ _ e
    .rw[if_neg hn] at e;cases e
 |_=>cases e
 .cases d with
 |tup ds=>
    have e:(if ds.length=n then fs ds Z else none)=some Z':=e
    by_cases hn:ds.length=n
    .rw[if_pos hn] at e;cases r with
    |tup hq rl=>exact⟨_,_,rfl,hq,by rw[rl.length];exact hn,h.2 Hz Jz O Z Y H J _ ds Z' Q s rl e w⟩
    .rw[if_neg hn] at e;cases e
 |_=>cases e
section
variable {X:Cx}{pos:Pos}
def zll {i:Nat}{x:Str}(hN:X.N.Nodup)(hi:X.N[i]?=some x)(hx:Loc X.env.scope x)(hf:X.fn x=true\/X.env.scope.names.lookup x=some .local:=by first|exact .inl rfl|exact .inr rfl|assumption):VG X (.Name x pos) [i] (gN i):=⟨_,zfB hN hi hx hf,zfK⟩
def zfL:VGs X [] [] gNil':=⟨_,zkL,zlj⟩
def zbk {e:Expr}{es:List Expr}{is js:List Nat}{f:FG}{fs:FGs}(h1:VG X e is f)(h2:VGs X es js fs)(hs:(assignEach (e::es) X.env).map (·.2)=assign e X.env::(assignEach es X.env).map (·.2):=by rfl):VGs X (e::es) (is++js) (gCons' f fs):=by
 obtain⟨g,p,q⟩:=h1;obtain⟨gs,ps,qs⟩:=h2;exact⟨_,zi9 p ps hs,zjw q qs⟩
def zh4 {es:List Expr}{k:Nat}{is:List Nat}{n:Nat}{fs:FGs}(hc:X.calm=true)(h:VGs X es is fs)(hn:(assignEach es X.env).length=n:=by rfl)(hst:(assignEach es X.env).findIdx? (·.1)=none:=by rfl):VG X (.Tuple es k pos) is (gT n fs):=by
 obtain⟨gs,ps,qs⟩:=h;exact⟨_,zmf hc ps hn hst,zlk qs⟩
def vgC (i:Nat){X:Cx}{scope:Scope}{cl:List (Str×Addr)}{NC:List Str}{C:Addr}{s0:Shared}{H0:Hp}{ex:List Addr}{pn:List (Addr×Obj)}{x:Str}{pos:Pos}(nd:NC.Nodup)(hi:NC[i]?=some x)(hx:scope.names.lookup x=some .local):VG (cxC X scope cl NC C s0 H0 ex pn) (.Name x pos) [i] (gN i):=⟨_,pgC i nd hi hx,zfK⟩
end
def TEof (K:W.Frag)(f:FE):TE:=λY H Q=>∃Hz Jz O Z J d,ST K Hz Jz O Z Y H J/\f Z=some d/\zgP K H J d Q
def TTof (K:W.Frag)(f:FT):TT:=λY H Q=>∃Hz Jz O Z J b,ST K Hz Jz O Z Y H J/\f Z=some b/\zkr H J b Q
def TGof (K:W.Frag)(f:FG):TG:=λv Y H Q=>∃Hz Jz O Z J d Z',ST K Hz Jz O Z Y H J/\Rp K H J v d/\f d Z=some Z'/\∀Y',ST K Hz Jz O Z' Y' H J->Q Y' H
def VE.of {X:Cx}{e:Expr}{f:FE}(h:VE X e f):PE X e (TEof X.K f):=by
 obtain⟨t,p,g⟩:=h;rintro pins s Y H Q I ⟨Hz,Jz,O,Z,J,d,s1,e1,w⟩;exact p pins s Y H Q I (g Hz Jz O Z Y H J d Q s1 e1 w)
def VG.of {X:Cx}{e:Expr}{is:List Nat}{f:FG}(h:VG X e is f):PG X e (TGof X.K f):=by
 obtain⟨t,p,g⟩:=h;rintro pins s Y H v u Q I r ⟨Hz,Jz,O,Z,J,d,Z',s1,r1,e1,w⟩;exact p pins s Y H v u Q I r (g.2 Hz Jz O Z Y H J v d Z' Q s1 r1 e1 w)
def zbK (Z:En)(fr:List (Option Nat)):En:=fr.map λo=>match o with
|none=>.un
|some j=>match Z[j]? with
  |some (.val d)=>.val d
  |_=>.un
def zeZ (f:D->Option (Option D)):List D->Option (List D)
|[]=>some []
|d::r=>(f d).bind λo=>(zeZ f r).bind λxs=>some (match o with|some x=>x::xs|none=>xs)
def zcv (Z:En)(g:FG)(t:FT)(e:FE)(d:D):Option (Option D):=(g d Z).bind λZ1=>(t Z1).bind λok=>if ok then(e Z1).bind λx=>some (some x) else some none
def zh5 (fr:List (Option Nat))(fi:FA)(g:FG)(t:FT)(e:FE):FA:=λZ=>(fi Z).bind λds=>(zeZ (zcv (zbK Z fr) g t e) ds).bind λout=>if out.length<=lim then some out else none
def tTrue:FT:=λ_=>some true
def VTs (X:Cx)(ifs:List Expr)(f:FT):Prop:=PTs X ifs (TTof X.K f)
def zlm {X:Cx}:VTs X [] tTrue:=by
 rintro pins s Y H Q I ⟨Hz,Jz,O,Z,J,d,s1,e1,w⟩;cases e1;exact zk2 pins s Y H Q I (w H J (Up.refl s1.ja))
def zjx (Y:L2.St)(fr:List (Option Nat)):(pick Y fr).length=fr.length:=by simp[pick]
def zh6 (Z:En)(fr:List (Option Nat)):(zbK Z fr).length=fr.length:=by simp[zbK]
section
variable {K:W.Frag}{H H' H1 Hz:Hp}{J J' J1 Jz:Addr->Prop}{Z:En}{Y:L2.St}
def Pr.blk (O:Pr):Pr:=⟨[],O.fpo⟩
def zdz (Z:En)(fr:List (Option Nat)):∀i:Nat,ownD ((zbK Z fr)[i]?)=none:=by
 intro i;unfold zbK;rw[waC];cases q:fr[i]? with
|none=>rfl
|some o=>
   cases o with
  |none=>rfl
  |some j=>
     simp only[Option.map_some];cases z:Z[j]? with
    |none=>rfl
    |some y=>cases y <;> rfl
def zh7 {x:Option (Option V)}{s:Option SV}{O:List Addr}(h:ownD s=none):OwAt K Hz H J O x [] s:=by
 match s,h with
|none,_=>rfl
|some .un,_=>rfl
|some (.val _),_=>rfl
theorem ST.pick {O:Pr}(s:ST K Hz Jz O Z Y H J)(fr:List (Option Nat)):ST K Hz Jz O.blk (zbK Z fr) (pick Y fr) H J where
 same:=s.same
 j0:=s.j0
 jn:=s.jn
 ja:=s.ja
 al:=s.al
 ps:=λq hq=>absurd hq (by simp[Pr.blk])
 ow:=⟨λ_=>[],λi=>zh7 (zdz Z fr i),λ_=>wbx,λ_ b hb=>absurd hb (by simp),λ_ _ _ b hb=>absurd hb (by simp)⟩
 len:=by rw[zjx,zh6]
 vl:=λi d h=>by
  unfold zbK at h;rw[waC] at h;cases q:fr[i]? with
 |none=>rw[q] at h;cases h
 |some o=>
    rw[q] at h;cases o with
   |none=>simp at h
   |some j=>
      simp only[Option.map_some,Option.some.injEq] at h;cases z:Z[j]? with
     |none=>rw[z] at h;cases h
     |some y=>
        rw[z] at h;cases y with
       |val d'=>
          cases h;obtain⟨v,hv,r⟩:=s.vl j _ z;refine⟨v,?_,r⟩;show(fr.map _)[i]?=_
          rw[waC,q];simp[hv]
       |_=>cases h
def Mt:HO->Prop
|.lst _=>True
|.dK _=>True
|_=>False
def zes {D:Addr}{o0 o:HO}(hD:H D=some o0)(nj:¬J D)(hm:Mt o0:=by exact True.intro):Keep K H J (upd H D o) J:=⟨λ_ h=>h,λp u j h=>by rw[zag (show p≠D from λz=>nj (z▸j))];exact h,λp vs h=>by
 rcases h with(h|⟨u,h⟩)|h
 .refine .inl (.inl ?_);rw[zag];exact h;rintro rfl;rw[h] at hD;cases hD;exact hm
 .refine .inl (.inr ⟨u,?_⟩);rw[zag];exact h;rintro rfl;rw[h] at hD;cases hD;exact hm
 .exact .inr h⟩
def OwAt.nil {x:Option (Option V)}{A:List Addr}{s:Option SV}{O:List Addr}(h:OwAt K Hz H J O x A s)(n:ownD s=none):A = []:=by
 match s,h,n with
|none,h,_=>exact h
|some .un,h,_=>exact h
|some (.val _),h,_=>exact h
theorem ST.at {O:Pr}{D:Addr}{o0 o:HO}(s:ST K Hz Jz O Z Y H J)(no:∀i:Nat,ownD (Z[i]?)=none)(hD:H D=some o0)(nj:¬J D)(h0:Hz D=none)(hm:Mt o0:=by exact True.intro):ST K Hz Jz O Z Y (upd H D o) J where
 same:=λb u hb h=>by rw[zag (show b≠D from λz=>by rw[z,h0] at h;cases h)];exact s.same b u hb h
 j0:=s.j0
 jn:=s.jn
 ja:=λa h=>by
  by_cases e:a=D
  .subst e;rw[zai];simp
  .rw[zag e];exact s.ja a h
 al:=λa h=>by
  by_cases e:a=D
  .subst e;rw[zai];simp
  .rw[zag e];exact s.al a h
 len:=s.len
 vl:=λi d h=>let ⟨v,e,r⟩:=s.vl i d h;⟨v,e,r.keep (zes hD nj hm)⟩
 ps:=s.ps
 ow:=by
  obtain⟨fp,w⟩:=s.ow;refine⟨fp,λi=>(w.at' i).keep (zes hD nj hm) λb hb=>?_,w.nd,w.nj,w.dj⟩;rw[(w.at' i).nil (no i)] at hb;cases hb
theorem Up.at {D:Addr}{ys:List V}{o:HO}(u:Up H1 J1 H J)(h1:H1 D=none):Up H1 J1 (upd H D o) J:=⟨λb v h=>by rw[zag (show b≠D from λz=>by rw[z,h1] at h;cases h)];exact u.same b v h,u.jj,u.jn,λa h=>by
 by_cases e:a=D
 .subst e;rw[zai];simp
 .rw[zag e];exact u.ja a h⟩
end
def apart (is:List Nat)(fr:List (Option Nat)):Bool:=is.all λi=>fr[i]? == some none
def zh8 {Z Z1:En}{fr:List (Option Nat)}{is:List Nat}(o:Only is (zbK Z fr) Z1)(h:apart is fr=true):Weak (zbK Z fr) Z1:=by
 refine⟨o.1.symm,λi=>?_⟩;by_cases hi:i∈is
 .right
  have q:=waJ.mp h i hi
  have q':fr[i]?=some none:=by simpa using q
  unfold zbK;rw[waC,q'];rfl
 .left;exact(o.2 i hi).symm
def ST.free {K:W.Frag}{Hz H H1:Hp}{Jz J J1:Addr->Prop}{O:Pr}{Z:En}{Y:L2.St}(s:ST K Hz Jz O Z Y H J)(u:Up H J H1 J1){b:Addr}(h:H1 b=none):Hz b=none:=by
 cases e:Hz b with
|none=>rfl
|some o=>exact absurd h ((s.up u).al b (by rw[e];simp))
def SrcU (K:W.Frag)(I:It)(H:Hp)(J:Addr->Prop)(ds:List D):Prop:=∀H2 J2,Up H J H2 J2->(∀a,J2 a->H2 a≠none)->I.stop ds.length H2/\∀i d,ds[i]?=some d->I.go i H2/\∀x H3,I.yld i H2 x H3->∃J3,Up H2 J2 H3 J3/\Rp K H3 J3 x d
def GoIU (K:W.Frag)(wi:TI)(f:FA):Prop:=∀Hz Jz O Z Y H J ds R,ST K Hz Jz O Z Y H J->f Z=some ds->(∀I H' J',Up H J H' J'->SrcU K I H' J' ds->R I H')->wi Y H R
theorem GoI.u {K:W.Frag}{wi:TI}{f:FA}(h:GoI K wi f):GoIU K wi f:=λHz Jz O Z Y H J ds R s e w=>h Hz Jz O Z Y H J ds R s e λI H' J' u src=>w I H' J' u λH2 J2 u2 ja=>src H2 J2 u2.keep ja
def zjy {K:W.Frag}{fr:List (Option Nat)}{wi:TI}{fi:FA}{g:FG}{is:List Nat}{ft:FT}{fe:FE}(hi:GoIU K wi fi)(hon:∀d Z Z',g d Z=some Z'->Only is Z Z')(hap:apart is fr=true) :
 GoN K (zhQ fr wi (TGof K g) (TTof K ft) (TEof K fe)) (zh5 fr fi g ft fe):=by
 intro Hz Jz O Z Y H J out Q s e w;obtain⟨ds,e1,e⟩:=bind_some e;obtain⟨out',e2,e⟩:=bind_some e;by_cases hl:out'.length<=lim
 .rw[if_pos hl] at e;cases e;refine hi Hz Jz O Z Y H J ds _ s e1 λI H1 J1 u1 src=>?_
  intro Da hD;have hD0:Hz Da=none:=(s.free (u:=u1) hD)
  have nJ1:¬J1 Da:=λj=>u1.ja Da j hD
  refine⟨λi m ys Y2 H2=>m=ds.length - i/\i<=ds.length/\∃J2 dn rs,ST K Hz Jz O.blk (zbK Z fr) Y2 H2 J2/\Up H1 J1 H2 J2/\¬J2 Da/\Keep K H1 J1 H2 J2/\RpL K H2 J2 ys dn/\out=dn++rs/\zeZ (zcv (zbK Z fr) g ft fe) (ds.drop i)=some rs,⟨ds.length,by simp,waT _,?_⟩,?_⟩
  .have un:=Up.new u1.ja hD (.lst [])
   exact⟨J1,[],out,((s.up u1).up un).pick fr,un,nJ1,un.keep,.nil,rfl,by simpa using e2⟩
  .rintro i m ys Y2 H2 ⟨rfl,hil,J2,dn,rs,s2,u2,nj2,k2,r2,eo,ec⟩ hys;obtain⟨stop,turn⟩:=src H2 J2 u2 s2.ja;by_cases hlt:i<ds.length
   .right
    have hd:ds[i]?=some ds[i]:=waw hlt
    generalize hdd:ds[i]=d at hd;obtain⟨go,yl⟩:=turn i d hd;have edrop:ds.drop i=d::ds.drop (i+1):=by rw[<-hdd];exact(wbV hlt).symm
    rw[edrop] at ec;obtain⟨o,eo1,ec⟩:=bind_some (show((zcv (zbK Z fr) g ft fe d).bind λo=>(zeZ (zcv (zbK Z fr) g ft fe) (ds.drop (i+1))).bind λxs=>some (match o with|some x=>x::xs|none=>xs))=some rs from ec);obtain⟨rs',er,ec⟩:=bind_some ec;obtain⟨Z1,eg,eo1⟩:=bind_some eo1;obtain⟨ok,et,eo1⟩:=bind_some eo1;refine⟨go,λzs Y' H'=>∃J2 dn rs,ST K Hz Jz O.blk (zbK Z fr) Y' H' J2/\Up H1 J1 H' J2/\¬J2 Da/\Keep K H1 J1 H' J2/\RpL K H' J2 zs dn/\out=dn++rs/\zeZ (zcv (zbK Z fr) g ft fe) (ds.drop (i+1))=some rs,λzs Y' H' h=>⟨ds.length - (i+1),by omega,rfl,hlt,h⟩,λx H3 y=>?_⟩;obtain⟨J3,u3,r3⟩:=yl x H3 y;have wk:Weak (zbK Z fr) Z1:=zh8 (hon _ _ _ eg) hap
    refine⟨Hz,Jz,O.blk,zbK Z fr,J3,d,Z1,s2.up u3,r3,eg,λY4 s4=>?_⟩;refine⟨Hz,Jz,O.blk,Z1,J3,ok,s4,et,λH5 J5 u5=>?_⟩;have s5:=s4.up u5
    have u25:=u3.trans u5
    have nj5:¬J5 Da:=λj=>by
     rcases u25.jn Da j with j|j
     .exact nj2 j
     .rw[hys] at j;cases j
    have hy5:H5 Da=some (.lst ys):=u25.same _ _ hys
    refine⟨λhok=>?_,λhok=>?_⟩
    .subst hok;rw[if_pos rfl] at eo1;obtain⟨xd,ex,eo1⟩:=bind_some eo1;cases eo1;cases ec;refine⟨Hz,Jz,O.blk,Z1,J5,xd,s5,ex,λv H6 J6 u6 r6=>?_⟩;have u26:=u25.trans u6
     have nj6:¬J6 Da:=λj=>by
      rcases u6.jn Da j with j|j
      .exact nj5 j
      .rw[hy5] at j;cases j
     have hy6:H6 Da=some (.lst ys):=u6.same _ _ hy5
     have kA:Keep K H6 J6 (upd H6 Da (.lst (ys++[v]))) J6:=zes hy6 nj6
     refine⟨hy6,?_,J6,dn++[xd],rs',?_,(u2.trans u26).at (ys:=ys) hD,nj6,(k2.trans u26.keep).trans kA,((r2.keep u26.keep).append (.cons r6 .nil)).keep kA,by rw[eo];simp,er⟩
     .have:(dn++xd::rs').length<=lim:=by rw[<-eo];exact hl
      rw[wal,wbg] at this;rw[r2.length];exact wak (by omega:dn.length<lim) (wbp zhV)
     .exact((s5.up u6).weak wk rfl).at (zdz Z fr) hy6 nj6 hD0
    .subst hok;rw[if_neg (by simp)] at eo1;cases eo1;cases ec;exact⟨hy5,J5,dn,rs',s5.weak wk rfl,u2.trans u25,nj5,k2.trans u25.keep,r2.keep u25.keep,eo,er⟩
   .left
    have hi':i=ds.length:=by omega
    subst hi';rw[List.drop_length] at ec;cases ec;refine⟨stop,?_⟩;rw[wbe] at eo;subst eo;exact w Da ys H2 J2 (u1.trans u2) (u1.same.free hD) nj2 hys r2
 .rw[if_neg hl] at e;cases e
def zln {K:W.Frag}{fr:List (Option Nat)}{wi:TI}{fi:FA}{g:FG}{is:List Nat}{ft:FT}{fe:FE}(hi:GoI K wi fi)(hon:∀d Z Z',g d Z=some Z'->Only is Z Z')(hap:apart is fr=true):GoN K (zhQ fr wi (TGof K g) (TTof K ft) (TEof K fe)) (zh5 fr fi g ft fe):=zjy hi.u hon hap
def zjz (N:List Str)(st:Stmt){X:Cx}{elt iter tg:Expr}{ifs:List Expr}{scope:Scope}{pos:Pos}{NC:List Str}(fr:List (Option Nat)){fi:FA}{g:FG}{is:List Nat}{ft:FT}{fe:FE}{RR:Hp->Prop}(hRR:∀pins Y H s,Inv X pins Y H s->RR H)(hcalm:X.calm=true)(hi:VI X tg iter fi)
 (hcells:∀x,X.env.scope.names.lookup x=some .cell->∃c,X.env.cells.lookup x=some c) (hfk:X.env.scope.kind=.function) (hN:X.N=N) (hsc:X.env.scope.names=(zad st).names)
 (hfree':∀y∈scope.names,y.2=.free->(zad st).names.lookup y.1=some .cell) (hcell:∀y∈scope.names,y.2≠.cell) (hkind:scope.kind=.function) (hnames:∀y∈scope.names,y.2=.local->scope.names.lookup y.1=some .local)
 (hfr':zep N (zad st).names scope.names NC fr=true) (hlen:fr.length=NC.length) (hap:apart is fr=true)
 (hg:∀cl C s0 H0 ex pn,VG (cxC X scope cl NC C s0 H0 ex pn) tg is g) (ht:∀cl C s0 H0 ex pn,VTs (cxC X scope cl NC C s0 H0 ex pn) ifs ft) (he:∀cl C s0 H0 ex pn,RR H0->VE (cxC X scope cl NC C s0 H0 ex pn) elt fe)
 (hs:∀x,foldedSetIterable iter X.env x=pure x:=by intro _;rfl):VN X (.ListComp elt [⟨tg,iter,ifs,0⟩] scope pos) (zh5 fr fi g ft fe):=by
 obtain⟨wi,pi,gi⟩:=hi;obtain⟨_,_,hon,_⟩:=hg [] 0 X.s₀ X.Hz [] [];exact⟨_,zhU N st fr hRR hcalm pi hcells hfk hN hsc hfree' hcell hkind hnames hfr' hlen (λcl C s0 H0 ex pn=>(hg cl C s0 H0 ex pn).of) (λcl C s0 H0 ex pn=>show PTs (cxC X scope cl NC C s0 H0 ex pn) ifs (TTof X.K ft) from ht cl C s0 H0 ex pn) (λcl C s0 H0 ex pn r=>(he cl C s0 H0 ex pn r).of) hs,zln gi hon hap⟩
def zlo (N:List Str)(st:Stmt){X:Cx}{elt iter tg:Expr}{ifs:List Expr}{scope:Scope}{pos:Pos}{NC:List Str}(fr:List (Option Nat)){fi:FA}{g:FG}{is:List Nat}{ft:FT}{fe:FE}(hcalm:X.calm=true)(hi:VI X tg iter fi)
 (hcells:∀x,X.env.scope.names.lookup x=some .cell->∃c,X.env.cells.lookup x=some c) (hfk:X.env.scope.kind=.function) (hN:X.N=N) (hsc:X.env.scope.names=(zad st).names)
 (hfree':∀y∈scope.names,y.2=.free->(zad st).names.lookup y.1=some .cell) (hcell:∀y∈scope.names,y.2≠.cell) (hkind:scope.kind=.function) (hnames:∀y∈scope.names,y.2=.local->scope.names.lookup y.1=some .local)
 (hfr':zep N (zad st).names scope.names NC fr=true) (hlen:fr.length=NC.length) (hap:apart is fr=true)
 (hg:∀cl C s0 H0 ex pn,VG (cxC X scope cl NC C s0 H0 ex pn) tg is g) (ht:∀cl C s0 H0 ex pn,VTs (cxC X scope cl NC C s0 H0 ex pn) ifs ft) (he:∀cl C s0 H0 ex pn,VE (cxC X scope cl NC C s0 H0 ex pn) elt fe)
 (hs:∀x,foldedSetIterable iter X.env x=pure x:=by intro _;rfl):VN X (.ListComp elt [⟨tg,iter,ifs,0⟩] scope pos) (zh5 fr fi g ft fe):=
 zjz (RR:=λ_=>True) N st fr (λ_ _ _ _ _=>trivial) hcalm hi hcells hfk hN hsc hfree' hcell hkind hnames hfr' hlen hap hg ht (λcl C s0 H0 ex pn _=>he cl C s0 H0 ex pn) hs
inductive RV where
|told (d:D)|new (n:Nat) (d:D)
inductive Out where
|nx (Z:En)|ret (r:RV) (Z:En)|bk (Z:En)|ct (Z:En)
abbrev FS:=En->Option Out
def RtAt (K:W.Frag)(Hz:Hp)(O:Pr)(Z:En)(Y:L2.St)(H:Hp)(J:Addr->Prop)(v:V):RV->Prop
|.told d=>Rp K H J v d
|.new n d=>∃A fp,Ow K Hz O Z Y H J fp/\RpU K H J n v d A/\A.Nodup/\(∀b∈A,¬J b/\Hz b=none)/\∀i:Nat,∀b∈A,b∉fp i
def Fits (K:W.Frag)(Hz:Hp)(Jz:Addr->Prop)(O:Pr)(H:Hp)(J:Addr->Prop)(E:Ends):Out->Prop
|.nx Z'=>∀Y' H' J',ST K Hz Jz O Z' Y' H' J'->Keep K H J H' J'->E.nx Y' H'
|.bk Z'=>∀Y' H' J',ST K Hz Jz O Z' Y' H' J'->Keep K H J H' J'->E.bk Y' H'
|.ct Z'=>∀Y' H' J',ST K Hz Jz O Z' Y' H' J'->Keep K H J H' J'->E.ct Y' H'
|.ret r Z'=>∀v Y' H' J',ST K Hz Jz O Z' Y' H' J'->RtAt K Hz O Z' Y' H' J' v r->E.rt v H'
def Fits.keep {K:W.Frag}{Hz:Hp}{Jz:Addr->Prop}{O:Pr}{H H1:Hp}{J J1:Addr->Prop}{E:Ends}(k:Keep K H J H1 J1):∀{o:Out},Fits K Hz Jz O H J E o->Fits K Hz Jz O H1 J1 E o
|.nx _,h=>λY' H' J' s q=>h Y' H' J' s (k.trans q)
|.bk _,h=>λY' H' J' s q=>h Y' H' J' s (k.trans q)
|.ct _,h=>λY' H' J' s q=>h Y' H' J' s (k.trans q)
|.ret _ _,h=>h
def GoS (K:W.Frag)(t:TS)(g:FS):Prop:=∀Hz Jz O Z Y H J o E,ST K Hz Jz O Z Y H J->g Z=some o->Fits K Hz Jz O H J E o->t E Y H
def VS (X:Cx)(st:Stmt)(g:FS):Prop:=∃t,PS X st t/\GoS X.K t g
def VSs (X:Cx)(sts:List Stmt)(g:FS):Prop:=∃t,PSs X sts t/\GoS X.K t g
def gSeq (a b:FS):FS:=λZ=>(a Z).bind λo=>match o with
|.nx Z'=>b Z'
|.bk Z'=>some (.bk Z')
|.ct Z'=>some (.ct Z')
|.ret d Z'=>some (.ret d Z')
def gNx:FS:=λZ=>some (.nx Z)
def RpL.one {K:W.Frag}{H:Hp}{J:Addr->Prop}{vs:List V}{d:D}(r:RpL K H J vs [d]):∃v,vs = [v]/\Rp K H J v d:=by
 cases r with
|cons h t=>cases t;exact⟨_,rfl,h⟩
section
variable {X:Cx}{K:W.Frag}{st:Stmt}{sts:List Stmt}{g g2:FS}{pos:Pos}{e a:Expr}{fa:FE}{fl:FA}{ft:FT}
def zak:VSs X [] gNx:=⟨_,zhv,λHz Jz O Z Y H J o E s e w=>by cases e;exact w Y H J s Keep.refl⟩
def zmI {t u:TS}(h1:GoS K t g)(h2:GoS K u g2):GoS K (tSeq t u) (gSeq g g2):=by
 intro Hz Jz O Z Y H J o E s e w;obtain⟨o1,e1,e⟩:=bind_some e;refine h1 Hz Jz O Z Y H J o1 _ s e1 ?_;cases o1 with
|nx Z'=>exact λY' H' J' s' k=>h2 Hz Jz O Z' Y' H' J' o E s' e (w.keep k)
|bk Z'=>cases e;exact w
|ct Z'=>cases e;exact w
|ret d Z'=>cases e;exact w
def zae (h1:VS X st g)(h2:VSs X sts g2):VSs X (st::sts) (gSeq g g2):=by
 obtain⟨t,p,q⟩:=h1;obtain⟨u,p2,q2⟩:=h2;exact⟨_,zej p p2,zmI q q2⟩
def zah (h:VS X st g):VSs X [st] g:=let ⟨t,p,q⟩:=h;⟨t,zhw p,q⟩
def frzE (i:Nat)(Z:En):En:=match Z[i]? with
|some (.own _ d)=>Z.set i (.val d)
|_=>Z
def zlp (i:Nat)(h:VSs X sts g):VSs X sts (λZ=>g (frzE i Z)):=by
 obtain⟨t,p,q⟩:=h;refine⟨t,p,λHz Jz O Z Y H J o E s e w=>?_⟩;have e:g (frzE i Z)=some o:=e
 unfold frzE at e;cases z:Z[i]? with
|none=>rw[z] at e;exact q Hz Jz O Z Y H J o E s e w
|some x=>
   rw[z] at e;cases x with
  |own n d=>
     obtain⟨J',s',k⟩:=s.frz z;exact q Hz Jz O _ Y H J' o E s' e (w.keep k)
  |_=>exact q Hz Jz O Z Y H J o E s e w
def gNo:FS:=λ_=>none
def zet:VS X st gNo:=⟨_,zga,λHz Jz O Z Y H J o E s e w=>by cases e⟩
def gRet (f:FE):FS:=λZ=>(f Z).bind λd=>some (.ret (.told d) Z)
def zao (h:VE X e fa):VS X (.Return (some e) pos) (gRet fa):=by
 obtain⟨t,p,q⟩:=h;refine⟨_,zkg p,λHz Jz O Z Y H J o E s e w=>?_⟩;obtain⟨d,e1,e⟩:=bind_some e;cases e;exact q Hz Jz O Z Y H J d _ s e1 λv H' J' u r=>w v Y H' J' (s.up u) r
def gEx (f:FE):FS:=λZ=>(f Z).bind λ_=>some (.nx Z)
def gIf (c:FT)(a b:FS):FS:=λZ=>(c Z).bind λk=>if k then a Z else b Z
def za5 {c:Expr}{bs os:List Stmt}(hc:VT X c ft)(ha:VSs X bs g)(hb:VSs X os g2):VS X (.If c bs os pos) (gIf ft g g2):=by
 obtain⟨tc,pc,qc⟩:=hc;obtain⟨t,p,q⟩:=ha;obtain⟨u,p2,q2⟩:=hb;refine⟨_,zmd pc p p2,λHz Jz O Z Y H J o E s e w=>?_⟩;obtain⟨k,e1,e⟩:=bind_some e;refine qc Hz Jz O Z Y H J k _ s e1 λH1 J1 u1=>?_
 cases k with
|true=>exact iteT (q Hz Jz O Z Y H1 J1 o E (s.up u1) e (w.keep u1.keep))
|false=>exact iteF (q2 Hz Jz O Z Y H1 J1 o E (s.up u1) e (w.keep u1.keep))
def gSet (i:Nat)(f:FE):FS:=λZ=>(f Z).bind λd=>if i<Z.length/\isPar (Z[i]?)=false then some (.nx (Z.set i (.val d))) else none
def zmJ {i:Nat}{t:TE}(q:GoE K t fa):GoS K (tAsg t (zgH i)) (gSet i fa):=by
 intro Hz Jz O Z Y H J o E s e w;obtain⟨d,e1,e⟩:=bind_some e;by_cases hi:i<Z.length/\isPar (Z[i]?)=false
 .rw[if_pos hi] at e;cases e;exact q Hz Jz O Z Y H J d _ s e1 λv H' J' u r=>w _ H' J' ((s.up u).set r hi.1 (zbx hi.2)) u.keep
 .rw[if_neg hi] at e;cases e
def zmK {i:Nat}{x:Str}{pos':Pos}(hN:X.N.Nodup)(hi:X.N[i]?=some x)(hx:Loc X.env.scope x)(h:VE X e fa)(hs:swapsWith e (some (.Name x pos')) pos.line X.env=pure false:=by rfl)(hf:X.fn x=true\/X.env.scope.names.lookup x=some .local:=by first|exact .inl rfl|exact .inr rfl|assumption) :
 VS X (.Assign [.Name x pos'] e pos) (gSet i fa):=by
 obtain⟨t,p,q⟩:=h;exact⟨_,zhy hN hi hx p hs hf,zmJ q⟩
def gOwn (i:Nat)(f:FA):FS:=λZ=>(f Z).bind λds=>if i<Z.length/\isPar (Z[i]?)=false then some (.nx (Z.set i (.own 1 (.lst ds)))) else none
def zmL {i:Nat}{t:TE}(q:GoN K t fl):GoS K (tAsg t (zgH i)) (gOwn i fl):=by
 intro Hz Jz O Z Y H J o E s e w;obtain⟨ds,e1,e⟩:=bind_some e;by_cases hi:i<Z.length/\isPar (Z[i]?)=false
 .rw[if_pos hi] at e;cases e;refine q Hz Jz O Z Y H J ds _ s e1 λp vs H' J' u hp nj h' r=>w _ H' J' (s.setOwn (A:=[p]) u (λb hb=>by rw[wau.mp hb];exact hp) (.lst h' (RpUL.of r)) (by simp) (λb hb=>by rw[wau.mp hb];exact nj) hi.1 (zbx hi.2)) u.keep
 .rw[if_neg hi] at e;cases e
def zmM {i:Nat}{x:Str}{pos':Pos}(hN:X.N.Nodup)(hi:X.N[i]?=some x)(hx:Loc X.env.scope x)(h:VN X e fl)(hs:swapsWith e (some (.Name x pos')) pos.line X.env=pure false:=by rfl)(hf:X.fn x=true\/X.env.scope.names.lookup x=some .local:=by first|exact .inl rfl|exact .inr rfl|assumption) :
 VS X (.Assign [.Name x pos'] e pos) (gOwn i fl):=by
 obtain⟨t,p,q⟩:=h;exact⟨_,zhy hN hi hx p hs hf,zmL q⟩
def gAsg (f:FE)(g:FG):FS:=λZ=>(f Z).bind λd=>(g d Z).bind λZ'=>some (.nx Z')
def zmN {tg:Expr}{is:List Nat}{fg:FG}(h:VE X e fa)(hg:VG X tg is fg)(hs:swapsWithSole [tg] e pos.line X.env=pure false:=by rfl)(hw:swappedStores [tg] e X.env=pure none:=by rfl)(h1:(assignEach [tg] X.env).map (·.2) = [assign tg X.env]:=by rfl):VS X (.Assign [tg] e pos) (gAsg fa fg):=by
 obtain⟨t,p,q⟩:=h;obtain⟨u,p2,q2⟩:=hg;refine⟨_,zmg p p2 hs hw h1,λHz Jz O Z Y H J o E s e w=>?_⟩;obtain⟨d,e1,e⟩:=bind_some e;obtain⟨Z',e2,e⟩:=bind_some e;cases e;exact q Hz Jz O Z Y H J d _ s e1 λv H' J' u r=>q2.2 Hz Jz O Z Y H' J' v d Z' _ (s.up u) r e2 λY' s'=>w Y' H' J' s' u.keep
def setO (Z:En)(i:Nat)(d:D):En:=Z.set i (putD (Z[i]?) d)
def ST.top {Hz H H':Hp}{Jz J:Addr->Prop}{O:Pr}{Z:En}{Y:L2.St}{i:Nat}{ds es:List D}(s:ST K Hz Jz O Z Y H J)(h0:ownD (Z[i]?)=some (1,.lst ds)):∃a vs,Y[i]?=some (some (.ref a))/\H a=some (.lst vs)/\RpL K H J vs ds/\
 ∀(us:List V) (es:List D),RpL K H J us es->ST K Hz Jz O (setO Z i (.lst es)) Y (upd H a (.lst us)) J/\Keep K H J (upd H a (.lst us)) J:=by
 obtain⟨v,A,hv,r,nd,nj,go⟩:=s.chg h0;obtain⟨a,vs,rfl,rfl,ha,rl⟩:=r.one;refine⟨a,vs,hv,ha,rl,λus es re=>?_⟩;have nja:¬J a:=nj a (by simp)
 have kp:Keep K H J (upd H a (.lst us)) J:=zes ha nja
 refine go (upd H a (.lst us)) J (.lst es) [a] (λb o hb h=>?_) (λb h=>?_) (λ_ h=>h) (λ_ h=>.inl h) (λb h=>?_) (.lst zai (RpUL.of (re.keep kp))) (by simp) nj (λb hb=>.inl hb)
 .rw[zag (λz=>hb (by simp[z]))];exact h
 .by_cases e:b=a
  .subst e;rw[zai];simp
  .rw[zag e];exact h
 .by_cases e:b=a
  .subst e;rw[zai];simp
  .rw[zag e];exact s.ja b h
def gApp (i:Nat)(f:FE):FS:=λZ=>(f Z).bind λd=>match ownD (Z[i]?) with
|some (1,.lst ds)=>if ds.length<lim then some (.nx (setO Z i (.lst (ds++[d])))) else none
|_=>none
def zmO {i:Nat}{t:TA}(q:GoA K t fl)(f:FE)(hf:∀Z d,f Z=some d->fl Z=some [d]):GoS K (zkK (tBM K "list" zfD (tVar i) t)) (gApp i f):=by
 intro Hz Jz O Z Y H J o E s e w;obtain⟨d,e1,e⟩:=bind_some e;split at e
 .rename_i ds z
  by_cases hl:ds.length<lim
  .rw[if_pos hl] at e;cases e;obtain⟨a,vs,ha,hv,_,_⟩:=s.top (H':=H) (es:=[]) z;refine⟨.ref a,ha,.inl ⟨rfl,vs,SqL.of hv⟩,q Hz Jz O Z Y H J [d] _ s (hf Z d e1) λws H1 J1 u1 r1=>?_⟩;obtain⟨v,rfl,rv⟩:=r1.one;obtain⟨a',vs',ha',hv',rl,go⟩:=(s.up u1).top (H':=H) (es:=[]) z;rw[ha] at ha';cases ha';refine⟨a,vs',v,rfl,rfl,hv',by rw[rl.length];exact wak hl (wbp zhV),?_⟩;obtain⟨s2,k2⟩:=go (vs'++[v]) (ds++[d]) (rl.append (.cons rv .nil));exact w Y _ J1 s2 (u1.keep.trans k2)
  .rw[if_neg hl] at e;cases e
 .cases e
def zmP (i:Nat){x:Str}{xp apos cpos:Pos}(h:VE X e fa)(hN:X.N[i]?=some x:=by rfl)(hv:Vis X.env.scope x:=by first|exact Or.inl rfl|exact Or.inr (Or.inl rfl)|exact Or.inr (Or.inr rfl))(hd:(x == ("__debug__" : Str))=false:=by decide)
 (hcd:(x == ("__classdict__" : Str))=false:=by decide) (h1:starEach [e] X.env=(false,eval e X.env)::starEach [] X.env:=by rfl)
 (hbase:attributeBase (.Name x xp) "append" X.env (eval (.Name x xp) X.env)=eval (.Name x xp) X.env:=by rfl)
 (hfew:((backTo cpos (starEach [e] X.env)).all (λx=>!x.1)&&(backToKw cpos (keywordEach [] X.env)).all (λx=>x.1.isSome)
  && decide ([e].length+([]:List Keyword).length+(if([]:List Keyword).isEmpty then 0 else 1)<30))=true:=by rfl)
 (hline:(apos.endLine == cpos.line)=true:=by rfl) (hs:starEach [e] X.env = [(false,eval e X.env)]:=by rfl) (hsw:swapsWith (.Call (.Attribute (.Name x xp) "append" apos) [e] [] cpos) none pos.line X.env=pure false:=by rfl) :
 VS X (.Expr (.Call (.Attribute (.Name x xp) "append" apos) [e] [] cpos) pos) (gApp i fa):=by
 obtain⟨t,p,q⟩:=zaa h zac h1;refine⟨_,zhx (papp (zf9 hN hv hd hcd) p hbase hfew hline hs) hsw,zmO q fa λZ d e=>?_⟩;show((fa Z).bind λx=>(aNil Z).bind λxs=>some (x::xs))=some [d]
 rw[e];rfl
def gExt (i:Nat)(f:FE):FS:=λZ=>(f Z).bind λd=>match d,ownD (Z[i]?) with
|.lst es,some (1,.lst ds)=>if(ds++es).length<=lim then some (.nx (setO Z i (.lst (ds++es)))) else none
|_,_=>none
def zmQ {i:Nat}{t:TA}(q:GoA K t fl)(f:FE)(hf:∀Z d,f Z=some d->fl Z=some [d]):GoS K (zkK (tBM K "list" zhK (tVar i) t)) (gExt i f):=by
 intro Hz Jz O Z Y H J o E s e w;obtain⟨d,e1,e⟩:=bind_some e;split at e
 .rename_i es ds z
  by_cases hl:(ds++es).length<=lim
  .rw[if_pos hl] at e;cases e;obtain⟨a,vs,ha,hv,_,_⟩:=s.top (H':=H) (es:=[]) z;refine⟨.ref a,ha,.inl ⟨rfl,vs,SqL.of hv⟩,q Hz Jz O Z Y H J [.lst es] _ s (hf Z _ e1) λws H1 J1 u1 r1=>?_⟩;obtain⟨v,rfl,rv⟩:=r1.one;obtain⟨b,us,rfl,hb,rb⟩:=RpW.lst (.inl rv);obtain⟨a',vs',ha',hv',rl,go⟩:=(s.up u1).top (H':=H) (es:=[]) z;rw[ha] at ha';cases ha';refine⟨a,b,vs',us,rfl,rfl,hv',hb,by rw[rl.length,rb.length,<-wal];exact zb1 hl,?_⟩;obtain⟨s2,k2⟩:=go (vs'++us) (ds++es) (rl.append rb);exact w Y _ J1 s2 (u1.keep.trans k2)
  .rw[if_neg hl] at e;cases e
 .cases e
def zmR (i:Nat){x:Str}{xp apos cpos:Pos}(h:VE X e fa)(hN:X.N[i]?=some x:=by rfl)(hv:Vis X.env.scope x:=by first|exact Or.inl rfl|exact Or.inr (Or.inl rfl)|exact Or.inr (Or.inr rfl))(hd:(x == ("__debug__" : Str))=false:=by decide)
 (hcd:(x == ("__classdict__" : Str))=false:=by decide) (h1:starEach [e] X.env=(false,eval e X.env)::starEach [] X.env:=by rfl)
 (hbase:attributeBase (.Name x xp) "extend" X.env (eval (.Name x xp) X.env)=eval (.Name x xp) X.env:=by rfl)
 (hfew:((backTo cpos (starEach [e] X.env)).all (λx=>!x.1)&&(backToKw cpos (keywordEach [] X.env)).all (λx=>x.1.isSome)
  && decide ([e].length+([]:List Keyword).length+(if([]:List Keyword).isEmpty then 0 else 1)<30))=true:=by rfl)
 (hline:(apos.endLine == cpos.line)=true:=by rfl) (hs:starEach [e] X.env = [(false,eval e X.env)]:=by rfl) (hsw:swapsWith (.Call (.Attribute (.Name x xp) "extend" apos) [e] [] cpos) none pos.line X.env=pure false:=by rfl) :
 VS X (.Expr (.Call (.Attribute (.Name x xp) "extend" apos) [e] [] cpos) pos) (gExt i fa):=by
 obtain⟨t,p,q⟩:=zaa h zac h1;refine⟨_,zhx (zms PySem.F.plainAttrs_list PySem.F.slot_list_extend PySem.F.type_list_extend zhL (zf9 hN hv hd hcd) p hbase hfew hline hs rfl) hsw,zmQ q fa λZ d e=>?_⟩;show((fa Z).bind λx=>(aNil Z).bind λxs=>some (x::xs))=some [d]
 rw[e];rfl
end
def forL (tg:FG)(b:FS):List D->En->Option Out
|[],Z=>some (.nx Z)
|d::r,Z=>(tg d Z).bind λZ1=>(b Z1).bind λo=>match o with
  |.nx Z2=>forL tg b r Z2
  |.ct Z2=>forL tg b r Z2
  |.bk Z2=>some (.nx Z2)
  |.ret d Z2=>some (.ret d Z2)
def gFor (fi:FA)(tg:FG)(b:FS):FS:=λZ=>(fi Z).bind λds=>forL tg b ds Z
section
variable {X:Cx}{K:W.Frag}{fi:FA}{g:FS}{pos:Pos}{ft:FT}
def zmS {wi:TI}{tb:TS}{tg:TG}{fg:FG}{is:List Nat}(hi:GoI K wi fi)(hg:GoG K tg is fg)(hb:GoS K tb g):GoS K (tFor wi tg tb) (gFor fi fg g):=by
 intro Hz Jz O Z Y H J o E s e w;obtain⟨ds,e1,e⟩:=bind_some e;refine hi Hz Jz O Z Y H J ds _ s e1 λI H1 J1 u1 src=>?_
 refine⟨λi m Y' H'=>m=ds.length - i/\i<=ds.length/\∃Z' J',ST K Hz Jz O Z' Y' H' J'/\Keep K H1 J1 H' J'/\forL fg g (ds.drop i) Z'=some o,⟨ds.length,by simp,waT _,Z,J1,s.up u1,Keep.refl,by simpa using e⟩,?_⟩;rintro i m Y2 H2 ⟨rfl,hil,Z2,J2,s2,k2,e2⟩;obtain⟨stop,turn⟩:=src H2 J2 k2 s2.ja;by_cases hlt:i<ds.length
 .right
  have hd:ds[i]?=some ds[i]:=waw hlt
  generalize hdd:ds[i]=d at hd;obtain⟨go,yl⟩:=turn i d hd;have edrop:ds.drop i=d::ds.drop (i+1):=by rw[<-hdd];exact(wbV hlt).symm
  rw[edrop] at e2;unfold forL at e2;obtain⟨Z3,eg,e2⟩:=bind_some e2;obtain⟨ob,eb,e2⟩:=bind_some e2;refine⟨go,λY' H'=>∃Z' J',ST K Hz Jz O Z' Y' H' J'/\Keep K H1 J1 H' J'/\forL fg g (ds.drop (i+1)) Z'=some o,λY' H' h=>⟨ds.length - (i+1),by omega,rfl,hlt,h⟩,λx H3 y=>?_⟩;obtain⟨J3,u3,r3⟩:=yl x H3 y;refine hg.2 Hz Jz O Z2 Y2 H3 J3 x d Z3 _ (s2.up u3) r3 eg λY4 s4=>?_
  refine hb Hz Jz O Z3 Y4 H3 J3 ob _ s4 eb ?_;have k3:=k2.trans u3.keep
  cases ob with
 |nx Z5=>exact λY5 H5 J5 s5 k5=>⟨Z5,J5,s5,k3.trans k5,e2⟩
 |ct Z5=>exact λY5 H5 J5 s5 k5=>⟨Z5,J5,s5,k3.trans k5,e2⟩
 |bk Z5=>cases e2;exact λY5 H5 J5 s5 k5=>w Y5 H5 J5 s5 ((u1.keep.trans k3).trans k5)
 |ret d Z5=>cases e2;exact w
 .left
  have hi':i=ds.length:=by omega
  subst hi';rw[List.drop_length] at e2;cases e2;exact⟨stop,w Y2 H2 J2 s2 (u1.keep.trans k2)⟩
def zdi {tg iter:Expr}{body:List Stmt}{is:List Nat}{fg:FG}(hi:VI X tg iter fi)(hg:VG X tg is fg)(hb:VSs X body g)(hp:PassesOwn (model X.prog X.w) X.A X.env X.xe:=by exact PassesOwn.never)(hc:X.calm=true:=by rfl)
 (hs:∀x,foldedSetIterable iter X.env x=pure x:=by intro _;rfl):VS X (.For tg iter body [] pos) (gFor fi fg g):=by
 obtain⟨wi,p1,q1⟩:=hi;obtain⟨t,p2,q2⟩:=hg;obtain⟨tb,p3,q3⟩:=hb;exact⟨_,zki hp hc p1 p2 p3 hs,zmS q1 q2 q3⟩
end
section
variable {P:Program}{w:World}{K:W.Frag}{mg:Str->Option Value}{base:Heap}
def ST.out {Hz H:Hp}{Jz J:Addr->Prop}{Z:En}{Y:L2.St}(s:ST K Hz Jz Pr.no Z Y H J):Up Hz Jz H J:=⟨λb o=>s.same b o (λ⟨_,h⟩ =>by simp[Pr.no] at h),s.j0,s.jn,s.ja⟩
def zdn {N:List Str}{H:Hp}{J:Addr->Prop}{vs:List V}{ds:List D}(ja:∀a,J a->H a≠none)(r:RpL K H J vs ds):ST K H J Pr.no (ds.map SV.val++List.replicate (N.length - ds.length) .un) (start N vs) H J where
 same:=λ_ _ _ h=>h
 j0:=λ_ h=>h
 jn:=λ_ h=>.inl h
 ja:=ja
 al:=λ_ h=>h
 ps:=λq hq=>absurd hq (by simp[Pr.no])
 len:=by simp[L2.start,r.length]
 vl:=λi x h=>by
  rw[List.getElem?_append] at h;by_cases hi:i<(ds.map SV.val).length
  .rw[if_pos hi,waC] at h;cases q:ds[i]? with
  |none=>rw[q] at h;cases h
  |some d=>
     rw[q] at h;cases h;obtain⟨v,hv,rv⟩:=r.get q;refine⟨v,?_,rv⟩;unfold L2.start;rw[List.getElem?_append_left (by simp at hi⊢;rw[r.length];exact hi),waC,hv];rfl
  .rw[if_neg hi] at h;have:=waW h
   cases List.eq_of_mem_replicate this
 ow:=⟨λ_=>[],λi=>zh7 (by
  cases h:(List.map SV.val ds++List.replicate (N.length - ds.length) SV.un)[i]? with
 |none=>rfl
 |some x=>
    rcases waM.mp (waW h) with h|h
    .obtain⟨d',_,h⟩:=wcn.mp h;subst h;rfl
    .cases List.eq_of_mem_replicate h;rfl),λ_=>wbx,λ_ b hb=>absurd hb (by simp),λ_ _ _ b hb=>absurd hb (by simp)⟩
end
theorem zkt {P:Program}{w:World}{K:W.Frag}{mg:Str->Option Value}{base:Heap}{f:Addr}{fd:FuncData}{ps:List Str}{x:Str}{b:(List D->Option D)->List D->Option D}{m:Nat->List D->Option D}(h0:∀ds,m 0 ds=none)(hs:∀n,m (n+1)=b (m n))
 (bd:Binds K fd ps []) (kp:W.keepIn K (.ref f)=true) (mx:mg x=some (.ref f)) {k:Nat}(hlen:∀n ds d,m n ds=some d->ds.length=ps.length)
 (step:∀{n:Nat}{self:List D->Option D},Cal P w K mg base (k+n) x ps (spF K self)->FnOk P w K mg base CX0 (k+n+1) f fd ps (spF K (b self))):∀n,FnOk P w K mg base CX0 (k+n) f fd ps (spF K (m n))
|0=>by
   refine⟨λvs H Q E h=>?_,λA outer s H args us vs Q E _ _ _ _ h=>?_⟩
   .obtain⟨J,ds,d,_,_,e,_⟩:=h;rw[h0] at e;cases e
   .obtain⟨J,ds,d,_,_,e,_⟩:=h;rw[h0] at e;cases e
|n+1=>by
   rw[hs];exact step ⟨f,fd,zkt h0 hs bd kp mx hlen step n,bd,kp,mx⟩
section
variable {K:W.Frag}{mg:Str->Option Value}
def zdo {x:Str}{n:Int}{t:Tok}(h:mg x=some (.int n t)):GlobD K mg x (.int n):=⟨_,.int n,h,⟨t,rfl⟩,λ_ _=>.int n⟩
def zjA {x n:Str}{t:Tok}(h:mg x=some (.str n t)):GlobD K mg x (.str n):=⟨_,.str n,h,⟨t,rfl⟩,λ_ _=>.str n⟩
def zjB {x:Str}{p:Addr}{o:Obj}{its:Array Value}{n:Nat}{vs:List V}{ds:List D}(h:mg x=some (.ref p))(l:K.lookup p=some o)(hc:o.cls=.type "tuple")(hd:o.data=.seq its n)(hz:its.size<=sizeLine)(hv:Vals vs its.toList)(hr:∀H J,RpL K H J vs ds):GlobD K mg x (.tup ds):=
 ⟨_,.ref p,h,rfl,λH J=>.tup (.inr ⟨o,its,n,l,hc,hd,hz,hv⟩) (hr H J)⟩
end
def tyD:D->String
|.non=>"NoneType"
|.bl _=>"bool"
|.int _=>"int"
|.str _=>"str"
|.tup _=>"tuple"
|.lst _=>"list"
|.dct _ _=>"dict"
|.scr _=>"list"
|.exc _ _ _=>"?"
|.dcu _ _=>"?"
def isK (k T:String):Bool:=k == T||(k == "bool"&&T == "int")
structure Kit (K:W.Frag)(T:String):Prop where
 non:PySem.W.kitOne K (.type "NoneType") (.type T)=some (isK "NoneType" T)
 bl:PySem.W.kitOne K (.type "bool") (.type T)=some (isK "bool" T)
 int:PySem.W.kitOne K (.type "int") (.type T)=some (isK "int" T)
 str:PySem.W.kitOne K (.type "str") (.type T)=some (isK "str" T)
 tup:PySem.W.kitOne K (.type "tuple") (.type T)=some (isK "tuple" T)
 lst:PySem.W.kitOne K (.type "list") (.type T)=some (isK "list" T)
 dct:PySem.W.kitOne K (.type "dict") (.type T)=some (isK "dict" T)
def zku (K:W.Frag):List V->Hp->VK->Prop:=λxs H Q=>zmz K xs H Q\/∃a vs n k,xs = [.ref a,.ty n]/\SqT K H a vs/\PySem.W.kitOne K (.type "tuple") (.type n)=some k/\Q (.bl k) H
def zgS {X:Cx}:zcL X (.builtin "isinstance") (zku X.K):=by
 intro pins s Y H xs us Q I r h;rcases h with h|⟨a,vs,n,k,rfl,hs,e,q⟩
 .exact zla pins s Y H xs us Q I r h
 .obtain⟨u,w',rfl,r1,r2⟩:=zjf r;obtain rfl:w'=Value.type n:=r2;obtain rfl:u=Value.ref a:=r1;obtain⟨its,_,p,_⟩:=I.tuple hs;obtain⟨o,h1,h2,_⟩:=p;exact waF PySem.W.kitx_tuple I.kIn ⟨o,h1,h2⟩ e (λz=>nomatch z) λtk=>⟨.bl k,H,I.tok _,rfl,q⟩
def isD (T:String):D->Option D
|.scr _=>none
|.exc _ _ _=>none
|.dcu _ _=>none
|d=>some (.bl (isK (tyD d) T))
def zoi (T:String)(f:FE):FE:=λZ=>(f Z).bind (isD T)
def zcc {T:String}{Ts:Str}{X:Cx}{a:Expr}{fa:FE}{p q pos:Pos}(KT:Kit X.K T)(B:Blt X.mg)(hv:bootBuiltins Ts=some (.type T))(ha:VW X a fa)(hBT:Ts∈zbL:=by decide +kernel)(hgT:Gl X Ts:=by rfl)(hnT:Ts≠"__name__":=by decide)(hdT:(Ts == ("__debug__" : Str))=false:=by decide)(hg:Gl X "isinstance":=by rfl)
 (h1:starEach [a,.Name Ts q] X.env=(false,eval a X.env)::starEach [.Name Ts q] X.env:=by rfl) (h2:starEach [.Name Ts q] X.env=(false,eval (.Name Ts q) X.env)::starEach [] X.env:=by rfl)
 (hpl:(backTo pos (starEach [.Name Ts q] X.env)).any (·.1)=false:=by rfl):VE X (.Call (.Name "isinstance" p) [a,.Name Ts q] [] pos) (zoi T fa):=by
 obtain⟨t,pa,g⟩:=ha;refine⟨_,pb zgS B boot_isinstance (zbu pa (zbu (ptn (v:=.ty T) (u:=.type T) B hv rfl hBT hgT hnT hdT) zdg h2) h1) (by decide +kernel) hg (by decide) (by decide) h1 hpl,?_⟩;intro Hz Jz O Z Y H J d Q s e w;obtain⟨x,e1,e⟩:=bind_some e;refine g Hz Jz O Z Y H J x _ s e1 λv H1 J1 u1 r1=>?_
 show zku X.K [v,.ty T] H1 Q
 cases x with
|scr p=>cases e
|exc _ _ _=>cases e
|dcu _ _=>cases e
|non=>cases e;rw[r1.non];exact .inl ⟨_,_,_,_,rfl,.non,KT.non,w _ H1 J1 u1 (.bl _)⟩
|bl b=>cases e;rw[r1.bl];exact .inl ⟨_,_,_,_,rfl,.bl b,KT.bl,w _ H1 J1 u1 (.bl _)⟩
|int b=>cases e;rw[r1.int];exact .inl ⟨_,_,_,_,rfl,.int b,KT.int,w _ H1 J1 u1 (.bl _)⟩
|str b=>cases e;rw[r1.str];exact .inl ⟨_,_,_,_,rfl,.str b,KT.str,w _ H1 J1 u1 (.bl _)⟩
|tup ds=>cases e;obtain⟨a,vs,rfl,h1,_⟩:=r1.tup;exact .inr ⟨a,vs,T,_,rfl,h1,KT.tup,w _ H1 J1 u1 (.bl _)⟩
|lst ds=>cases e;obtain⟨a,vs,rfl,h1,_⟩:=r1.lst;exact .inl ⟨_,_,_,_,rfl,.lst h1,KT.lst,w _ H1 J1 u1 (.bl _)⟩
|dct ks ds=>cases e;obtain⟨a,kvs,vs,rfl,h1,_⟩:=r1.dct;exact .inl ⟨_,_,_,_,rfl,.dK h1,KT.dct,w _ H1 J1 u1 (.bl _)⟩
section
variable {K:W.Frag}{H H':Hp}{J J':Addr->Prop}
end
abbrev FX:=En->Option (D×En)
section
variable (K:W.Frag)
end
section
variable {X:Cx}{K:W.Frag}{a b c e:Expr}{es rest:List Expr}{fa fb fc:FX}{fe:FE}{ft fu:FTX}{fl:FAX}{fr:FR}{pos p p2:Pos}
def x2 (F:D->D->Option D)(f g:FX):FX:=λZ=>(f Z).bind λq=>(g q.2).bind λr=>(F q.1 r.1).bind λd=>some (d,r.2)
def x1 (F:D->Option D)(f:FX):FX:=λZ=>(f Z).bind λq=>(F q.1).bind λd=>some (d,q.2)
end
section
variable {X:Cx}{K:W.Frag}{H H' H1 H2 Hz:Hp}{J J' J1 J2 Jz:Addr->Prop}{Z Z':En}{Y:L2.St}{O:Pr}
end
section
variable {P:Program}{w:World}{K:W.Frag}{mg:Str->Option Value}{base:Heap}
end
section
variable {X:Cx}{K:W.Frag}{e:Expr}{es:List Expr}{fa:FX}{fl:FAG}{pos p:Pos}{i:Nat}
end
section
variable {X:Cx}{K:W.Frag}{a b c e:Expr}{es:List Expr}{fa fb:FX}{fe:FE}{ft:FTX}{fl:FAX}{fr:FR}{g g2:FS}{pos p:Pos}
end
section
variable {X:Cx}{K:W.Frag}{fi fl:FAX}{fa:FX}{g:FS}{pos p:Pos}{ft:FT}{tg a b:Expr}
def keyD:D->Option Key
|.int i=>some (.inl i)
|.str x=>some (.inr x)
|_=>none
def zmT {H:Hp}{J:Addr->Prop}{v:V}{d:D}{k:Key}(r:RpW K H J v d)(h:keyD d=some k):v=kV k:=by
 cases d with
|int i=>cases h;exact r.int
|str x=>cases h;exact r.str
|_=>cases h
end
section
variable {X:Cx}{K:W.Frag}{a b c e:Expr}{es:List Expr}{fa fb:FX}{fe fk fv:FE}{fl:FA}{pos p p2:Pos}
end
section
variable {X:Cx}{K:W.Frag}{elt iter tg:Expr}{ifs:List Expr}{scope:Scope}{pos:Pos}{NC:List Str}
end
section
variable {X:Cx}{K:W.Frag}{H H' H1 H2 Hz:Hp}{J J' J1 J2 Jz:Addr->Prop}{Z Z' Z2:En}{Y Y2:L2.St}{O:Pr}{fp:Nat->List Addr}
end
section
variable {X:Cx}{K:W.Frag}
end
section
variable {X:Cx}{K:W.Frag}{a b c e:Expr}{es:List Expr}{fa fb:FX}{fe fk fv:FE}{fl:FA}{fr:FR}{pos p p2:Pos}
end
section
variable {X:Cx}{K:W.Frag}{a b c e:Expr}{es:List Expr}{fa fb:FX}{fe fk fv:FE}{fl:FA}{fr:FR}{pos p p2:Pos}
end
section
variable {X:Cx}{K:W.Frag}{fa:FX}{fr:FR}
end
def zlq (Z:En)(i:Nat):En:=if isPar (Z[i]?)=false then Z.set i .un else Z
def dropE (is:List Nat)(Z:En):En:=is.foldl zlq Z
theorem ST.dropE {K:W.Frag}{Hz H:Hp}{Jz J:Addr->Prop}{O:Pr}{Y:L2.St}:∀(is:List Nat) {Z:En},ST K Hz Jz O Z Y H J->ST K Hz Jz O (dropE is Z) Y H J
|[],_,s=>s
|i::is,Z,s=>by
   refine ST.dropE is (Z:=zlq Z i) ?_;unfold zlq;by_cases h:isPar (Z[i]?)=false
   .rw[if_pos h];exact s.drop λn d z=>by rw[z] at h;cases h
   .rw[if_neg h];exact s
def zlr (is:List Nat)(g:FS):FS:=λZ=>g (dropE is Z)
section
variable {X:Cx}{sts:List Stmt}{g:FS}
def zbO (is:List Nat)(h:VSs X sts g):VSs X sts (zlr is g):=by
 obtain⟨t,p,q⟩:=h;exact⟨t,p,λHz Jz O Z Y H J o E s e w=>q Hz Jz O _ Y H J o E (s.dropE is) e w⟩
end
def EvS {R A:Type}(k:Out->Option R)(φ:A->Option R)(g:FS)(Z:En)(a:Option A):Prop:=∀r,a.bind φ=some r->(g Z).bind k=some r
def Step {α:Type}(g:FS)(Z:En)(x:Option α)(Z':α->En):Prop:=∀d,x=some d->g Z=some (.nx (Z' d))
def okS (i:Nat)(Z:En):Bool:=decide (i<Z.length) && !isPar (Z[i]?)
def ze0 {i:Nat}{Z:En}(h:okS i Z=true):i<Z.length/\isPar (Z[i]?)=false:=by
 unfold okS at h;simpa using h
section
variable {R A α S:Type}{k:Out->Option R}{φ:A->Option R}{g g2 a b:FS}{Z:En}{x:Option α}{Z':α->En}{c:FT}{e:FE}{fl:FA}
def zaj {β γ:Type}{x:Option β}{f:β->Option γ}{r:γ}(h:x.bind f=some r):∃y,x=some y/\f y=some r:=by
 cases x with
|none=>cases h
|some y=>exact⟨y,rfl,h⟩
def zar {K:α->Option A}(s:Step g Z x Z')(h:∀d,EvS k φ g2 (Z' d) (K d)):EvS k φ (gSeq g g2) Z (x.bind K):=λr e=>by
 obtain⟨y,e,e2⟩:=zaj e;obtain⟨d,e0,e⟩:=zaj e;unfold gSeq;rw[s d e0];exact h d r (by rw[e];exact e2)
def zmU {K:α->Option A}(s:Step g Z x Z')(h:∀d r,(K d).bind φ=some r->k (.nx (Z' d))=some r):EvS k φ g Z (x.bind K):=λr e=>by
 obtain⟨y,e,e2⟩:=zaj e;obtain⟨d,e0,e⟩:=zaj e;rw[s d e0];exact h d r (by rw[e];exact e2)
def zbw {a:Option A}(h:∀r,a.bind φ=some r->k (.nx Z)=some r):EvS k φ gNx Z a:=λr e=>h r e
def zaM {a:Option A}(h:EvS k φ g Z a):EvS k φ (gSeq gNx g) Z a:=h
def zmV (i:Nat){a:Option A}(h:EvS k φ g (frzE i Z) a):EvS k φ (λZ=>g (frzE i Z)) Z a:=h
def zbX (is:List Nat){a:Option A}(h:EvS k φ g (dropE is Z) a):EvS k φ (zlr is g) Z a:=h
def zoj {a' b':Option A}(h1:EvS k φ a Z a')(h2:EvS k φ b Z b'):EvS k φ (gIf c a b) Z ((c Z).bind λt=>if t then a' else b'):=λr e=>by
 obtain⟨y,e,e2⟩:=zaj e;obtain⟨t,e0,e⟩:=zaj e;unfold gIf;rw[e0,zOB];cases t with
|true=>exact h1 r (by rw[if_pos rfl] at e;rw[e];exact e2)
|false=>exact h2 r (by rw[if_neg (by decide)] at e;rw[e];exact e2)
def kx (k:Out->Option R):Out->Option R
|.nx _=>none
|o=>k o
def zkv {r:R}(h:(a Z).bind (kx k)=some r):(gSeq a g Z).bind k=some r:=by
 unfold gSeq;cases z:a Z with
|none=>rw[z] at h;cases h
|some o=>rw[z] at h;cases o <;> first|cases h|exact h
def zav {a' b':Option A}(h1:EvS (kx k) φ a Z a')(h2:EvS k φ (gSeq b g) Z b'):EvS k φ (gSeq (gIf c a b) g) Z ((c Z).bind λt=>if t then a' else b'):=λr e=>by
 obtain⟨y,e,e2⟩:=zaj e;obtain⟨t,e0,e⟩:=zaj e;cases t with
|true=>
   have:=zkv (g:=g) (h1 r (by rw[if_pos rfl] at e;rw[e];exact e2))
   unfold gSeq gIf at *;rw[e0];exact this
|false=>
   have:=h2 r (by rw[if_neg (by decide)] at e;rw[e];exact e2)
   unfold gSeq gIf at *;rw[e0];exact this
def zgl {s t:FS}{a':Option A}(h:EvS k φ (gSeq s (gSeq t g)) Z a'):EvS k φ (gSeq (gSeq s t) g) Z a':=λr e=>by
 have:=h r e
 unfold gSeq at *;rw[<-this];cases s Z with
|none=>rfl
|some o=>cases o <;> rfl
def zc4 {a':Option A}(h:a'=none):EvS k φ gNo Z a':=λr e=>by rw[h] at e;cases e
def zal {K:D->Option A}(h:∀d r,(K d).bind φ=some r->k (.ret (.told d) Z)=some r):EvS k φ (gRet e) Z ((e Z).bind K):=λr z=>by
 obtain⟨y,z,z2⟩:=zaj z;obtain⟨d,e0,z⟩:=zaj z;unfold gRet;rw[e0];exact h d r (by rw[z];exact z2)
def zay {i:Nat}(h:okS i Z=true):Step (gSet i e) Z (e Z) λd=>Z.set i (.val d):=λd z=>by
 unfold gSet;rw[z,zOB,if_pos (ze0 h)]
def zmW {i:Nat}(h:okS i Z=true):Step (gOwn i fl) Z (fl Z) λds=>Z.set i (.own 1 (.lst ds)):=λd z=>by
 unfold gOwn;rw[z,zOB,if_pos (ze0 h)]
def appL (xs:List D)(d:D):Option (List D):=if xs.length<lim then some (xs++[d]) else none
def extL (xs:List D)(d:D):Option (List D):=match d with|.lst es=>if(xs++es).length<=lim then some (xs++es) else none|_=>none
def zmX {i:Nat}{xs:List D}(h:ownD (Z[i]?)=some (1,.lst xs)):Step (gApp i e) Z ((e Z).bind (appL xs)) λys=>setO Z i (.lst ys):=λd z=>by
 obtain⟨y,e0,z⟩:=zaj z;unfold gApp;rw[e0,zOB,h];unfold appL at z;split at z
 .rename_i q;cases z;exact if_pos q
 .cases z
def zmY {i:Nat}{xs:List D}(h:ownD (Z[i]?)=some (1,.lst xs)):Step (gExt i e) Z ((e Z).bind (extL xs)) λys=>setO Z i (.lst ys):=λd z=>by
 obtain⟨y,e0,z⟩:=zaj z;unfold gExt;rw[e0,zOB,h];unfold extL at z;cases y <;> try cases z
 rename_i es
 have z:(if(xs++es).length<=lim then some (xs++es) else none)=some d:=z
 split at z
 .rename_i q;cases z;exact if_pos q
 .cases z
def k0:Out->Option En
|.nx Z=>some Z
|_=>none
def kL:Out->Option En
|.nx Z=>some Z
|.ct Z=>some Z
|_=>none
def zls {emb:S->En}{a' b':Option S}(h1:EvS k0 (λs=>some (emb s)) a Z a')(h2:EvS k0 (λs=>some (emb s)) b Z b'):Step (gIf c a b) Z ((c Z).bind λt=>if t then a' else b') emb:=λs z=>by
 have:=zoj (c:=c) h1 h2 (emb s) (by rw[z];rfl)
 obtain⟨o,e1,e2⟩:=zaj this;rw[e1];cases o <;> cases e2
 rfl
end
def Tg {α:Type}(tg:FG)(d:D)(Z:En)(x:Option α)(Z':α->En):Prop:=∀y,x=some y->tg d Z=some (Z' y)
section
variable {d:D}{Z:En}
def tg_n {i:Nat}(h:okS i Z=true):Tg (gN i) d Z (some d) λd=>Z.set i (.val d):=λy e=>by
 cases e;unfold gN;rw[if_pos (ze0 h)]
def un2:D->Option (D×D)
|.tup [a,b]=>some (a,b)
|_=>none
def zjC {d:D}{y:D×D}(h:un2 d=some y):d=.tup [y.1,y.2]:=by
 unfold un2 at h;split at h
 .cases h;rfl
 .cases h
def ze1 {i:Nat}{d:D}{Z:En}(h:okS i Z=true):gN i d Z=some (Z.set i (.val d)):=by unfold gN;rw[if_pos (ze0 h)]
def tg_2 {i j:Nat}(h1:okS i Z=true)(h2:∀x,okS j (Z.set i (.val x))=true):Tg (gT 2 (gCons' (gN i) (gCons' (gN j) gNil'))) d Z (un2 d) λy=>(Z.set i (.val y.1)).set j (.val y.2):=λy e=>by
 rw[zjC e];show((gN i y.1 Z).bind λZ1=>(gN j y.2 Z1).bind λZ2=>gNil' [] Z2)=_
 rw[ze1 h1,zOB,ze1 (h2 _)];rfl
def ze2 {α:Type}{e:FE}{tg:FG}{x:D->Option α}{Z':α->En}(h:∀d,Tg tg d Z (x d) Z'):Step (gAsg e tg) Z ((e Z).bind x) Z':=λy z=>by
 obtain⟨d,e0,z⟩:=zaj z;unfold gAsg;rw[e0,zOB,h d y z];rfl
end
def zcj {S:Type}(f:S->D->Option S):S->List D->Option S
|s,[]=>some s
|s,d::ds=>(f s d).bind λs=>zcj f s ds
def zkw {α S:Type}{Z:En}{fi:FA}{tg:FG}{b:FS}{x:D->Option α}{emb:S->En}{Z1:S->α->En}{step:S->α->Option S}{s0:S}(h0:emb s0=Z)(ht:∀s d,Tg tg d (emb s) (x d) (Z1 s))(hb:∀s y,EvS kL (λs=>some (emb s)) b (Z1 s y) (step s y)) :
 Step (gFor fi tg b) Z ((fi Z).bind (zcj (λs d=>(x d).bind (step s)) s0)) emb:=λs z=>by
 have key:∀(ds:List D) (s0:S),zcj (λs d=>(x d).bind (step s)) s0 ds=some s->forL tg b ds (emb s0)=some (.nx (emb s)):=by
  intro ds;induction ds with
 |nil=>intro s0 q;cases q;rfl
 |cons d ds ih=>
    intro s0 q;obtain⟨s1,e1,q1⟩:=zaj q;obtain⟨y,e2,e5⟩:=zaj e1;have hb1:=hb s0 y (emb s1) (by rw[e5];rfl)
    obtain⟨o,e3,e4⟩:=zaj hb1;unfold forL;rw[ht s0 d y e2,zOB,e3,zOB];cases o <;> cases e4 <;> exact ih _ q1
 obtain⟨ds,e0,z1⟩:=zaj z;unfold gFor;rw[e0,zOB,<-h0];exact key ds s0 z1
inductive Fl (S A:Type) where
|nx (s:S)|bk (s:S)|ret (a:A)
def zc5 {S A:Type}(f:S->D->Option (Fl S A)):S->List D->Option (Fl S A)
|s,[]=>some (.nx s)
|s,d::ds=>(f s d).bind λo=>match o with
  |.nx s=>zc5 f s ds
  |.bk s=>some (.nx s)
  |.ret a=>some (.ret a)
def kR {R:Type}(k:Out->Option R):Out->Option (Fl En R)
|.nx Z=>some (.nx Z)
|.ct Z=>some (.nx Z)
|.bk Z=>some (.bk Z)
|.ret v Z=>(k (.ret v Z)).map .ret
def fR {S A R:Type}(φ:A->Option R)(emb:S->En):Fl S A->Option (Fl En R)
|.nx s=>some (.nx (emb s))
|.bk s=>some (.bk (emb s))
|.ret a=>(φ a).map .ret
def zmZ {α S A R:Type}{k:Out->Option R}{φ:A->Option R}{Z:En}{fi:FA}{tg:FG}{b g:FS}{x:D->Option α}{emb:S->En}{Z1:S->α->En}{step:S->α->Option (Fl S A)}{K:S->Option A}{s0:S}(h0:emb s0=Z)(ht:∀s d,Tg tg d (emb s) (x d) (Z1 s))(hb:∀s y,EvS (kR k) (fR φ emb) b (Z1 s y) (step s y))(hk:∀s,EvS k φ g (emb s) (K s)) :
 EvS k φ (gSeq (gFor fi tg b) g) Z ((fi Z).bind λds=>(zc5 (λs d=>(x d).bind (step s)) s0 ds).bind λo=>match o with|.nx s=>K s|.bk s=>K s|.ret a=>some a):=λr z=>by
 have key:∀(ds:List D) (s0:S) (v:A) (o:Fl S A),zc5 (λs d=>(x d).bind (step s)) s0 ds=some o->(match o with|.nx s=>K s|.bk s=>K s|.ret a=>some a)=some v->φ v=some r->((forL tg b ds (emb s0)).bind λo=>match o with|.nx Z'=>g Z'|.bk Z'=>some (.bk Z')|.ct Z'=>some (.ct Z')|.ret d Z'=>some (.ret d Z')).bind k=some r:=by
  intro ds;induction ds with
 |nil=>
    intro s0 v o q1 q2 q3;cases q1;exact hk s0 r (by rw[show K s0=some v from q2];exact q3)
 |cons d ds ih=>
    intro s0 v o q1 q2 q3;obtain⟨o1,e1,q4⟩:=zaj q1;obtain⟨y,e2,e5⟩:=zaj e1;unfold forL;rw[ht s0 d y e2,zOB];cases o1 with
   |nx s1=>
      have hb1:=hb s0 y (.nx (emb s1)) (by rw[e5];rfl)
      obtain⟨ob,e3,e4⟩:=zaj hb1;rw[e3,zOB];have ih:=ih s1 v o q4 q2 q3
      cases ob with
     |nx Z2=>cases e4;exact ih
     |ct Z2=>cases e4;exact ih
     |bk Z2=>cases e4
     |ret v Z2=>
        have e4:(k (.ret v Z2)).map Fl.ret=some (Fl.nx (emb s1)):=e4
        cases h:k (.ret v Z2) <;> rw[h] at e4 <;> cases e4
   |bk s1=>
      cases q4;have q2:K s1=some v:=q2
      have hb1:=hb s0 y (.bk (emb s1)) (by rw[e5];rfl)
      obtain⟨ob,e3,e4⟩:=zaj hb1;rw[e3,zOB];cases ob with
     |nx Z2=>cases e4
     |ct Z2=>cases e4
     |bk Z2=>cases e4;exact hk s1 r (by rw[q2];exact q3)
     |ret v Z2=>
        have e4:(k (.ret v Z2)).map Fl.ret=some (Fl.bk (emb s1)):=e4
        cases h:k (.ret v Z2) <;> rw[h] at e4 <;> cases e4
   |ret a=>
      cases q4;cases q2;have hb1:=hb s0 y (.ret r) (by rw[e5];show(φ _).map Fl.ret=_;rw[q3];rfl)
      obtain⟨ob,e3,e4⟩:=zaj hb1;rw[e3,zOB];cases ob with
     |nx Z2=>cases e4
     |ct Z2=>cases e4
     |bk Z2=>cases e4
     |ret v Z2=>
        have e4:(k (.ret v Z2)).map Fl.ret=some (Fl.ret r):=e4
        cases h:k (.ret v Z2) with
       |none=>rw[h] at e4;cases e4
       |some r'=>rw[h] at e4;cases e4;exact h
 obtain⟨v,z1,z2⟩:=zaj z;obtain⟨ds,e0,z3⟩:=zaj z1;obtain⟨o,z4,z5⟩:=zaj z3;unfold gSeq gFor;rw[e0,zOB,<-h0];exact key ds s0 v o z4 z5 z2
def aC (x:Option D)(xs:Option (List D)):Option (List D):=x.bind λd=>xs.bind λds=>some (d::ds)
def aN:Option (List D):=some []
def zjD (f:D->Option (Option D))(ds:List D):Option (List D):=(zeZ f ds).bind λout=>if out.length<=lim then some out else none
def zok (l:List D):Option (List D):=(a1Tup l).bind λds=>some (zeX ds)
def rngA (l:List D):Option (List D):=(a1Int l).bind λj=>if -1000000<=j/\j<=1000000 then some (zb3 0 j.toNat) else none
def mkLs (ds:List D):Option (List D):=if ds.length<=lim then some ds else none
def flK {S A:Type}(K:S->Option A):Fl S A->Option A
|.nx s=>K s
|.bk s=>K s
|.ret a=>some a
section
variable {α S A R:Type}{k:Out->Option R}{φ:A->Option R}{Z:En}{fi:FA}{b g:FS}{emb:S->En}{s0:S}
def zh9 {i:Nat}{step:S->D->Option S}(h0:emb s0=Z)(hi:∀s,okS i (emb s)=true)(hb:∀s d,EvS kL (λs=>some (emb s)) b ((emb s).set i (.val d)) (step s d)) :
 Step (gFor fi (gN i) b) Z ((fi Z).bind (zcj step s0)) emb:=
 zkw (x:=λd=>some d) (step:=step) h0 (λs d=>tg_n (hi s)) hb
def zlt {i j:Nat}{step:S->D×D->Option S}(h0:emb s0=Z)(hi:∀s,okS i (emb s)=true)(hj:∀s x,okS j ((emb s).set i (.val x))=true)(hb:∀s y,EvS kL (λs=>some (emb s)) b (((emb s).set i (.val y.1)).set j (.val y.2)) (step s y)) :
 Step (gFor fi (gT 2 (gCons' (gN i) (gCons' (gN j) gNil'))) b) Z ((fi Z).bind (zcj (λs d=>(un2 d).bind (step s)) s0)) emb:=
 zkw (x:=un2) (step:=step) h0 (λs d=>tg_2 (hi s) (hj s)) hb
def zc6 {i:Nat}{step:S->D->Option (Fl S A)}{K:S->Option A}(h0:emb s0=Z)(hi:∀s,okS i (emb s)=true)(hb:∀s d,EvS (kR k) (fR φ emb) b ((emb s).set i (.val d)) (step s d))(hk:∀s,EvS k φ g (emb s) (K s)) :
 EvS k φ (gSeq (gFor fi (gN i) b) g) Z ((fi Z).bind λds=>(zc5 step s0 ds).bind (flK K)):=λr z=>
 zmZ (x:=λd=>some d) (step:=step) h0 (λs d=>tg_n (hi s)) hb hk r (by
  rw[<-z];congr 1)
def zm0 {c:FT}{a:FS}{a' b':Option A}(h1:EvS k φ (gSeq a g) Z a')(h2:EvS k φ (gSeq b g) Z b'):EvS k φ (gSeq (gIf c a b) g) Z ((c Z).bind λt=>if t then a' else b'):=λr e=>by
 obtain⟨y,e,e2⟩:=zaj e;obtain⟨t,e0,e⟩:=zaj e;cases t with
|true=>
   have:=h1 r (by rw[if_pos rfl] at e;rw[e];exact e2)
   unfold gSeq gIf at *;rw[e0];exact this
|false=>
   have:=h2 r (by rw[if_neg (by decide)] at e;rw[e];exact e2)
   unfold gSeq gIf at *;rw[e0];exact this
end
def kF:Out->Option D
|.ret (.told d) _=>some d
|.ret (.new _ d) _=>some d
|.nx _=>some .non
|_=>none
section
variable {P:Program}{w:World}{K:W.Frag}{mg:Str->Option Value}{base:Heap}
def zb4 {x qual:Str}{st:Stmt}{f:Addr}{fd:FuncData}{N ps:List Str}{k:Nat}{c:List D->Option D}(F:Fun K x qual st f fd)(S:FnScope N ps (zad st))(hlen:∀ds d,c ds=some d->ds.length=ps.length)
 (hbody:∀(cdv:Value) (A:Around) (outer:List Env) (s:Shared) (H:Hp) (E:XK),Room k (A.deeper (envOfC qual (zad st) s.heap.objs.size f cdv))->∃g,VSs (cxOf CX0 P w K mg base N qual (zad st) f cdv A outer s H E).nox (zaT st) g/\∀ds,ds.length=ps.length->EvS kF some g (ds.map SV.val++List.replicate (N.length - ps.length) .un) (c ds)):FnOk P w K mg base CX0 (k+1) f fd ps (spF K c):=by
 refine F.ok S (λvs H Q E h=>?_) (λcdv A outer s H vs Q E hr h=>?_)
 .obtain⟨J,ds,d,ja,r,e,w⟩:=h;rw[r.length];exact hlen ds d e
 .obtain⟨J,ds,d,ja,r,e,w⟩:=h;have hl:=hlen ds d e
  obtain⟨g,⟨t,p,q⟩,ev⟩:=hbody cdv A outer s H E hr;refine⟨t,p,?_⟩;have e:=ev ds hl d (by rw[e];rfl)
  rw[<-hl] at e;have s0:=zdn (N:=N) ja r
  cases z:g (ds.map SV.val++List.replicate (N.length - ds.length) .un) with
 |none=>rw[z] at e;cases e
 |some o=>
    rw[z] at e;refine q H J Pr.no _ _ H J o _ s0 z ?_;cases o with
   |nx Z'=>cases e;exact λY' H' J' s' k'=>w .non H' J' s'.out .non
   |ret r Z'=>
      cases r with
     |told d'=>cases e;exact λv Y' H' J' s' r'=>w v H' J' s'.out r'
     |new n d'=>
        cases e;rintro v Y' H' J' s' ⟨B,fp,_,ru,_,hb,_⟩;have u:=s'.out
        refine w v H' (λb=>J' b\/b∈B) ⟨u.same,λa h=>.inl (u.jj a h),λa h=>?_,λa h=>?_⟩ (ru.rp (λ_ h=>.inl h) (λb hb=>.inr hb))
        .rcases h with h|h
         .exact u.jn a h
         .exact .inr (hb a h).2
        .rcases h with h|h
         .exact u.ja a h
         .obtain⟨o,e,_⟩:=ru.some a h;rw[e];simp
   |bk _=>cases e
   |ct _=>cases e
end
def c0 (b:Option D):List D->Option D|[]=>b|_=>none
def c1 (b:D->Option D):List D->Option D|[x]=>b x|_=>none
def c2 (b:D->D->Option D):List D->Option D|[x,y]=>b x y|_=>none
def c3 (b:D->D->D->Option D):List D->Option D|[x,y,z]=>b x y z|_=>none
def c4 (b:D->D->D->D->Option D):List D->Option D|[x,y,z,u]=>b x y z u|_=>none
def c5 (b:D->D->D->D->D->Option D):List D->Option D|[x,y,z,u,v]=>b x y z u v|_=>none
def c6 (b:D->D->D->D->D->D->Option D):List D->Option D|[x,y,z,u,v,t]=>b x y z u v t|_=>none
def c1_len {b:D->Option D}:∀ds d,c1 b ds=some d->ds.length=1:=λds d h=>by unfold c1 at h;split at h;rfl;cases h
def c2_len {b:D->D->Option D}:∀ds d,c2 b ds=some d->ds.length=2:=λds d h=>by unfold c2 at h;split at h;rfl;cases h
def zm1 {b:D->D->D->Option D}:∀ds d,c3 b ds=some d->ds.length=3:=λds d h=>by unfold c3 at h;split at h;rfl;cases h
def c4_len {b:D->D->D->D->Option D}:∀ds d,c4 b ds=some d->ds.length=4:=λds d h=>by unfold c4 at h;split at h;rfl;cases h
section
variable {R:Type}{k:Out->Option R}{φ:D->Option R}{g:FS}{n:List SV}
def zdk {b:D->Option D}(h:∀x,EvS k φ g (.val x::n) (b x)):∀ds:List D,ds.length=1->EvS k φ g (ds.map SV.val++n) (c1 b ds)
|[x],_=>h x
def zck {b:D->D->Option D}(h:∀x y,EvS k φ g (.val x::.val y::n) (b x y)):∀ds:List D,ds.length=2->EvS k φ g (ds.map SV.val++n) (c2 b ds)
|[x,y],_=>h x y
def zol {b:D->D->D->Option D}(h:∀x y z,EvS k φ g (.val x::.val y::.val z::n) (b x y z)):∀ds:List D,ds.length=3->EvS k φ g (ds.map SV.val++n) (c3 b ds)
|[x,y,z],_=>h x y z
def zlu {b:D->D->D->D->Option D}(h:∀x y z u,EvS k φ g (.val x::.val y::.val z::.val u::n) (b x y z u)):∀ds:List D,ds.length=4->EvS k φ g (ds.map SV.val++n) (c4 b ds)
|[x,y,z,u],_=>h x y z u
end
mutual
inductive Rh (h:Heap):Value->D->Prop
|non:Rh h .none .non
|bl (b:Bool):Rh h (.bool b) (.bl b)
|int (i:Int) (t:Tok):Rh h (.int i t) (.int i)
|str (x:Str) (t:Tok):Rh h (.str x t) (.str x)
|tup {l:Addr}{us:List Value}{ds:List D}(p:h.IsTuple l us.toArray) (r:RhL h us ds):Rh h (.ref l) (.tup ds)
|lst {l:Addr}{us:List Value}{ds:List D}(p:h.IsList l us.toArray) (r:RhL h us ds):Rh h (.ref l) (.lst ds)
inductive RhL (h:Heap):List Value->List D->Prop
|nil:RhL h [] []
|cons {u:Value}{d:D}{us:List Value}{ds:List D}(a:Rh h u d) (t:RhL h us ds):RhL h (u::us) (d::ds)
end
mutual
def ndD:D->Bool
|.dct _ _=>false
|.scr _=>false
|.exc _ _ _=>false
|.dcu _ _=>false
|.tup ds=>ndL ds
|.lst ds=>ndL ds
|_=>true
def ndL:List D->Bool
|[]=>true
|d::ds=>ndD d&&ndL ds
end
mutual
def depD:D->Nat
|.tup ds=>depL ds+1
|.lst ds=>depL ds+1
|_=>0
def depL:List D->Nat
|[]=>0
|d::ds=>max (depD d) (depL ds)
end
mutual
def eqOk:D->D->Bool
|.non,.non=>true
|.non,.int _=>true
|.non,.str _=>true
|.int _,.non=>true
|.str _,.non=>true
|.int _,.int _=>true
|.str _,.str _=>true
|.int _,.str _=>true
|.str _,.int _=>true
|.bl _,.bl _=>true
|.tup xs,.tup ys=>zeu xs ys
|.lst xs,.lst ys=>zeu xs ys
|.non,.tup _=>true
|.tup _,.non=>true
|.non,.lst _=>true
|.lst _,.non=>true
|_,_=>false
def zeu:List D->List D->Bool
|x::xs,y::ys=>eqOk x y&&zeu xs ys
|_,_=>true
end
section
variable {X:Cx}{pins:List (Addr×Obj)}{Y:L2.St}{H:Hp}{J:Addr->Prop}{s:Shared}
mutual
theorem Rp.rh (I:Inv X pins Y H s){v:V}{d:D}:Rp X.K H J v d->ndD d=true->∀{u:Value},RelV v u->Rh s.heap u d
|.non,_,_,q=>by cases q;exact .non
|.bl b,_,_,q=>by cases q;exact .bl b
|.int i,_,_,q=>by obtain⟨t,rfl⟩:=q;exact .int i t
|.str x,_,_,q=>by obtain⟨t,rfl⟩:=q;exact .str x t
|.tup h r,n,_,q=>by
   cases q;obtain⟨its,rv,pt,_⟩:=I.tuple h;exact .tup pt (RpL.rh I r n rv)
|.lst h j r,n,_,q=>by
   cases q;obtain⟨its,rv,pt,_⟩:=I.list (SqL.of h);exact .lst pt.isList (RpL.rh I r n rv)
|.dct h j ek ev r,n,_,q=>by cases n
|.scr p,n,_,q=>by cases n
|.exc _ _,n,_,q=>by cases n
|.dcu h j ek ev r,n,_,q=>by cases n
theorem RpL.rh (I:Inv X pins Y H s){vs:List V}{ds:List D}:RpL X.K H J vs ds->ndL ds=true->∀{us:List Value},Vals vs us->RhL s.heap us ds
|.nil,_,us,q=>by cases q;exact .nil
|.cons h t,n,us,q=>by
   have n:(ndD _&&ndL _)=true:=n
   rw[waD] at n;cases q with
  |cons q1 q2=>exact .cons (Rp.rh I h n.1 q1) (RpL.rh I t n.2 q2)
end
theorem RpW.rh (I:Inv X pins Y H s){v:V}{d:D}(r:RpW X.K H J v d)(n:ndD d=true){u:Value}(q:RelV v u):Rh s.heap u d:=by
 rcases r with r|⟨A,r⟩
 .exact r.rh I n q
 .have w:RpW X.K H J v d:=.inr ⟨A,r⟩
  cases r with
 |lst h r=>
    obtain⟨p,vs,e,hp,rl⟩:=w.lst;cases e;cases q;obtain⟨its,rv,pt,_⟩:=I.list (SqL.of hp);exact .lst pt.isList (RpL.rh I rl n rv)
 |dct h ek ev r=>cases n
 |dcu h ek ev r=>cases n
end
section
variable {h:Heap}
theorem RhL.length:∀{us:List Value}{ds:List D},RhL h us ds->us.length=ds.length
|_,_,.nil=>rfl
|_,_,.cons _ t=>by simp[RhL.length t]
theorem RhL.get:∀{us:List Value}{ds:List D},RhL h us ds->∀(i:Nat) (hi:i<us.length) (hj:i<ds.length),Rh h us[i] ds[i]
|_,_,.cons a _,0,_,_=>a
|_,_,.cons _ t,i+1,hi,hj=>RhL.get t i (by simpa using hi) (by simpa using hj)
def zdA {l:Addr}{us ws:List Value}(p:h.IsTuple l us.toArray)(q:h.IsTuple l ws.toArray):us=ws:=by
 obtain⟨o,e,_,_,d⟩:=p;obtain⟨o',e',_,_,d'⟩:=q;rw[e] at e';cases e';rw[d] at d';injection d' with d1 _
 simpa using wbJ Array.toList d1
def zec {l:Addr}{us ws:List Value}(p:h.IsList l us.toArray)(q:h.IsList l ws.toArray):us=ws:=by
 obtain⟨o,e,_,_,d⟩:=p;obtain⟨o',e',_,_,d'⟩:=q;rw[e] at e';cases e';rw[d] at d';injection d' with d1 _
 simpa using wbJ Array.toList d1
def zcF {l:Addr}{us ws:Array Value}(p:h.IsTuple l us)(q:h.IsList l ws):False:=by
 obtain⟨o,e,c,_⟩:=p;obtain⟨o',e',c',_⟩:=q;rw[e] at e';cases e';rw[c] at c';simp at c'
mutual
theorem Rh.inj:∀{d e:D}{u:Value},Rh h u d->Rh h u e->d=e
|_,_,_,.non,q=>by cases q;rfl
|_,_,_,.bl b,q=>by cases q;rfl
|_,_,_,.int i t,q=>by cases q;rfl
|_,_,_,.str x t,q=>by cases q;rfl
|_,_,_,.tup p r,q=>by
   cases q with
  |tup p' r'=>cases zdA p p';rw[RhL.inj r r']
  |lst p' r'=>exact(zcF p p').elim
|_,_,_,.lst p r,q=>by
   cases q with
  |lst p' r'=>cases zec p p';rw[RhL.inj r r']
  |tup p' r'=>exact(zcF p' p).elim
theorem RhL.inj:∀{ds es:List D}{us:List Value},RhL h us ds->RhL h us es->ds=es
|_,_,_,.nil,q=>by cases q;rfl
|_,_,_,.cons a t,q=>by
   cases q with
  |cons a' t'=>rw[Rh.inj a a',RhL.inj t t']
end
end
theorem zdB:∀{xs ys:List D},zeu xs ys=true->∀(i:Nat) (hi:i<xs.length) (hj:i<ys.length),eqOk xs[i] ys[i]=true
|x::xs,y::ys,h,i,hi,hj=>by
   have h:(eqOk x y&&zeu xs ys)=true:=h
   rw[waD] at h;cases i with
  |zero=>exact h.1
  |succ i=>exact zdB h.2 i (by simpa using hi) (by simpa using hj)
theorem zev:∀{xs:List D}(i:Nat) (hi:i<xs.length),depD xs[i]<=depL xs
|x::xs,i,hi=>by
   cases i with
  |zero=>exact Nat.le_max_left _ _
  |succ i=>exact wam (zev i (by simpa using hi)) (Nat.le_max_right _ _)
def zbP (xs ys:List D):((List.range (min xs.length ys.length)).all (λj=>decide (xs[j]?=ys[j]?))&&xs.length == ys.length)=decide (xs=ys):=by
 rw[wbm];simp only[waD,waJ,wbY,decide_eq_true_eq,beq_iff_eq];constructor
 .rintro⟨a,b⟩;refine List.ext_getElem? λj=>?_
  by_cases hj:j<min xs.length ys.length
  .exact a j hj
  .rw[wbb (by omega),wbb (by omega)]
 .rintro rfl;exact⟨λ_ _=>rfl,rfl⟩
def zb5 {p:Prop}[Decidable p](h:¬p):false=decide p:=(wao h).symm
def zia {xs ys:List D}(j:Nat)(h1:j<xs.length)(h2:j<ys.length):decide (xs[j]=ys[j])=decide (xs[j]?=ys[j]?):=by
 rw[waw h1,waw h2];exact zaC ⟨λz=>by rw[z],λz=>waq z⟩
def zek (i j:Int):decide (D.int i=D.int j)=(i == j):=by rw[wca];exact zaC ⟨λz=>by cases z;rfl,λz=>by rw[z]⟩
def zel (i j:Str):decide (D.str i=D.str j)=(i == j):=by rw[wca];exact zaC ⟨λz=>by cases z;rfl,λz=>by rw[z]⟩
def zgc (i j:Bool):decide (D.bl i=D.bl j)=(i == j):=by rw[wca];exact zaC ⟨λz=>by cases z;rfl,λz=>by rw[z]⟩
section
variable {A:Around}{s:Shared}
def zgm {v:Value}{e:D}(hu:A.units<cLine)(rv:Rh s.heap v e)(ho:eqOk .non e=true):SeqAt.EqAt A s .none v (decide (D.non=e)):=by
 cases rv with
|non=>exact SeqAt.EqAt.same _
|bl b=>cases ho
|int i t=>rw[<-zb5 (λz=>by cases z)];exact SeqAt.EqAt.none_int _ _
|str x t=>rw[<-zb5 (λz=>by cases z)];exact SeqAt.EqAt.none_str _ _
|tup p r=>rw[<-zb5 (λz=>by cases z)];exact SeqAt.EqAt.none_tuple p hu
|lst p r=>rw[<-zb5 (λz=>by cases z)];exact SeqAt.EqAt.none_list p hu
def zib {v:Value}{e:D}{b:Bool}(rv:Rh s.heap v e)(ho:eqOk (.bl b) e=true):SeqAt.EqAt A s (.bool b) v (decide (D.bl b=e)):=by
 cases rv with
|bl c=>rw[zgc];exact SeqAt.EqAt.bool_bool _ _
|non=>cases ho
|int i t=>cases ho
|str x t=>cases ho
|tup p r=>cases ho
|lst p r=>cases ho
def zem {v:Value}{e:D}{b:Int}{u:Tok}(rv:Rh s.heap v e)(ho:eqOk (.int b) e=true):SeqAt.EqAt A s (.int b u) v (decide (D.int b=e)):=by
 cases rv with
|int i t=>rw[zek];exact SeqAt.EqAt.int_int _ _ _ _
|non=>rw[<-zb5 (λz=>by cases z)];exact SeqAt.EqAt.int_none _ _
|bl c=>cases ho
|str x t=>rw[<-zb5 (λz=>by cases z)];exact SeqAt.EqAt.int_str _ _ _ _
|tup p r=>cases ho
|lst p r=>cases ho
def zgn {v:Value}{e:D}{b:Str}{u:Tok}(rv:Rh s.heap v e)(ho:eqOk (.str b) e=true):SeqAt.EqAt A s (.str b u) v (decide (D.str b=e)):=by
 cases rv with
|str i t=>rw[zel];exact SeqAt.EqAt.str_str _ _ _ _
|non=>rw[<-zb5 (λz=>by cases z)];exact SeqAt.EqAt.str_none _ _
|bl c=>cases ho
|int x t=>rw[<-zb5 (λz=>by cases z)];exact SeqAt.EqAt.str_int _ _ _ _
|tup p r=>cases ho
|lst p r=>cases ho
def zm2 {l l':Addr}{us us':List Value}{ds ds':List D}(hu:A.units<cLine)(p:s.heap.IsTuple l us.toArray)(p':s.heap.IsTuple l' us'.toArray)(r:RhL s.heap us ds)(r':RhL s.heap us' ds')
 (he:∀j (h1:j<us.toArray.size) (h2:j<us'.toArray.size),SeqAt.EqAt A.in1 s us.toArray[j] us'.toArray[j] (decide (ds[j]?=ds'[j]?))):SeqAt.RcAt A s (.ref l) (.ref l') (decide (D.tup ds=D.tup ds')):=by
 have q:=SeqAt.RcAt.tuples p p' hu he
 rw[wac,wac,r.length,r'.length,zbP] at q;rw[zaC (show D.tup ds=D.tup ds'↔ds=ds' from⟨λz=>by cases z;rfl,λz=>by rw[z]⟩)];exact q
def zm3 {l l':Addr}{us us':List Value}{ds ds':List D}(hu:A.units<cLine)(p:s.heap.IsList l us.toArray)(p':s.heap.IsList l' us'.toArray)(r:RhL s.heap us ds)(r':RhL s.heap us' ds')
 (he:∀j (h1:j<us.toArray.size) (h2:j<us'.toArray.size),SeqAt.EqAt A.in1 s us.toArray[j] us'.toArray[j] (decide (ds[j]?=ds'[j]?))):SeqAt.RcAt A s (.ref l) (.ref l') (decide (D.lst ds=D.lst ds')):=by
 rw[zaC (show D.lst ds=D.lst ds'↔ds=ds' from⟨λz=>by cases z;rfl,λz=>by rw[z]⟩)];by_cases hz:ds.length=ds'.length
 .have hsz:us.toArray.size=us'.toArray.size:=by simp only[wac];rw[r.length,r'.length,hz]
  have q:=SeqAt.RcAt.lists p p' hsz hu he
  have e1:=zbP ds ds'
  rw[hz,Nat.min_self,beq_self_eq_true,Bool.and_true,<-hz] at e1;rw[wac,r.length,e1] at q;exact q
 .have q:=SeqAt.RcAt.lists_lengths p p' (by simp only[wac,r.length,r'.length];simpa using hz) hu
  rw[wao (λz=>hz (by rw[z]))];exact q
end
def zkx:∀(n:Nat) {A:Around}{s:Shared}{u v:Value}{d e:D},depD d<=n->A.units+n<cLine->Rh s.heap u d->Rh s.heap v e->eqOk d e=true->SeqAt.EqAt A s u v (decide (d=e)):=by
 intro n;induction n with
|zero=>
   intro A s u v d e hn hu ru rv ho;cases ru with
  |non=>exact zgm (by omega) rv ho
  |bl b=>exact zib rv ho
  |int i t=>exact zem rv ho
  |str x t=>exact zgn rv ho
  |tup p r=>exact absurd hn (Nat.not_succ_le_zero _)
  |lst p r=>exact absurd hn (Nat.not_succ_le_zero _)
|succ n ih=>
   intro A s u v d e hn hu ru rv ho;have hu0:A.units<cLine:=by omega
   have he:∀{us us':List Value}{ds ds':List D}(r:RhL s.heap us ds) (r':RhL s.heap us' ds') (hd:depL ds<=n) (ho:zeu ds ds'=true),∀j (h1:j<us.toArray.size) (h2:j<us'.toArray.size),SeqAt.EqAt A.in1 s us.toArray[j] us'.toArray[j] (decide (ds[j]?=ds'[j]?)):=λ{us us' ds ds'} r r' hd ho j h1 h2=>by
    simp only[wac] at h1 h2;have g1:j<ds.length:=by rw[<-r.length];exact h1
    have g2:j<ds'.length:=by rw[<-r'.length];exact h2
    have q:=ih (A:=A.in1) (wam (zev j g1) hd) (show A.units+1+n<cLine by omega) (r.get j h1 g1) (r'.get j h2 g2) (zdB ho j g1 g2)
    rw[zia j g1 g2] at q;exact q
   cases ru with
  |non=>exact zgm hu0 rv ho
  |bl b=>exact zib rv ho
  |int i t=>exact zem rv ho
  |str x t=>exact zgn rv ho
  |tup p r=>
     rename_i l us ds
     have hd:depL ds<=n:=waX hn
     cases rv with
    |tup p' r'=>
       rename_i l' us' ds'
       by_cases hl:l=l'
       .subst hl;cases zdA p p';rw[r.inj r',wax rfl];exact SeqAt.EqAt.same _
       .exact SeqAt.EqAt.of_refs hl (zm2 hu0 p p' r r' (he r r' hd ho))
    |non=>rw[<-zb5 (λz=>by cases z)];exact SeqAt.EqAt.tuple_none p hu0
    |bl c=>cases ho
    |int i t=>cases ho
    |str x t=>cases ho
    |lst p' r'=>cases ho
  |lst p r=>
     rename_i l us ds
     have hd:depL ds<=n:=waX hn
     cases rv with
    |lst p' r'=>
       rename_i l' us' ds'
       by_cases hl:l=l'
       .subst hl;cases zec p p';rw[r.inj r',wax rfl];exact SeqAt.EqAt.same _
       .exact SeqAt.EqAt.of_refs hl (zm3 hu0 p p' r r' (he r r' hd ho))
    |non=>rw[<-zb5 (λz=>by cases z)];exact SeqAt.EqAt.list_none p hu0
    |bl c=>cases ho
    |int i t=>cases ho
    |str x t=>cases ho
    |tup p' r'=>cases ho
end VD
namespace VD
open PySem PySem.Spec PyProof PyProof.Rows L2
section
variable {A:Around}{s:Shared}{u v:Value}{d e:D}
def zjE {n:Nat}(hu:A.units+1+n<cLine){us us':List Value}{ds ds':List D}(r:RhL s.heap us ds)(r':RhL s.heap us' ds')(hd:depL ds<=n)(ho:zeu ds ds'=true):∀j (h1:j<us.toArray.size) (h2:j<us'.toArray.size),SeqAt.EqAt A.in1 s us.toArray[j] us'.toArray[j] (decide (ds[j]?=ds'[j]?)):=λj h1 h2=>by
 simp only[wac] at h1 h2;have g1:j<ds.length:=by rw[<-r.length];exact h1
 have g2:j<ds'.length:=by rw[<-r'.length];exact h2
 have q:=zkx n (A:=A.in1) (wam (zev j g1) hd) hu (r.get j h1 g1) (r'.get j h2 g2) (zdB ho j g1 g2)
 rw[zia j g1 g2] at q;exact q
def zm4 {n:Nat}(hu:A.units+1+n<cLine)(hn:depD d<=n+1)(ru:Rh s.heap u d)(rv:Rh s.heap v e)(ho:eqOk d e=true):SeqAt.RcAt A s u v (decide (d=e)):=by
 have hu0:A.units<cLine:=by omega
 cases ru with
|non=>
   cases rv with
  |non=>exact SeqAt.RcAt.none_none
  |bl b=>cases ho
  |int i t=>rw[<-zb5 (λz=>by cases z)];exact SeqAt.RcAt.none_int _ _
  |str x t=>rw[<-zb5 (λz=>by cases z)];exact SeqAt.RcAt.none_str _ _
  |tup p r=>rw[<-zb5 (λz=>by cases z)];exact SeqAt.RcAt.none_tuple p hu0
  |lst p r=>rw[<-zb5 (λz=>by cases z)];exact SeqAt.RcAt.none_list p hu0
|bl b=>
   cases rv with
  |bl c=>rw[zgc];exact SeqAt.RcAt.bool_bool _ _
  |non=>cases ho
  |int i t=>cases ho
  |str x t=>cases ho
  |tup p r=>cases ho
  |lst p r=>cases ho
|int i t=>
   cases rv with
  |int i t=>rw[zek];exact SeqAt.RcAt.int_int _ _ _ _
  |non=>rw[<-zb5 (λz=>by cases z)];exact SeqAt.RcAt.int_none _ _
  |str x t=>rw[<-zb5 (λz=>by cases z)];exact SeqAt.RcAt.int_str _ _ _ _
  |bl b=>cases ho
  |tup p r=>cases ho
  |lst p r=>cases ho
|str x t=>
   cases rv with
  |str i t=>rw[zel];exact SeqAt.RcAt.str_str _ _ _ _
  |non=>rw[<-zb5 (λz=>by cases z)];exact SeqAt.RcAt.str_none _ _
  |int x t=>rw[<-zb5 (λz=>by cases z)];exact SeqAt.RcAt.str_int _ _ _ _
  |bl b=>cases ho
  |tup p r=>cases ho
  |lst p r=>cases ho
|tup p r=>
   cases rv with
  |tup p' r'=>exact zm2 hu0 p p' r r' (zjE hu r r' (waX hn) ho)
  |non=>rw[<-zb5 (λz=>by cases z)];exact SeqAt.RcAt.tuple_none p hu0
  |int i t=>cases ho
  |bl b=>cases ho
  |str x t=>cases ho
  |lst p r=>cases ho
|lst p r=>
   cases rv with
  |lst p' r'=>exact zm3 hu0 p p' r r' (zjE hu r r' (waX hn) ho)
  |non=>rw[<-zb5 (λz=>by cases z)];exact SeqAt.RcAt.list_none p hu0
  |int i t=>cases ho
  |bl b=>cases ho
  |str x t=>cases ho
  |tup p r=>cases ho
def zd0 {p:Prop}[Decidable p](h:¬p):true = !decide p:=by rw[wao h];rfl
def zjF {n:Nat}(hu:A.units+1+n<cLine)(hn:depD d<=n+1)(ru:Rh s.heap u d)(rv:Rh s.heap v e)(ho:eqOk d e=true):SeqAt.RcNeAt A s u v (!decide (d=e)):=by
 have hu0:A.units<cLine:=by omega
 cases ru with
|non=>
   cases rv with
  |non=>rw[wax rfl];exact SeqAt.RcNeAt.none_none
  |bl b=>cases ho
  |int i t=>rw[<-zd0 (λz=>by cases z)];exact SeqAt.RcNeAt.none_int _ _
  |str x t=>rw[<-zd0 (λz=>by cases z)];exact SeqAt.RcNeAt.none_str _ _
  |tup p r=>rw[<-zd0 (λz=>by cases z)];exact SeqAt.RcNeAt.none_tuple p hu0
  |lst p r=>rw[<-zd0 (λz=>by cases z)];exact SeqAt.RcNeAt.none_list p hu0
|bl b=>
   cases rv with
  |bl c=>rw[zgc];exact SeqAt.RcNeAt.bool_bool _ _
  |non=>cases ho
  |int i t=>cases ho
  |str x t=>cases ho
  |tup p r=>cases ho
  |lst p r=>cases ho
|int i t=>
   cases rv with
  |int i t=>rw[zek];exact SeqAt.RcNeAt.int_int _ _ _ _
  |non=>rw[<-zd0 (λz=>by cases z)];exact SeqAt.RcNeAt.int_none _ _
  |str x t=>rw[<-zd0 (λz=>by cases z)];exact SeqAt.RcNeAt.int_str _ _ _ _
  |bl b=>cases ho
  |tup p r=>cases ho
  |lst p r=>cases ho
|str x t=>
   cases rv with
  |str i t=>rw[zel];exact SeqAt.RcNeAt.str_str _ _ _ _
  |non=>rw[<-zd0 (λz=>by cases z)];exact SeqAt.RcNeAt.str_none _ _
  |int x t=>rw[<-zd0 (λz=>by cases z)];exact SeqAt.RcNeAt.str_int _ _ _ _
  |bl b=>cases ho
  |tup p r=>cases ho
  |lst p r=>cases ho
|tup p r=>
   cases rv with
  |tup p' r'=>
     rename_i us ds l' us' ds'
     have q:=SeqAt.RcNeAt.tuples p p' hu0 (zjE hu r r' (waX hn) ho)
     rw[wac,wac,r.length,r'.length,zbP] at q;rw[zaC (show D.tup ds=D.tup ds'↔ds=ds' from⟨λz=>by cases z;rfl,λz=>by rw[z]⟩)];exact q
  |non=>rw[<-zd0 (λz=>by cases z)];exact SeqAt.RcNeAt.tuple_none p hu0
  |int i t=>cases ho
  |bl b=>cases ho
  |str x t=>cases ho
  |lst p r=>cases ho
|lst p r=>
   cases rv with
  |lst p' r'=>
     rename_i us ds l' us' ds'
     rw[zaC (show D.lst ds=D.lst ds'↔ds=ds' from⟨λz=>by cases z;rfl,λz=>by rw[z]⟩)];by_cases hz:ds.length=ds'.length
     .have hsz:us.toArray.size=us'.toArray.size:=by simp only[wac];rw[r.length,r'.length,hz]
      have q:=SeqAt.RcNeAt.lists p p' hsz hu0 (zjE hu r r' (waX hn) ho)
      have e1:=zbP ds ds'
      rw[hz,Nat.min_self,beq_self_eq_true,Bool.and_true,<-hz] at e1;rw[wac,r.length,e1] at q;exact q
     .have q:=SeqAt.RcNeAt.lists_lengths p p' (by simp only[wac,r.length,r'.length];simpa using hz) hu0
      rw[wao (λz=>hz (by rw[z]))];exact q
  |non=>rw[<-zd0 (λz=>by cases z)];exact SeqAt.RcNeAt.list_none p hu0
  |int i t=>cases ho
  |bl b=>cases ho
  |str x t=>cases ho
  |tup p r=>cases ho
end
def eqC (d e:D):Bool:=eqOk d e&&ndD d&&ndD e&&decide (depD d<=40)
def dEqG (neg:Bool)(d e:D):Option D:=if eqC d e=true then some (.bl (if neg then !decide (d=e) else decide (d=e))) else none
def rEqG (K:W.Frag)(neg:Bool):R2:=λx y H Q=>∃J d e,RpW K H J x d/\RpW K H J y e/\eqC d e=true/\Q (.bl (if neg then !decide (d=e) else decide (d=e))) H
def zgo {d e:D}(h:eqC d e=true):eqOk d e=true/\ndD d=true/\ndD e=true/\depD d<=40:=by
 unfold eqC at h;simp only[waD,decide_eq_true_eq] at h;exact⟨h.1.1.1,h.1.1.2,h.1.2,h.2⟩
section
variable {X:Cx}{K:W.Frag}{k:Nat}
def zby (hr:Room k X.A):OpR X (compareOp .Eq) (rEqG X.K false):=by
 intro pins s Y H x y v u Q I rx ry ⟨J,d,e,r1,r2,hc,q⟩;obtain⟨ho,n1,n2,hd⟩:=zgo hc;have:=hr.units
 exact zm4 (n:=40) (by omega) (by omega) (r1.rh I n1 rx) (r2.rh I n2 ry) ho _ _ _ _ ⟨.bl _,H,I,rfl,q⟩
def zic (hr:Room k X.A):OpR X (compareOp .NotEq) (rEqG X.K true):=by
 intro pins s Y H x y v u Q I rx ry ⟨J,d,e,r1,r2,hc,q⟩;obtain⟨ho,n1,n2,hd⟩:=zgo hc;have:=hr.units
 exact zjF (n:=40) (by omega) (by omega) (r1.rh I n1 rx) (r2.rh I n2 ry) ho _ _ _ _ ⟨.bl _,H,I,rfl,q⟩
def zaH (neg:Bool):Im2 K (rEqG K neg) (dEqG neg):=by
 intro H J x y d e d' Q ja hx hy hF w;unfold dEqG at hF;by_cases hc:eqC d e=true
 .rw[if_pos hc] at hF;cases hF;exact⟨J,d,e,hx,hy,hc,w _ H J (Up.refl ja) (.bl _)⟩
 .rw[if_neg hc] at hF;cases hF
end
def inC (x:D)(ds:List D):Bool:=ndD x&&ds.all λy=>eqC y x
def hasK (ks:List Key)(j:Key):Bool:=ks.any λk=>decide (k=j)
def dInG (neg:Bool):D->D->Option D
|x,.lst ds=>if inC x ds=true then some (.bl (if neg then !decide (x∈ds) else decide (x∈ds))) else none
|x,.tup ds=>if inC x ds=true then some (.bl (if neg then !decide (x∈ds) else decide (x∈ds))) else none
|x,.dct ks _=>(keyD x).bind λj=>some (.bl (if neg then !hasK ks j else hasK ks j))
|_,_=>none
def zm5 (K:W.Frag)(neg:Bool):R2:=λx y H Q=>∃J d ds p vs,RpW K H J x d/\y=.ref p/\(SqL K H p vs\/SqT K H p vs)/\RpL K H J vs ds/\inC d ds=true/\Q (.bl (if neg then !decide (d∈ds) else decide (d∈ds))) H
open Classical in
noncomputable def ze3 (h:Heap)(u:Value):D:=if q:∃d,Rh h u d then q.choose else .non
def ze4 {h:Heap}{u:Value}{d:D}(r:Rh h u d):ze3 h u=d:=by
 unfold ze3;have q:∃d,Rh h u d:=⟨d,r⟩
 rw[dif_pos q];exact q.choose_spec.inj r
theorem RhL.mem {h:Heap}:∀{us:List Value}{ds:List D},RhL h us ds->∀u∈us,∃d∈ds,Rh h u d
|_,_,.cons a t,u,hu=>by
   rcases wah.mp hu with rfl|hu
   .exact⟨_,waj,a⟩
   .obtain⟨d,hd,r⟩:=RhL.mem t u hu;exact⟨d,waf _ hd,r⟩
theorem RhL.map {h:Heap}:∀{us:List Value}{ds:List D},RhL h us ds->us.map (ze3 h)=ds
|_,_,.nil=>rfl
|_,_,.cons a t=>by rw[wbt,ze4 a,RhL.map t]
theorem zid:∀{ds:List D},(∀d∈ds,ndD d=true)->ndL ds=true
|[],_=>rfl
|d::ds,h=>by
   show(ndD d&&ndL ds)=true
   rw[h d waj,zid λe he=>h e (waf _ he)];rfl
def zgp {h:Heap}{us:List Value}{ds:List D}(r:RhL h us ds)(x:D):us.toArray.any (λy=>decide (ze3 h y=x))=decide (x∈ds):=by
 rw[List.any_toArray,<-r.map,wbm];simp only[List.any_eq_true,decide_eq_true_eq,wcn]
section
variable {X:Cx}{K:W.Frag}{k:Nat}
def zgq {A:Around}{s:Shared}{us:List Value}{ds:List D}{x:Value}{d:D}(hu:A.units+1+40<cLine)(r:RhL s.heap us ds)(rx:Rh s.heap x d)(hc:∀y∈ds,eqC y d=true):∀y,y∈us.toArray->SeqAt.EqAt A.in1 s y x (decide (ze3 s.heap y=d)):=λy hy=>by
 obtain⟨e,he,re⟩:=r.mem y (by simpa using hy);obtain⟨ho,_,_,hd⟩:=zgo (hc e he);rw[ze4 re];exact zkx 40 (A:=A.in1) hd hu re rx ho
def zm6 {x:D}{ds:List D}(h:inC x ds=true):ndD x=true/\(∀y∈ds,eqC y x=true)/\ndL ds=true:=by
 unfold inC at h;rw[waD,waJ] at h;exact⟨h.1,h.2,zid λy hy=>(zgo (h.2 y hy)).2.1⟩
def zm7 (hr:Room k X.A):OpR X (compareOp .In) (zm5 X.K false):=by
 intro pins s Y H x y v u Q I rx ry ⟨J,d,ds,p,vs,r1,e,hq,rl,hc,q⟩;subst e;cases ry;have hu:=hr.units
 obtain⟨n1,hc,n2⟩:=zm6 hc;rcases hq with hq|hq
 .obtain⟨its,rv,pl,hz⟩:=I.list hq;refine SeqAt.in_listAt _ pl.isList (zgq (by omega) (rl.rh I n2 rv) (r1.rh I n1 rx) hc) ⟨.bl _,H,I,rfl,?_⟩;rw[zgp (rl.rh I n2 rv)];exact q
 .obtain⟨its,rv,pl,hz⟩:=I.tuple hq;refine SeqAt.in_tupleAt _ pl (zgq (by omega) (rl.rh I n2 rv) (r1.rh I n1 rx) hc) ⟨.bl _,H,I,rfl,?_⟩;rw[zgp (rl.rh I n2 rv)];exact q
def rInD (neg:Bool):R2:=λx y H Q=>∃a ov,y=.ref a/\DGet H a x ov/\Q (.bl (if neg then !ov.isSome else ov.isSome)) H
def rInG (K:W.Frag)(neg:Bool):R2:=λx y H Q=>zm5 K neg x y H Q\/rInD neg x y H Q
def zom (hr:Room k X.A):OpR X (compareOp .In) (rInD false):=by
 intro pins s Y H x y v u Q I rx ry ⟨a,ov,e,g,q⟩;subst e;obtain rfl:u=Value.ref a:=ry;exact d_in (zn7 hr) I g rx λs3 I3=>⟨.bl ov.isSome,H,I3,rfl,q⟩
def zon (hr:Room k X.A):OpR X (compareOp .In) (rInG X.K false):=(zm7 hr).or (zom hr)
def zie {kvs:List (Key×V)}{j:Key}:(valV kvs j).isSome=hasK (kvs.map (·.1)) j:=by
 unfold valV hasK;rw[Option.isSome_map,List.any_map,wbm,List.find?_isSome,List.any_eq_true];rfl
def zm8 (neg:Bool):Im2 K (rInG K neg) (dInG neg):=by
 intro H J x y d e d' Q ja hx hy hF w;cases e with
|lst ds=>
   have hF:(if inC d ds=true then some (D.bl (if neg then !decide (d∈ds) else decide (d∈ds))) else none)=some d':=hF
   by_cases hc:inC d ds=true
   .rw[if_pos hc] at hF;cases hF;obtain⟨p,vs,rfl,h1,r1⟩:=hy.lst;exact .inl ⟨J,d,ds,p,vs,hx,rfl,.inl (SqL.of h1),r1,hc,w _ H J (Up.refl ja) (.bl _)⟩
   .rw[if_neg hc] at hF;cases hF
|tup ds=>
   have hF:(if inC d ds=true then some (D.bl (if neg then !decide (d∈ds) else decide (d∈ds))) else none)=some d':=hF
   by_cases hc:inC d ds=true
   .rw[if_pos hc] at hF;cases hF;obtain⟨p,vs,rfl,h1,r1⟩:=hy.tup;exact .inl ⟨J,d,ds,p,vs,hx,rfl,.inr h1,r1,hc,w _ H J (Up.refl ja) (.bl _)⟩
   .rw[if_neg hc] at hF;cases hF
|dct ks ds=>
   obtain⟨j,ej,hF⟩:=zaj (show((keyD d).bind λj=>some (D.bl (if neg then !hasK ks j else hasK ks j)))=some d' from hF);cases hF;obtain⟨p,kvs,vs,rfl,h1,h2,h3,rl⟩:=hy.dct;refine .inr ⟨p,valV kvs j,rfl,?_,?_⟩
   .rw[zmT hx ej];exact DGet.k h1
   .rw[zie,h2];exact w _ H J (Up.refl ja) (.bl _)
|_=>cases hF
end
end VD
namespace Mn
open PySem PySem.Spec PyProof PyProof.Rows
open Sem (wp)
section
variable {prog:Program}{w:World}{A:Around}{R:Result->Shared->Prop}{I:Addr}{fp wr:List Addr}{n:Nat}{P:Nat->Value->Prop}{St:Nat->Heap->Prop}
end
section
variable {prog:Program}{w:World}{A:Around}{E:Value->Shared->Prop}{s:Shared}
end
end Mn
namespace VD
open PySem PySem.Spec PyProof PyProof.Rows L2
mutual
def ltD:D->D->Option Bool
|.int a,.int b=>some (decide (a<b))
|.tup xs,.tup ys=>ltL xs ys
|_,_=>none
def ltL:List D->List D->Option Bool
|[],[]=>some false
|x::xs,y::ys=>if eqOk x y=true then(if x=y then ltL xs ys else if xs.length=ys.length then ltD x y else none) else none
|_,_=>none
end
section
variable {X:Cx}{K:W.Frag}{k:Nat}
end
end VD
namespace VD
open PySem PySem.Spec PyProof PyProof.Rows L2
section
variable {X:Cx}{K:W.Frag}{k:Nat}
end
section
variable {S:Type}{emb:S->En}{Z:En}{s:S}{f g:FX}{x:Option (D×S)}{y:D×S->Option (D×S)}{e:FE}
section
variable {R A:Type}{k:Out->Option R}{φ:A->Option R}{a b g':FS}
end
end
section
variable {S S0 α A R:Type}{emb:S->En}{emb0:S0->En}{Z:En}{fi:FAX}{b g:FS}{tg:FG}{xa:Option (List D×S0)}{ini:S0->S}
end
section
variable {P:Program}{w:World}{K:W.Frag}{mg:Str->Option Value}{base:Heap}
end
def g1 (b:D->Option (RV×List D)):List D->Option (RV×List D)|[x]=>b x|_=>none
def g2 (b:D->D->Option (RV×List D)):List D->Option (RV×List D)|[x,y]=>b x y|_=>none
def g3 (b:D->D->D->Option (RV×List D)):List D->Option (RV×List D)|[x,y,z]=>b x y z|_=>none
section
variable {R:Type}{k:Out->Option R}{φ:RV×List D->Option R}{g:FS}{n:List SV}{ks:List (Option Nat)}
end
section
variable {X:Cx}{K:W.Frag}{k:Nat}
end
end VD
namespace GM
open PySem PySem.Spec PyProof PyProof.Rows L2 VD
structure Bx where
 x:Int
 y:Int
 wd:Int
 hg:Int
def zjG (gap s1 l1 s2 l2:Int):Option (Int×Int×Int):=
 if gap<0 then none else some (if max s1 s2≥min (s1+l1) (s2+l2) then 1 else 0,gap,max 0 (max s1 s2 - min (s1+l1) (s2+l2)))
def near (b o:Bx)(way:Str):Option (Int×Int×Int):=
 if way = "up" then zjG (b.y - o.y - o.hg) b.x b.wd o.x o.wd
 else if way = "down" then zjG (o.y - b.y - b.hg) b.x b.wd o.x o.wd
 else if way = "left" then zjG (b.x - o.x - o.wd) b.y b.hg o.y o.hg
 else zjG (o.x - b.x - b.wd) b.y b.hg o.y o.hg
structure Row where
 deep:Nat
 name:Str
 box:Bx
 word:Str
 rank:Int
 head:Option Str
def zif (ds:Nat->Nat)(cur:Nat):Nat->List Nat
|0=>[]
|n+1=>if ds n<cur then zif ds (ds n) n++[n] else zif ds cur n
def dsOf (L:List Row)(k:Nat):Nat:=((L[k]?).map (·.deep)).getD 0
def above (L:List Row)(k:Nat):List Nat:=zif (dsOf L) (dsOf L k) k
def sg (c:Nat):Str:=⟨#[c]⟩
def zfM (c:Nat)(n:Int)(h:1<=n):(Txt.mul (sg c) n).cps.toList=List.replicate n.toNat c:=by
 unfold Txt.mul;rw[if_neg (by omega)];by_cases h1:n=1
 .subst h1;rfl
 .have:(n == 1||(sg c).length == 0)=false:=by
   have:(n == 1)=false:=by simpa using h1
   rw[this];rfl
  rw[this,if_neg (by decide)];have key:∀(k:Nat) (acc:Array Nat),((List.replicate k (sg c).cps).foldl (·++·) acc).toList=acc.toList++List.replicate k c:=by
   intro k;induction k with
  |zero=>intro acc;simp
  |succ k ih=>
     intro acc;rw[waP,List.foldl_cons,ih];show(acc++#[c]).toList++_=_
     rw[Array.toList_append,List.append_assoc];rfl
  show((List.replicate n.toNat (sg c).cps).foldl (·++·) #[]).toList=_
  rw[key];rfl
def zlv (c:Nat)(n:Int)(h:1<=n):(Txt.mul (sg c) n).length=n.toNat:=by
 have:=wbJ List.length (zfM c n h)
 rw[wbZ] at this;simpa[Str.length] using this
inductive Tr where
|mk (name:Str) (box:Bx) (word:Str) (rank:Int) (head:Option Str) (parts:List Tr)
namespace Tr
def name:Tr->Str|mk n _ _ _ _ _=>n
def parts:Tr->List Tr|mk _ _ _ _ _ x=>x
end Tr
structure Seg (d:Nat)(M:List Row):Prop where
 few:M.length<=200
 low:∀r∈M,d<=r.deep/\r.deep<=4
 first:∀r,M[0]?=some r->r.deep=d
 step:∀k r r',M[k]?=some r->M[k+1]?=some r'->r'.deep<=r.deep+1
def Fits:Nat->List Tr->Prop
|0,ts=>ts = []
|n+1,ts=>∀t∈ts,Fits n t.parts
section
variable {ts:List Tr}{L:List Row}
end
end GM
namespace GM
open PySem PySem.Spec PyProof PyProof.Rows L2 VD
def zgT {n:Nat}{i:Nat}{d:D}(h:(zb3 0 n)[i]?=some d):i<n/\d=.int (i:Int):=by
 have hl:(zb3 0 n).length=n:=by simp[zb3]
 have hi:i<n:=by rw[<-hl];exact(wav.mp h).1
 refine⟨hi,?_⟩;unfold zb3 at h;rw[waC,List.getElem?_range hi] at h;simp at h;exact h.symm
def zlw {α:Type}{xs:List α}{i:Int}(h0:0<=i)(h1:i<xs.length):∃x,xs[i.toNat]?=some x/\atI xs i=some x:=by
 have hi:i.toNat<xs.length:=by omega
 refine⟨xs[i.toNat],waw hi,?_⟩;have e:i=((i.toNat:Nat):Int):=by omega
 have h:=zbh (xs:=xs) (waw hi)
 rw[<-e] at h;exact h
def zm9 (c:Nat):(sg c).length=1:=rfl
def zna (c:Nat){n:Int}(h0:-1000<=n)(h1:n<=1000):dMul (.str (sg c)) (.int n)=some (.str (Txt.mul (sg c) n)):=by
 show(if -1000<=n/\n<=1000/\(sg c).length<=1000 then some (D.str (Txt.mul (sg c) n)) else none)=_
 rw[if_pos ⟨h0,h1,by rw[zm9];decide⟩]
theorem zcw {S A α:Type}{f:S->D->Option (Fl S A)}(h:α->D):∀{xs:List α}{s:S},(∀x,x∈xs->f s (h x)=some (.nx s))->zc5 f s (xs.map h)=some (.nx s)
|[],s,_=>rfl
|x::xs,s,hf=>by
   show(f s (h x)).bind _=_
   rw[hf x waj,zOB];exact zcw h λy hy=>hf y (waf _ hy)
def zfN {S A:Type}{f:S->D->Option (Fl S A)}{ds:List D}{s:S}(hf:∀x,x∈ds->f s x=some (.nx s)):zc5 f s ds=some (.nx s):=by
 have:=zcw (f:=f) (λd:D=>d) (xs:=ds) (s:=s) hf
 rwa [List.map_id'] at this
def zlx {xs:List D}{d:D}(h:xs.length<lim):appL xs d=some (xs++[d]):=if_pos h
def zig {α:Type}{f:D->Option (Option D)}(h:α->D)(g:α->D){xs:List α}(hl:xs.length<=10000)(hf:∀x,x∈xs->f (h x)=some (some (g x))):zjD f (xs.map h)=some (xs.map g):=by
 unfold zjD;have:zeZ f (xs.map h)=some (xs.map g):=by
  clear hl
  induction xs with
 |nil=>rfl
 |cons x xs ih=>
    show(f (h x)).bind _=_
    rw[hf x waj,zOB];show(zeZ f (xs.map h)).bind _=_
    rw[ih λy hy=>hf y (waf _ hy)];rfl
 rw[this,zOB,if_pos];rw[waG];exact wam hl (by decide)
def zdp (x y:Str):dEqG false (.str x) (.str y)=some (.bl (decide (x=y))):=by
 show(if eqC (.str x) (.str y)=true then some (D.bl (if false=true then !decide (D.str x=D.str y) else decide (D.str x=D.str y))) else none)=_
 rw[if_pos (by rfl),if_neg (by decide),zaC (show D.str x=D.str y↔x=y from⟨λh=>by cases h;rfl,λh=>by rw[h]⟩)]
def zjH (x y:Int):dEqG false (.int x) (.int y)=some (.bl (decide (x=y))):=by
 show(if eqC (.int x) (.int y)=true then some (D.bl (if false=true then !decide (D.int x=D.int y) else decide (D.int x=D.int y))) else none)=_
 rw[if_pos (by rfl),if_neg (by decide),zaC (show D.int x=D.int y↔x=y from⟨λh=>by cases h;rfl,λh=>by rw[h]⟩)]
def ze5 {d:D}(h:eqC d d=true)(neg:Bool):dEqG neg d d=some (.bl (!neg)):=by
 unfold dEqG;rw[if_pos h,wax rfl];cases neg <;> rfl
mutual
theorem ze6:∀{d:D},ndD d=true->eqOk d d=true
|.non,_=>rfl
|.bl _,_=>rfl
|.int _,_=>rfl
|.str _,_=>rfl
|.tup ds,h=>zc7 (ds:=ds) h
|.lst ds,h=>zc7 (ds:=ds) h
|.dct _ _,h=>by cases h
|.scr _,h=>by cases h
|.exc _ _ _,h=>by cases h
|.dcu _ _,h=>by cases h
theorem zc7:∀{ds:List D},ndL ds=true->zeu ds ds=true
|[],_=>rfl
|d::ds,h=>by
   have h:(ndD d&&ndL ds)=true:=h
   rw[waD] at h;show(eqOk d d&&zeu ds ds)=true
   rw[ze6 h.1,zc7 h.2];rfl
end
def zjI {d:D}(h:ndD d=true)(hd:depD d<=40):eqC d d=true:=by
 unfold eqC;rw[ze6 h,h,wax hd];rfl
theorem zih {m:Nat}:∀{ds:List D},(∀d∈ds,depD d<=m)->depL ds<=m
|[],_=>waT _
|d::ds,h=>Nat.max_le.mpr ⟨h d waj,zih λe he=>h e (waf _ he)⟩
theorem zky:∀{ds:List D},(∀d∈ds,ndD d=true)->ndL ds=true
|[],_=>rfl
|d::ds,h=>by
   show(ndD d&&ndL ds)=true
   rw[h d waj,zky λe he=>h e (waf _ he)];rfl
end GM
namespace GM
open PySem PySem.Spec PyProof PyProof.Rows L2 VD
end GM
namespace VD
open PySem PySem.Spec PyProof PyProof.Rows L2 PySem.W
structure TabX (X:Cx)(q:Str):Prop where
 ex:∃c P bm ob,X.env.code=.ref c/\CodeK X.K c P/\BMod X.base mainGlobals X.mg bm ob/\∃tp,X.Hz P=some (.tbl tp)/\tp[0]?=some (Value.str q 0)
section
variable {X:Cx}{a:Expr}{fa:FE}
end
structure Pers (Pc:Hp->Prop):Prop where
 st:∀{fs ex:List Addr}{H H':Hp}{h h':Heap},Un fs ex H H' h h'->Pc H->Pc H'
 sm:∀{H H':Hp},Same H H'->Pc H->Pc H'
def Prs (X:Cx)(Pc:Hp->Prop):Prop:=∀pins Y H s,Inv X pins Y H s->Pc H
def Prs.of {X:Cx}{Pc:Hp->Prop}(p:Pers Pc)(h:Pc X.Hz):Prs X Pc:=λ_ _ _ _ I=>p.st I.base h
def pcS (Pc:Hp->Prop)(sp:Sp):Sp:=λvs H Q E=>Pc H/\sp vs H Q E
structure Scr where
 p:Addr
 ns:List Int
def SqF (K:W.Frag)(S:Scr)(H:Hp):Prop:=(∃o,H S.p=some (.frz o (.lst (S.ns.map V.int))))\/∀H,SqL K H S.p (S.ns.map V.int)
def SqF.sq {K:W.Frag}{S:Scr}{H:Hp}(h:SqF K S H):SqL K H S.p (S.ns.map V.int):=by
 rcases h with⟨o,h⟩|h
 .exact .inl (.inr ⟨o,h⟩)
 .exact h H
def SqF.of {K:W.Frag}{S:Scr}{H:Hp}(h:SqL K H S.p (S.ns.map V.int))(hf:H S.p≠none->∃o xs,H S.p=some (.frz o (.lst xs))):SqF K S H:=by
 rcases h with(h|⟨o,h⟩)|h
 .obtain⟨o,xs,e⟩:=hf (by rw[h];simp);rw[h] at e;cases e
 .exact .inl ⟨o,h⟩
 .exact .inr λ_=>.inr h
def TabH (P:Addr)(q:Str)(H:Hp):Prop:=∃tp,H P=some (.tbl tp)/\tp[0]?=some (Value.str q 0)
def tab0 {tp more:Array Value}{q:Str}(htp:tp[0]?=some (Value.str q 0)):(tp++more)[0]?=some (Value.str q 0):=by
 have:0<tp.size:=by
  rcases Nat.eq_zero_or_pos tp.size with z|z
  .rw[Array.getElem?_eq_none (by omega)] at htp;cases htp
  .exact z
 rw[Array.getElem?_append_left this];exact htp
def pers_F {K:W.Frag}{S:Scr}:Pers (SqF K S):=⟨λu h=>by
 rcases h with⟨o,h⟩|h
 .exact .inl ⟨o,u.frzs _ _ _ h⟩
 .exact .inr h,λs h=>by
 rcases h with⟨o,h⟩|h
 .exact .inl ⟨o,s _ _ h⟩
 .exact .inr h⟩
def pers_T {P:Addr}{q:Str}:Pers (TabH P q):=⟨λu ⟨tp,h,e⟩ =>by
 obtain⟨more,h'⟩:=u.tbls _ _ h;exact⟨_,h',tab0 e⟩,λs ⟨tp,h,e⟩ =>⟨tp,s _ _ h,e⟩⟩
section
variable {X:Cx}{a b e:Expr}{es:List Expr}{fa fb:FE}{fl:FA}{p pos:Pos}{Pc:Hp->Prop}
def pcP {k k':Nat}{x:Str}{ps:List Str}{sp:Sp}{t:TA}(C:Cal X.prog X.w X.K X.mg X.base k x ps (pcS Pc sp))(hp:Prs X Pc)(hr:Room k' X.A)(ha:PA X (e::es) t)(hk:k<=k')(hg:Gl X x)(hdb:(x == ("__debug__" : Str))=false)
 (he:starEach (e::es) X.env=(false,eval e X.env)::starEach es X.env) (hpl:(backTo pos (starEach es X.env)).any (·.1)=false):PE X (.Call (.Name x p) (e::es) [] pos) (zjg sp [] E0 t):=by
 obtain⟨f,fd,F,hb,hkp,hm⟩:=C.ex;intro pins s Y H Q I h;refine waE (zcb I hg hm ?_ hdb);refine callWith_K (h₀:=X.base) I.ok.mod.kin hkp (thn (ha pos pins s Y H _ I h) λus s1 ⟨vs,H1,I1,r,q⟩ =>⟨I1.kIn,?_⟩) he hpl;exact zkl (F.mono hk) hr hb .nil zmu I1 r ⟨hp _ _ _ _ I1,q⟩
def zaq {k k':Nat}{x:Str}{ps:List Str}{F:List D->Option D}(C:Cal X.prog X.w X.K X.mg X.base k x ps (pcS Pc (spF X.K F)))(hp:Prs X Pc)(hr:Room k' X.A)(ha:VA X (e::es) fl)(hk:k<=k':=by decide)(hg:Gl X x:=by rfl)(hdb:(x == ("__debug__" : Str))=false:=by decide)
 (he:starEach (e::es) X.env=(false,eval e X.env)::starEach es X.env:=by rfl) (hpl:(backTo pos (starEach es X.env)).any (·.1)=false:=by rfl):VE X (.Call (.Name x p) (e::es) [] pos) (eCall F fl):=by
 obtain⟨t,pa,g⟩:=ha;refine⟨_,pcP C hp hr pa hk hg hdb he hpl,?_⟩;intro Hz Jz O Z Y H J d Q s e w;obtain⟨ds,e1,e⟩:=bind_some e;refine g Hz Jz O Z Y H J ds _ s e1 λvs H1 J1 u1 r1=>?_
 refine⟨J1,ds,d,u1.ja,by rw[wbe];exact r1,e,λv H2 J2 u2 r2=>w v H2 J2 (u1.trans u2) r2⟩
def lenS (S:Scr):D->Option D
|.scr q=>if q=S.p then some (.int S.ns.length) else none
|_=>none
def zii {S:Scr}{d r:D}(h:lenS S d=some r):d=.scr S.p/\r=.int S.ns.length:=by
 unfold lenS at h;split at h
 .split at h
  .rename_i z;rw[z];cases h;exact⟨rfl,rfl⟩
  .cases h
 .cases h
def zly {S:Scr}(hp:Prs X (SqF X.K S))(B:Blt X.mg)(ha:VE X a fa)(hg:Gl X "len":=by rfl)(h1:starEach [a] X.env=(false,eval a X.env)::starEach [] X.env:=by rfl):VE X (.Call (.Name "len" p) [a] [] pos) (e1 (lenS S) fa):=by
 obtain⟨ta,pa,ga⟩:=ha;refine⟨λY H Q=>∃Hz Jz O Z J d,ST X.K Hz Jz O Z Y H J/\e1 (lenS S) fa Z=some d/\zgP X.K H J d Q,λpins s Y H Q I hyp=>?_,λHz Jz O Z Y H J d Q st e w=>⟨Hz,Jz,O,Z,J,d,st,e,w⟩⟩;obtain⟨Hz,Jz,O,Z,J,d,st,e,w⟩:=hyp;obtain⟨x,ex,e⟩:=bind_some e;obtain⟨rfl,rfl⟩:=zii e;refine pb zeQ B PySem.boot_len (zbu pa zdg h1) (by decide +kernel) hg (by decide) (by decide) h1 rfl pins s Y H Q I ?_;refine ga Hz Jz O Z Y H J _ _ st ex λv H1 J1 u r=>?_
 cases r;refine⟨S.p,S.ns.map V.int,rfl,.inl (pers_F.sm u.same (hp _ _ _ _ I)).sq,?_⟩;rw[waG];exact w _ H1 J1 u (.int _)
end
section
variable {P:Program}{w:World}{K:W.Frag}{mg:Str->Option Value}{base:Heap}{Pc:Hp->Prop}
def zbv {x qual:Str}{st:Stmt}{f:Addr}{fd:FuncData}{N ps:List Str}{k:Nat}{c:List D->Option D}(pe:Pers Pc)(F:Fun K x qual st f fd)(S:FnScope N ps (zad st))(hlen:∀ds d,c ds=some d->ds.length=ps.length)
 (hbody:∀(cdv:Value) (A:Around) (outer:List Env) (s:Shared) (H:Hp) (E:XK),fd.code=cdv->Room k (A.deeper (envOfC qual (zad st) s.heap.objs.size f cdv))->Pc H->Prs (cxOf CX0 P w K mg base N qual (zad st) f cdv A outer s H E).nox Pc->∃g,VSs (cxOf CX0 P w K mg base N qual (zad st) f cdv A outer s H E).nox (zaT st) g/\∀ds,ds.length=ps.length->EvS kF some g (ds.map SV.val++List.replicate (N.length - ps.length) .un) (c ds)):FnOk P w K mg base CX0 (k+1) f fd ps (pcS Pc (spF K c)):=by
 refine F.okC S (λvs H Q E h=>?_) (λcdv A outer s H vs Q E hcv hr h=>?_)
 .obtain⟨_,J,ds,d,ja,r,e,w⟩:=h;rw[r.length];exact hlen ds d e
 .obtain⟨hPc,J,ds,d,ja,r,e,w⟩:=h;have hl:=hlen ds d e
  obtain⟨g,⟨t,p,q⟩,ev⟩:=hbody cdv A outer s H E hcv hr hPc (Prs.of pe hPc);refine⟨t,p,?_⟩;have e:=ev ds hl d (by rw[e];rfl)
  rw[<-hl] at e;have s0:=zdn (N:=N) ja r
  cases z:g (ds.map SV.val++List.replicate (N.length - ds.length) .un) with
 |none=>rw[z] at e;cases e
 |some o=>
    rw[z] at e;refine q H J Pr.no _ _ H J o _ s0 z ?_;cases o with
   |nx Z'=>cases e;exact λY' H' J' s' k'=>w .non H' J' s'.out .non
   |ret r Z'=>
      cases r with
     |told d'=>cases e;exact λv Y' H' J' s' r'=>w v H' J' s'.out r'
     |new n d'=>
        cases e;rintro v Y' H' J' s' ⟨B,fp,_,ru,_,hb,_⟩;have u:=s'.out
        refine w v H' (λb=>J' b\/b∈B) ⟨u.same,λa h=>.inl (u.jj a h),λa h=>?_,λa h=>?_⟩ (ru.rp (λ_ h=>.inl h) (λb hb=>.inr hb))
        .rcases h with h|h
         .exact u.jn a h
         .exact .inr (hb a h).2
        .rcases h with h|h
         .exact u.ja a h
         .obtain⟨o,e,_⟩:=ru.some a h;rw[e];simp
   |bk _=>cases e
   |ct _=>cases e
structure TabF (K:W.Frag)(mg:Str->Option Value)(base:Heap)(fd:FuncData)(P:Addr):Prop where
 ex:∃c bm ob,fd.code=.ref c/\CodeK K c P/\BMod base mainGlobals mg bm ob
def zfO {X:Cx}{fd:FuncData}{P:Addr}{q:Str}(T:TabF X.K X.mg X.base fd P)(hc:fd.code=X.env.code)(h:TabH P q X.Hz):TabX X q:=by
 obtain⟨c,bm,ob,e1,e2,e3⟩:=T.ex;exact⟨c,P,bm,ob,by rw[<-hc];exact e1,e2,e3,h⟩
end
end VD
namespace L2
open PySem PySem.Spec PyProof PyProof.Rows
section
variable {X:Cx}
end
end L2
namespace VD
open PySem PySem.Spec PyProof PyProof.Rows L2 PySem.W
section
variable {X:Cx}{a b e:Expr}{fa fb:FE}
end
end VD
namespace HT
open PySem PySem.Spec PyProof PyProof.Rows
section
variable {prog:Program}{w:World}{A:Around}{E:Value->Shared->Prop}{s:Shared}
end
end HT
namespace L2
open PySem PySem.Spec PyProof PyProof.Rows
section
variable {X:Cx}
end
end L2
namespace VD
open PySem PySem.Spec PyProof PyProof.Rows L2 PySem.W
section
variable {X:Cx}{a:Expr}{fa:FE}{p2 pos:Pos}
end
end VD
namespace VD
open PySem PySem.Spec PyProof PyProof.Rows L2
section
variable {Z:En}{xs:List D}{i:Nat}{fk fv:FE}{f:FA}
end
section
variable {S:Type}{emb:S->En}{Z:En}{s:S}{f:FX}{x:Option (D×S)}
end
end VD
namespace VD
open PySem PySem.Spec PyProof PyProof.Rows L2 PySem.W
section
variable {X:Cx}{a b e e1':Expr}{es:List Expr}{fa fb:FE}{fl:FA}{p pos:Pos}{Pc:Hp->Prop}
end
end VD
namespace VD
open PySem PySem.Spec PyProof PyProof.Rows L2
section
variable {X:Cx}{i b:Expr}{ty:TE}{pos p':Pos}{x:Str}
end
section
variable {X:Cx}{e:Expr}{fa:FE}{fl:FA}{pos pos':Pos}{x:Str}
def vsS (i:Nat)(hN:X.N.Nodup)(h:VE X e fa)(hi:X.N[i]?=some x:=by rfl)(hx:Loc X.env.scope x:=by first|exact Or.inl rfl|exact Or.inr rfl)(hs:swapsWith e (some (.Name x pos')) pos.line X.env=pure false:=by rfl)(hf:X.fn x=true\/X.env.scope.names.lookup x=some .local:=by first|exact .inl rfl|exact .inr rfl|assumption) :
 VS X (.Assign [.Name x pos'] e pos) (gSet i fa):=zmK hN hi hx h hs hf
def vsO (i:Nat)(hN:X.N.Nodup)(h:VN X e fl)(hi:X.N[i]?=some x:=by rfl)(hx:Loc X.env.scope x:=by first|exact Or.inl rfl|exact Or.inr rfl)(hs:swapsWith e (some (.Name x pos')) pos.line X.env=pure false:=by rfl)(hf:X.fn x=true\/X.env.scope.names.lookup x=some .local:=by first|exact .inl rfl|exact .inr rfl|assumption) :
 VS X (.Assign [.Name x pos'] e pos) (gOwn i fl):=zmM hN hi hx h hs hf
def vgN (i:Nat)(hN:X.N.Nodup)(hi:X.N[i]?=some x:=by rfl)(hx:Loc X.env.scope x:=by first|exact Or.inl rfl|exact Or.inr rfl)(hf:X.fn x=true\/X.env.scope.names.lookup x=some .local:=by first|exact .inl rfl|exact .inr rfl|assumption):VG X (.Name x pos) [i] (gN i):=zll hN hi hx hf
def vgc (i:Nat){X:Cx}{scope:Scope}{cl:List (Str×Addr)}{NC:List Str}{C:Addr}{s0:Shared}{H0:Hp}{ex:List Addr}{pn:List (Addr×Obj)}{x:Str}{pos:Pos}(nd:NC.Nodup:=by decide +kernel)(hi:NC[i]?=some x:=by rfl)(hx:scope.names.lookup x=some .local:=by rfl):VG (cxC X scope cl NC C s0 H0 ex pn) (.Name x pos) [i] (gN i):=vgC i nd hi hx
def fsc {N P:List Str}{sc:Scope}(a:sc.kind=.function:=by rfl)(b:sc.isCoroutine=false:=by rfl)(c:sc.isGenerator=false:=by rfl)(d:N.Nodup:=by decide +kernel)(e:N.take P.length=P:=by rfl)(f:∀x∈P,sc.names.lookup x=some .local\/sc.names.lookup x=some .cell:=by decide +kernel)(g:∀y∈sc.names,y.2≠.free:=by decide +kernel):FnScope N P sc:=⟨a,b,c,d,e,f,g⟩
def vnC (N:List Str)(st:Stmt){X:Cx}{elt iter tg:Expr}{ifs:List Expr}{scope:Scope}{pos:Pos}{NC:List Str}(fr:List (Option Nat)){fi:FA}{g:FG}{is:List Nat}{ft:FT}{fe:FE}(hi:VI X tg iter fi)
 (hg:∀{cl C s0 H0 ex pn},VG (cxC X scope cl NC C s0 H0 ex pn) tg is g) (ht:∀{cl C s0 H0 ex pn},VTs (cxC X scope cl NC C s0 H0 ex pn) ifs ft) (he:∀{cl C s0 H0 ex pn},VE (cxC X scope cl NC C s0 H0 ex pn) elt fe)
 (hcalm:X.calm=true:=by rfl) (hcells:∀x,X.env.scope.names.lookup x=some .cell->∃c,X.env.cells.lookup x=some c:=by exact λx h=>zcM h) (hfk:X.env.scope.kind=.function:=by rfl) (hN:X.N=N:=by rfl) (hsc:X.env.scope.names=(zad st).names:=by rfl)
 (hfree':∀y∈scope.names,y.2=.free->(zad st).names.lookup y.1=some .cell:=by decide +kernel) (hcell:∀y∈scope.names,y.2≠.cell:=by decide +kernel) (hkind:scope.kind=.function:=by rfl) (hnames:∀y∈scope.names,y.2=.local->scope.names.lookup y.1=some .local:=by decide +kernel)
 (hfr':zep N (zad st).names scope.names NC fr=true:=by decide +kernel) (hlen:fr.length=NC.length:=by rfl) (hap:apart is fr=true:=by decide)
 (hs:∀x,foldedSetIterable iter X.env x=pure x:=by intro _;rfl):VN X (.ListComp elt [⟨tg,iter,ifs,0⟩] scope pos) (zh5 fr fi g ft fe):=
 zlo N st fr hcalm hi hcells hfk hN hsc hfree' hcell hkind hnames hfr' hlen hap (λ_ _ _ _ _ _=>hg) (λ_ _ _ _ _ _=>ht) (λ_ _ _ _ _ _=>he) hs
end
end VD
namespace EX
open PySem PySem.Spec PySem.W PyProof.Rows
section
variable {prog:Program}{w:World}{A:Around}{E:Value->Shared->Prop}{h:Heap}{g:Array GenState}{d:Drawn}{t:Nat}{os:OsState}
variable {nm q:Str}{C N:Addr}{bs bm bmB:List Value}{hdct:Bool}{sn:List Str}{sub:List Value}{ab:Bool}{col:Option Bool}{dd:Option Addr}{k0 k1 k2 k3 k5:Option Value}{B newId initId:String}
def zd1 (F:ExcBaseFacts B newId initId bmB)(T:OwnTail h bmB bm){mN:Str->Option Value}{rest:List Value}{fI:Addr}{oI:Obj}{Q:Fin->Shared->Prop}
 (hC:h.get? C=some (excClassObj nm q C N bs bm hdct sn sub ab col dd k0 k1 k2 k3 k5 newId)) (hn:h.Ns N mN) (hi:mN "__init__"=some (.ref fI))
 (hfI:h.get? fI=some oI) (hfc:oI.cls=.type "function")
 (hq:∀h' e,Heap.MadeExcOf h h' e (.ref C) rest->h.objs.size<=e->
  wpAny (model prog w) A (call (.ref fI) (.ref e::rest)) (λr s'=>r=.none/\Q (.done (.ret (.ref e))) s') E ⟨h',g,d,t,os⟩) (hrest:rest.length<=sizeLine:=by size_fits) :
 wpAny (model prog w) A (Builtin.«type.__call__» ⟨.ref C::rest,[]⟩) Q E ⟨h,g,d,t,os⟩:=by
 repeat (first|with_reducible refine waS hC ?_|with_reducible refine wpAny_madeBy_exc hC ?_|wp_step)
 refine codeAny_call_builtin_code (wbA _ F.quiet) (wpAny_check_new_subT F T hC ?_);refine codeAny_exc_new_subT F T hC ?_ hrest;show wpAny _ _ _ _ _ _
 have up:∀b o,h.get? b=some o->((h.push {cls:=.type "tuple",data:=.seq rest.toArray}).push {cls:=.ref C,data:=.fields #[.ref h.objs.size,.none,.none,.none,.bool false,.none]}).get? b=some o:=λb o e=>wab _ (wab _ e)
 have hC₁:=up _ _ hC
 have hfI₁:=up _ _ hfI
 have hn₁:=hn.keeps up
 have T₁:=T.keeps up
 have hget:((h.push {cls:=.type "tuple",data:=.seq rest.toArray}).push
  {cls:=.ref C,data:=.fields #[.ref h.objs.size,.none,.none,.none,.bool false,.none]}).get? (h.objs.size+1)=some
  {cls:=.ref C,data:=.fields #[.ref h.objs.size,.none,.none,.none,.bool false,.none]}:=by heap_get
 have hcC:(Value.ref C::bm).contains (.ref C)=true:=by simp
 unfold isInstance;repeat (first|with_reducible refine waS hget ?_|(with_reducible refine wbL hC₁ ?_;rw[hcC])|wp_step)
 show wpAny _ _ (typeLookup (.ref C) _) _ _ _
 refine wpAny_typeLookup_tail hC₁ hn₁ T₁ F.mroIs F.init.lookup ?_;rw[hi];refine wbr (waa ?_);unfold bindSpecial;refine waa (wcm (T:="function") ⟨_,hfI₁,hfc⟩ ?_);rw[if_pos (by decide)];refine wae (waa (war (hq _ (h.objs.size+1) ⟨up,waV (wbK _),h.objs.size,hget,waV (wai _),?_⟩ (wbK _)) (λr s' hr=>?_) λ_ _ x=>x))
 .exact wab _ (wbF rfl rfl)
 .obtain⟨rfl,hQ⟩:=hr;wp_walk
  exact hQ
def zij (F:ExcBaseFacts B newId initId bmB)(T:OwnTail h bmB bm){mN:Str->Option Value}{rest:List Value}{fI:Addr}{oI:Obj}{Q:Value->Shared->Prop}
 (hC:h.get? C=some (excClassObj nm q C N bs bm hdct sn sub ab col dd k0 k1 k2 k3 k5 newId)) (hn:h.Ns N mN) (hi:mN "__init__"=some (.ref fI))
 (hfI:h.get? fI=some oI) (hfc:oI.cls=.type "function")
 (hq:∀h' e,Heap.MadeExcOf h h' e (.ref C) rest->h.objs.size<=e->
  wpAny (model prog w) (A.under (.builtin "type.__call__" ⟨.ref C::rest,[]⟩)) (call (.ref fI) (.ref e::rest)) (λr s'=>r=.none/\Q (.ref e) s') E ⟨h',g,d,t,os⟩) (hrest:rest.length<=sizeLine:=by size_fits) :
 wpAny (model prog w) A (call (.ref C) rest) Q E ⟨h,g,d,t,os⟩:=by
 have f1:=tc_lookup
 have f2:=tc_bind (.ref C)
 have hT:(⟨h,g,d,t,os⟩:Shared).TypeIs (.ref C) "type":=⟨_,hC,rfl⟩
 refine wbW (codeAny_of_tree ?_);show wpAny _ _ (callAny (.ref C) _) _ _ _
 repeat (any_goals (first|assumption|with_reducible refine waS hC ?_|wp_step))
 refine⟨rfl,?_⟩;refine codeAny_call_builtin_at (wbA _ (by decide +kernel)) entry_typeCall (wpAny_check_type_call_sub hC (zd1 (hrest:=hrest) F T hC hn hi hfI hfc λh' e hm=>?_));exact hq h' e hm
end
def zoo:".".intercalate ("ValueError.__init__".cutAt '.').dropLast = "ValueError":=by decide +kernel
def ty_b (s:Shared):s.TypeIs (.builtin "ValueError.__init__") "wrapper_descriptor":=by
 show _=_
 kernel_rfl
def zlz:typeOf (.builtin "ValueError.__init__")=pure (.type "wrapper_descriptor"):=by kernel_rfl
def znb:typeLookup (.type "wrapper_descriptor") "__get__"=pure (some (.builtin "wrapper_descriptor.__get__")):=by rw[typeLookup_type,builtinLookup_eq_fast];kernel_rfl
def zjJ:Slot "wrapper_descriptor" "__get__" "wrapper_descriptor.__get__":=.of (owner:="wrapper_descriptor") (n:="__get__") (by rw[typeLookup_type,builtinLookup_eq_fast];kernel_rfl) (by decide +kernel) (by decide +kernel) (by decide +kernel)
 (by first|exact .inl (by decide +kernel)|exact .inr (by decide +kernel)) (by rw[isSubtype_type];kernel_rfl)
def zik:entryFor table "wrapper_descriptor.__get__"=some Builtin.«wrapper_descriptor.__get__»:=entryFor_of_tree (by kernel_rfl)
def zjK (a b c:Value):argsOk "wrapper_descriptor.__get__" ⟨[a,b,c],[]⟩:=by unfold argsOk;kernel_rfl
section
variable {prog:Program}{w:World}{A:Around}{E:Value->Shared->Prop}{h:Heap}{g:Array GenState}{d:Drawn}{t:Nat}{os:OsState}
variable {nm q:Str}{C N:Addr}{bs bm bmB:List Value}{hdct:Bool}{sn:List Str}{sub:List Value}{ab:Bool}{col:Option Bool}{dd:Option Addr}{k0 k1 k2 k3 k5:Option Value}{B newId:String}
def zil {so D x:Addr}{l₀ l:List Value}{K:Frag}{ox:Obj}{tk:Tok}{Q:Fin->Shared->Prop}
 (hso:h.get? so=some {cls:=.type "super",dict:=none,data:=.fields #[.ref D,.ref x,.ref C],slots:=#[]}) (hno:Looks (model prog w) h (opaqueClassAbove (.ref C)) none)
 (hC:Looks (model prog w) h (mroOf (.ref C)) l₀) (hl:(l₀.dropWhile (· != .ref D)).drop 1=l) (X:K.In h)
 (hf:alongIn K "__init__" l=some (some (.builtin "ValueError.__init__"))) (hxC:x≠C) (hx:h.get? x=some ox) (hxc:ox.cls=.ref C)
 (hO:h.get? C=some (excClassObj nm q C N bs bm hdct sn sub ab col dd k0 k1 k2 k3 k5 newId)) (hB:bm.contains (.type "ValueError")=true)
 (hq:Q (.done (.ret (.ref h.objs.size))) ⟨h.push {cls:=.type "method-wrapper",data:=.fields #[.builtin "ValueError.__init__",.ref x]},g,d,t,os⟩) :
 wpAny (model prog w) A (Builtin.«super.__getattribute__» ⟨[.ref so,.str "__init__" tk],[]⟩) Q E ⟨h,g,d,t,os⟩:=by
 have hne:(Value.ref x == Value.ref C)=false:=by simp[hxC]
 have hcB:(Value.ref C::bm).contains (.type "ValueError")=true:=by rw[List.contains_cons,hB,Bool.or_true]
 have hdt:({cls:=.type "super",dict:=none,data:=.fields #[.ref D,.ref x,.ref C],slots:=#[]}:Obj).data=.fields #[.ref D,.ref x,.ref C]:=rfl
 have f0:(#[.ref D,.ref x,.ref C]:Array Value)[0]?=some (.ref D):=rfl
 have f1:(#[.ref D,.ref x,.ref C]:Array Value)[1]?=some (.ref x):=rfl
 have f2:(#[.ref D,.ref x,.ref C]:Array Value)[2]?=some (.ref C):=rfl
 have hn:(("__init__" : Str) == ("__class__" : Str))=false:=by decide
 have hlk:=znb
 have hTb:∀s:Shared,s.TypeIs (.builtin "ValueError.__init__") "wrapper_descriptor":=λs=>ty_b s
 have hty:=zlz
 unfold Builtin.«super.__getattribute__»;repeat (first
 |(with_reducible refine waO hso hdt f0 ?_)|(with_reducible refine waO hso hdt f1 ?_)|(with_reducible refine waO hso hdt f2 ?_)
 |(with_reducible refine ks_wpAny_notOpaque hno ?_)
 |(with_reducible refine Looks.at hC ?_;rw[hl])
 |(refine ks_forIn_along X (λ_ _=>rfl) rfl ?_ hf)
 |(with_reducible refine wbX hty ?_)
 |(with_reducible refine wbX hlk ?_)
 |(with_reducible refine wbw zjJ (hTb _) zik ?_ (zjK _ _ _))
 |(with_reducible refine waS hx ?_;rw[hxc])
 |(rw[zoo];with_reducible refine wbL hO ?_;rw[hcB])
 |(with_reducible refine⟨_,rfl,?_⟩)
 |(simp only[hn,hne,Bool.or_false,wbB,if_false])
 |wp_step
 |dsimp only)
 all_goals exact hq
def zdl {so D x:Addr}{l₀ l:List Value}{K:Frag}{ox:Obj}{pl:Sem Bool}{Q:Value×List Value->Shared->Prop}
 (hso:h.get? so=some {cls:=.type "super",dict:=none,data:=.fields #[.ref D,.ref x,.ref C],slots:=#[]}) (hno:Looks (model prog w) h (opaqueClassAbove (.ref C)) none)
 (hC:Looks (model prog w) h (mroOf (.ref C)) l₀) (hl:(l₀.dropWhile (· != .ref D)).drop 1=l) (X:K.In h)
 (hf:alongIn K "__init__" l=some (some (.builtin "ValueError.__init__"))) (hxC:x≠C) (hx:h.get? x=some ox) (hxc:ox.cls=.ref C)
 (hO:h.get? C=some (excClassObj nm q C N bs bm hdct sn sub ab col dd k0 k1 k2 k3 k5 newId)) (hB:bm.contains (.type "ValueError")=true)
 (hq:Q (.ref h.objs.size,[]) ⟨h.push {cls:=.type "method-wrapper",data:=.fields #[.builtin "ValueError.__init__",.ref x]},g,d,t+1,os⟩) :
 wpAny (model prog w) A (getMethod (.ref so) "__init__" pl) Q E ⟨h,g,d,t,os⟩:=by
 have hlk:=F.ks_slot_super_ga.lookup
 have hcan:=F.ks_canon_super_ga
 have hT:∀t',(⟨h,g,d,t',os⟩:Shared).TypeIs (.ref so) "super":=λ_=>⟨_,hso,rfl⟩
 unfold getMethod;refine waa (wpAny_specialOf (hT _) hlk ?_);show wpAny _ _ (if(Manifest.canonical "super.__getattribute__" != "object.__getattribute__")=true then _ else _) _ _ _
 rw[if_pos hcan];unfold getAttr getAttrBy;refine waa (waa (wpAny_mkText (wbr (waa (wcm (hT _) (waa (wbX hlk ?_)))))));show wpAny _ _ (getAttrByItsOwn (.ref so) (.str "__init__" t) (.type "super") (.builtin "super.__getattribute__") true false) _ _ _
 unfold getAttrByItsOwn hookBefore callGetattribute boundAndCalled;refine waa (wbX (show(if onTheHeap (.type "super") then typeLookup (.type "super") "__getattr__" else pure none)=pure none from rfl) ?_);refine waa (wpAny_attempt (wbr ?_));show wpAny _ _ (bindSpecial (.builtin "super.__getattribute__") (.ref so) >>= _) _ _ _
 refine waa (wbX (F.ks_slot_super_ga.bind _) ?_);refine war (Q:=λv s'=>v=.ref h.objs.size/\s'=⟨h.push {cls:=.type "method-wrapper",data:=.fields #[.builtin "ValueError.__init__",.ref x]},g,d,t+1,os⟩) (E:=λ_ _=>False)
  (wbw F.ks_slot_super_ga (hT _) F.ks_entry_super_ga (zil hso hno hC hl X hf hxC hx hxc hO hB ⟨_,rfl,rfl,rfl⟩) (F.ks_gaArgs_super _ _)) (λv s' hv=>?_) λ_ _ z=>z.elim
 obtain⟨rfl,rfl⟩:=hv;exact wae (wae hq)
def zjL (F:ExcBaseFacts B newId "ValueError.__init__" bmB)(T:OwnTail h bmB bm){b e:Addr}{t0:Addr}{msg:Value}{dx:Option Addr}{R:Result->Shared->Prop}
 (hb:h.get? b=some {cls:=.type "method-wrapper",dict:=none,data:=.fields #[.builtin "ValueError.__init__",.ref e],slots:=#[]})
 (hC:h.get? C=some (excClassObj nm q C N bs bm hdct sn sub ab col dd k0 k1 k2 k3 k5 newId)) (he:h.get? e=some {cls:=.ref C,dict:=dx,data:=.fields #[.ref t0,.none,.none,.none,.bool false,.none]})
 (hq:∀h' tt,(∀b o,b≠e->h.get? b=some o->h'.get? b=some o)->h.get? tt=none->h'.get? e=some {cls:=.ref C,dict:=dx,data:=.fields #[.ref tt,.none,.none,.none,.bool false,.none]}->R (.ok (.ret .none)) ⟨h',g,d,t,os⟩) :
 codeAny (model prog w) A (.call (.ref b) ⟨[msg],[]⟩) R ⟨h,g,d,t,os⟩:=by
 refine codeAny_of_tree ?_;show wpAny _ A.in1 (callAny (.ref b) _) _ _ _
 unfold callAny;refine waa (wpAny_load hb ?_);dsimp only;rw[if_pos (by decide)];show wpAny _ _ (checkBoundCall "ValueError.__init__" ⟨[.ref e,msg],[]⟩ >>= λ_=>again (.builtin "ValueError.__init__" ⟨[.ref e,msg],[]⟩)) _ _ _
 refine waa ?_;have hshort:=F.noStar
 simp only[checkBoundCall,F.initKind,F.initRow];rw[if_pos (by decide)];unfold Bind.checkArgs;repeat (first|wp_step)
 refine⟨wbA _ (by decide +kernel),codeAny_builtin F.initEntry ?_⟩;rw[wcd F.init.plain _];wp_walk
 have hlt:h.objs.size≠e:=wck (wad he)
 refine hq _ h.objs.size (λb o hb hh=>?_) (waV (wai _)) ?_
 .rw[waA _ _ (Ne.symm hb)];exact wab _ hh
 .rw[waR _ (wab _ he) rfl];rfl
end
structure XC (K:Frag)(C N:Addr)(bm:List Value):Prop where
 obj:∃nm q bs hdct sn sub ab col dd k0 k1 k2 k3 k5,K.lookup C=some (excClassObj nm q C N bs bm hdct sn sub ab col dd k0 k1 k2 k3 k5 "ValueError.__new__")
 tail:∀h:Heap,K.In h->OwnTail h [.type "ValueError",.type "Exception",.type "BaseException",.type "object"] bm
 opq:nsIn K cStatics "thirdparty.any"=some none
 self:mroIn K C (.ref C)=some true
section
variable {prog:Program}{w:World}{A:Around}{E:Value->Shared->Prop}{h:Heap}{g:Array GenState}{d:Drawn}{t:Nat}{os:OsState}
variable {C N:Addr}{bm:List Value}{K:Frag}{env:Env}{body:List Stmt}{p0 p1 ap cp:Pos}{J:Expr}{f cda cc e t0:Addr}{of ocd:Obj}{fd:FuncData}{ar:Arg}{vs:Array Value}{file:Str}{tf:Tok}{mg mb m:Str->Option Value}{dx:Option Addr}
def zim {b e:Addr}{h:Heap}(hb:h.get? b=some {cls:=.type "method-wrapper",dict:=none,data:=.fields #[.builtin "ValueError.__init__",.ref e],slots:=#[]}){M:Model}:∃k,(k=Keeper.frame\/k=Keeper.machine\/k=Keeper.boundFrame)/\Looks M h (keeperOf (.ref b)) k:=
 ⟨.machine,.inr (.inl rfl),(Looks.ld (part:=none) hb).andThen .now⟩
def zgU (X:K.In h)(c:XC K C N bm)(hin:ks_superIn K C C "__init__"=some (some (.builtin "ValueError.__init__")))
 (hk:env.scope.kind=.function) (hks:env.kindOf "super"=some .globalImplicit) (hkc:env.kindOf "__class__"=some .free) (hka:env.kindOf ar.arg=some .local) (hfu:env.func=some f) (hf:h.get? f=some of) (hfd:of.data=.func fd)
 (hp:(fd.params.posonlyargs++fd.params.args).head?=some ar) (hco:env.code=.ref cda) (hcc:h.get? cda=some ocd) (hoc:ocd.data=.fields vs) (hvs:vs[2]?=some (.str file tf)) (hfile:((prog.main.file:Str) == file)=true)
 (htop:(prog.main.scope.names.lookup ("super" : Str)).isSome=false) (hG:h.Ns env.globals mg) (hmg:mg "super"=none) (hB:h.Ns env.builtins mb) (hmb:mb "super"=some (.type "super"))
 (hcl:env.cells.lookup ("__class__" : Str)=some cc) (hcell:h.IsCell cc (some (.ref C))) (hloc:h.Ns env.locals m) (hself:m ar.arg=some (.ref e))
 (he:h.get? e=some {cls:=.ref C,dict:=dx,data:=.fields #[.ref t0,.none,.none,.none,.bool false,.none]}) (heC:e≠C)
 (hJ:∀(h1:Heap) (tk:Nat) (Q:Value->Shared->Prop),(∀b o,h.get? b=some o->h1.get? b=some o)->(∀h2 x t' tk',(∀b o,h1.get? b=some o->h2.get? b=some o)->Q (.str x t') ⟨h2,g,d,tk',os⟩)->wpAny (model prog w) A (eval J env) Q E ⟨h1,g,d,tk,os⟩)
 (hst:starEach [J] env = [(false,eval J env)]) {pl:Sem Bool}(hE:eval (.Call (.Attribute (.Call (.Name "super" p0) [] [] p1) "__init__" ap) [J] [] cp) env=(do
  let ov <-attributeBase (.Call (.Name "super" p0) [] [] p1) "__init__" env (eval (.Call (.Name "super" p0) [] [] p1) env)
  standAt ap.atName
  let (f,first) <-holding [ov] (getMethod ov "__init__" pl)
  callWith cp f first (backTo cp (starEach [J] env)) []))
 {Q:Value->Shared->Prop}
 (hq:∀h' tt tk,(∀b o,b≠e->h.get? b=some o->h'.get? b=some o)->h'.get? e=some {cls:=.ref C,dict:=dx,data:=.fields #[.ref tt,.none,.none,.none,.bool false,.none]}->Q .none ⟨h',g,d,tk,os⟩) :
 PySem.wpAt (model prog w) A (.func body env) (eval (.Call (.Attribute (.Call (.Name "super" p0) [] [] p1) "__init__" ap) [J] [] cp) env) Q E ⟨h,g,d,t,os⟩:=by
 obtain⟨nm,q,bs,hdct,sn,sub,ab,col,dd,k0,k1,k2,k3,k5,ho⟩:=c.obj;have hC:=X _ _ ho
 refine ks_wpAt_MethodCall (pl:=pl) ?_ hE;refine ks_wpAt_super_base hks hkc (by decide) hfu hf hfd hp hco hcc hoc hvs hfile htop ?_;refine ks_loadName_global hk hks (Calls.loadGlobal_builtin hG hmg hB hmb ⟨rfl,?_⟩);refine wpAny_loadName_free hk hkc hcl hcell ?_;refine wbl hk hka hloc hself ?_;refine ks_wpAny_isType_cls hC rfl ⟨rfl,?_⟩;refine ks_wpAny_call_super hC rfl he rfl (λc z=>by cases z) (looks_mroIn X c.self) λh1 e1 k1'=>?_
 have hx1:=k1' _ _ he
 have hC1:=k1' _ _ hC
 have X1:K.In h1:=X.keeps k1'
 obtain⟨cd,hcd⟩:∃cd,clsIn K C=some cd:=⟨_,by unfold clsIn;rw[ho]⟩
 unfold ks_superIn at hin;rw[hcd] at hin;refine zdl e1 (looks_opaque X1 c.opq) (l₀:=cd.mro) (λA Q E s k q=>waa ((looks_clsIn X1 hcd) A _ E s k (wae q))) rfl X1 hin heC hx1 rfl hC1 ((c.tail h1 X1).hasType (by decide)) ?_;have up2:∀b o,h1.get? b=some o->(h1.push {cls:=.type "method-wrapper",data:=.fields #[.builtin "ValueError.__init__",.ref e]}).get? b=some o:=λb o z=>wab _ z
 rw[hst];refine callWith_of (P:=λh2=>h2.get? h1.objs.size=some {cls:=.type "method-wrapper",dict:=none,data:=.fields #[.builtin "ValueError.__init__",.ref e],slots:=#[]}) rfl (λh2 z=>zim z) ?_;refine Calls.evalArgs_plain ?_;refine wbQ (hJ _ _ _ (λb o z=>up2 b o (k1' b o z)) λh2 x t' tk' k9=>Calls.spliced_nil ⟨k9 _ _ (wbF rfl rfl),?_⟩);refine wbW (zjL wbG (c.tail _ ((X1.keeps up2).keeps k9)) (k9 _ _ (wbF rfl rfl)) (k9 _ _ (up2 _ _ hC1)) (k9 _ _ (up2 _ _ hx1)) λh' tt k2 _ he'=>?_);exact hq h' tt _ (λb o hb z=>k2 b o hb (k9 b o (up2 b o (k1' b o z)))) he'
end
open Builtin.ObjectAttr
def zcl:List Value->Bool
|.ref _::r=>zcl r
|l=>l == [.type "ValueError",.type "Exception",.type "BaseException",.type "object"]
def zkz {P:List Value->Prop}(h0:P [.type "ValueError",.type "Exception",.type "BaseException",.type "object"])(h1:∀c r,P r->P (.ref c::r)):∀{l:List Value},zcl l=true->P l:=by
 intro l;induction l with
|nil=>intro e;cases e
|cons v r ih=>
   intro e;by_cases hv:∃c,v=.ref c
   .obtain⟨c,rfl⟩:=hv;exact h1 c r (ih e)
   .have:v::r = [.type "ValueError",.type "Exception",.type "BaseException",.type "object"]:=by
     cases v <;> first|exact beq_iff_eq.mp e|exact absurd ⟨_,rfl⟩ hv
    rw[this];exact h0
def zin (self:Value){l:List Value}:zcl l=true->refuseLoop self "__setattr__" l=pure ():=
 zkz (P:=λl=>refuseLoop self "__setattr__" l=pure ()) (PySem.F.store_ValueError.passes self) λc r e=>(refuseLoop_ref _ _ _ _).trans e
def znc {l:List Value}:zcl l=true->l.contains (.type "object")=true:=
 zkz (P:=λl=>l.contains (.type "object")=true) (by decide) λc r e=>by rw[List.contains_cons,e,Bool.or_true]
section
variable {prog:Program}{w:World}{A:Around}{E:Value->Shared->Prop}{h:Heap}{g:Array GenState}{d:Drawn}{t:Nat}{os:OsState}
variable {C N x:Addr}{K:Frag}{o:Obj}{name:Str}{v:Value}{Q:Unit->Shared->Prop}{R:Result->Shared->Prop}{s:Shared}
def zlA {ox:Obj}{od:Option Obj}{tk:Tok}{r:Option Value}(X:K.In s.heap)(I:InstAt s.heap x ox C od)(hp:(clsIn K C).any (λcd=>zcl cd.mro)=true)(ht:takerIn K C name=some r)
 (h:∀b,wpAny (model prog w) A.in1 (match r with|some a=>setByDescriptor a (.ref x) v|none=>storeInOwnDict (.ref x) (.ref C) (.str name tk) name v b)
  (λfin s'=>match fin with|.done f=>R (.ok f) s'|.again c'=>c'.quiet=true/\codeAny (model prog w) A c' R s') (λe s'=>R (.error e) s') s) :
 codeAny (model prog w) A (.call (.builtin "object.__setattr__") ⟨[.ref x,.str name tk,v],[]⟩) R s:=by
 have SF:=PySem.F.store_object
 obtain⟨cd,hc,ho⟩:=any_some hp;have ne:cd.mro.isEmpty=false:=by cases q:cd.mro with|nil=>rw[q] at ho;cases ho|cons _ _=>rfl
 have sub:Looks (model prog w) s.heap (isInstance (.ref x) (.type "object")) true:=I.type.andThen (looks_mroIn X (by unfold mroIn;rw[hc,zOB,if_neg (by rw[ne];decide),znc ho]))
 refine wbH SF.slot.plain SF.entry (@check_slot (model prog w) _ _ s "object.__setattr__" "object" "__setattr__" (.ref x) [.str name tk,v] [] _ SF.kind SF.split sub (SF.args (.ref x) (.str name tk) v) ?_);obtain⟨attr,ha,hr⟩:=Option.bind_eq_some_iff.mp ht;have hm:Looks (model prog w) s.heap (mroOf (.ref C)) cd.mro:=(looks_clsIn X hc).andThen .now
 have L3:Looks (model prog w) s.heap (storeTaker? attr) r:=by
  cases attr with
 |none=>cases hr;exact .now
 |some a=>
    obtain⟨b,hb,rfl⟩:=waY.mp hr;refine(looks_takesIn X hb).andThen ?_;cases b <;> exact .now
 rw[osa_eq,refuse_eq];refine waa (waa (I.type.here (waa (hm.here ?_))));rw[zin _ ho];refine wae (waa (I.type.here (waa ((looks_findIn X ha).here (waa (L3.here ?_))))));exact h _
def zlB (X:K.In h)(hx:h.get? x=some o)(hc:o.cls=.ref C)(hno:notCls o=true)(hd:o.dict=none)
 (hs:findIn K (.ref C) "__setattr__"=some (some (.builtin "object.__setattr__"))) (hp:(clsIn K C).any (λcd=>zcl cd.mro)=true) (ht:takerIn K C name=some none) (hh:(clsIn K C).any (·.hasDict)=true)
 (hq:∀h' dx tk',h.objs.size<=dx->dx≠x->h'.get? x=some {o with dict:=some dx}->h'.Ns1 dx (λy=>if y=name then some v else none)->(∀b ob,b≠x->h.get? b=some ob->h'.get? b=some ob)->Q () ⟨h',g,d,tk',os⟩) :
 wpAny (model prog w) A (setAttr (.ref x) name v) Q E ⟨h,g,d,t,os⟩:=by
 have J:InstAt h x o C none:=⟨hx,hc,hno,by rw[hd];trivial⟩
 refine set_plain X J hs (zlA (s:=⟨h,g,d,t+1,os⟩) (r:=none) X J hp ht λb=>?_);obtain⟨cd,hcd,hd'⟩:=any_some hh;have hx₁:(h.push {cls:=.type "dict",data:=.dict #[]}).get? x=some o:=wab _ hx
 have hxs:x≠h.objs.size:=wap (wad hx)
 refine waa (wae (waa (waa (wpAny_loadPart hx ?_))));rw[hc];refine waa ((looks_clsIn X hcd).here ?_);rw[hd'];dsimp only[Bool.not_true];rw[hd];dsimp only;rw[if_neg (by simp[typeHasDict])];split
 .rename_i q
  cases q
 split
 .rename_i c hcd'
  unfold notCls at hno;rw[hcd'] at hno;cases hno
 refine waa (wpAny_alloc' ?_);refine waa (wpAny_update' hx₁ ?_);have hgd:((h.push {cls:=.type "dict",data:=.dict #[]}).update x λo=>{cls:=o.cls,dict:=some h.objs.size,data:=o.data,slots:=o.slots}).get? h.objs.size
  = some {cls:=.type "dict",data:=.dict #[]}:=
  (Heap.get?_update_ne _ _ _ _ hxs.symm).trans (wbF rfl rfl)
 have hnd:((h.push {cls:=.type "dict",data:=.dict #[]}).update x λo=>{cls:=o.cls,dict:=some h.objs.size,data:=o.data,slots:=o.slots}).Ns h.objs.size (λ_=>none):=
  ⟨_,#[],_,hgd,rfl,λe he=>absurd he (by simp),λ_=>rfl⟩
 refine wae ?_;show wpAny _ _ (storeInDict h.objs.size (.str name _) name v) _ _ _
 unfold storeInDict newKeyGuard;refine waa (wae (waa (wpAny_nsSet1 (Heap.Ns1.of_empty hnd) λh' hn' hs=>?_)));obtain⟨oD,esD,epD,hoD,hdD,hcD⟩:=hn'.count (Within.cons name v Within.nil);refine waa (wpAny_lookBehind hoD (by rw[hdD];exact pastItsLine_dict (wam hcD (by rw[wbg,List.length_nil,sizeLine_eq];omega))) ?_);refine wae (hq h' h.objs.size _ (wai _) hxs.symm ?_ hn' λb ob hbx hb=>?_)
 .refine(hs.2 x hxs).trans (waR _ hx₁ ?_);have hfr:=(Heap.get?_some_iff.mp hx).2
  obtain⟨oc,od,odt,osl⟩:=o;cases odt <;> first|rfl|exact hfr
 .exact(hs.2 b (wap (wad hb))).trans ((Heap.get?_update_ne _ _ _ _ hbx).trans (wab _ hb))
end
structure XI (prog:Program)(w:World)(K:Frag)(C N fI:Addr)(bm:List Value)(slf x nm:Str)(J:Expr)(fd:FuncData):Prop where
 cls:XC K C N bm
 inC:ks_superIn K C C "__init__"=some (some (.builtin "ValueError.__init__"))
 set:findIn K (.ref C) "__setattr__"=some (some (.builtin "object.__setattr__"))
 und:(clsIn K C).any (λcd=>zcl cd.mro)=true
 tak:takerIn K C nm=some none
 hasD:(clsIn K C).any (·.hasDict)=true
 fn:∃o,K.lookup fI=some o/\o.cls=.type "function"/\o.data=.func fd
 names:∃mN,(∀h:Heap,K.In h->h.Ns N mN)/\mN "__init__"=some (.ref fI)
 code:∀h:Heap,K.In h->h.CodeRec fd.code fd.qualname
 body:∃p0 p1 ap cp q1 q2 q3 q4 q5,fd.body=.stmts [.Expr (.Call (.Attribute (.Call (.Name "super" p0) [] [] p1) "__init__" ap) [J] [] cp) q1,.Assign [.Attribute (.Name slf q2) nm q3] (.Name x q4) q5]/\
  (∀L,interactive (callEnv fd L fI)=false)/\(∀L,swapsWith (.Call (.Attribute (.Call (.Name "super" p0) [] [] p1) "__init__" ap) [J] [] cp) none q1.line (callEnv fd L fI)=pure false)/\
  (∀L,swapsWith (.Name x q4) (some (.Attribute (.Name slf q2) nm q3)) q5.line (callEnv fd L fI)=pure false)/\
  (∀L,starEach [J] (callEnv fd L fI) = [(false,eval J (callEnv fd L fI))])/\
  ∃pl:Addr->Sem Bool,∀L,eval (.Call (.Attribute (.Call (.Name "super" p0) [] [] p1) "__init__" ap) [J] [] cp) (callEnv fd L fI)=(do
   let ov <-attributeBase (.Call (.Name "super" p0) [] [] p1) "__init__" (callEnv fd L fI) (eval (.Call (.Name "super" p0) [] [] p1) (callEnv fd L fI))
   standAt ap.atName
   let (f,first) <-holding [ov] (getMethod ov "__init__" (pl L))
   callWith cp f first (backTo cp (starEach [J] (callEnv fd L fI))) [])
 ne:slf≠x
 dbg:(x == ("__debug__" : Str))=false/\(slf == ("__debug__" : Str))=false
 par:∃ar:Arg,(fd.params.posonlyargs++fd.params.args).head?=some ar/\ar.arg=slf
 bind:∀(s:Shared) (a b:Value),BindsTo s fd ⟨[a,b],[]⟩ [(slf,a),(x,b)]
 cell:∀z∈fd.scope.names,z.2≠.cell
 loc1:fd.scope.names.lookup slf=some .local
 loc2:fd.scope.names.lookup x=some .local
 flags:fd.scope.isCoroutine=false/\fd.scope.isGenerator=false/\fd.scope.kind=.function
 kinds:∀L,(callEnv fd L fI).kindOf "super"=some .globalImplicit/\(callEnv fd L fI).kindOf "__class__"=some .free/\(callEnv fd L fI).kindOf slf=some .local/\(callEnv fd L fI).kindOf x=some .local
 file:∃cda ocd vs fl tf,fd.code=.ref cda/\K.lookup cda=some ocd/\ocd.data=.fields vs/\vs[2]?=some (.str fl tf)/\((prog.main.file:Str) == fl)=true
 top:(prog.main.scope.names.lookup ("super" : Str)).isSome=false
 glob:∀L,(callEnv fd L fI).globals=mainGlobals
 blt:∀L,(callEnv fd L fI).builtins=builtinsNs
 cc:∃cc,(∀L,(callEnv fd L fI).cells.lookup ("__class__" : Str)=some cc)/\∀h:Heap,K.In h->h.IsCell cc (some (.ref C))
structure Gx (h:Heap):Prop where
 lim:h.NoLimit
 g:∃mg,h.Ns mainGlobals mg/\mg "super"=none
 b:∃mb,h.Ns builtinsNs mb/\mb "super"=some (.type "super")
theorem Gx.keeps {h h':Heap}(G:Gx h)(k:∀b o,h.get? b=some o->h'.get? b=some o):Gx h':=
 ⟨G.lim.keeps k,let ⟨m,a,b⟩:=G.g;⟨m,a.keeps k,b⟩,let ⟨m,a,b⟩:=G.b;⟨m,a.keeps k,b⟩⟩
section
variable {prog:Program}{w:World}{A:Around}{E:Value->Shared->Prop}{h:Heap}{g:Array GenState}{d:Drawn}{t:Nat}{os:OsState}
variable {C N fI:Addr}{bm:List Value}{slf x nm:Str}{J:Expr}{fd:FuncData}{K:Frag}
def Says (prog:Program)(w:World)(K:Frag)(fd:FuncData)(fI:Addr)(x:Str)(J:Expr)(v:Value)(h0:Heap):Prop:=
 ∀(A:Around) (E:Value->Shared->Prop) (h1:Heap) (g:Array GenState) (d:Drawn) (os:OsState) (tk:Nat) (L:Addr) (m:Str->Option Value) (Q:Value->Shared->Prop),A.guards=some []->A.units+20<cLine->K.In h1->(∀b o,h0.get? b=some o->h1.get? b=some o)->h1.Ns L m->m x=some v->
  (∀h2 y t' tk',(∀b o,h1.get? b=some o->h2.get? b=some o)->Q (.str y t') ⟨h2,g,d,tk',os⟩)->wpAny (model prog w) A (eval J (callEnv fd L fI)) Q E ⟨h1,g,d,tk,os⟩
def Says.later {h':Heap}{v:Value}(a:Says prog w K fd fI x J v h)(k:∀b o,h.get? b=some o->h'.get? b=some o):Says prog w K fd fI x J v h':=
 λA E h1 g d os tk L m Q hg hu z k1=>a A E h1 g d os tk L m Q hg hu z λb o e=>k1 b o (k b o e)
def zio (hgd:A.guards=some [])(hun:A.units+20<cLine)(X:K.In h)(G:Gx h)(c:XI prog w K C N fI bm slf x nm J fd){v:Value}(hJ:Says prog w K fd fI x J v h){L e t0:Addr}{m:Str->Option Value}(hloc:h.Ns L m)(m1:m slf=some (.ref e))(m2:m x=some v)
 (he:h.get? e=some {cls:=.ref C,dict:=none,data:=.fields #[.ref t0,.none,.none,.none,.bool false,.none]}) (heL:e≠L) (heK:K.lookup e=none) {body:List Stmt}(hb:fd.body=.stmts body)
 {Q:Flow->Shared->Prop}
 (hq:∀h' dx tt tk,h'.get? e=some {cls:=.ref C,dict:=some dx,data:=.fields #[.ref tt,.none,.none,.none,.bool false,.none]}->L<dx->h'.Ns1 dx (λy=>if y=nm then some v else none)->
  (∀b o,b≠e->h.get? b=some o->h'.get? b=some o)->Q .next ⟨h',g,d,tk,os⟩) :
 PySem.wpAt (model prog w) A (.func body (callEnv fd L fI)) (execs body (callEnv fd L fI)) Q E ⟨h,g,d,t,os⟩:=by
 obtain⟨p0,p1,ap,cp,q1,q2,q3,q4,q5,hbd,hint,hs1,hs2,hst,pl,hE⟩:=c.body;rw[hbd] at hb;cases hb;obtain⟨of,hf,hfc,hfd⟩:=c.fn;obtain⟨ar,hp,rfl⟩:=c.par;obtain⟨cda,ocd,vs,fl,tf,hco,hcc,hoc,hvs,hfile⟩:=c.file;obtain⟨mg,hG,hmg⟩:=G.g;obtain⟨mb,hB,hmb⟩:=G.b;obtain⟨cc,hcl,hcell⟩:=c.cc;obtain⟨k1,k2,k3,k4⟩:=c.kinds L;have hk:(callEnv fd L fI).scope.kind=.function:=c.flags.2.2
 have heC:e≠C:=by
  rintro rfl;obtain⟨nm,q,bs,hdct,sn,sub,ab,col,dd,k0,k1,k2,k3,k5,ho⟩:=c.cls.obj;rw[heK] at ho;cases ho
 refine ks_wpAt_execs_cons (ks_wpAt_Expr_any ?_ (hint L) (hs1 L));refine zgU X c.cls c.inC hk k1 k2 k3 rfl (X _ _ hf) hfd hp hco (X _ _ hcc) hoc hvs hfile c.top (by rw[c.glob L];exact hG) hmg (by rw[c.blt L];exact hB) hmb (hcl L) (hcell _ X) hloc m1 he heC ?_ (hst L) (hE L) ?_
 .intro h1 tk Q1 hk1 hq1;exact hJ A E h1 g d os tk L m Q1 hgd hun (X.keeps hk1) hk1 (hloc.keeps hk1) m2 hq1
 intro h' tt tk hk' he';have X':K.In h':=λb o ho=>hk' b o (λz=>by rw[z,heK] at ho;cases ho) (X b o ho)
 have hloc':h'.Ns L m:=by obtain⟨o,es,ep,a1,a2⟩:=hloc;exact⟨o,es,ep,hk' _ _ heL.symm a1,a2⟩
 dsimp only;refine ks_wpAt_execs_cons (ks_wpAt_Assign_Attr ?_ (hs2 L));refine wpAt_of_wpAny (wco (wbl hk k4 hloc' m2 ?_) c.dbg.1);refine wco (wbl hk k3 hloc' m1 ?_) c.dbg.2;refine zlB X' he' rfl rfl rfl c.set c.und c.tak c.hasD λh2 dx tk2 hdx hne he2 hns2 hk2=>?_
 dsimp only;refine wpAt_of_wpAny (wae (hq h2 dx tt tk2 he2 ?_ hns2 λb o hb z=>hk2 b o hb (hk' b o hb z)));obtain⟨o,es,ep,a1,a2⟩:=hloc';exact wak (wad a1) hdx
def zjM (hgd:A.guards=some [])(hun:A.units+40<cLine)(X:K.In h)(G:Gx h)(c:XI prog w K C N fI bm slf x nm J fd){v:Value}(hJ:Says prog w K fd fI x J v h)(hroom:A.depth+1<recursionLimit)
 {Q:Value->Shared->Prop}
 (hq:∀h' e dx tt tk,h.objs.size<=e->h'.get? e=some {cls:=.ref C,dict:=some dx,data:=.fields #[.ref tt,.none,.none,.none,.bool false,.none]}->h.objs.size<=dx->h'.Ns1 dx (λy=>if y=nm then some v else none)->
  (∀b o,h.get? b=some o->h'.get? b=some o)->Q (.ref e) ⟨h',g,d,tk,os⟩) :
 wpAny (model prog w) A (call (.ref C) [v]) Q E ⟨h,g,d,t,os⟩:=by
 obtain⟨of,hf,hfc,hfd⟩:=c.fn;obtain⟨mN,hN,hmN⟩:=c.names;obtain⟨nm',q,bs,hdct,sn,sub,ab,col,dd,k0,k1,k2,k3,k5,ho⟩:=c.cls.obj;refine zij wbG (c.cls.tail h X) (X _ _ ho) (hN h X) hmN (X _ _ hf) hfc λh1 e M hse=>?_
 obtain⟨up,hne,t0,he,ht0,htt⟩:=M;have X1:K.In h1:=X.keeps up
 obtain⟨p0,p1,ap,cp,q1,q2,q3,q4,q5,hbd,-⟩:=c.body;refine wbW (ks_codeAny_call_defAt ?_ (X1 _ _ hf) hfd (G.keeps up).lim (c.code _ X1) hbd (c.bind _ _ _) c.cell ?_ ?_ c.flags.1 c.flags.2.1 c.flags.2.2)
 .first|exact Nat.lt_of_succ_lt hroom|exact hroom
 .intro z hz;simp only[wah,waI,or_false] at hz;rcases hz with rfl|rfl
  .exact c.loc1
  .exact c.loc2
 intro h2 hns hk2;have X2:K.In h2:=X1.keeps hk2
 have heK:K.lookup e=none:=by
  cases hz:K.lookup e with
 |none=>rfl
 |some o=>rw[X _ _ hz] at hne;cases hne
 refine zio (by first|exact hgd|(show(A.under _).guards=_;first|exact hgd|simp[hgd])) (by show(A.under _).units+3+20<cLine;rw[L2.make_units];omega) X2 ((G.keeps up).keeps hk2) c (hJ.later λb o z=>hk2 b o (up b o z)) hns ?_ ?_ (hk2 _ _ he) (wap (wad he)) heK hbd ?_
 .have:(slf == x)=false:=by simpa using c.ne
  simp[List.lookup,this]
 .simp[List.lookup]
 intro h' dx tt tk he' hdx hns' hk';refine⟨rfl,hq h' e dx tt tk hse he' ?_ hns' λb o z=>?_⟩
 .exact wbp (Nat.lt_of_le_of_lt (wam hse (wbp (wad he))) hdx)
 .refine hk' b o (λz'=>?_) (hk2 _ _ (up _ _ z));rw[z',hne] at z;cases z
end
end EX
namespace EX
open PySem PySem.Spec PyProof.Rows L2
def XAt (h0:Heap)(H:Hp)(h:Heap)(e:Addr)(cls:Value)(dx:Option Addr):Prop:=
 h0.objs.size<=e/\H e=none/\(∀d,dx=some d->h0.objs.size<=d)/\∃vs sl,h.get? e=some ⟨cls,dx,.fields vs,sl⟩ /\(vs[1]?=some .none\/∃T oT ts,vs[1]?=some (.ref T)/\T≠e/\h0.objs.size<=T/\H T=none/\h.get? T=some oT/\oT.data=.fields ts/\ts[3]?=some .none)
structure LeftX (h0:Heap)(H:Hp)(l:List Env)(base h h':Heap)(e:Addr)(cls:Value)(dx:Option Addr):Prop where
 funs:h'.FunFrames base l
 size:h.objs.size<=h'.objs.size
 keep:∀b o,h.get? b=some o->(b<h0.objs.size\/H b≠none)->b∉frs l->h'.get? b=some o
 slot:∀b o,h.get? b=some o->(b<h0.objs.size\/H b≠none)->∃sl,h'.get? b=some {o with slots:=sl}
 at_:XAt h0 H h' e cls dx
section
variable {M:Model}{A:Around}{E:Value->Shared->Prop}{s:Shared}{h0 base:Heap}{H:Hp}{env:Env}{outer:List Env}{L e:Addr}{cls:Value}{dx:Option Addr}{vs:Array Value}{sl:Array (Option Value)}
def ze7 {head:Value}{hadNext:Bool}{Q:Unit->Shared->Prop}(hfr:A.frames=some (env::outer))(hl:s.heap.FunFrames base (env::outer))(hf:env.frame=some L)
 (e0:h0.objs.size<=e) (eH:H e=none) (eD:∀d,dx=some d->h0.objs.size<=d) (he:s.heap.get? e=some ⟨cls,dx,.fields vs,sl⟩) (hsz:1<vs.size) (hz:h0.objs.size<=s.heap.objs.size) (hH:∀b,s.heap.objs.size<=b->H b=none)
 (h:∀h',LeftX h0 H (env::outer) base s.heap h' e cls dx->Q () {s with heap:=h'}) :
 wpAny M A (do let a <-frameOf env;let pl <-entryPlaceOf L hadNext;let b <-EntryCells.newEntry head a .none (rawInt L) .none pl;setField (.ref e) 1 b) (λ_ s'=>wpAny M A (setFlight (.ref e) none) Q E s') E s:=by
 have hene:e∉(env::outer).filterMap (·.frame):=λhm=>by
  obtain⟨_,o,ho,hnf⟩:=hl.mem hm;rw[he] at ho;injection ho with ho;subst ho;exact hnf vs rfl
 refine waa (wpAny_frameOf_fun hfr hl hf λh₁ hs₁=>?_);refine waa (wpAny_entryPlaceOf λpl hpl=>?_);unfold EntryCells.newEntry newFields;refine waa (waQ ?_ (hpl.sizeOk5 _ _ _ _ _));have he₁:h₁.get? e=some ⟨cls,dx,.fields vs,sl⟩:=(hs₁.2.1 e hene).trans he
 have he₂:=wab (h:=h₁) {cls:=.type "traceback",dict:=none,data:=.fields ([head,.ref L,.none,rawInt L,.none]++(if pl.isEmpty then List.replicate 6 Value.none else pl)).toArray} he₁
 refine wbI he₂ rfl hsz ?_;have hTe:h₁.objs.size≠e:=wck (wad he₁)
 have hd₃:=wbc (o:=⟨cls,dx,.fields vs,sl⟩) rfl (·.setIfInBounds 1 (Value.ref h₁.objs.size))
 have he₃:=waR (Obj.mapFields (·.setIfInBounds 1 (Value.ref h₁.objs.size))) he₂ (wbD hd₃)
 have hT₃:=(waA (h₁.push {cls:=.type "traceback",dict:=none,data:=.fields ([head,.ref L,.none,rawInt L,.none]++(if pl.isEmpty then List.replicate 6 Value.none else pl)).toArray})
  (Obj.mapFields (·.setIfInBounds 1 (Value.ref h₁.objs.size))) (Ne.symm hTe)).trans (wat h₁ rfl)
 unfold setFlight;refine waa (waO he₃ hd₃ (x:=.ref h₁.objs.size) (by simp[hsz]) ?_);rw[if_pos (show(Value.ref h₁.objs.size != Value.none)=true from by simp)];refine wbI hT₃ rfl (by simp only[wac,wal,wbg,List.length_nil] <;> omega) (h _ ?_);have keep:∀b o,b≠e->h₁.get? b=some o->
  (((h₁.push {cls:=.type "traceback",dict:=none,data:=.fields ([head,.ref L,.none,rawInt L,.none]++(if pl.isEmpty then List.replicate 6 Value.none else pl)).toArray}).update e (Obj.mapFields (·.setIfInBounds 1 (Value.ref h₁.objs.size)))).update h₁.objs.size
    (Obj.mapFields (·.setIfInBounds 3 ((none:Option Addr).elim Value.none λf=>rawInt f)))).get? b=some o:=λb o hbe hb=>by
  have hbT:h₁.objs.size≠b:=wck (wad hb)
  rw[waA _ _ hbT,waA _ _ (Ne.symm hbe)];exact wab _ hb
 have noRecord:∀b o,s.heap.get? b=some o->(∀vs,o.data≠.fields vs)->b≠e:=λb o hb hnf q=>by
  rw[q,he] at hb;injection hb with hb;subst hb;exact hnf vs rfl
 have ne:∀b,(b<h0.objs.size\/H b≠none)->b≠e:=λb z q=>by rw[q] at z;exact z.elim (λz=>absurd z (Nat.not_lt.mpr e0)) λz=>z eH
 have hn0:h0.objs.size<=h₁.objs.size:=by rw[hs₁.1];exact hz
 refine⟨hl.of_keeps λb o hb hnf=>?_,?_,λb o hb z hbf=>keep b o (ne b z) ((hs₁.2.1 b hbf).trans hb),λb o hb z=>?_,e0,eH,eD,?_⟩
 .obtain⟨sl,hs⟩:=hs₁.2.2 b o hb;exact⟨_,keep b _ (noRecord b o hb hnf) hs,rfl⟩
 .rw[wbf,wbf,wbj,hs₁.1];exact wbK _
 .obtain⟨sl,hs⟩:=hs₁.2.2 b o hb;exact⟨sl,keep b _ (ne b z) hs⟩
 .refine⟨vs.setIfInBounds 1 (.ref h₁.objs.size),sl,?_,.inr ⟨h₁.objs.size,_,_,by simp[hsz],hTe,hn0,hH _ (by rw[hs₁.1];exact wai _),waR _ hT₃ (wbD (wbc rfl _)),wbc rfl _,by first|(simp;done)|(rcases hpl with rfl|⟨_,_,_,_,_,_,_,rfl⟩ <;> simp)⟩⟩;rw[waA _ _ hTe];exact he₃
def znd {Q:Unit->Shared->Prop}(hfr:A.frames=some (env::outer))(hl:s.heap.FunFrames base (env::outer))(hf:env.frame=some L)(X:XAt h0 H s.heap e cls dx)
 (hz:h0.objs.size<=s.heap.objs.size) (hH:∀b,s.heap.objs.size<=b->H b=none)
 (h:∀h',LeftX h0 H (env::outer) base s.heap h' e cls dx->Q () {s with heap:=h'}):wpAny M A (noteFrame (.ref e) env) (λ_ s'=>wpAny M A (setFlight (.ref e) none) Q E s') E s:=by
 obtain⟨e0,eH,eD,vs,sl,he,h1|⟨T,oT,ts,h1,hTe,hnT,HT,hT,hdT,h3⟩⟩:=X
 .unfold noteFrame;simp only[hf];refine waa (waO he rfl h1 ?_);rw[if_neg (by decide)];exact ze7 hfr hl hf e0 eH eD he (waL.mp h1).1 hz hH h
 .unfold noteFrame;simp only[hf];refine waa (waO he rfl h1 ?_);rw[if_pos (show(Value.ref T != Value.none)=true from by simp)];refine waa (waO hT hdT h3 ?_);rw[if_neg (show ¬((Value.none == rawInt L)=true) from by simp[rawInt])];refine waa (wbI hT hdT (waL.mp h3).1 ?_);have other:∀b,b≠T->(s.heap.update T (Obj.mapFields (·.setIfInBounds 3 Value.none))).get? b=s.heap.get? b:=λb hb=>waA _ _ (Ne.symm hb)
  have noRecord:∀b o,s.heap.get? b=some o->(∀vs,o.data≠.fields vs)->b≠T:=λb o hb hnf q=>by
   rw[q,hT] at hb;injection hb with hb;subst hb;exact hnf ts hdT
  have ne:∀b,(b<h0.objs.size\/H b≠none)->b≠T:=λb z q=>by rw[q] at z;exact z.elim (λz=>absurd z (Nat.not_lt.mpr hnT)) λz=>z HT
  refine ze7 hfr (hl.of_keeps λb o hb hnf=>⟨o,(other b (noRecord b o hb hnf)).trans hb,rfl⟩) hf e0 eH eD ((other e (Ne.symm hTe)).trans he) (waL.mp h1).1
   (by show _<=(s.heap.update T _).objs.size;rw[wbf];exact hz) (λb hb=>hH b (by rw[<-wbf s.heap T];exact hb))
   λh' ⟨x1,x2,x3,x4,x5⟩ =>h h' ⟨x1,by rw[<-wbf s.heap T];exact x2,λb o hb z hbf=>x3 b o ((other b (ne b z)).trans hb) z hbf,λb o hb z=>x4 b o ((other b (ne b z)).trans hb) z,x5⟩
def zne {Q:Unit->Shared->Prop}(hfr:A.frames=some (env::outer))(hl:s.heap.FunFrames base (env::outer))(hf:env.frame=some L)(X:XAt h0 H s.heap e cls dx)
 (hz:h0.objs.size<=s.heap.objs.size) (hH:∀b,s.heap.objs.size<=b->H b=none)
 (h:∀h',LeftX h0 H (env::outer) base s.heap h' e cls dx->Q () {s with heap:=h'}):wpAny M A (leaving env (.ref e)) Q E s:=waa (znd hfr hl hf X hz hH h)
end
def CXE (P:Program)(w:World):CXT:=λouter H s E e s'=>∃a cls dx H',e=.ref a/\XAt s.heap H' s'.heap a cls dx/\s'.os=s.os/\AllBare s'.gens/\Un (frs outer) [] H H' s.heap s'.heap/\HOk P w H' s'.heap/\E cls dx H'
def Leaves (X:Cx)(E:XK):Prop:=∀(pins:List (Addr×Obj)) (Y:L2.St) (H:Hp) (s:Shared) (a:Addr) (cls:Value) (dx:Option Addr),Inv X pins Y H s->XAt X.s₀.heap H s.heap a cls dx->E cls dx H->X.xe (.ref a) s
def XAt.older {h0 h1:Heap}{H:Hp}{h:Heap}{e:Addr}{cls:Value}{dx:Option Addr}(x:XAt h1 H h e cls dx)(hz:h0.objs.size<=h1.objs.size):XAt h0 H h e cls dx:=by
 obtain⟨e0,eH,eD,vs,sl,he,h1|⟨T,oT,ts,h1,hTe,hnT,HT,hT,hdT,h3⟩⟩:=x
 .exact⟨wam hz e0,eH,λd z=>wam hz (eD d z),vs,sl,he,.inl h1⟩
 .exact⟨wam hz e0,eH,λd z=>wam hz (eD d z),vs,sl,he,.inr ⟨T,oT,ts,h1,hTe,wam hz hnT,HT,hT,hdT,h3⟩⟩
def ziq {X:Cx}{pins:List (Addr×Obj)}{Y:L2.St}{H:Hp}{s s':Shared}{E:XK}{e:Value}(I:Inv X pins Y H s)(h:CXE X.prog X.w X.stack H s E e s') :
 ∃a cls dx H',e=.ref a/\Inv X pins Y H' s'/\XAt s.heap H' s'.heap a cls dx/\E cls dx H':=by
 obtain⟨a,cls,dx,H',rfl,x,os,bare,un,hok,q⟩:=h;exact⟨a,cls,dx,H',rfl,I.call' (ch:=[]) os un hok bare (λb z=>absurd z (by simp)),x,q⟩
def Leaves.passes {X:Cx}{E:XK}(h:Leaves X E):zgd (CXE X.prog X.w) X E:=by
 intro pins Y H s e s' I hc;obtain⟨a,cls,dx,H',rfl,J,x,q⟩:=ziq I hc;exact h pins Y H' s' a cls dx J (x.older I.sz) q
def ze8 {P:Program}{w:World}{K:W.Frag}{mg:Str->Option Value}{base:Heap}{N:List Str}{qual:Str}{scope:Scope}{f:Addr}{cd:Value}{A:Around}{outer:List Env}{s:Shared}{H:Hp}{E:XK} :
 Leaves (cxOf (CXE P w) P w K mg base N qual scope f cd A outer s H E) E:=by
 intro pins Y H1 s1 a cls dx I x q;have nl:∀b,b<s.heap.objs.size->b∉frs outer->b∉frs (envOfC qual scope s.heap.objs.size f cd::outer):=λb hb hn hm=>by
  rcases wah.mp (I.stkSub b hm) with z|z
  .exact absurd hb (Nat.not_lt.mpr (by rw[z];exact I.ok.above))
  .exact hn z
 refine zne (M:=model P w) (h0:=s.heap) (H:=H1) I.ok.frames I.stack rfl x I.sz (λb hb=>I.hok.fresh hb) λh' L=>?_
 refine⟨a,cls,dx,H1,rfl,L.at_,I.os,I.bare,⟨λb o e n hf hx=>?_,λb o e n hf hx=>?_,I.base.free,λb o e hx=>?_,I.base.tups,I.base.frzs,I.base.tbls⟩,λb u e=>?_,q⟩
 .exact L.keep b o (I.base.keep b o e n hf hx) (.inl (wad e)) (nl b (wad e) hf)
 .obtain⟨sl,z⟩:=I.base.slot b o e n hf hx;obtain⟨sl',z'⟩:=L.slot b _ z (.inl (wad e));exact⟨sl',z'⟩
 .obtain⟨o',z⟩:=I.base.there b o e hx;obtain⟨sl',z'⟩:=L.slot b _ z (.inl (wad e));exact⟨_,z'⟩
 .refine(I.hok b u e).stay (λc v hc q=>L.keep c v q ?_ ?_) (λ_ q=>q) λ_ _ _ q=>q
  .rcases hc with z|z
   .rw[z,e];exact .inr (by simp)
   .rw[z];exact .inr (by simp)
  .intro hm;have:=I.stkFree c hm
   rcases hc with z|z
   .rw[z,e] at this;cases this
   .rw[z] at this;cases this
section
variable {M:Model}{A:Around}{E:Value->Shared->Prop}{env:Env}
variable {nm q:Str}{C N:Addr}{bs bm:List Value}{hdct:Bool}{sn:List Str}{sub:List Value}{ab:Bool}{col:Option Bool}{dd:Option Addr}{k0 k1 k2 k3 k5:Option Value}{newId:String}
def zed {s:Shared}{x:Sem Value}{Q:Flow->Shared->Prop}(hbase:bm.contains (.type "BaseException")=true)(hh:A.handled=none)
 (h:wpAny M A x (λv s₁=>∃e t dx,v=.ref e/\s₁.heap.get? C=some (excClassObj nm q C N bs bm hdct sn sub ab col dd k0 k1 k2 k3 k5 newId)/\
  s₁.heap.get? e=some {cls:=.ref C,dict:=dx,data:=.fields #[.ref t,.none,.none,.none,.bool false,.none]}/\E (.ref e) s₁) E s) :
 wpAny M A (raiseStmt env (some x) none) Q E s:=by
 have hcB:(Value.ref C::bm).contains (.type "BaseException")=true:=by rw[List.contains_cons,hbase,Bool.or_true]
 unfold raiseStmt;refine waa (war h (λv s₁ h₁=>?_) λ_ _ x=>x);obtain⟨e,t,dx,rfl,hC,he,hE⟩:=h₁;obtain⟨hp,g,d,tk,os⟩:=s₁;repeat (first|with_reducible refine waS he ?_|with_reducible refine waS hC ?_|(with_reducible refine wbL hC ?_;rw[hcB])|wp_step)
 exact wpAny_raiseNew_none hh hE
end
section
variable {X:Cx}{C N fI:Addr}{bm:List Value}{slf x nm cn:Str}{J e:Expr}{fd:FuncData}{te:TA}{E:XK}{np cp pos:Pos}{k:Nat}
def znf (C:Addr)(nm:Str)(E:XK)(SJ:V->Hp->Prop)(te:TA):TS:=λD Y H=>te Y H λvs H1=>∃v,vs = [v]/\SJ v H1/\∀dx,H1 dx=none->E (.ref C) (some dx) (upd H1 dx (.xd [(nm,v)]))
def zjN {SJ:V->Hp->Prop}(c:XI X.prog X.w X.K C N fI bm slf x nm J fd)(hsup:X.mg "super"=none)(hg:Gl X cn)(hm:X.mg cn=some (.ref C))(hk:W.keepIn X.K (.ref C)=true)(hB:bm.contains (.type "BaseException")=true)
 (hr:Room (k+1) X.A) (hL:Leaves X E) (ha:PA X [e] te) (hJ:∀(pins:List (Addr×Obj)) (Y:L2.St) (H:Hp) (s:Shared) (v:V) (u:Value),Inv X pins Y H s->RelV v u->SJ v H->Says X.prog X.w X.K fd fI x J u s.heap)
 (hdb:(cn == ("__debug__" : Str))=false:=by decide) (he:starEach [e] X.env=(false,eval e X.env)::starEach [] X.env:=by rfl) :
 PS X (.Raise (some (.Call (.Name cn np) [e] [] cp)) none pos) (znf C nm E SJ te):=by
 intro pins s Y H D I h;obtain⟨nm',q,bs,hdct,sn,sub,ab,col,dd,k0,k1,k2,k3,k5,ho⟩:=c.cls.obj;show wpAny (model X.prog X.w) X.A (do standAt pos;raiseStmt X.env (some (do let v <-eval (.Call (.Name cn np) [e] [] cp) X.env;standAt pos;pure v)) none) _ X.xe s
 refine waa (wbh (zed (C:=C) (nm:=nm') (q:=q) (N:=N) (bs:=bs) (bm:=bm) (hdct:=hdct) (sn:=sn) (sub:=sub) (ab:=ab) (col:=col) (dd:=dd) (k0:=k0) (k1:=k1) (k2:=k2) (k3:=k3) (k5:=k5) (newId:="ValueError.__new__") hB hr.hd (waa ?_)));refine waE (zcb I hg hm ?_ hdb);refine wbz (h₀:=X.base) I.ok.mod.kin hk (thn (ha cp pins s Y H _ I h) λus s1 ⟨vs,H1,I1,r,v,ev,sj,q⟩ =>⟨I1.kIn,?_⟩) he rfl;subst ev;rcases r with _|⟨r1,r2⟩
 rcases r2 with _|_
 obtain⟨h1,g,d,t,os⟩:=s1;have G:Gx h1:=⟨I1.nolimit,⟨X.mg,I1.mod.glob.keeps I1.bk,hsup⟩,let ⟨mb,a,b⟩:=I1.mod.blt;⟨mb,a.keeps I1.bk,(b "super" (by decide)).trans (by decide +kernel)⟩⟩
 refine zjM hr.gd (by have:=hr.un;omega) I1.kIn G c (hJ _ _ _ _ _ _ I1 r1 sj) (by have:=hr.dp;omega) λh' e' dx tt tk he he' hd hns hkp=>?_
 refine waa (wbh (wae ⟨e',tt,some dx,rfl,hkp _ _ (I1.kIn _ _ ho),he',?_⟩));have hne:e'≠dx:=by
  rintro rfl;obtain⟨o,es,ep,a1,a2,-⟩:=hns;rw[he'] at a1;cases a1;cases a2
 refine hL pins Y (upd H1 dx (.xd [(nm,v)])) _ e' (.ref C) (some dx) (I1.laid hkp hd ⟨_,hns,λf=>?_⟩) ⟨wam I1.sz he,?_,λd z=>by cases z;exact wam I1.sz hd,_,_,he',.inl rfl⟩ (q dx (I1.hok.fresh hd))
 .by_cases hf:f=nm
  .subst hf;simp[List.lookup,RelO,r1]
  .have:(f == nm)=false:=by simpa using hf
   simp[List.lookup,RelO,this,hf]
 .unfold upd;rw[if_neg hne];exact I1.hok.fresh he
end
def XP (X:Cx)(pins:List (Addr×Obj))(Y:L2.St)(E:XK)(e:Value)(s':Shared):Prop:=∃H1 s1,Inv X pins Y H1 s1/\CXE X.prog X.w X.stack H1 s1 E e s'
section
variable {X:Cx}{pins:List (Addr×Obj)}{Y:L2.St}{E:XK}{e:Value}{s':Shared}{Ex:Value->Shared->Prop}
def zjO {Q:Unit->Shared->Prop}(hst:X.stack=X.env::X.outer)(hf:X.env.frame=some X.env.locals)(h:XP X pins Y E e s')(hq:∀h',XP X pins Y E e {s' with heap:=h'}->Q () {s' with heap:=h'}) :
 wpAny (model X.prog X.w) X.A (noteFrame e X.env) (λ_ s2=>wpAny (model X.prog X.w) X.A (setFlight e none) Q Ex s2) Ex s':=by
 obtain⟨H1,s1,I1,hc⟩:=h;obtain⟨_,_,_,_,_,J,_,_⟩:=ziq I1 hc;obtain⟨a,cls,dx,H',rfl,x,os,bare,un,hok,q⟩:=hc;have hz:s1.heap.objs.size<=s'.heap.objs.size:=by
  obtain⟨e0,_,_,vs,sl,he,_⟩:=x;exact wam e0 (wbp (wad he))
 refine znd (M:=model X.prog X.w) (h0:=s1.heap) (H:=H') (base:=X.base) (outer:=X.outer) (by rw[<-hst];exact I1.ok.frames) (by rw[<-hst];exact J.stack) hf x hz (λb hb=>hok.fresh hb) λh' L=>hq h' ?_
 rw[<-hst] at L;refine⟨H1,s1,I1,a,cls,dx,H',rfl,L.at_,os,bare,⟨λb o e n hf hx=>L.keep b o (un.keep b o e n hf hx) (.inl (wad e)) hf,λb o e n hf hx=>?_,un.free,λb o e hx=>?_,un.tups,un.frzs,un.tbls⟩,λb u e=>?_,q⟩
 .obtain⟨sl,z⟩:=un.slot b o e n hf hx;obtain⟨sl',z'⟩:=L.slot b _ z (.inl (wad e));exact⟨sl',z'⟩
 .obtain⟨o',z⟩:=un.there b o e hx;obtain⟨sl',z'⟩:=L.slot b _ z (.inl (wad e));exact⟨_,z'⟩
 .refine(hok b u e).stay (λc v hc q=>L.keep c v q ?_ ?_) (λ_ q=>q) λ_ _ _ q=>q
  .rcases hc with z|z
   .rw[z,e];exact .inr (by simp)
   .rw[z];exact .inr (by simp)
  .intro hm;have:=un.free c
   have fr:=I1.stkFree c hm
   obtain⟨_,o,ho,_⟩:=I1.stack.mem hm;have h0:=un.free c o ho fr (by simp)
   rcases hc with z|z
   .rw[z,e] at h0;cases h0
   .rw[z] at h0;cases h0
end
def ze9 {M:Model}{A:Around}{Ex:Value->Shared->Prop}{K:W.Frag}{s:Shared}{a C CT:Addr}{oe:Obj}{b:Bool}{Q:Bool->Shared->Prop}(X:K.In s.heap)(he:s.heap.get? a=some oe)(hc:oe.cls=.ref C)
 (hb:PySem.W.mroIn K CT (.type "BaseException")=some true) (ht:PySem.W.typeIn K (.ref CT)=some (.type "type")) (hm:PySem.W.mroIn K C (.ref CT)=some b) (hq:Q b s):wpAny M A (excMatches (.ref a) (.ref CT)) Q Ex s:=by
 obtain⟨hp,g,d,t,os⟩:=s;have L1:=PySem.W.looks_mroIn (M:=M) X hb
 have L2:=PySem.W.looks_mroIn (M:=M) X hm
 have L3:=PySem.W.looks_typeIn (M:=M) X ht
 obtain⟨cd,hcd,-⟩:=Option.bind_eq_some_iff.mp hb;obtain⟨oC,hoC,hdC⟩:∃oC,hp.get? CT=some oC/\oC.data=.cls cd:=by
  unfold PySem.W.clsIn at hcd;split at hcd
  .rename_i ho;cases hcd;exact⟨_,X _ _ ho,rfl⟩
  .cases hcd
 have f:=tc_notTuple
 have f':PySem.W.Looks M hp (isSubtype (.type "type") (.type "tuple")) false:=.of_pure f
 have T:PySem.W.Looks M hp (isInstance (.ref CT) (.type "tuple")) false:=L3.andThen f'
 have B:PySem.W.Looks M hp (isExcClass (.ref CT)) true:=by
  refine PySem.W.Looks.andThen (a:=true) ?_ L1;exact(PySem.W.Looks.ld (part:=some PySem.headPart) hoC).andThen (by rw[hdC];exact .now)
 have Y:PySem.W.Looks M hp (typeOf (.ref a)) (.ref C):=(PySem.W.Looks.ld he).andThen (by rw[hc];exact .now)
 unfold excMatches;refine waa (T.here ?_);simp only[wbB,if_false];refine waa (wae ?_);simp only[List.forIn_cons,List.forIn_nil];refine waa (waa (waa (B.here ?_)));simp only[Bool.not_true,wbB,if_false];refine wae (wae (waa (Y.here (waa (waa (waa (L2.here ?_)))))));cases b with
|true=>exact wae (wae (wae hq))
|false=>exact wae (wae (wae hq))
section
variable {X:Cx}{pins:List (Addr×Obj)}{Y:L2.St}{H:Hp}{s:Shared}
def zcQ {M:Model}{A:Around}{E:Value->Shared->Prop}{i:Nat}{x:Str}{pos:Pos}{Q:Unit->Shared->Prop}(I:Inv X pins Y H s)(hN:X.N.Nodup)(hi:X.N[i]?=some x)(hk:X.env.kindOf x=some .local)
 (h:∀s',Inv X pins (Y.set i none) H s'->Q () s'):wpAny M A (do bindName X.env x .none;unbindBehindTheSuite X.env x pos) Q E s:=by
 obtain⟨m,hn,hl⟩:=id I.loc;have hcls:(X.env.scope.kind == .class||(X.env.scope.kind == .module&&X.env.locals != X.env.globals))=false:=by rw[I.ok.kind];rfl
 have hiσ:i<Y.length:=by rw[I.len];exact(wav.mp hi).1
 have cne:=I.cne
 have tracked:∀{a:Addr}{h':Heap},(∃o,s.heap.get? a=some o/\H a=none)->Heap.SameBut a s.heap h'->HOk X.prog X.w H h':=λ{a h'} ha hs b ob e=>by
  obtain⟨_,_,hfree⟩:=ha;refine(I.hok b ob e).stay (λc w' hc q=>(hs.2 c ?_).trans q) (λ_ q=>q) λ_ _ _ q=>q
  rintro rfl;rcases hc with rfl|hc
  .rw[hfree] at e;cases e
  .rw[hfree] at hc;cases hc
 refine wpAny_nameGoes_keeps hk hn hcls λh' v hn' hs=>?_
 obtain⟨oL,_,_,hoL,_⟩:=id hn;refine h _ ⟨I.ok,I.os,I.bare,⟨λb o e n hb hx=>?_,λb o e n hb hx=>?_,I.base.free,λb o e hx=>?_,I.base.tups,I.base.frzs,I.base.tbls⟩,⟨_,hn',λj y v' e1 e2 e3=>?_⟩,λy c e=>?_,I.free,I.freeC,λp hp=>?_,tracked ⟨oL,hoL,I.free⟩ hs,by simpa using I.len⟩
 .exact(hs.2 b (wap (wak (wad e) I.ok.above))).trans (I.base.keep b o e n hb hx)
 .obtain⟨sl,e1⟩:=I.base.slot b o e n hb hx;exact⟨sl,(hs.2 b (wap (wak (wad e) I.ok.above))).trans e1⟩
 .obtain⟨o',e1⟩:=I.base.there b o e hx;exact⟨o',(hs.2 b (wap (wak (wad e) I.ok.above))).trans e1⟩
 .by_cases hj:j=i
  .subst hj;rw[was hiσ] at e2;cases e2
  .rw[wag (Ne.symm hj)] at e2;obtain⟨u',r',q⟩:=hl j y v' e1 e2 e3;refine⟨u',r',?_⟩;rcases q with⟨k,e⟩|⟨k,c,e,z⟩
   .refine .inl ⟨k,?_⟩;have:y≠x:=λe=>hj (zei hN e1 (e▸hi))
    simp[this,e]
   .exact .inr ⟨k,c,e,z.sameBut hs (cne y c e)⟩
 .obtain⟨w',z⟩:=I.cell y c e;exact⟨w',z.sameBut hs (cne y c e)⟩
 .obtain⟨e,n,ne,nf,d⟩:=I.pin p hp;exact⟨(hs.2 p.1 ne).trans e,n,ne,nf,d⟩
def zgV {M:Model}{A:Around}{E:XK}{e:Value}{s':Shared}{Ex:Value->Shared->Prop}{Q:Unit->Shared->Prop}(h:XP X pins Y E e s')(hq:∀h',XP X pins Y E e {s' with heap:=h'}->Q () {s' with heap:=h'}) :
 wpAny M A (setFlight e none) Q Ex s':=by
 obtain⟨H1,s1,I1,hc⟩:=h;obtain⟨a,cls,dx,H',rfl,x,os,bare,un,hok,q⟩:=id hc;obtain⟨e0,eH,eD,vs,sl,he,h1|⟨T,oT,ts,h1,hTe,hnT,HT,hT,hdT,h3⟩⟩:=id x
 .unfold setFlight;refine waa (waO he rfl h1 ?_);rw[if_neg (by decide)];exact wae (hq s'.heap ⟨H1,s1,I1,hc⟩)
 .unfold setFlight;refine waa (waO he rfl h1 ?_);rw[if_pos (show(Value.ref T != Value.none)=true from by simp)];refine wbI hT hdT (waL.mp h3).1 ?_;have other:∀b,b≠T->(s'.heap.update T (Obj.mapFields (·.setIfInBounds 3 Value.none))).get? b=s'.heap.get? b:=λb hb=>waA _ _ (Ne.symm hb)
  have ne1:∀b o,s1.heap.get? b=some o->b≠T:=λb o e z=>absurd (wad e) (Nat.not_lt.mpr (by rw[z];exact hnT))
  have self:(s'.heap.update T (Obj.mapFields (·.setIfInBounds 3 Value.none))).get? T=some _:=waR _ hT (wbD (wbc hdT _))
  refine hq _ ⟨H1,s1,I1,a,cls,dx,H',rfl,⟨e0,eH,eD,vs,sl,(other a (Ne.symm hTe)).trans he,.inr ⟨T,_,_,h1,hTe,hnT,HT,self,wbc hdT _,by simp[(waL.mp h3).1]⟩⟩,os,bare,⟨λb o e n hf hx=>(other b (ne1 b o e)).trans (un.keep b o e n hf hx),λb o e n hf hx=>?_,un.free,λb o e hx=>?_,un.tups,un.frzs,un.tbls⟩,λb u e=>?_,q⟩
  .obtain⟨sl,z⟩:=un.slot b o e n hf hx;exact⟨sl,(other b (ne1 b o e)).trans z⟩
  .obtain⟨o',z⟩:=un.there b o e hx;exact⟨o',(other b (ne1 b o e)).trans z⟩
  .refine(hok b u e).stay (λc v hc q=>(other c ?_).trans q) (λ_ q=>q) λ_ _ _ q=>q
   rintro rfl;rcases hc with z|z
   .rw[<-z,HT] at e;cases e
   .rw[HT] at z;cases z
end
def X0:HO:=.ext λ_=>True
def Held (H:Hp)(a:Addr)(oa:Obj)(H2:Hp):Prop:=
 (oa.dict=none/\H2=upd H a (.frz oa X0))\/∃d od fs,oa.dict=some d/\H d=some (.xd fs)/\H2=upd (upd H a (.frz oa X0)) d (.frz od (.xd fs))
def Held.same {H H2:Hp}{a:Addr}{oa:Obj}(h:Held H a oa H2)(ha:H a=none){c:Addr}{z:HO}(e:H c=some z)(n:∀fs,z≠.xd fs):H2 c=some z:=by
 have hca:c≠a:=by rintro rfl;rw[ha] at e;cases e
 rcases h with⟨_,rfl⟩|⟨d,od,fs,_,hd,rfl⟩
 .rw[zag hca];exact e
 .have hcd:c≠d:=by rintro rfl;rw[hd] at e;cases e;exact n _ rfl
  rw[zag hcd,zag hca];exact e
section
variable {X:Cx}{pins:List (Addr×Obj)}{Y:L2.St}{H:Hp}{s:Shared}
def zjP {E:XK}{e:Value}{s':Shared}(h:XP X pins Y E e s')(hxd:∀cls dx H',E cls dx H'->∀d,dx=some d->∃fs,H' d=some (.xd fs)) :
 ∃a cls dx H' oa H2,e=.ref a/\E cls dx H'/\H' a=none/\s'.heap.get? a=some oa/\oa.cls=cls/\oa.dict=dx/\PySem.W.notCls oa=true/\Held H' a oa H2/\Inv X pins Y H2 s':=by
 obtain⟨H1,s1,I1,a,cls,dx,H',rfl,x,os,bare,un,hok,q⟩:=h;obtain⟨e0,eH,eD,vs,sl,he,_⟩:=id x;have hold:∃H2,Held H' a ⟨cls,dx,.fields vs,sl⟩ H2/\HOk X.prog X.w H2 s'.heap/\∀b,b<s1.heap.objs.size->H' b=none->H2 b=none:=by
  have ex0:∀H2,ObjOk X.prog X.w H2 s'.heap a (.frz ⟨cls,dx,.fields vs,sl⟩ X0):=λH2=>⟨he,trivial,⟨_,he⟩,λ_ _ _ _=>trivial⟩
  cases hdx:dx with
 |none=>
    subst hdx;have hh:Held H' a ⟨cls,none,.fields vs,sl⟩ (upd H' a (.frz ⟨cls,none,.fields vs,sl⟩ X0)):=.inl ⟨rfl,rfl⟩
    refine⟨_,hh,λb u e=>?_,λb hb n=>?_⟩
    .by_cases hba:b=a
     .subst hba;rw[zai] at e;cases e;exact ex0 _
     .rw[zag hba] at e;exact(hok b u e).stay (λ_ _ _ q=>q) (λc q=>hh.same eH q (λ_ z=>by cases z)) λc z hz q=>hh.same eH q (λfs y=>by rw[y] at hz;exact hz)
    .rw[zag (wap (wak hb e0))];exact n
 |some d=>
    subst hdx;obtain⟨fs,hd⟩:=hxd _ _ _ q d rfl;obtain⟨mA,⟨od,es,ep,hod,r1⟩,r2⟩:=hok d _ hd;have hh:Held H' a ⟨cls,some d,.fields vs,sl⟩ (upd (upd H' a (.frz ⟨cls,some d,.fields vs,sl⟩ X0)) d (.frz od (.xd fs))):=.inr ⟨d,od,fs,rfl,hd,rfl⟩
    have hda:d≠a:=by rintro rfl;rw[eH] at hd;cases hd
    refine⟨_,hh,λb u e=>?_,λb hb n=>?_⟩
    .by_cases hbd:b=d
     .subst hbd;rw[zai] at e;cases e;exact⟨hod,mA,⟨od,es,ep,hod,r1⟩,r2⟩
     rw[zag hbd] at e;by_cases hba:b=a
     .subst hba;rw[zai] at e;cases e;exact ex0 _
     .rw[zag hba] at e;exact(hok b u e).stay (λ_ _ _ q=>q) (λc q=>hh.same eH q (λ_ z=>by cases z)) λc z hz q=>hh.same eH q (λfs y=>by rw[y] at hz;exact hz)
    .rw[zag (wap (wak hb (eD d rfl))),zag (wap (wak hb e0))];exact n
 obtain⟨H2,hh,hok2,hn2⟩:=hold;refine⟨a,cls,dx,H',_,H2,rfl,q,eH,he,rfl,rfl,rfl,hh,I1.call' (ch:=[]) os ⟨un.keep,un.slot,λb o e n hx=>hn2 b (wad e) (un.free b o e n hx),un.there,λb xs e=>hh.same eH (un.tups b xs e) (λ_ z=>by cases z),λb o u e=>hh.same eH (un.frzs b o u e) (λ_ z=>by cases z),λb ps e=>?_⟩ hok2 bare (λb z=>absurd z (by simp))⟩;obtain⟨more,z⟩:=un.tbls b ps e;exact⟨more,hh.same eH z (λ_ z=>by cases z)⟩
end
def inH (X:Cx)(e:Value):Cx:={X with A:=X.A.mark (some e),calm:=false,xe:=λ_ _=>False}
section
variable {X:Cx}{pins:List (Addr×Obj)}{Y:L2.St}{H:Hp}{s:Shared}{e:Value}
def toH (I:Inv X pins Y H s):Inv (inH X e) pins Y H s:=by
 obtain⟨⟨a1,a2,a3,a4,a5,a6,a7,a8,a9,a10,a11,a12,a13,a14,a15,a16,a17,a18⟩,b2,b3,b4,b5,b6,b7,b8,b9,b10,b11⟩:=I;exact⟨⟨a1,a2,a3,a4,a5,a6,a7,a8,(λz=>by cases z),a10,a11,a12,a13,a14,a15,a16,a17,a18⟩,b2,b3,b4,b5,b6,b7,b8,b9,b10,b11⟩
def ofH (I:Inv (inH X e) pins Y H s)(ok:X.Ok):Inv X pins Y H s:=by
 obtain⟨_,b2,b3,b4,b5,b6,b7,b8,b9,b10,b11⟩:=I;exact⟨ok,b2,b3,b4,b5,b6,b7,b8,b9,b10,b11⟩
end
abbrev TX:=Ends->XK->L2.St->Hp->Prop
def PSX (X:Cx)(ss:List Stmt)(t:TX):Prop:=∀(pins:List (Addr×Obj)) (s:Shared) (Y:L2.St) (H:Hp) (D:Ends) (E:XK),Inv X pins Y H s->t D E Y H->wpAny (model X.prog X.w) X.A (execs ss X.env) (SP X pins D) (XP X pins Y E) s
def unset (i:Nat)(D:Ends):Ends:={nx:=λY H=>D.nx (Y.set i none) H,bk:=λY H=>D.bk (Y.set i none) H,ct:=λY H=>D.ct (Y.set i none) H,rt:=D.rt}
def tTry (K:W.Frag)(CT:Addr)(i:Nat)(tb:TX)(th:TS):TS:=λD Y H=>tb D (λcls dx H'=>(∃C,cls=.ref C/\PySem.W.mroIn K C (.ref CT)=some true)/\(∀d,dx=some d->∃fs,H' d=some (.xd fs))/\
 ∀a oa H2,H' a=none->oa.cls=cls->oa.dict=dx->PySem.W.notCls oa=true->Held H' a oa H2->th (unset i D) (Y.set i (some (.ref a))) H2) Y H
section
variable {X:Cx}{T n:Str}{tp hp pos:Pos}{body suite:List Stmt}{b₀:Stmt}{CT:Addr}{i:Nat}{tb:TX}{th:TS}
def zng (hst:X.stack=X.env::X.outer)(hf:X.env.frame=some X.env.locals)(hg:Gl X T)(hm:X.mg T=some (.ref CT))(hN:X.N.Nodup)(hi:X.N[i]?=some n)(hk:X.env.kindOf n=some .local)
 (hB:PySem.W.mroIn X.K CT (.type "BaseException")=some true) (hT:PySem.W.typeIn X.K (.ref CT)=some (.type "type")) (hb:PSX X body tb) (hh:∀e,PSs (inH X e) (b₀::suite) th)
 (hdb:(T == ("__debug__" : Str))=false:=by decide) :
 PS X (.Try body [.ExceptHandler (some (.Name T tp)) (some n) (b₀::suite) hp] [] [] pos) (tTry X.K CT i tb th):=by
 intro pins s Y H D I h;refine wpAny_Try_except (war (hb pins s Y H D _ I h) (λf s1 h1=>?_) (λe s1 h1=>?_))
 .cases f <;> first|exact h1|exact wae h1
 refine zjO hst hf h1 λh2 x2=>?_
 obtain⟨H1,s0,I0,hc⟩:=id x2;obtain⟨a,cls,dx,H',rfl,J,x,⟨C,rfl,hmm⟩,_,_⟩:=ziq I0 hc;obtain⟨e0,eH,eD,vs,sl,he,_⟩:=x;refine wpAny_handleBy_cons (codeAny_handlers_test ?_) (by intro q;cases q);refine zcb (X:=inH X (.ref a)) (toH J) hg hm ?_ hdb;refine ze9 J.kIn he rfl hB hT hmm ?_;refine codeAny_handlers_suite_as (zgV x2 λh3 x3=>?_);obtain⟨a',cls,dx',H3,oa,H2,ea,q,ha,hoa,hcl,hdx,hnc,hh2,J2⟩:=zjP x3 (λcls dx H' q=>q.2.1);cases ea;refine zcs (X:=inH X (.ref a)) (toH J2) hN hi (.inl hk) (v:=.ref a) rfl (λs4 J4=>?_) (.inr hk);refine war (hh (.ref a) pins s4 _ _ (unset i D) J4 (q.2.2 a oa H2 ha hcl hdx hnc hh2)) (λf s5 h5=>?_) (λ_ _ z=>z.elim);cases f with
|next=>obtain⟨Y',H',J5,q5⟩:=h5;exact zcQ (ofH J5 I.ok) hN hi hk λs6 J6=>⟨_,_,J6,q5⟩
|brk=>obtain⟨Y',H',J5,q5⟩:=h5;exact zcQ (ofH J5 I.ok) hN hi hk λs6 J6=>⟨_,_,J6,q5⟩
|cont=>obtain⟨Y',H',J5,q5⟩:=h5;exact zcQ (ofH J5 I.ok) hN hi hk λs6 J6=>⟨_,_,J6,q5⟩
|ret u=>obtain⟨v,Y',H',J5,r5,q5⟩:=h5;exact zcQ (ofH J5 I.ok) hN hi hk λs6 J6=>⟨v,_,_,J6,r5,q5⟩
end
abbrev TEX:=L2.St->Hp->VK->XK->Prop
def PEX (X:Cx)(e:Expr)(t:TEX):Prop:=∀(pins:List (Addr×Obj)) (s:Shared) (Y:L2.St) (H:Hp) (Q:VK) (E:XK),Inv X pins Y H s->t Y H Q E->wpAny (model X.prog X.w) X.A (eval e X.env) (EP X pins Y Q) (XP X pins Y E) s
section
variable {X:Cx}{k:Nat}{f:Addr}{fd:FuncData}{ps:List Str}{sp:Sp}{dvs:List V}{ds:List Value}{x:Str}{p pos:Pos}{e:Expr}{es:List Expr}{t:TA}{te:TEX}
def zgr {pins:List (Addr×Obj)}{Y:L2.St}{H:Hp}{s:Shared}(I:Inv X pins Y H s):Inv X.nox pins Y H s:=by
 obtain⟨⟨a1,a2,a3,a4,a5,a6,a7,a8,a9,a10,a11,a12,a13,a14,a15,a16,a17,a18⟩,b2,b3,b4,b5,b6,b7,b8,b9,b10,b11⟩:=I;exact⟨⟨a1,a2,a3,a4,a5,a6,a7,a8,a9,a10,a11,a12,a13,a14,a15,a16,a17,a18⟩,b2,b3,b4,b5,b6,b7,b8,b9,b10,b11⟩
def zdC {pins:List (Addr×Obj)}{Y:L2.St}{H:Hp}{s:Shared}(I:Inv X.nox pins Y H s):Inv X pins Y H s:=by
 obtain⟨⟨a1,a2,a3,a4,a5,a6,a7,a8,a9,a10,a11,a12,a13,a14,a15,a16,a17,a18⟩,b2,b3,b4,b5,b6,b7,b8,b9,b10,b11⟩:=I;exact⟨⟨a1,a2,a3,a4,a5,a6,a7,a8,a9,a10,a11,a12,a13,a14,a15,a16,a17,a18⟩,b2,b3,b4,b5,b6,b7,b8,b9,b10,b11⟩
def zjQ (F:FnOk X.prog X.w X.K X.mg X.base (CXE X.prog X.w) k f fd ps sp)(hr:Room k X.A)(hg:Gl X x)(hm:X.mg x=some (.ref f))(hk:W.keepIn X.K (.ref f)=true)(hb:Binds X.K fd ps ds)(hd:Vals dvs ds)
 (ha:PA X.nox (e::es) t) (hdb:(x == ("__debug__" : Str))=false:=by decide) (he:starEach (e::es) X.env=(false,eval e X.env)::starEach es X.env:=by rfl) (hpl:(backTo pos (starEach es X.env)).any (·.1)=false:=by rfl) :
 PEX X (.Call (.Name x p) (e::es) [] pos) (λY H Q E=>zjg sp dvs E t Y H Q):=by
 intro pins s Y H Q E I h;refine waE (zcb I hg hm ?_ hdb);refine wbz (h₀:=X.base) I.ok.mod.kin hk (war (ha pos pins s Y H _ (zgr I) h) (λus s1 ⟨vs,H1,I1,r,q⟩ =>⟨I1.kIn,?_⟩) λ_ _ z=>z.elim) he hpl;have J1:=zdC I1
 have r2:Vals (vs++dvs) (us++ds):=r.append hd
 have hl:(us++ds).length=ps.length:=by rw[<-r2.length];exact F.len _ _ _ _ q
 refine wbW (wcl (F.run X.A X.stack s1 H1 ⟨us,[]⟩ (us++ds) (vs++dvs) Q E hr J1.env0 (hb s1 us J1.kIn hl) r2 q) λr s' hq=>?_);cases r with
|error e=>exact⟨H1,s1,J1,hq⟩
|ok fl=>
   cases fl with
  |ret u=>exact J1.after hq
  |next=>exact False.elim hq
  |brk=>exact False.elim hq
  |cont=>exact False.elim hq
def zlC {i:Nat}{x:Str}{pos':Pos}(hN:X.N.Nodup)(hi:X.N[i]?=some x)(hx:Loc X.env.scope x)(he:PEX X e te)(hs:swapsWith e (some (.Name x pos')) pos.line X.env=pure false:=by rfl)
 (hf:X.fn x=true\/X.env.scope.names.lookup x=some .local:=by first|exact .inl rfl|exact .inr rfl|assumption) :
 PSX X [.Assign [.Name x pos'] e pos] (λD E Y H=>te Y H (λv H1=>D.nx (Y.set i (some v)) H1) E):=by
 intro pins s Y H D E I h;refine wpAny_execs_cons (wpAny_Assign_Name (thn (he pins s Y H _ E I h) λv s1 ⟨y,H1,I1,r1,q1⟩ =>?_) hs);exact zcs I1 hN hi hx r1 (λs2 I2=>wch ⟨_,H1,I2,q1⟩) hf
end
end EX
namespace EX
open PySem PySem.Spec PySem.W PyProof.Rows
def strsIn (K:Frag)(a:Addr):Bool:=match K.lookup a with
|some ⟨_,_,.dict es _,_⟩ =>es.toList.all λe=>match e.key with|.str _ _=>true|_=>false
|_=>false
def ns_K {K:Frag}{a:Addr}(e:strsIn K a=true):∃m:Str->Option Value,(∀h:Heap,K.In h->h.Ns a m)/\∀x r,nsIn K a x=some r->m x=r:=by
 unfold strsIn at e;split at e
 .rename_i c d es ep sl ho
  refine⟨nsFind es,λh X=>⟨_,es,ep,X _ _ ho,rfl,λen hen=>?_,λ_=>rfl⟩,λx r hr=>?_⟩
  .have:=waJ.mp e en (by simpa using hen)
   split at this
   .rename_i n t hk;exact⟨n,t,hk⟩
   .cases this
  .unfold nsIn at hr;rw[ho] at hr;dsimp only at hr;unfold nsFind findBy;obtain⟨es⟩:=es;rw[List.find?_toArray];dsimp only at hr;split at hr
   .rename_i en hen
    cases hr;rw[show List.find? (λe:DictEntry=>(λn (v:Value)=>v.isStr n) x e.key) es=some en from hen];rfl
   .rename_i hen
    rw[show List.find? (λe:DictEntry=>(λn (v:Value)=>v.isStr n) x e.key) es=none from hen];split at hr
    .cases hr
    .cases hr;rfl
 .cases e
def tailIn (K:Frag)(bmB:List Value):List Value->Bool
|.ref A::tl=>((clsIn K A).any λcd=>strsIn K cd.ns&&(nsIn K cd.ns "__init__" == some none))&&tailIn K bmB tl
|l=>l == bmB
def tail_K {K:Frag}{h:Heap}(X:K.In h){bmB:List Value}(hb:∀A tl,bmB≠.ref A::tl):∀{bm:List Value},tailIn K bmB bm=true->OwnTail h bmB bm:=by
 intro bm;induction bm with
|nil=>intro e;rw[show([]:List Value)=bmB from beq_iff_eq.mp e];exact .base
|cons v tl ih=>
   intro e;by_cases hv:∃c,v=.ref c
   .obtain⟨c,rfl⟩:=hv;unfold tailIn at e;rw[waD] at e;obtain⟨cd,hcd,hr⟩:=any_some e.1;rw[waD] at hr;obtain⟨m,hm,hm2⟩:=ns_K hr.1;unfold clsIn at hcd;split at hcd
    .rename_i c0 d0 cd0 sl0 ho
     cases hcd;exact OwnTail.own (X _ _ ho) (hm h X) (hm2 _ _ (beq_iff_eq.mp hr.2)) (ih e.2)
    .cases hcd
   .have:v::tl=bmB:=by
     cases v <;> first|exact beq_iff_eq.mp e|exact absurd ⟨_,rfl⟩ hv
    rw[this];exact .base
section
variable {prog:Program}{w:World}{A:Around}{E:Value->Shared->Prop}{h:Heap}{g:Array GenState}{d:Drawn}{t:Nat}{os:OsState}
variable {C x:Addr}{K:Frag}{ox:Obj}{od:Option Obj}{name:Str}{v:Value}{expr:Bool}{Q:Value->Shared->Prop}
def ga_ve:Slot "ValueError" "__getattribute__" "BaseException.__getattribute__":=.of (owner:="BaseException") (n:="__getattribute__") (by rw[typeLookup_type,builtinLookup_eq_fast];kernel_rfl) (by decide +kernel) (by decide +kernel) (by decide +kernel)
 (by first|exact .inl (by decide +kernel)|exact .inr (by decide +kernel)) (by rw[isSubtype_type];kernel_rfl)
def zir:builtinKind "BaseException.__getattribute__"=some .slot:=by decide +kernel
def zgs:splitId "BaseException.__getattribute__"=some ("BaseException","__getattribute__"):=by decide +kernel
def znh {tk:Tok}{R:Result->Shared->Prop}(X:K.In h)(I:InstAt h x ox C od)(hm:mroIn K C (.type "BaseException")=some true)(hf:findObj K C od name=some (.value v))(hq:R (.ok (.ret v)) ⟨h,g,d,t,os⟩) :
 codeAny (model prog w) A (.call (.builtin "BaseException.__getattribute__") ⟨[.ref x,.str name tk],[]⟩) R ⟨h,g,d,t,os⟩:=by
 have L0:=I.type (M:=model prog w)
 have L1:=looks_find (M:=model prog w) X I hf
 have sub:Looks (model prog w) h (isInstance (.ref x) (.type "BaseException")) true:=L0.andThen (looks_mroIn X hm)
 refine wbH ga_ve.plain F.entry_bexc_ga (@check_slot (model prog w) _ _ ⟨h,g,d,t,os⟩ "BaseException.__getattribute__" "BaseException" "__getattribute__" (.ref x) [.str name tk] [] _ zir zgs sub (F.args_bexc_ga (.ref x) (.str name tk)) ?_);unfold Builtin.«object.__getattribute__»;repeat (any_goals (first|assumption|with_reducible refine Looks.at L0 ?_|with_reducible refine Looks.at L1 ?_|wp_step))
def zlD (X:K.In h)(I:InstAt h x ox C od)(hga:findIn K (.ref C) "__getattribute__"=some (some (.builtin "BaseException.__getattribute__")))(hgt:findIn K (.ref C) "__getattr__"=some none)
 (hm:mroIn K C (.type "BaseException")=some true) (hf:findObj K C od name=some (.value v)) (hh:handedIn v=true) (hq:Q v ⟨h,g,d,t+1,os⟩):wpAny (model prog w) A (getAttr (.ref x) name expr) Q E ⟨h,g,d,t,os⟩:=by
 have L0:=I.type (M:=model prog w)
 have L1:=looks_findIn (M:=model prog w) X hga
 have L2:=looks_findIn (M:=model prog w) X hgt
 have f3:=ga_ve.bind (.ref x)
 have hx0:(expr&&onTheHeap (Value.builtin "BaseException.__getattribute__"))=false:=by cases expr <;> rfl
 have hx2:(Value.builtin "BaseException.__getattribute__" == Value.builtin "object.__getattribute__")=false:=by decide +kernel
 have hx1:(onTheHeap (Value.ref C)&&Value.builtin "BaseException.__getattribute__" == Value.builtin "object.__getattribute__")=false:=by rw[hx2];rfl
 unfold getAttr getAttrBy;refine waa (wpAny_mkText (wbr (waa (L0.at (waa (L1.at ?_))))));repeat (any_goals (first|assumption|with_reducible refine Looks.at L0 ?_|with_reducible refine Looks.at L1 ?_|with_reducible refine Looks.at L2 ?_|wp_step))
 refine znh X I hm hf ?_;show wpAny _ _ (handedOut v) _ _ _
 rw[handedOut_of hh];exact wae hq
end
section
variable {prog:Program}{w:World}{A:Around}{E:Value->Shared->Prop}{h:Heap}{g:Array GenState}{d:Drawn}{t:Nat}{os:OsState}
variable {C x:Addr}{K:Frag}{ox:Obj}{od:Option Obj}
def zfa {tk:Tok}{R:Result->Shared->Prop}(X:K.In h)(I:InstAt h x ox C od)(hm:mroIn K C (.type "BaseException")=some true)(hmo:mroIn K C (.type "object")=some true)
 (hf:findObj K C od "__class__"=some (.bind (.builtin "getset_descriptor.__get__") (.builtin "object.__class__"))) (hq:R (.ok (.ret (.ref C))) ⟨h,g,d,t,os⟩) :
 codeAny (model prog w) A (.call (.builtin "BaseException.__getattribute__") ⟨[.ref x,.str "__class__" tk],[]⟩) R ⟨h,g,d,t,os⟩:=by
 have L0:=I.type (M:=model prog w)
 have L1:=looks_find (M:=model prog w) X I hf
 have sub:Looks (model prog w) h (isInstance (.ref x) (.type "BaseException")) true:=L0.andThen (looks_mroIn X hm)
 refine wbH ga_ve.plain F.entry_bexc_ga (@check_slot (model prog w) _ _ ⟨h,g,d,t,os⟩ "BaseException.__getattribute__" "BaseException" "__getattribute__" (.ref x) [.str "__class__" tk] [] _ zir zgs sub (F.args_bexc_ga (.ref x) (.str "__class__" tk)) ?_);unfold Builtin.«object.__getattribute__»;repeat (any_goals (first|assumption|with_reducible refine Looks.at L0 ?_|with_reducible refine Looks.at L1 ?_|wp_step))
 exact class_get (s:=⟨h,g,d,t,os⟩) X I hmo (wae hq)
def zis {Q:Option Value->Shared->Prop}(X:K.In h)(I:InstAt h x ox C od)(hga:findIn K (.ref C) "__getattribute__"=some (some (.builtin "BaseException.__getattribute__")))(hgt:findIn K (.ref C) "__getattr__"=some none)
 (hm:mroIn K C (.type "BaseException")=some true) (hmo:mroIn K C (.type "object")=some true)
 (hf:findObj K C od "__class__"=some (.bind (.builtin "getset_descriptor.__get__") (.builtin "object.__class__"))) (hq:Q (some (.ref C)) ⟨h,g,d,t+1,os⟩) :
 wpAny (model prog w) A (getAttr? (.ref x) "__class__") Q E ⟨h,g,d,t,os⟩:=by
 have L0:=I.type (M:=model prog w)
 have L1:=looks_findIn (M:=model prog w) X hga
 have L2:=looks_findIn (M:=model prog w) X hgt
 have f3:=ga_ve.bind (.ref x)
 have hx2:(Value.builtin "BaseException.__getattribute__" == Value.builtin "object.__getattribute__")=false:=by decide +kernel
 have hx1:(onTheHeap (Value.ref C)&&Value.builtin "BaseException.__getattribute__" == Value.builtin "object.__getattribute__")=false:=by rw[hx2];rfl
 unfold getAttr? getAttrBy? getAttrBy;repeat (any_goals (first|assumption|with_reducible refine Looks.at L0 ?_|with_reducible refine Looks.at L1 ?_|with_reducible refine Looks.at L2 ?_|wp_step))
 refine zfa X I hm hmo hf ?_;repeat (any_goals (first|assumption|wp_step))
def zdq (hga:findIn K (.ref C) "__getattribute__"=some (some (.builtin "BaseException.__getattribute__")))(hgt:findIn K (.ref C) "__getattr__"=some none)
 (hm:mroIn K C (.type "BaseException")=some true) (hmo:mroIn K C (.type "object")=some true) (hdct:hasDictIn K C=true)
 (hf:findObj K C od "__class__"=some (.bind (.builtin "getset_descriptor.__get__") (.builtin "object.__class__"))):KitX K (.ref x) (.ref C) (λh=>InstAt h x ox C od) where
 ty:=λ_ _ _ I=>I.type
 it:=λ_ _ X _=>by
  obtain⟨cdD,hcD,_⟩:=any_some hdct;unfold clsIn at hcD;split at hcD
  .rename_i c' d' cd' sl' ho
   intro A' Q' E' s' k q;unfold isType loadHead;exact waa (wpAny_loadPart (k _ _ (X _ _ ho)) (wae q))
  .cases hcD
 ne:=λh tp dd its n sl X htp=>by
  obtain⟨cdD,hcD,_⟩:=any_some hdct;refine Bool.eq_false_iff.mpr λq=>?_
  have e:C=tp:=Value.ref.inj (beq_iff_eq.mp q)
  subst e;unfold clsIn at hcD;split at hcD
  .rename_i c' d' cd' sl' ho
   have z:=(X _ _ ho).symm.trans htp
   cases z
  .cases hcD
 ca:=λ{_ _ _ _ _ s} X I k=>by
  obtain⟨h,g,d,t,os⟩:=s;exact zis X I hga hgt hm hmo hf k
end
section
variable {prog:Program}{w:World}{K:Frag}{fd:FuncData}{fI:Addr}{x p y:Str}{tk0:Tok}{h0:Heap}{cp np fp jp:Pos}{k:Nat}
def zit (hk:∀L,(callEnv fd L fI).kindOf x=some .local)(hf:fd.scope.kind=.function)(hd:(x == ("__debug__" : Str))=false)(hl:p.length+(reprText y).length<=sizeLine) :
 Says prog w K fd fI x (.JoinedStr [.Constant (.str p) k cp,.FormattedValue (.Name x np) 114 none fp] jp) (.str y tk0) h0:=by
 intro A E h1 g d os tk L m Q hgd hun X kp hns hm hq';have hq:∀y t' tk',Q (.str y t') ⟨h1,g,d,tk',os⟩:=λy t' tk'=>hq' h1 y t' tk' λ_ _ z=>z
 have e0:(Str.empty++p)=p:=by first|rfl|simp|exact Str.empty_append _
 refine wpAny_JoinedStr ?_;show wpAny _ _ (eval (.Constant (.str p) k cp) _) _ _ _
 refine wpAny_Constant_str ?_;refine⟨p,_,rfl,?_,?_⟩
 .rw[e0];omega
 rw[e0];show wpAny _ _ (eval (.FormattedValue (.Name x np) 114 none fp) _) _ _ _
 have hlen:(p++reprText y).length<=sizeLine:=by rw[strLen_append];exact hl
 refine wpAny_FormattedValue_repr (wco (wbl hf (hk L) hns hm ?_) hd);refine pyReprObj_str (wpAny_formatField_str ⟨_,_,rfl,hlen,hlen,hq _ _ _⟩ ⟨_,_,rfl,hlen,hlen,hq _ _ _⟩ (by omega)) (by omega)
end
def xi_mk {prog:Program}{w:World}{K:Frag}{C N fI cda cc:Addr}{nm0 q:Str}{bs bm:List Value}{hdct:Bool}{sn:List Str}{sub:List Value}{ab:Bool}{col:Option Bool}{dd:Option Addr}{k0 k1 k2 k3 k5:Option Value}
 {slf x nm:Str}{J:Expr}{fd:FuncData}{od:Option Addr}{sl:Array (Option Value)}{ocd occ:Obj}
 (lk:K.lookup C=some (excClassObj nm0 q C N bs bm hdct sn sub ab col dd k0 k1 k2 k3 k5 "ValueError.__new__"))
 (i:nsIn K N "__init__"=some (some (.ref fI)))
 (lf:K.lookup fI=some ⟨.type "function",od,.func fd,sl⟩)
 (opq:nsIn K cStatics "thirdparty.any"=some none)
 (self:mroIn K C (.ref C)=some true)
 (st:findIn K (.ref C) "__setattr__"=some (some (.builtin "object.__setattr__")))
 (tak:takerIn K C nm=some none)
 (cdi:codeIn K fd.code fd.qualname=true)
 (hc:fd.code=.ref cda) (lc:K.lookup cda=some ocd) (lcc:K.lookup cc=some occ) (occd:occ.data=.cell (some (.ref C)))
 (inC:ks_superIn K C C "__init__"=some (some (.builtin "ValueError.__init__")))
 (t1:tailIn K [.type "ValueError",.type "Exception",.type "BaseException",.type "object"] bm=true)
 (sN:strsIn K N=true)
 (und:(clsIn K C).any (λcd=>zcl cd.mro)=true)
 (hasD:(clsIn K C).any (·.hasDict)=true)
 (body:∃p0 p1 ap cp q1 q2 q3 q4 q5,fd.body=.stmts [.Expr (.Call (.Attribute (.Call (.Name "super" p0) [] [] p1) "__init__" ap) [J] [] cp) q1,.Assign [.Attribute (.Name slf q2) nm q3] (.Name x q4) q5]/\
  (∀L,interactive (callEnv fd L fI)=false)/\(∀L,swapsWith (.Call (.Attribute (.Call (.Name "super" p0) [] [] p1) "__init__" ap) [J] [] cp) none q1.line (callEnv fd L fI)=pure false)/\
  (∀L,swapsWith (.Name x q4) (some (.Attribute (.Name slf q2) nm q3)) q5.line (callEnv fd L fI)=pure false)/\
  (∀L,starEach [J] (callEnv fd L fI) = [(false,eval J (callEnv fd L fI))])/\
  ∃pl:Addr->Sem Bool,∀L,eval (.Call (.Attribute (.Call (.Name "super" p0) [] [] p1) "__init__" ap) [J] [] cp) (callEnv fd L fI)=(do
   let ov <-attributeBase (.Call (.Name "super" p0) [] [] p1) "__init__" (callEnv fd L fI) (eval (.Call (.Name "super" p0) [] [] p1) (callEnv fd L fI))
   standAt ap.atName
   let (f,first) <-holding [ov] (getMethod ov "__init__" (pl L))
   callWith cp f first (backTo cp (starEach [J] (callEnv fd L fI))) []))
 (ne:slf≠x) (dbg:(x == ("__debug__" : Str))=false/\(slf == ("__debug__" : Str))=false)
 (par:∃ar:Arg,(fd.params.posonlyargs++fd.params.args).head?=some ar/\ar.arg=slf)
 (bind:∀(a b:Value),bindArgs fd ⟨[a,b],[]⟩=pure [(slf,a),(x,b)])
 (cell:∀z∈fd.scope.names,z.2≠.cell) (loc1:fd.scope.names.lookup slf=some .local) (loc2:fd.scope.names.lookup x=some .local)
 (flags:fd.scope.isCoroutine=false/\fd.scope.isGenerator=false/\fd.scope.kind=.function)
 (kinds:∀L,(callEnv fd L fI).kindOf "super"=some .globalImplicit/\(callEnv fd L fI).kindOf "__class__"=some .free/\(callEnv fd L fI).kindOf slf=some .local/\(callEnv fd L fI).kindOf x=some .local)
 (file:∃vs fl tf,ocd.data=.fields vs/\vs[2]?=some (.str fl tf)/\((prog.main.file:Str) == fl)=true)
 (top:(prog.main.scope.names.lookup ("super" : Str)).isSome=false) (glob:∀L,(callEnv fd L fI).globals=mainGlobals) (blt:∀L,(callEnv fd L fI).builtins=builtinsNs)
 (ccl:∀L,(callEnv fd L fI).cells.lookup ("__class__" : Str)=some cc):XI prog w K C N fI bm slf x nm J fd where
 cls:=⟨⟨nm0,q,bs,hdct,sn,sub,ab,col,dd,k0,k1,k2,k3,k5,lk⟩,λh X=>tail_K X (λA tl=>by simp) t1,opq,self⟩
 inC:=inC
 set:=st
 und:=und
 tak:=tak
 hasD:=hasD
 fn:=⟨_,lf,rfl,rfl⟩
 names:=let ⟨m,a,b⟩:=ns_K sN;⟨m,a,b _ _ i⟩
 code:=λh X=>codeRec_of X cdi
 body:=body
 ne:=ne
 dbg:=dbg
 par:=par
 bind:=λs a b=>.of_eq (bind a b)
 cell:=cell
 loc1:=loc1
 loc2:=loc2
 flags:=flags
 kinds:=kinds
 file:=let ⟨vs,fl,tf,a,b,c⟩:=file;⟨cda,ocd,vs,fl,tf,hc,lc,a,b,c⟩
 top:=top
 glob:=glob
 blt:=blt
 cc:=⟨cc,ccl,λh X=>⟨_,X _ _ lcc,occd⟩⟩
end EX
namespace EX
open PySem PySem.Spec PyProof.Rows L2
structure XG (K:W.Frag)(C:Addr)(f:Str):Prop where
 ga:PySem.W.findIn K (.ref C) "__getattribute__"=some (some (.builtin "BaseException.__getattribute__"))
 gt:PySem.W.findIn K (.ref C) "__getattr__"=some none
 bm:PySem.W.mroIn K C (.type "BaseException")=some true
 no:PySem.W.findIn K (.ref C) f=some none
 hd:PySem.W.hasDictIn K C=true
def zni {v:V}{u:Value}(r:RelV v u):PySem.W.handedIn u=true:=by
 cases v <;> (first|(obtain rfl:=r;rfl)|(obtain⟨_,rfl⟩:=r;rfl))
section
variable {X:Cx}{pins:List (Addr×Obj)}{Y:L2.St}{H:Hp}{s:Shared}{A:Around}{E:Value->Shared->Prop}{C a d:Addr}{oa od:Obj}{f:Str}{fs:List (Str×V)}{v:V}{expr:Bool}{Q:Value->Shared->Prop}
def zjR (I:Inv X pins Y H s)(c:XG X.K C f)(ha:H a=some (.frz oa X0))(hc:oa.cls=.ref C)(hn:PySem.W.notCls oa=true)(hdd:oa.dict=some d)(hd:H d=some (.frz od (.xd fs)))(hv:fs.lookup f=some v)
 (hq:∀u tk,RelV v u->Q u {s with toks:=tk}):wpAny (model X.prog X.w) A (getAttr (.ref a) f expr) Q E s:=by
 obtain⟨e1,_⟩:=I.hok a _ ha;obtain⟨e2,mA,⟨o',es,ep,e3,e4,e5,e6,e7⟩,r⟩:=I.hok d _ hd;obtain rfl:o'=od:=waq (e3.symm.trans e2);have rv:=r f
 rw[hv] at rv;cases hm:mA f with
|none=>rw[hm] at rv;exact rv.elim
|some u=>
   rw[hm] at rv;have rv:RelV v u:=rv
   have lk:PySem.W.lookIn f o'=some (some u):=by
    have e8:=(e7 f).trans hm
    unfold PySem.W.lookIn;rw[e4];dsimp only;unfold nsFind findBy at e8;obtain⟨es⟩:=es;rw[List.find?_toArray] at e8;obtain⟨en,z1,z2⟩:=waY.mp e8;have z1:List.find? (λe:DictEntry=>e.key.isStr f) es=some en:=z1
    rw[z1];dsimp only;rw[z2]
   have J:PySem.W.InstAt s.heap a oa C (some o'):=⟨e1,hc,hn,by rw[hdd];exact e2⟩
   obtain⟨cd,hcd,hh⟩:=PySem.W.any_some c.hd;have hf:PySem.W.findObj X.K C (some o') f=some (.value u):=by
    unfold PySem.W.findObj;rw[hcd,zOB,c.no,zOB];simp[PySem.W.ownOf,hh,lk]
   obtain⟨h,g,dd,t,os⟩:=s;exact zlD I.kIn J c.ga c.gt c.bm hf (zni rv) (hq u _ rv)
def zfb (H:Hp)(a C:Addr)(fs:List (Str×V)):Prop:=∃oa d od,H a=some (.frz oa X0)/\oa.cls=.ref C/\PySem.W.notCls oa=true/\oa.dict=some d/\H d=some (.frz od (.xd fs))
def zop (K:W.Frag)(ta:TE)(f:Str):TE:=λY H Q=>ta Y H λx H1=>∃a C fs v,x=.ref a/\zfb H1 a C fs/\XG K C f/\fs.lookup f=some v/\Q v H1
def zlE {e:Expr}{pos:Pos}{ta:TE}(he:PE X e ta)(hb:attributeBase e f X.env (eval e X.env)=eval e X.env):PE X (.Attribute e f pos) (zop X.K ta f):=by
 intro pins s Y H Q I h;refine zkS hb (thn (he pins s Y H _ I h) λu s1 ⟨x,H1,I1,rx,a,C,fs,v,ex,⟨oa,d,od,h1,h2,h3,h4,h5⟩,c,l,q⟩ =>?_);subst ex;obtain rfl:u=Value.ref a:=rx;exact zjR I1 c h1 h2 h3 h4 h5 l λu' tk ru=>⟨v,H1,I1.tok tk,ru,q⟩
structure XK1 (K:W.Frag)(C:Addr):Prop where
 ga:PySem.W.findIn K (.ref C) "__getattribute__"=some (some (.builtin "BaseException.__getattribute__"))
 gt:PySem.W.findIn K (.ref C) "__getattr__"=some none
 bm:PySem.W.mroIn K C (.type "BaseException")=some true
 om:PySem.W.mroIn K C (.type "object")=some true
 hd:PySem.W.hasDictIn K C=true
 cl:PySem.W.findIn K (.ref C) "__class__"=some (some (.builtin "object.__class__"))
 sg:PySem.W.specialIn K (.builtin "object.__class__") "__get__"=some (some (.builtin "getset_descriptor.__get__"))
 tk:PySem.W.takesIn K (.builtin "object.__class__")=some true
def ziu (I:Inv X pins Y H s)(c:XK1 X.K C)(hc:zfb H a C fs){cv:Value}{b:Bool}(e:PySem.W.kitOne X.K (.ref C) cv=some b)(hq:∀tk,Q (.bool b) {s with toks:=tk}) :
 wpAny (model X.prog X.w) A (call (.builtin "isinstance") [.ref a,cv]) Q E s:=by
 obtain⟨oa,d,od,h1,h2,h3,h4,h5⟩:=hc;obtain⟨e1,_⟩:=I.hok a _ h1;obtain⟨e2,_⟩:=I.hok d _ h5;have J:PySem.W.InstAt s.heap a oa C (some od):=⟨e1,h2,h3,by rw[h4];exact e2⟩
 have hf:PySem.W.findObj X.K C (some od) "__class__"=some (.bind (.builtin "getset_descriptor.__get__") (.builtin "object.__class__")):=
  PySem.W.findObj_data (by obtain⟨cd,hc,_⟩:=PySem.W.any_some c.hd;rw[hc];rfl) c.cl c.sg c.tk
 exact waF (zdq c.ga c.gt c.bm c.om c.hd hf) I.kIn J e (λz=>nomatch z) hq
def zgW (I:Inv X pins Y H s)(c:XK1 X.K C)(hc:zfb H a C fs){tp:Addr}{dd:Option Addr}{its:List Value}{n:Nat}{sl:Array (Option Value)}{b:Bool}(htp:s.heap.get? tp=some ⟨.type "tuple",dd,.seq its.toArray n,sl⟩)
 (e:PySem.W.kitAny X.K (.ref C) its=some b) (hq:∀tk,Q (.bool b) {s with toks:=tk}):wpAny (model X.prog X.w) A (call (.builtin "isinstance") [.ref a,.ref tp]) Q E s:=by
 obtain⟨oa,d,od,h1,h2,h3,h4,h5⟩:=hc;obtain⟨e1,_⟩:=I.hok a _ h1;obtain⟨e2,_⟩:=I.hok d _ h5;have J:PySem.W.InstAt s.heap a oa C (some od):=⟨e1,h2,h3,by rw[h4];exact e2⟩
 have hf:PySem.W.findObj X.K C (some od) "__class__"=some (.bind (.builtin "getset_descriptor.__get__") (.builtin "object.__class__")):=
  PySem.W.findObj_data (by obtain⟨cd,hc,_⟩:=PySem.W.any_some c.hd;rw[hc];rfl) c.cl c.sg c.tk
 exact PySem.W.kia_tup (zdq c.ga c.gt c.bm c.om c.hd hf) I.kIn J htp e (λz=>nomatch z) hq
end
end EX
namespace EX
open PySem PySem.Spec PySem.W PyProof.Rows
section
variable {prog:Program}{w:World}{A:Around}{E:Value->Shared->Prop}{h:Heap}{g:Array GenState}{d:Drawn}{t:Nat}{os:OsState}
variable {nm q:Str}{C N:Addr}{bs bm bmB:List Value}{hdct:Bool}{sn:List Str}{sub:List Value}{ab:Bool}{col:Option Bool}{dd:Option Addr}{k0 k1 k2 k3 k5:Option Value}{B newId initId:String}
def zd2 (F:ExcBaseFacts B newId initId bmB)(T:OwnTail h bmB bm){mN:Str->Option Value}{rest:List Value}{Q:Fin->Shared->Prop}(hC:h.get? C=some (excClassObj nm q C N bs bm hdct sn sub ab col dd k0 k1 k2 k3 k5 newId))(hn:h.Ns N mN)(hi:mN "__init__"=none)
 (hq:∀h' e,Heap.MadeExcOf h h' e (.ref C) rest->h.objs.size<=e->Q (.done (.ret (.ref e))) ⟨h',g,d,t,os⟩) (hrest:rest.length<=sizeLine):wpAny (model prog w) A (Builtin.«type.__call__» ⟨.ref C::rest,[]⟩) Q E ⟨h,g,d,t,os⟩:=by
 repeat (first|with_reducible refine waS hC ?_|with_reducible refine wpAny_madeBy_exc hC ?_|wp_step)
 refine codeAny_call_builtin_code (wbA _ F.quiet) (wpAny_check_new_subT F T hC (codeAny_exc_new_subT F T hC ?_ hrest));show wpAny _ _ _ _ _ _
 have up:∀b o,h.get? b=some o->((h.push {cls:=.type "tuple",data:=.seq rest.toArray}).push {cls:=.ref C,data:=.fields #[.ref h.objs.size,.none,.none,.none,.bool false,.none]}).get? b=some o:=λb o e=>wab _ (wab _ e)
 have c1:=up _ _ hC;have n1:=hn.keeps up;have T1:=T.keeps up
 have hget:((h.push {cls:=.type "tuple",data:=.seq rest.toArray}).push {cls:=.ref C,data:=.fields #[.ref h.objs.size,.none,.none,.none,.bool false,.none]}).get? (h.objs.size+1)=some {cls:=.ref C,data:=.fields #[.ref h.objs.size,.none,.none,.none,.bool false,.none]}:=by heap_get
 have hcC:(Value.ref C::bm).contains (.ref C)=true:=by simp
 unfold isInstance;repeat (first|with_reducible refine waS hget ?_|(with_reducible refine wbL c1 ?_;rw[hcC])|wp_step)
 show wpAny _ _ (typeLookup (.ref C) _) _ _ _
 refine wpAny_typeLookup_tail c1 n1 T1 F.mroIs F.init.lookup ?_;rw[hi];refine wbr (waa (wbX (F.init.bind _) (waa (wbW (wbH F.init.plain F.initEntry (wpAny_check_init_subT F T1 c1 hget rfl ?_))))));wp_walk
 refine hq _ (h.objs.size+1) ⟨λb o hb=>?_,waV (wbK _),h.objs.size+2,?_,waV (by omega),?_⟩ (wbK _)
 .rw[waA _ _ (wck (Nat.lt_succ_of_lt (wad hb)))];exact wab _ (up _ _ hb)
 .rw[waR _ (wab _ hget) rfl];simp only[wbj];rfl
 .rw[waA _ _ (show h.objs.size+1≠h.objs.size+2 by omega)];exact wbF (by simp only[wbj]) rfl
def ziv (F:ExcBaseFacts B newId initId bmB)(T:OwnTail h bmB bm){mN:Str->Option Value}{rest:List Value}{Q:Value->Shared->Prop}
 (hC:h.get? C=some (excClassObj nm q C N bs bm hdct sn sub ab col dd k0 k1 k2 k3 k5 newId)) (hn:h.Ns N mN) (hi:mN "__init__"=none)
 (hq:∀h' e,Heap.MadeExcOf h h' e (.ref C) rest->h.objs.size<=e->Q (.ref e) ⟨h',g,d,t,os⟩) (hrest:rest.length<=sizeLine):wpAny (model prog w) A (call (.ref C) rest) Q E ⟨h,g,d,t,os⟩:=by
 have f1:=tc_lookup;have f2:=tc_bind (.ref C)
 have hT:(⟨h,g,d,t,os⟩:Shared).TypeIs (.ref C) "type":=⟨_,hC,rfl⟩
 refine wbW (codeAny_of_tree ?_);show wpAny _ _ (callAny (.ref C) _) _ _ _
 repeat (any_goals (first|assumption|with_reducible refine waS hC ?_|wp_step))
 refine⟨rfl,?_⟩;refine codeAny_call_builtin_at (wbA _ (by decide +kernel)) entry_typeCall (wpAny_check_type_call_sub hC (zd2 F T hC hn hi (λh' e hm he=>?_) hrest));exact hq h' e hm he
end
open L2
structure XJ (K:Frag)(C N:Addr)(bm:List Value):Prop where
 cls:XC K C N bm
 no:nsIn K N "__init__"=some none
 sts:strsIn K N=true
section
variable {X:Cx}{C N:Addr}{bm:List Value}{cn:Str}{e:Expr}{te:TA}{E:XK}{np cp pos:Pos}{k:Nat}
def zlF (C:Addr)(E:XK)(te:TA):TS:=λD Y H=>te Y H λvs H1=>vs.length<=1/\E (.ref C) none H1
def ziw (c:XJ X.K C N bm)(hg:Gl X cn)(hm:X.mg cn=some (.ref C))(hk:keepIn X.K (.ref C)=true)(hB:bm.contains (.type "BaseException")=true)(hr:Room (k+1) X.A)(hL:Leaves X E)(ha:PA X [e] te)
 (hdb:(cn == ("__debug__" : Str))=false:=by decide) (he:starEach [e] X.env=(false,eval e X.env)::starEach [] X.env:=by rfl):PS X (.Raise (some (.Call (.Name cn np) [e] [] cp)) none pos) (zlF C E te):=by
 intro pins s Y H D I h;obtain⟨nm',q,bs,hdct,sn,sub,ab,col,dd,k0,k1,k2,k3,k5,ho⟩:=c.cls.obj;obtain⟨mN,hN,hmN⟩:=ns_K c.sts;show wpAny (model X.prog X.w) X.A (do standAt pos;raiseStmt X.env (some (do let v <-eval (.Call (.Name cn np) [e] [] cp) X.env;standAt pos;pure v)) none) _ X.xe s
 refine waa (wbh (zed (C:=C) (nm:=nm') (q:=q) (N:=N) (bs:=bs) (bm:=bm) (hdct:=hdct) (sn:=sn) (sub:=sub) (ab:=ab) (col:=col) (dd:=dd) (k0:=k0) (k1:=k1) (k2:=k2) (k3:=k3) (k5:=k5) (newId:="ValueError.__new__") hB hr.hd (waa ?_)));refine waE (zcb I hg hm ?_ hdb);refine callWith_K (h₀:=X.base) I.ok.mod.kin hk (thn (ha cp pins s Y H _ I h) λus s1 ⟨vs,H1,I1,r,hl,q⟩ =>⟨I1.kIn,?_⟩) he rfl;obtain⟨h1,g,d,t,os⟩:=s1;refine ziv wbG (c.cls.tail h1 I1.kIn) (I1.kIn _ _ ho) (hN h1 I1.kIn) (hmN _ _ c.no) (λh' e' M he'=>?_) (wam (by rw[<-r.length];exact hl:us.length<=1) (by decide +kernel));obtain⟨tt,ht,_,_⟩:=M.there;refine waa (wbh (wae ⟨e',tt,none,rfl,M.keeps _ _ (I1.kIn _ _ ho),ht,?_⟩));exact hL pins Y H1 _ e' (.ref C) none (I1.kept (t':=t) M.keeps) ⟨wam I1.sz he',I1.hok.fresh he',(λd z=>nomatch z),_,_,ht,.inl rfl⟩ q
end
def zfP (H:Hp)(a C:Addr):Prop:=∃oa,H a=some (.frz oa X0)/\oa.cls=.ref C/\notCls oa=true/\oa.dict=none
section
variable {X:Cx}{pins:List (Addr×Obj)}{Y:L2.St}{H:Hp}{s:Shared}{A:Around}{E:Value->Shared->Prop}{C a:Addr}{oa:Obj}{Q:Value->Shared->Prop}
def zgX (I:Inv X pins Y H s)(c:XK1 X.K C)(hc:zfP H a C){cv:Value}{b:Bool}(e:kitOne X.K (.ref C) cv=some b)(hq:∀tk,Q (.bool b) {s with toks:=tk}):wpAny (model X.prog X.w) A (call (.builtin "isinstance") [.ref a,cv]) Q E s:=by
 obtain⟨oa,h1,h2,h3,h4⟩:=hc;obtain⟨e1,_⟩:=I.hok a _ h1;have J:InstAt s.heap a oa C none:=⟨e1,h2,h3,by rw[h4];trivial⟩
 have hf:findObj X.K C none "__class__"=some (.bind (.builtin "getset_descriptor.__get__") (.builtin "object.__class__")):=by obtain⟨cd,hcd,_⟩:=any_some c.hd;unfold findObj;rw[hcd,zOB,c.cl,zOB];simp[c.sg,c.tk]
 exact kia_one (zdq c.ga c.gt c.bm c.om c.hd hf) I.kIn J e (λz=>nomatch z) hq
def zfQ (I:Inv X pins Y H s)(c:XK1 X.K C)(hc:zfP H a C){tp:Addr}{dd:Option Addr}{its:List Value}{n:Nat}{sl:Array (Option Value)}{b:Bool}(htp:s.heap.get? tp=some ⟨.type "tuple",dd,.seq its.toArray n,sl⟩)(e:kitAny X.K (.ref C) its=some b)(hq:∀tk,Q (.bool b) {s with toks:=tk}) :
 wpAny (model X.prog X.w) A (call (.builtin "isinstance") [.ref a,.ref tp]) Q E s:=by
 obtain⟨oa,h1,h2,h3,h4⟩:=hc;obtain⟨e1,_⟩:=I.hok a _ h1;have J:InstAt s.heap a oa C none:=⟨e1,h2,h3,by rw[h4];trivial⟩
 have hf:findObj X.K C none "__class__"=some (.bind (.builtin "getset_descriptor.__get__") (.builtin "object.__class__")):=by obtain⟨cd,hcd,_⟩:=any_some c.hd;unfold findObj;rw[hcd,zOB,c.cl,zOB];simp[c.sg,c.tk]
 exact kia_tup (zdq c.ga c.gt c.bm c.om c.hd hf) I.kIn J htp e (λz=>nomatch z) hq
end
end EX
namespace VD
open PySem PySem.Spec PyProof PyProof.Rows L2 EX
def XAtD (K:W.Frag)(H:Hp)(J:Addr->Prop)(x:D)(cls:Value)(dx:Option Addr):Prop:=
 ∃c ns ds C,x=.exc c ns ds/\W.nsIn K mainGlobals c=some (some (.ref C))/\cls=.ref C/\
  ((dx=none/\ns = []/\ds = [])\/∃d vs,dx=some d/\¬J d/\H d=some (.xd (ns.zip vs))/\ns.length=vs.length/\RpL K H J vs ds)
def WantsX (K:W.Frag)(H:Hp)(J:Addr->Prop)(x:D)(E:XK):Prop:=
 ∀H' J' cls dx,Up H J H' J'->XAtD K H' J' x cls dx->(∀d,dx=some d->H d=none)->E cls dx H'
def FitsX (K:W.Frag)(Hz:Hp)(Jz:Addr->Prop)(O:Pr)(x:D)(E:XK):Prop:=
 ∀Z' Y' H' J' cls dx,ST K Hz Jz O Z' Y' H' J'->XAtD K H' J' x cls dx->(∀d,dx=some d->Hz d=none)->E cls dx H'
section
variable {K:W.Frag}{H H' H1 Hz:Hp}{J J' J1 Jz:Addr->Prop}{O:Pr}{Z:En}{Y:L2.St}{x:D}{E:XK}
def ST.h0 (s:ST K Hz Jz O Z Y H J){b:Addr}(h:H b=none):Hz b=none:=by
 cases e:Hz b with
|none=>rfl
|some o=>exact absurd h (s.al b (by rw[e];simp))
def FitsX.wants (f:FitsX K Hz Jz O x E)(s:ST K Hz Jz O Z Y H J):WantsX K H J x E:=λH' J' cls dx u a n=>
 f Z Y H' J' cls dx (s.up u) a λd e=>s.h0 (n d e)
def WantsX.up (w:WantsX K H J x E)(u:Up H J H1 J1):WantsX K H1 J1 x E:=λH' J' cls dx u' a n=>
 w H' J' cls dx (u.trans u') a λd e=>u.same.free (n d e)
def ST.unset {i:Nat}(s:ST K Hz Jz O Z Y H J)(hp:∀n d,Z[i]?≠some (.par n d)):ST K Hz Jz O (Z.set i .un) (Y.set i none) H J where
 same:=s.same
 j0:=s.j0
 jn:=s.jn
 ja:=s.ja
 len:=by simp[s.len]
 vl:=λj e h=>by
  rcases zc3 h with⟨rfl,he⟩|⟨ne,h⟩
  .cases he
  .rw[wag (Ne.symm ne)];exact s.vl j e h
 ow:=by
  obtain⟨fp,w⟩:=s.ow;refine⟨_,w.put (i:=i) (A:=[]) Keep.refl (λ_ _ _ _ _ h=>h) (λj _=>w.nj j) (λj e=>wag (Ne.symm e)) (λj e=>wag (Ne.symm e)) ?_ wbx (by simp) (by simp)⟩;by_cases hi:i<Z.length
  .rw[was hi];rfl
  .have z:(List.set Z i SV.un)[i]?=none:=wbb (by simp;omega)
   rw[z];rfl
 ps:=λq hq=>by
  have e:=s.psNe hp q hq
  rw[wag (Ne.symm e),wag (Ne.symm e)];exact s.ps q hq
 al:=s.al
end
def GoQ (K:W.Frag)(t:TEX)(f:FE):Prop:=∀Hz Jz O Z Y H J x Q E,ST K Hz Jz O Z Y H J->f Z=some x->WantsX K H J x E->t Y H Q E
def VQ (X:Cx)(e:Expr)(f:FE):Prop:=∃t,PEX X e t/\GoQ X.K t f
def spX (K:W.Frag)(F:List D->Option D):Sp:=λvs H _ E=>∃J ds x,(∀a,J a->H a≠none)/\RpL K H J vs ds/\F ds=some x/\WantsX K H J x E
structure CalX (P:Program)(w:World)(K:W.Frag)(mg:Str->Option Value)(base:Heap)(k:Nat)(x:Str)(ps:List Str)(sp:Sp):Prop where
 ex:∃(f:Addr) (fd:FuncData),FnOk P w K mg base (CXE P w) k f fd ps sp/\Binds K fd ps []/\W.keepIn K (.ref f)=true/\mg x=some (.ref f)
def zew {P:Program}{w:World}{K:W.Frag}{mg:Str->Option Value}{base:Heap}{k:Nat}{x:Str}{ps:List Str}{sp:Sp}{f:Addr}{fd:FuncData}(h:FnOk P w K mg base (CXE P w) k f fd ps sp)(b:Binds K fd ps [])(c:W.keepIn K (.ref f)=true)(d:mg x=some (.ref f)) :
 CalX P w K mg base k x ps sp:=⟨f,fd,h,b,c,d⟩
section
variable {X:Cx}{k k':Nat}{x:Str}{ps:List Str}{F:List D->Option D}{e:Expr}{es:List Expr}{fl:FA}{f:FE}{p pos:Pos}
def zfR (C:CalX X.prog X.w X.K X.mg X.base k x ps (spX X.K F))(hr:Room k' X.A)(ha:VA X.nox (e::es) fl)(hk:k<=k':=by decide)(hg:Gl X x:=by rfl)(hdb:(x == ("__debug__" : Str))=false:=by decide)
 (he:starEach (e::es) X.env=(false,eval e X.env)::starEach es X.env:=by rfl) (hpl:(backTo pos (starEach es X.env)).any (·.1)=false:=by rfl):VQ X (.Call (.Name x p) (e::es) [] pos) (eCall F fl):=by
 obtain⟨f,fd,a,b,c,d⟩:=C.ex;obtain⟨t,p,g⟩:=ha;refine⟨_,zjQ (a.mono hk) hr hg d c b .nil p hdb he hpl,?_⟩;intro Hz Jz O Z Y H J x Q E s e w;obtain⟨ds,e1,e⟩:=bind_some e;refine g Hz Jz O Z Y H J ds _ s e1 λvs H1 J1 u1 r1=>?_
 exact⟨J1,ds,x,u1.ja,by rw[wbe];exact r1,e,w.up u1⟩
def zfc {t:TEX}{E:XK}(h:PEX X e t)(L:Leaves X E):PE X e (λY H Q=>t Y H Q E):=λpins s Y H Q I hw=>
 war (h pins s Y H Q E I hw) (λ_ _ q=>q) λe s' ⟨H1,s1,I1,hc⟩ =>L.passes pins Y H1 s1 e s' I1 hc
end
def FitsR (K:W.Frag)(Hz:Hp)(Jz:Addr->Prop)(O:Pr)(H:Hp)(J:Addr->Prop)(D:Ends)(E:XK):Out->Prop
|.nx Z'=>∀Y' H' J',ST K Hz Jz O Z' Y' H' J'->Keep K H J H' J'->D.nx Y' H'
|.bk Z'=>∀Y' H' J',ST K Hz Jz O Z' Y' H' J'->Keep K H J H' J'->D.bk Y' H'
|.ct Z'=>∀Y' H' J',ST K Hz Jz O Z' Y' H' J'->Keep K H J H' J'->D.ct Y' H'
|.ret (.told x) _=>FitsX K Hz Jz O x E
|.ret (.new _ _) _=>False
def FitsR.keep {K:W.Frag}{Hz:Hp}{Jz:Addr->Prop}{O:Pr}{H H1:Hp}{J J1:Addr->Prop}{D:Ends}{E:XK}(k:Keep K H J H1 J1):∀{o:Out},FitsR K Hz Jz O H J D E o->FitsR K Hz Jz O H1 J1 D E o
|.nx _,h=>λY' H' J' s q=>h Y' H' J' s (k.trans q)
|.bk _,h=>λY' H' J' s q=>h Y' H' J' s (k.trans q)
|.ct _,h=>λY' H' J' s q=>h Y' H' J' s (k.trans q)
|.ret (.told _) _,h=>h
|.ret (.new _ _) _,h=>h
def GoRz (K:W.Frag)(E:XK)(t:TS)(g:FS):Prop:=∀Hz Jz O Z Y H J o D,ST K Hz Jz O Z Y H J->g Z=some o->FitsR K Hz Jz O H J D E o->t D Y H
def VRS (X:Cx)(E:XK)(st:Stmt)(g:FS):Prop:=∃t,PS X st t/\GoRz X.K E t g
def VRs (X:Cx)(E:XK)(sts:List Stmt)(g:FS):Prop:=∃t,PSs X sts t/\GoRz X.K E t g
def zgY (g:FS):Prop:=∀Z r Z',g Z≠some (.ret r Z')
section
variable {X:Cx}{E:XK}{st:Stmt}{sts:List Stmt}{g g2:FS}{pos:Pos}{e a:Expr}{fa:FE}{fl:FA}{ft:FT}
def znj {i:Nat}:zgY (gSet i fa):=λZ r Z' e=>by
 obtain⟨a,_,e⟩:=bind_some e;split at e <;> cases e
def znk {i:Nat}:zgY (gOwn i fl):=λZ r Z' e=>by
 obtain⟨a,_,e⟩:=bind_some e;split at e <;> cases e
def znl {i:Nat}:zgY (gApp i fa):=λZ r Z' e=>by
 obtain⟨a,_,e⟩:=bind_some e;split at e
 .split at e <;> cases e
 .cases e
def zoq:zgY (gEx fa):=λZ r Z' e=>by
 obtain⟨a,_,e⟩:=bind_some e;cases e
def znm {fg:FG}:zgY (gAsg fa fg):=λZ r Z' e=>by
 obtain⟨a,_,e⟩:=bind_some e;obtain⟨b,_,e⟩:=bind_some e;cases e
def zjS (h:VS X st g)(n:zgY g:=by first|exact znj|exact znk|exact znl|exact zoq|exact znm):VRS X E st g:=by
 obtain⟨t,p,q⟩:=h;refine⟨t,p,λHz Jz O Z Y H J o D s e w=>q Hz Jz O Z Y H J o D s e ?_⟩;cases o with
|ret r Z'=>exact absurd e (n Z r Z')
|_=>exact w
def zcR:VRS X E st gNo:=⟨_,zga,λHz Jz O Z Y H J o D s e w=>by cases e⟩
def zbF:VRs X E [] gNx:=⟨_,zhv,λHz Jz O Z Y H J o D s e w=>by cases e;exact w Y H J s Keep.refl⟩
def zix {K:W.Frag}{t u:TS}(h1:GoRz K E t g)(h2:GoRz K E u g2):GoRz K E (tSeq t u) (gSeq g g2):=by
 intro Hz Jz O Z Y H J o D s e w;obtain⟨o1,e1,e⟩:=bind_some e;refine h1 Hz Jz O Z Y H J o1 _ s e1 ?_;cases o1 with
|nx Z'=>exact λY' H' J' s' k=>h2 Hz Jz O Z' Y' H' J' o D s' e (w.keep k)
|bk Z'=>cases e;exact w
|ct Z'=>cases e;exact w
|ret d Z'=>cases e;cases d <;> exact w
def zbl (h1:VRS X E st g)(h2:VRs X E sts g2):VRs X E (st::sts) (gSeq g g2):=by
 obtain⟨t,p,q⟩:=h1;obtain⟨u,p2,q2⟩:=h2;exact⟨_,zej p p2,zix q q2⟩
def zbG (h:VRS X E st g):VRs X E [st] g:=let ⟨t,p,q⟩:=h;⟨t,zhw p,q⟩
def zdD (h:VRS X E st g):VRs X E (st::sts) (gSeq g gNo):=by
 obtain⟨t,p,q⟩:=h;have nv:∀sts:List Stmt,PSs X sts zkh:=λsts _ _ _ _ _ _ h=>h.elim
 exact⟨_,zej p (nv sts),zix q λHz Jz O Z Y H J o D s e w=>by cases e⟩
def zjT (is:List Nat)(h:VRs X E sts g):VRs X E sts (zlr is g):=by
 obtain⟨t,p,q⟩:=h;exact⟨t,p,λHz Jz O Z Y H J o D s e w=>q Hz Jz O _ Y H J o D (s.dropE is) e w⟩
def zd3 {c:Expr}{bs os:List Stmt}(hc:VT X c ft)(ha:VRs X E bs g)(hb:VRs X E os g2):VRS X E (.If c bs os pos) (gIf ft g g2):=by
 obtain⟨tc,pc,qc⟩:=hc;obtain⟨t,p,q⟩:=ha;obtain⟨u,p2,q2⟩:=hb;refine⟨_,zmd pc p p2,λHz Jz O Z Y H J o D s e w=>?_⟩;obtain⟨k,e1,e⟩:=bind_some e;refine qc Hz Jz O Z Y H J k _ s e1 λH1 J1 u1=>?_
 cases k with
|true=>exact iteT (q Hz Jz O Z Y H1 J1 o D (s.up u1) e (w.keep u1.keep))
|false=>exact iteF (q2 Hz Jz O Z Y H1 J1 o D (s.up u1) e (w.keep u1.keep))
def znn {tg iter:Expr}{body:List Stmt}{is:List Nat}{fg:FG}{fi:FA}(hi:VI X tg iter fi)(hg:VG X tg is fg)(hb:VRs X E body g)(hp:PassesOwn (model X.prog X.w) X.A X.env X.xe:=by exact PassesOwn.leaving)(hc:X.calm=true:=by rfl)
 (hs:∀x,foldedSetIterable iter X.env x=pure x:=by intro _;rfl):VRS X E (.For tg iter body [] pos) (gFor fi fg g):=by
 obtain⟨wi,p1,q1⟩:=hi;obtain⟨t,p2,q2⟩:=hg;obtain⟨tb,p3,q3⟩:=hb;refine⟨_,zki hp hc p1 p2 p3 hs,?_⟩;intro Hz Jz O Z Y H J o D s e w;obtain⟨ds,e1,e⟩:=bind_some e;refine q1 Hz Jz O Z Y H J ds _ s e1 λI H1 J1 u1 src=>?_
 refine⟨λi m Y' H'=>m=ds.length - i/\i<=ds.length/\∃Z' J',ST X.K Hz Jz O Z' Y' H' J'/\Keep X.K H1 J1 H' J'/\forL fg g (ds.drop i) Z'=some o,⟨ds.length,by simp,waT _,Z,J1,s.up u1,Keep.refl,by simpa using e⟩,?_⟩;rintro i m Y2 H2 ⟨rfl,hil,Z2,J2,s2,k2,e2⟩;obtain⟨stop,turn⟩:=src H2 J2 k2 s2.ja;by_cases hlt:i<ds.length
 .right
  have hd:ds[i]?=some ds[i]:=waw hlt
  generalize hdd:ds[i]=d at hd;obtain⟨go,yl⟩:=turn i d hd;have edrop:ds.drop i=d::ds.drop (i+1):=by rw[<-hdd];exact(wbV hlt).symm
  rw[edrop] at e2;unfold forL at e2;obtain⟨Z3,eg,e2⟩:=bind_some e2;obtain⟨ob,eb,e2⟩:=bind_some e2;refine⟨go,λY' H'=>∃Z' J',ST X.K Hz Jz O Z' Y' H' J'/\Keep X.K H1 J1 H' J'/\forL fg g (ds.drop (i+1)) Z'=some o,λY' H' h=>⟨ds.length - (i+1),by omega,rfl,hlt,h⟩,λx H3 y=>?_⟩;obtain⟨J3,u3,r3⟩:=yl x H3 y;refine q2.2 Hz Jz O Z2 Y2 H3 J3 x d Z3 _ (s2.up u3) r3 eg λY4 s4=>?_
  refine q3 Hz Jz O Z3 Y4 H3 J3 ob _ s4 eb ?_;have k3:=k2.trans u3.keep
  cases ob with
 |nx Z5=>exact λY5 H5 J5 s5 k5=>⟨Z5,J5,s5,k3.trans k5,e2⟩
 |ct Z5=>exact λY5 H5 J5 s5 k5=>⟨Z5,J5,s5,k3.trans k5,e2⟩
 |bk Z5=>cases e2;exact λY5 H5 J5 s5 k5=>w Y5 H5 J5 s5 ((u1.keep.trans k3).trans k5)
 |ret d Z5=>cases e2;cases d <;> exact w
 .left
  have hi':i=ds.length:=by omega
  subst hi';rw[List.drop_length] at e2;cases e2;exact⟨stop,w Y2 H2 J2 s2 (u1.keep.trans k2)⟩
def ziy (h:VQ X e fa)(L:Leaves X E):VRS X E (.Return (some e) pos) (gRet fa):=by
 obtain⟨t,p,q⟩:=h;refine⟨_,zkg (zfc p L),?_⟩;intro Hz Jz O Z Y H J o D s e w;obtain⟨x,e1,e⟩:=bind_some e;cases e;exact q Hz Jz O Z Y H J x _ E s e1 (FitsX.wants w s)
def ziz (i:Nat){x:Str}{pos':Pos}(hN:X.N.Nodup)(h:VQ X e fa)(L:Leaves X E)(hi:X.N[i]?=some x:=by rfl)(hx:Loc X.env.scope x:=by first|exact Or.inl rfl|exact Or.inr rfl)(hs:swapsWith e (some (.Name x pos')) pos.line X.env=pure false:=by rfl)
 (hf:X.fn x=true\/X.env.scope.names.lookup x=some .local:=by first|exact .inl rfl|exact .inr rfl|assumption):VRS X E (.Assign [.Name x pos'] e pos) (gRet fa):=by
 obtain⟨t,p,q⟩:=h;refine⟨_,zhy hN hi hx (zfc p L) hs hf,?_⟩;intro Hz Jz O Z Y H J o D s e w;obtain⟨x,e1,e⟩:=bind_some e;cases e;exact q Hz Jz O Z Y H J x _ E s e1 (FitsX.wants w s)
end
structure XCl (P:Program)(w:World)(K:W.Frag)(mg:Str->Option Value)(c nm:Str)(ok:D->Bool):Prop where
 sup:mg "super"=none
 ex:∃C N fI bm slf x J fd,XI P w K C N fI bm slf x nm J fd/\mg c=some (.ref C)/\W.nsIn K mainGlobals c=some (some (.ref C))/\W.keepIn K (.ref C)=true/\bm.contains (.type "BaseException")=true/\
  ∀(h:Heap) (u:Value) (d:D),ok d=true->ndD d=true/\(Rh h u d->Says P w K fd fI x J u h)
def rz (c nm:Str)(ok:D->Bool)(d:D):Option D:=if ok d then some (.exc c [nm] [d]) else none
def eRz (c nm:Str)(ok:D->Bool)(f:FE):FE:=λZ=>(f Z).bind (rz c nm ok)
section
variable {X:Cx}{E:XK}{c nm:Str}{ok:D->Bool}{e:Expr}{fa:FE}{k:Nat}{np cp pos:Pos}
def zjU (cl:XCl X.prog X.w X.K X.mg c nm ok)(hr:Room (k+1) X.A)(hL:Leaves X E)(ha:VE X e fa)(hg:Gl X c:=by rfl)
 (hdb:(c == ("__debug__" : Str))=false:=by decide) (he:starEach [e] X.env=(false,eval e X.env)::starEach [] X.env:=by rfl):VRS X E (.Raise (some (.Call (.Name c np) [e] [] cp)) none pos) (gRet (eRz c nm ok fa)):=by
 obtain⟨C,N,fI,bm,slf,x,J,fd,xi,hm,hn,hk,hB,says⟩:=cl.ex;obtain⟨t,p,g⟩:=zaa ha zac he;refine⟨_,zjN (SJ:=λv H=>∃J d,Rp X.K H J v d/\ok d=true) xi cl.sup hg hm hk hB hr hL p ?_ hdb he,?_⟩
 .rintro pins Y H s v u I r ⟨J,d,rv,hok⟩;exact(says s.heap u d hok).2 (Rp.rh I rv (says s.heap u d hok).1 r)
 intro Hz Jz O Z Y H J o D s e w;obtain⟨y,e1,e⟩:=bind_some e;cases e;obtain⟨d,e0,e2⟩:=bind_some e1;unfold rz at e2;by_cases hok:ok d=true
 .rw[if_pos hok] at e2;cases e2;have e3:aCons fa aNil Z=some [d]:=by unfold aCons;rw[e0];rfl
  refine g Hz Jz O Z Y H J [d] _ s e3 λvs H1 J1 u1 r1=>?_
  obtain⟨v,rfl,rv⟩:=r1.one;refine⟨v,rfl,⟨J1,d,rv,hok⟩,λdx hdx=>?_⟩;have un:=Up.new u1.ja hdx (.xd [(nm,v)])
  have s1:=s.up u1
  exact w Z Y _ J1 _ _ (s1.up un) ⟨c,[nm],[d],C,rfl,hn,rfl,.inr ⟨dx,[v],rfl,λj=>u1.ja dx j hdx,zai,rfl,.cons (rv.keep un.keep) .nil⟩⟩ λb z=>by cases z;exact s1.h0 hdx
 .rw[if_neg hok] at e2;cases e2
end
def kX:Out->Option D
|.ret (.told d) _=>some d
|_=>none
def ziA {P:Program}{w:World}{K:W.Frag}{mg:Str->Option Value}{base:Heap}{x qual:Str}{st:Stmt}{f:Addr}{fd:FuncData}{N ps:List Str}{k:Nat}{c:List D->Option D}(F:Fun K x qual st f fd)(S:FnScope N ps (zad st))(hlen:∀ds d,c ds=some d->ds.length=ps.length)
 (hbody:∀(cdv:Value) (A:Around) (outer:List Env) (s:Shared) (H:Hp) (E:XK),Room k (A.deeper (envOfC qual (zad st) s.heap.objs.size f cdv))->Leaves (cxOf (CXE P w) P w K mg base N qual (zad st) f cdv A outer s H E) E->
  ∃g,VRs (cxOf (CXE P w) P w K mg base N qual (zad st) f cdv A outer s H E) E (zaT st) g/\∀ds,ds.length=ps.length->EvS kX some g (ds.map SV.val++List.replicate (N.length - ps.length) .un) (c ds)):FnOk P w K mg base (CXE P w) (k+1) f fd ps (spX K c):=by
 obtain⟨oc,od,kV,doc,pm,an,cdv,ct,osl,rfl,lk,hcd⟩:=F.ex;refine zjh lk hcd S (λvs H Q E h=>?_) λA outer s H vs Q E hr h=>?_
 .obtain⟨J,ds,d,ja,r,e,w⟩:=h;rw[r.length];exact hlen ds d e
 .obtain⟨J,ds,d,ja,r,e,w⟩:=h;have hl:=hlen ds d e
  obtain⟨g,⟨t,p,q⟩,ev⟩:=hbody cdv A outer s H E hr ze8;refine⟨t,p,?_⟩;have e:=ev ds hl d (by rw[e];rfl)
  rw[<-hl] at e;have s0:=zdn (N:=N) ja r
  cases z:g (ds.map SV.val++List.replicate (N.length - ds.length) .un) with
 |none=>rw[z] at e;cases e
 |some o=>
    rw[z] at e;refine q H J Pr.no _ _ H J o _ s0 z ?_;cases o with
   |ret r Z'=>
      cases r with
     |told d'=>cases e;exact λZ' Y' H' J' cls dx s' x' n'=>w H' J' cls dx s'.out x' n'
     |new n d'=>cases e
   |_=>cases e
section
variable {X:Cx}{body ss:List Stmt}{e:Expr}{pos:Pos}{f fx:FE}{ft:FT}
def zno {t:TS}(h:PSs X.nox ss t):PSX X ss (λD _ Y H=>t D Y H):=λpins s Y H D E I hw=>
 war (h pins s Y H D (zgr I) hw) (λfl s' q=>by
  cases fl with
 |next=>obtain⟨Y',H',J,q⟩:=q;exact⟨Y',H',zdC J,q⟩
 |brk=>obtain⟨Y',H',J,q⟩:=q;exact⟨Y',H',zdC J,q⟩
 |cont=>obtain⟨Y',H',J,q⟩:=q;exact⟨Y',H',zdC J,q⟩
 |ret u=>obtain⟨v,Y',H',J,r,q⟩:=q;exact⟨v,Y',H',zdC J,r,q⟩) λ_ _ z=>z.elim
def VXB (X:Cx)(ss:List Stmt)(gx:FE):Prop:=∃t,PSX X ss t/\∀Hz Jz O Z Y H J x D E,ST X.K Hz Jz O Z Y H J->gx Z=some x->WantsX X.K H J x E->t D E Y H
def zlG (i:Nat){x:Str}{pos':Pos}(hN:X.N.Nodup)(h:VQ X e f)(hi:X.N[i]?=some x:=by rfl)(hx:Loc X.env.scope x:=by first|exact Or.inl rfl|exact Or.inr rfl)(hs:swapsWith e (some (.Name x pos')) pos.line X.env=pure false:=by rfl)
 (hf:X.fn x=true\/X.env.scope.names.lookup x=some .local:=by first|exact .inl rfl|exact .inr rfl|assumption):VXB X [.Assign [.Name x pos'] e pos] f:=by
 obtain⟨t,p,q⟩:=h;exact⟨_,zlC hN hi hx p hs hf,λHz Jz O Z Y H J x D E s e w=>q Hz Jz O Z Y H J x _ E s e w⟩
def zbY (cs:List Str):D->Bool
|.exc c _ _=>cs.contains c
|_=>false
structure XTy (K:W.Frag)(mg:Str->Option Value)(T:Str)(cs:List Str):Prop where
 ex:∃CT,mg T=some (.ref CT)/\PySem.W.mroIn K CT (.type "BaseException")=some true/\PySem.W.typeIn K (.ref CT)=some (.type "type")/\∀c C,c∈cs->W.nsIn K mainGlobals c=some (some (.ref C))->PySem.W.mroIn K C (.ref CT)=some true
def unO (i:Nat):Out->Option Out
|.nx Z=>if isPar (Z[i]?)=false then some (.nx (Z.set i .un)) else none
|.bk Z=>if isPar (Z[i]?)=false then some (.bk (Z.set i .un)) else none
|.ct Z=>if isPar (Z[i]?)=false then some (.ct (Z.set i .un)) else none
|.ret r Z=>some (.ret r Z)
def gTry (cs:List Str)(i:Nat)(gx:FE)(gb gh:FS):FS:=λZ=>match gx Z with
|some x=>if zbY cs x&&okS i Z then(gh (Z.set i (.val x))).bind (unO i) else none
|none=>gb Z
def zlH {K:W.Frag}{H H' H2:Hp}{J J':Addr->Prop}{x:D}{cls:Value}{dx:Option Addr}{a:Addr}{oa:Obj}(ja:∀a,J a->H a≠none)(u:Up H J H' J')(at':XAtD K H' J' x cls dx)(fr:∀d,dx=some d->H d=none)(ha:H' a=none)(hc:oa.cls=cls)(hd:oa.dict=dx)(hn:PySem.W.notCls oa=true)(h:Held H' a oa H2) :
 ∃J2,Up H J H2 J2/\Rp K H2 J2 (.ref a) x:=by
 obtain⟨c,ns,ds,C,rfl,hns,rfl,hx⟩:=at';rcases hx with⟨rfl,rfl,rfl⟩|⟨d,vs,rfl,njd,hxd,hl,rl⟩
 .rcases h with⟨hd',rfl⟩|⟨d,od,fs,hd',_,_⟩
  .refine⟨λb=>J' b\/b=a,⟨u.same.trans (zeo ha _),λb h=>.inl (u.jj b h),λb h=>?_,λb h=>?_⟩,.exc ⟨.inr rfl,oa,C,hns,zai,hc,hn,.inl ⟨rfl,rfl,hd⟩⟩ .nil⟩
   .rcases h with h|rfl
    .exact u.jn b h
    .exact .inr (u.same.free ha)
   .by_cases z:b=a
    .subst z;rw[zai];simp
    .rw[zag z];rcases h with h|h
     .exact u.ja b h
     .exact absurd h z
  .rw[hd] at hd';cases hd'
 .rcases h with⟨hd',_⟩|⟨d',od,fs,hd',hf,rfl⟩
  .rw[hd] at hd';cases hd'
  .obtain rfl:d=d':=waq (hd.symm.trans hd');rw[hxd] at hf;cases hf;have hda:d≠a:=by rintro rfl;rw[hxd] at ha;cases ha
   have hHd:=fr d rfl
   have hne:∀b o,b≠a->b≠d->H' b=o->(upd (upd H' a (.frz oa X0)) d (.frz od (.xd (ns.zip vs)))) b=o:=λb o h1 h2 h3=>by rw[zag h2,zag h1];exact h3
   have kp:Keep K H' J' (upd (upd H' a (.frz oa X0)) d (.frz od (.xd (ns.zip vs)))) (λb=>J' b\/b=a\/b=d):=⟨λ_ h=>.inl h,λp o j h=>hne p _ (λz=>by subst z;rw[ha] at h;cases h) (λz=>by subst z;exact njd j) h,λp us h=>by
    have sm:∀o,H' p=some o->(∀fs,o≠.xd fs)->(upd (upd H' a (.frz oa X0)) d (.frz od (.xd (ns.zip vs)))) p=some o:=λo h hx=>hne p _ (λz=>by subst z;rw[ha] at h;cases h) (λz=>by subst z;rw[hxd] at h;cases h;exact hx _ rfl) h
    rcases h with(h|⟨o,h⟩)|h
    .exact .inl (.inl (sm _ h λ_ z=>by cases z))
    .exact .inl (.inr ⟨o,sm _ h λ_ z=>by cases z⟩)
    .exact .inr h⟩
   refine⟨λb=>J' b\/b=a\/b=d,⟨λb o e=>?_,λb h=>.inl (u.jj b h),λb h=>?_,λb h=>?_⟩,.exc ⟨.inr (.inl rfl),oa,C,hns,by rw[zag hda.symm,zai];rfl,hc,hn,.inr ⟨d,od,hd,.inr (.inr rfl),zai,hl⟩⟩ (rl.keep kp)⟩
   .exact hne b _ (λz=>by subst z;rw[u.same.free ha] at e;cases e) (λz=>by subst z;rw[hHd] at e;cases e) (u.same b o e)
   .rcases h with h|rfl|rfl
    .exact u.jn b h
    .exact .inr (u.same.free ha)
    .exact .inr hHd
   .by_cases z2:b=d
    .subst z2;rw[zai];simp
    .rw[zag z2];by_cases z:b=a
     .subst z;rw[zai];simp
     .rw[zag z];rcases h with h|h|h
      .exact u.ja b h
      .exact absurd h z
      .exact absurd h z2
def znp {T n:Str}{tp hp:Pos}{suite:List Stmt}{b₀:Stmt}{cs:List Str}{gx:FE}{gb gh:FS}(i:Nat)(ty:XTy X.K X.mg T cs)(hN:X.N.Nodup)(hx:VXB X body gx)(hb:VSs X.nox body gb)(hh:∀e,VSs (inH X e) (b₀::suite) gh)
 (hg:Gl X T:=by rfl) (hi:X.N[i]?=some n:=by rfl) (hk:X.env.kindOf n=some .local:=by rfl) (hst:X.stack=X.env::X.outer:=by rfl) (hf:X.env.frame=some X.env.locals:=by rfl) (hdb:(T == ("__debug__" : Str))=false:=by decide) :
 VS X (.Try body [.ExceptHandler (some (.Name T tp)) (some n) (b₀::suite) hp] [] [] pos) (gTry cs i gx gb gh):=by
 obtain⟨CT,hm,hB,hT,hC⟩:=ty.ex;obtain⟨t1,p1,q1⟩:=hx;obtain⟨t2,p2,q2⟩:=hb;have pb:PSX X body (λD E Y H=>t1 D E Y H\/t2 D Y H):=λpins s Y H D E I h=>h.elim (p1 pins s Y H D E I) (zno p2 pins s Y H D E I)
 have ph:∀e,PSs (inH X e) (b₀::suite) (λD Y H=>∀e,(hh e).choose D Y H):=λe pins s Y H D I h=>(hh e).choose_spec.1 pins s Y H D I (h e)
 refine⟨_,zng hst hf hg hm hN hi hk hB hT pb ph hdb,?_⟩;intro Hz Jz O Z Y H J o D s e w;unfold gTry at e;split at e
 .rename_i x e1
  by_cases hq:(zbY cs x&&okS i Z)=true
  .rw[if_pos hq] at e;rw[waD] at hq;obtain⟨o1,e2,e⟩:=bind_some e;have hok:=ze0 hq.2
   refine .inl (q1 Hz Jz O Z Y H J x D _ s e1 λH' J' cls dx u at' fr=>?_);have at0:=at'
   obtain⟨c,ns,ds,C,hxx,hns,hcl,hx⟩:=at';have hcc:c∈cs:=by
    have:=hq.1
    rw[hxx] at this;exact List.contains_iff_mem.mp this
   refine⟨⟨C,hcl,hC c C hcc hns⟩,λd hd=>?_,λa oa H2 ha hc' hd' hn' hh'=>?_⟩
   .rcases hx with⟨z,_,_⟩|⟨d',vs,z,_,hxd,_,_⟩
    .rw[hd] at z;cases z
    .rw[hd] at z;cases z;exact⟨_,hxd⟩
   .obtain⟨J2,u2,r2⟩:=zlH s.ja u at0 fr ha hc' hd' hn' hh';have s2:=(s.up u2).set r2 hok.1 (zbx hok.2)
    intro ev;refine(hh ev).choose_spec.2 Hz Jz O _ _ H2 J2 o1 (unset i D) s2 e2 ?_;cases o1 with
   |nx Z'=>
      unfold unO at e;by_cases hp:isPar (Z'[i]?)=false
      .simp only[if_pos hp] at e;cases e;exact λY' H' J' s' k'=>w _ H' J' (s'.unset (zbx hp)) (u2.keep.trans k')
      .simp only[if_neg hp] at e;cases e
   |bk Z'=>
      unfold unO at e;by_cases hp:isPar (Z'[i]?)=false
      .simp only[if_pos hp] at e;cases e;exact λY' H' J' s' k'=>w _ H' J' (s'.unset (zbx hp)) (u2.keep.trans k')
      .simp only[if_neg hp] at e;cases e
   |ct Z'=>
      unfold unO at e;by_cases hp:isPar (Z'[i]?)=false
      .simp only[if_pos hp] at e;cases e;exact λY' H' J' s' k'=>w _ H' J' (s'.unset (zbx hp)) (u2.keep.trans k')
      .simp only[if_neg hp] at e;cases e
   |ret r Z'=>cases e;exact w
  .rw[if_neg hq] at e;cases e
 .exact .inr (q2 Hz Jz O Z Y H J o D s e w)
end
def kU (i:Nat):Out->Option En
|.nx Z=>if isPar (Z[i]?)=false then some (Z.set i .un) else none
|_=>none
def znq {S:Type}{cs:List Str}{i:Nat}{gx:FE}{gb gh:FS}{Z:En}{emb:S->En}{h:D->Option S}{b:Option S}(hi:okS i Z=true)(hh:∀x,EvS (kU i) (λs=>some (emb s)) gh (Z.set i (.val x)) (h x))(hb:gx Z=none->EvS k0 (λs=>some (emb s)) gb Z b) :
 Step (gTry cs i gx gb gh) Z (match gx Z with|some x=>if zbY cs x then h x else none|none=>b) emb:=λs z=>by
 unfold gTry;cases e:gx Z with
|some x=>
   rw[e] at z;dsimp only at z⊢;by_cases hc:zbY cs x=true
   .rw[if_pos hc] at z;rw[if_pos (by rw[hc,hi];rfl)];obtain⟨o,e1,e2⟩:=zaj (hh x (emb s) (by rw[z];rfl));rw[e1,zOB];cases o with
   |nx Z'=>
      unfold kU at e2;unfold unO;by_cases hp:isPar (Z'[i]?)=false
      .simp only[if_pos hp] at e2⊢;rw[waq e2]
      .simp only[if_neg hp] at e2;cases e2
   |_=>cases e2
   .rw[if_neg hc] at z;cases z
|none=>
   rw[e] at z;obtain⟨o,e1,e2⟩:=zaj (hb e (emb s) (by rw[show b=some s from z];rfl));show gb Z=_
   rw[e1];cases o <;> cases e2
   rfl
def Exh.caught {K:W.Frag}{H:Hp}{J:Addr->Prop}{a:Addr}{c:Str}{ns:List Str}{vs:List V}(h:Exh K H J a c ns vs)(hn:ns≠[]):∃C,W.nsIn K mainGlobals c=some (some (.ref C))/\zfb H a C (ns.zip vs):=by
 obtain⟨j,oa,C,h1,h2,h3,h4,h5⟩:=h;rcases h5 with⟨z,_,_⟩|⟨d,od,h6,h7,h8,h9⟩
 .exact absurd z hn
 .exact⟨C,h1,oa,d,od,h2,h3,h4,h6,h8⟩
def zfS (H:Hp)(a C:Addr):Prop:=(∃fs,zfb H a C fs)\/zfP H a C
def Exh.caughtA {K:W.Frag}{H:Hp}{J:Addr->Prop}{a:Addr}{c:Str}{ns:List Str}{vs:List V}(h:Exh K H J a c ns vs):∃C,W.nsIn K mainGlobals c=some (some (.ref C))/\zfS H a C:=by
 obtain⟨j,oa,C,h1,h2,h3,h4,h5⟩:=h;rcases h5 with⟨_,_,z⟩|⟨d,od,h6,h7,h8,h9⟩
 .exact⟨C,h1,.inr ⟨oa,h2,h3,h4,z⟩⟩
 .exact⟨C,h1,.inl ⟨_,oa,d,od,h2,h3,h4,h6,h8⟩⟩
def isX (tab:List (Str×Bool)):D->Option D
|.exc c _ _=>(tab.lookup c).map .bl
|_=>none
structure XInst (K:W.Frag)(cv:Value)(tab:List (Str×Bool)):Prop where
 ok:∀c b,tab.lookup c=some b->∀C,W.nsIn K mainGlobals c=some (some (.ref C))->XK1 K C/\PySem.W.kitOne K (.ref C) cv=some b
def rIsX (K:W.Frag):List V->Hp->VK->Prop:=λxs H Q=>∃a c C cv b,xs = [.ref a,c]/\(∀u,RelV c u->u=cv)/\zfS H a C/\XK1 K C/\PySem.W.kitOne K (.ref C) cv=some b/\Q (.bl b) H
def zgt {X:Cx}:zcL X (.builtin "isinstance") (rIsX X.K):=by
 rintro pins s Y H xs us Q I r ⟨a,c,C,cv,b,rfl,hc,hca,k1,e,q⟩;obtain⟨u,w',rfl,r1,r2⟩:=zjf r;obtain rfl:u=Value.ref a:=r1;obtain rfl:=hc _ r2;rcases hca with⟨fs,hca⟩|hca
 .exact ziu I k1 hca e λtk=>⟨.bl b,H,I.tok _,rfl,q⟩
 .exact zgX I k1 hca e λtk=>⟨.bl b,H,I.tok _,rfl,q⟩
section
variable {X:Cx}{a e:Expr}{fa:FE}{p q pos:Pos}{T:Str}{cv:V}{u:Value}{tab:List (Str×Bool)}
def zkA {t:TE}(IN:XInst X.K u tab)(hu:∀u',RelV cv u'->u'=u)(g:GoE X.K t fa):GoE X.K (tCB (rIsX X.K) (zkT t (zkT (tC cv) tNil))) (λZ=>(fa Z).bind (isX tab)):=by
 intro Hz Jz O Z Y H J d Q s e w;obtain⟨x,e1,e⟩:=bind_some e;unfold isX at e;split at e
 .rename_i c ns ds
  obtain⟨b,e2,e3⟩:=waY.mp e;cases e3;refine g Hz Jz O Z Y H J _ _ s e1 λv H1 J1 u1 r1=>?_
  show rIsX X.K [v,cv] H1 Q
  cases r1 with
 |exc h rl=>
    obtain⟨C,hC,ca⟩:=h.caughtA;obtain⟨k1,k2⟩:=IN.ok c b e2 C hC;exact⟨_,cv,C,u,b,rfl,hu,ca,k1,k2,w _ H1 J1 u1 (.bl b)⟩
 .cases e
def zgu {CT:Addr}(IN:XInst X.K (.ref CT) tab)(hm:X.mg T=some (.ref CT))(B:Blt X.mg)(ha:VE X a fa)(hgT:Gl X T:=by rfl)(hdT:(T == ("__debug__" : Str))=false:=by decide)(hg:Gl X "isinstance":=by rfl)
 (h1:starEach [a,.Name T q] X.env=(false,eval a X.env)::starEach [.Name T q] X.env:=by rfl) (h2:starEach [.Name T q] X.env=(false,eval (.Name T q) X.env)::starEach [] X.env:=by rfl)
 (hpl:(backTo pos (starEach [.Name T q] X.env)).any (·.1)=false:=by rfl):VE X (.Call (.Name "isinstance" p) [a,.Name T q] [] pos) (λZ=>(fa Z).bind (isX tab)):=by
 obtain⟨t,pa,g⟩:=ha;exact⟨_,pb zgt B boot_isinstance (zbu pa (zbu (zfA (v:=.ref CT) hgT hm rfl hdT) zdg h2) h1) (by decide +kernel) hg (by decide) (by decide) h1 hpl,zkA IN (λu' r=>r) g⟩
def znr {Tt:String}(IN:XInst X.K (.type Tt) tab)(hm:X.mg T=none)(hv:bootBuiltins T=some (.type Tt))(B:Blt X.mg)(ha:VE X a fa)(hgT:Gl X T:=by rfl)(hnT:T≠"__name__":=by decide)(hdT:(T == ("__debug__" : Str))=false:=by decide)(hg:Gl X "isinstance":=by rfl)
 (h1:starEach [a,.Name T q] X.env=(false,eval a X.env)::starEach [.Name T q] X.env:=by rfl) (h2:starEach [.Name T q] X.env=(false,eval (.Name T q) X.env)::starEach [] X.env:=by rfl)
 (hpl:(backTo pos (starEach [.Name T q] X.env)).any (·.1)=false:=by rfl):VE X (.Call (.Name "isinstance" p) [a,.Name T q] [] pos) (λZ=>(fa Z).bind (isX tab)):=by
 obtain⟨t,pa,g⟩:=ha;exact⟨_,pb zgt B boot_isinstance (zbu pa (zbu (zhu (v:=.ty Tt) hgT hm hv rfl hnT hdT) zdg h2) h1) (by decide +kernel) hg (by decide) (by decide) h1 hpl,zkA IN (λu' r=>r) g⟩
def PCl (X:Cx)(es:List Expr)(Cs:List Addr):Prop:=PA X es (λY H Q=>Q (Cs.map V.ref) H)
def zdE:PCl X [] []:=zdg
def zaI {es:List Expr}{Cs:List Addr}{CT:Addr}(hm:X.mg T=some (.ref CT))(h:PCl X es Cs)(hg:Gl X T:=by rfl)(hd:(T == ("__debug__" : Str))=false:=by decide)
 (h1:starEach (.Name T q::es) X.env=(false,eval (.Name T q) X.env)::starEach es X.env:=by rfl):PCl X (.Name T q::es) (CT::Cs):=zbu (zfA (v:=.ref CT) hg hm rfl hd) h h1
structure XInstT (K:W.Frag)(Cs:List Addr)(tab:List (Str×Bool)):Prop where
 ok:∀c b,tab.lookup c=some b->∀C,W.nsIn K mainGlobals c=some (some (.ref C))->XK1 K C/\PySem.W.kitAny K (.ref C) (Cs.map Value.ref)=some b
 le:Cs.length<=sizeLine
def zns (K:W.Frag):List V->Hp->VK->Prop:=λxs H Q=>∃(a p C:Addr) (Cs:List Addr) (b:Bool),xs = [.ref a,.ref p]/\H p=some (.tup (Cs.map V.ref))/\zfS H a C/\XK1 K C/\PySem.W.kitAny K (.ref C) (Cs.map Value.ref)=some b/\Q (.bl b) H
theorem zfd:∀{Cs:List Addr}{us:List Value},Vals (Cs.map V.ref) us->us=Cs.map Value.ref
|[],_,h=>by cases h;rfl
|c::cs,_,h=>by
   cases h with
  |cons a b=>rw[zfd b];cases a;rfl
def ziB {X:Cx}:zcL X (.builtin "isinstance") (zns X.K):=by
 rintro pins s Y H xs us Q I r ⟨a,p,C,Cs,b,rfl,hp,hca,k1,e,q⟩;obtain⟨u,w',rfl,r1,r2⟩:=zjf r;obtain rfl:u=Value.ref a:=r1;obtain rfl:w'=Value.ref p:=r2;obtain⟨its,rv,pt,_⟩:=I.tuple (SqT.of hp);rw[zfd rv] at pt;obtain⟨⟨c0,d0,dt0,sl0⟩,h1,h2,n,h3⟩:=pt;dsimp only at h2 h3;subst h2 h3;rcases hca with⟨fs,hca⟩|hca
 .exact zgW I k1 hca h1 e λtk=>⟨.bl b,H,I.tok _,rfl,q⟩
 .exact zfQ I k1 hca h1 e λtk=>⟨.bl b,H,I.tok _,rfl,q⟩
def zdF {es:List Expr}{Cs:List Addr}{x1}(IN:XInstT X.K Cs tab)(B:Blt X.mg)(ha:VE X a fa)(hc:PCl X es Cs)(hg:Gl X "isinstance":=by rfl)
 (h1:starEach [a,.Tuple es x1 q] X.env=(false,eval a X.env)::starEach [.Tuple es x1 q] X.env:=by rfl) (h2:starEach [.Tuple es x1 q] X.env=(false,eval (.Tuple es x1 q) X.env)::starEach [] X.env:=by rfl)
 (hpl:(backTo pos (starEach [.Tuple es x1 q] X.env)).any (·.1)=false:=by rfl):VE X (.Call (.Name "isinstance" p) [a,.Tuple es x1 q] [] pos) (λZ=>(fa Z).bind (isX tab)):=by
 obtain⟨t,pa,g⟩:=ha;refine⟨_,pb ziB B boot_isinstance (zbu pa (zbu (zkk hc) zdg h2) h1) (by decide +kernel) hg (by decide) (by decide) h1 hpl,?_⟩;intro Hz Jz O Z Y H J d Q s e w;obtain⟨x,e1,e⟩:=bind_some e;unfold isX at e;split at e
 .rename_i c ns ds
  obtain⟨b,e2,e3⟩:=waY.mp e;cases e3;refine g Hz Jz O Z Y H J _ _ s e1 λv H1 J1 u1 r1=>⟨by rw[waG];exact IN.le,λp' hp'=>?_⟩
  have un:=Up.new u1.ja hp' (.tup (Cs.map V.ref))
  show zns X.K [v,.ref p'] (upd H1 p' (.tup (Cs.map V.ref))) Q
  cases r1.keep un.keep with
 |exc h rl=>
    obtain⟨C,hC,ca⟩:=h.caughtA;obtain⟨k1,k2⟩:=IN.ok c b e2 C hC;exact⟨_,p',C,Cs,b,rfl,zai,ca,k1,k2,w _ _ J1 (u1.trans un) (.bl b)⟩
 .cases e
structure XFld (K:W.Frag)(f:Str)(cs:List Str):Prop where
 ok:∀c,c∈cs->∀C,W.nsIn K mainGlobals c=some (some (.ref C))->XG K C f
def zlI (f:Str)(cs:List Str)(d:D):Option D:=match d with
|.exc c (n::ns) ds=>if cs.contains c then((n::ns).zip ds).lookup f else none
|_=>none
theorem RpL.look {K:W.Frag}{H:Hp}{J:Addr->Prop}{f:Str}:∀{ns:List Str}{vs:List V}{ds:List D}{d:D},RpL K H J vs ds->(ns.zip ds).lookup f=some d->∃v,(ns.zip vs).lookup f=some v/\Rp K H J v d
|[],_,_,_,_,e=>by simp at e
|n::ns,_,_,_,.nil,e=>by simp at e
|n::ns,v::vs,d'::ds,d,.cons h t,e=>by
   rw[List.zip_cons_cons,waH] at e⊢;by_cases hf:(f == n)=true
   .rw[hf] at e⊢;cases e;exact⟨v,rfl,h⟩
   .have hf:(f == n)=false:=by simpa using hf
    rw[hf] at e⊢;exact RpL.look t e
def zlJ {f:Str}{cs:List Str}(XF:XFld X.K f cs)(ha:VE X a fa)(hb:attributeBase a f X.env (eval a X.env)=eval a X.env:=by rfl):VE X (.Attribute a f pos) (λZ=>(fa Z).bind (zlI f cs)):=by
 obtain⟨t,pa,g⟩:=ha;refine⟨_,zlE pa hb,?_⟩;intro Hz Jz O Z Y H J d Q s e w;obtain⟨x,e1,e⟩:=bind_some e;unfold zlI at e;split at e
 .rename_i c n ns ds
  split at e
  .rename_i hc
   refine g Hz Jz O Z Y H J _ _ s e1 λv H1 J1 u1 r1=>?_
   cases r1 with
  |exc h rl=>
     obtain⟨C,hC,ca⟩:=h.caught (by simp);obtain⟨v,hv,rv⟩:=rl.look e;exact⟨_,C,_,v,rfl,ca,XF.ok c (List.contains_iff_mem.mp hc) C hC,hv,w v H1 J1 u1 rv⟩
  .cases e
 .cases e
end
def okTx (y:Str):Bool:=decide (y.length<=1000)&&y.cps.toList.all λc=>decide (c<16 ^ 8)
def zex:D->Bool
|.str y=>okTx y
|_=>false
def zjV {y:Str}(h:okTx y=true):(reprText y).length<=10002:=by
 unfold okTx at h;rw[waD] at h;have h1:=of_decide_eq_true h.1
 have h2:=StrLaws.reprText_len y λc hc=>of_decide_eq_true (waJ.mp h.2 c hc)
 omega
def zjW {P:Program}{w:World}{K:W.Frag}{mg:Str->Option Value}{C N fI:Addr}{bm:List Value}{slf x nm c p:Str}{fd:FuncData}{k:Nat}{cp np fp jp:Pos}(xi:XI P w K C N fI bm slf x nm (.JoinedStr [.Constant (.str p) k cp,.FormattedValue (.Name x np) 114 none fp] jp) fd)
 (hsup:mg "super"=none) (hm:mg c=some (.ref C)) (hn:W.nsIn K mainGlobals c=some (some (.ref C))) (hk:W.keepIn K (.ref C)=true) (hB:bm.contains (.type "BaseException")=true) (hp:p.length<=1000):XCl P w K mg c nm zex where
 sup:=hsup
 ex:=⟨C,N,fI,bm,slf,x,_,fd,xi,hm,hn,hk,hB,λh u d hok=>by
  cases d with
 |str y=>
    refine⟨rfl,λr=>?_⟩;cases r;have h1:=zjV hok
    have h2:11002<=sizeLine:=by decide +kernel
    exact zit (λL=>(xi.kinds L).2.2.2) xi.flags.2.2 xi.dbg.1 (by omega)
 |_=>cases hok⟩
section
variable {X:Cx}{E:XK}{fa:FE}{pos:Pos}
def znt {R A:Type}{k:Out->Option R}{φ:A->Option R}{g:FS}{Z:En}{a:Option A}(h:EvS (kx k) φ g Z a):EvS k φ (gSeq g gNo) Z a:=λr e=>zkv (h r e)
end
def zdG:bootBuiltins "ValueError"=some (.type "ValueError"):=by decide +kernel
section
variable {K:W.Frag}{mg:Str->Option Value}{c T f:Str}{C CT:Addr}{cv:Value}{b:Bool}{tab:List (Str×Bool)}{Cs:List Addr}{cs:List Str}
def zcm:XInst K cv []:=⟨λc b e=>by cases e⟩
def za2 (hn:W.nsIn K mainGlobals c=some (some (.ref C)))(k:XK1 K C)(e:PySem.W.kitOne K (.ref C) cv=some b)(t:XInst K cv tab):XInst K cv ((c,b)::tab):=⟨λx y h C' hC=>by
 rw[waH] at h;by_cases z:(x == c)=true
 .rw[z] at h;obtain rfl:x=c:=by simpa using z
  rw[hn] at hC;cases hC;cases h;exact⟨k,e⟩
 .have z:(x == c)=false:=by simpa using z
  rw[z] at h;exact t.ok x y h C' hC⟩
def zb6 (h:Cs.length<=sizeLine):XInstT K Cs []:=⟨(λc b e=>by cases e),h⟩
def zaW (hn:W.nsIn K mainGlobals c=some (some (.ref C)))(k:XK1 K C)(e:PySem.W.kitAny K (.ref C) (Cs.map Value.ref)=some b)(t:XInstT K Cs tab):XInstT K Cs ((c,b)::tab):=⟨λx y h C' hC=>by
 rw[waH] at h;by_cases z:(x == c)=true
 .rw[z] at h;obtain rfl:x=c:=by simpa using z
  rw[hn] at hC;cases hC;cases h;exact⟨k,e⟩
 .have z:(x == c)=false:=by simpa using z
  rw[z] at h;exact t.ok x y h C' hC,t.le⟩
def zjX:XFld K f []:=⟨λc h=>by cases h⟩
def ziC (hn:W.nsIn K mainGlobals c=some (some (.ref C)))(g:XG K C f)(t:XFld K f cs):XFld K f (c::cs):=⟨λx h C' hC=>by
 by_cases z:x=c
 .subst z;rw[hn] at hC;cases hC;exact g
 .exact t.ok x ((wah.mp h).resolve_left z) C' hC⟩
def zlK (hm:mg T=some (.ref CT))(hB:PySem.W.mroIn K CT (.type "BaseException")=some true)(hT:PySem.W.typeIn K (.ref CT)=some (.type "type")):XTy K mg T []:=⟨CT,hm,hB,hT,λc C h=>by cases h⟩
def zdr (hm:mg T=some (.ref CT))(hn:W.nsIn K mainGlobals c=some (some (.ref C)))(e:PySem.W.mroIn K C (.ref CT)=some true)(t:XTy K mg T cs):XTy K mg T (c::cs):=by
 obtain⟨CT',h1,h2,h3,h4⟩:=t.ex;rw[hm] at h1;cases h1;refine⟨_,hm,h2,h3,λx C' h hC=>?_⟩;by_cases z:x=c
 .subst z;rw[hn] at hC;cases hC;exact e
 .exact h4 x C' ((wah.mp h).resolve_left z) hC
end
def znu {P:Program}{w:World}{K:W.Frag}{mg:Str->Option Value}{base:Heap}{k:Nat}{f:Addr}{fd:FuncData}{ps:List Str}{m n:List D->Option D}(F:FnOk P w K mg base (CXE P w) k f fd ps (spX K m))(G:FnOk P w K mg base (CXE P w) k f fd ps (spX K n)) :
 FnOk P w K mg base (CXE P w) k f fd ps (spX K λds=>(m ds).or (n ds)) where
 len:=λvs H Q E ⟨J,ds,x,ja,r,e,w⟩ =>by
  cases z:m ds with
 |some y=>exact F.len vs H Q (λ_ _ _=>True) ⟨J,ds,y,ja,r,z,λ_ _ _ _ _ _ _=>trivial⟩
 |none=>dsimp only at e;rw[z] at e;exact G.len vs H Q E ⟨J,ds,x,ja,r,e,w⟩
 run:=λA outer s H args us vs Q E hr he hb hv ⟨J,ds,x,ja,r,e,w⟩ =>by
  cases z:m ds with
 |some y=>dsimp only at e;rw[z] at e;cases e;exact F.run A outer s H args us vs Q E hr he hb hv ⟨J,ds,x,ja,r,z,w⟩
 |none=>dsimp only at e;rw[z] at e;exact G.run A outer s H args us vs Q E hr he hb hv ⟨J,ds,x,ja,r,e,w⟩
abbrev TXA:=L2.St->Hp->XK->Prop
def PAX (X:Cx)(es:List Expr)(t:TXA):Prop:=∀(pos:Pos) (pins:List (Addr×Obj)) (s:Shared) (Y:L2.St) (H:Hp) (E:XK),Inv X pins Y H s->t Y H E->wpAny (model X.prog X.w) X.A (spliced (backTo pos (starEach es X.env))) (λ_ _=>False) (XP X pins Y E) s
def GoQA (K:W.Frag)(t:TXA)(f:FE):Prop:=∀Hz Jz O Z Y H J x E,ST K Hz Jz O Z Y H J->f Z=some x->WantsX K H J x E->t Y H E
def VQA (X:Cx)(es:List Expr)(f:FE):Prop:=∃t,PAX X es t/\GoQA X.K t f
section
variable {X:Cx}{e a b c:Expr}{es:List Expr}{f fx:FE}{fa:FE}{ft:FT}{pos:Pos}
def PEX.no {t:TEX}(h:PEX X e t){pins:List (Addr×Obj)}{s:Shared}{Y:L2.St}{H:Hp}{E:XK}(I:Inv X pins Y H s)(q:t Y H (λ_ _=>False) E):wpAny (model X.prog X.w) X.A (eval e X.env) (λ_ _=>False) (XP X pins Y E) s:=
 war (h pins s Y H _ E I q) (λ_ _ ⟨_,_,_,_,q⟩ =>q) λ_ _ z=>z
def znv (h:VQ X e f)(hs:starEach (e::es) X.env=(false,eval e X.env)::starEach es X.env:=by rfl):VQA X (e::es) f:=by
 obtain⟨t,p,q⟩:=h;refine⟨λY H E=>t Y H (λ_ _=>False) E,λpos pins s Y H E I h=>?_,λHz Jz O Z Y H J x E s e w=>q Hz Jz O Z Y H J x _ E s e w⟩;rw[hs];exact wbQ (war (PEX.no p I h) (λ_ _ z=>z.elim) λ_ _ z=>z)
def znw (h:VQ X a f):VQ X (.Subscript a b pos) f:=by
 obtain⟨t,p,q⟩:=h;exact⟨λY H _ E=>t Y H (λ_ _=>False) E,λpins s Y H Q E I h=>Subscript_ (war (PEX.no p I h) (λ_ _ z=>z.elim) λ_ _ z=>z),λHz Jz O Z Y H J x Q E s e w=>q Hz Jz O Z Y H J x _ E s e w⟩
def qIfF (c:FT)(a:FE):FE:=λZ=>(c Z).bind λk=>if k then none else a Z
def znx (hc:VT X.nox c ft)(h:VQ X b f):VQ X (.IfExp c a b pos) (qIfF ft f):=by
 obtain⟨tc,pc,qc⟩:=hc;obtain⟨t,p,q⟩:=h;refine⟨λY H Q E=>tc Y H λd H1=>d=false/\t Y H1 Q E,λpins s Y H Q E I h=>?_,λHz Jz O Z Y H J x Q E s e w=>?_⟩
 .refine wpAny_IfExp (war (pc pins s Y H _ (zgr I) h) (λd s1 ⟨H1,I1,hd,q1⟩ =>?_) λ_ _ z=>z.elim);subst hd;exact p pins s1 Y H1 Q E (zdC I1) q1
 .obtain⟨k,e1,e⟩:=bind_some e;refine qc Hz Jz O Z Y H J k _ s e1 λH1 J1 u1=>?_
  cases k with
 |true=>cases e
 |false=>exact⟨rfl,q Hz Jz O Z Y H1 J1 x Q E (s.up u1) e (w.up u1)⟩
end
section
variable {X:Cx}{k k':Nat}{x:Str}{p:Pos}{es fs:List Expr}{e ie:Expr}{fl:FA}{fi:FE}{g:List D->Option D}{gs:List (List D->Option D)}{pos lp sp:Pos}
end
section
variable {prog:Program}{w:World}{K:W.Frag}{fd:FuncData}{fI:Addr}{x p:Str}{cp np fp jp:Pos}{k:Nat}
end
def zdH {P:Program}{w:World}{K:W.Frag}{mg:Str->Option Value}{base:Heap}{x qual:Str}{st:Stmt}{f:Addr}{fd:FuncData}{N ps:List Str}{k:Nat}{c:List D->Option D}{Pc:Hp->Prop}(pe:Pers Pc)(F:Fun K x qual st f fd)(S:FnScope N ps (zad st))(hlen:∀ds d,c ds=some d->ds.length=ps.length)
 (hbody:∀(cdv:Value) (A:Around) (outer:List Env) (s:Shared) (H:Hp) (E:XK),Room k (A.deeper (envOfC qual (zad st) s.heap.objs.size f cdv))->Leaves (cxOf (CXE P w) P w K mg base N qual (zad st) f cdv A outer s H E) E->Prs (cxOf (CXE P w) P w K mg base N qual (zad st) f cdv A outer s H E) Pc->
  ∃g,VRs (cxOf (CXE P w) P w K mg base N qual (zad st) f cdv A outer s H E) E (zaT st) g/\∀ds,ds.length=ps.length->EvS kX some g (ds.map SV.val++List.replicate (N.length - ps.length) .un) (c ds)):FnOk P w K mg base (CXE P w) (k+1) f fd ps (pcS Pc (spX K c)):=by
 obtain⟨oc,od,kV,doc,pm,an,cdv,ct,osl,rfl,lk,hcd⟩:=F.ex;refine zjh lk hcd S (λvs H Q E h=>?_) λA outer s H vs Q E hr h=>?_
 .obtain⟨_,J,ds,d,ja,r,e,w⟩:=h;rw[r.length];exact hlen ds d e
 .obtain⟨hPc,J,ds,d,ja,r,e,w⟩:=h;have hl:=hlen ds d e
  obtain⟨g,⟨t,p,q⟩,ev⟩:=hbody cdv A outer s H E hr ze8 (Prs.of pe hPc);refine⟨t,p,?_⟩;have e:=ev ds hl d (by rw[e];rfl)
  rw[<-hl] at e;have s0:=zdn (N:=N) ja r
  cases z:g (ds.map SV.val++List.replicate (N.length - ds.length) .un) with
 |none=>rw[z] at e;cases e
 |some o=>
    rw[z] at e;refine q H J Pr.no _ _ H J o _ s0 z ?_;cases o with
   |ret r Z'=>
      cases r with
     |told d'=>cases e;exact λZ' Y' H' J' cls dx s' x' n'=>w H' J' cls dx s'.out x' n'
     |new n d'=>cases e
   |_=>cases e
section
variable {X:Cx}{k k':Nat}{x:Str}{ps:List Str}{F:List D->Option D}{e:Expr}{es:List Expr}{fl:FA}{f:FE}{p pos:Pos}{Pc:Hp->Prop}
def zgv (C:CalX X.prog X.w X.K X.mg X.base k x ps (pcS Pc (spX X.K F)))(hp:Prs X Pc)(hr:Room k' X.A)(ha:VA X.nox (e::es) fl)(hk:k<=k':=by decide)(hg:Gl X x:=by rfl)(hdb:(x == ("__debug__" : Str))=false:=by decide)
 (he:starEach (e::es) X.env=(false,eval e X.env)::starEach es X.env:=by rfl) (hpl:(backTo pos (starEach es X.env)).any (·.1)=false:=by rfl):VQ X (.Call (.Name x p) (e::es) [] pos) (eCall F fl):=by
 obtain⟨f,fd,a,b,c,d⟩:=C.ex;obtain⟨t,pa,g⟩:=ha;have G:FnOk X.prog X.w X.K X.mg X.base (CXE X.prog X.w) k f fd ps (pcS Pc (spX X.K F)):=a
 refine⟨λY H Q E=>t Y H λvs H1=>spX X.K F (vs++[]) H1 Q E,λpins s Y H Q E I h=>?_,?_⟩
 .refine waE (zcb I hg d ?_ hdb);refine wbz (h₀:=X.base) I.ok.mod.kin c (war (pa pos pins s Y H _ (zgr I) h) (λus s1 ⟨vs,H1,I1,r,q⟩ =>⟨I1.kIn,?_⟩) λ_ _ z=>z.elim) he hpl;have J1:=zdC I1
  have r2:Vals (vs++[]) (us++[]):=r.append .nil
  have q':pcS Pc (spX X.K F) (vs++[]) H1 Q E:=⟨hp pins Y H1 s1 J1,q⟩
  have hl:(us++[]).length=ps.length:=by rw[<-r2.length];exact G.len _ _ _ _ q'
  refine wbW (wcl ((G.mono hk).run X.A X.stack s1 H1 ⟨us,[]⟩ (us++[]) (vs++[]) Q E hr J1.env0 (b s1 us J1.kIn hl) r2 q') λr s' hq=>?_);cases r with
 |error e=>exact⟨H1,s1,J1,hq⟩
 |ok fl=>
    cases fl with
   |ret u=>exact J1.after hq
   |next=>exact False.elim hq
   |brk=>exact False.elim hq
   |cont=>exact False.elim hq
 .intro Hz Jz O Z Y H J x Q E s e w;obtain⟨ds,e1,e⟩:=bind_some e;refine g Hz Jz O Z Y H J ds _ s e1 λvs H1 J1 u1 r1=>?_
  exact⟨J1,ds,x,u1.ja,by rw[wbe];exact r1,e,w.up u1⟩
end
variable {X:Cx}{f:FE}{e:Expr}{es:List Expr}{fl:FA}{p pos:Pos}
end VD
namespace VD
open PySem PySem.Spec PyProof PyProof.Rows L2
section
variable {X:Cx}{kx vx iter tg:Expr}{scope:Scope}{pos:Pos}{NC:List Str}{fi:FA}{g:FG}{is:List Nat}{fk fv:FE}
end
end VD
namespace EX
open PySem PySem.Spec PySem.W PyProof.Rows
section
variable {prog:Program}{w:World}{K:Frag}{fd:FuncData}{fI:Addr}{x p q y:Str}{tk0:Tok}{h0:Heap}{cp cq np fp jp:Pos}{k k2:Nat}
end
end EX
namespace VD
open PySem PySem.Spec PyProof PyProof.Rows L2 EX
structure XCl0 (K:W.Frag)(mg:Str->Option Value)(c:Str):Prop where
 ex:∃C N bm,XJ K C N bm/\mg c=some (.ref C)/\W.nsIn K mainGlobals c=some (some (.ref C))/\W.keepIn K (.ref C)=true/\bm.contains (.type "BaseException")=true
section
variable {X:Cx}{E:XK}{c:Str}{e:Expr}{fa:FE}{k:Nat}{np cp pos:Pos}
def zdI (cl:XCl0 X.K X.mg c)(hr:Room (k+1) X.A)(hL:Leaves X E)(ha:VE X e fa)(hg:Gl X c:=by rfl)
 (hdb:(c == ("__debug__" : Str))=false:=by decide) (he:starEach [e] X.env=(false,eval e X.env)::starEach [] X.env:=by rfl):VRS X E (.Raise (some (.Call (.Name c np) [e] [] cp)) none pos) (gRet λZ=>(fa Z).bind λ_=>some (.exc c [] [])):=by
 obtain⟨C,N,bm,xj,hm,hn,hk,hB⟩:=cl.ex;obtain⟨t,p,g⟩:=zaa ha zac he;refine⟨_,ziw xj hg hm hk hB hr hL p hdb he,?_⟩;intro Hz Jz O Z Y H J o D s e w;obtain⟨y,e1,e⟩:=bind_some e;cases e;obtain⟨d,e0,e2⟩:=bind_some e1;cases e2;have e3:aCons fa aNil Z=some [d]:=by unfold aCons;rw[e0];rfl
 refine g Hz Jz O Z Y H J [d] _ s e3 λvs H1 J1 u1 r1=>⟨by rw[r1.length];exact wai 1,?_⟩
 exact w Z Y _ J1 _ _ (s.up u1) ⟨c,[],[],C,rfl,hn,rfl,.inl ⟨rfl,rfl,rfl⟩⟩ λb z=>nomatch z
end
end VD
namespace VD
open PySem PySem.Spec PyProof PyProof.Rows L2
def Its (y:Str):It:=⟨λi _=>i<y.cps.size,λi H x H'=>H'=H/\∃c,y.cps[i]?=some c/\x=.str ⟨#[c]⟩,λi _=>i=y.cps.size⟩
def zgw {P:Program}{w:World}{K:W.Frag}{tg:Expr}{it:Addr}{y:Str}{t:Tok}{ty:String}(W:∀A:Around,A.handled=none->Walks P w A it [it] [it] y.cps.size (SignAt y) (λi h=>h.IsStrIter it ty y t i))
 (hS:∀(A:Around) (i:Nat) (s:Shared) (Q:Value->Shared->Prop) (E:Value->Shared->Prop),s.heap.IsStrIter it ty y t i->Q (.ref it) s->wpAny (model P w) A (pyIter (.ref it)) Q E s)
 (hty:["enumerate","zip","dict_itemiterator","dict_reverseitemiterator","odict_iterator","itertools.zip_longest","itertools.pairwise"].contains ty=false):Turn P w K tg (Its y) [it] it (λi h=>h.IsStrIter it ty y t i) where
 mem:=by simp
 obj:=λi h st b hb=>by
  rw[wau.mp hb];obtain⟨o,e,c,d⟩:=st;exact⟨o,e,λv z=>by rw[d] at z;cases z⟩
 keep:=λi h h' st k=>let ⟨o,e,r⟩:=st;⟨o,k it (by simp) o e,r⟩
 item:=by
  intro X hP hw hK hc i pins s Y H E I hf st hg;subst hP hw hK;obtain⟨f0,f1,f2,f3,f4,f5⟩:=hf it (by simp);refine(W X.A (I.ok.hd hc)).item i s _ _ hg st λv h' tk hv st' kk=>?_
  obtain⟨c,u,hc1,rfl⟩:=hv;have I1:Inv X pins Y H {s with heap:=h',toks:=tk}:=I.turned (λb o hb e=>kk b o (by simpa using hb) e) f0 f1 f3 f4 f5
  obtain⟨o,e,c',d⟩:=id st';exact⟨_,rfl,zja (s:={s with heap:=h',toks:=tk}) e c' d hty ⟨.str ⟨#[c]⟩,H,I1,⟨u,rfl⟩,⟨rfl,c,hc1,rfl⟩,st',λb hb=>(hf b hb).1⟩⟩
 done:=by
  intro X hP hw hK hc i pins s Y H E I hf st hg;subst hP hw hK;obtain rfl:i=y.cps.size:=hg;obtain⟨f0,f1,f2,f3,f4,f5⟩:=hf it (by simp);exact(W X.A (I.ok.hd hc)).done s _ _ st λh' tk eb=>⟨rfl,I.turned (λb o hb e=>eb b o (by simpa using hb) e) f0 f1 f3 f4 f5⟩
 self:=hS
def iStr (tl:TE):TI:=λY H R=>tl Y H λx H1=>∃y,x=.str y/\R (Its y) H1
section
variable {X:Cx}{tg a b:Expr}{fa fb:FE}{pos:Pos}
def zny {l:Expr}{tl:TE}(hl:PE X l tl):PI X tg l (iStr tl):=by
 intro pins s Y H R I h;refine thn (hl pins s Y H _ I h) λv s1 ⟨x,H1,I1,r1,y,e,q⟩ =>?_
 subst e;obtain⟨t,rfl⟩:=r1;have fin:∀(ty:String) (o:Obj) (_:o = {cls:=.type ty,data:=.fields #[.str y t,.int 0 0]}),Turn X.prog X.w X.K tg (Its y) [s1.heap.objs.size] s1.heap.objs.size (λi h=>h.IsStrIter s1.heap.objs.size ty y t i)->PIE X pins Y tg R (.ref s1.heap.objs.size) {s1 with heap:=s1.heap.push o}:=λty o eo T=>by
  subst eo;refine⟨s1.heap.objs.size,[s1.heap.objs.size],_,_,H1,rfl,I1.kept (t':=s1.toks) λb o e=>wab _ e,T,⟨_,wat _ rfl,rfl,rfl⟩,λb hb=>?_,q⟩;rw[wau.mp hb];exact I1.fpOk (wai _) (I1.hok.fresh (wai _))
 cases ha:y.cps.all (·<128)
 .exact wpAny_pyIter_wide ha (fin _ _ rfl (zgw (λA hA=>Walks.strWide hA _ y t) (λ_ _ _ _ _ a b=>wpAny_pyIter_striter_wide a b) (by decide)))
 .exact wpAny_pyIter_ascii ha (fin _ _ rfl (zgw (λA hA=>Walks.strAscii hA _ y t) (λ_ _ _ _ _ a b=>wpAny_pyIter_striter_ascii a b) (by decide)))
def znz:D->Option (List D)
|.str y=>some (y.cps.toList.map λc=>.str ⟨#[c]⟩)
|_=>none
def zor (f:FE):FA:=λZ=>(f Z).bind znz
def znA (h:VE X a fa):VI X tg a (zor fa):=by
 obtain⟨t,p,g⟩:=h;refine⟨_,zny p,?_⟩;intro Hz Jz O Z Y H J ds R s e w;obtain⟨x,e1,e⟩:=bind_some e;cases x with
|str y=>
   cases e;refine g Hz Jz O Z Y H J _ _ s e1 λv H1 J1 u1 r1=>?_
   cases r1;refine⟨y,rfl,w _ H1 J1 u1 λH2 J2 k ja=>?_⟩;refine⟨by show _=_;simp,λi d hd=>?_⟩;rw[waC] at hd;obtain⟨c,hc,rfl⟩:=waY.mp hd;have hc:y.cps[i]?=some c:=by simpa using hc
   have hi:i<y.cps.size:=(waL.mp hc).1
   refine⟨hi,λx H3 z=>?_⟩;obtain⟨rfl,c',hc',rfl⟩:=z;rw[hc] at hc';cases hc';exact⟨J2,Up.refl ja,.str _⟩
|_=>cases e
def inTx (a b:Str):Bool:=!(Builtin.Str.occurrences b a 0 b.length 1).isEmpty
def rInS (neg:Bool):R2:=λx y H Q=>∃a b,x=.str a/\y=.str b/\Q (.bl (if neg then !inTx a b else inTx a b)) H
def znB:OpR X (compareOp .In) (rInS false):=by
 intro pins s Y H x y v u Q I rx ry ⟨a,b,e1,e2,q⟩;subst e1 e2;obtain⟨t1,rfl⟩:=rx;obtain⟨t2,rfl⟩:=ry;exact in_str ⟨.bl _,H,I,rfl,q⟩
def dInS (neg:Bool):D->D->Option D
|.str a,.str b=>some (.bl (if neg then !inTx a b else inTx a b))
|_,_=>none
def znC {K:W.Frag}(neg:Bool):Im2 K (rInS neg) (dInS neg):=by
 intro H J x y d e d' Q ja hx hy hF w;cases d with
|str p=>cases e with
  |str q=>cases hF;exact⟨p,q,hx.str,hy.str,w _ H J (Up.refl ja) (.bl _)⟩
  |_=>cases hF
|_=>cases hF
end
def un6:D->Option (D×D×D×D×D×D)
|.tup [a,b,c,d,e,f]=>some (a,b,c,d,e,f)
|_=>none
def zjY {d:D}{y:D×D×D×D×D×D}(h:un6 d=some y):d=.tup [y.1,y.2.1,y.2.2.1,y.2.2.2.1,y.2.2.2.2.1,y.2.2.2.2.2]:=by
 unfold un6 at h;split at h
 .cases h;rfl
 .cases h
def tg_6 {Z:En}{d:D}{i j l m n o:Nat}(h1:okS i Z=true)(h2:∀x,okS j (Z.set i (.val x))=true)(h3:∀x y,okS l ((Z.set i (.val x)).set j (.val y))=true)(h4:∀x y z,okS m (((Z.set i (.val x)).set j (.val y)).set l (.val z))=true)(h5:∀x y z w,okS n ((((Z.set i (.val x)).set j (.val y)).set l (.val z)).set m (.val w))=true)(h6:∀x y z w v,okS o (((((Z.set i (.val x)).set j (.val y)).set l (.val z)).set m (.val w)).set n (.val v))=true) :
 Tg (gT 6 (gCons' (gN i) (gCons' (gN j) (gCons' (gN l) (gCons' (gN m) (gCons' (gN n) (gCons' (gN o) gNil'))))))) d Z (un6 d) λy=>(((((Z.set i (.val y.1)).set j (.val y.2.1)).set l (.val y.2.2.1)).set m (.val y.2.2.2.1)).set n (.val y.2.2.2.2.1)).set o (.val y.2.2.2.2.2):=λy e=>by
 rw[zjY e];show((gN i y.1 Z).bind λZ1=>(gN j y.2.1 Z1).bind λZ2=>(gN l y.2.2.1 Z2).bind λZ3=>(gN m y.2.2.2.1 Z3).bind λZ4=>(gN n y.2.2.2.2.1 Z4).bind λZ5=>(gN o y.2.2.2.2.2 Z5).bind λZ6=>gNil' [] Z6)=_
 rw[ze1 h1,zOB,ze1 (h2 _),zOB,ze1 (h3 _ _),zOB,ze1 (h4 _ _ _),zOB,ze1 (h5 _ _ _ _),zOB,ze1 (h6 _ _ _ _ _)];rfl
def dSlW:D->Option Int->Option Int->Option D
|.tup ds,lo,hi=>some (.tup (cut ds lo hi))
|x,lo,hi=>dSl x lo hi
def eSlW (f:FE)(lo hi:FO):FE:=λZ=>(f Z).bind λx=>(lo Z).bind λl=>(hi Z).bind λh=>dSlW x l h
section
variable {X:Cx}{a b:Expr}{fa fb:FE}{pos p2:Pos}
def zlL {ds:List D}{lo hi:Option Int}(h0:HT.sIx ds.length 0 lo=0)(h1:HT.sIx ds.length ds.length hi=ds.length):VD.cut ds lo hi=ds:=by
 unfold VD.cut;rw[h0,h1];simp
def zb7 {lo hi:Option Expr}{fl fh:FO}(ha:VW X a fa)(hl:VO X lo fl)(hh:VO X hi fh):VE X (.Subscript a (.Slice lo hi none p2) pos) (eSlW fa fl fh):=by
 obtain⟨t,p,g⟩:=ha;obtain⟨tl,pl,gl⟩:=hl;obtain⟨th,ph,gh⟩:=hh;refine⟨_,zge (r:=λx lo hi H Q=>rSlD X.K x lo hi H Q\/rSlW X.K x lo hi H Q) (SlR.or (sl_list.or (sl_tup.or zkm)) zjo) p pl ph,?_⟩;intro Hz Jz O Z Y H J d Q s e w;obtain⟨x,e1,e⟩:=bind_some e;obtain⟨l,e2,e⟩:=bind_some e;obtain⟨h,e3,e⟩:=bind_some e;refine g Hz Jz O Z Y H J x _ s e1 λv H1 J1 u1 r1=>?_
 refine gl Hz Jz O Z Y H1 J1 l _ (s.up u1) e2 λH2 J2 u2=>?_
 refine gh Hz Jz O Z Y H2 J2 h _ (s.up (u1.trans u2)) e3 λH3 J3 u3=>?_
 have r3:=r1.up (u2.trans u3)
 have u:=u1.trans (u2.trans u3)
 match x,e with
|.lst ds,e=>
   cases e;obtain⟨p,vs,rfl,h1,rl⟩:=r3.lst;refine .inl (.inl ⟨p,vs,rfl,SqL.of h1,λc hc=>?_⟩);have un:=Up.newJ u3.ja hc (.lst (cutV vs l h))
   exact w _ _ _ (u.trans un) (.lst zai (.inr rfl) ((rl.cut l h).keep un.keep))
|.tup ds,e=>
   cases e;obtain⟨p,vs,rfl,h1,rl⟩:=r3.tup;by_cases hc:HT.sIx ds.length 0 l=0/\HT.sIx ds.length ds.length h=ds.length
   .refine .inr ⟨p,vs,rfl,h1,by rw[rl.length];exact hc.1,by rw[rl.length];exact hc.2,?_⟩;rw[show cut ds l h=ds from zlL hc.1 hc.2] at w;exact w _ H3 J3 u (.tup h1 rl)
   .refine .inl (.inr (.inl ⟨p,vs,rfl,h1,by rw[rl.length];exact hc,λc hc=>?_⟩));have un:=Up.new u3.ja hc (.tup (cutV vs l h))
    exact w _ _ _ (u.trans un) (.tup (SqT.of zai) ((rl.cut l h).keep un.keep))
|.str z,e=>
   have e:(if z.length<=lim then some (D.str (Txt.slice z l h)) else none)=some d:=e
   by_cases hl:z.length<=lim
   .rw[if_pos hl] at e;cases e;rw[r3.str];exact .inl (.inr (.inr ⟨z,rfl,zb1 hl,w _ H3 J3 u (.str _)⟩))
   .rw[if_neg hl] at e;cases e
end
end VD
namespace VD
open PySem PySem.Spec PyProof PyProof.Rows L2 EX
def zfT {P:Program}{w:World}{K:W.Frag}{mg:Str->Option Value}{base:Heap}{k:Nat}{f:Addr}{fd:FuncData}{ps:List Str}{m n:List D->Option D}{Pc:Hp->Prop}(F:FnOk P w K mg base (CXE P w) k f fd ps (pcS Pc (spX K m)))(G:FnOk P w K mg base (CXE P w) k f fd ps (pcS Pc (spX K n))) :
 FnOk P w K mg base (CXE P w) k f fd ps (pcS Pc (spX K λds=>(m ds).or (n ds))) where
 len:=λvs H Q E ⟨hp,J,ds,x,ja,r,e,w⟩ =>by
  cases z:m ds with
 |some y=>exact F.len vs H Q (λ_ _ _=>True) ⟨hp,J,ds,y,ja,r,z,λ_ _ _ _ _ _ _=>trivial⟩
 |none=>dsimp only at e;rw[z] at e;exact G.len vs H Q E ⟨hp,J,ds,x,ja,r,e,w⟩
 run:=λA outer s H args us vs Q E hr he hb hv ⟨hp,J,ds,x,ja,r,e,w⟩ =>by
  cases z:m ds with
 |some y=>dsimp only at e;rw[z] at e;cases e;exact F.run A outer s H args us vs Q E hr he hb hv ⟨hp,J,ds,x,ja,r,z,w⟩
 |none=>dsimp only at e;rw[z] at e;exact G.run A outer s H args us vs Q E hr he hb hv ⟨hp,J,ds,x,ja,r,e,w⟩
end VD
namespace VD
open PySem PySem.Spec PyProof PyProof.Rows L2
section
variable {X:Cx}{a b:Expr}{fl:FA}{pos p p2:Pos}
end
section
variable {X:Cx}{K:W.Frag}{a b e:Expr}{es:List Expr}{fa fb fk:FE}{fv:FX}{fl:FA}{pos p2:Pos}{H H':Hp}{J J':Addr->Prop}
end
section
variable {K:W.Frag}{H H' Hz:Hp}{J J' Jz:Addr->Prop}{Z:En}{Y:L2.St}{O:Pr}{fp:Nat->List Addr}
end
end VD
namespace GX
open PySem PySem.Spec PyProof PyProof.Rows L2
abbrev GP:=Nat->Shared->Prop
def zgZ (n:Nat)(P:Nat->Value->Prop)(Mid St:GP):Protocol:=λm _ v s kap=>
 ∃i,i+1+m=n/\P i v/\Mid (i+1) s/\∀s'':Shared,St (i+1) s''->kap (.send .none) s''
def gend (Dn:Shared->Prop):GenEnd:=λm _ r s₁=>r=.ok .next/\(m=0/\Dn s₁)
def zbq (elt target iter:Expr)(scope:Scope)(pos:Pos)(it:Value)(cenv:Env):Code:=.compLoop (.GeneratorExp elt [⟨target,iter,[],0⟩] scope pos) 0 it .none cenv
def zdJ (elt target iter:Expr)(scope:Scope)(pos:Pos)(it:Value)(cenv:Env):Code:=.compStart (.GeneratorExp elt [⟨target,iter,[],0⟩] scope pos) 0 it .none cenv
def zcS {gens:Array GenState}{g:Nat}{x:GenState}(h:AllBare gens)(hx:x.bare=true){s:Shared}(e:gens=s.gens):AllBare (s.setGen g x).gens:=by
 subst e;intro y hy;obtain⟨i,hi,rfl⟩:=Array.mem_iff_getElem.mp hy;simp only[Shared.setGen] at hi⊢;by_cases z:g=i
 .subst z;simp[hx]
 .rw[Array.getElem_setIfInBounds_ne (by simpa using hi) z];exact h _ (Array.getElem_mem _)
section
variable {prog:Program}{w:World}{A:Around}{elt target iter:Expr}{scope:Scope}{pos:Pos}{it:Value}{cenv:Env}{n:Nat}{P:Nat->Value->Prop}{Mid St:GP}{Dn:Shared->Prop}
def zjZ (hco:cenv.scope.isCoroutine=false)
 (turn:∀i s,i<n->St i s->wpAny (model prog w) (A.over (zbq elt target iter scope pos it cenv) []) (pyNext it) (λr s1=>∃v,r=some v/\
  wpAny (model prog w) (A.over (zbq elt target iter scope pos it cenv) []) (letOwnedTupleGo target it v) (λ_ s2=>
   wpAny (model prog w) (A.over (zbq elt target iter scope pos it cenv) []) (assign target cenv v) (λ_ s3=>
    wpAny (model prog w) (A.over (zbq elt target iter scope pos it cenv) []) (eval elt cenv) (λy s4=>P i y/\Mid (i+1) s4) (λ_ _=>False) s3) (λ_ _=>False) s2) (λ_ _=>False) s1) (λ_ _=>False) s)
 (done:∀s,St n s->wpAny (model prog w) (A.over (zbq elt target iter scope pos it cenv) []) (pyNext it) (λr s1=>r=none/\Dn s1) (λ_ _=>False) s) :
 ∀(k i:Nat) (s₀ s:Shared),n - i=k->i<=n->St i s->Seg (model prog w) A (gend Dn) (zgZ n P Mid St) k s₀ (zbq elt target iter scope pos it cenv) ((model prog w).den (zbq elt target iter scope pos it cenv)) [] s:=by
 intro k;induction k with
|zero=>
   intro i s₀ s hk hi hst;have hin:i=n:=by omega
   subst hin;show Seg _ A _ _ _ s₀ _ ((compTurn (.GeneratorExp elt [⟨target,iter,[],0⟩] scope pos) 0 it .none cenv).onRaise (leaving cenv)) [] s
   rw[compTurn_gen,wcj];refine seg_bind_wrap (wbh ?_);refine seg_bind_wrap (war (done s hst) (λr s1 ⟨hr,hd⟩ =>?_) λ_ _ e=>e.elim);subst hr;exact seg_end (.ok .next) ⟨rfl,rfl,hd⟩
|succ k ih=>
   intro i s₀ s hk hi hst;have hlt:i<n:=by omega
   show Seg _ A _ _ _ s₀ _ ((compTurn (.GeneratorExp elt [⟨target,iter,[],0⟩] scope pos) 0 it .none cenv).onRaise (leaving cenv)) [] s
   rw[compTurn_gen,wcj];refine seg_bind_wrap (wbh ?_);refine seg_bind_wrap (war (turn i s hlt hst) (λr s1 ⟨v,hr,h1⟩ =>?_) λ_ _ e=>e.elim);subst hr;refine seg_bind_wrap (war h1 (λ_ s2 h2=>?_) λ_ _ e=>e.elim);refine seg_bind_wrap (war h2 (λ_ s3 h3=>?_) λ_ _ e=>e.elim);refine seg_bind_wrap (wae ?_);simp only[if_true];have hy:∀v,yieldOut cenv v=yieldValue v:=λv=>by simp only[yieldOut,hco,wbB,if_false]
   simp only[hy];rw[Sem.bind_eq_wrap',Sem.bind_eq_wrap',Sem.wrap_wrap,Sem.wrap_wrap];refine seg_wrap (war h3 (λy s4 h4=>?_) λ_ _ e=>e.elim);refine seg_at (seg_yield rfl rfl rfl ⟨i,by omega,h4.1,h4.2,λs'' hs=>?_⟩)
   exact seg_again rfl (ih (i+1) s'' s'' (by omega) hlt hs)
def ziD (hloop:∀s₀ s,St 0 s->Seg (model prog w) A (gend Dn) (zgZ n P Mid St) n s₀ (zbq elt target iter scope pos it cenv) ((model prog w).den (zbq elt target iter scope pos it cenv)) [] s)
 (self:∀(A':Around) s,St 0 s->wpAny (model prog w) A' (pyIter it) (λx s'=>x=it/\St 0 s') (λ_ _=>False) s) (s₀ s:Shared) (h:St 0 s) :
 Seg (model prog w) A (gend Dn) (zgZ n P Mid St) n s₀ (zdJ elt target iter scope pos it cenv) ((model prog w).den (zdJ elt target iter scope pos it cenv)) [] s:=by
 show Seg _ A _ _ _ s₀ _ ((compStart (.GeneratorExp elt [⟨target,iter,[],0⟩] scope pos) 0 it .none cenv).onRaise (leaving cenv)) [] s
 unfold compStart;rw[wcj];show Seg _ A _ _ _ s₀ _ ((ask >>= _).wrap _ _ _ _) [] s
 refine seg_bind_wrap (wpAny_askSetting ?_);split
 .exact seg_again rfl (hloop _ _ h)
 .refine seg_bind_wrap (wcp ?_);show Seg _ A _ _ _ s₀ _ ((standAt iter.pos >>= _).wrap _ _ _ _) [] s
  refine seg_bind_wrap (wbh ?_);refine seg_bind_wrap (war (self _ s h) (λx s' hx=>?_) λ_ _ e=>e.elim);obtain⟨rfl,hx⟩:=hx;exact seg_again rfl (hloop _ _ hx)
structure At (prog:Program)(w:World)(A:Around)(a:Addr)(g n:Nat)(P:Nat->Value->Prop)(Mid St:GP)(Dn:Shared->Prop)(j:Nat)(s:Shared):Prop where
 bare:AllBare s.gens
 gen:s.heap.IsGen a g
 lim:s.heap.NoLimit
 go:∃gs,s.gens[g]?=some gs/\∀s'',St j s''->gs.Goes (model prog w) A.in1 (gend Dn) (zgZ n P Mid St) (n - j) (.send .none) s''
 run:St j (s.setGen g .running)
structure Holds (a:Addr)(g:Nat)(Mid St:GP):Prop where
 bare:∀i s,Mid i s->AllBare s.gens
 gen:∀i s,Mid i s->s.heap.IsGen a g
 lim:∀i s,Mid i s->s.heap.NoLimit
 size:∀i s,Mid i s->g<s.gens.size
 on:∀i s gs,gs.bare=true->Mid i s->St i ((s.setGen g gs).setGen g .running)
def ziE {s:Shared}{g:Nat}{x:GenState}(h:g<s.gens.size):(s.setGen g x).gens[g]?=some x:=by simp[Shared.setGen,h]
def ziF {a:Addr}{g j:Nat}{s:Shared}{Q:Option Value->Shared->Prop}(hh:A.handled=none)(hroom:A.depth<recursionLimit)(hd:Holds a g Mid St)(hj:j<n)(h:At prog w A a g n P Mid St Dn j s)
 (hQ:∀v s1 gs,P j v->Mid (j+1) s1->gs.bare=true->At prog w A a g n P Mid St Dn (j+1) (s1.setGen g gs)->Q (some v) (s1.setGen g gs)):wpAny (model prog w) A (pyNext (.ref a)) Q (λ_ _=>False) s:=by
 obtain⟨_,hg,hl,⟨gs,hgs,hgo⟩,hr⟩:=h;obtain⟨m,hm⟩:∃m,n - j=m+1:=⟨n - j - 1,by omega⟩
 have go1:=hgo _ hr
 rw[hm] at go1;refine wpAny_pyNext_genexpQ (P:=λm _ s₁=>m=0/\Dn s₁) hh hl hroom hg hgs go1 (λv s₁ gs' hb hv=>?_) (λs₁ hp h' hk=>absurd hp.1 (Nat.succ_ne_zero m));obtain⟨i,hi,hP,hM,hkap⟩:=hv;have hij:i=j:=by omega
 subst hij;refine hQ v s₁ gs' hP hM hb ⟨zcS (hd.bare (i+1) s₁ hM) hb rfl,hd.gen (i+1) s₁ hM,hd.lim (i+1) s₁ hM,⟨gs',ziE (hd.size (i+1) s₁ hM),λs'' hs=>?_⟩,hd.on (i+1) s₁ gs' hb hM⟩;rw[show n - (i+1)=m by omega];exact hkap s'' hs
def ziG {a:Addr}{g:Nat}{s:Shared}{Q:Option Value->Shared->Prop}(hh:A.handled=none)(hroom:A.depth<recursionLimit)(hd:Holds a g Mid St)(h:At prog w A a g n P Mid St Dn n s)
 (hQ:∀s1 h',Dn s1->(∀b o,s1.heap.get? b=some o->h'.get? b=some o)->Q none {s1.setGen g .finished with heap:=h'}):wpAny (model prog w) A (pyNext (.ref a)) Q (λ_ _=>False) s:=by
 obtain⟨_,hg,hl,⟨gs,hgs,hgo⟩,hr⟩:=h;have go1:=hgo _ hr
 rw[Nat.sub_self] at go1;refine wpAny_pyNext_genexpQ (P:=λm _ s₁=>m=0/\Dn s₁) hh hl hroom hg hgs go1 (λv s₁ gs' hb hv=>?_) (λs₁ hp h' hk=>hQ s₁ h' hp.2 hk);obtain⟨i,hi,_,hM,hkap⟩:=hv;exact(hkap _ (hd.on (i+1) s₁ gs' hb hM)).elim
end
section
variable {prog:Program}{w:World}{A:Around}{R:Result->Shared->Prop}{I:Addr}{n:Nat}{P:Nat->Value->Prop}{Wt:GP}{Fin:Shared->Prop}{tr:Nat->Bool}
def zj0 (htr:TruthOf prog w A.in1 P tr)
 (item:∀i s,i<n->Wt i s->wpAny (model prog w) A.in1 (pyNext (.ref I)) (λr s'=>∃v,r=some v/\P i v/\Wt (i+1) s') (λ_ _=>False) s)
 (done:∀s,Wt n s->wpAny (model prog w) A.in1 (pyNext (.ref I)) (λr s'=>r=none/\Fin s') (λ_ _=>False) s)
 (stop:∀i s,i<n->tr i=false->Wt (i+1) s->Fin s):∀(k i:Nat) (s:Shared),n - i=k->i<=n->Wt i s->
 (∀s',Fin s'->R (.ok (.ret (.bool (((List.range n).drop i).all tr)))) s')->codeAny (model prog w) A (.builtin "all.loop" ⟨[.ref I],[]⟩) R s:=by
 intro k;induction k with
|zero=>
   intro i s hk hi hst hR;have hin:i=n:=by omega
   subst hin;refine codeAny_builtin F.entry_all_loop ?_;rw[wcd wcc _];show wpAny _ A.in1 (pyNext (.ref I) >>= _) _ _ s
   refine waa (war (done s hst) (λr s' ⟨hr,hf⟩ =>?_) λ_ _ e=>e.elim);subst hr;refine waa (wcp (wae ?_));have:=hR s' hf
   rw[List.drop_of_length_le (by simp)] at this;exact this
|succ k ih=>
   intro i s hk hi hst hR;have hlt:i<n:=by omega
   have hd:(List.range n).drop i=i::(List.range n).drop (i+1):=by
    rw[List.drop_eq_getElem_cons (by simpa using hlt)];simp
   refine codeAny_builtin F.entry_all_loop ?_;rw[wcd wcc _];show wpAny _ A.in1 (pyNext (.ref I) >>= _) _ _ s
   refine waa (war (item i s hlt hst) (λr s' ⟨v,hr,hP,hst'⟩ =>?_) λ_ _ e=>e.elim);subst hr;refine waa (wbr (htr i v _ _ _ hP ?_));refine waa (wpAny_letGo ?_);cases hb:tr i with
  |true=>
     simp only[if_true];refine wae ⟨plainId_quiet wcc _,ih (i+1) _ (by omega) hlt hst' λs'' hf=>?_⟩;have:=hR s'' hf
     rw[hd,List.all_cons,hb,Bool.true_and] at this;exact this
  |false=>
     simp only[wbB,if_false];refine waa (wcp (wae ?_));have:=hR s' (stop i s' hlt hb hst')
     rw[hd,List.all_cons,hb,Bool.false_and] at this;exact this
end
section
variable {prog:Program}{w:World}{A:Around}{E:Value->Shared->Prop}{s:Shared}{a:Addr}{n:Nat}{P:Nat->Value->Prop}{Wt:GP}{Fin:Shared->Prop}{tr:Nat->Bool}{Q:Value->Shared->Prop}
def zj1 (htr:TruthOf prog w A.in1 P tr)
 (item:∀i s,i<n->Wt i s->wpAny (model prog w) A.in1 (pyNext (.ref a)) (λr s'=>∃v,r=some v/\P i v/\Wt (i+1) s') (λ_ _=>False) s)
 (done:∀s,Wt n s->wpAny (model prog w) A.in1 (pyNext (.ref a)) (λr s'=>r=none/\Fin s') (λ_ _=>False) s)
 (stop:∀i s,i<n->tr i=false->Wt (i+1) s->Fin s) {g:Nat}(hg:s.heap.IsGen a g) (h:Wt 0 s) (hQ:∀s',Fin s'->Q (.bool ((List.range n).all tr)) s') :
 wpAny (model prog w) A (call (.builtin "all") [.ref a]) Q E s:=by
 refine call_function_tree F.kind_all F.plain_all F.entry_all (F.args_all1 _) ?_;unfold Builtin.«all»;refine waa (m:=oneArg "all" _) (wae ?_);refine waa (wpAny_pyIter_gen hg ?_);exact wae ⟨plainId_quiet wcc _,zj0 htr item done stop n 0 s rfl (waT _) h λs' hf=>by simpa using hQ s' hf⟩
end
def gcx (X:Cx)(scope:Scope)(cl:List (Str×Addr))(NC:List Str)(C:Addr)(code:Value)(bi:Addr)(A':Around)(s0:Shared)(H0:Hp)(ex:List Addr)(pn:List (Addr×Obj)):Cx where
 prog:=X.prog
 w:=X.w
 K:=X.K
 mg:=X.mg
 base:=X.base
 A:=A'
 N:=NC
 s₀:=s0
 Hz:=H0
 env:=genEnv scope cl C code bi X.env
 outer:=X.stack
 stack:=genEnv scope cl C code bi X.env::X.stack
 ex:=ex
 fn:=λ_=>false
 calm:=true
 pn:=pn
 xe:=λ_ _=>False
def frO:Obj:={cls:=.type "frame",data:=.dict #[]}
def zlM {X:Cx}{pins:List (Addr×Obj)}{s4:Shared}{Y:L2.St}{H1:Hp}{fp:List Addr}{scope:Scope}{cl:List (Str×Addr)}{NC:List Str}{fr:List (Option Nat)}{code:Value}{bi:Addr}{A':Around}{mm:Str->Option Value}{h':Heap}{gs:Array GenState}{tk:Nat}{og:Obj}
 (I:Inv X pins Y H1 s4) (f2:∀b∈fp,FpOk X pins H1 b) (obj:∀b∈fp,∃o,s4.heap.get? b=some o/\∀v,o.data≠.cell v) (hkind:scope.kind=.function) (hbi:bi=builtinsNs)
 (hcl:∀x c,cl.lookup x=some c->X.env.cells.lookup x=some c)
 (hhas:∀x,(scope.names.lookup x=some .cell\/scope.names.lookup x=some .free)->∃c,cl.lookup x=some c)
 (hfr:∀(i:Nat) (x:Str) (j:Nat),NC[i]?=some x->fr[i]?=some (some j)->X.N[j]?=some x/\Vis X.env.scope x/\X.env.kindOf x≠some .local/\(scope.names.lookup x=some .cell\/scope.names.lookup x=some .free))
 (hlen:fr.length=NC.length) (hA:A'.handled=none) (hAf:A'.frames=some (genEnv scope cl s4.heap.objs.size code bi X.env::X.stack))
 (hn':h'.Ns s4.heap.objs.size mm) (hs':Heap.SameBut s4.heap.objs.size (s4.heap.push frO) h') (hg:AllBare gs) (hog:∀v,og.data≠.cell v) (hfz:og.isFreed=false) :
 Inv (gcx X scope cl NC s4.heap.objs.size code bi A' s4 H1 fp (X.pn++pins)) [(h'.objs.size,og)] (pick Y fr) H1 {s4 with gens:=gs,toks:=tk,heap:=h'.push og}:=by
 have sz:h'.objs.size=s4.heap.objs.size+1:=by rw[hs'.1,wbj]
 generalize hC:s4.heap.objs.size=C at *;have ltC:∀{b:Addr}{o:Obj},s4.heap.get? b=some o->b<C:=λe=>by rw[<-hC];exact wad e
 have k4:∀b o,s4.heap.get? b=some o->(h'.push og).get? b=some o:=λb o e=>wab _ (hs'.extBut b o (wap (ltC e)) (wab _ e))
 have hCn:H1 C=none:=I.hok.fresh (wba hC)
 have stkNo:∀b,s4.heap.objs.size<=b->b∉frs X.stack:=λb hb z=>by
  have f:=I.fpOk hb (I.hok.fresh hb)
  rcases wah.mp (I.stkSub b z) with z|z
  .exact f.2.1 z
  .exact f.2.2.1 z
 have okC:(gcx X scope cl NC C code bi A' s4 H1 fp (X.pn++pins)).Ok:=by
  refine⟨I.ok.mod,hkind,I.ok.glob,hbi,wba hC,λx y c h1 h2=>I.ok.inj x y c (hcl x c h1) (hcl y c h2),λx hx=>hhas x hx,λx c hf _=>(by cases hf),λ_=>hA,hAf,.inr ⟨rfl,rfl⟩,λb hb=>⟨?_,λx c e=>?_⟩,λb o e=>I.bs b o e,?_,λb o e hb=>?_,λb hb hf=>?_,?_,λb hb=>I.stkFree b hb⟩
  .obtain⟨o,eo,_⟩:=obj b hb;exact wap (ltC eo)
  .exact(f2 b hb).2.2.2.2.1 x c (hcl x c e)
  .exact wam I.ok.bsz I.sz
  .obtain⟨e1,_⟩:=I.ok.bs b o e;have f:=f2 b hb
   rcases f.2.2.2.1 with z|z
   .exact I.ok.noex b o e z
   .exact absurd (wak (wad e1) z) (waK _)
  .rcases wah.mp (I.stkSub b hf) with z|z
   .exact(f2 b hb).2.1 z
   .exact(f2 b hb).2.2.1 z
  .exact I.stack
 refine⟨okC,rfl,hg,Un.kept k4,⟨_,hn'.push _,λi x v hN hv hvis=>?_⟩,λx c e=>?_,hCn,λx c e=>I.freeC x c (hcl x c e),λp hp=>?_,I.hok.kept k4,?_⟩
 .have hfi:∃j,fr[i]?=some (some j)/\Y[j]?=some (some v):=by
   unfold pick at hv;rw[waC] at hv;cases e1:fr[i]? with
  |none=>rw[e1] at hv;cases hv
  |some o=>
     rw[e1] at hv;cases o with
    |none=>cases hv
    |some j=>
       refine⟨j,rfl,?_⟩;have hv':(Y[j]?).join=some v:=waq hv
       cases e2:Y[j]? with
      |none=>rw[e2] at hv';cases hv'
      |some w'=>rw[e2] at hv';exact wbJ some hv'
  obtain⟨j,hj,hσ⟩:=hfi;obtain⟨q1,q2,q3,q4⟩:=hfr i x j hN hj;obtain⟨m,hm,hl⟩:=I.loc;obtain⟨u,ru,lk⟩:=hl j x v q1 hσ q2;refine⟨u,ru,?_⟩;rcases lk with⟨z,_⟩|⟨_,c,ec,ic⟩
  .exact absurd z q3
  .obtain⟨c',ec'⟩:=hhas x q4;have:c'=c:=by rw[hcl x c' ec'] at ec;exact waq ec
   subst this;obtain⟨oc,h1,h2⟩:=ic;exact .inr ⟨q4,c',ec',oc,k4 _ _ h1,h2⟩
 .obtain⟨v,oc,h1,h2⟩:=I.cell x c (hcl x c e);exact⟨v,oc,k4 _ _ h1,h2⟩
 .have hp':p∈(X.pn++pins)++[(h'.objs.size,og)]:=hp
  rcases waM.mp hp' with hp'|hp'
  .obtain⟨e1,e2,e3,e4,e5⟩:=I.pin p hp';refine⟨k4 _ _ e1,e2,wap (ltC e1),λz=>?_,e5⟩;rcases wah.mp (I.stkSub p.1 z) with z'|z'
   .exact e3 z'
   .exact e4 z'
  .rw[wau.mp hp'];have hle:s4.heap.objs.size<=h'.objs.size:=by omega
   exact⟨wat _ hfz,I.hok.fresh hle,by show h'.objs.size≠C;omega,stkNo _ hle,hog⟩
 .unfold pick;rw[waG];exact hlen
def zj2 {X:Cx}{pins pins':List (Addr×Obj)}{s4 s':Shared}{Y Y':L2.St}{H1 H':Hp}{fp:List Addr}{scope:Scope}{cl:List (Str×Addr)}{NC:List Str}{C:Addr}{code:Value}{bi:Addr}{A':Around}{pn:List (Addr×Obj)}
 (I:Inv X pins Y H1 s4) (f2:∀b∈fp,FpOk X pins H1 b) (J:Inv (gcx X scope cl NC C code bi A' s4 H1 fp pn) pins' Y' H' s'):Inv X pins Y H' s':=
 I.call' J.os J.base J.hok J.bare λb hb=>let f:=f2 b hb;⟨f.2.2.2.1,f.2.1,f.2.2.2.2.1,f.2.2.2.2.2⟩
def zey {X:Cx}{pins:List (Addr×Obj)}{Y:L2.St}{H:Hp}{s:Shared}{gs:Array GenState}(I:Inv X pins Y H s)(h:AllBare gs):Inv X pins Y H {s with gens:=gs}:=by
 obtain⟨a,b,c,d,e,f,g,h1,i,j,k⟩:=I;exact⟨a,b,h,d,e,f,g,h1,i,j,k⟩
def zaX {s:Shared}{g:Nat}{x:GenState}:(s.setGen g x).gens.size=s.gens.size:=by simp[Shared.setGen]
def zfe {M:Model}{Γ:PySem.Ctx}{p:Pos}{t:Sem Fin}{fs:List Frame}{s s':Shared}{e:End}(h:Runs M Γ p t fs s e s'):s.gens.size<=s'.gens.size:=by
 induction h <;> (try simp only[zaX,Array.size_push] at *) <;> omega
def zg0 {M:Model}{Γ:PySem.Ctx}{p:Pos}{g:Nat}{r:Resume}{s s':Shared}{res:GenResult}(h:Wakes M Γ p g r s res s'):s.gens.size<=s'.gens.size:=by
 have key:∀{Δ:PySem.Ctx}{q:Pos}{u:Sem Fin}{fs:List Frame}{e:End}{s1:Shared}{x:GenState},Runs M Δ q u fs (s.setGen g .running) e s1->s.gens.size<=(s1.setGen g x).gens.size:=λhr=>by
  have:=zfe hr
  rw[zaX] at this⊢;exact this
 unfold Wakes at h;split at h
 .exact h.elim
 .split at h
  .obtain⟨_,_,hr,_,_,rfl⟩:=h;exact key hr
  .exact wba (by rw[h.2];try rw[zaX])
  .exact wba (by rw[h.2];try rw[zaX])
 .obtain⟨_,_,hr,_,_,rfl⟩:=h;exact key hr
 .exact wba (by rw[h.2];try rw[zaX])
 .exact wba (by rw[h.2];try rw[zaX])
def zlN {α:Type}(M:Model)(Γ:PySem.Ctx)(n:Nat)(t:Sem α):∀(Q:α->Pos->Shared->Prop) (E:Value->Pos->Shared->Prop) (p:Pos) (s:Shared),n<=s.gens.size->Sem.wp M Γ t Q E p s->
 Sem.wp M Γ t (λa p' s'=>n<=s'.gens.size/\Q a p' s') (λe p' s'=>n<=s'.gens.size/\E e p' s') p s:=by
 induction t with
|pure a=>exact λQ E p s hn h=>⟨hn,h⟩
|raise e=>exact λQ E p s hn h=>⟨hn,h⟩
|newGen c k ih=>exact λQ E p s hn h=>ih _ Q E p _ (by show n<=(s.gens.push _).size;rw[Array.size_push];omega) h
|resume g r _ k ih=>exact λQ E p s hn h=>let ⟨res,s',hw,h⟩:=h;⟨res,s',hw,ih res Q E p s' (wam hn (zg0 hw)) h⟩
|call c hd _ _ k ih=>exact λQ E p s hn h=>let ⟨r,s',hr,h⟩:=h;⟨r,s',hr,ih r Q E p s' (wam hn (zfe hr)) h⟩
|load a _ k ih=>exact λQ E p s hn h=>let ⟨o,ho,h⟩:=h;⟨o,ho,ih o Q E p s hn h⟩
|genState g k ih=>exact λQ E p s hn h=>let ⟨st,hs,h⟩:=h;⟨st,hs,ih _ Q E p s hn h⟩
|update a _ f k ih=>exact λQ E p s hn h=>⟨h.1,ih () Q E p _ hn h.2⟩
|choose src m k ih=>exact λQ E p s hn h=>⟨h.1,ih _ Q E p _ hn h.2⟩
|rule _ k ih=>exact λQ E p s hn h=>ih () Q E p s hn h
|«at» p' k ih=>exact λQ E p s hn h=>ih () Q E p' s hn h
|point _ k ih=>exact λQ E p s hn h=>ih () Q E p s hn h
|loadIfAlive a k ih=>exact λQ E p s hn h=>ih _ Q E p s hn h
|alloc o k ih=>exact λQ E p s hn h=>ih _ Q E p _ hn h
|fresh k ih=>exact λQ E p s hn h=>ih _ Q E p _ hn h
|ask k ih=>exact λQ E p s hn h=>ih _ Q E p s hn h
|os q _ k ih=>exact λQ E p s hn h=>ih _ Q E p _ hn h
|handled own k ih=>exact λQ E p s hn h=>ih _ Q E p s hn h
|stack k ih=>exact λQ E p s hn h=>ih _ Q E p s hn h
|thread k ih=>exact λQ E p s hn h=>ih _ Q E p s hn h
|_=>exact λQ E p s hn h=>h
def zcx {α:Type}{M:Model}{A:Around}{s:Shared}{t:Sem α}{Q:α->Shared->Prop}{E:Value->Shared->Prop}{n:Nat}(hn:n<=s.gens.size)(h:wpAny M A t Q E s) :
 wpAny M A t (λa s'=>n<=s'.gens.size/\Q a s') (λe s'=>n<=s'.gens.size/\E e s') s:=
 λΓ p hΓ=>zlN M Γ n t _ _ p s hn (h Γ p hΓ)
end GX
namespace GX
open PySem PySem.Spec PyProof PyProof.Rows L2 PySem.W
def zj3 {X:Cx}{pins:List (Addr×Obj)}{Y:L2.St}{H:Hp}{s:Shared}{A:Around}{tp:Array Value}{scope:Scope}{pos:Pos}{c P:Addr}{q:Str}{Q:Value->Shared->Prop}{E:Value->Shared->Prop}(I:Inv X pins Y H s)(hcd:X.env.code=.ref c)(hC:CodeK X.K c P)
 (hH:H P=some (.tbl tp)) (hps:tp[0]?=some (Value.str q 0)) (hq:X.env.qual++"<genexpr>"=q)
 (h:∀(code:Value) (H1:Hp) (s':Shared),(∀b o,H b=some o->H1 b=some o)->(∀b,H1 b=none->H b=none)->(∀b,b<s.heap.objs.size->H b=none->H1 b=none)->(∀b o,b≠P->s.heap.get? b=some o->s'.heap.get? b=some o)->s.gens.size<=s'.gens.size->Inv X pins Y H1 s'->Q code s') :
 wpAny (model X.prog X.w) A (genexprCode X.env pos (X.env.qual++"<genexpr>") scope) Q E s:=by
 obtain⟨ps,hP,ht⟩:=I.tblAt hH;have C:=hC.hd I.kIn
 rw[hq];cases e:codeAmong pos ps.toList with
|none=>
   refine wpAny_genexprCodeX hcd (C.code hP ht.1) (C.tab hP) e λc' h' tk hx hge hlt _ hrec htb _=>?_
   obtain⟨c2,oc,vs,t,e2,hoc,hd,hv⟩:=hrec;cases e2;have J:=I.grownC (t':=tk) hH hps ht (λb o hb e=>hx b o hb e) htb.2 hge hoc hd hv
   have hn:H c'=none:=I.hok.fresh hge
   refine h (.ref c') _ _ (λb o q=>by rw[zag (λz=>by rw[z,hn] at q;cases q)];exact q) (λb q=>?_) (λb hb q=>by rw[zag (λz=>by rw[z] at hb;exact absurd (wak hb hge) (waK _))];exact q) (λb o hb e=>hx b o hb e) (wai _) J;by_cases z:b=c'
   .rw[z];exact hn
   .rw[zag z] at q;exact q
|some cv=>
   refine wpAny_genexprCode_hit hcd (C.code hP ht.1) e ?_;exact h cv H s (λ_ _ q=>q) (λ_ q=>q) (λ_ _ q=>q) (λ_ _ _ e=>e) (wai _) I
def zff {X:Cx}{pins:List (Addr×Obj)}{Y:L2.St}{H:Hp}{s:Shared}{A:Around}{bm:Addr}{ob:Obj}{Q:Addr->Shared->Prop}{E:Value->Shared->Prop}(I:Inv X pins Y H s)(hB:BMod X.base mainGlobals X.mg bm ob)(h:Q builtinsNs s) :
 wpAny (model X.prog X.w) A (builtinsFor X.env.globals X.env.builtins) Q E s:=by
 have hg:=I.mod.glob.keeps I.bk
 rw[I.ok.glob];exact wpAny_builtinsFor hg hB.name hB.ne (I.bk _ _ hB.obj) hB.cls hB.dict hB.data h
section
variable {X:Cx}{elt tg iter:Expr}{scope:Scope}{gpos:Pos}{cl:List (Str×Addr)}{NC:List Str}{fr:List (Option Nat)}{g:TG}{te:TE}
def aG (X:Cx)(c:Code):Around:=X.A.in1.in1.over c []
def ogen (g:Nat)(x y:Value):Obj:={cls:=.type "generator",data:=.fields #[.int g 0,x,y]}
def zg1 {X:Cx}{it:Value}{cenv:Env}(h:X.A.frames=some X.stack):(aG X (zbq elt tg iter scope gpos it cenv)).frames=some (cenv::X.stack):=by
 show pushEnvs (zbq elt tg iter scope gpos it cenv).envs (pushEnvs (envsOf ([].map Frame.where_)) X.A.frames)=_
 rw[h];rfl
def Sta (G:Cx)(fp:List Addr)(tn:Nat->Heap->Prop)(a:Addr)(og:Obj)(g:Nat)(W:Nat->L2.St->Hp->Prop):GP:=λi s=>g<s.gens.size/\tn i s.heap/\∃Y H,Inv G [(a,og)] Y H s/\(∀b∈fp,H b=none)/\W i Y H
def zfg {G:Cx}{fp:List Addr}{tn:Nat->Heap->Prop}{a:Addr}{x y:Value}{g:Nat}{W:Nat->L2.St->Hp->Prop}:Holds a g (Sta G fp tn a (ogen g x y) g W) (Sta G fp tn a (ogen g x y) g W) where
 bare:=λi s ⟨_,_,Y,H,J,_,_⟩ =>J.bare
 gen:=λi s ⟨_,_,Y,H,J,_,_⟩ =>⟨_,x,y,(J.pin (a,ogen g x y) (wan _ (wau.mpr rfl))).1,rfl,rfl,rfl⟩
 lim:=λi s ⟨_,_,Y,H,J,_,_⟩ =>J.nolimit
 size:=λi s h=>h.1
 on:=λi s gs hb ⟨h1,h2,Y,H,J,h3,h4⟩ =>by
  have b1:AllBare (s.setGen g gs).gens:=zcS J.bare hb rfl
  have b2:AllBare ((s.setGen g gs).setGen g .running).gens:=zcS b1 rfl rfl
  exact⟨by rw[zaX,zaX];exact h1,h2,Y,H,zey (s:=s) (gs:=((s.setGen g gs).setGen g .running).gens) J b2,h3,h4⟩
def zlO {pins:List (Addr×Obj)}{Y:L2.St}{s4:Shared}{H1:Hp}{fp:List Addr}{it:Addr}{tn:Nat->Heap->Prop}{J:It}{code:Value}{Q:VK}{n:Nat}{tr:Nat->Bool}{W:Nat->L2.St->Hp->Prop}{mm:Str->Option Value}{h':Heap}{tk:Nat}{x y:Value}
 (I:Inv X pins Y H1 s4) (T:Turn X.prog X.w X.K tg J fp it tn) (st:tn 0 s4.heap) (f2:∀b∈fp,FpOk X pins H1 b) (hh:X.A.handled=none) (hroom:X.A.depth<recursionLimit) (hco:scope.isCoroutine=false) (hkind:scope.kind=.function)
 (hcl:∀x c,cl.lookup x=some c->X.env.cells.lookup x=some c)
 (hhas:∀x,(scope.names.lookup x=some .cell\/scope.names.lookup x=some .free)->∃c,cl.lookup x=some c)
 (hfr:∀(i:Nat) (x:Str) (j:Nat),NC[i]?=some x->fr[i]?=some (some j)->X.N[j]?=some x/\Vis X.env.scope x/\X.env.kindOf x≠some .local/\(scope.names.lookup x=some .cell\/scope.names.lookup x=some .free))
 (hlen:fr.length=NC.length)
 (hg:PG (gcx X scope cl NC s4.heap.objs.size code builtinsNs (aG X (zbq elt tg iter scope gpos (.ref it) (genEnv scope cl s4.heap.objs.size code builtinsNs X.env))) s4 H1 fp (X.pn++pins)) tg g)
 (he:PE (gcx X scope cl NC s4.heap.objs.size code builtinsNs (aG X (zbq elt tg iter scope gpos (.ref it) (genEnv scope cl s4.heap.objs.size code builtinsNs X.env))) s4 H1 fp (X.pn++pins)) elt te)
 (w0:W 0 (pick Y fr) H1) (step:∀i Y2 H2,i<n->W i Y2 H2->J.go i H2/\∀x H3,J.yld i H2 x H3->g x Y2 H3 λY4 H4=>te Y4 H4 λv H6=>v=.bl (tr i)/\W (i+1) Y4 H6)
 (stop:∀i Y2 H2,i<n->tr i=false->W (i+1) Y2 H2->Q (.bl ((List.range n).all tr)) H2) (done:∀Y2 H2,W n Y2 H2->J.stop n H2/\Q (.bl ((List.range n).all tr)) H2)
 (hn':h'.Ns s4.heap.objs.size mm) (hs':Heap.SameBut s4.heap.objs.size (s4.heap.push frO) h') :
 wpAny (model X.prog X.w) X.A (call (.builtin "all") [.ref h'.objs.size]) (EP X pins Y Q) X.xe {s4 with gens:=s4.gens.push (.fresh (zdJ elt tg iter scope gpos (.ref it) (genEnv scope cl s4.heap.objs.size code builtinsNs X.env))),toks:=tk,heap:=h'.push (ogen s4.gens.size x y)}:=by
 generalize hL:zbq elt tg iter scope gpos (.ref it) (genEnv scope cl s4.heap.objs.size code builtinsNs X.env)=L at hg he;generalize hG:gcx X scope cl NC s4.heap.objs.size code builtinsNs (aG X L) s4 H1 fp (X.pn++pins)=G at hg he;have gA:G.A=aG X L:=by rw[<-hG];rfl
 have gp:G.prog=X.prog:=by rw[<-hG];rfl
 have gw:G.w=X.w:=by rw[<-hG];rfl
 have gK:G.K=X.K:=by rw[<-hG];rfl
 have gc:G.calm=true:=by rw[<-hG];rfl
 have gE:G.env=genEnv scope cl s4.heap.objs.size code builtinsNs X.env:=by rw[<-hG];rfl
 have gx:G.xe=λ_ _=>False:=by rw[<-hG];rfl
 have gfs:∀{Y':L2.St}{H':Hp}{s':Shared},Inv G [(h'.objs.size,ogen s4.gens.size x y)] Y' H' s'->Inv X pins Y H' s':=λ{Y' H' s'} J'=>by
  subst hG;exact zj2 I f2 J'
 have obj:∀b∈fp,∃o,s4.heap.get? b=some o/\∀v,o.data≠.cell v:=T.obj 0 _ st
 have start:∀gs:Array GenState,AllBare gs->Inv G [(h'.objs.size,ogen s4.gens.size x y)] (pick Y fr) H1 {s4 with gens:=gs,toks:=tk,heap:=h'.push (ogen s4.gens.size x y)}:=λgs hb=>by
  subst hG;refine zlM I f2 obj hkind rfl hcl hhas hfr hlen hh ?_ hn' hs' hb (λv e=>by cases e) rfl;subst hL;exact zg1 I.ok.frames
 have fC:∀{H':Hp},(∀b∈fp,H' b=none)->∀b∈fp,FpOk G [(h'.objs.size,ogen s4.gens.size x y)] H' b:=λ{H'} hn b hb=>by
  obtain⟨q1,q2,q3,q4,q5,q6⟩:=f2 b hb;obtain⟨o,eo,_⟩:=obj b hb;have lt:b<s4.heap.objs.size:=wad eo
  subst hG;refine⟨hn b hb,wap lt,λz=>?_,.inl hb,λx c e=>q5 x c (hcl x c e),λp hp z=>?_⟩
  .rcases wah.mp (I.stkSub b z) with z'|z'
   .exact q2 z'
   .exact q3 z'
  .have hp':p∈(X.pn++pins)++[(h'.objs.size,ogen s4.gens.size x y)]:=hp
   rcases waM.mp hp' with hp'|hp'
   .exact q6 p hp' z
   .rw[wau.mp hp'] at z;have:h'.objs.size=s4.heap.objs.size+1:=by rw[hs'.1,wbj]
    have z:b=s4.heap.objs.size+1:=(show h'.objs.size=b from z).symm.trans this
    rw[z] at lt;exact absurd lt (Nat.not_lt.mpr (wbK _))
 have st5:tn 0 (h'.push (ogen s4.gens.size x y)):=T.keep _ _ _ st λb hb o e=>wab _ (hs'.extBut b o (wap (wad e)) (wab _ e))
 have turn:∀i s,i<n->Sta G fp tn h'.objs.size (ogen s4.gens.size x y) s4.gens.size W i s->wpAny (model X.prog X.w) (aG X L) (pyNext (.ref it)) (λr s1=>∃v,r=some v/\
  wpAny (model X.prog X.w) (aG X L) (letOwnedTupleGo tg (.ref it) v) (λ_ s2=>wpAny (model X.prog X.w) (aG X L) (assign tg G.env v) (λ_ s3=>
   wpAny (model X.prog X.w) (aG X L) (eval elt G.env) (λy' s4'=>y'=.bool (tr i)/\Sta G fp tn h'.objs.size (ogen s4.gens.size x y) s4.gens.size W (i+1) s4') (λ_ _=>False) s3) (λ_ _=>False) s2) (λ_ _=>False) s1) (λ_ _=>False) s:=λi s hi ⟨h1,h2,Y2,H2,J2,h3,h4⟩ =>by
  obtain⟨go,next⟩:=step i Y2 H2 hi h4;have q:=T.item G gp gw gK gc i _ s Y2 H2 (λ_ _=>False) J2 (fC h3) h2 go
  rw[gA] at q;refine war (zcx (n:=s4.gens.size+1) h1 q) (λr s1 ⟨n1,u,hr,q1⟩ =>⟨u,hr,?_⟩) λ_ _ z=>z.2
  refine war (zcx n1 q1) (λ_ s2 ⟨n2,v,H3,J3,r3,y3,t3,f3⟩ =>?_) λ_ _ z=>z.2
  have J3':=J3.pinned (fC f3) (T.obj _ _ t3)
  have q2:=hg _ s2 Y2 H3 v u _ J3' r3 (next v H3 y3)
  rw[gp,gw,gA,gx] at q2;refine war (zcx n2 q2) (λ_ s3 ⟨n3,Y4,H4,J4,q4⟩ =>?_) λ_ _ z=>z.2
  have q3:=he _ s3 Y4 H4 _ J4 q4
  rw[gp,gw,gA,gx] at q3;refine war (zcx n3 q3) (λy' s5 ⟨n5,v',H6,J6,r6,hv,w6⟩ =>?_) λ_ _ z=>z.2
  subst hv;refine⟨r6,n5,T.keep _ _ _ t3 λb hb o e=>(J6.pin (b,o) (wan _ (wan _ (zbA hb e)))).1,Y4,H6,J6.unpinned,λb hb=>?_,w6⟩;obtain⟨o,e,_⟩:=T.obj _ _ t3 b hb;exact(J6.pin (b,o) (wan _ (wan _ (zbA hb e)))).2.1
 have fin:∀s,Sta G fp tn h'.objs.size (ogen s4.gens.size x y) s4.gens.size W n s->wpAny (model X.prog X.w) (aG X L) (pyNext (.ref it)) (λr s1=>r=none/\∃Y' H',Inv G [(h'.objs.size,ogen s4.gens.size x y)] Y' H' s1/\Q (.bl ((List.range n).all tr)) H') (λ_ _=>False) s:=λs ⟨h1,h2,Y2,H2,J2,h3,h4⟩ =>by
  obtain⟨go,hq⟩:=done Y2 H2 h4;have q:=T.done G gp gw gK gc n _ s Y2 H2 (λ_ _=>False) J2 (fC h3) h2 go
  rw[gA] at q;exact war q (λr s1 ⟨hr,J3⟩ =>⟨hr,Y2,H2,J3,hq⟩) λ_ _ z=>z
 have wl:∀s₀ s,Sta G fp tn h'.objs.size (ogen s4.gens.size x y) s4.gens.size W 0 s->Seg (model X.prog X.w) X.A.in1.in1 (gend λs1=>∃Y' H',Inv G [(h'.objs.size,ogen s4.gens.size x y)] Y' H' s1/\Q (.bl ((List.range n).all tr)) H') (zgZ n (λi v=>v=.bool (tr i)) (Sta G fp tn h'.objs.size (ogen s4.gens.size x y) s4.gens.size W) (Sta G fp tn h'.objs.size (ogen s4.gens.size x y) s4.gens.size W)) n s₀ L ((model X.prog X.w).den L) [] s:=λs₀ s hs=>by
  rw[gE] at turn;subst hL;exact zjZ hco turn fin n 0 s₀ s (Nat.sub_zero _) (waT _) hs
 have self:∀(A':Around) s,Sta G fp tn h'.objs.size (ogen s4.gens.size x y) s4.gens.size W 0 s->wpAny (model X.prog X.w) A' (pyIter (.ref it)) (λz s'=>z=.ref it/\Sta G fp tn h'.objs.size (ogen s4.gens.size x y) s4.gens.size W 0 s') (λ_ _=>False) s:=λA' s hs=>T.self A' 0 s _ _ hs.2.1 ⟨rfl,hs⟩
 have ws:∀s₀ s,Sta G fp tn h'.objs.size (ogen s4.gens.size x y) s4.gens.size W 0 s->Seg (model X.prog X.w) X.A.in1.in1 (gend λs1=>∃Y' H',Inv G [(h'.objs.size,ogen s4.gens.size x y)] Y' H' s1/\Q (.bl ((List.range n).all tr)) H') (zgZ n (λi v=>v=.bool (tr i)) (Sta G fp tn h'.objs.size (ogen s4.gens.size x y) s4.gens.size W) (Sta G fp tn h'.objs.size (ogen s4.gens.size x y) s4.gens.size W)) n s₀ (zdJ elt tg iter scope gpos (.ref it) (genEnv scope cl s4.heap.objs.size code builtinsNs X.env)) ((model X.prog X.w).den (zdJ elt tg iter scope gpos (.ref it) (genEnv scope cl s4.heap.objs.size code builtinsNs X.env))) [] s:=λs₀ s hs=>by
  subst hL;exact ziD wl self s₀ s hs
 have b0:AllBare (s4.gens.push (.fresh (zdJ elt tg iter scope gpos (.ref it) (genEnv scope cl s4.heap.objs.size code builtinsNs X.env)))):=AllBare.push I.bare rfl
 have sta0:∀gs:Array GenState,AllBare gs->s4.gens.size<gs.size->Sta G fp tn h'.objs.size (ogen s4.gens.size x y) s4.gens.size W 0 {s4 with gens:=gs,toks:=tk,heap:=h'.push (ogen s4.gens.size x y)}:=λgs hb hz=>⟨hz,st5,_,H1,start gs hb,λb hb=>(f2 b hb).1,w0⟩
 have I5:=start _ b0
 have at0:At X.prog X.w X.A.in1 h'.objs.size s4.gens.size n (λi v=>v=.bool (tr i)) (Sta G fp tn h'.objs.size (ogen s4.gens.size x y) s4.gens.size W) (Sta G fp tn h'.objs.size (ogen s4.gens.size x y) s4.gens.size W) (λs1=>∃Y' H',Inv G [(h'.objs.size,ogen s4.gens.size x y)] Y' H' s1/\Q (.bl ((List.range n).all tr)) H') 0 {s4 with gens:=s4.gens.push (.fresh (zdJ elt tg iter scope gpos (.ref it) (genEnv scope cl s4.heap.objs.size code builtinsNs X.env))),toks:=tk,heap:=h'.push (ogen s4.gens.size x y)}:=by
  refine⟨b0,⟨_,x,y,wat _ rfl,rfl,rfl,rfl⟩,I5.nolimit,⟨_,Array.getElem?_push_size ..,λs'' hs=>⟨rfl,?_⟩⟩,?_⟩
  .rw[Nat.sub_zero];exact ws s'' s'' hs
  .exact sta0 _ (zcS b0 rfl rfl) (by show s4.gens.size<((s4.gens.push _).setIfInBounds _ _).size;simp)
 refine zj1 (P:=λi v=>v=.bool (tr i)) (Wt:=λi s=>At X.prog X.w X.A.in1 h'.objs.size s4.gens.size n (λi v=>v=.bool (tr i)) (Sta G fp tn h'.objs.size (ogen s4.gens.size x y) s4.gens.size W) (Sta G fp tn h'.objs.size (ogen s4.gens.size x y) s4.gens.size W) (λs1=>∃Y' H',Inv G [(h'.objs.size,ogen s4.gens.size x y)] Y' H' s1/\Q (.bl ((List.range n).all tr)) H') i s)
  (Fin:=λs'=>∃H',Inv X pins Y H' s'/\Q (.bl ((List.range n).all tr)) H') (tr:=tr) (n:=n) ?_ ?_ ?_ ?_ at0.gen at0 λs' ⟨H',J',q⟩ =>⟨.bl _,H',J',rfl,q⟩
 .intro i v s Q' E' hv hq;subst hv;exact wae hq
 .intro i s hi hs;refine ziF hh hroom zfg hi hs λv s1 gs hP hM hb hA=>⟨v,rfl,hP,hA⟩
 .intro s hs;refine ziG hh hroom zfg hs λs1 h2 ⟨Y',H',J',hq⟩ hk=>⟨rfl,H',?_,hq⟩
  have J2:=gfs J'
  exact(zey (s:=s1) (gs:=(s1.setGen s4.gens.size .finished).gens) J2 (zcS J2.bare rfl rfl)).kept (t':=s1.toks) hk
 .intro i s hi ht hs;obtain⟨h1,h2,Y',H',J',_,w'⟩:=hs.run;have J2:=gfs J'
  exact⟨H',zey (s:=s.setGen s4.gens.size .running) (gs:=s.gens) J2 hs.bare,stop i Y' H' hi ht w'⟩
end
def tAll (fr:List (Option Nat))(wi:TI)(g:TG)(te:TE):TE:=λY H Q=>wi Y H λJ H1=>∀H3:Hp,(∀b o,H1 b=some o->H3 b=some o)->(∀b,H3 b=none->H1 b=none)->∃(n:Nat) (tr:Nat->Bool) (W:Nat->L2.St->Hp->Prop),W 0 (pick Y fr) H3/\
 (∀i Y2 H2,i<n->W i Y2 H2->J.go i H2/\∀x H3,J.yld i H2 x H3->g x Y2 H3 λY4 H4=>te Y4 H4 λv H6=>v=.bl (tr i)/\W (i+1) Y4 H6)/\
 (∀i Y2 H2,i<n->tr i=false->W (i+1) Y2 H2->Q (.bl ((List.range n).all tr)) H2)/\∀Y2 H2,W n Y2 H2->J.stop n H2/\Q (.bl ((List.range n).all tr)) H2
def znD {X:Cx}{elt tg iter:Expr}{scope:Scope}{gpos np cpos:Pos}{cl:List (Str×Addr)}{NC:List Str}{fr:List (Option Nat)}{wi:TI}{g:TG}{te:TE}{c P bm:Addr}{ob:Obj}{q:Str}{RR:Hp->Prop}(hRR:∀pins Y H s,Inv X pins Y H s->RR H)
 (hcalm:X.calm=true) (B:Blt X.mg) (hi:PI X tg iter wi) (hclos:closureFor scope X.env=pure cl) (hcell:∀y∈scope.names,y.2≠.cell) (h0:scope.names.lookup (".0" : Str)=some NameKind.local) (hkind:scope.kind=.function) (hco:scope.isCoroutine=false) (hroom:X.A.depth<recursionLimit)
 (hcl:∀x c,cl.lookup x=some c->X.env.cells.lookup x=some c)
 (hhas:∀x,(scope.names.lookup x=some .cell\/scope.names.lookup x=some .free)->∃c,cl.lookup x=some c)
 (hfr:∀(i:Nat) (x:Str) (j:Nat),NC[i]?=some x->fr[i]?=some (some j)->X.N[j]?=some x/\Vis X.env.scope x/\X.env.kindOf x≠some .local/\(scope.names.lookup x=some .cell\/scope.names.lookup x=some .free))
 (hlen:fr.length=NC.length) (hcd:X.env.code=.ref c) (hC:CodeK X.K c P) (hB:BMod X.base mainGlobals X.mg bm ob) (hT:∀pins Y H s,Inv X pins Y H s->VD.TabH P q H) (hq:X.env.qual++"<genexpr>"=q)
 (hg:∀C code it s0 H0 ex pn,PG (gcx X scope cl NC C code builtinsNs (aG X (zbq elt tg iter scope gpos it (genEnv scope cl C code builtinsNs X.env))) s0 H0 ex pn) tg g)
 (he:∀C code it s0 H0 ex pn,RR H0->PE (gcx X scope cl NC C code builtinsNs (aG X (zbq elt tg iter scope gpos it (genEnv scope cl C code builtinsNs X.env))) s0 H0 ex pn) elt te)
 (hgl:Gl X "all":=by rfl) (hs:∀x,genFold iter X.env x=pure x:=by intro _;rfl)
 (he1:starEach [.GeneratorExp elt [⟨tg,iter,[],0⟩] scope gpos] X.env=(false,eval (.GeneratorExp elt [⟨tg,iter,[],0⟩] scope gpos) X.env)::starEach [] X.env:=by rfl) :
 PE X (.Call (.Name "all" np) [.GeneratorExp elt [⟨tg,iter,[],0⟩] scope gpos] [] cpos) (tAll fr wi g te):=by
 intro pins s Y H Q I h;refine waE (zd5 I hgl (B "all" (by decide +kernel)) boot_all ?_ (by decide) (by decide));refine PyProof.Rows.callWith_builtin1 ?_ he1 rfl;rw[he1];refine wbQ ?_;refine wpAny_GeneratorExp_make hco hclos hcell h0 hkind hroom (thn (hi pins s Y H _ I h) λv s1 h1=>thn h1 λitv s2 h2=>?_) hs;obtain⟨it,fp,tn,J,H1,rfl,I2,T,st2,f2,hW⟩:=h2;obtain⟨tp,hH,hps⟩:=hT _ _ _ _ I2;refine⟨I2.nolimit,zj3 I2 hcd hC hH hps hq λcode H3 s3 k1 k2 k3 k4 k5 I3=>zff I3 hB ?_⟩;intro h' hn' hs';obtain⟨n,tr,W,w0,step,stop,done⟩:=hW H3 k1 k2;have lt:∀b∈fp,b<s2.heap.objs.size:=λb hb=>let ⟨o,e,_⟩:=T.obj _ _ st2 b hb;wad e
 have st3:tn 0 s3.heap:=T.keep _ _ _ st2 λb hb o e=>k4 b o (λz=>by
  have:=(f2 b hb).1
  rw[z,hH] at this;cases this) e
 have f3:∀b∈fp,FpOk X pins H3 b:=λb hb=>⟨k3 b (lt b hb) (f2 b hb).1,(f2 b hb).2⟩
 have run:=λtk=>zlO (Q:=Q) (tk:=tk) (x:=.str "<genexpr>" (s3.toks+1)) (y:=.str (X.env.qual++"<genexpr>") (s3.toks+1+1)) I3 T st3 f3 (I.ok.hd hcalm) hroom hco hkind hcl hhas hfr hlen (hg _ code _ _ _ _ _) (he _ code _ _ _ _ _ (hRR _ _ _ _ I3)) w0 step stop done hn' hs'
 exact wae (run _)
end GX
namespace VD
open PySem PySem.Spec PyProof PyProof.Rows L2 PySem.W GX
def zez (f:D->Option Bool):List D->Option (List Bool)
|[]=>some []
|d::ds=>(f d).bind λb=>(zez f ds).bind λbs=>some (b::bs)
theorem zfh {f:D->Option Bool}:∀{ds:List D}{bs:List Bool},zez f ds=some bs->bs.length=ds.length/\∀(i:Nat) (d:D),ds[i]?=some d->f d=some (bs.getD i true)
|[],bs,e=>by cases e;exact⟨rfl,λi d h=>by simp at h⟩
|d::ds,bs,e=>by
   obtain⟨b,e1,e⟩:=bind_some e;obtain⟨bs',e2,e⟩:=bind_some e;cases e;obtain⟨l,h⟩:=zfh e2;refine⟨by simp[l],λi x hx=>?_⟩;cases i with
  |zero=>cases hx;exact e1
  |succ i=>exact h i x (by simpa using hx)
def ziH (bs:List Bool):(List.range bs.length).all (λi=>bs.getD i true)=bs.all id:=by
 rw[wbm,waJ,waJ];constructor
 .intro h b hb;obtain⟨i,hi,rfl⟩:=List.mem_iff_getElem.mp hb;have:=h i (wbY.mpr hi)
  simpa[List.getD,waw hi] using this
 .intro h i hi;have hi:=wbY.mp hi
  have:=h bs[i] (List.getElem_mem hi)
  simpa[List.getD,waw hi] using this
def eAll (fr:List (Option Nat))(fi:FA)(g:FG)(fe:FE):FE:=λZ=>(fi Z).bind λds=>(zez (λd=>(g d (zbK Z fr)).bind λZ1=>(fe Z1).bind dB) ds).bind λbs=>some (.bl (bs.all id))
def znE {K:W.Frag}{fr:List (Option Nat)}{wi:TI}{fi:FA}{g:FG}{is:List Nat}{fe:FE}(hi:GoI K wi fi)(hon:∀d Z Z',g d Z=some Z'->Only is Z Z')(hap:apart is fr=true) :
 GoE K (tAll fr wi (TGof K g) (TEof K fe)) (eAll fr fi g fe):=by
 intro Hz Jz O Z Y H J out Q s e w;obtain⟨ds,e1,e⟩:=bind_some e;obtain⟨bs,e2,e⟩:=bind_some e;cases e;obtain⟨bl,bg⟩:=zfh e2;refine hi Hz Jz O Z Y H J ds _ s e1 λI H1 J1 u1 src=>?_
 intro H3 k1 k2;have u0:Up H1 J1 H3 J1:=⟨λb o h=>k1 b o h,λ_ h=>h,λ_ h=>.inl h,λa h z=>u1.ja a h (k2 a z)⟩
 have fin:∀H2 J2,Up H1 J1 H2 J2->Q (.bl ((List.range ds.length).all λi=>bs.getD i true)) H2:=λH2 J2 u2=>by
  rw[<-bl,ziH];exact w _ H2 J2 (u1.trans u2) (.bl _)
 refine⟨ds.length,λi=>bs.getD i true,λi Y2 H2=>i<=ds.length/\∃J2,ST K Hz Jz O.blk (zbK Z fr) Y2 H2 J2/\Up H1 J1 H2 J2,⟨waT _,J1,((s.up u1).up u0).pick fr,u0⟩,?_,?_,?_⟩
 .rintro i Y2 H2 hlt ⟨_,J2,s2,u2⟩;obtain⟨_,turn⟩:=src H2 J2 u2.keep s2.ja;have hd:ds[i]?=some ds[i]:=waw hlt
  obtain⟨go,yl⟩:=turn i _ hd;obtain⟨Z1,eg,ee⟩:=bind_some (bg i _ hd);obtain⟨xd,ex,eb⟩:=bind_some ee;refine⟨go,λx H4 y=>?_⟩;obtain⟨J3,u3,r3⟩:=yl x H4 y;have wk:Weak (zbK Z fr) Z1:=zh8 (hon _ _ _ eg) hap
  refine⟨Hz,Jz,O.blk,zbK Z fr,J3,_,Z1,s2.up u3,r3,eg,λY4 s4=>?_⟩;refine⟨Hz,Jz,O.blk,Z1,J3,xd,s4,ex,λv H6 J6 u6 r6=>?_⟩;have hxd:xd=.bl (bs.getD i true):=by
   cases xd with
  |bl b=>cases eb;rfl
  |_=>cases eb
  subst hxd;cases r6;exact⟨rfl,hlt,J6,(s4.up u6).weak wk rfl,u2.trans (u3.trans u6)⟩
 .rintro i Y2 H2 _ _ ⟨_,J2,_,u2⟩;exact fin H2 J2 u2
 .rintro Y2 H2 ⟨_,J2,s2,u2⟩;obtain⟨stop,_⟩:=src H2 J2 u2.keep s2.ja;exact⟨stop,fin H2 J2 u2⟩
def zkB (N:List Str)(st:Stmt){X:Cx}{elt iter tg:Expr}{scope:Scope}{gpos np cpos:Pos}{NC:List Str}(fr:List (Option Nat)){fi:FA}{g:FG}{is:List Nat}{fe:FE}{q:Str}{RR:Hp->Prop}(hRR:∀pins Y H s,Inv X pins Y H s->RR H)(hcalm:X.calm=true)(B:Blt X.mg)(hi:VI X tg iter fi)(TX:TabX X q)(hroom:X.A.depth<recursionLimit)
 (hcells:∀x,X.env.scope.names.lookup x=some .cell->∃c,X.env.cells.lookup x=some c) (hfk:X.env.scope.kind=.function) (hN:X.N=N) (hsc:X.env.scope.names=(zad st).names)
 (hfree':∀y∈scope.names,y.2=.free->(zad st).names.lookup y.1=some .cell) (hcell:∀y∈scope.names,y.2≠.cell) (hkind:scope.kind=.function) (hco:scope.isCoroutine=false) (h0:scope.names.lookup (".0" : Str)=some NameKind.local)
 (hfr':zep N (zad st).names scope.names NC fr=true) (hlen:fr.length=NC.length) (hap:apart is fr=true) (hq:X.env.qual++"<genexpr>"=q)
 (hg:∀cl C code it s0 H0 ex pn,VG (gcx X scope cl NC C code builtinsNs (aG X (zbq elt tg iter scope gpos it (genEnv scope cl C code builtinsNs X.env))) s0 H0 ex pn) tg is g)
 (he:∀cl C code it s0 H0 ex pn,RR H0->VE (gcx X scope cl NC C code builtinsNs (aG X (zbq elt tg iter scope gpos it (genEnv scope cl C code builtinsNs X.env))) s0 H0 ex pn) elt fe)
 (hgl:Gl X "all":=by rfl) (hs:∀x,genFold iter X.env x=pure x:=by intro _;rfl)
 (he1:starEach [.GeneratorExp elt [⟨tg,iter,[],0⟩] scope gpos] X.env=(false,eval (.GeneratorExp elt [⟨tg,iter,[],0⟩] scope gpos) X.env)::starEach [] X.env:=by rfl) :
 VE X (.Call (.Name "all" np) [.GeneratorExp elt [⟨tg,iter,[],0⟩] scope gpos] [] cpos) (eAll fr fi g fe):=by
 obtain⟨wi,pi,gi⟩:=hi;obtain⟨c,P,bm,ob,e1,e2,e3,hT⟩:=TX;obtain⟨_,_,hon,_⟩:=hg [] 0 .none .none X.s₀ X.Hz [] [];have hfree:∀y∈scope.names,y.2=.free->X.env.scope.names.lookup y.1=some .cell:=by rw[hsc];exact hfree'
 have hfr:zep X.N X.env.scope.names scope.names NC fr=true:=by rw[hsc,hN];exact hfr'
 have hc:∀y∈scope.names,y.2=.free->∃c,X.env.cells.lookup y.1=some c:=λy hy h=>hcells _ (hfree y hy h)
 refine⟨_,znD (fr:=fr) (NC:=NC) (cl:=clo X.env.cells scope.names []) (RR:=RR) hRR hcalm B pi (zkp hc) hcell h0 hkind hco hroom (λx c e=>zfH _ _ _ (λ_ _ z=>by cases z) hc x c e) (λx hx=>?_) (λi x j h1 h2=>?_) hlen e1 e2 e3 (λpins Y H s I=>pers_T.st I.base hT) hq (λC code it s0 H0 ex pn=>(hg _ C code it s0 H0 ex pn).of) (λC code it s0 H0 ex pn rH=>(he _ C code it s0 H0 ex pn rH).of) hgl hs he1,znE gi hon hap⟩
 .refine zfI _ _ _ x (.inr (zct ?_));rcases hx with e|e
  .exact absurd rfl (hcell _ (zct e))
  .exact e
 .have hm:(x,some j)∈NC.zip fr:=by
   have:(NC.zip fr)[i]?=some (x,some j):=by rw[List.getElem?_zip_eq_some];exact⟨h1,h2⟩
   exact waW this
  have q:=waJ.mp hfr _ hm
  have q':((X.N[j]? == some x)&&(X.env.scope.names.lookup x == some .cell)&&(scope.names.lookup x == some .free))=true:=q
  simp only[waD,beq_iff_eq] at q';obtain⟨⟨q1,q2⟩,q3⟩:=q';refine⟨q1,.inr (.inl q2),?_,.inr q3⟩;intro z;have z':X.env.scope.names.lookup x=some .local:=z
  rw[q2] at z';cases z'
def vgg (i:Nat){X:Cx}{scope:Scope}{cl:List (Str×Addr)}{NC:List Str}{C:Addr}{code:Value}{bi:Addr}{A':Around}{s0:Shared}{H0:Hp}{ex:List Addr}{pn:List (Addr×Obj)}{x:Str}{pos:Pos}(nd:NC.Nodup:=by decide +kernel)(hi:NC[i]?=some x:=by rfl)(hx:scope.names.lookup x=some .local:=by rfl) :
 VG (gcx X scope cl NC C code bi A' s0 H0 ex pn) (.Name x pos) [i] (gN i):=⟨_,zfB (X:=gcx X scope cl NC C code bi A' s0 H0 ex pn) nd hi (.inl hx) (.inr hx),zfK⟩
def zgx {X:Cx}{k:Nat}{elt tg iter:Expr}{scope:Scope}{gpos:Pos}{it:Value}{cenv:Env}(r:Room (k+1) X.A):Room k (aG X (zbq elt tg iter scope gpos it cenv)):=by
 have hd:=r.dp
 have hu:=r.un
 refine⟨r.hd,?_,?_,?_⟩
 .show X.A.depth+0+(zbq elt tg iter scope gpos it cenv).weight+3*k+5<recursionLimit
  have:(zbq elt tg iter scope gpos it cenv).weight=1:=rfl
  omega
 .show X.A.units+1+1+0+(zbq elt tg iter scope gpos it cenv).cUnits+16*k+200<cLine
  have:(zbq elt tg iter scope gpos it cenv).cUnits<=3:=by first|exact wai _|decide
  omega
 .show pushGuards (zbq elt tg iter scope gpos it cenv).guards (pushGuards [] X.A.guards)=some []
  rw[r.gd];rfl
def znF (N:List Str)(st:Stmt){X:Cx}{k:Nat}{elt iter tg:Expr}{scope:Scope}{gpos np cpos:Pos}{NC:List Str}(fr:List (Option Nat)){fi:FA}{g:FG}{is:List Nat}{fe:FE}{q:Str}(hr:Room k X.A)(B:Blt X.mg)(TX:TabX X q)(hi:VI X tg iter fi)
 (hg:∀{cl C code A' s0 H0 ex pn},VG (gcx X scope cl NC C code builtinsNs A' s0 H0 ex pn) tg is g)
 (he:∀{cl C code it s0 H0 ex pn},VE (gcx X scope cl NC C code builtinsNs (aG X (zbq elt tg iter scope gpos it (genEnv scope cl C code builtinsNs X.env))) s0 H0 ex pn) elt fe)
 (hcalm:X.calm=true:=by rfl) (hcells:∀x,X.env.scope.names.lookup x=some .cell->∃c,X.env.cells.lookup x=some c:=by exact λx h=>zcM h) (hfk:X.env.scope.kind=.function:=by rfl) (hN:X.N=N:=by rfl) (hsc:X.env.scope.names=(zad st).names:=by rfl)
 (hfree':∀y∈scope.names,y.2=.free->(zad st).names.lookup y.1=some .cell:=by decide +kernel) (hcell:∀y∈scope.names,y.2≠.cell:=by decide +kernel) (hkind:scope.kind=.function:=by rfl) (hco:scope.isCoroutine=false:=by rfl) (h0:scope.names.lookup (".0" : Str)=some NameKind.local:=by rfl)
 (hfr':zep N (zad st).names scope.names NC fr=true:=by decide +kernel) (hlen:fr.length=NC.length:=by rfl) (hap:apart is fr=true:=by decide) (hq:X.env.qual++"<genexpr>"=q:=by decide +kernel)
 (hgl:Gl X "all":=by rfl) (hs:∀x,genFold iter X.env x=pure x:=by intro _;rfl)
 (he1:starEach [.GeneratorExp elt [⟨tg,iter,[],0⟩] scope gpos] X.env=(false,eval (.GeneratorExp elt [⟨tg,iter,[],0⟩] scope gpos) X.env)::starEach [] X.env:=by rfl) :
 VE X (.Call (.Name "all" np) [.GeneratorExp elt [⟨tg,iter,[],0⟩] scope gpos] [] cpos) (eAll fr fi g fe):=
 zkB (RR:=λ_=>True) N st fr (λ_ _ _ _ _=>trivial) hcalm B hi TX hr.depth hcells hfk hN hsc hfree' hcell hkind hco h0 hfr' hlen hap hq (λ_ _ _ _ _ _ _ _=>hg) (λ_ _ _ _ _ _ _ _ _=>he) hgl hs he1
def znG (N:List Str)(st:Stmt){X:Cx}{k:Nat}{elt iter tg:Expr}{scope:Scope}{gpos np cpos:Pos}{NC:List Str}(fr:List (Option Nat)){fi:FA}{g:FG}{is:List Nat}{fe:FE}{q:Str}{Pc:Hp->Prop}(hp:Prs X Pc)(hr:Room k X.A)(B:Blt X.mg)(TX:TabX X q)(hi:VI X tg iter fi)
 (hg:∀{cl C code A' s0 H0 ex pn},VG (gcx X scope cl NC C code builtinsNs A' s0 H0 ex pn) tg is g)
 (he:∀{cl C code it s0 H0 ex pn},Pc H0->VE (gcx X scope cl NC C code builtinsNs (aG X (zbq elt tg iter scope gpos it (genEnv scope cl C code builtinsNs X.env))) s0 H0 ex pn) elt fe)
 (hcalm:X.calm=true:=by rfl) (hcells:∀x,X.env.scope.names.lookup x=some .cell->∃c,X.env.cells.lookup x=some c:=by exact λx h=>zcM h) (hfk:X.env.scope.kind=.function:=by rfl) (hN:X.N=N:=by rfl) (hsc:X.env.scope.names=(zad st).names:=by rfl)
 (hfree':∀y∈scope.names,y.2=.free->(zad st).names.lookup y.1=some .cell:=by decide +kernel) (hcell:∀y∈scope.names,y.2≠.cell:=by decide +kernel) (hkind:scope.kind=.function:=by rfl) (hco:scope.isCoroutine=false:=by rfl) (h0:scope.names.lookup (".0" : Str)=some NameKind.local:=by rfl)
 (hfr':zep N (zad st).names scope.names NC fr=true:=by decide +kernel) (hlen:fr.length=NC.length:=by rfl) (hap:apart is fr=true:=by decide) (hq:X.env.qual++"<genexpr>"=q:=by decide +kernel)
 (hgl:Gl X "all":=by rfl) (hs:∀x,genFold iter X.env x=pure x:=by intro _;rfl)
 (he1:starEach [.GeneratorExp elt [⟨tg,iter,[],0⟩] scope gpos] X.env=(false,eval (.GeneratorExp elt [⟨tg,iter,[],0⟩] scope gpos) X.env)::starEach [] X.env:=by rfl) :
 VE X (.Call (.Name "all" np) [.GeneratorExp elt [⟨tg,iter,[],0⟩] scope gpos] [] cpos) (eAll fr fi g fe):=
 zkB (RR:=Pc) N st fr hp hcalm B hi TX hr.depth hcells hfk hN hsc hfree' hcell hkind hco h0 hfr' hlen hap hq (λ_ _ _ _ _ _ _ _=>hg) (λ_ _ _ _ _ _ _ _ rH=>he rH) hgl hs he1
end VD
namespace VD
open PySem PySem.Spec PyProof PyProof.Rows L2 PySem.W GX EX
end VD
namespace VD
open PySem PySem.Spec PyProof PyProof.Rows L2
theorem rp_ints {K:W.Frag}{H:Hp}{J:Addr->Prop}:∀{ns:List Int},RpL K H J (ns.map V.int) (ns.map D.int)
|[]=>.nil
|_::_=>.cons (.int _) rp_ints
def za4:D->D->Option D
|.tup xs,.tup ys=>if ys = [] then(if xs = [] then none else mkT xs) else mkT (xs++ys)
|x,y=>dAdd x y
def zbr {X:Cx}:OpR X (binaryOp .Add) (λx y H Q=>zjv X.K x y H Q\/zkY X.K x y H Q):=opAdd.or zhI
def zaY {K:W.Frag}:Im2 K (λx y H Q=>zjv K x y H Q\/zkY K x y H Q) za4:=by
 intro H J x y d e d' Q ja hx hy hF w;by_cases hc:∃xs,d=.tup xs/\e=.tup []/\xs≠[]
 .obtain⟨xs,rfl,rfl,hx0⟩:=hc;have hF:(if xs = [] then none else mkT xs)=some d':=hF
  rw[if_neg hx0] at hF;obtain⟨hl,rfl⟩:=zeq hF;obtain⟨p,vs,rfl,h1,r1⟩:=hx.tup;obtain⟨q,us,rfl,h2,r2⟩:=hy.tup;cases r2;refine .inr ⟨p,q,vs,[],rfl,rfl,h1,h2,?_,?_,λ_=>w _ H J (Up.refl ja) (.tup h1 r1),λz=>absurd rfl z⟩
  .rintro rfl;cases r1;exact hx0 rfl
  .rw[r1.length];exact zb1 hl
 .refine .inl (zcP H J x y d e d' Q ja hx hy ?_ w);unfold za4 at hF;split at hF
  .rename_i xs ys
   by_cases hy0:ys = []
   .subst hy0;by_cases hx0:xs = []
    .rw[if_pos rfl,if_pos hx0] at hF;cases hF
    .exact absurd ⟨xs,rfl,rfl,hx0⟩ hc
   .rw[if_neg hy0] at hF;show(if ys = [] then none else mkT (xs++ys))=some d'
    rw[if_neg hy0];exact hF
  .exact hF
section
variable {X:Cx}
def zgy (i j:Nat){x y:Str}{a b:Expr}{fl:FA}{px py pt pt2 pos:Pos}{kt k2:Nat}(hN:X.N.Nodup)(h:VA X [a,b] fl)(hij:i≠j:=by decide)(hc:X.calm=true:=by rfl)(hi:X.N[i]?=some x:=by rfl)(hj:X.N[j]?=some y:=by rfl)
 (hx:X.env.scope.names.lookup x=some .local:=by rfl) (hy:X.env.scope.names.lookup y=some .local:=by rfl)
 (hw:swappedStores [.Tuple [.Name x px,.Name y py] kt pt] (.Tuple [a,b] k2 pt2) X.env=pure (some [x,y]):=by rfl)
 (hs:swapsWithSole [.Tuple [.Name x px,.Name y py] kt pt] (.Tuple [a,b] k2 pt2) pos.line X.env=pure false:=by rfl) :
 VS X (.Assign [.Tuple [.Name x px,.Name y py] kt pt] (.Tuple [a,b] k2 pt2) pos) (gAsg (eTup fl) (gT 2 (gCons' (gN i) (gCons' (gN j) gNil')))):=by
 obtain⟨t,p,q⟩:=h;refine⟨_,zmh hc hN hi hj hij hx hy p hw hs,λHz Jz O Z Y H J o E s e w=>?_⟩;obtain⟨d,e1,e⟩:=bind_some e;obtain⟨Z',e2,e⟩:=bind_some e;cases e;obtain⟨ds,e3,e1⟩:=bind_some (show(fl Z).bind mkT=some d from e1);have hd:d=.tup ds:=by
  unfold mkT at e1;split at e1
  .cases e1;rfl
  .cases e1
 subst hd;have e2:(if ds.length=2 then gCons' (gN i) (gCons' (gN j) gNil') ds Z else none)=some Z':=e2
 by_cases hl:ds.length=2
 .rw[if_pos hl] at e2;match ds,hl with
 |[d1,d2],_=>
    obtain⟨Z1,f1,e2⟩:=bind_some (show(gN i d1 Z).bind (λZ1=>gCons' (gN j) gNil' [d2] Z1)=some Z' from e2);obtain⟨Z2,f2,e2⟩:=bind_some (show(gN j d2 Z1).bind (λZ2=>gNil' [] Z2)=some Z' from e2);have e2:some Z2=some Z':=e2
    cases e2;unfold gN at f1 f2;by_cases hi:i<Z.length/\isPar (Z[i]?)=false
    .rw[if_pos hi] at f1;cases f1;by_cases hj:j<(Z.set i (.val d1)).length/\isPar ((Z.set i (.val d1))[j]?)=false
     .rw[if_pos hj] at f2;cases f2;refine q Hz Jz O Z Y H J _ _ s e3 λvs H' J' u r=>?_
      match vs,r with
     |[v1,v2],.cons r1 (.cons r2 .nil)=>
        exact⟨v1,v2,rfl,w _ H' J' (((s.up u).set r1 hi.1 (zbx hi.2)).set r2 hj.1 (zbx hj.2)) u.keep⟩
     .rw[if_neg hj] at f2;cases f2
    .rw[if_neg hi] at f1;cases f1
 .rw[if_neg hl] at e2;cases e2
end
mutual
def noL:D->Bool
|.non=>true
|.bl _=>true
|.int _=>true
|.str _=>true
|.tup ds=>noLL ds
|_=>false
def noLL:List D->Bool
|[]=>true
|d::ds=>noL d&&noLL ds
end
section
variable {K:W.Frag}{H:Hp}{J J2:Addr->Prop}
end
section
variable {X:Cx}{e:Expr}{es:List Expr}{fl:FA}{p pos:Pos}
end
end VD
namespace VD
open PySem PySem.Spec PyProof PyProof.Rows L2
def noD (d:D):Option D:=if noL d then some d else none
section
variable {X:Cx}{e:Expr}{K:W.Frag}{H H' Hz:Hp}{J J' Jz Jv:Addr->Prop}{Z:En}{Y:L2.St}{O:Pr}
end
section
variable {S:Type}{Z:En}{emb:S->En}
end
section
variable {Z:En}{i:Nat}{fk fm fv:FE}{xs:List D}
end
def zj4 {P:Program}{w:World}{K:W.Frag}{mg:Str->Option Value}{base:Heap}{k:Nat}{f:Addr}{fd:FuncData}{ps:List Str}{x q:Str}{st:Stmt}(_:Fun K x q st f fd):FnOk P w K mg base CX0 k f fd ps (spF K λ_=>none):=by
 refine⟨λvs H Q E h=>?_,λA outer s H args us vs Q E _ _ _ _ h=>?_⟩
 .obtain⟨J,ds,d,_,_,e,_⟩:=h;cases e
 .obtain⟨J,ds,d,_,_,e,_⟩:=h;cases e
end VD
namespace L2
open PySem PySem.Spec PyProof.Rows
section
variable {X:Cx}
def ziI (h:Heap)(L:Addr):List (Addr×Obj):=(List.range h.objs.size).filterMap λa=>if a=L then none else(h.get? a).map λo=>(a,o)
def zg2 {h:Heap}{L b:Addr}{o:Obj}(hb:b≠L)(e:h.get? b=some o):(b,o)∈ziI h L:=
 wbO.mpr ⟨b,wbY.mpr (wad e),by rw[if_neg hb,e];rfl⟩
def zfi {h:Heap}{L:Addr}{p:Addr×Obj}(hp:p∈ziI h L):h.get? p.1=some p.2/\p.1≠L:=by
 obtain⟨a,_,e⟩:=wbO.mp hp;by_cases z:a=L
 .rw[if_pos z] at e;cases e
 .rw[if_neg z] at e;obtain⟨o,eo,e⟩:=waY.mp e;subst e;exact⟨eo,z⟩
def zos (K:W.Frag):R2:=λx y H Q=>∃l b xs zs,x=.ref l/\y=.ref b/\SqL K H l xs/\SqL K H b zs/\xs.length+zs.length<=sizeLine/\∀p,H p=none->Q (.ref p) (upd H p (.lst (xs++zs)))
def zlP:OpR X (binaryOp .Add) (zos X.K):=by
 intro pins s Y H x y v u Q I rx ry h;obtain⟨l,b,xs,zs,rfl,rfl,hH,hB,hz,q⟩:=h;cases rx;cases ry;obtain⟨its,r,⟨o,n,e,ec,_,ed⟩,_⟩:=I.list hH;obtain⟨its2,r2,⟨o2,n2,e2,ec2,_,ed2⟩,_⟩:=I.list hB;obtain⟨m,hn,_⟩:=I.loc;have nL:∀c v,H c=some v->c≠X.env.locals:=λc v hc z=>by rw[z,I.free] at hc;cases hc
 have he:∀(b:Addr),(({s.heap with objs:=#[]}:Heap).get? b)=none:=λb=>waV (waT _)
 refine add_lists (h₀:={s.heap with objs:=#[]}) (L:=X.env.locals) (m:=m) (news:=ziI s.heap X.env.locals) (vs:=its) (ws:=its2) ⟨hn,λb o z=>(by rw[he] at z;cases z),waT _⟩ (λp hp=>⟨(zfi hp).1,(zfi hp).2,he _⟩) ⟨o,e,ec,n,ed⟩ ⟨o2,e2,ec2,n2,ed2⟩ (λh' fr nw=>?_) (by rw[<-r.length,<-r2.length];exact hz);have keep:∀b o,b≠X.env.locals->s.heap.get? b=some o->h'.get? b=some o:=λb o hb eb=>(nw (b,o) (waf _ (zg2 hb eb))).1
 have hnew:=nw _ waj
 have hp0:H s.heap.objs.size=none:=I.fresh
 refine⟨.ref s.heap.objs.size,upd H s.heap.objs.size (.lst (xs++zs)),?_,rfl,q _ I.fresh⟩;refine I.step (ch:=[]) (g':=s.gens) (d':=s.drawn) (t':=s.toks) (λ_ z=>nomatch z) (λb o hb _ _ eb _=>keep b o hb eb) (λb o hb _ _ eb _=>⟨o.slots,keep b o hb eb⟩) (λb o _ eb n=>?_) (λb o _ eb=>?_) (λb xs eb=>by rw[zag (zax eb hp0)];exact eb) (λb o u eb=>by rw[zag (zax eb hp0)];exact eb) (λb ps eb=>⟨#[],by rw[zag (zax eb hp0),eb];simp⟩) (λm' hm'=>?_) (λb u eb=>?_) I.bare
 .rw[zag (wap (wad eb))];exact n
 .by_cases hb:b=X.env.locals
  .obtain⟨o',_,_,e',_⟩:=fr.ns;exact⟨o',by rw[hb];exact e'⟩
  .exact⟨o,keep b o hb eb⟩
 .have:m'=m:=funext (hm'.agree hn)
  rw[this];exact fr.ns
 .by_cases hb:b=s.heap.objs.size
  .subst hb;rw[zai] at eb;cases eb;exact⟨by rw[wal];exact hz,its++its2,0,r.append r2,hnew.1⟩
  .rw[zag hb] at eb;refine(I.hok b u eb).stay (λc v hc ec=>keep c v ?_ ec) (λc hc=>by rw[zag (zax hc hp0)];exact hc) λc z _ hc=>by rw[zag (zax hc hp0)];exact hc
   rcases hc with rfl|hc
   .exact nL _ _ eb
   .exact nL _ _ hc
end
end L2
namespace VD
open PySem PySem.Spec PyProof PyProof.Rows L2 EX
def catS (S:Scr):D->D->Option (List D)
|.scr p,.lst ys=>if p=S.p/\S.ns.length+ys.length<=lim then some (S.ns.map D.int++ys) else none
|_,_=>none
def znH (S:Scr)(f g:FE):FA:=λZ=>(f Z).bind λx=>(g Z).bind λy=>catS S x y
def zeA {X:Cx}{S:Scr}{a b:Expr}{fa fb:FE}{pos:Pos}(hp:Prs X (SqF X.K S))(ha:VE X a fa)(hb:VW X b fb):VN X (.BinOp a .Add b pos) (znH S fa fb):=by
 obtain⟨ta,pa,ga⟩:=ha;obtain⟨tb,pb,gb⟩:=hb;refine⟨λY H Q=>∃Hz Jz O Z J d,ST X.K Hz Jz O Z Y H J/\znH S fa fb Z=some d/\zkq X.K H J d Q,λpins s Y H Q I hyp=>?_,λHz Jz O Z Y H J d Q st e w=>⟨Hz,Jz,O,Z,J,d,st,e,w⟩⟩;obtain⟨Hz,Jz,O,Z,J,d,st,e,w⟩:=hyp;obtain⟨x,ex,e⟩:=bind_some e;obtain⟨y,ey,e⟩:=bind_some e;refine zmj zlP pa pb pins s Y H Q I ?_;cases x with
|scr p=>cases y with
  |lst ys=>
     have e:(if p=S.p/\S.ns.length+ys.length<=lim then some (S.ns.map D.int++ys) else none)=some d:=e
     by_cases hps:p=S.p/\S.ns.length+ys.length<=lim
     .rw[if_pos hps] at e;cases e;obtain⟨rfl,hl⟩:=hps;refine ga Hz Jz O Z Y H J _ _ st ex λv H1 J1 u1 r=>?_
      refine gb Hz Jz O Z Y H1 J1 _ _ (st.up u1) ey λv2 H2 J2 u2 r2=>?_
      cases r;obtain⟨q,us,rfl,h2,l2⟩:=r2.lst;have u:=u1.trans u2
      refine⟨S.p,q,S.ns.map V.int,us,rfl,rfl,(pers_F.sm u.same (hp _ _ _ _ I)).sq,SqL.of h2,?_,λc hc=>?_⟩
      .rw[waG,l2.length];exact zb1 hl
      .have un:=Up.new u.ja hc (.lst (S.ns.map V.int++us))
       exact w c _ _ J2 (u.trans un) (u.same.free hc) (λj=>u.ja c j hc) zai ((rp_ints.append l2).keep un.keep)
     .rw[if_neg hps] at e;cases e
  |_=>cases e
|_=>cases e
section
variable {X:Cx}{k:Nat}{x:Str}{ps:List Str}{sp:Sp}{e:Expr}{es:List Expr}{fl:FE}{p pos:Pos}
def zj5 (C:CalX X.prog X.w X.K X.mg X.base k x ps sp)(h:VQA X (e::es) fl)(hg:Gl X x:=by rfl)(hdb:(x == ("__debug__" : Str))=false:=by decide)
 (he:starEach (e::es) X.env=(false,eval e X.env)::starEach es X.env:=by rfl) (hpl:(backTo pos (starEach es X.env)).any (·.1)=false:=by rfl):VQ X (.Call (.Name x p) (e::es) [] pos) fl:=by
 obtain⟨f,fd,_,_,c,d⟩:=C.ex;obtain⟨t,pa,g⟩:=h;refine⟨λY H _ E=>t Y H E,λpins s Y H Q E I h=>?_,λHz Jz O Z Y H J x Q E s e w=>g Hz Jz O Z Y H J x E s e w⟩;refine waE (zcb I hg d ?_ hdb);exact wbz (h₀:=X.base) I.ok.mod.kin c (war (pa pos pins s Y H E I h) (λ_ _ z=>z.elim) λ_ _ z=>z) he hpl
end
end VD
namespace GB
open PySem PySem.Spec PyProof PyProof.Rows L2 VD GM
def Po {A:Type}(o:Option A)(R:A->Prop):Prop:=∃a,o=some a/\R a
section
variable {A B:Type}{o:Option A}{k:A->Option B}{P:A->Prop}{R:B->Prop}{a:A}
def sx (e:o=some a)(h:Po (k a) R):Po (o.bind k) R:=by rw[e];exact h
def asc {C:Type}{g:B->Option C}{R:C->Prop}(h:Po (o.bind λx=>(k x).bind g) R):Po ((o.bind k).bind g) R:=by
 cases o with
|none=>exact h
|some x=>exact h
theorem Po.bind (h:Po o P)(hk:∀a,P a->Po (k a) R):Po (o.bind k) R:=by
 obtain⟨a,e,p⟩:=h;exact sx e (hk a p)
end
def zlQ {S A:Type}{f:S->D->Option S}{ds:List D}{s0:S}{k:S->Option A}{R:A->Prop}(I:Nat->S->Prop)(h0:I 0 s0)(hs:∀i s d,ds[i]?=some d->I i s->Po (f s d) (I (i+1)))(hk:∀s,I ds.length s->Po (k s) R):Po ((zcj f s0 ds).bind k) R:=by
 have key:∀(ds:List D) (b:Nat) (s:S),(∀i s d,ds[i]?=some d->I (b+i) s->Po (f s d) (I (b+i+1)))->I b s->Po (zcj f s ds) (I (b+ds.length)):=by
  intro ds;induction ds with
 |nil=>intro b s _ h;exact⟨s,rfl,h⟩
 |cons d ds ih=>
    intro b s hf h;obtain⟨s1,e1,h1⟩:=hf 0 s d rfl h;show Po ((f s d).bind λs=>zcj f s ds) _
    refine sx e1 ?_;rw[wbg,show b+(ds.length+1)=b+1+ds.length by omega];exact ih (b+1) s1 (λi s d hd hI=>by
     rw[show b+1+i=b+(i+1) by omega] at hI⊢;exact hf (i+1) s d hd hI) h1
 have:=key ds 0 s0 (λi s d hd hI=>by rw[Nat.zero_add] at hI⊢;exact hs i s d hd hI) h0
 rw[Nat.zero_add] at this;exact this.bind hk
structure Itm where
 dp:Nat
 nm:Str
 ba:Int
 bb:Int
 bc:Int
 bd:Int
 wd:Str
 rk:Int
 hd:Option Str
def Itm.bx (x:Itm):D:=.tup [.int x.ba,.int x.bb,.int x.bc,.int x.bd]
def hdO:Option Str->D
|none=>.non
|some h=>.str h
def part (x:Itm)(_:Nat)(inn:List D):D:=.tup [.str x.nm,x.bx,.str x.wd,.int x.rk,hdO x.hd,.tup inn]
def ot (fr:Str->Bool):Nat->List D->List D
|0,_=>[]
|n+1,ds=>ds.flatMap λd=>match d with
  |.tup [_,_,.str w,_,_,.tup inn]=>if fr w then d::ot fr n inn else[]
  |_=>[]
def ziJ {fr:Str->Bool}{n:Nat}{x:Itm}{dp:Nat}{inn ds:List D}:ot fr (n+1) (part x dp inn::ds)=(if fr x.wd then part x dp inn::ot fr n inn else[])++ot fr (n+1) ds:=by
 show(List.flatMap _ (_::ds))=_
 rw[List.flatMap_cons];rfl
def Ok:Nat->List D->Prop
|0,ds=>ds = []
|n+1,ds=>∀d∈ds,∃x dp inn,d=part x dp inn/\Ok n inn
end GB
namespace Pg
open PySem L2
def top (i:Nat):Stmt:=PySem.Challenge.pw_focuswalk_k75_what_is_no_deed.main.body.getD i (.Pass ⟨0,0,0,0⟩)
abbrev zbs:Stmt:=top 24
abbrev zcT:Stmt:=top 26
abbrev zcy:Stmt:=top 27
abbrev zbZ:Stmt:=top 28
abbrev zbH:Stmt:=top 29
abbrev zdK:Stmt:=top 34
abbrev zaZ:Stmt:=top 36
abbrev zdL:Stmt:=top 37
abbrev zc8:Stmt:=top 38
abbrev zbQ:Stmt:=top 39
abbrev zdM:Stmt:=top 40
abbrev zdN:Stmt:=top 41
abbrev zdO:Stmt:=top 42
abbrev zdP:Stmt:=top 51
abbrev zdQ:Stmt:=top 52
abbrev zdR:Stmt:=top 53
abbrev zc9:Stmt:=top 54
abbrev zfj:Stmt:=top 55
abbrev zbB:Stmt:=top 56
abbrev zcn:Stmt:=top 59
abbrev zco:Stmt:=top 60
abbrev zcp:Stmt:=top 61
abbrev zcH:Stmt:=top 62
abbrev zcI:Stmt:=top 63
abbrev zb0:Stmt:=top 64
abbrev zda:Stmt:=top 65
abbrev zdS:Stmt:=top 66
abbrev zeB:Stmt:=top 67
end Pg
namespace Pg
open PySem PySem.Spec PyProof PyProof.Rows L2 VD EX
section
variable {P:Program}{w:World}{K:W.Frag}{mg:Str->Option Value}{base:Heap}{f g:Addr}{fd gd:FuncData}
def zbd (self:List D->Option D)(p_parts p_outer_place:D):Option D:=
 (Option.bind (some ([]:List D)) λ(x1:List D)=>(Option.bind (Option.bind (zok [p_parts]) (zcj (λ(s2:List D) (d8:D)=>Option.bind (un2 d8) λ(y3:D×D)=>(Option.bind (dAdd p_outer_place (.tup [y3.1])) λ(x4:D)=>(Option.bind (appL s2 (.tup [x4,y3.2])) λ(x5:List D)=>(Option.bind (Option.bind (Option.bind (aC (dIx y3.2 (.int 5)) (aC (some x4) aN)) self) (extL x5)) λ(x6:List D)=>(some x6))))) x1)) λ(s2:List D)=>(Option.bind (some (.lst s2)) λ(r7:D)=>(some r7))))
def zbI (self:List D->Option D):List D->Option D:=c2 (zbd self)
def zaE:Nat->List D->Option D
|0=>λ_=>none
|n+1=>zbI (zaE n)
def sc_placed_within:FnScope ["parts","outer_place","pairs","number","part","place"] ["parts","outer_place"] (zad zbH):=fsc
def zdm (F:Fun K "placed_within" "placed_within" zbH f fd)(B:Blt mg){n:Nat}{self:List D->Option D}(C_placed_within:Cal P w K mg base n "placed_within" ["parts","outer_place"] (spF K self))(G_PARTS:GlobD K mg "PARTS" (.int 5)):FnOk P w K mg base CX0 (n+1) f fd ["parts","outer_place"] (spF K (zbI self)):=
 zb4 F sc_placed_within c2_len λcdv A outer s H E hr=>by
  have nd:=sc_placed_within.nd
  refine⟨_,(zae (vsO 2 nd (zaB zac)) (zae (zdi (zli B (zaa (vv 0) zac)) (zh4 rfl (zbk (vgN 3 nd) (zbk (vgN 4 nd) zfL))) (zae (vsS 5 nd (zaw opAdd zcP (vr 1) (VE.w (zam (zaa (vv 3) zac))))) (zae (zmP 2 (zam (zaa (vv 5) (zaa (vv 4) zac)))) (zae (zmR 2 (zau (hk:=wai _) C_placed_within hr (zaa (zaD (vr 4) (VE.w (zbW G_PARTS))) (zaa (vv 5) zac)))) (zbO [3,4,5] zak))))) (zlp 2 (zah (zao (vv 2)))))),zck ?_⟩;intro p_parts p_outer_place;unfold zbd;exact(zar (zmW rfl) λx1=>(zar (zlt (emb:=(λ(s2:List D)=>[.val p_parts,.val p_outer_place,.own 1 (.lst s2),.un,.un,.un])) rfl (λ_=>rfl) (λ_ _=>rfl) λs2 y3=>(zar (zay rfl) λx4=>(zar (zmX rfl) λx5=>(zar (zmY rfl) λx6=>(zbX [3,4,5] (zbw λ_ h=>h)))))) λs2=>(zmV 2 (zal λ_ _ h=>h))))
def zbm (p_sheet:D):Option D:=
 (Option.bind ((zaE 8) [p_sheet,(.tup [])]) λ(r1:D)=>(some r1))
def zbn:List D->Option D:=c1 zbm
def zdT:FnScope ["sheet"] ["sheet"] (zad zbZ):=fsc
def zdU (F:Fun K "placed_parts" "placed_parts" zbZ f fd)(B:Blt mg)(C_placed_within:Cal P w K mg base 8 "placed_within" ["parts","outer_place"] (spF K (zaE 8))):FnOk P w K mg base CX0 (8+1) f fd ["sheet"] (spF K zbn):=
 zb4 F zdT c1_len λcdv A outer s H E hr=>by
  refine⟨_,(zah (zao (zau C_placed_within hr (zaa (vv 0) (zaa (zam zac) zac))))),zdk ?_⟩;intro p_sheet;unfold zbm;exact(zal λ_ _ h=>h)
def zcz (p_sheet:D):Option D:=
 (Option.bind (Option.bind (Option.bind (Option.bind (zbn [p_sheet]) dSeq) (zjD (zcv [.un,.un] (gT 2 (gCons' (gN 0) (gCons' (gN 1) gNil'))) tTrue (eVar 1)))) λds=>some (.lst ds)) λ(r1:D)=>(some r1))
def zbC:List D->Option D:=c1 zcz
def zfU:FnScope ["sheet"] ["sheet"] (zad zcy):=fsc
def zfV (F:Fun K "parts_of" "parts_of" zcy f fd)(B:Blt mg)(C_placed_parts:Cal P w K mg base 9 "placed_parts" ["sheet"] (spF K zbn)):FnOk P w K mg base CX0 (9+1) f fd ["sheet"] (spF K zbC):=
 zb4 F zfU c1_len λcdv A outer s H E hr=>by
  refine⟨_,(zah (zao (VN.ve (vnC ["sheet"] zcy (NC:=["place","part"]) [none,none] (zcE (zau C_placed_parts hr (zaa (vv 0) zac))) ((zh4 (n:=2) rfl (zbk (vgc 0) (zbk (vgc 1) zfL)))) (zlm) ((vv 1)))))),zdk ?_⟩;intro p_sheet;unfold zcz;exact(zal λ_ _ h=>h)
def zfk (p_sheet p_name:D):Option D:=
 (Option.bind (Option.bind (zbC [p_sheet]) dSeq) λds6=>Option.bind ((zc5 (λ(s1:Unit) (d2:D)=>(Option.bind (Option.bind (Option.bind (dIx d2 (.int 0)) λv4=>((dEqG false) v4 p_name)) dB) λk3=>if k3 then(Option.bind (some d2) λ(r5:D)=>(some (Fl.ret r5:Fl (Unit) (D)))) else(some (Fl.nx ():Fl (Unit) (D))))) ()) ds6) (flK λ(s1:Unit)=>none))
def zb8:List D->Option D:=c2 zfk
def sc_part_of:FnScope ["sheet","name","part"] ["sheet","name"] (zad zcT):=fsc
def zg3 (F:Fun K "part_of" "part_of" zcT f fd)(B:Blt mg)(C_parts_of:Cal P w K mg base 10 "parts_of" ["sheet"] (spF K zbC))(G_NAME:GlobD K mg "NAME" (.int 0)):FnOk P w K mg base CX0 (10+1) f fd ["sheet","name"] (spF K zb8):=
 zb4 F sc_part_of c2_len λcdv A outer s H E hr=>by
  have nd:=sc_part_of.nd
  refine⟨_,(zae (zdi (zcE (zau C_parts_of hr (zaa (vv 0) zac))) (vgN 2 nd) (zae (za5 (zaA (zby hr) (zaH false) (VE.w (zaD (vr 2) (VE.w (zbW G_NAME)))) (vr 1) (zat _)) (zah (zao (vv 2))) zak) (zbO [2] zak))) (zah zet)),zck ?_⟩;intro p_sheet p_name;unfold zfk;exact(zc6 (emb:=(λ(s1:Unit)=>[.val p_sheet,.val p_name,.un])) rfl (λ_=>rfl) (λs1 d2=>(zav (zal λ_ _ h=>h) (zaM (zbX [2] (zbw λ_ h=>h))))) λs1=>(zc4 rfl))
def zcU (p_sheet p_name:D):Option D:=
 (Option.bind (Option.bind (Option.bind (zbC [p_sheet]) dSeq) (zcj (λ(s1:Unit) (d2:D)=>(Option.bind (Option.bind (Option.bind (dIx d2 (.int 0)) λv4=>((dEqG false) v4 p_name)) dB) λk3=>if k3 then none else some ())) ())) λ(s1:Unit)=>(Option.bind (rz "NoPart" "name" zex p_name) λ(r5:D)=>(some r5)))
def za0:List D->Option D:=VD.c2 zcU
def zfl (F:Fun K "part_of" "part_of" zcT f fd)(B:Blt mg)(C_parts_of:Cal P w K mg base 10 "parts_of" ["sheet"] (spF K zbC))(G_NAME:GlobD K mg "NAME" (.int 0))(X_NoPart:XCl P w K mg "NoPart" "name" zex):FnOk P w K mg base (CXE P w) (10+1) f fd ["sheet","name"] (spX K za0):=
 ziA F sc_part_of VD.c2_len λcdv A outer s H E hr L=>by
  have nd:=sc_part_of.nd
  refine⟨_,(zbl (znn (zcE (zau C_parts_of hr (zaa (vv 0) zac))) (vgN 2 nd) (zbl (zd3 (zaA (zby hr) (zaH false) (VE.w (zaD (vr 2) (VE.w (zbW G_NAME)))) (vr 1) (zat _)) (zbG zcR) zbF) (zjT [2] zbF))) (zbG (zjU X_NoPart hr L (vv 1)))),zck ?_⟩;intro p_sheet p_name;unfold zcU;exact(zar (zh9 (emb:=(λ(s1:Unit)=>[.val p_sheet,.val p_name,.un])) rfl (λ_=>rfl) λs1 d2=>(zav (zc4 rfl) (zaM (zbX [2] (zbw λ_ h=>h))))) λs1=>(zal λ_ _ h=>h))
def zcV (p_thing:D):Option D:=
 (Option.bind (Option.bind (Option.bind (Option.bind ((isD "str") p_thing) dTru) λk6=>some (!k6)) λk5=>if k5 then some true else(Option.bind (Option.bind (Option.bind (bLen [p_thing]) λv4=>(Option.bind (dLe (.int 1) v4) λzk3=>Option.bind (dB zk3) λk3=>if k3 then(dLe v4 (.int 8)) else some (.bl false))) dB) λk2=>some (!k2))) λk1=>if k1 then(Option.bind (some (.bl false)) λ(r7:D)=>(some r7)) else(Option.bind (Option.bind (znz p_thing) λds=>Option.bind (zez (λd8=>Option.bind ((dInS false) d8 (.str "abcdefghijklmnopqrstuvwxyz")) dB) ds) λbs=>some (D.bl (bs.all id))) λ(r9:D)=>(some r9)))
def zbt:List D->Option D:=c1 zcV
def zg4:FnScope ["thing"] ["thing"] (zad zbs):=fsc
def zg5 (F:Fun K "is_name" "is_name" zbs f fd)(B:Blt mg){Pc:Hp->Prop}(pe:Pers Pc){tP:Addr}(T:TabF K mg base fd tP)(hT:∀H,Pc H->TabH tP "is_name.<locals>.<genexpr>" H)(K_str:Kit K "str")(G_LONGEST_NAME:GlobD K mg "LONGEST_NAME" (.int 8))(G_LETTERS:GlobD K mg "LETTERS" (.str "abcdefghijklmnopqrstuvwxyz")):FnOk P w K mg base CX0 (1+1) f fd ["thing"] (pcS Pc (spF K zbt)):=
 zbv pe F zg4 c1_len λcdv A outer s H E hcv hr hPc hp=>by
  have TX:TabX (cxOf CX0 P w K mg base ["thing"] "is_name" (zad zbs) f cdv A outer s H E).nox "is_name.<locals>.<genexpr>":=zfO T hcv (hT _ hPc)
  refine⟨_,(zae (za5 (VP.t (zdZ (zaR (zaQ (VE.w (zcc K_str B boot_str (vr 0))))) (zcO (zaR (zer zgK zgQ zgK zgQ (VE.w zab) (VE.w (ve_b zaS zbN B boot_len (zaO (vr 0) za8))) (VE.w (zbW G_LONGEST_NAME))))))) (zah (zao zbi)) zak) (zah (zao (znF ["thing"] zbs (NC:=["sign"]) [none] hr B TX (znA (vv 0)) (vgg 0) (hq:=by show((("is_name" : Str)++".<locals>." : Str))++"<genexpr>"=_;decide +kernel) (zbM znB (znC false) (vr 0) (VE.w (zbW G_LETTERS)) rfl))))),zdk ?_⟩;intro p_thing;unfold zcV;exact(zav (zal λ_ _ h=>h) (zaM (zal λ_ _ h=>h)))
def zee (p_thing:D):Option D:=
 (Option.bind (Option.bind (Option.bind ((isD "int") p_thing) dB) λk2=>if k2 then(Option.bind (Option.bind ((isD "bool") p_thing) dB) λk1=>some (.bl (!k1))) else some (.bl false)) λ(r3:D)=>(some r3))
def zbj:List D->Option D:=c1 zee
def zfW:FnScope ["thing"] ["thing"] (zad zc8):=fsc
def zfX (F:Fun K "is_whole" "is_whole" zc8 f fd)(B:Blt mg)(K_bool:Kit K "bool")(K_int:Kit K "int"):FnOk P w K mg base CX0 (0+1) f fd ["thing"] (spF K zbj):=
 zb4 F zfW c1_len λcdv A outer s H E hr=>by
  refine⟨_,(zah (zao (zci (zcc K_int B boot_int (vr 0)) (zb2 (zks (zcc K_bool B boot_bool (vr 0))))))),zdk ?_⟩;intro p_thing;unfold zee;exact(zal λ_ _ h=>h)
def zcA (p_thing:D):Option D:=
 (Option.bind (Option.bind (Option.bind (Option.bind ((isD "tuple") p_thing) dTru) λk4=>some (!k4)) λk3=>if k3 then some true else(Option.bind (Option.bind (bLen [p_thing]) λv2=>((dEqG true) v2 (.int 4))) dB)) λk1=>if k1 then(Option.bind (some (.bl false)) λ(r5:D)=>(some r5)) else(Option.bind (Option.bind (Option.bind (Option.bind (dSeq p_thing) λds=>Option.bind (zez (λd8=>Option.bind (zbj [d8]) dB) ds) λbs=>some (D.bl (bs.all id))) dTru) λk7=>some (!k7)) λk6=>if k6 then(Option.bind (some (.bl false)) λ(r9:D)=>(some r9)) else(Option.bind (Option.bind (Option.bind (Option.bind (dIx p_thing (.int 2)) λv12=>(dGe v12 (.int 1))) dB) λk11=>if k11 then(Option.bind (dIx p_thing (.int 3)) λv10=>(dGe v10 (.int 1))) else some (.bl false)) λ(r13:D)=>(some r13))))
def zbe:List D->Option D:=c1 zcA
def ziK:FnScope ["thing"] ["thing"] (zad zbQ):=fsc
def ziL (F:Fun K "is_box" "is_box" zbQ f fd)(B:Blt mg){Pc:Hp->Prop}(pe:Pers Pc){tP:Addr}(T:TabF K mg base fd tP)(hT:∀H,Pc H->TabH tP "is_box.<locals>.<genexpr>" H)(C_is_whole:Cal P w K mg base 1 "is_whole" ["thing"] (spF K zbj))(K_tuple:Kit K "tuple"):FnOk P w K mg base CX0 (2+1) f fd ["thing"] (pcS Pc (spF K zbe)):=
 zbv pe F ziK c1_len λcdv A outer s H E hcv hr hPc hp=>by
  have TX:TabX (cxOf CX0 P w K mg base ["thing"] "is_box" (zad zbQ) f cdv A outer s H E).nox "is_box.<locals>.<genexpr>":=zfO T hcv (hT _ hPc)
  refine⟨_,(zae (za5 (VP.t (zdZ (zaR (zaQ (VE.w (zcc K_tuple B boot_tuple (vr 0))))) (zcO (zaA (zic hr) (zaH true) (VE.w (ve_b zaS zbN B boot_len (zaO (vr 0) za8))) (VE.w zab) (zat _))))) (zah (zao zbi)) zak) (zae (za5 (zaR (zaQ (VE.w (znF ["thing"] zbQ (NC:=["number"]) [none] hr B TX (zcE (vv 0)) (vgg 0) (hq:=by show((("is_box" : Str)++".<locals>." : Str))++"<genexpr>"=_;decide +kernel) (zau C_is_whole (zgx hr) (zaa (vv 0) zac)))))) (zah (zao zbi)) zak) (zah (zao (zci (zbM zkN zle (VE.w (zaD (vr 0) (VE.w zab))) (VE.w zab) (zat _)) (zb2 (zbM zkN zle (VE.w (zaD (vr 0) (VE.w zab))) (VE.w zab) (zat _)))))))),zdk ?_⟩;intro p_thing;unfold zcA;exact(zav (zal λ_ _ h=>h) (zaM (zav (zal λ_ _ h=>h) (zaM (zal λ_ _ h=>h)))))
def zfm (p_thing:D):Option D:=
 (Option.bind (Option.bind (Option.bind ((isD "str") p_thing) dB) λk1=>if k1 then((dInG false) p_thing (.tup [(.str "free"),(.str "shut"),(.str "hidden")])) else some (.bl false)) λ(r2:D)=>(some r2))
def zbf:List D->Option D:=c1 zfm
def zg6:FnScope ["thing"] ["thing"] (zad zdM):=fsc
def zg7 (F:Fun K "is_word" "is_word" zdM f fd)(B:Blt mg)(K_str:Kit K "str")(G_WORDS:GlobD K mg "WORDS" (.tup [(.str "free"),(.str "shut"),(.str "hidden")])):FnOk P w K mg base CX0 (0+1) f fd ["thing"] (spF K zbf):=
 zb4 F zg6 c1_len λcdv A outer s H E hr=>by
  refine⟨_,(zah (zao (zci (zcc K_str B boot_str (vr 0)) (zb2 (zbM (zon hr) (zm8 false) (vr 0) (VE.w (zbW G_WORDS)) rfl))))),zdk ?_⟩;intro p_thing;unfold zfm;exact(zal λ_ _ h=>h)
def zfn (p_thing:D):Option D:=
 (Option.bind (Option.bind (Option.bind (zbj [p_thing]) dB) λk1=>if k1 then(dGe p_thing (.int 0)) else some (.bl false)) λ(r2:D)=>(some r2))
def za1:List D->Option D:=c1 zfn
def zg8:FnScope ["thing"] ["thing"] (zad zdN):=fsc
def zg9 (F:Fun K "is_rank" "is_rank" zdN f fd)(B:Blt mg)(C_is_whole:Cal P w K mg base 1 "is_whole" ["thing"] (spF K zbj)):FnOk P w K mg base CX0 (1+1) f fd ["thing"] (spF K za1):=
 zb4 F zg8 c1_len λcdv A outer s H E hr=>by
  refine⟨_,(zah (zao (zci (zau C_is_whole hr (zaa (vv 0) zac)) (zb2 (zbM zkN zle (vr 0) (VE.w zab) (zat _)))))),zdk ?_⟩;intro p_thing;unfold zfn;exact(zal λ_ _ h=>h)
def zfo (p_thing:D):Option D:=
 (Option.bind (Option.bind (Option.bind ((dIs false) p_thing D.non) dB) λk1=>if k1 then some (.bl true) else(zbt [p_thing])) λ(r2:D)=>(some r2))
def zbJ:List D->Option D:=c1 zfo
def zha:FnScope ["thing"] ["thing"] (zad zdO):=fsc
def zhb (F:Fun K "is_head" "is_head" zdO f fd)(B:Blt mg){Pc:Hp->Prop}(pe:Pers Pc)(C_is_name:Cal P w K mg base 2 "is_name" ["thing"] (pcS Pc (spF K zbt))):FnOk P w K mg base CX0 (2+1) f fd ["thing"] (pcS Pc (spF K zbJ)):=
 zbv pe F zha c1_len λcdv A outer s H E hcv hr hPc hp=>by
  refine⟨_,(zah (zao (zlc (zbM zd7 zgR (vr 0) (VE.w zaG) (zat _)) (zb2 (zaq C_is_name hp hr (zaa (vv 0) zac)))))),zdk ?_⟩;intro p_thing;unfold zfo;exact(zal λ_ _ h=>h)
def zcW (self:List D->Option D)(p_thing p_deep:D):Option D:=
 (Option.bind (Option.bind (Option.bind (Option.bind ((isD "tuple") p_thing) dTru) λk4=>some (!k4)) λk3=>if k3 then some true else(Option.bind (Option.bind (bLen [p_thing]) λv2=>((dEqG true) v2 (.int 6))) dB)) λk1=>if k1 then(Option.bind (some (.bl false)) λ(r5:D)=>(some r5)) else(Option.bind (un6 p_thing) λ(y6:D×D×D×D×D×D)=>(Option.bind (Option.bind (Option.bind (Option.bind (zbt [y6.1]) dTru) λk12=>some (!k12)) λk11=>if k11 then some true else(Option.bind (Option.bind (Option.bind (zbe [y6.2.1]) dTru) λk10=>some (!k10)) λk9=>if k9 then some true else(Option.bind (Option.bind (zbf [y6.2.2.1]) dTru) λk8=>some (!k8)))) λk7=>if k7 then(Option.bind (some (.bl false)) λ(r13:D)=>(some r13)) else(Option.bind (Option.bind (Option.bind (za1 [y6.2.2.2.1]) dB) λk15=>if k15 then(Option.bind (Option.bind (zbJ [y6.2.2.2.2.1]) dB) λk14=>if k14 then(Option.bind (aC (some y6.2.2.2.2.2) (aC (dAdd p_deep (.int 1)) aN)) self) else some (.bl false)) else some (.bl false)) λ(r16:D)=>(some r16)))))
def zaJ (self:List D->Option D):List D->Option D:=c2 (zcW self)
def sc_is_part:FnScope ["thing","deep","name","box","word","rank","head","parts"] ["thing","deep"] (zad zdL):=fsc
def zhc (F:Fun K "is_part" "is_part" zdL f fd)(B:Blt mg){Pc:Hp->Prop}(pe:Pers Pc)(C_is_word:Cal P w K mg base 1 "is_word" ["thing"] (spF K zbf))(C_is_box:Cal P w K mg base 3 "is_box" ["thing"] (pcS Pc (spF K zbe)))(C_is_name:Cal P w K mg base 2 "is_name" ["thing"] (pcS Pc (spF K zbt))){n:Nat}{self:List D->Option D}(C_are_parts:Cal P w K mg base n "are_parts" ["thing","deep"] (pcS Pc (spF K self)))(C_is_head:Cal P w K mg base 3 "is_head" ["thing"] (pcS Pc (spF K zbJ)))(C_is_rank:Cal P w K mg base 2 "is_rank" ["thing"] (spF K za1))(K_tuple:Kit K "tuple"):FnOk P w K mg base CX0 (n+4+1) f fd ["thing","deep"] (pcS Pc (spF K (zaJ self))):=
 zbv pe F sc_is_part c2_len λcdv A outer s H E hcv hr hPc hp=>by
  have nd:=sc_is_part.nd
  refine⟨_,(zae (za5 (VP.t (zdZ (zaR (zaQ (VE.w (zcc K_tuple B boot_tuple (vr 0))))) (zcO (zaA (zic hr) (zaH true) (VE.w (ve_b zaS zbN B boot_len (zaO (vr 0) za8))) (VE.w zab) (zat _))))) (zah (zao zbi)) zak) (zae (zmN (vv 0) (zh4 rfl (zbk (vgN 2 nd) (zbk (vgN 3 nd) (zbk (vgN 4 nd) (zbk (vgN 5 nd) (zbk (vgN 6 nd) (zbk (vgN 7 nd) zfL)))))))) (zae (za5 (VP.t (zdZ (zaR (zaQ (VE.w (zaq (hk:=by omega) C_is_name hp hr (zaa (vv 2) zac))))) (zdZ (zaR (zaQ (VE.w (zaq (hk:=by omega) C_is_box hp hr (zaa (vv 3) zac))))) (zcO (zaR (zaQ (VE.w (zau (hk:=by omega) C_is_word hr (zaa (vv 4) zac))))))))) (zah (zao zbi)) zak) (zah (zao (zci (zau (hk:=by omega) C_is_rank hr (zaa (vv 5) zac)) (zci (zaq (hk:=by omega) C_is_head hp hr (zaa (vv 6) zac)) (zb2 (zaq (hk:=by omega) C_are_parts hp hr (zaa (vv 7) (zaa (zaw opAdd zcP (vr 1) (VE.w zab)) zac))))))))))),zck ?_⟩;intro p_thing p_deep;unfold zcW;exact(zav (zal λ_ _ h=>h) (zaM (zar (ze2 λ_=>tg_6 rfl (λ_=>rfl) (λ_ _=>rfl) (λ_ _ _=>rfl) (λ_ _ _ _=>rfl) (λ_ _ _ _ _=>rfl)) λy6=>(zav (zal λ_ _ h=>h) (zaM (zal λ_ _ h=>h))))))
def zcd (self:List D->Option D)(p_thing p_deep:D):Option D:=
 (Option.bind (Option.bind (Option.bind ((isD "tuple") p_thing) dTru) λk2=>some (!k2)) λk1=>if k1 then(Option.bind (some (.bl false)) λ(r3:D)=>(some r3)) else(Option.bind (Option.bind (dTru p_thing) λk5=>if k5 then(Option.bind (dGt p_deep (.int 5)) dB) else some false) λk4=>if k4 then(Option.bind (some (.bl false)) λ(r6:D)=>(some r6)) else(Option.bind (Option.bind (dSeq p_thing) λds=>Option.bind (zez (λd7=>Option.bind ((zaJ self) [d7,p_deep]) dB) ds) λbs=>some (D.bl (bs.all id))) λ(r8:D)=>(some r8))))
def zcJ (self:List D->Option D):List D->Option D:=c2 (zcd self)
def zan:Nat->List D->Option D
|0=>λ_=>none
|n+1=>zcJ (zan n)
def zfp:FnScope ["thing","deep"] ["thing","deep"] (zad zaZ):=fsc
def zfq (F:Fun K "are_parts" "are_parts" zaZ f fd)(B:Blt mg){Pc:Hp->Prop}(pe:Pers Pc){tP:Addr}(T:TabF K mg base fd tP)(hT:∀H,Pc H->TabH tP "are_parts.<locals>.<genexpr>" H){n:Nat}{self:List D->Option D}(C_is_part:Cal P w K mg base (n+5) "is_part" ["thing","deep"] (pcS Pc (spF K (zaJ self))))(K_tuple:Kit K "tuple")(G_DEEPEST:GlobD K mg "DEEPEST" (.int 5)):FnOk P w K mg base CX0 (n+6+1) f fd ["thing","deep"] (pcS Pc (spF K (zcJ self))):=
 zbv pe F zfp c2_len λcdv A outer s H E hcv hr hPc hp=>by
  have TX:TabX (cxOf CX0 P w K mg base ["thing","deep"] "are_parts" (zad zaZ) f cdv A outer s H E).nox "are_parts.<locals>.<genexpr>":=zfO T hcv (hT _ hPc)
  refine⟨_,(zae (za5 (zaR (zaQ (VE.w (zcc K_tuple B boot_tuple (vr 0))))) (zah (zao zbi)) zak) (zae (za5 (VP.t (zgi (zaQ (vr 0)) (zfJ (zaA zhC zhY (vr 1) (VE.w (zbW G_DEEPEST)) (zat _))))) (zah (zao zbi)) zak) (zah (zao (znG ["thing","deep"] zaZ (NC:=["part","deep"]) [none,some 1] hp hr B TX (zcE (vv 0)) (vgg 0) (hq:=by show((("are_parts" : Str)++".<locals>." : Str))++"<genexpr>"=_;decide +kernel) (λrH=>(zaq (hk:=by omega) C_is_part (Prs.of pe rH) (zgx hr) (zaa (vv 0) (zaa (vv 1) zac))))))))),zck ?_⟩;intro p_thing p_deep;unfold zcd;exact(zav (zal λ_ _ h=>h) (zaM (zav (zal λ_ _ h=>h) (zaM (zal λ_ _ h=>h)))))
def zhd:FnScope ["thing","names","ring"] ["thing"] (zad zdK):=fsc
def zbg (p_thing:D):Option D:=
 (Option.bind (Option.bind (Option.bind ((zan 7) [p_thing,(.int 1)]) dTru) λk2=>some (!k2)) λk1=>if k1 then(Option.bind (some (D.exc "NoSheet" [] [])) λ(r:D)=>some r) else none)
def za6:List D->Option D:=VD.c1 zbg
def zfr (F:Fun K "checked" "checked" zdK f fd)(B:Blt mg){Pc:Hp->Prop}(pe:Pers Pc)(C_are_parts:Cal P w K mg base 49 "are_parts" ["thing","deep"] (pcS Pc (spF K (zan 7))))(X_NoSheet:XCl0 K mg "NoSheet"):FnOk P w K mg base (CXE P w) (49+1) f fd ["thing"] (pcS Pc (spX K za6)):=
 (zdH pe F zhd VD.c1_len λcdv A outer s H E hr L hp=>by
  refine⟨_,(zdD (zd3 (zaR (zaQ (VE.w (zaq C_are_parts hp hr (zaa (vv 0) (zaa zab zac)))))) (zbG (zdI (k:=48) X_NoSheet hr L zaf)) zbF)),zdk ?_⟩;intro p_thing;unfold zbg;exact(zav (zal λ_ _ h=>h) (zaM (zc4 rfl))))
def zef (p_kind p_thing:D):Option D:=
 (Option.bind (Option.bind ((dEqG false) p_kind (.str "word")) dB) λk1=>if k1 then(Option.bind (zbf [p_thing]) λ(r2:D)=>(some r2)) else(Option.bind (Option.bind ((dEqG false) p_kind (.str "box")) dB) λk3=>if k3 then(Option.bind (zbe [p_thing]) λ(r4:D)=>(some r4)) else(Option.bind (Option.bind ((dEqG false) p_kind (.str "rank")) dB) λk5=>if k5 then(Option.bind (za1 [p_thing]) λ(r6:D)=>(some r6)) else(Option.bind (Option.bind (Option.bind ((dEqG false) p_kind (.str "head")) dB) λk7=>if k7 then(zbJ [p_thing]) else some (.bl false)) λ(r8:D)=>(some r8)))))
def zb9:List D->Option D:=c2 zef
def zfY:FnScope ["kind","thing"] ["kind","thing"] (zad zc9):=fsc
def zfZ (F:Fun K "is_given" "is_given" zc9 f fd)(B:Blt mg){Pc:Hp->Prop}(pe:Pers Pc)(C_is_word:Cal P w K mg base 1 "is_word" ["thing"] (spF K zbf))(C_is_box:Cal P w K mg base 3 "is_box" ["thing"] (pcS Pc (spF K zbe)))(C_is_rank:Cal P w K mg base 2 "is_rank" ["thing"] (spF K za1))(C_is_head:Cal P w K mg base 3 "is_head" ["thing"] (pcS Pc (spF K zbJ))):FnOk P w K mg base CX0 (3+1) f fd ["kind","thing"] (pcS Pc (spF K zb9)):=
 zbv pe F zfY c2_len λcdv A outer s H E hcv hr hPc hp=>by
  refine⟨_,(zae (za5 (zaA (zby hr) (zaH false) (vr 0) (VE.w zaf) (zat _)) (zah (zao (zau C_is_word hr (zaa (vv 1) zac)))) zak) (zae (za5 (zaA (zby hr) (zaH false) (vr 0) (VE.w zaf) (zat _)) (zah (zao (zaq C_is_box hp hr (zaa (vv 1) zac)))) zak) (zae (za5 (zaA (zby hr) (zaH false) (vr 0) (VE.w zaf) (zat _)) (zah (zao (zau C_is_rank hr (zaa (vv 1) zac)))) zak) (zah (zao (zci (zbM (zby hr) (zaH false) (vr 0) (VE.w zaf) (zat _)) (zb2 (zaq C_is_head hp hr (zaa (vv 1) zac))))))))),zck ?_⟩;intro p_kind p_thing;unfold zef;exact(zav (zal λ_ _ h=>h) (zaM (zav (zal λ_ _ h=>h) (zaM (zav (zal λ_ _ h=>h) (zaM (zal λ_ _ h=>h)))))))
def zcX (p_kind p_rest:D):Option D:=
 (Option.bind (Option.bind ((dEqG false) p_kind (.str "take")) dB) λk1=>if k1 then(Option.bind (Option.bind (bLen [p_rest]) λv2=>((dEqG false) v2 (.int 0))) λ(r3:D)=>(some r3)) else(Option.bind (Option.bind ((dEqG false) p_kind (.str "put")) dB) λk4=>if k4 then(Option.bind (Option.bind (Option.bind (Option.bind (bLen [p_rest]) λv6=>((dEqG false) v6 (.int 2))) dB) λk5=>if k5 then(Option.bind (aC (dIx p_rest (.int 0)) aN) zbj) else some (.bl false)) λ(r7:D)=>(some r7)) else(Option.bind (Option.bind (Option.bind (Option.bind (bLen [p_rest]) λv9=>((dEqG false) v9 (.int 1))) dB) λk8=>if k8 then(Option.bind (aC (some p_kind) (aC (dIx p_rest (.int 0)) aN)) zb9) else some (.bl false)) λ(r10:D)=>(some r10))))
def zca:List D->Option D:=c2 zcX
def zhe:FnScope ["kind","rest"] ["kind","rest"] (zad zdR):=fsc
def zhf (F:Fun K "is_rest" "is_rest" zdR f fd)(B:Blt mg){Pc:Hp->Prop}(pe:Pers Pc)(C_is_whole:Cal P w K mg base 1 "is_whole" ["thing"] (spF K zbj))(C_is_given:Cal P w K mg base 4 "is_given" ["kind","thing"] (pcS Pc (spF K zb9))):FnOk P w K mg base CX0 (4+1) f fd ["kind","rest"] (pcS Pc (spF K zca)):=
 zbv pe F zhe c2_len λcdv A outer s H E hcv hr hPc hp=>by
  refine⟨_,(zae (za5 (zaA (zby hr) (zaH false) (vr 0) (VE.w zaf) (zat _)) (zah (zao (zbM (zby hr) (zaH false) (VE.w (ve_b zaS zbN B boot_len (zaO (vr 1) za8))) (VE.w zab) (zat _)))) zak) (zae (za5 (zaA (zby hr) (zaH false) (vr 0) (VE.w zaf) (zat _)) (zah (zao (zci (zbM (zby hr) (zaH false) (VE.w (ve_b zaS zbN B boot_len (zaO (vr 1) za8))) (VE.w zab) (zat _)) (zb2 (zau C_is_whole hr (zaa (zaD (vr 1) (VE.w zab)) zac)))))) zak) (zah (zao (zci (zbM (zby hr) (zaH false) (VE.w (ve_b zaS zbN B boot_len (zaO (vr 1) za8))) (VE.w zab) (zat _)) (zb2 (zaq C_is_given hp hr (zaa (vv 0) (zaa (zaD (vr 1) (VE.w zab)) zac))))))))),zck ?_⟩;intro p_kind p_rest;unfold zcX;exact(zav (zal λ_ _ h=>h) (zaM (zav (zal λ_ _ h=>h) (zaM (zal λ_ _ h=>h)))))
def zcY (p_thing:D):Option D:=
 (Option.bind (Option.bind (Option.bind (Option.bind ((isD "tuple") p_thing) dTru) λk4=>some (!k4)) λk3=>if k3 then some true else(Option.bind (Option.bind (bLen [p_thing]) λv2=>(dLt v2 (.int 2))) dB)) λk1=>if k1 then(Option.bind (some (.bl false)) λ(r5:D)=>(some r5)) else(Option.bind (Option.bind (Option.bind (aC (dIx p_thing (.int 0)) (aC (dIx p_thing (.int 1)) aN)) mkT) un2) λ(y6:D×D)=>(Option.bind (Option.bind (Option.bind ((dEqG false) y6.1 (.str "put")) dB) λk8=>if k8 then(Option.bind ((dIs false) y6.2 D.non) dB) else some false) λk7=>if k7 then(Option.bind (Option.bind (aC (some y6.1) (aC (dSl p_thing (some 2) none) aN)) zca) λ(r9:D)=>(some r9)) else(Option.bind (Option.bind (Option.bind ((isD "str") y6.2) dB) λk10=>if k10 then(Option.bind (aC (some y6.1) (aC (dSl p_thing (some 2) none) aN)) zca) else some (.bl false)) λ(r11:D)=>(some r11)))))
def za7:List D->Option D:=c1 zcY
def sc_is_deed:FnScope ["thing","kind","name"] ["thing"] (zad zdQ):=fsc
def zhg (F:Fun K "is_deed" "is_deed" zdQ f fd)(B:Blt mg){Pc:Hp->Prop}(pe:Pers Pc)(C_is_rest:Cal P w K mg base 5 "is_rest" ["kind","rest"] (pcS Pc (spF K zca)))(K_tuple:Kit K "tuple")(K_str:Kit K "str"):FnOk P w K mg base CX0 (5+1) f fd ["thing"] (pcS Pc (spF K za7)):=
 zbv pe F sc_is_deed c1_len λcdv A outer s H E hcv hr hPc hp=>by
  have nd:=sc_is_deed.nd
  refine⟨_,(zae (za5 (VP.t (zdZ (zaR (zaQ (VE.w (zcc K_tuple B boot_tuple (vr 0))))) (zcO (zaA zn4 zof (VE.w (ve_b zaS zbN B boot_len (zaO (vr 0) za8))) (VE.w zab) (zat _))))) (zah (zao zbi)) zak) (zae (zgy 1 2 nd (zaa (zaD (vr 0) (VE.w zab)) (zaa (zaD (vr 0) (VE.w zab)) zac))) (zae (za5 (VP.t (zgi (zaA (zby hr) (zaH false) (vr 1) (VE.w zaf) (zat _)) (zfJ (zaA zd7 zgR (vr 2) (VE.w zaG) (zat _))))) (zah (zao (zaq C_is_rest hp hr (zaa (vv 1) (zaa (zbc (vr 0) (zaV zab) zaU) zac))))) zak) (zah (zao (zci (zcc K_str B boot_str (vr 2)) (zb2 (zaq C_is_rest hp hr (zaa (vv 1) (zaa (zbc (vr 0) (zaV zab) zaU) zac)))))))))),zdk ?_⟩;intro p_thing;unfold zcY;exact(zav (zal λ_ _ h=>h) (zaM (zar (ze2 λ_=>tg_2 rfl (λ_=>rfl)) λy6=>(zav (zal λ_ _ h=>h) (zaM (zal λ_ _ h=>h))))))
def zdj:List D->Option D:=λ_=>none
def zcB (p_sheet p_name p_at p_part:D):Option D:=
 (Option.bind (Option.bind (Option.bind ((dIs false) p_name D.non) dB) λk1=>if k1 then(some p_sheet) else(Option.bind (zb8 [p_sheet,p_name]) λv2=>(dIx v2 (.int 5)))) λ(x3:D)=>(Option.bind (Option.bind (Option.bind (Option.bind (dLe (.int 0) p_at) λzk6=>Option.bind (dB zk6) λk6=>if k6 then(Option.bind (bLen [x3]) λv7=>(dLe p_at v7)) else some (.bl false)) dB) λk5=>some (!k5)) λk4=>if k4 then none else(Option.bind (Option.bind (Option.bind (Option.bind (Option.bind (dInt p_at) λi=>some (some i)) λv8=>(dSlW x3 none v8)) λv9=>(za4 v9 (.tup [p_part]))) λv11=>(Option.bind (Option.bind (Option.bind (dInt p_at) λi=>some (some i)) λv10=>(dSlW x3 v10 none)) λv12=>(za4 v11 v12))) λ(x13:D)=>(Option.bind (Option.bind (Option.bind ((dIs false) p_name D.non) dB) λk14=>if k14 then(some x13) else(zdj [p_sheet,p_name,(.int 5),x13])) λ(r15:D)=>(some r15)))))
def za9:List D->Option D:=c4 zcB
def sc_with_put:FnScope ["sheet","name","at","part","level"] ["sheet","name","at","part"] (zad zbB):=fsc
def zf0 (F:Fun K "with_put" "with_put" zbB f fd)(B:Blt mg)(C_part_of:Cal P w K mg base 11 "part_of" ["sheet","name"] (spF K zb8))(C_with_thing:Cal P w K mg base 1 "with_thing" ["parts","name","at","thing"] (spF K zdj))(G_PARTS:GlobD K mg "PARTS" (.int 5)):FnOk P w K mg base CX0 (12+1) f fd ["sheet","name","at","part"] (spF K za9):=
 zb4 F sc_with_put c4_len λcdv A outer s H E hr=>by
  have nd:=sc_with_put.nd
  refine⟨_,(zae (vsS 4 nd (zld (zaA zd7 zgR (vr 1) (VE.w zaG) (zat _)) (vv 0) (zaD (VE.w (zau C_part_of hr (zaa (vv 0) (zaa (vv 1) zac)))) (VE.w (zbW G_PARTS))))) (zae (za5 (zaR (zer zgK zgQ zgK zgQ (VE.w zab) (vr 2) (VE.w (ve_b zaS zbN B boot_len (zaO (vr 4) za8))))) (zah zet) zak) (zae (vsS 4 nd (zaw zbr zaY (VE.w (zaw zbr zaY (VE.w (zb7 (vr 4) zaU (zaV (vv 2)))) (VE.w (zam (zaa (vv 3) zac))))) (VE.w (zb7 (vr 4) (zaV (vv 2)) zaU)))) (zah (zao (zld (zaA zd7 zgR (vr 1) (VE.w zaG) (zat _)) (vv 4) (zau C_with_thing hr (zaa (vv 0) (zaa (vv 1) (zaa (zbW G_PARTS) (zaa (vv 4) zac))))))))))),zlu ?_⟩;intro p_sheet p_name p_at p_part;unfold zcB;exact(zar (zay rfl) λx3=>(zav (zc4 rfl) (zaM (zar (zay rfl) λx13=>(zal λ_ _ h=>h)))))
def zeC (p_sheet p_name p_at p_part:D):Option D:=
 (Option.bind (Option.bind (Option.bind ((dIs false) p_name D.non) dB) λk=>if k then none else za0 [p_sheet,p_name]) λ(r8:D)=>(some r8))
def zcq:List D->Option D:=VD.c4 zeC
def zhh (F:Fun K "with_put" "with_put" zbB f fd)(B:Blt mg)(X_part_of:CalX P w K mg base 11 "part_of" ["sheet","name"] (spX K za0)):FnOk P w K mg base (CXE P w) (12+1) f fd ["sheet","name","at","part"] (spX K zcq):=
 ziA F sc_with_put VD.c4_len λcdv A outer s H E hr L=>by
  have nd:=sc_with_put.nd
  refine⟨_,(zdD (ziz 4 nd (znx (zaA zd7 zgR (vr 1) (VE.w zaG) (zat _)) (znw (zfR X_part_of hr (zaa (vv 0) (zaa (vv 1) zac))))) L)),zlu ?_⟩;intro p_sheet p_name p_at p_part;unfold zeC;exact(znt (zal λ_ _ h=>h))
def zdb (p_sheet p_name p_at p_part:D):Option D:=
 (Option.bind (Option.bind (Option.bind ((dIs false) p_name D.non) dB) λk1=>if k1 then(some p_sheet) else(Option.bind (zb8 [p_sheet,p_name]) λv2=>(dIx v2 (.int 5)))) λ(x3:D)=>(Option.bind (Option.bind (Option.bind (Option.bind ((dLe (.int 0) p_at)) λzk5=>Option.bind (dB zk5) λk5=>if k5 then(Option.bind (bLen [x3]) λv6=>(dLe p_at v6)) else some (.bl false)) dB) λk4=>some (!k4)) λk7=>if k7 then(Option.bind (some (D.exc "NoPlace" [] [])) λ(r:D)=>some r) else none))
def zdc:List D->Option D:=VD.c4 zdb
def zhi (F:Fun K "with_put" "with_put" zbB f fd)(B:Blt mg)(C_part_of:Cal P w K mg base 11 "part_of" ["sheet","name"] (spF K zb8))(G_PARTS:GlobD K mg "PARTS" (.int 5))(X_NoPlace:XCl0 K mg "NoPlace"):FnOk P w K mg base (CXE P w) (12+1) f fd ["sheet","name","at","part"] (spX K zdc):=
 ziA F sc_with_put VD.c4_len λcdv A outer s H E hr L=>by
  have nd:=sc_with_put.nd
  refine⟨_,(zbl (zjS (vsS 4 nd (zld (zaA zd7 zgR (vr 1) (VE.w zaG) (zat _)) (vv 0) (zaD (VE.w (zau C_part_of hr (zaa (vv 0) (zaa (vv 1) zac)))) (VE.w (zbW G_PARTS)))))) (zdD (zd3 (zaR (zer zgK zgQ zgK zgQ (VE.w zab) (vr 2) (VE.w (ve_b zaS zbN B boot_len (zaO (vr 4) za8))))) (zbG (zdI (k:=11) X_NoPlace hr L zaf)) zbF))),zlu ?_⟩;intro p_sheet p_name p_at p_part;unfold zdb;exact(zar (zay rfl) λx3=>(zav (zal λ_ _ h=>h) (zaM (zc4 rfl))))
def za3 (ds:List D):Option D:=(zcq ds).or (zdc ds)
def zeD (F:Fun K "with_put" "with_put" zbB f fd)(B:Blt mg)(X_part_of:CalX P w K mg base 11 "part_of" ["sheet","name"] (spX K za0))(C_part_of:Cal P w K mg base 11 "part_of" ["sheet","name"] (spF K zb8))(G_PARTS:GlobD K mg "PARTS" (.int 5))(X_NoPlace:XCl0 K mg "NoPlace"):FnOk P w K mg base (CXE P w) (12+1) f fd ["sheet","name","at","part"] (spX K za3):=znu (zhh F B X_part_of) (zhi F B C_part_of G_PARTS X_NoPlace)
def sc_done:FnScope ["sheet","deed","kind","name","part"] ["sheet","deed"] (zad zdP):=fsc
section
variable {Pc:Hp->Prop}(pe:Pers Pc)(C_is_deed:Cal P w K mg base 6 "is_deed" ["thing"] (pcS Pc (spF K za7)))
def zbR (p_sheet p_deed:D):Option D:=
 (Option.bind (Option.bind (Option.bind (za7 [p_deed]) dTru) λk2=>some (!k2)) λk1=>if k1 then(Option.bind (some (D.exc "NoDeed" [] [])) λ(r:D)=>some r) else none)
def zbz:List D->Option D:=VD.c2 zbR
include pe C_is_deed
theorem zf1 (F:Fun K "done" "done" zdP f fd)(B:Blt mg)(X_NoDeed:XCl0 K mg "NoDeed"):FnOk P w K mg base (CXE P w) (51+1) f fd ["sheet","deed"] (pcS Pc (spX K zbz)):=
 zdH pe F sc_done VD.c2_len λcdv A outer s H E hr L hp=>by
  refine⟨_,(zdD (zd3 (zaR (zaQ (VE.w (zaq C_is_deed hp hr (zaa (vv 1) zac))))) (zbG (zdI (k:=50) X_NoDeed hr L zaf)) zbF)),zck ?_⟩;intro p_sheet p_deed;unfold zbR;exact(zav (zal λ_ _ h=>h) (zaM (zc4 rfl)))
omit pe C_is_deed
def zcC (p_sheet p_deed:D):Option D:=
 (Option.bind (Option.bind (Option.bind (za7 [p_deed]) dTru) λk2=>some (!k2)) λk1=>if k1 then none else(Option.bind (Option.bind (Option.bind (aC (dIx p_deed (.int 0)) (aC (dIx p_deed (.int 1)) aN)) mkT) un2) λ(y3:D×D)=>(Option.bind (Option.bind ((dEqG false) y3.1 (.str "put")) dB) λk4=>if k4 then none else(Option.bind (za0 [p_sheet,y3.2]) λ(r:D)=>some r))))
def zce:List D->Option D:=VD.c2 zcC
include pe C_is_deed
theorem zf2 (F:Fun K "done" "done" zdP f fd)(B:Blt mg)(X_part_of:CalX P w K mg base 11 "part_of" ["sheet","name"] (spX K za0)):FnOk P w K mg base (CXE P w) (51+1) f fd ["sheet","deed"] (pcS Pc (spX K zce)):=
 zdH pe F sc_done VD.c2_len λcdv A outer s H E hr L hp=>by
  have nd:=sc_done.nd
  refine⟨_,(zbl (zd3 (zaR (zaQ (VE.w (zaq C_is_deed hp hr (zaa (vv 1) zac))))) (zbG zcR) zbF) (zbl (zjS (zgy 2 3 nd (zaa (zaD (vr 1) (VE.w zab)) (zaa (zaD (vr 1) (VE.w zab)) zac)))) (zbl (zd3 (zaA (zby hr) (zaH false) (vr 2) (VE.w zaf) (zat _)) (zbG zcR) zbF) (zdD (ziz 4 nd (zfR X_part_of hr (zaa (vv 0) (zaa (vv 3) zac))) L))))),zck ?_⟩;intro p_sheet p_deed;unfold zcC;exact(zav (zc4 rfl) (zaM (zar (ze2 λ_=>tg_2 rfl (λ_=>rfl)) λy3=>(zav (zc4 rfl) (zaM (znt (zal λ_ _ h=>h)))))))
omit pe C_is_deed
def zds (p_sheet p_deed:D):Option D:=
 (Option.bind (Option.bind (Option.bind (za7 [p_deed]) dTru) λk2=>some (!k2)) λk1=>if k1 then none else(Option.bind (Option.bind (Option.bind (aC (dIx p_deed (.int 0)) (aC (dIx p_deed (.int 1)) aN)) mkT) un2) λ(y3:D×D)=>(Option.bind (Option.bind ((dEqG false) y3.1 (.str "put")) dB) λk4=>if k4 then(Option.bind (Option.bind (aC (some p_sheet) (aC (some y3.2) (aC (dIx p_deed (.int 2)) (aC (dIx p_deed (.int 3)) aN)))) za3) λ(r:D)=>some r) else none)))
def zcZ:List D->Option D:=VD.c2 zds
def zdt (p_sheet p_deed:D):Option D:=
 (Option.bind (Option.bind (Option.bind (za7 [p_deed]) dTru) λk2=>some (!k2)) λk1=>if k1 then none else(Option.bind (Option.bind (Option.bind (aC (dIx p_deed (.int 0)) (aC (dIx p_deed (.int 1)) aN)) mkT) un2) λ(y3:D×D)=>(Option.bind (Option.bind ((dEqG false) y3.1 (.str "put")) dB) λk4=>if k4 then(Option.bind (Option.bind (aC (Option.bind (aC (some p_sheet) (aC (some y3.2) (aC (dIx p_deed (.int 2)) (aC (dIx p_deed (.int 3)) aN)))) za9) aN) za6) λ(r:D)=>some r) else none)))
def zdu:List D->Option D:=VD.c2 zdt
include pe C_is_deed
theorem zf3 (F:Fun K "done" "done" zdP f fd)(B:Blt mg)(X_checked:CalX P w K mg base 50 "checked" ["thing"] (pcS Pc (spX K za6)))(X_with_put:CalX P w K mg base 13 "with_put" ["sheet","name","at","part"] (spX K za3)):FnOk P w K mg base (CXE P w) (51+1) f fd ["sheet","deed"] (pcS Pc (spX K zcZ)):=
 zdH pe F sc_done VD.c2_len λcdv A outer s H E hr L hp=>by
  have nd:=sc_done.nd
  refine⟨_,(zbl (zd3 (zaR (zaQ (VE.w (zaq C_is_deed hp hr (zaa (vv 1) zac))))) (zbG zcR) zbF) (zbl (zjS (zgy 2 3 nd (zaa (zaD (vr 1) (VE.w zab)) (zaa (zaD (vr 1) (VE.w zab)) zac)))) (zdD (zd3 (zaA (zby hr) (zaH false) (vr 2) (VE.w zaf) (zat _)) (zbG (ziy (zj5 X_checked (znv (zfR X_with_put hr (zaa (vv 0) (zaa (vv 3) (zaa (zaD (vr 1) (VE.w zab)) (zaa (zaD (vr 1) (VE.w zab)) zac))))))) L)) zbF)))),zck ?_⟩;intro p_sheet p_deed;unfold zds;exact(zav (zc4 rfl) (zaM (zar (ze2 λ_=>tg_2 rfl (λ_=>rfl)) λy3=>(zav (zal λ_ _ h=>h) (zaM (zc4 rfl))))))
theorem zf4 (F:Fun K "done" "done" zdP f fd)(B:Blt mg)(X_checked:CalX P w K mg base 50 "checked" ["thing"] (pcS Pc (spX K za6)))(C_with_put:Cal P w K mg base 13 "with_put" ["sheet","name","at","part"] (spF K za9)):FnOk P w K mg base (CXE P w) (51+1) f fd ["sheet","deed"] (pcS Pc (spX K zdu)):=
 zdH pe F sc_done VD.c2_len λcdv A outer s H E hr L hp=>by
  have nd:=sc_done.nd
  refine⟨_,(zbl (zd3 (zaR (zaQ (VE.w (zaq C_is_deed hp hr (zaa (vv 1) zac))))) (zbG zcR) zbF) (zbl (zjS (zgy 2 3 nd (zaa (zaD (vr 1) (VE.w zab)) (zaa (zaD (vr 1) (VE.w zab)) zac)))) (zdD (zd3 (zaA (zby hr) (zaH false) (vr 2) (VE.w zaf) (zat _)) (zbG (ziy (zgv X_checked hp hr (zaa (zau C_with_put hr (zaa (vv 0) (zaa (vv 3) (zaa (zaD (vr 1) (VE.w zab)) (zaa (zaD (vr 1) (VE.w zab)) zac))))) zac)) L)) zbF)))),zck ?_⟩;intro p_sheet p_deed;unfold zdt;exact(zav (zc4 rfl) (zaM (zar (ze2 λ_=>tg_2 rfl (λ_=>rfl)) λy3=>(zav (zal λ_ _ h=>h) (zaM (zc4 rfl))))))
def zfs (ds:List D):Option D:=(zbz ds).or ((zce ds).or ((zcZ ds).or (zdu ds)))
theorem ziM (F:Fun K "done" "done" zdP f fd)(B:Blt mg)(X_NoDeed:XCl0 K mg "NoDeed")(X_part_of:CalX P w K mg base 11 "part_of" ["sheet","name"] (spX K za0))(X_checked:CalX P w K mg base 50 "checked" ["thing"] (pcS Pc (spX K za6)))(X_with_put:CalX P w K mg base 13 "with_put" ["sheet","name","at","part"] (spX K za3))(C_with_put:Cal P w K mg base 13 "with_put" ["sheet","name","at","part"] (spF K za9)):FnOk P w K mg base (CXE P w) (51+1) f fd ["sheet","deed"] (pcS Pc (spX K zfs)):=
 zfT (zf1 pe C_is_deed F B X_NoDeed) (zfT (zf2 pe C_is_deed F B X_part_of) (zfT (zf3 pe C_is_deed F B X_checked X_with_put) (zf4 pe C_is_deed F B X_checked C_with_put)))
omit pe C_is_deed
end
def zbS (pLnumber pLprime pLmany:D):Option D:=
 (Option.bind (Option.bind (Option.bind (Option.bind (Option.bind (Option.bind (dMod pLnumber (.int 1000003)) λv1=>(dMul v1 (.int 48271))) λv2=>(dMod v2 pLprime)) λv4=>(Option.bind (Option.bind (dMod pLnumber (.int 65521)) λv3=>(dAdd v3 (.int 3))) λv5=>(dMul v4 v5))) λv6=>(dMod v6 (.int 2147483629))) λv7=>(dMod v7 pLmany)) λ(r8:D)=>(some r8))
def zas:List D->Option D:=c3 zbS
def zeE:FnScope ["_law_number","_law_prime","_law_many"] ["_law_number","_law_prime","_law_many"] (zad zcn):=fsc
def zeF (F:Fun K "_law_mixed" "_law_mixed" zcn f fd)(B:Blt mg):FnOk P w K mg base CX0 (0+1) f fd ["_law_number","_law_prime","_law_many"] (spF K zas):=
 zb4 F zeE zm1 λcdv A outer s H E hr=>by
  refine⟨_,(zah (zao (zaw zba zbb (VE.w (zaw zba zbb (VE.w (zaw zlf zhZ (VE.w (zaw zba zbb (VE.w (zaw zlf zhZ (VE.w (zaw zba zbb (vr 0) (VE.w zab))) (VE.w zab))) (vr 1))) (VE.w (zaw opAdd zcP (VE.w (zaw zba zbb (vr 0) (VE.w zab))) (VE.w zab))))) (VE.w zab))) (vr 2)))),zol ?_⟩;intro pLnumber pLprime pLmany;unfold zbS;exact(zal λ_ _ h=>h)
def zbT (S:Scr)(pLscript:D):Option D:=
 (Option.bind (some (.tup [])) λ(x1:D)=>(Option.bind (Option.bind (Option.bind (aC (Option.bind (Option.bind (aC (Option.bind (Option.bind (catS S pLscript (.lst [(.int 7)])) λds=>some (.lst ds)) λv2=>(dIx v2 (.int 0))) (aC (some (.int 999983)) (aC (some (.int 9)) aN))) zas) λv3=>(za4 (.int 1) v3)) aN) rngA) (zcj (λ(s4:D) (d5:D)=>(Option.bind (Option.bind (Option.bind (catS S pLscript (.lst [(.int 5)])) λds=>some (.lst ds)) λv8=>(Option.bind (Option.bind (Option.bind ((lenS S) pLscript) λv6=>(za4 v6 (.int 1))) λv7=>(dMod d5 v7)) λv9=>(dIx v8 v9))) λ(x10:D)=>(Option.bind (Option.bind (dIx (.str "abcdefghi") d5) λv12=>(Option.bind (Option.bind (dMod x10 (.int 8)) λv11=>(za4 (.int 1) v11)) λv13=>(dMul v12 v13))) λ(x14:D)=>(Option.bind (Option.bind (aC (some x14) (aC (Option.bind (aC (some d5) (aC (Option.bind (dPow (.int 10) (.int 60)) λv15=>(dMod x10 v15)) (aC (some (.int 1)) (aC (some (.int 2)) aN)))) mkT) (aC (some (.str "free")) (aC (some d5) (aC (some D.non) (aC (some (.tup [])) aN)))))) mkT) λ(x16:D)=>(Option.bind (Option.bind (Option.bind (Option.bind (dMod x10 (.int 3)) λv18=>((dEqG false) v18 (.int 0))) dB) λk17=>if k17 then(Option.bind (Option.bind (dSlW x16 none (some 5)) λv20=>(Option.bind (Option.bind (aC (Option.bind (Option.bind (dNeg (.int 1)) λd=>Option.bind (dInt d) λi=>some (some i)) λv19=>(dSlW s4 v19 none)) aN) mkT) λv21=>(za4 v20 v21))) λ(x22:D)=>(Option.bind (Option.bind (Option.bind (dNeg (.int 1)) λd=>Option.bind (dInt d) λi=>some (some i)) λv23=>(dSlW s4 none v23)) λ(x24:D)=>(Option.bind (Option.bind (Option.bind (Option.bind (Option.bind (Option.bind (aC (dIx x22 (.int 5)) aN) bLen) λv36=>(dGt v36 (.int 0))) dB) λk35=>if k35 then(Option.bind (Option.bind (Option.bind (Option.bind (aC (Option.bind (Option.bind (dIx x22 (.int 5)) λv32=>(dIx v32 (.int 0))) λv33=>(dIx v33 (.int 5))) aN) bLen) λv34=>(dGt v34 (.int 0))) dB) λk31=>if k31 then(Option.bind (Option.bind (Option.bind (aC (Option.bind (Option.bind (Option.bind (Option.bind (dIx x22 (.int 5)) λv26=>(dIx v26 (.int 0))) λv27=>(dIx v27 (.int 5))) λv28=>(dIx v28 (.int 0))) λv29=>(dIx v29 (.int 5))) aN) bLen) λv30=>(dGt v30 (.int 0))) dB) else some false) else some false) λk25=>if k25 then(Option.bind (Option.bind (dSlW x22 none (some 5)) λv39=>(Option.bind (Option.bind (aC (Option.bind (Option.bind (dIx x22 (.int 5)) λv37=>(dIx v37 (.int 0))) λv38=>(dIx v38 (.int 5))) aN) mkT) λv40=>(za4 v39 v40))) λ(x41:D)=>(some x41)) else(some x22)) λ(s42:D)=>(some (x24,s42))))) else(some (s4,x16))) λ(s43:D×D)=>(Option.bind (za4 s43.1 (.tup [s43.2])) λ(x44:D)=>(some x44))))))) x1)) λ(s4:D)=>(Option.bind (some s4) λ(r45:D)=>(some r45))))
def zaK (S:Scr):List D->Option D:=c1 (zbT S)
def scLsheet:FnScope ["_law_script","_law_parts","_law_k","_law_cell","_law_name","_law_part"] ["_law_script"] (zad zco):=fsc
def zeG (F:Fun K "_law_sheet" "_law_sheet" zco f fd)(B:Blt mg){Pc:Hp->Prop}(pe:Pers Pc){S:Scr}(hSq:∀H,Pc H->SqF K S H)(CLmixed:Cal P w K mg base 1 "_law_mixed" ["_law_number","_law_prime","_law_many"] (spF K zas)):FnOk P w K mg base CX0 (2+1) f fd ["_law_script"] (pcS Pc (spF K (zaK S))):=
 zbv pe F scLsheet c1_len λcdv A outer s H E hcv hr hPc hp=>by
  have nd:=scLsheet.nd
  have hS:Prs _ (SqF K S):=λp Y H s I=>hSq _ (hp p Y H s I)
  refine⟨_,(zae (vsS 1 nd (zam zac)) (zae (zdi (zh2 B (zaa (zaw zbr zaY (VE.w zab) (VE.w (zau CLmixed hr (zaa (zaD (VE.w (VN.ve (zeA hS (vv 0) (VE.w (VN.ve (zaB (zaa zab zac))))))) (VE.w zab)) (zaa zab (zaa zab zac)))))) zac)) (vgN 2 nd) (zae (vsS 3 nd (zaD (VE.w (VN.ve (zeA hS (vv 0) (VE.w (VN.ve (zaB (zaa zab zac))))))) (VE.w (zaw zba zbb (vr 2) (VE.w (zaw zbr zaY (VE.w (zly hS B (vv 0))) (VE.w zab))))))) (zae (vsS 4 nd (zaw zlf zhZ (VE.w (zaD (VE.w zaf) (vr 2))) (VE.w (zaw zbr zaY (VE.w zab) (VE.w (zaw zba zbb (vr 3) (VE.w zab))))))) (zae (vsS 5 nd (zam (zaa (vv 4) (zaa (zam (zaa (vv 2) (zaa (zaw zba zbb (vr 3) (VE.w (zaw zgb zgj (VE.w zab) (VE.w zab)))) (zaa zab (zaa zab zac))))) (zaa zaf (zaa (vv 2) (zaa zaG (zaa (zam zac) zac)))))))) (zae (za5 (zaA (zby hr) (zaH false) (VE.w (zaw zba zbb (vr 3) (VE.w zab))) (VE.w zab) (zat _)) (zae (vsS 5 nd (zaw zbr zaY (VE.w (zb7 (vr 5) zaU (zaV zab))) (VE.w (zam (zaa (zb7 (vr 1) (zaV (zh0 zab)) zaU) zac))))) (zae (vsS 1 nd (zb7 (vr 1) zaU (zaV (zh0 zab)))) (zae (za5 (VP.t (zgi (zaA zhC zhY (VE.w (ve_b zaS zbN B boot_len (zaO (VE.w (zaD (vr 5) (VE.w zab))) za8))) (VE.w zab) (zat _)) (zgi (zaA zhC zhY (VE.w (ve_b zaS zbN B boot_len (zaO (VE.w (zaD (VE.w (zaD (VE.w (zaD (vr 5) (VE.w zab))) (VE.w zab))) (VE.w zab))) za8))) (VE.w zab) (zat _)) (zfJ (zaA zhC zhY (VE.w (ve_b zaS zbN B boot_len (zaO (VE.w (zaD (VE.w (zaD (VE.w (zaD (VE.w (zaD (VE.w (zaD (vr 5) (VE.w zab))) (VE.w zab))) (VE.w zab))) (VE.w zab))) (VE.w zab))) za8))) (VE.w zab) (zat _)))))) (zae (vsS 5 nd (zaw zbr zaY (VE.w (zb7 (vr 5) zaU (zaV zab))) (VE.w (zam (zaa (zaD (VE.w (zaD (VE.w (zaD (vr 5) (VE.w zab))) (VE.w zab))) (VE.w zab)) zac))))) zak) zak) zak))) zak) (zae (vsS 1 nd (zaw zbr zaY (vr 1) (VE.w (zam (zaa (vv 5) zac))))) (zbO [2,3,4,5] zak))))))) (zah (zao (vv 1))))),zdk ?_⟩;intro pLscript;unfold zbT;exact(zar (zay rfl) λx1=>(zar (zh9 (emb:=(λ(s4:D)=>[.val pLscript,.val s4,.un,.un,.un,.un])) rfl (λ_=>rfl) λs4 d5=>(zar (zay rfl) λx10=>(zar (zay rfl) λx14=>(zar (zay rfl) λx16=>(zar (zls (emb:=(λ(s43:D×D)=>[.val pLscript,.val s43.1,.val d5,.val x10,.val x14,.val s43.2])) (zar (zay rfl) λx22=>(zar (zay rfl) λx24=>(zar (zls (emb:=(λ(s42:D)=>[.val pLscript,.val x24,.val d5,.val x10,.val x14,.val s42])) (zar (zay rfl) λx41=>(zbw λ_ h=>h)) (zbw λ_ h=>h)) λs42=>(zbw λ_ h=>h)))) (zbw λ_ h=>h)) λs43=>(zar (zay rfl) λx44=>(zbX [2,3,4,5] (zbw λ_ h=>h)))))))) λs4=>(zal λ_ _ h=>h)))
def zbU (pLcell pLname:D):Option D:=
 (Option.bind (some (.tup [(.str "zz"),(.tup [(.int 0),(.int 0),(.int 1),(.int 1)]),(.str "free"),(.int 0),D.non,(.tup [])])) λ(x1:D)=>(Option.bind (Option.bind (dPow (.int 10) (.int 60)) λv2=>(dMod pLcell v2)) λ(x3:D)=>(Option.bind (Option.bind (Option.bind (aC (Option.bind (aC (some (.str "word")) (aC (some pLname) (aC (Option.bind (dMod pLcell (.int 3)) λv4=>(dIx (.lst [(.str "free"),(.str "shut"),(.str "hidden")]) v4)) aN))) mkT) (aC (Option.bind (aC (some (.str "box")) (aC (some pLname) (aC (Option.bind (aC (some x3) (aC (dSub (.int 0) x3) (aC (Option.bind (Option.bind (dPow (.int 10) (.int 59)) λv5=>(dMod x3 v5)) λv6=>(dAdd (.int 1) v6)) (aC (some (.int 1)) aN)))) mkT) aN))) mkT) (aC (some (.tup [(.str "rank"),pLname,x3])) (aC (some (.tup [(.str "head"),pLname,D.non])) (aC (Option.bind (aC (some (.str "put")) (aC (some pLname) (aC (Option.bind (dMod pLcell (.int 7)) λv7=>(dSub v7 (.int 3))) (aC (some x1) aN)))) mkT) (aC (some (.tup [(.str "take"),pLname])) aN)))))) mkLs) λds=>some (.lst ds)) λ(r8:D)=>(some r8))))
def zbV:List D->Option D:=c2 zbU
def scLright:FnScope ["_law_cell","_law_name","_law_part","_law_far"] ["_law_cell","_law_name"] (zad zcp):=fsc
def zeH (F:Fun K "_law_right" "_law_right" zcp f fd)(B:Blt mg):FnOk P w K mg base CX0 (0+1) f fd ["_law_cell","_law_name"] (spF K zbV):=
 zb4 F scLright c2_len λcdv A outer s H E hr=>by
  have nd:=scLright.nd
  refine⟨_,(zae (vsS 2 nd (zam (zaa zaf (zaa (zam (zaa zab (zaa zab (zaa zab (zaa zab zac))))) (zaa zaf (zaa zab (zaa zaG (zaa (zam zac) zac)))))))) (zae (vsS 3 nd (zaw zba zbb (vr 0) (VE.w (zaw zgb zgj (VE.w zab) (VE.w zab))))) (zah (zao (VN.ve (zaB (zaa (zam (zaa zaf (zaa (vv 1) (zaa (zaD (VE.w (VN.ve (zaB (zaa zaf (zaa zaf (zaa zaf zac)))))) (VE.w (zaw zba zbb (vr 0) (VE.w zab)))) zac)))) (zaa (zam (zaa zaf (zaa (vv 1) (zaa (zam (zaa (vv 3) (zaa (zaw zd6 zeb (VE.w zab) (vr 3)) (zaa (zaw opAdd zcP (VE.w zab) (VE.w (zaw zba zbb (vr 3) (VE.w (zaw zgb zgj (VE.w zab) (VE.w zab)))))) (zaa zab zac))))) zac)))) (zaa (zam (zaa zaf (zaa (vv 1) (zaa (vv 3) zac)))) (zaa (zam (zaa zaf (zaa (vv 1) (zaa zaG zac)))) (zaa (zam (zaa zaf (zaa (vv 1) (zaa (zaw zd6 zeb (VE.w (zaw zba zbb (vr 0) (VE.w zab))) (VE.w zab)) (zaa (vv 2) zac))))) (zaa (zam (zaa zaf (zaa (vv 1) zac))) zac)))))))))))),zck ?_⟩;intro pLcell pLname;unfold zbU;exact(zar (zay rfl) λx1=>(zar (zay rfl) λx3=>(zal λ_ _ h=>h)))
def zcf (pLcell pLkind:D):Option D:=
 (Option.bind (Option.bind (dSub (.int 0) (.int 1)) λv2=>(Option.bind (Option.bind (dPow (.int 10) (.int 9)) λv1=>(dMod pLcell v1)) λv3=>(dSub v2 v3))) λ(x4:D)=>(Option.bind (Option.bind ((dEqG false) pLkind (.str "word")) dB) λk5=>if k5 then(Option.bind (some (.lst [(.str "open"),(.str ""),(.str "Free"),D.non,(.bl true),(.int 3),(.lst [(.str "free")]),(.tup [(.str "free")])])) λ(r6:D)=>(some r6)) else(Option.bind (Option.bind ((dEqG false) pLkind (.str "box")) dB) λk7=>if k7 then(Option.bind (some (.lst [(.tup [(.int 1),(.int 2),(.int 3)]),(.tup [(.int 1),(.int 2),(.int 3),(.int 4),(.int 5)]),(.lst [(.int 1),(.int 2),(.int 3),(.int 4)]),(.tup [(.int 1),(.int 2),(.int 0),(.int 3)]),(.tup [(.int 1),(.int 2),(.int 3),x4])])) λ(x8:D)=>(Option.bind (dAdd x8 (.lst [(.tup [(.int 1),(.bl true),(.int 2),(.int 3)]),(.tup [(.int 1),(.int 2),(.str "3"),(.int 4)]),D.non])) λ(r9:D)=>(some r9))) else(Option.bind (Option.bind ((dEqG false) pLkind (.str "rank")) dB) λk10=>if k10 then(Option.bind (Option.bind (Option.bind (aC (some x4) (aC (some (.bl true)) (aC (some (.bl false)) (aC (some D.non) (aC (some (.str "1")) (aC (some (.tup [(.int 1)])) (aC (some (.lst [])) (aC (dSub (.int 0) (.int 1)) aN)))))))) mkLs) λds=>some (.lst ds)) λ(r11:D)=>(some r11)) else(Option.bind (Option.bind ((dEqG false) pLkind (.str "head")) dB) λk12=>if k12 then(Option.bind (some (.lst [(.str ""),(.str "A"),(.str "abcdefghi"),(.str "a b"),(.int 1),(.bl true),(.tup []),(.lst [(.str "a")])])) λ(r13:D)=>(some r13)) else(Option.bind (some (.lst [D.non,(.bl true),(.str "0"),(.tup [(.int 0)]),(.lst []),(.bl false),(.str ""),(.str "a")])) λ(r14:D)=>(some r14)))))))
def zaP:List D->Option D:=c2 zcf
def scLmenu:FnScope ["_law_cell","_law_kind","_law_near","_law_menu_here"] ["_law_cell","_law_kind"] (zad zcH):=fsc
def zft (F:Fun K "_law_menu" "_law_menu" zcH f fd)(B:Blt mg):FnOk P w K mg base CX0 (0+1) f fd ["_law_cell","_law_kind"] (spF K zaP):=
 zb4 F scLmenu c2_len λcdv A outer s H E hr=>by
  have nd:=scLmenu.nd
  refine⟨_,(zae (vsS 2 nd (zaw zd6 zeb (VE.w (zaw zd6 zeb (VE.w zab) (VE.w zab))) (VE.w (zaw zba zbb (vr 0) (VE.w (zaw zgb zgj (VE.w zab) (VE.w zab))))))) (zae (za5 (zaA (zby hr) (zaH false) (vr 1) (VE.w zaf) (zat _)) (zah (zao (VN.ve (zaB (zaa zaf (zaa zaf (zaa zaf (zaa zaG (zaa zbi (zaa zab (zaa (VN.ve (zaB (zaa zaf zac))) (zaa (zam (zaa zaf zac)) zac)))))))))))) zak) (zae (za5 (zaA (zby hr) (zaH false) (vr 1) (VE.w zaf) (zat _)) (zae (vsS 3 nd (VN.ve (zaB (zaa (zam (zaa zab (zaa zab (zaa zab zac)))) (zaa (zam (zaa zab (zaa zab (zaa zab (zaa zab (zaa zab zac)))))) (zaa (VN.ve (zaB (zaa zab (zaa zab (zaa zab (zaa zab zac)))))) (zaa (zam (zaa zab (zaa zab (zaa zab (zaa zab zac))))) (zaa (zam (zaa zab (zaa zab (zaa zab (zaa (vv 2) zac))))) zac)))))))) (zah (zao (zaw opAdd zcP (vr 3) (VE.w (VN.ve (zaB (zaa (zam (zaa zab (zaa zbi (zaa zab (zaa zab zac))))) (zaa (zam (zaa zab (zaa zab (zaa zaf (zaa zab zac))))) (zaa zaG zac)))))))))) zak) (zae (za5 (zaA (zby hr) (zaH false) (vr 1) (VE.w zaf) (zat _)) (zah (zao (VN.ve (zaB (zaa (vv 2) (zaa zbi (zaa zbi (zaa zaG (zaa zaf (zaa (zam (zaa zab zac)) (zaa (VN.ve (zaB zac)) (zaa (zaw zd6 zeb (VE.w zab) (VE.w zab)) zac)))))))))))) zak) (zae (za5 (zaA (zby hr) (zaH false) (vr 1) (VE.w zaf) (zat _)) (zah (zao (VN.ve (zaB (zaa zaf (zaa zaf (zaa zaf (zaa zaf (zaa zab (zaa zbi (zaa (zam zac) (zaa (VN.ve (zaB (zaa zaf zac))) zac)))))))))))) zak) (zah (zao (VN.ve (zaB (zaa zaG (zaa zbi (zaa zaf (zaa (zam (zaa zab zac)) (zaa (VN.ve (zaB zac)) (zaa zbi (zaa zaf (zaa zaf zac))))))))))))))))),zck ?_⟩;intro pLcell pLkind;unfold zcf;exact(zar (zay rfl) λx4=>(zav (zal λ_ _ h=>h) (zaM (zav (zar (zay rfl) λx8=>(zal λ_ _ h=>h)) (zaM (zav (zal λ_ _ h=>h) (zaM (zav (zal λ_ _ h=>h) (zaM (zal λ_ _ h=>h))))))))))
def zcg (pLcell pLdeed:D):Option D:=
 (Option.bind (za4 pLdeed (.tup [D.non])) λ(x1:D)=>(Option.bind (Option.bind (Option.bind (Option.bind (dIx pLdeed (.int 0)) λv3=>((dEqG true) v3 (.str "take"))) dB) λk2=>if k2 then(Option.bind (Option.bind (Option.bind (dSl pLdeed none (some 2)) λv6=>(Option.bind (Option.bind (aC (Option.bind (Option.bind (aC (some pLcell) (aC (dIx pLdeed (.int 0)) aN)) zaP) λv4=>(Option.bind (zas [pLcell,(.int 8191),(.int 8)]) λv5=>(dIx v4 v5))) aN) mkT) λv7=>(za4 v6 v7))) λv8=>(Option.bind (dSl pLdeed (some 3) none) λv9=>(za4 v8 v9))) λ(x10:D)=>(some x10)) else(some x1)) λ(s11:D)=>(Option.bind (Option.bind (zas [pLcell,(.int 65537),(.int 8)]) λv12=>(dIx (.lst [(.int 1),(.bl true),(.tup [(.str "a")]),(.lst [(.str "a")]),(.tup []),(.int 0),(.lst [D.non]),(.bl false)]) v12)) λ(x13:D)=>(Option.bind (Option.bind (Option.bind (aC (some s11) (aC (some s11) (aC (some s11) (aC (Option.bind (Option.bind (dSl pLdeed none (some 1)) λv14=>(za4 v14 (.tup [x13]))) λv15=>(Option.bind (dSl pLdeed (some 2) none) λv16=>(za4 v15 v16))) (aC (Option.bind (Option.bind (dNeg (.int 1)) λd=>Option.bind (dInt d) λi=>some (some i)) λv17=>(dSl pLdeed none v17)) (aC (za4 pLdeed (.tup [(.str "a")])) (aC (bList [pLdeed]) (aC (some (.tup [pLdeed])) aN)))))))) mkLs) λds=>some (.lst ds)) λ(x18:D)=>(Option.bind (Option.bind (Option.bind (Option.bind (aC (Option.bind (dSl pLdeed (some 1) none) λv19=>(za4 (.tup [(.str "Take")]) v19)) (aC (Option.bind (dSl pLdeed (some 1) none) λv20=>(za4 (.tup [D.non]) v20)) (aC (dIx pLdeed (.int 0)) (aC (some D.non) aN)))) mkLs) λds=>some (.lst ds)) λv21=>(za4 x18 v21)) λ(x22:D)=>(Option.bind (Option.bind (zas [pLcell,(.int 131071),(.int 12)]) λv23=>(dIx x22 v23)) λ(r24:D)=>(some r24)))))))
def zaF:List D->Option D:=c2 zcg
def scLbent:FnScope ["_law_cell","_law_deed","_law_bent_here","_law_odd","_law_ways"] ["_law_cell","_law_deed"] (zad zcI):=fsc
def zfu (F:Fun K "_law_bent" "_law_bent" zcI f fd)(B:Blt mg)(CLmenu:Cal P w K mg base 1 "_law_menu" ["_law_cell","_law_kind"] (spF K zaP))(CLmixed:Cal P w K mg base 1 "_law_mixed" ["_law_number","_law_prime","_law_many"] (spF K zas)):FnOk P w K mg base CX0 (2+1) f fd ["_law_cell","_law_deed"] (spF K zaF):=
 zb4 F scLbent c2_len λcdv A outer s H E hr=>by
  have nd:=scLbent.nd
  refine⟨_,(zae (vsS 2 nd (zaw zbr zaY (vr 1) (VE.w (zam (zaa zaG zac))))) (zae (za5 (zaA (zic hr) (zaH true) (VE.w (zaD (vr 1) (VE.w zab))) (VE.w zaf) (zat _)) (zae (vsS 2 nd (zaw zbr zaY (VE.w (zaw zbr zaY (VE.w (zbc (vr 1) zaU (zaV zab))) (VE.w (zam (zaa (zaD (VE.w (zau CLmenu hr (zaa (vv 0) (zaa (zaD (vr 1) (VE.w zab)) zac)))) (VE.w (zau CLmixed hr (zaa (vv 0) (zaa zab (zaa zab zac)))))) zac))))) (VE.w (zbc (vr 1) (zaV zab) zaU)))) zak) zak) (zae (vsS 3 nd (zaD (VE.w (VN.ve (zaB (zaa zab (zaa zbi (zaa (zam (zaa zaf zac)) (zaa (VN.ve (zaB (zaa zaf zac))) (zaa (zam zac) (zaa zab (zaa (VN.ve (zaB (zaa zaG zac))) (zaa zbi zac))))))))))) (VE.w (zau CLmixed hr (zaa (vv 0) (zaa zab (zaa zab zac))))))) (zae (vsS 4 nd (VN.ve (zaB (zaa (vv 2) (zaa (vv 2) (zaa (vv 2) (zaa (zaw zbr zaY (VE.w (zaw zbr zaY (VE.w (zbc (vr 1) zaU (zaV zab))) (VE.w (zam (zaa (vv 3) zac))))) (VE.w (zbc (vr 1) (zaV zab) zaU))) (zaa (zbc (vr 1) zaU (zaV (zh0 zab))) (zaa (zaw zbr zaY (vr 1) (VE.w (zam (zaa zaf zac)))) (zaa (zoe zeR zlh B boot_list (zaO (vr 1) za8)) (zaa (zam (zaa (vv 1) zac)) zac))))))))))) (zae (vsS 4 nd (zaw zbr zaY (vr 4) (VE.w (VN.ve (zaB (zaa (zaw zbr zaY (VE.w (zam (zaa zaf zac))) (VE.w (zbc (vr 1) (zaV zab) zaU))) (zaa (zaw zbr zaY (VE.w (zam (zaa zaG zac))) (VE.w (zbc (vr 1) (zaV zab) zaU))) (zaa (zaD (vr 1) (VE.w zab)) (zaa zaG zac))))))))) (zah (zao (zaD (vr 4) (VE.w (zau CLmixed hr (zaa (vv 0) (zaa zab (zaa zab zac))))))))))))),zck ?_⟩;intro pLcell pLdeed;unfold zcg;exact(zar (zay rfl) λx1=>(zar (zls (emb:=(λ(s11:D)=>[.val pLcell,.val pLdeed,.val s11,.un,.un])) (zar (zay rfl) λx10=>(zbw λ_ h=>h)) (zbw λ_ h=>h)) λs11=>(zar (zay rfl) λx13=>(zar (zay rfl) λx18=>(zar (zay rfl) λx22=>(zal λ_ _ h=>h))))))
def scLgot:FnScope ["_law_sheet_here","_law_deed","_law_got_here","e"] ["_law_sheet_here","_law_deed"] (zad zda):=fsc
def zcD (p_sheet p_deed:D):Option D:=
 (Option.bind (some D.non) λ(x1:D)=>(Option.bind (match (Option.bind (aC (some p_sheet) (aC (some p_deed) aN)) zfs) with|some x=>if zbY ["NoDeed","NoPart","NoPlace","NoSheet"] x then(Option.bind (some x) λ(x9:D)=>some x9) else none|none=>none) λ(x10:D)=>(Option.bind (some x10) λ(r:D)=>some r)))
def zap:List D->Option D:=VD.c2 zcD
def zf5 (F:Fun K "_law_got" "_law_got" zda f fd)(B:Blt mg){Pc:Hp->Prop}(pe:Pers Pc)(X_done:CalX P w K mg base 52 "done" ["sheet","deed"] (pcS Pc (spX K zfs)))(TY:XTy K mg "FocusError" ["NoDeed","NoPart","NoPlace","NoSheet"]):FnOk P w K mg base CX0 (52+1) f fd ["_law_sheet_here","_law_deed"] (pcS Pc (spF K zap)):=
 zbv pe F scLgot VD.c2_len λcdv A outer s H E hcv hr hPc hp=>by
  have nd:=scLgot.nd
  refine⟨_,(zae (vsS 2 nd zaG) (zae (znp 3 TY nd (zlG 2 nd (zgv X_done hp hr (zaa (vv 0) (zaa (vv 1) zac)))) (zah zet) (λev=>zah (vsS 2 nd (vv 3)))) (zah (zao (vv 2))))),zck ?_⟩;intro p_sheet p_deed;unfold zcD;exact(zar (zay rfl) λx1=>(zar (znq (emb:=λx10=>[.val p_sheet,.val p_deed,.val x10,.un]) rfl (λx=>(zmU (zay rfl) λ_ _ h=>h)) (λ_=>zc4 rfl)) λx10=>(zal λ_ _ h=>h)))
def zfv (pLgot_here pLword:D):Option D:=
 (Option.bind (Option.bind (Option.bind (aC ((isX [("NoDeed",true),("NoPart",false)]) pLgot_here) (aC ((isX [("NoDeed",false),("NoPart",true)]) pLgot_here) aN)) mkLs) λds=>some (.lst ds)) λ(x1:D)=>(Option.bind (Option.bind (Option.bind ((isX [("NoDeed",false),("NoPart",false)]) pLgot_here) dB) λk2=>if k2 then some (.bl true) else((isX [("NoDeed",false),("NoPart",false)]) pLgot_here)) λ(x3:D)=>(Option.bind (Option.bind (dB x3) λk4=>if k4 then some (.bl true) else((isX [("NoDeed",false),("NoPart",false)]) pLgot_here)) λ(x5:D)=>(Option.bind (Option.bind (Option.bind (Option.bind (Option.bind (Option.bind (aC ((dEqG false) pLword (.str "deed")) (aC ((dEqG false) pLword (.str "part")) aN)) mkLs) λds=>some (.lst ds)) λv9=>((dEqG false) x1 v9)) dB) λk8=>if k8 then(Option.bind (Option.bind ((isX [("NoDeed",true),("NoPart",true)]) pLgot_here) dB) λk7=>if k7 then(Option.bind (dB x5) λk6=>some (.bl (!k6))) else some (.bl false)) else some (.bl false)) λ(r10:D)=>(some r10)))))
def zaL:List D->Option D:=c2 zfv
def scLis:FnScope ["_law_got_here","_law_word","_law_truths","_law_others"] ["_law_got_here","_law_word"] (zad zdS):=fsc
def zhj (F:Fun K "_law_is" "_law_is" zdS f fd)(B:Blt mg){c_NoPart:Addr}(m_NoPart:mg "NoPart"=some (.ref c_NoPart)){c_NoDeed:Addr}(m_NoDeed:mg "NoDeed"=some (.ref c_NoDeed)){c_NoText:Addr}(m_NoText:mg "NoText"=some (.ref c_NoText)){c_NotOpen:Addr}(m_NotOpen:mg "NotOpen"=some (.ref c_NotOpen)){c_MustRing:Addr}(m_MustRing:mg "MustRing"=some (.ref c_MustRing)){c_NoHead:Addr}(m_NoHead:mg "NoHead"=some (.ref c_NoHead)){c_NoKey:Addr}(m_NoKey:mg "NoKey"=some (.ref c_NoKey)){c_NoLine:Addr}(m_NoLine:mg "NoLine"=some (.ref c_NoLine)){c_NoPlace:Addr}(m_NoPlace:mg "NoPlace"=some (.ref c_NoPlace)){c_NoSheet:Addr}(m_NoSheet:mg "NoSheet"=some (.ref c_NoSheet)){c_NoWay:Addr}(m_NoWay:mg "NoWay"=some (.ref c_NoWay)){c_TooMany:Addr}(m_TooMany:mg "TooMany"=some (.ref c_TooMany)){c_Twice:Addr}(m_Twice:mg "Twice"=some (.ref c_Twice))(i_NoPart:XInst K (.ref c_NoPart) [("NoDeed",false),("NoPart",true)])(i_NoDeed:XInst K (.ref c_NoDeed) [("NoDeed",true),("NoPart",false)])(i_NoText_NotOpen:XInstT K [c_NoText,c_NotOpen] [("NoDeed",false),("NoPart",false)])(i_MustRing_NoHead_NoKey_NoLine_NoPlace_NoSheet:XInstT K [c_MustRing,c_NoHead,c_NoKey,c_NoLine,c_NoPlace,c_NoSheet] [("NoDeed",false),("NoPart",false)])(i_NoWay_TooMany_Twice:XInstT K [c_NoWay,c_TooMany,c_Twice] [("NoDeed",false),("NoPart",false)])(m_ValueError:mg "ValueError"=none)(i_ValueError:XInst K (.type "ValueError") [("NoDeed",true),("NoPart",true)]):FnOk P w K mg base CX0 (0+1) f fd ["_law_got_here","_law_word"] (spF K zaL):=
 zb4 F scLis c2_len λcdv A outer s H E hr=>by
  have nd:=scLis.nd
  refine⟨_,(zae (vsS 2 nd (VN.ve (zaB (zaa (zgu i_NoDeed m_NoDeed B (vv 0)) (zaa (zgu i_NoPart m_NoPart B (vv 0)) zac))))) (zae (vsS 3 nd (zlc (zdF i_MustRing_NoHead_NoKey_NoLine_NoPlace_NoSheet B (vv 0) (zaI m_MustRing (zaI m_NoHead (zaI m_NoKey (zaI m_NoLine (zaI m_NoPlace (zaI m_NoSheet zdE))))))) (zb2 (zdF i_NoText_NotOpen B (vv 0) (zaI m_NoText (zaI m_NotOpen zdE)))))) (zae (vsS 3 nd (zlc (vv 3) (zb2 (zdF i_NoWay_TooMany_Twice B (vv 0) (zaI m_NoWay (zaI m_TooMany (zaI m_Twice zdE))))))) (zah (zao (zci (zbM (zby hr) (zaH false) (vr 2) (VE.w (VN.ve (zaB (zaa (zbM (zby hr) (zaH false) (vr 1) (VE.w zaf) (zat _)) (zaa (zbM (zby hr) (zaH false) (vr 1) (VE.w zaf) (zat _)) zac))))) (zat _)) (zci (znr i_ValueError m_ValueError zdG B (vv 0)) (zb2 (zks (vv 3)))))))))),zck ?_⟩;intro pLgot_here pLword;unfold zfv;exact(zar (zay rfl) λx1=>(zar (zay rfl) λx3=>(zar (zay rfl) λx5=>(zal λ_ _ h=>h))))
def zbo (S:Scr)(pLscript pLsheet_here:D):Option D:=
 (Option.bind (Option.bind (Option.bind (Option.bind (catS S pLscript (.lst [(.int 3)])) λds=>some (.lst ds)) λv1=>(dSl v1 none (some 12))) dSeq) λds28=>Option.bind ((zc5 (λ(s2:Unit) (d3:D)=>(Option.bind (some (.lst [D.non,(.int 5),(.str "a"),(.lst []),(.tup []),(.tup [(.str "a")]),(.bl true),(.tup [(.str "q"),(.tup [(.int 0),(.int 0),(.int 1),(.int 1)]),(.str "free"),(.int 0),D.non])])) λ(x4:D)=>(Option.bind (Option.bind (zas [d3,(.int 999979),(.int 8)]) λv5=>(dIx x4 v5)) λ(x6:D)=>(Option.bind (Option.bind (Option.bind (Option.bind (aC (Option.bind (aC (some pLsheet_here) (aC (Option.bind (aC (some (.str "put")) (aC (some (.str "none")) (aC (Option.bind (dMod d3 (.int 5)) λv9=>(dSub v9 (.int 2))) (aC (some x6) aN)))) mkT) aN)) zap) (aC (some (.str "part")) aN)) zaL) dTru) λk8=>some (!k8)) λk7=>if k7 then(Option.bind (some (.bl false)) λ(r10:D)=>(some (Fl.ret r10:Fl (Unit) (D)))) else(Option.bind (Option.bind (aC (some pLsheet_here) (aC (Option.bind (aC (some (.str "put")) (aC (some D.non) (aC (Option.bind (Option.bind (bLen [pLsheet_here]) λv11=>(dAdd (.int 1) v11)) λv12=>(Option.bind (dMod d3 (.int 7)) λv13=>(dAdd v12 v13))) (aC (some x6) aN)))) mkT) aN)) zap) λ(x14:D)=>(Option.bind (Option.bind (Option.bind (Option.bind ((isX [("NoPlace",true),("NoSheet",false)]) x14) dTru) λk17=>some (!k17)) λk16=>if k16 then some true else(Option.bind ((isX [("NoPlace",false)]) x14) dTru)) λk15=>if k15 then(Option.bind (some (.bl false)) λ(r18:D)=>(some (Fl.ret r18:Fl (Unit) (D)))) else(Option.bind (Option.bind (aC (some pLsheet_here) (aC (Option.bind (aC (some (.str "put")) (aC (some D.non) (aC (Option.bind (Option.bind (bLen [pLsheet_here]) λv19=>(dAdd (.int 1) v19)) λv20=>(dMod d3 v20)) (aC (some x6) aN)))) mkT) aN)) zap) λ(x21:D)=>(Option.bind (Option.bind (Option.bind (Option.bind ((isX [("NoSheet",true)]) x21) dTru) λk24=>some (!k24)) λk23=>if k23 then some true else(Option.bind ((isX [("NoSheet",false)]) x21) dTru)) λk22=>if k22 then(Option.bind (some (.bl false)) λ(r25:D)=>(some (Fl.ret r25:Fl (Unit) (D)))) else(some (Fl.nx ():Fl (Unit) (D))))))))))) ()) ds28) (flK λ(s2:Unit)=>(Option.bind (Option.bind ((zaK S) [pLscript]) λv26=>((dEqG false) pLsheet_here v26)) λ(r27:D)=>(some r27))))
def zbp (S:Scr):List D->Option D:=c2 (zbo S)
def scLput_odd:FnScope ["_law_script","_law_sheet_here","_law_cell","_law_odd","_law_thing","_law_got_here"] ["_law_script","_law_sheet_here"] (zad zb0):=fsc
def zdV (F:Fun K "_law_put_odd" "_law_put_odd" zb0 f fd)(B:Blt mg){Pc:Hp->Prop}(pe:Pers Pc){S:Scr}(hSq:∀H,Pc H->SqF K S H)(CLmixed:Cal P w K mg base 1 "_law_mixed" ["_law_number","_law_prime","_law_many"] (spF K zas))(CLis:Cal P w K mg base 1 "_law_is" ["_law_got_here","_law_word"] (spF K zaL))(CLgot:Cal P w K mg base 53 "_law_got" ["_law_sheet_here","_law_deed"] (pcS Pc (spF K zap)))(CLsheet:Cal P w K mg base 3 "_law_sheet" ["_law_script"] (pcS Pc (spF K (zaK S)))){c_NoDeed:Addr}(m_NoDeed:mg "NoDeed"=some (.ref c_NoDeed)){c_NoSheet:Addr}(m_NoSheet:mg "NoSheet"=some (.ref c_NoSheet)){c_NoPart:Addr}(m_NoPart:mg "NoPart"=some (.ref c_NoPart)){c_NoPlace:Addr}(m_NoPlace:mg "NoPlace"=some (.ref c_NoPlace))(i_NoDeed_NoSheet_NoPart:XInstT K [c_NoDeed,c_NoSheet,c_NoPart] [("NoPlace",false)])(i_NoPlace:XInst K (.ref c_NoPlace) [("NoPlace",true),("NoSheet",false)])(i_NoDeed_NoPlace_NoPart:XInstT K [c_NoDeed,c_NoPlace,c_NoPart] [("NoSheet",false)])(i_NoSheet:XInst K (.ref c_NoSheet) [("NoSheet",true)]):FnOk P w K mg base CX0 (53+1) f fd ["_law_script","_law_sheet_here"] (pcS Pc (spF K (zbp S))):=
 zbv pe F scLput_odd c2_len λcdv A outer s H E hcv hr hPc hp=>by
  have nd:=scLput_odd.nd
  have hS:Prs _ (SqF K S):=λp Y H s I=>hSq _ (hp p Y H s I)
  refine⟨_,(zae (zdi (zcE (zbc (VE.w (VN.ve (zeA hS (vv 0) (VE.w (VN.ve (zaB (zaa zab zac))))))) zaU (zaV zab))) (vgN 2 nd) (zae (vsS 3 nd (VN.ve (zaB (zaa zaG (zaa zab (zaa zaf (zaa (VN.ve (zaB zac)) (zaa (zam zac) (zaa (zam (zaa zaf zac)) (zaa zbi (zaa (zam (zaa zaf (zaa (zam (zaa zab (zaa zab (zaa zab (zaa zab zac))))) (zaa zaf (zaa zab (zaa zaG zac)))))) zac))))))))))) (zae (vsS 4 nd (zaD (vr 3) (VE.w (zau CLmixed hr (zaa (vv 2) (zaa zab (zaa zab zac))))))) (zae (za5 (zaR (zaQ (VE.w (zau CLis hr (zaa (zaq CLgot hp hr (zaa (vv 1) (zaa (zam (zaa zaf (zaa zaf (zaa (zaw zd6 zeb (VE.w (zaw zba zbb (vr 2) (VE.w zab))) (VE.w zab)) (zaa (vv 4) zac))))) zac))) (zaa zaf zac)))))) (zah (zao zbi)) zak) (zae (vsS 5 nd (zaq CLgot hp hr (zaa (vv 1) (zaa (zam (zaa zaf (zaa zaG (zaa (zaw opAdd zcP (VE.w (zaw opAdd zcP (VE.w zab) (VE.w (ve_b zaS zbN B boot_len (zaO (vr 1) za8))))) (VE.w (zaw zba zbb (vr 2) (VE.w zab)))) (zaa (vv 4) zac))))) zac)))) (zae (za5 (VP.t (zdZ (zaR (zaQ (VE.w (zgu i_NoPlace m_NoPlace B (vv 5))))) (zcO (zaQ (VE.w (zdF i_NoDeed_NoSheet_NoPart B (vv 5) (zaI m_NoDeed (zaI m_NoSheet (zaI m_NoPart zdE))))))))) (zah (zao zbi)) zak) (zae (vsS 5 nd (zaq CLgot hp hr (zaa (vv 1) (zaa (zam (zaa zaf (zaa zaG (zaa (zaw zba zbb (vr 2) (VE.w (zaw opAdd zcP (VE.w zab) (VE.w (ve_b zaS zbN B boot_len (zaO (vr 1) za8)))))) (zaa (vv 4) zac))))) zac)))) (zae (za5 (VP.t (zdZ (zaR (zaQ (VE.w (zgu i_NoSheet m_NoSheet B (vv 5))))) (zcO (zaQ (VE.w (zdF i_NoDeed_NoPlace_NoPart B (vv 5) (zaI m_NoDeed (zaI m_NoPlace (zaI m_NoPart zdE))))))))) (zah (zao zbi)) zak) (zbO [2,3,4,5] zak))))))))) (zah (zao (zbM (zby hr) (zaH false) (vr 1) (VE.w (zaq CLsheet hp hr (zaa (vv 0) zac))) (zat _))))),zck ?_⟩;intro pLscript pLsheet_here;unfold zbo;exact(zc6 (emb:=(λ(s2:Unit)=>[.val pLscript,.val pLsheet_here,.un,.un,.un,.un])) rfl (λ_=>rfl) (λs2 d3=>(zar (zay rfl) λx4=>(zar (zay rfl) λx6=>(zav (zal λ_ _ h=>h) (zaM (zar (zay rfl) λx14=>(zav (zal λ_ _ h=>h) (zaM (zar (zay rfl) λx21=>(zav (zal λ_ _ h=>h) (zaM (zbX [2,3,4,5] (zbw λ_ h=>h))))))))))))) λs2=>(zal λ_ _ h=>h))
def zj6 (S:Scr)(pLscript:D):Option D:=
 (Option.bind ((zaK S) [pLscript]) λ(x1:D)=>(Option.bind (Option.bind (Option.bind (Option.bind (catS S pLscript (.lst [(.int 0)])) λds=>some (.lst ds)) λv2=>(dSl v2 none (some 30))) dSeq) λds41=>Option.bind ((zc5 (λ(s3:Unit) (d4:D)=>(Option.bind (Option.bind (Option.bind (Option.bind (aC (Option.bind (dIx x1 (.int 0)) λv5=>(dIx v5 (.int 0))) (aC (some (.str "none")) (aC (some (.str "")) (aC (some (.str "A")) aN)))) mkLs) λds=>some (.lst ds)) λv6=>(Option.bind (dMod d4 (.int 4)) λv7=>(dIx v6 v7))) λ(x8:D)=>(Option.bind (Option.bind (zbV [d4,x8]) dSeq) λds25=>Option.bind ((zc5 (λ(s9:Unit) (d10:D)=>(Option.bind (Option.bind (Option.bind (Option.bind (aC (Option.bind (aC (some x1) (aC (zaF [d4,d10]) aN)) zap) (aC (some (.str "deed")) aN)) zaL) dTru) λk12=>some (!k12)) λk11=>if k11 then(Option.bind (some (.bl false)) λ(r13:D)=>(some (Fl.ret (Fl.ret r13:Fl (Unit) (D)):Fl (Unit) (Fl (Unit) (D))))) else(Option.bind (Option.bind (Option.bind (dMod d4 (.int 4)) λv15=>(dGt v15 (.int 0))) dB) λk14=>if k14 then(Option.bind (zap [x1,d10]) λ(x16:D)=>(Option.bind (Option.bind (Option.bind (Option.bind (zaL [x16,(.str "part")]) dTru) λk20=>some (!k20)) λk19=>if k19 then some true else(Option.bind (Option.bind (zlI "name" ["NoPart"] x16) λv18=>((dEqG true) v18 x8)) dB)) λk17=>if k17 then(Option.bind (some (.bl false)) λ(r21:D)=>(some (Fl.ret (Fl.ret r21:Fl (Unit) (D)):Fl (Unit) (Fl (Unit) (D))))) else(some (Fl.nx ():Fl (Unit) (Fl (Unit) (D)))))) else(some (Fl.nx ():Fl (Unit) (Fl (Unit) (D))))))) ()) ds25) (flK λ(s9:Unit)=>(Option.bind (Option.bind (Option.bind ((zaK S) [pLscript]) λv23=>((dEqG true) x1 v23)) dB) λk22=>if k22 then(Option.bind (some (.bl false)) λ(r24:D)=>(some (Fl.ret r24:Fl (Unit) (D)))) else(some (Fl.nx ():Fl (Unit) (D)))))))) ()) ds41) (flK λ(s3:Unit)=>(Option.bind (some [D.non,(.bl true),(.int 0),(.str "take"),(.lst []),(.lst [(.str "take"),(.str "a")]),(.tup []),(.tup [(.str "take")]),(.tup [(.str "put")]),(.tup [(.tup [(.str "take"),(.str "a")])])]) λds40=>Option.bind ((zc5 (λ(s26:Unit) (d27:D)=>(Option.bind (Option.bind (Option.bind (Option.bind (aC (zap [x1,d27]) (aC (some (.str "deed")) aN)) zaL) dTru) λk29=>some (!k29)) λk28=>if k28 then(Option.bind (some (.bl false)) λ(r30:D)=>(some (Fl.ret r30:Fl (Unit) (D)))) else(some (Fl.nx ():Fl (Unit) (D))))) ()) ds40) (flK λ(s26:Unit)=>(Option.bind (some [(.tup [(.str "word"),D.non,(.str "free")]),(.tup [(.str "box"),D.non,(.tup [(.int 0),(.int 0),(.int 1),(.int 1)])]),(.tup [(.str "rank"),D.non,(.int 0)]),(.tup [(.str "head"),D.non,D.non])]) λds39=>Option.bind ((zc5 (λ(s31:Unit) (d32:D)=>(Option.bind (Option.bind (Option.bind (Option.bind (Option.bind (aC (zap [x1,d32]) (aC (some (.str "deed")) aN)) zaL) dTru) λk36=>some (!k36)) λk35=>if k35 then some true else(Option.bind (Option.bind (Option.bind (aC (zap [x1,(.tup [(.str "take"),D.non])]) (aC (some (.str "deed")) aN)) zaL) dTru) λk34=>some (!k34))) λk33=>if k33 then(Option.bind (some (.bl false)) λ(r37:D)=>(some (Fl.ret r37:Fl (Unit) (D)))) else(some (Fl.nx ():Fl (Unit) (D))))) ()) ds39) (flK λ(s31:Unit)=>(Option.bind ((zbp S) [pLscript,x1]) λ(r38:D)=>(some r38)))))))))
def zlR (S:Scr):List D->Option D:=c1 (zj6 S)
def sc_law:FnScope ["_law_script","_law_sheet_here","_law_cell","_law_name","_law_deed","_law_got_here","_law_thing"] ["_law_script"] (zad zeB):=fsc
def znI (F:Fun K "law" "law" zeB f fd)(B:Blt mg){Pc:Hp->Prop}(pe:Pers Pc){S:Scr}(hSq:∀H,Pc H->SqF K S H)(CLsheet:Cal P w K mg base 3 "_law_sheet" ["_law_script"] (pcS Pc (spF K (zaK S))))(CLright:Cal P w K mg base 1 "_law_right" ["_law_cell","_law_name"] (spF K zbV))(CLis:Cal P w K mg base 1 "_law_is" ["_law_got_here","_law_word"] (spF K zaL))(CLgot:Cal P w K mg base 53 "_law_got" ["_law_sheet_here","_law_deed"] (pcS Pc (spF K zap)))(CLbent:Cal P w K mg base 3 "_law_bent" ["_law_cell","_law_deed"] (spF K zaF))(CLput_odd:Cal P w K mg base 54 "_law_put_odd" ["_law_script","_law_sheet_here"] (pcS Pc (spF K (zbp S))))(XF_name:XFld K "name" ["NoPart"]):FnOk P w K mg base CX0 (54+1) f fd ["_law_script"] (pcS Pc (spF K (zlR S))):=
 zbv pe F sc_law c1_len λcdv A outer s H E hcv hr hPc hp=>by
  have nd:=sc_law.nd
  have hS:Prs _ (SqF K S):=λp Y H s I=>hSq _ (hp p Y H s I)
  refine⟨_,(zae (vsS 1 nd (zaq CLsheet hp hr (zaa (vv 0) zac))) (zae (zdi (zcE (zbc (VE.w (VN.ve (zeA hS (vv 0) (VE.w (VN.ve (zaB (zaa zab zac))))))) zaU (zaV zab))) (vgN 2 nd) (zae (vsS 3 nd (zaD (VE.w (VN.ve (zaB (zaa (zaD (VE.w (zaD (vr 1) (VE.w zab))) (VE.w zab)) (zaa zaf (zaa zaf (zaa zaf zac))))))) (VE.w (zaw zba zbb (vr 2) (VE.w zab))))) (zae (zdi (zcE (zau CLright hr (zaa (vv 2) (zaa (vv 3) zac)))) (vgN 4 nd) (zae (za5 (zaR (zaQ (VE.w (zau CLis hr (zaa (zaq CLgot hp hr (zaa (vv 1) (zaa (zau CLbent hr (zaa (vv 2) (zaa (vv 4) zac))) zac))) (zaa zaf zac)))))) (zah (zao zbi)) zak) (zae (za5 (zaA zhC zhY (VE.w (zaw zba zbb (vr 2) (VE.w zab))) (VE.w zab) (zat _)) (zae (vsS 5 nd (zaq CLgot hp hr (zaa (vv 1) (zaa (vv 4) zac)))) (zae (za5 (VP.t (zdZ (zaR (zaQ (VE.w (zau CLis hr (zaa (vv 5) (zaa zaf zac)))))) (zcO (zaA (zic hr) (zaH true) (VE.w (zlJ XF_name (vv 5))) (vr 3) (zat _))))) (zah (zao zbi)) zak) zak)) zak) (zbO [4,5] zak)))) (zae (za5 (zaA (zic hr) (zaH true) (vr 1) (VE.w (zaq CLsheet hp hr (zaa (vv 0) zac))) (zat _)) (zah (zao zbi)) zak) (zbO [2,3,4,5] zak))))) (zae (zdi (zcE (VN.ve (zaB (zaa zaG (zaa zbi (zaa zab (zaa zaf (zaa (VN.ve (zaB zac)) (zaa (VN.ve (zaB (zaa zaf (zaa zaf zac)))) (zaa (zam zac) (zaa (zam (zaa zaf zac)) (zaa (zam (zaa zaf zac)) (zaa (zam (zaa (zam (zaa zaf (zaa zaf zac))) zac)) zac))))))))))))) (vgN 6 nd) (zae (za5 (zaR (zaQ (VE.w (zau CLis hr (zaa (zaq CLgot hp hr (zaa (vv 1) (zaa (vv 6) zac))) (zaa zaf zac)))))) (zah (zao zbi)) zak) (zbO [6] zak))) (zae (zdi (zcE (VN.ve (zaB (zaa (zam (zaa zaf (zaa zaG (zaa zaf zac)))) (zaa (zam (zaa zaf (zaa zaG (zaa (zam (zaa zab (zaa zab (zaa zab (zaa zab zac))))) zac)))) (zaa (zam (zaa zaf (zaa zaG (zaa zab zac)))) (zaa (zam (zaa zaf (zaa zaG (zaa zaG zac)))) zac))))))) (vgN 4 nd) (zae (za5 (VP.t (zdZ (zaR (zaQ (VE.w (zau CLis hr (zaa (zaq CLgot hp hr (zaa (vv 1) (zaa (vv 4) zac))) (zaa zaf zac)))))) (zcO (zaR (zaQ (VE.w (zau CLis hr (zaa (zaq CLgot hp hr (zaa (vv 1) (zaa (zam (zaa zaf (zaa zaG zac))) zac))) (zaa zaf zac))))))))) (zah (zao zbi)) zak) (zbO [4] zak))) (zah (zao (zaq CLput_odd hp hr (zaa (vv 0) (zaa (vv 1) zac))))))))),zdk ?_⟩;intro pLscript;unfold zj6;exact(zar (zay rfl) λx1=>(zc6 (emb:=(λ(s3:Unit)=>[.val pLscript,.val x1,.un,.un,.un,.un,.un])) rfl (λ_=>rfl) (λs3 d4=>(zar (zay rfl) λx8=>(zc6 (emb:=(λ(s9:Unit)=>[.val pLscript,.val x1,.val d4,.val x8,.un,.un,.un])) rfl (λ_=>rfl) (λs9 d10=>(zav (zal λ_ _ h=>h) (zaM (zm0 (zgl (zar (zay rfl) λx16=>(zgl (zav (zal λ_ _ h=>h) (zaM (zaM (zbX [4,5] (zbw λ_ h=>h)))))))) (zaM (zbX [4,5] (zbw λ_ h=>h))))))) λs9=>(zav (zal λ_ _ h=>h) (zaM (zbX [2,3,4,5] (zbw λ_ h=>h))))))) λs3=>(zc6 (emb:=(λ(s26:Unit)=>[.val pLscript,.val x1,.un,.un,.un,.un,.un])) rfl (λ_=>rfl) (λs26 d27=>(zav (zal λ_ _ h=>h) (zaM (zbX [6] (zbw λ_ h=>h))))) λs26=>(zc6 (emb:=(λ(s31:Unit)=>[.val pLscript,.val x1,.un,.un,.un,.un,.un])) rfl (λ_=>rfl) (λs31 d32=>(zav (zal λ_ _ h=>h) (zaM (zbX [4] (zbw λ_ h=>h))))) λs31=>(zal λ_ _ h=>h)))))
end
end Pg
namespace Pg
open PySem PyProof PyProof.Rows L2 VD GM GB
def ziN (x:Itm)(dp:Nat)(inn:List D):dIx (part x dp inn) (.int 0)=some (.str x.nm)/\dIx (part x dp inn) (.int 2)=some (.str x.wd)/\dIx (part x dp inn) (.int 3)=some (.int x.rk)/\dIx (part x dp inn) (.int 5)=some (.tup inn):=
 ⟨zbh (j:=0) rfl,zbh (j:=2) rfl,zbh (j:=3) rfl,zbh (j:=5) rfl⟩
def innD:D->List D
|.tup [_,_,_,_,_,.tup l]=>l
|_=>[]
def plI (rc:List D->List D->List D->List (List D×List D))(pre ch:List D):Nat->List D->List (List D×List D)
|_,[]=>[]
|i,d::ds=>(pre++[.int (i:Int)],ch++[d])::(rc (innD d) (pre++[.int (i:Int)]) (ch++[d])++plI rc pre ch (i+1) ds)
def zgz (rc:List D->List D->List D->List (List D×List D))(pre ch:List D)(b:Nat)(x:Itm)(dp:Nat)(inn es:List D):plI rc pre ch b (part x dp inn::es)=(pre++[.int (b:Int)],ch++[part x dp inn])::(rc inn (pre++[.int (b:Int)]) (ch++[part x dp inn])++plI rc pre ch (b+1) es):=rfl
def pl:Nat->List D->List D->List D->List (List D×List D)
|0,_,_,_=>[]
|n+1,ds,pre,ch=>plI (pl n) pre ch 0 ds
def zhk (c:List D):D:=c.getLast?.getD .non
def zeg (c:List D)(d:D):zhk (c++[d])=d:=by unfold zhk;simp
def ent (q:List D×List D):D:=.tup [.tup q.1,zhk q.2]
def zlS {pre:List D}{d:D}(h:pre.length<=100):dAdd (.tup pre) (.tup [d])=some (.tup (pre++[d])):=by
 rw[dAdd,if_neg (by simp)];unfold mkT;rw[if_pos (wam (by simp;omega:_<=101) (by decide))]
def znJ {xs es:List D}(h:xs.length+es.length<=1000):extL xs (.lst es)=some (xs++es):=by
 show(if(xs++es).length<=lim then _ else _)=_
 rw[if_pos (wam (by rw[wal];omega:_<=1000) (by decide))]
def ac2 (a b:D):aC (some a) (aC (some b) aN)=some [a,b]:=rfl
def zlT {S:Type}(f:S->D->Option S)(s:S)(d:D)(ds:List D):zcj f s (d::ds)=(f s d).bind λs=>zcj f s ds:=rfl
def ziO:∀{n:Nat}{ds pre ch:List D},Ok n ds->(pl (n+1) ds pre ch).length<=1000->pre.length+n<=100->zaE (n+1) [.tup ds,.tup pre]=some (.lst ((pl (n+1) ds pre ch).map ent)):=by
 intro n;induction n with
|zero=>intro ds pre ch o _ _;rw[show ds = [] from o];rfl
|succ n ih=>
   intro ds pre ch o hl hp;show zbd (zaE (n+1)) (.tup ds) (.tup pre)=_
   unfold zbd;rw[zOB];show Option.bind (Option.bind (some (zeX ds)) _) _=_
   rw[zOB];generalize hf:(λ(s2:List D) (d8:D)=>Option.bind (un2 d8) _)=f;have stp:∀(acc:List D) (i:Nat) (x:Itm) (dp:Nat) (inn:List D),Ok n inn->acc.length+1+(pl (n+1) inn (pre++[.int (i:Int)]) (ch++[part x dp inn])).length<=1000->
    f acc (.tup [.int (i:Int),part x dp inn])=some (acc++ent (pre++[.int (i:Int)],ch++[part x dp inn])::(pl (n+1) inn (pre++[.int (i:Int)]) (ch++[part x dp inn])).map ent):=by
    intro acc i x dp inn oi ha;rw[<-hf];show Option.bind (dAdd (.tup pre) (.tup [.int (i:Int)])) _=_
    rw[zlS (by omega),zOB,zlx (Nat.lt_of_le_of_lt (by omega:_<=1000) (by decide)),zOB,(ziN x dp inn).2.2.2,ac2,zOB,ih (ch:=ch++[part x dp inn]) oi (by omega) (by simp;omega),zOB,znJ (by simp;omega),zOB];unfold ent;rw[zeg];simp
   have key:∀(ds:List D) (b:Nat) (acc:List D),(∀d∈ds,∃x dp inn,d=part x dp inn/\Ok n inn)->acc.length+(plI (pl (n+1)) pre ch b ds).length<=1000->zcj f acc ((ds.zipIdx b).map λp=>.tup [.int (p.2:Nat),p.1])=some (acc++(plI (pl (n+1)) pre ch b ds).map ent):=by
    intro ds;induction ds with
   |nil=>intro b acc _ _;show some acc=some (acc++[]);rw[wbe]
   |cons d ds ih2=>
      intro b acc o ha;obtain⟨x,dp,inn,rfl,oi⟩:=o d waj;rw[zgz] at ha⊢;rw[wbg,wal] at ha;rw[List.zipIdx_cons,wbt,zlT,stp acc b x dp inn oi (by omega),zOB,ih2 _ _ (λy hy=>o y (waf _ hy)) (by simp;omega)];simp
   have e9:=key ds 0 [] o (by rw[List.length_nil,Nat.zero_add];exact hl)
   rw[show(zcj f [] (zeX ds))=_ from e9];rfl
def zf6:∀{n:Nat}{ds pre ch:List D},Ok n ds->(pl (n+1) ds pre ch).map (λq=>zhk q.2)=ot (λ_=>true) (n+1) ds:=by
 intro n;induction n with
|zero=>intro ds pre ch o;rw[show ds = [] from o];rfl
|succ n ih=>
   intro ds pre ch o;have key:∀(es:List D) (b:Nat),(∀d∈es,∃x dp inn,d=part x dp inn/\Ok n inn)->(plI (pl (n+1)) pre ch b es).map (λq=>zhk q.2)=ot (λ_=>true) (n+1+1) es:=by
    intro es;induction es with
   |nil=>intro b _;rfl
   |cons d es ih2=>
      intro b o;obtain⟨x,dp,inn,rfl,oi⟩:=o d waj;rw[zgz,ziJ,wbt,List.map_append,ih oi,ih2 _ λy hy=>o y (waf _ hy),zeg];rfl
   exact key ds 0 o
def inD (P:List Nat):List D:=P.map λ(i:Nat)=>D.int (i:Int)
def trI (rc:List D->List Nat->List (List D×D))(pre:List Nat):Nat->List D->List (List D×D)
|_,[]=>[]
|b,d::ds=>(inD (pre++[b]),d)::(rc (innD d) (pre++[b])++trI rc pre (b+1) ds)
def tr:Nat->List D->List Nat->Nat->List (List D×D)
|0,_,_,_=>[]
|n+1,ds,pre,b=>trI (λinn pre=>tr n inn pre 0) pre b ds
def bat (P:List Nat)(d:Nat):Nat:=match P[d]? with
|some i=>i+1
|none=>0
def stp (P:List Nat)(c:Nat):List Nat:=P.take c++[bat P c]
def sl (G:Nat->List (List D×D)):Nat->List (List D×D)
|0=>[]
|d+1=>G d++sl G d
def ziP {ds:List D}(o:Ok 7 ds)(hl:(ot (λ_=>true) 8 ds).length<=1000):zbn [.tup ds]=some (.lst ((pl 8 ds [] []).map ent)):=by
 have l1:(pl 8 ds [] []).length<=1000:=by
  have:=wbJ List.length (zf6 (pre:=[]) (ch:=[]) o)
  rw[waG] at this;show(pl (7+1) ds [] []).length<=1000
  rw[this];exact hl
 show zbm (.tup ds)=_
 unfold zbm;rw[ziO (n:=7) (ch:=[]) o l1 (by decide)];rfl
def nmOk (y:Str):Prop:=1<=y.length/\y.length<=8/\∀c∈y.cps.toList,97<=c/\c<123
def znK {c:Nat}(h0:97<=c)(h1:c<123):inTx ⟨#[c]⟩ "abcdefghijklmnopqrstuvwxyz"=true:=by
 have h:∀i<26,inTx ⟨#[97+i]⟩ "abcdefghijklmnopqrstuvwxyz"=true:=by decide +kernel
 have:=h (c - 97) (by omega)
 rwa [show 97+(c - 97)=c by omega] at this
theorem zdW {α:Type}{f:D->Option Bool}(h:α->D)(g:α->Bool):∀{ds:List α},(∀d∈ds,f (h d)=some (g d))->zez f (ds.map h)=some (ds.map g)
|[],_=>rfl
|d::ds,k=>by
   show(f (h d)).bind _=_
   rw[k d waj,zOB,zdW h g λy hy=>k y (waf _ hy)];rfl
def zj7 {α:Type}{g:α->Bool}{ds:List α}(h:∀d∈ds,g d=true):(ds.map g).all id=true:=by
 rw[waJ];intro b hb;obtain⟨d,hd,rfl⟩:=wcn.mp hb;exact h d hd
def ziQ {y:Str}(h:nmOk y):zbt [.str y]=some (.bl true):=by
 obtain⟨h1,h2,h3⟩:=h;have l:bLen [.str y]=some (.int y.length):=if_pos (wam h2 (by decide))
 show zcV _=_
 unfold zcV;rw[show isD "str" (.str y)=some (.bl true) from rfl,l];show Option.bind (Option.bind (Option.bind (Option.bind (some (D.bl (decide ((1:Int)<=(y.length:Int))))) λzk3=>Option.bind (dB zk3) λk3=>if k3 then(dLe (.int y.length) (.int 8)) else some (.bl false)) dB) λk2=>some (!k2)) _=_
 rw[wax (show(1:Int)<=(y.length:Int) by omega)];show Option.bind (Option.bind (Option.bind (some (D.bl (decide ((y.length:Int)<=8)))) dB) λk2=>some (!k2)) _=_
 rw[wax (show(y.length:Int)<=8 by omega)];show Option.bind (Option.bind (some (y.cps.toList.map λc=>D.str ⟨#[c]⟩)) _) _=_
 rw[zOB,zdW (λc=>D.str ⟨#[c]⟩) (λ_=>true) λc hc=>by
  show some (inTx ⟨#[c]⟩ "abcdefghijklmnopqrstuvwxyz")=_
  rw[znK (h3 c hc).1 (h3 c hc).2],zOB,zj7 λ_ _=>rfl]
 rfl
def zkC {x:Itm}(h1:1<=x.bc)(h2:1<=x.bd):zbe [x.bx]=some (.bl true):=by
 show zcA (.tup [.int x.ba,.int x.bb,.int x.bc,.int x.bd])=_
 unfold zcA;have g:∀a b:Int,dGe (.int a) (.int b)=some (.bl (decide (b<=a))):=λ_ _=>rfl
 have i2:dIx (.tup [.int x.ba,.int x.bb,.int x.bc,.int x.bd]) (.int 2)=some (.int x.bc):=zbh (j:=2) rfl
 have i3:dIx (.tup [.int x.ba,.int x.bb,.int x.bc,.int x.bd]) (.int 3)=some (.int x.bd):=zbh (j:=3) rfl
 rw[i2,i3];show Option.bind (Option.bind (Option.bind (some (D.bl (decide (1<=x.bc)))) dB) λk11=>if k11 then(some (D.bl (decide (1<=x.bd)))) else some (.bl false)) _=_
 rw[wax h1,wax h2];rfl
def Wd (w:Str):Prop:=w = "free"\/w = "shut"\/w = "hidden"
def ziR {w:Str}(h:Wd w):zbf [.str w]=some (.bl true):=by
 rcases h with rfl|rfl|rfl <;> rfl
def ziS {r:Int}(h:0<=r):za1 [.int r]=some (.bl true):=by
 show Option.bind (some (D.bl (decide (0<=r)))) _=_
 rw[wax h];rfl
def zlU {h:Option Str}(k:∀y,h=some y->nmOk y):zbJ [hdO h]=some (.bl true):=by
 cases h with
|none=>rfl
|some y=>
   show Option.bind (zbt [.str y]) _=_
   rw[ziQ (k y rfl)];rfl
structure Gd (x:Itm):Prop where
 nm:nmOk x.nm
 c:1<=x.bc
 d:1<=x.bd
 wd:Wd x.wd
 rk:0<=x.rk
 hd:∀y,x.hd=some y->nmOk y
def zfw {self:List D->Option D}{x:Itm}(g:Gd x){dp:Nat}{inn:List D}{deep:Int}{b:Bool}(h:self [.tup inn,.int (deep+1)]=some (.bl b)):(zaJ self) [part x dp inn,.int deep]=some (.bl b):=by
 show zcW self (.tup [.str x.nm,x.bx,.str x.wd,.int x.rk,hdO x.hd,.tup inn]) (.int deep)=_
 unfold zcW;show Option.bind (Option.bind (Option.bind (Option.bind (zbt [.str x.nm]) dTru) λk12=>some (!k12)) λk11=>if k11 then some true else(Option.bind (Option.bind (Option.bind (zbe [x.bx]) dTru) λk10=>some (!k10)) λk9=>if k9 then some true else(Option.bind (Option.bind (zbf [.str x.wd]) dTru) λk8=>some (!k8)))) _=_
 rw[ziQ g.nm,zkC g.c g.d,ziR g.wd];show Option.bind (Option.bind (Option.bind (za1 [.int x.rk]) dB) λk15=>if k15 then(Option.bind (Option.bind (zbJ [hdO x.hd]) dB) λk14=>if k14 then(Option.bind (aC (some (.tup inn)) (aC (some (.int (deep+1))) aN)) self) else some (.bl false)) else some (.bl false)) _=_
 rw[ziS g.rk,zlU g.hd];show Option.bind (self [.tup inn,.int (deep+1)]) _=_
 rw[h];rfl
def zkD {n:Nat}{ds:List D}{deep:Int}(bf:D->Bool)(hd:deep<=5)(hp:∀d∈ds,zaJ (zan n) [d,.int deep]=some (.bl (bf d))):zan (n+1) [.tup ds,.int deep]=some (.bl (ds.all bf)):=by
 show zcd (zan n) (.tup ds) (.int deep)=_
 unfold zcd;rw[show isD "tuple" (.tup ds)=some (.bl true) from rfl,show dGt (.int deep) (.int 5)=some (.bl (decide (5<deep))) from rfl,wao (by omega)];have e:(Option.bind (dTru (.tup ds)) λk5=>if k5 then(Option.bind (some (D.bl false)) dB) else some false)=some false:=by
  show(if(!ds.isEmpty)=true then some false else some false)=_
  split <;> rfl
 show Option.bind (Option.bind (dTru (.tup ds)) λk5=>if k5 then(Option.bind (some (D.bl false)) dB) else some false) _=_
 rw[e];show Option.bind (Option.bind (zez (λd7=>Option.bind ((zaJ (zan n)) [d7,.int deep]) dB) ds) _) _=_
 have hb:zez (λd7=>Option.bind ((zaJ (zan n)) [d7,.int deep]) dB) ds=some (ds.map bf):=by
  have:=zdW (f:=λd7=>Option.bind ((zaJ (zan n)) [d7,.int deep]) dB) (λd=>d) bf (ds:=ds) λd hd=>by rw[hp d hd];rfl
  rwa [List.map_id'] at this
 rw[hb,zOB,zOB,List.all_map];rfl
def zlV (n:Nat)(deep:Int):zan (n+1) [.tup [],.int deep]=some (.bl true):=rfl
def GOk:Nat->List D->Prop
|0,ds=>ds = []
|n+1,ds=>∀d∈ds,∃x dp inn,d=part x dp inn/\Gd x/\GOk n inn
theorem zkE:∀{n:Nat}{ds:List D}{deep:Int}{m:Nat},GOk n ds->deep+n<=6->n+1<=m->zan m [.tup ds,.int deep]=some (.bl true)
|0,ds,deep,m+1,o,_,_=>by rw[show ds = [] from o];exact zlV m deep
|n+1,ds,deep,m+1,o,hd,hm=>by
   rw[zkD (n:=m) (λ_=>true) (by omega) λd h=>by
    obtain⟨x,dp,inn,rfl,g,oi⟩:=o d h;exact zfw g (zkE oi (by omega) (by omega))]
   simp
def zkF {ds:List D}(o:GOk 5 ds):∀d∈ds,zaJ (zan 6) [d,.int 1]=some (.bl true):=λd h=>by
 obtain⟨x,dp,inn,rfl,g,oi⟩:=o d h;exact zfw g (zkE (n:=4) oi (by decide) (by decide))
def zeh {xs:List D}{P:D->Prop}{i:Int}(h:∀d∈xs,P d)(h0:0<=i)(h1:i<xs.length):∃d,dIx (.lst xs) (.int i)=some d/\P d:=by
 obtain⟨x,hx,e⟩:=zlw (xs:=xs) h0 h1;exact⟨x,e,h x (waW hx)⟩
def zc0 {c p m:Int}(p0:0<p)(p1:p<1000000000)(m0:0<m):∃r,zas [.int c,.int p,.int m]=some (.int r)/\0<=r/\r<m:=by
 have hm:∀a b:Int,0<b->dMod (.int a) (.int b)=some (.int (a % b)):=λa b h=>if_pos h
 have hr:∀a b:Int,-(2 ^ 64)<b->b<2 ^ 64->dMul (.int a) (.int b)=some (.int (a*b)):=λa b h1 h2=>if_pos (show CMul a b from .inr ⟨h1,h2⟩)
 have ha:∀a b:Int,dAdd (.int a) (.int b)=some (.int (a+b)):=λ_ _=>rfl
 refine⟨c % 1000003*48271 % p*(c % 65521+3) % 2147483629 % m,?_,waN _ (Int.ne_of_gt m0),wbi _ m0⟩
 .show zbS _ _ _=_
  unfold zbS;rw[hm _ _ (by decide),zOB,hr _ _ (by decide) (by decide),zOB,hm _ _ p0,zOB,hm _ _ (by decide),zOB,ha,zOB,hr _ _ (by have:=waN c (b:=65521) (by decide);omega) (by have:=wbi c (b:=65521) (by decide);omega),zOB,hm _ _ (by decide),zOB,hm _ _ m0,zOB]
def Nm (y:Str):Prop:=∃(c:Nat) (m:Int),c<9/\1<=m/\m<=8/\y=Txt.mul (sg (97+c)) m
def zot {y:Str}(h:Nm y):nmOk y:=by
 obtain⟨c,m,hc,h1,h8,rfl⟩:=h;have hl:=zlv (97+c) m h1
 refine⟨by rw[hl];omega,by rw[hl];omega,λx hx=>?_⟩;rw[zfM _ _ h1] at hx;rw[(wbT.mp hx).2];omega
def zlW {y:Str}(h:Nm y):y≠"none"/\y≠""/\y≠"A":=by
 obtain⟨c,m,hc,h1,h8,rfl⟩:=h;have key:=zfM (97+c) m h1
 refine⟨λe=>?_,λe=>?_,λe=>?_⟩
 .rw[e] at key;have k:("none" : Str).cps.toList = [110,111,110,101]:=by decide +kernel
  rw[k] at key;have a0:(110:Nat)∈List.replicate m.toNat (97+c):=by rw[<-key];simp
  have a1:(111:Nat)∈List.replicate m.toNat (97+c):=by rw[<-key];simp
  have:=(wbT.mp a0).2
  have:=(wbT.mp a1).2
  omega
 .rw[e] at key;have k:("" : Str).cps.toList = []:=by decide +kernel
  rw[k] at key;have:=wbJ List.length key
  rw[wbZ] at this;simp at this;omega
 .rw[e] at key;have k:("A" : Str).cps.toList = [65]:=by decide +kernel
  rw[k] at key;have a0:(65:Nat)∈List.replicate m.toNat (97+c):=by rw[<-key];simp
  have:=(wbT.mp a0).2
  omega
def Cn:Nat->List D->Prop
|0,ds=>ds = []
|n+1,ds=>∀d∈ds,∃x inn,d=part x 0 inn/\(Gd x/\Nm x.nm)/\inn.length<=1/\Cn n inn
def Cn.nil:∀{n:Nat},Cn n []
|0=>rfl
|_+1=>λd h=>by cases h
theorem Cn.up:∀{n:Nat}{ds:List D},Cn n ds->Cn (n+1) ds
|0,ds,h=>by rw[show ds = [] from h];exact Cn.nil
|n+1,ds,h=>λd hd=>by
   obtain⟨x,inn,e,g,l,o⟩:=h d hd;exact⟨x,inn,e,g,l,o.up⟩
theorem Cn.gok:∀{n:Nat}{ds:List D},Cn n ds->GOk n ds
|0,ds,h=>h
|n+1,ds,h=>λd hd=>by
   obtain⟨x,inn,e,g,l,o⟩:=h d hd;exact⟨x,0,inn,e,g.1,o.gok⟩
theorem Cn.ok:∀{n:Nat}{ds:List D},Cn n ds->Ok n ds
|0,ds,h=>h
|n+1,ds,h=>λd hd=>by
   obtain⟨x,inn,e,g,l,o⟩:=h d hd;exact⟨x,0,inn,e,o.ok⟩
theorem Cn.ot:∀{n m:Nat}{ds:List D},Cn n ds->n<=m->(ot (λ_=>true) m ds).length<=n*ds.length/\∀d∈ot (λ_=>true) m ds,∃x inn,d=part x 0 inn/\Nm x.nm
|0,m,ds,h,_=>by
   rw[show ds = [] from h];cases m with
  |zero=>exact⟨wai _,λd hd=>by cases hd⟩
  |succ m=>exact⟨wai _,λd hd=>by cases hd⟩
|n+1,m+1,ds,h,hm=>by
   induction ds with
  |nil=>exact⟨wai _,λd hd=>by cases hd⟩
  |cons d ds ih=>
     obtain⟨x,inn,rfl,g,l,o⟩:=h d waj;obtain⟨a1,a2⟩:=Cn.ot (m:=m) o (by omega);obtain⟨b1,b2⟩:=ih λe he=>h e (waf _ he)
     rw[ziJ];refine⟨?_,λe he=>?_⟩
     .rw[if_pos rfl,wal,wbg,wbg,Nat.mul_succ];have:n*inn.length<=n:=by
       have:=Nat.mul_le_mul_left n l
       omega
      omega
     .rw[if_pos rfl] at he;rcases waM.mp he with he|he
      .rcases wah.mp he with rfl|he
       .exact⟨x,inn,rfl,g.2⟩
       .exact a2 e he
      .exact b2 e he
def znL {ds:List D}(o:Cn 3 ds)(hl:ds.length<=9):zbC [.tup ds]=some (.lst (GB.ot (λ_=>true) 8 ds)):=by
 have o7:Ok 7 ds:=o.up.up.up.up.ok
 have l27:=(o.ot (m:=8) (by decide)).1
 show zcz _=_
 unfold zcz;rw[ziP o7 (by omega),zOB];show Option.bind (Option.bind (zjD _ ((pl 8 ds [] []).map ent)) _) _=_
 have hp:=wbJ List.length (zf6 (pre:=[]) (ch:=[]) o7)
 rw[waG] at hp;have hp:(pl 8 ds [] []).length=(GB.ot (λ_=>true) 8 ds).length:=hp
 rw[zig ent (λq=>zhk q.2) (by omega) λq hq=>rfl,<-zf6 (pre:=[]) (ch:=[]) o7];rfl
def zdd {ds:List D}(o:Cn 3 ds)(hl:ds.length<=9){nm:Str}(h:∀y,Nm y->y≠nm)(ok:zex (.str nm)=true):za0 [.tup ds,.str nm]=some (.exc "NoPart" ["name"] [.str nm]):=by
 show zcU (.tup ds) (.str nm)=_
 unfold zcU;rw[znL o hl];show Option.bind (zcj _ () (GB.ot (λ_=>true) 8 ds)) _=_
 generalize hf:(λ(s1:Unit) (d2:D)=>(Option.bind (Option.bind (Option.bind (dIx d2 (.int 0)) λv4=>((dEqG false) v4 (.str nm))) dB) λk3=>if k3 then none else some ()))=f;have key:∀l:List D,(∀d∈l,∃x inn,d=part x 0 inn/\Nm x.nm)->zcj f () l=some ():=by
  intro l;induction l with
 |nil=>intro _;rfl
 |cons d l ih=>
    intro hd;obtain⟨x,inn,rfl,hn⟩:=hd d waj;show(f () (part x 0 inn)).bind _=_
    rw[<-hf];dsimp only[];rw[(ziN x 0 inn).1,zOB,zdp,wao (h _ hn)];rw[hf];exact ih λe he=>hd e (waf _ he)
 rw[key _ (o.ot (m:=8) (by decide)).2,zOB];show Option.bind (if zex (.str nm) then _ else none) _=_
 rw[if_pos ok];rfl
def zgA {ds:List D}{q:D}:VD.cut (ds++[q]) (some (-1)) none = [q]/\VD.cut (ds++[q]) none (some (-1))=ds:=by
 have e1:HT.sIx (ds++[q]).length 0 (some (-1))=ds.length:=by
  show(if(-1:Int)<0 then((-1:Int)+((ds++[q]).length:Int)).toNat else min ((-1:Int).toNat) (ds++[q]).length)=_
  rw[if_pos (by decide),wal,waz];omega
 have e2:HT.sIx (ds++[q]).length (ds++[q]).length (some (-1))=ds.length:=by
  show(if(-1:Int)<0 then((-1:Int)+((ds++[q]).length:Int)).toNat else min ((-1:Int).toNat) (ds++[q]).length)=_
  rw[if_pos (by decide),wal,waz];omega
 constructor
 .unfold VD.cut;rw[e1];show((ds++[q]).drop ds.length).take ((ds++[q]).length - ds.length) = [q]
  rw[List.drop_left (l₁:=ds),wal,waz,Nat.add_sub_cancel_left];rfl
 .unfold VD.cut;rw[e2];show((ds++[q]).drop 0).take (ds.length - 0)=ds
  rw[List.drop_zero,Nat.sub_zero,List.take_left (l₁:=ds)]
def zgB:VD.cut ([]:List D) (some (-1)) none = []/\VD.cut ([]:List D) none (some (-1)) = []:=⟨rfl,rfl⟩
def zhl (ds:List D)(o:Cn 3 ds):∃a b,VD.cut ds (some (-1)) none=b/\VD.cut ds none (some (-1))=a/\Cn 3 a/\Cn 3 b/\b.length<=1/\a.length<=ds.length:=by
 rcases List.eq_nil_or_concat ds with rfl|⟨a,q,rfl⟩
 .exact⟨[],[],zgB.1,zgB.2,Cn.nil,Cn.nil,waT _,wai _⟩
 .rw[List.concat_eq_append] at o⊢;exact⟨a,[q],zgA.1,zgA.2,λd hd=>o d (wbk _ hd),λd hd=>o d (wan _ hd),wai _,by simp⟩
def abc9 {k:Nat}(h:k<9):dIx (.str "abcdefghi") (.int (k:Int))=some (.str (sg (97+k))):=by
 have q:∀n:Fin 9,("abcdefghi" : Str).cps.toList[n.val]?=some (97+n.val):=by decide +kernel
 show(atI ("abcdefghi" : Str).cps.toList (k:Int)).map (λc=>D.str (sg c))=_
 rw[zbh (q ⟨k,h⟩)];rfl
def ziT {S:Scr}(h63:S.ns.length<=63)(n:Int):catS S (.scr S.p) (.lst [.int n])=some ((S.ns++[n]).map D.int):=by
 show(if S.p=S.p/\S.ns.length+1<=lim then some (S.ns.map D.int++[.int n]) else none)=_
 rw[if_pos ⟨rfl,wam (Nat.succ_le_succ h63) (by decide)⟩,List.map_append];rfl
def zkG {xs:List Int}{i:Int}(h0:0<=i)(h1:i<xs.length):∃c,dIx (.lst (xs.map D.int)) (.int i)=some (.int c):=by
 obtain⟨_,e,c,rfl⟩:=zeh (P:=λd=>∃c,d=.int c) (xs:=xs.map D.int) (i:=i) (λd hd=>by
  obtain⟨c,_,rfl⟩:=wcn.mp hd;exact⟨c,rfl⟩) h0 (by rw[waG];exact h1)
 exact⟨c,e⟩
def zcr (xs:List D)(y:D):za4 (.tup xs) (.tup [y])=mkT (xs++[y]):=by
 show(if([y]:List D) = [] then(if xs = [] then none else mkT xs) else mkT (xs++[y]))=_
 rw[if_neg (List.cons_ne_nil _ _)]
def zou (x:Itm)(inn new:List D):Option.bind (dSlW (part x 0 inn) none (some 5)) (λv=>za4 v (.tup [.tup new]))=some (part x 0 new):=by
 rw[show dSlW (part x 0 inn) none (some 5)=some (.tup [.str x.nm,x.bx,.str x.wd,.int x.rk,hdO x.hd]) from rfl,zOB,zcr];exact if_pos (by show 6<=lim;decide)
def znM (x22:D):Option D:=
 (Option.bind (Option.bind (Option.bind (Option.bind (Option.bind (aC (dIx x22 (.int 5)) aN) bLen) λv36=>(dGt v36 (.int 0))) dB) λk35=>if k35 then(Option.bind (Option.bind (Option.bind (Option.bind (aC (Option.bind (Option.bind (dIx x22 (.int 5)) λv32=>(dIx v32 (.int 0))) λv33=>(dIx v33 (.int 5))) aN) bLen) λv34=>(dGt v34 (.int 0))) dB) λk31=>if k31 then(Option.bind (Option.bind (Option.bind (aC (Option.bind (Option.bind (Option.bind (Option.bind (dIx x22 (.int 5)) λv26=>(dIx v26 (.int 0))) λv27=>(dIx v27 (.int 5))) λv28=>(dIx v28 (.int 0))) λv29=>(dIx v29 (.int 5))) aN) bLen) λv30=>(dGt v30 (.int 0))) dB) else some false) else some false) λk25=>if k25 then(Option.bind (Option.bind (dSlW x22 none (some 5)) λv39=>(Option.bind (Option.bind (aC (Option.bind (Option.bind (dIx x22 (.int 5)) λv37=>(dIx v37 (.int 0))) λv38=>(dIx v38 (.int 5))) aN) mkT) λv40=>(za4 v39 v40))) λ(x41:D)=>(some x41)) else(some x22))
def zlX {x:Itm}{b:List D}(h:Cn 3 b)(hl:b.length<=1):∃inn,znM (part x 0 b)=some (part x 0 inn)/\Cn 2 inn/\inn.length<=1:=by
 match b,hl with
|[],_=>exact⟨[],rfl,Cn.nil,waT _⟩
|[q],_=>
   obtain⟨y,c,rfl,g,l,o⟩:=h q waj;match c,l,o with
  |[],_,o=>exact⟨[part y 0 []],rfl,λd hd=>by rw[wau.mp hd];exact⟨y,[],rfl,g,waT _,Cn.nil⟩,wai _⟩
  |[r],_,o=>
     obtain⟨z,e,rfl,g2,l2,o2⟩:=o r waj;match e,l2,o2 with
    |[],_,o2=>exact⟨[part y 0 [part z 0 []]],rfl,λd hd=>by
      rw[wau.mp hd];exact⟨y,[part z 0 []],rfl,g,wai _,λd hd=>by rw[wau.mp hd];exact⟨z,[],rfl,g2,waT _,Cn.nil⟩⟩,wai _⟩
    |[t],_,o2=>exact⟨[part z 0 [t]],rfl,o,wai _⟩
    |_::_::_,l2,_=>simp at l2
  |_::_::_,l,_=>simp at l
|_::_::_,hl=>simp at hl
def zj8 {S:Scr}(h63:S.ns.length<=63):Po (zbT S (.scr S.p)) λd=>∃ds,d=.tup ds/\Cn 3 ds/\ds≠[]/\ds.length<=9:=by
 have hm:∀a b:Int,0<b->dMod (.int a) (.int b)=some (.int (a % b)):=λa b h=>if_pos h
 unfold zbT;refine sx rfl ?_;obtain⟨c0,ec0⟩:=zkG (xs:=S.ns++[7]) (i:=0) (by decide) (by rw[wal,waz];omega);obtain⟨r,er,r0,r1⟩:=zc0 (c:=c0) (p:=999983) (m:=9) (by decide) (by decide) (by decide);refine asc ?_;refine sx (show Option.bind (aC _ aN) rngA=some (zb3 0 (1+r).toNat) from ?_) ?_
 .rw[ziT h63 7];rw[zOB,zOB,ec0];show Option.bind (aC (Option.bind (zas [.int c0,.int 999983,.int 9]) λv3=>za4 (.int 1) v3) aN) rngA=_
  rw[er];show rngA [.int (1+r)]=_
  exact if_pos ⟨by omega,by omega⟩
 refine zlQ (λi s=>∃ds,s=.tup ds/\Cn 3 ds/\ds.length<=i/\(0<i->ds≠[])) ⟨[],rfl,Cn.nil,wai _,λh=>absurd h (waK _)⟩ (λi s d hd hI=>?_) λs hI=>?_
 .obtain⟨ds,rfl,o,hl,_⟩:=hI;obtain⟨hi,rfl⟩:=zgT hd;have h9:i<9:=by omega
  try dsimp only[]
  obtain⟨c,ec⟩:=zkG (xs:=S.ns++[5]) (i:=(i:Int) % ((S.ns.length:Int)+1)) (waN _ (by omega)) (by rw[wal,waz];have:=wbi (i:Int) (b:=(S.ns.length:Int)+1) (by omega);omega);refine sx (a:=.int c) ?_ ?_
  .rw[ziT h63 5,show lenS S (.scr S.p)=some (.int S.ns.length) from if_pos rfl];show Option.bind (dMod (.int (i:Int)) (.int ((S.ns.length:Int)+1))) (λv9=>dIx (.lst ((S.ns++[5]).map D.int)) v9)=_
   rw[hm _ _ (by omega)];exact ec
  refine sx (a:=.str (Txt.mul (sg (97+i)) (1+c % 8))) ?_ ?_
  .rw[abc9 h9,hm _ _ (by decide)];exact zna _ (by omega) (by omega)
  have hn:Nm (Txt.mul (sg (97+i)) (1+c % 8)):=⟨i,1+c % 8,h9,by omega,by omega,rfl⟩
  generalize Txt.mul (sg (97+i)) (1+c % 8)=nm at hn;refine sx (a:=part ⟨0,nm,(i:Int),c % 1000000000000000000000000000000000000000000000000000000000000,1,2,"free",(i:Int),none⟩ 0 []) ?_ ?_
  .rw[show dPow (.int 10) (.int 60)=some (.int 1000000000000000000000000000000000000000000000000000000000000) from rfl,zOB,hm _ _ (by decide)];rfl
  generalize hx:(⟨0,nm,(i:Int),c % 1000000000000000000000000000000000000000000000000000000000000,1,2,"free",(i:Int),none⟩:Itm)=x;have gx:Gd x/\Nm x.nm:=by
   rw[<-hx];exact⟨⟨zot hn,(by show(1:Int)<=1;decide),(by show(1:Int)<=2;decide),.inl rfl,by show(0:Int)<=(i:Int);omega,λy e=>by cases e⟩,hn⟩
  obtain⟨a,b,eb,ea,oa,ob,lb,la⟩:=zhl ds o;obtain⟨inn,en,oi,li⟩:=zlX (x:=x) ob lb;have key:∃rest inn,Cn 3 rest/\rest.length<=ds.length/\Cn 2 inn/\inn.length<=1/\(Option.bind (Option.bind (Option.bind (dMod (.int c) (.int 3)) λv18=>((dEqG false) v18 (.int 0))) dB) λk17=>if k17 then(Option.bind (Option.bind (dSlW (part x 0 []) none (some 5)) λv20=>(Option.bind (Option.bind (aC (Option.bind (Option.bind (dNeg (.int 1)) λd=>Option.bind (dInt d) λi=>some (some i)) λv19=>(dSlW (.tup ds) v19 none)) aN) mkT) λv21=>(za4 v20 v21))) λ(x22:D)=>(Option.bind (Option.bind (Option.bind (dNeg (.int 1)) λd=>Option.bind (dInt d) λi=>some (some i)) λv23=>(dSlW (.tup ds) none v23)) λ(x24:D)=>(Option.bind (znM x22) λ(s42:D)=>(some (x24,s42))))) else(some (D.tup ds,part x 0 [])))=some (D.tup rest,part x 0 inn):=by
   rw[hm _ _ (by decide),zOB,zjH,zOB,show ∀b,dB (.bl b)=some b from λ_=>rfl,zOB];by_cases h3:c % 3=0
   .rw[wax h3,if_pos rfl];refine⟨a,inn,oa,la,oi,li,?_⟩;have e1:Option.bind (dSlW (part x 0 []) none (some 5)) (λv20=>(Option.bind (Option.bind (aC (Option.bind (Option.bind (dNeg (.int 1)) λd=>Option.bind (dInt d) λi=>some (some i)) λv19=>(dSlW (.tup ds) v19 none)) aN) mkT) λv21=>(za4 v20 v21)))=some (part x 0 b):=by
     show Option.bind (dSlW (part x 0 []) none (some 5)) (λv20=>za4 v20 (.tup [.tup (VD.cut ds (some (-1)) none)]))=_
     rw[eb];exact zou x [] b
    rw[e1,zOB];show Option.bind (some (D.tup (VD.cut ds none (some (-1))))) _=_
    rw[ea,zOB,en];rfl
   .rw[wao h3,if_neg (by decide)];exact⟨ds,[],o,wai _,Cn.nil,waT _,rfl⟩
  obtain⟨rest,inn2,o1,l1,o2,l2,e2⟩:=key;refine sx e2 ?_;refine sx (a:=.tup (rest++[part x 0 inn2])) ?_ ⟨_,rfl,rest++[part x 0 inn2],rfl,λd hd=>?_,by rw[wal,waz];omega,λ_ z=>by simp at z⟩
  .rw[zcr];exact if_pos (wam (by rw[wal,waz];omega:_<=100) (by decide))
  .rcases waM.mp hd with hd|hd
   .exact o1 d hd
   .rw[wau.mp hd];exact⟨x,inn2,rfl,gx,l2,o2⟩
 .obtain⟨ds,rfl,o,hl,hne⟩:=hI;have el:(zb3 0 (1+r).toNat).length=(1+r).toNat:=by simp[zb3]
  rw[el] at hl hne;exact⟨_,rfl,ds,rfl,o,hne (by omega),by omega⟩
def zj9 {S:Scr}(h63:S.ns.length<=63):∃ds,zaK S [.scr S.p]=some (.tup ds)/\Cn 3 ds/\ds≠[]/\ds.length<=9:=by
 obtain⟨_,e,ds,rfl,h⟩:=zj8 h63;exact⟨ds,e,h⟩
def NoDd (b:D):Prop:=za7 [b]=some (.bl false)
def zka {n:Int}(h:n<1):zbe [.tup [.int 1,.int 2,.int 3,.int n]]=some (.bl false):=by
 show zcA (.tup [.int 1,.int 2,.int 3,.int n])=_
 unfold zcA;have i2:dIx (.tup [.int 1,.int 2,.int 3,.int n]) (.int 2)=some (.int 3):=zbh (j:=2) rfl
 have i3:dIx (.tup [.int 1,.int 2,.int 3,.int n]) (.int 3)=some (.int n):=zbh (j:=3) rfl
 rw[i2,i3];show Option.bind (Option.bind (Option.bind (some (D.bl (decide ((1:Int)<=3)))) dB) λk11=>if k11 then(some (D.bl (decide (1<=n)))) else some (.bl false)) _=_
 rw[wax (show(1:Int)<=3 by decide),wao (show ¬(1<=n) by omega)];rfl
def ziU {n:Int}(h:n<0):za1 [.int n]=some (.bl false):=by
 show Option.bind (some (D.bl (decide (0<=n)))) _=_
 rw[wao (by omega)];rfl
section
variable {y:Str}
def zdv {kind:Str}{t:D}(n1:kind≠"take")(n2:kind≠"put")(hg:zb9 [.str kind,t]=some (.bl false)):NoDd (.tup [.str kind,.str y,t]):=by
 have e1:dEqG false (.str kind) (.str "take")=some (.bl false):=by rw[zdp,wao n1]
 have e2:dEqG false (.str kind) (.str "put")=some (.bl false):=by rw[zdp,wao n2]
 have er:zca [.str kind,.tup [t]]=some (.bl false):=by
  show zcX (.str kind) (.tup [t])=_
  unfold zcX;rw[e1,e2];show Option.bind (Option.bind (Option.bind (dEqG false (.int 1) (.int 1)) dB) λk8=>if k8 then(zb9 [.str kind,t]) else some (.bl false)) _=_
  rw[hg];rfl
 show zcY (.tup [.str kind,.str y,t])=_
 unfold zcY;show Option.bind (Option.bind (Option.bind ((dEqG false) (.str kind) (.str "put")) dB) λk8=>if k8 then(Option.bind ((dIs false) (.str y) D.non) dB) else some false) (λk7=>if k7 then _ else(Option.bind (Option.bind (Option.bind ((isD "str") (.str y)) dB) λk10=>if k10 then(zca [.str kind,.tup [t]]) else some (.bl false)) λ(r11:D)=>(some r11)))=_
 rw[e2,er];rfl
def zf7:List D:=[(.int 1),(.bl true),(.tup [(.str "a")]),(.lst [(.str "a")]),(.tup []),(.int 0),(.lst [D.non]),(.bl false)]
def zkb (kind:Str)(y:Str)(rest:List D)(b o:D):List D:=[b,b,b,.tup (.str kind::o::rest),.tup (.str kind::.str y::rest).dropLast,.tup ((.str kind::.str y::rest)++[.str "a"]),.lst (.str kind::.str y::rest),.tup [.tup (.str kind::.str y::rest)],.tup (.str "Take"::.str y::rest),.tup (.non::.str y::rest),.str kind,.non]
def zlY {kind:Str}{rest:List D}{b:D}(hb:NoDd b)(ho:∀o∈zf7,NoDd (.tup (.str kind::o::rest)))(h4:NoDd (.tup (.str kind::.str y::rest).dropLast))(h5:NoDd (.tup ((.str kind::.str y::rest)++[.str "a"])))(h8:NoDd (.tup (.str "Take"::.str y::rest)))(h9:NoDd (.tup (.non::.str y::rest))){o:D}(mo:o∈zf7):∀d∈zkb kind y rest b o,NoDd d:=by
 intro d hd;simp only[zkb,wah,waI,or_false] at hd;rcases hd with rfl|rfl|rfl|rfl|rfl|rfl|rfl|rfl|rfl|rfl|rfl|rfl
 .exact hb
 .exact hb
 .exact hb
 .exact ho _ mo
 .exact h4
 .exact h5
 .rfl
 .rfl
 .exact h8
 .exact h9
 .rfl
 .rfl
def zde {kind:Str}{rest:List D}(h:NoDd (.tup (.str kind::.int 1::rest))/\NoDd (.tup (.str kind::.bl true::rest))/\NoDd (.tup (.str kind::.tup [.str "a"]::rest))/\NoDd (.tup (.str kind::.lst [.str "a"]::rest))/\NoDd (.tup (.str kind::.tup []::rest))/\NoDd (.tup (.str kind::.int 0::rest))/\NoDd (.tup (.str kind::.lst [D.non]::rest))/\NoDd (.tup (.str kind::.bl false::rest))):∀o∈zf7,NoDd (.tup (.str kind::o::rest)):=by
 intro d hd;simp only[zf7,wah,waI,or_false] at hd;obtain⟨h1,h2,h3,h4,h5,h6,h7,h8⟩:=h;rcases hd with rfl|rfl|rfl|rfl|rfl|rfl|rfl|rfl <;> assumption
end
structure Right (kind y:Str)(rest:List D):Prop where
 ho:∀o∈zf7,NoDd (.tup (.str kind::o::rest))
 h4:NoDd (.tup (.str kind::.str y::rest).dropLast)
 h5:NoDd (.tup ((.str kind::.str y::rest)++[.str "a"]))
 h8:NoDd (.tup (.str "Take"::.str y::rest))
 h9:NoDd (.tup (.non::.str y::rest))
def zhm (y w:Str):Right "word" y [.str w]:=⟨zde ⟨rfl,rfl,rfl,rfl,rfl,rfl,rfl,rfl⟩,rfl,rfl,rfl,rfl⟩
def ziV (y:Str)(a b c d:Int):Right "box" y [.tup [.int a,.int b,.int c,.int d]]:=⟨zde ⟨rfl,rfl,rfl,rfl,rfl,rfl,rfl,rfl⟩,rfl,rfl,rfl,rfl⟩
def zhn (y:Str)(a:Int):Right "rank" y [.int a]:=⟨zde ⟨rfl,rfl,rfl,rfl,rfl,rfl,rfl,rfl⟩,rfl,rfl,rfl,rfl⟩
def zho (y:Str):Right "head" y [.non]:=⟨zde ⟨rfl,rfl,rfl,rfl,rfl,rfl,rfl,rfl⟩,rfl,rfl,rfl,rfl⟩
def ziW (y:Str)(a:Int)(p:D):Right "put" y [.int a,p]:=⟨zde ⟨rfl,rfl,rfl,rfl,rfl,rfl,rfl,rfl⟩,rfl,rfl,rfl,rfl⟩
def zhp (y:Str):Right "take" y []:=⟨zde ⟨rfl,rfl,rfl,rfl,rfl,rfl,rfl,rfl⟩,rfl,rfl,rfl,rfl⟩
def bst {A B:Type}{o:Option A}{k:A->Option B}{a:A}{r:Option B}(e:o=some a)(h:k a=r):o.bind k=r:=by rw[e];exact h
def hmod {a b:Int}(h:0<b):dMod (.int a) (.int b)=some (.int (a % b)):=if_pos h
def zeI (kind:Str)(n:Int):List D:=
 if kind = "word" then[.str "open",.str "",.str "Free",.non,.bl true,.int 3,.lst [.str "free"],.tup [.str "free"]]
 else if kind = "box" then[.tup [.int 1,.int 2,.int 3],.tup [.int 1,.int 2,.int 3,.int 4,.int 5],.lst [.int 1,.int 2,.int 3,.int 4],.tup [.int 1,.int 2,.int 0,.int 3],.tup [.int 1,.int 2,.int 3,.int n],.tup [.int 1,.bl true,.int 2,.int 3],.tup [.int 1,.int 2,.str "3",.int 4],.non]
 else if kind = "rank" then[.int n,.bl true,.bl false,.non,.str "1",.tup [.int 1],.lst [],.int (0 - 1)]
 else if kind = "head" then[.str "",.str "A",.str "abcdefghi",.str "a b",.int 1,.bl true,.tup [],.lst [.str "a"]]
 else[.non,.bl true,.str "0",.tup [.int 0],.lst [],.bl false,.str "",.str "a"]
def zlZ {c:Int}{kind:Str}(hk:kind = "word"\/kind = "box"\/kind = "rank"\/kind = "head"\/kind = "put"):∃n:Int,n<0/\zaP [.int c,.str kind]=some (.lst (zeI kind n)):=by
 have h0:=waN c (b:=1000000000) (by decide)
 refine⟨0 - 1 - c % 1000000000,by omega,?_⟩;have pw:dPow (.int 10) (.int 9)=some (.int 1000000000):=rfl
 have near:(Option.bind (dSub (.int 0) (.int 1)) λv2=>(Option.bind (Option.bind (dPow (.int 10) (.int 9)) λv1=>(dMod (.int c) v1)) λv3=>(dSub v2 v3)))=some (.int (0 - 1 - c % 1000000000)):=by
  rw[pw,zOB,hmod (by decide)];rfl
 show zcf (.int c) (.str kind)=_
 unfold zcf;refine bst near ?_;generalize 0 - 1 - c % 1000000000=n;rcases hk with rfl|rfl|rfl|rfl|rfl <;> rfl
def zdf {c:Int}{kind y:Str}{rest:List D}(hr:rest = []\/(∃t,rest = [t])\/∃a p,rest = [a,p])(R:Right kind y rest){b:D}(nb:NoDd b)
 (hb:(Option.bind (Option.bind (Option.bind (dIx (.tup (.str kind::.str y::rest)) (.int 0)) λv3=>((dEqG true) v3 (.str "take"))) dB) λk2=>if k2 then(Option.bind (Option.bind (Option.bind (dSl (.tup (.str kind::.str y::rest)) none (some 2)) λv6=>(Option.bind (Option.bind (aC (Option.bind (Option.bind (aC (some (.int c)) (aC (dIx (.tup (.str kind::.str y::rest)) (.int 0)) aN)) zaP) λv4=>(Option.bind (zas [.int c,(.int 8191),(.int 8)]) λv5=>(dIx v4 v5))) aN) mkT) λv7=>(za4 v6 v7))) λv8=>(Option.bind (dSl (.tup (.str kind::.str y::rest)) (some 3) none) λv9=>(za4 v8 v9))) λ(x10:D)=>(some x10)) else(some (.tup ((.str kind::.str y::rest)++[.non]))))=some b) :
 ∃v,zaF [.int c,.tup (.str kind::.str y::rest)]=some v/\NoDd v:=by
 obtain⟨r2,m2,a2,b2⟩:=zc0 (c:=c) (p:=65537) (m:=8) (by decide) (by decide) (by decide);obtain⟨r3,m3,a3,b3⟩:=zc0 (c:=c) (p:=131071) (m:=12) (by decide) (by decide) (by decide);obtain⟨o,eo,mo⟩:=zeh (xs:=zf7) (P:=λd=>d∈zf7) (λd h=>h) a2 (by show r2<8;exact b2);obtain⟨v,ev,hv⟩:=zeh (xs:=zkb kind y rest b o) (P:=NoDd) (zlY nb R.ho R.h4 R.h5 R.h8 R.h9 mo) a3 (by show r3<12;exact b3);refine⟨v,?_,hv⟩;show zcg (.int c) (.tup (.str kind::.str y::rest))=some v
 unfold zcg;refine bst (a:=.tup ((.str kind::.str y::rest)++[.non])) ?_ ?_
 .rw[zcr];rcases hr with rfl|⟨t,rfl⟩|⟨a,p,rfl⟩ <;> rfl
 refine bst hb ?_;refine bst (bst m2 eo) ?_;refine bst (a:=.lst [b,b,b,.tup (.str kind::o::rest),.tup (.str kind::.str y::rest).dropLast,.tup ((.str kind::.str y::rest)++[.str "a"]),.lst (.str kind::.str y::rest),.tup [.tup (.str kind::.str y::rest)]]) ?_ ?_
 .rcases hr with rfl|⟨t,rfl⟩|⟨a,p,rfl⟩ <;> rfl
 refine bst (a:=.lst (zkb kind y rest b o)) ?_ ?_
 .rcases hr with rfl|⟨t,rfl⟩|⟨a,p,rfl⟩ <;> rfl
 exact bst (bst m3 ev) rfl
def zfx {c:Int}{kind y:Str}{t0:D}{tl:List D}(hk:kind = "word"\/kind = "box"\/kind = "rank"\/kind = "head"\/kind = "put")(htl:tl = []\/∃p,tl = [p])(h:∀n:Int,n<0->∀t∈zeI kind n,NoDd (.tup (.str kind::.str y::t::tl))){x1:D}:∃b,NoDd b/\(Option.bind (Option.bind (Option.bind (dIx (.tup (.str kind::.str y::t0::tl)) (.int 0)) λv3=>((dEqG true) v3 (.str "take"))) dB) λk2=>if k2 then(Option.bind (Option.bind (Option.bind (dSl (.tup (.str kind::.str y::t0::tl)) none (some 2)) λv6=>(Option.bind (Option.bind (aC (Option.bind (Option.bind (aC (some (.int c)) (aC (dIx (.tup (.str kind::.str y::t0::tl)) (.int 0)) aN)) zaP) λv4=>(Option.bind (zas [.int c,(.int 8191),(.int 8)]) λv5=>(dIx v4 v5))) aN) mkT) λv7=>(za4 v6 v7))) λv8=>(Option.bind (dSl (.tup (.str kind::.str y::t0::tl)) (some 3) none) λv9=>(za4 v8 v9))) λ(x10:D)=>(some x10)) else(some x1))=some b:=by
 obtain⟨n,hn,em⟩:=zlZ (c:=c) hk;obtain⟨r1,m1,a1,b1⟩:=zc0 (c:=c) (p:=8191) (m:=8) (by decide) (by decide) (by decide);have hl:(zeI kind n).length=8:=by rcases hk with rfl|rfl|rfl|rfl|rfl <;> rfl
 obtain⟨t,et,ht⟩:=zeh (xs:=zeI kind n) (P:=λt=>NoDd (.tup (.str kind::.str y::t::tl))) (h n hn) a1 (by rw[hl];exact b1);have et2:(Option.bind (Option.bind (aC (some (.int c)) (aC (some (.str kind)) aN)) zaP) λv4=>(Option.bind (zas [.int c,(.int 8191),(.int 8)]) λv5=>(dIx v4 v5)))=some t:=bst (show zaP [.int c,.str kind]=_ from em) (bst m1 et)
 have e0:dIx (.tup (.str kind::.str y::t0::tl)) (.int 0)=some (.str kind):=by rcases htl with rfl|⟨p,rfl⟩ <;> rfl
 refine⟨_,ht,?_⟩;rw[e0];refine bst (a:=true) (by rcases hk with rfl|rfl|rfl|rfl|rfl <;> rfl) ?_;rw[if_pos rfl];refine bst (a:=.tup (.str kind::.str y::t::tl)) ?_ rfl;refine bst (a:=.tup [.str kind,.str y,t]) ?_ ?_
 .refine bst (a:=.tup [.str kind,.str y]) (by rcases htl with rfl|⟨p,rfl⟩ <;> rfl) ?_;refine bst (a:=.tup [t]) ?_ (by rw[zcr];rfl);refine bst (a:=[t]) ?_ rfl;show Option.bind (Option.bind (Option.bind (aC (some (.int c)) (aC (some (.str kind)) aN)) zaP) λv4=>(Option.bind (zas [.int c,(.int 8191),(.int 8)]) λv5=>(dIx v4 v5))) _=_
  rw[et2];rfl
 .rcases htl with rfl|⟨p,rfl⟩ <;> rfl
def ziX {c:Int}{y w:Str}:∃v,zaF [.int c,.tup [.str "word",.str y,.str w]]=some v/\NoDd v:=by
 obtain⟨b,nb,eb⟩:=zfx (c:=c) (kind:="word") (y:=y) (t0:=.str w) (tl:=[]) (.inl rfl) (.inl rfl) λn hn t ht=>by
  simp only[zeI,if_true,wah,waI,or_false] at ht;refine zdv (by decide) (by decide) ?_;rcases ht with rfl|rfl|rfl|rfl|rfl|rfl|rfl|rfl <;> rfl
 exact zdf (.inr (.inl ⟨_,rfl⟩)) (zhm y w) nb eb
def zkc {c a b d e:Int}{y:Str}:∃v,zaF [.int c,.tup [.str "box",.str y,.tup [.int a,.int b,.int d,.int e]]]=some v/\NoDd v:=by
 obtain⟨b,nb,eb⟩:=zfx (c:=c) (kind:="box") (y:=y) (t0:=.tup [.int a,.int b,.int d,.int e]) (tl:=[]) (.inr (.inl rfl)) (.inl rfl) λn hn t ht=>by
  rw[show zeI "box" n = [.tup [.int 1,.int 2,.int 3],.tup [.int 1,.int 2,.int 3,.int 4,.int 5],.lst [.int 1,.int 2,.int 3,.int 4],.tup [.int 1,.int 2,.int 0,.int 3],.tup [.int 1,.int 2,.int 3,.int n],.tup [.int 1,.bl true,.int 2,.int 3],.tup [.int 1,.int 2,.str "3",.int 4],.non] from rfl] at ht;simp only[wah,waI,or_false] at ht;refine zdv (by decide) (by decide) ?_;rcases ht with rfl|rfl|rfl|rfl|rfl|rfl|rfl|rfl
  .rfl
  .rfl
  .rfl
  .rfl
  .show Option.bind (zbe [.tup [.int 1,.int 2,.int 3,.int n]]) _=_
   rw[zka (by omega)];rfl
  .rfl
  .rfl
  .rfl
 exact zdf (.inr (.inl ⟨_,rfl⟩)) (ziV y _ _ _ _) nb eb
def ziY {c a:Int}{y:Str}:∃v,zaF [.int c,.tup [.str "rank",.str y,.int a]]=some v/\NoDd v:=by
 obtain⟨b,nb,eb⟩:=zfx (c:=c) (kind:="rank") (y:=y) (t0:=.int a) (tl:=[]) (.inr (.inr (.inl rfl))) (.inl rfl) λn hn t ht=>by
  rw[show zeI "rank" n = [.int n,.bl true,.bl false,.non,.str "1",.tup [.int 1],.lst [],.int (0 - 1)] from rfl] at ht;simp only[wah,waI,or_false] at ht;refine zdv (by decide) (by decide) ?_;rcases ht with rfl|rfl|rfl|rfl|rfl|rfl|rfl|rfl
  .show Option.bind (za1 [.int n]) _=_
   rw[ziU hn];rfl
  all_goals rfl
 exact zdf (.inr (.inl ⟨_,rfl⟩)) (zhn y _) nb eb
def ziZ {c:Int}{y:Str}:∃v,zaF [.int c,.tup [.str "head",.str y,.non]]=some v/\NoDd v:=by
 obtain⟨b,nb,eb⟩:=zfx (c:=c) (kind:="head") (y:=y) (t0:=.non) (tl:=[]) (.inr (.inr (.inr (.inl rfl)))) (.inl rfl) λn hn t ht=>by
  rw[show zeI "head" n = [.str "",.str "A",.str "abcdefghi",.str "a b",.int 1,.bl true,.tup [],.lst [.str "a"]] from rfl] at ht;simp only[wah,waI,or_false] at ht;refine zdv (by decide) (by decide) ?_;rcases ht with rfl|rfl|rfl|rfl|rfl|rfl|rfl|rfl <;> first|rfl|decide +kernel
 exact zdf (.inr (.inl ⟨_,rfl⟩)) (zho y) nb eb
def zkd {c a:Int}{y:Str}{p:D}:∃v,zaF [.int c,.tup [.str "put",.str y,.int a,p]]=some v/\NoDd v:=by
 obtain⟨b,nb,eb⟩:=zfx (c:=c) (kind:="put") (y:=y) (t0:=.int a) (tl:=[p]) (.inr (.inr (.inr (.inr rfl)))) (.inr ⟨p,rfl⟩) λn hn t ht=>by
  rw[show zeI "put" n = [.non,.bl true,.str "0",.tup [.int 0],.lst [],.bl false,.str "",.str "a"] from rfl] at ht;simp only[wah,waI,or_false] at ht;rcases ht with rfl|rfl|rfl|rfl|rfl|rfl|rfl|rfl <;> rfl
 exact zdf (.inr (.inr ⟨_,_,rfl⟩)) (ziW y _ _) nb eb
def zi0 {c:Int}{y:Str}:∃v,zaF [.int c,.tup [.str "take",.str y]]=some v/\NoDd v:=
 zdf (.inl rfl) (zhp y) (b:=.tup [.str "take",.str y,.non]) rfl rfl
def zgC {sh b x:D}(h:zfs [sh,b]=some x)(hc:zbY ["NoDeed","NoPart","NoPlace","NoSheet"] x=true):zap [sh,b]=some x:=by
 show zcD sh b=some x
 unfold zcD;show Option.bind (match zfs [sh,b] with|some x=>if zbY ["NoDeed","NoPart","NoPlace","NoSheet"] x then(Option.bind (some x) λ(x9:D)=>some x9) else none|none=>none) (λ(x10:D)=>(Option.bind (some x10) λ(r:D)=>some r))=_
 rw[h];show Option.bind (if zbY ["NoDeed","NoPart","NoPlace","NoSheet"] x then(Option.bind (some x) λ(x9:D)=>some x9) else none) _=_
 rw[if_pos hc];rfl
def zgD {sh b:D}(h:NoDd b):zap [sh,b]=some (.exc "NoDeed" [] []):=by
 refine zgC ?_ rfl;have e:zbz [sh,b]=some (.exc "NoDeed" [] []):=by
  show zbR sh b=_
  unfold zbR;rw[show za7 [b]=some (.bl false) from h];rfl
 show(zbz [sh,b]).or _=_
 rw[e];rfl
def zdX:zaL [.exc "NoDeed" [] [],.str "deed"]=some (.bl true):=rfl
def zdY {y:Str}:zaL [.exc "NoPart" ["name"] [.str y],.str "part"]=some (.bl true):=rfl
section
variable {sh:D}{kind y:Str}{rest:List D}(hd:za7 [.tup (.str kind::.str y::rest)]=some (.bl true))
include hd
theorem znN:zbz [sh,.tup (.str kind::.str y::rest)]=none:=by
 show zbR sh _=_
 unfold zbR;rw[hd];rfl
theorem zc1 {E:D}(n2:kind≠"put")(hr:rest.length<=2)(hE:za0 [sh,.str y]=some E)(hc:zbY ["NoDeed","NoPart","NoPlace","NoSheet"] E=true):zap [sh,.tup (.str kind::.str y::rest)]=some E:=by
 refine zgC ?_ hc;have i0:dIx (.tup (.str kind::.str y::rest)) (.int 0)=some (.str kind):=zbh (j:=0) rfl
 have i1:dIx (.tup (.str kind::.str y::rest)) (.int 1)=some (.str y):=zbh (j:=1) rfl
 have e:zce [sh,.tup (.str kind::.str y::rest)]=some E:=by
  show zcC sh _=_
  unfold zcC;rw[hd,i0,i1];show Option.bind (Option.bind (dEqG false (.str kind) (.str "put")) dB) (λk4=>if k4 then none else(Option.bind (za0 [sh,.str y]) λ(r:D)=>some r))=_
  rw[zdp,wao n2,hE];rfl
 show(zbz _).or ((zce _).or _)=_
 rw[znN hd,e];rfl
end
section
variable {sh nm:D}{at_:Int}{p:D}
def zke (h:nm=.non\/∃y,nm=.str y):za7 [.tup [.str "put",nm,.int at_,p]]=some (.bl true):=by
 rcases h with rfl|⟨y,rfl⟩ <;> rfl
def znO (h:nm=.non\/∃y,nm=.str y):zbz [sh,.tup [.str "put",nm,.int at_,p]]=none/\zce [sh,.tup [.str "put",nm,.int at_,p]]=none/\zcZ [sh,.tup [.str "put",nm,.int at_,p]]=za3 [sh,nm,.int at_,p]/\zdu [sh,.tup [.str "put",nm,.int at_,p]]=Option.bind (aC (za9 [sh,nm,.int at_,p]) aN) za6:=by
 have hd:=zke (at_:=at_) (p:=p) h
 refine⟨?_,?_,?_,?_⟩
 .show zbR sh _=_
  unfold zbR;rw[hd];rfl
 .show zcC sh _=_
  unfold zcC;rw[hd];rfl
 .show zds sh _=_
  unfold zds;rw[hd];show Option.bind (za3 [sh,nm,.int at_,p]) (λr=>some r)=_
  cases za3 [sh,nm,.int at_,p] <;> rfl
 .show zdt sh _=_
  unfold zdt;rw[hd];show Option.bind (Option.bind (aC (za9 [sh,nm,.int at_,p]) aN) za6) (λr=>some r)=_
  cases Option.bind (aC (za9 [sh,nm,.int at_,p]) aN) za6 <;> rfl
def zi1 {E:D}(h:nm=.non\/∃y,nm=.str y)(he:za3 [sh,nm,.int at_,p]=some E)(hc:zbY ["NoDeed","NoPart","NoPlace","NoSheet"] E=true):zap [sh,.tup [.str "put",nm,.int at_,p]]=some E:=by
 refine zgC ?_ hc;obtain⟨a,b,c,_⟩:=znO (sh:=sh) (at_:=at_) (p:=p) h;show(zbz _).or ((zce _).or ((zcZ _).or _))=_
 rw[a,b,c,he];rfl
end
def oddP:List D:=[D.non,(.int 5),(.str "a"),(.lst []),(.tup []),(.tup [(.str "a")]),(.bl true),(.tup [(.str "q"),(.tup [(.int 0),(.int 0),(.int 1),(.int 1)]),(.str "free"),(.int 0),D.non])]
def znP {ds:List D}{bad:D}(hb:bad∈ds)(hbad:zaJ (zan 6) [bad,.int 1]=some (.bl false))(hg:∀d∈ds,zaJ (zan 6) [d,.int 1]=some (.bl true)\/zaJ (zan 6) [d,.int 1]=some (.bl false)):zan 7 [.tup ds,.int 1]=some (.bl false):=by
 rw[zkD (n:=6) (λd=>decide (zaJ (zan 6) [d,.int 1]=some (.bl true))) (by decide) λd h=>by
  rcases hg d h with e|e
  .rw[e];rfl
  .rw[e];rfl]
 congr 2;rw[List.all_eq_false];exact⟨bad,hb,by rw[hbad];decide⟩
def znQ (ds:List D){k:Nat}(hk:k<=ds.length):VD.cut ds none (some (k:Int))=ds.take k/\VD.cut ds (some (k:Int)) none=ds.drop k:=by
 have e:∀d,HT.sIx ds.length d (some (k:Int))=k:=λd=>by
  show(if((k:Int))<0 then((k:Int)+(ds.length:Int)).toNat else min ((k:Int)).toNat ds.length)=_
  rw[if_neg (by omega),Int.toNat_natCast];omega
 constructor
 .unfold VD.cut;rw[e];show(ds.drop 0).take (k - 0)=_
  rw[List.drop_zero,Nat.sub_zero]
 .unfold VD.cut;rw[e];show(ds.drop k).take (ds.length - k)=_
  exact List.take_of_length_le (by rw[wcb];omega)
section
variable {ds:List D}(o:Cn 3 ds)(hl:ds.length<=9)
include o hl
theorem zgE {y:Str}(h:∀z,Nm z->z≠y)(ok:zex (.str y)=true){at_:Int}{p:D}:zap [.tup ds,.tup [.str "put",.str y,.int at_,p]]=some (.exc "NoPart" ["name"] [.str y]):=by
 refine zi1 (.inr ⟨y,rfl⟩) ?_ rfl;have e:zcq [.tup ds,.str y,.int at_,p]=some (.exc "NoPart" ["name"] [.str y]):=by
  show zeC (.tup ds) (.str y) (.int at_) p=_
  unfold zeC;show Option.bind (za0 [.tup ds,.str y]) _=_
  rw[zdd o hl h ok];rfl
 show(zcq _).or _=_
 rw[e];rfl
theorem zi2 {at_:Int}(h0:0<=at_)(h1:(ds.length:Int)<at_){p:D}:zap [.tup ds,.tup [.str "put",.non,.int at_,p]]=some (.exc "NoPlace" [] []):=by
 refine zi1 (.inl rfl) ?_ rfl;have e:zcq [.tup ds,.non,.int at_,p]=none:=rfl
 have e2:zdc [.tup ds,.non,.int at_,p]=some (.exc "NoPlace" [] []):=by
  show zdb (.tup ds) .non (.int at_) p=_
  unfold zdb;show Option.bind (Option.bind (Option.bind (Option.bind (some (D.bl (decide ((0:Int)<=at_)))) λzk5=>Option.bind (dB zk5) λk5=>if k5 then(some (D.bl (decide (at_<=(ds.length:Int))))) else some (.bl false)) dB) λk4=>some (!k4)) _=_
  rw[wax h0,wao (by omega)];rfl
 show(zcq _).or (zdc _)=_
 rw[e,e2];rfl
theorem zi3 {k:Nat}(hk:k<=ds.length){p:D}(hp:p∈oddP):zap [.tup ds,.tup [.str "put",.non,.int (k:Int),p]]=some (.exc "NoSheet" [] []):=by
 refine zgC ?_ rfl;obtain⟨a,b,c,d⟩:=znO (sh:=.tup ds) (nm:=.non) (at_:=(k:Int)) (p:=p) (.inl rfl);have e:zcq [.tup ds,.non,.int (k:Int),p]=none:=rfl
 have hle:Option.bind (Option.bind (Option.bind (dLe (.int 0) (.int (k:Int))) λzk5=>Option.bind (dB zk5) λk5=>if k5 then(Option.bind (bLen [.tup ds]) λv6=>(dLe (.int (k:Int)) v6)) else some (.bl false)) dB) (λk4=>some (!k4))=some false:=by
  show Option.bind (Option.bind (Option.bind (some (D.bl (decide ((0:Int)<=(k:Int))))) λzk5=>Option.bind (dB zk5) λk5=>if k5 then(some (D.bl (decide ((k:Int)<=(ds.length:Int))))) else some (.bl false)) dB) (λk4=>some (!k4))=_
  rw[wax (show(0:Int)<=(k:Int) by omega),wax (show(k:Int)<=(ds.length:Int) by omega)];rfl
 have e2:zdc [.tup ds,.non,.int (k:Int),p]=none:=by
  show zdb (.tup ds) .non (.int (k:Int)) p=_
  unfold zdb;exact bst (a:=D.tup ds) rfl (bst hle rfl)
 obtain⟨c1,c2⟩:=znQ ds hk;have e3:za9 [.tup ds,.non,.int (k:Int),p]=some (.tup (ds.take k++[p]++ds.drop k)):=by
  show zcB (.tup ds) .non (.int (k:Int)) p=_
  unfold zcB;refine bst (a:=D.tup ds) rfl (bst hle ?_);rw[if_neg (by decide)];show Option.bind (Option.bind (za4 (.tup (VD.cut ds none (some (k:Int)))) (.tup [p])) λv=>za4 v (.tup (VD.cut ds (some (k:Int)) none))) _=_
  rw[c1,c2,zcr,show mkT (ds.take k++[p])=some (.tup (ds.take k++[p])) from if_pos (wam (by rw[wal,wbv,waz];omega:_<=100) (by decide)),zOB];have e4:za4 (.tup (ds.take k++[p])) (.tup (ds.drop k))=some (.tup (ds.take k++[p]++ds.drop k)):=by
   show(if ds.drop k = [] then(if ds.take k++[p] = [] then none else mkT (ds.take k++[p])) else mkT (ds.take k++[p]++ds.drop k))=_
   by_cases z:ds.drop k = []
   .rw[if_pos z,if_neg (by simp),z,wbe];exact if_pos (wam (by rw[wal,wbv,waz];omega:_<=100) (by decide))
   .rw[if_neg z];exact if_pos (wam (by rw[wal,wal,wbv,wcb,waz];omega:_<=100) (by decide))
  rw[e4];rfl
 have bad:zaJ (zan 6) [p,.int 1]=some (.bl false):=by
  simp only[oddP,wah,waI,or_false] at hp;rcases hp with rfl|rfl|rfl|rfl|rfl|rfl|rfl|rfl <;> rfl
 have e5:za6 [.tup (ds.take k++[p]++ds.drop k)]=some (.exc "NoSheet" [] []):=by
  show zbg _=_
  unfold zbg;rw[znP (ds:=ds.take k++[p]++ds.drop k) (bad:=p) (by simp) bad λd hd=>by
   rcases waM.mp hd with hd|hd
   .rcases waM.mp hd with hd|hd
    .exact .inl (zkF o.up.up.gok d (List.mem_of_mem_take hd))
    .rw[wau.mp hd];exact .inr bad
   .exact .inl (zkF o.up.up.gok d (List.mem_of_mem_drop hd))]
  rfl
 show(zbz _).or ((zce _).or ((zcZ _).or (zdu _)))=_
 rw[a,b,c,d,show za3 [.tup ds,.non,.int (k:Int),p]=(zcq [.tup ds,.non,.int (k:Int),p]).or (zdc [.tup ds,.non,.int (k:Int),p]) from rfl,e,e2,e3];show(none:Option D).or (none.or ((none.or none).or (za6 [.tup (ds.take k++[p]++ds.drop k)])))=_
 rw[e5];rfl
end
def zkf {c:Int}{y:Str}:∃l,zbV [.int c,.str y]=some (.lst l)/\∀d∈l,(∃v,zaF [.int c,d]=some v/\NoDd v)/\∀ds,Cn 3 ds->ds.length<=9->(∀z,Nm z->z≠y)->zex (.str y)=true->zap [.tup ds,d]=some (.exc "NoPart" ["name"] [.str y]):=by
 have p60:dPow (.int 10) (.int 60)=some (.int 1000000000000000000000000000000000000000000000000000000000000):=rfl
 have p59:dPow (.int 10) (.int 59)=some (.int 100000000000000000000000000000000000000000000000000000000000):=rfl
 have h0:=waN c (b:=1000000000000000000000000000000000000000000000000000000000000) (by decide)
 have h1:∀far:Int,0<=far % 100000000000000000000000000000000000000000000000000000000000:=λfar=>waN far (by decide)
 obtain⟨_,ew,w,rfl,hw⟩:=zeh (P:=λd=>∃x,d=.str x/\Wd x) (i:=c % 3) (xs:=[.str "free",.str "shut",.str "hidden"]) (by intro d hd;simp at hd;rcases hd with h|h|h <;> exact⟨_,h,by simp[Wd]⟩) (waN _ (by decide)) (by show c % 3<3;exact wbi _ (by decide));generalize hf:c % 1000000000000000000000000000000000000000000000000000000000000=far at h0;refine⟨[.tup [.str "word",.str y,.str w],.tup [.str "box",.str y,.tup [.int far,.int (0 - far),.int (1+far % 100000000000000000000000000000000000000000000000000000000000),.int 1]],.tup [.str "rank",.str y,.int far],.tup [.str "head",.str y,.non],.tup [.str "put",.str y,.int (c % 7 - 3),.tup [(.str "zz"),(.tup [(.int 0),(.int 0),(.int 1),(.int 1)]),(.str "free"),(.int 0),D.non,(.tup [])]],.tup [.str "take",.str y]],?_,?_⟩
 .show zbU (.int c) (.str y)=_
  unfold zbU;refine bst rfl ?_;refine bst (a:=.int far) (by rw[p60,zOB,hmod (by decide),hf]) ?_;rw[hmod (a:=c) (b:=3) (by decide),zOB,ew,p59,zOB,hmod (a:=far) (by decide),hmod (a:=c) (b:=7) (by decide)];rfl
 .intro d hd;simp only[wah,waI,or_false] at hd;rcases hd with rfl|rfl|rfl|rfl|rfl|rfl
  .refine⟨ziX,λds o hl h ok=>zc1 ?_ (by decide) (by show 1<=2;decide) (zdd o hl h ok) rfl⟩;exact(by
    have e:zbf [.str w]=some (.bl true):=ziR hw
    show Option.bind (Option.bind (Option.bind (zbf [.str w]) λ(r2:D)=>(some r2)) λr10=>some r10) (λr11=>some r11)=_
    rw[e];rfl)
  .refine⟨zkc,λds o hl h ok=>zc1 ?_ (by decide) (by show 1<=2;decide) (zdd o hl h ok) rfl⟩;have e:zbe [.tup [.int far,.int (0 - far),.int (1+far % 100000000000000000000000000000000000000000000000000000000000),.int 1]]=some (.bl true):=zkC (x:=⟨0,"",far,0 - far,1+far % 100000000000000000000000000000000000000000000000000000000000,1,"",0,none⟩) (by show 1<=1+far % _;have:=h1 far;omega) (by show(1:Int)<=1;decide)
   show Option.bind (Option.bind (Option.bind (zbe [.tup [.int far,.int (0 - far),.int (1+far % 100000000000000000000000000000000000000000000000000000000000),.int 1]]) λ(r2:D)=>(some r2)) λr10=>some r10) (λr11=>some r11)=_
   rw[e];rfl
  .refine⟨ziY,λds o hl h ok=>zc1 ?_ (by decide) (by show 1<=2;decide) (zdd o hl h ok) rfl⟩;have e:za1 [.int far]=some (.bl true):=ziS h0
   show Option.bind (Option.bind (Option.bind (za1 [.int far]) λ(r2:D)=>(some r2)) λr10=>some r10) (λr11=>some r11)=_
   rw[e];rfl
  .exact⟨ziZ,λds o hl h ok=>zc1 rfl (by decide) (by decide) (zdd o hl h ok) rfl⟩
  .exact⟨zkd,λds o hl h ok=>zgE o hl h ok⟩
  .exact⟨zi0,λds o hl h ok=>zc1 rfl (by decide) (by decide) (zdd o hl h ok) rfl⟩
def zcK {S A:Type}{f:S->D->Option (Fl S A)}{ds:List D}{s:S}(hf:∀x,x∈ds->f s x=some (.nx s)):zc5 f s ds=some (.nx s):=zfN hf
def zi4 {ds:List D}(o:Cn 3 ds)(neg:Bool):dEqG neg (.tup ds) (.tup ds)=some (.bl (!neg)):=by
 have ok_tree:∀{n:Nat}{ds:List D},Ok n ds->ndL ds=true/\depL ds<=2*n:=by
  intro n;induction n with
 |zero=>intro ds o;rw[show ds = [] from o];exact⟨rfl,wai _⟩
 |succ n ih=>
    intro ds o;refine⟨zky λd hd=>?_,zih λd hd=>?_⟩
    .obtain⟨x,dp,inn,rfl,oi⟩:=o d hd;have h:=(ih oi).1
     show(true&&(true&&(true&&(true&&(ndD (hdO x.hd)&&(ndL inn&&true))))))=true
     rw[h];cases x.hd <;> rfl
    .obtain⟨x,dp,inn,rfl,oi⟩:=o d hd;have h:=(ih oi).2
     show max 0 (max 1 (max 0 (max 0 (max (depD (hdO x.hd)) (max (depL inn+1) 0)))))+1<=2*(n+1)
     have:depD (hdO x.hd)=0:=by cases x.hd <;> rfl
     rw[this];omega
 have ot:=ok_tree o.ok
 have hs:eqC (.tup ds) (.tup ds)=true:=zjI ot.1 (by show depL ds+1<=40;omega)
 exact ze5 hs neg
def zi5:∀z,Nm z->z≠"none":=λz h=>(zlW h).1
def znR:∀z,Nm z->z≠"":=λz h=>(zlW h).2.1
def nm_A:∀z,Nm z->z≠"A":=λz h=>(zlW h).2.2
def zgF {S:Scr}(h63:S.ns.length<=63)(n:Int)(k:Int):∃l:List Int,Option.bind (Option.bind (Option.bind (catS S (.scr S.p) (.lst [(.int n)])) λds=>some (.lst ds)) λv=>(dSl v none (some k))) dSeq=some (l.map D.int):=by
 refine⟨VD.cut (S.ns++[n]) none (some k),?_⟩;rw[ziT h63];show some (VD.cut ((S.ns++[n]).map D.int) none (some k))=_
 unfold VD.cut;rw[waG,List.map_take,List.map_drop]
def znS {S:Scr}(h63:S.ns.length<=63){ds:List D}(o:Cn 3 ds)(hl:ds.length<=9)(es:zaK S [.scr S.p]=some (.tup ds)):zbp S [.scr S.p,.tup ds]=some (.bl true):=by
 show zbo S (.scr S.p) (.tup ds)=_
 unfold zbo;obtain⟨l,el⟩:=zgF h63 3 12;refine bst el ?_;refine bst (zcw (s:=()) D.int λc _=>?_) ?_
 .refine bst rfl ?_;obtain⟨r,er,r0,r1⟩:=zc0 (c:=c) (p:=999979) (m:=8) (by decide) (by decide) (by decide);obtain⟨p,ep,hp⟩:=zeh (xs:=oddP) (P:=λd=>d∈oddP) (i:=r) (λd h=>h) r0 r1;refine bst (bst er ep) ?_;have m5:dMod (.int c) (.int 5)=some (.int (c % 5)):=hmod (by decide)
  have m7:dMod (.int c) (.int 7)=some (.int (c % 7)):=hmod (by decide)
  have mL:dMod (.int c) (.int (1+(ds.length:Int)))=some (.int (c % (1+(ds.length:Int)))):=hmod (by omega)
  refine bst (a:=false) ?_ ?_
  .refine bst (a:=true) ?_ rfl;refine bst (a:=D.bl true) ?_ rfl;refine bst (a:=[.exc "NoPart" ["name"] [.str "none"],.str "part"]) ?_ zdY;refine bst (a:=D.exc "NoPart" ["name"] [.str "none"]) ?_ rfl;refine bst (a:=[.tup ds,.tup [.str "put",.str "none",.int (c % 5 - 2),p]]) ?_ (zgE o hl zi5 rfl);rw[m5];rfl
  rw[if_neg (by decide)];refine bst (a:=D.exc "NoPlace" [] []) ?_ ?_
  .refine bst (a:=[.tup ds,.tup [.str "put",.non,.int (1+(ds.length:Int)+c % 7),p]]) ?_ (zi2 o hl (by have:=waN c (b:=7) (by decide);omega) (by have:=waN c (b:=7) (by decide);omega));rw[m7];rfl
  refine bst (a:=false) rfl ?_;rw[if_neg (by decide)];have q0:=waN c (b:=1+(ds.length:Int)) (by omega)
  have q1:=wbi c (b:=1+(ds.length:Int)) (by omega)
  obtain⟨k,ek⟩:∃k:Nat,c % (1+(ds.length:Int))=k:=⟨(c % (1+(ds.length:Int))).toNat,by omega⟩
  refine bst (a:=D.exc "NoSheet" [] []) ?_ ?_
  .refine bst (a:=[.tup ds,.tup [.str "put",.non,.int (k:Int),p]]) ?_ (zi3 o hl (k:=k) (by omega) hp);show Option.bind (some (D.tup ds)) (λx=>Option.bind (aC (Option.bind (aC (some (.str "put")) (aC (some D.non) (aC (dMod (.int c) (.int (1+(ds.length:Int)))) (aC (some p) aN)))) mkT) aN) λxs=>some (x::xs))=_
   rw[mL,ek];rfl
  refine bst (a:=false) rfl ?_;rw[if_neg (by decide)]
 .show Option.bind (Option.bind (zaK S [.scr S.p]) λv26=>((dEqG false) (.tup ds) v26)) (λ(r27:D)=>(some r27))=_
  rw[es,zOB,zi4 o];rfl
def fk (K:Unit->Option D):flK K (Fl.nx ():Fl Unit D)=K ():=rfl
def znT {S:Scr}(h63:S.ns.length<=63):zlR S [.scr S.p]=some (.bl true):=by
 obtain⟨ds,es,o,hne,hl⟩:=zj9 h63;show zj6 S (.scr S.p)=_
 unfold zj6;refine bst es ?_;obtain⟨l,el⟩:=zgF h63 0 30;refine bst el ?_;obtain⟨q,qs,rfl⟩:∃q qs,ds=q::qs:=by
  cases ds with
 |nil=>exact absurd rfl hne
 |cons q qs=>exact⟨q,qs,rfl⟩
 obtain⟨x,inn,rfl,gx,li,oi⟩:=o q waj;refine bst (zcw (s:=()) D.int λc _=>?_) ?_
 .have m4:dMod (.int c) (.int 4)=some (.int (c % 4)):=hmod (by decide)
  have c0:=waN c (b:=4) (by decide)
  have c4:=wbi c (b:=4) (by decide)
  obtain⟨y,ey,hy⟩:∃y,dIx (.lst [.str x.nm,.str "none",.str "",.str "A"]) (.int (c % 4))=some (.str y)/\(0<c % 4->(∀z,Nm z->z≠y)/\zex (.str y)=true):=by
   have:c % 4=0\/c % 4=1\/c % 4=2\/c % 4=3:=by omega
   rcases this with h|h|h|h <;> rw[h]
   .exact⟨x.nm,rfl,λz=>absurd z (by decide)⟩
   .exact⟨"none",rfl,λ_=>⟨zi5,rfl⟩⟩
   .exact⟨"",rfl,λ_=>⟨znR,rfl⟩⟩
   .exact⟨"A",rfl,λ_=>⟨nm_A,rfl⟩⟩
  refine bst (a:=.str y) ?_ ?_
  .have i0:dIx (.tup (part x 0 inn::qs)) (.int 0)=some (part x 0 inn):=zbh (j:=0) rfl
   rw[i0];refine bst (a:=.lst [.str x.nm,.str "none",.str "",.str "A"]) rfl ?_;exact bst m4 ey
  obtain⟨R,eR,hR⟩:=zkf (c:=c) (y:=y);refine bst (bst eR rfl) ?_;refine bst (zcK (s:=()) λd hd=>?_) ?_
  .obtain⟨⟨v,ev,hv⟩,hp⟩:=hR d hd;refine bst (a:=false) ?_ ?_
   .refine bst (a:=true) ?_ rfl;refine bst (a:=D.bl true) ?_ rfl;refine bst (a:=[.exc "NoDeed" [] [],.str "deed"]) ?_ zdX;refine bst (a:=D.exc "NoDeed" [] []) ?_ rfl;exact bst (a:=[_,v]) (bst (a:=D.tup (part x 0 inn::qs)) rfl (bst (a:=[v]) (bst ev rfl) rfl)) (zgD hv)
   rw[if_neg (by decide)];by_cases h4:0<c % 4
   .refine bst (a:=true) ?_ ?_
    .rw[m4];show some (decide (0<c % 4))=_
     rw[wax h4]
    rw[if_pos rfl];obtain⟨n1,n2⟩:=hy h4;refine bst (hp _ o hl n1 n2) ?_;refine bst (a:=false) ?_ ?_
    .refine bst (a:=false) ?_ ?_
     .refine bst (a:=true) ?_ rfl;exact bst zdY rfl
     rw[if_neg (by decide)];refine bst (a:=D.bl false) ?_ rfl;refine bst (a:=.str y) rfl ?_;show dEqG true (.str y) (.str y)=_
     exact ze5 (by rfl) true
    rw[if_neg (by decide)]
   .refine bst (a:=false) ?_ ?_
    .rw[m4];show some (decide (0<c % 4))=_
     rw[wao h4]
    rw[if_neg (by decide)]
  .refine bst (a:=false) ?_ ?_
   .rw[es,zOB,zi4 o];rfl
   rw[if_neg (by decide)]
 .rw[fk];try dsimp only[]
  rw[zOB];have step:∀b,NoDd b->(Option.bind (Option.bind (Option.bind (aC (zap [.tup (part x 0 inn::qs),b]) (aC (some (.str "deed")) aN)) zaL) dTru) λk29=>some (!k29))=some false:=λb hb=>by
   rw[zgD hb];show Option.bind (Option.bind (zaL [.exc "NoDeed" [] [],.str "deed"]) dTru) _=_
   rw[zdX];rfl
  refine bst (zcK (s:=()) λd hd=>?_) ?_
  .refine bst (step d ?_) rfl;simp only[wah,waI,or_false] at hd;rcases hd with rfl|rfl|rfl|rfl|rfl|rfl|rfl|rfl|rfl|rfl <;> rfl
  rw[fk];try dsimp only[]
  rw[zOB];refine bst (zcK (s:=()) λd hd=>?_) ?_
  .refine bst (a:=false) ?_ rfl;refine bst (step d ?_) ?_
   .simp only[wah,waI,or_false] at hd;rcases hd with rfl|rfl|rfl|rfl <;> rfl
   rw[if_neg (by decide)];exact step _ rfl
  rw[fk];try dsimp only[]
  rw[znS h63 o hl es];rfl
end Pg
namespace VD
open PySem PySem.Spec PyProof PyProof.Rows L2 PySem.W
def PcM (K:W.Frag)(S:Scr)(ts:List (Addr×Str))(H:Hp):Prop:=SqF K S H/\∀t∈ts,TabH t.1 t.2 H
def znU {K:W.Frag}{S:Scr}{ts:List (Addr×Str)}:Pers (PcM K S ts):=⟨λu h=>⟨pers_F.st u h.1,λt ht=>pers_T.st u (h.2 t ht)⟩,λs h=>⟨pers_F.sm s h.1,λt ht=>pers_T.sm s (h.2 t ht)⟩⟩
def zf8 {K:W.Frag}{S:Scr}{ts:List (Addr×Str)}(i:Nat){t:Addr×Str}(h:ts[i]?=some t):∀H,PcM K S ts H->TabH t.1 t.2 H:=λH hp=>hp.2 t (waW h)
def nmM (ts:List (Addr×Str))(a:Addr):Array Value:=#[.str ((ts.lookup a).getD "") 0]
theorem zkH:∀{ts:List (Addr×Str)},(ts.map (·.1)).Nodup->∀t∈ts,(nmM ts t.1)[0]?=some (Value.str t.2 0)
|[],_,t,h=>by cases h
|(a,q)::ts,nd,t,h=>by
   rw[wbt,wbR] at nd;rcases wah.mp h with rfl|h
   .unfold nmM;simp
   .have hne:(t.1 == a)=false:=beq_eq_false_iff_ne.mpr λz=>nd.1 (by rw[<-z];exact wcn.mpr ⟨t,h,rfl⟩)
    have ih:=zkH nd.2 t h
    unfold nmM at ih⊢;rw[waH,hne];exact ih
def spM (K:W.Frag)(qs:List Str):List Addr->(Addr->Array Value)->Sp:=λtb nm vs H Q _=>vs.length=1/\(tb.length=qs.length->(∀t∈tb.zip qs,(nm t.1)[0]?=some (Value.str t.2 0))->∃S:Scr,S.ns.length<=63/\vs = [.ref S.p]/\PcM K S (tb.zip qs) H/\∀H',Q (.bl true) H')
def lawM {P:Program}{w:World}{K:W.Frag}{mg:Str->Option Value}{base:Heap}{k:Nat}{f:Addr}{fd:FuncData}{x:Str}{tb:List Addr}{qs:List Str}{m:Scr->List D->Option D}{nm:Addr->Array Value}
 (hl0:tb.length=qs.length) (hn:∀t∈tb.zip qs,(nm t.1)[0]?=some (Value.str t.2 0)) (F:∀S:Scr,FnOk P w K mg base CX0 k f fd [x] (pcS (PcM K S (tb.zip qs)) (spF K (m S)))) (hl:∀S:Scr,S.ns.length<=63->m S [.scr S.p]=some (.bl true)):FnOk P w K mg base CX0 k f fd [x] (spM K qs tb nm):=
 ⟨λvs H Q E h=>h.1,λA outer s H args us vs Q E hr he hb hv h=>by
  obtain⟨S,h63,e,hP,hq⟩:=h.2 hl0 hn;subst e;refine(F S).run A outer s H args us _ Q E hr he hb hv ⟨hP,λ_=>False,[.scr S.p],.bl true,λ_ h=>h.elim,.cons (.scr _) .nil,hl S h63,λv H' J' u r=>?_⟩;cases r;exact hq _⟩
def walkM {l:PySem.W.OpenLaw}{k:Nat}{x:Str}{qs:List Str}{q:Program}{loose:List Str}{XP:(Str->Option Value)->Heap->Prop}{YP:World->Heap->Prop}{d:DefRec}{K:Params->W.Frag}(hn:l.most=some 63)(hdf:d.params.defaults = [])(hr:Room k callerA)
 (hY:∀(w:World) (h:Heap),YP w h->(K w.params).In h)
 (F:∀(w:World) (mg mb:Str->Option Value) (mean:ExcName->Option Value) (fa:Addr) (h:Heap),(K w.params).In h->Top q (PySem.W.looseW q loose) mean mg mb h->mg d.name=some (.ref fa)->
  ∃(fd:FuncData) (tb:List Addr) (nm:Addr->Array Value),Tabs (K w.params) h tb/\(∀(s:Shared) (u:Value),BindsTo s fd ⟨[u],[]⟩ [(x,u)])/\
   ∀(base:Heap) (bm:Addr) (ob:Obj),(K w.params).In base->base.Ns mainGlobals mg->BMod base mainGlobals mg bm ob->FnOk l.prog w (K w.params) mg base CX0 k fa fd [x] (spM (K w.params) qs tb nm)) :
 PySem.W.WalkO q loose XP YP l.row.toRowW d [] (λf vs=>PySem.call f vs):=
 zjk (n:=63) (k:=k) (x:=x) (CX:=λ_=>CX0) (sp:=λw=>spM (K w.params) qs) hn (by decide) hdf hr hY F
  (λw tb nm H a ns hl hT hS hF=>⟨rfl,λh0 h1=>⟨⟨a,ns⟩,hl,rfl,⟨SqF.of hS hF,λt ht=>⟨_,hT t.1 (wci ht).1,h1 t ht⟩⟩,λ_=>rfl⟩⟩) λ_ _ _ _ _ z=>z
def zeJ {K:W.Frag}{h:Heap}{ct Pt p:Addr}{ocd:Obj}{vs:Array Value}(X:K.In h)(hB:Based h h ct Pt #[])(lt:K.lookup ct=some ocd)(dt:ocd.data=.fields vs)(v11:vs.getD 11 .none=.ref p):Pt=p:=by
 obtain⟨o,vs',_,_,_,_,_,_,_,_,e1,e2,e3,_⟩:=hB.code;rw[X _ _ lt] at e1;cases e1;rw[dt] at e2;cases e2;rw[v11] at e3;cases e3;rfl
theorem zi6 {P:Program}{w:World}{K:W.Frag}{mg:Str->Option Value}{base:Heap}{f:Addr}{fd:FuncData}{ps:List Str}{x:Str}{Pc:Hp->Prop}{b:(List D->Option D)->List D->Option D}{m:Nat->List D->Option D}{c:Nat}(h0:∀ds,m 0 ds=none)(hs:∀n,m (n+1)=b (m n))
 (bd:Binds K fd ps []) (kp:W.keepIn K (.ref f)=true) (mx:mg x=some (.ref f)) {k:Nat}(hlen:∀n ds d,m n ds=some d->ds.length=ps.length)
 (step:∀{n:Nat}{self:List D->Option D},Cal P w K mg base n x ps (pcS Pc (spF K self))->FnOk P w K mg base CX0 (n+c) f fd ps (pcS Pc (spF K (b self)))):∀n,FnOk P w K mg base CX0 (k+c*n) f fd ps (pcS Pc (spF K (m n)))
|0=>by
   refine⟨λvs H Q E h=>?_,λA outer s H args us vs Q E _ _ _ _ h=>?_⟩
   .obtain⟨_,J,ds,d,_,_,e,_⟩:=h;rw[h0] at e;cases e
   .obtain⟨_,J,ds,d,_,_,e,_⟩:=h;rw[h0] at e;cases e
|n+1=>by
   rw[hs,Nat.mul_succ,<-Nat.add_assoc];exact step ⟨f,fd,zi6 h0 hs bd kp mx hlen step n,bd,kp,mx⟩
end VD
namespace PySem.W.Fast
def tw13745938923571347430:=0
def tw7501714291452376314:=0
def tw16763843227454184137:=0
def tw1868208193709601040:=0
def tw13533669078720561698:=0
def tw12764807474890971370:=0
def tw12861933128002269313:=0
def tw13455403901526770943:=0
def tw9125813469520894985:=0
def tw15662484254564071580:=0
def tw13725350253185599927:=0
def tw12491264871300558863:=0
def tw6138938207673341562:=0
def tw6429958608356301652:=0
def tw14800372901250812079:=0
def tw7081942488346588484:=0
def tw8895343978862726269:=0
def tw10584057096525180933:=0
def tw4378209858996109316:=0
def tw16788194448946946015:=0
def tw17722450130052252535:=0
def tw4170160142152205394:=0
def tw1853442274648311914:=0
def tw467374521902370218:=0
def tw13560932204178776984:=0
def tw10116316364529352213:=0
def tw2772062992732759610:=0
def tw10787551807213692267:=0
def tw5255164388686025481:=0
def tw1805835995385918498:=0
def tw14117296463074852800:=0
def tw2602176273341265913:=0
def tw18009346097575647947:=0
def tw10996670478970500511:=0
def tw16677830865372117986:=0
def tw10246897325056126405:=0
def tw5909006367055703101:=0
def tw1951804427279581740:=0
def tw2648162252809670505:=0
def tw17226024703708153821:=0
def tw7106148853148182607:=0
def tw5229095549197209758:=0
def tw13450858659726976385:=0
def tw8608897113469266541:=0
def tw8881182084157362280:=0
def tw13606759392657045958:=0
def tw16279071105899063521:=0
def tw9423412768069298468:=0
def tw8488304530418538078:=0
def tw14794390340339114676:=0
def tw7088333942335819196:=0
def tw13657362666528610925:=0
def tw3012362050936559050:=0
def tw16979196132089880992:=0
def tw7610480915361691552:=0
def tw6586328135210825260:=0
def tw8409359394306607561:=0
def tw2443562206202898051:=0
def tw1399398950057958381:=0
def tw553584443475958649:=0
def tw2752317303767024648:=0
def tw3282670088192216062:=0
def tw7002880027939088920:=0
def tw14120952208515956313:=0
def tw13243846253976273099:=0
def tw2174221026333512303:=0
def tw9885932874259832560:=0
def tw1179371954267246036:=0
def tw6355253161652122193:=0
def tw6471430677719160410:=0
def tw14841459982322239381:=0
def tw2808683179163663293:=0
def tw17263722822501297265:=0
def tw14794284890604507258:=0
def tw8656379613955085182:=0
def tw8868604833902405856:=0
def tw7540488153373886644:=0
def tw3960563822756197368:=0
def tw11931089663111780451:=0
def tw17945313828811151256:=0
def tw2270411782724931001:=0
def tw15867427035625492802:=0
def tw8085039915331696259:=0
def tw16686190453894943322:=0
def tw9316871231149378099:=0
def tw12964876402633593455:=0
def tw13134040037162013443:=0
def tw1866917386954081409:=0
def tw16892577914122241639:=0
def tw8472763698423958523:=0
def tw11557953417037493125:=0
def tw16488557657458653499:=0
def tw8942818010874466539:=0
def tw3309272462423866129:=0
def tw7150957027884324097:=0
def tw16689666505220361983:=0
def tw11251448856358223407:=0
def tw5801935586604866211:=0
def tw1829967515008347807:=0
def tw12295384681157161006:=0
def tw12104735520946508072:=0
def tw8203423037072128223:=0
def tw8498177450044095223:=0
def tw3515156513150865501:=0
def tw7722722724700266250:=0
def tw1970864252736833502:=0
def tw17586448667128270873:=0
def tw13860885434066295443:=0
def tw4463025812313652673:=0
def tw7142218152154498563:=0
def tw9039157219623746612:=0
def tw9280031491844045758:=0
def tw13754465428808414997:=0
def tw13068874211763580359:=0
def tw16959802732684853897:=0
def tw10088250521673414605:=0
def tw13397660482339922767:=0
def tw264045103451809919:=0
def tw5133576451881770494:=0
def tw2589999080303126238:=0
def tw11893235272754382864:=0
def tw9552067001043891357:=0
def tw16692075432971473663:=0
def tw4959463732286082004:=0
def tw14170282002621144013:=0
def tw6481868185648902336:=0
def tw11810579961183639639:=0
def tw8255238433048313575:=0
def tw15315968608526717959:=0
def tw5812569025209370691:=0
def tw10982788372329792480:=0
def tw11355629300378337910:=0
def tw2053668315484531734:=0
end PySem.W.Fast
namespace Pg
open PySem PySem.Spec PyProof PyProof.Rows L2 VD EX
def zaz {p:Str->Prop}{x:Str}{xs:List Str}(h:p x)(t:∀y∈xs,p y):∀y∈x::xs,p y:=λy hy=>(wah.mp hy).elim (λe=>e▸h) (t y)
def FH (K:W.Frag)(x:Str)(st:Stmt)(f:Addr):Prop:=W.nsIn K mainGlobals x=some (some (.ref f))/\(∃fd,Fun K x x st f fd)/\W.keepIn K (.ref f)=true
def fh_mk {K:W.Frag}{x:Str}{st:Stmt}{f:Addr}{oc:Value}{od an:Option Addr}{osl:Array (Option Value)}{kV doc pm cdv ct:Value}(a:W.nsIn K mainGlobals x=some (some (.ref f)))(l:K.lookup f=some ⟨oc,od,.func (W.fnOf x x (zbE st) (zaT st) (zad st) .none kV doc pm an cdv ct),osl⟩)(c:W.codeIn K cdv x=true)(k:W.keepIn K (.ref f)=true):FH K x st f:=⟨a,⟨_,zeV l c k⟩,k⟩
def xj_mk {K:W.Frag}{C N:Addr}{nm0 q:Str}{bs bm:List Value}{hdct:Bool}{sn:List Str}{sub:List Value}{ab:Bool}{col:Option Bool}{dd:Option Addr}{k0 k1 k2 k3 k5:Option Value}
 (lk:K.lookup C=some (excClassObj nm0 q C N bs bm hdct sn sub ab col dd k0 k1 k2 k3 k5 "ValueError.__new__")) (opq:W.nsIn K PySem.cStatics "thirdparty.any"=some none) (self:PySem.W.mroIn K C (.ref C)=some true) (t1:EX.tailIn K [.type "ValueError",.type "Exception",.type "BaseException",.type "object"] bm=true) (no:W.nsIn K N "__init__"=some none) (sN:EX.strsIn K N=true):EX.XJ K C N bm:=
 ⟨⟨⟨nm0,q,bs,hdct,sn,sub,ab,col,dd,k0,k1,k2,k3,k5,lk⟩,λh X=>EX.tail_K X (λA tl=>by simp) t1,opq,self⟩,no,sN⟩
def zc2:∀(n:Nat) (ds:List D) (d:D),zaE n ds=some d->ds.length=2
|0,ds,d,e=>by cases e
|n+1,ds,d,e=>c2_len ds d e
def zd4:∀(n:Nat) (ds:List D) (d:D),zan n ds=some d->ds.length=2
|0,ds,d,e=>by cases e
|n+1,ds,d,e=>c2_len ds d e
def all_mk {l:PySem.W.OpenLaw}{q:Program}{loose:List Str}{w:World}{K:W.Frag}{h:Heap}{mg mb:Str->Option Value}{mean:ExcName->Option Value}{dR5 dR7 dR12:DefRec}{fa f1 f2 f3 f4 f5 f6 f7 f8 f9 f10 f11 f12 f13 f14 f15 f16 f17 f18 f19 f20 f21 f22 f23 f24 f25 f26 f27 f28 q5 p5 q7 p7 q12 p12:Addr}(X:K.In h)(T:Top q loose mean mg mb h)(hfa:mg "law"=some (.ref fa))
 {od5 an5 od7 an7 od12 an12 od28 an28:Option Addr}{sl5 sl7 sl12 sl28:Array (Option Value)}{oc5 kV5 dc5 pm5 ct5 oc7 kV7 dc7 pm7 ct7 oc12 kV12 dc12 pm12 ct12 oc28 kV28 dc28 pm28 ct28 cd28:Value}
 {oct5:Obj}{vs5:Array Value}(lt5:K.lookup q5=some oct5) (dt5:oct5.data=.fields vs5) (v5:vs5.getD 11 .none=.ref p5)
 {oct7:Obj}{vs7:Array Value}(lt7:K.lookup q7=some oct7) (dt7:oct7.data=.fields vs7) (v7:vs7.getD 11 .none=.ref p7)
 {oct12:Obj}{vs12:Array Value}(lt12:K.lookup q12=some oct12) (dt12:oct12.data=.fields vs12) (v12:vs12.getD 11 .none=.ref p12)
 (nd:[p5,p7,p12].Nodup)
 (h1:FH K "placed_within" zbH f1)
 (h2:FH K "placed_parts" zbZ f2)
 (h3:FH K "parts_of" zcy f3)
 (h4:FH K "part_of" zcT f4)
 (a5:W.nsIn K mainGlobals "is_name"=some (some (.ref f5))) (l5:K.lookup f5=some ⟨oc5,od5,.func (W.fnOf "is_name" "is_name" (zbE zbs) (zaT zbs) (zad zbs) .none kV5 dc5 pm5 an5 (.ref q5) ct5),sl5⟩) (c5:W.codeIn K (.ref q5) "is_name"=true) (k5:W.keepIn K (.ref f5)=true)
 (h6:FH K "is_whole" zc8 f6)
 (a7:W.nsIn K mainGlobals "is_box"=some (some (.ref f7))) (l7:K.lookup f7=some ⟨oc7,od7,.func (W.fnOf "is_box" "is_box" (zbE zbQ) (zaT zbQ) (zad zbQ) .none kV7 dc7 pm7 an7 (.ref q7) ct7),sl7⟩) (c7:W.codeIn K (.ref q7) "is_box"=true) (k7:W.keepIn K (.ref f7)=true)
 (h8:FH K "is_word" zdM f8)
 (h9:FH K "is_rank" zdN f9)
 (h10:FH K "is_head" zdO f10)
 (h11:FH K "is_part" zdL f11)
 (a12:W.nsIn K mainGlobals "are_parts"=some (some (.ref f12))) (l12:K.lookup f12=some ⟨oc12,od12,.func (W.fnOf "are_parts" "are_parts" (zbE zaZ) (zaT zaZ) (zad zaZ) .none kV12 dc12 pm12 an12 (.ref q12) ct12),sl12⟩) (c12:W.codeIn K (.ref q12) "are_parts"=true) (k12:W.keepIn K (.ref f12)=true)
 (h13:FH K "checked" zdK f13)
 (h14:FH K "is_given" zc9 f14)
 (h15:FH K "is_rest" zdR f15)
 (h16:FH K "is_deed" zdQ f16)
 (h17:FH K "with_thing" zfj f17)
 (h18:FH K "with_put" zbB f18)
 (h19:FH K "done" zdP f19)
 (h20:FH K "_law_mixed" zcn f20)
 (h21:FH K "_law_sheet" zco f21)
 (h22:FH K "_law_right" zcp f22)
 (h23:FH K "_law_menu" zcH f23)
 (h24:FH K "_law_bent" zcI f24)
 (h25:FH K "_law_got" zda f25)
 (h26:FH K "_law_is" zdS f26)
 (h27:FH K "_law_put_odd" zb0 f27)
 (a28:W.nsIn K mainGlobals "law"=some (some (.ref f28))) (l28:K.lookup f28=some ⟨oc28,od28,.func (W.fnOf "law" "law" (zbE zeB) (zaT zeB) (zad zeB) .none kV28 dc28 pm28 an28 cd28 ct28),sl28⟩) (c28:W.codeIn K cd28 "law"=true) (k28:W.keepIn K (.ref f28)=true)
 (z0:W.nsIn K mainGlobals "len"=some none)
 (z1:W.nsIn K mainGlobals "range"=some none)
 (z2:W.nsIn K mainGlobals "min"=some none)
 (z3:W.nsIn K mainGlobals "max"=some none)
 (z4:W.nsIn K mainGlobals "int"=some none)
 (z5:W.nsIn K mainGlobals "str"=some none)
 (z6:W.nsIn K mainGlobals "bool"=some none)
 (z7:W.nsIn K mainGlobals "list"=some none)
 (z8:W.nsIn K mainGlobals "tuple"=some none)
 (z9:W.nsIn K mainGlobals "isinstance"=some none)
 (z10:W.nsIn K mainGlobals "any"=some none)
 (z11:W.nsIn K mainGlobals "all"=some none)
 (z12:W.nsIn K mainGlobals "enumerate"=some none)
 (z13:W.nsIn K mainGlobals "abs"=some none)
 (z14:W.nsIn K mainGlobals "sorted"=some none)
 (z15:W.nsIn K mainGlobals "dict"=some none)
 (z16:W.nsIn K mainGlobals "ord"=some none)
 (z17:W.nsIn K mainGlobals "chr"=some none)
 (z18:W.nsIn K mainGlobals "reversed"=some none)
 {tk_PARTS:Tok}
 {tk_NAME:Tok}
 {tk_LONGEST_NAME:Tok}
 {tk_LETTERS:Tok}
 {p_WORDS:Addr}{od_WORDS:Option Addr}{n_WORDS:Nat}{sl_WORDS:Array (Option Value)}{tk_WORDS_0 tk_WORDS_1 tk_WORDS_2:Tok}
 {tk_DEEPEST:Tok}
 (K_str:Kit K "str")
 (K_bool:Kit K "bool")
 (K_int:Kit K "int")
 (K_tuple:Kit K "tuple")
 (g_PARTS:W.nsIn K mainGlobals "PARTS"=some (some (.int 5 tk_PARTS)))
 (g_NAME:W.nsIn K mainGlobals "NAME"=some (some (.int 0 tk_NAME)))
 (g_LONGEST_NAME:W.nsIn K mainGlobals "LONGEST_NAME"=some (some (.int 8 tk_LONGEST_NAME)))
 (g_LETTERS:W.nsIn K mainGlobals "LETTERS"=some (some (.str "abcdefghijklmnopqrstuvwxyz" tk_LETTERS)))
 (g_WORDS:W.nsIn K mainGlobals "WORDS"=some (some (.ref p_WORDS)))
 (l_WORDS:K.lookup p_WORDS=some ⟨.type "tuple",od_WORDS,.seq #[.str "free" tk_WORDS_0,.str "shut" tk_WORDS_1,.str "hidden" tk_WORDS_2] n_WORDS,sl_WORDS⟩)
 (g_DEEPEST:W.nsIn K mainGlobals "DEEPEST"=some (some (.int 5 tk_DEEPEST)))
 {C_NoPart:Addr}(n_NoPart:W.nsIn K mainGlobals "NoPart"=some (some (.ref C_NoPart)))
 {C_NoDeed:Addr}(n_NoDeed:W.nsIn K mainGlobals "NoDeed"=some (some (.ref C_NoDeed)))
 {C_NoPlace:Addr}(n_NoPlace:W.nsIn K mainGlobals "NoPlace"=some (some (.ref C_NoPlace)))
 {C_NoSheet:Addr}(n_NoSheet:W.nsIn K mainGlobals "NoSheet"=some (some (.ref C_NoSheet)))
 {C_FocusError:Addr}(n_FocusError:W.nsIn K mainGlobals "FocusError"=some (some (.ref C_FocusError)))
 {C_MustRing:Addr}(n_MustRing:W.nsIn K mainGlobals "MustRing"=some (some (.ref C_MustRing)))
 {C_NoHead:Addr}(n_NoHead:W.nsIn K mainGlobals "NoHead"=some (some (.ref C_NoHead)))
 {C_NoKey:Addr}(n_NoKey:W.nsIn K mainGlobals "NoKey"=some (some (.ref C_NoKey)))
 {C_NoLine:Addr}(n_NoLine:W.nsIn K mainGlobals "NoLine"=some (some (.ref C_NoLine)))
 {C_NoText:Addr}(n_NoText:W.nsIn K mainGlobals "NoText"=some (some (.ref C_NoText)))
 {C_NotOpen:Addr}(n_NotOpen:W.nsIn K mainGlobals "NotOpen"=some (some (.ref C_NotOpen)))
 {C_NoWay:Addr}(n_NoWay:W.nsIn K mainGlobals "NoWay"=some (some (.ref C_NoWay)))
 {C_TooMany:Addr}(n_TooMany:W.nsIn K mainGlobals "TooMany"=some (some (.ref C_TooMany)))
 {C_Twice:Addr}(n_Twice:W.nsIn K mainGlobals "Twice"=some (some (.ref C_Twice)))
 {N_NoPart fI_NoPart:Addr}{bm_NoPart:List Value}{p_NoPart x_NoPart slf_NoPart:Str}{k_NoPart:Nat}{cp_NoPart np_NoPart fp_NoPart jp_NoPart:Pos}{fd_NoPart:FuncData}(xi_NoPart:EX.XI l.prog w K C_NoPart N_NoPart fI_NoPart bm_NoPart slf_NoPart x_NoPart "name" (.JoinedStr [.Constant (.str p_NoPart) k_NoPart cp_NoPart,.FormattedValue (.Name x_NoPart np_NoPart) 114 none fp_NoPart] jp_NoPart) fd_NoPart) (kp_NoPart:W.keepIn K (.ref C_NoPart)=true) (bb_NoPart:bm_NoPart.contains (.type "BaseException")=true) (pl_NoPart:p_NoPart.length<=1000)
 {N_NoDeed:Addr}{bm_NoDeed:List Value}(xj_NoDeed:EX.XJ K C_NoDeed N_NoDeed bm_NoDeed) (kp_NoDeed:W.keepIn K (.ref C_NoDeed)=true) (bb_NoDeed:bm_NoDeed.contains (.type "BaseException")=true)
 {N_NoPlace:Addr}{bm_NoPlace:List Value}(xj_NoPlace:EX.XJ K C_NoPlace N_NoPlace bm_NoPlace) (kp_NoPlace:W.keepIn K (.ref C_NoPlace)=true) (bb_NoPlace:bm_NoPlace.contains (.type "BaseException")=true)
 {N_NoSheet:Addr}{bm_NoSheet:List Value}(xj_NoSheet:EX.XJ K C_NoSheet N_NoSheet bm_NoSheet) (kp_NoSheet:W.keepIn K (.ref C_NoSheet)=true) (bb_NoSheet:bm_NoSheet.contains (.type "BaseException")=true)
 (z_super:W.nsIn K mainGlobals "super"=some none)
 (fe_b:PySem.W.mroIn K C_FocusError (.type "BaseException")=some true)
 (fe_t:PySem.W.typeIn K (.ref C_FocusError)=some (.type "type"))
 (z_VE:W.nsIn K mainGlobals "ValueError"=some none)
 (fe_NoDeed:PySem.W.mroIn K C_NoDeed (.ref C_FocusError)=some true)
 (xk_NoDeed:EX.XK1 K C_NoDeed)
 (fe_NoPart:PySem.W.mroIn K C_NoPart (.ref C_FocusError)=some true)
 (xk_NoPart:EX.XK1 K C_NoPart)
 (fe_NoPlace:PySem.W.mroIn K C_NoPlace (.ref C_FocusError)=some true)
 (xk_NoPlace:EX.XK1 K C_NoPlace)
 (fe_NoSheet:PySem.W.mroIn K C_NoSheet (.ref C_FocusError)=some true)
 (xk_NoSheet:EX.XK1 K C_NoSheet)
 (xg_name:EX.XG K C_NoPart "name")
 (j_NoDeed_NoPart:PySem.W.kitOne K (.ref C_NoDeed) (.ref C_NoPart)=some false)
 (j_NoPart_NoPart:PySem.W.kitOne K (.ref C_NoPart) (.ref C_NoPart)=some true)
 (j_NoDeed_NoDeed:PySem.W.kitOne K (.ref C_NoDeed) (.ref C_NoDeed)=some true)
 (j_NoPart_NoDeed:PySem.W.kitOne K (.ref C_NoPart) (.ref C_NoDeed)=some false)
 (jt_NoDeed_NoText_NotOpen:PySem.W.kitAny K (.ref C_NoDeed) [.ref C_NoText,.ref C_NotOpen]=some false)
 (jt_NoPart_NoText_NotOpen:PySem.W.kitAny K (.ref C_NoPart) [.ref C_NoText,.ref C_NotOpen]=some false)
 (jt_NoDeed_MustRing_NoHead_NoKey_NoLine_NoPlace_NoSheet:PySem.W.kitAny K (.ref C_NoDeed) [.ref C_MustRing,.ref C_NoHead,.ref C_NoKey,.ref C_NoLine,.ref C_NoPlace,.ref C_NoSheet]=some false)
 (jt_NoPart_MustRing_NoHead_NoKey_NoLine_NoPlace_NoSheet:PySem.W.kitAny K (.ref C_NoPart) [.ref C_MustRing,.ref C_NoHead,.ref C_NoKey,.ref C_NoLine,.ref C_NoPlace,.ref C_NoSheet]=some false)
 (jt_NoDeed_NoWay_TooMany_Twice:PySem.W.kitAny K (.ref C_NoDeed) [.ref C_NoWay,.ref C_TooMany,.ref C_Twice]=some false)
 (jt_NoPart_NoWay_TooMany_Twice:PySem.W.kitAny K (.ref C_NoPart) [.ref C_NoWay,.ref C_TooMany,.ref C_Twice]=some false)
 (j_NoDeed_ValueError:PySem.W.kitOne K (.ref C_NoDeed) (.type "ValueError")=some true)
 (j_NoPart_ValueError:PySem.W.kitOne K (.ref C_NoPart) (.type "ValueError")=some true)
 (jt_NoPlace_NoDeed_NoSheet_NoPart:PySem.W.kitAny K (.ref C_NoPlace) [.ref C_NoDeed,.ref C_NoSheet,.ref C_NoPart]=some false)
 (j_NoPlace_NoPlace:PySem.W.kitOne K (.ref C_NoPlace) (.ref C_NoPlace)=some true)
 (j_NoSheet_NoPlace:PySem.W.kitOne K (.ref C_NoSheet) (.ref C_NoPlace)=some false)
 (jt_NoSheet_NoDeed_NoPlace_NoPart:PySem.W.kitAny K (.ref C_NoSheet) [.ref C_NoDeed,.ref C_NoPlace,.ref C_NoPart]=some false)
 (j_NoSheet_NoSheet:PySem.W.kitOne K (.ref C_NoSheet) (.ref C_NoSheet)=some true)
 (hK:PySem.W.kb_classed K=true) (hf5:(recsOf q).find? (λe=>e.name == (Str.ofString "is_name"))=some dR5) (hf7:(recsOf q).find? (λe=>e.name == (Str.ofString "is_box"))=some dR7) (hf12:(recsOf q).find? (λe=>e.name == (Str.ofString "are_parts"))=some dR12)
 : ∃(fd:FuncData) (tb:List Addr) (nm:Addr->Array Value),Tabs K h tb/\(∀(s:Shared) (v:Value),BindsTo s fd ⟨[v],[]⟩ [("_law_script",v)])/\∀(base:Heap) (bm:Addr) (ob:Obj),K.In base->base.Ns mainGlobals mg->BMod base mainGlobals mg bm ob->FnOk l.prog w K mg base CX0 55 fa fd ["_law_script"] (spM K ["is_name.<locals>.<genexpr>","is_box.<locals>.<genexpr>","are_parts.<locals>.<genexpr>"] tb nm):=by
 have e:=hfa.symm.trans (waU X T.g a28)
 cases e;have G_PARTS:GlobD K mg "PARTS" (.int 5):=zdo (waU X T.g g_PARTS)
 have G_NAME:GlobD K mg "NAME" (.int 0):=zdo (waU X T.g g_NAME)
 have G_LONGEST_NAME:GlobD K mg "LONGEST_NAME" (.int 8):=zdo (waU X T.g g_LONGEST_NAME)
 have G_LETTERS:GlobD K mg "LETTERS" (.str "abcdefghijklmnopqrstuvwxyz"):=zjA (waU X T.g g_LETTERS)
 have G_WORDS:GlobD K mg "WORDS" (.tup [(.str "free"),(.str "shut"),(.str "hidden")]):=zjB (vs:=[.str "free",.str "shut",.str "hidden"]) (waU X T.g g_WORDS) l_WORDS rfl rfl (by show 3<=sizeLine;decide) (.cons ⟨_,rfl⟩ (.cons ⟨_,rfl⟩ (.cons ⟨_,rfl⟩ (.nil)))) (λ_ _=>.cons (.str _) (.cons (.str _) (.cons (.str _) (.nil))))
 have G_DEEPEST:GlobD K mg "DEEPEST" (.int 5):=zdo (waU X T.g g_DEEPEST)
 obtain⟨a1,⟨_,F1⟩,k1⟩:=h1;have b1:=F1.binds (ps:=["parts","outer_place"]) λ_ _ _ _ _ _ us hl=>match us,hl with|[_,_],_=>rfl
 have m1:=waU X T.g a1
 obtain⟨a2,⟨_,F2⟩,k2⟩:=h2;obtain⟨a3,⟨_,F3⟩,k3⟩:=h3;obtain⟨a4,⟨_,F4⟩,k4⟩:=h4;have b4:=F4.binds (ps:=["sheet","name"]) λ_ _ _ _ _ _ us hl=>match us,hl with|[_,_],_=>rfl
 have m4:=waU X T.g a4
 have F5:=zeV (st:=zbs) l5 c5 k5
 have m5:=waU X T.g a5
 obtain⟨a6,⟨_,F6⟩,k6⟩:=h6;have F7:=zeV (st:=zbQ) l7 c7 k7
 have m7:=waU X T.g a7
 obtain⟨a8,⟨_,F8⟩,k8⟩:=h8;obtain⟨a9,⟨_,F9⟩,k9⟩:=h9;obtain⟨a10,⟨_,F10⟩,k10⟩:=h10;obtain⟨a11,⟨_,F11⟩,k11⟩:=h11;have F12:=zeV (st:=zaZ) l12 c12 k12
 have b12:=F12.binds (ps:=["thing","deep"]) λ_ _ _ _ _ _ us hl=>match us,hl with|[_,_],_=>rfl
 have m12:=waU X T.g a12
 obtain⟨a13,⟨_,F13⟩,k13⟩:=h13;have b13:=F13.binds (ps:=["thing"]) λ_ _ _ _ _ _ us hl=>match us,hl with|[_],_=>rfl
 have m13:=waU X T.g a13
 obtain⟨a14,⟨_,F14⟩,k14⟩:=h14;obtain⟨a15,⟨_,F15⟩,k15⟩:=h15;obtain⟨a16,⟨_,F16⟩,k16⟩:=h16;obtain⟨a17,⟨_,F17⟩,k17⟩:=h17;obtain⟨a18,⟨_,F18⟩,k18⟩:=h18;have b18:=F18.binds (ps:=["sheet","name","at","part"]) λ_ _ _ _ _ _ us hl=>match us,hl with|[_,_,_,_],_=>rfl
 have m18:=waU X T.g a18
 obtain⟨a19,⟨_,F19⟩,k19⟩:=h19;have b19:=F19.binds (ps:=["sheet","deed"]) λ_ _ _ _ _ _ us hl=>match us,hl with|[_,_],_=>rfl
 have m19:=waU X T.g a19
 obtain⟨a20,⟨_,F20⟩,k20⟩:=h20;obtain⟨a21,⟨_,F21⟩,k21⟩:=h21;obtain⟨a22,⟨_,F22⟩,k22⟩:=h22;obtain⟨a23,⟨_,F23⟩,k23⟩:=h23;obtain⟨a24,⟨_,F24⟩,k24⟩:=h24;obtain⟨a25,⟨_,F25⟩,k25⟩:=h25;obtain⟨a26,⟨_,F26⟩,k26⟩:=h26;obtain⟨a27,⟨_,F27⟩,k27⟩:=h27;have F28:=zeV (st:=zeB) l28 c28 k28
 have B:Blt mg:=zaz (waB X T.g z0) (zaz (waB X T.g z1) (zaz (waB X T.g z2) (zaz (waB X T.g z3) (zaz (waB X T.g z4) (zaz (waB X T.g z5) (zaz (waB X T.g z6) (zaz (waB X T.g z7) (zaz (waB X T.g z8) (zaz (waB X T.g z9) (zaz (waB X T.g z10) (zaz (waB X T.g z11) (zaz (waB X T.g z12) (zaz (waB X T.g z13) (zaz (waB X T.g z14) (zaz (waB X T.g z15) (zaz (waB X T.g z16) (zaz (waB X T.g z17) (zaz (waB X T.g z18) (λ_ hy=>by cases hy)))))))))))))))))))
 have m_NoPart:=waU X T.g n_NoPart
 have m_NoDeed:=waU X T.g n_NoDeed
 have m_NoPlace:=waU X T.g n_NoPlace
 have m_NoSheet:=waU X T.g n_NoSheet
 have m_FocusError:=waU X T.g n_FocusError
 have m_MustRing:=waU X T.g n_MustRing
 have m_NoHead:=waU X T.g n_NoHead
 have m_NoKey:=waU X T.g n_NoKey
 have m_NoLine:=waU X T.g n_NoLine
 have m_NoText:=waU X T.g n_NoText
 have m_NotOpen:=waU X T.g n_NotOpen
 have m_NoWay:=waU X T.g n_NoWay
 have m_TooMany:=waU X T.g n_TooMany
 have m_Twice:=waU X T.g n_Twice
 have X_NoPart:XCl l.prog w K mg "NoPart" "name" zex:=zjW xi_NoPart (waB X T.g z_super) m_NoPart n_NoPart kp_NoPart bb_NoPart pl_NoPart
 have X_NoDeed:XCl0 K mg "NoDeed":=⟨C_NoDeed,N_NoDeed,bm_NoDeed,xj_NoDeed,m_NoDeed,n_NoDeed,kp_NoDeed,bb_NoDeed⟩
 have X_NoPlace:XCl0 K mg "NoPlace":=⟨C_NoPlace,N_NoPlace,bm_NoPlace,xj_NoPlace,m_NoPlace,n_NoPlace,kp_NoPlace,bb_NoPlace⟩
 have X_NoSheet:XCl0 K mg "NoSheet":=⟨C_NoSheet,N_NoSheet,bm_NoSheet,xj_NoSheet,m_NoSheet,n_NoSheet,kp_NoSheet,bb_NoSheet⟩
 have XF_name:XFld K "name" ["NoPart"]:=ziC n_NoPart xg_name zjX
 obtain⟨ct'5,Pt5,hcd5,hB5⟩:=wce T hf5 m5 (X _ _ l5) rfl;obtain rfl:q5=ct'5:=Value.ref.inj hcd5;obtain rfl:Pt5=p5:=zeJ X hB5 lt5 dt5 v5;have hC5:=CodeK.of X c5 hB5
 obtain⟨ct'7,Pt7,hcd7,hB7⟩:=wce T hf7 m7 (X _ _ l7) rfl;obtain rfl:q7=ct'7:=Value.ref.inj hcd7;obtain rfl:Pt7=p7:=zeJ X hB7 lt7 dt7 v7;have hC7:=CodeK.of X c7 hB7
 obtain⟨ct'12,Pt12,hcd12,hB12⟩:=wce T hf12 m12 (X _ _ l12) rfl;obtain rfl:q12=ct'12:=Value.ref.inj hcd12;obtain rfl:Pt12=p12:=zeJ X hB12 lt12 dt12 v12;have hC12:=CodeK.of X c12 hB12
 refine⟨W.fnOf "law" "law" (zbE zeB) (zaT zeB) (zad zeB) .none kV28 dc28 pm28 an28 cd28 ct28,[Pt5,Pt7,Pt12],nmM [(Pt5,"is_name.<locals>.<genexpr>"),(Pt7,"is_box.<locals>.<genexpr>"),(Pt12,"are_parts.<locals>.<genexpr>")],⟨(λP hP=>by
  rcases wah.mp hP with rfl|hP
  .exact⟨_,hB5.tab⟩
  rcases wah.mp hP with rfl|hP
  .exact⟨_,hB7.tab⟩
  rcases wah.mp hP with rfl|hP
  .exact⟨_,hB12.tab⟩
  cases hP),(λP hP=>by
  rcases wah.mp hP with rfl|hP
  .exact zfG X T.g hB5 hK
  rcases wah.mp hP with rfl|hP
  .exact zfG X T.g hB7 hK
  rcases wah.mp hP with rfl|hP
  .exact zfG X T.g hB12 hK
  cases hP)⟩,λs v=>.of_eq rfl,λbase bm ob hk hn hM=>lawM (m:=zlR) (tb:=[Pt5,Pt7,Pt12]) (qs:=["is_name.<locals>.<genexpr>","is_box.<locals>.<genexpr>","are_parts.<locals>.<genexpr>"]) rfl (zkH (ts:=[(Pt5,"is_name.<locals>.<genexpr>"),(Pt7,"is_box.<locals>.<genexpr>"),(Pt12,"are_parts.<locals>.<genexpr>")]) nd) (λS=>?_) λS=>λh63=>znT (S:=S) h63⟩
 have CM {k:Nat}{x:Str}{ps:List Str}{sp:Sp}{f:Addr}{fd:FuncData}{st:Stmt}(F:Fun K x x st f fd) (h:FnOk l.prog w K mg base CX0 k f fd ps sp) (c:W.keepIn K (.ref f)=true) (a:W.nsIn K mainGlobals x=some (some (.ref f))) (b:∀(kV doc pm:Value) (an:Option Addr) (cdv ct:Value) (us:List Value),us.length=ps.length->bindArgs (W.fnOf x x (zbE st) (zaT st) (zad st) .none kV doc pm an cdv ct) ⟨us,[]⟩=pure (ps.zip us):=by(intro _ _ _ _ _ _ us hl;first|exact(match us,hl with|[_],_=>rfl)|exact(match us,hl with|[_,_],_=>rfl)|exact(match us,hl with|[_,_,_],_=>rfl)|exact(match us,hl with|[_,_,_,_],_=>rfl))):Cal l.prog w K mg base k x ps sp:=⟨f,fd,h,F.binds b,c,waU X T.g a⟩
 have zc:=@znU K S [(Pt5,"is_name.<locals>.<genexpr>"),(Pt7,"is_box.<locals>.<genexpr>"),(Pt12,"are_parts.<locals>.<genexpr>")]
 have TT5:TabF K mg base _ Pt5:=⟨q5,bm,ob,hcd5,hC5,hM⟩
 have TT7:TabF K mg base _ Pt7:=⟨q7,bm,ob,hcd7,hC7,hM⟩
 have TT12:TabF K mg base _ Pt12:=⟨q12,bm,ob,hcd12,hC12,hM⟩
 have C_placed_within:=CM F1 (zkt (P:=l.prog) (w:=w) (K:=K) (mg:=mg) (base:=base) (x:="placed_within") (ps:=["parts","outer_place"]) (b:=zbI) (m:=zaE) (k:=0) (λ_=>rfl) (λ_=>rfl) b1 k1 m1 (zc2) (λ{n} {self} C=>by rw[Nat.zero_add] at *;exact zdm F1 B C G_PARTS) 8) k1 a1
 have C_placed_parts:=CM F2 (zdU F2 B C_placed_within) k2 a2
 have C_parts_of:=CM F3 (zfV F3 B C_placed_parts) k3 a3
 have C_part_of:=CM F4 (zg3 F4 B C_parts_of G_NAME) k4 a4
 have C_is_name:=CM F5 (zg5 F5 B zc TT5 (zf8 (t:=(Pt5,"is_name.<locals>.<genexpr>")) 0 rfl) K_str G_LONGEST_NAME G_LETTERS) k5 a5
 have C_is_whole:=CM F6 (zfX F6 B K_bool K_int) k6 a6
 have C_is_box:=CM F7 (ziL F7 B zc TT7 (zf8 (t:=(Pt7,"is_box.<locals>.<genexpr>")) 1 rfl) C_is_whole K_tuple) k7 a7
 have C_is_word:=CM F8 (zg7 F8 B K_str G_WORDS) k8 a8
 have C_is_rank:=CM F9 (zg9 F9 B C_is_whole) k9 a9
 have C_is_head:=CM F10 (zhb F10 B zc C_is_name) k10 a10
 have C_are_parts:=CM F12 (zi6 (P:=l.prog) (w:=w) (K:=K) (mg:=mg) (base:=base) (x:="are_parts") (ps:=["thing","deep"]) (b:=zcJ) (m:=zan) (c:=7) (k:=0) (λ_=>rfl) (λ_=>rfl) b12 k12 m12 (zd4) (λ{n} {self} C=>by
  have C_is_part:=CM F11 (zhc F11 B zc C_is_word C_is_box C_is_name C C_is_head C_is_rank K_tuple) k11 a11
  exact zfq F12 B zc TT12 (zf8 (t:=(Pt12,"are_parts.<locals>.<genexpr>")) 2 rfl) C_is_part K_tuple G_DEEPEST) 7) k12 a12
 have C_is_given:=CM F14 (zfZ F14 B zc C_is_word C_is_box C_is_rank C_is_head) k14 a14
 have C_is_rest:=CM F15 (zhf F15 B zc C_is_whole C_is_given) k15 a15
 have C_is_deed:=CM F16 (zhg F16 B zc C_is_rest K_tuple K_str) k16 a16
 have C_with_thing:=CM F17 (zj4 (P:=l.prog) (w:=w) (K:=K) (mg:=mg) (base:=base) (k:=1) (ps:=["parts","name","at","thing"]) F17) k17 a17
 have C_with_put:=CM F18 (zf0 F18 B C_part_of C_with_thing G_PARTS) k18 a18
 have CLmixed:=CM F20 (zeF F20 B) k20 a20
 have CLsheet:=CM F21 (zeG F21 B zc (S:=S) (λH h=>h.1) CLmixed) k21 a21
 have CLright:=CM F22 (zeH F22 B) k22 a22
 have CLmenu:=CM F23 (zft F23 B) k23 a23
 have CLbent:=CM F24 (zfu F24 B CLmenu CLmixed) k24 a24
 have X_part_of:=zew (zfl F4 B C_parts_of G_NAME X_NoPart) b4 k4 m4
 have X_with_put:=zew (zeD F18 B X_part_of C_part_of G_PARTS X_NoPlace) b18 k18 m18
 have X_checked:=zew (zfr F13 B zc C_are_parts X_NoSheet) b13 k13 m13
 have X_done:=zew (ziM zc C_is_deed F19 B X_NoDeed X_part_of X_checked X_with_put C_with_put) b19 k19 m19
 have CLgot:=CM F25 (zf5 F25 B zc X_done (zdr m_FocusError n_NoDeed fe_NoDeed (zdr m_FocusError n_NoPart fe_NoPart (zdr m_FocusError n_NoPlace fe_NoPlace (zdr m_FocusError n_NoSheet fe_NoSheet (zlK m_FocusError fe_b fe_t)))))) k25 a25
 have CLis:=CM F26 (zhj F26 B m_NoPart m_NoDeed m_NoText m_NotOpen m_MustRing m_NoHead m_NoKey m_NoLine m_NoPlace m_NoSheet m_NoWay m_TooMany m_Twice (za2 n_NoDeed xk_NoDeed j_NoDeed_NoPart (za2 n_NoPart xk_NoPart j_NoPart_NoPart zcm)) (za2 n_NoDeed xk_NoDeed j_NoDeed_NoDeed (za2 n_NoPart xk_NoPart j_NoPart_NoDeed zcm)) (zaW n_NoDeed xk_NoDeed jt_NoDeed_NoText_NotOpen (zaW n_NoPart xk_NoPart jt_NoPart_NoText_NotOpen (zb6 (by show 2<=sizeLine;decide)))) (zaW n_NoDeed xk_NoDeed jt_NoDeed_MustRing_NoHead_NoKey_NoLine_NoPlace_NoSheet (zaW n_NoPart xk_NoPart jt_NoPart_MustRing_NoHead_NoKey_NoLine_NoPlace_NoSheet (zb6 (by show 6<=sizeLine;decide)))) (zaW n_NoDeed xk_NoDeed jt_NoDeed_NoWay_TooMany_Twice (zaW n_NoPart xk_NoPart jt_NoPart_NoWay_TooMany_Twice (zb6 (by show 3<=sizeLine;decide)))) (waB X T.g z_VE) (za2 n_NoDeed xk_NoDeed j_NoDeed_ValueError (za2 n_NoPart xk_NoPart j_NoPart_ValueError zcm))) k26 a26
 have CLput_odd:=CM F27 (zdV F27 B zc (S:=S) (λH h=>h.1) CLmixed CLis CLgot CLsheet m_NoDeed m_NoSheet m_NoPart m_NoPlace (zaW n_NoPlace xk_NoPlace jt_NoPlace_NoDeed_NoSheet_NoPart (zb6 (by show 3<=sizeLine;decide))) (za2 n_NoPlace xk_NoPlace j_NoPlace_NoPlace (za2 n_NoSheet xk_NoSheet j_NoSheet_NoPlace zcm)) (zaW n_NoSheet xk_NoSheet jt_NoSheet_NoDeed_NoPlace_NoPart (zb6 (by show 3<=sizeLine;decide))) (za2 n_NoSheet xk_NoSheet j_NoSheet_NoSheet zcm)) k27 a27
 exact znI F28 B zc (S:=S) (λH h=>h.1) CLsheet CLright CLis CLgot CLbent CLput_odd XF_name
end Pg
open PySem PySem.W PyProof.Rows
set_option maxRecDepth 100000 in
set_option maxHeartbeats 0 in
theorem PySem.Challenge.cw_focuswalk_k75_what_is_no_deed_holds : PySem.Challenge.rw_focuswalk_k75_what_is_no_deed.Holds := by
 w_on;o_law;k_head;(case hw=>w_witness2)
 k_fill
 refine VD.walkM (l:=PySem.Challenge.rw_focuswalk_k75_what_is_no_deed) (k:=55) (x:="_law_script") (qs:=["is_name.<locals>.<genexpr>","is_box.<locals>.<genexpr>","are_parts.<locals>.<genexpr>"]) rfl rfl ⟨rfl,by decide,by decide,rfl⟩ (λw h Y=>PySem.W.kIn_of Y) ?F;case F=>
  intro w mg mb mean fa h KX T hmg;refine' Pg.all_mk KX T hmg ?lt5 ?dt5 ?v5 ?lt7 ?dt7 ?v7 ?lt12 ?dt12 ?v12 ?nd (Pg.fh_mk ?a1 ?l1 ?c1 ?k1) (Pg.fh_mk ?a2 ?l2 ?c2 ?k2) (Pg.fh_mk ?a3 ?l3 ?c3 ?k3) (Pg.fh_mk ?a4 ?l4 ?c4 ?k4) ?a5 ?l5 ?c5 ?k5 (Pg.fh_mk ?a6 ?l6 ?c6 ?k6) ?a7 ?l7 ?c7 ?k7 (Pg.fh_mk ?a8 ?l8 ?c8 ?k8) (Pg.fh_mk ?a9 ?l9 ?c9 ?k9) (Pg.fh_mk ?a10 ?l10 ?c10 ?k10) (Pg.fh_mk ?a11 ?l11 ?c11 ?k11) ?a12 ?l12 ?c12 ?k12 (Pg.fh_mk ?a13 ?l13 ?c13 ?k13) (Pg.fh_mk ?a14 ?l14 ?c14 ?k14) (Pg.fh_mk ?a15 ?l15 ?c15 ?k15) (Pg.fh_mk ?a16 ?l16 ?c16 ?k16) (Pg.fh_mk ?a17 ?l17 ?c17 ?k17) (Pg.fh_mk ?a18 ?l18 ?c18 ?k18) (Pg.fh_mk ?a19 ?l19 ?c19 ?k19) (Pg.fh_mk ?a20 ?l20 ?c20 ?k20) (Pg.fh_mk ?a21 ?l21 ?c21 ?k21) (Pg.fh_mk ?a22 ?l22 ?c22 ?k22) (Pg.fh_mk ?a23 ?l23 ?c23 ?k23) (Pg.fh_mk ?a24 ?l24 ?c24 ?k24) (Pg.fh_mk ?a25 ?l25 ?c25 ?k25) (Pg.fh_mk ?a26 ?l26 ?c26 ?k26) (Pg.fh_mk ?a27 ?l27 ?c27 ?k27) ?a28 ?l28 ?c28 ?k28 ?z0 ?z1 ?z2 ?z3 ?z4 ?z5 ?z6 ?z7 ?z8 ?z9 ?z10 ?z11 ?z12 ?z13 ?z14 ?z15 ?z16 ?z17 ?z18 ⟨?t_str_NoneType,?t_str_bool,?t_str_int,?t_str_str,?t_str_tuple,?t_str_list,?t_str_dict⟩ ⟨?t_bool_NoneType,?t_bool_bool,?t_bool_int,?t_bool_str,?t_bool_tuple,?t_bool_list,?t_bool_dict⟩ ⟨?t_int_NoneType,?t_int_bool,?t_int_int,?t_int_str,?t_int_tuple,?t_int_list,?t_int_dict⟩ ⟨?t_tuple_NoneType,?t_tuple_bool,?t_tuple_int,?t_tuple_str,?t_tuple_tuple,?t_tuple_list,?t_tuple_dict⟩ ?g_PARTS ?g_NAME ?g_LONGEST_NAME ?g_LETTERS ?g_WORDS ?l_WORDS ?g_DEEPEST ?n_NoPart ?n_NoDeed ?n_NoPlace ?n_NoSheet ?n_FocusError ?n_MustRing ?n_NoHead ?n_NoKey ?n_NoLine ?n_NoText ?n_NotOpen ?n_NoWay ?n_TooMany ?n_Twice (EX.xi_mk ?lk_NoPart ?i_NoPart ?lf_NoPart ?opq_NoPart ?self_NoPart ?st_NoPart ?tak_NoPart ?cdi_NoPart ?hc_NoPart ?lc_NoPart ?lcc_NoPart ?occd_NoPart ?inC_NoPart ?t1_NoPart ?sN_NoPart ?und_NoPart ?hasD_NoPart ?body_NoPart ?ne_NoPart ?dbg_NoPart ?par_NoPart ?bind_NoPart ?cell_NoPart ?loc1_NoPart ?loc2_NoPart ?flags_NoPart ?kinds_NoPart ?file_NoPart ?top_NoPart ?glob_NoPart ?blt_NoPart ?ccl_NoPart) ?kp_NoPart ?bb_NoPart ?pl_NoPart (Pg.xj_mk ?lk_NoDeed ?opq_NoDeed ?self_NoDeed ?t1_NoDeed ?no_NoDeed ?sN_NoDeed) ?kp_NoDeed ?bb_NoDeed (Pg.xj_mk ?lk_NoPlace ?opq_NoPlace ?self_NoPlace ?t1_NoPlace ?no_NoPlace ?sN_NoPlace) ?kp_NoPlace ?bb_NoPlace (Pg.xj_mk ?lk_NoSheet ?opq_NoSheet ?self_NoSheet ?t1_NoSheet ?no_NoSheet ?sN_NoSheet) ?kp_NoSheet ?bb_NoSheet ?z_super ?fe_b ?fe_t ?z_VE ?fe_NoDeed ⟨?ga_NoDeed,?gt_NoDeed,?xb_NoDeed,?xo_NoDeed,?hd_NoDeed,?cl_NoDeed,?x_sg,?x_tk⟩ ?fe_NoPart ⟨?ga_NoPart,?gt_NoPart,?xb_NoPart,?xo_NoPart,?hd_NoPart,?cl_NoPart,?x_sg,?x_tk⟩ ?fe_NoPlace ⟨?ga_NoPlace,?gt_NoPlace,?xb_NoPlace,?xo_NoPlace,?hd_NoPlace,?cl_NoPlace,?x_sg,?x_tk⟩ ?fe_NoSheet ⟨?ga_NoSheet,?gt_NoSheet,?xb_NoSheet,?xo_NoSheet,?hd_NoSheet,?cl_NoSheet,?x_sg,?x_tk⟩ ⟨?ga_NoPart,?gt_NoPart,?xb_NoPart,?no_name,?hd_NoPart⟩ ?j_NoDeed_NoPart ?j_NoPart_NoPart ?j_NoDeed_NoDeed ?j_NoPart_NoDeed ?jt_NoDeed_NoText_NotOpen ?jt_NoPart_NoText_NotOpen ?jt_NoDeed_MustRing_NoHead_NoKey_NoLine_NoPlace_NoSheet ?jt_NoPart_MustRing_NoHead_NoKey_NoLine_NoPlace_NoSheet ?jt_NoDeed_NoWay_TooMany_Twice ?jt_NoPart_NoWay_TooMany_Twice ?j_NoDeed_ValueError ?j_NoPart_ValueError ?jt_NoPlace_NoDeed_NoSheet_NoPart ?j_NoPlace_NoPlace ?j_NoSheet_NoPlace ?jt_NoSheet_NoDeed_NoPlace_NoPart ?j_NoSheet_NoSheet ?hK ?hf5 ?hf7 ?hf12
  (case n_NoPart|n_NoDeed|n_NoPlace|n_NoSheet|n_FocusError|n_MustRing|n_NoHead|n_NoKey|n_NoLine|n_NoText|n_NotOpen|n_NoWay|n_TooMany|n_Twice=>k_is)
  (case lk_NoPart=>k_is)
  (case i_NoPart=>k_is)
  (case lf_NoPart=>k_is)
  (case opq_NoPart=>k_is)
  (case self_NoPart=>k_is)
  (case st_NoPart=>k_is)
  (case tak_NoPart=>k_is)
  (case cdi_NoPart=>first|k_is|exact rfl)
  (case hc_NoPart=>exact rfl)
  (case lc_NoPart=>k_is)
  (case ccl_NoPart=>exact λ_=>rfl)
  (case lcc_NoPart=>k_is)
  (case occd_NoPart=>exact rfl)
  (case inC_NoPart=>exact rfl)
  (case t1_NoPart=>exact rfl)
  (case sN_NoPart=>exact rfl)
  (case und_NoPart=>exact rfl)
  (case hasD_NoPart=>exact rfl)
  (case body_NoPart=>exact⟨_,_,_,_,_,_,_,_,_,rfl,λ_=>rfl,λ_=>rfl,λ_=>rfl,λ_=>rfl,λ_=>_,λ_=>rfl⟩)
  (case ne_NoPart=>decide)
  (case dbg_NoPart=>decide)
  (case par_NoPart=>exact⟨_,rfl,rfl⟩)
  (case bind_NoPart=>exact λ_ _=>rfl)
  (case cell_NoPart=>decide)
  (case loc1_NoPart=>exact rfl)
  (case loc2_NoPart=>exact rfl)
  (case flags_NoPart=>exact⟨rfl,rfl,rfl⟩)
  (case kinds_NoPart=>exact λ_=>⟨rfl,rfl,rfl,rfl⟩)
  (case file_NoPart=>exact⟨_,_,_,rfl,rfl,rfl⟩)
  (case top_NoPart=>exact rfl)
  (case glob_NoPart=>exact λ_=>rfl)
  (case blt_NoPart=>exact λ_=>rfl)
  (case pl_NoPart=>decide +kernel)
  (case lk_NoDeed=>k_is)
  (case opq_NoDeed=>k_is)
  (case self_NoDeed=>k_is)
  (case t1_NoDeed=>exact rfl)
  (case no_NoDeed=>k_is)
  (case sN_NoDeed=>exact rfl)
  (case lk_NoPlace=>k_is)
  (case opq_NoPlace=>k_is)
  (case self_NoPlace=>k_is)
  (case t1_NoPlace=>exact rfl)
  (case no_NoPlace=>k_is)
  (case sN_NoPlace=>exact rfl)
  (case lk_NoSheet=>k_is)
  (case opq_NoSheet=>k_is)
  (case self_NoSheet=>k_is)
  (case t1_NoSheet=>exact rfl)
  (case no_NoSheet=>k_is)
  (case sN_NoSheet=>exact rfl)
  (case hK=>first|(with_unfolding_all rfl)|rfl)
  (case hf5=>rfl)
  (case hf7=>rfl)
  (case hf12=>rfl)
  (case a5=>k_is)
  (case l5=>k_is)
  (case c5=>k_is)
  (case k5=>k_is)
  (case lt5=>k_is)
  (case dt5=>exact rfl)
  (case v5=>exact rfl)
  (case a7=>k_is)
  (case l7=>k_is)
  (case c7=>k_is)
  (case k7=>k_is)
  (case lt7=>k_is)
  (case dt7=>exact rfl)
  (case v7=>exact rfl)
  (case a12=>k_is)
  (case l12=>k_is)
  (case c12=>k_is)
  (case k12=>k_is)
  (case lt12=>k_is)
  (case dt12=>exact rfl)
  (case v12=>exact rfl)
  (case nd=>decide)
  all_goals try first|k_is|exact rfl|kit_is

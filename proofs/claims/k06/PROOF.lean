import PyProof.Rows.All
import Wide.All
import OpenK.AllK
import Wide.FinOn
import Lean
import PyProof.EqAt
import PyProof.EqKinds
import PyProof.TupleCall
import KE.KSortTup
import KE.KLam
import PyProof.NeKinds
import PyProof.StrCalls2
import PyProof.StrLawsJoin
import PyProof.MinMaxWalk
import PyProof.Rows.CallKwBuiltin
import PyProof.DictCompW
import KE.KRevIter
import PyProof.FactsAll.list_3
import PyProof.ExcInit
import PyProof.ExcClass3
import PyProof.StationsW
import KE.KSuper
import PyProof.ExcBaseAll.ValueError
import PyProof.RulesAs
import PyProof.NsDelKeeps
import PyProof.ExcArgs
import KE.KIsAll
import PyProof.FString4
import PyProof.ExcClass2
import PyProof.StrWalks
import PyProof.GenQ
import PyProof.ConsumeS
import PyProof.CodeObjX
import PySem.Challenge.RW_focuswalk_k06_heads
set_option Elab.async false
set_option maxRecDepth 100000
set_option maxHeartbeats 4000000
open Option renaming bind→Ob
open PySem renaming Value→Vl, Shared→Sd, starEach→sE, mainGlobals→mG, Program→Pm, Around→Ao, wpAny→wA, FuncData→Fu, foldedSetIterable→fSI, builtinsNs→bNs, callEnv→cEv, swapsWith→sWw, compareOp→cOp, sizeLine→sLn, bootBuiltins→bBs
open PySem.W renaming Frag→Fg
open List renaming replicate→rpl
def waa:=@PySem.wpAny_bind
def wab:=@List.getElem?_eq_some_iff
def wac:=@List.getElem?_eq_getElem
def wad:=@List.size_toArray
def wae:=@PySem.Heap.get?_push_of_some
def waf:=@List.length_map
def wag:=@List.mem_singleton
def wah:=@List.getElem?_map
def wai:=@List.getElem?_set_ne
def waj:=@List.length_append
def wak:=@PySem.wpAny_pure
def wal:=@PySem.Heap.lt_size
def wam:=@List.mem_cons_of_mem
def wan:=@Nat.le_refl
def wao:=@Nat.le_trans
def wap:=@List.mem_cons
def waq:=@Nat.lt_of_lt_of_le
def war:=@List.mem_cons_self
def was:=@Option.some.inj
def wat:=@List.mem_append_right
def wau:=@List.getElem?_set_self
def wav:=@PySem.wpAny_mono
def waw:=@PySem.Heap.get?_push_size
def wax:=@Nat.ne_of_lt
def way:=@List.mem_of_getElem?
def waz:=@decide_eq_false
def waA:=@List.mem_append
def waB:=@List.all_eq_true
def waC:=@List.length_take
def waD:=@decide_eq_true
def waE:=@List.mem_map
def waF:=@Bool.and_eq_true
def waG:=@List.getElem?_of_mem
def waH:=@List.map_append
def waI:=@List.getElem?_append_right
def waJ:=@List.append_nil
def waK:=@List.getElem?_append_left
def waL:=@PySem.W.mg_none_of
def waM:=@List.length_cons
def waN:=@List.map_cons
def waO:=@PySem.Heap.get?_update_other
def waP:=@List.nodup_cons
def waQ:=@PySem.wpAny_Call_Name_kw
def waR:=@List.getElem?_take
def waS:=@List.getElem?_eq_none
def waT:=@Nat.lt_irrefl
def waU:=@PySem.W.kia_one
def waV:=@List.append_assoc
def waW:=@List.map_map
def waX:=@Option.map_eq_some_iff
def waY:=@Nat.lt_of_le_of_lt
def waZ:=@PyProof.Rows.callWith_type1
def wba:=@List.lookup_cons
def wbb:=@List.nodup_nil
def wbc:=@Array.getElem?_eq_some_iff
def wbd:=@List.mem_append_left
def wbe:=@Nat.le_of_eq
def wbf:=@Nat.zero_add
def wbg:=@List.getElem_cons_drop
def wbh:=@Nat.min_eq_left
def wbi:=@congrArg
def wbj:=@PySem.wpAny_field
def wbk:=@List.replicate_succ
def wbl:=@Nat.le_of_lt
def wbm:=@PySem.Heap.get?_update_self
def wbn:=@List.nodup_append
def wbo:=@PySem.wpAny_holding
def wbp:=@Nat.le_of_succ_le_succ
def wbq:=@PyProof.Rows.slot_tuple_getitem
def wbr:=@PySem.wpAny_newObj_type
def wbs:=@PySem.wpAny_standAt
def wbt:=@PySem.wpAny_loadPart'
def wbu:=@List.mem_filterMap
def wbv:=@PySem.Obj.data_mapFields
def wbw:=@Int.emod_lt_of_pos
def wbx:=@Nat.zero_le
def wby:=@List.mem_of_mem_take
def wbz:=@PySem.wpAny_truthy_bool
def wbA:=@Int.toNat_natCast
def wbB:=@Int.emod_nonneg
def wbC:=@PySem.Heap.size_after_update
def wbD:=@PySem.W.mg_of
def wbE:=@List.drop_length
def wbF:=@Bool.false_ne_true
def wbG:=@PySem.Calls.spliced_cons
def wbH:=@List.length_filter_le
def wbI:=@List.mem_range
def wbJ:=@PySem.Heap.size_push
def wbK:=@List.getElem?_zip_eq_some
def wbL:=@List.drop_eq_getElem_cons
def wbM:=@PySem.wpAny_loadName_local
def wbN:=@PySem.wpAny_passesOwn
def wbO:=@Bool.eq_iff_iff
def wbP:=@List.flatten_cons
def wbQ:=@List.find?_cons
def wbR:=@PySem.wpAny_loadPart_at
def wbS:=@of_decide_eq_true
def wbT:=@List.getElem?_inj
def wbU:=@PySem.mem_of_lookup
def wbV:=@PySem.wpAny_callSpecial?_slot
def wbW:=@PySem.wpAny_getItem_str_slice
def wbX:=@PySem.wpAny_call_entry
def wbY:=@Bool.false_eq_true
def wbZ:=@List.length_replicate
def wca:=@PySem.Obj.isFreed_of_fields
def wcb:=@Nat.sub_self
def wcc:=@List.reverse_cons
def wcd:=@PySem.Heap.get?_none_of_le
def wce:=@PySem.codeAny_call_builtin
def wcf:=@PySem.wpAny_setField
def wcg:=@List.take_take
def wch:=@Array.length_toList
def wci:=@Nat.le_succ
def wcj:=@List.length_reverse
def wck:=@List.getElem?_range
def wcl:=@PySem.F.args_tuple_add_2
def wcm:=@List.mem_filter
def wcn:=@PySem.wpAny_execs_nil
def wco:=@PySem.wpAny_pyIter_tuple
def wcp:=@PySem.W.callWith_K
def wcq:=@PySem.F.entry_tuple_add
def wcr:=@List.length_nil
def wcs:=@PySem.Code.quiet_builtin
def wct:=@PySem.wpAny_pyIter_rangeiter
def wcu:=@PySem.F.slot_tuple_add
def wcv:=@List.drop_of_length_le
def wcw:=@List.take_of_length_le
def wcx:=@PySem.wpAny_of_eq
def wcy:=@PySem.wpAny_pyIter_enum
def wcz:=@PySem.Heap.get?_push_at
def wcA:=@PySem.codeAny_mono
def wcB:=@List.singleton_append
def wcC:=@Bool.beq_eq_decide_eq
def wcD:=@List.length_drop
def wcE:=@PySem.F.plain_all_loop
def wcF:=@PySem.Around.under_plainId
def wcG:=@PySem.W.based_of_top
def wcH:=@PySem.wpAny_call
def wcI:=@List.filterMap_cons
def wcJ:=@List.of_mem_zip
def wcK:=@PySem.codeAny_builtin
def wcL:=@PySem.wpAny_isSubtype_exc
def wcM:=@PySem.Sem.onRaise_eq_wrap
def wcN:=@PySem.wpAny_typeOf
def wcO:=@Nat.succ.inj
def wcP:=@Nat.mul_le_mul
def wcQ:=@List.drop_zero
def wcR:=@PySem.wpAny_Name
def wcS:=@PySem.wpAny_rule
def zOB {C B:Type _} (a:C) (f:C->Option B):Ob (some a) f=f a:=rfl
open PySem PyProof PyProof.Rows
namespace L2
open PySem.Spec
abbrev Key:=Sum Int Str
def zhT:Key->Vl->Bool
|.inl k,v=>Value.isInt k v
|.inr x,v=>Value.isStrOf x v
def keyH (w:World):Key->Int
|.inl k=>hashInt k
|.inr x=>hashStr w x
def zaF:∀{k:Key}{v:Vl},zhT k v=true->(∃i t,k=Sum.inl i/\v=Value.int i t)\/(∃x t,k=Sum.inr x/\v=Value.str x t)
|.inl i,v,h=>by
   obtain⟨t,e⟩:=Value.isInt_shape (k:=i) (v:=v) h;exact .inl ⟨i,t,rfl,e⟩
|.inr x,v,h=>by
   obtain⟨t,e⟩:=Value.isStrOf_shape (x:=x) (v:=v) h;exact .inr ⟨x,t,rfl,e⟩
def ziB (i:Int)(t:Tok):zhT (.inl i) (.int i t)=true:=by simp[zhT,Value.isInt]
def ziC (x:Str)(t:Tok):zhT (.inr x) (.str x t)=true:=by simp[zhT,Value.isStrOf]
def zo2 (a b:Int):decide ((Sum.inl a:Key)=Sum.inl b)=(a == b):=by
 by_cases e:a=b
 .subst e;simp
 .have h:¬(Sum.inl a:Key)=Sum.inl b:=λq=>e (Sum.inl.inj q)
  rw[waz h];exact(beq_eq_false_iff_ne.mpr e).symm
def zo3 (a b:Str):decide ((Sum.inr a:Key)=Sum.inr b)=decide (a=b):=by
 by_cases e:a=b
 .subst e;simp
 .have h:¬(Sum.inr a:Key)=Sum.inr b:=λq=>e (Sum.inr.inj q)
  rw[waz h,waz e]
def zo4 (a:Int)(b:Str):decide ((Sum.inl a:Key)=Sum.inr b)=false:=waz (λq=>nomatch q)
def zo5 (a:Str)(b:Int):decide ((Sum.inr a:Key)=Sum.inl b)=false:=waz (λq=>nomatch q)
def za9 (prog:Pm)(w:World):PySem.KeyKind prog w Key where
 is:=zhT
 hash:=keyH w
 inj:=λv a b ha hb=>by
  rcases zaF ha with⟨i,t,rfl,rfl⟩|⟨x,t,rfl,rfl⟩
  .rcases zaF hb with⟨j,u,rfl,e⟩|⟨y,u,rfl,e⟩
   .injection e with e1 _;rw[e1]
   .exact nomatch e
  .rcases zaF hb with⟨j,u,rfl,e⟩|⟨y,u,rfl,e⟩
   .exact nomatch e
   .injection e with e1 _;rw[e1]
 byValue:=λk v h=>by
  rcases zaF h with⟨i,t,rfl,rfl⟩|⟨x,t,rfl,rfl⟩ <;> rfl
 pyHash:=λhv h=>by
  rcases zaF hv with⟨i,t,rfl,rfl⟩|⟨x,t,rfl,rfl⟩
  .exact wpAny_pyHash_int h
  .exact wpAny_pyHash_str h
 eqBool:=λhu hv h=>by
  rcases zaF hu with⟨i,t,rfl,rfl⟩|⟨x,t,rfl,rfl⟩
  .rcases zaF hv with⟨j,u,rfl,rfl⟩|⟨y,u,rfl,rfl⟩
   .rw[zo2] at h;exact wpAny_eqBool_int h
   .rw[zo4] at h;exact SeqAt.EqAt.int_str i t y u _ _ _ _ h
  .rcases zaF hv with⟨j,u,rfl,rfl⟩|⟨y,u,rfl,rfl⟩
   .rw[zo5] at h;exact SeqAt.EqAt.str_int x t j u _ _ _ _ h
   .rw[zo3] at h;exact wpAny_eqBool_str h
 «strs»:=λk x t v h=>by
  rcases zaF h with⟨i,u,rfl,e⟩|⟨y,u,rfl,e⟩
  .exact nomatch e
  .injection e with e1 _
   subst e1;cases v <;> rfl
def zgp (prog:Pm)(w:World)(i:Int)(t:Tok):(za9 prog w).is (.inl i) (.int i t)=true:=ziB i t
def zgq (prog:Pm)(w:World)(x:Str)(t:Tok):(za9 prog w).is (.inr x) (.str x t)=true:=ziC x t
inductive V where
|non|bl (b:Bool)|int (i:Int)|str (x:Str)|byt (b:Array UInt8)|flt (b:UInt64)|ref (a:Addr)|ty (n:String)
 deriving DecidableEq
def RelV:V->Vl->Prop
|.non,u=>u=Value.none
|.bl b,u=>u=Value.bool b
|.int i,u=>∃t,u=Value.int i t
|.str x,u=>∃t,u=Value.str x t
|.byt b,u=>∃t,u=Value.bytes b t
|.flt b,u=>∃t,u=Value.float b t
|.ref a,u=>u=Value.ref a
|.ty n,u=>u=Value.type n
abbrev Vals:List V->List Vl->Prop:=Paired RelV
theorem Vals.length {xs:List V}{us:List Vl}(r:Vals xs us):xs.length=us.length:=Paired.length r
theorem Vals.get:∀{xs:List V}{us:List Vl}{i:Nat}{x:V},Vals xs us->xs[i]?=some x->∃u,us[i]?=some u/\RelV x u
|_,_,_,_,.nil,e=>by simp at e
|_,_,0,_,.cons r _,e=>by simp at e;subst e;exact⟨_,rfl,r⟩
|_,_,i+1,x,.cons _ t,e=>by
   obtain⟨u,h1,h2⟩:=Vals.get (i:=i) (x:=x) t (by simpa using e);exact⟨u,by simpa using h1,h2⟩
theorem Vals.set {x:V}{u:Vl}(r:RelV x u):∀{xs:List V}{us:List Vl}(i:Nat),Vals xs us->Vals (xs.set i x) (us.set i u)
|_,_,_,.nil=>.nil
|_,_,0,.cons _ t=>.cons r t
|_,_,i+1,.cons q t=>.cons q (Vals.set r i t)
theorem Vals.append:∀{xs ys:List V}{us ws:List Vl},Vals xs us->Vals ys ws->Vals (xs++ys) (us++ws)
|_,_,_,_,.nil,s=>s
|_,_,_,_,.cons r t,s=>.cons r (Vals.append t s)
theorem Vals.take:∀{xs:List V}{us:List Vl}(n:Nat),Vals xs us->Vals (xs.take n) (us.take n)
|_,_,0,_=>.nil
|_,_,_+1,.nil=>.nil
|_,_,n+1,.cons r t=>.cons r (Vals.take n t)
theorem Vals.drop:∀{xs:List V}{us:List Vl}(n:Nat),Vals xs us->Vals (xs.drop n) (us.drop n)
|_,_,0,r=>r
|_,_,_+1,.nil=>.nil
|_,_,n+1,.cons _ t=>Vals.drop n t
def RelO:Option V->Option Vl->Prop
|some v,some u=>RelV v u
|none,none=>True
|_,_=>False
def KV {A:Type}:List (A×V)->List (A×Vl)->Prop:=Paired λ(p:A×V) (q:A×Vl)=>p.1=q.1/\RelV p.2 q.2
def kV:Key->V
|.inl i=>.int i
|.inr x=>.str x
inductive HO where
|lst (xs:List V)
|tup (xs:List V)
|dK (kvs:List (Key×V))|dT (kvs:List (List Key×V))
|set (S:Int->Bool) (n:Nat)
|ins (C dx:Addr) (fs:List (Str×V))
|own (x:Addr)
|xd (fs:List (Str×V))
|met (f x:Addr)
|rng (lo hi:Int)
|frz (o:Obj) (u:HO)
|tbl (ps:Array Vl)
|ext (B:Heap->Prop)
abbrev Hp:=Addr->Option HO
def upd (H:Hp)(a:Addr)(o:HO):Hp:=λb=>if b=a then some o else H b
def zae {H:Hp}{a:Addr}{o:HO}:upd H a o a=some o:=by unfold upd;rw[if_pos rfl]
def zaf {H:Hp}{a b:Addr}{o:HO}(h:b≠a):upd H a o b=H b:=by unfold upd;rw[if_neg h]
def zaV {H:Hp}{a b:Addr}{o:HO}(h:H a=some o)(h':H b=none):a≠b:=by
 intro e;subst e;rw[h] at h';cases h'
section
variable (P:Pm)(w:World)
def ObjOk (H:Hp)(h:Heap)(a:Addr):HO->Prop
|.lst xs=>xs.length<=sLn/\∃(its:List Vl) (n:Nat),Vals xs its/\h.get? a=some {cls:=.type "list",data:=.seq its.toArray n}
|.tup xs=>xs.length<=sLn/\∃its:List Vl,Vals xs its/\IsTup h a its.toArray
|.dK kvs=>kvs.length<=sLn/\(a == sysModules)=false/\∃vs,KV kvs vs/\h.DictOf (za9 P w) a vs
|.dT kvs=>kvs.length<=sLn/\(a == sysModules)=false/\∃xs:List (List Key×Addr×Vl),
  Paired (λ(p:List Key×V) (q:List Key×Addr×Vl)=>p.1=q.1/\H q.2.1=some (.tup (p.1.map kV))/\RelV p.2 q.2.2) kvs xs/\
  ∃o es ep,h.get? a=some o/\o.ExactDict/\o.data=.dict es ep/\es.toList=xs.map (entryOfKey (tupleKind (za9 P w)))/\(xs.map (·.1)).Nodup
|.set S n=>h.SetOf (intKind P w) a S n
|.ins C dx fs=>H dx=some (.own a)/\fs.length<=1000/\dx≠a/\h.get? a=some (PySem.W.instObj C dx)/\
  ∃mA,h.Ns1 dx mA/\(∀f,RelO (fs.lookup f) (mA f))/\PySem.Within mA (fs.map (·.1))
|.own _=>∃o,h.get? a=some o
|.xd fs=>∃mA,h.Ns1 a mA/\∀f,RelO (fs.lookup f) (mA f)
|.rng lo hi=>∃t u v,h.get? a=some {cls:=.type "range",data:=.fields #[.int lo t,.int hi u,.int 1 v]}
|.frz o u=>h.get? a=some o/\ObjOk H h a u
|.tbl ps=>∃qs:Array Vl,h.get? a=some {cls:=.none,data:=.fields qs}/\TriplesOk qs.toList/\∀pos cv,codeAmong pos qs.toList=some cv->∃c' o u vs t q,cv=Value.ref c'/\H c'=some (.frz o u)/\o.data=.fields vs/\vs[1]?=some (Value.str q t)/\ps[0]?=some (Value.str q 0)
|.met f x=>h.get? a=some (PySem.W.methodObj (.ref f) (.ref x))
|.ext B=>B h/\(∃o,h.get? a=some o)/\∀h1 h2:Heap,B h1->(∀o,h1.get? a=some o->h2.get? a=some o)->B h2
def HOk (H:Hp)(h:Heap):Prop:=∀a o,H a=some o->ObjOk P w H h a o
end
section
variable {P:Pm}{w:World}{H H':Hp}{h h':Heap}{a:Addr}{o:HO}
theorem ObjOk.lt (x:ObjOk P w H h a o):a<h.objs.size:=by
 cases o with
|lst xs=>obtain⟨_,_,_,_,e⟩:=x;exact wal e
|tup xs=>obtain⟨_,_,_,p⟩:=x;exact p.lt
|dK kvs=>obtain⟨_,_,_,_,o,_,_,e,_⟩:=x;exact wal e
|dT kvs=>obtain⟨_,_,_,_,o,_,_,e,_⟩:=x;exact wal e
|set S n=>obtain⟨o,_,_,_,e,_⟩:=x;exact wal e
|ins C dx fs=>obtain⟨_,_,_,e,_⟩:=x;exact wal e
|own y=>obtain⟨_,e⟩:=x;exact wal e
|xd fs=>obtain⟨_,⟨_,_,_,e,_⟩,_⟩:=x;exact wal e
|rng lo hi=>obtain⟨_,_,_,e⟩:=x;exact wal e
|frz ob u=>obtain⟨e,_⟩:=x;exact wal e
|tbl ps=>obtain⟨_,e,_⟩:=x;exact wal e
|met f y=>exact wal (show h.get? a=some _ from x)
|ext B=>obtain⟨_,⟨_,e⟩,_⟩:=x;exact wal e
theorem Paired.mapP {C B:Type}{F G:C->B->Prop}:∀{l₁:List C}{l₂:List B},Paired F l₁ l₂->(∀a b,F a b->G a b)->Paired G l₁ l₂
|_,_,.nil,_=>.nil
|_,_,.cons r t,f=>.cons (f _ _ r) (Paired.mapP t f)
def Cst:HO->Prop
|.tup _=>True
|.frz _ _=>True
|_=>False
def ObjOk.stay (x:ObjOk P w H h a o)(k:∀b u,(b=a\/H b=some (.own a))->h.get? b=some u->h'.get? b=some u)
 (ho:∀b,H b=some (.own a)->H' b=some (.own a)) (ht:∀b z,Cst z->H b=some z->H' b=some z):ObjOk P w H' h' a o:=by
 induction o with
|lst xs=>obtain⟨z,its,n,r,e⟩:=x;exact⟨z,its,n,r,k _ _ (.inl rfl) e⟩
|tup xs=>obtain⟨z,its,r,ob,e,c⟩:=x;exact⟨z,its,r,ob,k _ _ (.inl rfl) e,c⟩
|dK kvs=>obtain⟨z,y,vs,r,ob,es,ep,e,c⟩:=x;exact⟨z,y,vs,r,ob,es,ep,k _ _ (.inl rfl) e,c⟩
|dT kvs=>
   obtain⟨z,y,xs,r,ob,es,ep,e,c⟩:=x;exact⟨z,y,xs,Paired.mapP r λp q z=>⟨z.1,ht _ _ trivial z.2.1,z.2.2⟩,ob,es,ep,k _ _ (.inl rfl) e,c⟩
|set S n=>obtain⟨ob,es,ep,t,e,c⟩:=x;exact⟨ob,es,ep,t,k _ _ (.inl rfl) e,c⟩
|ins C dx fs=>
   obtain⟨d,z,ne,e,mA,⟨od,es,ep,e2,c⟩,r⟩:=x;exact⟨ho _ d,z,ne,k _ _ (.inl rfl) e,mA,⟨od,es,ep,k _ _ (.inr d) e2,c⟩,r⟩
|own y=>obtain⟨ob,e⟩:=x;exact⟨ob,k _ _ (.inl rfl) e⟩
|xd fs=>obtain⟨mA,⟨od,es,ep,e,c⟩,r⟩:=x;exact⟨mA,⟨od,es,ep,k _ _ (.inl rfl) e,c⟩,r⟩
|rng lo hi=>obtain⟨t,u,v,e⟩:=x;exact⟨t,u,v,k _ _ (.inl rfl) e⟩
|frz ob u ih=>obtain⟨e,q⟩:=x;exact⟨k _ _ (.inl rfl) e,ih q⟩
|tbl ps=>obtain⟨qs,e,r,rc⟩:=x;exact⟨qs,k a _ (.inl rfl) e,r,λpos cv q=>let ⟨c',o,u,vs,t,q',e1,e2,e3⟩:=rc pos cv q;⟨c',o,u,vs,t,q',e1,ht _ _ trivial e2,e3⟩⟩
|met f y=>
   have e:h.get? a=some (PySem.W.methodObj (.ref f) (.ref y)):=x
   show h'.get? a=some (PySem.W.methodObj (.ref f) (.ref y))
   exact k a _ (.inl rfl) e
|ext B=>obtain⟨p,⟨o,e⟩,st⟩:=x;exact⟨st _ _ p λo q=>k _ _ (.inl rfl) q,⟨o,k _ _ (.inl rfl) e⟩,st⟩
theorem HOk.lt (x:HOk P w H h)(e:H a=some o):a<h.objs.size:=(x a o e).lt
def HOk.fresh (x:HOk P w H h)(e:h.objs.size<=a):H a=none:=by
 cases q:H a with
|none=>rfl
|some u=>exact absurd (waq (x.lt q) e) (waT _)
def HOk.kept (x:HOk P w H h)(k:∀b u,h.get? b=some u->h'.get? b=some u):HOk P w H h':=λa o e=>
 (x a o e).stay (λb u _ q=>k b u q) (λ_ q=>q) λ_ _ _ q=>q
def HOk.laid (x:HOk P w H h)(k:∀b u,h.get? b=some u->h'.get? b=some u)(hp:h.objs.size<=a)(new:ObjOk P w (upd H a o) h' a o):HOk P w (upd H a o) h':=λb u e=>by
 have hn:=x.fresh hp
 by_cases hb:b=a
 .subst hb;rw[zae] at e;cases e;exact new
 .rw[zaf hb] at e;exact(x b u e).stay (λc v _ q=>k c v q) (λc q=>by rw[zaf (zaV q hn)];exact q) λc xs _ q=>by rw[zaf (zaV q hn)];exact q
end
def Rd (H:Hp)(a:Addr)(u:HO):Prop:=H a=some u\/∃o,H a=some (.frz o u)
def Rd.ok {P:Pm}{w:World}{H:Hp}{h:Heap}{a:Addr}{u:HO}(r:Rd H a u)(x:HOk P w H h):ObjOk P w H h a u:=by
 rcases r with r|⟨o,r⟩
 .exact x a u r
 .obtain⟨_,q⟩:=x a _ r;exact q
def Mut:Option HO->Prop
|some (.lst _)=>True
|some (.dK _)=>True
|some (.dT _)=>True
|some (.set _ _)=>True
|some (.ins _ _ _)=>True
|some (.ext _)=>True
|_=>False
section
variable {P:Pm}{w:World}{H:Hp}{h h':Heap}{x e:Addr}{o':HO}
def HOk.write (ok:HOk P w H h)(mu:Mut (H x))(he:e=x\/H e=some (.own x))(k:∀b u,b≠e->h.get? b=some u->h'.get? b=some u)(heo:∃u,h'.get? e=some u)
 (new:ObjOk P w (upd H x o') h' x o'):HOk P w (upd H x o') h':=λb u q=>by
 have nown:∀c y,H c=some (.own y)->c≠x:=λc y r z=>by subst z;rw[r] at mu;exact mu
 have ntup:∀c o,Cst o->H c=some o->c≠x:=λc o hc r z=>by subst z;rw[r] at mu;cases o <;> first|exact mu|exact hc
 by_cases hb:b=x
 .subst hb;rw[zae] at q;cases q;exact new
 .rw[zaf hb] at q;by_cases hbe:b=e
  .have q':H b=some (.own x):=by
    rcases he with z|z
    .exact absurd (hbe.trans z) hb
    .rw[hbe];exact z
   rw[q] at q';cases q';obtain⟨v,hv⟩:=heo;exact⟨v,by rw[hbe];exact hv⟩
  .refine(ok b u q).stay (λc v hc r=>k c v ?_ r) (λc r=>by rw[zaf (nown c b r)];exact r) λc xs hc r=>by rw[zaf (ntup c xs hc r)];exact r
   rcases hc with rfl|hc
   .exact hbe
   .rintro rfl;rcases he with z|z
    .exact nown c b hc z
    .rw[hc] at z;cases z;exact hb rfl
end
structure Un (fs ex:List Addr)(H H':Hp)(h h':Heap):Prop where
 keep:∀b o,h.get? b=some o->H b=none->b∉fs->b∉ex->h'.get? b=some o
 slot:∀b o,h.get? b=some o->H b=none->b∈fs->b∉ex->∃sl,h'.get? b=some {o with slots:=sl}
 free:∀b o,h.get? b=some o->H b=none->b∉ex->H' b=none
 there:∀b o,h.get? b=some o->b∉ex->∃o',h'.get? b=some o'
 tups:∀b xs,H b=some (.tup xs)->H' b=some (.tup xs)
 frzs:∀b o u,H b=some (.frz o u)->H' b=some (.frz o u)
 tbls:∀b ps,H b=some (.tbl ps)->∃more,H' b=some (.tbl (ps++more))
section
variable {fs fs' ex ex':List Addr}{H H1 H2:Hp}{h h1 h2 h':Heap}{a x e:Addr}{o:HO}
def Un.any (u:Un fs ex H H1 h h1){b:Addr}{ob:Obj}(q:h.get? b=some ob)(n:H b=none)(hx:b∉ex):∃sl,h1.get? b=some {ob with slots:=sl}:=by
 by_cases hb:b∈fs
 .exact u.slot b ob q n hb hx
 .exact⟨ob.slots,u.keep b ob q n hb hx⟩
def Un.kept (k:∀b u,h.get? b=some u->h'.get? b=some u):Un fs ex H H h h':=
 ⟨λb ob q _ _ _=>k b ob q,λb ob q _ _ _=>⟨ob.slots,k b ob q⟩,λ_ _ _ n _=>n,λb ob q _=>⟨ob,k b ob q⟩,λ_ _ q=>q,λ_ _ _ q=>q,λ_ ps q=>⟨#[],by rw[q];simp⟩⟩
def Un.refl:Un fs ex H H h h:=Un.kept λ_ _ q=>q
def Un.laid (k:∀b u,h.get? b=some u->h'.get? b=some u)(hp:h.objs.size<=a)(hn:H a=none):Un fs ex H (upd H a o) h h' where
 keep:=λb u q _ _ _=>k b u q
 slot:=λb u q _ _ _=>⟨u.slots,k b u q⟩
 free:=λb u q n _=>by rw[zaf (wax (waq (wal q) hp))];exact n
 there:=λb u q _=>⟨u,k b u q⟩
 tups:=λb xs q=>by rw[zaf (zaV q hn)];exact q
 frzs:=λb u xs q=>by rw[zaf (zaV q hn)];exact q
 tbls:=λb ps q=>⟨#[],by rw[zaf (zaV q hn),q];simp⟩
def Un.write (mu:Mut (H x))(he:e=x\/H e=some (.own x))(k:∀b u,b≠e->h.get? b=some u->h'.get? b=some u)(heo:∃u,h'.get? e=some u):Un fs ex H (upd H x o) h h':=by
 have hx:∀b,H b=none->b≠x:=λb n z=>by subst z;rw[n] at mu;exact mu
 have hb:∀b,H b=none->b≠e:=λb n z=>by
  subst z;rcases he with r|r
  .exact hx b n r
  .rw[n] at r;cases r
 have hm:∀b u,H b=some u->¬Mut (some u)->b≠x:=λb u q nm z=>by subst z;rw[q] at mu;exact nm mu
 refine⟨λb u q n _ _=>k b u (hb b n) q,λb u q n _ _=>⟨u.slots,k b u (hb b n) q⟩,λb u q n _=>by rw[zaf (hx b n)];exact n,λb u q _=>?_,
  λb xs q=>by rw[zaf (hm b _ q λz=>z)];exact q,λb u xs q=>by rw[zaf (hm b _ q λz=>z)];exact q,λb ps q=>⟨#[],by rw[zaf (hm b _ q λz=>z),q];simp⟩⟩
 by_cases hbe:b=e
 .subst hbe;exact heo
 .exact⟨u,k b u hbe q⟩
end
def trk (h:Heap)(H:Hp):List Addr:=(List.range h.objs.size).filter λa=>(H a).isSome
def hidT (h:Heap)(H:Hp):Heap:=PySem.W.hideAll h (trk h H)
def ziD (h:Heap)(H:Hp):(hidT h H).objs.size=h.objs.size:=PySem.W.hideAll_size _ _
def zkH {h:Heap}{H:Hp}{b:Addr}{o:Obj}(e:h.get? b=some o)(n:H b=none):(hidT h H).get? b=some o:=
 PySem.W.hideAll_get _ e λhm=>by
  have q:(H b).isSome=true:=(wcm.mp hm).2
  rw[n] at q;simp at q
def zm3 {h:Heap}{H:Hp}{b:Addr}{o:Obj}(e:(hidT h H).get? b=some o):h.get? b=some o/\H b=none:=by
 have e':h.get? b=some o:=PySem.W.of_hideAll (trk h H) e
 refine⟨e',?_⟩;cases q:H b with
|none=>rfl
|some x=>
   have hm:b∈trk h H:=wcm.mpr ⟨wbI.mpr (wal e'),by simp[q]⟩
   have z:(hidT h H).get? b=none:=PySem.W.hideAll_none (trk h H) hm
   rw[z] at e;cases e
structure Mod (K:Fg)(mg:Str->Option Vl)(base:Heap):Prop where
 kin:K.In base
 glob:base.Ns mG mg
 blt:∃mb,base.Ns bNs mb/\∀x:Str,x≠"__name__"->mb x=bBs x
 nolimit:base.NoLimit
structure Cx where
 prog:Pm
 w:World
 K:Fg
 mg:Str->Option Vl
 base:Heap
 A:Ao
 N:List Str
 s₀:Sd
 Hz:Hp
 env:Env
 outer:List Env
 stack:List Env
 ex:List Addr
 fn:Str->Bool
 calm:Bool
 pn:List (Addr×Obj)
 xe:Vl->Sd->Prop
def frs (l:List Env):List Addr:=l.filterMap (·.frame)
abbrev Cx.fs (X:Cx):List Addr:=frs X.outer
def Vis (sc:Scope)(x:Str):Prop:=sc.names.lookup x=some .local\/sc.names.lookup x=some .cell\/sc.names.lookup x=some .free
def Loc (sc:Scope)(x:Str):Prop:=sc.names.lookup x=some .local\/sc.names.lookup x=some .cell
def Look (env:Env)(h:Heap)(m:Str->Option Vl)(x:Str)(u:Vl):Prop:=
 (env.kindOf x=some .local/\m x=some u)\/((env.kindOf x=some .cell\/env.kindOf x=some .free)/\∃c,env.cells.lookup x=some c/\h.IsCell c (some u))
structure Cx.Ok (X:Cx):Prop where
 mod:Mod X.K X.mg X.base
 kind:X.env.scope.kind=.function
 glob:X.env.globals=mG
 blt:X.env.builtins=bNs
 above:X.s₀.heap.objs.size<=X.env.locals
 inj:∀x y c,X.env.cells.lookup x=some c->X.env.cells.lookup y=some c->x=y
 has:∀x,(X.env.kindOf x=some .cell\/X.env.kindOf x=some .free)->∃c,X.env.cells.lookup x=some c
 cab:∀x c,X.fn x=true->X.env.cells.lookup x=some c->X.s₀.heap.objs.size<=c
 hd:X.calm=true->X.A.handled=none
 frames:X.A.frames=some X.stack
 stk:X.stack=X.outer\/(X.stack=X.env::X.outer/\X.env.frame=some X.env.locals)
 exf:∀b∈X.ex,b≠X.env.locals/\∀x c,X.env.cells.lookup x=some c->c≠b
 bs:∀b o,X.base.get? b=some o->X.s₀.heap.get? b=some o/\X.Hz b=none
 bsz:X.base.objs.size<=X.s₀.heap.objs.size
 noex:∀b o,X.base.get? b=some o->b∉X.ex
 exfs:∀b∈X.ex,b∉X.fs
 funs:X.s₀.heap.FunFrames X.base X.outer
 frf:∀b∈X.fs,X.Hz b=none
structure Inv (X:Cx)(pins:List (Addr×Obj))(Y:List (Option V))(H:Hp)(s:Sd):Prop where
 ok:X.Ok
 os:s.os=X.s₀.os
 bare:AllBare s.gens
 base:Un X.fs X.ex X.Hz H X.s₀.heap s.heap
 loc:∃m,s.heap.Ns X.env.locals m/\∀(i:Nat) (x:Str) (v:V),X.N[i]?=some x->Y[i]?=some (some v)->Vis X.env.scope x->∃u,RelV v u/\Look X.env s.heap m x u
 cell:∀x c,X.env.cells.lookup x=some c->∃v,s.heap.IsCell c v
 free:H X.env.locals=none
 freeC:∀x c,X.env.cells.lookup x=some c->H c=none
 pin:∀p∈X.pn++pins,s.heap.get? p.1=some p.2/\H p.1=none/\p.1≠X.env.locals/\p.1∉X.fs/\∀v,p.2.data≠.cell v
 hok:HOk X.prog X.w H s.heap
 len:Y.length=X.N.length
section
variable {X:Cx}{pins:List (Addr×Obj)}{Y:List (Option V)}{H H':Hp}{s:Sd}{h':Heap}
def Cx.Ok.nofr (ok:X.Ok){b:Addr}{o:Obj}(e:X.base.get? b=some o):b∉X.fs:=λhb=>by
 have:=(ok.funs.mem hb).1
 rw[e] at this;cases this
theorem Inv.bs (I:Inv X pins Y H s):∀b o,X.base.get? b=some o->s.heap.get? b=some o/\H b=none:=λb o e=>
 ⟨I.base.keep b o (I.ok.bs b o e).1 (I.ok.bs b o e).2 (I.ok.nofr e) (I.ok.noex b o e),I.base.free b o (I.ok.bs b o e).1 (I.ok.bs b o e).2 (I.ok.noex b o e)⟩
def Inv.bk (I:Inv X pins Y H s):∀b o,X.base.get? b=some o->s.heap.get? b=some o:=λb o e=>(I.bs b o e).1
theorem Inv.mod (I:Inv X pins Y H s):Mod X.K X.mg X.base:=I.ok.mod
def Inv.kIn (I:Inv X pins Y H s):X.K.In s.heap:=I.ok.mod.kin.keeps I.bk
theorem Inv.nolimit (I:Inv X pins Y H s):s.heap.NoLimit:=I.ok.mod.nolimit.keeps I.bk
theorem Inv.lt (I:Inv X pins Y H s):X.env.locals<s.heap.objs.size:=let ⟨_,hn,_⟩:=I.loc;hn.lt
def Inv.sz (I:Inv X pins Y H s):X.s₀.heap.objs.size<=s.heap.objs.size:=wao I.ok.above (wbl I.lt)
def Inv.nofs (I:Inv X pins Y H s){a:Addr}(h:s.heap.objs.size<=a):a∉X.fs:=λhb=>by
 obtain⟨_,o,ho,_⟩:=I.ok.funs.mem hb;exact absurd (waq (wal ho) (wao I.sz h)) (waT _)
def Inv.cne (I:Inv X pins Y H s):∀x c,X.env.cells.lookup x=some c->c≠X.env.locals:=λx c e z=>by
 obtain⟨v,o,ho,hd⟩:=I.cell x c e;obtain⟨m,⟨o',es,ep,ho',hd',_⟩,_⟩:=I.loc;rw[z,ho'] at ho;cases ho;rw[hd'] at hd;cases hd
theorem Inv.funs (I:Inv X pins Y H s):s.heap.FunFrames X.base X.outer:=by
 have all:∀(l:List Env),(∀b∈frs l,b∈X.fs)->X.s₀.heap.FunFrames X.base l->s.heap.FunFrames X.base l:=by
  intro l;induction l with
 |nil=>intro _ _;trivial
 |cons env r ih=>
    intro hs hl;obtain⟨hk,⟨L,o,hf,hn,ho,hd⟩,hr⟩:=hl;have hL:L∈X.fs:=hs L (by unfold frs;rw[wcI,hf];exact war)
    obtain⟨sl,e⟩:=I.base.slot L o ho (I.ok.frf L hL) hL λz=>I.ok.exfs L z hL
    exact⟨hk,⟨L,_,hf,hn,e,hd⟩,ih (λb hb=>hs b (by unfold frs;rw[wcI,hf];exact wam _ hb)) hr⟩
 exact all X.outer (λ_ hb=>hb) I.ok.funs
theorem Inv.stack (I:Inv X pins Y H s):s.heap.FunFrames X.base X.stack:=by
 rcases I.ok.stk with e|⟨e,hf⟩
 .rw[e];exact I.funs
 .rw[e];obtain⟨m,hn,_⟩:=I.loc;refine .cons (by rw[I.ok.kind];decide) hf hn ?_ I.funs;exact wcd (wao I.ok.bsz I.ok.above)
def Inv.stkSub (I:Inv X pins Y H s):∀b∈frs X.stack,b∈X.env.locals::X.fs:=λb hb=>by
 rcases I.ok.stk with e|⟨e,hf⟩
 .rw[e] at hb;exact wam _ hb
 .rw[e] at hb;unfold frs at hb;rw[wcI,hf] at hb;exact hb
def Inv.stkFree (I:Inv X pins Y H s):∀b∈frs X.stack,H b=none:=λb hb=>by
 rcases wap.mp (I.stkSub b hb) with e|hb
 .rw[e];exact I.free
 .obtain⟨_,o,ho,_⟩:=I.ok.funs.mem hb;exact I.base.free b o ho (I.ok.frf b hb) λz=>I.ok.exfs b z hb
def Inv.step {g':Array GenState}{t':Nat}{d':Drawn}{ch:List Addr}(I:Inv X pins Y H s)
 (hch:∀b∈ch,(b∈X.ex\/X.s₀.heap.objs.size<=b)/\b≠X.env.locals/\(∀x c,X.env.cells.lookup x=some c->c≠b)/\∀p∈X.pn++pins,p.1≠b)
 (keep:∀b o,b≠X.env.locals->b∉X.fs->b∉ch->s.heap.get? b=some o->H b=none->h'.get? b=some o)
 (slot:∀b o,b≠X.env.locals->b∈X.fs->b∉ch->s.heap.get? b=some o->H b=none->∃sl,h'.get? b=some {o with slots:=sl}) (free:∀b o,b∉ch->s.heap.get? b=some o->H b=none->H' b=none)
 (there:∀b o,b∉ch->s.heap.get? b=some o->∃o',h'.get? b=some o')
 (tups:∀b xs,H b=some (.tup xs)->H' b=some (.tup xs)) (frzs:∀b o u,H b=some (.frz o u)->H' b=some (.frz o u)) (tbls:∀b ps,H b=some (.tbl ps)->∃more,H' b=some (.tbl (ps++more)))
 (ns:∀m,s.heap.Ns X.env.locals m->h'.Ns X.env.locals m) (hok:HOk X.prog X.w H' h') (hg:AllBare g') :
 Inv X pins Y H' {s with heap:=h',gens:=g',drawn:=d',toks:=t'}:=by
 have neL:∀b o,X.s₀.heap.get? b=some o->b≠X.env.locals:=λb o e=>wax (waq (wal e) I.ok.above)
 have neC:∀b o,X.s₀.heap.get? b=some o->b∉X.ex->b∉ch:=λb o e hx hb=>by
  rcases(hch b hb).1 with z|z
  .exact hx z
  .exact absurd (waq (wal e) z) (waT _)
 have cellK:∀x c,X.env.cells.lookup x=some c->∀v,s.heap.IsCell c v->h'.IsCell c v:=λx c e v ⟨o,ho,hd⟩=>by
  have nch:c∉ch:=λz=>(hch c z).2.2.1 x c e rfl
  by_cases hc:c∈X.fs
  .obtain⟨sl,q⟩:=slot c o (I.cne x c e) hc nch ho (I.freeC x c e);exact⟨_,q,hd⟩
  .exact⟨o,keep c o (I.cne x c e) hc nch ho (I.freeC x c e),hd⟩
 refine⟨I.ok,I.os,hg,⟨λb o e n hb hx=>?_,λb o e n hb hx=>?_,λb o e n hx=>?_,λb o e hx=>?_,λb xs e=>tups b xs (I.base.tups b xs e),λb o xs e=>frzs b o xs (I.base.frzs b o xs e),λb ps e=>?_⟩,?_,λx c e=>?_,?_,λx c e=>?_,λp hp=>?_,hok,I.len⟩
 .exact keep b o (neL b o e) hb (neC b o e hx) (I.base.keep b o e n hb hx) (I.base.free b o e n hx)
 .obtain⟨sl,e1⟩:=I.base.slot b o e n hb hx;obtain⟨sl',e2⟩:=slot b _ (neL b o e) hb (neC b o e hx) e1 (I.base.free b o e n hx);exact⟨sl',e2⟩
 .obtain⟨o',e1⟩:=I.base.there b o e hx;exact free b o' (neC b o e hx) e1 (I.base.free b o e n hx)
 .obtain⟨o',e1⟩:=I.base.there b o e hx;exact there b o' (neC b o e hx) e1
 .obtain⟨m1,e1⟩:=I.base.tbls b ps e;obtain⟨m2,e2⟩:=tbls b _ e1;exact⟨m1++m2,by rw[e2,Array.append_assoc]⟩
 .obtain⟨m,hn,hl⟩:=I.loc;refine⟨m,ns m hn,λi x v e1 e2 e3=>?_⟩;obtain⟨u,r,l⟩:=hl i x v e1 e2 e3;refine⟨u,r,?_⟩;rcases l with l|⟨k,c,e,z⟩
  .exact .inl l
  .exact .inr ⟨k,c,e,cellK x c e _ z⟩
 .obtain⟨v,z⟩:=I.cell x c e;exact⟨v,cellK x c e v z⟩
 .obtain⟨m,⟨o,_,_,ho,_⟩,_⟩:=I.loc;exact free _ o (λz=>(hch _ z).2.1 rfl) ho I.free
 .obtain⟨v,o,ho,hd⟩:=I.cell x c e;exact free c o (λz=>(hch c z).2.2.1 x c e rfl) ho (I.freeC x c e)
 .obtain⟨e,n,ne,nf,d⟩:=I.pin p hp;have nch:p.1∉ch:=λz=>(hch p.1 z).2.2.2 p hp rfl
  exact⟨keep p.1 p.2 ne nf nch e n,free p.1 p.2 nch e n,ne,nf,d⟩
def Inv.un {t':Nat}(I:Inv X pins Y H s)(u:Un X.fs [] H H' s.heap h')(hok:HOk X.prog X.w H' h'):Inv X pins Y H' {s with heap:=h',toks:=t'}:=by
 obtain⟨m,⟨o,es,ep,ho,r⟩,_⟩:=id I.loc;obtain⟨sl,hL⟩:=u.any ho I.free (by simp);exact I.step (g':=s.gens) (d':=s.drawn) (ch:=[]) (λ_ z=>nomatch z) (λb o _ hb _ e n=>u.keep b o e n hb (by simp)) (λb o _ hb _ e n=>u.slot b o e n hb (by simp)) (λb o _ e n=>u.free b o e n (by simp)) (λb o _ e=>u.there b o e (by simp)) u.tups u.frzs u.tbls (λm' hm=>by
  obtain⟨o',es',ep',ho',r'⟩:=hm;rw[ho] at ho';cases ho';exact⟨_,es',ep',hL,r'⟩) hok I.bare
def Inv.call {g':Array GenState}{t':Nat}{d':Drawn}{ch:List Addr}(I:Inv X pins Y H s)(u:Un (frs X.stack) ch H H' s.heap h')(hok:HOk X.prog X.w H' h')(hg:AllBare g')
 (hch:∀b∈ch,(b∈X.ex\/X.s₀.heap.objs.size<=b)/\b≠X.env.locals/\(∀x c,X.env.cells.lookup x=some c->c≠b)/\∀p∈X.pn++pins,p.1≠b) :
 Inv X pins Y H' {s with heap:=h',gens:=g',drawn:=d',toks:=t'}:=by
 obtain⟨m,⟨o,es,ep,ho,r⟩,_⟩:=id I.loc;obtain⟨sl,hL⟩:=u.any ho I.free λz=>(hch _ z).2.1 rfl
 exact I.step (ch:=ch) hch (λb o hL hb hc e n=>u.keep b o e n (λz=>(wap.mp (I.stkSub b z)).elim hL hb) hc) (λb o _ _ hc e n=>u.any e n hc) (λb o hc e n=>u.free b o e n hc) (λb o hc e=>u.there b o e hc) u.tups u.frzs u.tbls (λm' hm=>by
  obtain⟨o',es',ep',ho',r'⟩:=hm;rw[ho] at ho';cases ho';exact⟨_,es',ep',hL,r'⟩) hok hg
def Inv.turned {t':Nat}{it:Addr}(I:Inv X pins Y H s)(k:∀b o,b≠it->s.heap.get? b=some o->h'.get? b=some o)(hn:H it=none)(hL:it≠X.env.locals)
 (h1:it∈X.ex\/X.s₀.heap.objs.size<=it) (h2:∀x c,X.env.cells.lookup x=some c->c≠it) (h3:∀p∈X.pn++pins,p.1≠it):Inv X pins Y H {s with heap:=h',toks:=t'}:=by
 have nit:∀b u,H b=some u->b≠it:=λb u e z=>by rw[z,hn] at e;cases e
 refine I.step (g':=s.gens) (d':=s.drawn) (ch:=[it]) (λb hb=>?_) (λb o _ _ hc e _=>k b o (λz=>hc (by simp[z])) e) (λb o _ _ hc e _=>⟨o.slots,k b o (λz=>hc (by simp[z])) e⟩) (λ_ _ _ _ n=>n)
  (λb o hc e=>⟨o,k b o (λz=>hc (by simp[z])) e⟩) (λ_ _ e=>e) (λ_ _ _ e=>e) (λb ps e=>⟨#[],by rw[e];simp⟩) (λm hm=>?_) (λb u e=>?_) I.bare
 .have e:b=it:=by simpa using hb
  subst e;exact⟨h1,hL,h2,h3⟩
 .obtain⟨o,es,ep,ho,r⟩:=hm;exact⟨o,es,ep,k _ o (Ne.symm hL) ho,r⟩
 .refine(I.hok b u e).stay (λc v hc q=>k c v ?_ q) (λ_ q=>q) λ_ _ _ q=>q
  rcases hc with z|z
  .rw[z];exact nit b u e
  .exact nit c _ z
def Inv.tok (I:Inv X pins Y H s)(t:Nat):Inv X pins Y H {s with toks:=t}:=I.un (h':=s.heap) (t':=t) Un.refl I.hok
theorem Inv.kept {t':Nat}(I:Inv X pins Y H s)(k:∀b u,s.heap.get? b=some u->h'.get? b=some u):Inv X pins Y H {s with heap:=h',toks:=t'}:=I.un (Un.kept k) (I.hok.kept k)
theorem Inv.laid {a:Addr}{o:HO}{t':Nat}(I:Inv X pins Y H s)(k:∀b u,s.heap.get? b=some u->h'.get? b=some u)(hp:s.heap.objs.size<=a)(new:ObjOk X.prog X.w (upd H a o) h' a o) :
 Inv X pins Y (upd H a o) {s with heap:=h',toks:=t'}:=I.un (Un.laid k hp (I.hok.fresh hp)) (I.hok.laid k hp new)
theorem Inv.write {x e:Addr}{o:HO}{t':Nat}(I:Inv X pins Y H s)(mu:Mut (H x))(he:e=x\/H e=some (.own x))(k:∀b u,b≠e->s.heap.get? b=some u->h'.get? b=some u)(heo:∃u,h'.get? e=some u)
 (new:ObjOk X.prog X.w (upd H x o) h' x o):Inv X pins Y (upd H x o) {s with heap:=h',toks:=t'}:=I.un (Un.write mu he k heo) (I.hok.write mu he k heo new)
def Inv.pins_of {pins':List (Addr×Obj)}(I:Inv X pins Y H s)(h:∀p∈pins',s.heap.get? p.1=some p.2/\H p.1=none/\p.1≠X.env.locals/\p.1∉X.fs/\∀v,p.2.data≠.cell v):Inv X pins' Y H s:=
 ⟨I.ok,I.os,I.bare,I.base,I.loc,I.cell,I.free,I.freeC,λp hp=>(waA.mp hp).elim (λz=>I.pin p (wbd _ z)) (h p),I.hok,I.len⟩
def zeO {N:List Str}(hN:N.Nodup){i j:Nat}{x:Str}(a:N[i]?=some x)(b:N[j]?=some x):i=j:=by
 obtain⟨h1,e1⟩:=wab.mp a;obtain⟨h2,e2⟩:=wab.mp b;exact(List.getElem_inj hN).mp (e1.trans e2.symm)
def zdQ {M:Model}{A:Ao}{E:Vl->Sd->Prop}{i:Nat}{x:Str}{v:V}{u:Vl}{Q:Unit->Sd->Prop}(I:Inv X pins Y H s)(hN:X.N.Nodup)(hi:X.N[i]?=some x)(hx:Loc X.env.scope x)(r:RelV v u)
 (h:∀s',Inv X pins (Y.set i (some v)) H s'->(∃a,Heap.SameBut a s.heap s'.heap/\(a=X.env.locals\/X.env.cells.lookup x=some a))->Q () s') (hf:X.fn x=true\/X.env.scope.names.lookup x=some .local:=by first|exact .inl rfl|exact .inr rfl|assumption):wA M A (storeName X.env x u) Q E s:=by
 obtain⟨m,hn,hl⟩:=id I.loc;have hcls:(X.env.scope.kind == .class||(X.env.scope.kind == .module&&X.env.locals != X.env.globals))=false:=by rw[I.ok.kind];rfl
 have hiσ:i<Y.length:=by rw[I.len];exact(wab.mp hi).1
 have cne:=I.cne
 have tracked:∀{a:Addr}{h':Heap},(∃o,s.heap.get? a=some o/\H a=none)->Heap.SameBut a s.heap h'->HOk X.prog X.w H h':=λ{a h'} ha hs b ob e=>by
  obtain⟨_,_,qW⟩:=ha;refine(I.hok b ob e).stay (λc w' hc q=>(hs.2 c ?_).trans q) (λ_ q=>q) λ_ _ _ q=>q
  rintro rfl;rcases hc with rfl|hc
  .rw[qW] at e;cases e
  .rw[qW] at hc;cases hc
 rcases hx with hk|hk
 .refine wpAny_storeName_local hk hn (λh' hn' hs=>?_) hcls;obtain⟨oL,_,_,hoL,_⟩:=id hn;refine h _ ⟨I.ok,I.os,I.bare,⟨λb o e n hb hx=>?_,λb o e n hb hx=>?_,I.base.free,λb o e hx=>?_,I.base.tups,I.base.frzs,I.base.tbls⟩,⟨_,hn',λj y v' e1 e2 e3=>?_⟩,λy c e=>?_,I.free,I.freeC,λp hp=>?_,tracked ⟨oL,hoL,I.free⟩ hs,by simpa using I.len⟩ ⟨_,hs,.inl rfl⟩
  .exact(hs.2 b (wax (waq (wal e) I.ok.above))).trans (I.base.keep b o e n hb hx)
  .obtain⟨sl,e1⟩:=I.base.slot b o e n hb hx;exact⟨sl,(hs.2 b (wax (waq (wal e) I.ok.above))).trans e1⟩
  .obtain⟨o',e1⟩:=I.base.there b o e hx;exact⟨o',(hs.2 b (wax (waq (wal e) I.ok.above))).trans e1⟩
  .by_cases hj:j=i
   .subst hj;rw[hi] at e1;cases e1;rw[wau hiσ] at e2;cases e2;exact⟨u,r,.inl ⟨hk,by simp⟩⟩
   .rw[wai (Ne.symm hj)] at e2;obtain⟨u',r',q⟩:=hl j y v' e1 e2 e3;refine⟨u',r',?_⟩;rcases q with⟨k,e⟩|⟨k,c,e,z⟩
    .refine .inl ⟨k,?_⟩;have:y≠x:=λe=>hj (zeO hN e1 (e▸hi))
     simp[this,e]
    .exact .inr ⟨k,c,e,z.sameBut hs (cne y c e)⟩
  .obtain⟨w',z⟩:=I.cell y c e;exact⟨w',z.sameBut hs (cne y c e)⟩
  .obtain⟨e,n,ne,nf,d⟩:=I.pin p hp;exact⟨(hs.2 p.1 ne).trans e,n,ne,nf,d⟩
 .have hfn:X.fn x=true:=by
   rcases hf with z|z
   .exact z
   .rw[z] at hk;cases hk
  obtain⟨c,hc⟩:=I.ok.has x (.inl hk);obtain⟨w',z⟩:=I.cell x c hc;refine wpAny_storeName_cell I.ok.kind hk hc z (λh' hc' hs=>?_);obtain⟨oc,hoc,hocd⟩:=id z;refine h {s with heap:=h'} ⟨I.ok,I.os,I.bare,⟨λb o e n hb hx=>?_,λb o e n hb hx=>?_,I.base.free,λb o e hx=>?_,I.base.tups,I.base.frzs,I.base.tbls⟩,⟨m,hn.sameBut hs (Ne.symm (cne x c hc)),λj y v' e1 e2 e3=>?_⟩,λy c' e=>?_,I.free,I.freeC,λp hp=>?_,tracked ⟨oc,hoc,I.freeC x c hc⟩ hs,by simpa using I.len⟩ ⟨c,hs,.inr hc⟩
  .exact(hs.2 b (wax (waq (wal e) (I.ok.cab x c hfn hc)))).trans (I.base.keep b o e n hb hx)
  .obtain⟨sl,e1⟩:=I.base.slot b o e n hb hx;exact⟨sl,(hs.2 b (wax (waq (wal e) (I.ok.cab x c hfn hc)))).trans e1⟩
  .obtain⟨o',e1⟩:=I.base.there b o e hx;exact⟨o',(hs.2 b (wax (waq (wal e) (I.ok.cab x c hfn hc)))).trans e1⟩
  .by_cases hj:j=i
   .subst hj;rw[hi] at e1;cases e1;rw[wau hiσ] at e2;cases e2;exact⟨u,r,.inr ⟨.inl hk,c,hc,hc'⟩⟩
   .rw[wai (Ne.symm hj)] at e2;obtain⟨u',r',q⟩:=hl j y v' e1 e2 e3;refine⟨u',r',?_⟩;rcases q with q|⟨k,c',e,z'⟩
    .exact .inl q
    .refine .inr ⟨k,c',e,z'.sameBut hs ?_⟩;rintro rfl;exact hj (zeO hN e1 (I.ok.inj _ _ _ e hc▸hi))
  .by_cases hcc:c'=c
   .subst hcc;exact⟨_,hc'⟩
   .obtain⟨w2,z2⟩:=I.cell y c' e;exact⟨w2,z2.sameBut hs hcc⟩
  .obtain⟨e,n,ne,nf,d⟩:=I.pin p hp;refine⟨(hs.2 p.1 ?_).trans e,n,ne,nf,d⟩;intro q;rw[q,hoc] at e;have q':oc=p.2:=was e
   exact d w' (by rw[<-q'];exact hocd)
def zdJ {M:Model}{A:Ao}{E:Vl->Sd->Prop}{i:Nat}{x:Str}{v:V}{u:Vl}{Q:Unit->Sd->Prop}(I:Inv X pins Y H s)(hN:X.N.Nodup)(hi:X.N[i]?=some x)(hx:Loc X.env.scope x)(r:RelV v u)
 (h:∀s',Inv X pins (Y.set i (some v)) H s'->Q () s') (hf:X.fn x=true\/X.env.scope.names.lookup x=some .local:=by first|exact .inl rfl|exact .inr rfl|assumption):wA M A (storeName X.env x u) Q E s:=
 zdQ I hN hi hx r (λs' I' _=>h s' I') hf
def Inv.call' {s':Sd}{ch:List Addr}(I:Inv X pins Y H s)(ho:s'.os=s.os)(u:Un (frs X.stack) ch H H' s.heap s'.heap)(hok:HOk X.prog X.w H' s'.heap)(hg:AllBare s'.gens)
 (hch:∀b∈ch,(b∈X.ex\/X.s₀.heap.objs.size<=b)/\b≠X.env.locals/\(∀x c,X.env.cells.lookup x=some c->c≠b)/\∀p∈X.pn++pins,p.1≠b):Inv X pins Y H' s':=by
 obtain⟨h',g',d',t',o'⟩:=s';have e:o'=s.os:=ho
 subst e;exact I.call (g':=g') (t':=t') (d':=d') u hok hg hch
end
abbrev XK:=Vl->Option Addr->Hp->Prop
abbrev St:=List (Option V)
abbrev VK:=V->Hp->Prop
abbrev TE:=St->Hp->VK->Prop
abbrev TT:=St->Hp->(Bool->Hp->Prop)->Prop
abbrev TA:=St->Hp->(List V->Hp->Prop)->Prop
structure Ends where
 nx:St->Hp->Prop
 rt:VK
 bk:St->Hp->Prop:=λ_ _=>False
 ct:St->Hp->Prop:=λ_ _=>False
abbrev TS:=Ends->St->Hp->Prop
def EP (X:Cx)(pins:List (Addr×Obj))(Y:St)(Q:VK)(u:Vl)(s':Sd):Prop:=∃v H',Inv X pins Y H' s'/\RelV v u/\Q v H'
def TP (X:Cx)(pins:List (Addr×Obj))(Y:St)(Q:Bool->Hp->Prop)(b:Bool)(s':Sd):Prop:=∃H',Inv X pins Y H' s'/\Q b H'
def AP (X:Cx)(pins:List (Addr×Obj))(Y:St)(Q:List V->Hp->Prop)(us:List Vl)(s':Sd):Prop:=∃vs H',Inv X pins Y H' s'/\Vals vs us/\Q vs H'
def SP (X:Cx)(pins:List (Addr×Obj))(D:Ends)(f:Flow)(s':Sd):Prop:=
 match f with
|.next=>∃Y' H',Inv X pins Y' H' s'/\D.nx Y' H'
|.brk=>∃Y' H',Inv X pins Y' H' s'/\D.bk Y' H'
|.cont=>∃Y' H',Inv X pins Y' H' s'/\D.ct Y' H'
|.ret u=>∃v Y' H',Inv X pins Y' H' s'/\RelV v u/\D.rt v H'
def PE (X:Cx)(e:Expr)(t:TE):Prop:=
 ∀(pins:List (Addr×Obj)) (s:Sd) (Y:St) (H:Hp) (Q:VK),Inv X pins Y H s->t Y H Q->wA (model X.prog X.w) X.A (eval e X.env) (EP X pins Y Q) X.xe s
def PT (X:Cx)(e:Expr)(t:TT):Prop:=
 ∀(pins:List (Addr×Obj)) (s:Sd) (Y:St) (H:Hp) (Q:Bool->Hp->Prop),Inv X pins Y H s->t Y H Q->wA (model X.prog X.w) X.A (isTrue e X.env (eval e X.env)) (TP X pins Y Q) X.xe s
def PW (X:Cx)(e:Expr)(t:TT):Prop:=
 ∀(whole:Sem Vl) (pins:List (Addr×Obj)) (s:Sd) (Y:St) (H:Hp) (Q:Bool->Hp->Prop),Inv X pins Y H s->t Y H Q->wA (model X.prog X.w) X.A (isTrue e X.env whole) (TP X pins Y Q) X.xe s
def PW.pt {X:Cx}{e:Expr}{t:TT}(h:PW X e t):PT X e t:=h _
def PA (X:Cx)(es:List Expr)(t:TA):Prop:=
 ∀(pos:Pos) (pins:List (Addr×Obj)) (s:Sd) (Y:St) (H:Hp) (Q:List V->Hp->Prop),Inv X pins Y H s->t Y H Q->wA (model X.prog X.w) X.A (spliced (backTo pos (sE es X.env))) (AP X pins Y Q) X.xe s
def PS (X:Cx)(st:Stmt)(t:TS):Prop:=
 ∀(pins:List (Addr×Obj)) (s:Sd) (Y:St) (H:Hp) (D:Ends),Inv X pins Y H s->t D Y H->wA (model X.prog X.w) X.A (exec st X.env) (SP X pins D) X.xe s
def PSs (X:Cx)(st:List Stmt)(t:TS):Prop:=
 ∀(pins:List (Addr×Obj)) (s:Sd) (Y:St) (H:Hp) (D:Ends),Inv X pins Y H s->t D Y H->wA (model X.prog X.w) X.A (execs st X.env) (SP X pins D) X.xe s
def thn {C:Type}{t:Sem C}{Q Q':C->Sd->Prop}{M:Model}{A:Ao}{E:Vl->Sd->Prop}{s:Sd}(h:wA M A t Q E s)(hQ:∀a s,Q a s->Q' a s):wA M A t Q' E s:=wav h hQ λ_ _ x=>x
section
variable {X:Cx}
def bin {a b:Expr}{ta tb:TE}(ha:PE X a ta)(hb:PE X b tb){pins:List (Addr×Obj)}{s:Sd}{Y:St}{H:Hp}{R:V->V->Hp->Prop}(I:Inv X pins Y H s)(h:ta Y H λx H1=>tb Y H1 λy H2=>R x y H2)
 {C:Type}{Q:C->Sd->Prop}{f:Vl->Vl->Sem C}
 (hf:∀v u s2 x y H2,Inv X pins Y H2 s2->RelV x v->RelV y u->R x y H2->wA (model X.prog X.w) X.A (f v u) Q X.xe s2) :
 wA (model X.prog X.w) X.A (eval a X.env) (λv s₁=>wA (model X.prog X.w) X.A (eval b X.env) (λu s₂=>wA (model X.prog X.w) X.A (f v u) Q X.xe s₂) X.xe s₁) X.xe s:=by
 refine thn (ha pins s Y H _ I h) λv s1 ⟨x,H1,I1,r1,q1⟩=>?_
 refine thn (hb pins s1 Y H1 _ I1 q1) λu s2 ⟨y,H2,I2,r2,q2⟩=>?_
 exact hf v u s2 x y H2 I2 r1 r2 q2
def tVar (i:Nat):TE:=λY H Q=>∃v,Y[i]?=some (some v)/\Q v H
def tC (v:V):TE:=λ_ H Q=>Q v H
def zcl {i:Nat}{x:Str}{pos:Pos}(hN:X.N[i]?=some x)(hv:Vis X.env.scope x)(hd:(x == ("__debug__":Str))=false:=by decide)(hcd:(x == ("__classdict__":Str))=false:=by decide):PE X (.Name x pos) (tVar i):=by
 intro pins s Y H Q I h;obtain⟨v,e,h⟩:=h;obtain⟨m,hn,hl⟩:=I.loc;obtain⟨u,r,l⟩:=hl i x v hN e hv;have fin:EP X pins Y Q u s:=⟨v,H,I,r,h⟩
 rcases l with⟨hk,hm⟩|⟨hk,c,hc,qg⟩
 .exact wcR (wbM I.ok.kind hk hn hm fin) hd
 .rcases hk with hk|hk
  .exact wcR (wpAny_loadName_cell I.ok.kind hk hc qg fin) hd
  .exact wcR (wpAny_loadName_free I.ok.kind hk hc qg fin hcd) hd
def zo6 {i j pos}:PE X (.Constant (.int i) j pos) (tC (.int i)):=λ_ _ _ H _ I h=>wpAny_Constant_int ⟨.int i,H,I.tok _,⟨_,rfl⟩,h⟩
def zrw {b j pos}:PE X (.Constant (.bool b) j pos) (tC (.bl b)):=λ_ _ _ H _ I h=>Constant_bool ⟨.bl b,H,I,rfl,h⟩
def zo7 {j pos}:PE X (.Constant .none j pos) (tC .non):=λ_ _ _ H _ I h=>Constant_none ⟨.non,H,I,rfl,h⟩
def zo8 {x j pos}:PE X (.Constant (.str x) j pos) (tC (.str x)):=λ_ _ _ H _ I h=>Calls.Constant_str ⟨.str x,H,I.tok _,⟨_,rfl⟩,h⟩
def Gl (X:Cx)(x:Str):Prop:=X.env.kindOf x=some .globalImplicit
def zcO {E:Vl->Sd->Prop}{pins:List (Addr×Obj)}{s:Sd}{Y:St}{H:Hp}{x:Str}{u:Vl}{pos:Pos}{Q:Vl->Sd->Prop}(I:Inv X pins Y H s)(hg:Gl X x)(hm:X.mg x=some u)(h:Q u s)
 (hd:(x == ("__debug__":Str))=false:=by decide):wA (model X.prog X.w) X.A (eval (.Name x pos) X.env) Q E s:=
 Calls.Name_function_global I.ok.kind hg (Calls.loadGlobal_global (by rw[I.ok.glob];exact I.mod.glob.keeps I.bk) hm h) hd
def zcZ {E:Vl->Sd->Prop}{pins:List (Addr×Obj)}{s:Sd}{Y:St}{H:Hp}{x:Str}{u:Vl}{pos:Pos}{Q:Vl->Sd->Prop}(I:Inv X pins Y H s)(hg:Gl X x)(hm:X.mg x=none)(hv:bBs x=some u)(h:Q u s)
 (hn:x≠"__name__":=by decide) (hd:(x == ("__debug__":Str))=false:=by decide):wA (model X.prog X.w) X.A (eval (.Name x pos) X.env) Q E s:=by
 obtain⟨mb,h1,h2⟩:=I.mod.blt;exact Calls.Name_function_global I.ok.kind hg (Calls.loadGlobal_builtin (by rw[I.ok.glob];exact I.mod.glob.keeps I.bk) hm (by rw[I.ok.blt];exact h1.keeps I.bk) ((h2 x hn).trans hv) h) hd
def ziE {x:Str}{v:V}{u:Vl}{pos:Pos}(hg:Gl X x)(hm:X.mg x=some u)(r:RelV v u)(hd:(x == ("__debug__":Str))=false:=by decide):PE X (.Name x pos) (tC v):=
 λ_ _ _ H _ I h=>zcO I hg hm ⟨v,H,I,r,h⟩ hd
def ziF {x:Str}{v:V}{u:Vl}{pos:Pos}(hg:Gl X x)(hm:X.mg x=none)(hv:bBs x=some u)(r:RelV v u)(hn:x≠"__name__":=by decide)(hd:(x == ("__debug__":Str))=false:=by decide):PE X (.Name x pos) (tC v):=
 λ_ _ _ H _ I h=>zcZ I hg hm hv ⟨v,H,I,r,h⟩ hn hd
variable {a b:Expr}{ta tb:TE}{pos:Pos}
variable {tA tB':TT}{rest:List Expr}
def tAnd (t u:TT):TT:=λY H Q=>t Y H λc H1=>if c=true then u Y H1 Q else Q false H1
def tOr (t u:TT):TT:=λY H Q=>t Y H λc H1=>if c=true then Q true H1 else u Y H1 Q
def tNot (t:TT):TT:=λY H Q=>t Y H λc H1=>Q (!c) H1
def zm4 (ha:PT X a tA):PW X (.BoolOp .And [a] pos) tA:=by
 intro wh pins s Y H Q I h;refine isTrue_and (thn (ha pins s Y H Q I h) λc s1 e=>?_);cases c with
|true=>exact isTrue_and_nil e
|false=>exact e
def zo9 (ha:PT X a tA):PW X (.BoolOp .Or [a] pos) tA:=by
 intro wh pins s Y H Q I h;refine isTrue_or (thn (ha pins s Y H Q I h) λc s1 e=>?_);cases c with
|false=>exact isTrue_or_nil e
|true=>exact e
def zpa (ha:PT X a tA)(hb:PW X (.BoolOp .And (b::rest) pos) tB'):PW X (.BoolOp .And (a::b::rest) pos) (tAnd tA tB'):=by
 intro wh pins s Y H Q I h;refine isTrue_and (thn (ha pins s Y H _ I h) λc s1 ⟨H1,I1,q1⟩=>?_);cases c with
|true=>exact hb wh pins s1 Y H1 Q I1 q1
|false=>exact⟨H1,I1,q1⟩
def zrx (ha:PT X a tA)(hb:PW X (.BoolOp .Or (b::rest) pos) tB'):PW X (.BoolOp .Or (a::b::rest) pos) (tOr tA tB'):=by
 intro wh pins s Y H Q I h;refine isTrue_or (thn (ha pins s Y H _ I h) λc s1 ⟨H1,I1,q1⟩=>?_);cases c with
|true=>exact⟨H1,I1,q1⟩
|false=>exact hb wh pins s1 Y H1 Q I1 q1
def zpb (ha:PT X a tA):PT X (.UnaryOp .Not a pos) (tNot tA):=by
 intro pins s Y H Q I h;exact isTrue_not (ha pins s Y H (λc H1=>Q (!c) H1) I h)
def zry (ta tb:TE):TE:=λY H Q=>ta Y H λx H1=>∃c,x=.bl c/\if c=true then tb Y H1 Q else Q (.bl false) H1
def tOrV (ta tb:TE):TE:=λY H Q=>ta Y H λx H1=>∃c,x=.bl c/\if c=true then Q (.bl true) H1 else tb Y H1 Q
def zrz (ta:TE):TE:=λY H Q=>ta Y H λx H1=>∃c,x=.bl c/\Q (.bl (!c)) H1
def zpc {op}{t:TE}(h:PE X a t):PE X (.BoolOp op [a] pos) t:=λpins s Y H Q I hw=>BoolOp_one (h pins s Y H Q I hw)
def zpd (ha:PE X a ta)(hb:PE X (.BoolOp .And (b::rest) pos) tb):PE X (.BoolOp .And (a::b::rest) pos) (zry ta tb):=by
 intro pins s Y H Q I h;refine BoolOp_and (thn (ha pins s Y H _ I h) λv s1 ⟨x,H1,I1,r1,q1⟩=>?_);obtain⟨c,rfl,q1⟩:=q1;cases r1;refine wbz ?_;cases c with
|true=>exact hb pins s1 Y H1 Q I1 q1
|false=>exact⟨.bl false,H1,I1,rfl,q1⟩
def zrA (ha:PE X a ta)(hb:PE X (.BoolOp .Or (b::rest) pos) tb):PE X (.BoolOp .Or (a::b::rest) pos) (tOrV ta tb):=by
 intro pins s Y H Q I h;refine BoolOp_or (thn (ha pins s Y H _ I h) λv s1 ⟨x,H1,I1,r1,q1⟩=>?_);obtain⟨c,rfl,q1⟩:=q1;cases r1;refine wbz ?_;cases c with
|false=>exact hb pins s1 Y H1 Q I1 q1
|true=>exact⟨.bl true,H1,I1,rfl,q1⟩
def zpe (ha:PE X a ta):PE X (.UnaryOp .Not a pos) (zrz ta):=by
 intro pins s Y H Q I h;refine UnaryOp_ (thn (ha pins s Y H _ I h) λv s1 ⟨x,H1,I1,r1,q1⟩=>?_);obtain⟨c,rfl,q1⟩:=q1;cases r1;exact not_of (wbz ⟨.bl (!c),H1,I1,rfl,q1⟩)
end
def SqL (K:Fg)(H:Hp)(a:Addr)(xs:List V):Prop:=
 Rd H a (.lst xs)\/
  ∃(o:Obj) (its:Array Vl) (n:Nat),K.lookup a=some o/\o.cls=.type "list"/\o.dict=none/\o.data=.seq its n/\its.size<=sLn/\Vals xs its.toList
def SqT (K:Fg)(H:Hp)(a:Addr)(xs:List V):Prop:=
 Rd H a (.tup xs)\/
  ∃(o:Obj) (its:Array Vl) (n:Nat),K.lookup a=some o/\o.cls=.type "tuple"/\o.data=.seq its n/\its.size<=sLn/\Vals xs its.toList
def absV:Vl->Option V
|.none=>some .non
|.bool b=>some (.bl b)
|.int i _=>some (.int i)
|.str x _=>some (.str x)
|.bytes b _=>some (.byt b)
|.float b _=>some (.flt b)
|.ref a=>some (.ref a)
|.type n=>some (.ty n)
|_=>none
def RelV.abs {x:V}{u:Vl}(r:RelV x u):absV u=some x:=by
 cases x with
|non=>cases r;rfl
|bl _=>cases r;rfl
|int _=>obtain⟨t,rfl⟩:=r;rfl
|str _=>obtain⟨t,rfl⟩:=r;rfl
|byt _=>obtain⟨t,rfl⟩:=r;rfl
|flt _=>obtain⟨t,rfl⟩:=r;rfl
|ref _=>cases r;rfl
|ty _=>cases r;rfl
def RelV.inj {x y:V}{u:Vl}(r:RelV x u)(q:RelV y u):x=y:=was (r.abs.symm.trans q.abs)
theorem Vals.inj:∀{xs ys:List V}{us:List Vl},Vals xs us->Vals ys us->xs=ys
|_,_,_,.nil,.nil=>rfl
|_,_,_,.cons r t,.cons r' t'=>by rw[r.inj r',Vals.inj t t']
section
variable {X:Cx}{pins:List (Addr×Obj)}{Y:St}{H:Hp}{s:Sd}{a:Addr}{xs ys:List V}
def SqL.of {K:Fg}(h:H a=some (.lst xs)):SqL K H a xs:=.inl (.inl h)
def SqT.of {K:Fg}(h:H a=some (.tup xs)):SqT K H a xs:=.inl (.inl h)
def Inv.list (I:Inv X pins Y H s)(h:SqL X.K H a xs):∃its:List Vl,Vals xs its/\PlainL s.heap a its.toArray/\xs.length<=sLn:=by
 rcases h with h|⟨o,its,n,hk,hc,hd,hs,hz,r⟩
 .obtain⟨z,its,n,r,e⟩:=h.ok I.hok;exact⟨its,r,⟨_,n,e,rfl,rfl,rfl⟩,z⟩
 .refine⟨its.toList,r,⟨o,n,I.kIn a o hk,hc,hd,by simpa using hs⟩,?_⟩;have e:=r.length
  simp only[wch] at e;omega
def Inv.tuple (I:Inv X pins Y H s)(h:SqT X.K H a xs):∃its:List Vl,Vals xs its/\IsTup s.heap a its.toArray/\xs.length<=sLn:=by
 rcases h with h|⟨o,its,n,hk,hc,hs,hz,r⟩
 .obtain⟨z,its,r,p⟩:=h.ok I.hok;exact⟨its,r,p,z⟩
 .refine⟨its.toList,r,⟨o,I.kIn a o hk,hc,n,by simpa using hs⟩,?_⟩;have e:=r.length
  simp only[wch] at e;omega
def Inv.list_inj (I:Inv X pins Y H s)(h:SqL X.K H a xs)(h':SqL X.K H a ys):xs=ys:=by
 obtain⟨its,r,⟨o,n,e,_,_,d⟩,_⟩:=I.list h;obtain⟨its',r',⟨o',n',e',_,_,d'⟩,_⟩:=I.list h';rw[e] at e';cases e';rw[d] at d';injection d' with d1 _
 have:its=its':=by simpa using wbi Array.toList d1
 subst this;exact r.inj r'
def Inv.tuple_inj (I:Inv X pins Y H s)(h:SqT X.K H a xs)(h':SqT X.K H a ys):xs=ys:=by
 obtain⟨its,r,⟨o,e,_,n,d⟩,_⟩:=I.tuple h;obtain⟨its',r',⟨o',e',_,n',d'⟩,_⟩:=I.tuple h';rw[e] at e';cases e';rw[d] at d';injection d' with d1 _
 have:its=its':=by simpa using wbi Array.toList d1
 subst this;exact r.inj r'
end
abbrev Cx.wish (X:Cx)(E:Vl->Sd->Prop):Cx:={X with xe:=E}
abbrev Cx.nox (X:Cx):Cx:=X.wish λ_ _=>False
theorem Cx.Ok.wish {X:Cx}(ok:X.Ok)(E:Vl->Sd->Prop):(X.wish E).Ok:=
 ⟨ok.mod,ok.kind,ok.glob,ok.blt,ok.above,ok.inj,ok.has,ok.cab,ok.hd,ok.frames,ok.stk,ok.exf,ok.bs,ok.bsz,ok.noex,ok.exfs,ok.funs,ok.frf⟩
def Cx.Ok.unwish {X:Cx}{E:Vl->Sd->Prop}(ok:(X.wish E).Ok):X.Ok:=
 ⟨ok.mod,ok.kind,ok.glob,ok.blt,ok.above,ok.inj,ok.has,ok.cab,ok.hd,ok.frames,ok.stk,ok.exf,ok.bs,ok.bsz,ok.noex,ok.exfs,ok.funs,ok.frf⟩
section
variable {X:Cx}{pins:List (Addr×Obj)}{Y:St}{H:Hp}{s:Sd}{E:Vl->Sd->Prop}
theorem Inv.wish (I:Inv X pins Y H s)(E:Vl->Sd->Prop):Inv (X.wish E) pins Y H s:=⟨I.ok.wish E,I.os,I.bare,I.base,I.loc,I.cell,I.free,I.freeC,I.pin,I.hok,I.len⟩
theorem Inv.unwish (I:Inv (X.wish E) pins Y H s):Inv X pins Y H s:=⟨I.ok.unwish,I.os,I.bare,I.base,I.loc,I.cell,I.free,I.freeC,I.pin,I.hok,I.len⟩
theorem SP.unwish {D:Ends}{f:Flow}{s':Sd}(h:SP (X.wish E) pins D f s'):SP X pins D f s':=by
 cases f with
|next=>obtain⟨Y',H',I,q⟩:=h;exact⟨Y',H',I.unwish,q⟩
|brk=>obtain⟨Y',H',I,q⟩:=h;exact⟨Y',H',I.unwish,q⟩
|cont=>obtain⟨Y',H',I,q⟩:=h;exact⟨Y',H',I.unwish,q⟩
|ret u=>obtain⟨v,Y',H',I,r,q⟩:=h;exact⟨v,Y',H',I.unwish,r,q⟩
theorem PSs.nox {st:List Stmt}{t:TS}(h:PSs X.nox st t):PSs X st t:=λpins s Y H D I hw=>
 wav (h pins s Y H D (I.wish _) hw) (λ_ _ q=>q.unwish) λ_ _ z=>False.elim z
end
section
variable {X:Cx}{st:Stmt}{rest:List Stmt}{t u:TS}{e:Expr}{te:TE}{pos:Pos}
def zrB:TS:=λD Y H=>D.nx Y H
def tSeq (t u:TS):TS:=λD Y H=>t {D with nx:=u D} Y H
def ziG:PSs X [] zrB:=λ_ _ Y H _ I h=>wcn ⟨Y,H,I,h⟩
def zeP (h1:PS X st t)(h2:PSs X rest u):PSs X (st::rest) (tSeq t u):=by
 intro pins s Y H D I h;refine wpAny_execs_cons (thn (h1 pins s Y H {D with nx:=u D} I h) λf s1 q=>?_);cases f with
|next=>
   obtain⟨Y',H',I',q⟩:=q;exact h2 pins s1 Y' H' D I' q
|ret v=>exact q
|brk=>exact q
|cont=>exact q
def ziH (h1:PS X st t):PSs X [st] t:=by
 intro pins s Y H D I h;refine wpAny_execs_cons (thn (h1 pins s Y H D I h) λf s1 q=>?_);cases f with
|next=>exact wcn q
|ret v=>exact q
|brk=>exact q
|cont=>exact q
def zrC:TS:=λD Y H=>D.ct Y H
def zgr:PS X (.Continue pos) zrC:=λ_ _ Y H _ I h=>wpAny_Continue ⟨Y,H,I,h⟩
def Inv.quiet {pins:List (Addr×Obj)}{Y:St}{H:Hp}{s:Sd}(I:Inv X pins Y H s):interactive X.env=false:=by simp[interactive,I.ok.kind]
def zkI (te:TE):TS:=λD Y H=>te Y H λ_ H1=>D.nx Y H1
def zdn (he:PE X e te)(hs:sWw e none pos.line X.env=pure false:=by rfl):PS X (.Expr e pos) (zkI te):=by
 intro pins s Y H D I h;exact wpAny_Expr_any (thn (he pins s Y H _ I h) λv s1 ⟨x,H1,I1,r1,q1⟩=>⟨Y,H1,I1,q1⟩) I.quiet hs
def tRet (te:TE):TS:=λD Y H=>te Y H D.rt
def zmf (he:PE X e te):PS X (.Return (some e) pos) (tRet te):=by
 intro pins s Y H D I h;exact wpAny_Return_some (thn (he pins s Y H _ I h) λv s1 ⟨x,H1,I1,r1,q1⟩=>⟨x,Y,H1,I1,r1,q1⟩)
def tIfS (c:TT)(t u:TS):TS:=λD Y H=>c Y H λb H1=>if b=true then t D Y H1 else u D Y H1
def zpf {c:Expr}{a b:List Stmt}{tc:TT}(hc:PT X c tc)(ha:PSs X a t)(hb:PSs X b u):PS X (.If c a b pos) (tIfS tc t u):=by
 intro pins s Y H D I h;refine wpAny_If (thn (hc pins s Y H _ I h) λd s1 ⟨H1,I1,q1⟩=>?_);cases d with
|true=>exact ha pins s1 Y H1 D I1 q1
|false=>exact hb pins s1 Y H1 D I1 q1
def ziI:TS:=λ_ _ _=>False
def zg7:PS X st ziI:=λ_ _ _ _ _ _ h=>h.elim
def ziJ {sts:List Stmt}:PSs X sts ziI:=λ_ _ _ _ _ _ h=>h.elim
end
abbrev TG:=V->St->Hp->(St->Hp->Prop)->Prop
abbrev TGs:=List V->St->Hp->(St->Hp->Prop)->Prop
def PG (X:Cx)(qq:Expr)(t:TG):Prop:=
 ∀(pins:List (Addr×Obj)) (s:Sd) (Y:St) (H:Hp) (v:V) (u:Vl) (Q:St->Hp->Prop),Inv X pins Y H s->RelV v u->t v Y H Q->
  wA (model X.prog X.w) X.A (assign qq X.env u) (λ_ s'=>∃Y' H',Inv X pins Y' H' s'/\Q Y' H') X.xe s
def PGs (X:Cx)(ts:List Expr)(t:TGs):Prop:=
 ∀(pins:List (Addr×Obj)) (s:Sd) (Y:St) (H:Hp) (vs:List V) (us:List Vl) (Q:St->Hp->Prop),Inv X pins Y H s->Vals vs us->t vs Y H Q->
  wA (model X.prog X.w) X.A (assignInOrder ((assignEach ts X.env).map (·.2)) us) (λ_ s'=>∃Y' H',Inv X pins Y' H' s'/\Q Y' H') X.xe s
abbrev TSet:=V->V->V->Hp->(Hp->Prop)->Prop
def PSet (X:Cx)(t:TSet):Prop:=
 ∀(pins:List (Addr×Obj)) (s:Sd) (Y:St) (H:Hp) (o i v:V) (ov iv u:Vl) (Q:Hp->Prop),Inv X pins Y H s->RelV o ov->RelV i iv->RelV v u->t o i v H Q->
  wA (model X.prog X.w) X.A (setItem ov iv u) (λ_ s'=>∃H',Inv X pins Y H' s'/\Q H') X.xe s
section
variable {X:Cx}{pos:Pos}
def zdE (i:Nat):TG:=λv Y H Q=>Q (Y.set i (some v)) H
def zgs {i:Nat}{x:Str}(hN:X.N.Nodup)(hi:X.N[i]?=some x)(hx:Loc X.env.scope x)(hf:X.fn x=true\/X.env.scope.names.lookup x=some .local:=by first|exact .inl rfl|exact .inr rfl|assumption):PG X (.Name x pos) (zdE i):=by
 intro pins s Y H v u Q I r h;exact wpAny_assign_Name (zdJ I hN hi hx r (λs' I'=>⟨_,H,I',h⟩) hf)
def gNil:TGs:=λvs Y H Q=>vs = []/\Q Y H
def zpg (t:TG)(u:TGs):TGs:=λvs Y H Q=>∃v r,vs=v::r/\t v Y H λY' H'=>u r Y' H' Q
def zm5:PGs X [] gNil:=by
 intro pins s Y H vs us Q I r h;obtain⟨e,h⟩:=h;subst e;cases r;exact assignInOrder_nil ⟨Y,H,I,h⟩
def zkJ {e:Expr}{es:List Expr}{t:TG}{u:TGs}(h1:PG X e t)(h2:PGs X es u)
 (hs:(assignEach (e::es) X.env).map (·.2)=assign e X.env::(assignEach es X.env).map (·.2):=by rfl):PGs X (e::es) (zpg t u):=by
 intro pins s Y H vs us Q I r h;obtain⟨v,vr,e1,h⟩:=h;subst e1;cases r with
|cons r rr=>
   rw[hs];refine assignInOrder_cons (thn (h1 pins s Y H _ _ _ I r h) λ_ s1 ⟨Y1,H1,I1,q1⟩=>?_);exact h2 pins s1 Y1 H1 _ _ Q I1 rr q1
def gTup (K:Fg)(n:Nat)(t:TGs):TG:=λv Y H Q=>∃a xs,v=.ref a/\SqT K H a xs/\xs.length=n/\t xs Y H Q
def zph {es:List Expr}{k:Nat}{t:TGs}{n:Nat}(hc:X.calm=true)(h:PGs X es t)
 (hn:(assignEach es X.env).length=n:=by rfl) (hst:(assignEach es X.env).findIdx? (·.1)=none:=by rfl):PG X (.Tuple es k pos) (gTup X.K n t):=by
 intro pins s Y H v u Q I r hw;obtain⟨a,xs,e1,hq,hl,hw⟩:=hw;subst e1;cases r;obtain⟨its,rv,ht,hz⟩:=I.tuple hq;refine assign_Tuple_tuple (I.ok.hd hc) ht (by simp[hn,<-hl,rv.length]) hst λh' hx=>?_
 have I1:Inv X pins Y H {s with heap:=h'}:=I.kept (t':=s.toks) λb o e=>hx b o (wax (wal e)) e
 exact h pins _ Y H xs _ Q I1 (by simpa using rv) hw
def gSub (to ti:TE)(t:TSet):TG:=λv Y H Q=>to Y H λo H1=>ti Y H1 λi H2=>t o i v H2 λH3=>Q Y H3
def zmg {o i:Expr}{to ti:TE}{t:TSet}(ho:PE X o to)(hi:PE X i ti)(hs:PSet X t)
 (ha:∀v,assign (.Subscript o i pos) X.env v=(do
  let ov <-holding [v] (eval o X.env)
  let iv <-holding [v,ov] (eval i X.env)
  standAt pos
  holding [v,ov,iv] (setItem ov iv v)
  release [v,ov,iv] []):=by intro _;rfl):PG X (.Subscript o i pos) (gSub to ti t):=by
 intro pins s Y H v u Q I r h;rw[ha];refine waa (wbo (thn (ho pins s Y H _ I h) λov s1 ⟨x,H1,I1,r1,q1⟩=>?_));refine waa (wbo (thn (hi pins s1 Y H1 _ I1 q1) λiv s2 ⟨y,H2,I2,r2,q2⟩=>?_));refine waa (wbs (waa (wbo (thn (hs pins s2 Y H2 x y v ov iv u _ I2 r1 r2 r q2) λ_ s3 ⟨H3,I3,q3⟩=>?_))));exact wpAny_release ⟨Y,H3,I3,q3⟩
def tAsg (te:TE)(g:TG):TS:=λD Y H=>te Y H λx H1=>g x Y H1 D.nx
def ziK {tg e:Expr}{te:TE}{g:TG}(he:PE X e te)(hg:PG X tg g)(hs:swapsWithSole [tg] e pos.line X.env=pure false:=by rfl)(hw:swappedStores [tg] e X.env=pure none:=by rfl)
 (h1:(assignEach [tg] X.env).map (·.2) = [assign tg X.env]:=by rfl):PS X (.Assign [tg] e pos) (tAsg te g):=by
 intro pins s Y H D I h;refine wpAny_Assign_stores (thn (he pins s Y H _ I h) λv s1 ⟨x,H1,I1,r1,q1⟩=>?_) hs hw;rw[h1];exact thn (hg pins s1 Y H1 x v _ I1 r1 q1) λ_ s2 q=>q
def zg8 {i:Nat}{x:Str}{e:Expr}{te:TE}{pos':Pos}(hN:X.N.Nodup)(hi:X.N[i]?=some x)(hx:Loc X.env.scope x)(he:PE X e te)(hs:sWw e (some (.Name x pos')) pos.line X.env=pure false:=by rfl)(hf:X.fn x=true\/X.env.scope.names.lookup x=some .local:=by first|exact .inl rfl|exact .inr rfl|assumption) :
 PS X (.Assign [.Name x pos'] e pos) (tAsg te (zdE i)):=by
 intro pins s Y H D I h;refine wpAny_Assign_Name (thn (he pins s Y H _ I h) λv s1 ⟨y,H1,I1,r1,q1⟩=>?_) hs;exact zdJ I1 hN hi hx r1 (λs2 I2=>⟨_,H1,I2,q1⟩) hf
def zmh (c:TT)(tb:TS):TS:=λD Y H=>∃W:Nat->St->Hp->Prop,(∃m,W m Y H)/\∀m Y H,W m Y H->
 c Y H λb H1=>if b=true then ∃N:St->Hp->Prop,(∀Y' H',N Y' H'->∃m',m'<m/\W m' Y' H')/\tb {D with nx:=N,ct:=N,bk:=D.nx} Y H1 else D.nx Y H1
def zkK {c:Expr}{body:List Stmt}{tc:TT}{tb:TS}(hp:PassesOwn (model X.prog X.w) X.A X.env X.xe)(hc:PT X c tc)(hb:PSs X body tb):PS X (.While c body [] pos) (zmh tc tb):=by
 intro pins s Y H D I h;obtain⟨W,⟨m0,w0⟩,qC⟩:=h;refine wpAny_While (codeAny_whileLoop (λn s'=>∃Y' H',Inv X pins Y' H' s'/\W n Y' H') ?_ m0 ⟨Y,H,I,w0⟩);rintro n s1 ⟨Y1,H1,I1,w1⟩;refine wbN hp (thn (hc pins s1 Y1 H1 _ I1 (qC n Y1 H1 w1)) λb s2 ⟨H2,I2,q2⟩=>?_);cases b with
|true=>
   obtain⟨N,hN,q2⟩:=q2;rw[if_pos rfl];refine wbN hp (thn (hb pins s2 Y1 H2 _ I2 q2) λf s3 q3=>?_);cases f with
  |next=>
     obtain⟨Y3,H3,I3,n3⟩:=q3;obtain⟨m',hm,w3⟩:=hN Y3 H3 n3;exact⟨m',hm,Y3,H3,I3,w3⟩
  |cont=>
     obtain⟨Y3,H3,I3,n3⟩:=q3;obtain⟨m',hm,w3⟩:=hN Y3 H3 n3;exact⟨m',hm,Y3,H3,I3,w3⟩
  |brk=>exact q3
  |ret v=>exact q3
|false=>
   rw[if_neg wbF];exact wcn ⟨Y1,H2,I2,q2⟩
end
structure It where
 go:Nat->Hp->Prop
 yld:Nat->Hp->V->Hp->Prop
 stop:Nat->Hp->Prop
def FpOk (X:Cx)(pins:List (Addr×Obj))(H:Hp)(b:Addr):Prop:=
 H b=none/\b≠X.env.locals/\b∉X.fs/\(b∈X.ex\/X.s₀.heap.objs.size<=b)/\(∀x c,X.env.cells.lookup x=some c->c≠b)/\∀p∈X.pn++pins,p.1≠b
def Inv.fpOk {X:Cx}{pins:List (Addr×Obj)}{Y:St}{H H':Hp}{s:Sd}{b:Addr}(I:Inv X pins Y H s)(hb:s.heap.objs.size<=b)(hn:H' b=none):FpOk X pins H' b:=by
 refine⟨hn,Nat.ne_of_gt (waq I.lt hb),I.nofs hb,.inr (wao I.sz hb),λx c e z=>?_,λp hp z=>?_⟩
 .obtain⟨v,q⟩:=I.cell x c e;exact absurd (waq q.lt (by rw[z];exact hb)) (waT _)
 .exact absurd (waq (wal (I.pin p hp).1) (by rw[z];exact hb)) (waT _)
structure Turn (P:Pm)(w:World)(K:Fg)(tg:Expr)(J:It)(fp:List Addr)(it:Addr)(tn:Nat->Heap->Prop):Prop where
 mem:it∈fp
 obj:∀i h,tn i h->∀b∈fp,∃o,h.get? b=some o/\∀v,o.data≠.cell v
 keep:∀i h h',tn i h->(∀b∈fp,∀o,h.get? b=some o->h'.get? b=some o)->tn i h'
 item:∀(X:Cx),X.prog=P->X.w=w->X.K=K->X.calm=true->∀(i:Nat) (pins:List (Addr×Obj)) (s:Sd) (Y:St) (H:Hp) (E:Vl->Sd->Prop),Inv X pins Y H s->(∀b∈fp,FpOk X pins H b)->tn i s.heap->J.go i H->
  wA (model P w) X.A (pyNext (.ref it)) (λr s1=>∃u,r=some u/\
   wA (model P w) X.A (letOwnedTupleGo tg (.ref it) u) (λ_ s2=>∃x H',Inv X pins Y H' s2/\RelV x u/\J.yld i H x H'/\tn (i+1) s2.heap/\∀b∈fp,H' b=none) E s1) E s
 done:∀(X:Cx),X.prog=P->X.w=w->X.K=K->X.calm=true->∀(i:Nat) (pins:List (Addr×Obj)) (s:Sd) (Y:St) (H:Hp) (E:Vl->Sd->Prop),Inv X pins Y H s->(∀b∈fp,FpOk X pins H b)->tn i s.heap->J.stop i H->
  wA (model P w) X.A (pyNext (.ref it)) (λr s1=>r=none/\Inv X pins Y H s1) E s
 self:∀(A:Ao) (i:Nat) (s:Sd) (Q:Vl->Sd->Prop) (E:Vl->Sd->Prop),tn i s.heap->Q (.ref it) s->wA (model P w) A (pyIter (.ref it)) Q E s
abbrev TI:=St->Hp->(It->Hp->Prop)->Prop
def PIE (X:Cx)(pins:List (Addr×Obj))(Y:St)(tg:Expr)(R:It->Hp->Prop)(itv:Vl)(s2:Sd):Prop:=
 ∃(it:Addr) (fp:List Addr) (tn:Nat->Heap->Prop) (J:It) (H':Hp),itv=.ref it/\Inv X pins Y H' s2/\Turn X.prog X.w X.K tg J fp it tn/\tn 0 s2.heap/\(∀b∈fp,FpOk X pins H' b)/\R J H'
def PI (X:Cx)(tg qb:Expr)(wi:TI):Prop:=
 ∀(pins:List (Addr×Obj)) (s:Sd) (Y:St) (H:Hp) (R:It->Hp->Prop),Inv X pins Y H s->wi Y H R->
  wA (model X.prog X.w) X.A (eval qb X.env) (λv s1=>wA (model X.prog X.w) X.A (pyIter v) (PIE X pins Y tg R) X.xe s1) X.xe s
def ziL {M:Model}{A:Ao}{E:Vl->Sd->Prop}{s:Sd}{tg:Expr}{it:Addr}{u:Vl}{o:Obj}{n:String}{vs:Array Vl}{Q:Unit->Sd->Prop}(ho:s.heap.get? it=some o)(hc:o.cls=.type n)(hd:o.data=.fields vs)
 (hn:["enumerate","zip","dict_itemiterator","dict_reverseitemiterator","odict_iterator","itertools.zip_longest","itertools.pairwise"].contains n=false) (hQ:Q () s):wA M A (letOwnedTupleGo tg (.ref it) u) Q E s:=by
 unfold letOwnedTupleGo;cases tg <;> first
 |exact wak hQ
 |(cases u <;> first
  |exact wak hQ
  |(refine waa (wpAny_load ho ?_)
    rw[hc,hd];show wA M A (if(["enumerate","zip","dict_itemiterator","dict_reverseitemiterator","odict_iterator","itertools.zip_longest","itertools.pairwise"].contains n&&vs[0]? == some (rawInt _))=true then _ else _) Q E s
    rw[if_neg (by intro h;rw[hn,Bool.false_and] at h;cases h)];exact wak hQ))
def Itl (K:Fg)(a:Addr):It:=
 ⟨λi H=>∃xs x,SqL K H a xs/\xs[i]?=some x,λi H x H'=>H'=H/\∀xs,SqL K H a xs->xs[i]?=some x,λi H=>∃xs,SqL K H a xs/\xs.length<=i⟩
def Itt (K:Fg)(a:Addr):It:=
 ⟨λi H=>∃xs x,SqT K H a xs/\xs[i]?=some x,λi H x H'=>H'=H/\∀xs,SqT K H a xs->xs[i]?=some x,λi H=>∃xs,SqT K H a xs/\xs.length<=i⟩
def Itr (lo:Int)(n:Nat):It:=⟨λi _=>i<n,λi H x H'=>H'=H/\x=.int (lo+i),λi _=>n<=i⟩
def ziM {P:Pm}{w:World}{K:Fg}{tg:Expr}(a it:Addr):Turn P w K tg (Itl K a) [it] it (λi h=>h.IsListIter it a i) where
 mem:=by simp
 obj:=λi h st b hb=>by
  have e:b=it:=by simpa using hb
  subst e;obtain⟨o,e,c,d⟩:=st;exact⟨o,e,λv z=>by rw[d] at z;cases z⟩
 keep:=λi h h' st k=>st.at λo e=>k it (by simp) o e
 item:=by
  intro X hP hw hK hc i pins s Y H E I hf st hg;subst hP hw hK;obtain⟨xs,x,hq,hx⟩:=hg;obtain⟨its,rv,p,hz⟩:=I.list hq;obtain⟨u,hu,ru⟩:=rv.get hx;obtain⟨f0,f1,f2,f3,f4,f5⟩:=hf it (by simp);refine wpAny_pyNext_list_item st p.isList (x:=u) (by simpa using hu) λh' st' sb=>?_
  have I1:Inv X pins Y H {s with heap:=h'}:=I.turned (t':=s.toks) (λb o hb e=>(sb.2 b hb).trans e) f0 f1 f3 f4 f5
  obtain⟨o,e,c,d⟩:=id st';exact⟨u,rfl,ziL (s:={s with heap:=h'}) e c d (by decide) ⟨x,H,I1,ru,⟨rfl,λys hy=>by rw[I.list_inj hy hq];exact hx⟩,st',λb hb=>(hf b hb).1⟩⟩
 done:=by
  intro X hP hw hK hc i pins s Y H E I hf st hg;subst hP hw hK;obtain⟨xs,hq,hx⟩:=hg;obtain⟨its,rv,p,hz⟩:=I.list hq;obtain⟨f0,f1,f2,f3,f4,f5⟩:=hf it (by simp);have hl:=rv.length
  exact wpAny_pyNext_list_end (I.ok.hd hc) st p.isList (by simp;omega) λh' eb=>⟨rfl,I.turned (t':=s.toks) (λb o hb e=>eb b o hb e) f0 f1 f3 f4 f5⟩
 self:=λ_ _ _ _ _ st h=>wpAny_pyIter_listiter st h
def zhU {P:Pm}{w:World}{K:Fg}{tg:Expr}(a it:Addr):Turn P w K tg (Itt K a) [it] it (λi h=>h.IsTupleIter it a i) where
 mem:=by simp
 obj:=λi h st b hb=>by
  have e:b=it:=by simpa using hb
  subst e;obtain⟨o,e,c,d⟩:=st;exact⟨o,e,λv z=>by rw[d] at z;cases z⟩
 keep:=λi h h' st k=>st.at λo e=>k it (by simp) o e
 item:=by
  intro X hP hw hK hc i pins s Y H E I hf st hg;subst hP hw hK;obtain⟨xs,x,hq,hx⟩:=hg;obtain⟨its,rv,p,hz⟩:=I.tuple hq;obtain⟨u,hu,ru⟩:=rv.get hx;obtain⟨f0,f1,f2,f3,f4,f5⟩:=hf it (by simp);refine wpAny_pyNext_tuple_item st (show s.heap.IsTuple a its.toArray from p) (x:=u) (by simpa using hu) λh' st' sb=>?_
  have I1:Inv X pins Y H {s with heap:=h'}:=I.turned (t':=s.toks) (λb o hb e=>(sb.2 b hb).trans e) f0 f1 f3 f4 f5
  obtain⟨o,e,c,d⟩:=id st';exact⟨u,rfl,ziL (s:={s with heap:=h'}) e c d (by decide) ⟨x,H,I1,ru,⟨rfl,λys hy=>by rw[I.tuple_inj hy hq];exact hx⟩,st',λb hb=>(hf b hb).1⟩⟩
 done:=by
  intro X hP hw hK hc i pins s Y H E I hf st hg;subst hP hw hK;obtain⟨xs,hq,hx⟩:=hg;obtain⟨its,rv,p,hz⟩:=I.tuple hq;obtain⟨f0,f1,f2,f3,f4,f5⟩:=hf it (by simp);have hl:=rv.length
  exact wpAny_pyNext_tuple_end (I.ok.hd hc) st (show s.heap.IsTuple a its.toArray from p) (by simp;omega) λh' eb=>⟨rfl,I.turned (t':=s.toks) (λb o hb e=>eb b o hb e) f0 f1 f3 f4 f5⟩
 self:=λ_ _ _ _ _ st h=>wpAny_pyIter_tupleiter st h
def zhV {P:Pm}{w:World}{K:Fg}{tg:Expr}(it:Addr)(lo:Int)(n:Nat):Turn P w K tg (Itr lo n) [it] it (λi h=>IsRangeIter h it (lo+(i:Nat)*1) ((n:Int) - (i:Nat)) 1) where
 mem:=by simp
 obj:=λi h st b hb=>by
  have e:b=it:=by simpa using hb
  subst e;exact⟨_,st,λv z=>by
   have z':Data.fields _=Data.cell v:=z
   cases z'⟩
 keep:=λi h h' st k=>k it (by simp) _ st
 item:=by
  intro X hP hw hK hc i pins s Y H E I hf st hg;subst hP hw hK;obtain⟨f0,f1,f2,f3,f4,f5⟩:=hf it (by simp);have W:=Walks.range (prog:=X.prog) (w:=X.w) (I.ok.hd hc) it lo 1 n
  refine W.item i s _ _ hg st λv h' tk hv st' kk=>?_
  obtain⟨t,rfl⟩:=hv;have I1:Inv X pins Y H {s with heap:=h',toks:=tk}:=I.turned (λb o hb e=>kk b o (by simpa using hb) e) f0 f1 f3 f4 f5
  refine⟨_,rfl,ziL (s:={s with heap:=h',toks:=tk}) (n:="range_iterator") st' rfl rfl (by decide) ⟨.int (lo+i),H,I1,⟨t,?_⟩,⟨rfl,rfl⟩,st',λb hb=>(hf b hb).1⟩⟩;rw[Int.mul_one]
 done:=by
  intro X hP hw hK hc i pins s Y H E I hf st hg;subst hP hw hK;obtain⟨f0,f1,f2,f3,f4,f5⟩:=hf it (by simp);exact wpAny_pyNext_range_end (I.ok.hd hc) st (by have:n<=i:=hg;omega) λh' eb=>⟨rfl,I.turned (t':=s.toks) (λb o hb e=>eb b o hb e) f0 f1 f3 f4 f5⟩
 self:=λ_ _ _ _ _ st h=>wct st h
section
variable {X:Cx}{tg:Expr}
def zrD (K:Fg)(tl:TE):TI:=λY H R=>tl Y H λx H1=>∃a,x=.ref a/\(∃xs,SqL K H1 a xs)/\R (Itl K a) H1
def iTup (K:Fg)(tl:TE):TI:=λY H R=>tl Y H λx H1=>∃a,x=.ref a/\(∃xs,SqT K H1 a xs)/\R (Itt K a) H1
def ziN {l:Expr}{tl:TE}(hl:PE X l tl):PI X tg l (zrD X.K tl):=by
 intro pins s Y H R I h;refine thn (hl pins s Y H _ I h) λv s1 ⟨x,H1,I1,r1,q1⟩=>?_
 obtain⟨a,e,⟨xs,hq⟩,q⟩:=q1;subst e;cases r1;obtain⟨its,rv,p,hz⟩:=I1.list hq;refine wpAny_pyIter_list p.isList ?_;refine⟨s1.heap.objs.size,[s1.heap.objs.size],_,_,H1,rfl,I1.kept (t':=s1.toks) λb o e=>wae _ e,ziM a _,⟨_,waw _ rfl,rfl,rfl⟩,λb hb=>?_,q⟩;have e:b=s1.heap.objs.size:=by simpa using hb
 subst e;exact I1.fpOk (wan _) (I1.hok.fresh (wan _))
def zpi {l:Expr}{tl:TE}(hl:PE X l tl):PI X tg l (iTup X.K tl):=by
 intro pins s Y H R I h;refine thn (hl pins s Y H _ I h) λv s1 ⟨x,H1,I1,r1,q1⟩=>?_
 obtain⟨a,e,⟨xs,hq⟩,q⟩:=q1;subst e;cases r1;obtain⟨its,rv,p,hz⟩:=I1.tuple hq;refine wco (show s1.heap.IsTuple a its.toArray from p) ?_;refine⟨s1.heap.objs.size,[s1.heap.objs.size],_,_,H1,rfl,I1.kept (t':=s1.toks) λb o e=>wae _ e,zhU a _,⟨_,waw _ rfl,rfl,rfl⟩,λb hb=>?_,q⟩;have e:b=s1.heap.objs.size:=by simpa using hb
 subst e;exact I1.fpOk (wan _) (I1.hok.fresh (wan _))
def zkL {pins:List (Addr×Obj)}{Y:St}{H:Hp}{s:Sd}{R:It->Hp->Prop}{E:Vl->Sd->Prop}{lo hi:Int}{t u v:Tok}{tk:Nat}(I:Inv X pins Y H s)(h1:-(2 ^ 62)<=lo)(h2:lo<2 ^ 62)(h3:-(2 ^ 62)<=hi)(h4:hi<2 ^ 62)
 (q:R (Itr lo (hi - lo).toNat) H):wA (model X.prog X.w) X.A (pyIter (.ref s.heap.objs.size)) (PIE X pins Y tg R) E {s with heap:=s.heap.push {cls:=.type "range",data:=.fields #[.int lo t,.int hi u,.int 1 v]},toks:=tk}:=by
 refine wpAny_pyIter_range (IsRange.new ..) (small_one h1 h2 h3 h4) ?_;have I1:Inv X pins Y H {s with heap:=s.heap.push {cls:=.type "range",data:=.fields #[.int lo t,.int hi u,.int 1 v]},toks:=tk}:=I.kept λb o e=>wae _ e
 refine⟨(s.heap.push {cls:=.type "range",data:=.fields #[.int lo t,.int hi u,.int 1 v]}).objs.size,[(s.heap.push {cls:=.type "range",data:=.fields #[.int lo t,.int hi u,.int 1 v]}).objs.size],_,_,H,rfl,
  I1.kept (t':=tk) λb o e=>wae _ e,zhV _ lo (hi - lo).toNat,?_,λb hb=>?_,q⟩
 .have e1:lo+((0:Nat):Int)*1=lo:=by simp
  have e2:(((hi - lo).toNat:Nat):Int) - ((0:Nat):Int)=Builtin.Range.rangeSize lo hi 1:=by rw[rangeSize_one];split <;> omega
  show IsRangeIter _ _ (lo+((0:Nat):Int)*1) ((((hi - lo).toNat:Nat):Int) - ((0:Nat):Int)) 1
  rw[e1,e2];exact waw _ rfl
 .have e:b=(s.heap.push {cls:=.type "range",data:=.fields #[.int lo t,.int hi u,.int 1 v]}).objs.size:=by simpa using hb
  subst e;exact I1.fpOk (wan _) (I1.hok.fresh (wan _))
def zrE (ta:TA):TI:=λY H R=>ta Y H λvs H1=>∃j:Int,vs = [.int j]/\-(2 ^ 62)<=j/\j<2 ^ 62/\R (Itr 0 j.toNat) H1
def zfr {a:Expr}{ta:TA}{p pos:Pos}(hg:Gl X "range")(hm:X.mg "range"=none)(ha:PA X [a] ta)(hs:sE [a] X.env = [(false,eval a X.env)]:=by rfl):PI X tg (.Call (.Name "range" p) [a] [] pos) (zrE ta):=by
 intro pins s Y H R I h;refine Call_ (zcZ I hg hm boot_range (waZ (thn (ha pos pins s Y H _ I h) λus s1 ⟨vs,H1,I1,r1,q1⟩=>?_) hs rfl));obtain⟨j,e,q1,q2,q⟩:=q1;subst e;cases r1 with
|cons r rr=>
   cases rr;obtain⟨t,rfl⟩:=r;exact call_range_1 (zkL I1 (by omega) (by omega) q1 q2 (by simpa using q))
def tFor (wi:TI)(g:TG)(tb:TS):TS:=λD Y H=>wi Y H λJ H1=>∃W:Nat->Nat->St->Hp->Prop,(∃m,W 0 m Y H1)/\∀i m Y H,W i m Y H->
 (J.stop i H/\D.nx Y H)\/(J.go i H/\∃N:St->Hp->Prop,(∀Y' H',N Y' H'->∃m',m'<m/\W (i+1) m' Y' H')/\∀x H',J.yld i H x H'->g x Y H' λY2 H2=>tb {D with nx:=N,ct:=N,bk:=D.nx} Y2 H2)
def zfs (fp:List Addr)(h:Heap):List (Addr×Obj):=fp.filterMap λb=>(h.get? b).map λo=>(b,o)
def zbv {fp:List Addr}{h:Heap}{b:Addr}{o:Obj}(hb:b∈fp)(e:h.get? b=some o):(b,o)∈zfs fp h:=wbu.mpr ⟨b,hb,by rw[e];rfl⟩
def ziO {fp:List Addr}{h:Heap}{p:Addr×Obj}(hp:p∈zfs fp h):p.1∈fp/\h.get? p.1=some p.2:=by
 obtain⟨b,hb,e⟩:=wbu.mp hp;cases q:h.get? b with
|none=>rw[q] at e;cases e
|some o=>
   rw[q] at e;have e':(b,o)=p:=was e
   subst e';exact⟨hb,q⟩
def Inv.pinned {pins:List (Addr×Obj)}{Y:St}{H:Hp}{s:Sd}{fp:List Addr}(I:Inv X pins Y H s)(hf:∀b∈fp,FpOk X pins H b)(ho:∀b∈fp,∃o,s.heap.get? b=some o/\∀v,o.data≠.cell v):Inv X (pins++zfs fp s.heap) Y H s:=
 I.pins_of λp hp=>(waA.mp hp).elim (λz=>I.pin p (wat _ z)) λz=>by
  obtain⟨hb,e⟩:=ziO z;obtain⟨f0,f1,f2,_⟩:=hf p.1 hb;obtain⟨o,e',d⟩:=ho p.1 hb;rw[e] at e';cases e';exact⟨e,f0,f1,f2,d⟩
def Inv.unpinned {pins pl:List (Addr×Obj)}{Y:St}{H:Hp}{s:Sd}(I:Inv X (pins++pl) Y H s):Inv X pins Y H s:=I.pins_of λp hp=>I.pin p (wat _ (wbd _ hp))
def ziP {qb:Expr}{body:List Stmt}{wi:TI}{g:TG}{tb:TS}{pos:Pos}(hp:PassesOwn (model X.prog X.w) X.A X.env X.xe)(hc:X.calm=true)(hi:PI X tg qb wi)(hg:PG X tg g)(hb:PSs X body tb)
 (hs:∀x,fSI qb X.env x=pure x:=by intro _;rfl):PS X (.For tg qb body [] pos) (tFor wi g tb):=by
 intro pins s Y H D I h;refine wpAny_For (thn (hi pins s Y H _ I h) λv s1 h1=>thn h1 λitv s2 h2=>?_) hs;obtain⟨it,fp,tn,J,H2,e,I2,T,st2,f2,W,⟨m0,w0⟩,qC⟩:=h2;subst e;have stat:∀{H':Hp},(∀b∈fp,H' b=none)->∀b∈fp,FpOk X pins H' b:=λhn b hb=>⟨hn b hb,(f2 b hb).2⟩
 refine codeAny_forLoop_any (λn s'=>∃i Y' H',Inv X pins Y' H' s'/\tn i s'.heap/\(∀b∈fp,H' b=none)/\W i n Y' H') ?_ m0 ⟨0,Y,H2,I2,st2,λb hb=>(f2 b hb).1,w0⟩;rintro n s3 ⟨i,Y3,H3,I3,st3,fr3,w3⟩;rcases qC i n Y3 H3 w3 with⟨stop,qn⟩|⟨go,N,hN,step⟩
 .refine wbN hp (thn (T.done X rfl rfl rfl hc i pins s3 Y3 H3 X.xe I3 (stat fr3) st3 stop) λr s4 ⟨hr,I4⟩=>?_);subst hr;exact wcn ⟨Y3,H3,I4,qn⟩
 .refine wbN hp (thn (T.item X rfl rfl rfl hc i pins s3 Y3 H3 X.xe I3 (stat fr3) st3 go) λr s4 ⟨u,hr,h4⟩=>?_);subst hr;refine wbN hp (thn h4 λ_ s5 ⟨x,H5,I5,r5,y5,st5,fr5⟩=>?_);have I5':=I5.pinned (stat fr5) (T.obj _ _ st5)
  refine wbN hp (thn (hg _ s5 Y3 H5 x u _ I5' r5 (step x H5 y5)) λ_ s6 ⟨Y6,H6,I6,q6⟩=>?_);refine wbN hp (thn (hb _ s6 Y6 H6 _ I6 q6) λf s7 q7=>?_);have again:∀{Y7:St}{H7:Hp},Inv X (pins++zfs fp s5.heap) Y7 H7 s7->N Y7 H7->∃m,m<n/\∃i Y' H',Inv X pins Y' H' s7/\tn i s7.heap/\(∀b∈fp,H' b=none)/\W i m Y' H':=λ{Y7 H7} I7 n7=>by
   obtain⟨m',hm,w7⟩:=hN Y7 H7 n7;refine⟨m',hm,i+1,Y7,H7,I7.unpinned,T.keep _ _ _ st5 λb hb o e=>(I7.pin (b,o) (wat _ (wat _ (zbv hb e)))).1,λb hb=>?_,w7⟩;obtain⟨o,e,d⟩:=T.obj _ _ st5 b hb;exact(I7.pin (b,o) (wat _ (wat _ (zbv hb e)))).2.1
  cases f with
 |next=>obtain⟨Y7,H7,I7,n7⟩:=q7;exact again I7 n7
 |cont=>obtain⟨Y7,H7,I7,n7⟩:=q7;exact again I7 n7
 |brk=>obtain⟨Y7,H7,I7,q7⟩:=q7;exact⟨Y7,H7,I7.unpinned,q7⟩
 |ret v=>obtain⟨x7,Y7,H7,I7,r7,q7⟩:=q7;exact⟨x7,Y7,H7,I7.unpinned,r7,q7⟩
end
abbrev R2:=V->V->Hp->VK->Prop
def OpR (X:Cx)(f:Vl->Vl->Sem Vl)(r:R2):Prop:=
 ∀(pins:List (Addr×Obj)) (s:Sd) (Y:St) (H:Hp) (x y:V) (v u:Vl) (Q:VK),Inv X pins Y H s->RelV x v->RelV y u->r x y H Q->
  wA (model X.prog X.w) X.A (f v u) (EP X pins Y Q) X.xe s
def UnR (X:Cx)(f:Vl->Sem Vl)(r:V->Hp->VK->Prop):Prop:=
 ∀(pins:List (Addr×Obj)) (s:Sd) (Y:St) (H:Hp) (x:V) (v:Vl) (Q:VK),Inv X pins Y H s->RelV x v->r x H Q->
  wA (model X.prog X.w) X.A (f v) (EP X pins Y Q) X.xe s
def zci (X:Cx)(f:Vl)(r:List V->Hp->VK->Prop):Prop:=
 ∀(pins:List (Addr×Obj)) (s:Sd) (Y:St) (H:Hp) (xs:List V) (us:List Vl) (Q:VK),Inv X pins Y H s->Vals xs us->r xs H Q->
  wA (model X.prog X.w) X.A (call f us) (EP X pins Y Q) X.xe s
def TruR (X:Cx)(r:V->Hp->(Bool->Hp->Prop)->Prop):Prop:=
 ∀(pins:List (Addr×Obj)) (s:Sd) (Y:St) (H:Hp) (x:V) (v:Vl) (Q:Bool->Hp->Prop),Inv X pins Y H s->RelV x v->r x H Q->
  wA (model X.prog X.w) X.A (truthy v) (TP X pins Y Q) X.xe s
def tOp (r:R2)(ta tb:TE):TE:=λY H Q=>ta Y H λx H1=>tb Y H1 λy H2=>r x y H2 Q
def tUn (r:V->Hp->VK->Prop)(ta:TE):TE:=λY H Q=>ta Y H λx H1=>r x H1 Q
def rI (C:Int->Int->Prop)(g:Int->Int->V):R2:=λx y H Q=>∃i j,x=.int i/\y=.int j/\C i j/\Q (g i j) H
def rI0 (g:Int->Int->V):R2:=λx y H Q=>∃i j,x=.int i/\y=.int j/\Q (g i j) H
def rU (g:Int->V):V->Hp->VK->Prop:=λx H Q=>∃i,x=.int i/\Q (g i) H
section
variable {X:Cx}{a b c:Expr}{ta tb tc:TE}{pos:Pos}
def binT (ha:PE X a ta)(hb:PE X b tb){pins:List (Addr×Obj)}{s:Sd}{Y:St}{H:Hp}{R:V->V->Hp->Prop}(I:Inv X pins Y H s)
 (h:ta Y H λx H1=>tb Y H1 λy H2=>R x y H2) {Q:Vl->Sd->Prop}{f:Vl->Vl->Sem Vl}
 (hf:∀v u s2 x y H2,Inv X pins Y H2 s2->RelV x v->RelV y u->R x y H2->wA (model X.prog X.w) X.A (f v u) Q X.xe s2) :
 wA (model X.prog X.w) X.A (eval a X.env) (λv s₁=>wA (model X.prog X.w) X.A (eval b X.env) (λu s₂=>wA (model X.prog X.w) X.A (f v u) Q X.xe s₂) X.xe s₁) X.xe s:=by
 refine thn (ha pins s Y H _ I h) λv s1 ⟨x,H1,I1,r1,q1⟩=>?_
 refine thn (hb pins s1 Y H1 _ I1 q1) λu s2 ⟨y,H2,I2,r2,q2⟩=>?_
 exact hf v u s2 x y H2 I2 r1 r2 q2
def zm6 {op:Operator}{r:R2}(ho:OpR X (binaryOp op) r)(ha:PE X a ta)(hb:PE X b tb):PE X (.BinOp a op b pos) (tOp r ta tb):=by
 intro pins s Y H Q I h;exact wpAny_BinOp (binT ha hb I h λv u s2 x y H2 I2 rx ry q=>ho pins s2 Y H2 x y v u Q I2 rx ry q)
def zrF {op:UnaryOp}{r:V->Hp->VK->Prop}(ho:UnR X (unaryOp op) r)(ha:PE X a ta):PE X (.UnaryOp op a pos) (tUn r ta):=by
 intro pins s Y H Q I h;exact UnaryOp_ (thn (ha pins s Y H _ I h) λv s1 ⟨x,H1,I1,r1,q1⟩=>ho pins s1 Y H1 x v Q I1 r1 q1)
def opI {f:Vl->Vl->Sem Vl}{C:Int->Int->Prop}{g:Int->Int->Int}
 (rule:∀(i j:Int) (t u:Tok) (s:Sd) (Q:Vl->Sd->Prop) (E:Vl->Sd->Prop),C i j->Q (.int (g i j) s.toks) {s with toks:=s.toks+1}->wA (model X.prog X.w) X.A (f (.int i t) (.int j u)) Q E s) :
 OpR X f (rI C λi j=>.int (g i j)):=by
 intro pins s Y H x y v u Q I rx ry h;obtain⟨i,j,rfl,rfl,hc,q⟩:=h;obtain⟨t,rfl⟩:=rx;obtain⟨t',rfl⟩:=ry;exact rule i j t t' s _ _ hc ⟨.int (g i j),H,I.tok _,⟨_,rfl⟩,q⟩
def opI0 {f:Vl->Vl->Sem Vl}{g:Int->Int->Int}
 (rule:∀(i j:Int) (t u:Tok) (s:Sd) (Q:Vl->Sd->Prop) (E:Vl->Sd->Prop),Q (.int (g i j) s.toks) {s with toks:=s.toks+1}->wA (model X.prog X.w) X.A (f (.int i t) (.int j u)) Q E s) :
 OpR X f (rI0 λi j=>.int (g i j)):=by
 intro pins s Y H x y v u Q I rx ry h;obtain⟨i,j,rfl,rfl,q⟩:=h;obtain⟨t,rfl⟩:=rx;obtain⟨t',rfl⟩:=ry;exact rule i j t t' s _ _ ⟨.int (g i j),H,I.tok _,⟨_,rfl⟩,q⟩
def opB0 {f:Vl->Vl->Sem Vl}{g:Int->Int->Bool}
 (rule:∀(i j:Int) (t u:Tok) (s:Sd) (Q:Vl->Sd->Prop) (E:Vl->Sd->Prop),Q (.bool (g i j)) s->wA (model X.prog X.w) X.A (f (.int i t) (.int j u)) Q E s) :
 OpR X f (rI0 λi j=>.bl (g i j)):=by
 intro pins s Y H x y v u Q I rx ry h;obtain⟨i,j,rfl,rfl,q⟩:=h;obtain⟨t,rfl⟩:=rx;obtain⟨t',rfl⟩:=ry;exact rule i j t t' s _ _ ⟨.bl (g i j),H,I,rfl,q⟩
def CDiv (i j:Int):Prop:=0<j/\j<1073741824
def CPow (i j:Int):Prop:=0<=j/\j<=1000000/\i.natAbs<2 ^ 64
def CMul (i j:Int):Prop:=(-(2 ^ 64)<i/\i<2 ^ 64)\/(-(2 ^ 64)<j/\j<2 ^ 64)
def CMul.ok {i j:Int}(h:CMul i j):IntMulOk i j:=by
 rcases h with⟨h1,h2⟩|⟨h1,h2⟩
 .exact .of_left (intBits_le_64 h1 h2)
 .exact .of_right (intBits_le_64 h1 h2)
def op_add:OpR X (binaryOp .Add) (rI0 λi j=>.int (i+j)):=opI0 λ_ _ _ _ _ _ _ q=>add_int q
def zpj:OpR X (binaryOp .Sub) (rI0 λi j=>.int (i - j)):=opI0 λ_ _ _ _ _ _ _ q=>sub_int q
def op_mul:OpR X (binaryOp .Mult) (rI CMul λi j=>.int (i*j)):=opI λ_ _ _ _ _ _ _ hc q=>mul_int q hc.ok
def ziQ:OpR X (binaryOp .FloorDiv) (rI CDiv λi j=>.int (i / j)):=opI λi j _ _ _ _ _ hc q=>by
 have h1:(0:Int)<j:=hc.1
 have h2:j<1073741824:=hc.2
 exact floordiv_int (by omega) (by rw[Int.fdiv_eq_ediv_of_nonneg i (by omega)];exact q) (.inl (PyProof.noPylong_small (by omega)))
def zcK:OpR X (binaryOp .Mod) (rI (λ_ j=>0<j) λi j=>.int (i % j)):=opI λi j _ _ _ _ _ hc q=>by
 have h1:(0:Int)<j:=hc
 exact mod_int' (by omega) (by rw[Int.fmod_eq_emod_of_nonneg i (by omega)];exact q)
def zpk:OpR X (binaryOp .Pow) (rI CPow λi j=>.int (i ^ j.toNat)):=opI λ_ _ _ _ _ _ _ hc q=>pow_int_small hc.1 hc.2.1 hc.2.2 q
def unI {f:Vl->Sem Vl}{g:Int->Int}
 (rule:∀(i:Int) (t:Tok) (s:Sd) (Q:Vl->Sd->Prop) (E:Vl->Sd->Prop),Q (.int (g i) s.toks) {s with toks:=s.toks+1}->wA (model X.prog X.w) X.A (f (.int i t)) Q E s) :
 UnR X f (rU λi=>.int (g i)):=by
 intro pins s Y H x v Q I rx h;obtain⟨i,rfl,q⟩:=h;obtain⟨t,rfl⟩:=rx;exact rule i t s _ _ ⟨.int (g i),H,I.tok _,⟨_,rfl⟩,q⟩
def zpl:UnR X (unaryOp .USub) (rU λi=>.int (-i)):=unI λ_ _ _ _ _ q=>neg_int q
end
def zeQ {i j:Int}:decide (V.int i=V.int j)=(i == j):=by
 rw[wbO];simp
def zg9 {i j:Bool}:decide (V.bl i=V.bl j)=(i == j):=by
 rw[wbO];simp
def zeR {i j:Str}:decide (V.str i=V.str j)=(i == j):=by
 rw[wbO];simp
section
variable {X:Cx}{a b c:Expr}{ta tb tc:TE}{pos:Pos}
def zmi {pins:List (Addr×Obj)}{Y:St}{H:Hp}{s:Sd}{Q:VK}{k k':Bool}(I:Inv X pins Y H s)(q:Q (.bl k) H)(e:k=k'):EP X pins Y Q (.bool k') s:=by
 subst e;exact⟨.bl k,H,I,rfl,q⟩
def zrG:OpR X (cOp .Lt) (rI0 λi j=>.bl (decide (i<j))):=opB0 λ_ _ _ _ _ _ _ q=>lt_int q
def zpm:OpR X (cOp .LtE) (rI0 λi j=>.bl (decide (i<=j))):=opB0 λ_ _ _ _ _ _ _ q=>le_int q
def zm7:OpR X (cOp .Gt) (rI0 λi j=>.bl (decide (j<i))):=opB0 λ_ _ _ _ _ _ _ q=>gt_int q
def zkM:OpR X (cOp .GtE) (rI0 λi j=>.bl (decide (j<=i))):=opB0 λ_ _ _ _ _ _ _ q=>ge_int q
def ziR:OpR X (cOp .Is) (λx y H Q=>y=.non/\Q (.bl (decide (x=.non))) H):=by
 intro pins s Y H x y v u Q I rx ry h;obtain⟨rfl,q⟩:=h;cases ry;refine is_none_gen (zmi I q ?_);cases x <;> first
 |(cases rx;rfl)
 |(obtain⟨t,rfl⟩:=rx;rfl)
def zm8:OpR X (cOp .IsNot) (λx y H Q=>y=.non/\Q (.bl (!decide (x=.non))) H):=by
 intro pins s Y H x y v u Q I rx ry h;obtain⟨rfl,q⟩:=h;cases ry;refine isnot_none_gen (zmi I q ?_);cases x <;> first
 |(cases rx;rfl)
 |(obtain⟨t,rfl⟩:=rx;rfl)
def OpR.or {f:Vl->Vl->Sem Vl}{r r':R2}(h:OpR X f r)(h':OpR X f r'):OpR X f (λx y H Q=>r x y H Q\/r' x y H Q):=by
 intro pins s Y H x y v u Q I rx ry q;rcases q with q|q
 .exact h pins s Y H x y v u Q I rx ry q
 .exact h' pins s Y H x y v u Q I rx ry q
def zaX (b:Expr){op:CmpOp}(h:op≠.In:=by decide)(h2:op≠.NotIn:=by decide):behindInMarks op b=false:=by
 have e1:(op == CmpOp.In)=false:=by cases op <;> first|rfl|exact absurd rfl h
 have e2:(op == CmpOp.NotIn)=false:=by cases op <;> first|rfl|exact absurd rfl h2
 cases b <;> simp[behindInMarks,e1,e2]
def ziS {op:CmpOp}{r:R2}(ho:OpR X (cOp op) r)(ha:PE X a ta)(hb:PE X b tb)(hm:behindInMarks op b=false):PE X (.Compare a [op] [b] pos) (tOp r ta tb):=by
 intro pins s Y H Q I h;exact wpAny_Compare1 (binT ha hb I h λv u s2 x y H2 I2 rx ry q=>ho pins s2 Y H2 x y v u Q I2 rx ry q) hm
def zm9 (t:TE):TT:=λY H Q=>t Y H λx H'=>∃k,x=.bl k/\Q k H'
def zna {op:CmpOp}{r:R2}(ho:OpR X (cOp op) r)(ha:PE X a ta)(hb:PE X b tb)(hm:behindInMarks op b=false):PT X (.Compare a [op] [b] pos) (zm9 (tOp r ta tb)):=by
 intro pins s Y H Q I h;refine wpAny_isTrue_Compare1 (thn (ha pins s Y H _ I h) λv s1 ⟨x,H1,I1,r1,q1⟩=>thn (hb pins s1 Y H1 _ I1 q1) λu s2 ⟨y,H2,I2,r2,q2⟩=>
  thn (ho pins s2 Y H2 x y v u _ I2 r1 r2 q2) λc s3 ⟨z,H3,I3,r3,k,e,q3⟩=>?_) hm
 subst e;cases r3;exact wbz ⟨H3,I3,q3⟩
def zmj (r r':R2)(ta tb tc:TE):TE:=λY H Q=>ta Y H λx H1=>tb Y H1 λy H2=>r x y H2 λz H3=>∃k,z=.bl k/\
 (if k=true then tc Y H3 λw' H4=>r' y w' H4 Q else Q (.bl false) H3)
def zkN {op op':CmpOp}{r r':R2}(ho:OpR X (cOp op) r)(ho':OpR X (cOp op') r')(ha:PE X a ta)(hb:PE X b tb)(hc:PE X c tc)
 (hm:lastMarks [op,op'] [b,c]=false:=by with_unfolding_all rfl):PT X (.Compare a [op,op'] [b,c] pos) (zm9 (zmj r r' ta tb tc)):=by
 intro pins s Y H Q I h;refine isTrue_chain (thn (ha pins s Y H _ I h) λv s1 ⟨x,H1,I1,r1,q1⟩=>test_link (thn (hb pins s1 Y H1 _ I1 q1) λu s2 ⟨y,H2,I2,r2,q2⟩=>
  thn (ho pins s2 Y H2 x y v u _ I2 r1 r2 q2) λd s3 ⟨z,H3,I3,r3,k,e,q3⟩=>?_)) hm
 subst e;cases r3;refine wbz ?_;cases k with
|false=>
   obtain⟨k',e',q'⟩:=q3;cases e';exact ite_ff ⟨H3,I3,q'⟩
|true=>
   refine ite_tt (test_last (thn (hc pins s3 Y H3 _ I3 q3) λw' s4 ⟨z',H4,I4,r4,q4⟩=>thn (ho' pins s4 Y H4 y z' u w' _ I4 r2 r4 q4) λd' s5 ⟨z2,H5,I5,r5,k2,e2,q5⟩=>?_));subst e2;cases r5;exact wbz ⟨H5,I5,q5⟩
def TruV (K:Fg)(x:V)(H:Hp)(k:Bool):Prop:=
 match x with
|.non=>k=false
|.bl b=>k=b
|.int i=>k=(i != 0)
|.str y=>y.length<=sLn/\k=((y.length:Int) != 0)
|.byt y=>y.size<=sLn/\k=((y.size:Int) != 0)
|.ref p=>(∃xs,SqL K H p xs/\k = !xs.isEmpty)\/(∃xs,SqT K H p xs/\k = !xs.isEmpty)\/∃kvs,H p=some (.dK kvs)/\k = !kvs.isEmpty
|_=>False
def zhW {A:Type}{kvs:List (A×V)}{vs:List (A×Vl)}(r:KV kvs vs):(!vs.isEmpty) = !kvs.isEmpty:=by
 cases r <;> rfl
def zeB {xs:List V}{its:List Vl}(r:Vals xs its):(!its.toArray.isEmpty) = !xs.isEmpty:=by
 cases r <;> simp
def zdR:(sLn:Nat)<2 ^ 63:=by rw[sizeLine_eq];decide
def zpn:TruR X (λx H Q=>∃k,TruV X.K x H k/\Q k H):=by
 intro pins s Y H x v Q I rx h;obtain⟨k,e,q⟩:=h;have hl:=zdR
 have hs:sLn=16777216:=sizeLine_eq
 cases x with
|non=>
   cases rx;have e':k=false:=e
   subst e';exact truthy_none ⟨H,I,q⟩
|bl b=>
   cases rx;have e':k=b:=e
   subst e';exact wbz ⟨H,I,q⟩
|int i=>
   obtain⟨t,rfl⟩:=rx;have e':k=(i != 0):=e
   subst e';exact PySem.P.truthy_int ⟨H,I,q⟩
|str y=>
   obtain⟨t,rfl⟩:=rx;obtain⟨hy,e'⟩:y.length<=sLn/\k=((y.length:Int) != 0):=e;subst e';exact PySem.P.truthy_str (by omega) ⟨H,I.tok _,q⟩
|byt y=>
   obtain⟨t,rfl⟩:=rx;obtain⟨hy,e'⟩:y.size<=sLn/\k=((y.size:Int) != 0):=e;subst e';exact PySem.W.truthy_bytes (by omega) ⟨H,I.tok _,q⟩
|ref p=>
   cases rx;have e':(∃xs,SqL X.K H p xs/\k = !xs.isEmpty)\/(∃xs,SqT X.K H p xs/\k = !xs.isEmpty)\/∃kvs,H p=some (.dK kvs)/\k = !kvs.isEmpty:=e
   rcases e' with⟨xs,hx,e'⟩|⟨xs,hx,e'⟩|⟨kvs,hx,e'⟩
   .subst e';obtain⟨its,r,pl,hz⟩:=I.list hx;have qe:=r.length
    exact wpAny_truthy_list pl.isList (by simp only[wad];omega) ⟨H,I.tok _,by rw[zeB r];exact q⟩
   .subst e';obtain⟨its,r,pl,hz⟩:=I.tuple hx;have qe:=r.length
    exact truthy_tuple pl (by simp only[wad];omega) ⟨H,I.tok _,by rw[zeB r];exact q⟩
   .subst e';obtain⟨hz,hS,vs,r,m⟩:kvs.length<=sLn/\(p == sysModules)=false/\∃vs,KV kvs vs/\s.heap.DictOf (za9 X.prog X.w) p vs:=I.hok p _ hx;have qe:kvs.length=vs.length:=Paired.length r
    exact wpAny_truthy_dict hS m (by omega) ⟨H,I.tok _,by rw[zhW r];exact q⟩
|_=>exact(show False from e).elim
def zkO (ha:PE X a ta)(he:∀whole,isTrue a X.env whole=(do let v <-whole;standAt a.pos;holding [v] (truthy v))) :
 PT X a (λY H Q=>ta Y H λx H'=>∃k,TruV X.K x H' k/\Q k H'):=by
 intro pins s Y H Q I h;exact isTrue_plain (thn (ha pins s Y H _ I h) λv s1 ⟨x,H1,I1,r1,q1⟩=>zpn pins s1 Y H1 x v Q I1 r1 q1) (he _)
def op_add_str:OpR X (binaryOp .Add) (λx y H Q=>∃i j,x=.str i/\y=.str j/\i.length+j.length<=sLn/\Q (.str (i++j)) H):=by
 intro pins s Y H x y v u Q I rx ry h;obtain⟨i,j,rfl,rfl,hz,q⟩:=h;obtain⟨t,rfl⟩:=rx;obtain⟨t',rfl⟩:=ry;exact add_str (λt' tk=>⟨.str (i++j),H,I.tok _,⟨_,rfl⟩,q⟩) hz
def zeS {x:V}{us:List Vl}(r:Vals [x] us):∃u,us = [u]/\RelV x u:=by
 cases r with
|cons r1 r2=>cases r2;exact⟨_,rfl,r1⟩
def zkP {x y:V}{us:List Vl}(r:Vals [x,y] us):∃u w',us = [u,w']/\RelV x u/\RelV y w':=by
 cases r with
|cons r1 r2=>
   cases r2 with
  |cons r3 r4=>cases r4;exact⟨_,_,rfl,r1,r3⟩
def zft (hc:X.calm=true):zci X (.builtin "min") (λxs H Q=>∃i j,xs = [.int i,.int j]/\Q (.int (if j<i then j else i)) H):=by
 intro pins s Y H xs us Q I r h;obtain⟨i,j,rfl,q⟩:=h;obtain⟨u,w',rfl,⟨t,rfl⟩,⟨t',rfl⟩⟩:=zkP r;refine min_two_ints (I.ok.hd hc) λh' tk k=>⟨_,H,I.kept k,?_,q⟩
 by_cases hj:j<i
 .rw[if_pos hj,if_pos hj];exact⟨_,rfl⟩
 .rw[if_neg hj,if_neg hj];exact⟨_,rfl⟩
def ziT:zci X (.type "int") (λxs H Q=>(∃i,xs = [.int i]/\Q (.int i) H)\/∃k,xs = [.bl k]/\Q (.int (if k then 1 else 0)) H):=by
 intro pins s Y H xs us Q I r h;rcases h with⟨i,rfl,q⟩|⟨k,rfl,q⟩
 .obtain⟨u,rfl,t,rfl⟩:=zeS r;exact call_int_int ⟨.int i,H,I,⟨_,rfl⟩,q⟩
 .obtain⟨u,rfl,r1⟩:=zeS r;cases r1;exact call_int_bool ⟨.int (if k then 1 else 0),H,I.tok _,⟨_,rfl⟩,q⟩
def LenV (K:Fg)(x:V)(H:Hp)(n:Nat):Prop:=
 match x with
|.str y=>y.length<=sLn/\n=y.length
|.byt y=>y.size<=sLn/\n=y.size
|.ref p=>(∃xs,SqL K H p xs/\n=xs.length)\/∃xs,SqT K H p xs/\n=xs.length
|_=>False
def zaG:zci X (.builtin "len") (λxs H Q=>∃x n,xs = [x]/\LenV X.K x H n/\Q (.int n) H):=by
 intro pins s Y H xs us Q I r h;obtain⟨x,n,rfl,e,q⟩:=h;obtain⟨u,rfl,rx⟩:=zeS r;have hl:=zdR
 have hs:sLn=16777216:=sizeLine_eq
 cases x with
|str y=>
   obtain⟨t,rfl⟩:=rx;obtain⟨hy,e'⟩:y.length<=sLn/\n=y.length:=e;subst e';exact len_str (by omega) ⟨.int _,H,I.tok _,⟨_,rfl⟩,q⟩
|byt y=>
   obtain⟨t,rfl⟩:=rx;obtain⟨hy,e'⟩:y.size<=sLn/\n=y.size:=e;subst e';exact PySem.W.len_bytes (by omega) ⟨.int _,H,I.tok _,⟨_,rfl⟩,q⟩
|ref p=>
   cases rx;have e':(∃xs,SqL X.K H p xs/\n=xs.length)\/∃xs,SqT X.K H p xs/\n=xs.length:=e
   rcases e' with⟨xs,hx,e'⟩|⟨xs,hx,e'⟩
   .subst e';obtain⟨its,r',pl,hz⟩:=I.list hx;have qe:=r'.length
    exact Calls.call_len_list pl.isList (by simp only[wad];omega) ⟨.int xs.length,H,I.tok _,⟨_,by simp only[wad];rw[qe]⟩,q⟩
   .subst e';obtain⟨its,r',pl,hz⟩:=I.tuple hx;have qe:=r'.length
    exact len_tuple pl (by simp only[wad];omega) ⟨.int xs.length,H,I.tok _,⟨_,by simp only[wad];rw[qe]⟩,q⟩
|_=>exact(show False from e).elim
end
structure ObjM (h:Heap)(x dx C:Addr)(mA:Str->Option Vl):Prop where
 obj:h.get? x=some (PySem.W.instObj C dx)
 ns:h.Ns1 dx mA
 ne:dx≠x
def ziU {h:Heap}{dx:Addr}{mA:Str->Option Vl}(n:h.Ns1 dx mA):∃od,h.get? dx=some od/\∀name,PySem.W.lookIn name od=some (mA name):=by
 obtain⟨o,es,ep,ho,hd,hk,_,hm⟩:=n;refine⟨o,ho,λname=>?_⟩;have e:=hm name
 unfold nsFind findBy at e;rw[<-Array.find?_toList] at e;unfold PySem.W.lookIn;rw[hd];dsimp only;split
 .rename_i y q
  rw[q] at e;exact wbi some e
 .rename_i q
  rw[q] at e;have a:es.toList.any (·.refKey)=false:=by
   rw[List.any_eq_false];intro y hy;obtain⟨z,t,hkey⟩:=hk y (Array.mem_toList_iff.mp hy);simp[DictEntry.refKey,hkey]
  have a':¬es.toList.any (·.refKey)=true:=by rw[a];exact wbF
  rw[if_neg a'];exact wbi some e
def ObjM.look {h:Heap}{x dx C:Addr}{mA:Str->Option Vl}(I:ObjM h x dx C mA):∃od,PySem.W.InstAt h x (PySem.W.instObj C dx) C (some od)/\∀name,PySem.W.lookIn name od=some (mA name):=
 let ⟨od,ho,hl⟩:=ziU I.ns
 ⟨od,⟨I.obj,rfl,rfl,ho⟩,hl⟩
section
variable {prog:Pm}{w:World}{A:Ao}{E:Vl->Sd->Prop}{s:Sd}{K:Fg}{x dx C f:Addr}{mA:Str->Option Vl}{name:Str}{v:Vl}
end
def RelO.some_of {v:V}{o:Option Vl}(r:RelO (some v) o):∃u,o=some u/\RelV v u:=by
 cases o with
|none=>exact(show False from r).elim
|some u=>exact⟨u,rfl,r⟩
section
variable {P:Pm}{w:World}{H H':Hp}{h h':Heap}{a C dx:Addr}{fs fs':List (Str×V)}
def znb (hok:HOk P w H h)(e:H a=some (.ins C dx fs)):∃mA,ObjM h a dx C mA/\(∀f,RelO (fs.lookup f) (mA f))/\PySem.Within mA (fs.map (·.1))/\fs.length<=1000/\H dx=some (.own a):=by
 obtain⟨d,z,ne,ob,mA,n,r,q⟩:=(show ObjOk P w H h a (.ins C dx fs) from hok a _ e)
 exact⟨mA,⟨ob,n,ne⟩,r,q,z,d⟩
end
structure Cls (K:Fg)(C:Addr):Prop where
 pg:PySem.W.plainGet K C Str.empty=true
 hd:PySem.W.hasDictIn K C=true
 po:PySem.W.plainOver K C=true
 sa:PySem.W.findIn K (.ref C) "__setattr__"=some (some (.builtin "object.__setattr__"))
def Cls.get {K:Fg}{C:Addr}(c:Cls K C)(f:Str):PySem.W.plainGet K C f=true:=c.pg
section
variable {X:Cx}{pins:List (Addr×Obj)}{Y:St}{H:Hp}{s:Sd}{a C dx:Addr}{fs:List (Str×V)}{f:Str}{v:V}{A:Ao}{E:Vl->Sd->Prop}
def znc {prog:Pm}{w:World}{env:Env}{e:Expr}{f:Str}{pos:Pos}{s:Sd}{Q:Vl->Sd->Prop}(hb:attributeBase e f env (eval e env)=eval e env)
 (h:wA (model prog w) A (eval e env) (λo s₁=>wA (model prog w) A (getAttr o f true) Q E s₁) E s):wA (model prog w) A (eval (.Attribute e f pos) env) Q E s:=
 Attribute_any_ h (by rw[arm_eval_Attribute,hb])
end
section
variable {X:Cx}{o e value:Expr}{f:Str}{pos pos' wj:Pos}{ta tv:TE}
end
section
variable {X:Cx}{pins:List (Addr×Obj)}{Y:St}{H:Hp}{s:Sd}{A:Ao}{E:Vl->Sd->Prop}{Q:Vl->Sd->Prop}{c:Vl}{b:Bool}
inductive TyOf (K:Fg)(H:Hp):V->Vl->Prop where
|non:TyOf K H .non (.type "NoneType")
|bl (x:Bool):TyOf K H (.bl x) (.type "bool")
|int (i:Int):TyOf K H (.int i) (.type "int")
|str (x:Str):TyOf K H (.str x) (.type "str")
|flt (x:UInt64):TyOf K H (.flt x) (.type "float")
|lst {a:Addr}{xs:List V}(e:H a=some (.lst xs)):TyOf K H (.ref a) (.type "list")
|frz {a:Addr}{o:Obj}{xs:List V}(e:H a=some (.frz o (.lst xs))):TyOf K H (.ref a) (.type "list")
|tup {a:Addr}{xs:List V}(e:H a=some (.tup xs)):TyOf K H (.ref a) (.type "tuple")
|dK {a:Addr}{kvs:List (Key×V)}(e:H a=some (.dK kvs)):TyOf K H (.ref a) (.type "dict")
|dT {a:Addr}{kvs:List (List Key×V)}(e:H a=some (.dT kvs)):TyOf K H (.ref a) (.type "dict")
|ins {a C dx:Addr}{fs:List (Str×V)}(e:H a=some (.ins C dx fs)) (cl:Cls K C) (ha:PySem.W.findIn K (.ref C) "__class__"=some (some (.builtin "object.__class__")))
  (hn:PySem.W.specialIn K (.builtin "object.__class__") "__get__"=some (some (.builtin "getset_descriptor.__get__"))) (htk:PySem.W.takesIn K (.builtin "object.__class__")=some true)
  (hm:PySem.W.mroIn K C (.type "object")=some true):TyOf K H (.ref a) (.ref C)
def ziV {x:V}{u t:Vl}(I:Inv X pins Y H s)(rx:RelV x u)(ty:TyOf X.K H x t)(e:PySem.W.kitOne X.K t c=some b)(h:∀tk,Q (.bool b) {s with toks:=tk}) :
 wA (model X.prog X.w) A (call (.builtin "isinstance") [u,c]) Q E s:=by
 cases ty with
|non=>cases(show u=Value.none from rx);exact waU PySem.W.kitx_none I.kIn True.intro e (λz=>nomatch z) h
|bl y=>cases(show u=Value.bool y from rx);exact waU PySem.W.kitx_bool I.kIn True.intro e (λz=>nomatch z) h
|int i=>obtain⟨t,q⟩:=(show ∃t,u=Value.int i t from rx);cases q;exact waU PySem.W.kitx_int I.kIn True.intro e (λz=>nomatch z) h
|str y=>obtain⟨t,q⟩:=(show ∃t,u=Value.str y t from rx);cases q;exact waU PySem.W.kitx_str I.kIn True.intro e (λz=>nomatch z) h
|flt y=>obtain⟨t,q⟩:=(show ∃t,u=Value.float y t from rx);cases q;exact waU PySem.W.kitx_float I.kIn True.intro e (λz=>nomatch z) h
|@lst a xs ea=>
   cases(show u=Value.ref a from rx);obtain⟨_,_,n,_,h1⟩:=(show ObjOk X.prog X.w H s.heap a (.lst xs) from I.hok a _ ea)
   exact waU PySem.W.kitx_list I.kIn ⟨_,h1,rfl⟩ e (λz=>nomatch z) h
|@frz a ob xs ea=>
   cases(show u=Value.ref a from rx);obtain⟨_,_,_,n,_,h1⟩:=(show ObjOk X.prog X.w H s.heap a (.frz ob (.lst xs)) from I.hok a _ ea)
   exact waU PySem.W.kitx_list I.kIn ⟨_,h1,rfl⟩ e (λz=>nomatch z) h
|@tup a xs ea=>
   cases(show u=Value.ref a from rx);obtain⟨_,_,_,p⟩:=(show ObjOk X.prog X.w H s.heap a (.tup xs) from I.hok a _ ea)
   obtain⟨o,h1,h2,_⟩:=p;exact waU PySem.W.kitx_tuple I.kIn ⟨o,h1,h2⟩ e (λz=>nomatch z) h
|@dK a kvs ea=>
   cases(show u=Value.ref a from rx);obtain⟨_,_,vs,_,p⟩:=(show ObjOk X.prog X.w H s.heap a (.dK kvs) from I.hok a _ ea)
   obtain⟨o,es,ep,h1,h2,_⟩:=p;exact waU PySem.W.kitx_dict I.kIn ⟨o,h1,h2.1⟩ e (λz=>nomatch z) h
|@dT a kvs ea=>
   cases(show u=Value.ref a from rx);obtain⟨_,_,xs,_,o,es,ep,h1,h2,_⟩:=(show ObjOk X.prog X.w H s.heap a (.dT kvs) from I.hok a _ ea)
   exact waU PySem.W.kitx_dict I.kIn ⟨o,h1,h2.1⟩ e (λz=>nomatch z) h
|@ins a C dx fs ea cl ha hn htk hm=>
   cases(show u=Value.ref a from rx);obtain⟨mA,O,_⟩:=znb I.hok ea;obtain⟨od,J,_⟩:=O.look;exact waU (PySem.W.kitx_own (cl.get _) cl.hd ha hn htk hm) I.kIn J e (λz=>nomatch z) h
end
structure Room (k:Nat)(A:Ao):Prop where
 hd:A.handled=none
 dp:A.depth+3*k+5<recursionLimit
 un:A.units+16*k+200<cLine
 gd:A.guards=some []
def Room.mono {j k:Nat}{A:Ao}(r:Room k A)(h:j<=k):Room j A:=⟨r.hd,by have:=r.dp;omega,by have:=r.un;omega,r.gd⟩
theorem Room.deeper {k:Nat}{A:Ao}(r:Room (k+1) A)(env:Env):Room k (A.deeper env):=
 ⟨r.hd,by have:=r.dp;show A.depth+1+3*k+5<_;omega,by have:=r.un;show A.units+3+16*k+200<_;omega,r.gd⟩
def make_units {A:Ao}{C:Addr}{us:List Vl}{kw:List (Str×Vl)}:(A.under (.builtin "type.__call__" ⟨.ref C::us,kw⟩)).units=A.units+1:=by
 first|rfl|simp[Around.under,Code.cUnits,Code.frames,Code.isFrame]
theorem Room.depth {k:Nat}{A:Ao}(r:Room k A):A.depth<recursionLimit:=by have:=r.dp;omega
theorem Room.units {k:Nat}{A:Ao}(r:Room k A):A.units+64<cLine:=by have:=r.un;omega
def tNil:TA:=λ_ H Q=>Q [] H
def zkQ (ta:TE)(tr:TA):TA:=λY H Q=>ta Y H λx H1=>tr Y H1 λxs H2=>Q (x::xs) H2
section
variable {X:Cx}{e:Expr}{es:List Expr}{te:TE}{t:TA}{pos:Pos}
def zcL:PA X [] tNil:=λ_ _ _ _ H Q I h=>Calls.spliced_nil ⟨[],H,I,.nil,h⟩
def za2 (ha:PE X e te)(hr:PA X es t)(hs:sE (e::es) X.env=(false,eval e X.env)::sE es X.env:=by rfl):PA X (e::es) (zkQ te t):=by
 intro pos pins s Y H Q I h;rw[hs];show wA _ _ (spliced ((false,eval e X.env)::backTo pos (sE es X.env))) _ _ s
 refine wbG (thn (ha pins s Y H _ I h) λu s1 ⟨x,H1,I1,r1,q1⟩=>?_);exact thn (hr pos pins s1 Y H1 _ I1 q1) λus s2 ⟨xs,H2,I2,r2,q2⟩=>⟨x::xs,H2,I2,.cons r1 r2,q2⟩
def tTup (t:TA):TE:=λY H Q=>t Y H λxs H1=>xs.length<=sLn/\∀p,H1 p=none->Q (.ref p) (upd H1 p (.tup xs))
def tLst (t:TA):TE:=λY H Q=>t Y H λxs H1=>xs.length<=sLn/\∀p,H1 p=none->Q (.ref p) (upd H1 p (.lst xs))
def zmk {x1}(h:PA X es t):PE X (.Tuple es x1 pos) (tTup t):=by
 intro pins s Y H Q I hq;refine wpAny_Tuple_spliced (thn (h pos pins s Y H _ I hq) λus s1 ⟨xs,H1,I1,r,z,q⟩=>⟨by rw[<-r.length];exact z,?_⟩);have hf:H1 s1.heap.objs.size=none:=I1.hok.fresh (wan _)
 refine⟨.ref s1.heap.objs.size,upd H1 s1.heap.objs.size (.tup xs),I1.laid (t':=s1.toks) (λb u e=>wae _ e) (wan _) ?_,rfl,q _ hf⟩;exact⟨z,us,r,⟨_,waw _ rfl,rfl,_,rfl⟩⟩
def zml (h:PA X es t):PE X (.List es pos) (tLst t):=by
 intro pins s Y H Q I hq;refine wpAny_List_spliced (thn (h pos pins s Y H _ I hq) λus s1 ⟨xs,H1,I1,r,z,q⟩=>⟨by rw[<-r.length];exact z,?_⟩);have hf:H1 s1.heap.objs.size=none:=I1.hok.fresh (wan _)
 refine⟨.ref s1.heap.objs.size,upd H1 s1.heap.objs.size (.lst xs),I1.laid (t':=s1.toks) (λb u e=>wae _ e) (wan _) ?_,rfl,q _ hf⟩;exact⟨z,us,0,r,waw _ rfl⟩
end
abbrev Sp:=List V->Hp->VK->XK->Prop
abbrev CXT:=List Env->Hp->Sd->XK->Vl->Sd->Prop
structure Env0 (P:Pm)(w:World)(K:Fg)(mg:Str->Option Vl)(base:Heap)(A:Ao)(outer:List Env)(s:Sd)(H:Hp):Prop where
 frames:A.frames=some outer
 mod:Mod K mg base
 bs:∀b o,base.get? b=some o->s.heap.get? b=some o/\H b=none
 bsz:base.objs.size<=s.heap.objs.size
 funs:s.heap.FunFrames base outer
 frf:∀b∈frs outer,H b=none
 hok:HOk P w H s.heap
 bare:AllBare s.gens
def CE (outer:List Env)(P:Pm)(w:World)(H:Hp)(s:Sd)(Q:VK)(u:Vl)(s':Sd):Prop:=
 ∃v H',s'.os=s.os/\AllBare s'.gens/\Un (frs outer) [] H H' s.heap s'.heap/\HOk P w H' s'.heap/\RelV v u/\Q v H'
def CR (CX:CXT)(outer:List Env)(P:Pm)(w:World)(H:Hp)(s:Sd)(Q:VK)(E:XK)(r:Result)(s':Sd):Prop:=
 match r with
|.ok (.ret u)=>CE outer P w H s Q u s'
|.ok _=>False
|.error e=>CX outer H s E e s'
structure FnOk (P:Pm)(w:World)(K:Fg)(mg:Str->Option Vl)(base:Heap)(CX:CXT)(k:Nat)(f:Addr)(fd:Fu)(ps:List Str)(sp:Sp):Prop where
 len:∀vs H Q E,sp vs H Q E->vs.length=ps.length
 run:∀(A:Ao) (outer:List Env) (s:Sd) (H:Hp) (args:Args) (us:List Vl) (vs:List V) (Q:VK) (E:XK),Room k A->Env0 P w K mg base A outer s H->BindsTo s fd args (ps.zip us)->Vals vs us->sp vs H Q E->
  codeAny (model P w) A (.call (.ref f) args) (CR CX outer P w H s Q E) s
theorem FnOk.mono {P:Pm}{w:World}{K:Fg}{mg:Str->Option Vl}{base:Heap}{CX:CXT}{j k:Nat}{f:Addr}{fd:Fu}{ps:List Str}{sp:Sp}(F:FnOk P w K mg base CX j f fd ps sp)(h:j<=k) :
 FnOk P w K mg base CX k f fd ps sp:=⟨F.len,λA outer s H args us vs Q E hr=>F.run A outer s H args us vs Q E (hr.mono h)⟩
section
variable {X:Cx}{pins:List (Addr×Obj)}{Y:St}{H:Hp}{s s':Sd}
def Inv.env0 (I:Inv X pins Y H s):Env0 X.prog X.w X.K X.mg X.base X.A X.stack s H:=
 ⟨I.ok.frames,I.ok.mod,I.bs,wao I.ok.bsz I.sz,I.stack,I.stkFree,I.hok,I.bare⟩
def Inv.after {Q:VK}{u:Vl}(I:Inv X pins Y H s)(h:CE X.stack X.prog X.w H s Q u s'):EP X pins Y Q u s':=by
 obtain⟨v,H',os,bare,un,hok,r,q⟩:=h;obtain⟨hh,g,d,t,os'⟩:=s';obtain rfl:os'=s.os:=os;exact⟨v,H',I.call (h':=hh) (g':=g) (d':=d) (t':=t) (ch:=[]) un hok bare (λb z=>absurd z (by simp)),r,q⟩
end
def zhX (sp:Sp)(dvs:List V)(E:XK)(t:TA):TE:=λY H Q=>t Y H λvs H1=>sp (vs++dvs) H1 Q E
def Binds (K:Fg)(fd:Fu)(ps:List Str)(ds:List Vl):Prop:=
 ∀(s:Sd) (us:List Vl),K.In s.heap->(us++ds).length=ps.length->BindsTo s fd ⟨us,[]⟩ (ps.zip (us++ds))
def Binds.all {K:Fg}{fd:Fu}{ps:List Str}(h:∀us:List Vl,us.length=ps.length->bindArgs fd ⟨us,[]⟩=pure (ps.zip us)):Binds K fd ps []:=λs us _ hl=>by
 rw[waJ] at hl⊢;exact .of_eq (h us hl)
def zha (CX:CXT)(X:Cx)(E:XK):Prop:=∀(pins:List (Addr×Obj)) (Y:St) (H:Hp) (s:Sd) (e:Vl) (s':Sd),Inv X pins Y H s->CX X.stack H s E e s'->X.xe e s'
section
variable {X:Cx}{CX:CXT}{k:Nat}{f C:Addr}{fd:Fu}{ps:List Str}{sp:Sp}{dvs:List V}{ds:List Vl}{E:XK}{x m:Str}{p pos qL:Pos}{e o:Expr}{es:List Expr}{ta:TE}{t:TA}
def zmm {pins:List (Addr×Obj)}{Y:St}{H:Hp}{s:Sd}{Q:VK}{us:List Vl}{vs:List V}(F:FnOk X.prog X.w X.K X.mg X.base CX k f fd ps sp)(hr:Room k X.A)(hb:Binds X.K fd ps ds)(hd:Vals dvs ds)(hx:zha CX X E)
 (I:Inv X pins Y H s) (r:Vals vs us) (h:sp (vs++dvs) H Q E):wA (model X.prog X.w) X.A (call (.ref f) us) (EP X pins Y Q) X.xe s:=by
 have r2:Vals (vs++dvs) (us++ds):=r.append hd
 have hl:(us++ds).length=ps.length:=by rw[<-r2.length];exact F.len _ _ _ _ h
 refine wcH (wcA (F.run X.A X.stack s H ⟨us,[]⟩ (us++ds) (vs++dvs) Q E hr I.env0 (hb s us I.kIn hl) r2 h) λr s' hq=>?_);cases r with
|error e=>exact hx pins Y H s e s' I hq
|ok fl=>
   cases fl with
  |ret u=>exact I.after hq
  |next=>exact False.elim hq
  |brk=>exact False.elim hq
  |cont=>exact False.elim hq
def znd (F:FnOk X.prog X.w X.K X.mg X.base CX k f fd ps sp)(hr:Room k X.A)(hg:Gl X x)(hm:X.mg x=some (.ref f))(hk:W.keepIn X.K (.ref f)=true)(hb:Binds X.K fd ps ds)(hd:Vals dvs ds)(hx:zha CX X E)
 (ha:PA X (e::es) t) (hdb:(x == ("__debug__":Str))=false:=by decide) (he:sE (e::es) X.env=(false,eval e X.env)::sE es X.env:=by rfl) (hpl:(backTo pos (sE es X.env)).any (·.1)=false:=by rfl) :
 PE X (.Call (.Name x p) (e::es) [] pos) (zhX sp dvs E t):=by
 intro pins s Y H Q I h;refine waQ (zcO I hg hm ?_ hdb);refine wcp (h₀:=X.base) I.ok.mod.kin hk (thn (ha pos pins s Y H _ I h) λus s1 ⟨vs,H1,I1,r,q⟩=>⟨I1.kIn,?_⟩) he hpl;exact zmm F hr hb hd hx I1 r q
end
section
variable {X:Cx}{CX:CXT}{k:Nat}{f C:Addr}{fd:Fu}{ps ks:List Str}{sp:Sp}{E:XK}{x m:Str}{p pos qL kpos:Pos}{e o:Expr}{es:List Expr}{kws:List Keyword}{te ta:TE}{t tk:TA}{nm:Option Str}
variable {g:List Vl->List Vl->List Vl}{gV:List V->List V->List V}
end
structure FnScope (N P:List Str)(sc:Scope):Prop where
 kind:sc.kind=.function
 co:sc.isCoroutine=false
 gen:sc.isGenerator=false
 nd:N.Nodup
 pre:N.take P.length=P
 par:∀x∈P,sc.names.lookup x=some .local\/sc.names.lookup x=some .cell
 nofree:∀y∈sc.names,y.2≠.free
theorem zfu {kindOf:Str->Option NameKind}{x:Str}:∀{binds:List (Str×Vl)}{m:Str->Option Vl},(∀v,(x,v)∉binds)->bindL kindOf binds m x=m x
|[],_,_=>rfl
|(n,v)::r,m,h=>by
   unfold bindL;rw[zfu λw hw=>h w (wam _ hw)];split
   .have:x≠n:=by rintro rfl;exact h v war
    simp[this]
   .rfl
theorem zfv {kindOf:Str->Option NameKind}{x:Str}:∀{binds:List (Str×Vl)}{m:Str->Option Vl},(∀v,(x,v)∉binds)->bindC kindOf binds m x=m x
|[],_,_=>rfl
|(n,v)::r,m,h=>by
   unfold bindC;rw[zfv λw hw=>h w (wam _ hw)];split
   .rfl
   .have:x≠n:=by rintro rfl;exact h v war
    simp[this]
theorem zfw {kindOf:Str->Option NameKind}{x:Str}{v:Vl}:∀{P:List Str}{vs:List Vl}{i:Nat}{m:Str->Option Vl},P.Nodup->P[i]?=some x->vs[i]?=some v->kindOf x=some .local->
 bindL kindOf (P.zip vs) m x=some v
|[],_,_,_,_,h,_,_=>by simp at h
|_::_,[],_,_,_,_,h,_=>by simp at h
|p::P,w::vs,0,m,nd,h1,h2,hk=>by
   simp at h1 h2;subst h1;subst h2;show bindL kindOf ((p,w)::P.zip vs) m p=_
   unfold bindL;rw[zfu λv hv=>(waP.mp nd).1 (wcJ hv).1,if_pos hk];simp
|p::P,w::vs,i+1,m,nd,h1,h2,hk=>by
   show bindL kindOf ((p,w)::P.zip vs) m x=_
   unfold bindL;exact zfw (i:=i) (waP.mp nd).2 (by simpa using h1) (by simpa using h2) hk
theorem zfx {kindOf:Str->Option NameKind}{x:Str}{v:Vl}:∀{P:List Str}{vs:List Vl}{i:Nat}{m:Str->Option Vl},P.Nodup->P[i]?=some x->vs[i]?=some v->kindOf x≠some .local->
 bindC kindOf (P.zip vs) m x=some v
|[],_,_,_,_,h,_,_=>by simp at h
|_::_,[],_,_,_,_,h,_=>by simp at h
|p::P,w::vs,0,m,nd,h1,h2,hk=>by
   simp at h1 h2;subst h1;subst h2;show bindC kindOf ((p,w)::P.zip vs) m p=_
   unfold bindC;rw[zfv λv hv=>(waP.mp nd).1 (wcJ hv).1,if_neg hk];simp
|p::P,w::vs,i+1,m,nd,h1,h2,hk=>by
   show bindC kindOf ((p,w)::P.zip vs) m x=_
   unfold bindC;exact zfx (i:=i) (waP.mp nd).2 (by simpa using h1) (by simpa using h2) hk
def start (N:List Str)(vs:List V):St:=vs.map some++rpl (N.length - vs.length) none
def cxOf (CX:CXT)(P:Pm)(w:World)(K:Fg)(mg:Str->Option Vl)(base:Heap)(N:List Str)(qual:Str)(scope:Scope)(f:Addr)(cd:Vl)(A:Ao)(outer:List Env)(s:Sd)(H:Hp)(E:XK):Cx where
 prog:=P
 w:=w
 K:=K
 mg:=mg
 base:=base
 A:=A.deeper (envOfC qual scope s.heap.objs.size f cd)
 N:=N
 s₀:=s
 Hz:=H
 env:=envOfC qual scope s.heap.objs.size f cd
 outer:=outer
 stack:=envOfC qual scope s.heap.objs.size f cd::outer
 ex:=[]
 calm:=true
 fn:=λ_=>true
 pn:=[]
 xe:=λe s'=>wA (model P w) (A.deeper (envOfC qual scope s.heap.objs.size f cd)) (leaving (envOfC qual scope s.heap.objs.size f cd) e) (λ_ s''=>CX outer H s E e s'') (λe' s''=>CX outer H s E e' s'') s'
def za3 {sc:Scope}{n:Nat}{x:Str}(h:sc.names.lookup x=some .cell):∃c,(cellsFrom n sc.names []).lookup x=some c:=by
 have q:=PySem.W.cellsFrom_some sc.names n [] (.inl h)
 exact Option.isSome_iff_exists.mp q
def ziW {CX:CXT}{P:Pm}{w:World}{K:Fg}{mg:Str->Option Vl}{base:Heap}{N ps:List Str}{qual:Str}{scope:Scope}{f:Addr}{cd:Vl}{A:Ao}{outer:List Env}{s s1:Sd}{H:Hp}{E:XK}{us:List Vl}{vs:List V}
 (S:FnScope N ps scope) (hd:A.handled=none) (e0:Env0 P w K mg base A outer s H) (hl:vs.length=ps.length) (r:Vals vs us)
 (x:InCallC s s.heap.objs.size (bindL (envOfC qual scope s.heap.objs.size f cd).kindOf (ps.zip us) λ_=>none) (cellsFrom (s.heap.objs.size+1) scope.names []) (bindC (envOfC qual scope s.heap.objs.size f cd).kindOf (ps.zip us) λ_=>none) s1) :
 Inv (cxOf CX P w K mg base N qual scope f cd A outer s H E) [] (start N vs) H s1:=by
 have hpl:ps.length<=N.length:=by have:=wbi List.length S.pre;rw[waC] at this;omega
 obtain⟨h1,tk,rfl,hk⟩:=x.done;have noA:∀b:Addr,b∉(cxOf CX P w K mg base N qual scope f cd A outer s H E).ex:=λb z=>absurd (show b∈([]:List Addr) from z) (by simp)
 refine⟨⟨e0.mod,S.kind,rfl,rfl,wan _,λy z c h1 h2=>?_,λy hy=>?_,λy c _ h=>?_,λ_=>hd,Around.frames_deeper e0.frames,.inr ⟨rfl,rfl⟩,λb z=>absurd z (noA b),e0.bs,e0.bsz,λb _ _=>noA b,λb z=>absurd z (noA b),e0.funs,e0.frf⟩,
  rfl,e0.bare,Un.kept hk,⟨_,x.toInCall.ns,λi y v h1 h2 h3=>?_⟩,λy c h=>⟨_,x.cell y c h⟩,e0.hok.fresh (wan _),λy c h=>?_,λp hp=>absurd (show p∈([]:List (Addr×Obj)) from hp) (by simp),e0.hok.kept hk,?_⟩
 .exact name_of_addr x.apart (wbU h1) (wbU h2)
 .have hy:scope.names.lookup y=some .cell\/scope.names.lookup y=some .free:=hy
  rcases hy with hy|hy
  .exact za3 hy
  .exact absurd rfl (S.nofree _ (wbU hy))
 .exact wbl (x.above y c (wbU h))
 .have hi:i<vs.length:=by
   unfold start at h2;by_cases hi:i<vs.length
   .exact hi
   .rw[waI (by simpa using hi)] at h2;rw[List.getElem?_replicate] at h2;split at h2 <;> cases h2
  have ha:vs[i]?=some v:=by
   unfold start at h2;rw[waK (by simpa using hi),wah] at h2;cases e:vs[i]? with
  |none=>rw[e] at h2;cases h2
  |some a=>rw[e] at h2;cases h2;rfl
  obtain⟨u,hu,rv⟩:=r.get ha;have hp:ps[i]?=some y:=by
   rw[<-S.pre,List.getElem?_take_of_lt (by omega)];exact h1
  have ndP:ps.Nodup:=by rw[<-S.pre];exact S.nd.sublist (List.take_sublist _ _)
  refine⟨u,rv,?_⟩;rcases S.par y (way hp) with k|k
  .exact .inl ⟨k,zfw ndP hp hu k⟩
  .obtain⟨c,e⟩:=za3 (n:=s.heap.objs.size+1) k;refine .inr ⟨.inl k,c,e,?_⟩;have q:=x.cell y c e
   rw[zfx ndP hp hu (by show scope.names.lookup y≠_;rw[k];decide)] at q;exact q
 .exact e0.hok.fresh (wbl (x.above y c (wbU h)))
 .unfold start;show _=N.length
  rw[waj,waf,wbZ];omega
def zkR {CX:CXT}{P:Pm}{w:World}{K:Fg}{mg:Str->Option Vl}{base:Heap}{k:Nat}{f:Addr}{name qual:Str}{params:Arguments}{body:List Stmt}{scope:Scope}{dV kV doc pm cdv ct oc:Vl}{an od:Option Addr}
 {osl:Array (Option Vl)}{N ps:List Str}{sp:Sp}(lk:K.lookup f=some ⟨oc,od,.func (W.fnOf name qual params body scope dV kV doc pm an cdv ct),osl⟩) (hcd:W.codeIn K cdv qual=true) (S:FnScope N ps scope)
 (len:∀vs H Q E,sp vs H Q E->vs.length=ps.length)
 (qK:∀(A:Ao) (outer:List Env) (s:Sd) (H:Hp) (vs:List V) (Q:VK) (E:XK),Room k (A.deeper (envOfC qual scope s.heap.objs.size f cdv))->sp vs H Q E->
  ∃t,PSs (cxOf CX P w K mg base N qual scope f cdv A outer s H E) body t/\t {nx:=λ_ H'=>Q .non H',rt:=Q} (start N vs) H) :
 FnOk P w K mg base CX (k+1) f (W.fnOf name qual params body scope dV kV doc pm an cdv ct) ps sp:=by
 refine⟨len,λA outer s H args us vs Q E hr e0 hb r hsp=>?_⟩;have hl:=len _ _ _ _ hsp
 have KX:K.In s.heap:=e0.mod.kin.keeps λb o e=>(e0.bs b o e).1
 have lim:s.heap.NoLimit:=e0.mod.nolimit.keeps λb o e=>(e0.bs b o e).1
 have qh:∀y∈ps.zip us,scope.names.lookup y.1=some .local\/(scope.names.lookup y.1=some .cell/\((cellsFrom (s.heap.objs.size+1) scope.names []).lookup y.1).isSome=true):=λ⟨n,v⟩ hy=>by
  rcases S.par n (wcJ hy).1 with q|q
  .exact .inl q
  .exact .inr ⟨q,PySem.W.cellsFrom_some _ _ _ (.inl q)⟩
 refine codeAny_call_function hr.depth (KX _ _ lk) rfl S.co S.gen rfl (PySem.W.codeRec_of KX hcd) (hb _ _ _ _ ?_);refine wpAny_newFunctionEnv_cells S.kind qh λenv he s1 x=>?_
 subst he;refine⟨lim.keeps x.toInCall.keep,codeAny_func ?_⟩;obtain⟨t,ht,hq⟩:=qK A outer s H vs Q E (hr.deeper _) hsp;have I:Inv (cxOf CX P w K mg base N qual scope f cdv A outer s H E) [] (start N vs) H s1:=ziW S hr.hd e0 hl r x
 refine wav (ht [] s1 (start N vs) H _ I hq) (λfl s' hs=>?_) λe s' hs=>hs
 have fin:∀{Y':St}{H':Hp}{v:V}{u:Vl},Inv (cxOf CX P w K mg base N qual scope f cdv A outer s H E) [] Y' H' s'->RelV v u->Q v H'->CE outer P w H s Q u s':=
  λ{Y' H' v u} J rv q=>⟨v,H',J.os,J.bare,J.base,J.hok,rv,q⟩
 cases fl with
|ret u=>
   obtain⟨v,Y',H',J,rv,q⟩:=hs;exact fin J rv q
|next=>
   obtain⟨Y',H',J,q⟩:=hs;exact fin (v:=V.non) (u:=Value.none) J rfl q
|brk=>
   obtain⟨_,_,_,q⟩:=hs;exact False.elim q
|cont=>
   obtain⟨_,_,_,q⟩:=hs;exact False.elim q
section
variable {X:Cx}{x:Str}{p pos:Pos}{e:Expr}{es:List Expr}{t:TA}{id T:String}{r:List V->Hp->VK->Prop}
def tCB (r:List V->Hp->VK->Prop)(t:TA):TE:=λY H Q=>t Y H λvs H1=>r vs H1 Q
def zkS (hc:zci X (.builtin id) r)(hg:Gl X x)(hm:X.mg x=none)(hv:bBs x=some (.builtin id))(ha:PA X (e::es) t)(hn:x≠"__name__":=by decide)(hdb:(x == ("__debug__":Str))=false:=by decide)
 (he:sE (e::es) X.env=(false,eval e X.env)::sE es X.env:=by rfl) (hpl:(backTo pos (sE es X.env)).any (·.1)=false:=by rfl):PE X (.Call (.Name x p) (e::es) [] pos) (tCB r t):=by
 intro pins s Y H Q I h;refine waQ (zcZ I hg hm hv ?_ hn hdb);exact PyProof.Rows.callWith_builtin1 (thn (ha pos pins s Y H _ I h) λus s1 ⟨vs,H1,I1,r1,q1⟩=>hc pins s1 Y H1 vs us Q I1 r1 q1) he hpl
def ziX (hc:zci X (.type T) r)(hg:Gl X x)(hm:X.mg x=none)(hv:bBs x=some (.type T))(ha:PA X (e::es) t)(hn:x≠"__name__":=by decide)(hdb:(x == ("__debug__":Str))=false:=by decide)
 (he:sE (e::es) X.env=(false,eval e X.env)::sE es X.env:=by rfl) (hpl:(backTo pos (sE es X.env)).any (·.1)=false:=by rfl):PE X (.Call (.Name x p) (e::es) [] pos) (tCB r t):=by
 intro pins s Y H Q I h;refine waQ (zcZ I hg hm hv ?_ hn hdb);exact waZ (thn (ha pos pins s Y H _ I h) λus s1 ⟨vs,H1,I1,r1,q1⟩=>hc pins s1 Y H1 vs us Q I1 r1 q1) he hpl
end
end L2
namespace HT
def zeT (A:Ao)(s:Sd)(a:Int)(t:Tok)(c:Int)(u:Tok):∃e,SeqAt.EqAt A s (.int a t) (.int c u) e/\(e=true↔a=c):=
 ⟨(a == c),SeqAt.EqAt.int_int a t c u,by simp⟩
section
open PySem.SeqAt
open PySem.AutoSeq1 (wpAny_loadPart')
open PySem.MeetsSeq PySem.MeetsSeq2 PySem.MeetsSeq3
end
section
variable {prog:Pm}{w:World}{A:Ao}{E:Vl->Sd->Prop}{s:Sd}
def cat_tup {t b:Addr}{vs ws:List Vl}{Q:Vl->Sd->Prop}(ht:IsTup s.heap t vs.toArray)(hb:IsTup s.heap b ws.toArray)(hv:vs≠[])
 (h1:ws = []->Q (.ref t) s) (h2:ws≠[]->Q (.ref s.heap.objs.size) {s with heap:=s.heap.push {cls:=.type "tuple",data:=.seq (vs++ws).toArray}})
 (hsz:vs.length+ws.length<=sLn):wA (model prog w) A (binaryOp .Add (.ref t) (.ref b)) Q E s:=by
 obtain⟨⟨cls,dd,data,sl⟩,ho,hc,n,hd⟩:=id ht;obtain⟨⟨cls2,dd2,data2,sl2⟩,ho2,hc2,n2,hd2⟩:=id hb;simp only at hc hd hc2 hd2;subst hc hd hc2 hd2;have e:vs.toArray++ws.toArray=(vs++ws).toArray:=by simp
 by_cases hw:ws = []
 .exact concat_meets ⟨_,ho,rfl⟩ ⟨_,ho2,rfl⟩ noFill_tuple_add seq_tuple_add wcu wcq (wcl _ _)
   (tuple_addW1 t b vs.toArray ws.toArray n n2 dd dd2 sl sl2 (by simpa using hv) (by simp[hw])) ⟨ho,ho2,h1 hw⟩
 .refine concat_meets ⟨_,ho,rfl⟩ ⟨_,ho2,rfl⟩ noFill_tuple_add seq_tuple_add wcu wcq (wcl _ _)
   (tuple_addW2 t b vs.toArray ws.toArray n n2 dd dd2 sl sl2 (by simpa using hv) (by simpa using hw) (by rw[wad,wad];exact hsz)) ⟨ho,ho2,?_⟩
  rw[e];exact h2 hw
def sIx (n d:Nat):Option Int->Nat
|none=>d
|some v=>if v<0 then(v+(n:Int)).toNat else min v.toNat n
def zpo (n d:Nat)(hd:d<=n)(o:Option Int):sIx n d o<=n:=by
 cases o with
|none=>exact hd
|some v=>
   show(if v<0 then(v+(n:Int)).toNat else min v.toNat n)<=n
   by_cases hv:v<0
   .rw[if_pos hv];omega
   .rw[if_neg hv];exact Nat.min_le_right _ _
def ziY (v:Int)(n d:Nat):(if v<0 then max (v+(n:Int)) 0 else min v (n:Int))=((sIx n d (some v):Nat):Int):=by
 show(if v<0 then max (v+(n:Int)) 0 else min v (n:Int))=(((if v<0 then(v+(n:Int)).toNat else min v.toNat n):Nat):Int)
 by_cases hv:v<0
 .simp only[if_pos hv];omega
 .simp only[if_neg hv];omega
def zhY (lo hi:Option Int)(n:Nat):Builtin.Slice.sliceAdjust lo hi 1 (n:Int)=(((sIx n 0 lo:Nat):Int),((sIx n n hi:Nat):Int)):=by
 have h1:¬((1:Int)<0):=by omega
 unfold Builtin.Slice.sliceAdjust;simp only[h1,if_false];refine Prod.ext ?_ ?_
 .cases lo with
 |none=>rfl
 |some v=>exact ziY v n 0
 .cases hi with
 |none=>rfl
 |some v=>exact ziY v n n
def zhZ (i j:Nat):Builtin.Slice.slicePlaces (i:Int) (j:Int) 1=j - i:=by
 unfold Builtin.Slice.slicePlaces;have h1:(1:Int)>0:=by omega
 simp only[h1,if_true,Int.ediv_one];split <;> omega
def zeC {v:Vl}{o:Option Int}{Q:Option Int->Sd->Prop}(p:IsPart v o)(h:Q o s):wA (model prog w) A (Builtin.Slice.slicePartIndex v) Q E s:=by
 cases p with
|none=>exact slicePart_none h
|int i t=>exact slicePart_int h
def zcg {sl:Addr}{vl vu:Vl}{lo hi:Option Int}{n:Nat}{Q:Int×Int×Nat->Sd->Prop}(hs:s.heap.IsSliceOf sl vl vu .none)(pl:IsPart vl lo)(pu:IsPart vu hi)
 (h:Q (((sIx n 0 lo:Nat):Int),1,sIx n n hi - sIx n 0 lo) s):wA (model prog w) A (Builtin.Slice.sliceApplied (.ref sl) (pure (n:Int))) Q E s:=by
 obtain⟨os,hos,hcs,hds⟩:=id hs;unfold Builtin.Slice.sliceApplied Builtin.Slice.sliceFields;refine waa (waa (wbj hos hds (x:=vl) rfl (waa (wbj hos hds (x:=vu) rfl (waa (wbj hos hds (x:=.none) rfl (wak ?_)))))));refine waa (slicePart_none ?_);show wA _ _ (if((1:Int) == 0)=true then _ else _) _ _ s
 rw[if_neg (by decide)];refine waa (zeC pl (waa (zeC pu (waa (wak ?_)))));show wA _ _ (match Builtin.Slice.sliceAdjust lo hi 1 (n:Int) with|(lo,hi)=>pure (lo,(1:Int),Builtin.Slice.slicePlaces lo hi 1)) _ _ s
 rw[zhY lo hi n];show wA _ _ (pure (((sIx n 0 lo:Nat):Int),(1:Int),Builtin.Slice.slicePlaces ((sIx n 0 lo:Nat):Int) ((sIx n n hi:Nat):Int) 1)) _ _ s
 rw[zhZ];exact wak h
def zkT (xs:Array Vl)(i k:Nat):((List.range k).filterMap λ(m:Nat)=>xs[((i:Int)+(m:Int)*1).toNat]?).toArray=((xs.toList.drop i).take k).toArray:=by
 have e:(λ(m:Nat)=>xs[((i:Int)+(m:Int)*1).toNat]?)=λm=>xs[i+m]?:=by
  funext m
  have:((i:Int)+(m:Int)*1).toNat=i+m:=by omega
  rw[this]
 rw[e];have:=pick_run xs i k
 rw[List.filterMap_map] at this;have e2:((λx=>xs[x]?)∘λx=>i+x)=λm=>xs[i+m]?:=rfl
 rw[e2] at this;rw[this]
def getItem_tuple_cut {t sl:Addr}{items:Array Vl}{vl vu:Vl}{lo hi:Option Int}{Q:Vl->Sd->Prop}(ht:IsTup s.heap t items)(hs:s.heap.IsSliceOf sl vl vu .none)(pl:IsPart vl lo)(pu:IsPart vu hi)
 (hw:¬(sIx items.size 0 lo=0/\sIx items.size items.size hi=items.size))
 (h:Q (.ref s.heap.objs.size) {s with heap:=s.heap.push {cls:=.type "tuple",data:=.seq ((items.toList.drop (sIx items.size 0 lo)).take (sIx items.size items.size hi - sIx items.size 0 lo)).toArray}})
 (hsz:items.size<=sLn):wA (model prog w) A (getItem (.ref t) (.ref sl)) Q E s:=by
 have htake:sizeOk (.seq ((items.toList.drop (sIx items.size 0 lo)).take (sIx items.size items.size hi - sIx items.size 0 lo)).toArray):=by
  show((items.toList.drop (sIx items.size 0 lo)).take (sIx items.size items.size hi - sIx items.size 0 lo)).toArray.size<=sLn
  rw[wad,waC,wcD,wch];omega
 have hj:sIx items.size items.size hi<=items.size:=zpo _ _ (wan _) hi
 obtain⟨os,hos,hcs,hds⟩:=id hs;have hTs:s.TypeIs (.ref sl) "slice":=⟨os,hos,hcs⟩
 unfold getItem;try with_reducible refine wbo ?_
 first|refine waa (wak ?_)|skip
 refine waa (wpAny_sequenceKey ht.typeIs (by decide) ?_);refine waa (wbV (name:=Str.ofString "__getitem__") ht.typeIs wbq
  (wbX wbq ht.typeIs entry_tuple_getitem ?_ (args_tuple_getitem _ _)))
 show wA _ _ (Builtin.Tuple.tupleItemsOf (.ref t) >>= _) _ _ s
 refine waa (tupleItemsOf_ ht ?_);refine waa (wcN hTs ?_);rw[if_pos (by decide)];refine waa (zcg hs pl pu ?_);have hno:¬((((sIx items.size 0 lo:Nat):Int) == 0&&(1:Int) == 1&&(sIx items.size items.size hi - sIx items.size 0 lo) == items.size)=true):=by
  intro q;rw[waF,waF] at q;have q1:((sIx items.size 0 lo:Nat):Int)=0:=eq_of_beq q.1.1
  have q2:sIx items.size items.size hi - sIx items.size 0 lo=items.size:=eq_of_beq q.2
  exact hw ⟨by omega,by omega⟩
 show wA _ _ (if(((sIx items.size 0 lo:Nat):Int) == 0&&(1:Int) == 1&&(sIx items.size items.size hi - sIx items.size 0 lo) == items.size)=true then _ else _) _ _ s
 rw[if_neg hno,zkT];first
 |exact waa (m:=Builtin.Tuple.tupleExact _) (wbr (wak ⟨_,rfl,wak h⟩) htake)
 |exact waa (m:=Builtin.Tuple.tupleExact _) (wbr (waa (wak (wak ⟨_,rfl,wak h⟩))) htake)
 |exact waa (waa (m:=Builtin.Tuple.tupleExact _) (wbr (wak (wak ⟨_,rfl,wak h⟩)) htake))
 |exact waa (waa (m:=Builtin.Tuple.tupleExact _) (wbr (wak ⟨_,rfl,wak h⟩) htake))
end
end HT
namespace L2
open PySem.Spec
abbrev TO:=St->Hp->(Option Int->Hp->Prop)->Prop
def PO (X:Cx)(e:Option Expr)(t:TO):Prop:=
 ∀(pins:List (Addr×Obj)) (s:Sd) (Y:St) (H:Hp) (Q:Option Int->Hp->Prop),Inv X pins Y H s->t Y H Q->
  wA (model X.prog X.w) X.A (evalPart e X.env) (λu s'=>∃o H',Inv X pins Y H' s'/\IsPart u o/\Q o H') X.xe s
def zne:TO:=λ_ H Q=>Q none H
def zrH (t:TE):TO:=λY H Q=>t Y H λx H1=>∃i,x=.int i/\Q (some i) H1
section
variable {X:Cx}{e:Expr}{te:TE}{lo hi:Option Expr}{tl th:TO}{pos p2:Pos}
def znf:PO X none zne:=by
 intro pins s Y H Q I h;rw[evalPart_none];exact wak ⟨none,H,I,.none,h⟩
def zng (h:PE X e te):PO X (some e) (zrH te):=by
 intro pins s Y H Q I hw;rw[evalPart_some];refine thn (h pins s Y H _ I hw) λu s1 ⟨x,H1,I1,r1,q1⟩=>?_
 obtain⟨i,rfl,q⟩:=q1;obtain⟨t,rfl⟩:=r1;exact⟨some i,H1,I1,.int i t,q⟩
def SlR (X:Cx)(r:V->Option Int->Option Int->Hp->VK->Prop):Prop:=
 ∀(pins:List (Addr×Obj)) (s:Sd) (Y:St) (H:Hp) (x:V) (v vl vu:Vl) (lo hi:Option Int) (sl:Addr) (Q:VK),Inv X pins Y H s->RelV x v->s.heap.IsSliceOf sl vl vu .none->IsPart vl lo->IsPart vu hi->r x lo hi H Q->
  ∃T id,typeLookup (.type T) "__getitem__"=pure (some (.builtin id))/\s.TypeIs v T/\wA (model X.prog X.w) X.A (getItem v (.ref sl)) (EP X pins Y Q) X.xe s
def SlR.or {r r':V->Option Int->Option Int->Hp->VK->Prop}(h:SlR X r)(h':SlR X r'):SlR X (λx lo hi H Q=>r x lo hi H Q\/r' x lo hi H Q):=by
 intro pins s Y H x v vl vu lo hi sl Q I rx hs pl pu q;rcases q with q|q
 .exact h pins s Y H x v vl vu lo hi sl Q I rx hs pl pu q
 .exact h' pins s Y H x v vl vu lo hi sl Q I rx hs pl pu q
def tSl (r:V->Option Int->Option Int->Hp->VK->Prop)(te:TE)(tl th:TO):TE:=λY H Q=>te Y H λx H1=>tl Y H1 λl H2=>th Y H2 λu H3=>r x l u H3 Q
def zeU {r:V->Option Int->Option Int->Hp->VK->Prop}(hr:SlR X r)(he:PE X e te)(hl:PO X lo tl)(hu:PO X hi th):PE X (.Subscript e (.Slice lo hi none p2) pos) (tSl r te tl th):=by
 intro pins s Y H Q I h;refine Subscript_ (thn (he pins s Y H _ I h) λv s1 ⟨x,H1,I1,r1,q1⟩=>?_);refine wpAny_Slice (thn (hl pins s1 Y H1 _ I1 q1) λvl s2 ⟨l,H2,I2,pl,q2⟩=>thn (hu pins s2 Y H2 _ I2 q2) λvu s3 ⟨u,H3,I3,pu,q3⟩=>?_);rw[evalPart_none];refine wak ?_;have I4:Inv X pins Y H3 {s3 with heap:=s3.heap.push {cls:=.type "slice",data:=.fields #[vl,vu,.none]}}:=I3.kept (t':=s3.toks) λb ob q=>wae _ q
 obtain⟨T,id,hT,ht,hg⟩:=hr pins {s3 with heap:=s3.heap.push {cls:=.type "slice",data:=.fields #[vl,vu,.none]}} Y H3 x v vl vu l u s3.heap.objs.size Q I4 r1 (Heap.IsSliceOf.new ..) pl pu q3;show wA (model X.prog X.w) X.A (subscriptTail e (.Slice lo hi none p2) v (.ref s3.heap.objs.size)) (EP X pins Y Q) X.xe {s3 with heap:=s3.heap.push {cls:=.type "slice",data:=.fields #[vl,vu,.none]}}
 exact tail_any (ops:=[.ref s3.heap.objs.size,v]) ht hT hg (by with_unfolding_all rfl)
def cutV (xs:List V)(lo hi:Option Int):List V:=(xs.drop (HT.sIx xs.length 0 lo)).take (HT.sIx xs.length xs.length hi - HT.sIx xs.length 0 lo)
def zdS (xs:List V)(lo hi:Option Int):(cutV xs lo hi).length<=xs.length:=by
 unfold cutV;rw[waC,wcD];omega
def rSlT (K:Fg):V->Option Int->Option Int->Hp->VK->Prop:=λx lo hi H Q=>∃a xs,x=.ref a/\SqT K H a xs/\
 ¬(HT.sIx xs.length 0 lo=0/\HT.sIx xs.length xs.length hi=xs.length)/\∀p,H p=none->Q (.ref p) (upd H p (.tup (cutV xs lo hi)))
def sl_tup:SlR X (rSlT X.K):=by
 intro pins s Y H x v vl vu lo hi sl Q I rx hs pl pu h;obtain⟨a,xs,rfl,hx,hw,q⟩:=h;cases rx;obtain⟨its,r,ht,hz⟩:=I.tuple hx;have qe:its.toArray.size=xs.length:=by rw[wad];exact r.length.symm
 refine⟨"tuple",_,PyProof.Rows.slot_tuple_getitem.lookup,ht.typeIs,?_⟩;refine HT.getItem_tuple_cut ht hs pl pu (by rw[qe];exact hw) ?_ (by rw[qe];exact hz);rw[qe];refine⟨.ref s.heap.objs.size,_,I.laid (t':=s.toks) (o:=.tup (cutV xs lo hi)) (λb ob q=>wae _ q) (wan _) ?_,rfl,q _ (I.hok.fresh (wan _))⟩;exact⟨wao (zdS xs lo hi) hz,_,(r.drop (HT.sIx xs.length 0 lo)).take (HT.sIx xs.length xs.length hi - HT.sIx xs.length 0 lo),IsTup.new _ _⟩
def zrI (K:Fg):R2:=λx y H Q=>∃a b xs ys,x=.ref a/\y=.ref b/\SqT K H a xs/\SqT K H b ys/\xs≠[]/\xs.length+ys.length<=sLn/\
 (ys = []->Q (.ref a) H)/\(ys≠[]->∀p,H p=none->Q (.ref p) (upd H p (.tup (xs++ys))))
def Vals.nil_iff {xs:List V}{us:List Vl}(r:Vals xs us):us = []↔xs = []:=by
 cases r with
|nil=>simp
|cons _ _=>simp
def znh:OpR X (binaryOp .Add) (zrI X.K):=by
 intro pins s Y H x y v u Q I rx ry h;obtain⟨a,b,xs,ys,rfl,rfl,ha,hb,hx,hz,q1,q2⟩:=h;cases rx;cases ry;obtain⟨its,r1,p1,_⟩:=I.tuple ha;obtain⟨jg,r2,p2,_⟩:=I.tuple hb;refine HT.cat_tup p1 p2 (λz=>hx (r1.nil_iff.mp z)) (λz=>⟨.ref a,H,I,rfl,q1 (r2.nil_iff.mp z)⟩) (λz=>?_) (by rw[<-r1.length,<-r2.length];exact hz);refine⟨.ref s.heap.objs.size,_,I.laid (t':=s.toks) (o:=.tup (xs++ys)) (λb ob q=>wae _ q) (wan _) ?_,rfl,q2 (λw=>z (r2.nil_iff.mpr w)) _ (I.hok.fresh (wan _))⟩;exact⟨by rw[waj];exact hz,_,r1.append r2,IsTup.new _ _⟩
end
def ixN (n:Nat)(i:Int):Option Nat:=if 0<=i then(if i<n then some i.toNat else none) else if -(n:Int)<=i then some (i+n).toNat else none
def atI {C:Type}(xs:List C)(i:Int):Option C:=(ixN xs.length i).bind λj=>xs[j]?
def ziZ {n:Nat}{i:Int}{j:Nat}(h:ixN n i=some j):seqIndex? i n=some j/\j<n/\-(n:Int)<=i/\i<n:=by
 unfold ixN at h;by_cases h0:0<=i
 .rw[if_pos h0] at h;by_cases h1:i<n
  .rw[if_pos h1] at h;have e:i.toNat=j:=was h
   exact⟨by rw[seqIndex_of h0 h1,e],by omega,by omega,h1⟩
  .rw[if_neg h1] at h;cases h
 .rw[if_neg h0] at h;by_cases h1:-(n:Int)<=i
  .rw[if_pos h1] at h;have e:(i+n).toNat=j:=was h
   exact⟨by rw[seqIndex_neg (by omega) h1,e],by omega,h1,by omega⟩
  .rw[if_neg h1] at h;cases h
def zgt {C:Type}{xs:List C}{i:Int}{v:C}(h:atI xs i=some v):∃j,seqIndex? i xs.length=some j/\xs[j]?=some v/\j<xs.length/\-(xs.length:Int)<=i/\i<xs.length:=by
 unfold atI at h;cases e:ixN xs.length i with
|none=>rw[e] at h;cases h
|some j=>
   rw[e] at h;obtain⟨h1,h2,h3,h4⟩:=ziZ e;exact⟨j,h1,h,h2,h3,h4⟩
def zaH {C:Type}{xs:List C}{j:Nat}{v:C}(h:xs[j]?=some v):atI xs (j:Int)=some v:=by
 have hj:j<xs.length:=(wab.mp h).1
 have e:ixN xs.length (j:Int)=some j:=by
  unfold ixN;rw[if_pos (by omega),if_pos (by omega)];simp
 unfold atI;rw[e];exact h
def zdo (b:Expr):Prop:=∀o i,subscripted b false o i=operate [o,i] (getItem o i)
def IxR (X:Cx)(r:R2):Prop:=
 ∀(value slice:Expr) (pins:List (Addr×Obj)) (s:Sd) (Y:St) (H:Hp) (x y:V) (v u:Vl) (Q:VK),Inv X pins Y H s->RelV x v->RelV y u->r x y H Q->
  subscripted slice false v u=operate [v,u] (getItem v u)->wA (model X.prog X.w) X.A (subscriptTail value slice v u) (EP X pins Y Q) X.xe s
def MtR (X:Cx)(id:String)(r:V->List V->Hp->VK->Prop):Prop:=
 ∀(pins:List (Addr×Obj)) (s:Sd) (Y:St) (H:Hp) (x:V) (xs:List V) (v:Vl) (us:List Vl) (Q:VK),Inv X pins Y H s->RelV x v->Vals xs us->r x xs H Q->
  wA (model X.prog X.w) X.A (call (.builtin id) (v::us)) (EP X pins Y Q) X.xe s
section
variable {X:Cx}{a b:Expr}{ta tb:TE}{pos:Pos}
def IxR.or {r r':R2}(h:IxR X r)(h':IxR X r'):IxR X (λx y H Q=>r x y H Q\/r' x y H Q):=by
 intro value slice pins s Y H x y v u Q I rx ry q hs;rcases q with q|q
 .exact h value slice pins s Y H x y v u Q I rx ry q hs
 .exact h' value slice pins s Y H x y v u Q I rx ry q hs
def zi0 {r:R2}(hr:IxR X r)(ha:PE X a ta)(hb:PE X b tb)(hs:zdo b):PE X (.Subscript a b pos) (tOp r ta tb):=by
 intro pins s Y H Q I h;exact Subscript_ (binT ha hb I h λv u s2 x y H2 I2 rx ry q=>hr a b pins s2 Y H2 x y v u Q I2 rx ry q (hs _ _))
def rIxL (K:Fg):R2:=λx y H Q=>∃p xs i v,x=.ref p/\y=.int i/\SqL K H p xs/\atI xs i=some v/\Q v H
def rIxT (K:Fg):R2:=λx y H Q=>∃p xs i v,x=.ref p/\y=.int i/\SqT K H p xs/\atI xs i=some v/\Q v H
def rIxS:R2:=λx y H Q=>∃z i c,x=.str z/\y=.int i/\z.length<=sLn/\atI z.cps.toList i=some c/\Q (.str ⟨#[c]⟩) H
def ix_list:IxR X (rIxL X.K):=by
 intro value slice pins s Y H x y v u Q I rx ry h hs;obtain⟨p,xs,i,z,rfl,rfl,hq,he,q⟩:=h;cases rx;obtain⟨t,rfl⟩:=ry;obtain⟨its,r,pl,hz⟩:=I.list hq;obtain⟨j,h1,h2,h3,h4,h5⟩:=zgt he;obtain⟨w,ew,rw'⟩:=r.get h2;have hl:=r.length
 have hn:=zdR
 have fin:EP X pins Y Q w s:=⟨z,H,I,rw',q⟩
 by_cases h0:0<=i
 .have hj:i.toNat=j:=by
   rw[seqIndex_of h0 h5] at h1;exact was h1
  exact item_listR pl.isList h0 (by omega) (by rw[hj];simpa using ew) fin hs
 .have hj:(i+(its.toArray.size:Int)).toNat=j:=by
   rw[seqIndex_neg (by omega) h4] at h1;rw[wad,<-hl];exact was h1
  exact subscriptTail_builtinR (x:=w) pl.isList.typeIs slot_list_getitem.lookup
   (wpAny_getItem_list_neg (Q:=λr s'=>r=w/\EP X pins Y Q r s') pl.isList (by omega) (by rw[wad] <;> omega) (by omega) (by rw[hj];simpa using ew) ⟨rfl,fin⟩) hs
def ix_tup:IxR X (rIxT X.K):=by
 intro value slice pins s Y H x y v u Q I rx ry h hs;obtain⟨p,xs,i,z,rfl,rfl,hq,he,q⟩:=h;cases rx;obtain⟨t,rfl⟩:=ry;obtain⟨its,r,pl,hz⟩:=I.tuple hq;obtain⟨j,h1,h2,h3,h4,h5⟩:=zgt he;obtain⟨w,ew,rw'⟩:=r.get h2;have hl:=r.length
 have hn:=zdR
 have fin:EP X pins Y Q w s:=⟨z,H,I,rw',q⟩
 exact subscriptTail_builtinR (x:=w) pl.typeIs slot_tuple_getitem.lookup
  (getItem_tuple (j:=j) (Q:=λr s'=>r=w/\EP X pins Y Q r s') pl (by omega) (by omega) (by rw[wad,<-hl];exact h1) (by simpa using ew) ⟨rfl,fin⟩) hs
def zpp:IxR X rIxS:=by
 intro value slice pins s Y H x y v u Q I rx ry h hs;obtain⟨z,i,c,rfl,rfl,hz,he,q⟩:=h;obtain⟨t,rfl⟩:=rx;obtain⟨t',rfl⟩:=ry;obtain⟨j,h1,h2,h3,h4,h5⟩:=zgt he;have hl:z.cps.toList.length=z.length:=by simp[Str.length]
 rw[hl] at h1 h4 h5;have hn:=zdR
 exact tail_any (typeIs_str s z t) slot_str_getitem.lookup (getItem_str (c:=c) (by
  have e1:decide (i < -(2 ^ 63:Int))=false:=waz (by omega)
  have e2:decide (i≥2 ^ 63)=false:=waz (by omega)
  rw[e1,e2,Bool.or_false]) (by rw[h1];simpa using h2) ⟨.str ⟨#[c]⟩,H,I.tok _,⟨_,rfl⟩,q⟩) hs
def rIx (K:Fg):R2:=λx y H Q=>rIxL K x y H Q\/rIxT K x y H Q\/rIxS x y H Q
def zhb:IxR X (rIx X.K):=ix_list.or (ix_tup.or zpp)
def zh0 (its:List Vl)(n j:Nat)(u:Vl):Obj.mapSeq (·.setIfInBounds j u) {cls:=.type "list",data:=.seq its.toArray n} = {cls:=.type "list",data:=.seq (its.set j u).toArray n}:=by
 simp[Obj.mapSeq]
theorem Inv.lst {pins:List (Addr×Obj)}{Y:St}{H:Hp}{s:Sd}{p:Addr}{xs:List V}(I:Inv X pins Y H s)(h:H p=some (.lst xs)) :
 ∃(its:List Vl) (n:Nat),Vals xs its/\s.heap.get? p=some {cls:=.type "list",data:=.seq its.toArray n}/\xs.length<=sLn:=by
 obtain⟨z,its,n,r,e⟩:=I.hok p _ h;exact⟨its,n,r,e,z⟩
def Inv.lstUpd {pins:List (Addr×Obj)}{Y:St}{H:Hp}{s:Sd}{p:Addr}{xs ys:List V}{its its':List Vl}{n n':Nat}{f:Obj->Obj}(I:Inv X pins Y H s)(h:H p=some (.lst xs))
 (ho:s.heap.get? p=some {cls:=.type "list",data:=.seq its.toArray n}) (hf:f {cls:=.type "list",data:=.seq its.toArray n} = {cls:=.type "list",data:=.seq its'.toArray n'}) (r:Vals ys its') (hz:ys.length<=sLn) (t:Nat) :
 Inv X pins Y (upd H p (.lst ys)) {s with heap:=s.heap.update p f,toks:=t}:=by
 have e:(s.heap.update p f).get? p=some {cls:=.type "list",data:=.seq its'.toArray n'}:=by
  rw[wbm f ho (by rw[hf] <;> rfl),hf]
 refine I.write (x:=p) (e:=p) (by rw[h];trivial) (.inl rfl) (λb u hb q=>(waO _ _ (Ne.symm hb)).trans q) ⟨_,e⟩ ?_;exact⟨hz,its',n',r,e⟩
def zrJ:V->V->V->Hp->(Hp->Prop)->Prop:=λo i v H Q=>∃p xs k j,o=.ref p/\i=.int k/\H p=some (.lst xs)/\ixN xs.length k=some j/\Q (upd H p (.lst (xs.set j v)))
def zhc:PSet X zrJ:=by
 intro pins s Y H o i v ov iv u Q I ro ri rv h;obtain⟨p,xs,k,j,rfl,rfl,hp,hj,q⟩:=h;cases ro;obtain⟨t,rfl⟩:=ri;obtain⟨its,n,r,ho,hz⟩:=I.lst hp;obtain⟨h1,h2,h3,h4⟩:=ziZ hj;have hl:=r.length
 have hn:=zdR
 have I':Inv X pins Y (upd H p (.lst (xs.set j v))) {s with heap:=s.heap.update p (Obj.mapSeq (·.setIfInBounds j u))}:=
  I.lstUpd hp ho (zh0 its n j u) (r.set rv j) (by rw[List.length_set];exact hz) s.toks
 by_cases h0:0<=k
 .have hk:k.toNat=j:=by
   rw[seqIndex_of h0 h4] at h1;exact was h1
  exact PySem.W.ki_setAt ho h0 (by omega) (by rw[wad,<-hl];exact h4) (by rw[hk];exact⟨_,I',q⟩)
 .have hk:(k+(its.toArray.size:Int)).toNat=j:=by
   rw[seqIndex_neg (by omega) h3] at h1;rw[wad,<-hl];exact was h1
  exact PySem.W.ki_setBack ho (by omega) (by rw[wad,<-hl];exact h3) (by omega) (by rw[hk];exact⟨_,I',q⟩)
def zfy (lo hi:Option Int)(n:Nat):(sliceBounds lo hi none n).1=((HT.sIx n 0 lo:Nat):Int)/\(sliceBounds lo hi none n).2.1=((HT.sIx n n hi:Nat):Int)/\(sliceBounds lo hi none n).2.2=1:=by
 refine⟨?_,?_,rfl⟩
 .cases lo with
 |none=>simp[sliceBounds,HT.sIx]
 |some i=>
    simp only[sliceBounds,HT.sIx,Option.getD_none,show(1:Int)>0 by decide,if_true];by_cases h:i<0
    .simp only[h,if_true] <;> omega
    .simp only[h,if_false] <;> omega
 .cases hi with
 |none=>simp[sliceBounds,HT.sIx]
 |some i=>
    simp only[sliceBounds,HT.sIx,Option.getD_none,show(1:Int)>0 by decide,if_true];by_cases h:i<0
    .simp only[h,if_true] <;> omega
    .simp only[h,if_false] <;> omega
def zeV (its:List Vl)(lo hi:Option Int):slicePick its.toArray lo hi none=((its.drop (HT.sIx its.length 0 lo)).take (HT.sIx its.length its.length hi - HT.sIx its.length 0 lo)).toArray:=by
 obtain⟨h1,h2,h3⟩:=zfy lo hi its.toArray.size;unfold slicePick;rw[h1,h2,h3];simp only[sliceRange_one,pick_run,wad] <;> rfl
def rSlL (K:Fg):V->Option Int->Option Int->Hp->VK->Prop:=λx lo hi H Q=>∃a xs,x=.ref a/\SqL K H a xs/\∀p,H p=none->Q (.ref p) (upd H p (.lst (cutV xs lo hi)))
def sl_list:SlR X (rSlL X.K):=by
 intro pins s Y H x v vl vu lo hi sl Q I rx hs pl pu h;obtain⟨a,xs,rfl,hx,q⟩:=h;cases rx;obtain⟨its,r,ht,hz⟩:=I.list hx;have qe:=r.length
 refine⟨"list",_,slot_list_getitem.lookup,ht.isList.typeIs,?_⟩;refine wpAny_getItem_list_slice ht.isList hs pl pu .none (by simp) ?_ (by rw[wad] <;> omega);rw[zeV,<-qe];refine⟨.ref s.heap.objs.size,_,I.laid (t':=s.toks) (o:=.lst (cutV xs lo hi)) (λb ob q=>wae _ q) (wan _) ?_,rfl,q _ (I.hok.fresh (wan _))⟩;exact⟨wao (zdS xs lo hi) hz,_,0,(r.drop (HT.sIx xs.length 0 lo)).take (HT.sIx xs.length xs.length hi - HT.sIx xs.length 0 lo),waw _ rfl⟩
def zfz:zci X (.builtin "len") (λxs H Q=>∃p ys,xs = [.ref p]/\(SqL X.K H p ys\/SqT X.K H p ys)/\Q (.int ys.length) H):=by
 intro pins s Y H xs us Q I r h;obtain⟨p,ys,rfl,hq,q⟩:=h;obtain⟨u,rfl,rx⟩:=zeS r;cases rx;have hn:=zdR
 rcases hq with hq|hq
 .obtain⟨its,r',pl,hz⟩:=I.list hq;have qe:=r'.length
  exact Calls.call_len_list pl.isList (by simp only[wad] <;> omega) ⟨.int ys.length,H,I.tok _,⟨s.toks+1,by rw[wad,qe]⟩,q⟩
 .obtain⟨its,r',pl,hz⟩:=I.tuple hq;have qe:=r'.length
  exact len_tuple pl (by simp only[wad] <;> omega) ⟨.int ys.length,H,I.tok _,⟨s.toks+1,by rw[wad,qe]⟩,q⟩
def zdx:zci X (.type "list") (λxs H Q=>∃p ys,xs = [.ref p]/\(SqL X.K H p ys\/SqT X.K H p ys)/\∀l,H l=none->Q (.ref l) (upd H l (.lst ys))):=by
 intro pins s Y H xs us Q I r h;obtain⟨p,ys,rfl,hq,q⟩:=h;obtain⟨u,rfl,rx⟩:=zeS r;cases rx;have fin:∀(its:List Vl),Vals ys its->ys.length<=sLn->∀(h':Heap) (c':Nat),(∀b o',s.heap.get? b=some o'->h'.get? b=some o')->
  h'.get? s.heap.objs.size=some {cls:=.type "list",dict:=none,data:=.seq its.toArray c',slots:=#[]}->EP X pins Y Q (.ref s.heap.objs.size) {s with heap:=h'}:=λits r' hz h' c' kp e=>
  ⟨.ref s.heap.objs.size,_,I.laid (t':=s.toks) kp (wan _) (show ObjOk X.prog X.w _ h' _ (.lst ys) from⟨hz,its,c',r',e⟩),rfl,q _ (I.hok.fresh (wan _))⟩
 rcases hq with hq|hq
 .obtain⟨its,r',pl,hz⟩:=I.list hq;have qe:=r'.length
  obtain⟨o,ho,hc,n,hd⟩:=pl.isList;exact call_list_seq p (.inl rfl) ho hc hd (λh' c' kp e=>fin its r' hz h' c' kp e) (by simp only[wad] <;> omega)
 .obtain⟨its,r',pl,hz⟩:=I.tuple hq;have qe:=r'.length
  obtain⟨o,ho,hc,n,hd⟩:=pl;exact call_list_seq p (.inr rfl) ho hc hd (λh' c' kp e=>fin its r' hz h' c' kp e) (by simp only[wad] <;> omega)
def zc0:zci X (.type "tuple") (λxs H Q=>∃p ys,xs = [.ref p]/\((SqL X.K H p ys/\∀l,H l=none->Q (.ref l) (upd H l (.tup ys)))\/(SqT X.K H p ys/\Q (.ref p) H))):=by
 intro pins s Y H xs us Q I r h;obtain⟨p,ys,rfl,h⟩:=h;obtain⟨u,rfl,rx⟩:=zeS r;cases rx;rcases h with⟨hq,q⟩|⟨hq,q⟩
 .obtain⟨its,r',pl,hz⟩:=I.list hq;have qe:=r'.length
  refine call_tuple_list pl.isList (λh' kp=>?_) (by simp only[wad] <;> omega);have I1:Inv X pins Y H {s with heap:=h'}:=I.kept (t':=s.toks) kp
  have I2:Inv X pins Y (upd H h'.objs.size (.tup ys)) {s with heap:=h'.push {cls:=.type "tuple",data:=.seq its.toArray}}:=
   I1.laid (t':=s.toks) (λb o e=>wae _ e) (wan _) (show ObjOk X.prog X.w _ _ _ (.tup ys) from⟨hz,its,r',IsTup.new _ _⟩)
  exact⟨.ref h'.objs.size,_,I2,rfl,q _ (I1.hok.fresh (wan _))⟩
 .obtain⟨its,r',pl,hz⟩:=I.tuple hq;exact call_tuple_same pl ⟨.ref p,H,I,rfl,q⟩
def tyV (K:Fg)(T:String)(x:V)(H:Hp):Prop:=match x with
|.str _=>T = "str"
|.int _=>T = "int"
|.ref p=>(T = "list"/\∃xs,SqL K H p xs)\/(T = "tuple"/\∃o,K.lookup p=some o/\o.cls=.type "tuple"/\o.dict=none)\/
  (T = "dict"/\((∃kvs,H p=some (.dK kvs))\/∃kvs,H p=some (.dT kvs)))\/(T = "set"/\∃S n,H p=some (.set S n))
|_=>False
def zpq {pins:List (Addr×Obj)}{Y:St}{H:Hp}{s:Sd}{T:String}{x:V}{v:Vl}(I:Inv X pins Y H s)(r:RelV x v)(ty:tyV X.K T x H) :
 s.TypeIs v T/\∀a,v=.ref a->∃ob,s.heap.get? a=some ob/\ob.dict=none:=by
 cases x with
|str z=>
   obtain⟨t,rfl⟩:=r;cases(show T = "str" from ty);exact⟨typeIs_str s z t,λ_ e=>nomatch e⟩
|int i=>
   obtain⟨t,rfl⟩:=r;cases(show T = "int" from ty);exact⟨typeIs_int s i t,λ_ e=>nomatch e⟩
|ref p=>
   cases r;rcases ty with⟨rfl,xs,hq⟩|⟨rfl,o,hk,hc,hd⟩|⟨rfl,hk⟩|⟨rfl,S,n,hk⟩
   .obtain⟨its,_,pl,_⟩:=I.list hq;refine⟨pl.isList.typeIs,λa e=>?_⟩;cases e;obtain⟨o,n,e,c,hd,_⟩:=pl;exact⟨o,e,hd⟩
   .refine⟨⟨o,I.kIn p o hk,hc⟩,λa e=>?_⟩;cases e;exact⟨o,I.kIn _ o hk,hd⟩
   .have z:∃o,s.heap.get? p=some o/\o.ExactDict:=by
     rcases hk with⟨kvs,hk⟩|⟨kvs,hk⟩
     .obtain⟨_,_,_,_,o,_,_,e,ex,_⟩:=I.hok p _ hk;exact⟨o,e,ex⟩
     .obtain⟨_,_,_,_,o,_,_,e,ex,_⟩:=I.hok p _ hk;exact⟨o,e,ex⟩
    obtain⟨o,e,ex⟩:=z;refine⟨⟨o,e,ex.1⟩,λa e2=>?_⟩;cases e2;exact⟨o,e,ex.2.1⟩
   .obtain⟨o,_,_,_,e,ex,_⟩:=I.hok p _ hk;refine⟨⟨o,e,ex.1⟩,λa e2=>?_⟩;cases e2;exact⟨o,e,ex.2.1⟩
|_=>exact False.elim ty
def tBM (K:Fg)(T:String)(r:V->List V->Hp->VK->Prop)(to:TE)(t:TA):TE:=λY H Q=>to Y H λx H1=>tyV K T x H1/\t Y H1 λxs H2=>r x xs H2 Q
variable {o e:Expr}{es:List Expr}{to:TE}{t:TA}{name:Str}{qL qt:Pos}{T id:String}{r:V->List V->Hp->VK->Prop}
def zpr (pa:PlainAttrs T)(slot:Slot T name id)(hty:typeOf (.builtin id)=pure (.type "method_descriptor"))(hm:MtR X id r)(ho:PE X o to)(ha:PA X (e::es) t)
 (qX:attributeBase o name X.env (eval o X.env)=eval o X.env:=by rfl)
 (wK:((backTo qt (sE (e::es) X.env)).all (λx=>!x.1)&&(backToKw qt (keywordEach [] X.env)).all (λx=>x.1.isSome)
  && decide ((e::es).length+([]:List Keyword).length+(if([]:List Keyword).isEmpty then 0 else 1)<30))=true:=by rfl)
 (w5:(qL.endLine == qt.line)=true:=by rfl) (hs:sE (e::es) X.env=(false,eval e X.env)::sE es X.env:=by rfl) (hplain:(backTo qt (sE es X.env)).any (·.1)=false:=by rfl) :
 PE X (.Call (.Attribute o name qL) (e::es) [] qt) (tBM X.K T r to t):=by
 intro pins s Y H Q I h;refine wpAny_Call_method_late qX wK w5 rfl (thn (ho pins s Y H _ I h) λv s1 ⟨x,H1,I1,r1,ty,q1⟩=>?_);obtain⟨h1,h2⟩:=zpq I1 r1 ty;refine⟨T,id,pa,slot,hty,h1,h2,?_⟩;have hA:=ha qt pins s1 Y H1 _ I1 q1
 rw[hs] at hA⊢;refine Calls.callWith_builtin (by show(false||(backTo qt (sE es X.env)).any (·.1))=false;rw[hplain] <;> rfl) (Calls.evalArgs_plain ?_);exact thn hA λus s2 ⟨vs,H2,I2,r2,q2⟩=>hm pins s2 Y H2 x vs v us Q I2 r1 r2 q2
end
def MtM (X:Cx)(id:String)(r:V->List V->Hp->VK->Prop):Prop:=
 ∀(pins:List (Addr×Obj)) (s:Sd) (Y:St) (H:Hp) (x:V) (xs:List V) (v:Vl) (us:List Vl) (Q:VK),Inv X pins Y H s->RelV x v->Vals xs us->r x xs H Q->
  wA (model X.prog X.w) X.A (call (.builtin id) (v::us)) (EP X pins Y Q) X.xe s
def Vals.one:∀{x:V}{us:List Vl},Vals [x] us->∃u,us = [u]/\RelV x u
|_,_,.cons r .nil=>⟨_,rfl,r⟩
theorem Vals.reverse {xs:List V}{us:List Vl}(h:Vals xs us):Vals xs.reverse us.reverse:=by
 induction h with
|nil=>exact .nil
|cons r t ih=>rw[wcc,wcc];exact Vals.append ih (.cons r .nil)
theorem Vals.rep {xs:List V}{us:List Vl}(h:Vals xs us):∀k:Nat,Vals (rpl k xs).flatten (rpl k us).flatten
|0=>.nil
|k+1=>by
   rw[wbk,wbk,wbP,wbP];exact Vals.append h (Vals.rep h k)
theorem zfA (its:List Vl):∀(k:Nat) (acc:List Vl),
 List.foldl (λx1 x2=>x1++x2) acc.toArray (rpl k its.toArray)=(acc++(rpl k its).flatten).toArray
|0,acc=>by simp
|k+1,acc=>by
   have e:acc.toArray++its.toArray=(acc++its).toArray:=by simp
   have e2:(acc++its)++(rpl k its).flatten=acc++(rpl (k+1) its).flatten:=by
    rw[wbk,wbP,waV]
   rw[<-e2,<-zfA its k (acc++its),<-e,wbk,List.foldl_cons]
section
variable {X:Cx}{pins:List (Addr×Obj)}{Y:St}{H:Hp}{s:Sd}{l b:Addr}{xs ys zs:List V}
def Inv.lset {its its':List Vl}{n:Nat}{f:Array Vl->Array Vl}{t':Nat}(I:Inv X pins Y H s)(hH:H l=some (.lst xs))
 (e:s.heap.get? l=some {cls:=.type "list",data:=.seq its.toArray n}) (hf:f its.toArray=its'.toArray) (hv:Vals ys its') (hz:ys.length<=sLn) :
 Inv X pins Y (upd H l (.lst ys)) {s with heap:=s.heap.update l (Obj.mapSeq f),toks:=t'}:=by
 have q:=PySem.IsL.update e f
 rw[hf] at q;refine I.write (x:=l) (e:=l) (by rw[hH];exact trivial) (.inl rfl) (λb' u hb hu=>(waO s.heap (Obj.mapSeq f) (Ne.symm hb)).trans hu) ⟨_,q⟩ ?_;exact⟨hz,its',_,hv,q⟩
def Inv.lnew {its:List Vl}{t':Nat}(I:Inv X pins Y H s)(hv:Vals ys its)(hz:ys.length<=sLn) :
 Inv X pins Y (upd H s.heap.objs.size (.lst ys)) {s with heap:=s.heap.push {cls:=.type "list",data:=.seq its.toArray},toks:=t'}:=
 I.laid (λ_ _ q=>wae _ q) (wan _) ⟨hz,its,0,hv,waw _ rfl⟩
theorem Inv.fresh (I:Inv X pins Y H s):H s.heap.objs.size=none:=I.hok.fresh (wan _)
def Inv.lstM (I:Inv X pins Y H s)(hH:H l=some (.lst xs)):xs.length<=sLn/\∃(its:List Vl) (n:Nat),Vals xs its/\xs.length=its.length/\s.heap.get? l=some {cls:=.type "list",data:=.seq its.toArray n}:=by
 obtain⟨z,its,n,r,e⟩:=I.hok l _ hH;exact⟨z,its,n,r,r.length,e⟩
def zhd {n:Nat}(h:n<=sLn):Builtin.List.listTooLong n=false:=by
 unfold Builtin.List.listTooLong;exact waz (by omega)
end
section
variable {X:Cx}
def zeW:V->List V->Hp->VK->Prop:=λx vs H Q=>∃l xs y,x=.ref l/\vs = [y]/\H l=some (.lst xs)/\xs.length<sLn/\Q .non (upd H l (.lst (xs++[y])))
def zfB:MtM X "list.append" zeW:=by
 intro pins s Y H x vs v us Q I rx rv h;obtain⟨l,xs,y,rfl,rfl,hH,hz,q⟩:=h;cases rx;obtain⟨u,rfl,ru⟩:=rv.one;obtain⟨z,its,n,r,hl,e⟩:=I.lstM hH;refine call_meets F.slot_list_append ⟨_,e,rfl⟩ F.entry_list_append (F.args_list_append_2 _ _) (PySem.list_append l its.toArray n u (by rw[wad];omega)) ⟨e,?_⟩;refine⟨.non,_,I.lset (its':=its++[u]) hH e (by simp) (r.append (.cons ru .nil)) ?_,rfl,q⟩;rw[waj,List.length_singleton];omega
def zi1:V->List V->Hp->VK->Prop:=λx vs H Q=>∃l b xs zs,x=.ref l/\vs = [.ref b]/\H l=some (.lst xs)/\H b=some (.lst zs)/\xs.length+zs.length<=sLn/\Q .non (upd H l (.lst (xs++zs)))
def zi2:MtM X "list.extend" zi1:=by
 intro pins s Y H x vs v us Q I rx rv h;obtain⟨l,b,xs,zs,rfl,rfl,hH,hB,hz,q⟩:=h;cases rx;obtain⟨u,rfl,ru⟩:=rv.one;cases ru;obtain⟨z,its,n,r,hl,e⟩:=I.lstM hH;obtain⟨z2,jg,n2,r2,hl2,e2⟩:=I.lstM hB;have hsz:its.toArray.size+jg.toArray.size<=sLn:=by rw[wad,wad];omega
 have hlong:¬(!its.toArray.isEmpty&&Builtin.List.listTooLong (its.toArray.size+jg.toArray.size))=true:=by
  rw[zhd hsz,Bool.and_false];exact wbF
 refine call_meets F.slot_list_extend ⟨_,e,rfl⟩ F.entry_list_extend (F.args_list_extend_2 _ _)
  (AutoSeq1.list_extend_list_list_0 l its.toArray n b jg.toArray n2 hlong (by rw[wad];omega) (by omega)) ⟨e,e2,?_⟩
 refine⟨.non,_,I.lset (its':=its++jg) hH e (by simp) (r.append r2) ?_,rfl,q⟩;rw[waj];omega
def rCat:R2:=λx y H Q=>∃l b xs zs,x=.ref l/\y=.ref b/\H l=some (.lst xs)/\H b=some (.lst zs)/\xs.length+zs.length<=sLn/\∀p,H p=none->Q (.ref p) (upd H p (.lst (xs++zs)))
def op_cat:OpR X (binaryOp .Add) rCat:=by
 intro pins s Y H x y v u Q I rx ry h;obtain⟨l,b,xs,zs,rfl,rfl,hH,hB,hz,q⟩:=h;cases rx;cases ry;obtain⟨z,its,n,r,hl,e⟩:=I.lstM hH;obtain⟨z2,jg,n2,r2,hl2,e2⟩:=I.lstM hB;refine PySem.P.add_list e e2 ?_ (by rw[wad,wad];omega);have ea:its.toArray++jg.toArray=(its++jg).toArray:=by simp
 rw[ea];exact⟨.ref _,_,I.lnew (t':=s.toks) (r.append r2) (by rw[waj];omega),rfl,q _ I.fresh⟩
def rRep:R2:=λx y H Q=>∃l k xs,x=.ref l/\y=.int k/\H l=some (.lst xs)/\-(2 ^ 63)<=k/\k<2 ^ 63/\xs.length*k.toNat<=sLn/\
 ∀p,H p=none->Q (.ref p) (upd H p (.lst (rpl k.toNat xs).flatten))
def zni {C:Type}(xs:List C)(k:Nat):(rpl k xs).flatten.length=k*xs.length:=by
 induction k with
|zero=>simp
|succ k ih=>rw[wbk,wbP,waj,ih,Nat.succ_mul,Nat.add_comm]
def zps:OpR X (binaryOp .Mult) rRep:=by
 intro pins s Y H x y v u Q I rx ry h;obtain⟨l,k,xs,rfl,rfl,hH,h1,h2,hz,q⟩:=h;cases rx;obtain⟨t,rfl⟩:=ry;obtain⟨z,its,n,r,hl,e⟩:=I.lstM hH;have qe:its.toArray.size*k.toNat<=sLn:=by rw[wad,<-hl];exact hz
 have hcap:¬its.toArray.size*k.toNat>(2 ^ 63 - 1) / 8:=by
  have:(sLn:Nat)<=(2 ^ 63 - 1) / 8:=by decide
  omega
 have hfit:¬(!Builtin.List.listFitsIndex k)=true:=by
  rw[fitsIndex_both h1 h2];exact wbF
 have hlong:¬Builtin.List.listTooLong (its.toArray.size*k.toNat)=true:=by
  rw[zhd qe];exact wbF
 have hnew:List.foldl (λx1 x2=>x1++x2) #[] (rpl (if its.toArray.isEmpty=true then 0 else k.toNat) its.toArray)=(rpl k.toNat its).flatten.toArray:=by
  have f0:∀m:Nat,List.foldl (λx1 x2=>x1++x2) #[] (rpl m its.toArray)=(rpl m its).flatten.toArray:=λm=>by
   have:=zfA its m []
   rw[List.nil_append] at this;exact this
  rw[f0];cases its with
 |nil=>simp
 |cons a r'=>rw[if_neg (by simp)]
 refine wpAny_binaryOp_repeat_ref (T:="list") (U:="int") (by decide) ⟨_,e,rfl⟩ (λs'=>typeIs_int s' k t) noFill_list_mul F.fills_int_mul F.slot_int_rmul repeat_list F.slot_int_index.lookup
  (call_meets F.slot_int_rmul (typeIs_int s k t) F.entry_int_rmul (F.args_int_rmul_2 _ _) (int___rmul___int_list k t l its.toArray n)
   ⟨e,rfl,⟨_,e,rfl⟩,call_meets F.slot_list_mul ⟨_,e,rfl⟩ F.entry_list_mul (F.args_list_mul_2 _ _) (AutoListH.list___mul___list_int_3 l its.toArray n k t hfit hcap hlong) ⟨e,?_⟩⟩)
 rw[hnew];exact⟨.ref _,_,I.lnew (t':=s.toks) (r.rep k.toNat) (by rw[zni,Nat.mul_comm];exact hz),rfl,q _ I.fresh⟩
end
section
variable {prog:Pm}{w:World}{A:Ao}{E:Vl->Sd->Prop}{s:Sd}
end
section
variable {X:Cx}
end
end L2
namespace Att
open PySem.W PySem.Calls
def zdT {P:Params}{h:Heap}:∀(ns:List Int) (vs:List Vl),WellAll P h vs (ns.map WData.int)->IntsAre vs ns:=by
 intro ns;induction ns with
|nil=>
   intro vs w;rw[List.map_nil] at w;cases w;exact .nil
|cons n ns ih=>
   intro vs w;rw[waN] at w;cases w with
  |cons a b=>
     cases a;exact .cons _ _ (ih _ b)
def zi3 {l:OpenLaw}{n:Nat}(hn:l.most=some n){P:Params}{h:Heap}{args:List WData}{vals:List Vl}
 (hpre:l.row.toRowW.claim.pre args=true) (hwl:WellAll P h vals args) :
 ∃a vs ns,vals = [Value.ref a]/\args = [WData.list (ns.map WData.int)]/\h.get? a=some {cls:=.type "list",data:=.seq vs.toArray}/\IntsAre vs ns/\ns.length<=n:=by
 have hsh:WShape.hasAll [] args [.list .int]=true:=(pre_splitW hpre).1
 have hc:l.pre.holds [] {args:=args}=true:=(pre_splitW hpre).2
 obtain⟨d,r,rfl,h1,h2⟩:=hasAllW_cons hsh;obtain rfl:=hasAllW_nil h2;obtain⟨xs,rfl,h3⟩:=hasW_list h1;obtain⟨ns,rfl⟩:=items_int h3;have qe:ns.length<=n:=by
  unfold OpenLaw.pre at hc;have h4:(WTm.not (.lt (.lit (.int (n:Int))) (.len (.arg 0)))).holds [] {args:=[.list (ns.map .int)]}=true:=by
   have h4:=(holds_andW hc).1
   rw[hn] at h4;exact h4
  have h5:=condW_of h4 (w_not (w_lt w_lit (w_len_list (w_arg rfl))))
  rw[waf] at h5;refine Nat.le_of_not_lt λq=>?_
  have q':(n:Int)<((ns.length:Nat):Int):=by omega
  first
  |(rw[waD q'] at h5;exact absurd h5 (by decide))
  |(simp at h5;omega)
 cases hwl with
|cons w1 w2=>
   cases w2;cases w1 with
  |list ho hall=>exact⟨_,_,ns,rfl,rfl,ho,zdT ns _ hall,qe⟩
def zi4 (l:OpenLaw)(args:List WData):l.row.toRowW.claim.post args (.bool true) args=true:=
 postW_of (r:=l.row.toRowW) (X:=(true == true))
  (show WShape.has [] (.bool true) .bool=true by first|rfl|decide|simp[WShape.has,WShape.arms,WShape.armsAll])
  (show(WTm.eq .res (.lit (.bool true))).value [] {args:=args,res:=some (.bool true),after:=args}=some (.bool (true == true)) from w_eq_bool (w_res rfl) w_lit) rfl
def attach_call {l:OpenLaw}{n:Nat}{q:Pm}{loose:List Str}{XP:(Str->Option Vl)->Heap->Prop}{YP:World->Heap->Prop}{d:DefRec}
 (hn:l.most=some n) (hdf:d.params.defaults = [])
 (call:∀(w:World) (s₀ s₁:Sd) (mg mb:Str->Option Vl) (fa:Addr) (o:Obj) (pm cd doc:Vl) (a:Addr) (vs:List Vl) (ns:List Int),
  Ground q loose [] XP w s₀ mg mb s₁.heap->YP w s₁.heap->
  s₁.heap.get? fa=some o->o.data=.func (docDef d.name d.params d.body d.scope pm cd doc)->s₁.heap.CodeRec cd d.name->mg d.name=some (.ref fa)->
  s₁.heap.get? a=some {cls:=.type "list",data:=.seq vs.toArray}->IntsAre vs ns->ns.length<=n->s₁.gens=#[]->
  codeAny (model l.prog w) callerA (.call (.ref fa) ⟨[.ref a],[]⟩) (λr s'=>r=.ok (.ret (.bool true))/\OldK s₁.heap s'.heap/\s'.os=s₁.os/\AllBare s'.gens) s₁) :
 WalkO q loose XP YP l.row.toRowW d [] (λf vs=>PySem.call f vs):=by
 intro w s₀ s₁ mg mb G Y fa o pm cd doc dV kV ho hd hcd hD hmg hg args vals as hpre hlay hrd hwl hlo;obtain rfl:dV=.none:=Dflts.none hD hdf;obtain rfl:kV=.none:=Dflts.noKw hD;obtain⟨a,vs,ns,rfl,rfl,hobj,hints,qe⟩:=zi3 hn hpre hwl;refine enter_call (wcA (call w s₀ s₁ mg mb fa o pm cd doc a vs ns G Y ho (fd_plain hd) hcd hmg hobj hints qe hg) λr s' hq=>?_);obtain⟨rfl,h2,h3,h4⟩:=hq;exact⟨.inl ⟨.bool true,.bool true,[],rfl,λ_=>rfl,.bool true,zi4 l _,λ_=>⟨List.Pairwise.nil,λ_ hm=>(nomatch hm)⟩⟩,h2,h3,h4⟩
section
variable {prog:Pm}{w:World}{A:Ao}{E:Vl->Sd->Prop}{s:Sd}{K:Frag}
end
end Att
namespace L2
open PySem.Spec
theorem zfC:∀{vs:List Vl}{ns:List Int},IntsAre vs ns->Vals (ns.map V.int) vs
|_,_,.nil=>.nil
|_,_,.cons n t h=>.cons ⟨t,rfl⟩ (zfC h)
def Only (H:Hp):Prop:=∀b,H b=none\/∃o xs,H b=some (.frz o (.lst xs))
def zbA (s:Stmt):Arguments:=match s with
|.FunctionDef _ a _ _ _ _ _ _ _ _=>a
|_=>{posonlyargs:=[],args:=[],vararg:=none,kwonlyargs:=[],kw_defaults:=[],kwarg:=none,defaults:=[]}
def zaI (s:Stmt):List Stmt:=match s with
|.FunctionDef _ _ b _ _ _ _ _ _ _=>b
|_=>[]
def zab (s:Stmt):Scope:=match s with
|.FunctionDef _ _ _ _ _ _ sc _ _ _=>sc
|_=>{kind:=.function,names:=[],isGenerator:=false,isCoroutine:=false}
abbrev CX0:CXT:=λ_ _ _ _ _ _=>False
abbrev E0:XK:=λ_ _ _=>False
def zpt {X:Cx}:zha CX0 X E0:=λ_ _ _ _ _ _ _ h=>h.elim
structure Fun (K:Fg)(x qual:Str)(st:Stmt)(f:Addr)(fd:Fu):Prop where
 ex:∃(oc:Vl) (od:Option Addr) (kV doc pm:Vl) (an:Option Addr) (cdv ct:Vl) (osl:Array (Option Vl)),
  fd=W.fnOf x qual (zbA st) (zaI st) (zab st) .none kV doc pm an cdv ct/\K.lookup f=some ⟨oc,od,.func fd,osl⟩ /\W.codeIn K cdv qual=true
 kp:W.keepIn K (.ref f)=true
section
variable {P:Pm}{w:World}{K:Fg}{mg:Str->Option Vl}{base:Heap}
def Fun.ok {x qual:Str}{st:Stmt}{f:Addr}{fd:Fu}{N ps:List Str}{k:Nat}{sp:Sp}(F:Fun K x qual st f fd)(S:FnScope N ps (zab st))(len:∀vs H Q E,sp vs H Q E->vs.length=ps.length)
 (qK:∀(cdv:Vl) (A:Ao) (outer:List Env) (s:Sd) (H:Hp) (vs:List V) (Q:VK) (E:XK),Room k (A.deeper (envOfC qual (zab st) s.heap.objs.size f cdv))->sp vs H Q E->
  ∃t,PSs (cxOf CX0 P w K mg base N qual (zab st) f cdv A outer s H E).nox (zaI st) t/\t {nx:=λ_ H'=>Q .non H',rt:=Q} (start N vs) H):FnOk P w K mg base CX0 (k+1) f fd ps sp:=by
 obtain⟨oc,od,kV,doc,pm,an,cdv,ct,osl,rfl,lk,hcd⟩:=F.ex;refine zkR lk hcd S len λA outer s H vs Q E hr hsp=>?_
 obtain⟨t,h,q⟩:=qK cdv A outer s H vs Q E hr hsp;exact⟨t,h.nox,q⟩
def Fun.binds {x qual:Str}{st:Stmt}{f:Addr}{fd:Fu}{ps:List Str}(F:Fun K x qual st f fd)
 (h:∀(kV doc pm:Vl) (an:Option Addr) (cdv ct:Vl) (us:List Vl),us.length=ps.length->bindArgs (W.fnOf x qual (zbA st) (zaI st) (zab st) .none kV doc pm an cdv ct) ⟨us,[]⟩=pure (ps.zip us)):Binds K fd ps []:=by
 obtain⟨oc,od,kV,doc,pm,an,cdv,ct,osl,rfl,lk,hcd⟩:=F.ex;exact .all (h kV doc pm an cdv ct)
def zfD {x qual:Str}{st:Stmt}{f:Addr}{oc:Vl}{od an:Option Addr}{osl:Array (Option Vl)}{kV doc pm cdv ct:Vl}(l:K.lookup f=some ⟨oc,od,.func (W.fnOf x qual (zbA st) (zaI st) (zab st) .none kV doc pm an cdv ct),osl⟩)
 (c:W.codeIn K cdv qual=true) (k:W.keepIn K (.ref f)=true):Fun K x qual st f (W.fnOf x qual (zbA st) (zaI st) (zab st) .none kV doc pm an cdv ct):=⟨⟨oc,od,kV,doc,pm,an,cdv,ct,osl,rfl,l,c⟩,k⟩
end
def zkU {A:Ao}{k:Nat}(hr:Room k A):A.units+1<cLine:=waY (Nat.add_le_add_left (by decide:1<=64) _) hr.units
section
variable {X:Cx}
end
def iteF {A B:Prop}(h:B):if false=true then A else B:=by
 rw[if_neg wbF];exact h
def iteT {A B:Prop}(h:A):if true=true then A else B:=by
 rw[if_pos rfl];exact h
def Same (H H':Hp):Prop:=∀b o,H b=some o->H' b=some o
def Same.refl (H:Hp):Same H H:=λ_ _ h=>h
def Same.trans {H H1 H2:Hp}(a:Same H H1)(b:Same H1 H2):Same H H2:=λc o h=>b c o (a c o h)
def Same.free {H H':Hp}(e:Same H H'){l:Addr}(h:H' l=Option.none):H l=Option.none:=by
 cases q:H l with
|none=>rfl
|some o=>
   rw[e l o q] at h;cases h
end L2
namespace L2
open PySem.Spec
structure CodeK (K:Fg)(c P:Addr):Prop where
 ex:∃(o:Obj) (vs:Array Vl) (file:Str) (tf:Tok) (flags:Int) (tg:Tok) (inF:Bool) (text:Int) (tt:Tok),K.lookup c=some o/\o.cls=.type "code"/\o.data=.fields vs/\vs[11]?=some (.ref P)/\vs.getD 11 .none=.ref P/\
  vs.getD 18 .none=.str file tf/\vs.getD 7 .none=.int flags tg/\vs.getD 9 .none=.bool inF/\vs.getD 10 .none=.int text tt/\c≠P
abbrev tabO (ps:Array Vl):Obj:={cls:=.none,data:=.fields ps}
def CodeK.of {K:Fg}{c P:Addr}{h:Heap}{q:Str}(X:K.In h)(hc:W.codeIn K (.ref c) q=true)(B:Based h h c P #[]):CodeK K c P:=by
 have hl:∃o,K.lookup c=some o:=by
  unfold W.codeIn at hc;cases e:K.lookup c with
 |some o=>exact⟨o,rfl⟩
 |none=>simp only[e] at hc;cases hc
 obtain⟨o,lo⟩:=hl;obtain⟨⟨o1,vs1,a1,a2,a3,a4⟩,_⟩:=B.tab;obtain⟨o2,vs2,file,tf,flags,tg,inF,text,tt,op,b1,b2,b3,b4,b5,b6,b7,b8,b9,b10,b11⟩:=B.code;rw[X _ _ lo] at a1 b1;cases a1;cases b1;rw[a3] at b2;cases b2;exact⟨o,_,file,tf,flags,tg,inF,text,tt,lo,a2,a3,a4,b3,b4,b5,b6,b7,b11⟩
section
variable {X:Cx}{pins:List (Addr×Obj)}{Y:St}{H:Hp}{s:Sd}
def TabC (H:Hp)(ps qs:Array Vl):Prop:=TriplesOk qs.toList/\∀pos cv,codeAmong pos qs.toList=some cv->∃c' o u vs t q,cv=Value.ref c'/\H c'=some (.frz o u)/\o.data=.fields vs/\vs[1]?=some (Value.str q t)/\ps[0]?=some (Value.str q 0)
def Inv.tblAt {P:Addr}{ps:Array Vl}(I:Inv X pins Y H s)(h:H P=some (.tbl ps)):∃qs:Array Vl,s.heap.get? P=some (tabO qs)/\TabC H ps qs:=I.hok P _ h
def Inv.ne_tbl {P b:Addr}{ps:Array Vl}(h:H P=some (.tbl ps))(n:H b=none):b≠P:=λz=>by subst z;rw[h] at n;cases n
end
section
variable {X:Cx}{a b c:Expr}{ta tb tc:TE}{pos:Pos}
def rSlS:V->Option Int->Option Int->Hp->VK->Prop:=λx lo hi H Q=>∃z,x=.str z/\z.length<=sLn/\Q (.str (Txt.slice z lo hi)) H
def zmn:SlR X rSlS:=by
 intro pins s Y H x v vl vu lo hi sl Q I rx hs pl pu h;obtain⟨z,rfl,hz,q⟩:=h;obtain⟨t,rfl⟩:=rx;refine⟨"str",_,F.slot_str_getitem.lookup,typeIs_str _ _ _,?_⟩;obtain⟨o,e1,e2,e3⟩:=hs;cases pl with
|none=>
   cases pu with
  |none=>exact wbW (l:=none) (u:=none) (st:=none) ⟨o,e1,e2,e3⟩ rfl (post_val_or_str ⟨wao (Txt.slice_le z _ _) hz,λt' k=>⟨.str (Txt.slice z none none),H,I.tok _,⟨_,rfl⟩,q⟩⟩)
  |int j uj=>exact wbW (l:=none) (u:=some (j,uj)) (st:=none) ⟨o,e1,e2,e3⟩ rfl (post_val_or_str ⟨wao (Txt.slice_le z _ _) hz,λt' k=>⟨.str (Txt.slice z none (some j)),H,I.tok _,⟨_,rfl⟩,q⟩⟩)
|int i ui=>
   cases pu with
  |none=>exact wbW (l:=some (i,ui)) (u:=none) (st:=none) ⟨o,e1,e2,e3⟩ rfl (post_val_or_str ⟨wao (Txt.slice_le z _ _) hz,λt' k=>⟨.str (Txt.slice z (some i) none),H,I.tok _,⟨_,rfl⟩,q⟩⟩)
  |int j uj=>exact wbW (l:=some (i,ui)) (u:=some (j,uj)) (st:=none) ⟨o,e1,e2,e3⟩ rfl (post_val_or_str ⟨wao (Txt.slice_le z _ _) hz,λt' k=>⟨.str (Txt.slice z (some i) (some j)),H,I.tok _,⟨_,rfl⟩,q⟩⟩)
def zgu {z:Str}{n:Int}(h1:-1000<=n)(h2:n<=1000)(h3:z.length<=1000):MulOk z n:=by
 refine⟨?_,λh _=>?_,λh _=>?_⟩
 .have e1:¬n < -(2 ^ 63:Int):=by omega
  have e2:¬n≥2 ^ 63:=by omega
  rw[waz e1,waz e2];rfl
 .have:(1000:Int)<=(2 ^ 63 - 1) / n:=by
   rw[Int.le_ediv_iff_mul_le (by omega)];omega
  omega
 .have h4:z.length*n.toNat<=1000*1000:=wcP h3 (by omega)
  unfold PySem.Builtin.Str.tooLong;simp only[decide_eq_false_iff_not];have:sLn=16777216:=sizeLine_eq
  omega
def op_rep_str:OpR X (binaryOp .Mult) (λx y H Q=>∃z n,x=.str z/\y=.int n/\-1000<=n/\n<=1000/\z.length<=1000/\Q (.str (Txt.mul z n)) H):=by
 intro pins s Y H x y v u Q I rx ry h;obtain⟨z,n,rfl,rfl,h1,h2,h3,q⟩:=h;obtain⟨t,rfl⟩:=rx;obtain⟨t',rfl⟩:=ry;exact SB.mul (zgu h1 h2 h3) λt' k=>⟨.str (Txt.mul z n),H,I.tok _,⟨_,rfl⟩,q⟩
def zgv:zci X (.builtin "isinstance") (λxs H Q=>∃x n t k,xs = [x,.ty n]/\TyOf X.K H x t/\PySem.W.kitOne X.K t (.type n)=some k/\Q (.bl k) H):=by
 intro pins s Y H xs us Q I r h;obtain⟨x,n,t,k,rfl,ty,e,q⟩:=h;obtain⟨u,w',rfl,r1,r2⟩:=zkP r;obtain rfl:w'=Value.type n:=r2;exact ziV I r1 ty e λtk=>⟨.bl k,H,I.tok _,rfl,q⟩
end
def ObjOk.there {P:Pm}{w:World}{H:Hp}{h:Heap}{a:Addr}{o:HO}(x:ObjOk P w H h a o):∃ob,h.get? a=some ob:=by
 induction o with
|lst xs=>obtain⟨z,its,n,r,e⟩:=x;exact⟨_,e⟩
|tup xs=>obtain⟨z,its,r,ob,e,c⟩:=x;exact⟨_,e⟩
|dK kvs=>obtain⟨z,y,vs,r,ob,es,ep,e,c⟩:=x;exact⟨_,e⟩
|dT kvs=>obtain⟨z,y,xs,r,ob,es,ep,e,c⟩:=x;exact⟨_,e⟩
|set S n=>obtain⟨ob,es,ep,t,e,c⟩:=x;exact⟨_,e⟩
|ins C dx fs=>obtain⟨d,z,ne,e,_⟩:=x;exact⟨_,e⟩
|own y=>exact x
|xd fs=>obtain⟨mA,⟨od,es,ep,e,c⟩,r⟩:=x;exact⟨_,e⟩
|rng lo hi=>obtain⟨t,u,v,e⟩:=x;exact⟨_,e⟩
|frz ob u ih=>exact⟨_,x.1⟩
|tbl ps=>obtain⟨_,e,_⟩:=x;exact⟨_,e⟩
|met f y=>exact⟨_,x⟩
|ext B=>exact x.2.1
section
variable {P:Pm}{w:World}{K:Fg}{mg:Str->Option Vl}{base:Heap}
def Fun.okC {x qual:Str}{st:Stmt}{f:Addr}{fd:Fu}{N ps:List Str}{k:Nat}{sp:Sp}(F:Fun K x qual st f fd)(S:FnScope N ps (zab st))(len:∀vs H Q E,sp vs H Q E->vs.length=ps.length)
 (qK:∀(cdv:Vl) (A:Ao) (outer:List Env) (s:Sd) (H:Hp) (vs:List V) (Q:VK) (E:XK),fd.code=cdv->Room k (A.deeper (envOfC qual (zab st) s.heap.objs.size f cdv))->sp vs H Q E->
  ∃t,PSs (cxOf CX0 P w K mg base N qual (zab st) f cdv A outer s H E).nox (zaI st) t/\t {nx:=λ_ H'=>Q .non H',rt:=Q} (start N vs) H):FnOk P w K mg base CX0 (k+1) f fd ps sp:=by
 obtain⟨oc,od,kV,doc,pm,an,cdv,ct,osl,rfl,lk,hcd⟩:=F.ex;refine zkR lk hcd S len λA outer s H vs Q E hr hsp=>?_
 obtain⟨t,h,q⟩:=qK cdv A outer s H vs Q E rfl hr hsp;exact⟨t,h.nox,q⟩
end
structure Tabs (K:Fg)(h:Heap)(tb:List Addr):Prop where
 at_:∀P∈tb,∃c,h.TableAt c P #[]
 out:∀P∈tb,K.lookup P=none
def zi5 {P:Pm}{w:World}{K:Fg}{mg mb:Str->Option Vl}{CX:CXT}{k:Nat}{fa a bm:Addr}{ob:Obj}{fd:Fu}{x:Str}{sp:Sp}{s₁:Sd}{vs:List Vl}{ns:List Int}{tb:List Addr}{nm:Addr->Array Vl}
 (KX:K.In s₁.heap) (hns:s₁.heap.Ns mG mg) (hb:s₁.heap.Ns bNs mb) (hbb:∀x:Str,x≠"__name__"->mb x=bBs x) (hlim:s₁.heap.NoLimit) (hg:s₁.gens=#[]) (hBM:BMod s₁.heap mG mg bm ob)
 (ha:s₁.heap.get? a=some {cls:=.type "list",data:=.seq vs.toArray}) (hi:IntsAre vs ns) (hl:ns.length<=sLn) (hr:Room k callerA) (hT:Tabs K s₁.heap tb)
 (F:∀base:Heap,K.In base->base.Ns mG mg->BMod base mG mg bm ob->FnOk P w K mg base CX k fa fd [x] sp) (hbind:∀(s:Sd) (u:Vl),BindsTo s fd ⟨[u],[]⟩ [(x,u)])
 (hsp:∀H:Hp,(∀P∈tb,H P=some (.tbl (nm P)))->SqL K H a (ns.map V.int)->(H a≠none->∃o xs,H a=some (.frz o (.lst xs)))->sp [.ref a] H (λv _=>v=.bl true) λ_ _ _=>False)
 (hCX:∀H e s',CX [] H s₁ (λ_ _ _=>False) e s'->False) :
 codeAny (model P w) callerA (.call (.ref fa) ⟨[.ref a],[]⟩) (λr s'=>r=.ok (.ret (.bool true))/\OldK s₁.heap s'.heap/\s'.os=s₁.os/\AllBare s'.gens) s₁:=by
 have rv:=zfC hi
 have lenV:=hi.length
 have tabAt:∀P∈tb,s₁.heap.get? P=some (tabO #[]):=λP hP=>by obtain⟨c,h⟩:=hT.at_ P hP;exact h.2
 have aT:a∉tb:=λh=>by have:=tabAt a h;rw[ha] at this;cases this
 have core:∀H:Hp,(∀P∈tb,H P=some (.tbl (nm P)))->SqL K H a (ns.map V.int)->HOk P w H s₁.heap->(∀b,H b≠none->b=a\/b∈tb)->(H a≠none->K.lookup a=none/\∃o xs,H a=some (.frz o (.lst xs)))->
  codeAny (model P w) callerA (.call (.ref fa) ⟨[.ref a],[]⟩) (λr s'=>r=.ok (.ret (.bool true))/\OldK s₁.heap s'.heap/\s'.os=s₁.os/\AllBare s'.gens) s₁:=by
  intro H hTb hS hok hA hK;have base_of:∀{b:Addr}{o:Obj},s₁.heap.get? b=some o->H b=none->(hidT s₁.heap H).get? b=some o:=λe n=>zkH e n
  have noA:∀{b:Addr}{o:Obj},s₁.heap.get? b=some o->o.cls≠.type "list"->(o.cls≠.none\/∃es ep,o.data=.dict es ep)->H b=none:=λ{b o} e d1 d2=>by
   cases q:H b with
  |none=>rfl
  |some u=>
     rcases hA b (by rw[q];simp) with e'|e'
     .subst e';rw[ha] at e;cases e;exact absurd rfl d1
     .rw[tabAt b e'] at e;cases e;rcases d2 with d|⟨es,ep,d⟩
      .exact absurd rfl d
      .cases d
  have noD:∀{b:Addr}{o:Obj}{es:Array DictEntry}{ep:Nat},s₁.heap.get? b=some o->o.data=.dict es ep->H b=none:=λ{b o es ep} e d=>by
   cases q:H b with
  |none=>rfl
  |some u=>
     rcases hA b (by rw[q];simp) with e'|e'
     .subst e';rw[ha] at e;cases e;have d':Data.seq vs.toArray _=Data.dict es ep:=d
      cases d'
     .rw[tabAt b e'] at e;cases e;cases d
  have nsK:∀{b:Addr}{m:Str->Option Vl},s₁.heap.Ns b m->(hidT s₁.heap H).Ns b m:=λ{b m} ⟨o,es,ep,e,d,r⟩=>⟨o,es,ep,base_of e (noD e d),d,r⟩
  have hKb:K.In (hidT s₁.heap H):=λb o e=>base_of (KX b o e) (by
   cases q:H b with
  |none=>rfl
  |some u=>
     rcases hA b (by rw[q];simp) with e'|e'
     .subst e';rw[(hK (by rw[q];simp)).1] at e;cases e
     .rw[hT.out b e'] at e;cases e)
  have hM:Mod K mg (hidT s₁.heap H):=⟨hKb,nsK hns,⟨mb,nsK hb,hbb⟩,let ⟨mc,h1,h2⟩:=hlim;⟨mc,nsK h1,h2⟩⟩
  have hBM':BMod (hidT s₁.heap H) mG mg bm ob:=⟨nsK hBM.ns,hBM.name,hBM.ne,base_of hBM.obj (noA hBM.obj (by rw[hBM.cls];simp) (.inl (by rw[hBM.cls];simp))),hBM.cls,hBM.dict,hBM.data⟩
  have e0:Env0 P w K mg (hidT s₁.heap H) callerA [] s₁ H:=⟨rfl,hM,λb o e=>zm3 e,wbe (ziD _ _),trivial,λb hb=>absurd (show b∈([]:List Addr) from hb) (by simp),hok,.of_eq hg⟩
  refine wcA ((F _ hKb (nsK hns) hBM').run callerA [] s₁ H ⟨[.ref a],[]⟩ [.ref a] [.ref a] _ _ hr e0 (hbind s₁ (.ref a)) (.cons rfl .nil) (hsp H hTb hS λz=>(hK z).2)) λr s' h=>?_
  cases r with
 |error e=>exact(hCX H e s' h).elim
 |ok fl=>
    cases fl with
   |next=>exact False.elim h
   |brk=>exact False.elim h
   |cont=>exact False.elim h
   |ret u=>
      obtain⟨v,H',os,bare,un,hok',r',q⟩:=h;have q':v=.bl true:=q
      subst q';obtain rfl:u=Value.bool true:=r';have key:∀b o,s₁.heap.get? b=some o->asItWas s₁.heap s'.heap b o:=λb o e=>by
       cases q:H b with
      |none=>exact .inl (un.keep b o e q (by intro z;exact absurd (show b∈([]:List Addr) from z) (by simp)) (by simp))
      |some u=>
         rcases hA b (by rw[q];simp) with e'|e'
         .subst e';obtain⟨_,oo,xs,z⟩:=hK (by rw[q];simp);have z2:=un.frzs b oo _ z
          obtain⟨e1,_⟩:=hok b _ z;obtain⟨e2,_⟩:=hok' b _ z2;rw[e] at e1;cases e1;exact .inl e2
         .obtain⟨more,z⟩:=un.tbls b _ (hTb b e');obtain⟨qs,e2,_⟩:=hok' b _ z;obtain⟨c,ht⟩:=hT.at_ b e';rw[tabAt b e'] at e;cases e;exact .inr (.inl ⟨ht.isCodeTable,rfl,#[],qs,rfl,by simpa using e2⟩)
      refine⟨rfl,⟨key,λb o e=>un.there b o e (by simp)⟩,os,bare⟩
 cases hk:K.lookup a with
|some o=>
   have e:=KX a o hk
   rw[ha] at e;cases e;refine core (λb=>if b∈tb then some (.tbl (nm b)) else none) (λP hP=>if_pos hP) (.inr ⟨_,vs.toArray,_,hk,rfl,rfl,rfl,by rw[wad,lenV];exact hl,by simpa using rv⟩) (λb u z=>?_) (λb z=>?_) λz=>absurd (if_neg aT) z
   .by_cases hb':b∈tb
    .have z':=(if_pos hb').symm.trans z
     cases z';exact⟨#[],tabAt b hb',trivial,λpos cv q=>by simp[codeAmong] at q⟩
    .have z':=(if_neg hb').symm.trans z
     cases z'
   .by_cases hb':b∈tb
    .exact .inr hb'
    .exact absurd (if_neg hb') z
|none=>
   have hA:∀b,(if b=a then some (HO.frz {cls:=.type "list",data:=.seq vs.toArray} (.lst (ns.map V.int))) else if b∈tb then some (.tbl (nm b)) else none:Option HO)≠none->b=a\/b∈tb:=λb z=>by
    by_cases h1:b=a
    .exact .inl h1
    .rw[if_neg h1] at z;by_cases h2:b∈tb
     .exact .inr h2
     .rw[if_neg h2] at z;exact absurd rfl z
   refine core (λb=>if b=a then some (.frz {cls:=.type "list",data:=.seq vs.toArray} (.lst (ns.map V.int))) else if b∈tb then some (.tbl (nm b)) else none) (λP hP=>?_) (.inl (.inr ⟨{cls:=.type "list",data:=.seq vs.toArray},if_pos rfl⟩)) (λb u z=>?_) hA λ_=>⟨hk,_,_,if_pos rfl⟩
   .have:P≠a:=λz=>aT (z▸hP)
    show(if P=a then _ else if P∈tb then _ else _)=_
    rw[if_neg this,if_pos hP]
   .by_cases hb':b=a
    .have z':=(if_pos hb').symm.trans z
     cases z';subst hb';exact⟨ha,by rw[waf];exact hl,vs,_,rv,ha⟩
    .have z':=(if_neg hb').symm.trans z
     by_cases h2:b∈tb
     .have z2:=(if_pos h2).symm.trans z'
      cases z2;exact⟨#[],tabAt b h2,trivial,λpos cv q=>by simp[codeAmong] at q⟩
     .have z2:=(if_neg h2).symm.trans z'
      cases z2
def zgw {K:Fg}{h:Heap}{mg:Str->Option Vl}{c P:Addr}{ps:Array Vl}(X:K.In h)(G:h.Ns mG mg)(B:Based h h c P ps)(hK:PySem.W.kb_classed K=true):K.lookup P=none:=by
 cases e:K.lookup P with
|none=>rfl
|some o=>
   have ha:=X P o e
   have q:=waB.mp hK (P,o) (PySem.W.kb_mem e)
   simp only[Bool.or_eq_true,decide_eq_true_eq,beq_iff_eq] at q;rcases q with(q|q)|q
   .exact absurd rfl (B.ne_of_cls ha q)
   .exact absurd q B.notStatics
   .exact absurd q.symm (B.ne_of_ns G)
def zkV {l:PySem.W.OpenLaw}{n k:Nat}{q:Pm}{loose:List Str}{XP:(Str->Option Vl)->Heap->Prop}{YP:World->Heap->Prop}{d:DefRec}{K:Params->Fg}{CX:World->CXT}{sp:World->List Addr->(Addr->Array Vl)->Sp}{x:Str}
 (hn:l.most=some n) (hn2:n<=sLn) (hdf:d.params.defaults = []) (hr:Room k callerA)
 (hY:∀(w:World) (h:Heap),YP w h->(K w.params).In h)
 (F:∀(w:World) (mg mb:Str->Option Vl) (mean:ExcName->Option Vl) (fa:Addr) (h:Heap),(K w.params).In h->Top q (PySem.W.looseW q loose) mean mg mb h->mg d.name=some (.ref fa)->
  ∃(fd:Fu) (tb:List Addr) (nm:Addr->Array Vl),Tabs (K w.params) h tb/\(∀(s:Sd) (u:Vl),BindsTo s fd ⟨[u],[]⟩ [(x,u)])/\
   ∀(base:Heap) (bm:Addr) (ob:Obj),(K w.params).In base->base.Ns mG mg->BMod base mG mg bm ob->FnOk l.prog w (K w.params) mg base (CX w) k fa fd [x] (sp w tb nm))
 (hsp:∀(w:World) (tb:List Addr) (nm:Addr->Array Vl) (H:Hp) (a:Addr) (ns:List Int),ns.length<=n->(∀P∈tb,H P=some (.tbl (nm P)))->SqL (K w.params) H a (ns.map V.int)->(H a≠none->∃o xs,H a=some (.frz o (.lst xs)))->sp w tb nm [.ref a] H (λv _=>v=.bl true) λ_ _ _=>False)
 (hCX:∀(w:World) (H:Hp) (s:Sd) (e:Vl) (s':Sd),CX w [] H s (λ_ _ _=>False) e s'->False) :
 PySem.W.WalkO q loose XP YP l.row.toRowW d [] (λf vs=>PySem.call f vs):=by
 refine Att.attach_call hn hdf λw s₀ s₁ mg mb fa o pm cd doc a vs ns G Y ho hd hcd hmg hobj hints qe hg=>?_
 have KX:=hY w _ Y
 obtain⟨fd,tb,nm,hT,hb,hF⟩:=F w mg mb _ fa _ KX G.T hmg;obtain⟨bm,ob,hBM⟩:=PySem.W.bmod_of_top G.T;exact zi5 KX G.T.g G.T.b G.T.builtins G.T.nolimit hg hBM hobj hints (wao qe hn2) hr hT (λbase h1 h2 h3=>hF base bm ob h1 h2 h3) hb (λH hO hS hF=>hsp w tb nm H a ns qe hO hS hF) λH e s'=>hCX w H s₁ e s'
def PTs (X:Cx)(ifs:List Expr)(t:TT):Prop:=
 ∀(pins:List (Addr×Obj)) (s:Sd) (Y:St) (H:Hp) (Q:Bool->Hp->Prop),Inv X pins Y H s->t Y H Q->
  wA (model X.prog X.w) X.A (forIn ifs true λc r=>if r=true then do let ok <-isTrue c X.env (eval c X.env);pure (ForInStep.yield ok) else pure (ForInStep.yield r)) (TP X pins Y Q) X.xe s
def znj:TT:=λ_ H Q=>Q true H
def znk {X:Cx}:PTs X [] znj:=λ_ _ _ H _ I h=>wpAny_tests_nil ⟨H,I,h⟩
def znl {X:Cx}{c:Expr}{t:TT}(h:PT X c t):PTs X [c] t:=λpins s Y H Q I hw=>wpAny_tests_one (h pins s Y H Q I hw)
def cxC (X:Cx)(scope:Scope)(cl:List (Str×Addr))(NC:List Str)(C:Addr)(s0:Sd)(H0:Hp)(ex:List Addr)(pn:List (Addr×Obj)):Cx where
 prog:=X.prog
 w:=X.w
 K:=X.K
 mg:=X.mg
 base:=X.base
 A:=X.A
 N:=NC
 s₀:=s0
 Hz:=H0
 env:=compEnvC scope cl C X.env
 outer:=X.stack
 stack:=X.stack
 ex:=ex
 fn:=λ_=>false
 calm:=true
 pn:=pn
 xe:=λ_ _=>False
def pick (Y:St)(fr:List (Option Nat)):St:=fr.map λo=>o.bind λj=>(Y[j]?).join
def zi6 {prog:Pm}{w:World}{A:Ao}{R:Result->Sd->Prop}{s:Sd}{elt qq qb:Expr}{ifs:List Expr}{scope:Scope}{pos:Pos}{it acc:Vl}{env:Env}(I:Nat->Sd->Prop)
 (qC:∀n s,I n s->wA (model prog w) A (pyNext it) (λr s1=>
  (r=none->R (.ok .next) s1)/\∀v,r=some v->wA (model prog w) A (letOwnedTupleGo qq it v) (λ_ s2=>wA (model prog w) A (assign qq env v) (λ_ s3=>
   wA (model prog w) A (forIn ifs true λc r=>if r=true then do let ok <-isTrue c env (eval c env);pure (ForInStep.yield ok) else pure (ForInStep.yield r)) (λok s4=>
    (ok=true->wA (model prog w) A (eval elt env) (λx s5=>wA (model prog w) A (call (.builtin "list.append") [acc,x]) (λ_ s6=>∃m,m<n/\I m s6) (λ_ _=>False) s5) (λ_ _=>False) s4)/\
    (ok=false->∃m,m<n/\I m s4)) (λ_ _=>False) s3) (λ_ _=>False) s2) (λ_ _=>False) s1) (λ_ _=>False) s)
 (n:Nat) (h:I n s):codeAny (model prog w) A (.compLoop (.ListComp elt [⟨qq,qb,ifs,0⟩] scope pos) 0 it acc env) R s:=by
 refine codeAny_loop rfl I (λn s hI=>?_) n h;refine wpAny_noted (m:=compTurn (.ListComp elt [⟨qq,qb,ifs,0⟩] scope pos) 0 it acc env) ?_;rw[compTurn_list];refine waa (wbs (waa (wav (qC n s hI) (λr s1 h1=>?_) λ_ _ f=>f.elim)));cases r with
|none=>exact wak (h1.1 rfl)
|some v=>
   refine waa (wav (h1.2 v rfl) (λ_ s2 h2=>?_) λ_ _ f=>f.elim);refine waa (wav h2 (λ_ s3 h3=>?_) λ_ _ f=>f.elim);refine waa (wav h3 (λok s4 h4=>?_) λ_ _ f=>f.elim);cases ok with
  |false=>exact wak ⟨rfl,h4.2 rfl⟩
  |true=>exact waa (waa (wav (h4.1 rfl) (λx s5 h5=>waa (wav h5 (λ_ s6 h6=>wak (wak ⟨rfl,h6⟩)) λ_ _ f=>f.elim)) λ_ _ f=>f.elim))
def tGen {A:Type}(ac:A->HO)(t0:A)(fr:List (Option Nat))(wi:TI)(g:TG)(tt:TT)(tel:Addr->A->St->Hp->(A->Hp->Prop)->Prop):TE:=λY H Q=>wi Y H λJ H1=>∀D,H1 D=none->∃W:Nat->Nat->A->St->Hp->Prop,
 (∃m,W 0 m t0 (pick Y fr) (upd H1 D (ac t0)))/\∀i m ys Y2 H2,W i m ys Y2 H2->H2 D=some (ac ys)->
  (J.stop i H2/\Q (.ref D) H2)\/(J.go i H2/\∃N:A->St->Hp->Prop,(∀zs Y' H',N zs Y' H'->∃m',m'<m/\W (i+1) m' zs Y' H')/\∀x H3,J.yld i H2 x H3->g x Y2 H3 λY4 H4=>tt Y4 H4 λok H5=>
   (ok=true->tel D ys Y4 H5 λzs H6=>N zs Y4 H6)/\
   (ok=false->H5 D=some (ac ys)/\N ys Y4 H5))
def telL (te:TE)(D:Addr)(ys:List V)(Y:St)(H:Hp)(Q:List V->Hp->Prop):Prop:=te Y H λv H6=>H6 D=some (.lst ys)/\ys.length<sLn/\Q (ys++[v]) (upd H6 D (.lst (ys++[v])))
def zeX (fr:List (Option Nat))(wi:TI)(g:TG)(tt:TT)(te:TE):TE:=tGen HO.lst [] fr wi g tt (telL te)
abbrev ElR:=Env->Addr->(Sd->Prop)->Sd->Prop
def zpu (P:Pm)(w:World)(A:Ao)(wM tg:Expr)(ifs:List Expr)(EL:ElR):Prop:=∀{R:Result->Sd->Prop}{s:Sd}{it:Vl}{D:Addr}{env:Env}(I:Nat->Sd->Prop)
    (_:∀n s,I n s->wA (model P w) A (pyNext it) (λr s1=>
     (r=none->R (.ok .next) s1)/\∀v,r=some v->wA (model P w) A (letOwnedTupleGo tg it v) (λ_ s2=>wA (model P w) A (assign tg env v) (λ_ s3=>
      wA (model P w) A (forIn ifs true λc r=>if r=true then do let ok <-isTrue c env (eval c env);pure (ForInStep.yield ok) else pure (ForInStep.yield r)) (λok s4=>
       (ok=true->EL env D (λs6=>∃m,m<n/\I m s6) s4)/\
       (ok=false->∃m,m<n/\I m s4)) (λ_ _=>False) s3) (λ_ _=>False) s2) (λ_ _=>False) s1) (λ_ _=>False) s)
    (n:Nat) (_:I n s),codeAny (model P w) A (.compLoop wM 0 it (.ref D) env) R s
def zpv (P:Pm)(w:World)(A:Ao)(wM:Expr):Prop:=∀{R:Result->Sd->Prop}{s:Sd}{it acc:Vl}{env:Env},codeAny (model P w) A (.compLoop wM 0 it acc env) R s->
    wA (model P w) A (pyIter it) (λit' s'=>codeAny (model P w) A (.compLoop wM 0 it' acc env) R s') (notedBy (model P w) A env λx s'=>R (.error x) s') s->codeAny (model P w) A (.compStart wM 0 it acc env) R s
def zhe {X:Cx}{A:Type}{ac:A->HO}{t0:A}{Tn:String}{dt:Data}{wM:Expr}{EL:ElR}{tel:Addr->A->St->Hp->(A->Hp->Prop)->Prop}{use:Option (Vl->Sem Unit)}{R:Vl->Sd->Prop}{pins:List (Addr×Obj)}{s:Sd}{Y:St}{H:Hp}{Q:VK}{qt:Pos}{qb tg:Expr}{ifs:List Expr}{scope:Scope}{cl:List (Str×Addr)}{NC:List Str}{fr:List (Option Nat)}{wi:TI}{g:TG}{tt:TT}{RR:Hp->Prop}(hRR:∀pins Y H s,Inv X pins Y H s->RR H)(qm:X.calm=true)(hi:PI X tg qb wi)
 (wL:closureFor scope X.env=pure cl) (qg:∀y∈scope.names,y.2≠.cell) (qh:scope.kind=.function) (qi:∀y∈scope.names,y.2=.local->scope.names.lookup y.1=some .local)
 (hcl:∀x c,cl.lookup x=some c->X.env.cells.lookup x=some c)
 (wu:∀x,((compEnvC scope cl 0 X.env).kindOf x=some .cell\/(compEnvC scope cl 0 X.env).kindOf x=some .free)->∃c,cl.lookup x=some c)
 (hfr:∀(i:Nat) (x:Str) (j:Nat),NC[i]?=some x->fr[i]?=some (some j)->X.N[j]?=some x/\Vis X.env.scope x/\X.env.kindOf x≠some .local/\((compEnvC scope cl 0 X.env).kindOf x=some .cell\/(compEnvC scope cl 0 X.env).kindOf x=some .free))
 (qe:fr.length=NC.length)
 (hg:∀C s0 H0 ex pn,PG (cxC X scope cl NC C s0 H0 ex pn) tg g) (ht:∀C s0 H0 ex pn,PTs (cxC X scope cl NC C s0 H0 ex pn) ifs tt) (hcls:clausesOf wM = [⟨tg,qb,ifs,0⟩]) (hd:sizeOk dt)
 (hob:∀{pins Y H H' s},Inv X pins Y H s->ObjOk X.prog X.w H' (s.heap.push {cls:=.type Tn,dict:=none,data:=dt}) s.heap.objs.size (ac t0)) (LP:zpu X.prog X.w X.A wM tg ifs EL) (SR:zpv X.prog X.w X.A wM)
 (hel:∀C s0 H0 ex pn,RR H0->∀(pins:List (Addr×Obj)) (D:Addr) (ys:A) (s:Sd) (Y:St) (H:Hp) (Po:Sd->Prop) (F:A->Hp->Prop),Inv (cxC X scope cl NC C s0 H0 ex pn) pins Y H s->tel D ys Y H F->
  (∀s' zs H',Inv (cxC X scope cl NC C s0 H0 ex pn) pins Y H' s'->H' D=some (ac zs)->F zs H'->Po s')->EL (compEnvC scope cl C X.env) D Po s)
 (hs:∀x,fSI qb X.env x=pure x) (I:Inv X pins Y H s) (h:tGen ac t0 fr wi g tt tel Y H Q)
 (hfin:∀(C D:Addr) (H':Hp) (s':Sd) (m:Str->Option Vl),Inv X pins Y H' s'->s'.heap.Ns C m->FpOk X pins H' C->Q (.ref D) H'->compPost (model X.prog X.w) X.A X.xe use R (.ref D) C (.ok .next) s') :
 wA (model X.prog X.w) X.A (comprehension wM scope X.env qt (newObj (.type Tn) dt none) false (eval qb X.env) use) R X.xe s:=by
 refine wpAny_comprehension_free (use:=use) (g:=⟨tg,qb,ifs,0⟩) (gs:=[]) hcls hs wL qh qi (thn (hi pins s Y H _ I h) λv s1 h1=>thn h1 λitv s2 h2=>?_);obtain⟨it,fp,tn,J,H1,e,I2,T,st2,f2,hW⟩:=h2;subst e;refine wbr (wpAny_newFunctionEnv qg (by intro y hy;simp at hy) (λh4 hn4 hs4=>?_) qh) hd;have hD0:H1 s2.heap.objs.size=none:=I2.hok.fresh (wan _)
 obtain⟨W,⟨m0,w0⟩,qC⟩:=hW s2.heap.objs.size hD0;generalize hDe:s2.heap.objs.size=D at hD0 w0 qC;generalize h3e:s2.heap.push {cls:=.type Tn,dict:=none,data:=dt}=h3 at hn4 hs4;have sz3:h3.objs.size=D+1:=by rw[<-h3e,wbJ,hDe]
 have k3:∀b o,s2.heap.get? b=some o->h3.get? b=some o:=λb o e=>by rw[<-h3e];exact wae _ e
 have ltD:∀{b:Addr}{o:Obj},s2.heap.get? b=some o->b<D:=λe=>by rw[<-hDe];exact wal e
 have I3:Inv X pins Y (upd H1 D (ac t0)) {s2 with heap:=h3}:=I2.laid (h':=h3) (t':=s2.toks) k3 (wbe hDe) (by rw[<-h3e,<-hDe];exact hob I2)
 have rH:=hRR _ _ _ _ I3
 generalize hCe:h3.objs.size=C at hn4 hs4;have k4:∀b o,h3.get? b=some o->h4.get? b=some o:=λb o e=>hs4.extBut b o (λz=>by rw[z,<-hCe] at e;exact absurd (wal e) (waT _)) (wae _ e)
 have ltC:∀{b:Addr}{o:Obj},h3.get? b=some o->b<C:=λe=>by rw[<-hCe];exact wal e
 have hne:∀(c:Env->Addr),True:=λ_=>trivial
 have okC:(cxC X scope cl NC C {s2 with heap:=h3} (upd H1 D (ac t0)) fp (X.pn++pins)).Ok:=by
  refine⟨I.ok.mod,?_,I.ok.glob,I.ok.blt,wbe hCe,λx y c h1 h2=>I.ok.inj x y c (hcl x c h1) (hcl y c h2),λx hx=>wu x hx,λx c hf _=>(by cases hf),λ_=>I.ok.hd qm,I.ok.frames,.inl rfl,λb hb=>⟨?_,λx c e=>?_⟩,λb o e=>I3.bs b o e,?_,λb o e hb=>?_,λb hb hf=>?_,?_,λb hb=>I3.stkFree b hb⟩
  .show(relabel scope X.env).kind=.function
   exact qh
  .obtain⟨o,eo,_⟩:=T.obj _ _ st2 b hb;exact wax (ltC (k3 b o eo))
  .exact(f2 b hb).2.2.2.2.1 x c (hcl x c e)
  .exact wao I.ok.bsz I3.sz
  .obtain⟨e1,_⟩:=I.ok.bs b o e;have f:=f2 b hb
   rcases f.2.2.2.1 with z|z
   .exact I.ok.noex b o e z
   .exact absurd (waq (wal e1) z) (waT _)
  .rcases wap.mp (I2.stkSub b hf) with z|z
   .exact(f2 b hb).2.1 z
   .exact(f2 b hb).2.2.1 z
  .exact I3.stack
 have IC:Inv (cxC X scope cl NC C {s2 with heap:=h3} (upd H1 D (ac t0)) fp (X.pn++pins)) [] (pick Y fr) (upd H1 D (ac t0)) {s2 with heap:=h4,toks:=s2.toks+([]:List (Str×Vl)).length}:=by
  refine⟨okC,rfl,I2.bare,Un.kept k4,⟨_,hn4,λi x v hN hv hvis=>?_⟩,λx c e=>?_,?_,λx c e=>I3.freeC x c (hcl x c e),λp hp=>?_,I3.hok.kept k4,?_⟩
  .have hfi:∃j,fr[i]?=some (some j)/\Y[j]?=some (some v):=by
    unfold pick at hv;rw[wah] at hv;cases e1:fr[i]? with
   |none=>rw[e1] at hv;cases hv
   |some o=>
      rw[e1] at hv;cases o with
     |none=>cases hv
     |some j=>
        refine⟨j,rfl,?_⟩;have hv':(Y[j]?).join=some v:=was hv
        cases e2:Y[j]? with
       |none=>rw[e2] at hv';cases hv'
       |some w'=>rw[e2] at hv';exact wbi some hv'
   obtain⟨j,hj,hσ⟩:=hfi;obtain⟨q1,q2,q3,q4⟩:=hfr i x j hN hj;obtain⟨m,hm,hl⟩:=I3.loc;obtain⟨u,ru,lk⟩:=hl j x v q1 hσ q2;refine⟨u,ru,?_⟩;rcases lk with⟨z,_⟩|⟨_,c,ec,ic⟩
   .exact absurd z q3
   .obtain⟨c',ec'⟩:=wu x q4;have:c'=c:=by rw[hcl x c' ec'] at ec;exact was ec
    subst this;obtain⟨oc,h1,h2⟩:=ic;exact .inr ⟨q4,c',ec',oc,k4 _ _ h1,h2⟩
  .obtain⟨v,oc,h1,h2⟩:=I3.cell x c (hcl x c e);exact⟨v,oc,k4 _ _ h1,h2⟩
  .show upd H1 D (ac t0) C=none
   exact I3.hok.fresh (wbe hCe)
  .have hp':p∈X.pn++pins:=by simpa[cxC] using hp
   obtain⟨e1,e2,e3,e4,e5⟩:=I3.pin p hp';refine⟨k4 _ _ e1,e2,wax (ltC e1),λz=>?_,e5⟩;rcases wap.mp (I2.stkSub p.1 z) with z'|z'
   .exact e3 z'
   .exact e4 z'
  .unfold pick;rw[waf];exact qe
 have fC:∀b∈fp,FpOk (cxC X scope cl NC C {s2 with heap:=h3} (upd H1 D (ac t0)) fp (X.pn++pins)) [] H1 b:=λb hb=>by
  obtain⟨q1,q2,q3,q4,q5,q6⟩:=f2 b hb;obtain⟨o,eo,_⟩:=T.obj _ _ st2 b hb;refine⟨q1,wax (ltC (k3 b o eo)),λz=>?_,.inl hb,λx c e=>q5 x c (hcl x c e),λp hp=>q6 p (by simpa[cxC] using hp)⟩;rcases wap.mp (I2.stkSub b z) with z'|z'
  .exact q2 z'
  .exact q3 z'
 have stat:∀{H':Hp},(∀b∈fp,H' b=none)->∀b∈fp,FpOk (cxC X scope cl NC C {s2 with heap:=h3} (upd H1 D (ac t0)) fp (X.pn++pins)) [] H' b:=λhn b hb=>⟨hn b hb,(fC b hb).2⟩
 have fD:∀b∈fp,b≠D:=λb hb z=>by
  obtain⟨o,eo,_⟩:=T.obj _ _ st2 b hb;have:=ltD eo
  rw[z] at this;exact absurd this (waT _)
 have st4:tn 0 h4:=T.keep _ _ _ st2 λb hb o e=>k4 b o (k3 b o e)
 have fin:∀{Y':St}{H':Hp}{s':Sd},Inv (cxC X scope cl NC C {s2 with heap:=h3} (upd H1 D (ac t0)) fp (X.pn++pins)) [] Y' H' s'->Q (.ref D) H'->compPost (model X.prog X.w) X.A X.xe use R (.ref D) C (.ok .next) s':=λ{Y' H' s'} I' q'=>by
  obtain⟨m,hm,_⟩:=I'.loc;have hfp:FpOk X pins H' C:=⟨I'.free,(I3.fpOk (wbe hCe) (I3.hok.fresh (wbe hCe))).2⟩
  refine hfin C D H' s' m ?_ hm hfp q';have nC:∀{b:Addr}{o:Obj},s2.heap.get? b=some o->b≠C:=λe=>wax (ltC (k3 _ _ e))
  have nD:∀{b:Addr}{o:Obj},s2.heap.get? b=some o->b≠D:=λe=>wax (ltD e)
  refine I2.call' (s':=s') (ch:=fp) ?_ ⟨λb o e n hf hx=>?_,λb o e n hf hx=>?_,λb o e n hx=>?_,λb o e hx=>?_,λb xs e=>?_,λb o u e=>?_,λb ps e=>?_⟩ (λb u e=>?_) I'.bare λb hb=>?_
  .exact I'.os
  .exact(I'.base.keep b o (k3 b o e) (by show upd H1 D _ b=none;rw[zaf (nD e)];exact n) hf hx)
  .obtain⟨sl,z⟩:=I'.base.slot b o (k3 b o e) (by show upd H1 D _ b=none;rw[zaf (nD e)];exact n) hf hx;exact⟨sl,z⟩
  .exact I'.base.free b o (k3 b o e) (by show upd H1 D _ b=none;rw[zaf (nD e)];exact n) hx
  .obtain⟨o',z⟩:=I'.base.there b o (k3 b o e) hx;exact⟨o',z⟩
  .exact I'.base.tups b xs (by show upd H1 D _ b=_;rw[zaf (zaV e hD0)];exact e)
  .exact I'.base.frzs b o u (by show upd H1 D _ b=_;rw[zaf (zaV e hD0)];exact e)
  .exact I'.base.tbls b ps (by show upd H1 D _ b=_;rw[zaf (zaV e hD0)];exact e)
  .exact I'.hok b u e
  .obtain⟨q1,q2,q3,q4,q5,q6⟩:=f2 b hb;exact⟨q4,q2,q5,q6⟩
 have loop:codeAny (model X.prog X.w) X.A (.compLoop wM 0 (.ref it) (.ref D) (compEnvC scope cl C X.env)) (compPost (model X.prog X.w) X.A X.xe use R (.ref D) C) {s2 with heap:=h4,toks:=s2.toks+([]:List (Str×Vl)).length}:=by
  refine LP (λn s'=>∃i ys Y' H',Inv (cxC X scope cl NC C {s2 with heap:=h3} (upd H1 D (ac t0)) fp (X.pn++pins)) [] Y' H' s'/\tn i s'.heap/\(∀b∈fp,H' b=none)/\H' D=some (ac ys)/\W i n ys Y' H') ?_ m0 ⟨0,t0,_,_,IC,st4,λb hb=>by rw[zaf (fD b hb)];exact(f2 b hb).1,zae,w0⟩;rintro n s3 ⟨i,ys,Y3,H3,J3,st3,fr3,hD3,w3⟩;rcases qC i n ys Y3 H3 w3 hD3 with⟨stop,qn⟩|⟨go,N,hN,step⟩
  .refine thn (T.done (cxC X scope cl NC C {s2 with heap:=h3} (upd H1 D (ac t0)) fp (X.pn++pins)) rfl rfl rfl rfl i [] s3 Y3 H3 _ J3 (stat fr3) st3 stop) λr s4 ⟨hr,J4⟩=>⟨λ_=>fin J4 qn,λv z=>?_⟩
   rw[hr] at z;cases z
  .refine thn (T.item (cxC X scope cl NC C {s2 with heap:=h3} (upd H1 D (ac t0)) fp (X.pn++pins)) rfl rfl rfl rfl i [] s3 Y3 H3 _ J3 (stat fr3) st3 go) λr s4 ⟨u,hr,h4'⟩=>⟨λz=>?_,λv z=>?_⟩
   .rw[hr] at z;cases z
   rw[hr] at z;cases z;refine thn h4' λ_ s5 ⟨x,H5,J5,r5,y5,st5,fr5⟩=>?_
   have J5':=J5.pinned (stat fr5) (T.obj _ _ st5)
   refine thn (hg C _ _ fp _ _ s5 Y3 H5 x _ _ J5' r5 (step x H5 y5)) λ_ s6 ⟨Y6,H6,J6,q6⟩=>?_
   have back:∀{Y7:St}{H7:Hp}{s7:Sd},Inv (cxC X scope cl NC C {s2 with heap:=h3} (upd H1 D (ac t0)) fp (X.pn++pins)) ([]++zfs fp s5.heap) Y7 H7 s7->tn (i+1) s7.heap/\∀b∈fp,H7 b=none:=λ{Y7 H7 s7} J7=>
    ⟨T.keep _ _ _ st5 λb hb o e=>(J7.pin (b,o) (wat _ (wat _ (zbv hb e)))).1,λb hb=>by
     obtain⟨o,e,d⟩:=T.obj _ _ st5 b hb;exact(J7.pin (b,o) (wat _ (wat _ (zbv hb e)))).2.1⟩
   refine thn (ht C _ _ fp _ _ s6 Y6 H6 _ J6 q6) λok s7 ⟨H7,J7,q7⟩=>⟨λhok=>?_,λhok=>?_⟩
   .refine hel C _ _ fp _ rH _ D ys s7 Y6 H7 _ _ J7 (q7.1 hok) λs9 zs H9 J9 hD9 n9=>?_
    obtain⟨m',hm,w8⟩:=hN _ _ _ n9;obtain⟨b1,b2⟩:=back J9;exact⟨m',hm,i+1,_,_,_,J9.unpinned,b1,b2,hD9,w8⟩
   .obtain⟨hD7,n7⟩:=q7.2 hok;obtain⟨m',hm,w7⟩:=hN _ _ _ n7;obtain⟨b1,b2⟩:=back J7;exact⟨m',hm,i+1,_,_,_,J7.unpinned,b1,b2,hD7,w7⟩
 exact SR loop (T.self X.A 0 _ _ _ st4 loop)
def zhf {X:Cx}{use:Option (Vl->Sem Unit)}{R:Vl->Sd->Prop}{pins:List (Addr×Obj)}{s:Sd}{Y:St}{H:Hp}{Q:VK}{qt:Pos}{elt qb tg:Expr}{ifs:List Expr}{scope:Scope}{pos:Pos}{cl:List (Str×Addr)}{NC:List Str}{fr:List (Option Nat)}{wi:TI}{g:TG}{tt:TT}{te:TE}{RR:Hp->Prop}(hRR:∀pins Y H s,Inv X pins Y H s->RR H)(qm:X.calm=true)(hi:PI X tg qb wi)
 (wL:closureFor scope X.env=pure cl) (qg:∀y∈scope.names,y.2≠.cell) (qh:scope.kind=.function) (qi:∀y∈scope.names,y.2=.local->scope.names.lookup y.1=some .local)
 (hcl:∀x c,cl.lookup x=some c->X.env.cells.lookup x=some c)
 (wu:∀x,((compEnvC scope cl 0 X.env).kindOf x=some .cell\/(compEnvC scope cl 0 X.env).kindOf x=some .free)->∃c,cl.lookup x=some c)
 (hfr:∀(i:Nat) (x:Str) (j:Nat),NC[i]?=some x->fr[i]?=some (some j)->X.N[j]?=some x/\Vis X.env.scope x/\X.env.kindOf x≠some .local/\((compEnvC scope cl 0 X.env).kindOf x=some .cell\/(compEnvC scope cl 0 X.env).kindOf x=some .free))
 (qe:fr.length=NC.length)
 (hg:∀C s0 H0 ex pn,PG (cxC X scope cl NC C s0 H0 ex pn) tg g) (ht:∀C s0 H0 ex pn,PTs (cxC X scope cl NC C s0 H0 ex pn) ifs tt) (he:∀C s0 H0 ex pn,RR H0->PE (cxC X scope cl NC C s0 H0 ex pn) elt te)
 (hs:∀x,fSI qb X.env x=pure x) (I:Inv X pins Y H s) (h:zeX fr wi g tt te Y H Q)
 (hfin:∀(C D:Addr) (H':Hp) (s':Sd) (m:Str->Option Vl),Inv X pins Y H' s'->s'.heap.Ns C m->FpOk X pins H' C->Q (.ref D) H'->compPost (model X.prog X.w) X.A X.xe use R (.ref D) C (.ok .next) s') :
 wA (model X.prog X.w) X.A (comprehension (.ListComp elt [⟨tg,qb,ifs,0⟩] scope pos) scope X.env qt (newList []) false (eval qb X.env) use) R X.xe s:=by
 refine zhe (Tn:="list") (dt:=.seq ([]:List Vl).toArray) (ac:=HO.lst) (t0:=[]) (tel:=telL te) (EL:=λenv D Q s=>wA (model X.prog X.w) X.A (eval elt env) (λx s5=>wA (model X.prog X.w) X.A (call (.builtin "list.append") [.ref D,x]) (λ_ s6=>Q s6) (λ_ _=>False) s5) (λ_ _=>False) s)
  hRR qm hi wL qg qh qi hcl wu hfr qe hg ht rfl (by size_fits) (λI=>⟨wbx _,[],0,.nil,waw _ rfl⟩) (λI qC n h=>zi6 I qC n h) (λa b=>codeAny_compStart_list (rest:=[]) a b) (λC s0 H0 ex pn rH pins D ys s Y H Po F J q k=>?_) hs I h hfin
 refine thn (he C _ _ _ _ rH _ s Y H _ J q) λxv s8 ⟨v,H8,J8,r8,hD8,hz,n8⟩=>?_
 refine thn (zfB (X:=cxC X scope cl NC C s0 H0 ex pn) _ s8 Y H8 (.ref D) [v] (.ref D) [xv] (λ_ H9=>H9=upd H8 D (.lst (ys++[v]))) J8 rfl (.cons r8 .nil) ⟨D,ys,v,rfl,rfl,hD8,hz,rfl⟩) λ_ s9 ⟨_,H9,J9,_,e9⟩=>?_
 subst e9;exact k s9 _ _ J9 zae n8
def zkW {X:Cx}{elt qb tg:Expr}{ifs:List Expr}{scope:Scope}{pos:Pos}{cl:List (Str×Addr)}{NC:List Str}{fr:List (Option Nat)}{wi:TI}{g:TG}{tt:TT}{te:TE}{RR:Hp->Prop}(hRR:∀pins Y H s,Inv X pins Y H s->RR H)(qm:X.calm=true)(hi:PI X tg qb wi)
 (wL:closureFor scope X.env=pure cl) (qg:∀y∈scope.names,y.2≠.cell) (qh:scope.kind=.function) (qi:∀y∈scope.names,y.2=.local->scope.names.lookup y.1=some .local)
 (hcl:∀x c,cl.lookup x=some c->X.env.cells.lookup x=some c)
 (wu:∀x,((compEnvC scope cl 0 X.env).kindOf x=some .cell\/(compEnvC scope cl 0 X.env).kindOf x=some .free)->∃c,cl.lookup x=some c)
 (hfr:∀(i:Nat) (x:Str) (j:Nat),NC[i]?=some x->fr[i]?=some (some j)->X.N[j]?=some x/\Vis X.env.scope x/\X.env.kindOf x≠some .local/\((compEnvC scope cl 0 X.env).kindOf x=some .cell\/(compEnvC scope cl 0 X.env).kindOf x=some .free))
 (qe:fr.length=NC.length)
 (hg:∀C s0 H0 ex pn,PG (cxC X scope cl NC C s0 H0 ex pn) tg g) (ht:∀C s0 H0 ex pn,PTs (cxC X scope cl NC C s0 H0 ex pn) ifs tt) (he:∀C s0 H0 ex pn,RR H0->PE (cxC X scope cl NC C s0 H0 ex pn) elt te)
 (hs:∀x,fSI qb X.env x=pure x:=by intro _;rfl):PE X (.ListComp elt [⟨tg,qb,ifs,0⟩] scope pos) (zeX fr wi g tt te):=by
 intro pins s Y H Q I h;rw[eval_ListComp];refine zhf (use:=none) (R:=EP X pins Y Q) hRR qm hi wL qg qh qi hcl wu hfr qe hg ht he hs I h λC D H' s' m I' hm hfp q=>?_
 obtain⟨f0,f1,f2,f3,f4,f5⟩:=hfp;exact⟨m,hm,λh' hs'=>⟨.ref D,H',I'.turned (t':=s'.toks) (λb o hb e=>hs'.extBut b o hb e) f0 f1 f3 f4 f5,rfl,q⟩⟩
def pgC (i:Nat){X:Cx}{scope:Scope}{cl:List (Str×Addr)}{NC:List Str}{C:Addr}{s0:Sd}{H0:Hp}{ex:List Addr}{pn:List (Addr×Obj)}{x:Str}{pos:Pos}(nd:NC.Nodup)(hi:NC[i]?=some x)(hx:scope.names.lookup x=some .local) :
 PG (cxC X scope cl NC C s0 H0 ex pn) (.Name x pos) (zdE i):=zgs (X:=cxC X scope cl NC C s0 H0 ex pn) nd hi (.inl (lookup_relabel_local hx)) (.inr (lookup_relabel_local hx))
end L2
namespace En
open AutoSeq1 (wpAny_loadPart')
section
variable {prog:Pm}{w:World}{A:Ao}{E:Vl->Sd->Prop}{s:Sd}
def znm {it t:Addr}{i:Nat}{items:Array Vl}{x:Vl}{Q:Vl->Sd->Prop}(a1:s.heap.IsTupleIter it t i)(a2:s.heap.IsTuple t items)(a3:items[i]?=some x)
 (q:∀h',h'.IsTupleIter it t (i+1)->Heap.SameBut it s.heap h'->Q x {s with heap:=h'}):wA (model prog w) A (Builtin.SmallTypes.nextOf (.ref it)) Q E s:=by
 obtain⟨o,b1,b2,b3⟩:=id a1;obtain⟨ot,c1,_,n,c2⟩:=a2;unfold Builtin.SmallTypes.nextOf;have body:wA (model prog w) A.in1 (Builtin.«tuple_iterator.__next__» ⟨[.ref it],[]⟩) (λf s'=>∃v,f=.done (.ret v)/\Q v s') E s:=by
  show wA _ _ (do let v <-field (.ref it) 0;_) _ _ s
  refine waa (wbj b1 b3 (x:=.ref t) rfl ?_);show wA _ _ (ite ((Value.ref t == Value.none)=true) _ _) _ _ s
  rw[if_neg (show ¬(Value.ref t == Value.none)=true by intro z;cases z)];show wA _ _ (do let v <-field (.ref it) 1;_) _ _ s
  refine waa (wbj b1 b3 (x:=.int i 0) rfl ?_);show wA _ _ (do let v <-seqItems? (.ref t);_) _ _ s
  refine waa (wpAny_seqItems c1 c2 ?_);simp only[wbA,a3];refine waa (wcf b1 b3 (by simp) (wak ⟨x,rfl,q _ ⟨_,wbm _ b1 (wca (wbv b3 _)),(Obj.cls_mapFields ..).trans b2,?_⟩ (Heap.SameBut.update ..)⟩));rw[wbv b3];simp[rawInt]
 have nx:=F.slot_tuple_iterator_next
 exact waa (wbV (name:=Str.ofString "__next__") a1.typeIs nx (wbX nx a1.typeIs F.entry_tuple_iterator_next (wav body (λf s' ⟨v,e,h⟩=>⟨v,e,wak h⟩) λ_ _ x=>x) (F.args_tuple_iterator_next_1 _)))
def zmo {it t:Addr}{i:Nat}{items:Array Vl}{Q:Vl->Sd->Prop}(hh:A.handled=none)(a1:s.heap.IsTupleIter it t i)(a2:s.heap.IsTuple t items)(a3:items[i]?=none)
 (q:∀h' e,Heap.ExtBut it s.heap h'->(∃o,h'.get? e=some o/\o.cls=.type "StopIteration")->E (.ref e) {s with heap:=h'}):wA (model prog w) A (Builtin.SmallTypes.nextOf (.ref it)) Q E s:=by
 obtain⟨o,b1,b2,b3⟩:=id a1;obtain⟨ot,c1,_,n,c2⟩:=a2;unfold Builtin.SmallTypes.nextOf;have nx:=F.slot_tuple_iterator_next
 refine waa (wbV (name:=Str.ofString "__next__") a1.typeIs nx (wbX nx a1.typeIs F.entry_tuple_iterator_next ?_ (F.args_tuple_iterator_next_1 _)));show wA _ _ (do let v <-field (.ref it) 0;_) _ _ s
 refine waa (wbj b1 b3 (x:=.ref t) rfl ?_);show wA _ _ (ite ((Value.ref t == Value.none)=true) _ _) _ _ s
 rw[if_neg (show ¬(Value.ref t == Value.none)=true by intro z;cases z)];show wA _ _ (do let v <-field (.ref it) 1;_) _ _ s
 refine waa (wbj b1 b3 (x:=.int i 0) rfl ?_);show wA _ _ (do let v <-seqItems? (.ref t);_) _ _ s
 refine waa (wpAny_seqItems c1 c2 ?_);simp only[wbA,a3];refine waa (wcS (waa (wcf b1 b3 (by simp) ?_)));show wA _ _ (do let x <-newExc (.type "StopIteration") [];_) _ _ _
 refine waa ?_;simp only[newExc,newTuple];refine waa (wbr ?_ (by size_fits));refine waa (m:=firstArgMember _ _) (wcx (a:=Value.none) (by first|rfl|(simp only[firstArgMember];rfl)) ?_);refine wbr ?_ (by size_fits);simp only[raiseNew];refine waa (wpAny_handled ?_);first|rw[show A.in1.handled=none from hh]|rw[hh]
 exact waa (wak (wpAny_throw (q _ _ (((Heap.SameBut.update ..).extBut.push _).push _) ⟨_,waw _ rfl,rfl⟩)))
end
def draws_tuple {prog:Pm}{w:World}{A:Ao}(hh:A.handled=none)(it t:Addr)(hne:t≠it)(items:Array Vl) :
 Draws prog w A it [it,t] items.size (λi v=>items[i]?=some v) (λi h=>h.IsTupleIter it t i/\h.IsTuple t items) where
 live:=λ_ _ st=>let ⟨o,ho,_⟩:=st.1;⟨o,ho⟩
 frame:=λ_ _ _ ⟨⟨o,e,r⟩,⟨o',e',r'⟩⟩ hk=>⟨⟨o,hk it (by simp) o e,r⟩,⟨o',hk t (by simp) o' e',r'⟩⟩
 item:=λi s Q E hi st hQ=>znm st.1 st.2 (x:=items[i]) (by simp[hi]) λh' a b=>hQ _ h' s.toks (by simp[hi]) ⟨a,st.2.extBut b.extBut hne⟩ b
 done:=λs Q E st hE=>zmo hh st.1 st.2 (by simp) hE
def draws_end {prog:Pm}{w:World}{A:Ao}(hh:A.handled=none)(it t:Addr)(i:Nat)(items:Array Vl)(hx:items[i]?=none) :
 Draws prog w A it [it,t] i (λi v=>items[i]?=some v) (λj h=>j=i/\h.IsTupleIter it t i/\h.IsTuple t items) where
 live:=λ_ _ st=>let ⟨o,ho,_⟩:=st.2.1;⟨o,ho⟩
 frame:=λ_ _ _ ⟨hj,⟨o,e,r⟩,⟨o',e',r'⟩⟩ hk=>⟨hj,⟨o,hk it (by simp) o e,r⟩,⟨o',hk t (by simp) o' e',r'⟩⟩
 item:=λj s Q E hi st hQ=>by rw[st.1] at hi;exact absurd hi (waT _)
 done:=λs Q E st hE=>zmo hh st.2.1 st.2.2 hx hE
def zi7 (t:Addr)(items:Array Vl)(n:Nat)(dct:Option Addr)(sl:Array (Option Vl)) :
 Meets (Builtin.«enumerate.__new__» ⟨[.type "enumerate",.ref t],[]⟩) (λ_ R s=>s.heap.get? t=some {cls:=.type "tuple",dict:=dct,data:=.seq items n,slots:=sl}/\
  R (.ok (.ret (.ref (s.heap.push {cls:=.type "tuple_iterator",data:=.fields #[.ref t,.int 0 0]}).objs.size)))
    {s with heap:=(s.heap.push {cls:=.type "tuple_iterator",data:=.fields #[.ref t,.int 0 0]}).push {cls:=.type "enumerate",data:=.fields #[.none,.bool false,.ref s.heap.objs.size,rawInt 0,.none,.none]}}):=
 .of_wp λprog w A R s h=>by
  obtain⟨hp,g,d,tk,os⟩:=s;obtain⟨hl,h⟩:=h;have hsub:=PySem.sub_enumerate
  have hL:Heap.IsTuple (Shared.heap ⟨hp,g,d,tk,os⟩) t items:=⟨_,hl,rfl,n,rfl⟩
  wp_walk using wbt hl
  refine wpAny_stack_any λst=>wak ?_
  split
  .rename_i c _ _ _ _ _
   cases(c == Value.type "enumerate")
   .wp_walk using wbt hl,wco hL
    exact⟨_,rfl,h⟩
   .wp_walk using wbt hl,wco hL
    exact⟨_,rfl,h⟩
  .wp_walk using wbt hl,wco hL
   exact⟨_,rfl,h⟩
def call_enum {prog:Pm}{w:World}{A:Ao}{E:Vl->Sd->Prop}{s:Sd}{t:Addr}{items:Array Vl}{Q:Vl->Sd->Prop}(hL:s.heap.IsTuple t items)
 (h:∀h',IsEnum h' (s.heap.objs.size+1) s.heap.objs.size 0 .none->h'.IsTupleIter s.heap.objs.size t 0->h'.objs.size=s.heap.objs.size+2->
  (∀b o,s.heap.get? b=some o->h'.get? b=some o)->Q (.ref (s.heap.objs.size+1)) {s with heap:=h'}) :
 wA (model prog w) A (call (.type "enumerate") [.ref t]) Q E s:=by
 obtain⟨⟨c,dct,dt,sl⟩,hl,hc,n,hd⟩:=hL;obtain rfl:c=.type "tuple":=hc;obtain rfl:dt=.seq items n:=hd;refine callType_new F.called_enumerate (by decide) (F.typeCall_enumerate_1 _) (F.newCall_enumerate_1 _) (λobj=>F.args_object_init_2 obj _) F.entry_enumerate_new (zi7 t items n dct sl) ⟨hl,?_⟩;have hz:(s.heap.push {cls:=.type "tuple_iterator",data:=.fields #[.ref t,.int 0 0]}).objs.size=s.heap.objs.size+1:=wbJ ..
 have q:=waw (s.heap.push {cls:=.type "tuple_iterator",data:=.fields #[.ref t,.int 0 0]}) (o:={cls:=.type "enumerate",data:=.fields #[.none,.bool false,.ref s.heap.objs.size,rawInt 0,.none,.none]}) rfl
 show _/\_
 rw[hz] at q⊢;exact⟨⟨_,q,rfl⟩,h _ q ⟨_,wae _ (waw _ rfl),rfl,rfl⟩ (by rw[wbJ,hz]) λb o x=>wae _ (wae _ x)⟩
end En
namespace L2
open PySem.Spec
def Inv.laidF {X:Cx}{pins:List (Addr×Obj)}{Y:St}{H:Hp}{s:Sd}{h':Heap}{t':Nat}{fp:List Addr}{D:Addr}{o:HO}(I:Inv X pins Y H s)(hf:∀b∈fp,FpOk X pins H b)(k:∀b o,b∉fp->s.heap.get? b=some o->h'.get? b=some o)
 (hth:∀b∈fp,∃o,h'.get? b=some o) (hD:s.heap.get? D=none) (new:ObjOk X.prog X.w (upd H D o) h' D o):H D=none/\Inv X pins Y (upd H D o) {s with heap:=h',toks:=t'}:=by
 have hHD:H D=none:=by
  cases e:H D with
 |none=>rfl
 |some u=>
    obtain⟨ob,q⟩:=(I.hok D u e).there;rw[hD] at q;cases q
 refine⟨hHD,?_⟩;have nit:∀b u,H b=some u->b∉fp:=λb u e z=>by rw[(hf b z).1] at e;cases e
 have nD:∀b u,H b=some u->b≠D:=λb u e z=>by rw[z,hHD] at e;cases e
 have nD':∀b ob,s.heap.get? b=some ob->b≠D:=λb u e z=>by rw[z,hD] at e;cases e
 refine I.step (g':=s.gens) (d':=s.drawn) (t':=t') (ch:=fp) (λb hb=>?_) (λb o _ _ hc e _=>k b o hc e) (λb o _ _ hc e _=>⟨o.slots,k b o hc e⟩) (λb ob _ e n=>by rw[zaf (nD' b ob e)];exact n)
  (λb o hc e=>⟨o,k b o hc e⟩) (λb _ e=>by rw[zaf (nD b _ e)];exact e) (λb _ _ e=>by rw[zaf (nD b _ e)];exact e) (λb ps e=>⟨#[],by rw[zaf (nD b _ e),e];simp⟩) (λm hm=>?_) (λb u e=>?_) I.bare
 .obtain⟨f0,f1,f2,f3,f4,f5⟩:=hf b hb;exact⟨f3,f1,f4,f5⟩
 .obtain⟨o,es,ep,ho,r⟩:=hm;exact⟨o,es,ep,k _ o (λz=>(hf _ z).2.1 rfl) ho,r⟩
 .by_cases z:b=D
  .subst z;rw[zae] at e;cases e;exact new
  .rw[zaf z] at e;refine(I.hok b u e).stay (λc v hc q=>k c v ?_ q) (λc q=>by rw[zaf (nD c _ q)];exact q) λc _ _ q=>by rw[zaf (nD c _ q)];exact q
   rcases hc with z|z
   .rw[z];exact nit b u e
   .exact nit c _ z
def Ite (K:Fg)(a:Addr):It:=
 ⟨λi H=>∃xs x,SqT K H a xs/\xs[i]?=some x,λi H x H'=>∃p,H p=none/\x=.ref p/\∀xs,SqT K H a xs->∃y,xs[i]?=some y/\H'=upd H p (.tup [.int (i:Nat),y]),λi H=>∃xs,SqT K H a xs/\xs.length<=i⟩
def zi8 {P:Pm}{w:World}{K:Fg}{elts:List Expr}{x1}{wj:Pos}(a e it:Addr)(hei:e≠it)(hae:a≠e)(hai:a≠it) :
 Turn P w K (.Tuple elts x1 wj) (Ite K a) [e,it] e (λi h=>(∃old,IsEnum h e it (i:Nat) old)/\h.IsTupleIter it a i) where
 mem:=by simp
 obj:=λi h st b hb=>by
  obtain⟨⟨old,e1⟩,o,e2,c,d⟩:=st;rcases wap.mp hb with z|z
  .subst z;exact⟨_,e1,λv z=>by cases z⟩
  .have z:=wag.mp z
   subst z;exact⟨o,e2,λv z=>by rw[d] at z;cases z⟩
 keep:=λi h h' st k=>by
  obtain⟨⟨old,e1⟩,o,e2,c,d⟩:=st;exact⟨⟨old,k e (by simp) _ e1⟩,o,k it (by simp) _ e2,c,d⟩
 item:=by
  intro X hP hw hK hc i pins s Y H E I hf st hg;subst hP hw hK;obtain⟨⟨old,en⟩,ti⟩:=st;obtain⟨xs,x,hq,hx⟩:=hg;obtain⟨its,rv,p,hz⟩:=I.tuple hq;obtain⟨u,hu,ru⟩:=rv.get hx;have hl:=rv.length
  have hlt:i<its.toArray.size:=by
   rw[wad,<-hl];exact(wab.mp hx).1
  have hh:X.A.in1.handled=none:=I.ok.hd hc
  refine wpAny_pyNext_enum_itemD (En.draws_tuple (A:=X.A.in1) hh it a hai its.toArray) en ⟨ti,p⟩ hlt hei (by simp[hei,Ne.symm hae]) λy h' tk hy en' st' tup sz k=>?_
  have ey:y=u:=by
   have hy':its[i]?=some y:=by simpa using hy
   rw[hu] at hy';exact(was hy').symm
  subst ey;refine⟨_,rfl,wpAny_letOwnedTupleGo_enum en' λh2 en2 sb2=>?_⟩;have frS:s.heap.get? s.heap.objs.size=none:=by
   cases q:s.heap.get? s.heap.objs.size with
  |none=>rfl
  |some o=>exact absurd (wal q) (waT _)
  have neS:∀b∈[e,it],b≠s.heap.objs.size:=λb hb z=>by
   rcases wap.mp hb with q|q
   .have en1:=(show s.heap.get? e=some _ from en)
    rw[<-z,q,en1] at frS;cases frS
   .obtain⟨o,e2,_⟩:=ti;rw[<-z,wag.mp q,e2] at frS;cases frS
  obtain⟨hn,I1⟩:=I.laidF (h':=h2) (t':=tk+1) (fp:=[e,it]) (D:=s.heap.objs.size) (o:=.tup [.int (i:Nat),x]) hf (λb o hb q=>sb2.extBut b o (λz=>hb (by simp[z])) (k b o (λz=>hb (by simp[z])) (λz=>hb (by simp[z])) q))
   (λb hb=>by
    rcases wap.mp hb with q|q
    .subst q;exact⟨_,en2⟩
    .have q:=wag.mp q
     subst q;obtain⟨o,e2,_⟩:=st'.1;exact⟨o,sb2.extBut _ o (Ne.symm hei) e2⟩) frS
   ⟨by show 2<=sLn;decide,[.int (i:Nat) tk,y],.cons ⟨_,rfl⟩ (.cons ru .nil),⟨_,sb2.extBut _ _ (neS e (by simp)).symm tup,rfl,_,rfl⟩⟩
  refine⟨.ref s.heap.objs.size,_,I1,rfl,⟨_,hn,rfl,λys hy=>⟨x,by rw[I.tuple_inj hy hq];exact hx,rfl⟩⟩,⟨⟨_,en2⟩,?_⟩,λb hb=>?_⟩
  .obtain⟨o,e2,c,d⟩:=st'.1;exact⟨o,sb2.extBut _ o (Ne.symm hei) e2,c,d⟩
  .rw[zaf (neS b hb)];exact(hf b hb).1
 done:=by
  intro X hP hw hK hc i pins s Y H E I hf st hg;subst hP hw hK;obtain⟨⟨old,en⟩,ti⟩:=st;obtain⟨xs,hq,hx⟩:=hg;obtain⟨its,rv,p,hz⟩:=I.tuple hq;obtain⟨f0,f1,f2,f3,f4,f5⟩:=hf it (by simp);have hl:=rv.length
  have hh:X.A.in1.handled=none:=I.ok.hd hc
  refine wpAny_pyNext_enum_endD (En.draws_end (A:=X.A.in1) hh it a i its.toArray (by simp;omega)) en ⟨rfl,ti,p⟩ λh' eb=>⟨rfl,I.turned (t':=s.toks) (λb o hb e=>eb b o hb e) f0 f1 f3 f4 f5⟩
 self:=λ_ _ _ _ _ st h=>by
  obtain⟨⟨old,en⟩,_⟩:=st;exact wcy en h
def zrK (K:Fg)(ta:TA):TI:=λY H R=>ta Y H λvs H1=>∃a,vs = [.ref a]/\(∃xs,SqT K H1 a xs)/\R (Ite K a) H1
def zi9 {X:Cx}{elts:List Expr}{x1}{wj:Pos}{l:Expr}{ta:TA}{p pos:Pos}(hg:Gl X "enumerate")(hm:X.mg "enumerate"=none)(ha:PA X [l] ta)(hs:sE [l] X.env = [(false,eval l X.env)]:=by rfl) :
 PI X (.Tuple elts x1 wj) (.Call (.Name "enumerate" p) [l] [] pos) (zrK X.K ta):=by
 intro pins s Y H R I h;refine waQ (zcZ I hg hm boot_enumerate ?_ (by decide) (by decide));refine waZ (thn (ha pos pins s Y H _ I h) λus s1 ⟨vs,H1,I1,rv,q1⟩=>?_) hs rfl;obtain⟨a,e,⟨xs,hq⟩,q⟩:=q1;subst e;obtain⟨u,rfl,r1⟩:=zeS rv;obtain rfl:u=Value.ref a:=r1;obtain⟨its,rv,pt,hz⟩:=I1.tuple hq;refine En.call_enum pt λh' en ti sz k=>?_
 have alt:a<s1.heap.objs.size:=pt.lt
 refine wcy en ⟨s1.heap.objs.size+1,[s1.heap.objs.size+1,s1.heap.objs.size],_,_,H1,rfl,I1.kept (t':=s1.toks) k,zi8 a _ _ (Nat.succ_ne_self _) (wax (Nat.lt_succ_of_lt alt)) (wax alt),⟨⟨_,en⟩,ti⟩,λb hb=>?_,q⟩;rcases wap.mp hb with z|z
 .subst z;exact I1.fpOk (wci _) (I1.hok.fresh (wci _))
 .have z:=wag.mp z
  subst z;exact I1.fpOk (wan _) (I1.hok.fresh (wan _))
section
variable {X:Cx}
def znn:OpR X (binaryOp .Add) (λx y H Q=>∃a b ys,x=.ref a/\y=.ref b/\SqT X.K H a []/\SqT X.K H b ys/\Q (.ref b) H):=by
 intro pins s Y H x y v u Q I rx ry h;obtain⟨a,b,ys,rfl,rfl,ha,hb,q⟩:=h;cases rx;cases ry;obtain⟨its,r1,p1,_⟩:=I.tuple ha;obtain⟨jg,r2,p2,_⟩:=I.tuple hb;have e1:its = []:=r1.nil_iff.mpr rfl
 subst e1;obtain⟨⟨c1,d1,dt1,s1⟩,g1,g2,n1,g3⟩:=p1;obtain⟨⟨c2,d2,dt2,s2⟩,k1,k2,n2,k3⟩:=p2;obtain rfl:c1=.type "tuple":=g2;obtain rfl:c2=.type "tuple":=k2;obtain rfl:dt1=.seq _ n1:=g3;obtain rfl:dt2=.seq _ n2:=k3;exact concat_meets ⟨_,g1,rfl⟩ ⟨_,k1,rfl⟩ noFill_tuple_add seq_tuple_add wcu wcq (wcl _ _) (tuple_addW0 a b _ _ n1 n2 d1 d2 s1 s2 rfl) ⟨g1,k1,⟨.ref b,H,I,rfl,q⟩⟩
def zpw (K:Fg):R2:=λx y H Q=>∃a b xs ys,x=.ref a/\y=.ref b/\SqT K H a xs/\SqT K H b ys/\ys≠[]/\xs.length+ys.length<=sLn/\
 (xs = []->Q (.ref b) H)/\(xs≠[]->∀p,H p=none->Q (.ref p) (upd H p (.tup (xs++ys))))
def zno:OpR X (binaryOp .Add) (zpw X.K):=by
 intro pins s Y H x y v u Q I rx ry h;obtain⟨a,b,xs,ys,rfl,rfl,ha,hb,hy,hz,q1,q2⟩:=h;by_cases hx:xs = []
 .subst hx;exact znn pins s Y H _ _ v u Q I rx ry ⟨a,b,ys,rfl,rfl,ha,hb,q1 rfl⟩
 .exact znh pins s Y H _ _ v u Q I rx ry ⟨a,b,xs,ys,rfl,rfl,ha,hb,hx,hz,λz=>absurd z hy,λ_=>q2 hx⟩
end
def zeY {H:Hp}{p:Addr}(h:H p=none)(o:HO):Same H (upd H p o):=λb u q=>by rw[zaf (zaV q h)];exact q
end L2
namespace Sh
open L2
namespace Tr
end Tr
end Sh
namespace SO
open PySem.W
section
variable {k:Nat->Int}{N:Nat}
end
end SO
namespace L2
open PySem.Spec PySem.W
section
variable {X:Cx}{pins:List (Addr×Obj)}{Y:St}{H:Hp}{s:Sd}
end
def zh1 {pos:Pos}{a b:Int}{c cv:Vl}(l:List Vl)(h:TriplesOk l):codeAmong pos (l++[rawInt a,rawInt b,c])=some cv->codeAmong pos l=some cv\/cv=c:=by
 fun_induction TriplesOk l with
|case1=>
   intro q;simp only[List.nil_append,codeAmong,rawInt] at q;split at q
   .cases q;exact .inr rfl
   .simp[codeAmong] at q
|case2 x t y u z rest ih=>
   intro q;simp only[List.cons_append,codeAmong] at q⊢;split at q
   .rename_i hc;rw[if_pos hc];exact .inl q
   .rename_i hc;rw[if_neg hc];exact ih h q
|case3 l h1 h2=>exact h.elim
section
variable {X:Cx}{pins:List (Addr×Obj)}{Y:St}{H:Hp}{s:Sd}
def CodeK.hd {K:Fg}{c P:Addr}{h:Heap}(hC:CodeK K c P)(x:K.In h):CodeHd h c P:=by
 obtain⟨o,vs,file,tf,flags,tg,inF,text,tt,l,e⟩:=hC.ex;exact⟨o,vs,file,tf,flags,tg,inF,text,tt,x _ _ l,e⟩
def Inv.grownC {P c':Addr}{ps qs:Array Vl}{h':Heap}{t':Nat}{oc:Obj}{vs:Array Vl}{t:Tok}{q:Str}{a b:Int}(I:Inv X pins Y H s)(hH:H P=some (.tbl ps))(hps:ps[0]?=some (Value.str q 0))(ht:TabC H ps qs)(k:∀b o,b≠P->s.heap.get? b=some o->h'.get? b=some o)
 (e:h'.get? P=some (tabO (qs++#[rawInt a,rawInt b,.ref c']))) (hc:s.heap.objs.size<=c') (ho:h'.get? c'=some oc) (hd:oc.data=.fields vs) (hv:vs[1]?=some (.str q t)) :
 Inv X pins Y (upd H c' (.frz oc (.ext λ_=>True))) {s with heap:=h',toks:=t'}:=by
 have hn:H c'=none:=I.hok.fresh hc
 have nP:∀b u,H b=some u->b≠c':=λb u q z=>by rw[z,hn] at q;cases q
 refine I.un ⟨λb o q n _ _=>k b o (Inv.ne_tbl hH n) q,λb o q n _ _=>⟨o.slots,k b o (Inv.ne_tbl hH n) q⟩,λb o q n _=>?_,λb o q _=>?_,λb xs q=>?_,λb o u q=>?_,λb qs q=>⟨#[],?_⟩⟩ λb u q=>?_
 .rw[zaf (λ(z:b=c')=>by have e2:=wal q;rw[z] at e2;exact waT _ (waq e2 hc))];exact n
 .by_cases z:b=P
  .subst z;exact⟨_,e⟩
  .exact⟨o,k b o z q⟩
 .rw[zaf (nP b _ q)];exact q
 .rw[zaf (nP b _ q)];exact q
 .rw[zaf (nP b _ q),q];simp
 .by_cases z0:b=c'
  .subst z0;rw[zae] at q;cases q;exact⟨ho,trivial,⟨_,ho⟩,λ_ _ _ _=>trivial⟩
  .rw[zaf z0] at q;by_cases z:b=P
   .subst z;rw[hH] at q;cases q;refine⟨_,e,?_,λpos cv z=>?_⟩
    .simpa using TriplesOk_snoc a _ (.ref c') _ ht.1
    .rcases zh1 (a:=a) (b:=_) (c:=.ref c') qs.toList ht.1 (by simpa using z) with z|z
     .obtain⟨c2,o,u,vs,t,q',e1,e2,e3⟩:=ht.2 pos cv z;exact⟨c2,o,u,vs,t,q',e1,by rw[zaf (nP _ _ e2)];exact e2,e3⟩
     .exact⟨c',oc,_,vs,t,q,z,zae,hd,hv,hps⟩
   .refine(I.hok b u q).stay (λc v hc q'=>k c v ?_ q') (λc q'=>by rw[zaf (nP _ _ q')];exact q') λc xs _ q'=>by rw[zaf (nP _ _ q')];exact q'
    rcases hc with r|r
    .rw[r];exact z
    .intro r';subst r';rw[hH] at r;cases r
end
end L2
namespace L2
open PySem.Spec
section
variable {A:Type}[DecidableEq A]
def valV (kvs:List (A×V))(k:A):Option V:=(kvs.find? λkv=>decide (kv.1=k)).map (·.2)
def putK (kvs:List (A×V))(k:A)(v:V):List (A×V):=
 if(kvs.any λkv=>decide (kv.1=k))=true then kvs.map (λkv=>if kv.1=k then(kv.1,v) else kv) else kvs++[(k,v)]
def zhg {p:A×V}{r:List (A×V)}{k:A}(e:p.1=k):valV (p::r) k=some p.2:=by simp[valV,wbQ,e]
def zhh {p:A×V}{r:List (A×V)}{k:A}(e:¬p.1=k):valV (p::r) k=valV r k:=by simp[valV,wbQ,e]
def zgx (kvs:List (A×V))(k:A)(v:V):(putK kvs k v).length<=kvs.length+1:=by
 unfold putK;split
 .rw[waf];omega
 .rw[waj,waM,wcr];omega
def RelO.isSome_eq {o:Option V}{u:Option Vl}(r:RelO o u):o.isSome=u.isSome:=by
 cases o with
|none=>cases u with
  |none=>rfl
  |some _=>exact(show False from r).elim
|some _=>cases u with
  |none=>exact(show False from r).elim
  |some _=>rfl
def KV.val {kvs:List (A×V)}{vs:List (A×Vl)}(r:KV kvs vs)(k:A):RelO (valV kvs k) (valueAt vs k):=by
 unfold KV at r;induction r with
|nil=>exact True.intro
|@cons p q ps qs h t ih=>
   obtain⟨h1,h2⟩:=h;by_cases e:p.1=k
   .have e':q.1=k:=h1.symm.trans e
    have b:valueAt (q::qs) k=some q.2:=by simp[valueAt,wbQ,e']
    rw[zhg e,b];exact h2
   .have e':¬q.1=k:=λz=>e (h1.trans z)
    have b:valueAt (q::qs) k=valueAt qs k:=by simp[valueAt,wbQ,e']
    rw[zhh e,b];exact ih
theorem KV.any {kvs:List (A×V)}{vs:List (A×Vl)}(r:KV kvs vs)(k:A):(kvs.any λkv=>decide (kv.1=k))=vs.any λkv=>decide (kv.1=k):=by
 unfold KV at r;induction r with
|nil=>rfl
|cons h t ih=>rw[List.any_cons,List.any_cons,ih,h.1]
def KV.repl {kvs:List (A×V)}{vs:List (A×Vl)}(r:KV kvs vs)(k:A){y:V}{u:Vl}(ry:RelV y u) :
 KV (kvs.map λkv=>if kv.1=k then(kv.1,y) else kv) (vs.map λkv=>if kv.1=k then(kv.1,u) else kv):=by
 unfold KV at r⊢;induction r with
|nil=>exact .nil
|@cons p q ps qs h t ih=>
   rw[waN,waN];refine .cons ?_ ih;obtain⟨h1,h2⟩:=h;by_cases e:p.1=k
   .rw[if_pos e,if_pos (h1.symm.trans e)];exact⟨h1,ry⟩
   .rw[if_neg e,if_neg (λz=>e (h1.trans z))];exact⟨h1,h2⟩
def KV.put {kvs:List (A×V)}{vs:List (A×Vl)}(r:KV kvs vs)(k:A){y:V}{u:Vl}(ry:RelV y u):KV (putK kvs k y) (stored vs k u):=by
 unfold putK stored;rw[r.any k];by_cases e:(vs.any λkv=>decide (kv.1=k))=true
 .rw[if_pos e,if_pos e];exact r.repl k ry
 .rw[if_neg e,if_neg e];exact Paired.snoc r ⟨rfl,ry⟩
theorem KV.length {kvs:List (A×V)}{vs:List (A×Vl)}(r:KV kvs vs):kvs.length=vs.length:=Paired.length r
end
def zja {P:Pm}{w:World}{k:Key}{u:Vl}(r:RelV (kV k) u):(za9 P w).is k u=true:=by
 cases k with
|inl i=>obtain⟨t,e⟩:=(show ∃t,u=Value.int i t from r);subst e;exact zgp P w i t
|inr x=>obtain⟨t,e⟩:=(show ∃t,u=Value.str x t from r);subst e;exact zgq P w x t
theorem zfE {P:Pm}{w:World}:∀{ks:List Key}{us:List Vl},Vals (ks.map kV) us->ItemsAre (za9 P w) ks us
|[],_,r=>by rw[List.map_nil] at r;cases r;exact .nil
|k::ks,_,r=>by
   rw[waN] at r;cases r with
  |cons h t=>exact .cons (zja h) (zfE t)
abbrev KT (H:Hp):List (List Key×V)->List (List Key×Addr×Vl)->Prop:=Paired λp q=>p.1=q.1/\H q.2.1=some (.tup (p.1.map kV))/\RelV p.2 q.2.2
def KT.val {H:Hp}{kvs:List (List Key×V)}{xs:List (List Key×Addr×Vl)}(r:KT H kvs xs)(k:List Key):RelO (valV kvs k) ((atKey xs k).map (·.2)):=by
 induction r with
|nil=>exact True.intro
|@cons p q ps qs h t ih=>
   obtain⟨h1,_,h2⟩:=h;by_cases e:p.1=k
   .have e':q.1=k:=h1.symm.trans e
    have b:atKey (q::qs) k=some q.2:=by simp[atKey,wbQ,e']
    rw[zhg e,b];exact h2
   .have e':¬q.1=k:=λz=>e (h1.trans z)
    have b:atKey (q::qs) k=atKey qs k:=by simp[atKey,wbQ,e']
    rw[zhh e,b];exact ih
section
variable {P:Pm}{w:World}{H:Hp}{h:Heap}{a:Addr}
def zpx {u:HO}(ok:HOk P w H h)(e:Rd H a u):ObjOk P w H h a u:=e.ok ok
def zjb {kvs:List (Key×V)}(ok:HOk P w H h)(e:Rd H a (.dK kvs)):kvs.length<=sLn/\(a == sysModules)=false/\∃vs,KV kvs vs/\h.DictOf (za9 P w) a vs:=
 show ObjOk P w H h a (.dK kvs) from zpx ok e
def zrL {kvs:List (Key×V)}(ok:HOk P w H h)(e:H a=some (.dK kvs)):kvs.length<=sLn/\(a == sysModules)=false/\∃vs,KV kvs vs/\h.DictOf (za9 P w) a vs:=zjb ok (.inl e)
def zhi {ks:List Key}(ok:HOk P w H h)(e:H a=some (.tup (ks.map kV))):(tupleKind (za9 P w)).is h ks a:=by
 obtain⟨_,its,r,o,h1,h2,n,h3⟩:=(show ObjOk P w H h a (.tup (ks.map kV)) from ok a _ e)
 exact⟨o,its.toArray,n,h1,h2,h3,by simpa using zfE r⟩
def zkX {kvs:List (List Key×V)}(ok:HOk P w H h)(e:Rd H a (.dT kvs)):kvs.length<=sLn/\(a == sysModules)=false/\
 ∃xs,KT H kvs xs/\h.DictOfH (tupleKind (za9 P w)) a xs:=by
 obtain⟨z,y,xs,r,o,es,ep,h1,h2,h3,h4,h5⟩:=(show ObjOk P w H h a (.dT kvs) from zpx ok e)
 refine⟨z,y,xs,r,o,es,ep,h1,h2,h3,h4,λx hx=>?_,h5⟩;have all:∀{l:List (List Key×V)}{m:List (List Key×Addr×Vl)},KT H l m->∀x∈m,(tupleKind (za9 P w)).is h x.1 x.2.1:=by
  intro l m q;induction q with
 |nil=>intro x hx;exact nomatch hx
 |@cons p q ps qs hq t ih=>
    intro x hx;rcases wap.mp hx with e|hx
    .subst e;exact zhi ok (by rw[<-hq.1];exact hq.2.1)
    .exact ih x hx
 exact all r x hx
end
def DGet (H:Hp)(a:Addr)(y:V)(r:Option V):Prop:=
 (∃kvs k,Rd H a (.dK kvs)/\y=kV k/\r=valV kvs k)\/∃kvs k b,Rd H a (.dT kvs)/\y=.ref b/\H b=some (.tup (k.map kV))/\r=valV kvs k
theorem DGet.k {H:Hp}{a:Addr}{kvs:List (Key×V)}{k:Key}(e:H a=some (.dK kvs)):DGet H a (kV k) (valV kvs k):=.inl ⟨kvs,k,.inl e,rfl,rfl⟩
section
variable {X:Cx}{pins:List (Addr×Obj)}{Y:St}{H:Hp}{s:Sd}{a:Addr}{y v:V}{u r:Vl}{o:Option V}{A:Ao}{E:Vl->Sd->Prop}
def Inv.big (I:Inv X pins Y H s):sysModules<s.heap.objs.size:=by
 have h:mG<s.heap.objs.size:=(I.mod.glob.keeps I.bk).lt
 exact Nat.lt_trans (by decide) h
def zjc {Q:Vl->Sd->Prop}(hu:A.units+1<cLine)(I:Inv X pins Y H s)(g:DGet H a y (some v))(ry:RelV y u)(h:∀w' s',Inv X pins Y H s'->RelV v w'->Q w' s') :
 wA (model X.prog X.w) A (getItem (.ref a) u) Q E s:=by
 rcases g with⟨kvs,k,e,ey,l⟩|⟨kvs,k,b,e,ey,eb,l⟩
 .subst ey;obtain⟨z,hd,vs,rel,dd⟩:=zjb I.hok e;obtain⟨w',hw,rw'⟩:=RelO.some_of (v:=v) (o:=valueAt vs k) (by rw[l];exact rel.val k);exact wpAny_getItem_of (zja ry) dd.mapOf hw (h w' _ (I.tok _) rw')
 .subst ey;cases(show u=Value.ref b from ry);obtain⟨z,hd,xs,rel,dd⟩:=zkX I.hok e;obtain⟨w',hw,rw'⟩:=RelO.some_of (v:=v) (o:=(atKey xs k).map (·.2)) (by rw[l];exact rel.val k);obtain⟨p,hp,hp2⟩:=waX.mp hw;refine wpAny_getItem_heap (tupleKind_room_in1 hu) (zhi I.hok eb) dd hp ?_;rw[hp2];exact h w' _ (I.tok _) rw'
def d_in {Q:Vl->Sd->Prop}(hu:A.units+1<cLine)(I:Inv X pins Y H s)(g:DGet H a y o)(ry:RelV y u)(h:∀s',Inv X pins Y H s'->Q (.bool o.isSome) s') :
 wA (model X.prog X.w) A (cOp .In u (.ref a)) Q E s:=by
 rcases g with⟨kvs,k,e,ey,l⟩|⟨kvs,k,b,e,ey,eb,l⟩
 .subst ey;obtain⟨z,hd,vs,rel,dd⟩:=zjb I.hok e;refine wpAny_in_of (zja ry) hd dd.mapOf ?_;rw[<-(rel.val k).isSome_eq,<-l];exact h _ (I.tok _)
 .subst ey;cases(show u=Value.ref b from ry);obtain⟨z,hd,xs,rel,dd⟩:=zkX I.hok e;refine wpAny_in_heap (tupleKind_room_in1 hu) (zhi I.hok eb) hd dd ?_;have q:=(rel.val k).isSome_eq
  rw[Option.isSome_map] at q;rw[<-q,<-l];exact h _ (I.tok _)
def znp {Q:Vl->Sd->Prop}(hu:A.units+1<cLine)(I:Inv X pins Y H s)(g:DGet H a y o)(ry:RelV y u)(h:∀s',Inv X pins Y H s'->Q (.bool (!o.isSome)) s') :
 wA (model X.prog X.w) A (cOp .NotIn u (.ref a)) Q E s:=by
 rcases g with⟨kvs,k,e,ey,l⟩|⟨kvs,k,b,e,ey,eb,l⟩
 .subst ey;obtain⟨z,hd,vs,rel,dd⟩:=zjb I.hok e;refine wpAny_notIn_of (zja ry) hd dd.mapOf ?_;rw[<-(rel.val k).isSome_eq,<-l];exact h _ (I.tok _)
 .subst ey;cases(show u=Value.ref b from ry);obtain⟨z,hd,xs,rel,dd⟩:=zkX I.hok e;refine wpAny_notIn_heap (tupleKind_room_in1 hu) (zhi I.hok eb) hd dd ?_;have q:=(rel.val k).isSome_eq
  rw[Option.isSome_map] at q;rw[<-q,<-l];exact h _ (I.tok _)
def znq {h':Heap}{t':Nat}{ob:HO}(I:Inv X pins Y H s)(mu:Mut (H a))(hs:Heap.SameBut a s.heap h')(he:∃q,h'.get? a=some q)(new:ObjOk X.prog X.w (upd H a ob) h' a ob) :
 Inv X pins Y (upd H a ob) {s with heap:=h',toks:=t'}:=
 I.write (x:=a) (e:=a) mu (.inl rfl) (λb q hb z=>(hs.2 b hb).trans z) he new
def zpy {P:Pm}{w:World}{H':Hp}{h':Heap}{kvs:List (Key×V)}{vs:List (Key×Vl)}(z:kvs.length<=sLn)(hd:(a == sysModules)=false)(rel:KV kvs vs)(dd:h'.DictOf (za9 P w) a vs) :
 ObjOk P w H' h' a (.dK kvs):=⟨z,hd,vs,rel,dd⟩
end
section
variable {X:Cx}{pins:List (Addr×Obj)}{Y:St}{H:Hp}{s:Sd}{a:Addr}{kvs:List (Key×V)}{k:Key}{u:Vl}{A:Ao}{E:Vl->Sd->Prop}
end
def NoSl (i:Expr):Prop:=∀ov iv,subscripted i false ov iv=operate [ov,iv] (getItem ov iv)
def znr {prog:Pm}{w:World}{A:Ao}{E:Vl->Sd->Prop}{s:Sd}{env:Env}{value slice:Expr}{pos:Pos}{T id:String}{Q:Vl->Sd->Prop}
 (hl:typeLookup (.type T) "__getitem__"=pure (some (.builtin id))) (hs:NoSl slice)
 (h:wA (model prog w) A (eval value env) (λo s₁=>wA (model prog w) A (eval slice env) (λi s₂=>s₂.TypeIs o T/\wA (model prog w) A (getItem o i) Q E s₂) E s₁) E s) :
 wA (model prog w) A (eval (.Subscript value slice pos) env) Q E s:=by
 refine Subscript_ (wav h (λo s₁ h₁=>wav h₁ (λi s₂ h₂=>?_) λ_ _ x=>x) λ_ _ x=>x);obtain⟨hT,h₂⟩:=h₂;unfold subscriptTail;refine waa ?_;rw[getitemInPython_of_ne hT.not_modules];refine waa (wpAny_specialOf hT hl ?_);have fin:wA (model prog w) A (subscripted slice false o i) (λr s3=>wA (model prog w) A (letTemporaryGo value o r >>= λ_=>pure r) Q E s3) E s₂:=by
  rw[hs o i];exact wpAny_operating (wav h₂ (λr s3 h3=>waa (wpAny_letTemporaryGo (wak h3))) λ_ _ x=>x)
 first
 |exact wak (waa fin)
 |exact waa (wak (waa fin))
 |exact waa fin
def zgy {X:Cx}{pins:List (Addr×Obj)}{Y:St}{H:Hp}{s:Sd}{a:Addr}{y:V}{o:Option V}(I:Inv X pins Y H s)(g:DGet H a y o):s.TypeIs (.ref a) "dict":=by
 rcases g with⟨kvs,k,e,_,_⟩|⟨kvs,k,b,e,_,_,_⟩
 .obtain⟨_,_,vs,_,dd⟩:=zjb I.hok e;exact dd.typeIs
 .obtain⟨_,_,xs,_,dd⟩:=zkX I.hok e;exact dd.typeIs
def zrM (td ty:TE):TE:=λY H Q=>td Y H λx H1=>ty Y H1 λy H2=>∃a v,x=.ref a/\DGet H2 a y (some v)/\Q v H2
section
variable {X:Cx}{o i e value:Expr}{pos pos' wj:Pos}{td ty tv:TE}
def zns (hu:X.A.units+1<cLine)(ho:PE X o td)(hi:PE X i ty)(hs:NoSl i):PE X (.Subscript o i pos) (zrM td ty):=by
 intro pins s Y H Q I h;refine znr PySem.F.slot_dict_getitem.lookup hs (thn (ho pins s Y H _ I h) λu s1 ⟨x,H1,I1,rx,q1⟩=>thn (hi pins s1 Y H1 _ I1 q1) λiv s2 ⟨y,H2,I2,ry,a,v,ex,g,q2⟩=>?_);subst ex;obtain rfl:u=Value.ref a:=rx;exact⟨zgy I2 g,zjc hu I2 g ry λw' s3 I3 rw'=>⟨v,H2,I3,rw',q2⟩⟩
end
def zkY {P:Pm}{w:World}{H:Hp}(h:Heap)(hb:sysModules<h.objs.size):ObjOk P w H (h.push {cls:=.type "dict",data:=.dict #[]}) h.objs.size (.dK []):=
 ⟨wbx _,beq_eq_false_iff_ne.mpr (Ne.symm (wax hb)),[],.nil,Heap.DictOf.new h⟩
section
variable {X:Cx}{pos:Pos}
end
section
variable {X:Cx}{pins:List (Addr×Obj)}{Y:St}{H:Hp}{s:Sd}{a:Addr}{y d:V}{u r:Vl}{o:Option V}{A:Ao}{E:Vl->Sd->Prop}
end
section
variable {X:Cx}{o e f:Expr}{qL qt:Pos}{td ty tx:TE}
end
section
variable {X:Cx}{pins:List (Addr×Obj)}{Y:St}{H:Hp}{s:Sd}{a:Addr}{kvs:List (Key×V)}{A:Ao}{E:Vl->Sd->Prop}
end
section
variable {X:Cx}{pins:List (Addr×Obj)}{Y:St}{H:Hp}{s:Sd}{a:Addr}{y:V}{u:Vl}{A:Ao}{E:Vl->Sd->Prop}
end
end L2
namespace L2
open PySem.Spec
section
variable {X:Cx}
def tRev (K:Fg)(te:TE):TE:=λY H Q=>te Y H λx H1=>∃a xs,x=.ref a/\SqL K H1 a xs/\∀p,H1 p=none->Q (.ref p) (upd H1 p (.lst xs.reverse))
def zpz {e:Expr}{te:TE}{p2 p3 p4 pos:Pos}{j:Nat}(he:PE X e te):PE X (.Subscript e (.Slice none none (some (.UnaryOp .USub (.Constant (.int 1) j p3) p4)) p2) pos) (tRev X.K te):=by
 intro pins s Y H Q I h;refine Subscript_ (thn (he pins s Y H _ I h) λv s1 ⟨x,H1,I1,r1,q1⟩=>?_);obtain⟨a,xs,rfl,hx,q⟩:=q1;cases r1;refine wpAny_Slice ?_;rw[evalPart_none];refine wak ?_;refine wak ?_;rw[evalPart_some];refine UnaryOp_ (wpAny_Constant_int ?_);refine PyProof.Rows.neg_int ?_;obtain⟨its,r,ht,hz⟩:=I1.list hx;have qe:=r.length
 have I4:Inv X pins Y H1 {s1 with heap:=s1.heap.push {cls:=.type "slice",data:=.fields #[.none,.none,.int (-1) (s1.toks+1)]},toks:=s1.toks+1+1}:=I1.kept (t':=s1.toks+1+1) λb ob q=>wae _ q
 obtain⟨its4,r4,ht4,hz4⟩:=I4.list hx;have hlen4:=r4.length
 refine tail_any (ops:=[.ref a,.ref s1.heap.objs.size]) ht4.isList.typeIs slot_list_getitem.lookup ?_ (by with_unfolding_all rfl);refine wpAny_getItem_list_slice ht4.isList (Heap.IsSliceOf.new s1.heap .none .none (.int (-1) (s1.toks+1))) .none .none (.int (-1) _) (by simp) ?_ (by rw[wad] <;> omega);rw[PySem.W.krv_pick];refine⟨.ref _,_,I4.laid (t':=s1.toks+1+1) (o:=.lst xs.reverse) (λb ob q=>wae _ q) (wan _) ?_,rfl,q _ (I4.hok.fresh (wan _))⟩;exact⟨by rw[wcj];exact hz,its4.reverse,0,r4.reverse,waw (s1.heap.push {cls:=.type "slice",data:=.fields #[.none,.none,.int (-1) (s1.toks+1)]}) (o:={cls:=.type "list",data:=.seq its4.reverse.toArray}) rfl⟩
end
structure Cal (P:Pm)(w:World)(K:Fg)(mg:Str->Option Vl)(base:Heap)(k:Nat)(x:Str)(ps:List Str)(sp:Sp):Prop where
 ex:∃(f:Addr) (fd:Fu),FnOk P w K mg base CX0 k f fd ps sp/\Binds K fd ps []/\W.keepIn K (.ref f)=true/\mg x=some (.ref f)
section
variable {X:Cx}{k:Nat}{x:Str}{ps:List Str}{sp:Sp}{t:TA}{p pos:Pos}{e:Expr}{es:List Expr}
def pc {k':Nat}(C:Cal X.prog X.w X.K X.mg X.base k x ps sp)(hr:Room k' X.A)(ha:PA X (e::es) t)(hk:k<=k':=by decide)(hg:Gl X x:=by rfl)(hdb:(x == ("__debug__":Str))=false:=by decide)
 (he:sE (e::es) X.env=(false,eval e X.env)::sE es X.env:=by rfl) (hpl:(backTo pos (sE es X.env)).any (·.1)=false:=by rfl):PE X (.Call (.Name x p) (e::es) [] pos) (zhX sp [] E0 t):=by
 obtain⟨f,fd,a,b,c,d⟩:=C.ex;exact znd (a.mono hk) hr hg d c b .nil zpt ha hdb he hpl
end
def zbt:List Str:=["len","range","min","max","int","str","bool","list","tuple","isinstance","any","all","enumerate","abs","sorted","dict","ord","chr","reversed"]
def Blt (mg:Str->Option Vl):Prop:=∀x∈zbt,mg x=none
def Blt.get {mg:Str->Option Vl}(B:Blt mg)(x:Str)(h:x∈zbt:=by decide +kernel):mg x=none:=B x h
section
variable {X:Cx}{r:List V->Hp->VK->Prop}{t:TA}{p pos:Pos}{e:Expr}{es:List Expr}{id T:String}{x:Str}
def pb (hc:zci X (.builtin id) r)(B:Blt X.mg)(hv:bBs x=some (.builtin id))(ha:PA X (e::es) t)(hB:x∈zbt:=by decide +kernel)(hg:Gl X x:=by rfl)(hn:x≠"__name__":=by decide)(hdb:(x == ("__debug__":Str))=false:=by decide)
 (he:sE (e::es) X.env=(false,eval e X.env)::sE es X.env:=by rfl) (hpl:(backTo pos (sE es X.env)).any (·.1)=false:=by rfl):PE X (.Call (.Name x p) (e::es) [] pos) (tCB r t):=
 zkS hc hg (B x hB) hv ha hn hdb he hpl
def pty (hc:zci X (.type T) r)(B:Blt X.mg)(hv:bBs x=some (.type T))(ha:PA X (e::es) t)(hB:x∈zbt:=by decide +kernel)(hg:Gl X x:=by rfl)(hn:x≠"__name__":=by decide)(hdb:(x == ("__debug__":Str))=false:=by decide)
 (he:sE (e::es) X.env=(false,eval e X.env)::sE es X.env:=by rfl) (hpl:(backTo pos (sE es X.env)).any (·.1)=false:=by rfl):PE X (.Call (.Name x p) (e::es) [] pos) (tCB r t):=
 ziX hc hg (B x hB) hv ha hn hdb he hpl
def ptn {v:V}{u:Vl}(B:Blt X.mg)(hv:bBs x=some u)(rl:RelV v u)(hB:x∈zbt:=by decide +kernel)(hg:Gl X x:=by rfl)(hn:x≠"__name__":=by decide)(hdb:(x == ("__debug__":Str))=false:=by decide):PE X (.Name x pos) (tC v):=
 ziF hg (B x hB) hv rl hn hdb
def papp {o:Expr}{to:TE}{qL qt:Pos}(ho:PE X o to)(ha:PA X [e] t)
 (qX:attributeBase o "append" X.env (eval o X.env)=eval o X.env:=by rfl)
 (wK:((backTo qt (sE [e] X.env)).all (λx=>!x.1)&&(backToKw qt (keywordEach [] X.env)).all (λx=>x.1.isSome)
  && decide ([e].length+([]:List Keyword).length+(if([]:List Keyword).isEmpty then 0 else 1)<30))=true:=by rfl)
 (w5:(qL.endLine == qt.line)=true:=by rfl) (hs:sE [e] X.env = [(false,eval e X.env)]:=by rfl) :
 PE X (.Call (.Attribute o "append" qL) [e] [] qt) (tBM X.K "list" zeW to t):=
 zpr PySem.F.plainAttrs_list PySem.F.slot_list_append PySem.F.type_list_append zfB ho ha qX wK w5 hs rfl
end
def zpA (K:Fg):List V->Hp->VK->Prop:=λxs H Q=>∃x n t k,xs = [x,.ty n]/\TyOf K H x t/\PySem.W.kitOne K t (.type n)=some k/\Q (.bl k) H
def znt {X:Cx}:zci X (.builtin "isinstance") (zpA X.K):=zgv
end L2
namespace Rv
open PySem.Spec
open Sem (wp)
def zc1:Slot "reversed" "__init__" "object.__init__":=
 .of (owner:="object") (n:="__init__") (by rw[typeLookup_type,builtinLookup_eq_fast];kernel_rfl) (by decide +kernel) (by decide +kernel) (by decide +kernel)
  (by first|exact .inl (by decide +kernel)|exact .inr (by decide +kernel)) (by rw[isSubtype_type];kernel_rfl)
def zdy:mroOf (.type "reversed")=pure [.type "reversed",.type "object"]:=by rw[mroOf_type];kernel_rfl
def zcP:typeLookup (.type "reversed") "__new__"=pure (some (.builtin "reversed.__new__")):=by rw[typeLookup_type,builtinLookup_eq_fast];kernel_rfl
def called_reversed:TypeCalled "reversed" "reversed.__new__" "object.__init__":=
 ⟨by decide +kernel,by decide +kernel,⟨_,_,zdy⟩,madeBy_type zdy zcP (by decide +kernel),by decide +kernel,by rw[isSubtype_type];kernel_rfl,zc1⟩
def typeCall_reversed_1 (a:Vl):checkTypeCall "reversed" ⟨[a],[]⟩=pure ():=by kernel_rfl
def newCall_reversed_1 (a:Vl):checkBuiltinCall "reversed.__new__" ⟨[.type "reversed",a],[]⟩=pure ():=by kernel_rfl
def entry_reversed_new:entryFor table "reversed.__new__"=some Builtin.«reversed.__new__»:=entryFor_of_tree (by kernel_rfl)
def sub_ri:isSubtype (.type "range_iterator") (.type "reversed")=pure false:=by rw[isSubtype_type];kernel_rfl
section
variable {prog:Pm}{w:World}{A:Ao}{E:Vl->Sd->Prop}{s:Sd}
def callType_else {T T' newId wJ:String}{Bn:Builtin}{args:List Vl}{S:PySem.Spec}{Q Q₁:Vl->Sd->Prop}(ft:TypeCalled T newId wJ)
 (hct:checkTypeCall T ⟨args,[]⟩=pure ()) (hcn:checkBuiltinCall newId ⟨.type T::args,[]⟩=pure ())
 (entryN:entryFor table newId=some Bn) (g:Meets (Bn ⟨.type T::args,[]⟩) S) (hsub':isSubtype (.type T') (.type T)=pure false)
 (h:S A.in1 (wants Q₁ E) s) (hnext:∀obj s₁,Q₁ obj s₁->s₁.TypeIs obj T'/\Q obj s₁) :
 wA (model prog w) A (call (.type T) args) Q E s:=by
 obtain⟨c,tl,hmro⟩:=ft.mro;have hmade:=ft.made
 have hsub:=ft.sub
 refine wcH (codeAny_of_tree ?_);show wA _ _ (callAny (.type T) _) _ _ _
 refine wak ⟨wcs _ (by decide +kernel),wcK F.entry_type_call ?_⟩;rw[Around.under_plain (weight_type_call_type T args []) (units_type_call_type T args [])];have h1:=ft.notType
 have h2:=ft.canCreate
 repeat (any_goals (first|assumption|wp_step))
 refine wcA (wce ft.plain entryN (wcx hcn (g prog w A.in1 _ s h))) λr s₁ hr=>?_
 cases r with
|error e=>exact hr
|ok fl=>
   cases fl with
  |ret obj=>
     obtain⟨hT,hq⟩:=hnext _ _ hr;repeat (any_goals (first|assumption|wp_step))
  |_=>exact hr.elim
end
def zkZ (r:Addr)(lo hi:Int)(t u v:Tok)(hs:(Builtin.Range.rangeFitsLong lo&&Builtin.Range.rangeFitsLong hi&&Builtin.Range.rangeFitsLong 1&&Builtin.Range.rangeFitsLong (-1)&&Builtin.Range.rangeFitsLong (lo - 1)&&Builtin.Range.rangeFitsLong (Builtin.Range.rangeSize lo hi 1))=true) :
 Meets (Builtin.«range.__reversed__» ⟨[.ref r],[]⟩) (λ_ R s=>s.heap.get? r=some {cls:=.type "range",data:=.fields #[.int lo t,.int hi u,.int 1 v]}/\
  R (.ok (.ret (.ref s.heap.objs.size))) {s with heap:=s.heap.push {cls:=.type "range_iterator",data:=.fields #[rawInt (lo+(Builtin.Range.rangeSize lo hi 1 - 1)*1),rawInt (Builtin.Range.rangeSize lo hi 1),rawInt (-1)]}}):=
 .of_wp λprog w A R s h=>by
  obtain⟨hp,g,d,tk,os⟩:=s;obtain⟨hl,h⟩:=h;wp_walk using wbt hl
  rw[hs,if_pos rfl];exact⟨_,rfl,h⟩
def meets_new_range (r:Addr)(lo hi:Int)(t u v:Tok)(hs:(Builtin.Range.rangeFitsLong lo&&Builtin.Range.rangeFitsLong hi&&Builtin.Range.rangeFitsLong 1&&Builtin.Range.rangeFitsLong (-1)&&Builtin.Range.rangeFitsLong (lo - 1)&&Builtin.Range.rangeFitsLong (Builtin.Range.rangeSize lo hi 1))=true) :
 Meets (Builtin.«reversed.__new__» ⟨[.type "reversed",.ref r],[]⟩) (λ_ R s=>s.heap.get? r=some {cls:=.type "range",data:=.fields #[.int lo t,.int hi u,.int 1 v]}/\
  R (.ok (.ret (.ref s.heap.objs.size))) {s with heap:=s.heap.push {cls:=.type "range_iterator",data:=.fields #[rawInt (lo+(Builtin.Range.rangeSize lo hi 1 - 1)*1),rawInt (Builtin.Range.rangeSize lo hi 1),rawInt (-1)]}}):=
 .of_wp λprog w A R s h=>by
  obtain⟨hp,g,d,tk,os⟩:=s;obtain⟨hl,h⟩:=h;have hsub:=called_reversed.sub
  have hT:Shared.TypeIs ⟨hp,g,d,tk,os⟩ (.ref r) "range":=⟨_,hl,rfl⟩
  wp_walk using wbt hl
  rw[F.slot_range_reversed.lookup];refine wak ?_;show wA _ _ (bindSpecial (.builtin "range.__reversed__") (Value.ref r) >>= _) _ _ _
  rw[F.slot_range_reversed.bind];refine waa (wak ?_);refine waa (wcS ?_);refine waa (m:=call (.builtin "range.__reversed__") [Value.ref r]) (call_meets F.slot_range_reversed hT F.entry_range_reversed (F.args_range_reversed_1 _) (zkZ r lo hi t u v hs) ⟨hl,?_⟩);exact wak ⟨_,rfl,h⟩
end Rv
namespace L2
open PySem.Spec
def Itd (hi:Int)(n:Nat):It:=⟨λi _=>i<n,λi H x H'=>H'=H/\x=.int (hi - i),λi _=>n<=i⟩
def zjd {P:Pm}{w:World}{K:Fg}{tg:Expr}(it:Addr)(lo:Int)(n:Nat):Turn P w K tg (Itd lo n) [it] it (λi h=>IsRangeIter h it (lo+(i:Nat)*(-1)) ((n:Int) - (i:Nat)) (-1)) where
 mem:=by simp
 obj:=λi h st b hb=>by
  have e:b=it:=by simpa using hb
  subst e;exact⟨_,st,λv z=>by
   have z':Data.fields _=Data.cell v:=z
   cases z'⟩
 keep:=λi h h' st k=>k it (by simp) _ st
 item:=by
  intro X hP hw hK hc i pins s Y H E I hf st hg;subst hP hw hK;obtain⟨f0,f1,f2,f3,f4,f5⟩:=hf it (by simp);have W:=Walks.range (prog:=X.prog) (w:=X.w) (I.ok.hd hc) it lo (-1) n
  refine W.item i s _ _ hg st λv h' tk hv st' kk=>?_
  obtain⟨t,rfl⟩:=hv;have I1:Inv X pins Y H {s with heap:=h',toks:=tk}:=I.turned (λb o hb e=>kk b o (by simpa using hb) e) f0 f1 f3 f4 f5
  refine⟨_,rfl,ziL (s:={s with heap:=h',toks:=tk}) (n:="range_iterator") st' rfl rfl (by decide) ⟨.int (lo - i),H,I1,⟨t,?_⟩,⟨rfl,rfl⟩,st',λb hb=>(hf b hb).1⟩⟩;rw[Int.mul_neg,Int.mul_one] <;> rfl
 done:=by
  intro X hP hw hK hc i pins s Y H E I hf st hg;subst hP hw hK;obtain⟨f0,f1,f2,f3,f4,f5⟩:=hf it (by simp);exact wpAny_pyNext_range_end (I.ok.hd hc) st (by have:n<=i:=hg;omega) λh' eb=>⟨rfl,I.turned (t':=s.toks) (λb o hb e=>eb b o hb e) f0 f1 f3 f4 f5⟩
 self:=λ_ _ _ _ _ st h=>wct st h
section
variable {X:Cx}{tg:Expr}
def zet {prog:Pm}{w:World}{A:Ao}{E:Vl->Sd->Prop}{s:Sd}{r:Addr}{lo hi:Int}{t u v:Tok}{Q:Vl->Sd->Prop}(hr:s.heap.get? r=some {cls:=.type "range",data:=.fields #[.int lo t,.int hi u,.int 1 v]})
 (h1:-(2 ^ 62)<=lo) (h2:lo<2 ^ 62) (h3:-(2 ^ 62)<=hi) (h4:hi<2 ^ 62)
 (q:Q (.ref s.heap.objs.size) {s with heap:=s.heap.push {cls:=.type "range_iterator",data:=.fields #[rawInt (lo+(Builtin.Range.rangeSize lo hi 1 - 1)*1),rawInt (Builtin.Range.rangeSize lo hi 1),rawInt (-1)]}}) :
 wA (model prog w) A (call (.type "reversed") [.ref r]) Q E s:=by
 refine Rv.callType_else (T':="range_iterator") (Q₁:=λv s1=>v=.ref s.heap.objs.size/\s1 = {s with heap:=s.heap.push {cls:=.type "range_iterator",data:=.fields #[rawInt (lo+(Builtin.Range.rangeSize lo hi 1 - 1)*1),rawInt (Builtin.Range.rangeSize lo hi 1),rawInt (-1)]}}) Rv.called_reversed (Rv.typeCall_reversed_1 _) (Rv.newCall_reversed_1 _) Rv.entry_reversed_new (Rv.meets_new_range r lo hi t u v ?_) Rv.sub_ri ⟨hr,rfl,rfl⟩ ?_
 .have e2:Builtin.Range.rangeSize lo hi 1=(((hi - lo).toNat:Nat):Int):=by rw[rangeSize_one];split <;> omega
  rw[e2];have f:∀k:Int,-(2 ^ 63)<=k->k<2 ^ 63->Builtin.Range.rangeFitsLong k=true:=λk a b=>by unfold Builtin.Range.rangeFitsLong;simp only[waF,decide_eq_true_eq];omega
  rw[f lo (by omega) (by omega),f hi (by omega) (by omega),f 1 (by decide) (by decide),f (-1) (by decide) (by decide),f (lo - 1) (by omega) (by omega),f _ (by omega) (by omega)];rfl
 .rintro obj s1 ⟨rfl,rfl⟩;exact⟨⟨_,waw _ rfl,rfl⟩,q⟩
def zrN (ta:TA):TI:=λY H R=>ta Y H λvs H1=>∃j:Int,vs = [.int j]/\0<=j/\j<2 ^ 62/\R (Itd (j - 1) j.toNat) H1
def znu {a:Expr}{ta:TA}{p p2 pos pos2:Pos}(hg:Gl X "range")(hm:X.mg "range"=none)(hg2:Gl X "reversed")(hm2:X.mg "reversed"=none)(ha:PA X [a] ta)(hs:sE [a] X.env = [(false,eval a X.env)]:=by rfl)
 (hs2:sE [.Call (.Name "range" p) [a] [] pos] X.env = [(false,eval (.Call (.Name "range" p) [a] [] pos) X.env)]:=by rfl):PI X tg (.Call (.Name "reversed" p2) [.Call (.Name "range" p) [a] [] pos] [] pos2) (zrN ta):=by
 intro pins s Y H R I h;refine waQ (zcZ I hg2 hm2 boot_reversed ?_ (by decide) (by decide));refine waZ ?_ hs2 rfl;rw[hs2];refine wbG ?_;refine Call_ (zcZ I hg hm boot_range (waZ (thn (ha pos pins s Y H _ I h) λus s1 ⟨vs,H1,I1,r1,q1⟩=>?_) hs rfl));obtain⟨j,e,q1,q2,q⟩:=q1;subst e;cases r1 with
|cons r rr=>
   cases rr;obtain⟨t,rfl⟩:=r;refine call_range_1 ?_;refine Calls.spliced_nil ?_;have I2:Inv X pins Y H1 {s1 with heap:=s1.heap.push {cls:=.type "range",data:=.fields #[.int 0 s1.toks,.int j t,.int 1 (s1.toks+1)]},toks:=s1.toks+1+1}:=I1.kept (t':=s1.toks+1+1) λb o e=>wae _ e
   refine zet (waw _ rfl) (by decide) (by decide) (by omega) q2 ?_;have e2:Builtin.Range.rangeSize 0 j 1=((j.toNat:Nat):Int):=by rw[rangeSize_one];split <;> omega
   rw[e2];generalize hg9:s1.heap.push {cls:=.type "range",data:=.fields #[.int 0 s1.toks,.int j t,.int 1 (s1.toks+1)]}=g9 at I2
   .rw[show(0:Int)+((j.toNat:Nat) - 1)*1=(j - 1)+((0:Nat):Int)*(-1) by omega,show((j.toNat:Nat):Int)=((j.toNat:Nat):Int) - ((0:Nat):Int) by omega];refine wct (it:=g9.objs.size) (waw _ rfl) ?_;refine⟨g9.objs.size,[g9.objs.size],_,_,H1,rfl,I2.kept (t':=s1.toks+1+1) λb o e=>wae _ e,zjd _ (j - 1) j.toNat,?_,λb hb=>?_,q⟩
    .exact waw _ rfl
    .have e:b=g9.objs.size:=by simpa using hb
     subst e;exact I2.fpOk (wan _) (I2.hok.fresh (wan _))
end
section
variable {X:Cx}
end
def clo (cells:List (Str×Addr)):List (Str×NameKind)->List (Str×Addr)->List (Str×Addr)
|[],acc=>acc
|(n,k)::r,acc=>clo cells r (if(k == NameKind.free)=true then(n,(cells.lookup n).getD 0)::acc else acc)
theorem zje {env:Env}:∀(names:List (Str×NameKind)) (acc:List (Str×Addr)),(∀y∈names,y.2=.free->∃c,env.cells.lookup y.1=some c)->
 (forIn names acc λ(x:Str×NameKind) (cs:List (Str×Addr))=>match x with|(name,kind)=>if(kind == NameKind.free)=true then(do let c <-cellOf env name;pure (ForInStep.yield ((name,c)::cs))) else(pure (ForInStep.yield cs):Sem _))=pure (clo env.cells names acc)
|[],acc,_=>rfl
|(n,k)::r,acc,h=>by
   rw[List.forIn_cons];have ih:=zje (env:=env) r
   by_cases hk:(k == NameKind.free)=true
   .obtain⟨c,hc⟩:=h (n,k) (war ..) (by cases k <;> first|rfl|cases hk);have e1:cellOf env n=pure c:=by unfold cellOf;rw[hc]
    show(if(k == NameKind.free)=true then _ else _) >>= _=_
    rw[if_pos hk,e1];show(forIn r ((n,c)::acc) _:Sem _)=pure (clo env.cells r (if(k == NameKind.free)=true then _ else _))
    rw[if_pos hk,hc];exact ih _ λy hy=>h y (wam _ hy)
   .show(if(k == NameKind.free)=true then _ else _) >>= _=_
    rw[if_neg hk];show(forIn r acc _:Sem _)=pure (clo env.cells r (if(k == NameKind.free)=true then _ else _))
    rw[if_neg hk];exact ih _ λy hy=>h y (wam _ hy)
def zhj {env:Env}{scope:Scope}(h:∀y∈scope.names,y.2=.free->∃c,env.cells.lookup y.1=some c):closureFor scope env=pure (clo env.cells scope.names []):=by
 have e:=zje (env:=env) scope.names [] h
 unfold closureFor;show(forIn scope.names ([]:List (Str×Addr)) _ >>= λcs=>pure cs)=_
 have e2:(forIn scope.names ([]:List (Str×Addr)) (λ(x:Str×NameKind) (cs:List (Str×Addr))=>match x with|(name,kind)=>if(kind == NameKind.free)=true then(do let c <-cellOf env name;pure (ForInStep.yield ((name,c)::cs))) else(pure (ForInStep.yield cs):Sem _)) >>= λcs=>pure cs)=pure (clo env.cells scope.names []):=by
  rw[e];rfl
 exact e2
theorem zdU (cells:List (Str×Addr)):∀(names:List (Str×NameKind)) (acc:List (Str×Addr)),(∀x c,acc.lookup x=some c->cells.lookup x=some c)->(∀y∈names,y.2=.free->∃c,cells.lookup y.1=some c)->
 ∀x c,(clo cells names acc).lookup x=some c->cells.lookup x=some c
|[],acc,h,_,x,c,e=>h x c e
|(n,k)::r,acc,h,hf,x,c,e=>by
   refine zdU cells r _ (λy d e'=>?_) (λy hy=>hf y (wam _ hy)) x c e;by_cases hk:(k == NameKind.free)=true
   .rw[if_pos hk,wba] at e';obtain⟨c',hc⟩:=hf (n,k) (war ..) (by cases k <;> first|rfl|cases hk);cases hy:y == n with
   |true=>
      rw[hy] at e';have:y=n:=by simpa using hy
      rw[this,hc];rw[hc] at e';exact e'
   |false=>rw[hy] at e';exact h y d e'
   .rw[if_neg hk] at e';exact h y d e'
theorem zdV (cells:List (Str×Addr)):∀(names:List (Str×NameKind)) (acc:List (Str×Addr)) (x:Str),((∃c,acc.lookup x=some c)\/(x,NameKind.free)∈names)->∃c,(clo cells names acc).lookup x=some c
|[],acc,x,h=>by
   rcases h with h|h
   .exact h
   .cases h
|(n,k)::r,acc,x,h=>by
   refine zdV cells r _ x ?_;rcases h with⟨c,h⟩|h
   .left
    by_cases hk:(k == NameKind.free)=true
    .rw[if_pos hk,wba];cases hy:x == n with
    |true=>exact⟨_,rfl⟩
    |false=>exact⟨c,h⟩
    .rw[if_neg hk];exact⟨c,h⟩
   .rcases wap.mp h with h|h
    .left
     cases h;rw[if_pos (by rfl),wba,beq_self_eq_true];exact⟨_,rfl⟩
    .exact .inr h
theorem zbw {A B:Type}[BEq A][LawfulBEq A]:∀{l:List (A×B)}{x:A}{k:B},l.lookup x=some k->(x,k)∈l
|[],x,k,h=>by cases h
|(n,k')::r,x,k,h=>by
   rw[wba] at h;cases hx:x == n with
  |true=>
     rw[hx] at h;cases h;have:x=n:=by simpa using hx
     rw[this];exact war ..
  |false=>rw[hx] at h;exact wam _ (zbw h)
theorem za1 {env:Env}:∀(l:List (Str×NameKind)),(∀y∈l,y.2≠.cell)->∀x k,(l.map λ(n,k)=>if(k == NameKind.free&&env.scope.kind == .function&&env.kindOf n == some .cell) then(n,NameKind.cell) else(n,k)).lookup x=some k->(k=.cell\/k=.free)->l.lookup x=some .free
|[],_,x,k,e,_=>by cases e
|(n,k0)::r,h,x,k,e,hk=>by
   rw[waN] at e;have h0:k0≠.cell:=h _ (war ..)
   rw[wba];cases hx:x == n with
  |true=>
     cases k0 with
    |free=>rfl
    |cell=>exact absurd rfl h0
    |_=>
       exfalso
       obtain rfl:x=n:=by simpa using hx
       rw[wba] at e;rcases hk with rfl|rfl <;> (revert e;simp)
  |false=>
     refine za1 (env:=env) r (λy hy=>h y (wam _ hy)) x k ?_ hk;rw[wba] at e;have:(x == (if(k0 == NameKind.free&&env.scope.kind == .function&&env.kindOf n == some .cell)=true then(n,NameKind.cell) else(n,k0)).1)=false:=by split <;> exact hx
     rw[this] at e;exact e
theorem zbj {env:Env}(hf:env.scope.kind=.function):∀(l:List (Str×NameKind)) (x:Str),l.lookup x=some .free->env.kindOf x=some .cell->(l.map λ(n,k)=>if(k == NameKind.free&&env.scope.kind == .function&&env.kindOf n == some .cell) then(n,NameKind.cell) else(n,k)).lookup x=some .cell
|[],x,e,_=>by cases e
|(n,k0)::r,x,e,hk=>by
   rw[waN];rw[wba] at e⊢;cases hx:x == n with
  |true=>
     rw[hx] at e;cases e;have hn:x=n:=by simpa using hx
     have hk':(env.kindOf n == some NameKind.cell)=true:=by rw[<-hn,hk];rfl
     have hcond:(NameKind.free == NameKind.free&&env.scope.kind == .function&&env.kindOf n == some .cell)=true:=by
      rw[hf,hk'];rfl
     simp only[hcond,if_true,hx]
  |false=>
     rw[hx] at e;have:(x == (if(k0 == NameKind.free&&env.scope.kind == .function&&env.kindOf n == some .cell)=true then(n,NameKind.cell) else(n,k0)).1)=false:=by split <;> exact hx
     simp only[this];exact zbj hf r x e hk
def zbS (N:List Str)(sc:List (Str×NameKind))(names:List (Str×NameKind))(NC:List Str)(fr:List (Option Nat)):Bool:=
 (NC.zip fr).all λp=>match p.2 with|none=>true|some j=>(N[j]? == some p.1)&&(sc.lookup p.1 == some .cell)&&(names.lookup p.1 == some .free)
def zfF (N:List Str)(st:Stmt){X:Cx}{elt qb tg:Expr}{ifs:List Expr}{scope:Scope}{pos:Pos}{NC:List Str}(fr:List (Option Nat)){wi:TI}{g:TG}{tt:TT}{te:TE}{RR:Hp->Prop}(hRR:∀pins Y H s,Inv X pins Y H s->RR H)(qm:X.calm=true)(hi:PI X tg qb wi)
 (ql:∀x,X.env.scope.names.lookup x=some .cell->∃c,X.env.cells.lookup x=some c) (hfk:X.env.scope.kind=.function) (hN:X.N=N) (hsc:X.env.scope.names=(zab st).names)
 (qj:∀y∈scope.names,y.2=.free->(zab st).names.lookup y.1=some .cell) (qg:∀y∈scope.names,y.2≠.cell) (qh:scope.kind=.function) (qi:∀y∈scope.names,y.2=.local->scope.names.lookup y.1=some .local)
 (qD:zbS N (zab st).names scope.names NC fr=true) (qe:fr.length=NC.length)
 (hg:∀cl C s0 H0 ex pn,PG (cxC X scope cl NC C s0 H0 ex pn) tg g) (ht:∀cl C s0 H0 ex pn,PTs (cxC X scope cl NC C s0 H0 ex pn) ifs tt) (he:∀cl C s0 H0 ex pn,RR H0->PE (cxC X scope cl NC C s0 H0 ex pn) elt te)
 (hs:∀x,fSI qb X.env x=pure x:=by intro _;rfl):PE X (.ListComp elt [⟨tg,qb,ifs,0⟩] scope pos) (zeX fr wi g tt te):=by
 have qW:∀y∈scope.names,y.2=.free->X.env.scope.names.lookup y.1=some .cell:=by rw[hsc];exact qj
 have hfr:zbS X.N X.env.scope.names scope.names NC fr=true:=by rw[hsc,hN];exact qD
 have hc:∀y∈scope.names,y.2=.free->∃c,X.env.cells.lookup y.1=some c:=λy hy h=>ql _ (qW y hy h)
 refine zkW (cl:=clo X.env.cells scope.names []) hRR qm hi (zhj hc) qg qh qi (λx c e=>zdU _ _ _ (λ_ _ z=>by cases z) hc x c e) (λx hx=>?_) (λi x j h1 h2=>?_) qe (hg _) (ht _) (he _) hs
 .refine zdV _ _ _ x (.inr (zbw ?_));rcases hx with e|e
  .exact za1 scope.names qg x _ e (.inl rfl)
  .exact za1 scope.names qg x _ e (.inr rfl)
 .have hm:(x,some j)∈NC.zip fr:=by
   have hi1:=(wab.mp h1).1
   have:(NC.zip fr)[i]?=some (x,some j):=by rw[wbK];exact⟨h1,h2⟩
   exact way this
  have q:=waB.mp hfr _ hm
  have q':((X.N[j]? == some x)&&(X.env.scope.names.lookup x == some .cell)&&(scope.names.lookup x == some .free))=true:=q
  simp only[waF,beq_iff_eq] at q';obtain⟨⟨q1,q2⟩,q3⟩:=q';refine⟨q1,.inr (.inl q2),?_,.inl (zbj hfk scope.names x q3 q2)⟩;intro z;have z':X.env.scope.names.lookup x=some .local:=z
  rw[q2] at z';cases z'
def pvC (i:Nat){X:Cx}{scope:Scope}{cl:List (Str×Addr)}{NC:List Str}{C:Addr}{s0:Sd}{H0:Hp}{ex:List Addr}{pn:List (Addr×Obj)}{x:Str}{pos:Pos}(hi:NC[i]?=some x)(hfk:X.env.scope.kind=.function)
 (h1:scope.names.lookup x=some .free) (h2:X.env.scope.names.lookup x=some .cell) (hd:(x == ("__debug__":Str))=false:=by decide) (hcd:(x == ("__classdict__":Str))=false:=by decide):PE (cxC X scope cl NC C s0 H0 ex pn) (.Name x pos) (tVar i):=
 zcl (X:=cxC X scope cl NC C s0 H0 ex pn) hi (.inr (.inl (zbj hfk scope.names x h1 h2))) hd hcd
section
variable {X:Cx}{scope:Scope}{cl:List (Str×Addr)}{NC:List Str}{C:Addr}{s0:Sd}{H0:Hp}{ex:List Addr}{pn:List (Addr×Obj)}
end
def zhk (N:List Str)(st:Stmt){X:Cx}{i:Nat}{x:Str}{elt qb tg:Expr}{ifs:List Expr}{scope:Scope}{pos pos' cp:Pos}{NC:List Str}(fr:List (Option Nat)){wi:TI}{g:TG}{tt:TT}{te:TE}(hND:X.N.Nodup)(hix:X.N[i]?=some x)(hx:Loc X.env.scope x)
 {RR:Hp->Prop}(hRR:∀pins Y H s,Inv X pins Y H s->RR H) (qm:X.calm=true) (hi:PI X tg qb wi)
 (ql:∀x,X.env.scope.names.lookup x=some .cell->∃c,X.env.cells.lookup x=some c) (hfk:X.env.scope.kind=.function) (hN:X.N=N) (hsc:X.env.scope.names=(zab st).names)
 (qj:∀y∈scope.names,y.2=.free->(zab st).names.lookup y.1=some .cell) (qg:∀y∈scope.names,y.2≠.cell) (qh:scope.kind=.function) (qi:∀y∈scope.names,y.2=.local->scope.names.lookup y.1=some .local)
 (qD:zbS N (zab st).names scope.names NC fr=true) (qe:fr.length=NC.length)
 (hg:∀cl C s0 H0 ex pn,PG (cxC X scope cl NC C s0 H0 ex pn) tg g) (ht:∀cl C s0 H0 ex pn,PTs (cxC X scope cl NC C s0 H0 ex pn) ifs tt) (he:∀cl C s0 H0 ex pn,RR H0->PE (cxC X scope cl NC C s0 H0 ex pn) elt te)
 (hs:∀x,fSI qb X.env x=pure x:=by intro _;rfl) (hsw:sWw (.ListComp elt [⟨tg,qb,ifs,0⟩] scope cp) (some (.Name x pos')) pos.line X.env=pure true:=by rfl)
 (hf:X.fn x=true\/X.env.scope.names.lookup x=some .local:=by first|exact .inl rfl|exact .inr rfl|assumption) :
 PS X (.Assign [.Name x pos'] (.ListComp elt [⟨tg,qb,ifs,0⟩] scope cp) pos) (tAsg (zeX fr wi g tt te) (zdE i)):=by
 intro pins s Y H D I h;rw[exec_Assign_Name_used _ _ _ _ hsw];refine waa (wbs ?_);rw[arm_evalThenUse_ListComp];have qW:∀y∈scope.names,y.2=.free->X.env.scope.names.lookup y.1=some .cell:=by rw[hsc];exact qj
 have hfr:zbS X.N X.env.scope.names scope.names NC fr=true:=by rw[hsc,hN];exact qD
 have hc:∀y∈scope.names,y.2=.free->∃c,X.env.cells.lookup y.1=some c:=λy hy h=>ql _ (qW y hy h)
 refine waa (waa (zhf (cl:=clo X.env.cells scope.names []) (Q:=λx H1=>zdE i x Y H1 D.nx) (R:=λ_ s'=>wA (model X.prog X.w) X.A (pure ()) (λ_ s₁=>wA (model X.prog X.w) X.A (pure Flow.next) (SP X pins D) X.xe s₁) X.xe s') hRR qm hi (zhj hc) qg qh qi (λx c e=>zdU _ _ _ (λ_ _ z=>by cases z) hc x c e) (λx hx=>?_) (λi x j h1 h2=>?_) qe (hg _) (ht _) (he _) hs I h ?_))
 .refine zdV _ _ _ x (.inr (zbw ?_));rcases hx with e|e
  .exact za1 scope.names qg x _ e (.inl rfl)
  .exact za1 scope.names qg x _ e (.inr rfl)
 .have hm:(x,some j)∈NC.zip fr:=by
   have:(NC.zip fr)[i]?=some (x,some j):=by rw[wbK];exact⟨h1,h2⟩
   exact way this
  have q:=waB.mp hfr _ hm
  have q':((X.N[j]? == some x)&&(X.env.scope.names.lookup x == some .cell)&&(scope.names.lookup x == some .free))=true:=q
  simp only[waF,beq_iff_eq] at q';obtain⟨⟨q1,q2⟩,q3⟩:=q';refine⟨q1,.inr (.inl q2),?_,.inl (zbj hfk scope.names x q3 q2)⟩;intro z;have z':X.env.scope.names.lookup x=some .local:=z
  rw[q2] at z';cases z'
 .intro C Da H' s' m I' hns hfp q;show wA _ _ (assign (.Name x pos') X.env (.ref Da)) _ _ _
  refine wpAny_assign_Name (zdQ I' hND hix hx (show RelV (.ref Da) (.ref Da) from rfl) (λs2 I2 hsb=>?_) hf);obtain⟨f0,f1,f2,f3,f4,f5⟩:=hfp;obtain⟨a,hsb,ha⟩:=hsb;have hCa:C≠a:=by
   rcases ha with rfl|ha
   .exact f1
   .exact λz=>f4 x a ha z.symm
  obtain⟨o,es,ep,ho,r⟩:=hns;refine⟨m,⟨o,es,ep,hsb.extBut C o hCa ho,r⟩,λh' hs'=>?_⟩;refine wak (wak ⟨_,H',?_,q⟩);exact I2.turned (t':=s2.toks) (λb o hb e=>hs'.extBut b o hb e) f0 f1 f3 f4 f5
def znv (N:List Str)(st:Stmt){X:Cx}{i:Nat}{x:Str}{elt qb tg:Expr}{ifs:List Expr}{scope:Scope}{pos pos' cp:Pos}{NC:List Str}(fr:List (Option Nat)){wi:TI}{g:TG}{tt:TT}{te:TE}(hND:X.N.Nodup)(hix:X.N[i]?=some x)(hx:Loc X.env.scope x)
 (qm:X.calm=true) (hi:PI X tg qb wi)
 (ql:∀x,X.env.scope.names.lookup x=some .cell->∃c,X.env.cells.lookup x=some c) (hfk:X.env.scope.kind=.function) (hN:X.N=N) (hsc:X.env.scope.names=(zab st).names)
 (qj:∀y∈scope.names,y.2=.free->(zab st).names.lookup y.1=some .cell) (qg:∀y∈scope.names,y.2≠.cell) (qh:scope.kind=.function) (qi:∀y∈scope.names,y.2=.local->scope.names.lookup y.1=some .local)
 (qD:zbS N (zab st).names scope.names NC fr=true) (qe:fr.length=NC.length)
 (hg:∀cl C s0 H0 ex pn,PG (cxC X scope cl NC C s0 H0 ex pn) tg g) (ht:∀cl C s0 H0 ex pn,PTs (cxC X scope cl NC C s0 H0 ex pn) ifs tt) (he:∀cl C s0 H0 ex pn,PE (cxC X scope cl NC C s0 H0 ex pn) elt te)
 (hs:∀x,fSI qb X.env x=pure x:=by intro _;rfl) (hsw:sWw (.ListComp elt [⟨tg,qb,ifs,0⟩] scope cp) (some (.Name x pos')) pos.line X.env=pure true:=by rfl)
 (hf:X.fn x=true\/X.env.scope.names.lookup x=some .local:=by first|exact .inl rfl|exact .inr rfl|assumption) :
 PS X (.Assign [.Name x pos'] (.ListComp elt [⟨tg,qb,ifs,0⟩] scope cp) pos) (tAsg (zeX fr wi g tt te) (zdE i)):=
 zhk (RR:=λ_=>True) N st fr hND hix hx (λ_ _ _ _ _=>trivial) qm hi ql hfk hN hsc qj qg qh qi qD qe hg ht (λcl C s0 H0 ex pn _=>he cl C s0 H0 ex pn) hs hsw hf
end L2
namespace Mn
open PySem.Spec
open Sem (wp)
section
variable {prog:Pm}{w:World}{A:Ao}{R:Result->Sd->Prop}{I:Addr}{fp wr:List Addr}{n:Nat}{P:Nat->Vl->Prop}{St:Nat->Heap->Prop}
end
section
variable {prog:Pm}{w:World}{A:Ao}{E:Vl->Sd->Prop}{s:Sd}
end
section
open PySem.SeqAt
open PySem.AutoSeq1 (wpAny_loadPart')
open PySem.MeetsSeq PySem.MeetsSeq2 PySem.MeetsSeq3
end
end Mn
namespace L2
open PySem.Spec
section
variable {X:Cx}
end
abbrev elD (P:Pm)(w:World)(A:Ao)(kx vx:Expr):ElR:=λenv D Q s=>wA (model P w) A (eval kx env) (λkv s4=>wA (model P w) A (eval vx env) (λvv s5=>wA (model P w) A (dictSet D kv vv) (λ_ s6=>Q s6) (λ_ _=>False) s5) (λ_ _=>False) s4) (λ_ _=>False) s
def zh2 {P:Pm}{w:World}{A:Ao}{kx vx tg qb:Expr}{ifs:List Expr}{scope:Scope}{pos:Pos}:zpu P w A (.DictComp kx vx [⟨tg,qb,ifs,0⟩] scope pos) tg ifs (elD P w A kx vx):=by
 intro R s it D env I qC n h;refine codeAny_loop rfl I (λn s hI=>?_) n h;refine wpAny_noted (m:=compTurn (.DictComp kx vx [⟨tg,qb,ifs,0⟩] scope pos) 0 it (.ref D) env) ?_;rw[compTurn_dict];refine waa (wbs (waa (wav (qC n s hI) (λr s1 h1=>?_) λ_ _ f=>f.elim)));cases r with
|none=>exact wak (h1.1 rfl)
|some v=>
   refine waa (wav (h1.2 v rfl) (λ_ s2 h2=>?_) λ_ _ f=>f.elim);refine waa (wav h2 (λ_ s3 h3=>?_) λ_ _ f=>f.elim);refine waa (wav h3 (λok s4 h4=>?_) λ_ _ f=>f.elim);cases ok with
  |false=>exact wak ⟨rfl,h4.2 rfl⟩
  |true=>exact waa (waa (wav (h4.1 rfl) (λkv s5 h5=>waa (wbo (wav h5 (λvv s6 h6=>waa (wbs (wbo (wav h6 (λ_ s7 h7=>wak ⟨rfl,h7⟩) λ_ _ f=>f.elim)))) λ_ _ f=>f.elim))) λ_ _ f=>f.elim))
def telD (tk tv:TE)(D:Addr)(ys:List (Key×V))(Y:St)(H:Hp)(Q:List (Key×V)->Hp->Prop):Prop:=tk Y H λvk H6=>tv Y H6 λv H7=>∃k,vk=kV k/\H7 D=some (.dK ys)/\ys.length<sLn/\Q (putK ys k v) (upd H7 D (.dK (putK ys k v)))
def zjf (fr:List (Option Nat))(wi:TI)(g:TG)(tt:TT)(tk tv:TE):TE:=tGen HO.dK [] fr wi g tt (telD tk tv)
section
variable {X:Cx}{kx vx qb tg:Expr}{ifs:List Expr}{scope:Scope}{pos:Pos}{NC:List Str}{wi:TI}{g:TG}{tt:TT}{tk tv:TE}
def zjg (N:List Str)(st:Stmt)(fr:List (Option Nat))(qm:X.calm=true)(hi:PI X tg qb wi)
 (ql:∀x,X.env.scope.names.lookup x=some .cell->∃c,X.env.cells.lookup x=some c) (hfk:X.env.scope.kind=.function) (hN:X.N=N) (hsc:X.env.scope.names=(zab st).names)
 (qj:∀y∈scope.names,y.2=.free->(zab st).names.lookup y.1=some .cell) (qg:∀y∈scope.names,y.2≠.cell) (qh:scope.kind=.function) (qi:∀y∈scope.names,y.2=.local->scope.names.lookup y.1=some .local)
 (qD:zbS N (zab st).names scope.names NC fr=true) (qe:fr.length=NC.length)
 (hg:∀cl C s0 H0 ex pn,PG (cxC X scope cl NC C s0 H0 ex pn) tg g) (ht:∀cl C s0 H0 ex pn,PTs (cxC X scope cl NC C s0 H0 ex pn) ifs tt) (hk:∀cl C s0 H0 ex pn,PE (cxC X scope cl NC C s0 H0 ex pn) kx tk) (hv:∀cl C s0 H0 ex pn,PE (cxC X scope cl NC C s0 H0 ex pn) vx tv)
 (hs:∀x,fSI qb X.env x=pure x) {pins:List (Addr×Obj)}{s:Sd}{Y:St}{H:Hp}{Q:VK}{qt:Pos}{use:Option (Vl->Sem Unit)}{R:Vl->Sd->Prop}(I:Inv X pins Y H s) (h:zjf fr wi g tt tk tv Y H Q)
 (hfin:∀(C D:Addr) (H':Hp) (s':Sd) (m:Str->Option Vl),Inv X pins Y H' s'->s'.heap.Ns C m->FpOk X pins H' C->Q (.ref D) H'->compPost (model X.prog X.w) X.A X.xe use R (.ref D) C (.ok .next) s') :
 wA (model X.prog X.w) X.A (comprehension (.DictComp kx vx [⟨tg,qb,ifs,0⟩] scope pos) scope X.env qt newDict false (eval qb X.env) use) R X.xe s:=by
 have qW:∀y∈scope.names,y.2=.free->X.env.scope.names.lookup y.1=some .cell:=by rw[hsc];exact qj
 have hfr:zbS X.N X.env.scope.names scope.names NC fr=true:=by rw[hsc,hN];exact qD
 have hc:∀y∈scope.names,y.2=.free->∃c,X.env.cells.lookup y.1=some c:=λy hy h=>ql _ (qW y hy h)
 refine zhe (Tn:="dict") (dt:=.dict #[]) (ac:=HO.dK) (t0:=[]) (tel:=telD tk tv) (EL:=elD X.prog X.w X.A kx vx) (cl:=clo X.env.cells scope.names []) (fr:=fr) (NC:=NC) (RR:=λ_=>True)
  (λ_ _ _ _ _=>trivial) qm hi (zhj hc) qg qh qi (λx c e=>zdU _ _ _ (λ_ _ z=>by cases z) hc x c e) (λx hx=>?_) (λi x j h1 h2=>?_) qe (hg _) (ht _) rfl (by size_fits) (λI=>zkY _ I.big) zh2 (λa b=>codeAny_compStart_dict (rest:=[]) a b) (λC s0 H0 ex pn rH pins D ys s Y H Po F J q k=>?_) hs I h hfin
 .refine zdV _ _ _ x (.inr (zbw ?_));rcases hx with e|e
  .exact za1 scope.names qg x _ e (.inl rfl)
  .exact za1 scope.names qg x _ e (.inr rfl)
 .have hm:(x,some j)∈NC.zip fr:=by
   have:(NC.zip fr)[i]?=some (x,some j):=by rw[wbK];exact⟨h1,h2⟩
   exact way this
  have q:=waB.mp hfr _ hm
  have q':((X.N[j]? == some x)&&(X.env.scope.names.lookup x == some .cell)&&(scope.names.lookup x == some .free))=true:=q
  simp only[waF,beq_iff_eq] at q';obtain⟨⟨q1,q2⟩,q3⟩:=q';refine⟨q1,.inr (.inl q2),?_,.inl (zbj hfk scope.names x q3 q2)⟩;intro z;have z':X.env.scope.names.lookup x=some .local:=z
  rw[q2] at z';cases z'
 .refine thn (hk _ C _ _ _ _ _ s Y H _ J q) λkv s4 ⟨vk,H6,J6,r6,q6⟩=>?_
  refine thn (hv _ C _ _ _ _ _ s4 Y H6 _ J6 q6) λvv s5 ⟨v,H7,J7,r7,kk,ek,hD,hz,n7⟩=>?_
  subst ek;obtain⟨z,hd,vs,rel,dd⟩:=zrL J7.hok hD;have hz':vs.length<=sLn:=by rw[<-rel.length];exact z
  have hl:(putK ys kk v).length<=sLn:=by have:=zgx ys kk v;omega
  refine wpAny_dictSet_pairs (hsz:=hz') (zja r6) dd λh' dd' hs=>?_
  have he:∃q,h'.get? D=some q:=let ⟨q,_,_,hq,_⟩:=dd';⟨q,hq⟩
  exact k _ _ _ (znq J7 (by rw[hD];exact True.intro) hs he (zpy hl hd (rel.put kk r7) dd')) zae n7
def zk0 {i:Nat}{x:Str}{pos' cp:Pos}(hND:X.N.Nodup)(hix:X.N[i]?=some x)(hx:Loc X.env.scope x)(N:List Str)(st:Stmt)(fr:List (Option Nat))(qm:X.calm=true)(hi:PI X tg qb wi)
 (ql:∀x,X.env.scope.names.lookup x=some .cell->∃c,X.env.cells.lookup x=some c) (hfk:X.env.scope.kind=.function) (hN:X.N=N) (hsc:X.env.scope.names=(zab st).names)
 (qj:∀y∈scope.names,y.2=.free->(zab st).names.lookup y.1=some .cell) (qg:∀y∈scope.names,y.2≠.cell) (qh:scope.kind=.function) (qi:∀y∈scope.names,y.2=.local->scope.names.lookup y.1=some .local)
 (qD:zbS N (zab st).names scope.names NC fr=true) (qe:fr.length=NC.length)
 (hg:∀cl C s0 H0 ex pn,PG (cxC X scope cl NC C s0 H0 ex pn) tg g) (ht:∀cl C s0 H0 ex pn,PTs (cxC X scope cl NC C s0 H0 ex pn) ifs tt) (hk:∀cl C s0 H0 ex pn,PE (cxC X scope cl NC C s0 H0 ex pn) kx tk) (hv:∀cl C s0 H0 ex pn,PE (cxC X scope cl NC C s0 H0 ex pn) vx tv)
 (hs:∀x,fSI qb X.env x=pure x:=by intro _;rfl) (hsw:sWw (.DictComp kx vx [⟨tg,qb,ifs,0⟩] scope cp) (some (.Name x pos')) pos.line X.env=pure true:=by rfl)
 (hf:X.fn x=true\/X.env.scope.names.lookup x=some .local:=by first|exact .inl rfl|exact .inr rfl|assumption):PS X (.Assign [.Name x pos'] (.DictComp kx vx [⟨tg,qb,ifs,0⟩] scope cp) pos) (tAsg (zjf fr wi g tt tk tv) (zdE i)):=by
 intro pins s Y H D I h;rw[exec_Assign_Name_used _ _ _ _ hsw];refine waa (wbs ?_);rw[arm_evalThenUse_DictComp];refine waa (waa (zjg N st fr qm hi ql hfk hN hsc qj qg qh qi qD qe hg ht hk hv hs (Q:=λx H1=>zdE i x Y H1 D.nx) (R:=λ_ s'=>wA (model X.prog X.w) X.A (pure ()) (λ_ s₁=>wA (model X.prog X.w) X.A (pure Flow.next) (SP X pins D) X.xe s₁) X.xe s') I h ?_));intro C Da H' s' m I' hns hfp q;show wA _ _ (assign (.Name x pos') X.env (.ref Da)) _ _ _
 refine wpAny_assign_Name (zdQ I' hND hix hx (show RelV (.ref Da) (.ref Da) from rfl) (λs2 I2 hsb=>?_) hf);obtain⟨f0,f1,f2,f3,f4,f5⟩:=hfp;obtain⟨a,hsb,ha⟩:=hsb;have hCa:C≠a:=by
  rcases ha with rfl|ha
  .exact f1
  .exact λz=>f4 x a ha z.symm
 obtain⟨o,es,ep,ho,r⟩:=hns;refine⟨m,⟨o,es,ep,hsb.extBut C o hCa ho,r⟩,λh' hs'=>wak (wak ⟨_,H',?_,q⟩)⟩;exact I2.turned (t':=s2.toks) (λb o hb e=>hs'.extBut b o hb e) f0 f1 f3 f4 f5
end
end L2
namespace HT
open PySem.Spec L2
section
variable {prog:Pm}{w:World}{A:Ao}{E:Vl->Sd->Prop}{s:Sd}
def getItem_whole {t sl:Addr}{items:Array Vl}{vl vu:Vl}{lo hi:Option Int}{Q:Vl->Sd->Prop}(ht:IsTup s.heap t items)(hs:s.heap.IsSliceOf sl vl vu .none)(pl:IsPart vl lo)(pu:IsPart vu hi)(h0:sIx items.size 0 lo=0)(h1:sIx items.size items.size hi=items.size)(h:Q (.ref t) s)(hsz:items.size<=sLn):wA (model prog w) A (getItem (.ref t) (.ref sl)) Q E s:=by
 obtain⟨os,hos,hcs,hds⟩:=id hs;have hTs:s.TypeIs (.ref sl) "slice":=⟨os,hos,hcs⟩
 unfold getItem;try with_reducible refine wbo ?_
 try refine waa (wak ?_)
 refine waa (wpAny_sequenceKey ht.typeIs (by decide) ?_);refine waa (wbV (name:=Str.ofString "__getitem__") ht.typeIs wbq (wbX wbq ht.typeIs entry_tuple_getitem ?_ (args_tuple_getitem _ _)));show wA _ _ (Builtin.Tuple.tupleItemsOf (.ref t) >>= _) _ _ s
 refine waa (tupleItemsOf_ ht (waa (wcN hTs ?_)));rw[if_pos (by decide)];refine waa (zcg hs pl pu ?_);have hy:(((sIx items.size 0 lo:Nat):Int) == 0&&(1:Int) == 1&&(sIx items.size items.size hi - sIx items.size 0 lo) == items.size)=true:=by rw[h0,h1];simp
 show wA _ _ (if(((sIx items.size 0 lo:Nat):Int) == 0&&(1:Int) == 1&&(sIx items.size items.size hi - sIx items.size 0 lo) == items.size)=true then _ else _) _ _ s
 rw[if_pos hy];refine waa (wav (Q:=λb s'=>b=true/\s'=s) ?_ (λb s1 hb=>?_) λ_ _ z=>z)
 .unfold Builtin.Tuple.tupleIsExact;exact waa (wcN ht.typeIs (wak ⟨by decide,rfl⟩))
 .obtain⟨rfl,rfl⟩:=hb;rw[if_pos rfl];exact waa (wcS (wak ⟨_,rfl,wak h⟩))
end
end HT
namespace L2
open PySem.Spec
def rSlW (K:Fg):V->Option Int->Option Int->Hp->VK->Prop:=λx lo hi H Q=>∃a xs,x=.ref a/\SqT K H a xs/\HT.sIx xs.length 0 lo=0/\HT.sIx xs.length xs.length hi=xs.length/\Q x H
def zk1 {X:Cx}:SlR X (rSlW X.K):=by
 intro pins s Y H x v vl vu lo hi sl Q I rx hs pl pu h;obtain⟨a,xs,rfl,hx,h0,h1,q⟩:=h;cases rx;obtain⟨its,r,ht,hz⟩:=I.tuple hx;have qe:its.toArray.size=xs.length:=by rw[wad];exact r.length.symm
 exact⟨"tuple",_,PyProof.Rows.slot_tuple_getitem.lookup,ht.typeIs,HT.getItem_whole ht hs pl pu (by rw[qe];exact h0) (by rw[qe];exact h1) ⟨.ref a,H,I,rfl,q⟩ (by rw[qe];exact hz)⟩
end L2
namespace En
open PySem.Spec
def draws_endL {prog:Pm}{w:World}{A:Ao}(hh:A.handled=none)(it t:Addr)(i:Nat)(items:Array Vl)(hx:items[i]?=none) :
 Draws prog w A it [it,t] i (λi v=>items[i]?=some v) (λj h=>j=i/\h.IsListIter it t i/\h.IsList t items) where
 live:=λ_ _ st=>let ⟨o,ho,_⟩:=st.2.1;⟨o,ho⟩
 frame:=λ_ _ _ ⟨hj,⟨o,e,r⟩,⟨o',e',r'⟩⟩ hk=>⟨hj,⟨o,hk it (by simp) o e,r⟩,⟨o',hk t (by simp) o' e',r'⟩⟩
 item:=λj s Q E hi st hQ=>by rw[st.1] at hi;exact absurd hi (waT _)
 done:=λs Q E st hE=>wpAny_nextOf_list_end hh st.2.1 st.2.2 hx hE
end En
namespace L2
open PySem.Spec
def IteL (K:Fg)(a:Addr):It:=
 ⟨λi H=>∃xs x,SqL K H a xs/\xs[i]?=some x,λi H x H'=>∃p,H p=none/\x=.ref p/\∀xs,SqL K H a xs->∃y,xs[i]?=some y/\H'=upd H p (.tup [.int (i:Nat),y]),λi H=>∃xs,SqL K H a xs/\xs.length<=i⟩
def zh3 {P:Pm}{w:World}{K:Fg}{elts:List Expr}{x1}{wj:Pos}(a e it:Addr)(hei:e≠it)(hae:a≠e)(hai:a≠it) :
 Turn P w K (.Tuple elts x1 wj) (IteL K a) [e,it] e (λi h=>(∃old,IsEnum h e it (i:Nat) old)/\h.IsListIter it a i) where
 mem:=by simp
 obj:=λi h st b hb=>by
  obtain⟨⟨old,e1⟩,o,e2,c,d⟩:=st;rcases wap.mp hb with z|z
  .subst z;exact⟨_,e1,λv z=>by cases z⟩
  .have z:=wag.mp z
   subst z;exact⟨o,e2,λv z=>by rw[d] at z;cases z⟩
 keep:=λi h h' st k=>by
  obtain⟨⟨old,e1⟩,o,e2,c,d⟩:=st;exact⟨⟨old,k e (by simp) _ e1⟩,o,k it (by simp) _ e2,c,d⟩
 item:=by
  intro X hP hw hK hc i pins s Y H E I hf st hg;subst hP hw hK;obtain⟨⟨old,en⟩,ti⟩:=st;obtain⟨xs,x,hq,hx⟩:=hg;obtain⟨its,rv,p,hz⟩:=I.list hq;obtain⟨u,hu,ru⟩:=rv.get hx;have hl:=rv.length
  have hlt:i<its.toArray.size:=by
   rw[wad,<-hl];exact(wab.mp hx).1
  have hh:X.A.in1.handled=none:=I.ok.hd hc
  refine wpAny_pyNext_enum_itemD (Draws.list (A:=X.A.in1) hh it a hai its.toArray) en ⟨ti,p.isList⟩ hlt hei (by simp[hei,Ne.symm hae]) λy h' tk hy en' st' tup sz k=>?_
  have ey:y=u:=by
   have hy':its[i]?=some y:=by simpa using hy
   rw[hu] at hy';exact(was hy').symm
  subst ey;refine⟨_,rfl,wpAny_letOwnedTupleGo_enum en' λh2 en2 sb2=>?_⟩;have frS:s.heap.get? s.heap.objs.size=none:=by
   cases q:s.heap.get? s.heap.objs.size with
  |none=>rfl
  |some o=>exact absurd (wal q) (waT _)
  have neS:∀b∈[e,it],b≠s.heap.objs.size:=λb hb z=>by
   rcases wap.mp hb with q|q
   .have en1:=(show s.heap.get? e=some _ from en)
    rw[<-z,q,en1] at frS;cases frS
   .obtain⟨o,e2,_⟩:=ti;rw[<-z,wag.mp q,e2] at frS;cases frS
  obtain⟨hn,I1⟩:=I.laidF (h':=h2) (t':=tk+1) (fp:=[e,it]) (D:=s.heap.objs.size) (o:=.tup [.int (i:Nat),x]) hf (λb o hb q=>sb2.extBut b o (λz=>hb (by simp[z])) (k b o (λz=>hb (by simp[z])) (λz=>hb (by simp[z])) q))
   (λb hb=>by
    rcases wap.mp hb with q|q
    .subst q;exact⟨_,en2⟩
    .have q:=wag.mp q
     subst q;obtain⟨o,e2,_⟩:=st'.1;exact⟨o,sb2.extBut _ o (Ne.symm hei) e2⟩) frS
   ⟨by show 2<=sLn;decide,[.int (i:Nat) tk,y],.cons ⟨_,rfl⟩ (.cons ru .nil),⟨_,sb2.extBut _ _ (neS e (by simp)).symm tup,rfl,_,rfl⟩⟩
  refine⟨.ref s.heap.objs.size,_,I1,rfl,⟨_,hn,rfl,λys hy=>⟨x,by rw[I.list_inj hy hq];exact hx,rfl⟩⟩,⟨⟨_,en2⟩,?_⟩,λb hb=>?_⟩
  .obtain⟨o,e2,c,d⟩:=st'.1;exact⟨o,sb2.extBut _ o (Ne.symm hei) e2,c,d⟩
  .rw[zaf (neS b hb)];exact(hf b hb).1
 done:=by
  intro X hP hw hK hc i pins s Y H E I hf st hg;subst hP hw hK;obtain⟨⟨old,en⟩,ti⟩:=st;obtain⟨xs,hq,hx⟩:=hg;obtain⟨its,rv,p,hz⟩:=I.list hq;obtain⟨f0,f1,f2,f3,f4,f5⟩:=hf it (by simp);have hl:=rv.length
  have hh:X.A.in1.handled=none:=I.ok.hd hc
  refine wpAny_pyNext_enum_endD (En.draws_endL (A:=X.A.in1) hh it a i its.toArray (by simp;omega)) en ⟨rfl,ti,p.isList⟩ λh' eb=>⟨rfl,I.turned (t':=s.toks) (λb o hb e=>eb b o hb e) f0 f1 f3 f4 f5⟩
 self:=λ_ _ _ _ _ st h=>by
  obtain⟨⟨old,en⟩,_⟩:=st;exact wcy en h
def zpB (K:Fg)(ta:TA):TI:=λY H R=>ta Y H λvs H1=>∃a,vs = [.ref a]/\(∃xs,SqL K H1 a xs)/\R (IteL K a) H1
def zk2 {X:Cx}{elts:List Expr}{x1}{wj:Pos}{l:Expr}{ta:TA}{p pos:Pos}(hg:Gl X "enumerate")(hm:X.mg "enumerate"=none)(ha:PA X [l] ta)(hs:sE [l] X.env = [(false,eval l X.env)]:=by rfl) :
 PI X (.Tuple elts x1 wj) (.Call (.Name "enumerate" p) [l] [] pos) (zpB X.K ta):=by
 intro pins s Y H R I h;refine waQ (zcZ I hg hm boot_enumerate ?_ (by decide) (by decide));refine waZ (thn (ha pos pins s Y H _ I h) λus s1 ⟨vs,H1,I1,rv,q1⟩=>?_) hs rfl;obtain⟨a,e,⟨xs,hq⟩,q⟩:=q1;subst e;obtain⟨u,rfl,r1⟩:=zeS rv;obtain rfl:u=Value.ref a:=r1;obtain⟨its,rv,pt,hz⟩:=I1.list hq;refine call_enumerate_list pt.isList λh' en ti sz k=>?_
 have alt:a<s1.heap.objs.size:=let ⟨o,n,e,_⟩:=pt;wal e
 refine wcy en ⟨s1.heap.objs.size+1,[s1.heap.objs.size+1,s1.heap.objs.size],_,_,H1,rfl,I1.kept (t':=s1.toks) k,zh3 a _ _ (Nat.succ_ne_self _) (wax (Nat.lt_succ_of_lt alt)) (wax alt),⟨⟨_,en⟩,ti⟩,λb hb=>?_,q⟩;rcases wap.mp hb with z|z
 .subst z;exact I1.fpOk (wci _) (I1.hok.fresh (wci _))
 .have z:=wag.mp z
  subst z;exact I1.fpOk (wan _) (I1.hok.fresh (wan _))
end L2
namespace VD
open PySem.Spec L2
inductive D where
|non|bl (b:Bool)|int (i:Int)|str (x:Str)|tup (ds:List D)|lst (ds:List D)|dct (ks:List Key) (ds:List D)|dcu (ks:List (List Key)) (ds:List D)|scr (p:Addr)|exc (c:Str) (ns:List Str) (ds:List D)
mutual
def D.beq:D->D->Bool
|.non,.non=>true
|.bl a,.bl b=>a == b
|.int a,.int b=>a == b
|.str a,.str b=>a == b
|.tup a,.tup b=>D.beqL a b
|.lst a,.lst b=>D.beqL a b
|.dct ks a,.dct ls b=>decide (ks=ls)&&D.beqL a b
|.dcu ks a,.dcu ls b=>decide (ks=ls)&&D.beqL a b
|.scr a,.scr b=>a == b
|.exc c ns a,.exc c' ms b=>c == c'&&decide (ns=ms)&&D.beqL a b
|_,_=>false
def D.beqL:List D->List D->Bool
|[],[]=>true
|a::as,b::bs=>D.beq a b&&D.beqL as bs
|_,_=>false
end
mutual
theorem D.beq_iff:∀(a b:D),D.beq a b=true↔a=b
|.non,b=>by cases b <;> simp[D.beq]
|.bl _,b=>by cases b <;> simp[D.beq]
|.int _,b=>by cases b <;> simp[D.beq]
|.str _,b=>by cases b <;> simp[D.beq]
|.tup xs,b=>by cases b <;> simp[D.beq,D.beqL_iff xs]
|.lst xs,b=>by cases b <;> simp[D.beq,D.beqL_iff xs]
|.dct ks xs,b=>by cases b <;> simp[D.beq,D.beqL_iff xs]
|.dcu ks xs,b=>by cases b <;> simp[D.beq,D.beqL_iff xs]
|.scr _,b=>by cases b <;> simp[D.beq]
|.exc c ns xs,b=>by cases b <;> simp[D.beq,D.beqL_iff xs,and_assoc]
theorem D.beqL_iff:∀(a b:List D),D.beqL a b=true↔a=b
|[],b=>by cases b <;> simp[D.beqL]
|x::xs,b=>by
   cases b with
  |nil=>simp[D.beqL]
  |cons y ys=>simp[D.beqL,D.beq_iff x y,D.beqL_iff xs ys]
end
instance:DecidableEq D:=λa b=>decidable_of_iff _ (D.beq_iff a b)
instance:Inhabited D:=⟨.non⟩
def Exh (K:Fg)(H:Hp)(J:Addr->Prop)(a:Addr)(c:Str)(ns:List Str)(vs:List V):Prop:=
 J a/\∃oa C,W.nsIn K mG c=some (some (.ref C))/\H a=some (.frz oa (.ext λ_=>True))/\oa.cls=.ref C/\PySem.W.notCls oa=true/\
   ((ns = []/\vs = []/\oa.dict=none)\/∃d od,oa.dict=some d/\J d/\H d=some (.frz od (.xd (ns.zip vs)))/\ns.length=vs.length)
mutual
inductive Rp (K:Fg)(H:Hp)(J:Addr->Prop):V->D->Prop
|non:Rp K H J .non .non
|bl (b:Bool):Rp K H J (.bl b) (.bl b)
|int (i:Int):Rp K H J (.int i) (.int i)
|str (x:Str):Rp K H J (.str x) (.str x)
|scr (p:Addr):Rp K H J (.ref p) (.scr p)
|tup {p:Addr}{vs:List V}{ds:List D}(h:SqT K H p vs) (r:RpL K H J vs ds):Rp K H J (.ref p) (.tup ds)
|lst {p:Addr}{vs:List V}{ds:List D}(h:H p=some (.lst vs)) (j:J p) (r:RpL K H J vs ds):Rp K H J (.ref p) (.lst ds)
|dct {p:Addr}{kvs:List (Key×V)}{vs:List V}{ks:List Key}{ds:List D}(h:H p=some (.dK kvs)) (j:J p) (ek:kvs.map (·.1)=ks) (ev:kvs.map (·.2)=vs) (r:RpL K H J vs ds):Rp K H J (.ref p) (.dct ks ds)
|dcu {p:Addr}{kvs:List (List Key×V)}{vs:List V}{ks:List (List Key)}{ds:List D}(h:H p=some (.dT kvs)) (j:J p) (ek:kvs.map (·.1)=ks) (ev:kvs.map (·.2)=vs) (r:RpL K H J vs ds):Rp K H J (.ref p) (.dcu ks ds)
|exc {p:Addr}{c:Str}{ns:List Str}{vs:List V}{ds:List D}(h:Exh K H J p c ns vs) (r:RpL K H J vs ds):Rp K H J (.ref p) (.exc c ns ds)
inductive RpL (K:Fg)(H:Hp)(J:Addr->Prop):List V->List D->Prop
|nil:RpL K H J [] []
|cons {v:V}{d:D}{vs:List V}{ds:List D}(h:Rp K H J v d) (t:RpL K H J vs ds):RpL K H J (v::vs) (d::ds)
end
structure Keep (K:Fg)(H:Hp)(J:Addr->Prop)(H':Hp)(J':Addr->Prop):Prop where
 jj:∀a,J a->J' a
 jo:∀p o,J p->H p=some o->H' p=some o
 tp:∀p vs,SqT K H p vs->SqT K H' p vs
section
variable {K:Fg}{H H' H1 H2 Hz:Hp}{J J' J1 J2 Jz:Addr->Prop}
def Keep.refl:Keep K H J H J:=⟨λ_ h=>h,λ_ _ _ h=>h,λ_ _ h=>h⟩
def Keep.trans (a:Keep K H J H1 J1)(b:Keep K H1 J1 H2 J2):Keep K H J H2 J2:=⟨λp h=>b.jj p (a.jj p h),λp o j h=>b.jo p o (a.jj p j) (a.jo p o j h),λp vs h=>b.tp p vs (a.tp p vs h)⟩
def Exh.keep {a:Addr}{c:Str}{ns:List Str}{vs:List V}(k:Keep K H J H' J')(h:Exh K H J a c ns vs):Exh K H' J' a c ns vs:=by
 obtain⟨j,oa,C,h1,h2,h3,h4,h5⟩:=h;refine⟨k.jj _ j,oa,C,h1,k.jo _ _ j h2,h3,h4,h5.imp (λh=>h) λ⟨d,od,h6,h7,h8,h9⟩=>⟨d,od,h6,k.jj _ h7,k.jo _ _ h7 h8,h9⟩⟩
mutual
theorem Rp.keep {v:V}{d:D}(k:Keep K H J H' J'):Rp K H J v d->Rp K H' J' v d
|.non=>.non
|.bl b=>.bl b
|.int i=>.int i
|.str x=>.str x
|.scr p=>.scr p
|.tup h r=>.tup (k.tp _ _ h) (RpL.keep k r)
|.lst h j r=>.lst (k.jo _ _ j h) (k.jj _ j) (RpL.keep k r)
|.dct h j ek ev r=>.dct (k.jo _ _ j h) (k.jj _ j) ek ev (RpL.keep k r)
|.dcu h j ek ev r=>.dcu (k.jo _ _ j h) (k.jj _ j) ek ev (RpL.keep k r)
|.exc h r=>.exc (h.keep k) (RpL.keep k r)
theorem RpL.keep {vs:List V}{ds:List D}(k:Keep K H J H' J'):RpL K H J vs ds->RpL K H' J' vs ds
|.nil=>.nil
|.cons h t=>.cons (Rp.keep k h) (RpL.keep k t)
end
def zk4 (h:Same H H')(p:Addr)(vs:List V):SqT K H p vs->SqT K H' p vs:=by
 rintro((h1|⟨o,h1⟩)|h1)
 .exact .inl (.inl (h _ _ h1))
 .exact .inl (.inr ⟨o,h _ _ h1⟩)
 .exact .inr h1
structure Up (H:Hp)(J:Addr->Prop)(H':Hp)(J':Addr->Prop):Prop where
 same:Same H H'
 jj:∀a,J a->J' a
 jn:∀a,J' a->J a\/H a=none
 ja:∀a,J' a->H' a≠none
def Up.keep (u:Up H J H' J'):Keep K H J H' J':=⟨u.jj,λp o _ h=>u.same p o h,zk4 u.same⟩
theorem Up.refl (ja:∀a,J a->H a≠none):Up H J H J:=⟨Same.refl H,λ_ h=>h,λ_ h=>.inl h,ja⟩
theorem Up.trans (a:Up H J H1 J1)(b:Up H1 J1 H2 J2):Up H J H2 J2:=⟨a.same.trans b.same,λp h=>b.jj p (a.jj p h),λp h=>by
 rcases b.jn p h with h|h
 .exact a.jn p h
 .exact .inr (a.same.free h),b.ja⟩
def Up.new {p:Addr}(ja:∀a,J a->H a≠none)(hp:H p=none)(o:HO):Up H J (upd H p o) J:=
 ⟨zeY hp o,λ_ h=>h,λ_ h=>.inl h,λa h=>by
  by_cases e:a=p
  .subst e;rw[zae];simp
  .rw[zaf e];exact ja a h⟩
def Up.newJ {p:Addr}(ja:∀a,J a->H a≠none)(hp:H p=none)(o:HO):Up H J (upd H p o) (λa=>J a\/a=p):=
 ⟨zeY hp o,λ_ h=>.inl h,λa h=>by rcases h with h|h;exact .inl h;subst h;exact .inr hp,λa h=>by
  by_cases e:a=p
  .subst e;rw[zae];simp
  .rw[zaf e];rcases h with h|h;exact ja a h;exact absurd h e⟩
theorem RpL.length:∀{vs:List V}{ds:List D},RpL K H J vs ds->vs.length=ds.length
|_,_,.nil=>rfl
|_,_,.cons _ t=>by simp[RpL.length t]
theorem RpL.get:∀{vs:List V}{ds:List D}{i:Nat}{d:D},RpL K H J vs ds->ds[i]?=some d->∃v,vs[i]?=some v/\Rp K H J v d
|_,_,_,_,.nil,e=>by simp at e
|_,_,0,_,.cons h _,e=>by simp at e;subst e;exact⟨_,rfl,h⟩
|_,_,i+1,d,.cons _ t,e=>by
   obtain⟨v,h1,h2⟩:=RpL.get (i:=i) (d:=d) t (by simpa using e);exact⟨v,by simpa using h1,h2⟩
theorem RpL.append:∀{vs us:List V}{ds es:List D},RpL K H J vs ds->RpL K H J us es->RpL K H J (vs++us) (ds++es)
|_,_,_,_,.nil,s=>s
|_,_,_,_,.cons h t,s=>.cons h (RpL.append t s)
theorem RpL.take:∀{vs:List V}{ds:List D}(n:Nat),RpL K H J vs ds->RpL K H J (vs.take n) (ds.take n)
|_,_,0,_=>.nil
|_,_,_+1,.nil=>.nil
|_,_,n+1,.cons h t=>.cons h (RpL.take n t)
theorem RpL.drop:∀{vs:List V}{ds:List D}(n:Nat),RpL K H J vs ds->RpL K H J (vs.drop n) (ds.drop n)
|_,_,0,h=>h
|_,_,_+1,.nil=>.nil
|_,_,n+1,.cons _ t=>RpL.drop n t
theorem RpL.reverse:∀{vs:List V}{ds:List D},RpL K H J vs ds->RpL K H J vs.reverse ds.reverse
|_,_,.nil=>.nil
|_,_,.cons h t=>by
   rw[wcc,wcc];exact(RpL.reverse t).append (.cons h .nil)
theorem RpL.set:∀{vs:List V}{ds:List D}(i:Nat) {v:V}{d:D},RpL K H J vs ds->Rp K H J v d->RpL K H J (vs.set i v) (ds.set i d)
|_,_,_,_,_,.nil,_=>.nil
|_,_,0,_,_,.cons _ t,h=>.cons h t
|_,_,i+1,_,_,.cons q t,h=>.cons q (RpL.set i t h)
theorem RpL.at {vs:List V}{ds:List D}{i:Int}{d:D}(r:RpL K H J vs ds)(h:atI ds i=some d):∃v,atI vs i=some v/\Rp K H J v d:=by
 unfold atI at h⊢;rw[r.length];cases e:ixN ds.length i with
|none=>rw[e] at h;cases h
|some j=>rw[e] at h;exact r.get h
end
mutual
inductive RpU (K:Fg)(H:Hp)(J:Addr->Prop):Nat->V->D->List Addr->Prop
|frz {v:V}{d:D}(h:Rp K H J v d):RpU K H J 0 v d []
|lst {n:Nat}{a:Addr}{vs:List V}{ds:List D}{A:List Addr}(h:H a=some (.lst vs)) (r:RpUL K H J n vs ds A):RpU K H J (n+1) (.ref a) (.lst ds) (a::A)
|dct {n:Nat}{a:Addr}{kvs:List (Key×V)}{vs:List V}{ks:List Key}{ds:List D}{A:List Addr}(h:H a=some (.dK kvs)) (ek:kvs.map (·.1)=ks) (ev:kvs.map (·.2)=vs) (r:RpUL K H J n vs ds A):RpU K H J (n+1) (.ref a) (.dct ks ds) (a::A)
|dcu {n:Nat}{a:Addr}{kvs:List (List Key×V)}{vs:List V}{ks:List (List Key)}{ds:List D}{A:List Addr}(h:H a=some (.dT kvs)) (ek:kvs.map (·.1)=ks) (ev:kvs.map (·.2)=vs) (r:RpUL K H J n vs ds A):RpU K H J (n+1) (.ref a) (.dcu ks ds) (a::A)
inductive RpUL (K:Fg)(H:Hp)(J:Addr->Prop):Nat->List V->List D->List Addr->Prop
|nil {n:Nat}:RpUL K H J n [] [] []
|cons {n:Nat}{v:V}{d:D}{vs:List V}{ds:List D}{A B:List Addr}(h:RpU K H J n v d A) (t:RpUL K H J n vs ds B):RpUL K H J n (v::vs) (d::ds) (A++B)
end
def MutO:HO->Prop
|.lst _=>True
|.dK _=>True
|.dT _=>True
|_=>False
section
variable {K:Fg}{H H' H1 H2 Hz:Hp}{J J' J1 J2 Jz:Addr->Prop}
mutual
theorem RpU.keep {n:Nat}{v:V}{d:D}{A:List Addr}(k:Keep K H J H' J')(hA:∀b∈A,∀o,H b=some o->H' b=some o):RpU K H J n v d A->RpU K H' J' n v d A
|.frz h=>.frz (h.keep k)
|.lst h r=>.lst (hA _ war _ h) (RpUL.keep k (λb hb=>hA b (wam _ hb)) r)
|.dct h ek ev r=>.dct (hA _ war _ h) ek ev (RpUL.keep k (λb hb=>hA b (wam _ hb)) r)
|.dcu h ek ev r=>.dcu (hA _ war _ h) ek ev (RpUL.keep k (λb hb=>hA b (wam _ hb)) r)
theorem RpUL.keep {n:Nat}{vs:List V}{ds:List D}{A:List Addr}(k:Keep K H J H' J')(hA:∀b∈A,∀o,H b=some o->H' b=some o):RpUL K H J n vs ds A->RpUL K H' J' n vs ds A
|.nil=>.nil
|.cons h t=>.cons (RpU.keep k (λb hb=>hA b (wbd _ hb)) h) (RpUL.keep k (λb hb=>hA b (wat _ hb)) t)
end
mutual
theorem RpU.some {n:Nat}{v:V}{d:D}{A:List Addr}:RpU K H J n v d A->∀b∈A,∃o,H b=Option.some o/\MutO o
|.frz _=>λb hb=>absurd hb (by simp)
|.lst h r=>λb hb=>by
   rcases wap.mp hb with rfl|hb
   .exact⟨_,h,trivial⟩
   .exact RpUL.some r b hb
|.dct h _ _ r=>λb hb=>by
   rcases wap.mp hb with rfl|hb
   .exact⟨_,h,trivial⟩
   .exact RpUL.some r b hb
|.dcu h _ _ r=>λb hb=>by
   rcases wap.mp hb with rfl|hb
   .exact⟨_,h,trivial⟩
   .exact RpUL.some r b hb
theorem RpUL.some {n:Nat}{vs:List V}{ds:List D}{A:List Addr}:RpUL K H J n vs ds A->∀b∈A,∃o,H b=Option.some o/\MutO o
|.nil=>λb hb=>absurd hb (by simp)
|.cons h t=>λb hb=>by
   rcases waA.mp hb with hb|hb
   .exact RpU.some h b hb
   .exact RpUL.some t b hb
end
mutual
theorem RpU.rp {n:Nat}{v:V}{d:D}{A:List Addr}(j:∀a,J a->J' a)(hA:∀b∈A,J' b):RpU K H J n v d A->Rp K H J' v d
|.frz h=>h.keep ⟨j,λ_ _ _ h=>h,λ_ _ h=>h⟩
|.lst h r=>.lst h (hA _ war) (RpUL.rp j (λb hb=>hA b (wam _ hb)) r)
|.dct h ek ev r=>.dct h (hA _ war) ek ev (RpUL.rp j (λb hb=>hA b (wam _ hb)) r)
|.dcu h ek ev r=>.dcu h (hA _ war) ek ev (RpUL.rp j (λb hb=>hA b (wam _ hb)) r)
theorem RpUL.rp {n:Nat}{vs:List V}{ds:List D}{A:List Addr}(j:∀a,J a->J' a)(hA:∀b∈A,J' b):RpUL K H J n vs ds A->RpL K H J' vs ds
|.nil=>.nil
|.cons h t=>.cons (RpU.rp j (λb hb=>hA b (wbd _ hb)) h) (RpUL.rp j (λb hb=>hA b (wat _ hb)) t)
end
theorem RpUL.zero:∀{vs:List V}{ds:List D}{A:List Addr},RpUL K H J 0 vs ds A->RpL K H J vs ds/\A = []
|_,_,_,.nil=>⟨.nil,rfl⟩
|_,_,_,.cons (.frz h) t=>by
   obtain⟨r,e⟩:=RpUL.zero t;subst e;exact⟨.cons h r,rfl⟩
theorem RpUL.of:∀{vs:List V}{ds:List D},RpL K H J vs ds->RpUL K H J 0 vs ds []
|_,_,.nil=>.nil
|_,_,.cons h t=>.cons (A:=[]) (B:=[]) (.frz h) (RpUL.of t)
def RpU.one {v:V}{ds:List D}{A:List Addr}(h:RpU K H J 1 v (.lst ds) A):∃a vs,v=.ref a/\A = [a]/\H a=Option.some (.lst vs)/\RpL K H J vs ds:=by
 cases h with
|lst h r=>obtain⟨r',rfl⟩:=r.zero;exact⟨_,_,rfl,rfl,h,r'⟩
def RpU.oneD {v:V}{ks:List Key}{ds:List D}{A:List Addr}(h:RpU K H J 1 v (.dct ks ds) A):∃a kvs vs,v=.ref a/\A = [a]/\H a=Option.some (.dK kvs)/\kvs.map (·.1)=ks/\kvs.map (·.2)=vs/\RpL K H J vs ds:=by
 cases h with
|dct h e1 e2 r=>obtain⟨r',rfl⟩:=r.zero;exact⟨_,_,_,rfl,rfl,h,e1,e2,r'⟩
theorem RpUL.length {n:Nat}:∀{vs:List V}{ds:List D}{A:List Addr},RpUL K H J n vs ds A->vs.length=ds.length
|_,_,_,.nil=>rfl
|_,_,_,.cons _ t=>by simp[RpUL.length t]
theorem RpUL.append {n:Nat}:∀{vs us:List V}{ds es:List D}{A B:List Addr},RpUL K H J n vs ds A->RpUL K H J n us es B->RpUL K H J n (vs++us) (ds++es) (A++B)
|_,_,_,_,_,_,.nil,s=>s
|_,_,_,_,_,_,.cons h t,s=>by rw[waV];exact .cons h (RpUL.append t s)
theorem RpUL.split {n:Nat}:∀{vs:List V}{ds:List D}{A:List Addr}(i:Nat) {d:D},RpUL K H J n vs ds A->ds[i]?=Option.some d->∃v A1 A2 A3,vs[i]?=Option.some v/\A=A1++(A2++A3)/\RpU K H J n v d A2/\
 ∀(H':Hp) (J':Addr->Prop) (u:V) (e:D) (B:List Addr),Keep K H J H' J'->(∀b∈A1++A3,∀o,H b=Option.some o->H' b=Option.some o)->RpU K H' J' n u e B->RpUL K H' J' n (vs.set i u) (ds.set i e) (A1++(B++A3))
|_,_,_,_,_,.nil,e=>by simp at e
|_,_,_,0,_,.cons (A:=A) (B:=B) h t,e=>by
   simp at e;subst e;exact⟨_,[],A,B,rfl,rfl,h,λH' J' u e C k hk r=>RpUL.cons (A:=C) (B:=B) r (t.keep k (λb hb=>hk b (by simpa using hb)))⟩
|_,_,_,i+1,d,.cons (A:=A) (B:=B) h t,e=>by
   obtain⟨v,A1,A2,A3,hv,rfl,hr,up⟩:=RpUL.split i t (by simpa using e);refine⟨v,A++A1,A2,A3,by simpa using hv,by simp,hr,λH' J' u e C k hk r=>?_⟩;rw[waV];exact .cons (h.keep k (λb hb=>hk b (by simp[hb]))) (up H' J' u e C k (λb hb=>hk b (by simp at hb⊢;rcases hb with hb|hb <;> simp[hb])) r)
def RpW (K:Fg)(H:Hp)(J:Addr->Prop)(v:V)(d:D):Prop:=Rp K H J v d\/∃A,RpU K H J 1 v d A
theorem RpW.lst {v:V}{ds:List D}(h:RpW K H J v (.lst ds)):∃p vs,v=.ref p/\H p=some (.lst vs)/\RpL K H J vs ds:=by
 rcases h with h|⟨A,h⟩
 .cases h with|lst h j r=>exact⟨_,_,rfl,h,r⟩
 .obtain⟨a,vs,rfl,_,h,r⟩:=h.one;exact⟨a,vs,rfl,h,r⟩
theorem RpW.tup {v:V}{ds:List D}(h:RpW K H J v (.tup ds)):∃p vs,v=.ref p/\SqT K H p vs/\RpL K H J vs ds:=by
 rcases h with h|⟨A,h⟩
 .cases h with|tup h r=>exact⟨_,_,rfl,h,r⟩
 .cases h
theorem RpW.dct {v:V}{ks:List Key}{ds:List D}(h:RpW K H J v (.dct ks ds)):∃p kvs vs,v=.ref p/\H p=some (.dK kvs)/\kvs.map (·.1)=ks/\kvs.map (·.2)=vs/\RpL K H J vs ds:=by
 rcases h with h|⟨A,h⟩
 .cases h with|dct h j e1 e2 r=>exact⟨_,_,_,rfl,h,e1,e2,r⟩
 .obtain⟨a,kvs,vs,rfl,_,h,e1,e2,r⟩:=h.oneD;exact⟨a,kvs,vs,rfl,h,e1,e2,r⟩
theorem RpW.int {v:V}{i:Int}(h:RpW K H J v (.int i)):v=.int i:=by
 rcases h with h|⟨A,h⟩ <;> cases h
 rfl
theorem RpW.str {v:V}{i:Str}(h:RpW K H J v (.str i)):v=.str i:=by
 rcases h with h|⟨A,h⟩ <;> cases h
 rfl
theorem RpW.bl {v:V}{i:Bool}(h:RpW K H J v (.bl i)):v=.bl i:=by
 rcases h with h|⟨A,h⟩ <;> cases h
 rfl
theorem RpW.non {v:V}(h:RpW K H J v .non):v=.non:=by
 rcases h with h|⟨A,h⟩ <;> cases h
 rfl
end
inductive SV where
|un|val (d:D)|own (n:Nat) (d:D)|par (n:Nat) (d:D)
abbrev En:=List SV
structure Pr where
 ps:List (Nat×Addr×Nat)
 fpo:Nat->List Addr
def Pr.no:Pr:=⟨[],λ_=>[]⟩
def Pr.has (O:Pr)(b:Addr):Prop:=∃i,b∈O.fpo i
def OwAt (K:Fg)(Hz H:Hp)(J:Addr->Prop)(O:List Addr)(x:Option (Option V))(A:List Addr):Option SV->Prop
|some (.own n d)=>(∃v,x=some (some v)/\RpU K H J n v d A)/\∀b∈A,Hz b=none
|some (.par n d)=>(∃v,x=some (some v)/\RpU K H J n v d A)/\∀b∈A,Hz b=none\/b∈O
|_=>A = []
structure Ow (K:Fg)(Hz:Hp)(O:Pr)(Z:En)(Y:L2.St)(H:Hp)(J:Addr->Prop)(fp:Nat->List Addr):Prop where
 at':∀i,OwAt K Hz H J (O.fpo i) (Y[i]?) (fp i) (Z[i]?)
 nd:∀i,(fp i).Nodup
 nj:∀i,∀b∈fp i,¬J b
 dj:∀i j,i≠j->∀b∈fp i,b∉fp j
structure ST (K:Fg)(Hz:Hp)(Jz:Addr->Prop)(O:Pr)(Z:En)(Y:L2.St)(H:Hp)(J:Addr->Prop):Prop where
 same:∀b o,¬O.has b->Hz b=some o->H b=some o
 j0:∀a,Jz a->J a
 jn:∀a,J a->Jz a\/Hz a=none
 ja:∀a,J a->H a≠none
 len:Y.length=Z.length
 vl:∀(i:Nat) (d:D),Z[i]?=some (.val d)->∃v,Y[i]?=some (some v)/\Rp K H J v d
 ow:∃fp,Ow K Hz O Z Y H J fp
 ps:∀q∈O.ps,Y[q.1]?=some (some (.ref q.2.1))/\∃d,Z[q.1]?=some (.par q.2.2 d)
 al:∀b,Hz b≠none->H b≠none
section
variable {K:Fg}{H H' H1 H2 Hz:Hp}{J J' J1 J2 Jz:Addr->Prop}{Z:En}{Y:L2.St}{O:Pr}
def OwAt.ru {B:List Addr}{x:Option (Option V)}{A:List Addr}{s:Option SV}(h:OwAt K Hz H J B x A s):∀b∈A,∃o,H b=some o/\MutO o:=by
 match s,h with
|some (.own n d),⟨⟨v,_,r⟩,_⟩=>exact r.some
|some (.par n d),⟨⟨v,_,r⟩,_⟩=>exact r.some
|none,h=>cases h;simp
|some .un,h=>cases h;simp
|some (.val _),h=>cases h;simp
theorem OwAt.keep {B:List Addr}{x:Option (Option V)}{A:List Addr}{s:Option SV}(k:Keep K H J H' J')(hA:∀b∈A,∀o,H b=some o->H' b=some o)(h:OwAt K Hz H J B x A s):OwAt K Hz H' J' B x A s:=by
 match s,h with
|some (.own n d),⟨⟨v,e,r⟩,q⟩=>exact⟨⟨v,e,r.keep k hA⟩,q⟩
|some (.par n d),⟨⟨v,e,r⟩,q⟩=>exact⟨⟨v,e,r.keep k hA⟩,q⟩
|none,h=>exact h
|some .un,h=>exact h
|some (.val _),h=>exact h
def ST.up (s:ST K Hz Jz O Z Y H J)(u:Up H J H' J'):ST K Hz Jz O Z Y H' J' where
 same:=λb o hb h=>u.same b o (s.same b o hb h)
 j0:=λa h=>u.jj a (s.j0 a h)
 jn:=λa h=>by
  rcases u.jn a h with h|h
  .exact s.jn a h
  .right
   cases e:Hz a with
  |none=>rfl
  |some o=>
     exact absurd h (s.al a (by rw[e];simp))
 ja:=u.ja
 len:=s.len
 vl:=λi d h=>let ⟨v,e,r⟩:=s.vl i d h;⟨v,e,r.keep u.keep⟩
 ow:=by
  obtain⟨fp,w⟩:=s.ow;refine⟨fp,λi=>(w.at' i).keep u.keep λb _=>u.same b,w.nd,λi b hb j=>?_,w.dj⟩;rcases u.jn b j with j|j
  .exact w.nj i b hb j
  .obtain⟨o,e,_⟩:=(w.at' i).ru b hb;rw[e] at j;cases j
 ps:=s.ps
 al:=λb h=>by
  cases e:H b with
 |none=>exact absurd e (s.al b h)
 |some o=>rw[u.same b o e];simp
def zcQ {C:Type}{l:List C}{i j:Nat}{x y:C}(h:(l.set i x)[j]?=some y):(j=i/\y=x)\/(j≠i/\l[j]?=some y):=by
 by_cases e:j=i
 .subst e;by_cases hl:j<l.length
  .rw[wau hl] at h;exact .inl ⟨rfl,(was h).symm⟩
  .rw[waS (by simp;omega)] at h;cases h
 .rw[wai (Ne.symm e)] at h;exact .inr ⟨e,h⟩
def zjh (fp:Nat->List Addr)(i:Nat)(A:List Addr):Nat->List Addr:=λj=>if j=i then A else fp j
def zbc {fp:Nat->List Addr}{i:Nat}{A:List Addr}:zjh fp i A i=A:=if_pos rfl
def zbI {fp:Nat->List Addr}{i j:Nat}{A:List Addr}(h:j≠i):zjh fp i A j=fp j:=if_neg h
def Ow.put {fp:Nat->List Addr}{Z':En}{Y':L2.St}{i:Nat}{A:List Addr}(w:Ow K Hz O Z Y H J fp)(k:Keep K H J H' J')(hs:∀j,j≠i->∀b∈fp j,∀o,H b=some o->H' b=some o)
 (hj:∀j,j≠i->∀b∈fp j,¬J' b) (hρ:∀j,j≠i->Z'[j]?=Z[j]?) (hσ:∀j,j≠i->Y'[j]?=Y[j]?) (hi:OwAt K Hz H' J' (O.fpo i) (Y'[i]?) A (Z'[i]?)) (nd:A.Nodup) (nj:∀b∈A,¬J' b) (dj:∀j,j≠i->∀b∈A,b∉fp j) :
 Ow K Hz O Z' Y' H' J' (zjh fp i A) where
 at':=λj=>by
  by_cases e:j=i
  .subst e;rw[zbc];exact hi
  .rw[zbI e,hρ j e,hσ j e];exact(w.at' j).keep k (hs j e)
 nd:=λj=>by
  by_cases e:j=i
  .subst e;rw[zbc];exact nd
  .rw[zbI e];exact w.nd j
 nj:=λj b hb=>by
  by_cases e:j=i
  .subst e;rw[zbc] at hb;exact nj b hb
  .rw[zbI e] at hb;exact hj j e b hb
 dj:=λj l ne b hb=>by
  by_cases e:j=i
  .subst e;rw[zbc] at hb;rw[zbI (Ne.symm ne)];exact dj l (Ne.symm ne) b hb
  .rw[zbI e] at hb;by_cases e2:l=i
   .subst e2;rw[zbc];exact λhb2=>dj j e b hb2 hb
   .rw[zbI e2];exact w.dj j l ne b hb
def ST.psNe {i:Nat}(s:ST K Hz Jz O Z Y H J)(hp:∀n d,Z[i]?≠some (.par n d)):∀q∈O.ps,q.1≠i:=λq hq e=>by
 obtain⟨_,d,h⟩:=s.ps q hq;exact hp _ d (e▸h)
theorem ST.set {i:Nat}{v:V}{d:D}(s:ST K Hz Jz O Z Y H J)(r:Rp K H J v d)(hi:i<Z.length)(hp:∀n d,Z[i]?≠some (.par n d)):ST K Hz Jz O (Z.set i (.val d)) (Y.set i (some v)) H J where
 same:=s.same
 j0:=s.j0
 jn:=s.jn
 ja:=s.ja
 len:=by simp[s.len]
 vl:=λj e h=>by
  rcases zcQ h with⟨rfl,he⟩|⟨ne,h⟩
  .cases he;exact⟨v,wau (by rw[s.len];exact hi),r⟩
  .rw[wai (Ne.symm ne)];exact s.vl j e h
 ow:=by
  obtain⟨fp,w⟩:=s.ow;refine⟨_,w.put (i:=i) (A:=[]) Keep.refl (λ_ _ _ _ _ h=>h) (λj _=>w.nj j) (λj e=>wai (Ne.symm e)) (λj e=>wai (Ne.symm e)) ?_ wbb (by simp) (by simp)⟩;rw[wau hi];rfl
 ps:=λq hq=>by
  have e:=s.psNe hp q hq
  rw[wai (Ne.symm e),wai (Ne.symm e)];exact s.ps q hq
 al:=s.al
def ST.drop {i:Nat}(s:ST K Hz Jz O Z Y H J)(hp:∀n d,Z[i]?≠some (.par n d)):ST K Hz Jz O (Z.set i .un) Y H J where
 same:=s.same
 j0:=s.j0
 jn:=s.jn
 ja:=s.ja
 len:=by simp[s.len]
 vl:=λj e h=>by
  rcases zcQ h with⟨rfl,he⟩|⟨ne,h⟩
  .cases he
  .exact s.vl j e h
 ow:=by
  obtain⟨fp,w⟩:=s.ow;refine⟨_,w.put (i:=i) (A:=[]) Keep.refl (λ_ _ _ _ _ h=>h) (λj _=>w.nj j) (λj e=>wai (Ne.symm e)) (λ_ _=>rfl) ?_ wbb (by simp) (by simp)⟩;by_cases hi:i<Z.length
  .rw[wau hi];rfl
  .have z:(List.set Z i SV.un)[i]?=none:=waS (by simp;omega)
   rw[z];rfl
 ps:=λq hq=>by
  have e:=s.psNe hp q hq
  rw[wai (Ne.symm e)];exact s.ps q hq
 al:=s.al
def ST.setOwn {i n:Nat}{v:V}{d:D}{A:List Addr}(s:ST K Hz Jz O Z Y H1 J1)(u:Up H1 J1 H J)(fr:∀b∈A,H1 b=none)(r:RpU K H J n v d A)(nd:A.Nodup)(nj:∀b∈A,¬J b)(hi:i<Z.length)(hp:∀n d,Z[i]?≠some (.par n d)) :
 ST K Hz Jz O (Z.set i (.own n d)) (Y.set i (some v)) H J:=by
 have s':=s.up u
 refine⟨s'.same,s'.j0,s'.jn,s'.ja,by simp[s.len],λj e h=>?_,?_,λq hq=>?_,s'.al⟩
 .rcases zcQ h with⟨rfl,he⟩|⟨ne,h⟩
  .cases he
  .rw[wai (Ne.symm ne)];exact s'.vl j e h
 .obtain⟨fp,w⟩:=s.ow;have h0:∀b∈A,Hz b=none:=λb hb=>by
   cases e:Hz b with
  |none=>rfl
  |some o=>exact absurd (fr b hb) (s.al b (by rw[e];simp))
  refine⟨_,w.put (i:=i) (A:=A) u.keep (λj _ b _ o=>u.same b o) (λj _ b hb jb=>?_) (λj e=>wai (Ne.symm e)) (λj e=>wai (Ne.symm e)) ?_ nd nj (λj _ b hb hb2=>?_)⟩
  .rcases u.jn b jb with jb|jb
   .exact w.nj j b hb jb
   .obtain⟨o,e,_⟩:=(w.at' j).ru b hb;rw[e] at jb;cases jb
  .rw[wau hi,wau (by rw[s.len];exact hi)];exact⟨⟨v,rfl,r⟩,h0⟩
  .obtain⟨o,e,_⟩:=(w.at' j).ru b hb2;rw[fr b hb] at e;cases e
 .have e:=s.psNe hp q hq
  rw[wai (Ne.symm e),wai (Ne.symm e)];exact s.ps q hq
def ownD:Option SV->Option (Nat×D)
|some (.own n d)=>some (n,d)
|some (.par n d)=>some (n,d)
|_=>none
def putD (s:Option SV)(d:D):SV:=match s with
|some (.own n _)=>.own n d
|some (.par n _)=>.par n d
|_=>.un
def zk5 {A:List Addr}(hm:∀b∈A,∃o,H b=some o/\MutO o)(nj:∀b∈A,¬J b)(hs:∀b o,b∉A->H b=some o->H' b=some o)(jj:∀a,J a->J' a):Keep K H J H' J':=⟨jj,λp o j h=>hs p o (λhp=>nj p hp j) h,λp vs h=>by
 rcases h with(h|⟨u,h⟩)|h
 .exact .inl (.inl (hs p _ (λhp=>by obtain⟨o,e,m⟩:=hm p hp;rw[h] at e;cases e;exact m) h))
 .exact .inl (.inr ⟨u,hs p _ (λhp=>by obtain⟨o,e,m⟩:=hm p hp;rw[h] at e;cases e;exact m) h⟩)
 .exact .inr h⟩
def ST.chg {i n:Nat}{d:D}(s:ST K Hz Jz O Z Y H J)(h0:ownD (Z[i]?)=some (n,d)):∃v A,Y[i]?=some (some v)/\RpU K H J n v d A/\A.Nodup/\(∀b∈A,¬J b)/\
 ∀(H':Hp) (J':Addr->Prop) (d':D) (A':List Addr),(∀b o,b∉A->H b=some o->H' b=some o)->(∀b,H b≠none->H' b≠none)->(∀a,J a->J' a)->(∀a,J' a->J a\/H a=none)->(∀a,J' a->H' a≠none)->
  RpU K H' J' n v d' A'->A'.Nodup->(∀b∈A',¬J' b)->(∀b∈A',b∈A\/H b=none)->ST K Hz Jz O (Z.set i (putD (Z[i]?) d')) Y H' J'/\Keep K H J H' J':=by
 obtain⟨fp,w⟩:=s.ow;have hat:=w.at' i
 have hi:i<Z.length:=by
  by_cases hi:i<Z.length
  .exact hi
  .rw[waS (by omega)] at h0;cases h0
 have main:(∃v,Y[i]?=some (some v)/\RpU K H J n v d (fp i))/\(∀b∈fp i,Hz b=none\/b∈O.fpo i):=by
  match hq:Z[i]?,h0,hat with
 |some (.own m e),h0,hat=>cases h0;exact⟨hat.1,λb hb=>.inl (hat.2 b hb)⟩
 |some (.par m e),h0,hat=>cases h0;exact hat
 obtain⟨⟨v,hv,r⟩,hfr⟩:=main;refine⟨v,fp i,hv,r,w.nd i,w.nj i,λH' J' d' A' hs ha jj jn ja r' nd nj hA=>?_⟩;have kp:Keep K H J H' J':=zk5 (λb hb=>hat.ru b hb) (w.nj i) hs jj
 have out:∀j,j≠i->∀b∈fp j,b∉fp i:=λj e b hb hb2=>w.dj j i e b hb hb2
 have free:∀b,H b=none->Hz b=none:=λb hb=>by
  cases e:Hz b with
 |none=>rfl
 |some o=>exact absurd hb (s.al b (by rw[e];simp))
 refine⟨⟨λb o hb h=>hs b o (λhb2=>?_) (s.same b o hb h),λa h=>jj a (s.j0 a h),λa h=>?_,ja,by simp[s.len],λj e h=>?_,?_,λq hq=>?_,λb h=>ha b (s.al b h)⟩,kp⟩
 .rcases hfr b hb2 with h2|h2
  .rw[h2] at h;cases h
  .exact hb ⟨i,h2⟩
 .rcases jn a h with h|h
  .exact s.jn a h
  .exact .inr (free a h)
 .rcases zcQ h with⟨rfl,he⟩|⟨ne,h⟩
  .exfalso
   unfold putD at he;match hq:Z[j]?,h0 with
  |some (.own m e),h0=>rw[hq] at he;cases he
  |some (.par m e),h0=>rw[hq] at he;cases he
  .obtain⟨v,e1,r1⟩:=s.vl j e h;exact⟨v,e1,r1.keep kp⟩
 .refine⟨_,w.put (i:=i) (A:=A') kp (λj e b hb o ho=>hs b o (out j e b hb) ho) (λj e b hb jb=>?_) (λj e=>wai (Ne.symm e)) (λ_ _=>rfl) ?_ nd nj (λj e b hb hb2=>?_)⟩
  .rcases jn b jb with jb|jb
   .exact w.nj j b hb jb
   .obtain⟨o,e,_⟩:=(w.at' j).ru b hb;rw[e] at jb;cases jb
  .rw[wau hi];match hq:Z[i]?,h0,hat with
  |some (.own m e),h0,hat=>
     cases h0;refine⟨⟨v,hv,r'⟩,λb hb=>?_⟩;rcases hA b hb with hb|hb
     .exact hat.2 b hb
     .exact free b hb
  |some (.par m e),h0,hat=>
     cases h0;refine⟨⟨v,hv,r'⟩,λb hb=>?_⟩;rcases hA b hb with hb|hb
     .exact hat.2 b hb
     .exact .inl (free b hb)
  .rcases hA b hb with hb|hb
   .exact w.dj j i e b hb2 hb
   .obtain⟨o,e,_⟩:=(w.at' j).ru b hb2;rw[hb] at e;cases e
 .obtain⟨e1,e,h⟩:=s.ps q hq;refine⟨e1,?_⟩;by_cases e:q.1=i
  .rw[e,wau hi];rw[e] at h;exact⟨d',by rw[h];rfl⟩
  .rw[wai (Ne.symm e)];exact⟨_,h⟩
def ST.frz {i n:Nat}{d:D}(s:ST K Hz Jz O Z Y H J)(h0:Z[i]?=some (.own n d)):∃J',ST K Hz Jz O (Z.set i (.val d)) Y H J'/\Keep K H J H J':=by
 obtain⟨fp,w⟩:=s.ow;have hat:=w.at' i
 rw[h0] at hat
 obtain⟨⟨v,hv,r⟩,hn⟩:=hat
 have hi:i<Z.length:=(wab.mp h0).1
 have kp:Keep K H J H (λb=>J b\/b∈fp i):=⟨λ_ h=>.inl h,λ_ _ _ h=>h,λ_ _ h=>h⟩
 refine⟨λb=>J b\/b∈fp i,⟨s.same,λb h=>.inl (s.j0 b h),λb h=>?_,λb h=>?_,by simp[s.len],λj e h=>?_,?_,λq hq=>?_,s.al⟩,kp⟩
 .rcases h with h|h
  .exact s.jn b h
  .exact .inr (hn b h)
 .rcases h with h|h
  .exact s.ja b h
  .obtain⟨o,e,_⟩:=r.some b h;rw[e];simp
 .rcases zcQ h with⟨rfl,he⟩|⟨ne,h⟩
  .cases he;exact⟨v,hv,r.rp (λ_ h=>.inl h) (λb hb=>.inr hb)⟩
  .obtain⟨v,e1,r1⟩:=s.vl j e h;exact⟨v,e1,r1.keep kp⟩
 .refine⟨_,w.put (i:=i) (A:=[]) kp (λ_ _ _ _ _ h=>h) (λj e b hb jb=>?_) (λj e=>wai (Ne.symm e)) (λ_ _=>rfl) ?_ wbb (by simp) (by simp)⟩
  .rcases jb with jb|jb
   .exact w.nj j b hb jb
   .exact w.dj j i e b hb jb
  .rw[wau hi];rfl
 .have e:=s.psNe (i:=i) (λn d z=>by rw[h0] at z;cases z) q hq
  rw[wai (Ne.symm e)];exact s.ps q hq
def Weak (Z' Z:En):Prop:=Z'.length=Z.length/\∀(i:Nat),Z'[i]?=Z[i]?\/Z'[i]?=some .un
def isUn:Option SV->Bool
|some .un=>true
|_=>false
def ST.weak {Z':En}(s:ST K Hz Jz O Z Y H J)(w:Weak Z' Z)(hO:O.ps = []):ST K Hz Jz O Z' Y H J where
 same:=s.same
 j0:=s.j0
 jn:=s.jn
 ja:=s.ja
 len:=by rw[s.len,w.1]
 vl:=λi d h=>by
  rcases w.2 i with e|e
  .exact s.vl i d (e▸h)
  .rw[e] at h;cases h
 ow:=by
  obtain⟨fp,o⟩:=s.ow;have key:∀i:Nat,(Z'[i]?=some SV.un)\/Z'[i]?=Z[i]?:=λi=>(w.2 i).symm
  refine⟨λi=>if isUn (Z'[i]?) then[] else fp i,λi=>?_,λi=>?_,λi b hb=>?_,λi j ne b hb=>?_⟩
  .have q:=o.at' i
   rcases key i with e|e
   .rw[e];rfl
   .rw[e];cases z:Z[i]? with
   |none=>rw[z] at q;exact q
   |some x=>
      rw[z] at q;cases x with
     |un=>rfl
     |val d=>exact q
     |own n d=>exact q
     |par n d=>exact q
  .split
   .exact wbb
   .exact o.nd i
  .split at hb
   .cases hb
   .exact o.nj i b hb
  .split at hb
   .cases hb
   .split
    .simp
    .exact o.dj i j ne b hb
 ps:=by rw[hO];simp
 al:=s.al
end
end VD
namespace VD
open PySem.Spec L2
abbrev FE:=En->Option D
abbrev FT:=En->Option Bool
abbrev FA:=En->Option (List D)
def lim:Nat:=100000
def zdz:lim<sLn:=by decide
def zbJ {n:Nat}(h:n<=lim):n<=sLn:=wao h (wbl zdz)
def mkL (ds:List D):Option D:=if ds.length<=lim then some (.lst ds) else none
def mkT (ds:List D):Option D:=if ds.length<=lim then some (.tup ds) else none
def zk6 {ds:List D}{d:D}(h:mkL ds=some d):ds.length<=lim/\d=.lst ds:=by
 unfold mkL at h;by_cases e:ds.length<=lim
 .rw[if_pos e] at h;exact⟨e,(was h).symm⟩
 .rw[if_neg e] at h;cases h
def zeZ {ds:List D}{d:D}(h:mkT ds=some d):ds.length<=lim/\d=.tup ds:=by
 unfold mkT at h;by_cases e:ds.length<=lim
 .rw[if_pos e] at h;exact⟨e,(was h).symm⟩
 .rw[if_neg e] at h;cases h
section
variable (K:Fg)
def zgz (H:Hp)(J:Addr->Prop)(d:D)(Q:VK):Prop:=∀v H' J',Up H J H' J'->Rp K H' J' v d->Q v H'
def zpC (H:Hp)(J:Addr->Prop)(d:D)(Q:VK):Prop:=∀v H' J',Up H J H' J'->RpW K H' J' v d->Q v H'
def zmp (H:Hp)(J:Addr->Prop)(ds:List D)(Q:VK):Prop:=∀p vs H' J',Up H J H' J'->H p=none->¬J' p->H' p=some (.lst vs)->RpL K H' J' vs ds->Q (.ref p) H'
def zmq (H:Hp)(J:Addr->Prop)(b:Bool)(Q:Bool->Hp->Prop):Prop:=∀H' J',Up H J H' J'->Q b H'
def zpD (H:Hp)(J:Addr->Prop)(ds:List D)(Q:List V->Hp->Prop):Prop:=∀vs H' J',Up H J H' J'->RpL K H' J' vs ds->Q vs H'
def GoE (t:TE)(f:FE):Prop:=∀Hz Jz O Z Y H J d Q,ST K Hz Jz O Z Y H J->f Z=some d->zgz K H J d Q->t Y H Q
def GoW (t:TE)(f:FE):Prop:=∀Hz Jz O Z Y H J d Q,ST K Hz Jz O Z Y H J->f Z=some d->zpC K H J d Q->t Y H Q
def GoN (t:TE)(f:FA):Prop:=∀Hz Jz O Z Y H J d Q,ST K Hz Jz O Z Y H J->f Z=some d->zmp K H J d Q->t Y H Q
def GoT (t:TT)(f:FT):Prop:=∀Hz Jz O Z Y H J b Q,ST K Hz Jz O Z Y H J->f Z=some b->zmq H J b Q->t Y H Q
def GoA (t:TA)(f:FA):Prop:=∀Hz Jz O Z Y H J ds Q,ST K Hz Jz O Z Y H J->f Z=some ds->zpD K H J ds Q->t Y H Q
end
def VE (X:Cx)(e:Expr)(f:FE):Prop:=∃t,PE X e t/\GoE X.K t f
def VW (X:Cx)(e:Expr)(f:FE):Prop:=∃t,PE X e t/\GoW X.K t f
def VN (X:Cx)(e:Expr)(f:FA):Prop:=∃t,PE X e t/\GoN X.K t f
def VT (X:Cx)(e:Expr)(f:FT):Prop:=∃t,PT X e t/\GoT X.K t f
def VP (X:Cx)(e:Expr)(f:FT):Prop:=∃t,PW X e t/\GoT X.K t f
def VA (X:Cx)(es:List Expr)(f:FA):Prop:=∃t,PA X es t/\GoA X.K t f
def RpWL (K:Fg)(H:Hp)(J:Addr->Prop):List V->List D->Prop
|[],[]=>True
|v::vs,d::ds=>RpW K H J v d/\RpWL K H J vs ds
|_,_=>False
def GoAW (K:Fg)(t:TA)(f:FA):Prop:=∀Hz Jz O Z Y H J ds Q,ST K Hz Jz O Z Y H J->f Z=some ds->(∀vs H' J',Up H J H' J'->RpWL K H' J' vs ds->Q vs H')->t Y H Q
def VAW (X:Cx)(es:List Expr)(f:FA):Prop:=∃t,PA X es t/\GoAW X.K t f
def RpW.up {K:Fg}{H H':Hp}{J J':Addr->Prop}{v:V}{d:D}(h:RpW K H J v d)(u:Up H J H' J'):RpW K H' J' v d:=by
 rcases h with h|⟨A,h⟩
 .exact .inl (h.keep u.keep)
 .exact .inr ⟨A,h.keep u.keep λb _ o=>u.same b o⟩
section
variable {X:Cx}{a b c e:Expr}{es rest:List Expr}{fa fb:FE}{ft fu:FT}{fl:FA}{pos p:Pos}
theorem VE.w (h:VE X a fa):VW X a fa:=by
 obtain⟨t,p,g⟩:=h;exact⟨t,p,λHz Jz O Z Y H J d Q s e w=>g Hz Jz O Z Y H J d Q s e λv H' J' u r=>w v H' J' u (.inl r)⟩
def eVar (i:Nat):FE:=λZ=>match Z[i]? with|some (.val d)=>some d|_=>none
def eRd (i:Nat):FE:=λZ=>match Z[i]? with|some (.val d)=>some d|some (.own 1 d)=>some d|some (.par 1 d)=>some d|_=>none
def zpE {K:Fg}{i:Nat}:GoE K (tVar i) (eVar i):=by
 intro Hz Jz O Z Y H J d Q s e w;unfold eVar at e;split at e
 .rename_i d' q
  cases e;obtain⟨v,hv,r⟩:=s.vl i _ q;exact⟨v,hv,w v H J (Up.refl s.ja) r⟩
 .cases e
def ST.rd {K:Fg}{Hz H:Hp}{Jz J:Addr->Prop}{O:Pr}{Z:En}{Y:L2.St}{i n:Nat}{d:D}(s:ST K Hz Jz O Z Y H J)(h:ownD (Z[i]?)=some (n,d)):∃v A,Y[i]?=some (some v)/\RpU K H J n v d A:=by
 obtain⟨v,A,h1,h2,_⟩:=s.chg h;exact⟨v,A,h1,h2⟩
def zpF {K:Fg}{i:Nat}:GoW K (tVar i) (eRd i):=by
 intro Hz Jz O Z Y H J d Q s e w;unfold eRd at e;split at e
 .rename_i d' q
  cases e;obtain⟨v,hv,r⟩:=s.vl i _ q;exact⟨v,hv,w v H J (Up.refl s.ja) (.inl r)⟩
 .rename_i d' q
  cases e;obtain⟨v,A,hv,r⟩:=s.rd (i:=i) (n:=1) (d:=d) (by rw[q];rfl);exact⟨v,hv,w v H J (Up.refl s.ja) (.inr ⟨A,r⟩)⟩
 .rename_i d' q
  cases e;obtain⟨v,A,hv,r⟩:=s.rd (i:=i) (n:=1) (d:=d) (by rw[q];rfl);exact⟨v,hv,w v H J (Up.refl s.ja) (.inr ⟨A,r⟩)⟩
 .cases e
def vv (i:Nat){x:Str}{pos:Pos}(hN:X.N[i]?=some x:=by rfl)(hv:Vis X.env.scope x:=by first|exact Or.inl rfl|exact Or.inr (Or.inl rfl)|exact Or.inr (Or.inr rfl))(hd:(x == ("__debug__":Str))=false:=by decide)
 (hcd:(x == ("__classdict__":Str))=false:=by decide):VE X (.Name x pos) (eVar i):=⟨_,zcl hN hv hd hcd,zpE⟩
def vr (i:Nat){x:Str}{pos:Pos}(hN:X.N[i]?=some x:=by rfl)(hv:Vis X.env.scope x:=by first|exact Or.inl rfl|exact Or.inr (Or.inl rfl)|exact Or.inr (Or.inr rfl))(hd:(x == ("__debug__":Str))=false:=by decide)
 (hcd:(x == ("__classdict__":Str))=false:=by decide):VW X (.Name x pos) (eRd i):=⟨_,zcl hN hv hd hcd,zpF⟩
def eK (d:D):FE:=λ_=>some d
def go_c {K:Fg}{v:V}{d:D}(h:∀H J,Rp K H J v d):GoE K (tC v) (eK d):=by
 intro Hz Jz O Z Y H J d' Q s e w;cases e;exact w v H J (Up.refl s.ja) (h H J)
def zag {i j pos}:VE X (.Constant (.int i) j pos) (eK (.int i)):=⟨_,zo6,go_c λ_ _=>.int i⟩
def zcj {i j pos}:VE X (.Constant (.bool i) j pos) (eK (.bl i)):=⟨_,zrw,go_c λ_ _=>.bl i⟩
def zdA {i j pos}:VE X (.Constant (.str i) j pos) (eK (.str i)):=⟨_,zo8,go_c λ_ _=>.str i⟩
def zeD {j pos}:VE X (.Constant .none j pos) (eK .non):=⟨_,zo7,go_c λ_ _=>.non⟩
structure GlobD (K:Fg)(mg:Str->Option Vl)(x:Str)(d:D):Prop where
 ex:∃u v,mg x=some u/\RelV v u/\∀H J,Rp K H J v d
def zaJ {x:Str}{d:D}{pos:Pos}(G:GlobD X.K X.mg x d)(hg:Gl X x:=by rfl)(hd:(x == ("__debug__":Str))=false:=by decide):VE X (.Name x pos) (eK d):=by
 obtain⟨u,v,h1,h2,h3⟩:=G.ex;exact⟨_,ziE hg h1 h2 hd,go_c h3⟩
def e2 (F:D->D->Option D)(f g:FE):FE:=λZ=>(f Z).bind λx=>(g Z).bind λy=>F x y
def e1 (F:D->Option D)(f:FE):FE:=λZ=>(f Z).bind F
def bS {C B:Type}{o:Option C}{f:C->Option B}{b:B}(h:o.bind f=some b):∃a,o=some a/\f a=some b:=by
 cases o with
|none=>cases h
|some a=>exact⟨a,rfl,h⟩
def Im2 (K:Fg)(r:R2)(F:D->D->Option D):Prop:=∀H J x y d e d' Q,(∀a,J a->H a≠none)->RpW K H J x d->RpW K H J y e->F d e=some d'->zgz K H J d' Q->r x y H Q
def zk7 {K:Fg}{r:R2}{F:D->D->Option D}{ta tb:TE}(im:Im2 K r F)(ga:GoW K ta fa)(gb:GoW K tb fb):GoE K (tOp r ta tb) (e2 F fa fb):=by
 intro Hz Jz O Z Y H J d Q s e w;obtain⟨x,ex,e⟩:=bS e;obtain⟨y,ey,e⟩:=bS e;refine ga Hz Jz O Z Y H J x _ s ex λv1 H1 J1 u1 r1=>?_
 refine gb Hz Jz O Z Y H1 J1 y _ (s.up u1) ey λv2 H2 J2 u2 r2=>?_
 exact im H2 J2 v1 v2 x y d Q u2.ja (r1.up u2) r2 e λv3 H3 J3 u3 r3=>w v3 H3 J3 (u1.trans (u2.trans u3)) r3
def zaK {op:Operator}{r:R2}{F:D->D->Option D}(ho:OpR X (binaryOp op) r)(im:Im2 X.K r F)(ha:VW X a fa)(hb:VW X b fb):VE X (.BinOp a op b pos) (e2 F fa fb):=by
 obtain⟨ta,pa,ga⟩:=ha;obtain⟨tb,pb,gb⟩:=hb;exact⟨_,zm6 ho pa pb,zk7 im ga gb⟩
def zdW {op:CmpOp}{r:R2}{F:D->D->Option D}(ho:OpR X (cOp op) r)(im:Im2 X.K r F)(ha:VW X a fa)(hb:VW X b fb)(hm:behindInMarks op b=false):VE X (.Compare a [op] [b] pos) (e2 F fa fb):=by
 obtain⟨ta,pa,ga⟩:=ha;obtain⟨tb,pb,gb⟩:=hb;exact⟨_,ziS ho pa pb hm,zk7 im ga gb⟩
def dB:D->Option Bool
|.bl b=>some b
|_=>none
def t1 (f:FE):FT:=λZ=>(f Z).bind dB
def zji {K:Fg}{t:TE}{f:FE}(g:GoE K t f):GoT K (zm9 t) (t1 f):=by
 intro Hz Jz O Z Y H J d Q s e w;obtain⟨x,ex,e⟩:=bS e;refine g Hz Jz O Z Y H J x _ s ex λv H1 J1 u1 r1=>?_
 cases x with
|bl k=>cases e;cases r1;exact⟨_,rfl,w H1 J1 u1⟩
|_=>cases e
def zaO {op:CmpOp}{r:R2}{F:D->D->Option D}(ho:OpR X (cOp op) r)(im:Im2 X.K r F)(ha:VW X a fa)(hb:VW X b fb)(hm:behindInMarks op b=false):VT X (.Compare a [op] [b] pos) (t1 (e2 F fa fb)):=by
 obtain⟨ta,pa,ga⟩:=ha;obtain⟨tb,pb,gb⟩:=hb;exact⟨_,zna ho pa pb hm,zji (zk7 im ga gb)⟩
def e3 (F G:D->D->Option D)(f g h:FE):FE:=λZ=>(f Z).bind λx=>(g Z).bind λy=>(F x y).bind λz=>(dB z).bind λk=>if k then(h Z).bind λw=>G y w else some (.bl false)
def zk8 {K:Fg}{r r':R2}{F G:D->D->Option D}{ta tb tc:TE}{fc:FE}(im:Im2 K r F)(im':Im2 K r' G)(ga:GoW K ta fa)(gb:GoW K tb fb)(gc:GoW K tc fc):GoE K (zmj r r' ta tb tc) (e3 F G fa fb fc):=by
 intro Hz Jz O Z Y H J d Q s e w;obtain⟨x,ex,e⟩:=bS e;obtain⟨y,ey,e⟩:=bS e;obtain⟨z,ez,e⟩:=bS e;obtain⟨k,ek,e⟩:=bS e;refine ga Hz Jz O Z Y H J x _ s ex λv1 H1 J1 u1 r1=>?_
 refine gb Hz Jz O Z Y H1 J1 y _ (s.up u1) ey λv2 H2 J2 u2 r2=>?_
 refine im H2 J2 v1 v2 x y z _ u2.ja (r1.up u2) r2 ez λv3 H3 J3 u3 r3=>?_
 cases z with
|bl k'=>
   have ek':k'=k:=was ek
   subst ek';cases r3;refine⟨_,rfl,?_⟩;cases k' with
  |true=>
     refine iteT ?_;have e':((fc Z).bind λw=>G y w)=some d:=e
     obtain⟨q,eq,e'⟩:=bS e';refine gc Hz Jz O Z Y H3 J3 q _ (s.up (u1.trans (u2.trans u3))) eq λv4 H4 J4 u4 r4=>?_
     exact im' H4 J4 v2 v4 y q d Q u4.ja (r2.up (u3.trans u4)) r4 e' λv5 H5 J5 u5 r5=>w v5 H5 J5 (u1.trans (u2.trans (u3.trans (u4.trans u5)))) r5
  |false=>
     refine iteF ?_;have e':some (D.bl false)=some d:=e
     cases e';exact w _ H3 J3 (u1.trans (u2.trans u3)) (.bl false)
|_=>cases ek
def zk9 {op op':CmpOp}{r r':R2}{F G:D->D->Option D}{fc:FE}(ho:OpR X (cOp op) r)(im:Im2 X.K r F)(ho':OpR X (cOp op') r')(im':Im2 X.K r' G)(ha:VW X a fa)(hb:VW X b fb)(hc:VW X c fc)(hm:lastMarks [op,op'] [b,c]=false:=by with_unfolding_all rfl):VT X (.Compare a [op,op'] [b,c] pos) (t1 (e3 F G fa fb fc)):=by
 obtain⟨ta,pa,ga⟩:=ha;obtain⟨tb,pb,gb⟩:=hb;obtain⟨tc,pc,gc⟩:=hc;exact⟨_,zkN ho ho' pa pb pc hm,zji (zk8 im im' ga gb gc)⟩
def dTru:D->Option Bool
|.non=>some false
|.bl b=>some b
|.int i=>some (i != 0)
|.str x=>if x.length<=lim then some ((x.length:Int) != 0) else none
|.tup ds=>some (!ds.isEmpty)
|.lst ds=>some (!ds.isEmpty)
|.dct ks _=>some (!ks.isEmpty)
|.scr _=>none
|.exc _ _ _=>none
|.dcu _ _=>none
def tT (f:FE):FT:=λZ=>(f Z).bind dTru
def zdX {C B:Type}{xs:List C}{ys:List B}(h:xs.length=ys.length):xs.isEmpty=ys.isEmpty:=by
 cases xs <;> cases ys <;> first|rfl|cases h
def zpG {K:Fg}{H:Hp}{J:Addr->Prop}{v:V}{d:D}{k:Bool}(r:RpW K H J v d)(h:dTru d=some k):TruV K v H k:=by
 cases d with
|non=>rw[r.non];cases h;rfl
|bl b=>rw[r.bl];cases h;rfl
|int b=>rw[r.int];cases h;rfl
|str x=>
   rw[r.str];have h:(if x.length<=lim then some ((x.length:Int) != 0) else none)=some k:=h
   by_cases e:x.length<=lim
   .rw[if_pos e] at h;cases h;exact⟨zbJ e,rfl⟩
   .rw[if_neg e] at h;cases h
|tup ds=>obtain⟨p,vs,rfl,h1,h2⟩:=r.tup;cases h;exact .inr (.inl ⟨vs,h1,by rw[zdX h2.length]⟩)
|lst ds=>obtain⟨p,vs,rfl,h1,h2⟩:=r.lst;cases h;exact .inl ⟨vs,SqL.of h1,by rw[zdX h2.length]⟩
|scr p=>cases h
|exc _ _ _=>cases h
|dcu _ _=>cases h
|dct ks ds=>
   obtain⟨p,kvs,vs,rfl,h1,h2,h3,h4⟩:=r.dct;cases h;refine .inr (.inr ⟨kvs,h1,?_⟩);rw[<-h2];cases kvs <;> rfl
def zbr (ha:VW X a fa)(he:∀whole,isTrue a X.env whole=(do let v <-whole;standAt a.pos;holding [v] (truthy v)):=by intro _;rfl):VT X a (tT fa):=by
 obtain⟨ta,pa,ga⟩:=ha;refine⟨_,zkO pa he,?_⟩;intro Hz Jz O Z Y H J d Q s e w;obtain⟨x,ex,e⟩:=bS e;refine ga Hz Jz O Z Y H J x _ s ex λv H1 J1 u1 r1=>?_
 exact⟨d,zpG r1 e,w H1 J1 u1⟩
def tAndF (f g:FT):FT:=λZ=>(f Z).bind λk=>if k then g Z else some false
def tOrF (f g:FT):FT:=λZ=>(f Z).bind λk=>if k then some true else g Z
def tNotF (f:FT):FT:=λZ=>(f Z).bind λk=>some (!k)
def zpH {K:Fg}{t u:TT}(g1:GoT K t ft)(g2:GoT K u fu):GoT K (tAnd t u) (tAndF ft fu):=by
 intro Hz Jz O Z Y H J d Q s e w;obtain⟨k,ek,e⟩:=bS e;refine g1 Hz Jz O Z Y H J k _ s ek λH1 J1 u1=>?_
 cases k with
|true=>exact iteT (g2 Hz Jz O Z Y H1 J1 d Q (s.up u1) e λH2 J2 u2=>w H2 J2 (u1.trans u2))
|false=>have e':some false=some d:=e;cases e';exact iteF (w H1 J1 u1)
def zrO {K:Fg}{t u:TT}(g1:GoT K t ft)(g2:GoT K u fu):GoT K (tOr t u) (tOrF ft fu):=by
 intro Hz Jz O Z Y H J d Q s e w;obtain⟨k,ek,e⟩:=bS e;refine g1 Hz Jz O Z Y H J k _ s ek λH1 J1 u1=>?_
 cases k with
|true=>have e':some true=some d:=e;cases e';exact iteT (w H1 J1 u1)
|false=>exact iteF (g2 Hz Jz O Z Y H1 J1 d Q (s.up u1) e λH2 J2 u2=>w H2 J2 (u1.trans u2))
def zjj (h:VT X a ft):VP X (.BoolOp .And [a] pos) ft:=let ⟨t,p,g⟩:=h;⟨t,zm4 p,g⟩
def zdY (h:VT X a ft):VP X (.BoolOp .Or [a] pos) ft:=let ⟨t,p,g⟩:=h;⟨t,zo9 p,g⟩
def zmr (h:VT X a ft)(h2:VP X (.BoolOp .And (b::rest) pos) fu):VP X (.BoolOp .And (a::b::rest) pos) (tAndF ft fu):=let ⟨_,p,g⟩:=h;let ⟨_,p2,g2⟩:=h2;⟨_,zpa p p2,zpH g g2⟩
def zfG (h:VT X a ft)(h2:VP X (.BoolOp .Or (b::rest) pos) fu):VP X (.BoolOp .Or (a::b::rest) pos) (tOrF ft fu):=let ⟨_,p,g⟩:=h;let ⟨_,p2,g2⟩:=h2;⟨_,zrx p p2,zrO g g2⟩
theorem VP.t (h:VP X a ft):VT X a ft:=let ⟨t,p,g⟩:=h;⟨t,p.pt,g⟩
def zch (h:VT X a ft):VT X (.UnaryOp .Not a pos) (tNotF ft):=by
 obtain⟨t,p,g⟩:=h;refine⟨_,zpb p,?_⟩;intro Hz Jz O Z Y H J d Q s e w;obtain⟨k,ek,e⟩:=bS e;cases e;exact g Hz Jz O Z Y H J k _ s ek λH1 J1 u1=>w H1 J1 u1
def eAnd (f g:FE):FE:=λZ=>(t1 f Z).bind λk=>if k then g Z else some (.bl false)
def eOr (f g:FE):FE:=λZ=>(t1 f Z).bind λk=>if k then some (.bl true) else g Z
def eNot (f:FE):FE:=λZ=>(t1 f Z).bind λk=>some (.bl (!k))
def zeE {op}(h:VE X a fa):VE X (.BoolOp op [a] pos) fa:=let ⟨_,p,g⟩:=h;⟨_,zpc p,g⟩
def zeF (h:VE X a fa)(h2:VE X (.BoolOp .And (b::rest) pos) fb):VE X (.BoolOp .And (a::b::rest) pos) (eAnd fa fb):=by
 obtain⟨t,p,g⟩:=h;obtain⟨t2,p2,g2⟩:=h2;refine⟨_,zpd p p2,?_⟩;intro Hz Jz O Z Y H J d Q s e w;obtain⟨k,ek,e⟩:=bS e;obtain⟨x,ex,ek⟩:=bS ek;refine g Hz Jz O Z Y H J x _ s ex λv H1 J1 u1 r1=>?_
 cases x with
|bl k'=>
   have ek':k'=k:=was ek
   subst ek';cases r1;refine⟨_,rfl,?_⟩;cases k' with
  |true=>exact iteT (g2 Hz Jz O Z Y H1 J1 d Q (s.up u1) e λv2 H2 J2 u2 r2=>w v2 H2 J2 (u1.trans u2) r2)
  |false=>have e':some (D.bl false)=some d:=e;cases e';exact iteF (w _ H1 J1 u1 (.bl false))
|_=>cases ek
def zrP (h:VE X a fa)(h2:VE X (.BoolOp .Or (b::rest) pos) fb):VE X (.BoolOp .Or (a::b::rest) pos) (eOr fa fb):=by
 obtain⟨t,p,g⟩:=h;obtain⟨t2,p2,g2⟩:=h2;refine⟨_,zrA p p2,?_⟩;intro Hz Jz O Z Y H J d Q s e w;obtain⟨k,ek,e⟩:=bS e;obtain⟨x,ex,ek⟩:=bS ek;refine g Hz Jz O Z Y H J x _ s ex λv H1 J1 u1 r1=>?_
 cases x with
|bl k'=>
   have ek':k'=k:=was ek
   subst ek';cases r1;refine⟨_,rfl,?_⟩;cases k' with
  |false=>exact iteF (g2 Hz Jz O Z Y H1 J1 d Q (s.up u1) e λv2 H2 J2 u2 r2=>w v2 H2 J2 (u1.trans u2) r2)
  |true=>have e':some (D.bl true)=some d:=e;cases e';exact iteT (w _ H1 J1 u1 (.bl true))
|_=>cases ek
def zpI (h:VE X a fa):VE X (.UnaryOp .Not a pos) (eNot fa):=by
 obtain⟨t,p,g⟩:=h;refine⟨_,zpe p,?_⟩;intro Hz Jz O Z Y H J d Q s e w;obtain⟨k,ek,e⟩:=bS e;obtain⟨x,ex,ek⟩:=bS ek;refine g Hz Jz O Z Y H J x _ s ex λv H1 J1 u1 r1=>?_
 cases x with
|bl k'=>
   have ek':k'=k:=was ek
   subst ek';cases r1;cases e;exact⟨_,rfl,w _ H1 J1 u1 (.bl _)⟩
|_=>cases ek
def aNil:FA:=λ_=>some []
def aCons (f:FE)(g:FA):FA:=λZ=>(f Z).bind λx=>(g Z).bind λxs=>some (x::xs)
def zai:VA X [] aNil:=⟨_,zcL,λHz Jz O Z Y H J ds Q s e w=>by cases e;exact w [] H J (Up.refl s.ja) .nil⟩
def zad (ha:VE X e fa)(hr:VA X es fl)(hs:sE (e::es) X.env=(false,eval e X.env)::sE es X.env:=by rfl):VA X (e::es) (aCons fa fl):=by
 obtain⟨t,p,g⟩:=ha;obtain⟨t2,p2,g2⟩:=hr;refine⟨_,za2 p p2 hs,?_⟩;intro Hz Jz O Z Y H J ds Q s e w;obtain⟨x,ex,e⟩:=bS e;obtain⟨xs,exs,e⟩:=bS e;cases e;refine g Hz Jz O Z Y H J x _ s ex λv1 H1 J1 u1 r1=>?_
 refine g2 Hz Jz O Z Y H1 J1 xs _ (s.up u1) exs λvs H2 J2 u2 r2=>?_
 exact w _ H2 J2 (u1.trans u2) (.cons (r1.keep u2.keep) r2)
def zaA:VAW X [] aNil:=⟨_,zcL,λHz Jz O Z Y H J ds Q s e w=>by cases e;exact w [] H J (Up.refl s.ja) trivial⟩
def zao (ha:VW X e fa)(hr:VAW X es fl)(hs:sE (e::es) X.env=(false,eval e X.env)::sE es X.env:=by rfl):VAW X (e::es) (aCons fa fl):=by
 obtain⟨t,p,g⟩:=ha;obtain⟨t2,p2,g2⟩:=hr;refine⟨_,za2 p p2 hs,?_⟩;intro Hz Jz O Z Y H J ds Q s e w;obtain⟨x,ex,e⟩:=bS e;obtain⟨xs,exs,e⟩:=bS e;cases e;refine g Hz Jz O Z Y H J x _ s ex λv1 H1 J1 u1 r1=>?_
 refine g2 Hz Jz O Z Y H1 J1 xs _ (s.up u1) exs λvs H2 J2 u2 r2=>?_
 exact w _ H2 J2 (u1.trans u2) ⟨r1.up u2,r2⟩
def eTup (f:FA):FE:=λZ=>(f Z).bind mkT
def zcm {x1}(h:VA X es fl):VE X (.Tuple es x1 pos) (eTup fl):=by
 obtain⟨t,p,g⟩:=h;refine⟨_,zmk p,?_⟩;intro Hz Jz O Z Y H J d Q s e w;obtain⟨xs,exs,e⟩:=bS e;obtain⟨hl,rfl⟩:=zeZ e;refine g Hz Jz O Z Y H J xs _ s exs λvs H1 J1 u1 r1=>⟨by rw[r1.length];exact zbJ hl,λp hp=>?_⟩
 have un:=Up.new u1.ja hp (.tup vs)
 exact w _ _ _ (u1.trans un) (.tup (SqT.of zae) (r1.keep un.keep))
def aMk (f:FA):FA:=λZ=>(f Z).bind λds=>if ds.length<=lim then some ds else none
def zla {f:FA}{Z:En}{ds:List D}(h:aMk f Z=some ds):f Z=some ds/\ds.length<=lim:=by
 obtain⟨xs,e1,e2⟩:=bS h;by_cases hl:xs.length<=lim
 .rw[if_pos hl] at e2;cases e2;exact⟨e1,hl⟩
 .rw[if_neg hl] at e2;cases e2
def zbs (h:VA X es fl):VN X (.List es pos) (aMk fl):=by
 obtain⟨t,p,g⟩:=h;refine⟨_,zml p,?_⟩;intro Hz Jz O Z Y H J ds Q s e w;obtain⟨e1,hl⟩:=zla e;refine g Hz Jz O Z Y H J ds _ s e1 λvs H1 J1 u1 r1=>⟨by rw[r1.length];exact zbJ hl,λp hp=>?_⟩
 have un:=Up.new u1.ja hp (.lst vs)
 exact w p vs _ J1 (u1.trans un) (u1.same.free hp) (λj=>u1.ja p j hp) zae (r1.keep un.keep)
def eL (f:FA):FE:=λZ=>(f Z).bind λds=>some (.lst ds)
def zms {K:Fg}{t:TE}{f:FA}(g:GoN K t f):GoE K t (eL f):=by
 intro Hz Jz O Z Y H J d Q s e w;obtain⟨ds,e1,e⟩:=bS e;cases e;refine g Hz Jz O Z Y H J ds _ s e1 λp vs H1 J1 u1 hp nj h1 r1=>?_
 have kp:Keep K H1 J1 H1 (λa=>J1 a\/a=p):=⟨λ_ h=>.inl h,λ_ _ _ h=>h,λ_ _ h=>h⟩
 refine w (.ref p) H1 (λa=>J1 a\/a=p) ⟨u1.same,λa h=>.inl (u1.jj a h),λa h=>?_,λa h=>?_⟩ (.lst h1 (.inr rfl) (r1.keep kp))
 .rcases h with h|rfl
  .exact u1.jn a h
  .exact .inr hp
 .rcases h with h|rfl
  .exact u1.ja a h
  .rw[h1];simp
def VN.ve {f:FA}(h:VN X a f):VE X a (eL f):=let ⟨_,p,g⟩:=h;⟨_,p,zms g⟩
def spF (K:Fg)(F:List D->Option D):Sp:=λvs H Q _=>∃J ds d,(∀a,J a->H a≠none)/\RpL K H J vs ds/\F ds=some d/\zgz K H J d Q
def eCall (F:List D->Option D)(f:FA):FE:=λZ=>(f Z).bind F
def zay {k k':Nat}{x:Str}{ps:List Str}{F:List D->Option D}(C:Cal X.prog X.w X.K X.mg X.base k x ps (spF X.K F))(hr:Room k' X.A)(ha:VA X (e::es) fl)(hk:k<=k':=by decide)(hg:Gl X x:=by rfl)(hdb:(x == ("__debug__":Str))=false:=by decide)
 (he:sE (e::es) X.env=(false,eval e X.env)::sE es X.env:=by rfl) (hpl:(backTo pos (sE es X.env)).any (·.1)=false:=by rfl):VE X (.Call (.Name x p) (e::es) [] pos) (eCall F fl):=by
 obtain⟨t,p,g⟩:=ha;refine⟨_,pc C hr p hk hg hdb he hpl,?_⟩;intro Hz Jz O Z Y H J d Q s e w;obtain⟨ds,e1,e⟩:=bS e;refine g Hz Jz O Z Y H J ds _ s e1 λvs H1 J1 u1 r1=>?_
 refine⟨J1,ds,d,u1.ja,by rw[waJ];exact r1,e,λv H2 J2 u2 r2=>w v H2 J2 (u1.trans u2) r2⟩
def ImC (K:Fg)(r:List V->Hp->VK->Prop)(F:List D->Option D):Prop:=∀H J vs ds d Q,(∀a,J a->H a≠none)->RpWL K H J vs ds->F ds=some d->zgz K H J d Q->r vs H Q
def zpJ {K:Fg}{r:List V->Hp->VK->Prop}{F:List D->Option D}{t:TA}(im:ImC K r F)(g:GoAW K t fl):GoE K (tCB r t) (eCall F fl):=by
 intro Hz Jz O Z Y H J d Q s e w;obtain⟨ds,e1,e⟩:=bS e;refine g Hz Jz O Z Y H J ds _ s e1 λvs H1 J1 u1 r1=>?_
 exact im H1 J1 vs ds d Q u1.ja r1 e λv H2 J2 u2 r2=>w v H2 J2 (u1.trans u2) r2
def ve_b {id:String}{x:Str}{r:List V->Hp->VK->Prop}{F:List D->Option D}(hc:zci X (.builtin id) r)(im:ImC X.K r F)(B:Blt X.mg)(hv:bBs x=some (.builtin id))(ha:VAW X (e::es) fl)(hB:x∈zbt:=by decide +kernel)(hg:Gl X x:=by rfl)(hn:x≠"__name__":=by decide)(hdb:(x == ("__debug__":Str))=false:=by decide)
 (he:sE (e::es) X.env=(false,eval e X.env)::sE es X.env:=by rfl) (hpl:(backTo pos (sE es X.env)).any (·.1)=false:=by rfl):VE X (.Call (.Name x p) (e::es) [] pos) (eCall F fl):=by
 obtain⟨t,p,g⟩:=ha;exact⟨_,pb hc B hv p hB hg hn hdb he hpl,zpJ im g⟩
def znw {T:String}{x:Str}{r:List V->Hp->VK->Prop}{F:List D->Option D}(hc:zci X (.type T) r)(im:ImC X.K r F)(B:Blt X.mg)(hv:bBs x=some (.type T))(ha:VAW X (e::es) fl)(hB:x∈zbt:=by decide +kernel)(hg:Gl X x:=by rfl)(hn:x≠"__name__":=by decide)(hdb:(x == ("__debug__":Str))=false:=by decide)
 (he:sE (e::es) X.env=(false,eval e X.env)::sE es X.env:=by rfl) (hpl:(backTo pos (sE es X.env)).any (·.1)=false:=by rfl):VE X (.Call (.Name x p) (e::es) [] pos) (eCall F fl):=by
 obtain⟨t,p,g⟩:=ha;exact⟨_,pty hc B hv p hB hg hn hdb he hpl,zpJ im g⟩
end
section
variable {K:Fg}{X:Cx}
def dAdd:D->D->Option D
|.int i,.int j=>some (.int (i+j))
|.str x,.str y=>if x.length+y.length<=lim then some (.str (x++y)) else none
|.lst xs,.lst ys=>mkL (xs++ys)
|.tup xs,.tup ys=>if ys = [] then none else mkT (xs++ys)
|_,_=>none
def zpK (K:Fg):R2:=λx y H Q=>(rI0 λi j=>.int (i+j)) x y H Q\/(∃i j,x=.str i/\y=.str j/\i.length+j.length<=sLn/\Q (.str (i++j)) H)\/rCat x y H Q\/zpw K x y H Q
def zbu:OpR X (binaryOp .Add) (zpK X.K):=op_add.or (op_add_str.or (op_cat.or zno))
def zaP:Im2 K (zpK K) dAdd:=by
 intro H J x y d e d' Q ja hx hy hF w;match d,e,hF with
|.int i,.int j,hF=>
   cases hF;rw[hx.int,hy.int];exact .inl ⟨i,j,rfl,rfl,w _ H J (Up.refl ja) (.int _)⟩
|.str a,.str b,hF=>
   have hF:(if a.length+b.length<=lim then some (D.str (a++b)) else none)=some d':=hF
   by_cases hl:a.length+b.length<=lim
   .rw[if_pos hl] at hF;cases hF;rw[hx.str,hy.str];exact .inr (.inl ⟨a,b,rfl,rfl,zbJ hl,w _ H J (Up.refl ja) (.str _)⟩)
   .rw[if_neg hl] at hF;cases hF
|.lst xs,.lst ys,hF=>
   have hF:mkL (xs++ys)=some d':=hF
   obtain⟨hl,rfl⟩:=zk6 hF;obtain⟨p,vs,rfl,h1,r1⟩:=hx.lst;obtain⟨q,us,rfl,h2,r2⟩:=hy.lst;refine .inr (.inr (.inl ⟨p,q,vs,us,rfl,rfl,h1,h2,?_,λc hc=>?_⟩))
   .rw[r1.length,r2.length,<-waj];exact zbJ hl
   .have un:=Up.newJ ja hc (.lst (vs++us))
    exact w _ _ _ un (.lst zae (.inr rfl) ((r1.append r2).keep un.keep))
|.tup xs,.tup ys,hF=>
   have hF:(if ys = [] then none else mkT (xs++ys))=some d':=hF
   by_cases hy0:ys = []
   .rw[if_pos hy0] at hF;cases hF
   .rw[if_neg hy0] at hF;obtain⟨hl,rfl⟩:=zeZ hF;obtain⟨p,vs,rfl,h1,r1⟩:=hx.tup;obtain⟨q,us,rfl,h2,r2⟩:=hy.tup;refine .inr (.inr (.inr ⟨p,q,vs,us,rfl,rfl,h1,h2,?_,?_,λe=>?_,λ_ c hc=>?_⟩))
    .rintro rfl;exact hy0 (List.length_eq_zero_iff.mp (by rw[<-r2.length];rfl))
    .rw[r1.length,r2.length,<-waj];exact zbJ hl
    .subst e;obtain rfl:xs = []:=List.length_eq_zero_iff.mp (by rw[<-r1.length];rfl);exact w _ H J (Up.refl ja) (.tup h2 r2)
    .have un:=Up.new ja hc (.tup (vs++us))
     exact w _ _ _ un (.tup (SqT.of zae) ((r1.append r2).keep un.keep))
def dI (C:Int->Int->Prop)[∀i j,Decidable (C i j)](g:Int->Int->D):D->D->Option D
|.int i,.int j=>if C i j then some (g i j) else none
|_,_=>none
def im_I {C:Int->Int->Prop}[∀i j,Decidable (C i j)]{g:Int->Int->V}{g':Int->Int->D}(hg:∀i j H J,Rp K H J (g i j) (g' i j)):Im2 K (rI C g) (dI C g'):=by
 intro H J x y d e d' Q ja hx hy hF w;match d,e,hF with
|.int i,.int j,hF=>
   have hF:(if C i j then some (g' i j) else none)=some d':=hF
   by_cases hc:C i j
   .rw[if_pos hc] at hF;cases hF;rw[hx.int,hy.int];exact⟨i,j,rfl,rfl,hc,w _ H J (Up.refl ja) (hg i j H J)⟩
   .rw[if_neg hc] at hF;cases hF
def dI0 (g:Int->Int->D):D->D->Option D
|.int i,.int j=>some (g i j)
|_,_=>none
def zjk {g:Int->Int->V}{g':Int->Int->D}(hg:∀i j H J,Rp K H J (g i j) (g' i j)):Im2 K (rI0 g) (dI0 g'):=by
 intro H J x y d e d' Q ja hx hy hF w;match d,e,hF with
|.int i,.int j,hF=>
   cases hF;rw[hx.int,hy.int];exact⟨i,j,rfl,rfl,w _ H J (Up.refl ja) (hg i j H J)⟩
instance (i j:Int):Decidable (CMul i j):=by unfold CMul;infer_instance
instance (i j:Int):Decidable (CDiv i j):=by unfold CDiv;infer_instance
instance (i j:Int):Decidable (CPow i j):=by unfold CPow;infer_instance
def dSub:=dI0 λi j=>.int (i - j)
def dFdiv:=dI CDiv λi j=>.int (i / j)
def dMod:=dI (λ_ j=>0<j) λi j=>.int (i % j)
def dPow:=dI CPow λi j=>.int (i ^ j.toNat)
def dLt:=dI0 λi j=>.bl (decide (i<j))
def dLe:=dI0 λi j=>.bl (decide (i<=j))
def dGt:=dI0 λi j=>.bl (decide (j<i))
def dGe:=dI0 λi j=>.bl (decide (j<=i))
def zpL:Im2 K (rI0 λi j=>.int (i - j)) dSub:=zjk λ_ _ _ _=>.int _
def zjl:Im2 K (rI CDiv λi j=>.int (i / j)) dFdiv:=im_I λ_ _ _ _=>.int _
def zcM:Im2 K (rI (λ_ j=>0<j) λi j=>.int (i % j)) dMod:=im_I λ_ _ _ _=>.int _
def zpM:Im2 K (rI CPow λi j=>.int (i ^ j.toNat)) dPow:=im_I λ_ _ _ _=>.int _
def zrQ:Im2 K (rI0 λi j=>.bl (decide (i<j))) dLt:=zjk λ_ _ _ _=>.bl _
def zpN:Im2 K (rI0 λi j=>.bl (decide (i<=j))) dLe:=zjk λ_ _ _ _=>.bl _
def znx:Im2 K (rI0 λi j=>.bl (decide (j<i))) dGt:=zjk λ_ _ _ _=>.bl _
def zlb:Im2 K (rI0 λi j=>.bl (decide (j<=i))) dGe:=zjk λ_ _ _ _=>.bl _
def dMul:D->D->Option D
|.int i,.int j=>if CMul i j then some (.int (i*j)) else none
|.str z,.int n=>if -1000<=n/\n<=1000/\z.length<=1000 then some (.str (Txt.mul z n)) else none
|.lst xs,.int k=>if 0<=k/\k<=1000/\xs.length<=1000 then some (.lst (rpl k.toNat xs).flatten) else none
|_,_=>none
def zpO:R2:=λx y H Q=>(rI CMul λi j=>.int (i*j)) x y H Q\/(∃z n,x=.str z/\y=.int n/\-1000<=n/\n<=1000/\z.length<=1000/\Q (.str (Txt.mul z n)) H)\/rRep x y H Q
def zjm:OpR X (binaryOp .Mult) zpO:=op_mul.or (op_rep_str.or zps)
theorem RpL.rep {H:Hp}{J:Addr->Prop}{vs:List V}{ds:List D}(r:RpL K H J vs ds):∀n:Nat,RpL K H J (rpl n vs).flatten (rpl n ds).flatten
|0=>.nil
|n+1=>by
   rw[wbk,wbk,wbP,wbP];exact r.append (RpL.rep r n)
def zfH:Im2 K zpO dMul:=by
 intro H J x y d e d' Q ja hx hy hF w;match d,e,hF with
|.int i,.int j,hF=>
   have hF:(if CMul i j then some (D.int (i*j)) else none)=some d':=hF
   by_cases hc:CMul i j
   .rw[if_pos hc] at hF;cases hF;rw[hx.int,hy.int];exact .inl ⟨i,j,rfl,rfl,hc,w _ H J (Up.refl ja) (.int _)⟩
   .rw[if_neg hc] at hF;cases hF
|.str z,.int n,hF=>
   have hF:(if -1000<=n/\n<=1000/\z.length<=1000 then some (D.str (Txt.mul z n)) else none)=some d':=hF
   by_cases hc:-1000<=n/\n<=1000/\z.length<=1000
   .rw[if_pos hc] at hF;cases hF;rw[hx.str,hy.int];exact .inr (.inl ⟨z,n,rfl,rfl,hc.1,hc.2.1,hc.2.2,w _ H J (Up.refl ja) (.str _)⟩)
   .rw[if_neg hc] at hF;cases hF
|.lst xs,.int n,hF=>
   have hF:(if 0<=n/\n<=1000/\xs.length<=1000 then some (D.lst (rpl n.toNat xs).flatten) else none)=some d':=hF
   by_cases hc:0<=n/\n<=1000/\xs.length<=1000
   .rw[if_pos hc] at hF;cases hF;obtain⟨p,vs,rfl,h1,r1⟩:=hx.lst;rw[hy.int];refine .inr (.inr ⟨p,n,vs,rfl,rfl,h1,by omega,by omega,?_,λc hc=>?_⟩)
    .rw[r1.length];have h1:xs.length*n.toNat<=1000*1000:=wcP hc.2.2 (by omega)
     exact wao h1 (by decide)
    .have un:=Up.newJ ja hc (.lst (rpl n.toNat vs).flatten)
     exact w _ _ _ un (.lst zae (.inr rfl) ((r1.rep _).keep un.keep))
   .rw[if_neg hc] at hF;cases hF
def dV:D->V
|.non=>.non
|.bl b=>.bl b
|.int i=>.int i
|.str x=>.str x
|_=>.ty ""
def zhl:D->Bool
|.non=>true
|.int _=>true
|.str _=>true
|_=>false
def zat {p q:Prop}[Decidable p][Decidable q](h:p↔q):decide p=decide q:=by
 by_cases hp:p
 .rw[waD hp,waD (h.mp hp)]
 .rw[waz hp,waz (λz=>hp (h.mpr z))]
def dIn (neg:Bool):D->D->Option D
|x,.lst ds=>if zhl x=true/\ds.all zhl=true then some (.bl (if neg then !decide (x∈ds) else decide (x∈ds))) else none
|x,.tup ds=>if zhl x=true/\ds.all zhl=true then some (.bl (if neg then !decide (x∈ds) else decide (x∈ds))) else none
|_,_=>none
def dIs (neg:Bool):D->D->Option D
|d,.non=>some (.bl (if neg then !decide (d=.non) else decide (d=.non)))
|_,_=>none
def zjn {H:Hp}{J:Addr->Prop}{v:V}{d:D}(r:RpW K H J v d):v=.non↔d=.non:=by
 rcases r with r|⟨A,r⟩
 .cases r <;> simp
 .cases r <;> simp
def zny:Im2 K (λx y H Q=>y=.non/\Q (.bl (decide (x=.non))) H) (dIs false):=by
 intro H J x y d e d' Q ja hx hy hF w;cases e with
|non=>
   cases hF;refine⟨hy.non,?_⟩;rw[zat (zjn hx)];exact w _ H J (Up.refl ja) (.bl _)
|_=>cases hF
def znz:Im2 K (λx y H Q=>y=.non/\Q (.bl (!decide (x=.non))) H) (dIs true):=by
 intro H J x y d e d' Q ja hx hy hF w;cases e with
|non=>
   cases hF;refine⟨hy.non,?_⟩;rw[zat (zjn hx)];exact w _ H J (Up.refl ja) (.bl _)
|_=>cases hF
def dIx:D->D->Option D
|.lst ds,.int i=>atI ds i
|.tup ds,.int i=>atI ds i
|.str z,.int i=>if z.length<=lim then(atI z.cps.toList i).map λc=>.str ⟨#[c]⟩ else none
|_,_=>none
def zpP:Im2 K (rIx K) dIx:=by
 intro H J x y d e d' Q ja hx hy hF w;match d,e,hF with
|.lst ds,.int i,hF=>
   have hF:atI ds i=some d':=hF
   obtain⟨p,vs,rfl,h1,r1⟩:=hx.lst;obtain⟨v,hv,rv⟩:=r1.at hF;rw[hy.int];exact .inl ⟨p,vs,i,v,rfl,rfl,SqL.of h1,hv,w v H J (Up.refl ja) rv⟩
|.tup ds,.int i,hF=>
   have hF:atI ds i=some d':=hF
   obtain⟨p,vs,rfl,h1,r1⟩:=hx.tup;obtain⟨v,hv,rv⟩:=r1.at hF;rw[hy.int];exact .inr (.inl ⟨p,vs,i,v,rfl,rfl,h1,hv,w v H J (Up.refl ja) rv⟩)
|.str z,.int i,hF=>
   have hF:(if z.length<=lim then(atI z.cps.toList i).map λc=>D.str ⟨#[c]⟩ else none)=some d':=hF
   by_cases hl:z.length<=lim
   .rw[if_pos hl] at hF;cases q:atI z.cps.toList i with
   |none=>rw[q] at hF;cases hF
   |some c=>
      rw[q] at hF;cases hF;rw[hx.str,hy.int];exact .inr (.inr ⟨z,i,c,rfl,rfl,zbJ hl,q,w _ H J (Up.refl ja) (.str _)⟩)
   .rw[if_neg hl] at hF;cases hF
variable {a b:Expr}{fa fb:FE}{pos p2:Pos}
def zax (ha:VW X a fa)(hb:VW X b fb)(hs:zdo b:=by exact λ_ _=>rfl):VE X (.Subscript a b pos) (e2 dIx fa fb):=by
 obtain⟨ta,pa,ga⟩:=ha;obtain⟨tb,pb,gb⟩:=hb;exact⟨_,zi0 zhb pa pb hs,zk7 zpP ga gb⟩
def cut {C:Type}(xs:List C)(lo hi:Option Int):List C:=(xs.drop (HT.sIx xs.length 0 lo)).take (HT.sIx xs.length xs.length hi - HT.sIx xs.length 0 lo)
theorem RpL.cut {H:Hp}{J:Addr->Prop}{vs:List V}{ds:List D}(r:RpL K H J vs ds)(lo hi:Option Int):RpL K H J (cutV vs lo hi) (VD.cut ds lo hi):=by
 unfold cutV VD.cut;rw[r.length];exact(r.drop _).take _
def dSl:D->Option Int->Option Int->Option D
|.lst ds,lo,hi=>some (.lst (cut ds lo hi))
|.tup ds,lo,hi=>if HT.sIx ds.length 0 lo=0/\HT.sIx ds.length ds.length hi=ds.length then none else some (.tup (cut ds lo hi))
|.str z,lo,hi=>if z.length<=lim then some (.str (Txt.slice z lo hi)) else none
|_,_,_=>none
abbrev FO:=En->Option (Option Int)
def GoO (K:Fg)(t:TO)(f:FO):Prop:=∀Hz Jz O Z Y H J o Q,ST K Hz Jz O Z Y H J->f Z=some o->(∀H' J',Up H J H' J'->Q o H')->t Y H Q
def VO (X:Cx)(e:Option Expr)(f:FO):Prop:=∃t,PO X e t/\GoO X.K t f
def oN:FO:=λ_=>some none
def dInt:D->Option Int
|.int i=>some i
|_=>none
def oS (f:FE):FO:=λZ=>(f Z).bind λd=>(dInt d).bind λi=>some (some i)
def zb0:VO X none oN:=⟨_,znf,λHz Jz O Z Y H J o Q s e w=>by cases e;exact w H J (Up.refl s.ja)⟩
def zb1 (h:VE X a fa):VO X (some a) (oS fa):=by
 obtain⟨t,p,g⟩:=h;refine⟨_,zng p,?_⟩;intro Hz Jz O Z Y H J o Q s e w;obtain⟨d,e1,e⟩:=bS e;obtain⟨i,e2,e⟩:=bS e;cases e;refine g Hz Jz O Z Y H J d _ s e1 λv H1 J1 u1 r1=>?_
 cases d with
|int k=>cases e2;cases r1;exact⟨_,rfl,w H1 J1 u1⟩
|_=>cases e2
def eSl (f:FE)(lo hi:FO):FE:=λZ=>(f Z).bind λx=>(lo Z).bind λl=>(hi Z).bind λh=>dSl x l h
def rSlD (K:Fg):V->Option Int->Option Int->Hp->VK->Prop:=λx lo hi H Q=>rSlL K x lo hi H Q\/rSlT K x lo hi H Q\/rSlS x lo hi H Q
def zcx {lo hi:Option Expr}{fl fh:FO}(ha:VW X a fa)(hl:VO X lo fl)(hh:VO X hi fh):VE X (.Subscript a (.Slice lo hi none p2) pos) (eSl fa fl fh):=by
 obtain⟨t,p,g⟩:=ha;obtain⟨tl,pl,gl⟩:=hl;obtain⟨th,ph,gh⟩:=hh;refine⟨_,zeU (r:=rSlD X.K) (sl_list.or (sl_tup.or zmn)) p pl ph,?_⟩;intro Hz Jz O Z Y H J d Q s e w;obtain⟨x,e1,e⟩:=bS e;obtain⟨l,e2,e⟩:=bS e;obtain⟨h,e3,e⟩:=bS e;refine g Hz Jz O Z Y H J x _ s e1 λv H1 J1 u1 r1=>?_
 refine gl Hz Jz O Z Y H1 J1 l _ (s.up u1) e2 λH2 J2 u2=>?_
 refine gh Hz Jz O Z Y H2 J2 h _ (s.up (u1.trans u2)) e3 λH3 J3 u3=>?_
 have r3:=r1.up (u2.trans u3)
 have u:=u1.trans (u2.trans u3)
 match x,e with
|.lst ds,e=>
   cases e;obtain⟨p,vs,rfl,h1,rl⟩:=r3.lst;refine .inl ⟨p,vs,rfl,SqL.of h1,λc hc=>?_⟩;have un:=Up.newJ u3.ja hc (.lst (cutV vs l h))
   exact w _ _ _ (u.trans un) (.lst zae (.inr rfl) ((rl.cut l h).keep un.keep))
|.tup ds,e=>
   have e:(if HT.sIx ds.length 0 l=0/\HT.sIx ds.length ds.length h=ds.length then none else some (D.tup (cut ds l h)))=some d:=e
   by_cases hc:HT.sIx ds.length 0 l=0/\HT.sIx ds.length ds.length h=ds.length
   .rw[if_pos hc] at e;cases e
   .rw[if_neg hc] at e;cases e;obtain⟨p,vs,rfl,h1,rl⟩:=r3.tup;refine .inr (.inl ⟨p,vs,rfl,h1,by rw[rl.length];exact hc,λc hc=>?_⟩);have un:=Up.new u3.ja hc (.tup (cutV vs l h))
    exact w _ _ _ (u.trans un) (.tup (SqT.of zae) ((rl.cut l h).keep un.keep))
|.str z,e=>
   have e:(if z.length<=lim then some (D.str (Txt.slice z l h)) else none)=some d:=e
   by_cases hc:z.length<=lim
   .rw[if_pos hc] at e;cases e;rw[r3.str];exact .inr (.inr ⟨z,rfl,zbJ hc,w _ _ _ u (.str _)⟩)
   .rw[if_neg hc] at e;cases e
def dLst:D->Option (List D)
|.lst ds=>some ds
|_=>none
def aRev (f:FE):FA:=λZ=>(f Z).bind λd=>(dLst d).bind λds=>some ds.reverse
def zmt {p3 p4:Pos}{j:Nat}(ha:VW X a fa):VN X (.Subscript a (.Slice none none (some (.UnaryOp .USub (.Constant (.int 1) j p3) p4)) p2) pos) (aRev fa):=by
 obtain⟨t,p,g⟩:=ha;refine⟨_,zpz p,?_⟩;intro Hz Jz O Z Y H J ds Q s e w;obtain⟨x,e1,e⟩:=bS e;obtain⟨xs,e2,e⟩:=bS e;cases e;refine g Hz Jz O Z Y H J x _ s e1 λv H1 J1 u1 r1=>?_
 cases x with
|lst ds=>
   cases e2;obtain⟨p,vs,rfl,h1,rl⟩:=r1.lst;refine⟨p,vs,rfl,SqL.of h1,λc hc=>?_⟩;have un:=Up.new u1.ja hc (.lst vs.reverse)
   exact w c _ _ _ (u1.trans un) (u1.same.free hc) (λj=>u1.ja c j hc) zae (rl.reverse.keep un.keep)
|_=>cases e2
def dNeg:D->Option D
|.int i=>some (.int (-i))
|_=>none
def zmu (ha:VE X a fa):VE X (.UnaryOp .USub a pos) (e1 dNeg fa):=by
 obtain⟨t,p,g⟩:=ha;refine⟨_,zrF zpl p,?_⟩;intro Hz Jz O Z Y H J d Q s e w;obtain⟨x,e1,e⟩:=bS e;refine g Hz Jz O Z Y H J x _ s e1 λv H1 J1 u1 r1=>?_
 cases x with
|int i=>cases e;cases r1;exact⟨i,rfl,w _ H1 J1 u1 (.int _)⟩
|_=>cases e
def RpWL.one {H:Hp}{J:Addr->Prop}{vs:List V}{d:D}(h:RpWL K H J vs [d]):∃v,vs = [v]/\RpW K H J v d:=by
 match vs,h with
|[v],h=>exact⟨v,rfl,h.1⟩
|[],h=>exact h.elim
|_::_::_,h=>exact h.2.elim
def RpWL.two {H:Hp}{J:Addr->Prop}{vs:List V}{d e:D}(h:RpWL K H J vs [d,e]):∃v u,vs = [v,u]/\RpW K H J v d/\RpW K H J u e:=by
 match vs,h with
|[v,u],h=>exact⟨v,u,rfl,h.1,h.2.1⟩
|[],h=>exact h.elim
|[_],h=>exact h.2.elim
|_::_::_::_,h=>exact h.2.2.elim
def bLen:List D->Option D
|[.lst ds]=>some (.int ds.length)
|[.tup ds]=>some (.int ds.length)
|[.str z]=>if z.length<=lim then some (.int z.length) else none
|_=>none
def zbB:ImC K (λxs H Q=>∃x n,xs = [x]/\LenV K x H n/\Q (.int n) H) bLen:=by
 intro H J vs ds d Q ja r hF w;match ds,r,hF with
|[.lst ds],r,hF=>
   obtain⟨v,rfl,rr⟩:=r.one;cases hF;obtain⟨p,us,rfl,h1,rl⟩:=rr.lst;refine⟨_,us.length,rfl,.inl ⟨us,SqL.of h1,rfl⟩,?_⟩;rw[rl.length];exact w _ H J (Up.refl ja) (.int _)
|[.tup ds],r,hF=>
   obtain⟨v,rfl,rr⟩:=r.one;cases hF;obtain⟨p,us,rfl,h1,rl⟩:=rr.tup;refine⟨_,us.length,rfl,.inr ⟨us,h1,rfl⟩,?_⟩;rw[rl.length];exact w _ H J (Up.refl ja) (.int _)
|[.str z],r,hF=>
   obtain⟨v,rfl,rr⟩:=r.one;have hF:(if z.length<=lim then some (D.int z.length) else none)=some d:=hF
   by_cases hl:z.length<=lim
   .rw[if_pos hl] at hF;cases hF;rw[rr.str];exact⟨_,z.length,rfl,⟨zbJ hl,rfl⟩,w _ H J (Up.refl ja) (.int _)⟩
   .rw[if_neg hl] at hF;cases hF
def bMax:List D->Option D
|[.int i,.int j]=>some (.int (if j>i then j else i))
|_=>none
def bMin:List D->Option D
|[.int i,.int j]=>some (.int (if j<i then j else i))
|_=>none
def zmv:ImC K (λxs H Q=>∃i j,xs = [.int i,.int j]/\Q (.int (if j<i then j else i)) H) bMin:=by
 intro H J vs ds d Q ja r hF w;match ds,r,hF with
|[.int i,.int j],r,hF=>obtain⟨v,u,rfl,q1,q2⟩:=r.two;cases hF;exact⟨i,j,by rw[q1.int,q2.int],w _ H J (Up.refl ja) (.int _)⟩
def bInt:List D->Option D
|[.int i]=>some (.int i)
|[.bl k]=>some (.int (if k then 1 else 0))
|_=>none
def zpQ:ImC K (λxs H Q=>(∃i,xs = [.int i]/\Q (.int i) H)\/∃k,xs = [.bl k]/\Q (.int (if k then 1 else 0)) H) bInt:=by
 intro H J vs ds d Q ja r hF w;match ds,r,hF with
|[.int i],r,hF=>obtain⟨v,rfl,rr⟩:=r.one;cases hF;exact .inl ⟨i,by rw[rr.int],w _ H J (Up.refl ja) (.int _)⟩
|[.bl i],r,hF=>obtain⟨v,rfl,rr⟩:=r.one;cases hF;exact .inr ⟨i,by rw[rr.bl],w _ H J (Up.refl ja) (.int _)⟩
def bList:List D->Option D
|[.lst ds]=>some (.lst ds)
|[.tup ds]=>some (.lst ds)
|_=>none
def znA:ImC K (λxs H Q=>∃p ys,xs = [.ref p]/\(SqL K H p ys\/SqT K H p ys)/\∀l,H l=none->Q (.ref l) (upd H l (.lst ys))) bList:=by
 intro H J vs ds d Q ja r hF w;match ds,r,hF with
|[.lst ds],r,hF=>
   obtain⟨v,rfl,rr⟩:=r.one;cases hF;obtain⟨p,us,rfl,h1,rl⟩:=rr.lst;refine⟨p,us,rfl,.inl (SqL.of h1),λc hc=>?_⟩;have un:=Up.newJ ja hc (.lst us)
   exact w _ _ _ un (.lst zae (.inr rfl) (rl.keep un.keep))
|[.tup ds],r,hF=>
   obtain⟨v,rfl,rr⟩:=r.one;cases hF;obtain⟨p,us,rfl,h1,rl⟩:=rr.tup;refine⟨p,us,rfl,.inr h1,λc hc=>?_⟩;have un:=Up.newJ ja hc (.lst us)
   exact w _ _ _ un (.lst zae (.inr rfl) (rl.keep un.keep))
def bTuple:List D->Option D
|[.lst ds]=>some (.tup ds)
|[.tup ds]=>some (.tup ds)
|_=>none
def zhm:ImC K (λxs H Q=>∃p ys,xs = [.ref p]/\((SqL K H p ys/\∀l,H l=none->Q (.ref l) (upd H l (.tup ys)))\/(SqT K H p ys/\Q (.ref p) H))) bTuple:=by
 intro H J vs ds d Q ja r hF w;match ds,r,hF with
|[.lst ds],r,hF=>
   obtain⟨v,rfl,rr⟩:=r.one;cases hF;obtain⟨p,us,rfl,h1,rl⟩:=rr.lst;refine⟨p,us,rfl,.inl ⟨SqL.of h1,λc hc=>?_⟩⟩;have un:=Up.new ja hc (.tup us)
   exact w _ _ _ un (.tup (SqT.of zae) (rl.keep un.keep))
|[.tup ds],r,hF=>
   obtain⟨v,rfl,rr⟩:=r.one;cases hF;obtain⟨p,us,rfl,h1,rl⟩:=rr.tup;exact⟨p,us,rfl,.inr ⟨h1,w _ H J (Up.refl ja) (.tup h1 rl)⟩⟩
end
def Src (K:Fg)(I:It)(H:Hp)(J:Addr->Prop)(ds:List D):Prop:=∀H2 J2,Keep K H J H2 J2->(∀a,J2 a->H2 a≠none)->
 I.stop ds.length H2/\∀i d,ds[i]?=some d->I.go i H2/\∀x H3,I.yld i H2 x H3->∃J3,Up H2 J2 H3 J3/\Rp K H3 J3 x d
def GoI (K:Fg)(wi:TI)(f:FA):Prop:=∀Hz Jz O Z Y H J ds R,ST K Hz Jz O Z Y H J->f Z=some ds->(∀I H' J',Up H J H' J'->Src K I H' J' ds->R I H')->wi Y H R
def VI (X:Cx)(tg qb:Expr)(f:FA):Prop:=∃wi,PI X tg qb wi/\GoI X.K wi f
section
variable {X:Cx}{K:Fg}{tg a b:Expr}{fa fb:FE}{fl:FA}{pos p:Pos}
def zpR {wi wi':TI}{qb:Expr}(h:PI X tg qb wi)(h':PI X tg qb wi'):PI X tg qb (λY H R=>wi Y H R\/wi' Y H R):=by
 intro pins s Y H R I q;rcases q with q|q
 .exact h pins s Y H R I q
 .exact h' pins s Y H R I q
def dSeq:D->Option (List D)
|.lst ds=>some ds
|.tup ds=>some ds
|_=>none
def aSeq (f:FE):FA:=λZ=>(f Z).bind dSeq
def zbC (h:VE X a fa):VI X tg a (aSeq fa):=by
 obtain⟨t,p,g⟩:=h;refine⟨_,zpR (ziN p) (zpi p),?_⟩;intro Hz Jz O Z Y H J ds R s e w;obtain⟨x,e1,e⟩:=bS e;cases x with
|lst xs=>
   cases e;refine .inl (g Hz Jz O Z Y H J _ _ s e1 λv H1 J1 u1 r1=>?_);cases r1 with
  |lst h j r=>
     refine⟨_,rfl,⟨_,SqL.of h⟩,w _ H1 J1 u1 λH2 J2 k ja=>?_⟩;have h2:=k.jo _ _ j h
     refine⟨⟨_,SqL.of h2,by rw[r.length];exact wan _⟩,λi d hd=>?_⟩;obtain⟨v,hv,rv⟩:=r.get hd;refine⟨⟨_,v,SqL.of h2,hv⟩,λx H3 y=>?_⟩;obtain⟨rfl,y⟩:=y;have e:=y _ (SqL.of h2)
     rw[hv] at e;cases e;exact⟨J2,Up.refl ja,rv.keep k⟩
|tup xs=>
   cases e;refine .inr (g Hz Jz O Z Y H J _ _ s e1 λv H1 J1 u1 r1=>?_);cases r1 with
  |tup h r=>
     refine⟨_,rfl,⟨_,h⟩,w _ H1 J1 u1 λH2 J2 k ja=>?_⟩;have h2:=k.tp _ _ h
     refine⟨⟨_,h2,by rw[r.length];exact wan _⟩,λi d hd=>?_⟩;obtain⟨v,hv,rv⟩:=r.get hd;refine⟨⟨_,v,h2,hv⟩,λx H3 y=>?_⟩;obtain⟨rfl,y⟩:=y;have e:=y _ h2
     rw[hv] at e;cases e;exact⟨J2,Up.refl ja,rv.keep k⟩
|_=>cases e
def zaB (lo:Int)(n:Nat):List D:=(List.range n).map λ(i:Nat)=>.int (lo+(i:Int))
def zfI {H:Hp}{J:Addr->Prop}(lo:Int)(n:Nat):Src K (Itr lo n) H J (zaB lo n):=by
 intro H2 J2 k ja;have hl:(zaB lo n).length=n:=by simp[zaB]
 rw[hl];refine⟨wan _,λi d hd=>?_⟩;have hi:i<n:=by rw[<-hl];exact(wab.mp hd).1
 refine⟨hi,λx H3 y=>?_⟩;obtain⟨rfl,rfl⟩:=y;unfold zaB at hd;rw[wah,wck hi] at hd;cases hd;exact⟨J2,Up.refl ja,.int _⟩
def a1Int:List D->Option Int
|[.int i]=>some i
|_=>none
def aRng1 (f:FA):FA:=λZ=>(f Z).bind λl=>(a1Int l).bind λj=>if -1000000<=j/\j<=1000000 then some (zaB 0 j.toNat) else none
def zdZ (B:Blt X.mg)(ha:VA X [a] fl)(hg:Gl X "range":=by rfl)(hs:sE [a] X.env = [(false,eval a X.env)]:=by rfl):VI X tg (.Call (.Name "range" p) [a] [] pos) (aRng1 fl):=by
 obtain⟨t,p,g⟩:=ha;refine⟨_,zfr hg (B.get "range") p hs,?_⟩;intro Hz Jz O Z Y H J ds R s e w;obtain⟨l,e1,e⟩:=bS e;obtain⟨j,e2,e⟩:=bS e;by_cases hj:-1000000<=j/\j<=1000000
 .rw[if_pos hj] at e;cases e;refine g Hz Jz O Z Y H J _ _ s e1 λvs H1 J1 u1 r1=>?_
  match l,e2,r1 with
 |[.int i],e2,r1=>
    cases e2;cases r1 with
   |cons h t=>cases t;cases h;exact⟨j,rfl,by omega,by omega,w _ H1 J1 u1 (zfI 0 _)⟩
 .rw[if_neg hj] at e;cases e
def zdF (ds:List D):List D:=ds.zipIdx.map λp=>.tup [.int (p.2:Nat),p.1]
def a1Tup:List D->Option (List D)
|[.tup ds]=>some ds
|_=>none
def aEnum (f:FA):FA:=λZ=>(f Z).bind λl=>(a1Tup l).bind λds=>some (zdF ds)
def zcn (ds:List D):(zdF ds).length=ds.length:=by simp[zdF]
def zd0 {ds:List D}{i:Nat}{d:D}(h:(zdF ds)[i]?=some d):∃x,ds[i]?=some x/\d=.tup [.int (i:Nat),x]:=by
 unfold zdF at h;rw[wah,List.getElem?_zipIdx] at h;cases q:ds[i]? with
|none=>rw[q] at h;cases h
|some x=>rw[q] at h;simp at h;exact⟨x,rfl,h.symm⟩
def znB {elts:List Expr}{x1}{wj:Pos}(B:Blt X.mg)(ha:VA X [a] fl)(hg:Gl X "enumerate":=by rfl)(hs:sE [a] X.env = [(false,eval a X.env)]:=by rfl):VI X (.Tuple elts x1 wj) (.Call (.Name "enumerate" p) [a] [] pos) (aEnum fl):=by
 obtain⟨t,p,g⟩:=ha;refine⟨_,zi9 hg (B.get "enumerate") p hs,?_⟩;intro Hz Jz O Z Y H J ds R s e w;obtain⟨l,e1,e⟩:=bS e;obtain⟨xs,e2,e⟩:=bS e;cases e;refine g Hz Jz O Z Y H J _ _ s e1 λvs H1 J1 u1 r1=>?_
 match l,e2,r1 with
|[.tup _],e2,r1=>
   cases e2;cases r1 with
  |cons h t=>
     cases t;cases h with
    |tup h r=>
       refine⟨_,rfl,⟨_,h⟩,w _ H1 J1 u1 λH2 J2 k ja=>?_⟩;have h2:=k.tp _ _ h
       refine⟨⟨_,h2,by rw[r.length,zcn];exact wan _⟩,λi d hd=>?_⟩;obtain⟨x,hx,rfl⟩:=zd0 hd;obtain⟨v,hv,rv⟩:=r.get hx;refine⟨⟨_,v,h2,hv⟩,λy H3 hy=>?_⟩;obtain⟨q,hn,rfl,hy⟩:=hy;obtain⟨y,ey,rfl⟩:=hy _ h2;rw[hv] at ey;cases ey;have un:=Up.new ja hn (.tup [.int (i:Nat),v])
       exact⟨J2,un,.tup (SqT.of zae) (.cons (.int _) (.cons ((rv.keep k).keep un.keep) .nil))⟩
end
abbrev FG:=D->En->Option En
abbrev FGs:=List D->En->Option En
def Only (is:List Nat)(Z Z':En):Prop:=Z'.length=Z.length/\∀j,j∉is->Z'[j]?=Z[j]?
def GoG (K:Fg)(g:TG)(is:List Nat)(f:FG):Prop:=(∀d Z Z',f d Z=some Z'->Only is Z Z')/\∀Hz Jz O Z Y H J v d Z' Q,ST K Hz Jz O Z Y H J->Rp K H J v d->f d Z=some Z'->(∀Y',ST K Hz Jz O Z' Y' H J->Q Y' H)->g v Y H Q
def GoGs (K:Fg)(g:TGs)(is:List Nat)(f:FGs):Prop:=(∀d Z Z',f d Z=some Z'->Only is Z Z')/\∀Hz Jz O Z Y H J vs ds Z' Q,ST K Hz Jz O Z Y H J->RpL K H J vs ds->f ds Z=some Z'->(∀Y',ST K Hz Jz O Z' Y' H J->Q Y' H)->g vs Y H Q
def VG (X:Cx)(tg:Expr)(is:List Nat)(f:FG):Prop:=∃g,PG X tg g/\GoG X.K g is f
def VGs (X:Cx)(tgs:List Expr)(is:List Nat)(f:FGs):Prop:=∃g,PGs X tgs g/\GoGs X.K g is f
def isPar:Option SV->Bool
|some (.par _ _)=>true
|_=>false
def zbd {x:Option SV}(h:isPar x=false):∀n d,x≠some (.par n d):=λn d e=>by rw[e] at h;cases h
def gN (i:Nat):FG:=λd Z=>if i<Z.length/\isPar (Z[i]?)=false then some (Z.set i (.val d)) else none
def gNil':FGs:=λds Z=>if ds = [] then some Z else none
def gCons' (f:FG)(g:FGs):FGs:=λds Z=>match ds with|d::r=>(f d Z).bind λZ1=>g r Z1|[]=>none
def gT (n:Nat)(f:FGs):FG:=λd Z=>match d with|.tup ds=>if ds.length=n then f ds Z else none|_=>none
def zgA {K:Fg}{i:Nat}:GoG K (zdE i) [i] (gN i):=by
 refine⟨λd Z Z' h=>?_,λHz Jz O Z Y H J v d Z' Q s r e w=>?_⟩
 .unfold gN at h;by_cases hi:i<Z.length/\isPar (Z[i]?)=false
  .rw[if_pos hi] at h;cases h;exact⟨by simp,λj hj=>wai (λz=>hj (by simp[z]))⟩
  .rw[if_neg hi] at h;cases h
 .unfold gN at e;by_cases hi:i<Z.length/\isPar (Z[i]?)=false
  .rw[if_pos hi] at e;cases e;exact w _ (s.set r hi.1 (zbd hi.2))
  .rw[if_neg hi] at e;cases e
theorem Only.trans {is js:List Nat}{Z Z1 Z2:En}(a:Only is Z Z1)(b:Only js Z1 Z2):Only (is++js) Z Z2:=⟨b.1.trans a.1,λj hj=>by
 rw[waA] at hj;rw[b.2 j (λz=>hj (.inr z)),a.2 j (λz=>hj (.inl z))]⟩
def znC {K:Fg}:GoGs K gNil [] gNil':=by
 refine⟨λd Z Z' h=>?_,λHz Jz O Z Y H J vs ds Z' Q s r e w=>?_⟩
 .unfold gNil' at h;by_cases hd:d = []
  .rw[if_pos hd] at h;cases h;exact⟨rfl,λ_ _=>rfl⟩
  .rw[if_neg hd] at h;cases h
 .unfold gNil' at e;by_cases hd:ds = []
  .rw[if_pos hd] at e;cases e;subst hd;cases r;exact⟨rfl,w _ s⟩
  .rw[if_neg hd] at e;cases e
def zlc {K:Fg}{g:TG}{gs:TGs}{is js:List Nat}{f:FG}{fs:FGs}(h1:GoG K g is f)(h2:GoGs K gs js fs):GoGs K (zpg g gs) (is++js) (gCons' f fs):=by
 refine⟨λd Z Z' h=>?_,λHz Jz O Z Y H J vs ds Z' Q s r e w=>?_⟩
 .cases d with
 |nil=>cases h
 |cons d r=>
    obtain⟨Z1,e1,e2⟩:=bS (show((f d Z).bind λZ1=>fs r Z1)=some Z' from h);exact(h1.1 _ _ _ e1).trans (h2.1 _ _ _ e2)
 .cases ds with
 |nil=>cases e
 |cons d ds=>
    obtain⟨Z1,e1,e2⟩:=bS (show((f d Z).bind λZ1=>fs ds Z1)=some Z' from e);cases r with
   |cons r1 r2=>
      refine⟨_,_,rfl,h1.2 Hz Jz O Z Y H J _ d Z1 _ s r1 e1 λY1 s1=>?_⟩;exact h2.2 Hz Jz O Z1 Y1 H J _ ds Z' _ s1 r2 e2 w
def znD {K:Fg}{n:Nat}{gs:TGs}{is:List Nat}{fs:FGs}(h:GoGs K gs is fs):GoG K (gTup K n gs) is (gT n fs):=by
 refine⟨λd Z Z' e=>?_,λHz Jz O Z Y H J v d Z' Q s r e w=>?_⟩
 .cases d with
 |tup ds=>
    have e:(if ds.length=n then fs ds Z else none)=some Z':=e
    by_cases hn:ds.length=n
    .rw[if_pos hn] at e;exact h.1 _ _ _ e
    .rw[if_neg hn] at e;cases e
 |_=>cases e
 .cases d with
 |tup ds=>
    have e:(if ds.length=n then fs ds Z else none)=some Z':=e
    by_cases hn:ds.length=n
    .rw[if_pos hn] at e;cases r with
    |tup hq rl=>exact⟨_,_,rfl,hq,by rw[rl.length];exact hn,h.2 Hz Jz O Z Y H J _ ds Z' Q s rl e w⟩
    .rw[if_neg hn] at e;cases e
 |_=>cases e
section
variable {X:Cx}{pos:Pos}
def znE {i:Nat}{x:Str}(hN:X.N.Nodup)(hi:X.N[i]?=some x)(hx:Loc X.env.scope x)(hf:X.fn x=true\/X.env.scope.names.lookup x=some .local:=by first|exact .inl rfl|exact .inr rfl|assumption):VG X (.Name x pos) [i] (gN i):=⟨_,zgs hN hi hx hf,zgA⟩
def zb2:VGs X [] [] gNil':=⟨_,zm5,znC⟩
def zaq {e:Expr}{es:List Expr}{is js:List Nat}{f:FG}{fs:FGs}(h1:VG X e is f)(h2:VGs X es js fs)(hs:(assignEach (e::es) X.env).map (·.2)=assign e X.env::(assignEach es X.env).map (·.2):=by rfl):VGs X (e::es) (is++js) (gCons' f fs):=by
 obtain⟨g,p,q⟩:=h1;obtain⟨gs,ps,qs⟩:=h2;exact⟨_,zkJ p ps hs,zlc q qs⟩
def zc2 {es:List Expr}{k:Nat}{is:List Nat}{n:Nat}{fs:FGs}(hc:X.calm=true)(h:VGs X es is fs)(hn:(assignEach es X.env).length=n:=by rfl)(hst:(assignEach es X.env).findIdx? (·.1)=none:=by rfl):VG X (.Tuple es k pos) is (gT n fs):=by
 obtain⟨gs,ps,qs⟩:=h;exact⟨_,zph hc ps hn hst,znD qs⟩
def vgC (i:Nat){X:Cx}{scope:Scope}{cl:List (Str×Addr)}{NC:List Str}{C:Addr}{s0:Sd}{H0:Hp}{ex:List Addr}{pn:List (Addr×Obj)}{x:Str}{pos:Pos}(nd:NC.Nodup)(hi:NC[i]?=some x)(hx:scope.names.lookup x=some .local):VG (cxC X scope cl NC C s0 H0 ex pn) (.Name x pos) [i] (gN i):=⟨_,pgC i nd hi hx,zgA⟩
end
def TEof (K:Fg)(f:FE):TE:=λY H Q=>∃Hz Jz O Z J d,ST K Hz Jz O Z Y H J/\f Z=some d/\zgz K H J d Q
def TTof (K:Fg)(f:FT):TT:=λY H Q=>∃Hz Jz O Z J b,ST K Hz Jz O Z Y H J/\f Z=some b/\zmq H J b Q
def TGof (K:Fg)(f:FG):TG:=λv Y H Q=>∃Hz Jz O Z J d Z',ST K Hz Jz O Z Y H J/\Rp K H J v d/\f d Z=some Z'/\∀Y',ST K Hz Jz O Z' Y' H J->Q Y' H
def VE.of {X:Cx}{e:Expr}{f:FE}(h:VE X e f):PE X e (TEof X.K f):=by
 obtain⟨t,p,g⟩:=h;rintro pins s Y H Q I ⟨Hz,Jz,O,Z,J,d,s1,e1,w⟩;exact p pins s Y H Q I (g Hz Jz O Z Y H J d Q s1 e1 w)
def VT.of {X:Cx}{e:Expr}{f:FT}(h:VT X e f):PT X e (TTof X.K f):=by
 obtain⟨t,p,g⟩:=h;rintro pins s Y H Q I ⟨Hz,Jz,O,Z,J,d,s1,e1,w⟩;exact p pins s Y H Q I (g Hz Jz O Z Y H J d Q s1 e1 w)
def VG.of {X:Cx}{e:Expr}{is:List Nat}{f:FG}(h:VG X e is f):PG X e (TGof X.K f):=by
 obtain⟨t,p,g⟩:=h;rintro pins s Y H v u Q I r ⟨Hz,Jz,O,Z,J,d,Z',s1,r1,e1,w⟩;exact p pins s Y H v u Q I r (g.2 Hz Jz O Z Y H J v d Z' Q s1 r1 e1 w)
def zaE (Z:En)(fr:List (Option Nat)):En:=fr.map λo=>match o with
|none=>.un
|some j=>match Z[j]? with
  |some (.val d)=>.val d
  |_=>.un
def zbT (f:D->Option (Option D)):List D->Option (List D)
|[]=>some []
|d::r=>(f d).bind λo=>(zbT f r).bind λxs=>some (match o with|some x=>x::xs|none=>xs)
def zaZ (Z:En)(g:FG)(t:FT)(e:FE)(d:D):Option (Option D):=(g d Z).bind λZ1=>(t Z1).bind λok=>if ok then(e Z1).bind λx=>some (some x) else some none
def ze0 (fr:List (Option Nat))(fi:FA)(g:FG)(t:FT)(e:FE):FA:=λZ=>(fi Z).bind λds=>(zbT (zaZ (zaE Z fr) g t e) ds).bind λout=>if out.length<=lim then some out else none
def tTrue:FT:=λ_=>some true
def VTs (X:Cx)(ifs:List Expr)(f:FT):Prop:=PTs X ifs (TTof X.K f)
def zcR {X:Cx}:VTs X [] tTrue:=by
 rintro pins s Y H Q I ⟨Hz,Jz,O,Z,J,d,s1,e1,w⟩;cases e1;exact znk pins s Y H Q I (w H J (Up.refl s1.ja))
def ze1 {X:Cx}{c:Expr}{f:FT}(h:VT X c f):VTs X [c] f:=znl h.of
def zhn (Y:L2.St)(fr:List (Option Nat)):(pick Y fr).length=fr.length:=by simp[pick]
def zjo (Z:En)(fr:List (Option Nat)):(zaE Z fr).length=fr.length:=by simp[zaE]
section
variable {K:Fg}{H H' H1 Hz:Hp}{J J' J1 Jz:Addr->Prop}{Z:En}{Y:L2.St}
def Pr.blk (O:Pr):Pr:=⟨[],O.fpo⟩
def zb3 (Z:En)(fr:List (Option Nat)):∀i:Nat,ownD ((zaE Z fr)[i]?)=none:=by
 intro i;unfold zaE;rw[wah];cases q:fr[i]? with
|none=>rfl
|some o=>
   cases o with
  |none=>rfl
  |some j=>
     simp only[Option.map_some];cases z:Z[j]? with
    |none=>rfl
    |some y=>cases y <;> rfl
def zjp {x:Option (Option V)}{s:Option SV}{O:List Addr}(h:ownD s=none):OwAt K Hz H J O x [] s:=by
 match s,h with
|none,_=>rfl
|some .un,_=>rfl
|some (.val _),_=>rfl
theorem ST.pick {O:Pr}(s:ST K Hz Jz O Z Y H J)(fr:List (Option Nat)):ST K Hz Jz O.blk (zaE Z fr) (pick Y fr) H J where
 same:=s.same
 j0:=s.j0
 jn:=s.jn
 ja:=s.ja
 al:=s.al
 ps:=λq hq=>absurd hq (by simp[Pr.blk])
 ow:=⟨λ_=>[],λi=>zjp (zb3 Z fr i),λ_=>wbb,λ_ b hb=>absurd hb (by simp),λ_ _ _ b hb=>absurd hb (by simp)⟩
 len:=by rw[zhn,zjo]
 vl:=λi d h=>by
  unfold zaE at h;rw[wah] at h;cases q:fr[i]? with
 |none=>rw[q] at h;cases h
 |some o=>
    rw[q] at h;cases o with
   |none=>simp at h
   |some j=>
      simp only[Option.map_some,Option.some.injEq] at h;cases z:Z[j]? with
     |none=>rw[z] at h;cases h
     |some y=>
        rw[z] at h;cases y with
       |val d'=>
          cases h;obtain⟨v,hv,r⟩:=s.vl j _ z;refine⟨v,?_,r⟩;show(fr.map _)[i]?=_
          rw[wah,q];simp[hv]
       |_=>cases h
def Mt:HO->Prop
|.lst _=>True
|.dK _=>True
|_=>False
def zbD {D:Addr}{o0 o:HO}(hD:H D=some o0)(nj:¬J D)(hm:Mt o0:=by exact True.intro):Keep K H J (upd H D o) J:=⟨λ_ h=>h,λp u j h=>by rw[zaf (show p≠D from λz=>nj (z▸j))];exact h,λp vs h=>by
 rcases h with(h|⟨u,h⟩)|h
 .refine .inl (.inl ?_);rw[zaf];exact h;rintro rfl;rw[h] at hD;cases hD;exact hm
 .refine .inl (.inr ⟨u,?_⟩);rw[zaf];exact h;rintro rfl;rw[h] at hD;cases hD;exact hm
 .exact .inr h⟩
def OwAt.nil {x:Option (Option V)}{A:List Addr}{s:Option SV}{O:List Addr}(h:OwAt K Hz H J O x A s)(n:ownD s=none):A = []:=by
 match s,h,n with
|none,h,_=>exact h
|some .un,h,_=>exact h
|some (.val _),h,_=>exact h
theorem ST.at {O:Pr}{D:Addr}{o0 o:HO}(s:ST K Hz Jz O Z Y H J)(no:∀i:Nat,ownD (Z[i]?)=none)(hD:H D=some o0)(nj:¬J D)(h0:Hz D=none)(hm:Mt o0:=by exact True.intro):ST K Hz Jz O Z Y (upd H D o) J where
 same:=λb u hb h=>by rw[zaf (show b≠D from λz=>by rw[z,h0] at h;cases h)];exact s.same b u hb h
 j0:=s.j0
 jn:=s.jn
 ja:=λa h=>by
  by_cases e:a=D
  .subst e;rw[zae];simp
  .rw[zaf e];exact s.ja a h
 al:=λa h=>by
  by_cases e:a=D
  .subst e;rw[zae];simp
  .rw[zaf e];exact s.al a h
 len:=s.len
 vl:=λi d h=>let ⟨v,e,r⟩:=s.vl i d h;⟨v,e,r.keep (zbD hD nj hm)⟩
 ps:=s.ps
 ow:=by
  obtain⟨fp,w⟩:=s.ow;refine⟨fp,λi=>(w.at' i).keep (zbD hD nj hm) λb hb=>?_,w.nd,w.nj,w.dj⟩;rw[(w.at' i).nil (no i)] at hb;cases hb
theorem Up.at {D:Addr}{ys:List V}{o:HO}(u:Up H1 J1 H J)(h1:H1 D=none):Up H1 J1 (upd H D o) J:=⟨λb v h=>by rw[zaf (show b≠D from λz=>by rw[z,h1] at h;cases h)];exact u.same b v h,u.jj,u.jn,λa h=>by
 by_cases e:a=D
 .subst e;rw[zae];simp
 .rw[zaf e];exact u.ja a h⟩
end
def apart (is:List Nat)(fr:List (Option Nat)):Bool:=is.all λi=>fr[i]? == some none
def ze2 {Z Z1:En}{fr:List (Option Nat)}{is:List Nat}(o:Only is (zaE Z fr) Z1)(h:apart is fr=true):Weak (zaE Z fr) Z1:=by
 refine⟨o.1.symm,λi=>?_⟩;by_cases hi:i∈is
 .right
  have q:=waB.mp h i hi
  have q':fr[i]?=some none:=by simpa using q
  unfold zaE;rw[wah,q'];rfl
 .left;exact(o.2 i hi).symm
def ST.free {K:Fg}{Hz H H1:Hp}{Jz J J1:Addr->Prop}{O:Pr}{Z:En}{Y:L2.St}(s:ST K Hz Jz O Z Y H J)(u:Up H J H1 J1){b:Addr}(h:H1 b=none):Hz b=none:=by
 cases e:Hz b with
|none=>rfl
|some o=>exact absurd h ((s.up u).al b (by rw[e];simp))
def SrcU (K:Fg)(I:It)(H:Hp)(J:Addr->Prop)(ds:List D):Prop:=∀H2 J2,Up H J H2 J2->(∀a,J2 a->H2 a≠none)->I.stop ds.length H2/\∀i d,ds[i]?=some d->I.go i H2/\∀x H3,I.yld i H2 x H3->∃J3,Up H2 J2 H3 J3/\Rp K H3 J3 x d
def GoIU (K:Fg)(wi:TI)(f:FA):Prop:=∀Hz Jz O Z Y H J ds R,ST K Hz Jz O Z Y H J->f Z=some ds->(∀I H' J',Up H J H' J'->SrcU K I H' J' ds->R I H')->wi Y H R
theorem GoI.u {K:Fg}{wi:TI}{f:FA}(h:GoI K wi f):GoIU K wi f:=λHz Jz O Z Y H J ds R s e w=>h Hz Jz O Z Y H J ds R s e λI H' J' u src=>w I H' J' u λH2 J2 u2 ja=>src H2 J2 u2.keep ja
def zld {K:Fg}{fr:List (Option Nat)}{wi:TI}{fi:FA}{g:FG}{is:List Nat}{ft:FT}{fe:FE}(hi:GoIU K wi fi)(hon:∀d Z Z',g d Z=some Z'->Only is Z Z')(hap:apart is fr=true) :
 GoN K (zeX fr wi (TGof K g) (TTof K ft) (TEof K fe)) (ze0 fr fi g ft fe):=by
 intro Hz Jz O Z Y H J out Q s e w;obtain⟨ds,e1,e⟩:=bS e;obtain⟨out',e2,e⟩:=bS e;by_cases hl:out'.length<=lim
 .rw[if_pos hl] at e;cases e;refine hi Hz Jz O Z Y H J ds _ s e1 λI H1 J1 u1 src=>?_
  intro Da hD;have hD0:Hz Da=none:=(s.free (u:=u1) hD)
  have nJ1:¬J1 Da:=λj=>u1.ja Da j hD
  refine⟨λi m ys Y2 H2=>m=ds.length - i/\i<=ds.length/\∃J2 dn rs,ST K Hz Jz O.blk (zaE Z fr) Y2 H2 J2/\Up H1 J1 H2 J2/\¬J2 Da/\Keep K H1 J1 H2 J2/\RpL K H2 J2 ys dn/\out=dn++rs/\zbT (zaZ (zaE Z fr) g ft fe) (ds.drop i)=some rs,⟨ds.length,by simp,wbx _,?_⟩,?_⟩
  .have un:=Up.new u1.ja hD (.lst [])
   exact⟨J1,[],out,((s.up u1).up un).pick fr,un,nJ1,un.keep,.nil,rfl,by simpa using e2⟩
  .rintro i m ys Y2 H2 ⟨rfl,hil,J2,dn,rs,s2,u2,nj2,k2,r2,eo,ec⟩ hys;obtain⟨stop,qC⟩:=src H2 J2 u2 s2.ja;by_cases hlt:i<ds.length
   .right
    have hd:ds[i]?=some ds[i]:=wac hlt
    generalize hdd:ds[i]=d at hd;obtain⟨go,yl⟩:=qC i d hd;have edrop:ds.drop i=d::ds.drop (i+1):=by rw[<-hdd];exact(wbg hlt).symm
    rw[edrop] at ec;obtain⟨o,eo1,ec⟩:=bS (show((zaZ (zaE Z fr) g ft fe d).bind λo=>(zbT (zaZ (zaE Z fr) g ft fe) (ds.drop (i+1))).bind λxs=>some (match o with|some x=>x::xs|none=>xs))=some rs from ec);obtain⟨rs',er,ec⟩:=bS ec;obtain⟨Z1,eg,eo1⟩:=bS eo1;obtain⟨ok,et,eo1⟩:=bS eo1;refine⟨go,λzs Y' H'=>∃J2 dn rs,ST K Hz Jz O.blk (zaE Z fr) Y' H' J2/\Up H1 J1 H' J2/\¬J2 Da/\Keep K H1 J1 H' J2/\RpL K H' J2 zs dn/\out=dn++rs/\zbT (zaZ (zaE Z fr) g ft fe) (ds.drop (i+1))=some rs,λzs Y' H' h=>⟨ds.length - (i+1),by omega,rfl,hlt,h⟩,λx H3 y=>?_⟩;obtain⟨J3,u3,r3⟩:=yl x H3 y;have wk:Weak (zaE Z fr) Z1:=ze2 (hon _ _ _ eg) hap
    refine⟨Hz,Jz,O.blk,zaE Z fr,J3,d,Z1,s2.up u3,r3,eg,λY4 s4=>?_⟩;refine⟨Hz,Jz,O.blk,Z1,J3,ok,s4,et,λH5 J5 u5=>?_⟩;have s5:=s4.up u5
    have u25:=u3.trans u5
    have nj5:¬J5 Da:=λj=>by
     rcases u25.jn Da j with j|j
     .exact nj2 j
     .rw[hys] at j;cases j
    have hy5:H5 Da=some (.lst ys):=u25.same _ _ hys
    refine⟨λhok=>?_,λhok=>?_⟩
    .subst hok;rw[if_pos rfl] at eo1;obtain⟨xd,ex,eo1⟩:=bS eo1;cases eo1;cases ec;refine⟨Hz,Jz,O.blk,Z1,J5,xd,s5,ex,λv H6 J6 u6 r6=>?_⟩;have u26:=u25.trans u6
     have nj6:¬J6 Da:=λj=>by
      rcases u6.jn Da j with j|j
      .exact nj5 j
      .rw[hy5] at j;cases j
     have hy6:H6 Da=some (.lst ys):=u6.same _ _ hy5
     have kA:Keep K H6 J6 (upd H6 Da (.lst (ys++[v]))) J6:=zbD hy6 nj6
     refine⟨hy6,?_,J6,dn++[xd],rs',?_,(u2.trans u26).at (ys:=ys) hD,nj6,(k2.trans u26.keep).trans kA,((r2.keep u26.keep).append (.cons r6 .nil)).keep kA,by rw[eo];simp,er⟩
     .have:(dn++xd::rs').length<=lim:=by rw[<-eo];exact hl
      rw[waj,waM] at this;rw[r2.length];exact waq (by omega:dn.length<lim) (wbl zdz)
     .exact((s5.up u6).weak wk rfl).at (zb3 Z fr) hy6 nj6 hD0
    .subst hok;rw[if_neg (by simp)] at eo1;cases eo1;cases ec;exact⟨hy5,J5,dn,rs',s5.weak wk rfl,u2.trans u25,nj5,k2.trans u25.keep,r2.keep u25.keep,eo,er⟩
   .left
    have hi':i=ds.length:=by omega
    subst hi';rw[wbE] at ec;cases ec;refine⟨stop,?_⟩;rw[waJ] at eo;subst eo;exact w Da ys H2 J2 (u1.trans u2) (u1.same.free hD) nj2 hys r2
 .rw[if_neg hl] at e;cases e
def zgB {K:Fg}{fr:List (Option Nat)}{wi:TI}{fi:FA}{g:FG}{is:List Nat}{ft:FT}{fe:FE}(hi:GoI K wi fi)(hon:∀d Z Z',g d Z=some Z'->Only is Z Z')(hap:apart is fr=true):GoN K (zeX fr wi (TGof K g) (TTof K ft) (TEof K fe)) (ze0 fr fi g ft fe):=zld hi.u hon hap
def zle (N:List Str)(st:Stmt){X:Cx}{elt qb tg:Expr}{ifs:List Expr}{scope:Scope}{pos:Pos}{NC:List Str}(fr:List (Option Nat)){fi:FA}{g:FG}{is:List Nat}{ft:FT}{fe:FE}{RR:Hp->Prop}(hRR:∀pins Y H s,Inv X pins Y H s->RR H)(qm:X.calm=true)(hi:VI X tg qb fi)
 (ql:∀x,X.env.scope.names.lookup x=some .cell->∃c,X.env.cells.lookup x=some c) (hfk:X.env.scope.kind=.function) (hN:X.N=N) (hsc:X.env.scope.names=(zab st).names)
 (qj:∀y∈scope.names,y.2=.free->(zab st).names.lookup y.1=some .cell) (qg:∀y∈scope.names,y.2≠.cell) (qh:scope.kind=.function) (qi:∀y∈scope.names,y.2=.local->scope.names.lookup y.1=some .local)
 (qD:zbS N (zab st).names scope.names NC fr=true) (qe:fr.length=NC.length) (hap:apart is fr=true)
 (hg:∀cl C s0 H0 ex pn,VG (cxC X scope cl NC C s0 H0 ex pn) tg is g) (ht:∀cl C s0 H0 ex pn,VTs (cxC X scope cl NC C s0 H0 ex pn) ifs ft) (he:∀cl C s0 H0 ex pn,RR H0->VE (cxC X scope cl NC C s0 H0 ex pn) elt fe)
 (hs:∀x,fSI qb X.env x=pure x:=by intro _;rfl):VN X (.ListComp elt [⟨tg,qb,ifs,0⟩] scope pos) (ze0 fr fi g ft fe):=by
 obtain⟨wi,pi,gi⟩:=hi;obtain⟨_,_,hon,_⟩:=hg [] 0 X.s₀ X.Hz [] [];exact⟨_,zfF N st fr hRR qm pi ql hfk hN hsc qj qg qh qi qD qe (λcl C s0 H0 ex pn=>(hg cl C s0 H0 ex pn).of) (λcl C s0 H0 ex pn=>show PTs (cxC X scope cl NC C s0 H0 ex pn) ifs (TTof X.K ft) from ht cl C s0 H0 ex pn) (λcl C s0 H0 ex pn r=>(he cl C s0 H0 ex pn r).of) hs,zgB gi hon hap⟩
def znF (N:List Str)(st:Stmt){X:Cx}{elt qb tg:Expr}{ifs:List Expr}{scope:Scope}{pos:Pos}{NC:List Str}(fr:List (Option Nat)){fi:FA}{g:FG}{is:List Nat}{ft:FT}{fe:FE}(qm:X.calm=true)(hi:VI X tg qb fi)
 (ql:∀x,X.env.scope.names.lookup x=some .cell->∃c,X.env.cells.lookup x=some c) (hfk:X.env.scope.kind=.function) (hN:X.N=N) (hsc:X.env.scope.names=(zab st).names)
 (qj:∀y∈scope.names,y.2=.free->(zab st).names.lookup y.1=some .cell) (qg:∀y∈scope.names,y.2≠.cell) (qh:scope.kind=.function) (qi:∀y∈scope.names,y.2=.local->scope.names.lookup y.1=some .local)
 (qD:zbS N (zab st).names scope.names NC fr=true) (qe:fr.length=NC.length) (hap:apart is fr=true)
 (hg:∀cl C s0 H0 ex pn,VG (cxC X scope cl NC C s0 H0 ex pn) tg is g) (ht:∀cl C s0 H0 ex pn,VTs (cxC X scope cl NC C s0 H0 ex pn) ifs ft) (he:∀cl C s0 H0 ex pn,VE (cxC X scope cl NC C s0 H0 ex pn) elt fe)
 (hs:∀x,fSI qb X.env x=pure x:=by intro _;rfl):VN X (.ListComp elt [⟨tg,qb,ifs,0⟩] scope pos) (ze0 fr fi g ft fe):=
 zle (RR:=λ_=>True) N st fr (λ_ _ _ _ _=>trivial) qm hi ql hfk hN hsc qj qg qh qi qD qe hap hg ht (λcl C s0 H0 ex pn _=>he cl C s0 H0 ex pn) hs
inductive RV where
|told (d:D)|new (n:Nat) (d:D)
inductive Out where
|nx (Z:En)|ret (r:RV) (Z:En)|bk (Z:En)|ct (Z:En)
abbrev FS:=En->Option Out
def RtAt (K:Fg)(Hz:Hp)(O:Pr)(Z:En)(Y:L2.St)(H:Hp)(J:Addr->Prop)(v:V):RV->Prop
|.told d=>Rp K H J v d
|.new n d=>∃A fp,Ow K Hz O Z Y H J fp/\RpU K H J n v d A/\A.Nodup/\(∀b∈A,¬J b/\Hz b=none)/\∀i:Nat,∀b∈A,b∉fp i
def Fits (K:Fg)(Hz:Hp)(Jz:Addr->Prop)(O:Pr)(H:Hp)(J:Addr->Prop)(E:Ends):Out->Prop
|.nx Z'=>∀Y' H' J',ST K Hz Jz O Z' Y' H' J'->Keep K H J H' J'->E.nx Y' H'
|.bk Z'=>∀Y' H' J',ST K Hz Jz O Z' Y' H' J'->Keep K H J H' J'->E.bk Y' H'
|.ct Z'=>∀Y' H' J',ST K Hz Jz O Z' Y' H' J'->Keep K H J H' J'->E.ct Y' H'
|.ret r Z'=>∀v Y' H' J',ST K Hz Jz O Z' Y' H' J'->RtAt K Hz O Z' Y' H' J' v r->E.rt v H'
def Fits.keep {K:Fg}{Hz:Hp}{Jz:Addr->Prop}{O:Pr}{H H1:Hp}{J J1:Addr->Prop}{E:Ends}(k:Keep K H J H1 J1):∀{o:Out},Fits K Hz Jz O H J E o->Fits K Hz Jz O H1 J1 E o
|.nx _,h=>λY' H' J' s q=>h Y' H' J' s (k.trans q)
|.bk _,h=>λY' H' J' s q=>h Y' H' J' s (k.trans q)
|.ct _,h=>λY' H' J' s q=>h Y' H' J' s (k.trans q)
|.ret _ _,h=>h
def GoS (K:Fg)(t:TS)(g:FS):Prop:=∀Hz Jz O Z Y H J o E,ST K Hz Jz O Z Y H J->g Z=some o->Fits K Hz Jz O H J E o->t E Y H
def VS (X:Cx)(st:Stmt)(g:FS):Prop:=∃t,PS X st t/\GoS X.K t g
def VSs (X:Cx)(sts:List Stmt)(g:FS):Prop:=∃t,PSs X sts t/\GoS X.K t g
def gSeq (a b:FS):FS:=λZ=>(a Z).bind λo=>match o with
|.nx Z'=>b Z'
|.bk Z'=>some (.bk Z')
|.ct Z'=>some (.ct Z')
|.ret d Z'=>some (.ret d Z')
def gNx:FS:=λZ=>some (.nx Z)
def RpL.one {K:Fg}{H:Hp}{J:Addr->Prop}{vs:List V}{d:D}(r:RpL K H J vs [d]):∃v,vs = [v]/\Rp K H J v d:=by
 cases r with
|cons h t=>cases t;exact⟨_,rfl,h⟩
section
variable {X:Cx}{K:Fg}{st:Stmt}{sts:List Stmt}{g g2:FS}{pos:Pos}{e a:Expr}{fa:FE}{fl:FA}{ft:FT}
def zak:VSs X [] gNx:=⟨_,ziG,λHz Jz O Z Y H J o E s e w=>by cases e;exact w Y H J s Keep.refl⟩
def zpS {t u:TS}(h1:GoS K t g)(h2:GoS K u g2):GoS K (tSeq t u) (gSeq g g2):=by
 intro Hz Jz O Z Y H J o E s e w;obtain⟨o1,e1,e⟩:=bS e;refine h1 Hz Jz O Z Y H J o1 _ s e1 ?_;cases o1 with
|nx Z'=>exact λY' H' J' s' k=>h2 Hz Jz O Z' Y' H' J' o E s' e (w.keep k)
|bk Z'=>cases e;exact w
|ct Z'=>cases e;exact w
|ret d Z'=>cases e;exact w
def zac (h1:VS X st g)(h2:VSs X sts g2):VSs X (st::sts) (gSeq g g2):=by
 obtain⟨t,p,q⟩:=h1;obtain⟨u,p2,q2⟩:=h2;exact⟨_,zeP p p2,zpS q q2⟩
def zaj (h:VS X st g):VSs X [st] g:=let ⟨t,p,q⟩:=h;⟨t,ziH p,q⟩
def frzE (i:Nat)(Z:En):En:=match Z[i]? with
|some (.own _ d)=>Z.set i (.val d)
|_=>Z
def ze3 (i:Nat)(h:VSs X sts g):VSs X sts (λZ=>g (frzE i Z)):=by
 obtain⟨t,p,q⟩:=h;refine⟨t,p,λHz Jz O Z Y H J o E s e w=>?_⟩;have e:g (frzE i Z)=some o:=e
 unfold frzE at e;cases z:Z[i]? with
|none=>rw[z] at e;exact q Hz Jz O Z Y H J o E s e w
|some x=>
   rw[z] at e;cases x with
  |own n d=>
     obtain⟨J',s',k⟩:=s.frz z;exact q Hz Jz O _ Y H J' o E s' e (w.keep k)
  |_=>exact q Hz Jz O Z Y H J o E s e w
def gCt:FS:=λZ=>some (.ct Z)
def zd1:VS X (.Continue pos) gCt:=⟨_,zgr,λHz Jz O Z Y H J o E s e w=>by cases e;exact w Y H J s Keep.refl⟩
def gNo:FS:=λ_=>none
def zc3:VS X st gNo:=⟨_,zg7,λHz Jz O Z Y H J o E s e w=>by cases e⟩
def gRet (f:FE):FS:=λZ=>(f Z).bind λd=>some (.ret (.told d) Z)
def zau (h:VE X e fa):VS X (.Return (some e) pos) (gRet fa):=by
 obtain⟨t,p,q⟩:=h;refine⟨_,zmf p,λHz Jz O Z Y H J o E s e w=>?_⟩;obtain⟨d,e1,e⟩:=bS e;cases e;exact q Hz Jz O Z Y H J d _ s e1 λv H' J' u r=>w v Y H' J' (s.up u) r
def gEx (f:FE):FS:=λZ=>(f Z).bind λ_=>some (.nx Z)
def zgC (h:VE X e fa)(hs:sWw e none pos.line X.env=pure false:=by rfl):VS X (.Expr e pos) (gEx fa):=by
 obtain⟨t,p,q⟩:=h;refine⟨_,zdn p hs,λHz Jz O Z Y H J o E s e w=>?_⟩;obtain⟨d,e1,e⟩:=bS e;cases e;exact q Hz Jz O Z Y H J d _ s e1 λv H' J' u r=>w Y H' J' (s.up u) u.keep
def gIf (c:FT)(a b:FS):FS:=λZ=>(c Z).bind λk=>if k then a Z else b Z
def zbP {c:Expr}{bs os:List Stmt}(hc:VT X c ft)(ha:VSs X bs g)(hb:VSs X os g2):VS X (.If c bs os pos) (gIf ft g g2):=by
 obtain⟨tc,pc,qc⟩:=hc;obtain⟨t,p,q⟩:=ha;obtain⟨u,p2,q2⟩:=hb;refine⟨_,zpf pc p p2,λHz Jz O Z Y H J o E s e w=>?_⟩;obtain⟨k,e1,e⟩:=bS e;refine qc Hz Jz O Z Y H J k _ s e1 λH1 J1 u1=>?_
 cases k with
|true=>exact iteT (q Hz Jz O Z Y H1 J1 o E (s.up u1) e (w.keep u1.keep))
|false=>exact iteF (q2 Hz Jz O Z Y H1 J1 o E (s.up u1) e (w.keep u1.keep))
def gSet (i:Nat)(f:FE):FS:=λZ=>(f Z).bind λd=>if i<Z.length/\isPar (Z[i]?)=false then some (.nx (Z.set i (.val d))) else none
def zjq {i:Nat}{t:TE}(q:GoE K t fa):GoS K (tAsg t (zdE i)) (gSet i fa):=by
 intro Hz Jz O Z Y H J o E s e w;obtain⟨d,e1,e⟩:=bS e;by_cases hi:i<Z.length/\isPar (Z[i]?)=false
 .rw[if_pos hi] at e;cases e;exact q Hz Jz O Z Y H J d _ s e1 λv H' J' u r=>w _ H' J' ((s.up u).set r hi.1 (zbd hi.2)) u.keep
 .rw[if_neg hi] at e;cases e
def zpT {i:Nat}{x:Str}{pos':Pos}(hN:X.N.Nodup)(hi:X.N[i]?=some x)(hx:Loc X.env.scope x)(h:VE X e fa)(hs:sWw e (some (.Name x pos')) pos.line X.env=pure false:=by rfl)(hf:X.fn x=true\/X.env.scope.names.lookup x=some .local:=by first|exact .inl rfl|exact .inr rfl|assumption) :
 VS X (.Assign [.Name x pos'] e pos) (gSet i fa):=by
 obtain⟨t,p,q⟩:=h;exact⟨_,zg8 hN hi hx p hs hf,zjq q⟩
def gOwn (i:Nat)(f:FA):FS:=λZ=>(f Z).bind λds=>if i<Z.length/\isPar (Z[i]?)=false then some (.nx (Z.set i (.own 1 (.lst ds)))) else none
def zmw {i:Nat}{t:TE}(q:GoN K t fl):GoS K (tAsg t (zdE i)) (gOwn i fl):=by
 intro Hz Jz O Z Y H J o E s e w;obtain⟨ds,e1,e⟩:=bS e;by_cases hi:i<Z.length/\isPar (Z[i]?)=false
 .rw[if_pos hi] at e;cases e;refine q Hz Jz O Z Y H J ds _ s e1 λp vs H' J' u hp nj h' r=>w _ H' J' (s.setOwn (A:=[p]) u (λb hb=>by rw[wag.mp hb];exact hp) (.lst h' (RpUL.of r)) (by simp) (λb hb=>by rw[wag.mp hb];exact nj) hi.1 (zbd hi.2)) u.keep
 .rw[if_neg hi] at e;cases e
def gRetN (f:FA):FS:=λZ=>(f Z).bind λds=>some (.ret (.new 1 (.lst ds)) Z)
def zfJ (h:VN X e fl):VS X (.Return (some e) pos) (gRetN fl):=by
 obtain⟨t,p,q⟩:=h;refine⟨_,zmf p,λHz Jz O Z Y H J o E s e w=>?_⟩;obtain⟨ds,e1,e⟩:=bS e;cases e;refine q Hz Jz O Z Y H J ds _ s e1 λp vs H' J' u hp nj h' r=>?_
 obtain⟨fp,ow⟩:=(s.up u).ow;obtain⟨fp0,ow0⟩:=s.ow;have s':=s.up u
 refine w _ Y H' J' s' ⟨[p],fp0,⟨λi=>(ow0.at' i).keep u.keep λb _=>u.same b,ow0.nd,λi b hb jb=>?_,ow0.dj⟩,.lst h' (RpUL.of r),by simp,λb hb=>?_,λi b hb hb2=>?_⟩
 .rcases u.jn b jb with jb|jb
  .exact ow0.nj i b hb jb
  .obtain⟨o,e,_⟩:=(ow0.at' i).ru b hb;rw[e] at jb;cases jb
 .rw[wag.mp hb];refine⟨nj,?_⟩;cases e:Hz p with
 |none=>rfl
 |some o=>exact absurd hp (s.al p (by rw[e];simp))
 .rw[wag.mp hb] at hb2;obtain⟨o,e,_⟩:=(ow0.at' i).ru p hb2;rw[hp] at e;cases e
def zpU {i:Nat}{x:Str}{pos':Pos}(hN:X.N.Nodup)(hi:X.N[i]?=some x)(hx:Loc X.env.scope x)(h:VN X e fl)(hs:sWw e (some (.Name x pos')) pos.line X.env=pure false:=by rfl)(hf:X.fn x=true\/X.env.scope.names.lookup x=some .local:=by first|exact .inl rfl|exact .inr rfl|assumption) :
 VS X (.Assign [.Name x pos'] e pos) (gOwn i fl):=by
 obtain⟨t,p,q⟩:=h;exact⟨_,zg8 hN hi hx p hs hf,zmw q⟩
def gAsg (f:FE)(g:FG):FS:=λZ=>(f Z).bind λd=>(g d Z).bind λZ'=>some (.nx Z')
def zpV {tg:Expr}{is:List Nat}{fg:FG}(h:VE X e fa)(hg:VG X tg is fg)(hs:swapsWithSole [tg] e pos.line X.env=pure false:=by rfl)(hw:swappedStores [tg] e X.env=pure none:=by rfl)(h1:(assignEach [tg] X.env).map (·.2) = [assign tg X.env]:=by rfl):VS X (.Assign [tg] e pos) (gAsg fa fg):=by
 obtain⟨t,p,q⟩:=h;obtain⟨u,p2,q2⟩:=hg;refine⟨_,ziK p p2 hs hw h1,λHz Jz O Z Y H J o E s e w=>?_⟩;obtain⟨d,e1,e⟩:=bS e;obtain⟨Z',e2,e⟩:=bS e;cases e;exact q Hz Jz O Z Y H J d _ s e1 λv H' J' u r=>q2.2 Hz Jz O Z Y H' J' v d Z' _ (s.up u) r e2 λY' s'=>w Y' H' J' s' u.keep
def setO (Z:En)(i:Nat)(d:D):En:=Z.set i (putD (Z[i]?) d)
def ST.top {Hz H H':Hp}{Jz J:Addr->Prop}{O:Pr}{Z:En}{Y:L2.St}{i:Nat}{ds es:List D}(s:ST K Hz Jz O Z Y H J)(h0:ownD (Z[i]?)=some (1,.lst ds)):∃a vs,Y[i]?=some (some (.ref a))/\H a=some (.lst vs)/\RpL K H J vs ds/\
 ∀(us:List V) (es:List D),RpL K H J us es->ST K Hz Jz O (setO Z i (.lst es)) Y (upd H a (.lst us)) J/\Keep K H J (upd H a (.lst us)) J:=by
 obtain⟨v,A,hv,r,nd,nj,go⟩:=s.chg h0;obtain⟨a,vs,rfl,rfl,ha,rl⟩:=r.one;refine⟨a,vs,hv,ha,rl,λus es re=>?_⟩;have nja:¬J a:=nj a (by simp)
 have kp:Keep K H J (upd H a (.lst us)) J:=zbD ha nja
 refine go (upd H a (.lst us)) J (.lst es) [a] (λb o hb h=>?_) (λb h=>?_) (λ_ h=>h) (λ_ h=>.inl h) (λb h=>?_) (.lst zae (RpUL.of (re.keep kp))) (by simp) nj (λb hb=>.inl hb)
 .rw[zaf (λz=>hb (by simp[z]))];exact h
 .by_cases e:b=a
  .subst e;rw[zae];simp
  .rw[zaf e];exact h
 .by_cases e:b=a
  .subst e;rw[zae];simp
  .rw[zaf e];exact s.ja b h
def gApp (i:Nat)(f:FE):FS:=λZ=>(f Z).bind λd=>match ownD (Z[i]?) with
|some (1,.lst ds)=>if ds.length<lim then some (.nx (setO Z i (.lst (ds++[d])))) else none
|_=>none
def zpW {i:Nat}{t:TA}(q:GoA K t fl)(f:FE)(hf:∀Z d,f Z=some d->fl Z=some [d]):GoS K (zkI (tBM K "list" zeW (tVar i) t)) (gApp i f):=by
 intro Hz Jz O Z Y H J o E s e w;obtain⟨d,e1,e⟩:=bS e;split at e
 .rename_i ds z
  by_cases hl:ds.length<lim
  .rw[if_pos hl] at e;cases e;obtain⟨a,vs,ha,hv,_,_⟩:=s.top (H':=H) (es:=[]) z;refine⟨.ref a,ha,.inl ⟨rfl,vs,SqL.of hv⟩,q Hz Jz O Z Y H J [d] _ s (hf Z d e1) λws H1 J1 u1 r1=>?_⟩;obtain⟨v,rfl,rv⟩:=r1.one;obtain⟨a',vs',ha',hv',rl,go⟩:=(s.up u1).top (H':=H) (es:=[]) z;rw[ha] at ha';cases ha';refine⟨a,vs',v,rfl,rfl,hv',by rw[rl.length];exact waq hl (wbl zdz),?_⟩;obtain⟨s2,k2⟩:=go (vs'++[v]) (ds++[d]) (rl.append (.cons rv .nil));exact w Y _ J1 s2 (u1.keep.trans k2)
  .rw[if_neg hl] at e;cases e
 .cases e
def zfK (i:Nat){x:Str}{xp qL qt:Pos}(h:VE X e fa)(hN:X.N[i]?=some x:=by rfl)(hv:Vis X.env.scope x:=by first|exact Or.inl rfl|exact Or.inr (Or.inl rfl)|exact Or.inr (Or.inr rfl))(hd:(x == ("__debug__":Str))=false:=by decide)
 (hcd:(x == ("__classdict__":Str))=false:=by decide) (h1:sE [e] X.env=(false,eval e X.env)::sE [] X.env:=by rfl)
 (qX:attributeBase (.Name x xp) "append" X.env (eval (.Name x xp) X.env)=eval (.Name x xp) X.env:=by rfl)
 (wK:((backTo qt (sE [e] X.env)).all (λx=>!x.1)&&(backToKw qt (keywordEach [] X.env)).all (λx=>x.1.isSome)
  && decide ([e].length+([]:List Keyword).length+(if([]:List Keyword).isEmpty then 0 else 1)<30))=true:=by rfl)
 (w5:(qL.endLine == qt.line)=true:=by rfl) (hs:sE [e] X.env = [(false,eval e X.env)]:=by rfl) (hsw:sWw (.Call (.Attribute (.Name x xp) "append" qL) [e] [] qt) none pos.line X.env=pure false:=by rfl) :
 VS X (.Expr (.Call (.Attribute (.Name x xp) "append" qL) [e] [] qt) pos) (gApp i fa):=by
 obtain⟨t,p,q⟩:=zad h zai h1;refine⟨_,zdn (papp (zcl hN hv hd hcd) p qX wK w5 hs) hsw,zpW q fa λZ d e=>?_⟩;show((fa Z).bind λx=>(aNil Z).bind λxs=>some (x::xs))=some [d]
 rw[e];rfl
def gExt (i:Nat)(f:FE):FS:=λZ=>(f Z).bind λd=>match d,ownD (Z[i]?) with
|.lst es,some (1,.lst ds)=>if(ds++es).length<=lim then some (.nx (setO Z i (.lst (ds++es)))) else none
|_,_=>none
def zpX {i:Nat}{t:TA}(q:GoA K t fl)(f:FE)(hf:∀Z d,f Z=some d->fl Z=some [d]):GoS K (zkI (tBM K "list" zi1 (tVar i) t)) (gExt i f):=by
 intro Hz Jz O Z Y H J o E s e w;obtain⟨d,e1,e⟩:=bS e;split at e
 .rename_i es ds z
  by_cases hl:(ds++es).length<=lim
  .rw[if_pos hl] at e;cases e;obtain⟨a,vs,ha,hv,_,_⟩:=s.top (H':=H) (es:=[]) z;refine⟨.ref a,ha,.inl ⟨rfl,vs,SqL.of hv⟩,q Hz Jz O Z Y H J [.lst es] _ s (hf Z _ e1) λws H1 J1 u1 r1=>?_⟩;obtain⟨v,rfl,rv⟩:=r1.one;obtain⟨b,us,rfl,hb,rb⟩:=RpW.lst (.inl rv);obtain⟨a',vs',ha',hv',rl,go⟩:=(s.up u1).top (H':=H) (es:=[]) z;rw[ha] at ha';cases ha';refine⟨a,b,vs',us,rfl,rfl,hv',hb,by rw[rl.length,rb.length,<-waj];exact zbJ hl,?_⟩;obtain⟨s2,k2⟩:=go (vs'++us) (ds++es) (rl.append rb);exact w Y _ J1 s2 (u1.keep.trans k2)
  .rw[if_neg hl] at e;cases e
 .cases e
def zmx (i:Nat){x:Str}{xp qL qt:Pos}(h:VE X e fa)(hN:X.N[i]?=some x:=by rfl)(hv:Vis X.env.scope x:=by first|exact Or.inl rfl|exact Or.inr (Or.inl rfl)|exact Or.inr (Or.inr rfl))(hd:(x == ("__debug__":Str))=false:=by decide)
 (hcd:(x == ("__classdict__":Str))=false:=by decide) (h1:sE [e] X.env=(false,eval e X.env)::sE [] X.env:=by rfl)
 (qX:attributeBase (.Name x xp) "extend" X.env (eval (.Name x xp) X.env)=eval (.Name x xp) X.env:=by rfl)
 (wK:((backTo qt (sE [e] X.env)).all (λx=>!x.1)&&(backToKw qt (keywordEach [] X.env)).all (λx=>x.1.isSome)
  && decide ([e].length+([]:List Keyword).length+(if([]:List Keyword).isEmpty then 0 else 1)<30))=true:=by rfl)
 (w5:(qL.endLine == qt.line)=true:=by rfl) (hs:sE [e] X.env = [(false,eval e X.env)]:=by rfl) (hsw:sWw (.Call (.Attribute (.Name x xp) "extend" qL) [e] [] qt) none pos.line X.env=pure false:=by rfl) :
 VS X (.Expr (.Call (.Attribute (.Name x xp) "extend" qL) [e] [] qt) pos) (gExt i fa):=by
 obtain⟨t,p,q⟩:=zad h zai h1;refine⟨_,zdn (zpr PySem.F.plainAttrs_list PySem.F.slot_list_extend PySem.F.type_list_extend zi2 (zcl hN hv hd hcd) p qX wK w5 hs rfl) hsw,zpX q fa λZ d e=>?_⟩;show((fa Z).bind λx=>(aNil Z).bind λxs=>some (x::xs))=some [d]
 rw[e];rfl
end
def forL (tg:FG)(b:FS):List D->En->Option Out
|[],Z=>some (.nx Z)
|d::r,Z=>(tg d Z).bind λZ1=>(b Z1).bind λo=>match o with
  |.nx Z2=>forL tg b r Z2
  |.ct Z2=>forL tg b r Z2
  |.bk Z2=>some (.nx Z2)
  |.ret d Z2=>some (.ret d Z2)
def gFor (fi:FA)(tg:FG)(b:FS):FS:=λZ=>(fi Z).bind λds=>forL tg b ds Z
section
variable {X:Cx}{K:Fg}{fi:FA}{g:FS}{pos:Pos}{ft:FT}
def zpY {wi:TI}{tb:TS}{tg:TG}{fg:FG}{is:List Nat}(hi:GoI K wi fi)(hg:GoG K tg is fg)(hb:GoS K tb g):GoS K (tFor wi tg tb) (gFor fi fg g):=by
 intro Hz Jz O Z Y H J o E s e w;obtain⟨ds,e1,e⟩:=bS e;refine hi Hz Jz O Z Y H J ds _ s e1 λI H1 J1 u1 src=>?_
 refine⟨λi m Y' H'=>m=ds.length - i/\i<=ds.length/\∃Z' J',ST K Hz Jz O Z' Y' H' J'/\Keep K H1 J1 H' J'/\forL fg g (ds.drop i) Z'=some o,⟨ds.length,by simp,wbx _,Z,J1,s.up u1,Keep.refl,by simpa using e⟩,?_⟩;rintro i m Y2 H2 ⟨rfl,hil,Z2,J2,s2,k2,e2⟩;obtain⟨stop,qC⟩:=src H2 J2 k2 s2.ja;by_cases hlt:i<ds.length
 .right
  have hd:ds[i]?=some ds[i]:=wac hlt
  generalize hdd:ds[i]=d at hd;obtain⟨go,yl⟩:=qC i d hd;have edrop:ds.drop i=d::ds.drop (i+1):=by rw[<-hdd];exact(wbg hlt).symm
  rw[edrop] at e2;unfold forL at e2;obtain⟨Z3,eg,e2⟩:=bS e2;obtain⟨ob,eb,e2⟩:=bS e2;refine⟨go,λY' H'=>∃Z' J',ST K Hz Jz O Z' Y' H' J'/\Keep K H1 J1 H' J'/\forL fg g (ds.drop (i+1)) Z'=some o,λY' H' h=>⟨ds.length - (i+1),by omega,rfl,hlt,h⟩,λx H3 y=>?_⟩;obtain⟨J3,u3,r3⟩:=yl x H3 y;refine hg.2 Hz Jz O Z2 Y2 H3 J3 x d Z3 _ (s2.up u3) r3 eg λY4 s4=>?_
  refine hb Hz Jz O Z3 Y4 H3 J3 ob _ s4 eb ?_;have k3:=k2.trans u3.keep
  cases ob with
 |nx Z5=>exact λY5 H5 J5 s5 k5=>⟨Z5,J5,s5,k3.trans k5,e2⟩
 |ct Z5=>exact λY5 H5 J5 s5 k5=>⟨Z5,J5,s5,k3.trans k5,e2⟩
 |bk Z5=>cases e2;exact λY5 H5 J5 s5 k5=>w Y5 H5 J5 s5 ((u1.keep.trans k3).trans k5)
 |ret d Z5=>cases e2;exact w
 .left
  have hi':i=ds.length:=by omega
  subst hi';rw[wbE] at e2;cases e2;exact⟨stop,w Y2 H2 J2 s2 (u1.keep.trans k2)⟩
def zd2 {tg qb:Expr}{body:List Stmt}{is:List Nat}{fg:FG}(hi:VI X tg qb fi)(hg:VG X tg is fg)(hb:VSs X body g)(hp:PassesOwn (model X.prog X.w) X.A X.env X.xe:=by exact PassesOwn.never)(hc:X.calm=true:=by rfl)
 (hs:∀x,fSI qb X.env x=pure x:=by intro _;rfl):VS X (.For tg qb body [] pos) (gFor fi fg g):=by
 obtain⟨wi,p1,q1⟩:=hi;obtain⟨t,p2,q2⟩:=hg;obtain⟨tb,p3,q3⟩:=hb;exact⟨_,ziP hp hc p1 p2 p3 hs,zpY q1 q2 q3⟩
def zdB (c:FT)(b:FS):Nat->En->Option Out
|0,_=>none
|n+1,Z=>(c Z).bind λk=>if k then(b Z).bind λo=>match o with
  |.nx Z2=>zdB c b n Z2
  |.ct Z2=>zdB c b n Z2
  |.bk Z2=>some (.nx Z2)
  |.ret d Z2=>some (.ret d Z2)
   else some (.nx Z)
def gWhile (c:FT)(b:FS)(fuel:En->Nat):FS:=λZ=>zdB c b (fuel Z) Z
def zlf {tc:TT}{tb:TS}{fuel:En->Nat}(hc:GoT K tc ft)(hb:GoS K tb g):GoS K (zmh tc tb) (gWhile ft g fuel):=by
 intro Hz Jz O Z Y H J o E s e w;refine⟨λm Y' H'=>∃Z' J',ST K Hz Jz O Z' Y' H' J'/\Keep K H J H' J'/\zdB ft g m Z'=some o,⟨fuel Z,Z,J,s,Keep.refl,e⟩,?_⟩;rintro m Y2 H2 ⟨Z2,J2,s2,k2,e2⟩;cases m with
|zero=>cases e2
|succ n=>
   unfold zdB at e2;obtain⟨k,ek,e2⟩:=bS e2;refine hc Hz Jz O Z2 Y2 H2 J2 k _ s2 ek λH3 J3 u3=>?_
   have s3:=s2.up u3
   have k3:=k2.trans u3.keep
   cases k with
  |true=>
     refine iteT ?_;rw[if_pos rfl] at e2;obtain⟨ob,eb,e2⟩:=bS e2;refine⟨λY' H'=>∃Z' J',ST K Hz Jz O Z' Y' H' J'/\Keep K H J H' J'/\zdB ft g n Z'=some o,λY' H' h=>⟨n,Nat.lt_succ_self n,h⟩,?_⟩;refine hb Hz Jz O Z2 Y2 H3 J3 ob _ s3 eb ?_;cases ob with
    |nx Z5=>exact λY5 H5 J5 s5 k5=>⟨Z5,J5,s5,k3.trans k5,e2⟩
    |ct Z5=>exact λY5 H5 J5 s5 k5=>⟨Z5,J5,s5,k3.trans k5,e2⟩
    |bk Z5=>cases e2;exact λY5 H5 J5 s5 k5=>w Y5 H5 J5 s5 (k3.trans k5)
    |ret d Z5=>cases e2;exact w
  |false=>
     refine iteF ?_;rw[if_neg (by simp)] at e2;cases e2;exact w Y2 H3 J3 s3 k3
def zlg {c:Expr}{body:List Stmt}(fuel:En->Nat)(hc:VT X c ft)(hb:VSs X body g)(hp:PassesOwn (model X.prog X.w) X.A X.env X.xe:=by exact PassesOwn.never):VS X (.While c body [] pos) (gWhile ft g fuel):=by
 obtain⟨t,p2,q2⟩:=hc;obtain⟨tb,p3,q3⟩:=hb;exact⟨_,zkK hp p2 p3,zlf q2 q3⟩
end
def zlh (N:List Str)(st:Stmt){X:Cx}{i:Nat}{x:Str}{elt qb tg:Expr}{ifs:List Expr}{scope:Scope}{pos pos' cp:Pos}{NC:List Str}(fr:List (Option Nat)){fi:FA}{g:FG}{is:List Nat}{ft:FT}{fe:FE}(hND:X.N.Nodup)(hix:X.N[i]?=some x)(hx:Loc X.env.scope x){RR:Hp->Prop}(hRR:∀pins Y H s,Inv X pins Y H s->RR H)(qm:X.calm=true)(hi:VI X tg qb fi)
 (ql:∀x,X.env.scope.names.lookup x=some .cell->∃c,X.env.cells.lookup x=some c) (hfk:X.env.scope.kind=.function) (hN:X.N=N) (hsc:X.env.scope.names=(zab st).names)
 (qj:∀y∈scope.names,y.2=.free->(zab st).names.lookup y.1=some .cell) (qg:∀y∈scope.names,y.2≠.cell) (qh:scope.kind=.function) (qi:∀y∈scope.names,y.2=.local->scope.names.lookup y.1=some .local)
 (qD:zbS N (zab st).names scope.names NC fr=true) (qe:fr.length=NC.length) (hap:apart is fr=true)
 (hg:∀cl C s0 H0 ex pn,VG (cxC X scope cl NC C s0 H0 ex pn) tg is g) (ht:∀cl C s0 H0 ex pn,VTs (cxC X scope cl NC C s0 H0 ex pn) ifs ft) (he:∀cl C s0 H0 ex pn,RR H0->VE (cxC X scope cl NC C s0 H0 ex pn) elt fe)
 (hs:∀x,fSI qb X.env x=pure x:=by intro _;rfl) (hsw:sWw (.ListComp elt [⟨tg,qb,ifs,0⟩] scope cp) (some (.Name x pos')) pos.line X.env=pure true:=by rfl)
 (hf:X.fn x=true\/X.env.scope.names.lookup x=some .local:=by first|exact .inl rfl|exact .inr rfl|assumption) :
 VS X (.Assign [.Name x pos'] (.ListComp elt [⟨tg,qb,ifs,0⟩] scope cp) pos) (gSet i (eL (ze0 fr fi g ft fe)))/\VS X (.Assign [.Name x pos'] (.ListComp elt [⟨tg,qb,ifs,0⟩] scope cp) pos) (gOwn i (ze0 fr fi g ft fe)):=by
 obtain⟨wi,pi,gi⟩:=hi;obtain⟨_,_,hon,_⟩:=hg [] 0 X.s₀ X.Hz [] [];have p:=zhk N st (i:=i) (pos:=pos) (pos':=pos') (cp:=cp) fr hND hix hx hRR qm pi ql hfk hN hsc qj qg qh qi qD qe (λcl C s0 H0 ex pn=>show PG (cxC X scope cl NC C s0 H0 ex pn) tg (TGof X.K g) from(hg cl C s0 H0 ex pn).of) (λcl C s0 H0 ex pn=>show PTs (cxC X scope cl NC C s0 H0 ex pn) ifs (TTof X.K ft) from ht cl C s0 H0 ex pn) (λcl C s0 H0 ex pn r=>show PE (cxC X scope cl NC C s0 H0 ex pn) elt (TEof X.K fe) from(he cl C s0 H0 ex pn r).of) hs hsw hf
 exact⟨⟨_,p,zjq (zms (zgB gi hon hap))⟩,⟨_,p,zmw (zgB gi hon hap)⟩⟩
def zgD (N:List Str)(st:Stmt){X:Cx}{i:Nat}{x:Str}{elt qb tg:Expr}{ifs:List Expr}{scope:Scope}{pos pos' cp:Pos}{NC:List Str}(fr:List (Option Nat)){fi:FA}{g:FG}{is:List Nat}{ft:FT}{fe:FE}(hND:X.N.Nodup)(hix:X.N[i]?=some x)(hx:Loc X.env.scope x)(qm:X.calm=true)(hi:VI X tg qb fi)
 (ql:∀x,X.env.scope.names.lookup x=some .cell->∃c,X.env.cells.lookup x=some c) (hfk:X.env.scope.kind=.function) (hN:X.N=N) (hsc:X.env.scope.names=(zab st).names)
 (qj:∀y∈scope.names,y.2=.free->(zab st).names.lookup y.1=some .cell) (qg:∀y∈scope.names,y.2≠.cell) (qh:scope.kind=.function) (qi:∀y∈scope.names,y.2=.local->scope.names.lookup y.1=some .local)
 (qD:zbS N (zab st).names scope.names NC fr=true) (qe:fr.length=NC.length) (hap:apart is fr=true)
 (hg:∀cl C s0 H0 ex pn,VG (cxC X scope cl NC C s0 H0 ex pn) tg is g) (ht:∀cl C s0 H0 ex pn,VTs (cxC X scope cl NC C s0 H0 ex pn) ifs ft) (he:∀cl C s0 H0 ex pn,VE (cxC X scope cl NC C s0 H0 ex pn) elt fe)
 (hs:∀x,fSI qb X.env x=pure x:=by intro _;rfl) (hsw:sWw (.ListComp elt [⟨tg,qb,ifs,0⟩] scope cp) (some (.Name x pos')) pos.line X.env=pure true:=by rfl)
 (hf:X.fn x=true\/X.env.scope.names.lookup x=some .local:=by first|exact .inl rfl|exact .inr rfl|assumption) :
 VS X (.Assign [.Name x pos'] (.ListComp elt [⟨tg,qb,ifs,0⟩] scope cp) pos) (gSet i (eL (ze0 fr fi g ft fe)))/\VS X (.Assign [.Name x pos'] (.ListComp elt [⟨tg,qb,ifs,0⟩] scope cp) pos) (gOwn i (ze0 fr fi g ft fe)):=
 zlh (RR:=λ_=>True) N st fr hND hix hx (λ_ _ _ _ _=>trivial) qm hi ql hfk hN hsc qj qg qh qi qD qe hap hg ht (λcl C s0 H0 ex pn _=>he cl C s0 H0 ex pn) hs hsw hf
section
variable {P:Pm}{w:World}{K:Fg}{mg:Str->Option Vl}{base:Heap}
def ST.out {Hz H:Hp}{Jz J:Addr->Prop}{Z:En}{Y:L2.St}(s:ST K Hz Jz Pr.no Z Y H J):Up Hz Jz H J:=⟨λb o=>s.same b o (λ⟨_,h⟩=>by simp[Pr.no] at h),s.j0,s.jn,s.ja⟩
def zdK {N:List Str}{H:Hp}{J:Addr->Prop}{vs:List V}{ds:List D}(ja:∀a,J a->H a≠none)(r:RpL K H J vs ds):ST K H J Pr.no (ds.map SV.val++rpl (N.length - ds.length) .un) (start N vs) H J where
 same:=λ_ _ _ h=>h
 j0:=λ_ h=>h
 jn:=λ_ h=>.inl h
 ja:=ja
 al:=λ_ h=>h
 ps:=λq hq=>absurd hq (by simp[Pr.no])
 len:=by simp[L2.start,r.length]
 vl:=λi x h=>by
  rw[List.getElem?_append] at h;by_cases hi:i<(ds.map SV.val).length
  .rw[if_pos hi,wah] at h;cases q:ds[i]? with
  |none=>rw[q] at h;cases h
  |some d=>
     rw[q] at h;cases h;obtain⟨v,hv,rv⟩:=r.get q;refine⟨v,?_,rv⟩;unfold L2.start;rw[waK (by simp at hi⊢;rw[r.length];exact hi),wah,hv];rfl
  .rw[if_neg hi] at h;have:=way h
   cases List.eq_of_mem_replicate this
 ow:=⟨λ_=>[],λi=>zjp (by
  cases h:(List.map SV.val ds++rpl (N.length - ds.length) SV.un)[i]? with
 |none=>rfl
 |some x=>
    rcases waA.mp (way h) with h|h
    .obtain⟨d',_,h⟩:=waE.mp h;subst h;rfl
    .cases List.eq_of_mem_replicate h;rfl),λ_=>wbb,λ_ b hb=>absurd hb (by simp),λ_ _ _ b hb=>absurd hb (by simp)⟩
end
theorem zmy {P:Pm}{w:World}{K:Fg}{mg:Str->Option Vl}{base:Heap}{f:Addr}{fd:Fu}{ps:List Str}{x:Str}{b:(List D->Option D)->List D->Option D}{m:Nat->List D->Option D}(h0:∀ds,m 0 ds=none)(hs:∀n,m (n+1)=b (m n))
 (bd:Binds K fd ps []) (kp:W.keepIn K (.ref f)=true) (mx:mg x=some (.ref f)) {k:Nat}(qe:∀n ds d,m n ds=some d->ds.length=ps.length)
 (step:∀{n:Nat}{self:List D->Option D},Cal P w K mg base (k+n) x ps (spF K self)->FnOk P w K mg base CX0 (k+n+1) f fd ps (spF K (b self))):∀n,FnOk P w K mg base CX0 (k+n) f fd ps (spF K (m n))
|0=>by
   refine⟨λvs H Q E h=>?_,λA outer s H args us vs Q E _ _ _ _ h=>?_⟩
   .obtain⟨J,ds,d,_,_,e,_⟩:=h;rw[h0] at e;cases e
   .obtain⟨J,ds,d,_,_,e,_⟩:=h;rw[h0] at e;cases e
|n+1=>by
   rw[hs];exact step ⟨f,fd,zmy h0 hs bd kp mx qe step n,bd,kp,mx⟩
section
variable {K:Fg}{mg:Str->Option Vl}
def zcy {x:Str}{n:Int}{t:Tok}(h:mg x=some (.int n t)):GlobD K mg x (.int n):=⟨_,.int n,h,⟨t,rfl⟩,λ_ _=>.int n⟩
def zli {x n:Str}{t:Tok}(h:mg x=some (.str n t)):GlobD K mg x (.str n):=⟨_,.str n,h,⟨t,rfl⟩,λ_ _=>.str n⟩
def zlj {x:Str}{p:Addr}{o:Obj}{its:Array Vl}{n:Nat}{vs:List V}{ds:List D}(h:mg x=some (.ref p))(l:K.lookup p=some o)(hc:o.cls=.type "tuple")(hd:o.data=.seq its n)(hz:its.size<=sLn)(hv:Vals vs its.toList)(hr:∀H J,RpL K H J vs ds):GlobD K mg x (.tup ds):=
 ⟨_,.ref p,h,rfl,λH J=>.tup (.inr ⟨o,its,n,l,hc,hd,hz,hv⟩) (hr H J)⟩
end
def tyD:D->String
|.non=>"NoneType"
|.bl _=>"bool"
|.int _=>"int"
|.str _=>"str"
|.tup _=>"tuple"
|.lst _=>"list"
|.dct _ _=>"dict"
|.scr _=>"list"
|.exc _ _ _=>"?"
|.dcu _ _=>"?"
def isK (k T:String):Bool:=k == T||(k == "bool"&&T == "int")
structure Kit (K:Fg)(T:String):Prop where
 non:PySem.W.kitOne K (.type "NoneType") (.type T)=some (isK "NoneType" T)
 bl:PySem.W.kitOne K (.type "bool") (.type T)=some (isK "bool" T)
 int:PySem.W.kitOne K (.type "int") (.type T)=some (isK "int" T)
 str:PySem.W.kitOne K (.type "str") (.type T)=some (isK "str" T)
 tup:PySem.W.kitOne K (.type "tuple") (.type T)=some (isK "tuple" T)
 lst:PySem.W.kitOne K (.type "list") (.type T)=some (isK "list" T)
 dct:PySem.W.kitOne K (.type "dict") (.type T)=some (isK "dict" T)
def zmz (K:Fg):List V->Hp->VK->Prop:=λxs H Q=>zpA K xs H Q\/∃a vs n k,xs = [.ref a,.ty n]/\SqT K H a vs/\PySem.W.kitOne K (.type "tuple") (.type n)=some k/\Q (.bl k) H
def zh4 {X:Cx}:zci X (.builtin "isinstance") (zmz X.K):=by
 intro pins s Y H xs us Q I r h;rcases h with h|⟨a,vs,n,k,rfl,hs,e,q⟩
 .exact znt pins s Y H xs us Q I r h
 .obtain⟨u,w',rfl,r1,r2⟩:=zkP r;obtain rfl:w'=Value.type n:=r2;obtain rfl:u=Value.ref a:=r1;obtain⟨its,_,p,_⟩:=I.tuple hs;obtain⟨o,h1,h2,_⟩:=p;exact waU PySem.W.kitx_tuple I.kIn ⟨o,h1,h2⟩ e (λz=>nomatch z) λtk=>⟨.bl k,H,I.tok _,rfl,q⟩
def isD (T:String):D->Option D
|.scr _=>none
|.exc _ _ _=>none
|.dcu _ _=>none
|d=>some (.bl (isK (tyD d) T))
def zrR (T:String)(f:FE):FE:=λZ=>(f Z).bind (isD T)
def zcS {T:String}{Ts:Str}{X:Cx}{a:Expr}{fa:FE}{p q pos:Pos}(KT:Kit X.K T)(B:Blt X.mg)(hv:bBs Ts=some (.type T))(ha:VW X a fa)(hBT:Ts∈zbt:=by decide +kernel)(hgT:Gl X Ts:=by rfl)(hnT:Ts≠"__name__":=by decide)(hdT:(Ts == ("__debug__":Str))=false:=by decide)(hg:Gl X "isinstance":=by rfl)
 (h1:sE [a,.Name Ts q] X.env=(false,eval a X.env)::sE [.Name Ts q] X.env:=by rfl) (h2:sE [.Name Ts q] X.env=(false,eval (.Name Ts q) X.env)::sE [] X.env:=by rfl)
 (hpl:(backTo pos (sE [.Name Ts q] X.env)).any (·.1)=false:=by rfl):VE X (.Call (.Name "isinstance" p) [a,.Name Ts q] [] pos) (zrR T fa):=by
 obtain⟨t,pa,g⟩:=ha;refine⟨_,pb zh4 B boot_isinstance (za2 pa (za2 (ptn (v:=.ty T) (u:=.type T) B hv rfl hBT hgT hnT hdT) zcL h2) h1) (by decide +kernel) hg (by decide) (by decide) h1 hpl,?_⟩;intro Hz Jz O Z Y H J d Q s e w;obtain⟨x,e1,e⟩:=bS e;refine g Hz Jz O Z Y H J x _ s e1 λv H1 J1 u1 r1=>?_
 show zmz X.K [v,.ty T] H1 Q
 cases x with
|scr p=>cases e
|exc _ _ _=>cases e
|dcu _ _=>cases e
|non=>cases e;rw[r1.non];exact .inl ⟨_,_,_,_,rfl,.non,KT.non,w _ H1 J1 u1 (.bl _)⟩
|bl b=>cases e;rw[r1.bl];exact .inl ⟨_,_,_,_,rfl,.bl b,KT.bl,w _ H1 J1 u1 (.bl _)⟩
|int b=>cases e;rw[r1.int];exact .inl ⟨_,_,_,_,rfl,.int b,KT.int,w _ H1 J1 u1 (.bl _)⟩
|str b=>cases e;rw[r1.str];exact .inl ⟨_,_,_,_,rfl,.str b,KT.str,w _ H1 J1 u1 (.bl _)⟩
|tup ds=>cases e;obtain⟨a,vs,rfl,h1,_⟩:=r1.tup;exact .inr ⟨a,vs,T,_,rfl,h1,KT.tup,w _ H1 J1 u1 (.bl _)⟩
|lst ds=>cases e;obtain⟨a,vs,rfl,h1,_⟩:=r1.lst;exact .inl ⟨_,_,_,_,rfl,.lst h1,KT.lst,w _ H1 J1 u1 (.bl _)⟩
|dct ks ds=>cases e;obtain⟨a,kvs,vs,rfl,h1,_⟩:=r1.dct;exact .inl ⟨_,_,_,_,rfl,.dK h1,KT.dct,w _ H1 J1 u1 (.bl _)⟩
section
variable {K:Fg}{H H':Hp}{J J':Addr->Prop}
end
abbrev FX:=En->Option (D×En)
abbrev FR:=En->Option (RV×En)
abbrev FAX:=En->Option (List D×En)
section
variable (K:Fg)
def GoX (t:TE)(f:FX):Prop:=∀Hz Jz O Z Y H J d Z' Q,ST K Hz Jz O Z Y H J->f Z=some (d,Z')->(∀v H' J',ST K Hz Jz O Z' Y H' J'->Keep K H J H' J'->Rp K H' J' v d->Q v H')->t Y H Q
def GoR (t:TE)(f:FR):Prop:=∀Hz Jz O Z Y H J r Z' Q,ST K Hz Jz O Z Y H J->f Z=some (r,Z')->(∀v H' J',ST K Hz Jz O Z' Y H' J'->Keep K H J H' J'->RtAt K Hz O Z' Y H' J' v r->Q v H')->t Y H Q
def GoAX (t:TA)(f:FAX):Prop:=∀Hz Jz O Z Y H J ds Z' Q,ST K Hz Jz O Z Y H J->f Z=some (ds,Z')->(∀vs H' J',ST K Hz Jz O Z' Y H' J'->Keep K H J H' J'->RpL K H' J' vs ds->Q vs H')->t Y H Q
end
def VX (X:Cx)(e:Expr)(f:FX):Prop:=∃t,PE X e t/\GoX X.K t f
def VR (X:Cx)(e:Expr)(f:FR):Prop:=∃t,PE X e t/\GoR X.K t f
def VAX (X:Cx)(es:List Expr)(f:FAX):Prop:=∃t,PA X es t/\GoAX X.K t f
section
variable {X:Cx}{K:Fg}{a b c e:Expr}{es rest:List Expr}{fa fb fc:FX}{fe:FE}{ft fu:FTX}{fl:FAX}{fr:FR}{pos p p2:Pos}
def xE (f:FE):FX:=λZ=>(f Z).bind λd=>some (d,Z)
def VE.x (h:VE X e fe):VX X e (xE fe):=by
 obtain⟨t,p,g⟩:=h;refine⟨t,p,λHz Jz O Z Y H J d _ Q s e w=>?_⟩;obtain⟨d',e1,e⟩:=bS e;cases e;exact g Hz Jz O Z Y H J d Q s e1 λv H' J' u r=>w v H' J' (s.up u) u.keep r
def xA (f:FA):FAX:=λZ=>(f Z).bind λd=>some (d,Z)
def VA.x {f:FA}(h:VA X es f):VAX X es (xA f):=by
 obtain⟨t,p,g⟩:=h;refine⟨t,p,λHz Jz O Z Y H J d _ Q s e w=>?_⟩;obtain⟨d',e1,e⟩:=bS e;cases e;exact g Hz Jz O Z Y H J d Q s e1 λv H' J' u r=>w v H' J' (s.up u) u.keep r
def zlk {Hz H H':Hp}{Jz J J':Addr->Prop}{O:Pr}{Z:En}{Y:L2.St}{p:Addr}{vs:List V}{ds:List D}(s:ST K Hz Jz O Z Y H J)(u:Up H J H' J')(hp:H p=none)(nj:¬J' p)(h':H' p=some (.lst vs))(r:RpL K H' J' vs ds):RtAt K Hz O Z Y H' J' (.ref p) (.new 1 (.lst ds)):=by
 obtain⟨fp0,ow0⟩:=s.ow;refine⟨[p],fp0,⟨λi=>(ow0.at' i).keep u.keep λb _=>u.same b,ow0.nd,λi b hb jb=>?_,ow0.dj⟩,.lst h' (RpUL.of r),by simp,λb hb=>?_,λi b hb hb2=>?_⟩
 .rcases u.jn b jb with jb|jb
  .exact ow0.nj i b hb jb
  .obtain⟨o,e,_⟩:=(ow0.at' i).ru b hb;rw[e] at jb;cases jb
 .rw[wag.mp hb];refine⟨nj,?_⟩;cases e:Hz p with
 |none=>rfl
 |some o=>exact absurd hp (s.al p (by rw[e];simp))
 .rw[wag.mp hb] at hb2;obtain⟨o,e,_⟩:=(ow0.at' i).ru p hb2;rw[hp] at e;cases e
def RV.d:RV->D
|.told d=>d
|.new _ d=>d
def xR (f:FR):FX:=λZ=>(f Z).bind λq=>some (q.1.d,q.2)
def ST.tell {Hz H:Hp}{Jz J:Addr->Prop}{O:Pr}{Z:En}{Y:L2.St}{v:V}{r:RV}(s:ST K Hz Jz O Z Y H J)(q:RtAt K Hz O Z Y H J v r):∃J',ST K Hz Jz O Z Y H J'/\Keep K H J H J'/\Rp K H J' v r.d:=by
 cases r with
|told d=>exact⟨J,s,Keep.refl,q⟩
|new n d=>
   obtain⟨A,fp,ow,r,nd,hA,dj⟩:=q;have kp:Keep K H J H (λb=>J b\/b∈A):=⟨λ_ h=>.inl h,λ_ _ _ h=>h,λ_ _ h=>h⟩
   refine⟨λb=>J b\/b∈A,⟨s.same,λb h=>.inl (s.j0 b h),λb h=>?_,λb h=>?_,s.len,λj e h=>?_,⟨fp,λi=>(ow.at' i).keep kp λ_ _ _ h=>h,ow.nd,λi b hb jb=>?_,ow.dj⟩,s.ps,s.al⟩,kp,r.rp (λ_ h=>.inl h) (λb hb=>.inr hb)⟩
   .rcases h with h|h
    .exact s.jn b h
    .exact .inr (hA b h).2
   .rcases h with h|h
    .exact s.ja b h
    .obtain⟨o,e,_⟩:=r.some b h;rw[e];simp
   .obtain⟨v,e1,r1⟩:=s.vl j e h;exact⟨v,e1,r1.keep kp⟩
   .rcases jb with jb|jb
    .exact ow.nj i b hb jb
    .exact dj i b jb hb
def VR.x (h:VR X e fr):VX X e (xR fr):=by
 obtain⟨t,p,g⟩:=h;refine⟨t,p,λHz Jz O Z Y H J d _ Q s e w=>?_⟩;obtain⟨⟨r,Z1⟩,e1,e⟩:=bS e;cases e;refine g Hz Jz O Z Y H J r _ Q s e1 λv H' J' s' k q=>?_
 obtain⟨J2,s2,k2,r2⟩:=s'.tell q;exact w v H' J2 s2 (k.trans k2) r2
def x2 (F:D->D->Option D)(f g:FX):FX:=λZ=>(f Z).bind λq=>(g q.2).bind λr=>(F q.1 r.1).bind λd=>some (d,r.2)
def zjr {r:R2}{F:D->D->Option D}{ta tb:TE}(im:Im2 K r F)(ga:GoX K ta fa)(gb:GoX K tb fb):GoX K (tOp r ta tb) (x2 F fa fb):=by
 intro Hz Jz O Z Y H J d Z' Q s e w;obtain⟨⟨x,Z1⟩,ex,e⟩:=bS e;obtain⟨⟨y,Z2⟩,ey,e⟩:=bS e;obtain⟨z,ez,e⟩:=bS e;cases e;refine ga Hz Jz O Z Y H J x _ _ s ex λv1 H1 J1 s1 k1 r1=>?_
 refine gb Hz Jz O Z1 Y H1 J1 y _ _ s1 ey λv2 H2 J2 s2 k2 r2=>?_
 exact im H2 J2 v1 v2 x y d Q s2.ja (.inl (r1.keep k2)) (.inl r2) ez λv3 H3 J3 u3 r3=>w v3 H3 J3 (s2.up u3) ((k1.trans k2).trans u3.keep) r3
def znG {op:Operator}{r:R2}{F:D->D->Option D}(ho:OpR X (binaryOp op) r)(im:Im2 X.K r F)(ha:VX X a fa)(hb:VX X b fb):VX X (.BinOp a op b pos) (x2 F fa fb):=by
 obtain⟨ta,pa,ga⟩:=ha;obtain⟨tb,pb,gb⟩:=hb;exact⟨_,zm6 ho pa pb,zjr im ga gb⟩
def zpZ {op:CmpOp}{r:R2}{F:D->D->Option D}(ho:OpR X (cOp op) r)(im:Im2 X.K r F)(ha:VX X a fa)(hb:VX X b fb)(hm:behindInMarks op b=false):VX X (.Compare a [op] [b] pos) (x2 F fa fb):=by
 obtain⟨ta,pa,ga⟩:=ha;obtain⟨tb,pb,gb⟩:=hb;exact⟨_,ziS ho pa pb hm,zjr im ga gb⟩
def axNil:FAX:=λZ=>some ([],Z)
def axCons (f:FX)(g:FAX):FAX:=λZ=>(f Z).bind λq=>(g q.2).bind λr=>some (q.1::r.1,r.2)
def zd3:VAX X [] axNil:=⟨_,zcL,λHz Jz O Z Y H J ds Z' Q s e w=>by cases e;exact w [] H J s Keep.refl .nil⟩
def za4 (ha:VX X e fa)(hr:VAX X es fl)(hs:sE (e::es) X.env=(false,eval e X.env)::sE es X.env:=by rfl):VAX X (e::es) (axCons fa fl):=by
 obtain⟨t,p,g⟩:=ha;obtain⟨t2,p2,g2⟩:=hr;refine⟨_,za2 p p2 hs,?_⟩;intro Hz Jz O Z Y H J ds Z' Q s e w;obtain⟨⟨x,Z1⟩,ex,e⟩:=bS e;obtain⟨⟨xs,Z2⟩,exs,e⟩:=bS e;cases e;refine g Hz Jz O Z Y H J x _ _ s ex λv1 H1 J1 s1 k1 r1=>?_
 refine g2 Hz Jz O Z1 Y H1 J1 xs _ _ s1 exs λvs H2 J2 s2 k2 r2=>?_
 exact w _ H2 J2 s2 (k1.trans k2) (.cons (r1.keep k2) r2)
def xTup (f:FAX):FX:=λZ=>(f Z).bind λq=>(mkT q.1).bind λd=>some (d,q.2)
def zp0 {x1}(h:VAX X es fl):VX X (.Tuple es x1 pos) (xTup fl):=by
 obtain⟨t,p,g⟩:=h;refine⟨_,zmk p,?_⟩;intro Hz Jz O Z Y H J d Z' Q s e w;obtain⟨⟨xs,Z1⟩,exs,e⟩:=bS e;obtain⟨d',ed,e⟩:=bS e;cases e;obtain⟨hl,rfl⟩:=zeZ ed;refine g Hz Jz O Z Y H J xs _ _ s exs λvs H1 J1 s1 k1 r1=>⟨by rw[r1.length];exact zbJ hl,λp hp=>?_⟩
 have un:=Up.new s1.ja hp (.tup vs)
 exact w _ _ _ (s1.up un) (k1.trans un.keep) (.tup (SqT.of zae) (r1.keep un.keep))
def xLst (f:FAX):FR:=λZ=>(f Z).bind λq=>if q.1.length<=lim then some (.new 1 (.lst q.1),q.2) else none
def zp1 (h:VAX X es fl):VR X (.List es pos) (xLst fl):=by
 obtain⟨t,p,g⟩:=h;refine⟨_,zml p,?_⟩;intro Hz Jz O Z Y H J d Z' Q s e w;obtain⟨⟨xs,Z1⟩,exs,e⟩:=bS e;by_cases hl:xs.length<=lim
 .have e:(if xs.length<=lim then some (RV.new 1 (.lst xs),Z1) else none)=some (d,Z'):=e
  rw[if_pos hl] at e;cases e;refine g Hz Jz O Z Y H J xs _ _ s exs λvs H1 J1 s1 k1 r1=>⟨by rw[r1.length];exact zbJ hl,λp hp=>?_⟩
  have un:=Up.new s1.ja hp (.lst vs)
  exact w _ _ _ (s1.up un) (k1.trans un.keep) (zlk s1 un hp (λj=>s1.ja p j hp) zae (r1.keep un.keep))
 .have e:(if xs.length<=lim then some (RV.new 1 (.lst xs),Z1) else none)=some (d,Z'):=e
  rw[if_neg hl] at e;cases e
def zp2 (ha:VX X a fa)(hb:VX X b fb)(hs:zdo b:=by exact λ_ _=>rfl):VX X (.Subscript a b pos) (x2 dIx fa fb):=by
 obtain⟨ta,pa,ga⟩:=ha;obtain⟨tb,pb,gb⟩:=hb;exact⟨_,zi0 zhb pa pb hs,zjr zpP ga gb⟩
def x1 (F:D->Option D)(f:FX):FX:=λZ=>(f Z).bind λq=>(F q.1).bind λd=>some (d,q.2)
def xCall (F:List D->Option D)(f:FAX):FX:=λZ=>(f Z).bind λq=>(F q.1).bind λd=>some (d,q.2)
def znH {k k':Nat}{x:Str}{ps:List Str}{F:List D->Option D}(C:Cal X.prog X.w X.K X.mg X.base k x ps (spF X.K F))(hr:Room k' X.A)(ha:VAX X (e::es) fl)(hk:k<=k':=by decide)(hg:Gl X x:=by rfl)(hdb:(x == ("__debug__":Str))=false:=by decide)
 (he:sE (e::es) X.env=(false,eval e X.env)::sE es X.env:=by rfl) (hpl:(backTo pos (sE es X.env)).any (·.1)=false:=by rfl):VX X (.Call (.Name x p) (e::es) [] pos) (xCall F fl):=by
 obtain⟨t,p,g⟩:=ha;refine⟨_,pc C hr p hk hg hdb he hpl,?_⟩;intro Hz Jz O Z Y H J d Z' Q s e w;obtain⟨⟨ds,Z1⟩,e1,e⟩:=bS e;obtain⟨y,e2,e⟩:=bS e;cases e;refine g Hz Jz O Z Y H J ds _ _ s e1 λvs H1 J1 s1 k1 r1=>?_
 refine⟨J1,ds,d,s1.ja,by rw[waJ];exact r1,e2,λv H2 J2 u2 r2=>w v H2 J2 (s1.up u2) (k1.trans u2.keep) r2⟩
theorem RpWL.of {H:Hp}{J:Addr->Prop}:∀{vs:List V}{ds:List D},RpL K H J vs ds->RpWL K H J vs ds
|_,_,.nil=>trivial
|_,_,.cons h t=>⟨.inl h,RpWL.of t⟩
def zp3 {r:List V->Hp->VK->Prop}{F:List D->Option D}{t:TA}(im:ImC K r F)(g:GoAX K t fl):GoX K (tCB r t) (xCall F fl):=by
 intro Hz Jz O Z Y H J d Z' Q s e w;obtain⟨⟨ds,Z1⟩,e1,e⟩:=bS e;obtain⟨y,e2,e⟩:=bS e;cases e;refine g Hz Jz O Z Y H J ds _ _ s e1 λvs H1 J1 s1 k1 r1=>?_
 exact im H1 J1 vs ds d Q s1.ja (.of r1) e2 λv H2 J2 u2 r2=>w v H2 J2 (s1.up u2) (k1.trans u2.keep) r2
def zrS {T:String}{x:Str}{r:List V->Hp->VK->Prop}{F:List D->Option D}(hc:zci X (.type T) r)(im:ImC X.K r F)(B:Blt X.mg)(hv:bBs x=some (.type T))(ha:VAX X (e::es) fl)(hB:x∈zbt:=by decide +kernel)(hg:Gl X x:=by rfl)(hn:x≠"__name__":=by decide)(hdb:(x == ("__debug__":Str))=false:=by decide)
 (he:sE (e::es) X.env=(false,eval e X.env)::sE es X.env:=by rfl) (hpl:(backTo pos (sE es X.env)).any (·.1)=false:=by rfl):VX X (.Call (.Name x p) (e::es) [] pos) (xCall F fl):=by
 obtain⟨t,p,g⟩:=ha;exact⟨_,pty hc B hv p hB hg hn hdb he hpl,zp3 im g⟩
end
section
variable {X:Cx}{K:Fg}{H H' H1 H2 Hz:Hp}{J J' J1 J2 Jz:Addr->Prop}{Z Z':En}{Y:L2.St}{O:Pr}
def ST.chgsG {fp fp':Nat->List Addr}{is:Nat->Bool}(s:ST K Hz Jz O Z Y H J)(w:Ow K Hz O Z Y H J fp)(hl:Z'.length=Z.length)(h1:∀j,is j=false->Z'[j]?=Z[j]?/\fp' j=fp j)
 (h2:∀i,is i=true->∃n d d' v,ownD (Z[i]?)=some (n,d)/\Z'[i]?=some (putD (Z[i]?) d')/\Y[i]?=some (some v)/\RpU K H' J' n v d' (fp' i)/\∀b∈fp' i,b∈fp i\/(Hz b=none/\∀j,b∉fp j))
 (nd:∀i,is i=true->(fp' i).Nodup) (nj:∀i,is i=true->∀b∈fp' i,¬J' b) (dj:∀i j,is i=true->is j=true->i≠j->∀b∈fp' i,b∉fp' j)
 (hs:∀b o,(∀i,is i=true->b∉fp i)->H b=some o->H' b=some o) (ha:∀b,H b≠none->H' b≠none) (jj:∀a,J a->J' a) (jn:∀a,J' a->J a\/H a=none) (ja:∀a,J' a->H' a≠none) :
 ST K Hz Jz O Z' Y H' J'/\Ow K Hz O Z' Y H' J' fp'/\Keep K H J H' J':=by
 have free:∀b,H b=none->Hz b=none:=λb hb=>by
  cases e:Hz b with
 |none=>rfl
 |some o=>exact absurd hb (s.al b (by rw[e];simp))
 have kp:Keep K H J H' J':=⟨jj,λp o j h=>hs p o (λi _ hp=>w.nj i p hp j) h,λp vs h=>by
  have ne:∀o,H p=some o->¬MutO o->∀i,is i=true->p∉fp i:=λo ho nm i _ hp=>by
   obtain⟨o',e,m⟩:=(w.at' i).ru p hp;rw[ho] at e;cases e;exact nm m
  rcases h with(h|⟨u,h⟩)|h
  .exact .inl (.inl (hs p _ (ne _ h (λz=>z)) h))
  .exact .inl (.inr ⟨u,hs p _ (ne _ h (λz=>z)) h⟩)
  .exact .inr h⟩
 have slot:∀i,is i=true->∀b∈fp i,Hz b=none\/b∈O.fpo i:=λi hi b hb=>by
  obtain⟨n,d,d',v,e1,_⟩:=h2 i hi;have q:=w.at' i
  match z:Z[i]?,e1,q with
 |some (.own m e),_,q=>exact .inl (q.2 b hb)
 |some (.par m e),_,q=>exact q.2 b hb
 have ow':Ow K Hz O Z' Y H' J' fp':=by
  refine⟨λi=>?_,λi=>?_,λi b hb=>?_,λi j ne b hb hb2=>?_⟩
  .cases hi:is i with
  |false=>
     rw[(h1 i hi).1,(h1 i hi).2];exact(w.at' i).keep kp λb hb o ho=>hs b o (λj hj hb2=>w.dj i j (λz=>by subst z;rw[hi] at hj;cases hj) b hb hb2) ho
  |true=>
     obtain⟨n,d,d',v,e1,e2,e3,e4,e5⟩:=h2 i hi;rw[e2];have q:=w.at' i
     match z:Z[i]?,e1,q with
    |some (.own m e),e1,q=>
       cases e1;refine⟨⟨v,e3,e4⟩,λb hb=>?_⟩;rcases e5 b hb with hb|hb
       .exact q.2 b hb
       .exact hb.1
    |some (.par m e),e1,q=>
       cases e1;refine⟨⟨v,e3,e4⟩,λb hb=>?_⟩;rcases e5 b hb with hb|hb
       .exact q.2 b hb
       .exact .inl hb.1
  .cases hi:is i with
  |false=>rw[(h1 i hi).2];exact w.nd i
  |true=>exact nd i hi
  .cases hi:is i with
  |false=>
     rw[(h1 i hi).2] at hb;intro jb;rcases jn b jb with jb|jb
     .exact w.nj i b hb jb
     .obtain⟨o,e,_⟩:=(w.at' i).ru b hb;rw[e] at jb;cases jb
  |true=>exact nj i hi b hb
  .have cross:∀i j,i≠j->is i=true->is j=false->b∈fp' i->b∈fp' j->False:=λi j ne hi hj hb hb2=>by
    rw[(h1 j hj).2] at hb2;obtain⟨_,_,_,_,_,_,_,_,e5⟩:=h2 i hi;rcases e5 b hb with h|h
    .exact w.dj i j ne b h hb2
    .exact h.2 j hb2
   cases hi:is i with
  |true=>
     cases hj:is j with
    |true=>exact dj i j hi hj ne b hb hb2
    |false=>exact cross i j ne hi hj hb hb2
  |false=>
     cases hj:is j with
    |true=>exact cross j i (Ne.symm ne) hj hi hb2 hb
    |false=>
       rw[(h1 i hi).2] at hb;rw[(h1 j hj).2] at hb2;exact w.dj i j ne b hb hb2
 refine⟨⟨λb o hb h=>hs b o (λi hi hb2=>?_) (s.same b o hb h),λa h=>jj a (s.j0 a h),λa h=>?_,ja,by rw[hl];exact s.len,λj e h=>?_,⟨fp',ow'⟩,λq hq=>?_,λb h=>ha b (s.al b h)⟩,ow',kp⟩
 .rcases slot i hi b hb2 with h2|h2
  .rw[h2] at h;cases h
  .exact hb ⟨i,h2⟩
 .rcases jn a h with h|h
  .exact s.jn a h
  .exact .inr (free a h)
 .cases hj:is j with
 |false=>
    rw[(h1 j hj).1] at h;obtain⟨v,e1,r1⟩:=s.vl j e h;exact⟨v,e1,r1.keep kp⟩
 |true=>
    obtain⟨n,d,d',v,e1,e2,_⟩:=h2 j hj;rw[e2] at h;match z:Z[j]?,e1 with
   |some (.own m e),_=>rw[z] at h;cases h
   |some (.par m e),_=>rw[z] at h;cases h
 .obtain⟨e1,d,h⟩:=s.ps q hq;refine⟨e1,?_⟩;cases hj:is q.1 with
 |false=>rw[(h1 _ hj).1];exact⟨d,h⟩
 |true=>
    obtain⟨n,d0,d',v,_,e2,_⟩:=h2 _ hj;rw[e2,h];exact⟨d',rfl⟩
def ST.chgs {fp fp':Nat->List Addr}{is:Nat->Bool}(s:ST K Hz Jz O Z Y H J)(w:Ow K Hz O Z Y H J fp)(hl:Z'.length=Z.length)(h1:∀j,is j=false->Z'[j]?=Z[j]?/\fp' j=fp j)
 (h2:∀i,is i=true->∃n d d' v,ownD (Z[i]?)=some (n,d)/\Z'[i]?=some (putD (Z[i]?) d')/\Y[i]?=some (some v)/\RpU K H' J' n v d' (fp' i)/\∀b∈fp' i,b∈fp i\/H b=none)
 (nd:∀i,is i=true->(fp' i).Nodup) (nj:∀i,is i=true->∀b∈fp' i,¬J' b) (dj:∀i j,is i=true->is j=true->i≠j->∀b∈fp' i,b∉fp' j)
 (hs:∀b o,(∀i,is i=true->b∉fp i)->H b=some o->H' b=some o) (ha:∀b,H b≠none->H' b≠none) (jj:∀a,J a->J' a) (jn:∀a,J' a->J a\/H a=none) (ja:∀a,J' a->H' a≠none) :
 ST K Hz Jz O Z' Y H' J'/\Ow K Hz O Z' Y H' J' fp'/\Keep K H J H' J':=by
 refine s.chgsG w hl h1 (λi hi=>?_) nd nj dj hs ha jj jn ja;obtain⟨n,d,d',v,e1,e2,e3,e4,e5⟩:=h2 i hi;refine⟨n,d,d',v,e1,e2,e3,e4,λb hb=>?_⟩;rcases e5 b hb with h|h
 .exact .inl h
 .right
  refine⟨?_,λj hj=>?_⟩
  .cases e:Hz b with
  |none=>rfl
  |some o=>exact absurd h (s.al b (by rw[e];simp))
  .obtain⟨o,e,_⟩:=(w.at' j).ru b hj;rw[h] at e;cases e
def zrT (K:Fg)(H:Hp)(J:Addr->Prop)(k:Option (Option Nat))(v:Option V)(d:Option D)(A:List Addr):Prop:=match k with
|some none=>∃u e,v=some u/\d=some e/\Rp K H J u e/\A = []
|some (some n)=>∃a e,v=some (.ref a)/\d=some e/\RpU K H J n (.ref a) e A
|none=>A = []
structure ArgsG (K:Fg)(H:Hp)(J:Addr->Prop)(ks:List (Option Nat))(vs:List V)(ds:List D)(fp:Nat->List Addr):Prop where
 l1:vs.length=ks.length
 l2:ds.length=ks.length
 at':∀i,zrT K H J (ks[i]?) (vs[i]?) (ds[i]?) (fp i)
 nd:∀i,(fp i).Nodup
 nj:∀i,∀b∈fp i,¬J b
 dj:∀i j,i≠j->∀b∈fp i,b∉fp j
def ResG (K:Fg)(H:Hp)(H':Hp)(J':Addr->Prop)(fp':Nat->List Addr)(v:V):RV->Prop
|.told d=>Rp K H' J' v d
|.new n d=>∃A,RpU K H' J' n v d A/\A.Nodup/\(∀b∈A,¬J' b/\H b=none)/\∀i:Nat,∀b∈A,b∉fp' i
structure PostG (K:Fg)(H:Hp)(J:Addr->Prop)(ks:List (Option Nat))(vs:List V)(fp:Nat->List Addr)(r:RV)(es:List D)(v:V)(H':Hp)(J':Addr->Prop)(fp':Nat->List Addr):Prop where
 hs:∀b o,(∀i,b∉fp i)->H b=some o->H' b=some o
 al:∀b,H b≠none->H' b≠none
 jj:∀a,J a->J' a
 jn:∀a,J' a->J a\/H a=none
 ja:∀a,J' a->H' a≠none
 own:∀i n,ks[i]?=some (some n)->∃a e,vs[i]?=some (.ref a)/\es[i]?=some e/\RpU K H' J' n (.ref a) e (fp' i)/\∀b∈fp' i,b∈fp i\/H b=none
 nd:∀i,(fp' i).Nodup
 nj:∀i,∀b∈fp' i,¬J' b
 dj:∀i j,i≠j->∀b∈fp' i,b∉fp' j
 res:ResG K H H' J' fp' v r
def spG (K:Fg)(ks:List (Option Nat))(F:List D->Option (RV×List D)):Sp:=λvs H Q _=>∃J ds r es fp,(∀a,J a->H a≠none)/\ArgsG K H J ks vs ds fp/\F ds=some (r,es)/\∀v H' J' fp',PostG K H J ks vs fp r es v H' J' fp'->Q v H'
def inSl:List (Option Nat)->List D->En
|none::ks,d::ds=>.val d::inSl ks ds
|some n::ks,d::ds=>.par n d::inSl ks ds
|_,_=>[]
def slOf:Option (Option Nat)->Option D->Option SV
|some none,some d=>some (.val d)
|some (some n),some d=>some (.par n d)
|_,_=>none
theorem ze4:∀(ks:List (Option Nat)) (ds:List D) (i:Nat),ks.length=ds.length->(inSl ks ds)[i]?=slOf (ks[i]?) (ds[i]?)
|[],[],i,_=>by simp[inSl,slOf]
|none::ks,d::ds,0,_=>by simp[inSl,slOf]
|some n::ks,d::ds,0,_=>by simp[inSl,slOf]
|none::ks,d::ds,i+1,h=>by simpa[inSl] using ze4 ks ds i (by simpa using h)
|some n::ks,d::ds,i+1,h=>by simpa[inSl] using ze4 ks ds i (by simpa using h)
|[],_::_,_,h=>by simp at h
|_::_,[],_,h=>by simp at h
theorem zc4:∀(ks:List (Option Nat)) (ds:List D),ks.length=ds.length->(inSl ks ds).length=ks.length
|[],[],_=>rfl
|none::ks,d::ds,h=>by simp[inSl,zc4 ks ds (by simpa using h)]
|some n::ks,d::ds,h=>by simp[inSl,zc4 ks ds (by simpa using h)]
|[],_::_,h=>by simp at h
|_::_,[],h=>by simp at h
def outSl:List (Option Nat)->En->Option (List D)
|[],_=>some []
|none::ks,_::Z=>(outSl ks Z).bind λes=>some (.non::es)
|some _::ks,.par _ d::Z=>(outSl ks Z).bind λes=>some (d::es)
|_,_=>none
theorem zd4:∀{ks:List (Option Nat)}{Z:En}{es:List D}{i n:Nat}{m:Nat}{d:D},outSl ks Z=some es->ks[i]?=some (some n)->Z[i]?=some (.par m d)->es[i]?=some d
|[],_,_,_,_,_,_,_,h,_=>by simp at h
|none::ks,x::Z,es,i,n,m,d,e,h1,h2=>by
   obtain⟨es',e1,e⟩:=bS (show((outSl ks Z).bind λes=>some (D.non::es))=some es from e);cases e;match i,h1,h2 with
  |0,h1,_=>simp at h1
  |i+1,h1,h2=>simpa using zd4 (n:=n) (m:=m) e1 (by simpa using h1) (by simpa using h2)
|some k::ks,.par m' d'::Z,es,i,n,m,d,e,h1,h2=>by
   obtain⟨es',e1,e⟩:=bS (show((outSl ks Z).bind λes=>some (d'::es))=some es from e);cases e;match i,h1,h2 with
  |0,h1,h2=>simp at h2;simp[h2.2]
  |i+1,h1,h2=>simpa using zd4 (n:=n) (m:=m) e1 (by simpa using h1) (by simpa using h2)
def psAt (i:Nat):Option (Option Nat)->Option V->Option (Nat×Addr×Nat)
|some (some n),some (.ref a)=>some (i,a,n)
|_,_=>none
def psOf (ks:List (Option Nat))(vs:List V):List (Nat×Addr×Nat):=(List.range ks.length).filterMap λi=>psAt i (ks[i]?) (vs[i]?)
def mem_psOf {ks:List (Option Nat)}{vs:List V}{q:Nat×Addr×Nat}:q∈psOf ks vs↔ks[q.1]?=some (some q.2.2)/\vs[q.1]?=some (.ref q.2.1):=by
 unfold psOf;rw[wbu];constructor
 .rintro⟨i,_,h⟩;unfold psAt at h;split at h
  .rename_i n a h1 h2;cases h;exact⟨h1,h2⟩
  .cases h
 .rintro⟨h1,h2⟩;refine⟨q.1,wbI.mpr (wab.mp h1).1,?_⟩;rw[h1,h2];rfl
def zfL {N:List Str}{ks:List (Option Nat)}{vs:List V}{ds:List D}{fp:Nat->List Addr}(ja:∀a,J a->H a≠none)(r:ArgsG K H J ks vs ds fp) :
 ST K H J ⟨psOf ks vs,fp⟩ (inSl ks ds++rpl (N.length - ks.length) .un) (start N vs) H J:=by
 have get:∀i:Nat,(inSl ks ds++rpl (N.length - ks.length) SV.un)[i]?=slOf (ks[i]?) (ds[i]?)\/(ks[i]?=none/\((inSl ks ds++rpl (N.length - ks.length) SV.un)[i]?=some SV.un\/(inSl ks ds++rpl (N.length - ks.length) SV.un)[i]?=none)):=λi=>by
  by_cases hi:i<ks.length
  .left
   rw[waK (by rw[zc4 ks ds r.l2.symm];exact hi),ze4 ks ds i r.l2.symm]
  .right
   refine⟨waS (by omega),?_⟩;rw[waI (by rw[zc4 ks ds r.l2.symm];omega),List.getElem?_replicate];split
   .exact .inl rfl
   .exact .inr rfl
 have sg:∀(i:Nat) (v:V),vs[i]?=some v->(start N vs)[i]?=some (some v):=λi v h=>by
  unfold L2.start;rw[waK (by simp;exact(wab.mp h).1),wah,h];rfl
 refine⟨λ_ _ _ h=>h,λ_ h=>h,λ_ h=>.inl h,ja,by simp[L2.start,r.l1,zc4 ks ds r.l2.symm],λi d h=>?_,⟨fp,λi=>?_,r.nd,r.nj,r.dj⟩,λq hq=>?_,λ_ h=>h⟩
 .have q:=r.at' i
  rcases get i with e|⟨_,e|e⟩
  .rw[e] at h;match z:ks[i]?,y:ds[i]?,h,q with
  |some none,some e',h,q=>
     cases h;obtain⟨u,e,h1,h2,h3,_⟩:=q;cases h2;exact⟨u,sg i u h1,h3⟩
  .rw[e] at h;cases h
  .rw[e] at h;cases h
 .have q:=r.at' i
  rcases get i with e|⟨e0,e|e⟩
  .rw[e];match z:ks[i]?,y:ds[i]?,q with
  |some none,some e',q=>obtain⟨_,_,_,_,_,h⟩:=q;exact h
  |some (some n),some e',q=>
     obtain⟨a,e,h1,h2,h3⟩:=q;cases h2;exact⟨⟨_,sg i _ h1,h3⟩,λb hb=>.inr hb⟩
  |none,_,q=>exact q
  |some none,none,q=>obtain⟨_,_,_,h,_⟩:=q;cases h
  |some (some n),none,q=>obtain⟨_,_,_,h,_⟩:=q;cases h
  .rw[e];rw[e0] at q;exact q
  .rw[e];rw[e0] at q;exact q
 .obtain⟨h1,h2⟩:=mem_psOf.mp hq;refine⟨sg _ _ h2,?_⟩;have q':=r.at' q.1
  rw[h1] at q';obtain⟨a,e,_,h3,_⟩:=q';rcases get q.1 with g|⟨g,_⟩
  .rw[g,h1,h3];exact⟨e,rfl⟩
  .rw[h1] at g;cases g
end
section
variable {P:Pm}{w:World}{K:Fg}{mg:Str->Option Vl}{base:Heap}
def zll {ks:List (Option Nat)}{vs:List V}{ds:List D}{es:List D}{fp:Nat->List Addr}{r:RV}{H H':Hp}{J J':Addr->Prop}{Z:En}{Y:L2.St}{v:V}(A:ArgsG K H J ks vs ds fp)(s:ST K H J ⟨psOf ks vs,fp⟩ Z Y H' J')
 (q:RtAt K H ⟨psOf ks vs,fp⟩ Z Y H' J' v r) (e:outSl ks Z=some es):∃fp',PostG K H J ks vs fp r es v H' J' fp':=by
 have main:∀fp',Ow K H ⟨psOf ks vs,fp⟩ Z Y H' J' fp'->ResG K H H' J' fp' v r->PostG K H J ks vs fp r es v H' J' fp':=λfp' w hr=>
  ⟨λb o hb h=>s.same b o (λ⟨i,hi⟩=>hb i hi) h,s.al,s.j0,s.jn,s.ja,λi n hk=>by
   have qa:=A.at' i
   rw[hk] at qa;obtain⟨a,e0,h1,_,_⟩:=qa;obtain⟨h2,d,h3⟩:=s.ps (i,a,n) (mem_psOf.mpr ⟨hk,h1⟩);have h2:Y[i]?=some (some (.ref a)):=h2
   have h3:Z[i]?=some (.par n d):=h3
   have o:=w.at' i
   rw[h3] at o;obtain⟨⟨v',e1,ru⟩,hb⟩:=o;rw[h2] at e1;cases e1;exact⟨a,d,h1,zd4 e hk h3,ru,λb hb'=>(hb b hb').symm⟩,w.nd,w.nj,w.dj,hr⟩
 cases r with
|told d=>
   obtain⟨fp',w⟩:=s.ow;exact⟨fp',main fp' w q⟩
|new n d=>
   obtain⟨B,fp',w,ru,nd,hb,dj⟩:=q;exact⟨fp',main fp' w ⟨B,ru,nd,hb,dj⟩⟩
end
def RpU.isRef {K:Fg}{H:Hp}{J:Addr->Prop}{n:Nat}{v:V}{d:D}{A:List Addr}(h:RpU K H J (n+1) v d A):∃a,v=.ref a:=by
 cases h <;> exact⟨_,rfl⟩
abbrev FAG:=En->Option (List (Option D)×En)
def ArgV (K:Fg)(H:Hp)(J:Addr->Prop)(u:Option (Option V)):List V->List (Option D)->Prop
|[],[]=>True
|v::vs,none::as=>u=some (some v)/\ArgV K H J u vs as
|v::vs,some d::as=>Rp K H J v d/\ArgV K H J u vs as
|_,_=>False
def GoAG (K:Fg)(i:Nat)(t:TA)(f:FAG):Prop:=∀Hz Jz O Z Y H J as Z' Q,ST K Hz Jz O Z Y H J->f Z=some (as,Z')->(∀vs H' J',ST K Hz Jz O Z' Y H' J'->Keep K H J H' J'->ArgV K H' J' (Y[i]?) vs as->Q vs H')->t Y H Q
def VAG (X:Cx)(i:Nat)(es:List Expr)(f:FAG):Prop:=∃t,PA X es t/\GoAG X.K i t f
theorem ArgV.keep {K:Fg}{H H':Hp}{J J':Addr->Prop}{u:Option (Option V)}(k:Keep K H J H' J'):∀{vs:List V}{as:List (Option D)},ArgV K H J u vs as->ArgV K H' J' u vs as
|[],[],_=>trivial
|v::vs,none::as,h=>⟨h.1,ArgV.keep k h.2⟩
|v::vs,some d::as,h=>⟨h.1.keep k,ArgV.keep k h.2⟩
|[],_::_,h=>h.elim
|_::_,[],h=>h.elim
theorem ArgV.length {K:Fg}{H:Hp}{J:Addr->Prop}{u:Option (Option V)}:∀{vs:List V}{as:List (Option D)},ArgV K H J u vs as->vs.length=as.length
|[],[],_=>rfl
|v::vs,none::as,h=>by simp[ArgV.length h.2]
|v::vs,some d::as,h=>by simp[ArgV.length h.2]
|[],_::_,h=>h.elim
|_::_,[],h=>h.elim
theorem ArgV.get {K:Fg}{H:Hp}{J:Addr->Prop}{u:Option (Option V)}:∀{vs:List V}{as:List (Option D)}{j:Nat}{o:Option D},ArgV K H J u vs as->as[j]?=some o->∃v,vs[j]?=some v/\match o with|none=>u=some (some v)|some d=>Rp K H J v d
|[],[],_,_,_,e=>by simp at e
|v::vs,none::as,0,o,h,e=>by simp at e;subst e;exact⟨v,rfl,h.1⟩
|v::vs,some d::as,0,o,h,e=>by simp at e;subst e;exact⟨v,rfl,h.1⟩
|v::vs,none::as,j+1,o,h,e=>by simpa using ArgV.get (j:=j) (o:=o) h.2 (by simpa using e)
|v::vs,some d::as,j+1,o,h,e=>by simpa using ArgV.get (j:=j) (o:=o) h.2 (by simpa using e)
|[],_::_,_,_,h,_=>h.elim
|_::_,[],_,_,h,_=>h.elim
section
variable {X:Cx}{K:Fg}{e:Expr}{es:List Expr}{fa:FX}{fl:FAG}{pos p:Pos}{i:Nat}
def agNil:FAG:=λZ=>some ([],Z)
def agOwn (i:Nat)(f:FAG):FAG:=λZ=>if(ownD (Z[i]?)).isSome=true then(f Z).bind λq=>some (none::q.1,q.2) else none
def agX (g:FX)(f:FAG):FAG:=λZ=>(g Z).bind λq=>(f q.2).bind λr=>some (some q.1::r.1,r.2)
def zb4:VAG X i [] agNil:=⟨_,zcL,λHz Jz O Z Y H J ds Z' Q s e w=>by cases e;exact w [] H J s Keep.refl trivial⟩
def ze5 (ha:VX X e fa)(hr:VAG X i es fl)(hs:sE (e::es) X.env=(false,eval e X.env)::sE es X.env:=by rfl):VAG X i (e::es) (agX fa fl):=by
 obtain⟨t,p,g⟩:=ha;obtain⟨t2,p2,g2⟩:=hr;refine⟨_,za2 p p2 hs,?_⟩;intro Hz Jz O Z Y H J ds Z' Q s e w;obtain⟨⟨x,Z1⟩,ex,e⟩:=bS e;obtain⟨⟨xs,Z2⟩,exs,e⟩:=bS e;cases e;refine g Hz Jz O Z Y H J x _ _ s ex λv1 H1 J1 s1 k1 r1=>?_
 refine g2 Hz Jz O Z1 Y H1 J1 xs _ _ s1 exs λvs H2 J2 s2 k2 r2=>?_
 exact w _ H2 J2 s2 (k1.trans k2) ⟨r1.keep k2,r2⟩
def zb5 {x:Str}(hr:VAG X i es fl)(hN:X.N[i]?=some x:=by rfl)(hv:Vis X.env.scope x:=by first|exact Or.inl rfl|exact Or.inr (Or.inl rfl)|exact Or.inr (Or.inr rfl))(hd:(x == ("__debug__":Str))=false:=by decide)(hcd:(x == ("__classdict__":Str))=false:=by decide)
 (hs:sE (.Name x p::es) X.env=(false,eval (.Name x p) X.env)::sE es X.env:=by rfl):VAG X i (.Name x p::es) (agOwn i fl):=by
 obtain⟨t2,p2,g2⟩:=hr;refine⟨_,za2 (zcl hN hv hd hcd) p2 hs,?_⟩;intro Hz Jz O Z Y H J ds Z' Q s e w;unfold agOwn at e;by_cases ho:(ownD (Z[i]?)).isSome=true
 .rw[if_pos ho] at e;obtain⟨⟨xs,Z2⟩,exs,e⟩:=bS e;cases e;obtain⟨⟨n,d⟩,hq⟩:=Option.isSome_iff_exists.mp ho;obtain⟨v,A,hv,_⟩:=s.rd hq;refine⟨v,hv,?_⟩;refine g2 Hz Jz O Z Y H J xs _ _ s exs λvs H2 J2 s2 k2 r2=>?_
  exact w _ H2 J2 s2 k2 ⟨hv,r2⟩
 .rw[if_neg ho] at e;cases e
def agK (n:Nat):Option D->Option Nat
|none=>some n
|some _=>none
def xCallG (ks:List (Option Nat))(p i n:Nat)(F:List D->Option (RV×List D))(f:FAG):FR:=λZ=>(f Z).bind λq=>
 if q.1.map (agK n)=ks then match ownD (q.2[i]?) with
 |some (m,d)=>if m=n then(F (q.1.map λo=>o.getD d)).bind λr=>(r.2[p]?).bind λe=>some (r.1,setO q.2 i e) else none
 |none=>none
 else none
def zgE {Z:En}{i j:Nat}{d:D}(h:j≠i):(setO Z i d)[j]?=Z[j]?:=by
 unfold setO;exact wai (Ne.symm h)
def zlm {ks:List (Option Nat)}{q n:Nat}{F:List D->Option (RV×List D)}{t:TA}(hp:ks[q]?=some (some n))(h1:∀(j m:Nat),ks[j]?=some (some m)->j=q)(hn:n≠0)(g:GoAG K i t fl)(E:XK):GoR K (zhX (spG K ks F) [] E t) (xCallG ks q i n F fl):=by
 intro Hz Jz O Z Y H J r Z' Q s e w;obtain⟨⟨as,Z1⟩,e1,e⟩:=bS e;have eA:(if as.map (agK n)=ks then match ownD (Z1[i]?) with
 |some (m,d)=>if m=n then(F (as.map λo=>o.getD d)).bind λr=>(r.2[q]?).bind λe=>some (r.1,setO Z1 i e) else none
 |none=>none
 else none)=some (r,Z'):=e
 by_cases hk:as.map (agK n)=ks
 .rw[if_pos hk] at eA;cases ho:ownD (Z1[i]?) with
 |none=>rw[ho] at eA;cases eA
 |some md=>
    obtain⟨m,d⟩:=md;rw[ho] at eA;have eB:(if m=n then(F (as.map λo=>o.getD d)).bind λr=>(r.2[q]?).bind λe=>some (r.1,setO Z1 i e) else none)=some (r,Z'):=eA
    by_cases hm:m=n
    .rw[if_pos hm] at eB;subst hm;obtain⟨⟨r',es⟩,e2,eC⟩:=bS eB;obtain⟨d',e3,eD⟩:=bS eC;cases eD;refine g Hz Jz O Z Y H J as Z1 _ s e1 λvs H1 J1 s1 k1 r1=>?_
     obtain⟨fp,ow⟩:=s1.ow;have hi:i<Z1.length:=by
      by_cases hi:i<Z1.length
      .exact hi
      .rw[waS (by omega)] at ho;cases ho
     have hat:∃v,Y[i]?=some (some v)/\RpU K H1 J1 m v d (fp i):=by
      have o:=ow.at' i
      match z:Z1[i]?,ho,o with
     |some (.own _ _),ho,o=>cases ho;exact o.1
     |some (.par _ _),ho,o=>cases ho;exact o.1
     obtain⟨v,hv,ru⟩:=hat
     have asq:as[q]?=some none:=by
      have:=hp
      rw[<-hk,wah] at this;cases z:as[q]? with
     |none=>rw[z] at this;cases this
     |some o=>rw[z] at this;cases o with
       |none=>rfl
       |some _=>simp[agK] at this
     have mpos:∃a,v=.ref a:=by
      cases m with
     |zero=>exact absurd rfl hn
     |succ m=>exact ru.isRef
     obtain⟨a,rfl⟩:=mpos;have vq:vs[q]?=some (.ref a):=by
      obtain⟨u,h1,h2⟩:=r1.get asq;have h2:Y[i]?=some (some u):=h2
      rw[hv] at h2;cases h2;exact h1
     have args:ArgsG K H1 J1 ks vs (as.map λo=>o.getD d) (λj=>if j=q then fp i else[]):=by
      refine⟨by rw[r1.length,<-hk,waf],by rw[waf,<-hk,waf],λj=>?_,λj=>?_,λj b hb=>?_,λj l ne b hb=>?_⟩
      .rw[<-hk,wah,wah];cases z:as[j]? with
      |none=>
         have:j≠q:=λh=>by rw[h,asq] at z;cases z
         show(if j=q then fp i else[]) = []
         rw[if_neg this]
      |some o=>
         cases o with
        |none=>
           have:j=q:=h1 j m (by rw[<-hk,wah,z];rfl)
           subst this;exact⟨a,d,vq,rfl,by rw[if_pos rfl];exact ru⟩
        |some x=>
           have:j≠q:=λh=>by rw[h,asq] at z;cases z
           obtain⟨u,h1,h2⟩:=r1.get z;exact⟨u,x,h1,rfl,h2,by rw[if_neg this]⟩
      .split
       .exact ow.nd i
       .exact wbb
      .split at hb
       .exact ow.nj i b hb
       .cases hb
      .split at hb
       .rename_i z
        rw[if_neg (λh=>ne (z.trans h.symm))];simp
       .cases hb
     refine⟨J1,_,r',es,_,s1.ja,by rw[waJ];exact args,e2,λv' H' J' fp' pg=>?_⟩;rw[waJ] at pg;obtain⟨a2,d2,h2,h3,ru2,hb2⟩:=pg.own q m hp;rw[vq] at h2;cases h2;rw[e3] at h3;cases h3;have hA:∀b:Addr,(∀j,b∉(if j=q then fp i else[]))↔b∉fp i:=λb=>by
      constructor
      .intro h;have:=h q;rwa [if_pos rfl] at this
      .intro h j;split
       .exact h
       .simp
     have key:=s1.chgs (Z':=setO Z1 i d') (fp':=zjh fp i (fp' q)) (is:=λj=>j == i) (H':=H') (J':=J') ow (by simp[setO]) (λj hj=>?_) (λj hj=>?_) (λj hj=>?_) (λj hj=>?_) (λj l hj hl ne=>?_) (λb o hb h=>pg.hs b o ((hA b).mpr (hb i (by simp))) h) pg.al pg.jj pg.jn pg.ja
     .obtain⟨s2,ow2,k2⟩:=key;refine w v' H' J' s2 (k1.trans k2) ?_;have res:=pg.res
      cases r' with
     |told d0=>exact res
     |new n0 d0=>
        obtain⟨B,ruB,ndB,hB,djB⟩:=res;refine⟨B,zjh fp i (fp' q),ow2,ruB,ndB,λb hb=>⟨(hB b hb).1,?_⟩,λj b hb=>?_⟩
        .cases z:Hz b with
        |none=>rfl
        |some o=>exact absurd (hB b hb).2 (s1.al b (by rw[z];simp))
        .by_cases hj:j=i
         .subst hj;rw[zbc];exact djB q b hb
         .rw[zbI hj];intro hb2;obtain⟨o,ho',_⟩:=(ow.at' j).ru b hb2;rw[(hB b hb).2] at ho';cases ho'
     .have hj':j≠i:=by simpa using hj
      exact⟨zgE hj',zbI hj'⟩
     .have hj':j=i:=by simpa using hj
      subst hj';refine⟨m,d,d',.ref a,ho,wau hi,hv,by rw[zbc];exact ru2,λb hb=>?_⟩;rw[zbc] at hb;have:=hb2 b hb
      rwa [if_pos rfl] at this
     .have hj':j=i:=by simpa using hj
      subst hj';rw[zbc];exact pg.nd q
     .have hj':j=i:=by simpa using hj
      subst hj';rw[zbc];exact pg.nj q
     .have hj':j=i:=by simpa using hj
      have hl':l=i:=by simpa using hl
      exact absurd (hj'.trans hl'.symm) ne
    .rw[if_neg hm] at eB;cases eB
 .rw[if_neg hk] at eA;cases eA
def zmA (ks:List (Option Nat))(q:Nat):Bool:=(List.range ks.length).all λj=>match ks[j]? with
|some (some _)=>j == q
|_=>true
def zjs {ks:List (Option Nat)}{q:Nat}(h:zmA ks q=true)(j m:Nat)(hj:ks[j]?=some (some m)):j=q:=by
 have:=waB.mp h j (wbI.mpr (wab.mp hj).1)
 rw[hj] at this;simpa using this
def zb6 (q i n:Nat){k k':Nat}{x:Str}{ps:List Str}{ks:List (Option Nat)}{F:List D->Option (RV×List D)}(C:Cal X.prog X.w X.K X.mg X.base k x ps (spG X.K ks F))(hr:Room k' X.A)(ha:VAG X i (e::es) fl)(hp:ks[q]?=some (some n):=by rfl)(ho:zmA ks q=true:=by decide)(hn:n≠0:=by decide)(hk:k<=k':=by decide)(hg:Gl X x:=by rfl)(hdb:(x == ("__debug__":Str))=false:=by decide)
 (he:sE (e::es) X.env=(false,eval e X.env)::sE es X.env:=by rfl) (hpl:(backTo pos (sE es X.env)).any (·.1)=false:=by rfl):VR X (.Call (.Name x p) (e::es) [] pos) (xCallG ks q i n F fl):=by
 obtain⟨t,p,g⟩:=ha;exact⟨_,pc C hr p hk hg hdb he hpl,zlm hp (zjs ho) hn g _⟩
def xCallN (ks:List (Option Nat))(F:List D->Option (RV×List D))(f:FAX):FR:=λZ=>(f Z).bind λq=>(F q.1).bind λr=>if q.1.length=ks.length then some (r.1,q.2) else none
def ArgsG.plain {H:Hp}{J:Addr->Prop}{vs:List V}{ds:List D}{ks:List (Option Nat)}(r:RpL K H J vs ds)(hk:ds.length=ks.length)(hn:ks.all (·.isNone)=true):ArgsG K H J ks vs ds (λ_=>[]):=by
 refine⟨by rw[r.length,hk],hk,λj=>?_,λ_=>wbb,λ_ b hb=>absurd hb (by simp),λ_ _ _ b hb=>absurd hb (by simp)⟩;cases z:ks[j]? with
|none=>rfl
|some o=>
   have:=waB.mp hn o (way z)
   cases o with
  |some _=>cases this
  |none=>
     have hj:j<ds.length:=by rw[hk];exact(wab.mp z).1
     obtain⟨v,hv,rv⟩:=r.get (wac hj);exact⟨v,ds[j],hv,wac hj,rv,rfl⟩
def zln {fl:FAX}{ks:List (Option Nat)}{F:List D->Option (RV×List D)}{t:TA}(hn:ks.all (·.isNone)=true)(g:GoAX K t fl)(E:XK):GoR K (zhX (spG K ks F) [] E t) (xCallN ks F fl):=by
 intro Hz Jz O Z Y H J r Z' Q s e w;obtain⟨⟨ds,Z1⟩,e1,eA⟩:=bS e;obtain⟨⟨r',es⟩,e2,eB⟩:=bS eA;have eB:(if ds.length=ks.length then some (r',Z1) else none)=some (r,Z'):=eB
 by_cases hl:ds.length=ks.length
 .rw[if_pos hl] at eB;cases eB;refine g Hz Jz O Z Y H J ds _ _ s e1 λvs H1 J1 s1 k1 r1=>?_
  refine⟨J1,ds,_,es,_,s1.ja,by rw[waJ];exact ArgsG.plain r1 hl hn,e2,λv H2 J2 fp' pg=>?_⟩;have u:Up H1 J1 H2 J2:=⟨λb o h=>pg.hs b o (λ_=>by simp) h,pg.jj,pg.jn,pg.ja⟩
  refine w v H2 J2 (s1.up u) (k1.trans u.keep) ?_;have res:=pg.res
  cases r with
 |told d0=>exact res
 |new n0 d0=>
    obtain⟨B,ruB,ndB,hB,_⟩:=res;obtain⟨fp,ow⟩:=s1.ow;refine⟨B,fp,⟨λi=>(ow.at' i).keep u.keep λb _=>u.same b,ow.nd,λi b hb jb=>?_,ow.dj⟩,ruB,ndB,λb hb=>⟨(hB b hb).1,?_⟩,λj b hb hb2=>?_⟩
    .rcases u.jn b jb with jb|jb
     .exact ow.nj i b hb jb
     .obtain⟨o,e,_⟩:=(ow.at' i).ru b hb;rw[e] at jb;cases jb
    .cases z:Hz b with
    |none=>rfl
    |some o=>exact absurd (hB b hb).2 (s1.al b (by rw[z];simp))
    .obtain⟨o,ho,_⟩:=(ow.at' j).ru b hb2;rw[(hB b hb).2] at ho;cases ho
 .rw[if_neg hl] at eB;cases eB
end
section
variable {X:Cx}{K:Fg}{a b c e:Expr}{es:List Expr}{fa fb:FX}{fe:FE}{ft:FTX}{fl:FAX}{fr:FR}{g g2:FS}{pos p:Pos}
def gSetX (i:Nat)(f:FX):FS:=λZ=>(f Z).bind λq=>if i<q.2.length/\isPar (q.2[i]?)=false then some (.nx (q.2.set i (.val q.1))) else none
def zd5 {i:Nat}{x:Str}{pos':Pos}(hN:X.N.Nodup)(hi:X.N[i]?=some x)(hx:Loc X.env.scope x)(h:VX X e fa)(hs:sWw e (some (.Name x pos')) pos.line X.env=pure false:=by rfl)(hf:X.fn x=true\/X.env.scope.names.lookup x=some .local:=by first|exact .inl rfl|exact .inr rfl|assumption) :
 VS X (.Assign [.Name x pos'] e pos) (gSetX i fa):=by
 obtain⟨t,p,q⟩:=h;refine⟨_,zg8 hN hi hx p hs hf,?_⟩;intro Hz Jz O Z Y H J o E s e w;obtain⟨⟨d,Z1⟩,e1,eA⟩:=bS e;have eA:(if i<Z1.length/\isPar (Z1[i]?)=false then some (Out.nx (Z1.set i (.val d))) else none)=some o:=eA
 by_cases hi:i<Z1.length/\isPar (Z1[i]?)=false
 .rw[if_pos hi] at eA;cases eA;exact q Hz Jz O Z Y H J d Z1 _ s e1 λv H' J' s' k r=>w _ H' J' (s'.set r hi.1 (zbd hi.2)) k
 .rw[if_neg hi] at eA;cases eA
def ST.take {Hz H:Hp}{Jz J:Addr->Prop}{O:Pr}{Z:En}{Y:L2.St}{i n:Nat}{v:V}{d:D}(s:ST K Hz Jz O Z Y H J)(q:RtAt K Hz O Z Y H J v (.new n d))(hi:i<Z.length)(hp:∀n d,Z[i]?≠some (.par n d)):ST K Hz Jz O (Z.set i (.own n d)) (Y.set i (some v)) H J:=by
 obtain⟨A,fp,w,r,nd,hA,dj⟩:=q;refine⟨s.same,s.j0,s.jn,s.ja,by simp[s.len],λj e h=>?_,?_,λq hq=>?_,s.al⟩
 .rcases zcQ h with⟨rfl,he⟩|⟨ne,h⟩
  .cases he
  .rw[wai (Ne.symm ne)];exact s.vl j e h
 .refine⟨_,w.put (i:=i) (A:=A) Keep.refl (λ_ _ _ _ _ h=>h) (λj _=>w.nj j) (λj e=>wai (Ne.symm e)) (λj e=>wai (Ne.symm e)) ?_ nd (λb hb=>(hA b hb).1) (λj _ b hb=>dj j b hb)⟩;rw[wau hi,wau (by rw[s.len];exact hi)];exact⟨⟨v,rfl,r⟩,λb hb=>(hA b hb).2⟩
 .have e:=s.psNe hp q hq
  rw[wai (Ne.symm e),wai (Ne.symm e)];exact s.ps q hq
def gOwnR (i:Nat)(f:FR):FS:=λZ=>(f Z).bind λq=>match q.1 with
|.new n d=>if i<q.2.length/\isPar (q.2[i]?)=false then some (.nx (q.2.set i (.own n d))) else none
|.told _=>none
def zgF {i:Nat}{x:Str}{pos':Pos}(hN:X.N.Nodup)(hi:X.N[i]?=some x)(hx:Loc X.env.scope x)(h:VR X e fr)(hs:sWw e (some (.Name x pos')) pos.line X.env=pure false:=by rfl)(hf:X.fn x=true\/X.env.scope.names.lookup x=some .local:=by first|exact .inl rfl|exact .inr rfl|assumption) :
 VS X (.Assign [.Name x pos'] e pos) (gOwnR i fr):=by
 obtain⟨t,p,q⟩:=h;refine⟨_,zg8 hN hi hx p hs hf,?_⟩;intro Hz Jz O Z Y H J o E s e w;obtain⟨⟨r,Z1⟩,e1,eA⟩:=bS e;cases r with
|told d=>cases eA
|new n d=>
   have eA:(if i<Z1.length/\isPar (Z1[i]?)=false then some (Out.nx (Z1.set i (.own n d))) else none)=some o:=eA
   by_cases hi:i<Z1.length/\isPar (Z1[i]?)=false
   .rw[if_pos hi] at eA;cases eA;exact q Hz Jz O Z Y H J _ Z1 _ s e1 λv H' J' s' k r=>w _ H' J' (s'.take r hi.1 (zbd hi.2)) k
   .rw[if_neg hi] at eA;cases eA
def isL1:Option (Nat×D)->Bool
|some (1,.lst _)=>true
|_=>false
def znI {x:Option (Nat×D)}(h:isL1 x=true):∃ds,x=some (1,.lst ds):=by
 match x,h with
|some (1,.lst ds),_=>exact⟨ds,rfl⟩
def gAppX (i:Nat)(f:FX):FS:=λZ=>if isL1 (ownD (Z[i]?))=true then(f Z).bind λq=>match ownD (q.2[i]?) with
|some (1,.lst ds)=>if ds.length<lim then some (.nx (setO q.2 i (.lst (ds++[q.1])))) else none
|_=>none
 else none
def znJ {i:Nat}{t:TE}(q:GoX K t fa):GoS K (zkI (tBM K "list" zeW (tVar i) (zkQ t tNil))) (gAppX i fa):=by
 intro Hz Jz O Z Y H J o E s e w;unfold gAppX at e;by_cases h0:isL1 (ownD (Z[i]?))=true
 .rw[if_pos h0] at e;obtain⟨ds0,z0⟩:=znI h0;obtain⟨⟨d,Z1⟩,e1,eA⟩:=bS e;obtain⟨a,vs0,ha,hv0,_,_⟩:=s.top (H':=H) (es:=[]) z0;refine⟨.ref a,ha,.inl ⟨rfl,vs0,SqL.of hv0⟩,?_⟩;refine q Hz Jz O Z Y H J d Z1 _ s e1 λv H1 J1 s1 k1 r1=>?_
  split at eA
  .rename_i ds z
   by_cases hl:ds.length<lim
   .rw[if_pos hl] at eA;cases eA;obtain⟨a',vs',ha',hv',rl,go⟩:=s1.top (H':=H) (es:=[]) z;rw[ha] at ha';cases ha';refine⟨a,vs',v,rfl,rfl,hv',by rw[rl.length];exact waq hl (wbl zdz),?_⟩;obtain⟨s2,k2⟩:=go (vs'++[v]) (ds++[d]) (rl.append (.cons r1 .nil));exact w Y _ J1 s2 (k1.trans k2)
   .rw[if_neg hl] at eA;cases eA
  .cases eA
 .rw[if_neg h0] at e;cases e
def znK (i:Nat){x:Str}{xp qL qt:Pos}(h:VX X e fa)(hN:X.N[i]?=some x:=by rfl)(hv:Vis X.env.scope x:=by first|exact Or.inl rfl|exact Or.inr (Or.inl rfl)|exact Or.inr (Or.inr rfl))(hd:(x == ("__debug__":Str))=false:=by decide)
 (hcd:(x == ("__classdict__":Str))=false:=by decide) (h1:sE [e] X.env=(false,eval e X.env)::sE [] X.env:=by rfl)
 (qX:attributeBase (.Name x xp) "append" X.env (eval (.Name x xp) X.env)=eval (.Name x xp) X.env:=by rfl)
 (wK:((backTo qt (sE [e] X.env)).all (λx=>!x.1)&&(backToKw qt (keywordEach [] X.env)).all (λx=>x.1.isSome)
  && decide ([e].length+([]:List Keyword).length+(if([]:List Keyword).isEmpty then 0 else 1)<30))=true:=by rfl)
 (w5:(qL.endLine == qt.line)=true:=by rfl) (hs:sE [e] X.env = [(false,eval e X.env)]:=by rfl) (hsw:sWw (.Call (.Attribute (.Name x xp) "append" qL) [e] [] qt) none pos.line X.env=pure false:=by rfl) :
 VS X (.Expr (.Call (.Attribute (.Name x xp) "append" qL) [e] [] qt) pos) (gAppX i fa):=by
 obtain⟨t,p,q⟩:=h;exact⟨_,zdn (papp (zcl hN hv hd hcd) (za2 p zcL h1) qX wK w5 hs) hsw,znJ q⟩
def gPutL (i:Nat)(fk:FE)(f:FX):FS:=λZ=>(f Z).bind λq=>(fk q.2).bind λk=>(dInt k).bind λk=>match ownD (q.2[i]?) with
|some (1,.lst ds)=>(ixN ds.length k).bind λj=>some (.nx (setO q.2 i (.lst (ds.set j q.1))))
|_=>none
def zgG (i:Nat){x:Str}{xp sp:Pos}{fk:FE}(h:VX X e fa)(hk:VE X a fk)(hN:X.N[i]?=some x:=by rfl)(hv:Vis X.env.scope x:=by first|exact Or.inl rfl|exact Or.inr (Or.inl rfl)|exact Or.inr (Or.inr rfl))(hd:(x == ("__debug__":Str))=false:=by decide)(hcd:(x == ("__classdict__":Str))=false:=by decide)
 (ha:∀v,assign (.Subscript (.Name x xp) a sp) X.env v=(do
  let ov <-holding [v] (eval (.Name x xp) X.env)
  let iv <-holding [v,ov] (eval a X.env)
  standAt sp
  holding [v,ov,iv] (setItem ov iv v)
  release [v,ov,iv] []):=by intro _;rfl)
 (hs:swapsWithSole [.Subscript (.Name x xp) a sp] e pos.line X.env=pure false:=by rfl) (hw:swappedStores [.Subscript (.Name x xp) a sp] e X.env=pure none:=by rfl) (h1:(assignEach [.Subscript (.Name x xp) a sp] X.env).map (·.2) = [assign (.Subscript (.Name x xp) a sp) X.env]:=by rfl) :
 VS X (.Assign [.Subscript (.Name x xp) a sp] e pos) (gPutL i fk fa):=by
 obtain⟨t,p,q⟩:=h;obtain⟨tk,pk,qk⟩:=hk;refine⟨_,ziK p (zmg (zcl hN hv hd hcd) pk zhc ha) hs hw h1,λHz Jz O Z Y H J o E s e w=>?_⟩;obtain⟨⟨d,Z1⟩,e1,eA⟩:=bS e;obtain⟨k,e2,eB⟩:=bS eA;obtain⟨kk,e3,eC⟩:=bS eB;refine q Hz Jz O Z Y H J d Z1 _ s e1 λv H1 J1 s1 k1 r1=>?_
 split at eC
 .rename_i ds z
  obtain⟨j,e4,eD⟩:=bS eC;cases eD;obtain⟨a0,vs0,ha0,_,_,_⟩:=s1.top (H':=H) (es:=[]) z;refine⟨.ref a0,ha0,?_⟩;refine qk Hz Jz O Z1 Y H1 J1 k _ s1 e2 λvk H2 J2 u2 rk=>?_
  have s2:=s1.up u2
  obtain⟨a1,vs1,ha1,hv1,rl,go⟩:=s2.top (H':=H) (es:=[]) z;rw[ha0] at ha1;cases ha1;cases k with
 |int k0=>
    cases e3;cases rk;refine⟨a0,vs1,kk,j,rfl,rfl,hv1,by rw[rl.length];exact e4,?_⟩;obtain⟨s3,k3⟩:=go (vs1.set j v) (ds.set j d) (rl.set j (r1.keep u2.keep));exact w Y _ J2 s3 ((k1.trans u2.keep).trans k3)
 |_=>cases e3
 .cases eC
end
def GoIX (K:Fg)(wi:TI)(f:FAX):Prop:=∀Hz Jz O Z Y H J ds Z' R,ST K Hz Jz O Z Y H J->f Z=some (ds,Z')->(∀I H' J',ST K Hz Jz O Z' Y H' J'->Keep K H J H' J'->Src K I H' J' ds->R I H')->wi Y H R
def VIX (X:Cx)(tg qb:Expr)(f:FAX):Prop:=∃wi,PI X tg qb wi/\GoIX X.K wi f
def gForX (fi:FAX)(tg:FG)(b:FS):FS:=λZ=>(fi Z).bind λq=>forL tg b q.1 q.2
section
variable {X:Cx}{K:Fg}{fi fl:FAX}{fa:FX}{g:FS}{pos p:Pos}{ft:FT}{tg a b:Expr}
def znL {wi:TI}{tb:TS}{tg:TG}{fg:FG}{is:List Nat}(hi:GoIX K wi fi)(hg:GoG K tg is fg)(hb:GoS K tb g):GoS K (tFor wi tg tb) (gForX fi fg g):=by
 intro Hz Jz O Z Y H J o E s e w;obtain⟨⟨ds,Z0⟩,e1,e⟩:=bS e;refine hi Hz Jz O Z Y H J ds Z0 _ s e1 λI H1 J1 s1 k1 src=>?_
 refine⟨λi m Y' H'=>m=ds.length - i/\i<=ds.length/\∃Z' J',ST K Hz Jz O Z' Y' H' J'/\Keep K H1 J1 H' J'/\forL fg g (ds.drop i) Z'=some o,⟨ds.length,by simp,wbx _,Z0,J1,s1,Keep.refl,by simpa using e⟩,?_⟩;rintro i m Y2 H2 ⟨rfl,hil,Z2,J2,s2,k2,e2⟩;obtain⟨stop,qC⟩:=src H2 J2 k2 s2.ja;by_cases hlt:i<ds.length
 .right
  have hd:ds[i]?=some ds[i]:=wac hlt
  generalize hdd:ds[i]=d at hd;obtain⟨go,yl⟩:=qC i d hd;have edrop:ds.drop i=d::ds.drop (i+1):=by rw[<-hdd];exact(wbg hlt).symm
  rw[edrop] at e2;unfold forL at e2;obtain⟨Z3,eg,e2⟩:=bS e2;obtain⟨ob,eb,e2⟩:=bS e2;refine⟨go,λY' H'=>∃Z' J',ST K Hz Jz O Z' Y' H' J'/\Keep K H1 J1 H' J'/\forL fg g (ds.drop (i+1)) Z'=some o,λY' H' h=>⟨ds.length - (i+1),by omega,rfl,hlt,h⟩,λx H3 y=>?_⟩;obtain⟨J3,u3,r3⟩:=yl x H3 y;refine hg.2 Hz Jz O Z2 Y2 H3 J3 x d Z3 _ (s2.up u3) r3 eg λY4 s4=>?_
  refine hb Hz Jz O Z3 Y4 H3 J3 ob _ s4 eb ?_;have k3:=k2.trans u3.keep
  cases ob with
 |nx Z5=>exact λY5 H5 J5 s5 k5=>⟨Z5,J5,s5,k3.trans k5,e2⟩
 |ct Z5=>exact λY5 H5 J5 s5 k5=>⟨Z5,J5,s5,k3.trans k5,e2⟩
 |bk Z5=>cases e2;exact λY5 H5 J5 s5 k5=>w Y5 H5 J5 s5 ((k1.trans k3).trans k5)
 |ret d Z5=>cases e2;exact w
 .left
  have hi':i=ds.length:=by omega
  subst hi';rw[wbE] at e2;cases e2;exact⟨stop,w Y2 H2 J2 s2 (k1.trans k2)⟩
def znM {tg qb:Expr}{body:List Stmt}{is:List Nat}{fg:FG}(hi:VIX X tg qb fi)(hg:VG X tg is fg)(hb:VSs X body g)(hp:PassesOwn (model X.prog X.w) X.A X.env X.xe:=by exact PassesOwn.never)(hc:X.calm=true:=by rfl)
 (hs:∀x,fSI qb X.env x=pure x:=by intro _;rfl):VS X (.For tg qb body [] pos) (gForX fi fg g):=by
 obtain⟨wi,p1,q1⟩:=hi;obtain⟨t,p2,q2⟩:=hg;obtain⟨tb,p3,q3⟩:=hb;exact⟨_,ziP hp hc p1 p2 p3 hs,znL q1 q2 q3⟩
def axRng1 (f:FAX):FAX:=λZ=>(f Z).bind λq=>(a1Int q.1).bind λj=>if -1000000<=j/\j<=1000000 then some (zaB 0 j.toNat,q.2) else none
def zh5 (B:Blt X.mg)(ha:VAX X [a] fl)(hg:Gl X "range":=by rfl)(hs:sE [a] X.env = [(false,eval a X.env)]:=by rfl):VIX X tg (.Call (.Name "range" p) [a] [] pos) (axRng1 fl):=by
 obtain⟨t,p,g⟩:=ha;refine⟨_,zfr hg (B.get "range") p hs,?_⟩;intro Hz Jz O Z Y H J ds Z' R s e w;obtain⟨⟨l,Z1⟩,e1,eA⟩:=bS e;obtain⟨j,e2,eB⟩:=bS eA;by_cases hj:-1000000<=j/\j<=1000000
 .rw[if_pos hj] at eB;cases eB;refine g Hz Jz O Z Y H J l Z1 _ s e1 λvs H1 J1 s1 k1 r1=>?_
  match l,e2,r1 with
 |[.int i],e2,r1=>
    cases e2;cases r1 with
   |cons h t=>cases t;cases h;exact⟨j,rfl,by omega,by omega,w _ H1 J1 s1 k1 (zfI 0 _)⟩
 .rw[if_neg hj] at eB;cases eB
def keyD:D->Option Key
|.int i=>some (.inl i)
|.str x=>some (.inr x)
|_=>none
def zjt {H:Hp}{J:Addr->Prop}{v:V}{d:D}{k:Key}(r:RpW K H J v d)(h:keyD d=some k):v=kV k:=by
 cases d with
|int i=>cases h;exact r.int
|str x=>cases h;exact r.str
|_=>cases h
def dLook:List Key->List D->Key->Option D
|k::ks,d::ds,j=>if k=j then some d else dLook ks ds j
|_,_,_=>none
theorem zho {H:Hp}{J:Addr->Prop}:∀{kvs:List (Key×V)}{ks:List Key}{ds:List D}{j:Key}{d:D},kvs.map (·.1)=ks->RpL K H J (kvs.map (·.2)) ds->dLook ks ds j=some d->∃v,valV kvs j=some v/\Rp K H J v d
|[],_,_,_,_,e,r,h=>by subst e;cases r;cases h
|(k,v)::kvs,_,_,j,d,e,r,h=>by
   subst e;cases r with
  |cons h1 t=>
     unfold valV;rw[wbQ];unfold dLook at h;rw[waN] at h;by_cases hk:k=j
     .simp only[hk,if_true] at h;cases h;simp only[hk,decide_true];exact⟨v,rfl,h1⟩
     .simp only[hk,if_false] at h;simp only[hk,decide_false];exact zho rfl t h
def dGet:D->D->Option D
|.dct ks ds,k=>(keyD k).bind λj=>dLook ks ds j
|_,_=>none
def zju {fd fk:FE}(hu:X.A.units+1<cLine)(ha:VW X a fd)(hb:VW X b fk)(hs:NoSl b:=by exact λ_ _=>rfl):VE X (.Subscript a b pos) (e2 dGet fd fk):=by
 obtain⟨t,p,g⟩:=ha;obtain⟨t2,p2,g2⟩:=hb;refine⟨_,zns hu p p2 hs,?_⟩;intro Hz Jz O Z Y H J d Q s e w;obtain⟨x,ex,eA⟩:=bS e;obtain⟨y,ey,eB⟩:=bS eA;refine g Hz Jz O Z Y H J x _ s ex λv1 H1 J1 u1 r1=>?_
 refine g2 Hz Jz O Z Y H1 J1 y _ (s.up u1) ey λv2 H2 J2 u2 r2=>?_
 cases x with
|dct ks ds=>
   obtain⟨j,ej,eC⟩:=bS (show((keyD y).bind λj=>dLook ks ds j)=some d from eB);obtain⟨q,kvs,vs,rfl,h1,h2,h3,rl⟩:=(r1.up u2).dct;subst h3;obtain⟨v,hv,rv⟩:=zho h2 rl eC;refine⟨q,v,rfl,?_,w v H2 J2 (u1.trans u2) rv⟩;rw[zjt r2 ej,<-hv];exact DGet.k h1
|_=>cases eB
end
section
variable {X:Cx}{K:Fg}{a b c e:Expr}{es:List Expr}{fa fb:FX}{fe fk fv:FE}{fl:FA}{pos p p2:Pos}
def ST.top2 {Hz H:Hp}{Jz J:Addr->Prop}{O:Pr}{Z:En}{Y:L2.St}{i j:Nat}{ds es:List D}(s:ST K Hz Jz O Z Y H J)(h0:ownD (Z[i]?)=some (2,.lst ds))(hj:ds[j]?=some (.lst es)):∃a vs b us,Y[i]?=some (some (.ref a))/\H a=some (.lst vs)/\vs.length=ds.length/\vs[j]?=some (.ref b)/\H b=some (.lst us)/\RpL K H J us es/\
 (∀(us':List V) (es':List D),RpL K H J us' es'->ST K Hz Jz O (setO Z i (.lst (ds.set j (.lst es')))) Y (upd H b (.lst us')) J/\Keep K H J (upd H b (.lst us')) J)/\
 (∀(H':Hp) (J':Addr->Prop) (q:Addr) (us':List V) (es':List D),Up H J H' J'->H q=none->¬J' q->H' q=some (.lst us')->RpL K H' J' us' es'->ST K Hz Jz O (setO Z i (.lst (ds.set j (.lst es')))) Y (upd H' a (.lst (vs.set j (.ref q)))) J'/\Keep K H J (upd H' a (.lst (vs.set j (.ref q)))) J'):=by
 obtain⟨v,A,hv,r,nd,nj,go⟩:=s.chg h0;cases r with
|lst ha rl=>
   rename_i a vs A
   obtain⟨w,A1,A2,A3,hw,rfl,rw',up⟩:=rl.split j hj;obtain⟨b,us,rfl,rfl,hb,ru⟩:=rw'.one;have hab:a≠b:=by
    rintro rfl;have:=(waP.mp nd).1
    exact this (by simp)
   have ndA:=(waP.mp nd).2
   have naA:=(waP.mp nd).1
   have hb13:∀x∈A1++A3,x≠b:=by
    intro x hx z;subst z;rw[wbn] at ndA;obtain⟨n1,n2,n3⟩:=ndA;rw[wcB,waP] at n2;rcases waA.mp hx with h|h
    .exact n3 x h x (by simp) rfl
    .exact n2.1 h
   refine⟨a,vs,b,us,hv,ha,rl.length,hw,hb,ru,λus' es' re=>?_,λH' J' q us' es' u hq njq hq' re=>?_⟩
   .have nja:¬J b:=nj b (by simp)
    have kp:Keep K H J (upd H b (.lst us')) J:=zbD hb nja
    refine go (upd H b (.lst us')) J (.lst (ds.set j (.lst es'))) (a::(A1++([b]++A3))) (λc o hc h=>?_) (λc h=>?_) (λ_ h=>h) (λ_ h=>.inl h) (λc h=>?_) ?_ nd nj (λc hc=>.inl hc)
    .rw[zaf (λz=>hc (by simp[z]))];exact h
    .by_cases z:c=b
     .subst z;rw[zae];simp
     .rw[zaf z];exact h
    .by_cases z:c=b
     .subst z;rw[zae];simp
     .rw[zaf z];exact s.ja c h
    .have vset:vs.set j (V.ref b)=vs:=by
      apply List.ext_getElem?;intro k;by_cases hk:k=j
      .subst hk;rw[hw,wau (wab.mp hw).1]
      .rw[wai (Ne.symm hk)]
     have:=up (upd H b (.lst us')) J (.ref b) (.lst es') [b] kp (λc hc o ho=>by rw[zaf (hb13 c hc)];exact ho) (.lst zae (RpUL.of (re.keep kp)))
     rw[vset] at this;exact .lst (by rw[zaf hab];exact ha) this
   .have haH':=u.same _ _ ha
    have hqa:q≠a:=by rintro rfl;rw[ha] at hq;cases hq
    have nja:¬J' a:=λz=>by
     rcases u.jn a z with z|z
     .exact nj a (by simp) z
     .rw[ha] at z;cases z
    have kp:Keep K H' J' (upd H' a (.lst (vs.set j (.ref q)))) J':=zbD haH' nja
    have qfree:∀c∈a::(A1++([b]++A3)),c≠q:=by
     intro c hc z;subst z;rcases wap.mp hc with rfl|hc
     .rw[ha] at hq;cases hq
     .obtain⟨o,e,_⟩:=rl.some c hc;rw[hq] at e;cases e
    refine(go (upd H' a (.lst (vs.set j (.ref q)))) J' (.lst (ds.set j (.lst es'))) (a::(A1++([q]++A3))) (λc o hc h=>?_) (λc h=>?_) u.jj u.jn (λc h=>?_) ?_ ?_ (λc hc=>?_) (λc hc=>?_))
    .rw[zaf (λz=>hc (by simp[z]))];exact u.same _ _ h
    .by_cases z:c=a
     .subst z;rw[zae];simp
     .rw[zaf z];cases e:H c with
     |none=>exact absurd e h
     |some o=>rw[u.same _ _ e];simp
    .by_cases z:c=a
     .subst z;rw[zae];simp
     .rw[zaf z];exact u.ja c h
    .have:=up (upd H' a (.lst (vs.set j (.ref q)))) J' (.ref q) (.lst es') [q] (u.keep.trans kp) (λc hc o ho=>by
      rw[zaf (λz=>naA (by rw[<-z];simp at hc⊢;rcases hc with hc|hc <;> simp[hc]))];exact u.same _ _ ho) (.lst (by rw[zaf hqa];exact hq') (RpUL.of (re.keep kp)))
     exact .lst zae this
    .have h1:q∉a::(A1++([b]++A3)):=λz=>qfree q z rfl
     rw[wbn] at ndA;obtain⟨n1,n2,n3⟩:=ndA;rw[wcB,waP] at n2;simp only[wap,waA,not_or,wag] at h1;refine waP.mpr ⟨?_,wbn.mpr ⟨n1,?_,?_⟩⟩
     .simp only[waA,wag,not_or] at naA⊢;exact⟨naA.1,λz=>h1.1 z.symm,naA.2.2⟩
     .rw[wcB];exact waP.mpr ⟨h1.2.2.2,n2.2⟩
     .intro x hx y hy z;subst z;rcases waA.mp hy with hy|hy
      .rw[wag.mp hy] at hx;exact h1.2.1 hx
      .exact n3 x hx x (by simp[hy]) rfl
    .simp only[wap,waA,List.not_mem_nil,or_false] at hc;have old:c∈a::(A1++([b]++A3))->¬J' c:=λh z=>by
      rcases u.jn c z with z|z
      .exact nj c h z
      .rcases wap.mp h with rfl|h
       .rw[ha] at z;cases z
       .obtain⟨o,e,_⟩:=rl.some c h;rw[z] at e;cases e
     rcases hc with rfl|hc|rfl|hc
     .exact nja
     .exact old (by simp[hc])
     .exact njq
     .exact old (by simp[hc])
    .simp only[wap,waA,List.not_mem_nil,or_false] at hc;rcases hc with rfl|hc|rfl|hc
     .exact .inl (by simp)
     .exact .inl (by simp[hc])
     .exact .inr hq
     .exact .inl (by simp[hc])
def eIx2 (i:Nat)(fk:FE):FE:=λZ=>(fk Z).bind λk=>(dInt k).bind λk=>match ownD (Z[i]?) with
|some (2,.lst ds)=>(atI ds k).bind λd=>match d with|.lst es=>some (.lst es)|_=>none
|_=>none
def zmB (i:Nat){x:Str}{xp:Pos}(hk:VE X a fk)(hN:X.N[i]?=some x:=by rfl)(hv:Vis X.env.scope x:=by first|exact Or.inl rfl|exact Or.inr (Or.inl rfl)|exact Or.inr (Or.inr rfl))(hd:(x == ("__debug__":Str))=false:=by decide)(hcd:(x == ("__classdict__":Str))=false:=by decide)(hs:zdo a:=by exact λ_ _=>rfl) :
 VW X (.Subscript (.Name x xp) a pos) (eIx2 i fk):=by
 obtain⟨t,p,g⟩:=hk;refine⟨_,zi0 zhb (zcl hN hv hd hcd) p hs,?_⟩;intro Hz Jz O Z Y H J d Q s e w;obtain⟨k,e1,eA⟩:=bS e;obtain⟨kk,e2,eB⟩:=bS eA;split at eB
 .rename_i ds z
  obtain⟨d1,e3,eC⟩:=bS eB;split at eC
  .rename_i es
   cases eC;obtain⟨v,A,hv,r⟩:=s.rd z;refine⟨v,hv,?_⟩;refine g Hz Jz O Z Y H J k _ s e1 λvk H1 J1 u1 rk=>?_
   cases k with
  |int k0=>
     cases e2;cases rk;have r1:=r.keep u1.keep λb _ o=>u1.same b o
     cases r1 with
    |lst ha rl=>
       unfold atI at e3;cases q:ixN ds.length kk with
      |none=>rw[q] at e3;cases e3
      |some j=>
         rw[q] at e3;obtain⟨u,A1,A2,A3,hu,_,ru,_⟩:=rl.split j e3;refine .inl ⟨_,_,kk,u,rfl,rfl,SqL.of ha,?_,w u H1 J1 u1 (.inr ⟨A2,ru⟩)⟩;unfold atI;rw[rl.length,q];exact hu
  |_=>cases e2
  .cases eC
 .cases eB
def znN (i:Nat)(fk fv:FE):FS:=λZ=>(fk Z).bind λk=>(dInt k).bind λk=>(fv Z).bind λd=>match ownD (Z[i]?) with
|some (2,.lst ds)=>(ixN ds.length k).bind λj=>match ds[j]? with
  |some (.lst es)=>if es.length<lim then some (.nx (setO Z i (.lst (ds.set j (.lst (es++[d])))))) else none
  |_=>none
|_=>none
def znO (i:Nat){x:Str}{xp sp qL qt:Pos}(hk:VE X a fk)(h:VE X e fv)(hN:X.N[i]?=some x:=by rfl)(hv:Vis X.env.scope x:=by first|exact Or.inl rfl|exact Or.inr (Or.inl rfl)|exact Or.inr (Or.inr rfl))(hd:(x == ("__debug__":Str))=false:=by decide)
 (hcd:(x == ("__classdict__":Str))=false:=by decide) (hpi:zdo a:=by exact λ_ _=>rfl) (h1:sE [e] X.env=(false,eval e X.env)::sE [] X.env:=by rfl)
 (qX:attributeBase (.Subscript (.Name x xp) a sp) "append" X.env (eval (.Subscript (.Name x xp) a sp) X.env)=eval (.Subscript (.Name x xp) a sp) X.env:=by rfl)
 (wK:((backTo qt (sE [e] X.env)).all (λx=>!x.1)&&(backToKw qt (keywordEach [] X.env)).all (λx=>x.1.isSome)
  && decide ([e].length+([]:List Keyword).length+(if([]:List Keyword).isEmpty then 0 else 1)<30))=true:=by rfl)
 (w5:(qL.endLine == qt.line)=true:=by rfl) (hs:sE [e] X.env = [(false,eval e X.env)]:=by rfl) (hsw:sWw (.Call (.Attribute (.Subscript (.Name x xp) a sp) "append" qL) [e] [] qt) none pos.line X.env=pure false:=by rfl) :
 VS X (.Expr (.Call (.Attribute (.Subscript (.Name x xp) a sp) "append" qL) [e] [] qt) pos) (znN i fk fv):=by
 obtain⟨tk,pk,qk⟩:=hk;obtain⟨t,p,q⟩:=h;refine⟨_,zdn (papp (zi0 zhb (zcl hN hv hd hcd) pk hpi) (za2 p zcL h1) qX wK w5 hs) hsw,?_⟩;intro Hz Jz O Z Y H J o E s e w;obtain⟨k,e1,eA⟩:=bS e;obtain⟨kk,e2,eB⟩:=bS eA;obtain⟨d,e3,eC⟩:=bS eB;split at eC
 .rename_i ds z
  obtain⟨j,e4,eD⟩:=bS eC;split at eD
  .rename_i es ze
   by_cases hl:es.length<lim
   .rw[if_pos hl] at eD;cases eD;obtain⟨v0,A0,hv0,r0⟩:=s.rd z;refine⟨v0,hv0,?_⟩;refine qk Hz Jz O Z Y H J k _ s e1 λvk H1 J1 u1 rk=>?_
    cases k with
   |int k0=>
      cases e2;cases rk;have s1:=s.up u1
      obtain⟨a1,vs1,b1,us1,ha1,hA1,hl1,hj1,hb1,ru1,_,_⟩:=s1.top2 z ze;rw[hv0] at ha1;cases ha1;refine .inl ⟨a1,vs1,kk,.ref b1,rfl,rfl,SqL.of hA1,by unfold atI;rw[hl1,e4];exact hj1,?_⟩;refine⟨.inl ⟨rfl,us1,SqL.of hb1⟩,?_⟩;refine q Hz Jz O Z Y H1 J1 d _ s1 e3 λv H2 J2 u2 r2=>?_
      have s2:=s1.up u2
      obtain⟨a2,vs2,b2,us2,ha2,hA2,hl2,hj2,hb2,ru2,go,_⟩:=s2.top2 z ze;rw[hv0] at ha2;cases ha2;have hA12:=u2.same _ _ hA1
      rw[hA2] at hA12;cases hA12;rw[hj2] at hj1;cases hj1;refine⟨b1,us2,v,rfl,rfl,hb2,by rw[ru2.length];exact waq hl (wbl zdz),?_⟩;obtain⟨s3,k3⟩:=go (us2++[v]) (es++[d]) (ru2.append (.cons r2 .nil));exact w Y _ J2 s3 ((u1.trans u2).keep.trans k3)
   |_=>cases e2
   .rw[if_neg hl] at eD;cases eD
  .cases eD
 .cases eC
def znP (i:Nat)(fk:FE)(f:FA):FS:=λZ=>(f Z).bind λes=>(fk Z).bind λk=>(dInt k).bind λk=>match ownD (Z[i]?) with
|some (2,.lst ds)=>(ixN ds.length k).bind λj=>match ds[j]? with
  |some (.lst _)=>some (.nx (setO Z i (.lst (ds.set j (.lst es)))))
  |_=>none
|_=>none
def znQ (i:Nat){x:Str}{xp sp:Pos}(h:VN X e fl)(hk:VE X a fk)(hN:X.N[i]?=some x:=by rfl)(hv:Vis X.env.scope x:=by first|exact Or.inl rfl|exact Or.inr (Or.inl rfl)|exact Or.inr (Or.inr rfl))(hd:(x == ("__debug__":Str))=false:=by decide)(hcd:(x == ("__classdict__":Str))=false:=by decide)
 (ha:∀v,assign (.Subscript (.Name x xp) a sp) X.env v=(do
  let ov <-holding [v] (eval (.Name x xp) X.env)
  let iv <-holding [v,ov] (eval a X.env)
  standAt sp
  holding [v,ov,iv] (setItem ov iv v)
  release [v,ov,iv] []):=by intro _;rfl)
 (hs:swapsWithSole [.Subscript (.Name x xp) a sp] e pos.line X.env=pure false:=by rfl) (hw:swappedStores [.Subscript (.Name x xp) a sp] e X.env=pure none:=by rfl) (h1:(assignEach [.Subscript (.Name x xp) a sp] X.env).map (·.2) = [assign (.Subscript (.Name x xp) a sp) X.env]:=by rfl) :
 VS X (.Assign [.Subscript (.Name x xp) a sp] e pos) (znP i fk fl):=by
 obtain⟨t,p,q⟩:=h;obtain⟨tk,pk,qk⟩:=hk;refine⟨_,ziK p (zmg (zcl hN hv hd hcd) pk zhc ha) hs hw h1,λHz Jz O Z Y H J o E s e w=>?_⟩;obtain⟨es,e1,eA⟩:=bS e;obtain⟨k,e2,eB⟩:=bS eA;obtain⟨kk,e3,eC⟩:=bS eB;split at eC
 .rename_i ds z
  obtain⟨j,e4,eD⟩:=bS eC;split at eD
  .rename_i es0 ze
   cases eD;refine q Hz Jz O Z Y H J es _ s e1 λp1 us H1 J1 u1 hp1 nj1 hq1 r1=>?_
   obtain⟨v0,A0,hv0,r0⟩:=s.rd z;refine⟨v0,hv0,?_⟩;refine qk Hz Jz O Z Y H1 J1 k _ (s.up u1) e2 λvk H2 J2 u2 rk=>?_
   cases k with
  |int k0=>
     cases e3;cases rk;obtain⟨a0,vs0,b0,us0,ha0,hA0,hl0,hj0,hb0,ru0,_,go⟩:=s.top2 z ze;rw[hv0] at ha0;cases ha0;have u:=u1.trans u2
     have hq2:=u2.same _ _ hq1
     have nj2:¬J2 p1:=λz=>by
      rcases u2.jn p1 z with z|z
      .exact nj1 z
      .rw[hq1] at z;cases z
     refine⟨a0,vs0,kk,j,rfl,rfl,u.same _ _ hA0,by rw[hl0];exact e4,?_⟩;obtain⟨s3,k3⟩:=go H2 J2 p1 us es u hp1 nj2 hq2 (r1.keep u2.keep);exact w Y _ J2 s3 k3
  |_=>cases e3
  .cases eD
 .cases eC
end
section
variable {X:Cx}{K:Fg}{elt qb tg:Expr}{ifs:List Expr}{scope:Scope}{pos:Pos}{NC:List Str}
def TNof (K:Fg)(f:FA):TE:=λY H Q=>∃Hz Jz O Z J d,ST K Hz Jz O Z Y H J/\f Z=some d/\zmp K H J d Q
def VN.of {X:Cx}{e:Expr}{f:FA}(h:VN X e f):PE X e (TNof X.K f):=by
 obtain⟨t,p,g⟩:=h;rintro pins s Y H Q I ⟨Hz,Jz,O,Z,J,d,s1,e1,w⟩;exact p pins s Y H Q I (g Hz Jz O Z Y H J d Q s1 e1 w)
def zco (Z:En)(g:FG)(e:FA)(d:D):Option (Option D):=(g d Z).bind λZ1=>(e Z1).bind λx=>some (some (.lst x))
def zmC (fr:List (Option Nat))(fi:FA)(g:FG)(e:FA):FR:=λZ=>(fi Z).bind λds=>(zbT (zco (zaE Z fr) g e) ds).bind λout=>if out.length<=lim then some (.new 2 (.lst out),Z) else none
def zlo {fr:List (Option Nat)}{wi:TI}{fi:FA}{g:FG}{is:List Nat}{fe:FA}(hi:GoI K wi fi)(hon:∀d Z Z',g d Z=some Z'->Only is Z Z')(hap:apart is fr=true) :
 GoR K (zeX fr wi (TGof K g) (TTof K tTrue) (TNof K fe)) (zmC fr fi g fe):=by
 intro Hz Jz O Z Y H J rr Z' Q s e w;obtain⟨ds,e1,eA⟩:=bS e;obtain⟨out,e2,eB⟩:=bS eA;by_cases hl:out.length<=lim
 .rw[if_pos hl] at eB;cases eB;refine hi Hz Jz O Z Y H J ds _ s e1 λI H1 J1 u1 src=>?_
  intro Da hD;have hD0:Hz Da=none:=s.free (u:=u1) hD
  have nJ1:¬J1 Da:=λj=>u1.ja Da j hD
  refine⟨λi m ys Y2 H2=>m=ds.length - i/\i<=ds.length/\∃J2 dn rs A,ST K Hz Jz O.blk (zaE Z fr) Y2 H2 J2/\Up H1 J1 H2 J2/\¬J2 Da/\RpUL K H2 J2 1 ys dn A/\A.Nodup/\(∀b∈A,¬J2 b/\H1 b=none/\b≠Da)/\out=dn++rs/\zbT (zco (zaE Z fr) g fe) (ds.drop i)=some rs,⟨ds.length,by simp,wbx _,?_⟩,?_⟩
  .have un:=Up.new u1.ja hD (.lst [])
   exact⟨J1,[],out,[],((s.up u1).up un).pick fr,un,nJ1,.nil,wbb,by simp,rfl,by simpa using e2⟩
  .rintro i m ys Y2 H2 ⟨rfl,hil,J2,dn,rs,A,s2,u2,nj2,r2,nd2,hA2,eo,ec⟩ hys;obtain⟨stop,qC⟩:=src H2 J2 u2.keep s2.ja;by_cases hlt:i<ds.length
   .right
    have hd:ds[i]?=some ds[i]:=wac hlt
    generalize hdd:ds[i]=d at hd;obtain⟨go,yl⟩:=qC i d hd;have edrop:ds.drop i=d::ds.drop (i+1):=by rw[<-hdd];exact(wbg hlt).symm
    rw[edrop] at ec;obtain⟨o,eo1,ec1⟩:=bS (show((zco (zaE Z fr) g fe d).bind λo=>(zbT (zco (zaE Z fr) g fe) (ds.drop (i+1))).bind λxs=>some (match o with|some x=>x::xs|none=>xs))=some rs from ec);obtain⟨rs',er,ec2⟩:=bS ec1;obtain⟨Z1,eg,eo2⟩:=bS eo1;obtain⟨x,ex,eo3⟩:=bS eo2;cases eo3;cases ec2;refine⟨go,λzs Y' H'=>∃J2 dn rs A,ST K Hz Jz O.blk (zaE Z fr) Y' H' J2/\Up H1 J1 H' J2/\¬J2 Da/\RpUL K H' J2 1 zs dn A/\A.Nodup/\(∀b∈A,¬J2 b/\H1 b=none/\b≠Da)/\out=dn++rs/\zbT (zco (zaE Z fr) g fe) (ds.drop (i+1))=some rs,λzs Y' H' h=>⟨ds.length - (i+1),by omega,rfl,hlt,h⟩,λxv H3 y=>?_⟩;obtain⟨J3,u3,r3⟩:=yl xv H3 y;have wk:Weak (zaE Z fr) Z1:=ze2 (hon _ _ _ eg) hap
    refine⟨Hz,Jz,O.blk,zaE Z fr,J3,d,Z1,s2.up u3,r3,eg,λY4 s4=>?_⟩;refine⟨Hz,Jz,O.blk,Z1,J3,true,s4,rfl,λH5 J5 u5=>?_⟩;have s5:=s4.up u5
    refine⟨λ_=>?_,λz=>by cases z⟩;refine⟨Hz,Jz,O.blk,Z1,J5,x,s5,ex,λq vs H6 J6 u6 hq nq hq6 r6=>?_⟩;have u26:=(u3.trans u5).trans u6
    have old:∀{b:Addr}{o:HO},H2 b=some o->¬J2 b->¬J6 b:=λ{b o} hb nb jb=>by
     rcases u26.jn b jb with jb|jb
     .exact nb jb
     .rw[hb] at jb;cases jb
    have nj6:¬J6 Da:=old hys nj2
    have hy6:H6 Da=some (.lst ys):=u26.same _ _ hys
    have kA:Keep K H6 J6 (upd H6 Da (.lst (ys++[.ref q]))) J6:=zbD hy6 nj6
    have hqD:q≠Da:=λz=>by
     subst z;have:=(u3.trans u5).same _ _ hys
     rw[this] at hq;cases hq
    have hqA:q∉A:=λz=>by
     obtain⟨o,eo,_⟩:=r2.some q z;rw[(u3.trans u5).same _ _ eo] at hq;cases hq
    refine⟨hy6,?_,J6,dn++[.lst x],rs',A++[q],?_,(u2.trans u26).at (ys:=ys) hD,nj6,?_,?_,λb hb=>?_,by rw[eo];simp,er⟩
    .have:(dn++.lst x::rs').length<=lim:=by rw[<-eo];exact hl
     rw[waj,waM] at this;rw[r2.length];exact waq (by omega:dn.length<lim) (wbl zdz)
    .exact((s5.up u6).weak wk rfl).at (zb3 Z fr) hy6 nj6 hD0
    .have ra:RpUL K H6 J6 1 ys dn A:=r2.keep u26.keep λb _ o=>u26.same b o
     have rb:RpUL K H6 J6 1 [.ref q] [.lst x] [q]:=by
      have:=RpUL.cons (n:=1) (RpU.lst hq6 (RpUL.of r6)) (RpUL.nil (K:=K) (H:=H6) (J:=J6))
      simpa using this
     refine(ra.append rb).keep kA λb hb o ho=>?_
     rw[zaf];exact ho;rcases waA.mp hb with hb|hb
     .exact(hA2 b hb).2.2
     .rw[wag.mp hb];exact hqD
    .refine wbn.mpr ⟨nd2,by simp,λa ha b hb z=>?_⟩;rw[wag.mp hb] at z;exact hqA (z▸ha)
    .rcases waA.mp hb with hb|hb
     .obtain⟨o,eo,_⟩:=r2.some b hb;exact⟨old eo (hA2 b hb).1,(hA2 b hb).2⟩
     .rw[wag.mp hb];exact⟨nq,(u2.trans (u3.trans u5)).same.free hq,hqD⟩
   .left
    have hi':i=ds.length:=by omega
    subst hi';rw[wbE] at ec;cases ec;refine⟨stop,?_⟩;rw[waJ] at eo;subst eo;have u:=u1.trans u2
    obtain⟨fp,ow⟩:=s.ow;refine w (.ref Da) H2 J2 (s.up u) u.keep ⟨Da::A,fp,⟨λi=>(ow.at' i).keep u.keep λb _=>u.same b,ow.nd,λi b hb jb=>?_,ow.dj⟩,.lst hys r2,?_,λb hb=>?_,λi b hb hb2=>?_⟩
    .rcases u.jn b jb with jb|jb
     .exact ow.nj i b hb jb
     .obtain⟨o,e,_⟩:=(ow.at' i).ru b hb;rw[e] at jb;cases jb
    .exact waP.mpr ⟨λz=>(hA2 Da z).2.2 rfl,nd2⟩
    .rcases wap.mp hb with rfl|hb
     .exact⟨nj2,hD0⟩
     .exact⟨(hA2 b hb).1,s.free (u:=u1) (hA2 b hb).2.1⟩
    .obtain⟨o,e,_⟩:=(ow.at' i).ru b hb2;have e1:=u1.same _ _ e
     rcases wap.mp hb with rfl|hb
     .rw[hD] at e1;cases e1
     .rw[(hA2 b hb).2.1] at e1;cases e1
 .rw[if_neg hl] at eB;cases eB
end
section
variable {X:Cx}{K:Fg}{H H' H1 H2 Hz:Hp}{J J' J1 J2 Jz:Addr->Prop}{Z Z' Z2:En}{Y Y2:L2.St}{O:Pr}{fp:Nat->List Addr}
def zrU:SV->Bool
|.own _ _=>true
|_=>false
def zhp (Z:En):Bool:=Z.all λs=>!zrU s
def zjv (h:zhp Z=true)(i n:Nat)(d:D):Z[i]?≠some (.own n d):=λe=>by
 have:=waB.mp h _ (way e)
 cases this
def ST.re (s:ST K Hz Jz O Z Y H J)(w:Ow K Hz O Z Y H J fp)(no:zhp Z=true):ST K H J ⟨O.ps,fp⟩ Z Y H J where
 same:=λ_ _ _ h=>h
 j0:=λ_ h=>h
 jn:=λ_ h=>.inl h
 ja:=s.ja
 len:=s.len
 vl:=s.vl
 ow:=⟨fp,λi=>by
  have q:=w.at' i
  match z:Z[i]?,q with
 |some (.own n d),_=>exact absurd z (zjv no i n d)
 |some (.par n d),q=>exact⟨q.1,λb hb=>.inr hb⟩
 |none,q=>exact q
 |some .un,q=>exact q
 |some (.val _),q=>exact q,w.nd,w.nj,w.dj⟩
 ps:=s.ps
 al:=λ_ h=>h
def Ow.free (s:ST K Hz Jz O Z Y H J)(w:Ow K Hz O Z Y H J fp)(i:Nat):∀b∈fp i,Hz b=none\/b∈O.fpo i:=λb hb=>by
 have q:=w.at' i
 match z:Z[i]?,q with
|some (.own n d),q=>exact .inl (q.2 b hb)
|some (.par n d),q=>exact q.2 b hb
|none,q=>rw[show fp i = [] from q] at hb;cases hb
|some .un,q=>rw[show fp i = [] from q] at hb;cases hb
|some (.val _),q=>rw[show fp i = [] from q] at hb;cases hb
def ST.back (s:ST K Hz Jz O Z Y H J){b:Addr}(h:H b=none):Hz b=none:=by
 cases e:Hz b with
|none=>rfl
|some o=>exact absurd h (s.al b (by rw[e];simp))
def Ow.trans {fp2:Nat->List Addr}(s:ST K Hz Jz O Z Y H J)(w:Ow K Hz O Z Y H J fp)(w2:Ow K H ⟨O.ps,fp⟩ Z2 Y2 H2 J2 fp2):Ow K Hz O Z2 Y2 H2 J2 fp2:=
 ⟨λi=>by
  have q:=w2.at' i
  match z:Z2[i]?,q with
 |some (.own n d),q=>exact⟨q.1,λb hb=>s.back (q.2 b hb)⟩
 |some (.par n d),q=>
    refine⟨q.1,λb hb=>?_⟩;rcases q.2 b hb with h|h
    .exact .inl (s.back h)
    .exact w.free s i b h
 |none,q=>exact q
 |some .un,q=>exact q
 |some (.val _),q=>exact q,w2.nd,w2.nj,w2.dj⟩
theorem ST.trans (s:ST K Hz Jz O Z Y H J)(w:Ow K Hz O Z Y H J fp)(s2:ST K H J ⟨O.ps,fp⟩ Z2 Y2 H2 J2):ST K Hz Jz O Z2 Y2 H2 J2 where
 same:=λb o hb h=>s2.same b o (λ⟨i,hi⟩=>by
  rcases w.free s i b hi with h'|h'
  .rw[h'] at h;cases h
  .exact hb ⟨i,h'⟩) (s.same b o hb h)
 j0:=λa h=>s2.j0 a (s.j0 a h)
 jn:=λa h=>by
  rcases s2.jn a h with h|h
  .exact s.jn a h
  .exact .inr (s.back h)
 ja:=s2.ja
 len:=s2.len
 vl:=s2.vl
 ow:=let ⟨fp2,w2⟩:=s2.ow;⟨fp2,w.trans s w2⟩
 ps:=s2.ps
 al:=λb h=>s2.al b (s.al b h)
def zjw:Option SV->SV
|some (.val d)=>.val d
|some (.own n d)=>.par n d
|some (.par n d)=>.par n d
|_=>.un
def zbU (Z:En)(fr:List (Option Nat)):En:=fr.map λo=>match o with
|none=>.un
|some j=>zjw (Z[j]?)
def psB (Z:En)(Y:L2.St)(fr:List (Option Nat)):List (Nat×Addr×Nat):=(List.range fr.length).filterMap λk=>match fr[k]? with
|some (some j)=>psAt k (some ((ownD (Z[j]?)).map (·.1))) ((Y[j]?).join)
|_=>none
def fpB (fp:Nat->List Addr)(fr:List (Option Nat)):Nat->List Addr:=λk=>match fr[k]? with
|some (some j)=>fp j
|_=>[]
theorem zjx:∀{fr:List (Option Nat)}{k l j:Nat},(fr.filterMap id).Nodup->fr[k]?=some (some j)->fr[l]?=some (some j)->k=l
|none::fr,0,_,_,_,h,_=>by simp at h
|none::fr,k+1,0,_,_,_,h=>by simp at h
|none::fr,k+1,l+1,j,nd,h1,h2=>by rw[zjx (fr:=fr) (k:=k) (l:=l) (j:=j) (by simpa using nd) (by simpa using h1) (by simpa using h2)]
|some x::fr,0,0,_,_,_,_=>rfl
|some x::fr,0,l+1,j,nd,h1,h2=>by
   simp at h1;subst h1;have:x∈fr.filterMap id:=wbu.mpr ⟨some x,way (by simpa using h2),rfl⟩
   simp at nd this;exact absurd this nd.1
|some x::fr,k+1,0,j,nd,h1,h2=>by
   simp at h2;subst h2;have:x∈fr.filterMap id:=wbu.mpr ⟨some x,way (by simpa using h1),rfl⟩
   simp at nd this;exact absurd this nd.1
|some x::fr,k+1,l+1,j,nd,h1,h2=>by
   rw[zjx (fr:=fr) (k:=k) (l:=l) (j:=j) (by have:=nd;simp at this;simpa using this.2) (by simpa using h1) (by simpa using h2)]
|[],_,_,_,_,h,_=>by simp at h
def zc5 {fr:List (Option Nat)}{k:Nat}:(zbU Z fr)[k]?=match fr[k]? with
|some none=>some .un
|some (some j)=>some (zjw (Z[j]?))
|none=>none:=by
 unfold zbU;rw[wah];cases fr[k]? with
|none=>rfl
|some o=>cases o <;> rfl
def zdL {fr:List (Option Nat)}{k j:Nat}(h:fr[k]?=some (some j)):(pick Y fr)[k]?=some ((Y[j]?).join):=by
 unfold pick;rw[wah,h];rfl
def zgH (Z:En)(fr:List (Option Nat)):zhp (zbU Z fr)=true:=by
 unfold zhp;rw[waB];intro s hs;obtain⟨o,_,rfl⟩:=waE.mp hs;cases o with
|none=>rfl
|some j=>cases z:Z[j]? with
  |none=>simp only[z];rfl
  |some y=>simp only[z];cases y <;> rfl
def ST.block {fr:List (Option Nat)}(s:ST K Hz Jz O Z Y H J)(w:Ow K Hz O Z Y H J fp)(hi:(fr.filterMap id).Nodup):ST K H J ⟨psB Z Y fr,fpB fp fr⟩ (zbU Z fr) (L2.pick Y fr) H J where
 same:=λ_ _ _ h=>h
 j0:=λ_ h=>h
 jn:=λ_ h=>.inl h
 ja:=s.ja
 al:=λ_ h=>h
 len:=by rw[zhn];simp[zbU]
 vl:=λk d h=>by
  rw[zc5] at h;cases z:fr[k]? with
 |none=>rw[z] at h;cases h
 |some o=>
    rw[z] at h;cases o with
   |none=>cases h
   |some j=>
      simp only[Option.some.injEq] at h;cases y:Z[j]? with
     |none=>rw[y] at h;cases h
     |some x=>
        rw[y] at h;cases x with
       |val d'=>
          cases h;obtain⟨v,hv,r⟩:=s.vl j d y;refine⟨v,?_,r⟩;rw[zdL z,hv];rfl
       |_=>cases h
 ow:=by
  refine⟨fpB fp fr,λk=>?_,λk=>?_,λk b hb=>?_,λk l ne b hb hb2=>?_⟩
  .rw[zc5];show OwAt K H H J (fpB fp fr k) _ (fpB fp fr k) _
   cases z:fr[k]? with
  |none=>rw[show fpB fp fr k = [] by unfold fpB;rw[z]];rfl
  |some o=>
     cases o with
    |none=>rw[show fpB fp fr k = [] by unfold fpB;rw[z]];rfl
    |some j=>
       rw[show fpB fp fr k=fp j by unfold fpB;rw[z]];show OwAt K H H J (fp j) ((L2.pick Y fr)[k]?) (fp j) (some (zjw (Z[j]?)))
       have q:=w.at' j
       match y:Z[j]?,q with
      |some (.own n d),q=>
         obtain⟨⟨v,e,r⟩,_⟩:=q;exact⟨⟨v,by rw[zdL z,e];rfl,r⟩,λb hb=>.inr hb⟩
      |some (.par n d),q=>
         obtain⟨⟨v,e,r⟩,_⟩:=q;exact⟨⟨v,by rw[zdL z,e];rfl,r⟩,λb hb=>.inr hb⟩
      |none,q=>exact q
      |some .un,q=>exact q
      |some (.val _),q=>exact q
  .unfold fpB;split
   .exact w.nd _
   .exact wbb
  .unfold fpB at hb;split at hb
   .exact w.nj _ b hb
   .cases hb
  .unfold fpB at hb hb2;split at hb
   .rename_i j hj
    split at hb2
    .rename_i j' hj'
     by_cases e:j=j'
     .subst e;exact ne (zjx hi hj hj')
     .exact w.dj j j' e b hb hb2
    .cases hb2
   .cases hb
 ps:=λq hq=>by
  unfold psB at hq;obtain⟨k,_,h⟩:=wbu.mp hq;split at h
  .rename_i j hj
   unfold psAt at h;split at h
   .rename_i n a h1 h2
    cases h;refine⟨by rw[zdL hj,h2],?_⟩;rw[zc5,hj];have h1':(ownD (Z[j]?)).map (·.1)=some n:=by simpa using h1
    match y:Z[j]?,h1' with
   |some (.own m d),h1'=>cases h1';exact⟨d,by show some (zjw (Z[j]?))=_;rw[y];rfl⟩
   |some (.par m d),h1'=>cases h1';exact⟨d,by show some (zjw (Z[j]?))=_;rw[y];rfl⟩
   .cases h
  .cases h
def ST.atO {D:Addr}{ys:List V}{o:HO}(s:ST K Hz Jz O Z Y H J)(w:Ow K Hz O Z Y H J fp)(hD:H D=some (.lst ys))(nj:¬J D)(h0:Hz D=none)(nf:∀i,D∉fp i):ST K Hz Jz O Z Y (upd H D o) J/\Ow K Hz O Z Y (upd H D o) J fp:=by
 have w':Ow K Hz O Z Y (upd H D o) J fp:=⟨λi=>(w.at' i).keep (zbD hD nj) λb hb o' ho=>by rw[zaf (show b≠D from λz=>nf i (z▸hb))];exact ho,w.nd,w.nj,w.dj⟩
 refine⟨⟨λb u hb h=>?_,s.j0,s.jn,λa h=>?_,s.len,λi d h=>let ⟨v,e,r⟩:=s.vl i d h;⟨v,e,r.keep (zbD hD nj)⟩,⟨fp,w'⟩,s.ps,λa h=>?_⟩,w'⟩
 .rw[zaf (show b≠D from λz=>by rw[z,h0] at h;cases h)];exact s.same b u hb h
 .by_cases e:a=D
  .subst e;rw[zae];simp
  .rw[zaf e];exact s.ja a h
 .by_cases e:a=D
  .subst e;rw[zae];simp
  .rw[zaf e];exact s.al a h
def Ow.up (s:ST K Hz Jz O Z Y H J)(w:Ow K Hz O Z Y H J fp)(u:Up H J H' J'):Ow K Hz O Z Y H' J' fp:=by
 refine⟨λi=>(w.at' i).keep u.keep λb _=>u.same b,w.nd,λi b hb j=>?_,w.dj⟩;rcases u.jn b j with j|j
 .exact w.nj i b hb j
 .obtain⟨o,e,_⟩:=(w.at' i).ru b hb;rw[e] at j;cases j
end
section
variable {X:Cx}{K:Fg}
end
def putKD (ks:List Key)(ds:List D)(j:Key)(d:D):List Key×List D:=if ks.any (λk=>decide (k=j))=true then(ks,(ks.zip ds).map λp=>if p.1=j then d else p.2) else(ks++[j],ds++[d])
section
variable {X:Cx}{K:Fg}{a b c e:Expr}{es:List Expr}{fa fb:FX}{fe fk fv:FE}{fl:FA}{fr:FR}{pos p p2:Pos}
def znR {H:Hp}{J:Addr->Prop}{kvs:List (Key×V)}{ks:List Key}{ds:List D}{j:Key}{v:V}{d:D}(e1:kvs.map (·.1)=ks)(r:RpL K H J (kvs.map (·.2)) ds)(rv:Rp K H J v d) :
 (putK kvs j v).map (·.1)=(putKD ks ds j d).1/\RpL K H J ((putK kvs j v).map (·.2)) (putKD ks ds j d).2:=by
 have hany:(kvs.any λkv=>decide (kv.1=j))=ks.any (λk=>decide (k=j)):=by
  rw[<-e1,List.any_map];rfl
 unfold putK putKD;rw[hany];by_cases h:ks.any (λk=>decide (k=j))=true
 .rw[if_pos h,if_pos h];constructor
  .rw[<-e1,waW];apply List.map_congr_left;intro kv _;simp only[Function.comp];split <;> rfl
  .clear h hany
   show RpL K H J ((kvs.map λkv=>if kv.1=j then(kv.1,v) else kv).map (·.2)) ((ks.zip ds).map λp=>if p.1=j then d else p.2)
   induction kvs generalizing ks ds with
  |nil=>subst e1;cases r;exact .nil
  |cons kv kvs ih=>
     subst e1;cases r with
    |cons h t=>
       simp only[waN,List.zip_cons_cons];refine .cons ?_ (ih rfl t);by_cases hk:kv.1=j
       .simp only[hk,if_true];exact rv
       .simp only[hk,if_false];exact h
 .rw[if_neg h,if_neg h];constructor
  .rw[waH,e1];rfl
  .rw[waH];exact r.append (.cons rv .nil)
def gPutD (i:Nat)(fk:FE)(f:FX):FS:=λZ=>(f Z).bind λq=>(fk q.2).bind λk=>(keyD k).bind λk=>match ownD (q.2[i]?) with
|some (1,.dct ks ds)=>if ks.length<lim then some (.nx (setO q.2 i (.dct (putKD ks ds k q.1).1 (putKD ks ds k q.1).2))) else none
|_=>none
def aRevR (f:FA):FA:=λZ=>(f Z).bind λl=>(a1Int l).bind λj=>if 0<=j/\j<=1000000 then some (zaB 0 j.toNat).reverse else none
def zlp {H:Hp}{J:Addr->Prop}(n:Nat):Src K (Itd ((n:Int) - 1) n) H J (zaB 0 n).reverse:=by
 intro H2 J2 k ja;have hl:(zaB 0 n).length=n:=by simp[zaB]
 rw[wcj,hl];refine⟨wan _,λi d hd=>?_⟩;have hi:i<n:=by
  have:=(wab.mp hd).1
  rwa [wcj,hl] at this
 refine⟨hi,λx H3 y=>?_⟩;obtain⟨rfl,rfl⟩:=y;rw[List.getElem?_reverse (by rw[hl];exact hi),hl] at hd;unfold zaB at hd;rw[wah,wck (by omega)] at hd;cases hd;refine⟨J2,Up.refl ja,?_⟩;have e:(n:Int) - 1 - (i:Int)=0+((n - 1 - i:Nat):Int):=by omega
 rw[e];exact .int _
def znS {tg:Expr}{pos2:Pos}(B:Blt X.mg)(ha:VA X [a] fl)(hg:Gl X "range":=by rfl)(hg2:Gl X "reversed":=by rfl)(hs:sE [a] X.env = [(false,eval a X.env)]:=by rfl)
 (hs2:sE [.Call (.Name "range" p) [a] [] pos] X.env = [(false,eval (.Call (.Name "range" p) [a] [] pos) X.env)]:=by rfl):VI X tg (.Call (.Name "reversed" p2) [.Call (.Name "range" p) [a] [] pos] [] pos2) (aRevR fl):=by
 obtain⟨t,p,g⟩:=ha;refine⟨_,znu hg (B.get "range") hg2 (B.get "reversed") p hs hs2,?_⟩;intro Hz Jz O Z Y H J ds R s e w;obtain⟨l,e1,eA⟩:=bS e;obtain⟨j,e2,eB⟩:=bS eA;by_cases hj:0<=j/\j<=1000000
 .rw[if_pos hj] at eB;cases eB;refine g Hz Jz O Z Y H J _ _ s e1 λvs H1 J1 u1 r1=>?_
  match l,e2,r1 with
 |[.int i],e2,r1=>
    cases e2;cases r1 with
   |cons h t=>
      cases t;cases h;have ej:j - 1=((j.toNat:Nat):Int) - 1:=by omega
      refine⟨j,rfl,by omega,by omega,?_⟩;rw[ej];exact w _ H1 J1 u1 (zlp _)
 .rw[if_neg hj] at eB;cases eB
def isL2:Option (Nat×D)->Bool
|some (2,.lst _)=>true
|_=>false
def xPop (i:Nat):FX:=λZ=>match ownD (Z[i]?) with
|some (1,.lst ds)=>(ds[ds.length - 1]?).bind λd=>some (d,setO Z i (.lst ds.dropLast))
|_=>none
def zmD (i:Nat)(f:FX):FX:=λZ=>if isL1 (ownD (Z[i]?))=true then(f Z).bind λq=>(dInt q.1).bind λk=>match ownD (q.2[i]?) with
|some (1,.lst ds)=>if -1000000<=k/\k<=1000000 then(seqIndex? k ds.length).bind λj=>(ds[j]?).bind λd=>some (d,setO q.2 i (.lst (ds.eraseIdx j))) else none
|_=>none
 else none
end
section
variable {X:Cx}{K:Fg}{fa:FX}{fr:FR}
def znT {i:Nat}{t:TE}(q:GoR K t fr):GoS K (tAsg t (zdE i)) (gOwnR i fr):=by
 intro Hz Jz O Z Y H J o E s e w;obtain⟨⟨r,Z1⟩,e1,eA⟩:=bS e;cases r with
|told d=>cases eA
|new n d=>
   have eA:(if i<Z1.length/\isPar (Z1[i]?)=false then some (Out.nx (Z1.set i (.own n d))) else none)=some o:=eA
   by_cases hi:i<Z1.length/\isPar (Z1[i]?)=false
   .rw[if_pos hi] at eA;cases eA;exact q Hz Jz O Z Y H J _ Z1 _ s e1 λv H' J' s' k r=>w _ H' J' (s'.take r hi.1 (zbd hi.2)) k
   .rw[if_neg hi] at eA;cases eA
def zlq (N:List Str)(st:Stmt){i:Nat}{x:Str}{elt qb tg:Expr}{scope:Scope}{pos pos' cp:Pos}{NC:List Str}(fr:List (Option Nat)){fi:FA}{g:FG}{is:List Nat}{fe:FA}(hND:X.N.Nodup)(hix:X.N[i]?=some x)(hx:Loc X.env.scope x)(qm:X.calm=true)(hi:VI X tg qb fi)
 (ql:∀x,X.env.scope.names.lookup x=some .cell->∃c,X.env.cells.lookup x=some c) (hfk:X.env.scope.kind=.function) (hN:X.N=N) (hsc:X.env.scope.names=(zab st).names)
 (qj:∀y∈scope.names,y.2=.free->(zab st).names.lookup y.1=some .cell) (qg:∀y∈scope.names,y.2≠.cell) (qh:scope.kind=.function) (qi:∀y∈scope.names,y.2=.local->scope.names.lookup y.1=some .local)
 (qD:zbS N (zab st).names scope.names NC fr=true) (qe:fr.length=NC.length) (hap:apart is fr=true)
 (hg:∀cl C s0 H0 ex pn,VG (cxC X scope cl NC C s0 H0 ex pn) tg is g) (he:∀cl C s0 H0 ex pn,VN (cxC X scope cl NC C s0 H0 ex pn) elt fe)
 (hs:∀x,fSI qb X.env x=pure x:=by intro _;rfl) (hsw:sWw (.ListComp elt [⟨tg,qb,[],0⟩] scope cp) (some (.Name x pos')) pos.line X.env=pure true:=by rfl)
 (hf:X.fn x=true\/X.env.scope.names.lookup x=some .local:=by first|exact .inl rfl|exact .inr rfl|assumption) :
 VS X (.Assign [.Name x pos'] (.ListComp elt [⟨tg,qb,[],0⟩] scope cp) pos) (gOwnR i (zmC fr fi g fe)):=by
 obtain⟨wi,pi,gi⟩:=hi;obtain⟨_,_,hon,_⟩:=hg [] 0 X.s₀ X.Hz [] [];have p:=znv N st (i:=i) (pos:=pos) (pos':=pos') (cp:=cp) fr hND hix hx qm pi ql hfk hN hsc qj qg qh qi qD qe (λcl C s0 H0 ex pn=>show PG (cxC X scope cl NC C s0 H0 ex pn) tg (TGof X.K g) from(hg cl C s0 H0 ex pn).of) (λcl C s0 H0 ex pn=>show PTs (cxC X scope cl NC C s0 H0 ex pn) [] (TTof X.K tTrue) from zcR) (λcl C s0 H0 ex pn=>show PE (cxC X scope cl NC C s0 H0 ex pn) elt (TNof X.K fe) from(he cl C s0 H0 ex pn).of) hs hsw hf
 exact⟨_,p,znT (zlo gi hon hap)⟩
def vrC (i:Nat){scope:Scope}{cl:List (Str×Addr)}{NC:List Str}{C:Addr}{s0:Sd}{H0:Hp}{ex:List Addr}{pn:List (Addr×Obj)}{x:Str}{pos:Pos}(hi:NC[i]?=some x)(hfk:X.env.scope.kind=.function)
 (h1:scope.names.lookup x=some .free) (h2:X.env.scope.names.lookup x=some .cell) (hd:(x == ("__debug__":Str))=false:=by decide) (hcd:(x == ("__classdict__":Str))=false:=by decide):VW (cxC X scope cl NC C s0 H0 ex pn) (.Name x pos) (eRd i):=
 ⟨_,pvC i hi hfk h1 h2 hd hcd,zpF⟩
end
def znU (Z:En)(i:Nat):En:=if isPar (Z[i]?)=false then Z.set i .un else Z
def dropE (is:List Nat)(Z:En):En:=is.foldl znU Z
theorem ST.dropE {K:Fg}{Hz H:Hp}{Jz J:Addr->Prop}{O:Pr}{Y:L2.St}:∀(is:List Nat) {Z:En},ST K Hz Jz O Z Y H J->ST K Hz Jz O (dropE is Z) Y H J
|[],_,s=>s
|i::is,Z,s=>by
   refine ST.dropE is (Z:=znU Z i) ?_;unfold znU;by_cases h:isPar (Z[i]?)=false
   .rw[if_pos h];exact s.drop λn d z=>by rw[z] at h;cases h
   .rw[if_neg h];exact s
def znV (is:List Nat)(g:FS):FS:=λZ=>g (dropE is Z)
section
variable {X:Cx}{sts:List Stmt}{g:FS}
def za5 (is:List Nat)(h:VSs X sts g):VSs X sts (znV is g):=by
 obtain⟨t,p,q⟩:=h;exact⟨t,p,λHz Jz O Z Y H J o E s e w=>q Hz Jz O _ Y H J o E (s.dropE is) e w⟩
end
def EvS {R A:Type}(k:Out->Option R)(B:A->Option R)(g:FS)(Z:En)(a:Option A):Prop:=∀r,a.bind B=some r->(g Z).bind k=some r
def Step {C:Type}(g:FS)(Z:En)(x:Option C)(Z':C->En):Prop:=∀d,x=some d->g Z=some (.nx (Z' d))
def okS (i:Nat)(Z:En):Bool:=decide (i<Z.length) && !isPar (Z[i]?)
def zdC {i:Nat}{Z:En}(h:okS i Z=true):i<Z.length/\isPar (Z[i]?)=false:=by
 unfold okS at h;simpa using h
section
variable {R A C S:Type}{k:Out->Option R}{B:A->Option R}{g g2 a b:FS}{Z:En}{x:Option C}{Z':C->En}{c:FT}{e:FE}{fl:FA}
def zaa {B A:Type}{x:Option B}{f:B->Option A}{r:A}(h:x.bind f=some r):∃y,x=some y/\f y=some r:=by
 cases x with
|none=>cases h
|some y=>exact⟨y,rfl,h⟩
def zah {K:C->Option A}(s:Step g Z x Z')(h:∀d,EvS k B g2 (Z' d) (K d)):EvS k B (gSeq g g2) Z (x.bind K):=λr e=>by
 obtain⟨y,e,e2⟩:=zaa e;obtain⟨d,e0,e⟩:=zaa e;unfold gSeq;rw[s d e0];exact h d r (by rw[e];exact e2)
def zp4 {K:C->Option A}(s:Step g Z x Z')(h:∀d r,(K d).bind B=some r->k (.nx (Z' d))=some r):EvS k B g Z (x.bind K):=λr e=>by
 obtain⟨y,e,e2⟩:=zaa e;obtain⟨d,e0,e⟩:=zaa e;rw[s d e0];exact h d r (by rw[e];exact e2)
def za6 {a:Option A}(h:∀r,a.bind B=some r->k (.nx Z)=some r):EvS k B gNx Z a:=λr e=>h r e
def zbE {a:Option A}(h:EvS k B g Z a):EvS k B (gSeq gNx g) Z a:=h
def zhq (i:Nat){a:Option A}(h:EvS k B g (frzE i Z) a):EvS k B (λZ=>g (frzE i Z)) Z a:=h
def zba (is:List Nat){a:Option A}(h:EvS k B g (dropE is Z) a):EvS k B (znV is g) Z a:=h
def zrV {a' b':Option A}(h1:EvS k B a Z a')(h2:EvS k B b Z b'):EvS k B (gIf c a b) Z ((c Z).bind λt=>if t then a' else b'):=λr e=>by
 obtain⟨y,e,e2⟩:=zaa e;obtain⟨t,e0,e⟩:=zaa e;unfold gIf;rw[e0,zOB];cases t with
|true=>exact h1 r (by rw[if_pos rfl] at e;rw[e];exact e2)
|false=>exact h2 r (by rw[if_neg (by decide)] at e;rw[e];exact e2)
def kx (k:Out->Option R):Out->Option R
|.nx _=>none
|o=>k o
def zmE {r:R}(h:(a Z).bind (kx k)=some r):(gSeq a g Z).bind k=some r:=by
 unfold gSeq;cases z:a Z with
|none=>rw[z] at h;cases h
|some o=>rw[z] at h;cases o <;> first|cases h|exact h
def zaQ {a' b':Option A}(h1:EvS (kx k) B a Z a')(h2:EvS k B (gSeq b g) Z b'):EvS k B (gSeq (gIf c a b) g) Z ((c Z).bind λt=>if t then a' else b'):=λr e=>by
 obtain⟨y,e,e2⟩:=zaa e;obtain⟨t,e0,e⟩:=zaa e;cases t with
|true=>
   have:=zmE (g:=g) (h1 r (by rw[if_pos rfl] at e;rw[e];exact e2))
   unfold gSeq gIf at *;rw[e0];exact this
|false=>
   have:=h2 r (by rw[if_neg (by decide)] at e;rw[e];exact e2)
   unfold gSeq gIf at *;rw[e0];exact this
def zfM {a':Option A}(h:a'=none):EvS k B gNo Z a':=λr e=>by rw[h] at e;cases e
def zar {K:D->Option A}(h:∀d r,(K d).bind B=some r->k (.ret (.told d) Z)=some r):EvS k B (gRet e) Z ((e Z).bind K):=λr z=>by
 obtain⟨y,z,z2⟩:=zaa z;obtain⟨d,e0,z⟩:=zaa z;unfold gRet;rw[e0];exact h d r (by rw[z];exact z2)
def zjy {K:List D->Option A}(h:∀ds r,(K ds).bind B=some r->k (.ret (.new 1 (.lst ds)) Z)=some r):EvS k B (gRetN fl) Z ((fl Z).bind K):=λr z=>by
 obtain⟨y,z,z2⟩:=zaa z;obtain⟨d,e0,z⟩:=zaa z;unfold gRetN;rw[e0];exact h d r (by rw[z];exact z2)
def zp5 {a':Option A}(h:∀r,a'.bind B=some r->k (.ct Z)=some r):EvS k B gCt Z a':=λr e=>h r e
def zas {i:Nat}(h:okS i Z=true):Step (gSet i e) Z (e Z) λd=>Z.set i (.val d):=λd z=>by
 unfold gSet;rw[z,zOB,if_pos (zdC h)]
def znW:Step (gEx e) Z (e Z) λ_=>Z:=λd z=>by unfold gEx;rw[z];rfl
def zc6 {i:Nat}(h:okS i Z=true):Step (gOwn i fl) Z (fl Z) λds=>Z.set i (.own 1 (.lst ds)):=λd z=>by
 unfold gOwn;rw[z,zOB,if_pos (zdC h)]
def appL (xs:List D)(d:D):Option (List D):=if xs.length<lim then some (xs++[d]) else none
def extL (xs:List D)(d:D):Option (List D):=match d with|.lst es=>if(xs++es).length<=lim then some (xs++es) else none|_=>none
def zfN {i:Nat}{xs:List D}(h:ownD (Z[i]?)=some (1,.lst xs)):Step (gApp i e) Z ((e Z).bind (appL xs)) λys=>setO Z i (.lst ys):=λd z=>by
 obtain⟨y,e0,z⟩:=zaa z;unfold gApp;rw[e0,zOB,h];unfold appL at z;split at z
 .rename_i q;cases z;exact if_pos q
 .cases z
def zmF {i:Nat}{xs:List D}(h:ownD (Z[i]?)=some (1,.lst xs)):Step (gExt i e) Z ((e Z).bind (extL xs)) λys=>setO Z i (.lst ys):=λd z=>by
 obtain⟨y,e0,z⟩:=zaa z;unfold gExt;rw[e0,zOB,h];unfold extL at z;cases y <;> try cases z
 rename_i es
 have z:(if(xs++es).length<=lim then some (xs++es) else none)=some d:=z
 split at z
 .rename_i q;cases z;exact if_pos q
 .cases z
def k0:Out->Option En
|.nx Z=>some Z
|_=>none
def kL:Out->Option En
|.nx Z=>some Z
|.ct Z=>some Z
|_=>none
def zp6 {emb:S->En}{a' b':Option S}(h1:EvS k0 (λs=>some (emb s)) a Z a')(h2:EvS k0 (λs=>some (emb s)) b Z b'):Step (gIf c a b) Z ((c Z).bind λt=>if t then a' else b') emb:=λs z=>by
 have:=zrV (c:=c) h1 h2 (emb s) (by rw[z];rfl)
 obtain⟨o,e1,e2⟩:=zaa this;rw[e1];cases o <;> cases e2
 rfl
end
def Tg {C:Type}(tg:FG)(d:D)(Z:En)(x:Option C)(Z':C->En):Prop:=∀y,x=some y->tg d Z=some (Z' y)
section
variable {d:D}{Z:En}
def tg_n {i:Nat}(h:okS i Z=true):Tg (gN i) d Z (some d) λd=>Z.set i (.val d):=λy e=>by
 cases e;unfold gN;rw[if_pos (zdC h)]
def un2:D->Option (D×D)
|.tup [a,b]=>some (a,b)
|_=>none
def zlr {d:D}{y:D×D}(h:un2 d=some y):d=.tup [y.1,y.2]:=by
 unfold un2 at h;split at h
 .cases h;rfl
 .cases h
def zfO {i:Nat}{d:D}{Z:En}(h:okS i Z=true):gN i d Z=some (Z.set i (.val d)):=by unfold gN;rw[if_pos (zdC h)]
def tg_2 {i j:Nat}(h1:okS i Z=true)(h2:∀x,okS j (Z.set i (.val x))=true):Tg (gT 2 (gCons' (gN i) (gCons' (gN j) gNil'))) d Z (un2 d) λy=>(Z.set i (.val y.1)).set j (.val y.2):=λy e=>by
 rw[zlr e];show((gN i y.1 Z).bind λZ1=>(gN j y.2 Z1).bind λZ2=>gNil' [] Z2)=_
 rw[zfO h1,zOB,zfO (h2 _)];rfl
def zp7 {C:Type}{e:FE}{tg:FG}{x:D->Option C}{Z':C->En}(h:∀d,Tg tg d Z (x d) Z'):Step (gAsg e tg) Z ((e Z).bind x) Z':=λy z=>by
 obtain⟨d,e0,z⟩:=zaa z;unfold gAsg;rw[e0,zOB,h d y z];rfl
end
def zaW {S:Type}(f:S->D->Option S):S->List D->Option S
|s,[]=>some s
|s,d::ds=>(f s d).bind λs=>zaW f s ds
def zmG {C S:Type}{Z:En}{fi:FA}{tg:FG}{b:FS}{x:D->Option C}{emb:S->En}{Z1:S->C->En}{step:S->C->Option S}{s0:S}(h0:emb s0=Z)(ht:∀s d,Tg tg d (emb s) (x d) (Z1 s))(hb:∀s y,EvS kL (λs=>some (emb s)) b (Z1 s y) (step s y)) :
 Step (gFor fi tg b) Z ((fi Z).bind (zaW (λs d=>(x d).bind (step s)) s0)) emb:=λs z=>by
 have key:∀(ds:List D) (s0:S),zaW (λs d=>(x d).bind (step s)) s0 ds=some s->forL tg b ds (emb s0)=some (.nx (emb s)):=by
  intro ds;induction ds with
 |nil=>intro s0 q;cases q;rfl
 |cons d ds ih=>
    intro s0 q;obtain⟨s1,e1,q1⟩:=zaa q;obtain⟨y,e2,e5⟩:=zaa e1;have hb1:=hb s0 y (emb s1) (by rw[e5];rfl)
    obtain⟨o,e3,e4⟩:=zaa hb1;unfold forL;rw[ht s0 d y e2,zOB,e3,zOB];cases o <;> cases e4 <;> exact ih _ q1
 obtain⟨ds,e0,z1⟩:=zaa z;unfold gFor;rw[e0,zOB,<-h0];exact key ds s0 z1
inductive Fl (S A:Type) where
|nx (s:S)|bk (s:S)|ret (a:A)
def zeu {S A:Type}(f:S->D->Option (Fl S A)):S->List D->Option (Fl S A)
|s,[]=>some (.nx s)
|s,d::ds=>(f s d).bind λo=>match o with
  |.nx s=>zeu f s ds
  |.bk s=>some (.nx s)
  |.ret a=>some (.ret a)
def kR {R:Type}(k:Out->Option R):Out->Option (Fl En R)
|.nx Z=>some (.nx Z)
|.ct Z=>some (.nx Z)
|.bk Z=>some (.bk Z)
|.ret v Z=>(k (.ret v Z)).map .ret
def fR {S A R:Type}(B:A->Option R)(emb:S->En):Fl S A->Option (Fl En R)
|.nx s=>some (.nx (emb s))
|.bk s=>some (.bk (emb s))
|.ret a=>(B a).map .ret
def zmH {C S A R:Type}{k:Out->Option R}{B:A->Option R}{Z:En}{fi:FA}{tg:FG}{b g:FS}{x:D->Option C}{emb:S->En}{Z1:S->C->En}{step:S->C->Option (Fl S A)}{K:S->Option A}{s0:S}(h0:emb s0=Z)(ht:∀s d,Tg tg d (emb s) (x d) (Z1 s))(hb:∀s y,EvS (kR k) (fR B emb) b (Z1 s y) (step s y))(hk:∀s,EvS k B g (emb s) (K s)) :
 EvS k B (gSeq (gFor fi tg b) g) Z ((fi Z).bind λds=>(zeu (λs d=>(x d).bind (step s)) s0 ds).bind λo=>match o with|.nx s=>K s|.bk s=>K s|.ret a=>some a):=λr z=>by
 have key:∀(ds:List D) (s0:S) (v:A) (o:Fl S A),zeu (λs d=>(x d).bind (step s)) s0 ds=some o->(match o with|.nx s=>K s|.bk s=>K s|.ret a=>some a)=some v->B v=some r->((forL tg b ds (emb s0)).bind λo=>match o with|.nx Z'=>g Z'|.bk Z'=>some (.bk Z')|.ct Z'=>some (.ct Z')|.ret d Z'=>some (.ret d Z')).bind k=some r:=by
  intro ds;induction ds with
 |nil=>
    intro s0 v o q1 q2 q3;cases q1;exact hk s0 r (by rw[show K s0=some v from q2];exact q3)
 |cons d ds ih=>
    intro s0 v o q1 q2 q3;obtain⟨o1,e1,q4⟩:=zaa q1;obtain⟨y,e2,e5⟩:=zaa e1;unfold forL;rw[ht s0 d y e2,zOB];cases o1 with
   |nx s1=>
      have hb1:=hb s0 y (.nx (emb s1)) (by rw[e5];rfl)
      obtain⟨ob,e3,e4⟩:=zaa hb1;rw[e3,zOB];have ih:=ih s1 v o q4 q2 q3
      cases ob with
     |nx Z2=>cases e4;exact ih
     |ct Z2=>cases e4;exact ih
     |bk Z2=>cases e4
     |ret v Z2=>
        have e4:(k (.ret v Z2)).map Fl.ret=some (Fl.nx (emb s1)):=e4
        cases h:k (.ret v Z2) <;> rw[h] at e4 <;> cases e4
   |bk s1=>
      cases q4;have q2:K s1=some v:=q2
      have hb1:=hb s0 y (.bk (emb s1)) (by rw[e5];rfl)
      obtain⟨ob,e3,e4⟩:=zaa hb1;rw[e3,zOB];cases ob with
     |nx Z2=>cases e4
     |ct Z2=>cases e4
     |bk Z2=>cases e4;exact hk s1 r (by rw[q2];exact q3)
     |ret v Z2=>
        have e4:(k (.ret v Z2)).map Fl.ret=some (Fl.bk (emb s1)):=e4
        cases h:k (.ret v Z2) <;> rw[h] at e4 <;> cases e4
   |ret a=>
      cases q4;cases q2;have hb1:=hb s0 y (.ret r) (by rw[e5];show(B _).map Fl.ret=_;rw[q3];rfl)
      obtain⟨ob,e3,e4⟩:=zaa hb1;rw[e3,zOB];cases ob with
     |nx Z2=>cases e4
     |ct Z2=>cases e4
     |bk Z2=>cases e4
     |ret v Z2=>
        have e4:(k (.ret v Z2)).map Fl.ret=some (Fl.ret r):=e4
        cases h:k (.ret v Z2) with
       |none=>rw[h] at e4;cases e4
       |some r'=>rw[h] at e4;cases e4;exact h
 obtain⟨v,z1,z2⟩:=zaa z;obtain⟨ds,e0,z3⟩:=zaa z1;obtain⟨o,z4,z5⟩:=zaa z3;unfold gSeq gFor;rw[e0,zOB,<-h0];exact key ds s0 v o z4 z5 z2
def zp8 {S:Type}(c:S->Option Bool)(f:S->Option S):Nat->S->Option S
|0,_=>none
|n+1,s=>(c s).bind λt=>if t then(f s).bind λs=>zp8 c f n s else some s
def zeG {S A:Type}(c:S->Option Bool)(f:S->Option (Fl S A)):Nat->S->Option (Fl S A)
|0,_=>none
|n+1,s=>(c s).bind λt=>if t then(f s).bind λo=>match o with
  |.nx s=>zeG c f n s
  |.bk s=>some (.nx s)
  |.ret a=>some (.ret a)
   else some (.nx s)
def zls {S A R:Type}{k:Out->Option R}{B:A->Option R}{Z:En}{c:FT}{b g:FS}{fuel:En->Nat}{emb:S->En}{test:S->Option Bool}{step:S->Option (Fl S A)}{n:S->Nat}{K:S->Option A}{s0:S}(h0:emb s0=Z)(hn:n s0=fuel Z)(hc:∀s,c (emb s)=test s)(hb:∀s,EvS (kR k) (fR B emb) b (emb s) (step s))(hk:∀s,EvS k B g (emb s) (K s)) :
 EvS k B (gSeq (gWhile c b fuel) g) Z ((zeG test step (n s0) s0).bind λo=>match o with|.nx s=>K s|.bk s=>K s|.ret a=>some a):=λr z=>by
 have key:∀(m:Nat) (s0:S) (v:A) (o:Fl S A),zeG test step m s0=some o->(match o with|.nx s=>K s|.bk s=>K s|.ret a=>some a)=some v->B v=some r->((zdB c b m (emb s0)).bind λo=>match o with|.nx Z'=>g Z'|.bk Z'=>some (.bk Z')|.ct Z'=>some (.ct Z')|.ret d Z'=>some (.ret d Z')).bind k=some r:=by
  intro m;induction m with
 |zero=>intro s0 v o q;cases q
 |succ m ih=>
    intro s0 v o q1 q2 q3;obtain⟨t,e0,q4⟩:=zaa q1;unfold zdB;rw[hc,e0,zOB];cases t with
   |false=>
      cases q4;exact hk s0 r (by rw[show K s0=some v from q2];exact q3)
   |true=>
      obtain⟨o1,e1,q5⟩:=zaa (show(step s0).bind _=some o from q4);rw[if_pos rfl];cases o1 with
     |nx s1=>
        have hb1:=hb s0 (.nx (emb s1)) (by rw[e1];rfl)
        obtain⟨ob,e3,e4⟩:=zaa hb1;rw[e3,zOB];have ih:=ih s1 v o q5 q2 q3
        cases ob with
       |nx Z2=>cases e4;exact ih
       |ct Z2=>cases e4;exact ih
       |bk Z2=>cases e4
       |ret v Z2=>
          have e4:(k (.ret v Z2)).map Fl.ret=some (Fl.nx (emb s1)):=e4
          cases h:k (.ret v Z2) <;> rw[h] at e4 <;> cases e4
     |bk s1=>
        cases q5;have q2:K s1=some v:=q2
        have hb1:=hb s0 (.bk (emb s1)) (by rw[e1];rfl)
        obtain⟨ob,e3,e4⟩:=zaa hb1;rw[e3,zOB];cases ob with
       |nx Z2=>cases e4
       |ct Z2=>cases e4
       |bk Z2=>cases e4;exact hk s1 r (by rw[q2];exact q3)
       |ret v Z2=>
          have e4:(k (.ret v Z2)).map Fl.ret=some (Fl.bk (emb s1)):=e4
          cases h:k (.ret v Z2) <;> rw[h] at e4 <;> cases e4
     |ret a=>
        cases q5;cases q2;have hb1:=hb s0 (.ret r) (by rw[e1];show(B _).map Fl.ret=_;rw[q3];rfl)
        obtain⟨ob,e3,e4⟩:=zaa hb1;rw[e3,zOB];cases ob with
       |nx Z2=>cases e4
       |ct Z2=>cases e4
       |bk Z2=>cases e4
       |ret v Z2=>
          have e4:(k (.ret v Z2)).map Fl.ret=some (Fl.ret r):=e4
          cases h:k (.ret v Z2) with
         |none=>rw[h] at e4;cases e4
         |some r'=>rw[h] at e4;cases e4;exact h
 obtain⟨v,z1,z2⟩:=zaa z;obtain⟨o,z4,z5⟩:=zaa z1;unfold gSeq gWhile;rw[<-hn,<-h0];exact key _ s0 v o z4 z5 z2
def aC (x:Option D)(xs:Option (List D)):Option (List D):=x.bind λd=>xs.bind λds=>some (d::ds)
def aN:Option (List D):=some []
def zbq (f:D->Option (Option D))(ds:List D):Option (List D):=(zbT f ds).bind λout=>if out.length<=lim then some out else none
def zrW (l:List D):Option (List D):=(a1Tup l).bind λds=>some (zdF ds)
def rngA (l:List D):Option (List D):=(a1Int l).bind λj=>if -1000000<=j/\j<=1000000 then some (zaB 0 j.toNat) else none
def zp9 (l:List D):Option (List D):=(a1Int l).bind λj=>if 0<=j/\j<=1000000 then some (zaB 0 j.toNat).reverse else none
def mkLs (ds:List D):Option (List D):=if ds.length<=lim then some ds else none
def flK {S A:Type}(K:S->Option A):Fl S A->Option A
|.nx s=>K s
|.bk s=>K s
|.ret a=>some a
section
variable {C S A R:Type}{k:Out->Option R}{B:A->Option R}{Z:En}{fi:FA}{b g:FS}{emb:S->En}{s0:S}
def ze6 {i:Nat}{step:S->D->Option S}(h0:emb s0=Z)(hi:∀s,okS i (emb s)=true)(hb:∀s d,EvS kL (λs=>some (emb s)) b ((emb s).set i (.val d)) (step s d)) :
 Step (gFor fi (gN i) b) Z ((fi Z).bind (zaW step s0)) emb:=
 zmG (x:=λd=>some d) (step:=step) h0 (λs d=>tg_n (hi s)) hb
def zgI {i j:Nat}{step:S->D×D->Option S}(h0:emb s0=Z)(hi:∀s,okS i (emb s)=true)(hj:∀s x,okS j ((emb s).set i (.val x))=true)(hb:∀s y,EvS kL (λs=>some (emb s)) b (((emb s).set i (.val y.1)).set j (.val y.2)) (step s y)) :
 Step (gFor fi (gT 2 (gCons' (gN i) (gCons' (gN j) gNil'))) b) Z ((fi Z).bind (zaW (λs d=>(un2 d).bind (step s)) s0)) emb:=
 zmG (x:=un2) (step:=step) h0 (λs d=>tg_2 (hi s) (hj s)) hb
def znX {i:Nat}{step:S->D->Option (Fl S A)}{K:S->Option A}(h0:emb s0=Z)(hi:∀s,okS i (emb s)=true)(hb:∀s d,EvS (kR k) (fR B emb) b ((emb s).set i (.val d)) (step s d))(hk:∀s,EvS k B g (emb s) (K s)) :
 EvS k B (gSeq (gFor fi (gN i) b) g) Z ((fi Z).bind λds=>(zeu step s0 ds).bind (flK K)):=λr z=>
 zmH (x:=λd=>some d) (step:=step) h0 (λs d=>tg_n (hi s)) hb hk r (by
  rw[<-z];congr 1)
def znY {i j:Nat}{step:S->D×D->Option (Fl S A)}{K:S->Option A}(h0:emb s0=Z)(hi:∀s,okS i (emb s)=true)(hj:∀s x,okS j ((emb s).set i (.val x))=true)(hb:∀s y,EvS (kR k) (fR B emb) b (((emb s).set i (.val y.1)).set j (.val y.2)) (step s y))(hk:∀s,EvS k B g (emb s) (K s)) :
 EvS k B (gSeq (gFor fi (gT 2 (gCons' (gN i) (gCons' (gN j) gNil'))) b) g) Z ((fi Z).bind λds=>(zeu (λs d=>(un2 d).bind (step s)) s0 ds).bind (flK K)):=λr z=>
 zmH (x:=un2) (step:=step) h0 (λs d=>tg_2 (hi s) (hj s)) hb hk r (by
  rw[<-z];congr 1)
def zjz {c:FT}{n:Nat}{test:S->Option Bool}{step:S->Option (Fl S A)}{K:S->Option A}(h0:emb s0=Z)(hc:∀s,c (emb s)=test s)(hb:∀s,EvS (kR k) (fR B emb) b (emb s) (step s))(hk:∀s,EvS k B g (emb s) (K s)) :
 EvS k B (gSeq (gWhile c b λ_=>n) g) Z ((zeG test step n s0).bind (flK K)):=λr z=>
 zls (n:=λ_=>n) h0 rfl hc hb hk r (by
  rw[<-z];congr 1)
end
def zrX (x k v:D):Option D:=(keyD k).bind λk=>match x with
|.dct ks ds=>if ks.length<lim then some (.dct (putKD ks ds k v).1 (putKD ks ds k v).2) else none
|_=>none
def zrY {i:Nat}{Z:En}{fk f:FE}{x:D}(h:ownD (Z[i]?)=some (1,x)):Step (gPutD i fk (xE f)) Z ((f Z).bind λv=>(fk Z).bind λk=>zrX x k v) λy=>setO Z i y:=λd z=>by
 obtain⟨v,e0,z1⟩:=zaa z;obtain⟨kk,e1,z2⟩:=zaa z1;obtain⟨key,e2,z3⟩:=zaa z2;unfold gPutD xE;rw[e0,zOB,zOB];show(fk Z).bind _=_
 rw[e1,zOB,e2,zOB];show(match ownD (Z[i]?) with|some (1,.dct ks ds)=>_|_=>_)=_
 rw[h];cases x <;> try cases z3
 rename_i ks ds
 have z3:(if ks.length<lim then some (D.dct (putKD ks ds key v).1 (putKD ks ds key v).2) else none)=some d:=z3
 split at z3
 .rename_i q;cases z3;exact if_pos q
 .cases z3
def zjA (xs:List D)(k v:D):Option (List D):=(dInt k).bind λk=>(ixN xs.length k).bind λj=>some (xs.set j v)
def znZ {i:Nat}{Z:En}{fk f:FE}{xs:List D}(h:ownD (Z[i]?)=some (1,.lst xs)):Step (gPutL i fk (xE f)) Z ((f Z).bind λv=>(fk Z).bind λk=>zjA xs k v) λys=>setO Z i (.lst ys):=λd z=>by
 obtain⟨v,e0,z1⟩:=zaa z;obtain⟨kk,e1,z2⟩:=zaa z1;obtain⟨key,e2,z3⟩:=zaa z2;obtain⟨j,e3,z4⟩:=zaa z3;cases z4;unfold gPutL xE;rw[e0,zOB,zOB];show(fk Z).bind _=_
 rw[e1,zOB,e2,zOB];show(match ownD (Z[i]?) with|some (1,.lst ds)=>_|_=>_)=_
 rw[h];show(ixN xs.length key).bind _=_
 rw[e3];rfl
def zn0 {i n:Nat}{Z:En}{f:FR}{x:D}(hf:f Z=some (.new n x,Z))(h:okS i Z=true):Step (gOwnR i f) Z (some ()) λ_=>Z.set i (.own n x):=λd z=>by
 unfold gOwnR;rw[hf,zOB];exact if_pos (zdC h)
def kF:Out->Option D
|.ret (.told d) _=>some d
|.ret (.new _ d) _=>some d
|.nx _=>some .non
|_=>none
section
variable {P:Pm}{w:World}{K:Fg}{mg:Str->Option Vl}{base:Heap}
def zbF {x qual:Str}{st:Stmt}{f:Addr}{fd:Fu}{N ps:List Str}{k:Nat}{c:List D->Option D}(F:Fun K x qual st f fd)(S:FnScope N ps (zab st))(qe:∀ds d,c ds=some d->ds.length=ps.length)
 (qK:∀(cdv:Vl) (A:Ao) (outer:List Env) (s:Sd) (H:Hp) (E:XK),Room k (A.deeper (envOfC qual (zab st) s.heap.objs.size f cdv))->∃g,VSs (cxOf CX0 P w K mg base N qual (zab st) f cdv A outer s H E).nox (zaI st) g/\∀ds,ds.length=ps.length->EvS kF some g (ds.map SV.val++rpl (N.length - ps.length) .un) (c ds)):FnOk P w K mg base CX0 (k+1) f fd ps (spF K c):=by
 refine F.ok S (λvs H Q E h=>?_) (λcdv A outer s H vs Q E hr h=>?_)
 .obtain⟨J,ds,d,ja,r,e,w⟩:=h;rw[r.length];exact qe ds d e
 .obtain⟨J,ds,d,ja,r,e,w⟩:=h;have hl:=qe ds d e
  obtain⟨g,⟨t,p,q⟩,ev⟩:=qK cdv A outer s H E hr;refine⟨t,p,?_⟩;have e:=ev ds hl d (by rw[e];rfl)
  rw[<-hl] at e;have s0:=zdK (N:=N) ja r
  cases z:g (ds.map SV.val++rpl (N.length - ds.length) .un) with
 |none=>rw[z] at e;cases e
 |some o=>
    rw[z] at e;refine q H J Pr.no _ _ H J o _ s0 z ?_;cases o with
   |nx Z'=>cases e;exact λY' H' J' s' k'=>w .non H' J' s'.out .non
   |ret r Z'=>
      cases r with
     |told d'=>cases e;exact λv Y' H' J' s' r'=>w v H' J' s'.out r'
     |new n d'=>
        cases e;rintro v Y' H' J' s' ⟨B,fp,_,ru,_,hb,_⟩;have u:=s'.out
        refine w v H' (λb=>J' b\/b∈B) ⟨u.same,λa h=>.inl (u.jj a h),λa h=>?_,λa h=>?_⟩ (ru.rp (λ_ h=>.inl h) (λb hb=>.inr hb))
        .rcases h with h|h
         .exact u.jn a h
         .exact .inr (hb a h).2
        .rcases h with h|h
         .exact u.ja a h
         .obtain⟨o,e,_⟩:=ru.some a h;rw[e];simp
   |bk _=>cases e
   |ct _=>cases e
end
def c0 (b:Option D):List D->Option D|[]=>b|_=>none
def c1 (b:D->Option D):List D->Option D|[x]=>b x|_=>none
def c2 (b:D->D->Option D):List D->Option D|[x,y]=>b x y|_=>none
def c3 (b:D->D->D->Option D):List D->Option D|[x,y,z]=>b x y z|_=>none
def c4 (b:D->D->D->D->Option D):List D->Option D|[x,y,z,u]=>b x y z u|_=>none
def c5 (b:D->D->D->D->D->Option D):List D->Option D|[x,y,z,u,v]=>b x y z u v|_=>none
def c6 (b:D->D->D->D->D->D->Option D):List D->Option D|[x,y,z,u,v,t]=>b x y z u v t|_=>none
def c1_len {b:D->Option D}:∀ds d,c1 b ds=some d->ds.length=1:=λds d h=>by unfold c1 at h;split at h;rfl;cases h
def zc7 {b:D->D->Option D}:∀ds d,c2 b ds=some d->ds.length=2:=λds d h=>by unfold c2 at h;split at h;rfl;cases h
def zqa {b:D->D->D->Option D}:∀ds d,c3 b ds=some d->ds.length=3:=λds d h=>by unfold c3 at h;split at h;rfl;cases h
section
variable {R:Type}{k:Out->Option R}{B:D->Option R}{g:FS}{n:List SV}
def zck {b:D->Option D}(h:∀x,EvS k B g (.val x::n) (b x)):∀ds:List D,ds.length=1->EvS k B g (ds.map SV.val++n) (c1 b ds)
|[x],_=>h x
def zgJ {b:D->D->Option D}(h:∀x y,EvS k B g (.val x::.val y::n) (b x y)):∀ds:List D,ds.length=2->EvS k B g (ds.map SV.val++n) (c2 b ds)
|[x,y],_=>h x y
def zrZ {b:D->D->D->Option D}(h:∀x y z,EvS k B g (.val x::.val y::.val z::n) (b x y z)):∀ds:List D,ds.length=3->EvS k B g (ds.map SV.val++n) (c3 b ds)
|[x,y,z],_=>h x y z
end
mutual
inductive Rh (h:Heap):Vl->D->Prop
|non:Rh h .none .non
|bl (b:Bool):Rh h (.bool b) (.bl b)
|int (i:Int) (t:Tok):Rh h (.int i t) (.int i)
|str (x:Str) (t:Tok):Rh h (.str x t) (.str x)
|tup {l:Addr}{us:List Vl}{ds:List D}(p:h.IsTuple l us.toArray) (r:RhL h us ds):Rh h (.ref l) (.tup ds)
|lst {l:Addr}{us:List Vl}{ds:List D}(p:h.IsList l us.toArray) (r:RhL h us ds):Rh h (.ref l) (.lst ds)
inductive RhL (h:Heap):List Vl->List D->Prop
|nil:RhL h [] []
|cons {u:Vl}{d:D}{us:List Vl}{ds:List D}(a:Rh h u d) (t:RhL h us ds):RhL h (u::us) (d::ds)
end
mutual
def ndD:D->Bool
|.dct _ _=>false
|.scr _=>false
|.exc _ _ _=>false
|.dcu _ _=>false
|.tup ds=>ndL ds
|.lst ds=>ndL ds
|_=>true
def ndL:List D->Bool
|[]=>true
|d::ds=>ndD d&&ndL ds
end
mutual
def depD:D->Nat
|.tup ds=>depL ds+1
|.lst ds=>depL ds+1
|_=>0
def depL:List D->Nat
|[]=>0
|d::ds=>max (depD d) (depL ds)
end
mutual
def eqOk:D->D->Bool
|.non,.non=>true
|.non,.int _=>true
|.non,.str _=>true
|.int _,.non=>true
|.str _,.non=>true
|.int _,.int _=>true
|.str _,.str _=>true
|.int _,.str _=>true
|.str _,.int _=>true
|.bl _,.bl _=>true
|.tup xs,.tup ys=>zdG xs ys
|.lst xs,.lst ys=>zdG xs ys
|.non,.tup _=>true
|.tup _,.non=>true
|.non,.lst _=>true
|.lst _,.non=>true
|_,_=>false
def zdG:List D->List D->Bool
|x::xs,y::ys=>eqOk x y&&zdG xs ys
|_,_=>true
end
section
variable {X:Cx}{pins:List (Addr×Obj)}{Y:L2.St}{H:Hp}{J:Addr->Prop}{s:Sd}
mutual
theorem Rp.rh (I:Inv X pins Y H s){v:V}{d:D}:Rp X.K H J v d->ndD d=true->∀{u:Vl},RelV v u->Rh s.heap u d
|.non,_,_,q=>by cases q;exact .non
|.bl b,_,_,q=>by cases q;exact .bl b
|.int i,_,_,q=>by obtain⟨t,rfl⟩:=q;exact .int i t
|.str x,_,_,q=>by obtain⟨t,rfl⟩:=q;exact .str x t
|.tup h r,n,_,q=>by
   cases q;obtain⟨its,rv,pt,_⟩:=I.tuple h;exact .tup pt (RpL.rh I r n rv)
|.lst h j r,n,_,q=>by
   cases q;obtain⟨its,rv,pt,_⟩:=I.list (SqL.of h);exact .lst pt.isList (RpL.rh I r n rv)
|.dct h j ek ev r,n,_,q=>by cases n
|.scr p,n,_,q=>by cases n
|.exc _ _,n,_,q=>by cases n
|.dcu h j ek ev r,n,_,q=>by cases n
theorem RpL.rh (I:Inv X pins Y H s){vs:List V}{ds:List D}:RpL X.K H J vs ds->ndL ds=true->∀{us:List Vl},Vals vs us->RhL s.heap us ds
|.nil,_,us,q=>by cases q;exact .nil
|.cons h t,n,us,q=>by
   have n:(ndD _&&ndL _)=true:=n
   rw[waF] at n;cases q with
  |cons q1 q2=>exact .cons (Rp.rh I h n.1 q1) (RpL.rh I t n.2 q2)
end
theorem RpW.rh (I:Inv X pins Y H s){v:V}{d:D}(r:RpW X.K H J v d)(n:ndD d=true){u:Vl}(q:RelV v u):Rh s.heap u d:=by
 rcases r with r|⟨A,r⟩
 .exact r.rh I n q
 .have w:RpW X.K H J v d:=.inr ⟨A,r⟩
  cases r with
 |lst h r=>
    obtain⟨p,vs,e,hp,rl⟩:=w.lst;cases e;cases q;obtain⟨its,rv,pt,_⟩:=I.list (SqL.of hp);exact .lst pt.isList (RpL.rh I rl n rv)
 |dct h ek ev r=>cases n
 |dcu h ek ev r=>cases n
end
section
variable {h:Heap}
theorem RhL.length:∀{us:List Vl}{ds:List D},RhL h us ds->us.length=ds.length
|_,_,.nil=>rfl
|_,_,.cons _ t=>by simp[RhL.length t]
theorem RhL.get:∀{us:List Vl}{ds:List D},RhL h us ds->∀(i:Nat) (hi:i<us.length) (hj:i<ds.length),Rh h us[i] ds[i]
|_,_,.cons a _,0,_,_=>a
|_,_,.cons _ t,i+1,hi,hj=>RhL.get t i (by simpa using hi) (by simpa using hj)
def zd6 {l:Addr}{us ws:List Vl}(p:h.IsTuple l us.toArray)(q:h.IsTuple l ws.toArray):us=ws:=by
 obtain⟨o,e,_,_,d⟩:=p;obtain⟨o',e',_,_,d'⟩:=q;rw[e] at e';cases e';rw[d] at d';injection d' with d1 _
 simpa using wbi Array.toList d1
def zeH {l:Addr}{us ws:List Vl}(p:h.IsList l us.toArray)(q:h.IsList l ws.toArray):us=ws:=by
 obtain⟨o,e,_,_,d⟩:=p;obtain⟨o',e',_,_,d'⟩:=q;rw[e] at e';cases e';rw[d] at d';injection d' with d1 _
 simpa using wbi Array.toList d1
def zcN {l:Addr}{us ws:Array Vl}(p:h.IsTuple l us)(q:h.IsList l ws):False:=by
 obtain⟨o,e,c,_⟩:=p;obtain⟨o',e',c',_⟩:=q;rw[e] at e';cases e';rw[c] at c';simp at c'
mutual
theorem Rh.inj:∀{d e:D}{u:Vl},Rh h u d->Rh h u e->d=e
|_,_,_,.non,q=>by cases q;rfl
|_,_,_,.bl b,q=>by cases q;rfl
|_,_,_,.int i t,q=>by cases q;rfl
|_,_,_,.str x t,q=>by cases q;rfl
|_,_,_,.tup p r,q=>by
   cases q with
  |tup p' r'=>cases zd6 p p';rw[RhL.inj r r']
  |lst p' r'=>exact(zcN p p').elim
|_,_,_,.lst p r,q=>by
   cases q with
  |lst p' r'=>cases zeH p p';rw[RhL.inj r r']
  |tup p' r'=>exact(zcN p' p).elim
theorem RhL.inj:∀{ds es:List D}{us:List Vl},RhL h us ds->RhL h us es->ds=es
|_,_,_,.nil,q=>by cases q;rfl
|_,_,_,.cons a t,q=>by
   cases q with
  |cons a' t'=>rw[Rh.inj a a',RhL.inj t t']
end
end
theorem zd7:∀{xs ys:List D},zdG xs ys=true->∀(i:Nat) (hi:i<xs.length) (hj:i<ys.length),eqOk xs[i] ys[i]=true
|x::xs,y::ys,h,i,hi,hj=>by
   have h:(eqOk x y&&zdG xs ys)=true:=h
   rw[waF] at h;cases i with
  |zero=>exact h.1
  |succ i=>exact zd7 h.2 i (by simpa using hi) (by simpa using hj)
theorem ze7:∀{xs:List D}(i:Nat) (hi:i<xs.length),depD xs[i]<=depL xs
|x::xs,i,hi=>by
   cases i with
  |zero=>exact Nat.le_max_left _ _
  |succ i=>exact wao (ze7 i (by simpa using hi)) (Nat.le_max_right _ _)
def zbK (xs ys:List D):((List.range (min xs.length ys.length)).all (λj=>decide (xs[j]?=ys[j]?))&&xs.length == ys.length)=decide (xs=ys):=by
 rw[wbO];simp only[waF,waB,wbI,decide_eq_true_eq,beq_iff_eq];constructor
 .rintro⟨a,b⟩;refine List.ext_getElem? λj=>?_
  by_cases hj:j<min xs.length ys.length
  .exact a j hj
  .rw[waS (by omega),waS (by omega)]
 .rintro rfl;exact⟨λ_ _=>rfl,rfl⟩
def zbV {p:Prop}[Decidable p](h:¬p):false=decide p:=(waz h).symm
def zjB {xs ys:List D}(j:Nat)(h1:j<xs.length)(h2:j<ys.length):decide (xs[j]=ys[j])=decide (xs[j]?=ys[j]?):=by
 rw[wac h1,wac h2];exact zat ⟨λz=>by rw[z],λz=>was z⟩
def zeQ (i j:Int):decide (D.int i=D.int j)=(i == j):=by rw[wcC];exact zat ⟨λz=>by cases z;rfl,λz=>by rw[z]⟩
def zeR (i j:Str):decide (D.str i=D.str j)=(i == j):=by rw[wcC];exact zat ⟨λz=>by cases z;rfl,λz=>by rw[z]⟩
def zg9 (i j:Bool):decide (D.bl i=D.bl j)=(i == j):=by rw[wcC];exact zat ⟨λz=>by cases z;rfl,λz=>by rw[z]⟩
section
variable {A:Ao}{s:Sd}
def zhr {v:Vl}{e:D}(hu:A.units<cLine)(rv:Rh s.heap v e)(ho:eqOk .non e=true):SeqAt.EqAt A s .none v (decide (D.non=e)):=by
 cases rv with
|non=>exact SeqAt.EqAt.same _
|bl b=>cases ho
|int i t=>rw[<-zbV (λz=>by cases z)];exact SeqAt.EqAt.none_int _ _
|str x t=>rw[<-zbV (λz=>by cases z)];exact SeqAt.EqAt.none_str _ _
|tup p r=>rw[<-zbV (λz=>by cases z)];exact SeqAt.EqAt.none_tuple p hu
|lst p r=>rw[<-zbV (λz=>by cases z)];exact SeqAt.EqAt.none_list p hu
def zjC {v:Vl}{e:D}{b:Bool}(rv:Rh s.heap v e)(ho:eqOk (.bl b) e=true):SeqAt.EqAt A s (.bool b) v (decide (D.bl b=e)):=by
 cases rv with
|bl c=>rw[zg9];exact SeqAt.EqAt.bool_bool _ _
|non=>cases ho
|int i t=>cases ho
|str x t=>cases ho
|tup p r=>cases ho
|lst p r=>cases ho
def zeT {v:Vl}{e:D}{b:Int}{u:Tok}(rv:Rh s.heap v e)(ho:eqOk (.int b) e=true):SeqAt.EqAt A s (.int b u) v (decide (D.int b=e)):=by
 cases rv with
|int i t=>rw[zeQ];exact SeqAt.EqAt.int_int _ _ _ _
|non=>rw[<-zbV (λz=>by cases z)];exact SeqAt.EqAt.int_none _ _
|bl c=>cases ho
|str x t=>rw[<-zbV (λz=>by cases z)];exact SeqAt.EqAt.int_str _ _ _ _
|tup p r=>cases ho
|lst p r=>cases ho
def zhs {v:Vl}{e:D}{b:Str}{u:Tok}(rv:Rh s.heap v e)(ho:eqOk (.str b) e=true):SeqAt.EqAt A s (.str b u) v (decide (D.str b=e)):=by
 cases rv with
|str i t=>rw[zeR];exact SeqAt.EqAt.str_str _ _ _ _
|non=>rw[<-zbV (λz=>by cases z)];exact SeqAt.EqAt.str_none _ _
|bl c=>cases ho
|int x t=>rw[<-zbV (λz=>by cases z)];exact SeqAt.EqAt.str_int _ _ _ _
|tup p r=>cases ho
|lst p r=>cases ho
def zqb {l l':Addr}{us us':List Vl}{ds ds':List D}(hu:A.units<cLine)(p:s.heap.IsTuple l us.toArray)(p':s.heap.IsTuple l' us'.toArray)(r:RhL s.heap us ds)(r':RhL s.heap us' ds')
 (he:∀j (h1:j<us.toArray.size) (h2:j<us'.toArray.size),SeqAt.EqAt A.in1 s us.toArray[j] us'.toArray[j] (decide (ds[j]?=ds'[j]?))):SeqAt.RcAt A s (.ref l) (.ref l') (decide (D.tup ds=D.tup ds')):=by
 have q:=SeqAt.RcAt.tuples p p' hu he
 rw[wad,wad,r.length,r'.length,zbK] at q;rw[zat (show D.tup ds=D.tup ds'↔ds=ds' from⟨λz=>by cases z;rfl,λz=>by rw[z]⟩)];exact q
def zqc {l l':Addr}{us us':List Vl}{ds ds':List D}(hu:A.units<cLine)(p:s.heap.IsList l us.toArray)(p':s.heap.IsList l' us'.toArray)(r:RhL s.heap us ds)(r':RhL s.heap us' ds')
 (he:∀j (h1:j<us.toArray.size) (h2:j<us'.toArray.size),SeqAt.EqAt A.in1 s us.toArray[j] us'.toArray[j] (decide (ds[j]?=ds'[j]?))):SeqAt.RcAt A s (.ref l) (.ref l') (decide (D.lst ds=D.lst ds')):=by
 rw[zat (show D.lst ds=D.lst ds'↔ds=ds' from⟨λz=>by cases z;rfl,λz=>by rw[z]⟩)];by_cases hz:ds.length=ds'.length
 .have hsz:us.toArray.size=us'.toArray.size:=by simp only[wad];rw[r.length,r'.length,hz]
  have q:=SeqAt.RcAt.lists p p' hsz hu he
  have e1:=zbK ds ds'
  rw[hz,Nat.min_self,beq_self_eq_true,Bool.and_true,<-hz] at e1;rw[wad,r.length,e1] at q;exact q
 .have q:=SeqAt.RcAt.lists_lengths p p' (by simp only[wad,r.length,r'.length];simpa using hz) hu
  rw[waz (λz=>hz (by rw[z]))];exact q
end
def zmI:∀(n:Nat) {A:Ao}{s:Sd}{u v:Vl}{d e:D},depD d<=n->A.units+n<cLine->Rh s.heap u d->Rh s.heap v e->eqOk d e=true->SeqAt.EqAt A s u v (decide (d=e)):=by
 intro n;induction n with
|zero=>
   intro A s u v d e hn hu ru rv ho;cases ru with
  |non=>exact zhr (by omega) rv ho
  |bl b=>exact zjC rv ho
  |int i t=>exact zeT rv ho
  |str x t=>exact zhs rv ho
  |tup p r=>exact absurd hn (Nat.not_succ_le_zero _)
  |lst p r=>exact absurd hn (Nat.not_succ_le_zero _)
|succ n ih=>
   intro A s u v d e hn hu ru rv ho;have hu0:A.units<cLine:=by omega
   have he:∀{us us':List Vl}{ds ds':List D}(r:RhL s.heap us ds) (r':RhL s.heap us' ds') (hd:depL ds<=n) (ho:zdG ds ds'=true),∀j (h1:j<us.toArray.size) (h2:j<us'.toArray.size),SeqAt.EqAt A.in1 s us.toArray[j] us'.toArray[j] (decide (ds[j]?=ds'[j]?)):=λ{us us' ds ds'} r r' hd ho j h1 h2=>by
    simp only[wad] at h1 h2;have g1:j<ds.length:=by rw[<-r.length];exact h1
    have g2:j<ds'.length:=by rw[<-r'.length];exact h2
    have q:=ih (A:=A.in1) (wao (ze7 j g1) hd) (show A.units+1+n<cLine by omega) (r.get j h1 g1) (r'.get j h2 g2) (zd7 ho j g1 g2)
    rw[zjB j g1 g2] at q;exact q
   cases ru with
  |non=>exact zhr hu0 rv ho
  |bl b=>exact zjC rv ho
  |int i t=>exact zeT rv ho
  |str x t=>exact zhs rv ho
  |tup p r=>
     rename_i l us ds
     have hd:depL ds<=n:=wbp hn
     cases rv with
    |tup p' r'=>
       rename_i l' us' ds'
       by_cases hl:l=l'
       .subst hl;cases zd6 p p';rw[r.inj r',waD rfl];exact SeqAt.EqAt.same _
       .exact SeqAt.EqAt.of_refs hl (zqb hu0 p p' r r' (he r r' hd ho))
    |non=>rw[<-zbV (λz=>by cases z)];exact SeqAt.EqAt.tuple_none p hu0
    |bl c=>cases ho
    |int i t=>cases ho
    |str x t=>cases ho
    |lst p' r'=>cases ho
  |lst p r=>
     rename_i l us ds
     have hd:depL ds<=n:=wbp hn
     cases rv with
    |lst p' r'=>
       rename_i l' us' ds'
       by_cases hl:l=l'
       .subst hl;cases zeH p p';rw[r.inj r',waD rfl];exact SeqAt.EqAt.same _
       .exact SeqAt.EqAt.of_refs hl (zqc hu0 p p' r r' (he r r' hd ho))
    |non=>rw[<-zbV (λz=>by cases z)];exact SeqAt.EqAt.list_none p hu0
    |bl c=>cases ho
    |int i t=>cases ho
    |str x t=>cases ho
    |tup p' r'=>cases ho
end VD
namespace VD
open PySem.Spec L2
section
variable {A:Ao}{s:Sd}{u v:Vl}{d e:D}
def zlt {n:Nat}(hu:A.units+1+n<cLine){us us':List Vl}{ds ds':List D}(r:RhL s.heap us ds)(r':RhL s.heap us' ds')(hd:depL ds<=n)(ho:zdG ds ds'=true):∀j (h1:j<us.toArray.size) (h2:j<us'.toArray.size),SeqAt.EqAt A.in1 s us.toArray[j] us'.toArray[j] (decide (ds[j]?=ds'[j]?)):=λj h1 h2=>by
 simp only[wad] at h1 h2;have g1:j<ds.length:=by rw[<-r.length];exact h1
 have g2:j<ds'.length:=by rw[<-r'.length];exact h2
 have q:=zmI n (A:=A.in1) (wao (ze7 j g1) hd) hu (r.get j h1 g1) (r'.get j h2 g2) (zd7 ho j g1 g2)
 rw[zjB j g1 g2] at q;exact q
def zqd {n:Nat}(hu:A.units+1+n<cLine)(hn:depD d<=n+1)(ru:Rh s.heap u d)(rv:Rh s.heap v e)(ho:eqOk d e=true):SeqAt.RcAt A s u v (decide (d=e)):=by
 have hu0:A.units<cLine:=by omega
 cases ru with
|non=>
   cases rv with
  |non=>exact SeqAt.RcAt.none_none
  |bl b=>cases ho
  |int i t=>rw[<-zbV (λz=>by cases z)];exact SeqAt.RcAt.none_int _ _
  |str x t=>rw[<-zbV (λz=>by cases z)];exact SeqAt.RcAt.none_str _ _
  |tup p r=>rw[<-zbV (λz=>by cases z)];exact SeqAt.RcAt.none_tuple p hu0
  |lst p r=>rw[<-zbV (λz=>by cases z)];exact SeqAt.RcAt.none_list p hu0
|bl b=>
   cases rv with
  |bl c=>rw[zg9];exact SeqAt.RcAt.bool_bool _ _
  |non=>cases ho
  |int i t=>cases ho
  |str x t=>cases ho
  |tup p r=>cases ho
  |lst p r=>cases ho
|int i t=>
   cases rv with
  |int i t=>rw[zeQ];exact SeqAt.RcAt.int_int _ _ _ _
  |non=>rw[<-zbV (λz=>by cases z)];exact SeqAt.RcAt.int_none _ _
  |str x t=>rw[<-zbV (λz=>by cases z)];exact SeqAt.RcAt.int_str _ _ _ _
  |bl b=>cases ho
  |tup p r=>cases ho
  |lst p r=>cases ho
|str x t=>
   cases rv with
  |str i t=>rw[zeR];exact SeqAt.RcAt.str_str _ _ _ _
  |non=>rw[<-zbV (λz=>by cases z)];exact SeqAt.RcAt.str_none _ _
  |int x t=>rw[<-zbV (λz=>by cases z)];exact SeqAt.RcAt.str_int _ _ _ _
  |bl b=>cases ho
  |tup p r=>cases ho
  |lst p r=>cases ho
|tup p r=>
   cases rv with
  |tup p' r'=>exact zqb hu0 p p' r r' (zlt hu r r' (wbp hn) ho)
  |non=>rw[<-zbV (λz=>by cases z)];exact SeqAt.RcAt.tuple_none p hu0
  |int i t=>cases ho
  |bl b=>cases ho
  |str x t=>cases ho
  |lst p r=>cases ho
|lst p r=>
   cases rv with
  |lst p' r'=>exact zqc hu0 p p' r r' (zlt hu r r' (wbp hn) ho)
  |non=>rw[<-zbV (λz=>by cases z)];exact SeqAt.RcAt.list_none p hu0
  |int i t=>cases ho
  |bl b=>cases ho
  |str x t=>cases ho
  |tup p r=>cases ho
def zev {p:Prop}[Decidable p](h:¬p):true = !decide p:=by rw[waz h];rfl
def zlu {n:Nat}(hu:A.units+1+n<cLine)(hn:depD d<=n+1)(ru:Rh s.heap u d)(rv:Rh s.heap v e)(ho:eqOk d e=true):SeqAt.RcNeAt A s u v (!decide (d=e)):=by
 have hu0:A.units<cLine:=by omega
 cases ru with
|non=>
   cases rv with
  |non=>rw[waD rfl];exact SeqAt.RcNeAt.none_none
  |bl b=>cases ho
  |int i t=>rw[<-zev (λz=>by cases z)];exact SeqAt.RcNeAt.none_int _ _
  |str x t=>rw[<-zev (λz=>by cases z)];exact SeqAt.RcNeAt.none_str _ _
  |tup p r=>rw[<-zev (λz=>by cases z)];exact SeqAt.RcNeAt.none_tuple p hu0
  |lst p r=>rw[<-zev (λz=>by cases z)];exact SeqAt.RcNeAt.none_list p hu0
|bl b=>
   cases rv with
  |bl c=>rw[zg9];exact SeqAt.RcNeAt.bool_bool _ _
  |non=>cases ho
  |int i t=>cases ho
  |str x t=>cases ho
  |tup p r=>cases ho
  |lst p r=>cases ho
|int i t=>
   cases rv with
  |int i t=>rw[zeQ];exact SeqAt.RcNeAt.int_int _ _ _ _
  |non=>rw[<-zev (λz=>by cases z)];exact SeqAt.RcNeAt.int_none _ _
  |str x t=>rw[<-zev (λz=>by cases z)];exact SeqAt.RcNeAt.int_str _ _ _ _
  |bl b=>cases ho
  |tup p r=>cases ho
  |lst p r=>cases ho
|str x t=>
   cases rv with
  |str i t=>rw[zeR];exact SeqAt.RcNeAt.str_str _ _ _ _
  |non=>rw[<-zev (λz=>by cases z)];exact SeqAt.RcNeAt.str_none _ _
  |int x t=>rw[<-zev (λz=>by cases z)];exact SeqAt.RcNeAt.str_int _ _ _ _
  |bl b=>cases ho
  |tup p r=>cases ho
  |lst p r=>cases ho
|tup p r=>
   cases rv with
  |tup p' r'=>
     rename_i us ds l' us' ds'
     have q:=SeqAt.RcNeAt.tuples p p' hu0 (zlt hu r r' (wbp hn) ho)
     rw[wad,wad,r.length,r'.length,zbK] at q;rw[zat (show D.tup ds=D.tup ds'↔ds=ds' from⟨λz=>by cases z;rfl,λz=>by rw[z]⟩)];exact q
  |non=>rw[<-zev (λz=>by cases z)];exact SeqAt.RcNeAt.tuple_none p hu0
  |int i t=>cases ho
  |bl b=>cases ho
  |str x t=>cases ho
  |lst p r=>cases ho
|lst p r=>
   cases rv with
  |lst p' r'=>
     rename_i us ds l' us' ds'
     rw[zat (show D.lst ds=D.lst ds'↔ds=ds' from⟨λz=>by cases z;rfl,λz=>by rw[z]⟩)];by_cases hz:ds.length=ds'.length
     .have hsz:us.toArray.size=us'.toArray.size:=by simp only[wad];rw[r.length,r'.length,hz]
      have q:=SeqAt.RcNeAt.lists p p' hsz hu0 (zlt hu r r' (wbp hn) ho)
      have e1:=zbK ds ds'
      rw[hz,Nat.min_self,beq_self_eq_true,Bool.and_true,<-hz] at e1;rw[wad,r.length,e1] at q;exact q
     .have q:=SeqAt.RcNeAt.lists_lengths p p' (by simp only[wad,r.length,r'.length];simpa using hz) hu0
      rw[waz (λz=>hz (by rw[z]))];exact q
  |non=>rw[<-zev (λz=>by cases z)];exact SeqAt.RcNeAt.list_none p hu0
  |int i t=>cases ho
  |bl b=>cases ho
  |str x t=>cases ho
  |tup p r=>cases ho
end
def eqC (d e:D):Bool:=eqOk d e&&ndD d&&ndD e&&decide (depD d<=40)
def dEqG (neg:Bool)(d e:D):Option D:=if eqC d e=true then some (.bl (if neg then !decide (d=e) else decide (d=e))) else none
def rEqG (K:Fg)(neg:Bool):R2:=λx y H Q=>∃J d e,RpW K H J x d/\RpW K H J y e/\eqC d e=true/\Q (.bl (if neg then !decide (d=e) else decide (d=e))) H
def zht {d e:D}(h:eqC d e=true):eqOk d e=true/\ndD d=true/\ndD e=true/\depD d<=40:=by
 unfold eqC at h;simp only[waF,decide_eq_true_eq] at h;exact⟨h.1.1.1,h.1.1.2,h.1.2,h.2⟩
section
variable {X:Cx}{K:Fg}{k:Nat}
def zlv (hr:Room k X.A):OpR X (cOp .Eq) (rEqG X.K false):=by
 intro pins s Y H x y v u Q I rx ry ⟨J,d,e,r1,r2,hc,q⟩;obtain⟨ho,n1,n2,hd⟩:=zht hc;have:=hr.units
 exact zqd (n:=40) (by omega) (by omega) (r1.rh I n1 rx) (r2.rh I n2 ry) ho _ _ _ _ ⟨.bl _,H,I,rfl,q⟩
def zjD (hr:Room k X.A):OpR X (cOp .NotEq) (rEqG X.K true):=by
 intro pins s Y H x y v u Q I rx ry ⟨J,d,e,r1,r2,hc,q⟩;obtain⟨ho,n1,n2,hd⟩:=zht hc;have:=hr.units
 exact zlu (n:=40) (by omega) (by omega) (r1.rh I n1 rx) (r2.rh I n2 ry) ho _ _ _ _ ⟨.bl _,H,I,rfl,q⟩
def zc8 (neg:Bool):Im2 K (rEqG K neg) (dEqG neg):=by
 intro H J x y d e d' Q ja hx hy hF w;unfold dEqG at hF;by_cases hc:eqC d e=true
 .rw[if_pos hc] at hF;cases hF;exact⟨J,d,e,hx,hy,hc,w _ H J (Up.refl ja) (.bl _)⟩
 .rw[if_neg hc] at hF;cases hF
end
def inC (x:D)(ds:List D):Bool:=ndD x&&ds.all λy=>eqC y x
def hasK (ks:List Key)(j:Key):Bool:=ks.any λk=>decide (k=j)
def dInG (neg:Bool):D->D->Option D
|x,.lst ds=>if inC x ds=true then some (.bl (if neg then !decide (x∈ds) else decide (x∈ds))) else none
|x,.tup ds=>if inC x ds=true then some (.bl (if neg then !decide (x∈ds) else decide (x∈ds))) else none
|x,.dct ks _=>(keyD x).bind λj=>some (.bl (if neg then !hasK ks j else hasK ks j))
|_,_=>none
def zn1 (K:Fg)(neg:Bool):R2:=λx y H Q=>∃J d ds p vs,RpW K H J x d/\y=.ref p/\(SqL K H p vs\/SqT K H p vs)/\RpL K H J vs ds/\inC d ds=true/\Q (.bl (if neg then !decide (d∈ds) else decide (d∈ds))) H
open Classical in
noncomputable def zfP (h:Heap)(u:Vl):D:=if q:∃d,Rh h u d then q.choose else .non
def zfQ {h:Heap}{u:Vl}{d:D}(r:Rh h u d):zfP h u=d:=by
 unfold zfP;have q:∃d,Rh h u d:=⟨d,r⟩
 rw[dif_pos q];exact q.choose_spec.inj r
theorem RhL.mem {h:Heap}:∀{us:List Vl}{ds:List D},RhL h us ds->∀u∈us,∃d∈ds,Rh h u d
|_,_,.cons a t,u,hu=>by
   rcases wap.mp hu with rfl|hu
   .exact⟨_,war,a⟩
   .obtain⟨d,hd,r⟩:=RhL.mem t u hu;exact⟨d,wam _ hd,r⟩
theorem RhL.map {h:Heap}:∀{us:List Vl}{ds:List D},RhL h us ds->us.map (zfP h)=ds
|_,_,.nil=>rfl
|_,_,.cons a t=>by rw[waN,zfQ a,RhL.map t]
theorem zjE:∀{ds:List D},(∀d∈ds,ndD d=true)->ndL ds=true
|[],_=>rfl
|d::ds,h=>by
   show(ndD d&&ndL ds)=true
   rw[h d war,zjE λe he=>h e (wam _ he)];rfl
def zdM {h:Heap}{us:List Vl}{ds:List D}(r:RhL h us ds)(x:D):us.toArray.any (λy=>decide (zfP h y=x))=decide (x∈ds):=by
 rw[List.any_toArray,<-r.map,wbO];simp only[List.any_eq_true,decide_eq_true_eq,waE]
section
variable {X:Cx}{K:Fg}{k:Nat}
def zdN {A:Ao}{s:Sd}{us:List Vl}{ds:List D}{x:Vl}{d:D}(hu:A.units+1+40<cLine)(r:RhL s.heap us ds)(rx:Rh s.heap x d)(hc:∀y∈ds,eqC y d=true):∀y,y∈us.toArray->SeqAt.EqAt A.in1 s y x (decide (zfP s.heap y=d)):=λy hy=>by
 obtain⟨e,he,re⟩:=r.mem y (by simpa using hy);obtain⟨ho,_,_,hd⟩:=zht (hc e he);rw[zfQ re];exact zmI 40 (A:=A.in1) hd hu re rx ho
def zmJ {x:D}{ds:List D}(h:inC x ds=true):ndD x=true/\(∀y∈ds,eqC y x=true)/\ndL ds=true:=by
 unfold inC at h;rw[waF,waB] at h;exact⟨h.1,h.2,zjE λy hy=>(zht (h.2 y hy)).2.1⟩
def zqe (hr:Room k X.A):OpR X (cOp .In) (zn1 X.K false):=by
 intro pins s Y H x y v u Q I rx ry ⟨J,d,ds,p,vs,r1,e,hq,rl,hc,q⟩;subst e;cases ry;have hu:=hr.units
 obtain⟨n1,hc,n2⟩:=zmJ hc;rcases hq with hq|hq
 .obtain⟨its,rv,pl,hz⟩:=I.list hq;refine SeqAt.in_listAt _ pl.isList (zdN (by omega) (rl.rh I n2 rv) (r1.rh I n1 rx) hc) ⟨.bl _,H,I,rfl,?_⟩;rw[zdM (rl.rh I n2 rv)];exact q
 .obtain⟨its,rv,pl,hz⟩:=I.tuple hq;refine SeqAt.in_tupleAt _ pl (zdN (by omega) (rl.rh I n2 rv) (r1.rh I n1 rx) hc) ⟨.bl _,H,I,rfl,?_⟩;rw[zdM (rl.rh I n2 rv)];exact q
def zjF (hr:Room k X.A):OpR X (cOp .NotIn) (zn1 X.K true):=by
 intro pins s Y H x y v u Q I rx ry ⟨J,d,ds,p,vs,r1,e,hq,rl,hc,q⟩;subst e;cases ry;have hu:=hr.units
 obtain⟨n1,hc,n2⟩:=zmJ hc;rcases hq with hq|hq
 .obtain⟨its,rv,pl,hz⟩:=I.list hq;refine SeqAt.notIn_listAt _ pl.isList (zdN (by omega) (rl.rh I n2 rv) (r1.rh I n1 rx) hc) ⟨.bl _,H,I,rfl,?_⟩;rw[zdM (rl.rh I n2 rv)];exact q
 .obtain⟨its,rv,pl,hz⟩:=I.tuple hq;refine SeqAt.notIn_tupleAt _ pl (zdN (by omega) (rl.rh I n2 rv) (r1.rh I n1 rx) hc) ⟨.bl _,H,I,rfl,?_⟩;rw[zdM (rl.rh I n2 rv)];exact q
def rInD (neg:Bool):R2:=λx y H Q=>∃a ov,y=.ref a/\DGet H a x ov/\Q (.bl (if neg then !ov.isSome else ov.isSome)) H
def rInG (K:Fg)(neg:Bool):R2:=λx y H Q=>zn1 K neg x y H Q\/rInD neg x y H Q
def zr0 (hr:Room k X.A):OpR X (cOp .In) (rInD false):=by
 intro pins s Y H x y v u Q I rx ry ⟨a,ov,e,g,q⟩;subst e;obtain rfl:u=Value.ref a:=ry;exact d_in (zkU hr) I g rx λs3 I3=>⟨.bl ov.isSome,H,I3,rfl,q⟩
def zlw (hr:Room k X.A):OpR X (cOp .NotIn) (rInD true):=by
 intro pins s Y H x y v u Q I rx ry ⟨a,ov,e,g,q⟩;subst e;obtain rfl:u=Value.ref a:=ry;exact znp (zkU hr) I g rx λs3 I3=>⟨.bl (!ov.isSome),H,I3,rfl,q⟩
def zjG (hr:Room k X.A):OpR X (cOp .In) (rInG X.K false):=(zqe hr).or (zr0 hr)
def zdO (hr:Room k X.A):OpR X (cOp .NotIn) (rInG X.K true):=(zjF hr).or (zlw hr)
def zjH {kvs:List (Key×V)}{j:Key}:(valV kvs j).isSome=hasK (kvs.map (·.1)) j:=by
 unfold valV hasK;rw[Option.isSome_map,List.any_map,wbO,List.find?_isSome,List.any_eq_true];rfl
def zc9 (neg:Bool):Im2 K (rInG K neg) (dInG neg):=by
 intro H J x y d e d' Q ja hx hy hF w;cases e with
|lst ds=>
   have hF:(if inC d ds=true then some (D.bl (if neg then !decide (d∈ds) else decide (d∈ds))) else none)=some d':=hF
   by_cases hc:inC d ds=true
   .rw[if_pos hc] at hF;cases hF;obtain⟨p,vs,rfl,h1,r1⟩:=hy.lst;exact .inl ⟨J,d,ds,p,vs,hx,rfl,.inl (SqL.of h1),r1,hc,w _ H J (Up.refl ja) (.bl _)⟩
   .rw[if_neg hc] at hF;cases hF
|tup ds=>
   have hF:(if inC d ds=true then some (D.bl (if neg then !decide (d∈ds) else decide (d∈ds))) else none)=some d':=hF
   by_cases hc:inC d ds=true
   .rw[if_pos hc] at hF;cases hF;obtain⟨p,vs,rfl,h1,r1⟩:=hy.tup;exact .inl ⟨J,d,ds,p,vs,hx,rfl,.inr h1,r1,hc,w _ H J (Up.refl ja) (.bl _)⟩
   .rw[if_neg hc] at hF;cases hF
|dct ks ds=>
   obtain⟨j,ej,hF⟩:=zaa (show((keyD d).bind λj=>some (D.bl (if neg then !hasK ks j else hasK ks j)))=some d' from hF);cases hF;obtain⟨p,kvs,vs,rfl,h1,h2,h3,rl⟩:=hy.dct;refine .inr ⟨p,valV kvs j,rfl,?_,?_⟩
   .rw[zjt hx ej];exact DGet.k h1
   .rw[zjH,h2];exact w _ H J (Up.refl ja) (.bl _)
|_=>cases hF
end
end VD
namespace Mn
open PySem.Spec
open Sem (wp)
section
variable {prog:Pm}{w:World}{A:Ao}{R:Result->Sd->Prop}{I:Addr}{fp wr:List Addr}{n:Nat}{P:Nat->Vl->Prop}{St:Nat->Heap->Prop}
end
section
variable {prog:Pm}{w:World}{A:Ao}{E:Vl->Sd->Prop}{s:Sd}
end
end Mn
namespace VD
open PySem.Spec L2
mutual
def ltD:D->D->Option Bool
|.int a,.int b=>some (decide (a<b))
|.tup xs,.tup ys=>ltL xs ys
|_,_=>none
def ltL:List D->List D->Option Bool
|[],[]=>some false
|x::xs,y::ys=>if eqOk x y=true then(if x=y then ltL xs ys else if xs.length=ys.length then ltD x y else none) else none
|_,_=>none
end
def zgK (lt:Nat->Nat->Option Bool):Nat->Option Nat
|0=>some 0
|k+1=>(zgK lt k).bind λm=>(lt (k+1) m).bind λb=>some (if b then k+1 else m)
def ltIx (xs:List D)(a b:Nat):Option Bool:=(xs[a]?).bind λx=>(xs[b]?).bind λy=>ltD x y
def minL (xs:List D):Option D:=if xs = [] then none else(zgK (ltIx xs) (xs.length - 1)).bind λi=>xs[i]?
def btOf (xs:List D)(a b:Nat):Bool:=(ltIx xs a b).getD false
theorem zeI {xs:List D}:∀{k i:Nat},zgK (ltIx xs) k=some i->argBest (btOf xs) k=i/\∀j,j<k->∃b,ltIx xs (j+1) (argBest (btOf xs) j)=some b
|0,i,h=>by cases h;exact⟨rfl,λj hj=>by omega⟩
|k+1,i,h=>by
   obtain⟨m,e,h⟩:=zaa h;obtain⟨b,e2,h⟩:=zaa h;obtain⟨g1,g2⟩:=zeI e;cases h;refine⟨?_,λj hj=>?_⟩
   .unfold argBest;rw[g1];unfold btOf;rw[e2];rfl
   .by_cases hjk:j=k
    .subst hjk;rw[g1];exact⟨b,e2⟩
    .exact g2 j (by omega)
section
variable {X:Cx}{K:Fg}{k:Nat}
end
end VD
namespace VD
open PySem.Spec L2
section
variable {X:Cx}{K:Fg}{k:Nat}
end
def EvX {S:Type}(f:FX)(Z:En)(x:Option (D×S))(emb:S->En):Prop:=∀q,x=some q->f Z=some (q.1,emb q.2)
def EvAX {S:Type}(f:FAX)(Z:En)(x:Option (List D×S))(emb:S->En):Prop:=∀q,x=some q->f Z=some (q.1,emb q.2)
def EvR {S:Type}(f:FR)(Z:En)(x:Option (RV×S))(emb:S->En):Prop:=∀q,x=some q->f Z=some (q.1,emb q.2)
def EvAG {S:Type}(f:FAG)(Z:En)(x:Option (List (Option D)×S))(emb:S->En):Prop:=∀q,x=some q->f Z=some (q.1,emb q.2)
section
variable {S:Type}{emb:S->En}{Z:En}{s:S}{f g:FX}{x:Option (D×S)}{y:D×S->Option (D×S)}{e:FE}
def zda (h:emb s=Z):EvX (xE e) Z ((e Z).bind λd=>some (d,s)) emb:=λq z=>by
 obtain⟨d,e0,z⟩:=zaa z;cases z;unfold xE;rw[e0,<-h];rfl
def zh6 {F:D->D->Option D}(h1:EvX f Z x emb)(h2:∀q,EvX g (emb q.2) (y q) emb):EvX (x2 F f g) Z (x.bind λq=>(y q).bind λr=>(F q.1 r.1).bind λd=>some (d,r.2)) emb:=λq z=>by
 obtain⟨a,e0,z⟩:=zaa z;obtain⟨b,e1,z⟩:=zaa z;obtain⟨d,e2,z⟩:=zaa z;cases z;unfold x2;rw[h1 a e0,zOB,h2 a b e1,zOB,e2];rfl
def zhu {fa:FAX}{xa:Option (List D×S)}{F:List D->Option D}(h1:EvAX fa Z xa emb):EvX (xCall F fa) Z (xa.bind λq=>(F q.1).bind λd=>some (d,q.2)) emb:=λq z=>by
 obtain⟨a,e0,z⟩:=zaa z;obtain⟨d,e2,z⟩:=zaa z;cases z;unfold xCall;rw[h1 a e0,zOB,e2];rfl
def zn2 {fa:FAX}{xa:Option (List D×S)}(h1:EvAX fa Z xa emb):EvX (xTup fa) Z (xa.bind λq=>(mkT q.1).bind λd=>some (d,q.2)) emb:=λq z=>by
 obtain⟨a,e0,z⟩:=zaa z;obtain⟨d,e2,z⟩:=zaa z;cases z;unfold xTup;rw[h1 a e0,zOB,e2];rfl
def zew {fr:FR}{xr:Option (RV×S)}(h1:EvR fr Z xr emb):EvX (xR fr) Z (xr.bind λq=>some (q.1.d,q.2)) emb:=λq z=>by
 obtain⟨a,e0,z⟩:=zaa z;cases z;unfold xR;rw[h1 a e0];rfl
def zdb (h:emb s=Z):EvAX axNil Z (some ([],s)) emb:=λq z=>by cases z;rw[<-h];rfl
def zjI {fl:FA}(h:emb s=Z):EvAX (xA fl) Z ((fl Z).bind λd=>some (d,s)) emb:=λq z=>by
 obtain⟨d,e0,z⟩:=zaa z;cases z;unfold xA;rw[e0,<-h];rfl
def zaR {ga:FAX}{ya:D×S->Option (List D×S)}(h1:EvX f Z x emb)(h2:∀q,EvAX ga (emb q.2) (ya q) emb):EvAX (axCons f ga) Z (x.bind λq=>(ya q).bind λr=>some (q.1::r.1,r.2)) emb:=λq z=>by
 obtain⟨a,e0,z⟩:=zaa z;obtain⟨b,e1,z⟩:=zaa z;cases z;unfold axCons;rw[h1 a e0,zOB,h2 a b e1];rfl
def ze8 (h:emb s=Z):EvAG agNil Z (some ([],s)) emb:=λq z=>by cases z;rw[<-h];rfl
def ze9 {i:Nat}{fg:FAG}{xg:Option (List (Option D)×S)}(ho:(ownD (Z[i]?)).isSome=true)(h:EvAG fg Z xg emb):EvAG (agOwn i fg) Z (xg.bind λq=>some (none::q.1,q.2)) emb:=λq z=>by
 obtain⟨a,e0,z⟩:=zaa z;cases z;unfold agOwn;rw[if_pos ho,h a e0];rfl
def zjJ {fg:FAG}{yg:D×S->Option (List (Option D)×S)}(h1:EvX f Z x emb)(h2:∀q,EvAG fg (emb q.2) (yg q) emb):EvAG (agX f fg) Z (x.bind λq=>(yg q).bind λr=>some (some q.1::r.1,r.2)) emb:=λq z=>by
 obtain⟨a,e0,z⟩:=zaa z;obtain⟨b,e1,z⟩:=zaa z;cases z;unfold agX;rw[h1 a e0,zOB,h2 a b e1];rfl
def zjK {S:Type}(F:List D->Option (RV×List D))(ks:List (Option Nat))(p n:Nat)(get:S->D)(put:S->D->S)(x:Option (List (Option D)×S)):Option (RV×S):=x.bind λq=>if q.1.map (agK n)=ks then(F (q.1.map λo=>o.getD (get q.2))).bind λr=>(r.2[p]?).bind λe=>some (r.1,put q.2 e) else none
def zfa {ks:List (Option Nat)}{p i n:Nat}{F:List D->Option (RV×List D)}{fg:FAG}{xg:Option (List (Option D)×S)}{get:S->D}{put:S->D->S}(h:EvAG fg Z xg emb)(hg:∀s,ownD ((emb s)[i]?)=some (n,get s))(hp:∀s e,setO (emb s) i e=emb (put s e)):EvR (xCallG ks p i n F fg) Z (zjK F ks p n get put xg) emb:=λq z=>by
 obtain⟨a,e0,z⟩:=zaa z;split at z
 .rename_i hk
  obtain⟨r,e1,z⟩:=zaa z;obtain⟨e,e2,z⟩:=zaa z;cases z;unfold xCallG;rw[h a e0,zOB];show(if a.1.map (agK n)=ks then match ownD ((emb a.2)[i]?) with
  |some (m,d)=>if m=n then(F (a.1.map λo=>o.getD d)).bind λr=>(r.2[p]?).bind λe=>some (r.1,setO (emb a.2) i e) else none
  |none=>none
   else none)=_
  rw[if_pos hk,hg];show(if n=n then(F (a.1.map λo=>o.getD (get a.2))).bind λr=>(r.2[p]?).bind λe=>some (r.1,setO (emb a.2) i e) else none)=_
  rw[if_pos rfl,e1,zOB,e2,zOB,hp]
 .cases z
def zfR {S:Type}(F:List D->Option (RV×List D))(put:D->S)(as:List D):Option (RV×S):=(F as).bind λr=>(r.2[0]?).bind λe=>some (r.1,put e)
def zbW {ks:List (Option Nat)}{i n:Nat}{F:List D->Option (RV×List D)}{fg:FAG}{as:List (Option D)}{d:D}{put:D->S}(h:fg Z=some (as,Z))(hk:as.map (agK n)=ks)(hg:ownD (Z[i]?)=some (n,d))(hp:∀e,setO Z i e=emb (put e)):EvR (xCallG ks 0 i n F fg) Z (zfR F put (as.map λo=>o.getD d)) emb:=λq z=>by
 obtain⟨r,e1,z⟩:=zaa z;obtain⟨e,e2,z⟩:=zaa z;cases z;unfold xCallG;rw[h,zOB];show(if as.map (agK n)=ks then match ownD (Z[i]?) with
 |some (m,d)=>if m=n then(F (as.map λo=>o.getD d)).bind λr=>(r.2[0]?).bind λe=>some (r.1,setO Z i e) else none
 |none=>none
  else none)=_
 rw[if_pos hk,hg];show(if n=n then(F (as.map λo=>o.getD d)).bind λr=>(r.2[0]?).bind λe=>some (r.1,setO Z i e) else none)=_
 rw[if_pos rfl,e1,zOB,e2,zOB,hp]
def zd8 {ks:List (Option Nat)}{F:List D->Option (RV×List D)}{fa:FAX}{xa:Option (List D×S)}(h:EvAX fa Z xa emb):EvR (xCallN ks F fa) Z (xa.bind λq=>(F q.1).bind λr=>if q.1.length=ks.length then some (r.1,q.2) else none) emb:=λq z=>by
 obtain⟨a,e0,z⟩:=zaa z;obtain⟨r,e1,z⟩:=zaa z;split at z
 .rename_i hl
  cases z;unfold xCallN;rw[h a e0,zOB];show((F a.1).bind λr=>if a.1.length=ks.length then some (r.1,emb a.2) else none)=_
  rw[e1,zOB,if_pos hl]
 .cases z
def zn3 {fa:FAX}{xa:Option (List D×S)}(h:EvAX fa Z xa emb):EvR (xLst fa) Z (xa.bind λq=>(mkLs q.1).bind λds=>some (.new 1 (.lst ds),q.2)) emb:=λq z=>by
 obtain⟨a,e0,z⟩:=zaa z;obtain⟨ds,e1,z⟩:=zaa z;cases z;unfold mkLs at e1;split at e1
 .rename_i hl
  cases e1;unfold xLst;rw[h a e0,zOB];exact if_pos hl
 .cases e1
def zqf (xs:List D)(k:D):Option (D×List D):=(dInt k).bind λk=>if -1000000<=k/\k<=1000000 then(seqIndex? k xs.length).bind λj=>(xs[j]?).bind λd=>some (d,xs.eraseIdx j) else none
def zqg {i:Nat}{get:S->List D}{put:S->List D->S}(ho:isL1 (ownD (Z[i]?))=true)(h:EvX f Z x emb)(hg:∀s,ownD ((emb s)[i]?)=some (1,.lst (get s)))(hp:∀s e,setO (emb s) i (.lst e)=emb (put s e)):EvX (zmD i f) Z (x.bind λq=>(zqf (get q.2) q.1).bind λr=>some (r.1,put q.2 r.2)) emb:=λq z=>by
 obtain⟨a,e0,z⟩:=zaa z;obtain⟨r,e1,z⟩:=zaa z;obtain⟨k,e2,e1⟩:=zaa e1;split at e1
 .rename_i hk
  obtain⟨j,e3,e1⟩:=zaa e1;obtain⟨d,e4,e1⟩:=zaa e1;cases e1;cases z;unfold zmD;rw[if_pos ho,h a e0,zOB];show((dInt a.1).bind λk=>match ownD ((emb a.2)[i]?) with
  |some (1,.lst ds)=>if -1000000<=k/\k<=1000000 then(seqIndex? k ds.length).bind λj=>(ds[j]?).bind λd=>some (d,setO (emb a.2) i (.lst (ds.eraseIdx j))) else none
  |_=>none)=_
  rw[e2,zOB,hg];show(if -1000000<=k/\k<=1000000 then(seqIndex? k (get a.2).length).bind λj=>((get a.2)[j]?).bind λd=>some (d,setO (emb a.2) i (.lst ((get a.2).eraseIdx j))) else none)=_
  rw[if_pos hk,e3,zOB,e4,zOB,hp]
 .cases e1
def zd9 {i:Nat}(h:EvX f Z x emb)(hi:∀s,okS i (emb s)=true):Step (gSetX i f) Z x λq=>(emb q.2).set i (.val q.1):=λq z=>by
 unfold gSetX;rw[h q z,zOB];exact if_pos (zdC (hi q.2))
def zn4 {i:Nat}{get:S->List D}(ho:isL1 (ownD (Z[i]?))=true)(h:EvX f Z x emb)(hg:∀s,ownD ((emb s)[i]?)=some (1,.lst (get s))):Step (gAppX i f) Z (x.bind λq=>(appL (get q.2) q.1).bind λys=>some (ys,q.2)) λp=>setO (emb p.2) i (.lst p.1):=λp z=>by
 obtain⟨a,e0,z⟩:=zaa z;obtain⟨ys,e1,z⟩:=zaa z;cases z;unfold appL at e1;split at e1
 .rename_i hl
  cases e1;unfold gAppX;rw[if_pos ho,h a e0,zOB];show(match ownD ((emb a.2)[i]?) with
  |some (1,.lst ds)=>if ds.length<lim then some (Out.nx (setO (emb a.2) i (.lst (ds++[a.1])))) else none
  |_=>none)=_
  rw[hg];exact if_pos hl
 .cases e1
def zlx {i:Nat}{fk:FE}{get:S->List D}{ky:D×S->Option D}(h:EvX f Z x emb)(hk:∀q:D×S,fk (emb q.2)=ky q)(hg:∀s,ownD ((emb s)[i]?)=some (1,.lst (get s))):Step (gPutL i fk f) Z (x.bind λq=>(ky q).bind λk=>(zjA (get q.2) k q.1).bind λys=>some (ys,q.2)) λp=>setO (emb p.2) i (.lst p.1):=λp z=>by
 obtain⟨a,e0,z⟩:=zaa z;obtain⟨kk,e1,z⟩:=zaa z;obtain⟨ys,e2,z⟩:=zaa z;cases z;obtain⟨key,e3,e2⟩:=zaa e2;obtain⟨j,e4,e2⟩:=zaa e2;cases e2;unfold gPutL;rw[h a e0,zOB];show((fk (emb a.2)).bind λk=>(dInt k).bind λk=>match ownD ((emb a.2)[i]?) with
 |some (1,.lst ds)=>(ixN ds.length k).bind λj=>some (Out.nx (setO (emb a.2) i (.lst (ds.set j a.1))))
 |_=>none)=_
 rw[hk,e1,zOB,e3,zOB,hg];show((ixN (get a.2).length key).bind λj=>some (Out.nx (setO (emb a.2) i (.lst ((get a.2).set j a.1)))))=_
 rw[e4];rfl
section
variable {R A:Type}{k:Out->Option R}{B:A->Option R}{a b g':FS}
end
end
section
variable {S S0 C A R:Type}{emb:S->En}{emb0:S0->En}{Z:En}{fi:FAX}{b g:FS}{tg:FG}{xa:Option (List D×S0)}{ini:S0->S}
def zly (h:EvAX fi Z xa emb0){q:List D×S0}(e:xa=some q):gForX fi tg b Z=gFor (λ_=>some q.1) tg b (emb0 q.2):=by
 unfold gForX gFor;rw[h q e];rfl
def zlz {i:Nat}{step:S->D->Option S}(h:EvAX fi Z xa emb0)(h0:∀s,emb (ini s)=emb0 s)(hi:∀s,okS i (emb s)=true)(hb:∀s d,EvS kL (λs=>some (emb s)) b ((emb s).set i (.val d)) (step s d)) :
 Step (gForX fi (gN i) b) Z (xa.bind λq=>zaW step (ini q.2) q.1) emb:=λs z=>by
 obtain⟨q,e,z⟩:=zaa z;rw[zly h e];exact ze6 (fi:=λ_=>some q.1) (h0 q.2) hi hb s z
def zlA {fa:FAX}{x0:Option (List D×S0)}(h:EvAX fa Z x0 emb0):EvAX (axRng1 fa) Z (x0.bind λq=>(rngA q.1).bind λds=>some (ds,q.2)) emb0:=λq z=>by
 obtain⟨a,e0,z⟩:=zaa z;obtain⟨ds,e1,z⟩:=zaa z;cases z;unfold axRng1;rw[h a e0,zOB];unfold rngA at e1;obtain⟨j,e2,e1⟩:=zaa e1;show((a1Int a.1).bind λj=>if -1000000<=j/\j<=1000000 then some (zaB 0 j.toNat,emb0 a.2) else none)=_
 rw[e2,zOB];split at e1
 .rename_i hj;cases e1;exact if_pos hj
 .cases e1
end
def kG (ks:List (Option Nat)):Out->Option (RV×List D)
|.ret r Z=>(outSl ks Z).bind λes=>some (r,es)
|.nx Z=>(outSl ks Z).bind λes=>some (.told .non,es)
|_=>none
section
variable {P:Pm}{w:World}{K:Fg}{mg:Str->Option Vl}{base:Heap}
def zn5 {x qual:Str}{st:Stmt}{f:Addr}{fd:Fu}{N ps:List Str}{k:Nat}{c:List D->Option (RV×List D)}(ks:List (Option Nat))(F:Fun K x qual st f fd)(S:FnScope N ps (zab st))(hks:ks.length=ps.length)
 (qK:∀(cdv:Vl) (A:Ao) (outer:List Env) (s:Sd) (H:Hp) (E:XK),Room k (A.deeper (envOfC qual (zab st) s.heap.objs.size f cdv))->∃g,VSs (cxOf CX0 P w K mg base N qual (zab st) f cdv A outer s H E).nox (zaI st) g/\∀ds,ds.length=ks.length->EvS (kG ks) some g (inSl ks ds++rpl (N.length - ks.length) .un) (c ds)) :
 FnOk P w K mg base CX0 (k+1) f fd ps (spG K ks c):=by
 refine F.ok S (λvs H Q E h=>?_) (λcdv A outer s H vs Q E hr h=>?_)
 .obtain⟨J,ds,r,es,fp,ja,a,e,w⟩:=h;rw[a.l1,hks]
 .obtain⟨J,ds,r,es,fp,ja,a,e,w⟩:=h;obtain⟨g,⟨t,p,q⟩,ev⟩:=qK cdv A outer s H E hr;refine⟨t,p,?_⟩;have s0:=zfL (N:=N) ja a
  have e:=ev ds a.l2 (r,es) (by rw[e];rfl)
  cases z:g (inSl ks ds++rpl (N.length - ks.length) .un) with
 |none=>rw[z] at e;cases e
 |some o=>
    rw[z] at e;refine q H J _ _ _ H J o _ s0 z ?_;cases o with
   |nx Z'=>
      obtain⟨es',e1,e⟩:=bS (show((outSl ks Z').bind λes=>some (RV.told D.non,es))=some (r,es) from e);cases e;intro Y' H' J' s' k';obtain⟨fp',pg⟩:=zll (v:=.non) (r:=.told .non) a s' .non e1;exact w _ _ _ _ pg
   |ret r' Z'=>
      obtain⟨es',e1,e⟩:=bS (show((outSl ks Z').bind λes=>some (r',es))=some (r,es) from e);cases e;intro v Y' H' J' s' q';obtain⟨fp',pg⟩:=zll a s' q' e1;exact w _ _ _ _ pg
   |bk _=>cases e
   |ct _=>cases e
end
def g1 (b:D->Option (RV×List D)):List D->Option (RV×List D)|[x]=>b x|_=>none
def g2 (b:D->D->Option (RV×List D)):List D->Option (RV×List D)|[x,y]=>b x y|_=>none
def g3 (b:D->D->D->Option (RV×List D)):List D->Option (RV×List D)|[x,y,z]=>b x y z|_=>none
section
variable {R:Type}{k:Out->Option R}{B:RV×List D->Option R}{g:FS}{n:List SV}{ks:List (Option Nat)}
def zqh {b:D->D->Option (RV×List D)}(h:∀x y,EvS k B g (inSl ks [x,y]++n) (b x y)):∀ds:List D,ds.length=2->EvS k B g (inSl ks ds++n) (g2 b ds)
|[x,y],_=>h x y
end
section
variable {X:Cx}{K:Fg}{k:Nat}
end
end VD
namespace GM
open PySem.Spec L2 VD
structure Bx where
 x:Int
 y:Int
 wd:Int
 hg:Int
structure Row where
 deep:Nat
 name:Str
 box:Bx
 word:Str
 rank:Int
 head:Option Str
def zjL (ds:Nat->Nat)(cur:Nat):Nat->List Nat
|0=>[]
|n+1=>if ds n<cur then zjL ds (ds n) n++[n] else zjL ds cur n
def dsOf (L:List Row)(k:Nat):Nat:=((L[k]?).map (·.deep)).getD 0
def above (L:List Row)(k:Nat):List Nat:=zjL (dsOf L) (dsOf L k) k
abbrev abcS:Str:="abcdefghijklmnopqrstuvwxyz"
def zqi {i:Int}(h0:0<=i)(h1:i<26):atI abcS.cps.toList i=some (97+i.toNat):=by
 have k:∀n:Fin 26,abcS.cps.toList[n.val]?=some (97+n.val):=by decide +kernel
 have hn:i.toNat<26:=by omega
 have e:i=((i.toNat:Nat):Int):=by omega
 rw[e];exact zaH (k ⟨i.toNat,hn⟩)
def sg (c:Nat):Str:=⟨#[c]⟩
def zfb (c:Nat)(n:Int)(h:1<=n):(Txt.mul (sg c) n).cps.toList=rpl n.toNat c:=by
 unfold Txt.mul;rw[if_neg (by omega)];by_cases h1:n=1
 .subst h1;rfl
 .have:(n == 1||(sg c).length == 0)=false:=by
   have:(n == 1)=false:=by simpa using h1
   rw[this];rfl
  rw[this,if_neg (by decide)];have key:∀(k:Nat) (acc:Array Nat),((rpl k (sg c).cps).foldl (·++·) acc).toList=acc.toList++rpl k c:=by
   intro k;induction k with
  |zero=>intro acc;simp
  |succ k ih=>
     intro acc;rw[wbk,List.foldl_cons,ih];show(acc++#[c]).toList++_=_
     rw[Array.toList_append,waV];rfl
  show((rpl n.toNat (sg c).cps).foldl (·++·) #[]).toList=_
  rw[key];rfl
def zn6 {c d:Nat}{n m:Int}(hn:1<=n)(hm:1<=m)(e:Txt.mul (sg c) n=Txt.mul (sg d) m):n=m/\c=d:=by
 have q:=wbi (λ(s:Str)=>s.cps.toList) e
 simp only[zfb c n hn,zfb d m hm] at q;have l:=wbi List.length q
 rw[wbZ,wbZ] at l;refine⟨by omega,?_⟩;have h0:c∈rpl m.toNat d:=by rw[<-q];exact List.mem_replicate.mpr ⟨by omega,rfl⟩
 exact(List.mem_replicate.mp h0).2
def zn7 (c:Nat)(n:Int)(h:1<=n):(Txt.mul (sg c) n).length=n.toNat:=by
 have:=wbi List.length (zfb c n h)
 rw[wbZ] at this;simpa[Str.length] using this
theorem zea {C:Type}{f:Nat->C}:∀(m:Nat),(∀i j,i<j->j<m->f i≠f j)->((List.range m).map f).Nodup
|0,_=>by simp
|m+1,h=>by
   rw[List.range_succ,waH];refine wbn.mpr ⟨zea m λi j hi hj=>h i j hi (by omega),by simp,λa ha b hb=>?_⟩;obtain⟨i,hi,rfl⟩:=waE.mp ha;have:=wag.mp hb
   subst this;exact h i m (wbI.mp hi) (by omega)
inductive Tr where
|mk (name:Str) (box:Bx) (word:Str) (rank:Int) (head:Option Str) (parts:List Tr)
namespace Tr
def name:Tr->Str|mk n _ _ _ _ _=>n
def parts:Tr->List Tr|mk _ _ _ _ _ x=>x
end Tr
structure Seg (d:Nat)(M:List Row):Prop where
 few:M.length<=200
 low:∀r∈M,d<=r.deep/\r.deep<=4
 first:∀r,M[0]?=some r->r.deep=d
 step:∀k r r',M[k]?=some r->M[k+1]?=some r'->r'.deep<=r.deep+1
def szL:Nat->List Tr->Nat
|_,[]=>0
|0,_=>0
|n+1,t::r=>1+szL n t.parts+szL (n+1) r
termination_by n ts=>(n,ts.length)
structure Pos' where
 q:List Int
 as:List Tr
 js:List Nat
 t:Tr
def posL:Nat->List Int->Nat->List Tr->List Nat->Nat->List Tr->List Pos'
|_,_,_,_,_,_,[]=>[]
|0,_,_,_,_,_,_=>[]
|n+1,o,i,as,js,off,t::r=>⟨o++[(i:Int)],as,js,t⟩ ::(posL n (o++[(i:Int)]) 0 (as++[t]) (js++[off]) (off+1) t.parts++posL (n+1) o (i+1) as js (off+1+szL n t.parts) r)
termination_by n _ _ _ _ _ ts=>(n,ts.length)
def Fits:Nat->List Tr->Prop
|0,ts=>ts = []
|n+1,ts=>∀t∈ts,Fits n t.parts
def psOf (ts:List Tr):List Pos':=posL 5 [] 0 [] [] 0 ts
section
variable {ts:List Tr}{L:List Row}
end
end GM
namespace GM
open PySem.Spec L2 VD
def zeJ {n:Nat}{i:Nat}{d:D}(h:(zaB 0 n)[i]?=some d):i<n/\d=.int (i:Int):=by
 have hl:(zaB 0 n).length=n:=by simp[zaB]
 have hi:i<n:=by rw[<-hl];exact(wab.mp h).1
 refine⟨hi,?_⟩;unfold zaB at h;rw[wah,wck hi] at h;simp at h;exact h.symm
def zjM {C:Type}{xs:List C}{i:Int}(h0:0<=i)(h1:i<xs.length):∃x,xs[i.toNat]?=some x/\atI xs i=some x:=by
 have hi:i.toNat<xs.length:=by omega
 refine⟨xs[i.toNat],wac hi,?_⟩;have e:i=((i.toNat:Nat):Int):=by omega
 have h:=zaH (xs:=xs) (wac hi)
 rw[<-e] at h;exact h
def zlB:abcS.length<=lim:=by decide +kernel
def zqj {i:Int}(h0:0<=i)(h1:i<26):dIx (.str abcS) (.int i)=some (.str (sg (97+i.toNat))):=by
 show(if abcS.length<=lim then(atI abcS.cps.toList i).map λc=>D.str ⟨#[c]⟩ else none)=_
 rw[if_pos zlB,zqi h0 h1];rfl
def zqk (c:Nat):(sg c).length=1:=rfl
def zql (c:Nat){n:Int}(h0:-1000<=n)(h1:n<=1000):dMul (.str (sg c)) (.int n)=some (.str (Txt.mul (sg c) n)):=by
 show(if -1000<=n/\n<=1000/\(sg c).length<=1000 then some (D.str (Txt.mul (sg c) n)) else none)=_
 rw[if_pos ⟨h0,h1,by rw[zqk];decide⟩]
theorem zdp {S A C:Type}{f:S->D->Option (Fl S A)}(h:C->D):∀{xs:List C}{s:S},(∀x,x∈xs->f s (h x)=some (.nx s))->zeu f s (xs.map h)=some (.nx s)
|[],s,_=>rfl
|x::xs,s,hf=>by
   show(f s (h x)).bind _=_
   rw[hf x war,zOB];exact zdp h λy hy=>hf y (wam _ hy)
def zgL {S A:Type}{f:S->D->Option (Fl S A)}{ds:List D}{s:S}(hf:∀x,x∈ds->f s x=some (.nx s)):zeu f s ds=some (.nx s):=by
 have:=zdp (f:=f) (λd:D=>d) (xs:=ds) (s:=s) hf
 rwa [List.map_id'] at this
def zdq {xs:List D}{d:D}(h:xs.length<lim):appL xs d=some (xs++[d]):=if_pos h
def zcp {C:Type}{f:D->Option (Option D)}(h:C->D)(g:C->D){xs:List C}(hl:xs.length<=10000)(hf:∀x,x∈xs->f (h x)=some (some (g x))):zbq f (xs.map h)=some (xs.map g):=by
 unfold zbq;have:zbT f (xs.map h)=some (xs.map g):=by
  clear hl
  induction xs with
 |nil=>rfl
 |cons x xs ih=>
    show(f (h x)).bind _=_
    rw[hf x war,zOB];show(zbT f (xs.map h)).bind _=_
    rw[ih λy hy=>hf y (wam _ hy)];rfl
 rw[this,zOB,if_pos];rw[waf];exact wao hl (by decide)
def zbk {C:Type}{f:D->Option (Option D)}(h:C->D)(p:C->Bool)(g:C->D){xs:List C}(hl:xs.length<=10000)(hf:∀x,x∈xs->f (h x)=some (if p x then some (g x) else none)):zbq f (xs.map h)=some ((xs.filter p).map g):=by
 unfold zbq;have:zbT f (xs.map h)=some ((xs.filter p).map g):=by
  clear hl
  induction xs with
 |nil=>rfl
 |cons x xs ih=>
    have ih:=ih λy hy=>hf y (wam _ hy)
    show(f (h x)).bind _=_
    rw[hf x war,zOB];cases hp:p x with
   |true=>
      show(zbT f (xs.map h)).bind _=_
      rw[ih,List.filter_cons,if_pos hp];rfl
   |false=>
      rw[ih,List.filter_cons,hp];rfl
 rw[this,zOB,if_pos];rw[waf];exact wao (wbH _ _) (wao hl (by decide))
def zjN {C:Type}(f:C->D)(xs:List C):zdF (xs.map f)=xs.zipIdx.map λp=>.tup [.int (p.2:Nat),f p.1]:=by
 unfold zdF;rw[List.zipIdx_map,waW];rfl
def zaD (x y:Int):dEqG false (.int x) (.int y)=some (.bl (decide (x=y))):=by
 show(if eqC (.int x) (.int y)=true then some (D.bl (if false=true then !decide (D.int x=D.int y) else decide (D.int x=D.int y))) else none)=_
 rw[if_pos (by rfl),if_neg (by decide),zat (show D.int x=D.int y↔x=y from⟨λh=>by cases h;rfl,λh=>by rw[h]⟩)]
def zeb {d:D}(h:eqC d d=true)(neg:Bool):dEqG neg d d=some (.bl (!neg)):=by
 unfold dEqG;rw[if_pos h,waD rfl];cases neg <;> rfl
mutual
theorem zfS:∀{d:D},ndD d=true->eqOk d d=true
|.non,_=>rfl
|.bl _,_=>rfl
|.int _,_=>rfl
|.str _,_=>rfl
|.tup ds,h=>zdr (ds:=ds) h
|.lst ds,h=>zdr (ds:=ds) h
|.dct _ _,h=>by cases h
|.scr _,h=>by cases h
|.exc _ _ _,h=>by cases h
|.dcu _ _,h=>by cases h
theorem zdr:∀{ds:List D},ndL ds=true->zdG ds ds=true
|[],_=>rfl
|d::ds,h=>by
   have h:(ndD d&&ndL ds)=true:=h
   rw[waF] at h;show(eqOk d d&&zdG ds ds)=true
   rw[zfS h.1,zdr h.2];rfl
end
def zlC {d:D}(h:ndD d=true)(hd:depD d<=40):eqC d d=true:=by
 unfold eqC;rw[zfS h,h,waD hd];rfl
theorem zgM {m:Nat}:∀{ds:List D},(∀d∈ds,depD d<=m)->depL ds<=m
|[],_=>wbx _
|d::ds,h=>Nat.max_le.mpr ⟨h d war,zgM λe he=>h e (wam _ he)⟩
theorem zjO:∀{ds:List D},(∀d∈ds,ndD d=true)->ndL ds=true
|[],_=>rfl
|d::ds,h=>by
   show(ndD d&&ndL ds)=true
   rw[h d war,zjO λe he=>h e (wam _ he)];rfl
def zec {x:Str}{th:List Str}:dInG false (.str x) (.lst (th.map D.str))=some (.bl (decide (x∈th))):=by
 have hc:inC (.str x) (th.map D.str)=true:=by
  unfold inC;rw[waF];refine⟨rfl,waB.mpr λy hy=>?_⟩;obtain⟨z,_,rfl⟩:=waE.mp hy;rfl
 show(if inC (.str x) (th.map D.str)=true then some (D.bl (if false=true then !decide (D.str x∈th.map D.str) else decide (D.str x∈th.map D.str))) else none)=_
 rw[if_pos hc,if_neg (by decide),zat (show D.str x∈th.map D.str↔x∈th from⟨λh=>by
  obtain⟨z,hz,e⟩:=waE.mp h;cases e;exact hz,λh=>waE.mpr ⟨x,h,rfl⟩⟩)]
def zhv {xs:List D}{r:Int}(h0:0<=r)(h1:r<=xs.length):VD.cut xs none (some r)=xs.take r.toNat:=by
 unfold VD.cut HT.sIx;dsimp only[];rw[if_neg (by omega),wcQ,Nat.sub_zero,wbh (by omega)]
end GM
namespace GM
open PySem.Spec L2 VD
end GM
namespace VD
open PySem.Spec L2 PySem.W
structure TabX (X:Cx)(q:Str):Prop where
 ex:∃c P bm ob,X.env.code=.ref c/\CodeK X.K c P/\BMod X.base mG X.mg bm ob/\∃tp,X.Hz P=some (.tbl tp)/\tp[0]?=some (Value.str q 0)
section
variable {X:Cx}{a:Expr}{fa:FE}
end
structure Pers (Pc:Hp->Prop):Prop where
 st:∀{fs ex:List Addr}{H H':Hp}{h h':Heap},Un fs ex H H' h h'->Pc H->Pc H'
 sm:∀{H H':Hp},Same H H'->Pc H->Pc H'
def Prs (X:Cx)(Pc:Hp->Prop):Prop:=∀pins Y H s,Inv X pins Y H s->Pc H
def Prs.of {X:Cx}{Pc:Hp->Prop}(p:Pers Pc)(h:Pc X.Hz):Prs X Pc:=λ_ _ _ _ I=>p.st I.base h
def pcS (Pc:Hp->Prop)(sp:Sp):Sp:=λvs H Q E=>Pc H/\sp vs H Q E
structure Scr where
 p:Addr
 ns:List Int
def SqF (K:Fg)(S:Scr)(H:Hp):Prop:=(∃o,H S.p=some (.frz o (.lst (S.ns.map V.int))))\/∀H,SqL K H S.p (S.ns.map V.int)
def SqF.sq {K:Fg}{S:Scr}{H:Hp}(h:SqF K S H):SqL K H S.p (S.ns.map V.int):=by
 rcases h with⟨o,h⟩|h
 .exact .inl (.inr ⟨o,h⟩)
 .exact h H
def SqF.of {K:Fg}{S:Scr}{H:Hp}(h:SqL K H S.p (S.ns.map V.int))(hf:H S.p≠none->∃o xs,H S.p=some (.frz o (.lst xs))):SqF K S H:=by
 rcases h with(h|⟨o,h⟩)|h
 .obtain⟨o,xs,e⟩:=hf (by rw[h];simp);rw[h] at e;cases e
 .exact .inl ⟨o,h⟩
 .exact .inr λ_=>.inr h
def TabH (P:Addr)(q:Str)(H:Hp):Prop:=∃tp,H P=some (.tbl tp)/\tp[0]?=some (Value.str q 0)
def tab0 {tp more:Array Vl}{q:Str}(htp:tp[0]?=some (Value.str q 0)):(tp++more)[0]?=some (Value.str q 0):=by
 have:0<tp.size:=by
  rcases Nat.eq_zero_or_pos tp.size with z|z
  .rw[Array.getElem?_eq_none (by omega)] at htp;cases htp
  .exact z
 rw[Array.getElem?_append_left this];exact htp
def pers_F {K:Fg}{S:Scr}:Pers (SqF K S):=⟨λu h=>by
 rcases h with⟨o,h⟩|h
 .exact .inl ⟨o,u.frzs _ _ _ h⟩
 .exact .inr h,λs h=>by
 rcases h with⟨o,h⟩|h
 .exact .inl ⟨o,s _ _ h⟩
 .exact .inr h⟩
def pers_T {P:Addr}{q:Str}:Pers (TabH P q):=⟨λu ⟨tp,h,e⟩=>by
 obtain⟨more,h'⟩:=u.tbls _ _ h;exact⟨_,h',tab0 e⟩,λs ⟨tp,h,e⟩=>⟨tp,s _ _ h,e⟩⟩
section
variable {X:Cx}{a b e:Expr}{es:List Expr}{fa fb:FE}{fl:FA}{p pos:Pos}{Pc:Hp->Prop}
def pcP {k k':Nat}{x:Str}{ps:List Str}{sp:Sp}{t:TA}(C:Cal X.prog X.w X.K X.mg X.base k x ps (pcS Pc sp))(hp:Prs X Pc)(hr:Room k' X.A)(ha:PA X (e::es) t)(hk:k<=k')(hg:Gl X x)(hdb:(x == ("__debug__":Str))=false)
 (he:sE (e::es) X.env=(false,eval e X.env)::sE es X.env) (hpl:(backTo pos (sE es X.env)).any (·.1)=false):PE X (.Call (.Name x p) (e::es) [] pos) (zhX sp [] E0 t):=by
 obtain⟨f,fd,F,hb,hkp,hm⟩:=C.ex;intro pins s Y H Q I h;refine waQ (zcO I hg hm ?_ hdb);refine callWith_K (h₀:=X.base) I.ok.mod.kin hkp (thn (ha pos pins s Y H _ I h) λus s1 ⟨vs,H1,I1,r,q⟩=>⟨I1.kIn,?_⟩) he hpl;exact zmm (F.mono hk) hr hb .nil zpt I1 r ⟨hp _ _ _ _ I1,q⟩
def za0 {k k':Nat}{x:Str}{ps:List Str}{F:List D->Option D}(C:Cal X.prog X.w X.K X.mg X.base k x ps (pcS Pc (spF X.K F)))(hp:Prs X Pc)(hr:Room k' X.A)(ha:VA X (e::es) fl)(hk:k<=k':=by decide)(hg:Gl X x:=by rfl)(hdb:(x == ("__debug__":Str))=false:=by decide)
 (he:sE (e::es) X.env=(false,eval e X.env)::sE es X.env:=by rfl) (hpl:(backTo pos (sE es X.env)).any (·.1)=false:=by rfl):VE X (.Call (.Name x p) (e::es) [] pos) (eCall F fl):=by
 obtain⟨t,pa,g⟩:=ha;refine⟨_,pcP C hp hr pa hk hg hdb he hpl,?_⟩;intro Hz Jz O Z Y H J d Q s e w;obtain⟨ds,e1,e⟩:=bS e;refine g Hz Jz O Z Y H J ds _ s e1 λvs H1 J1 u1 r1=>?_
 refine⟨J1,ds,d,u1.ja,by rw[waJ];exact r1,e,λv H2 J2 u2 r2=>w v H2 J2 (u1.trans u2) r2⟩
def zed {fl:FAX}{k k':Nat}{x:Str}{ps:List Str}{ks:List (Option Nat)}{F:List D->Option (RV×List D)}(C:Cal X.prog X.w X.K X.mg X.base k x ps (pcS Pc (spG X.K ks F)))(hp:Prs X Pc)(hr:Room k' X.A)(ha:VAX X (e::es) fl)(hn:ks.all (·.isNone)=true:=by rfl)(hk:k<=k':=by decide)(hg:Gl X x:=by rfl)(hdb:(x == ("__debug__":Str))=false:=by decide)
 (he:sE (e::es) X.env=(false,eval e X.env)::sE es X.env:=by rfl) (hpl:(backTo pos (sE es X.env)).any (·.1)=false:=by rfl):VR X (.Call (.Name x p) (e::es) [] pos) (xCallN ks F fl):=by
 obtain⟨t,pa,g⟩:=ha;exact⟨_,pcP C hp hr pa hk hg hdb he hpl,zln hn g _⟩
def lenS (S:Scr):D->Option D
|.scr q=>if q=S.p then some (.int S.ns.length) else none
|_=>none
def ixS (S:Scr):D->D->Option D
|.scr q,.int i=>if q=S.p then(atI S.ns i).map D.int else none
|_,_=>none
def zjP {S:Scr}{d r:D}(h:lenS S d=some r):d=.scr S.p/\r=.int S.ns.length:=by
 unfold lenS at h;split at h
 .split at h
  .rename_i z;rw[z];cases h;exact⟨rfl,rfl⟩
  .cases h
 .cases h
def zlD {S:Scr}{x y r:D}(h:ixS S x y=some r):∃i n,x=.scr S.p/\y=.int i/\atI S.ns i=some n/\r=.int n:=by
 match x,y,h with
|.scr q,.int i,h=>
   have h:(if q=S.p then(atI S.ns i).map D.int else none)=some r:=h
   by_cases z:q=S.p
   .rw[if_pos z] at h;cases hi:atI S.ns i with
   |none=>rw[hi] at h;cases h
   |some n=>rw[hi] at h;cases h;exact⟨i,n,by rw[z],rfl,hi,rfl⟩
   .rw[if_neg z] at h;cases h
def zn8 {C B:Type}{f:C->B}{xs:List C}{i:Int}:atI (xs.map f) i=(atI xs i).map f:=by
 unfold atI;rw[waf];cases ixN xs.length i with
|none=>rfl
|some j=>simp
def zjQ {S:Scr}(hp:Prs X (SqF X.K S))(B:Blt X.mg)(ha:VE X a fa)(hg:Gl X "len":=by rfl)(h1:sE [a] X.env=(false,eval a X.env)::sE [] X.env:=by rfl):VE X (.Call (.Name "len" p) [a] [] pos) (e1 (lenS S) fa):=by
 obtain⟨ta,pa,ga⟩:=ha;refine⟨λY H Q=>∃Hz Jz O Z J d,ST X.K Hz Jz O Z Y H J/\e1 (lenS S) fa Z=some d/\zgz X.K H J d Q,λpins s Y H Q I hyp=>?_,λHz Jz O Z Y H J d Q st e w=>⟨Hz,Jz,O,Z,J,d,st,e,w⟩⟩;obtain⟨Hz,Jz,O,Z,J,d,st,e,w⟩:=hyp;obtain⟨x,ex,e⟩:=bS e;obtain⟨rfl,rfl⟩:=zjP e;refine pb zfz B PySem.boot_len (za2 pa zcL h1) (by decide +kernel) hg (by decide) (by decide) h1 rfl pins s Y H Q I ?_;refine ga Hz Jz O Z Y H J _ _ st ex λv H1 J1 u r=>?_
 cases r;refine⟨S.p,S.ns.map V.int,rfl,.inl (pers_F.sm u.same (hp _ _ _ _ I)).sq,?_⟩;rw[waf];exact w _ H1 J1 u (.int _)
def zqm {S:Scr}(hp:Prs X (SqF X.K S))(ha:VE X a fa)(hb:VE X b fb)(hs:zdo b:=by exact λ_ _=>rfl):VE X (.Subscript a b pos) (e2 (ixS S) fa fb):=by
 obtain⟨ta,pa,ga⟩:=ha;obtain⟨tb,pb,gb⟩:=hb;refine⟨λY H Q=>∃Hz Jz O Z J d,ST X.K Hz Jz O Z Y H J/\e2 (ixS S) fa fb Z=some d/\zgz X.K H J d Q,λpins s Y H Q I hyp=>?_,λHz Jz O Z Y H J d Q st e w=>⟨Hz,Jz,O,Z,J,d,st,e,w⟩⟩;obtain⟨Hz,Jz,O,Z,J,d,st,e,w⟩:=hyp;obtain⟨x,ex,e⟩:=bS e;obtain⟨y,ey,e⟩:=bS e;obtain⟨i,n,rfl,rfl,hi,rfl⟩:=zlD e;refine zi0 ix_list pa pb hs pins s Y H Q I ?_;refine ga Hz Jz O Z Y H J _ _ st ex λv H1 J1 u r=>?_
 refine gb Hz Jz O Z Y H1 J1 _ _ (st.up u) ey λv2 H2 J2 u2 r2=>?_
 cases r;cases r2;exact⟨S.p,_,i,.int n,rfl,rfl,(pers_F.sm u2.same (pers_F.sm u.same (hp _ _ _ _ I))).sq,by rw[zn8,hi];rfl,w _ H2 J2 (u.trans u2) (.int _)⟩
end
section
variable {P:Pm}{w:World}{K:Fg}{mg:Str->Option Vl}{base:Heap}{Pc:Hp->Prop}
def zb7 {x qual:Str}{st:Stmt}{f:Addr}{fd:Fu}{N ps:List Str}{k:Nat}{c:List D->Option D}(pe:Pers Pc)(F:Fun K x qual st f fd)(S:FnScope N ps (zab st))(qe:∀ds d,c ds=some d->ds.length=ps.length)
 (qK:∀(cdv:Vl) (A:Ao) (outer:List Env) (s:Sd) (H:Hp) (E:XK),fd.code=cdv->Room k (A.deeper (envOfC qual (zab st) s.heap.objs.size f cdv))->Pc H->Prs (cxOf CX0 P w K mg base N qual (zab st) f cdv A outer s H E).nox Pc->∃g,VSs (cxOf CX0 P w K mg base N qual (zab st) f cdv A outer s H E).nox (zaI st) g/\∀ds,ds.length=ps.length->EvS kF some g (ds.map SV.val++rpl (N.length - ps.length) .un) (c ds)):FnOk P w K mg base CX0 (k+1) f fd ps (pcS Pc (spF K c)):=by
 refine F.okC S (λvs H Q E h=>?_) (λcdv A outer s H vs Q E hcv hr h=>?_)
 .obtain⟨_,J,ds,d,ja,r,e,w⟩:=h;rw[r.length];exact qe ds d e
 .obtain⟨hPc,J,ds,d,ja,r,e,w⟩:=h;have hl:=qe ds d e
  obtain⟨g,⟨t,p,q⟩,ev⟩:=qK cdv A outer s H E hcv hr hPc (Prs.of pe hPc);refine⟨t,p,?_⟩;have e:=ev ds hl d (by rw[e];rfl)
  rw[<-hl] at e;have s0:=zdK (N:=N) ja r
  cases z:g (ds.map SV.val++rpl (N.length - ds.length) .un) with
 |none=>rw[z] at e;cases e
 |some o=>
    rw[z] at e;refine q H J Pr.no _ _ H J o _ s0 z ?_;cases o with
   |nx Z'=>cases e;exact λY' H' J' s' k'=>w .non H' J' s'.out .non
   |ret r Z'=>
      cases r with
     |told d'=>cases e;exact λv Y' H' J' s' r'=>w v H' J' s'.out r'
     |new n d'=>
        cases e;rintro v Y' H' J' s' ⟨B,fp,_,ru,_,hb,_⟩;have u:=s'.out
        refine w v H' (λb=>J' b\/b∈B) ⟨u.same,λa h=>.inl (u.jj a h),λa h=>?_,λa h=>?_⟩ (ru.rp (λ_ h=>.inl h) (λb hb=>.inr hb))
        .rcases h with h|h
         .exact u.jn a h
         .exact .inr (hb a h).2
        .rcases h with h|h
         .exact u.ja a h
         .obtain⟨o,e,_⟩:=ru.some a h;rw[e];simp
   |bk _=>cases e
   |ct _=>cases e
def zn9 {x qual:Str}{st:Stmt}{f:Addr}{fd:Fu}{N ps:List Str}{k:Nat}{c:List D->Option (RV×List D)}(pe:Pers Pc)(ks:List (Option Nat))(F:Fun K x qual st f fd)(S:FnScope N ps (zab st))(hks:ks.length=ps.length)
 (qK:∀(cdv:Vl) (A:Ao) (outer:List Env) (s:Sd) (H:Hp) (E:XK),fd.code=cdv->Room k (A.deeper (envOfC qual (zab st) s.heap.objs.size f cdv))->Pc H->Prs (cxOf CX0 P w K mg base N qual (zab st) f cdv A outer s H E).nox Pc->∃g,VSs (cxOf CX0 P w K mg base N qual (zab st) f cdv A outer s H E).nox (zaI st) g/\∀ds,ds.length=ks.length->EvS (kG ks) some g (inSl ks ds++rpl (N.length - ks.length) .un) (c ds)) :
 FnOk P w K mg base CX0 (k+1) f fd ps (pcS Pc (spG K ks c)):=by
 refine F.okC S (λvs H Q E h=>?_) (λcdv A outer s H vs Q E hcv hr h=>?_)
 .obtain⟨_,J,ds,r,es,fp,ja,a,e,w⟩:=h;rw[a.l1,hks]
 .obtain⟨hPc,J,ds,r,es,fp,ja,a,e,w⟩:=h;obtain⟨g,⟨t,p,q⟩,ev⟩:=qK cdv A outer s H E hcv hr hPc (Prs.of pe hPc);refine⟨t,p,?_⟩;have s0:=zfL (N:=N) ja a
  have e:=ev ds a.l2 (r,es) (by rw[e];rfl)
  cases z:g (inSl ks ds++rpl (N.length - ks.length) .un) with
 |none=>rw[z] at e;cases e
 |some o=>
    rw[z] at e;refine q H J _ _ _ H J o _ s0 z ?_;cases o with
   |nx Z'=>
      obtain⟨es',e1,e⟩:=bS (show((outSl ks Z').bind λes=>some (RV.told D.non,es))=some (r,es) from e);cases e;intro Y' H' J' s' k';obtain⟨fp',pg⟩:=zll (v:=.non) (r:=.told .non) a s' .non e1;exact w _ _ _ _ pg
   |ret r' Z'=>
      obtain⟨es',e1,e⟩:=bS (show((outSl ks Z').bind λes=>some (r',es))=some (r,es) from e);cases e;intro v Y' H' J' s' q';obtain⟨fp',pg⟩:=zll a s' q' e1;exact w _ _ _ _ pg
   |bk _=>cases e
   |ct _=>cases e
structure TabF (K:Fg)(mg:Str->Option Vl)(base:Heap)(fd:Fu)(P:Addr):Prop where
 ex:∃c bm ob,fd.code=.ref c/\CodeK K c P/\BMod base mG mg bm ob
def zgN {X:Cx}{fd:Fu}{P:Addr}{q:Str}(T:TabF X.K X.mg X.base fd P)(hc:fd.code=X.env.code)(h:TabH P q X.Hz):TabX X q:=by
 obtain⟨c,bm,ob,e1,e2,e3⟩:=T.ex;exact⟨c,P,bm,ob,by rw[<-hc];exact e1,e2,e3,h⟩
end
end VD
namespace L2
open PySem.Spec
section
variable {X:Cx}
end
end L2
namespace VD
open PySem.Spec L2 PySem.W
section
variable {X:Cx}{a b e:Expr}{fa fb:FE}
end
end VD
namespace HT
open PySem.Spec
section
variable {prog:Pm}{w:World}{A:Ao}{E:Vl->Sd->Prop}{s:Sd}
end
end HT
namespace L2
open PySem.Spec
section
variable {X:Cx}
end
end L2
namespace VD
open PySem.Spec L2 PySem.W
section
variable {X:Cx}{a:Expr}{fa:FE}{p2 pos:Pos}
end
end VD
namespace VD
open PySem.Spec L2
def ix2C (xs:List D)(k:D):Option D:=(dInt k).bind λk=>(atI xs k).bind λd=>match d with|.lst es=>some (.lst es)|_=>none
def zlE (xs:List D)(es:List D)(k:D):Option (List D):=(dInt k).bind λk=>(ixN xs.length k).bind λj=>match xs[j]? with
|some (.lst _)=>some (xs.set j (.lst es))
|_=>none
def zoa (xs:List D)(k d:D):Option (List D):=(dInt k).bind λk=>(ixN xs.length k).bind λj=>match xs[j]? with
|some (.lst es)=>if es.length<lim then some (xs.set j (.lst (es++[d]))) else none
|_=>none
section
variable {Z:En}{xs:List D}{i:Nat}{fk fv:FE}{f:FA}
def zob (h:ownD (Z[i]?)=some (2,.lst xs)):Step (znP i fk f) Z ((f Z).bind λes=>(fk Z).bind λk=>zlE xs es k) λys=>setO Z i (.lst ys):=λd z=>by
 obtain⟨es,e0,z⟩:=zaa z;obtain⟨k,e1,z⟩:=zaa z;obtain⟨kk,e2,z⟩:=zaa z;obtain⟨j,e3,z⟩:=zaa z;unfold znP;rw[e0,zOB,e1,zOB,e2,zOB,h];show(ixN xs.length kk).bind _=_
 rw[e3,zOB];split at z
 .rename_i q;cases z;first|rw[q]|rfl
 .cases z
def zoc (h:ownD (Z[i]?)=some (2,.lst xs)):Step (znN i fk fv) Z ((fk Z).bind λk=>(fv Z).bind λd=>zoa xs k d) λys=>setO Z i (.lst ys):=λd z=>by
 obtain⟨k,e1,z⟩:=zaa z;obtain⟨x,e0,z⟩:=zaa z;obtain⟨kk,e2,z⟩:=zaa z;obtain⟨j,e3,z⟩:=zaa z;unfold znN;rw[e1,zOB,e2,zOB,e0,zOB,h];show(ixN xs.length kk).bind _=_
 rw[e3,zOB];split at z
 .rename_i es q
  try rw[q]
  split at z
  .rename_i hl;cases z;exact if_pos hl
  .cases z
 .cases z
end
section
variable {S:Type}{emb:S->En}{Z:En}{s:S}{f:FX}{x:Option (D×S)}
end
def zlF (x k v:D):Option D:=match x with
|.lst xs=>(zjA xs k v).bind λys=>some (.lst ys)
|_=>none
def zhw {i:Nat}{Z:En}{fk f:FE}{x:D}(h:ownD (Z[i]?)=some (1,x)):Step (gPutL i fk (xE f)) Z ((f Z).bind λv=>(fk Z).bind λk=>zlF x k v) λy=>setO Z i y:=λd z=>by
 obtain⟨v,e0,z1⟩:=zaa z;obtain⟨kk,e1,z2⟩:=zaa z1;cases x <;> try cases z2
 rename_i xs
 obtain⟨ys,e2,z3⟩:=zaa z2;cases z3;exact znZ h ys (by rw[e0,zOB,e1];exact e2)
def newD {S:Type}(q:RV×S):Option (D×S):=match q.1 with
|.new 1 x=>some (x,q.2)
|_=>none
def zgO {S:Type}{emb:S->En}{Z:En}{i:Nat}{fr:FR}{xr:Option (RV×S)}(h:EvR fr Z xr emb)(hi:∀s,okS i (emb s)=true):Step (gOwnR i fr) Z (xr.bind newD) λq=>(emb q.2).set i (.own 1 q.1):=λq z=>by
 obtain⟨⟨r,s1⟩,e0,z⟩:=zaa z;unfold newD at z;split at z
 .rename_i x hr
  cases z;have hr:r=.new 1 x:=hr
  subst hr;unfold gOwnR;rw[h _ e0,zOB];exact if_pos (zdC (hi s1))
 .cases z
end VD
namespace VD
open PySem.Spec L2 PySem.W
section
variable {X:Cx}{a b e e1':Expr}{es:List Expr}{fa fb:FE}{fl:FA}{p pos:Pos}{Pc:Hp->Prop}
end
end VD
namespace VD
open PySem.Spec L2
section
variable {X:Cx}{i b:Expr}{ty:TE}{pos p':Pos}{x:Str}
end
section
variable {X:Cx}{e:Expr}{fa:FE}{fl:FA}{pos pos':Pos}{x:Str}
def vsS (i:Nat)(hN:X.N.Nodup)(h:VE X e fa)(hi:X.N[i]?=some x:=by rfl)(hx:Loc X.env.scope x:=by first|exact Or.inl rfl|exact Or.inr rfl)(hs:sWw e (some (.Name x pos')) pos.line X.env=pure false:=by rfl)(hf:X.fn x=true\/X.env.scope.names.lookup x=some .local:=by first|exact .inl rfl|exact .inr rfl|assumption) :
 VS X (.Assign [.Name x pos'] e pos) (gSet i fa):=zpT hN hi hx h hs hf
def vsO (i:Nat)(hN:X.N.Nodup)(h:VN X e fl)(hi:X.N[i]?=some x:=by rfl)(hx:Loc X.env.scope x:=by first|exact Or.inl rfl|exact Or.inr rfl)(hs:sWw e (some (.Name x pos')) pos.line X.env=pure false:=by rfl)(hf:X.fn x=true\/X.env.scope.names.lookup x=some .local:=by first|exact .inl rfl|exact .inr rfl|assumption) :
 VS X (.Assign [.Name x pos'] e pos) (gOwn i fl):=zpU hN hi hx h hs hf
def vgN (i:Nat)(hN:X.N.Nodup)(hi:X.N[i]?=some x:=by rfl)(hx:Loc X.env.scope x:=by first|exact Or.inl rfl|exact Or.inr rfl)(hf:X.fn x=true\/X.env.scope.names.lookup x=some .local:=by first|exact .inl rfl|exact .inr rfl|assumption):VG X (.Name x pos) [i] (gN i):=znE hN hi hx hf
def vgc (i:Nat){X:Cx}{scope:Scope}{cl:List (Str×Addr)}{NC:List Str}{C:Addr}{s0:Sd}{H0:Hp}{ex:List Addr}{pn:List (Addr×Obj)}{x:Str}{pos:Pos}(nd:NC.Nodup:=by decide +kernel)(hi:NC[i]?=some x:=by rfl)(hx:scope.names.lookup x=some .local:=by rfl):VG (cxC X scope cl NC C s0 H0 ex pn) (.Name x pos) [i] (gN i):=vgC i nd hi hx
def fsc {N P:List Str}{sc:Scope}(a:sc.kind=.function:=by rfl)(b:sc.isCoroutine=false:=by rfl)(c:sc.isGenerator=false:=by rfl)(d:N.Nodup:=by decide +kernel)(e:N.take P.length=P:=by rfl)(f:∀x∈P,sc.names.lookup x=some .local\/sc.names.lookup x=some .cell:=by decide +kernel)(g:∀y∈sc.names,y.2≠.free:=by decide +kernel):FnScope N P sc:=⟨a,b,c,d,e,f,g⟩
def vnC (N:List Str)(st:Stmt){X:Cx}{elt qb tg:Expr}{ifs:List Expr}{scope:Scope}{pos:Pos}{NC:List Str}(fr:List (Option Nat)){fi:FA}{g:FG}{is:List Nat}{ft:FT}{fe:FE}(hi:VI X tg qb fi)
 (hg:∀{cl C s0 H0 ex pn},VG (cxC X scope cl NC C s0 H0 ex pn) tg is g) (ht:∀{cl C s0 H0 ex pn},VTs (cxC X scope cl NC C s0 H0 ex pn) ifs ft) (he:∀{cl C s0 H0 ex pn},VE (cxC X scope cl NC C s0 H0 ex pn) elt fe)
 (qm:X.calm=true:=by rfl) (ql:∀x,X.env.scope.names.lookup x=some .cell->∃c,X.env.cells.lookup x=some c:=by exact λx h=>za3 h) (hfk:X.env.scope.kind=.function:=by rfl) (hN:X.N=N:=by rfl) (hsc:X.env.scope.names=(zab st).names:=by rfl)
 (qj:∀y∈scope.names,y.2=.free->(zab st).names.lookup y.1=some .cell:=by decide +kernel) (qg:∀y∈scope.names,y.2≠.cell:=by decide +kernel) (qh:scope.kind=.function:=by rfl) (qi:∀y∈scope.names,y.2=.local->scope.names.lookup y.1=some .local:=by decide +kernel)
 (qD:zbS N (zab st).names scope.names NC fr=true:=by decide +kernel) (qe:fr.length=NC.length:=by rfl) (hap:apart is fr=true:=by decide)
 (hs:∀x,fSI qb X.env x=pure x:=by intro _;rfl):VN X (.ListComp elt [⟨tg,qb,ifs,0⟩] scope pos) (ze0 fr fi g ft fe):=
 znF N st fr qm hi ql hfk hN hsc qj qg qh qi qD qe hap (λ_ _ _ _ _ _=>hg) (λ_ _ _ _ _ _=>ht) (λ_ _ _ _ _ _=>he) hs
end
end VD
namespace EX
open PySem.Spec PySem.W
section
variable {prog:Pm}{w:World}{A:Ao}{E:Vl->Sd->Prop}{h:Heap}{g:Array GenState}{d:Drawn}{t:Nat}{os:OsState}
variable {nm q:Str}{C N:Addr}{bs bm bmB:List Vl}{hdct:Bool}{sn:List Str}{sub:List Vl}{ab:Bool}{col:Option Bool}{dd:Option Addr}{k0 k1 k2 k3 k5:Option Vl}{B newId wJ:String}
def zex (F:ExcBaseFacts B newId wJ bmB)(T:OwnTail h bmB bm){mN:Str->Option Vl}{rest:List Vl}{fI:Addr}{oI:Obj}{Q:Fin->Sd->Prop}
 (hC:h.get? C=some (excClassObj nm q C N bs bm hdct sn sub ab col dd k0 k1 k2 k3 k5 newId)) (hn:h.Ns N mN) (hi:mN "__init__"=some (.ref fI))
 (hfI:h.get? fI=some oI) (hfc:oI.cls=.type "function")
 (hq:∀h' e,Heap.MadeExcOf h h' e (.ref C) rest->h.objs.size<=e->
  wA (model prog w) A (call (.ref fI) (.ref e::rest)) (λr s'=>r=.none/\Q (.done (.ret (.ref e))) s') E ⟨h',g,d,t,os⟩) (hrest:rest.length<=sLn:=by size_fits) :
 wA (model prog w) A (Builtin.«type.__call__» ⟨.ref C::rest,[]⟩) Q E ⟨h,g,d,t,os⟩:=by
 repeat (first|with_reducible refine wbR hC ?_|with_reducible refine wpAny_madeBy_exc hC ?_|wp_step)
 refine codeAny_call_builtin_code (wcs _ F.quiet) (wpAny_check_new_subT F T hC ?_);refine codeAny_exc_new_subT F T hC ?_ hrest;show wA _ _ _ _ _ _
 have up:∀b o,h.get? b=some o->((h.push {cls:=.type "tuple",data:=.seq rest.toArray}).push {cls:=.ref C,data:=.fields #[.ref h.objs.size,.none,.none,.none,.bool false,.none]}).get? b=some o:=λb o e=>wae _ (wae _ e)
 have hC1:=up _ _ hC
 have hfI1:=up _ _ hfI
 have hn1:=hn.keeps up
 have T1:=T.keeps up
 have hget:((h.push {cls:=.type "tuple",data:=.seq rest.toArray}).push
  {cls:=.ref C,data:=.fields #[.ref h.objs.size,.none,.none,.none,.bool false,.none]}).get? (h.objs.size+1)=some
  {cls:=.ref C,data:=.fields #[.ref h.objs.size,.none,.none,.none,.bool false,.none]}:=by heap_get
 have hcC:(Value.ref C::bm).contains (.ref C)=true:=by simp
 unfold isInstance;repeat (first|with_reducible refine wbR hget ?_|(with_reducible refine wcL hC1 ?_;rw[hcC])|wp_step)
 show wA _ _ (typeLookup (.ref C) _) _ _ _
 refine wpAny_typeLookup_tail hC1 hn1 T1 F.mroIs F.init.lookup ?_;rw[hi];refine wbo (waa ?_);unfold bindSpecial;refine waa (wcN (T:="function") ⟨_,hfI1,hfc⟩ ?_);rw[if_pos (by decide)];refine wak (waa (wav (hq _ (h.objs.size+1) ⟨up,wcd (wci _),h.objs.size,hget,wcd (wan _),?_⟩ (wci _)) (λr s' hr=>?_) λ_ _ x=>x))
 .exact wae _ (wcz rfl rfl)
 .obtain⟨rfl,hQ⟩:=hr;wp_walk
  exact hQ
def zjR (F:ExcBaseFacts B newId wJ bmB)(T:OwnTail h bmB bm){mN:Str->Option Vl}{rest:List Vl}{fI:Addr}{oI:Obj}{Q:Vl->Sd->Prop}
 (hC:h.get? C=some (excClassObj nm q C N bs bm hdct sn sub ab col dd k0 k1 k2 k3 k5 newId)) (hn:h.Ns N mN) (hi:mN "__init__"=some (.ref fI))
 (hfI:h.get? fI=some oI) (hfc:oI.cls=.type "function")
 (hq:∀h' e,Heap.MadeExcOf h h' e (.ref C) rest->h.objs.size<=e->
  wA (model prog w) (A.under (.builtin "type.__call__" ⟨.ref C::rest,[]⟩)) (call (.ref fI) (.ref e::rest)) (λr s'=>r=.none/\Q (.ref e) s') E ⟨h',g,d,t,os⟩) (hrest:rest.length<=sLn:=by size_fits) :
 wA (model prog w) A (call (.ref C) rest) Q E ⟨h,g,d,t,os⟩:=by
 have f1:=tc_lookup
 have f2:=tc_bind (.ref C)
 have hT:(⟨h,g,d,t,os⟩:Sd).TypeIs (.ref C) "type":=⟨_,hC,rfl⟩
 refine wcH (codeAny_of_tree ?_);show wA _ _ (callAny (.ref C) _) _ _ _
 repeat (any_goals (first|assumption|with_reducible refine wbR hC ?_|wp_step))
 refine⟨rfl,?_⟩;refine codeAny_call_builtin_at (wcs _ (by decide +kernel)) entry_typeCall (wpAny_check_type_call_sub hC (zex (hrest:=hrest) F T hC hn hi hfI hfc λh' e hm=>?_));exact hq h' e hm
end
def zr1:".".intercalate ("ValueError.__init__".cutAt '.').dropLast = "ValueError":=by decide +kernel
def ty_b (s:Sd):s.TypeIs (.builtin "ValueError.__init__") "wrapper_descriptor":=by
 show _=_
 kernel_rfl
def zod:typeOf (.builtin "ValueError.__init__")=pure (.type "wrapper_descriptor"):=by kernel_rfl
def zqn:typeLookup (.type "wrapper_descriptor") "__get__"=pure (some (.builtin "wrapper_descriptor.__get__")):=by rw[typeLookup_type,builtinLookup_eq_fast];kernel_rfl
def zlG:Slot "wrapper_descriptor" "__get__" "wrapper_descriptor.__get__":=.of (owner:="wrapper_descriptor") (n:="__get__") (by rw[typeLookup_type,builtinLookup_eq_fast];kernel_rfl) (by decide +kernel) (by decide +kernel) (by decide +kernel)
 (by first|exact .inl (by decide +kernel)|exact .inr (by decide +kernel)) (by rw[isSubtype_type];kernel_rfl)
def zjS:entryFor table "wrapper_descriptor.__get__"=some Builtin.«wrapper_descriptor.__get__»:=entryFor_of_tree (by kernel_rfl)
def zlH (a b c:Vl):argsOk "wrapper_descriptor.__get__" ⟨[a,b,c],[]⟩:=by unfold argsOk;kernel_rfl
section
variable {prog:Pm}{w:World}{A:Ao}{E:Vl->Sd->Prop}{h:Heap}{g:Array GenState}{d:Drawn}{t:Nat}{os:OsState}
variable {nm q:Str}{C N:Addr}{bs bm bmB:List Vl}{hdct:Bool}{sn:List Str}{sub:List Vl}{ab:Bool}{col:Option Bool}{dd:Option Addr}{k0 k1 k2 k3 k5:Option Vl}{B newId:String}
def zjT {so D x:Addr}{l₀ l:List Vl}{K:Frag}{ox:Obj}{tk:Tok}{Q:Fin->Sd->Prop}
 (hso:h.get? so=some {cls:=.type "super",dict:=none,data:=.fields #[.ref D,.ref x,.ref C],slots:=#[]}) (hno:Looks (model prog w) h (opaqueClassAbove (.ref C)) none)
 (hC:Looks (model prog w) h (mroOf (.ref C)) l₀) (hl:(l₀.dropWhile (· != .ref D)).drop 1=l) (X:K.In h)
 (hf:alongIn K "__init__" l=some (some (.builtin "ValueError.__init__"))) (hxC:x≠C) (hx:h.get? x=some ox) (hxc:ox.cls=.ref C)
 (hO:h.get? C=some (excClassObj nm q C N bs bm hdct sn sub ab col dd k0 k1 k2 k3 k5 newId)) (hB:bm.contains (.type "ValueError")=true)
 (hq:Q (.done (.ret (.ref h.objs.size))) ⟨h.push {cls:=.type "method-wrapper",data:=.fields #[.builtin "ValueError.__init__",.ref x]},g,d,t,os⟩) :
 wA (model prog w) A (Builtin.«super.__getattribute__» ⟨[.ref so,.str "__init__" tk],[]⟩) Q E ⟨h,g,d,t,os⟩:=by
 have hne:(Value.ref x == Value.ref C)=false:=by simp[hxC]
 have hcB:(Value.ref C::bm).contains (.type "ValueError")=true:=by rw[List.contains_cons,hB,Bool.or_true]
 have hdt:({cls:=.type "super",dict:=none,data:=.fields #[.ref D,.ref x,.ref C],slots:=#[]}:Obj).data=.fields #[.ref D,.ref x,.ref C]:=rfl
 have f0:(#[.ref D,.ref x,.ref C]:Array Vl)[0]?=some (.ref D):=rfl
 have f1:(#[.ref D,.ref x,.ref C]:Array Vl)[1]?=some (.ref x):=rfl
 have f2:(#[.ref D,.ref x,.ref C]:Array Vl)[2]?=some (.ref C):=rfl
 have hn:(("__init__":Str) == ("__class__":Str))=false:=by decide
 have hlk:=zqn
 have hTb:∀s:Sd,s.TypeIs (.builtin "ValueError.__init__") "wrapper_descriptor":=λs=>ty_b s
 have hty:=zod
 unfold Builtin.«super.__getattribute__»;repeat (first
 |(with_reducible refine wbj hso hdt f0 ?_)|(with_reducible refine wbj hso hdt f1 ?_)|(with_reducible refine wbj hso hdt f2 ?_)
 |(with_reducible refine ks_wpAny_notOpaque hno ?_)
 |(with_reducible refine Looks.at hC ?_;rw[hl])
 |(refine ks_forIn_along X (λ_ _=>rfl) rfl ?_ hf)
 |(with_reducible refine wcx hty ?_)
 |(with_reducible refine wcx hlk ?_)
 |(with_reducible refine wbX zlG (hTb _) zjS ?_ (zlH _ _ _))
 |(with_reducible refine wbR hx ?_;rw[hxc])
 |(rw[zr1];with_reducible refine wcL hO ?_;rw[hcB])
 |(with_reducible refine⟨_,rfl,?_⟩)
 |(simp only[hn,hne,Bool.or_false,wbY,if_false])
 |wp_step
 |dsimp only)
 all_goals exact hq
def zdH {so D x:Addr}{l₀ l:List Vl}{K:Frag}{ox:Obj}{pl:Sem Bool}{Q:Vl×List Vl->Sd->Prop}
 (hso:h.get? so=some {cls:=.type "super",dict:=none,data:=.fields #[.ref D,.ref x,.ref C],slots:=#[]}) (hno:Looks (model prog w) h (opaqueClassAbove (.ref C)) none)
 (hC:Looks (model prog w) h (mroOf (.ref C)) l₀) (hl:(l₀.dropWhile (· != .ref D)).drop 1=l) (X:K.In h)
 (hf:alongIn K "__init__" l=some (some (.builtin "ValueError.__init__"))) (hxC:x≠C) (hx:h.get? x=some ox) (hxc:ox.cls=.ref C)
 (hO:h.get? C=some (excClassObj nm q C N bs bm hdct sn sub ab col dd k0 k1 k2 k3 k5 newId)) (hB:bm.contains (.type "ValueError")=true)
 (hq:Q (.ref h.objs.size,[]) ⟨h.push {cls:=.type "method-wrapper",data:=.fields #[.builtin "ValueError.__init__",.ref x]},g,d,t+1,os⟩) :
 wA (model prog w) A (getMethod (.ref so) "__init__" pl) Q E ⟨h,g,d,t,os⟩:=by
 have hlk:=F.ks_slot_super_ga.lookup
 have hcan:=F.ks_canon_super_ga
 have hT:∀t',(⟨h,g,d,t',os⟩:Sd).TypeIs (.ref so) "super":=λ_=>⟨_,hso,rfl⟩
 unfold getMethod;refine waa (wpAny_specialOf (hT _) hlk ?_);show wA _ _ (if(Manifest.canonical "super.__getattribute__" != "object.__getattribute__")=true then _ else _) _ _ _
 rw[if_pos hcan];unfold getAttr getAttrBy;refine waa (waa (wpAny_mkText (wbo (waa (wcN (hT _) (waa (wcx hlk ?_)))))));show wA _ _ (getAttrByItsOwn (.ref so) (.str "__init__" t) (.type "super") (.builtin "super.__getattribute__") true false) _ _ _
 unfold getAttrByItsOwn hookBefore callGetattribute boundAndCalled;refine waa (wcx (show(if onTheHeap (.type "super") then typeLookup (.type "super") "__getattr__" else pure none)=pure none from rfl) ?_);refine waa (wpAny_attempt (wbo ?_));show wA _ _ (bindSpecial (.builtin "super.__getattribute__") (.ref so) >>= _) _ _ _
 refine waa (wcx (F.ks_slot_super_ga.bind _) ?_);refine wav (Q:=λv s'=>v=.ref h.objs.size/\s'=⟨h.push {cls:=.type "method-wrapper",data:=.fields #[.builtin "ValueError.__init__",.ref x]},g,d,t+1,os⟩) (E:=λ_ _=>False)
  (wbX F.ks_slot_super_ga (hT _) F.ks_entry_super_ga (zjT hso hno hC hl X hf hxC hx hxc hO hB ⟨_,rfl,rfl,rfl⟩) (F.ks_gaArgs_super _ _)) (λv s' hv=>?_) λ_ _ z=>z.elim
 obtain⟨rfl,rfl⟩:=hv;exact wak (wak hq)
def zlI (F:ExcBaseFacts B newId "ValueError.__init__" bmB)(T:OwnTail h bmB bm){b e:Addr}{t0:Addr}{msg:Vl}{dx:Option Addr}{R:Result->Sd->Prop}
 (hb:h.get? b=some {cls:=.type "method-wrapper",dict:=none,data:=.fields #[.builtin "ValueError.__init__",.ref e],slots:=#[]})
 (hC:h.get? C=some (excClassObj nm q C N bs bm hdct sn sub ab col dd k0 k1 k2 k3 k5 newId)) (he:h.get? e=some {cls:=.ref C,dict:=dx,data:=.fields #[.ref t0,.none,.none,.none,.bool false,.none]})
 (hq:∀h' tt,(∀b o,b≠e->h.get? b=some o->h'.get? b=some o)->h.get? tt=none->h'.get? e=some {cls:=.ref C,dict:=dx,data:=.fields #[.ref tt,.none,.none,.none,.bool false,.none]}->R (.ok (.ret .none)) ⟨h',g,d,t,os⟩) :
 codeAny (model prog w) A (.call (.ref b) ⟨[msg],[]⟩) R ⟨h,g,d,t,os⟩:=by
 refine codeAny_of_tree ?_;show wA _ A.in1 (callAny (.ref b) _) _ _ _
 unfold callAny;refine waa (wpAny_load hb ?_);dsimp only;rw[if_pos (by decide)];show wA _ _ (checkBoundCall "ValueError.__init__" ⟨[.ref e,msg],[]⟩ >>= λ_=>again (.builtin "ValueError.__init__" ⟨[.ref e,msg],[]⟩)) _ _ _
 refine waa ?_;have hshort:=F.noStar
 simp only[checkBoundCall,F.initKind,F.initRow];rw[if_pos (by decide)];unfold Bind.checkArgs;repeat (first|wp_step)
 refine⟨wcs _ (by decide +kernel),wcK F.initEntry ?_⟩;rw[wcF F.init.plain _];wp_walk
 have hlt:h.objs.size≠e:=Nat.ne_of_gt (wal he)
 refine hq _ h.objs.size (λb o hb hh=>?_) (wcd (wan _)) ?_
 .rw[waO _ _ (Ne.symm hb)];exact wae _ hh
 .rw[wbm _ (wae _ he) rfl];rfl
end
structure XC (K:Frag)(C N:Addr)(bm:List Vl):Prop where
 obj:∃nm q bs hdct sn sub ab col dd k0 k1 k2 k3 k5,K.lookup C=some (excClassObj nm q C N bs bm hdct sn sub ab col dd k0 k1 k2 k3 k5 "ValueError.__new__")
 tail:∀h:Heap,K.In h->OwnTail h [.type "ValueError",.type "Exception",.type "BaseException",.type "object"] bm
 opq:nsIn K cStatics "thirdparty.any"=some none
 self:mroIn K C (.ref C)=some true
section
variable {prog:Pm}{w:World}{A:Ao}{E:Vl->Sd->Prop}{h:Heap}{g:Array GenState}{d:Drawn}{t:Nat}{os:OsState}
variable {C N:Addr}{bm:List Vl}{K:Frag}{env:Env}{body:List Stmt}{p0 p1 ap cp:Pos}{J:Expr}{f cda cc e t0:Addr}{of ocd:Obj}{fd:Fu}{ar:Arg}{vs:Array Vl}{file:Str}{tf:Tok}{mg mb m:Str->Option Vl}{dx:Option Addr}
def zjU {b e:Addr}{h:Heap}(hb:h.get? b=some {cls:=.type "method-wrapper",dict:=none,data:=.fields #[.builtin "ValueError.__init__",.ref e],slots:=#[]}){M:Model}:∃k,(k=Keeper.frame\/k=Keeper.machine\/k=Keeper.boundFrame)/\Looks M h (keeperOf (.ref b)) k:=
 ⟨.machine,.inr (.inl rfl),(Looks.ld (part:=none) hb).andThen .now⟩
def zh7 (X:K.In h)(c:XC K C N bm)(hin:ks_superIn K C C "__init__"=some (some (.builtin "ValueError.__init__")))
 (hk:env.scope.kind=.function) (hks:env.kindOf "super"=some .globalImplicit) (hkc:env.kindOf "__class__"=some .free) (hka:env.kindOf ar.arg=some .local) (hfu:env.func=some f) (hf:h.get? f=some of) (hfd:of.data=.func fd)
 (hp:(fd.params.posonlyargs++fd.params.args).head?=some ar) (hco:env.code=.ref cda) (hcc:h.get? cda=some ocd) (hoc:ocd.data=.fields vs) (hvs:vs[2]?=some (.str file tf)) (hfile:((prog.main.file:Str) == file)=true)
 (htop:(prog.main.scope.names.lookup ("super":Str)).isSome=false) (hG:h.Ns env.globals mg) (hmg:mg "super"=none) (hB:h.Ns env.builtins mb) (hmb:mb "super"=some (.type "super"))
 (hcl:env.cells.lookup ("__class__":Str)=some cc) (qg:h.IsCell cc (some (.ref C))) (hloc:h.Ns env.locals m) (hself:m ar.arg=some (.ref e))
 (he:h.get? e=some {cls:=.ref C,dict:=dx,data:=.fields #[.ref t0,.none,.none,.none,.bool false,.none]}) (heC:e≠C)
 (hJ:∀(h1:Heap) (tk:Nat) (Q:Vl->Sd->Prop),(∀b o,h.get? b=some o->h1.get? b=some o)->(∀h2 x t' tk',(∀b o,h1.get? b=some o->h2.get? b=some o)->Q (.str x t') ⟨h2,g,d,tk',os⟩)->wA (model prog w) A (eval J env) Q E ⟨h1,g,d,tk,os⟩)
 (hst:sE [J] env = [(false,eval J env)]) {pl:Sem Bool}(hE:eval (.Call (.Attribute (.Call (.Name "super" p0) [] [] p1) "__init__" ap) [J] [] cp) env=(do
  let ov <-attributeBase (.Call (.Name "super" p0) [] [] p1) "__init__" env (eval (.Call (.Name "super" p0) [] [] p1) env)
  standAt ap.atName
  let (f,first) <-holding [ov] (getMethod ov "__init__" pl)
  callWith cp f first (backTo cp (sE [J] env)) []))
 {Q:Vl->Sd->Prop}
 (hq:∀h' tt tk,(∀b o,b≠e->h.get? b=some o->h'.get? b=some o)->h'.get? e=some {cls:=.ref C,dict:=dx,data:=.fields #[.ref tt,.none,.none,.none,.bool false,.none]}->Q .none ⟨h',g,d,tk,os⟩) :
 PySem.wpAt (model prog w) A (.func body env) (eval (.Call (.Attribute (.Call (.Name "super" p0) [] [] p1) "__init__" ap) [J] [] cp) env) Q E ⟨h,g,d,t,os⟩:=by
 obtain⟨nm,q,bs,hdct,sn,sub,ab,col,dd,k0,k1,k2,k3,k5,ho⟩:=c.obj;have hC:=X _ _ ho
 refine ks_wpAt_MethodCall (pl:=pl) ?_ hE;refine ks_wpAt_super_base hks hkc (by decide) hfu hf hfd hp hco hcc hoc hvs hfile htop ?_;refine ks_loadName_global hk hks (Calls.loadGlobal_builtin hG hmg hB hmb ⟨rfl,?_⟩);refine wpAny_loadName_free hk hkc hcl qg ?_;refine wbM hk hka hloc hself ?_;refine ks_wpAny_isType_cls hC rfl ⟨rfl,?_⟩;refine ks_wpAny_call_super hC rfl he rfl (λc z=>by cases z) (looks_mroIn X c.self) λh1 e1 k1'=>?_
 have hx1:=k1' _ _ he
 have hC1:=k1' _ _ hC
 have X1:K.In h1:=X.keeps k1'
 obtain⟨cd,hcd⟩:∃cd,clsIn K C=some cd:=⟨_,by unfold clsIn;rw[ho]⟩
 unfold ks_superIn at hin;rw[hcd] at hin;refine zdH e1 (looks_opaque X1 c.opq) (l₀:=cd.mro) (λA Q E s k q=>waa ((looks_clsIn X1 hcd) A _ E s k (wak q))) rfl X1 hin heC hx1 rfl hC1 ((c.tail h1 X1).hasType (by decide)) ?_;have up2:∀b o,h1.get? b=some o->(h1.push {cls:=.type "method-wrapper",data:=.fields #[.builtin "ValueError.__init__",.ref e]}).get? b=some o:=λb o z=>wae _ z
 rw[hst];refine callWith_of (P:=λh2=>h2.get? h1.objs.size=some {cls:=.type "method-wrapper",dict:=none,data:=.fields #[.builtin "ValueError.__init__",.ref e],slots:=#[]}) rfl (λh2 z=>zjU z) ?_;refine Calls.evalArgs_plain ?_;refine wbG (hJ _ _ _ (λb o z=>up2 b o (k1' b o z)) λh2 x t' tk' k9=>Calls.spliced_nil ⟨k9 _ _ (wcz rfl rfl),?_⟩);refine wcH (zlI PySem.F.excBase_ValueError (c.tail _ ((X1.keeps up2).keeps k9)) (k9 _ _ (wcz rfl rfl)) (k9 _ _ (up2 _ _ hC1)) (k9 _ _ (up2 _ _ hx1)) λh' tt k2 _ he'=>?_);exact hq h' tt _ (λb o hb z=>k2 b o hb (k9 b o (up2 b o (k1' b o z)))) he'
end
open Builtin.ObjectAttr
def zcq:List Vl->Bool
|.ref _::r=>zcq r
|l=>l == [.type "ValueError",.type "Exception",.type "BaseException",.type "object"]
def zmK {P:List Vl->Prop}(h0:P [.type "ValueError",.type "Exception",.type "BaseException",.type "object"])(h1:∀c r,P r->P (.ref c::r)):∀{l:List Vl},zcq l=true->P l:=by
 intro l;induction l with
|nil=>intro e;cases e
|cons v r ih=>
   intro e;by_cases hv:∃c,v=.ref c
   .obtain⟨c,rfl⟩:=hv;exact h1 c r (ih e)
   .have:v::r = [.type "ValueError",.type "Exception",.type "BaseException",.type "object"]:=by
     cases v <;> first|exact beq_iff_eq.mp e|exact absurd ⟨_,rfl⟩ hv
    rw[this];exact h0
def zjV (self:Vl){l:List Vl}:zcq l=true->refuseLoop self "__setattr__" l=pure ():=
 zmK (P:=λl=>refuseLoop self "__setattr__" l=pure ()) (PySem.F.store_ValueError.passes self) λc r e=>(refuseLoop_ref _ _ _ _).trans e
def zqo {l:List Vl}:zcq l=true->l.contains (.type "object")=true:=
 zmK (P:=λl=>l.contains (.type "object")=true) (by decide) λc r e=>by rw[List.contains_cons,e,Bool.or_true]
section
variable {prog:Pm}{w:World}{A:Ao}{E:Vl->Sd->Prop}{h:Heap}{g:Array GenState}{d:Drawn}{t:Nat}{os:OsState}
variable {C N x:Addr}{K:Frag}{o:Obj}{name:Str}{v:Vl}{Q:Unit->Sd->Prop}{R:Result->Sd->Prop}{s:Sd}
def zoe {ox:Obj}{od:Option Obj}{tk:Tok}{r:Option Vl}(X:K.In s.heap)(I:InstAt s.heap x ox C od)(hp:(clsIn K C).any (λcd=>zcq cd.mro)=true)(ht:takerIn K C name=some r)
 (h:∀b,wA (model prog w) A.in1 (match r with|some a=>setByDescriptor a (.ref x) v|none=>storeInOwnDict (.ref x) (.ref C) (.str name tk) name v b)
  (λfin s'=>match fin with|.done f=>R (.ok f) s'|.again c'=>c'.quiet=true/\codeAny (model prog w) A c' R s') (λe s'=>R (.error e) s') s) :
 codeAny (model prog w) A (.call (.builtin "object.__setattr__") ⟨[.ref x,.str name tk,v],[]⟩) R s:=by
 have SF:=PySem.F.store_object
 obtain⟨cd,hc,ho⟩:=any_some hp;have ne:cd.mro.isEmpty=false:=by cases q:cd.mro with|nil=>rw[q] at ho;cases ho|cons _ _=>rfl
 have sub:Looks (model prog w) s.heap (isInstance (.ref x) (.type "object")) true:=I.type.andThen (looks_mroIn X (by unfold mroIn;rw[hc,zOB,if_neg (by rw[ne];decide),zqo ho]))
 refine wce SF.slot.plain SF.entry (@check_slot (model prog w) _ _ s "object.__setattr__" "object" "__setattr__" (.ref x) [.str name tk,v] [] _ SF.kind SF.split sub (SF.args (.ref x) (.str name tk) v) ?_);obtain⟨attr,ha,hr⟩:=Option.bind_eq_some_iff.mp ht;have hm:Looks (model prog w) s.heap (mroOf (.ref C)) cd.mro:=(looks_clsIn X hc).andThen .now
 have L3:Looks (model prog w) s.heap (storeTaker? attr) r:=by
  cases attr with
 |none=>cases hr;exact .now
 |some a=>
    obtain⟨b,hb,rfl⟩:=waX.mp hr;refine(looks_takesIn X hb).andThen ?_;cases b <;> exact .now
 rw[osa_eq,refuse_eq];refine waa (waa (I.type.here (waa (hm.here ?_))));rw[zjV _ ho];refine wak (waa (I.type.here (waa ((looks_findIn X ha).here (waa (L3.here ?_))))));exact h _
def zof (X:K.In h)(hx:h.get? x=some o)(hc:o.cls=.ref C)(hno:notCls o=true)(hd:o.dict=none)
 (hs:findIn K (.ref C) "__setattr__"=some (some (.builtin "object.__setattr__"))) (hp:(clsIn K C).any (λcd=>zcq cd.mro)=true) (ht:takerIn K C name=some none) (hh:(clsIn K C).any (·.hasDict)=true)
 (hq:∀h' dx tk',h.objs.size<=dx->dx≠x->h'.get? x=some {o with dict:=some dx}->h'.Ns1 dx (λy=>if y=name then some v else none)->(∀b ob,b≠x->h.get? b=some ob->h'.get? b=some ob)->Q () ⟨h',g,d,tk',os⟩) :
 wA (model prog w) A (setAttr (.ref x) name v) Q E ⟨h,g,d,t,os⟩:=by
 have J:InstAt h x o C none:=⟨hx,hc,hno,by rw[hd];trivial⟩
 refine set_plain X J hs (zoe (s:=⟨h,g,d,t+1,os⟩) (r:=none) X J hp ht λb=>?_);obtain⟨cd,hcd,hd'⟩:=any_some hh;have hx1:(h.push {cls:=.type "dict",data:=.dict #[]}).get? x=some o:=wae _ hx
 have hxs:x≠h.objs.size:=wax (wal hx)
 refine waa (wak (waa (waa (wpAny_loadPart hx ?_))));rw[hc];refine waa ((looks_clsIn X hcd).here ?_);rw[hd'];dsimp only[Bool.not_true];rw[hd];dsimp only;rw[if_neg (by simp[typeHasDict])];split
 .rename_i q
  cases q
 split
 .rename_i c hcd'
  unfold notCls at hno;rw[hcd'] at hno;cases hno
 refine waa (wpAny_alloc' ?_);refine waa (wpAny_update' hx1 ?_);have hgd:((h.push {cls:=.type "dict",data:=.dict #[]}).update x λo=>{cls:=o.cls,dict:=some h.objs.size,data:=o.data,slots:=o.slots}).get? h.objs.size
  = some {cls:=.type "dict",data:=.dict #[]}:=
  (Heap.get?_update_ne _ _ _ _ hxs.symm).trans (wcz rfl rfl)
 have hnd:((h.push {cls:=.type "dict",data:=.dict #[]}).update x λo=>{cls:=o.cls,dict:=some h.objs.size,data:=o.data,slots:=o.slots}).Ns h.objs.size (λ_=>none):=
  ⟨_,#[],_,hgd,rfl,λe he=>absurd he (by simp),λ_=>rfl⟩
 refine wak ?_;show wA _ _ (storeInDict h.objs.size (.str name _) name v) _ _ _
 unfold storeInDict newKeyGuard;refine waa (wak (waa (wpAny_nsSet1 (Heap.Ns1.of_empty hnd) λh' hn' hs=>?_)));obtain⟨oD,esD,epD,hoD,hdD,hcD⟩:=hn'.count (Within.cons name v Within.nil);refine waa (wpAny_lookBehind hoD (by rw[hdD];exact pastItsLine_dict (wao hcD (by rw[waM,wcr,sizeLine_eq];omega))) ?_);refine wak (hq h' h.objs.size _ (wan _) hxs.symm ?_ hn' λb ob hbx hb=>?_)
 .refine(hs.2 x hxs).trans (wbm _ hx1 ?_);have hfr:=(Heap.get?_some_iff.mp hx).2
  obtain⟨oc,od,odt,osl⟩:=o;cases odt <;> first|rfl|exact hfr
 .exact(hs.2 b (wax (wal hb))).trans ((Heap.get?_update_ne _ _ _ _ hbx).trans (wae _ hb))
end
structure XI (prog:Pm)(w:World)(K:Frag)(C N fI:Addr)(bm:List Vl)(slf x nm:Str)(J:Expr)(fd:Fu):Prop where
 cls:XC K C N bm
 inC:ks_superIn K C C "__init__"=some (some (.builtin "ValueError.__init__"))
 set:findIn K (.ref C) "__setattr__"=some (some (.builtin "object.__setattr__"))
 und:(clsIn K C).any (λcd=>zcq cd.mro)=true
 tak:takerIn K C nm=some none
 hasD:(clsIn K C).any (·.hasDict)=true
 fn:∃o,K.lookup fI=some o/\o.cls=.type "function"/\o.data=.func fd
 names:∃mN,(∀h:Heap,K.In h->h.Ns N mN)/\mN "__init__"=some (.ref fI)
 code:∀h:Heap,K.In h->h.CodeRec fd.code fd.qualname
 body:∃p0 p1 ap cp q1 q2 q3 q4 q5,fd.body=.stmts [.Expr (.Call (.Attribute (.Call (.Name "super" p0) [] [] p1) "__init__" ap) [J] [] cp) q1,.Assign [.Attribute (.Name slf q2) nm q3] (.Name x q4) q5]/\
  (∀L,interactive (cEv fd L fI)=false)/\(∀L,sWw (.Call (.Attribute (.Call (.Name "super" p0) [] [] p1) "__init__" ap) [J] [] cp) none q1.line (cEv fd L fI)=pure false)/\
  (∀L,sWw (.Name x q4) (some (.Attribute (.Name slf q2) nm q3)) q5.line (cEv fd L fI)=pure false)/\
  (∀L,sE [J] (cEv fd L fI) = [(false,eval J (cEv fd L fI))])/\
  ∃pl:Addr->Sem Bool,∀L,eval (.Call (.Attribute (.Call (.Name "super" p0) [] [] p1) "__init__" ap) [J] [] cp) (cEv fd L fI)=(do
   let ov <-attributeBase (.Call (.Name "super" p0) [] [] p1) "__init__" (cEv fd L fI) (eval (.Call (.Name "super" p0) [] [] p1) (cEv fd L fI))
   standAt ap.atName
   let (f,first) <-holding [ov] (getMethod ov "__init__" (pl L))
   callWith cp f first (backTo cp (sE [J] (cEv fd L fI))) [])
 ne:slf≠x
 dbg:(x == ("__debug__":Str))=false/\(slf == ("__debug__":Str))=false
 par:∃ar:Arg,(fd.params.posonlyargs++fd.params.args).head?=some ar/\ar.arg=slf
 bind:∀(s:Sd) (a b:Vl),BindsTo s fd ⟨[a,b],[]⟩ [(slf,a),(x,b)]
 cell:∀z∈fd.scope.names,z.2≠.cell
 loc1:fd.scope.names.lookup slf=some .local
 loc2:fd.scope.names.lookup x=some .local
 flags:fd.scope.isCoroutine=false/\fd.scope.isGenerator=false/\fd.scope.kind=.function
 kinds:∀L,(cEv fd L fI).kindOf "super"=some .globalImplicit/\(cEv fd L fI).kindOf "__class__"=some .free/\(cEv fd L fI).kindOf slf=some .local/\(cEv fd L fI).kindOf x=some .local
 file:∃cda ocd vs fl tf,fd.code=.ref cda/\K.lookup cda=some ocd/\ocd.data=.fields vs/\vs[2]?=some (.str fl tf)/\((prog.main.file:Str) == fl)=true
 top:(prog.main.scope.names.lookup ("super":Str)).isSome=false
 glob:∀L,(cEv fd L fI).globals=mG
 blt:∀L,(cEv fd L fI).builtins=bNs
 cc:∃cc,(∀L,(cEv fd L fI).cells.lookup ("__class__":Str)=some cc)/\∀h:Heap,K.In h->h.IsCell cc (some (.ref C))
structure Gx (h:Heap):Prop where
 lim:h.NoLimit
 g:∃mg,h.Ns mG mg/\mg "super"=none
 b:∃mb,h.Ns bNs mb/\mb "super"=some (.type "super")
theorem Gx.keeps {h h':Heap}(G:Gx h)(k:∀b o,h.get? b=some o->h'.get? b=some o):Gx h':=
 ⟨G.lim.keeps k,let ⟨m,a,b⟩:=G.g;⟨m,a.keeps k,b⟩,let ⟨m,a,b⟩:=G.b;⟨m,a.keeps k,b⟩⟩
section
variable {prog:Pm}{w:World}{A:Ao}{E:Vl->Sd->Prop}{h:Heap}{g:Array GenState}{d:Drawn}{t:Nat}{os:OsState}
variable {C N fI:Addr}{bm:List Vl}{slf x nm:Str}{J:Expr}{fd:Fu}{K:Frag}
def Says (prog:Pm)(w:World)(K:Frag)(fd:Fu)(fI:Addr)(x:Str)(J:Expr)(v:Vl)(h0:Heap):Prop:=
 ∀(A:Ao) (E:Vl->Sd->Prop) (h1:Heap) (g:Array GenState) (d:Drawn) (os:OsState) (tk:Nat) (L:Addr) (m:Str->Option Vl) (Q:Vl->Sd->Prop),A.guards=some []->A.units+20<cLine->K.In h1->(∀b o,h0.get? b=some o->h1.get? b=some o)->h1.Ns L m->m x=some v->
  (∀h2 y t' tk',(∀b o,h1.get? b=some o->h2.get? b=some o)->Q (.str y t') ⟨h2,g,d,tk',os⟩)->wA (model prog w) A (eval J (cEv fd L fI)) Q E ⟨h1,g,d,tk,os⟩
def Says.later {h':Heap}{v:Vl}(a:Says prog w K fd fI x J v h)(k:∀b o,h.get? b=some o->h'.get? b=some o):Says prog w K fd fI x J v h':=
 λA E h1 g d os tk L m Q hg hu z k1=>a A E h1 g d os tk L m Q hg hu z λb o e=>k1 b o (k b o e)
def zjW (hgd:A.guards=some [])(hun:A.units+20<cLine)(X:K.In h)(G:Gx h)(c:XI prog w K C N fI bm slf x nm J fd){v:Vl}(hJ:Says prog w K fd fI x J v h){L e t0:Addr}{m:Str->Option Vl}(hloc:h.Ns L m)(m1:m slf=some (.ref e))(m2:m x=some v)
 (he:h.get? e=some {cls:=.ref C,dict:=none,data:=.fields #[.ref t0,.none,.none,.none,.bool false,.none]}) (heL:e≠L) (heK:K.lookup e=none) {body:List Stmt}(hb:fd.body=.stmts body)
 {Q:Flow->Sd->Prop}
 (hq:∀h' dx tt tk,h'.get? e=some {cls:=.ref C,dict:=some dx,data:=.fields #[.ref tt,.none,.none,.none,.bool false,.none]}->L<dx->h'.Ns1 dx (λy=>if y=nm then some v else none)->
  (∀b o,b≠e->h.get? b=some o->h'.get? b=some o)->Q .next ⟨h',g,d,tk,os⟩) :
 PySem.wpAt (model prog w) A (.func body (cEv fd L fI)) (execs body (cEv fd L fI)) Q E ⟨h,g,d,t,os⟩:=by
 obtain⟨p0,p1,ap,cp,q1,q2,q3,q4,q5,hbd,hint,hs1,hs2,hst,pl,hE⟩:=c.body;rw[hbd] at hb;cases hb;obtain⟨of,hf,hfc,hfd⟩:=c.fn;obtain⟨ar,hp,rfl⟩:=c.par;obtain⟨cda,ocd,vs,fl,tf,hco,hcc,hoc,hvs,hfile⟩:=c.file;obtain⟨mg,hG,hmg⟩:=G.g;obtain⟨mb,hB,hmb⟩:=G.b;obtain⟨cc,hcl,qg⟩:=c.cc;obtain⟨k1,k2,k3,k4⟩:=c.kinds L;have hk:(cEv fd L fI).scope.kind=.function:=c.flags.2.2
 have heC:e≠C:=by
  rintro rfl;obtain⟨nm,q,bs,hdct,sn,sub,ab,col,dd,k0,k1,k2,k3,k5,ho⟩:=c.cls.obj;rw[heK] at ho;cases ho
 refine ks_wpAt_execs_cons (ks_wpAt_Expr_any ?_ (hint L) (hs1 L));refine zh7 X c.cls c.inC hk k1 k2 k3 rfl (X _ _ hf) hfd hp hco (X _ _ hcc) hoc hvs hfile c.top (by rw[c.glob L];exact hG) hmg (by rw[c.blt L];exact hB) hmb (hcl L) (qg _ X) hloc m1 he heC ?_ (hst L) (hE L) ?_
 .intro h1 tk Q1 hk1 hq1;exact hJ A E h1 g d os tk L m Q1 hgd hun (X.keeps hk1) hk1 (hloc.keeps hk1) m2 hq1
 intro h' tt tk hk' he';have X':K.In h':=λb o ho=>hk' b o (λz=>by rw[z,heK] at ho;cases ho) (X b o ho)
 have hloc':h'.Ns L m:=by obtain⟨o,es,ep,a1,a2⟩:=hloc;exact⟨o,es,ep,hk' _ _ heL.symm a1,a2⟩
 dsimp only;refine ks_wpAt_execs_cons (ks_wpAt_Assign_Attr ?_ (hs2 L));refine wpAt_of_wpAny (wcR (wbM hk k4 hloc' m2 ?_) c.dbg.1);refine wcR (wbM hk k3 hloc' m1 ?_) c.dbg.2;refine zof X' he' rfl rfl rfl c.set c.und c.tak c.hasD λh2 dx tk2 hdx hne he2 hns2 hk2=>?_
 dsimp only;refine wpAt_of_wpAny (wak (hq h2 dx tt tk2 he2 ?_ hns2 λb o hb z=>hk2 b o hb (hk' b o hb z)));obtain⟨o,es,ep,a1,a2⟩:=hloc';exact waq (wal a1) hdx
def zlJ (hgd:A.guards=some [])(hun:A.units+40<cLine)(X:K.In h)(G:Gx h)(c:XI prog w K C N fI bm slf x nm J fd){v:Vl}(hJ:Says prog w K fd fI x J v h)(qT:A.depth+1<recursionLimit)
 {Q:Vl->Sd->Prop}
 (hq:∀h' e dx tt tk,h.objs.size<=e->h'.get? e=some {cls:=.ref C,dict:=some dx,data:=.fields #[.ref tt,.none,.none,.none,.bool false,.none]}->h.objs.size<=dx->h'.Ns1 dx (λy=>if y=nm then some v else none)->
  (∀b o,h.get? b=some o->h'.get? b=some o)->Q (.ref e) ⟨h',g,d,tk,os⟩) :
 wA (model prog w) A (call (.ref C) [v]) Q E ⟨h,g,d,t,os⟩:=by
 obtain⟨of,hf,hfc,hfd⟩:=c.fn;obtain⟨mN,hN,hmN⟩:=c.names;obtain⟨nm',q,bs,hdct,sn,sub,ab,col,dd,k0,k1,k2,k3,k5,ho⟩:=c.cls.obj;refine zjR PySem.F.excBase_ValueError (c.cls.tail h X) (X _ _ ho) (hN h X) hmN (X _ _ hf) hfc λh1 e M hse=>?_
 obtain⟨up,hne,t0,he,ht0,htt⟩:=M;have X1:K.In h1:=X.keeps up
 obtain⟨p0,p1,ap,cp,q1,q2,q3,q4,q5,hbd,-⟩:=c.body;refine wcH (ks_codeAny_call_defAt ?_ (X1 _ _ hf) hfd (G.keeps up).lim (c.code _ X1) hbd (c.bind _ _ _) c.cell ?_ ?_ c.flags.1 c.flags.2.1 c.flags.2.2)
 .first|exact Nat.lt_of_succ_lt qT|exact qT
 .intro z hz;simp only[wap,List.not_mem_nil,or_false] at hz;rcases hz with rfl|rfl
  .exact c.loc1
  .exact c.loc2
 intro h2 hns hk2;have X2:K.In h2:=X1.keeps hk2
 have heK:K.lookup e=none:=by
  cases hz:K.lookup e with
 |none=>rfl
 |some o=>rw[X _ _ hz] at hne;cases hne
 refine zjW (by first|exact hgd|(show(A.under _).guards=_;first|exact hgd|simp[hgd])) (by show(A.under _).units+3+20<cLine;rw[L2.make_units];omega) X2 ((G.keeps up).keeps hk2) c (hJ.later λb o z=>hk2 b o (up b o z)) hns ?_ ?_ (hk2 _ _ he) (wax (wal he)) heK hbd ?_
 .have:(slf == x)=false:=by simpa using c.ne
  simp[List.lookup,this]
 .simp[List.lookup]
 intro h' dx tt tk he' hdx hns' hk';refine⟨rfl,hq h' e dx tt tk hse he' ?_ hns' λb o z=>?_⟩
 .exact wbl (waY (wao hse (wbl (wal he))) hdx)
 .refine hk' b o (λz'=>?_) (hk2 _ _ (up _ _ z));rw[z',hne] at z;cases z
end
end EX
namespace EX
open PySem.Spec L2
def XAt (h0:Heap)(H:Hp)(h:Heap)(e:Addr)(cls:Vl)(dx:Option Addr):Prop:=
 h0.objs.size<=e/\H e=none/\(∀d,dx=some d->h0.objs.size<=d)/\∃vs sl,h.get? e=some ⟨cls,dx,.fields vs,sl⟩ /\(vs[1]?=some .none\/∃T oT ts,vs[1]?=some (.ref T)/\T≠e/\h0.objs.size<=T/\H T=none/\h.get? T=some oT/\oT.data=.fields ts/\ts[3]?=some .none)
structure LeftX (h0:Heap)(H:Hp)(l:List Env)(base h h':Heap)(e:Addr)(cls:Vl)(dx:Option Addr):Prop where
 funs:h'.FunFrames base l
 size:h.objs.size<=h'.objs.size
 keep:∀b o,h.get? b=some o->(b<h0.objs.size\/H b≠none)->b∉frs l->h'.get? b=some o
 slot:∀b o,h.get? b=some o->(b<h0.objs.size\/H b≠none)->∃sl,h'.get? b=some {o with slots:=sl}
 at_:XAt h0 H h' e cls dx
section
variable {M:Model}{A:Ao}{E:Vl->Sd->Prop}{s:Sd}{h0 base:Heap}{H:Hp}{env:Env}{outer:List Env}{L e:Addr}{cls:Vl}{dx:Option Addr}{vs:Array Vl}{sl:Array (Option Vl)}
def zfT {head:Vl}{hadNext:Bool}{Q:Unit->Sd->Prop}(hfr:A.frames=some (env::outer))(hl:s.heap.FunFrames base (env::outer))(hf:env.frame=some L)
 (e0:h0.objs.size<=e) (eH:H e=none) (eD:∀d,dx=some d->h0.objs.size<=d) (he:s.heap.get? e=some ⟨cls,dx,.fields vs,sl⟩) (hsz:1<vs.size) (hz:h0.objs.size<=s.heap.objs.size) (hH:∀b,s.heap.objs.size<=b->H b=none)
 (h:∀h',LeftX h0 H (env::outer) base s.heap h' e cls dx->Q () {s with heap:=h'}) :
 wA M A (do let a <-frameOf env;let pl <-entryPlaceOf L hadNext;let b <-EntryCells.newEntry head a .none (rawInt L) .none pl;setField (.ref e) 1 b) (λ_ s'=>wA M A (setFlight (.ref e) none) Q E s') E s:=by
 have hene:e∉(env::outer).filterMap (·.frame):=λhm=>by
  obtain⟨_,o,ho,hnf⟩:=hl.mem hm;rw[he] at ho;injection ho with ho;subst ho;exact hnf vs rfl
 refine waa (wpAny_frameOf_fun hfr hl hf λh₁ hs1=>?_);refine waa (wpAny_entryPlaceOf λpl hpl=>?_);unfold EntryCells.newEntry newFields;refine waa (wbr ?_ (hpl.sizeOk5 _ _ _ _ _));have he1:h₁.get? e=some ⟨cls,dx,.fields vs,sl⟩:=(hs1.2.1 e hene).trans he
 have he2:=wae (h:=h₁) {cls:=.type "traceback",dict:=none,data:=.fields ([head,.ref L,.none,rawInt L,.none]++(if pl.isEmpty then rpl 6 Value.none else pl)).toArray} he1
 refine wcf he2 rfl hsz ?_;have hTe:h₁.objs.size≠e:=Nat.ne_of_gt (wal he1)
 have hd3:=wbv (o:=⟨cls,dx,.fields vs,sl⟩) rfl (·.setIfInBounds 1 (Value.ref h₁.objs.size))
 have he3:=wbm (Obj.mapFields (·.setIfInBounds 1 (Value.ref h₁.objs.size))) he2 (wca hd3)
 have hT3:=(waO (h₁.push {cls:=.type "traceback",dict:=none,data:=.fields ([head,.ref L,.none,rawInt L,.none]++(if pl.isEmpty then rpl 6 Value.none else pl)).toArray})
  (Obj.mapFields (·.setIfInBounds 1 (Value.ref h₁.objs.size))) (Ne.symm hTe)).trans (waw h₁ rfl)
 unfold setFlight;refine waa (wbj he3 hd3 (x:=.ref h₁.objs.size) (by simp[hsz]) ?_);rw[if_pos (show(Value.ref h₁.objs.size != Value.none)=true from by simp)];refine wcf hT3 rfl (by simp only[wad,waj,waM,wcr] <;> omega) (h _ ?_);have keep:∀b o,b≠e->h₁.get? b=some o->
  (((h₁.push {cls:=.type "traceback",dict:=none,data:=.fields ([head,.ref L,.none,rawInt L,.none]++(if pl.isEmpty then rpl 6 Value.none else pl)).toArray}).update e (Obj.mapFields (·.setIfInBounds 1 (Value.ref h₁.objs.size)))).update h₁.objs.size
    (Obj.mapFields (·.setIfInBounds 3 ((none:Option Addr).elim Value.none λf=>rawInt f)))).get? b=some o:=λb o hbe hb=>by
  have hbT:h₁.objs.size≠b:=Nat.ne_of_gt (wal hb)
  rw[waO _ _ hbT,waO _ _ (Ne.symm hbe)];exact wae _ hb
 have noRecord:∀b o,s.heap.get? b=some o->(∀vs,o.data≠.fields vs)->b≠e:=λb o hb hnf q=>by
  rw[q,he] at hb;injection hb with hb;subst hb;exact hnf vs rfl
 have ne:∀b,(b<h0.objs.size\/H b≠none)->b≠e:=λb z q=>by rw[q] at z;exact z.elim (λz=>absurd z (Nat.not_lt.mpr e0)) λz=>z eH
 have hn0:h0.objs.size<=h₁.objs.size:=by rw[hs1.1];exact hz
 refine⟨hl.of_keeps λb o hb hnf=>?_,?_,λb o hb z hbf=>keep b o (ne b z) ((hs1.2.1 b hbf).trans hb),λb o hb z=>?_,e0,eH,eD,?_⟩
 .obtain⟨sl,hs⟩:=hs1.2.2 b o hb;exact⟨_,keep b _ (noRecord b o hb hnf) hs,rfl⟩
 .rw[wbC,wbC,wbJ,hs1.1];exact wci _
 .obtain⟨sl,hs⟩:=hs1.2.2 b o hb;exact⟨sl,keep b _ (ne b z) hs⟩
 .refine⟨vs.setIfInBounds 1 (.ref h₁.objs.size),sl,?_,.inr ⟨h₁.objs.size,_,_,by simp[hsz],hTe,hn0,hH _ (by rw[hs1.1];exact wan _),wbm _ hT3 (wca (wbv rfl _)),wbv rfl _,by first|(simp;done)|(rcases hpl with rfl|⟨_,_,_,_,_,_,_,rfl⟩ <;> simp)⟩⟩;rw[waO _ _ hTe];exact he3
def zqp {Q:Unit->Sd->Prop}(hfr:A.frames=some (env::outer))(hl:s.heap.FunFrames base (env::outer))(hf:env.frame=some L)(X:XAt h0 H s.heap e cls dx)
 (hz:h0.objs.size<=s.heap.objs.size) (hH:∀b,s.heap.objs.size<=b->H b=none)
 (h:∀h',LeftX h0 H (env::outer) base s.heap h' e cls dx->Q () {s with heap:=h'}):wA M A (noteFrame (.ref e) env) (λ_ s'=>wA M A (setFlight (.ref e) none) Q E s') E s:=by
 obtain⟨e0,eH,eD,vs,sl,he,h1|⟨T,oT,ts,h1,hTe,hnT,HT,hT,hdT,h3⟩⟩:=X
 .unfold noteFrame;simp only[hf];refine waa (wbj he rfl h1 ?_);rw[if_neg (by decide)];exact zfT hfr hl hf e0 eH eD he (wbc.mp h1).1 hz hH h
 .unfold noteFrame;simp only[hf];refine waa (wbj he rfl h1 ?_);rw[if_pos (show(Value.ref T != Value.none)=true from by simp)];refine waa (wbj hT hdT h3 ?_);rw[if_neg (show ¬((Value.none == rawInt L)=true) from by simp[rawInt])];refine waa (wcf hT hdT (wbc.mp h3).1 ?_);have other:∀b,b≠T->(s.heap.update T (Obj.mapFields (·.setIfInBounds 3 Value.none))).get? b=s.heap.get? b:=λb hb=>waO _ _ (Ne.symm hb)
  have noRecord:∀b o,s.heap.get? b=some o->(∀vs,o.data≠.fields vs)->b≠T:=λb o hb hnf q=>by
   rw[q,hT] at hb;injection hb with hb;subst hb;exact hnf ts hdT
  have ne:∀b,(b<h0.objs.size\/H b≠none)->b≠T:=λb z q=>by rw[q] at z;exact z.elim (λz=>absurd z (Nat.not_lt.mpr hnT)) λz=>z HT
  refine zfT hfr (hl.of_keeps λb o hb hnf=>⟨o,(other b (noRecord b o hb hnf)).trans hb,rfl⟩) hf e0 eH eD ((other e (Ne.symm hTe)).trans he) (wbc.mp h1).1
   (by show _<=(s.heap.update T _).objs.size;rw[wbC];exact hz) (λb hb=>hH b (by rw[<-wbC s.heap T];exact hb))
   λh' ⟨x1,x2,x3,x4,x5⟩=>h h' ⟨x1,by rw[<-wbC s.heap T];exact x2,λb o hb z hbf=>x3 b o ((other b (ne b z)).trans hb) z hbf,λb o hb z=>x4 b o ((other b (ne b z)).trans hb) z,x5⟩
def zqq {Q:Unit->Sd->Prop}(hfr:A.frames=some (env::outer))(hl:s.heap.FunFrames base (env::outer))(hf:env.frame=some L)(X:XAt h0 H s.heap e cls dx)
 (hz:h0.objs.size<=s.heap.objs.size) (hH:∀b,s.heap.objs.size<=b->H b=none)
 (h:∀h',LeftX h0 H (env::outer) base s.heap h' e cls dx->Q () {s with heap:=h'}):wA M A (leaving env (.ref e)) Q E s:=waa (zqp hfr hl hf X hz hH h)
end
def CXE (P:Pm)(w:World):CXT:=λouter H s E e s'=>∃a cls dx H',e=.ref a/\XAt s.heap H' s'.heap a cls dx/\s'.os=s.os/\AllBare s'.gens/\Un (frs outer) [] H H' s.heap s'.heap/\HOk P w H' s'.heap/\E cls dx H'
def Leaves (X:Cx)(E:XK):Prop:=∀(pins:List (Addr×Obj)) (Y:L2.St) (H:Hp) (s:Sd) (a:Addr) (cls:Vl) (dx:Option Addr),Inv X pins Y H s->XAt X.s₀.heap H s.heap a cls dx->E cls dx H->X.xe (.ref a) s
def XAt.older {h0 h1:Heap}{H:Hp}{h:Heap}{e:Addr}{cls:Vl}{dx:Option Addr}(x:XAt h1 H h e cls dx)(hz:h0.objs.size<=h1.objs.size):XAt h0 H h e cls dx:=by
 obtain⟨e0,eH,eD,vs,sl,he,h1|⟨T,oT,ts,h1,hTe,hnT,HT,hT,hdT,h3⟩⟩:=x
 .exact⟨wao hz e0,eH,λd z=>wao hz (eD d z),vs,sl,he,.inl h1⟩
 .exact⟨wao hz e0,eH,λd z=>wao hz (eD d z),vs,sl,he,.inr ⟨T,oT,ts,h1,hTe,wao hz hnT,HT,hT,hdT,h3⟩⟩
def zjX {X:Cx}{pins:List (Addr×Obj)}{Y:L2.St}{H:Hp}{s s':Sd}{E:XK}{e:Vl}(I:Inv X pins Y H s)(h:CXE X.prog X.w X.stack H s E e s') :
 ∃a cls dx H',e=.ref a/\Inv X pins Y H' s'/\XAt s.heap H' s'.heap a cls dx/\E cls dx H':=by
 obtain⟨a,cls,dx,H',rfl,x,os,bare,un,hok,q⟩:=h;exact⟨a,cls,dx,H',rfl,I.call' (ch:=[]) os un hok bare (λb z=>absurd z (by simp)),x,q⟩
def Leaves.passes {X:Cx}{E:XK}(h:Leaves X E):zha (CXE X.prog X.w) X E:=by
 intro pins Y H s e s' I hc;obtain⟨a,cls,dx,H',rfl,J,x,q⟩:=zjX I hc;exact h pins Y H' s' a cls dx J (x.older I.sz) q
def zfU {P:Pm}{w:World}{K:Fg}{mg:Str->Option Vl}{base:Heap}{N:List Str}{qual:Str}{scope:Scope}{f:Addr}{cd:Vl}{A:Ao}{outer:List Env}{s:Sd}{H:Hp}{E:XK} :
 Leaves (cxOf (CXE P w) P w K mg base N qual scope f cd A outer s H E) E:=by
 intro pins Y H1 s1 a cls dx I x q;have nl:∀b,b<s.heap.objs.size->b∉frs outer->b∉frs (envOfC qual scope s.heap.objs.size f cd::outer):=λb hb hn hm=>by
  rcases wap.mp (I.stkSub b hm) with z|z
  .exact absurd hb (Nat.not_lt.mpr (by rw[z];exact I.ok.above))
  .exact hn z
 refine zqq (M:=model P w) (h0:=s.heap) (H:=H1) I.ok.frames I.stack rfl x I.sz (λb hb=>I.hok.fresh hb) λh' L=>?_
 refine⟨a,cls,dx,H1,rfl,L.at_,I.os,I.bare,⟨λb o e n hf hx=>?_,λb o e n hf hx=>?_,I.base.free,λb o e hx=>?_,I.base.tups,I.base.frzs,I.base.tbls⟩,λb u e=>?_,q⟩
 .exact L.keep b o (I.base.keep b o e n hf hx) (.inl (wal e)) (nl b (wal e) hf)
 .obtain⟨sl,z⟩:=I.base.slot b o e n hf hx;obtain⟨sl',z'⟩:=L.slot b _ z (.inl (wal e));exact⟨sl',z'⟩
 .obtain⟨o',z⟩:=I.base.there b o e hx;obtain⟨sl',z'⟩:=L.slot b _ z (.inl (wal e));exact⟨_,z'⟩
 .refine(I.hok b u e).stay (λc v hc q=>L.keep c v q ?_ ?_) (λ_ q=>q) λ_ _ _ q=>q
  .rcases hc with z|z
   .rw[z,e];exact .inr (by simp)
   .rw[z];exact .inr (by simp)
  .intro hm;have:=I.stkFree c hm
   rcases hc with z|z
   .rw[z,e] at this;cases this
   .rw[z] at this;cases this
section
variable {M:Model}{A:Ao}{E:Vl->Sd->Prop}{env:Env}
variable {nm q:Str}{C N:Addr}{bs bm:List Vl}{hdct:Bool}{sn:List Str}{sub:List Vl}{ab:Bool}{col:Option Bool}{dd:Option Addr}{k0 k1 k2 k3 k5:Option Vl}{newId:String}
def zh8 {s:Sd}{x:Sem Vl}{Q:Flow->Sd->Prop}(qX:bm.contains (.type "BaseException")=true)(hh:A.handled=none)
 (h:wA M A x (λv s₁=>∃e t dx,v=.ref e/\s₁.heap.get? C=some (excClassObj nm q C N bs bm hdct sn sub ab col dd k0 k1 k2 k3 k5 newId)/\
  s₁.heap.get? e=some {cls:=.ref C,dict:=dx,data:=.fields #[.ref t,.none,.none,.none,.bool false,.none]}/\E (.ref e) s₁) E s) :
 wA M A (raiseStmt env (some x) none) Q E s:=by
 have hcB:(Value.ref C::bm).contains (.type "BaseException")=true:=by rw[List.contains_cons,qX,Bool.or_true]
 unfold raiseStmt;refine waa (wav h (λv s₁ h₁=>?_) λ_ _ x=>x);obtain⟨e,t,dx,rfl,hC,he,hE⟩:=h₁;obtain⟨hp,g,d,tk,os⟩:=s₁;repeat (first|with_reducible refine wbR he ?_|with_reducible refine wbR hC ?_|(with_reducible refine wcL hC ?_;rw[hcB])|wp_step)
 exact wpAny_raiseNew_none hh hE
end
section
variable {X:Cx}{C N fI:Addr}{bm:List Vl}{slf x nm cn:Str}{J e:Expr}{fd:Fu}{te:TA}{E:XK}{np cp pos:Pos}{k:Nat}
def zqr (C:Addr)(nm:Str)(E:XK)(SJ:V->Hp->Prop)(te:TA):TS:=λD Y H=>te Y H λvs H1=>∃v,vs = [v]/\SJ v H1/\∀dx,H1 dx=none->E (.ref C) (some dx) (upd H1 dx (.xd [(nm,v)]))
def zlK {SJ:V->Hp->Prop}(c:XI X.prog X.w X.K C N fI bm slf x nm J fd)(hsup:X.mg "super"=none)(hg:Gl X cn)(hm:X.mg cn=some (.ref C))(hk:W.keepIn X.K (.ref C)=true)(hB:bm.contains (.type "BaseException")=true)
 (hr:Room (k+1) X.A) (hL:Leaves X E) (ha:PA X [e] te) (hJ:∀(pins:List (Addr×Obj)) (Y:L2.St) (H:Hp) (s:Sd) (v:V) (u:Vl),Inv X pins Y H s->RelV v u->SJ v H->Says X.prog X.w X.K fd fI x J u s.heap)
 (hdb:(cn == ("__debug__":Str))=false:=by decide) (he:sE [e] X.env=(false,eval e X.env)::sE [] X.env:=by rfl) :
 PS X (.Raise (some (.Call (.Name cn np) [e] [] cp)) none pos) (zqr C nm E SJ te):=by
 intro pins s Y H D I h;obtain⟨nm',q,bs,hdct,sn,sub,ab,col,dd,k0,k1,k2,k3,k5,ho⟩:=c.cls.obj;show wA (model X.prog X.w) X.A (do standAt pos;raiseStmt X.env (some (do let v <-eval (.Call (.Name cn np) [e] [] cp) X.env;standAt pos;pure v)) none) _ X.xe s
 refine waa (wbs (zh8 (C:=C) (nm:=nm') (q:=q) (N:=N) (bs:=bs) (bm:=bm) (hdct:=hdct) (sn:=sn) (sub:=sub) (ab:=ab) (col:=col) (dd:=dd) (k0:=k0) (k1:=k1) (k2:=k2) (k3:=k3) (k5:=k5) (newId:="ValueError.__new__") hB hr.hd (waa ?_)));refine waQ (zcO I hg hm ?_ hdb);refine wcp (h₀:=X.base) I.ok.mod.kin hk (thn (ha cp pins s Y H _ I h) λus s1 ⟨vs,H1,I1,r,v,ev,sj,q⟩=>⟨I1.kIn,?_⟩) he rfl;subst ev;rcases r with _|⟨r1,r2⟩
 rcases r2 with _|_
 obtain⟨h1,g,d,t,os⟩:=s1;have G:Gx h1:=⟨I1.nolimit,⟨X.mg,I1.mod.glob.keeps I1.bk,hsup⟩,let ⟨mb,a,b⟩:=I1.mod.blt;⟨mb,a.keeps I1.bk,(b "super" (by decide)).trans (by decide +kernel)⟩⟩
 refine zlJ hr.gd (by have:=hr.un;omega) I1.kIn G c (hJ _ _ _ _ _ _ I1 r1 sj) (by have:=hr.dp;omega) λh' e' dx tt tk he he' hd hns hkp=>?_
 refine waa (wbs (wak ⟨e',tt,some dx,rfl,hkp _ _ (I1.kIn _ _ ho),he',?_⟩));have hne:e'≠dx:=by
  rintro rfl;obtain⟨o,es,ep,a1,a2,-⟩:=hns;rw[he'] at a1;cases a1;cases a2
 refine hL pins Y (upd H1 dx (.xd [(nm,v)])) _ e' (.ref C) (some dx) (I1.laid hkp hd ⟨_,hns,λf=>?_⟩) ⟨wao I1.sz he,?_,λd z=>by cases z;exact wao I1.sz hd,_,_,he',.inl rfl⟩ (q dx (I1.hok.fresh hd))
 .by_cases hf:f=nm
  .subst hf;simp[List.lookup,RelO,r1]
  .have:(f == nm)=false:=by simpa using hf
   simp[List.lookup,RelO,this,hf]
 .unfold upd;rw[if_neg hne];exact I1.hok.fresh he
end
def XP (X:Cx)(pins:List (Addr×Obj))(Y:L2.St)(E:XK)(e:Vl)(s':Sd):Prop:=∃H1 s1,Inv X pins Y H1 s1/\CXE X.prog X.w X.stack H1 s1 E e s'
section
variable {X:Cx}{pins:List (Addr×Obj)}{Y:L2.St}{E:XK}{e:Vl}{s':Sd}{Ex:Vl->Sd->Prop}
def zlL {Q:Unit->Sd->Prop}(hst:X.stack=X.env::X.outer)(hf:X.env.frame=some X.env.locals)(h:XP X pins Y E e s')(hq:∀h',XP X pins Y E e {s' with heap:=h'}->Q () {s' with heap:=h'}) :
 wA (model X.prog X.w) X.A (noteFrame e X.env) (λ_ s2=>wA (model X.prog X.w) X.A (setFlight e none) Q Ex s2) Ex s':=by
 obtain⟨H1,s1,I1,hc⟩:=h;obtain⟨_,_,_,_,_,J,_,_⟩:=zjX I1 hc;obtain⟨a,cls,dx,H',rfl,x,os,bare,un,hok,q⟩:=hc;have hz:s1.heap.objs.size<=s'.heap.objs.size:=by
  obtain⟨e0,_,_,vs,sl,he,_⟩:=x;exact wao e0 (wbl (wal he))
 refine zqp (M:=model X.prog X.w) (h0:=s1.heap) (H:=H') (base:=X.base) (outer:=X.outer) (by rw[<-hst];exact I1.ok.frames) (by rw[<-hst];exact J.stack) hf x hz (λb hb=>hok.fresh hb) λh' L=>hq h' ?_
 rw[<-hst] at L;refine⟨H1,s1,I1,a,cls,dx,H',rfl,L.at_,os,bare,⟨λb o e n hf hx=>L.keep b o (un.keep b o e n hf hx) (.inl (wal e)) hf,λb o e n hf hx=>?_,un.free,λb o e hx=>?_,un.tups,un.frzs,un.tbls⟩,λb u e=>?_,q⟩
 .obtain⟨sl,z⟩:=un.slot b o e n hf hx;obtain⟨sl',z'⟩:=L.slot b _ z (.inl (wal e));exact⟨sl',z'⟩
 .obtain⟨o',z⟩:=un.there b o e hx;obtain⟨sl',z'⟩:=L.slot b _ z (.inl (wal e));exact⟨_,z'⟩
 .refine(hok b u e).stay (λc v hc q=>L.keep c v q ?_ ?_) (λ_ q=>q) λ_ _ _ q=>q
  .rcases hc with z|z
   .rw[z,e];exact .inr (by simp)
   .rw[z];exact .inr (by simp)
  .intro hm;have:=un.free c
   have fr:=I1.stkFree c hm
   obtain⟨_,o,ho,_⟩:=I1.stack.mem hm;have h0:=un.free c o ho fr (by simp)
   rcases hc with z|z
   .rw[z,e] at h0;cases h0
   .rw[z] at h0;cases h0
end
def zfV {M:Model}{A:Ao}{Ex:Vl->Sd->Prop}{K:Fg}{s:Sd}{a C CT:Addr}{oe:Obj}{b:Bool}{Q:Bool->Sd->Prop}(X:K.In s.heap)(he:s.heap.get? a=some oe)(hc:oe.cls=.ref C)
 (hb:PySem.W.mroIn K CT (.type "BaseException")=some true) (ht:PySem.W.typeIn K (.ref CT)=some (.type "type")) (hm:PySem.W.mroIn K C (.ref CT)=some b) (hq:Q b s):wA M A (excMatches (.ref a) (.ref CT)) Q Ex s:=by
 obtain⟨hp,g,d,t,os⟩:=s;have L1:=PySem.W.looks_mroIn (M:=M) X hb
 have L2:=PySem.W.looks_mroIn (M:=M) X hm
 have L3:=PySem.W.looks_typeIn (M:=M) X ht
 obtain⟨cd,hcd,-⟩:=Option.bind_eq_some_iff.mp hb;obtain⟨oC,hoC,hdC⟩:∃oC,hp.get? CT=some oC/\oC.data=.cls cd:=by
  unfold PySem.W.clsIn at hcd;split at hcd
  .rename_i ho;cases hcd;exact⟨_,X _ _ ho,rfl⟩
  .cases hcd
 have f:=tc_notTuple
 have f':PySem.W.Looks M hp (isSubtype (.type "type") (.type "tuple")) false:=.of_pure f
 have T:PySem.W.Looks M hp (isInstance (.ref CT) (.type "tuple")) false:=L3.andThen f'
 have B:PySem.W.Looks M hp (isExcClass (.ref CT)) true:=by
  refine PySem.W.Looks.andThen (a:=true) ?_ L1;exact(PySem.W.Looks.ld (part:=some PySem.headPart) hoC).andThen (by rw[hdC];exact .now)
 have Y:PySem.W.Looks M hp (typeOf (.ref a)) (.ref C):=(PySem.W.Looks.ld he).andThen (by rw[hc];exact .now)
 unfold excMatches;refine waa (T.here ?_);simp only[wbY,if_false];refine waa (wak ?_);simp only[List.forIn_cons,List.forIn_nil];refine waa (waa (waa (B.here ?_)));simp only[Bool.not_true,wbY,if_false];refine wak (wak (waa (Y.here (waa (waa (waa (L2.here ?_)))))));cases b with
|true=>exact wak (wak (wak hq))
|false=>exact wak (wak (wak hq))
section
variable {X:Cx}{pins:List (Addr×Obj)}{Y:L2.St}{H:Hp}{s:Sd}
def zdc {M:Model}{A:Ao}{E:Vl->Sd->Prop}{i:Nat}{x:Str}{pos:Pos}{Q:Unit->Sd->Prop}(I:Inv X pins Y H s)(hN:X.N.Nodup)(hi:X.N[i]?=some x)(hk:X.env.kindOf x=some .local)
 (h:∀s',Inv X pins (Y.set i none) H s'->Q () s'):wA M A (do bindName X.env x .none;unbindBehindTheSuite X.env x pos) Q E s:=by
 obtain⟨m,hn,hl⟩:=id I.loc;have hcls:(X.env.scope.kind == .class||(X.env.scope.kind == .module&&X.env.locals != X.env.globals))=false:=by rw[I.ok.kind];rfl
 have hiσ:i<Y.length:=by rw[I.len];exact(wab.mp hi).1
 have cne:=I.cne
 have tracked:∀{a:Addr}{h':Heap},(∃o,s.heap.get? a=some o/\H a=none)->Heap.SameBut a s.heap h'->HOk X.prog X.w H h':=λ{a h'} ha hs b ob e=>by
  obtain⟨_,_,qW⟩:=ha;refine(I.hok b ob e).stay (λc w' hc q=>(hs.2 c ?_).trans q) (λ_ q=>q) λ_ _ _ q=>q
  rintro rfl;rcases hc with rfl|hc
  .rw[qW] at e;cases e
  .rw[qW] at hc;cases hc
 refine wpAny_nameGoes_keeps hk hn hcls λh' v hn' hs=>?_
 obtain⟨oL,_,_,hoL,_⟩:=id hn;refine h _ ⟨I.ok,I.os,I.bare,⟨λb o e n hb hx=>?_,λb o e n hb hx=>?_,I.base.free,λb o e hx=>?_,I.base.tups,I.base.frzs,I.base.tbls⟩,⟨_,hn',λj y v' e1 e2 e3=>?_⟩,λy c e=>?_,I.free,I.freeC,λp hp=>?_,tracked ⟨oL,hoL,I.free⟩ hs,by simpa using I.len⟩
 .exact(hs.2 b (wax (waq (wal e) I.ok.above))).trans (I.base.keep b o e n hb hx)
 .obtain⟨sl,e1⟩:=I.base.slot b o e n hb hx;exact⟨sl,(hs.2 b (wax (waq (wal e) I.ok.above))).trans e1⟩
 .obtain⟨o',e1⟩:=I.base.there b o e hx;exact⟨o',(hs.2 b (wax (waq (wal e) I.ok.above))).trans e1⟩
 .by_cases hj:j=i
  .subst hj;rw[wau hiσ] at e2;cases e2
  .rw[wai (Ne.symm hj)] at e2;obtain⟨u',r',q⟩:=hl j y v' e1 e2 e3;refine⟨u',r',?_⟩;rcases q with⟨k,e⟩|⟨k,c,e,z⟩
   .refine .inl ⟨k,?_⟩;have:y≠x:=λe=>hj (zeO hN e1 (e▸hi))
    simp[this,e]
   .exact .inr ⟨k,c,e,z.sameBut hs (cne y c e)⟩
 .obtain⟨w',z⟩:=I.cell y c e;exact⟨w',z.sameBut hs (cne y c e)⟩
 .obtain⟨e,n,ne,nf,d⟩:=I.pin p hp;exact⟨(hs.2 p.1 ne).trans e,n,ne,nf,d⟩
def zh9 {M:Model}{A:Ao}{E:XK}{e:Vl}{s':Sd}{Ex:Vl->Sd->Prop}{Q:Unit->Sd->Prop}(h:XP X pins Y E e s')(hq:∀h',XP X pins Y E e {s' with heap:=h'}->Q () {s' with heap:=h'}) :
 wA M A (setFlight e none) Q Ex s':=by
 obtain⟨H1,s1,I1,hc⟩:=h;obtain⟨a,cls,dx,H',rfl,x,os,bare,un,hok,q⟩:=id hc;obtain⟨e0,eH,eD,vs,sl,he,h1|⟨T,oT,ts,h1,hTe,hnT,HT,hT,hdT,h3⟩⟩:=id x
 .unfold setFlight;refine waa (wbj he rfl h1 ?_);rw[if_neg (by decide)];exact wak (hq s'.heap ⟨H1,s1,I1,hc⟩)
 .unfold setFlight;refine waa (wbj he rfl h1 ?_);rw[if_pos (show(Value.ref T != Value.none)=true from by simp)];refine wcf hT hdT (wbc.mp h3).1 ?_;have other:∀b,b≠T->(s'.heap.update T (Obj.mapFields (·.setIfInBounds 3 Value.none))).get? b=s'.heap.get? b:=λb hb=>waO _ _ (Ne.symm hb)
  have ne1:∀b o,s1.heap.get? b=some o->b≠T:=λb o e z=>absurd (wal e) (Nat.not_lt.mpr (by rw[z];exact hnT))
  have self:(s'.heap.update T (Obj.mapFields (·.setIfInBounds 3 Value.none))).get? T=some _:=wbm _ hT (wca (wbv hdT _))
  refine hq _ ⟨H1,s1,I1,a,cls,dx,H',rfl,⟨e0,eH,eD,vs,sl,(other a (Ne.symm hTe)).trans he,.inr ⟨T,_,_,h1,hTe,hnT,HT,self,wbv hdT _,by simp[(wbc.mp h3).1]⟩⟩,os,bare,⟨λb o e n hf hx=>(other b (ne1 b o e)).trans (un.keep b o e n hf hx),λb o e n hf hx=>?_,un.free,λb o e hx=>?_,un.tups,un.frzs,un.tbls⟩,λb u e=>?_,q⟩
  .obtain⟨sl,z⟩:=un.slot b o e n hf hx;exact⟨sl,(other b (ne1 b o e)).trans z⟩
  .obtain⟨o',z⟩:=un.there b o e hx;exact⟨o',(other b (ne1 b o e)).trans z⟩
  .refine(hok b u e).stay (λc v hc q=>(other c ?_).trans q) (λ_ q=>q) λ_ _ _ q=>q
   rintro rfl;rcases hc with z|z
   .rw[<-z,HT] at e;cases e
   .rw[HT] at z;cases z
end
def X0:HO:=.ext λ_=>True
def Held (H:Hp)(a:Addr)(oa:Obj)(H2:Hp):Prop:=
 (oa.dict=none/\H2=upd H a (.frz oa X0))\/∃d od fs,oa.dict=some d/\H d=some (.xd fs)/\H2=upd (upd H a (.frz oa X0)) d (.frz od (.xd fs))
def Held.same {H H2:Hp}{a:Addr}{oa:Obj}(h:Held H a oa H2)(ha:H a=none){c:Addr}{z:HO}(e:H c=some z)(n:∀fs,z≠.xd fs):H2 c=some z:=by
 have hca:c≠a:=by rintro rfl;rw[ha] at e;cases e
 rcases h with⟨_,rfl⟩|⟨d,od,fs,_,hd,rfl⟩
 .rw[zaf hca];exact e
 .have hcd:c≠d:=by rintro rfl;rw[hd] at e;cases e;exact n _ rfl
  rw[zaf hcd,zaf hca];exact e
section
variable {X:Cx}{pins:List (Addr×Obj)}{Y:L2.St}{H:Hp}{s:Sd}
def zlM {E:XK}{e:Vl}{s':Sd}(h:XP X pins Y E e s')(hxd:∀cls dx H',E cls dx H'->∀d,dx=some d->∃fs,H' d=some (.xd fs)) :
 ∃a cls dx H' oa H2,e=.ref a/\E cls dx H'/\H' a=none/\s'.heap.get? a=some oa/\oa.cls=cls/\oa.dict=dx/\PySem.W.notCls oa=true/\Held H' a oa H2/\Inv X pins Y H2 s':=by
 obtain⟨H1,s1,I1,a,cls,dx,H',rfl,x,os,bare,un,hok,q⟩:=h;obtain⟨e0,eH,eD,vs,sl,he,_⟩:=id x;have hold:∃H2,Held H' a ⟨cls,dx,.fields vs,sl⟩ H2/\HOk X.prog X.w H2 s'.heap/\∀b,b<s1.heap.objs.size->H' b=none->H2 b=none:=by
  have ex0:∀H2,ObjOk X.prog X.w H2 s'.heap a (.frz ⟨cls,dx,.fields vs,sl⟩ X0):=λH2=>⟨he,trivial,⟨_,he⟩,λ_ _ _ _=>trivial⟩
  cases hdx:dx with
 |none=>
    subst hdx;have hh:Held H' a ⟨cls,none,.fields vs,sl⟩ (upd H' a (.frz ⟨cls,none,.fields vs,sl⟩ X0)):=.inl ⟨rfl,rfl⟩
    refine⟨_,hh,λb u e=>?_,λb hb n=>?_⟩
    .by_cases hba:b=a
     .subst hba;rw[zae] at e;cases e;exact ex0 _
     .rw[zaf hba] at e;exact(hok b u e).stay (λ_ _ _ q=>q) (λc q=>hh.same eH q (λ_ z=>by cases z)) λc z hz q=>hh.same eH q (λfs y=>by rw[y] at hz;exact hz)
    .rw[zaf (wax (waq hb e0))];exact n
 |some d=>
    subst hdx;obtain⟨fs,hd⟩:=hxd _ _ _ q d rfl;obtain⟨mA,⟨od,es,ep,hod,r1⟩,r2⟩:=hok d _ hd;have hh:Held H' a ⟨cls,some d,.fields vs,sl⟩ (upd (upd H' a (.frz ⟨cls,some d,.fields vs,sl⟩ X0)) d (.frz od (.xd fs))):=.inr ⟨d,od,fs,rfl,hd,rfl⟩
    have hda:d≠a:=by rintro rfl;rw[eH] at hd;cases hd
    refine⟨_,hh,λb u e=>?_,λb hb n=>?_⟩
    .by_cases hbd:b=d
     .subst hbd;rw[zae] at e;cases e;exact⟨hod,mA,⟨od,es,ep,hod,r1⟩,r2⟩
     rw[zaf hbd] at e;by_cases hba:b=a
     .subst hba;rw[zae] at e;cases e;exact ex0 _
     .rw[zaf hba] at e;exact(hok b u e).stay (λ_ _ _ q=>q) (λc q=>hh.same eH q (λ_ z=>by cases z)) λc z hz q=>hh.same eH q (λfs y=>by rw[y] at hz;exact hz)
    .rw[zaf (wax (waq hb (eD d rfl))),zaf (wax (waq hb e0))];exact n
 obtain⟨H2,hh,hok2,hn2⟩:=hold;refine⟨a,cls,dx,H',_,H2,rfl,q,eH,he,rfl,rfl,rfl,hh,I1.call' (ch:=[]) os ⟨un.keep,un.slot,λb o e n hx=>hn2 b (wal e) (un.free b o e n hx),un.there,λb xs e=>hh.same eH (un.tups b xs e) (λ_ z=>by cases z),λb o u e=>hh.same eH (un.frzs b o u e) (λ_ z=>by cases z),λb ps e=>?_⟩ hok2 bare (λb z=>absurd z (by simp))⟩;obtain⟨more,z⟩:=un.tbls b ps e;exact⟨more,hh.same eH z (λ_ z=>by cases z)⟩
end
def inH (X:Cx)(e:Vl):Cx:={X with A:=X.A.mark (some e),calm:=false,xe:=λ_ _=>False}
section
variable {X:Cx}{pins:List (Addr×Obj)}{Y:L2.St}{H:Hp}{s:Sd}{e:Vl}
def toH (I:Inv X pins Y H s):Inv (inH X e) pins Y H s:=by
 obtain⟨⟨a1,a2,a3,a4,a5,a6,a7,a8,a9,a10,a11,a12,a13,a14,a15,a16,a17,a18⟩,b2,b3,b4,b5,b6,b7,b8,b9,b10,b11⟩:=I;exact⟨⟨a1,a2,a3,a4,a5,a6,a7,a8,(λz=>by cases z),a10,a11,a12,a13,a14,a15,a16,a17,a18⟩,b2,b3,b4,b5,b6,b7,b8,b9,b10,b11⟩
def ofH (I:Inv (inH X e) pins Y H s)(ok:X.Ok):Inv X pins Y H s:=by
 obtain⟨_,b2,b3,b4,b5,b6,b7,b8,b9,b10,b11⟩:=I;exact⟨ok,b2,b3,b4,b5,b6,b7,b8,b9,b10,b11⟩
end
abbrev TX:=Ends->XK->L2.St->Hp->Prop
def PSX (X:Cx)(ss:List Stmt)(t:TX):Prop:=∀(pins:List (Addr×Obj)) (s:Sd) (Y:L2.St) (H:Hp) (D:Ends) (E:XK),Inv X pins Y H s->t D E Y H->wA (model X.prog X.w) X.A (execs ss X.env) (SP X pins D) (XP X pins Y E) s
def unset (i:Nat)(D:Ends):Ends:={nx:=λY H=>D.nx (Y.set i none) H,bk:=λY H=>D.bk (Y.set i none) H,ct:=λY H=>D.ct (Y.set i none) H,rt:=D.rt}
def tTry (K:Fg)(CT:Addr)(i:Nat)(tb:TX)(th:TS):TS:=λD Y H=>tb D (λcls dx H'=>(∃C,cls=.ref C/\PySem.W.mroIn K C (.ref CT)=some true)/\(∀d,dx=some d->∃fs,H' d=some (.xd fs))/\
 ∀a oa H2,H' a=none->oa.cls=cls->oa.dict=dx->PySem.W.notCls oa=true->Held H' a oa H2->th (unset i D) (Y.set i (some (.ref a))) H2) Y H
section
variable {X:Cx}{T n:Str}{tp hp pos:Pos}{body wR:List Stmt}{b₀:Stmt}{CT:Addr}{i:Nat}{tb:TX}{th:TS}
def zqs (hst:X.stack=X.env::X.outer)(hf:X.env.frame=some X.env.locals)(hg:Gl X T)(hm:X.mg T=some (.ref CT))(hN:X.N.Nodup)(hi:X.N[i]?=some n)(hk:X.env.kindOf n=some .local)
 (hB:PySem.W.mroIn X.K CT (.type "BaseException")=some true) (hT:PySem.W.typeIn X.K (.ref CT)=some (.type "type")) (hb:PSX X body tb) (hh:∀e,PSs (inH X e) (b₀::wR) th)
 (hdb:(T == ("__debug__":Str))=false:=by decide) :
 PS X (.Try body [.ExceptHandler (some (.Name T tp)) (some n) (b₀::wR) hp] [] [] pos) (tTry X.K CT i tb th):=by
 intro pins s Y H D I h;refine wpAny_Try_except (wav (hb pins s Y H D _ I h) (λf s1 h1=>?_) (λe s1 h1=>?_))
 .cases f <;> first|exact h1|exact wak h1
 refine zlL hst hf h1 λh2 x2=>?_
 obtain⟨H1,s0,I0,hc⟩:=id x2;obtain⟨a,cls,dx,H',rfl,J,x,⟨C,rfl,hmm⟩,_,_⟩:=zjX I0 hc;obtain⟨e0,eH,eD,vs,sl,he,_⟩:=x;refine wpAny_handleBy_cons (codeAny_handlers_test ?_) (by intro q;cases q);refine zcO (X:=inH X (.ref a)) (toH J) hg hm ?_ hdb;refine zfV J.kIn he rfl hB hT hmm ?_;refine codeAny_handlers_suite_as (zh9 x2 λh3 x3=>?_);obtain⟨a',cls,dx',H3,oa,H2,ea,q,ha,hoa,hcl,hdx,hnc,hh2,J2⟩:=zlM x3 (λcls dx H' q=>q.2.1);cases ea;refine zdJ (X:=inH X (.ref a)) (toH J2) hN hi (.inl hk) (v:=.ref a) rfl (λs4 J4=>?_) (.inr hk);refine wav (hh (.ref a) pins s4 _ _ (unset i D) J4 (q.2.2 a oa H2 ha hcl hdx hnc hh2)) (λf s5 h5=>?_) (λ_ _ z=>z.elim);cases f with
|next=>obtain⟨Y',H',J5,q5⟩:=h5;exact zdc (ofH J5 I.ok) hN hi hk λs6 J6=>⟨_,_,J6,q5⟩
|brk=>obtain⟨Y',H',J5,q5⟩:=h5;exact zdc (ofH J5 I.ok) hN hi hk λs6 J6=>⟨_,_,J6,q5⟩
|cont=>obtain⟨Y',H',J5,q5⟩:=h5;exact zdc (ofH J5 I.ok) hN hi hk λs6 J6=>⟨_,_,J6,q5⟩
|ret u=>obtain⟨v,Y',H',J5,r5,q5⟩:=h5;exact zdc (ofH J5 I.ok) hN hi hk λs6 J6=>⟨v,_,_,J6,r5,q5⟩
end
abbrev TEX:=L2.St->Hp->VK->XK->Prop
def PEX (X:Cx)(e:Expr)(t:TEX):Prop:=∀(pins:List (Addr×Obj)) (s:Sd) (Y:L2.St) (H:Hp) (Q:VK) (E:XK),Inv X pins Y H s->t Y H Q E->wA (model X.prog X.w) X.A (eval e X.env) (EP X pins Y Q) (XP X pins Y E) s
section
variable {X:Cx}{k:Nat}{f:Addr}{fd:Fu}{ps:List Str}{sp:Sp}{dvs:List V}{ds:List Vl}{x:Str}{p pos:Pos}{e:Expr}{es:List Expr}{t:TA}{te:TEX}
def zhx {pins:List (Addr×Obj)}{Y:L2.St}{H:Hp}{s:Sd}(I:Inv X pins Y H s):Inv X.nox pins Y H s:=by
 obtain⟨⟨a1,a2,a3,a4,a5,a6,a7,a8,a9,a10,a11,a12,a13,a14,a15,a16,a17,a18⟩,b2,b3,b4,b5,b6,b7,b8,b9,b10,b11⟩:=I;exact⟨⟨a1,a2,a3,a4,a5,a6,a7,a8,a9,a10,a11,a12,a13,a14,a15,a16,a17,a18⟩,b2,b3,b4,b5,b6,b7,b8,b9,b10,b11⟩
def zdD {pins:List (Addr×Obj)}{Y:L2.St}{H:Hp}{s:Sd}(I:Inv X.nox pins Y H s):Inv X pins Y H s:=by
 obtain⟨⟨a1,a2,a3,a4,a5,a6,a7,a8,a9,a10,a11,a12,a13,a14,a15,a16,a17,a18⟩,b2,b3,b4,b5,b6,b7,b8,b9,b10,b11⟩:=I;exact⟨⟨a1,a2,a3,a4,a5,a6,a7,a8,a9,a10,a11,a12,a13,a14,a15,a16,a17,a18⟩,b2,b3,b4,b5,b6,b7,b8,b9,b10,b11⟩
def zlN (F:FnOk X.prog X.w X.K X.mg X.base (CXE X.prog X.w) k f fd ps sp)(hr:Room k X.A)(hg:Gl X x)(hm:X.mg x=some (.ref f))(hk:W.keepIn X.K (.ref f)=true)(hb:Binds X.K fd ps ds)(hd:Vals dvs ds)
 (ha:PA X.nox (e::es) t) (hdb:(x == ("__debug__":Str))=false:=by decide) (he:sE (e::es) X.env=(false,eval e X.env)::sE es X.env:=by rfl) (hpl:(backTo pos (sE es X.env)).any (·.1)=false:=by rfl) :
 PEX X (.Call (.Name x p) (e::es) [] pos) (λY H Q E=>zhX sp dvs E t Y H Q):=by
 intro pins s Y H Q E I h;refine waQ (zcO I hg hm ?_ hdb);refine wcp (h₀:=X.base) I.ok.mod.kin hk (wav (ha pos pins s Y H _ (zhx I) h) (λus s1 ⟨vs,H1,I1,r,q⟩=>⟨I1.kIn,?_⟩) λ_ _ z=>z.elim) he hpl;have J1:=zdD I1
 have r2:Vals (vs++dvs) (us++ds):=r.append hd
 have hl:(us++ds).length=ps.length:=by rw[<-r2.length];exact F.len _ _ _ _ q
 refine wcH (wcA (F.run X.A X.stack s1 H1 ⟨us,[]⟩ (us++ds) (vs++dvs) Q E hr J1.env0 (hb s1 us J1.kIn hl) r2 q) λr s' hq=>?_);cases r with
|error e=>exact⟨H1,s1,J1,hq⟩
|ok fl=>
   cases fl with
  |ret u=>exact J1.after hq
  |next=>exact False.elim hq
  |brk=>exact False.elim hq
  |cont=>exact False.elim hq
def zog {i:Nat}{x:Str}{pos':Pos}(hN:X.N.Nodup)(hi:X.N[i]?=some x)(hx:Loc X.env.scope x)(he:PEX X e te)(hs:sWw e (some (.Name x pos')) pos.line X.env=pure false:=by rfl)
 (hf:X.fn x=true\/X.env.scope.names.lookup x=some .local:=by first|exact .inl rfl|exact .inr rfl|assumption) :
 PSX X [.Assign [.Name x pos'] e pos] (λD E Y H=>te Y H (λv H1=>D.nx (Y.set i (some v)) H1) E):=by
 intro pins s Y H D E I h;refine wpAny_execs_cons (wpAny_Assign_Name (thn (he pins s Y H _ E I h) λv s1 ⟨y,H1,I1,r1,q1⟩=>?_) hs);exact zdJ I1 hN hi hx r1 (λs2 I2=>wcn ⟨_,H1,I2,q1⟩) hf
end
end EX
namespace EX
open PySem.Spec PySem.W
def zhy (K:Frag)(a:Addr):Bool:=match K.lookup a with
|some ⟨_,_,.dict es _,_⟩=>es.toList.all λe=>match e.key with|.str _ _=>true|_=>false
|_=>false
def ns_K {K:Frag}{a:Addr}(e:zhy K a=true):∃m:Str->Option Vl,(∀h:Heap,K.In h->h.Ns a m)/\∀x r,nsIn K a x=some r->m x=r:=by
 unfold zhy at e;split at e
 .rename_i c d es ep sl ho
  refine⟨nsFind es,λh X=>⟨_,es,ep,X _ _ ho,rfl,λen hen=>?_,λ_=>rfl⟩,λx r hr=>?_⟩
  .have:=waB.mp e en (by simpa using hen)
   split at this
   .rename_i n t hk;exact⟨n,t,hk⟩
   .cases this
  .unfold nsIn at hr;rw[ho] at hr;dsimp only at hr;unfold nsFind findBy;obtain⟨es⟩:=es;rw[List.find?_toArray];dsimp only at hr;split at hr
   .rename_i en hen
    cases hr;rw[show List.find? (λe:DictEntry=>(λn (v:Vl)=>v.isStr n) x e.key) es=some en from hen];rfl
   .rename_i hen
    rw[show List.find? (λe:DictEntry=>(λn (v:Vl)=>v.isStr n) x e.key) es=none from hen];split at hr
    .cases hr
    .cases hr;rfl
 .cases e
def zhz (K:Frag)(bmB:List Vl):List Vl->Bool
|.ref A::tl=>((clsIn K A).any λcd=>zhy K cd.ns&&(nsIn K cd.ns "__init__" == some none))&&zhz K bmB tl
|l=>l == bmB
def zqt {K:Frag}{h:Heap}(X:K.In h){bmB:List Vl}(hb:∀A tl,bmB≠.ref A::tl):∀{bm:List Vl},zhz K bmB bm=true->OwnTail h bmB bm:=by
 intro bm;induction bm with
|nil=>intro e;rw[show([]:List Vl)=bmB from beq_iff_eq.mp e];exact .base
|cons v tl ih=>
   intro e;by_cases hv:∃c,v=.ref c
   .obtain⟨c,rfl⟩:=hv;unfold zhz at e;rw[waF] at e;obtain⟨cd,hcd,hr⟩:=any_some e.1;rw[waF] at hr;obtain⟨m,hm,hm2⟩:=ns_K hr.1;unfold clsIn at hcd;split at hcd
    .rename_i c0 d0 cd0 sl0 ho
     cases hcd;exact OwnTail.own (X _ _ ho) (hm h X) (hm2 _ _ (beq_iff_eq.mp hr.2)) (ih e.2)
    .cases hcd
   .have:v::tl=bmB:=by
     cases v <;> first|exact beq_iff_eq.mp e|exact absurd ⟨_,rfl⟩ hv
    rw[this];exact .base
section
variable {prog:Pm}{w:World}{A:Ao}{E:Vl->Sd->Prop}{h:Heap}{g:Array GenState}{d:Drawn}{t:Nat}{os:OsState}
variable {C x:Addr}{K:Frag}{ox:Obj}{od:Option Obj}{name:Str}{v:Vl}{expr:Bool}{Q:Vl->Sd->Prop}
def ga_ve:Slot "ValueError" "__getattribute__" "BaseException.__getattribute__":=.of (owner:="BaseException") (n:="__getattribute__") (by rw[typeLookup_type,builtinLookup_eq_fast];kernel_rfl) (by decide +kernel) (by decide +kernel) (by decide +kernel)
 (by first|exact .inl (by decide +kernel)|exact .inr (by decide +kernel)) (by rw[isSubtype_type];kernel_rfl)
def zjY:builtinKind "BaseException.__getattribute__"=some .slot:=by decide +kernel
def zhA:splitId "BaseException.__getattribute__"=some ("BaseException","__getattribute__"):=by decide +kernel
def zqu {tk:Tok}{R:Result->Sd->Prop}(X:K.In h)(I:InstAt h x ox C od)(hm:mroIn K C (.type "BaseException")=some true)(hf:findObj K C od name=some (.value v))(hq:R (.ok (.ret v)) ⟨h,g,d,t,os⟩) :
 codeAny (model prog w) A (.call (.builtin "BaseException.__getattribute__") ⟨[.ref x,.str name tk],[]⟩) R ⟨h,g,d,t,os⟩:=by
 have L0:=I.type (M:=model prog w)
 have L1:=looks_find (M:=model prog w) X I hf
 have sub:Looks (model prog w) h (isInstance (.ref x) (.type "BaseException")) true:=L0.andThen (looks_mroIn X hm)
 refine wce ga_ve.plain F.entry_bexc_ga (@check_slot (model prog w) _ _ ⟨h,g,d,t,os⟩ "BaseException.__getattribute__" "BaseException" "__getattribute__" (.ref x) [.str name tk] [] _ zjY zhA sub (F.args_bexc_ga (.ref x) (.str name tk)) ?_);unfold Builtin.«object.__getattribute__»;repeat (any_goals (first|assumption|with_reducible refine Looks.at L0 ?_|with_reducible refine Looks.at L1 ?_|wp_step))
def zoh (X:K.In h)(I:InstAt h x ox C od)(hga:findIn K (.ref C) "__getattribute__"=some (some (.builtin "BaseException.__getattribute__")))(hgt:findIn K (.ref C) "__getattr__"=some none)
 (hm:mroIn K C (.type "BaseException")=some true) (hf:findObj K C od name=some (.value v)) (hh:handedIn v=true) (hq:Q v ⟨h,g,d,t+1,os⟩):wA (model prog w) A (getAttr (.ref x) name expr) Q E ⟨h,g,d,t,os⟩:=by
 have L0:=I.type (M:=model prog w)
 have L1:=looks_findIn (M:=model prog w) X hga
 have L2:=looks_findIn (M:=model prog w) X hgt
 have f3:=ga_ve.bind (.ref x)
 have hx0:(expr&&onTheHeap (Value.builtin "BaseException.__getattribute__"))=false:=by cases expr <;> rfl
 have hx2:(Value.builtin "BaseException.__getattribute__" == Value.builtin "object.__getattribute__")=false:=by decide +kernel
 have hx1:(onTheHeap (Value.ref C)&&Value.builtin "BaseException.__getattribute__" == Value.builtin "object.__getattribute__")=false:=by rw[hx2];rfl
 unfold getAttr getAttrBy;refine waa (wpAny_mkText (wbo (waa (L0.at (waa (L1.at ?_))))));repeat (any_goals (first|assumption|with_reducible refine Looks.at L0 ?_|with_reducible refine Looks.at L1 ?_|with_reducible refine Looks.at L2 ?_|wp_step))
 refine zqu X I hm hf ?_;show wA _ _ (handedOut v) _ _ _
 rw[handedOut_of hh];exact wak hq
end
section
variable {prog:Pm}{w:World}{A:Ao}{E:Vl->Sd->Prop}{h:Heap}{g:Array GenState}{d:Drawn}{t:Nat}{os:OsState}
variable {C x:Addr}{K:Frag}{ox:Obj}{od:Option Obj}
def zfW {tk:Tok}{R:Result->Sd->Prop}(X:K.In h)(I:InstAt h x ox C od)(hm:mroIn K C (.type "BaseException")=some true)(hmo:mroIn K C (.type "object")=some true)
 (hf:findObj K C od "__class__"=some (.bind (.builtin "getset_descriptor.__get__") (.builtin "object.__class__"))) (hq:R (.ok (.ret (.ref C))) ⟨h,g,d,t,os⟩) :
 codeAny (model prog w) A (.call (.builtin "BaseException.__getattribute__") ⟨[.ref x,.str "__class__" tk],[]⟩) R ⟨h,g,d,t,os⟩:=by
 have L0:=I.type (M:=model prog w)
 have L1:=looks_find (M:=model prog w) X I hf
 have sub:Looks (model prog w) h (isInstance (.ref x) (.type "BaseException")) true:=L0.andThen (looks_mroIn X hm)
 refine wce ga_ve.plain F.entry_bexc_ga (@check_slot (model prog w) _ _ ⟨h,g,d,t,os⟩ "BaseException.__getattribute__" "BaseException" "__getattribute__" (.ref x) [.str "__class__" tk] [] _ zjY zhA sub (F.args_bexc_ga (.ref x) (.str "__class__" tk)) ?_);unfold Builtin.«object.__getattribute__»;repeat (any_goals (first|assumption|with_reducible refine Looks.at L0 ?_|with_reducible refine Looks.at L1 ?_|wp_step))
 exact class_get (s:=⟨h,g,d,t,os⟩) X I hmo (wak hq)
def zjZ {Q:Option Vl->Sd->Prop}(X:K.In h)(I:InstAt h x ox C od)(hga:findIn K (.ref C) "__getattribute__"=some (some (.builtin "BaseException.__getattribute__")))(hgt:findIn K (.ref C) "__getattr__"=some none)
 (hm:mroIn K C (.type "BaseException")=some true) (hmo:mroIn K C (.type "object")=some true)
 (hf:findObj K C od "__class__"=some (.bind (.builtin "getset_descriptor.__get__") (.builtin "object.__class__"))) (hq:Q (some (.ref C)) ⟨h,g,d,t+1,os⟩) :
 wA (model prog w) A (getAttr? (.ref x) "__class__") Q E ⟨h,g,d,t,os⟩:=by
 have L0:=I.type (M:=model prog w)
 have L1:=looks_findIn (M:=model prog w) X hga
 have L2:=looks_findIn (M:=model prog w) X hgt
 have f3:=ga_ve.bind (.ref x)
 have hx2:(Value.builtin "BaseException.__getattribute__" == Value.builtin "object.__getattribute__")=false:=by decide +kernel
 have hx1:(onTheHeap (Value.ref C)&&Value.builtin "BaseException.__getattribute__" == Value.builtin "object.__getattribute__")=false:=by rw[hx2];rfl
 unfold getAttr? getAttrBy? getAttrBy;repeat (any_goals (first|assumption|with_reducible refine Looks.at L0 ?_|with_reducible refine Looks.at L1 ?_|with_reducible refine Looks.at L2 ?_|wp_step))
 refine zfW X I hm hmo hf ?_;repeat (any_goals (first|assumption|wp_step))
def zhB (hga:findIn K (.ref C) "__getattribute__"=some (some (.builtin "BaseException.__getattribute__")))(hgt:findIn K (.ref C) "__getattr__"=some none)
 (hm:mroIn K C (.type "BaseException")=some true) (hmo:mroIn K C (.type "object")=some true) (hdct:hasDictIn K C=true)
 (hf:findObj K C od "__class__"=some (.bind (.builtin "getset_descriptor.__get__") (.builtin "object.__class__"))):KitX K (.ref x) (.ref C) (λh=>InstAt h x ox C od) where
 ty:=λ_ _ _ I=>I.type
 it:=λ_ _ X _=>by
  obtain⟨cdD,hcD,_⟩:=any_some hdct;unfold clsIn at hcD;split at hcD
  .rename_i c' d' cd' sl' ho
   intro A' Q' E' s' k q;unfold isType loadHead;exact waa (wpAny_loadPart (k _ _ (X _ _ ho)) (wak q))
  .cases hcD
 ne:=λh tp dd its n sl X htp=>by
  obtain⟨cdD,hcD,_⟩:=any_some hdct;refine Bool.eq_false_iff.mpr λq=>?_
  have e:C=tp:=Value.ref.inj (beq_iff_eq.mp q)
  subst e;unfold clsIn at hcD;split at hcD
  .rename_i c' d' cd' sl' ho
   have z:=(X _ _ ho).symm.trans htp
   cases z
  .cases hcD
 ca:=λ{_ _ _ _ _ s} X I k=>by
  obtain⟨h,g,d,t,os⟩:=s;exact zjZ X I hga hgt hm hmo hf k
end
section
variable {prog:Pm}{w:World}{K:Frag}{fd:Fu}{fI:Addr}{x p y:Str}{tk0:Tok}{h0:Heap}{cp np fp jp:Pos}{k:Nat}
end
def xi_mk {prog:Pm}{w:World}{K:Frag}{C N fI cda cc:Addr}{nm0 q:Str}{bs bm:List Vl}{hdct:Bool}{sn:List Str}{sub:List Vl}{ab:Bool}{col:Option Bool}{dd:Option Addr}{k0 k1 k2 k3 k5:Option Vl}
 {slf x nm:Str}{J:Expr}{fd:Fu}{od:Option Addr}{sl:Array (Option Vl)}{ocd occ:Obj}
 (lk:K.lookup C=some (excClassObj nm0 q C N bs bm hdct sn sub ab col dd k0 k1 k2 k3 k5 "ValueError.__new__"))
 (i:nsIn K N "__init__"=some (some (.ref fI)))
 (lf:K.lookup fI=some ⟨.type "function",od,.func fd,sl⟩)
 (opq:nsIn K cStatics "thirdparty.any"=some none)
 (self:mroIn K C (.ref C)=some true)
 (st:findIn K (.ref C) "__setattr__"=some (some (.builtin "object.__setattr__")))
 (tak:takerIn K C nm=some none)
 (cdi:codeIn K fd.code fd.qualname=true)
 (hc:fd.code=.ref cda) (lc:K.lookup cda=some ocd) (lcc:K.lookup cc=some occ) (occd:occ.data=.cell (some (.ref C)))
 (inC:ks_superIn K C C "__init__"=some (some (.builtin "ValueError.__init__")))
 (t1:zhz K [.type "ValueError",.type "Exception",.type "BaseException",.type "object"] bm=true)
 (sN:zhy K N=true)
 (und:(clsIn K C).any (λcd=>zcq cd.mro)=true)
 (hasD:(clsIn K C).any (·.hasDict)=true)
 (body:∃p0 p1 ap cp q1 q2 q3 q4 q5,fd.body=.stmts [.Expr (.Call (.Attribute (.Call (.Name "super" p0) [] [] p1) "__init__" ap) [J] [] cp) q1,.Assign [.Attribute (.Name slf q2) nm q3] (.Name x q4) q5]/\
  (∀L,interactive (cEv fd L fI)=false)/\(∀L,sWw (.Call (.Attribute (.Call (.Name "super" p0) [] [] p1) "__init__" ap) [J] [] cp) none q1.line (cEv fd L fI)=pure false)/\
  (∀L,sWw (.Name x q4) (some (.Attribute (.Name slf q2) nm q3)) q5.line (cEv fd L fI)=pure false)/\
  (∀L,sE [J] (cEv fd L fI) = [(false,eval J (cEv fd L fI))])/\
  ∃pl:Addr->Sem Bool,∀L,eval (.Call (.Attribute (.Call (.Name "super" p0) [] [] p1) "__init__" ap) [J] [] cp) (cEv fd L fI)=(do
   let ov <-attributeBase (.Call (.Name "super" p0) [] [] p1) "__init__" (cEv fd L fI) (eval (.Call (.Name "super" p0) [] [] p1) (cEv fd L fI))
   standAt ap.atName
   let (f,first) <-holding [ov] (getMethod ov "__init__" (pl L))
   callWith cp f first (backTo cp (sE [J] (cEv fd L fI))) []))
 (ne:slf≠x) (dbg:(x == ("__debug__":Str))=false/\(slf == ("__debug__":Str))=false)
 (par:∃ar:Arg,(fd.params.posonlyargs++fd.params.args).head?=some ar/\ar.arg=slf)
 (bind:∀(a b:Vl),bindArgs fd ⟨[a,b],[]⟩=pure [(slf,a),(x,b)])
 (cell:∀z∈fd.scope.names,z.2≠.cell) (loc1:fd.scope.names.lookup slf=some .local) (loc2:fd.scope.names.lookup x=some .local)
 (flags:fd.scope.isCoroutine=false/\fd.scope.isGenerator=false/\fd.scope.kind=.function)
 (kinds:∀L,(cEv fd L fI).kindOf "super"=some .globalImplicit/\(cEv fd L fI).kindOf "__class__"=some .free/\(cEv fd L fI).kindOf slf=some .local/\(cEv fd L fI).kindOf x=some .local)
 (file:∃vs fl tf,ocd.data=.fields vs/\vs[2]?=some (.str fl tf)/\((prog.main.file:Str) == fl)=true)
 (top:(prog.main.scope.names.lookup ("super":Str)).isSome=false) (glob:∀L,(cEv fd L fI).globals=mG) (blt:∀L,(cEv fd L fI).builtins=bNs)
 (ccl:∀L,(cEv fd L fI).cells.lookup ("__class__":Str)=some cc):XI prog w K C N fI bm slf x nm J fd where
 cls:=⟨⟨nm0,q,bs,hdct,sn,sub,ab,col,dd,k0,k1,k2,k3,k5,lk⟩,λh X=>zqt X (λA tl=>by simp) t1,opq,self⟩
 inC:=inC
 set:=st
 und:=und
 tak:=tak
 hasD:=hasD
 fn:=⟨_,lf,rfl,rfl⟩
 names:=let ⟨m,a,b⟩:=ns_K sN;⟨m,a,b _ _ i⟩
 code:=λh X=>codeRec_of X cdi
 body:=body
 ne:=ne
 dbg:=dbg
 par:=par
 bind:=λs a b=>.of_eq (bind a b)
 cell:=cell
 loc1:=loc1
 loc2:=loc2
 flags:=flags
 kinds:=kinds
 file:=let ⟨vs,fl,tf,a,b,c⟩:=file;⟨cda,ocd,vs,fl,tf,hc,lc,a,b,c⟩
 top:=top
 glob:=glob
 blt:=blt
 cc:=⟨cc,ccl,λh X=>⟨_,X _ _ lcc,occd⟩⟩
end EX
namespace EX
open PySem.Spec L2
structure XG (K:Fg)(C:Addr)(f:Str):Prop where
 ga:PySem.W.findIn K (.ref C) "__getattribute__"=some (some (.builtin "BaseException.__getattribute__"))
 gt:PySem.W.findIn K (.ref C) "__getattr__"=some none
 bm:PySem.W.mroIn K C (.type "BaseException")=some true
 no:PySem.W.findIn K (.ref C) f=some none
 hd:PySem.W.hasDictIn K C=true
def zqv {v:V}{u:Vl}(r:RelV v u):PySem.W.handedIn u=true:=by
 cases v <;> (first|(obtain rfl:=r;rfl)|(obtain⟨_,rfl⟩:=r;rfl))
section
variable {X:Cx}{pins:List (Addr×Obj)}{Y:L2.St}{H:Hp}{s:Sd}{A:Ao}{E:Vl->Sd->Prop}{C a d:Addr}{oa od:Obj}{f:Str}{fs:List (Str×V)}{v:V}{expr:Bool}{Q:Vl->Sd->Prop}
def zlO (I:Inv X pins Y H s)(c:XG X.K C f)(ha:H a=some (.frz oa X0))(hc:oa.cls=.ref C)(hn:PySem.W.notCls oa=true)(hdd:oa.dict=some d)(hd:H d=some (.frz od (.xd fs)))(hv:fs.lookup f=some v)
 (hq:∀u tk,RelV v u->Q u {s with toks:=tk}):wA (model X.prog X.w) A (getAttr (.ref a) f expr) Q E s:=by
 obtain⟨e1,_⟩:=I.hok a _ ha;obtain⟨e2,mA,⟨o',es,ep,e3,e4,e5,e6,e7⟩,r⟩:=I.hok d _ hd;obtain rfl:o'=od:=was (e3.symm.trans e2);have rv:=r f
 rw[hv] at rv;cases hm:mA f with
|none=>rw[hm] at rv;exact rv.elim
|some u=>
   rw[hm] at rv;have rv:RelV v u:=rv
   have lk:PySem.W.lookIn f o'=some (some u):=by
    have e8:=(e7 f).trans hm
    unfold PySem.W.lookIn;rw[e4];dsimp only;unfold nsFind findBy at e8;obtain⟨es⟩:=es;rw[List.find?_toArray] at e8;obtain⟨en,z1,z2⟩:=waX.mp e8;have z1:List.find? (λe:DictEntry=>e.key.isStr f) es=some en:=z1
    rw[z1];dsimp only;rw[z2]
   have J:PySem.W.InstAt s.heap a oa C (some o'):=⟨e1,hc,hn,by rw[hdd];exact e2⟩
   obtain⟨cd,hcd,hh⟩:=PySem.W.any_some c.hd;have hf:PySem.W.findObj X.K C (some o') f=some (.value u):=by
    unfold PySem.W.findObj;rw[hcd,zOB,c.no,zOB];simp[PySem.W.ownOf,hh,lk]
   obtain⟨h,g,dd,t,os⟩:=s;exact zoh I.kIn J c.ga c.gt c.bm hf (zqv rv) (hq u _ rv)
def zhC (H:Hp)(a C:Addr)(fs:List (Str×V)):Prop:=∃oa d od,H a=some (.frz oa X0)/\oa.cls=.ref C/\PySem.W.notCls oa=true/\oa.dict=some d/\H d=some (.frz od (.xd fs))
def zr2 (K:Fg)(ta:TE)(f:Str):TE:=λY H Q=>ta Y H λx H1=>∃a C fs v,x=.ref a/\zhC H1 a C fs/\XG K C f/\fs.lookup f=some v/\Q v H1
def zoi {e:Expr}{pos:Pos}{ta:TE}(he:PE X e ta)(hb:attributeBase e f X.env (eval e X.env)=eval e X.env):PE X (.Attribute e f pos) (zr2 X.K ta f):=by
 intro pins s Y H Q I h;refine znc hb (thn (he pins s Y H _ I h) λu s1 ⟨x,H1,I1,rx,a,C,fs,v,ex,⟨oa,d,od,h1,h2,h3,h4,h5⟩,c,l,q⟩=>?_);subst ex;obtain rfl:u=Value.ref a:=rx;exact zlO I1 c h1 h2 h3 h4 h5 l λu' tk ru=>⟨v,H1,I1.tok tk,ru,q⟩
structure XK1 (K:Fg)(C:Addr):Prop where
 ga:PySem.W.findIn K (.ref C) "__getattribute__"=some (some (.builtin "BaseException.__getattribute__"))
 gt:PySem.W.findIn K (.ref C) "__getattr__"=some none
 bm:PySem.W.mroIn K C (.type "BaseException")=some true
 om:PySem.W.mroIn K C (.type "object")=some true
 hd:PySem.W.hasDictIn K C=true
 cl:PySem.W.findIn K (.ref C) "__class__"=some (some (.builtin "object.__class__"))
 sg:PySem.W.specialIn K (.builtin "object.__class__") "__get__"=some (some (.builtin "getset_descriptor.__get__"))
 tk:PySem.W.takesIn K (.builtin "object.__class__")=some true
def zj0 (I:Inv X pins Y H s)(c:XK1 X.K C)(hc:zhC H a C fs){cv:Vl}{b:Bool}(e:PySem.W.kitOne X.K (.ref C) cv=some b)(hq:∀tk,Q (.bool b) {s with toks:=tk}) :
 wA (model X.prog X.w) A (call (.builtin "isinstance") [.ref a,cv]) Q E s:=by
 obtain⟨oa,d,od,h1,h2,h3,h4,h5⟩:=hc;obtain⟨e1,_⟩:=I.hok a _ h1;obtain⟨e2,_⟩:=I.hok d _ h5;have J:PySem.W.InstAt s.heap a oa C (some od):=⟨e1,h2,h3,by rw[h4];exact e2⟩
 have hf:PySem.W.findObj X.K C (some od) "__class__"=some (.bind (.builtin "getset_descriptor.__get__") (.builtin "object.__class__")):=
  PySem.W.findObj_data (by obtain⟨cd,hc,_⟩:=PySem.W.any_some c.hd;rw[hc];rfl) c.cl c.sg c.tk
 exact waU (zhB c.ga c.gt c.bm c.om c.hd hf) I.kIn J e (λz=>nomatch z) hq
end
end EX
namespace EX
open PySem.Spec PySem.W
section
variable {prog:Pm}{w:World}{A:Ao}{E:Vl->Sd->Prop}{h:Heap}{g:Array GenState}{d:Drawn}{t:Nat}{os:OsState}
variable {nm q:Str}{C N:Addr}{bs bm bmB:List Vl}{hdct:Bool}{sn:List Str}{sub:List Vl}{ab:Bool}{col:Option Bool}{dd:Option Addr}{k0 k1 k2 k3 k5:Option Vl}{B newId wJ:String}
end
open L2
section
variable {X:Cx}{C N:Addr}{bm:List Vl}{cn:Str}{e:Expr}{te:TA}{E:XK}{np cp pos:Pos}{k:Nat}
end
def zj1 (H:Hp)(a C:Addr):Prop:=∃oa,H a=some (.frz oa X0)/\oa.cls=.ref C/\notCls oa=true/\oa.dict=none
section
variable {X:Cx}{pins:List (Addr×Obj)}{Y:L2.St}{H:Hp}{s:Sd}{A:Ao}{E:Vl->Sd->Prop}{C a:Addr}{oa:Obj}{Q:Vl->Sd->Prop}
def zia (I:Inv X pins Y H s)(c:XK1 X.K C)(hc:zj1 H a C){cv:Vl}{b:Bool}(e:kitOne X.K (.ref C) cv=some b)(hq:∀tk,Q (.bool b) {s with toks:=tk}):wA (model X.prog X.w) A (call (.builtin "isinstance") [.ref a,cv]) Q E s:=by
 obtain⟨oa,h1,h2,h3,h4⟩:=hc;obtain⟨e1,_⟩:=I.hok a _ h1;have J:InstAt s.heap a oa C none:=⟨e1,h2,h3,by rw[h4];trivial⟩
 have hf:findObj X.K C none "__class__"=some (.bind (.builtin "getset_descriptor.__get__") (.builtin "object.__class__")):=by obtain⟨cd,hcd,_⟩:=any_some c.hd;unfold findObj;rw[hcd,zOB,c.cl,zOB];simp[c.sg,c.tk]
 exact kia_one (zhB c.ga c.gt c.bm c.om c.hd hf) I.kIn J e (λz=>nomatch z) hq
end
end EX
namespace VD
open PySem.Spec L2 EX
def XAtD (K:Fg)(H:Hp)(J:Addr->Prop)(x:D)(cls:Vl)(dx:Option Addr):Prop:=
 ∃c ns ds C,x=.exc c ns ds/\W.nsIn K mG c=some (some (.ref C))/\cls=.ref C/\
  ((dx=none/\ns = []/\ds = [])\/∃d vs,dx=some d/\¬J d/\H d=some (.xd (ns.zip vs))/\ns.length=vs.length/\RpL K H J vs ds)
def WantsX (K:Fg)(H:Hp)(J:Addr->Prop)(x:D)(E:XK):Prop:=
 ∀H' J' cls dx,Up H J H' J'->XAtD K H' J' x cls dx->(∀d,dx=some d->H d=none)->E cls dx H'
def FitsX (K:Fg)(Hz:Hp)(Jz:Addr->Prop)(O:Pr)(x:D)(E:XK):Prop:=
 ∀Z' Y' H' J' cls dx,ST K Hz Jz O Z' Y' H' J'->XAtD K H' J' x cls dx->(∀d,dx=some d->Hz d=none)->E cls dx H'
section
variable {K:Fg}{H H' H1 Hz:Hp}{J J' J1 Jz:Addr->Prop}{O:Pr}{Z:En}{Y:L2.St}{x:D}{E:XK}
def ST.h0 (s:ST K Hz Jz O Z Y H J){b:Addr}(h:H b=none):Hz b=none:=by
 cases e:Hz b with
|none=>rfl
|some o=>exact absurd h (s.al b (by rw[e];simp))
def FitsX.wants (f:FitsX K Hz Jz O x E)(s:ST K Hz Jz O Z Y H J):WantsX K H J x E:=λH' J' cls dx u a n=>
 f Z Y H' J' cls dx (s.up u) a λd e=>s.h0 (n d e)
def WantsX.up (w:WantsX K H J x E)(u:Up H J H1 J1):WantsX K H1 J1 x E:=λH' J' cls dx u' a n=>
 w H' J' cls dx (u.trans u') a λd e=>u.same.free (n d e)
def ST.unset {i:Nat}(s:ST K Hz Jz O Z Y H J)(hp:∀n d,Z[i]?≠some (.par n d)):ST K Hz Jz O (Z.set i .un) (Y.set i none) H J where
 same:=s.same
 j0:=s.j0
 jn:=s.jn
 ja:=s.ja
 len:=by simp[s.len]
 vl:=λj e h=>by
  rcases zcQ h with⟨rfl,he⟩|⟨ne,h⟩
  .cases he
  .rw[wai (Ne.symm ne)];exact s.vl j e h
 ow:=by
  obtain⟨fp,w⟩:=s.ow;refine⟨_,w.put (i:=i) (A:=[]) Keep.refl (λ_ _ _ _ _ h=>h) (λj _=>w.nj j) (λj e=>wai (Ne.symm e)) (λj e=>wai (Ne.symm e)) ?_ wbb (by simp) (by simp)⟩;by_cases hi:i<Z.length
  .rw[wau hi];rfl
  .have z:(List.set Z i SV.un)[i]?=none:=waS (by simp;omega)
   rw[z];rfl
 ps:=λq hq=>by
  have e:=s.psNe hp q hq
  rw[wai (Ne.symm e),wai (Ne.symm e)];exact s.ps q hq
 al:=s.al
end
def GoQ (K:Fg)(t:TEX)(f:FE):Prop:=∀Hz Jz O Z Y H J x Q E,ST K Hz Jz O Z Y H J->f Z=some x->WantsX K H J x E->t Y H Q E
def VQ (X:Cx)(e:Expr)(f:FE):Prop:=∃t,PEX X e t/\GoQ X.K t f
def spX (K:Fg)(F:List D->Option D):Sp:=λvs H _ E=>∃J ds x,(∀a,J a->H a≠none)/\RpL K H J vs ds/\F ds=some x/\WantsX K H J x E
structure CalX (P:Pm)(w:World)(K:Fg)(mg:Str->Option Vl)(base:Heap)(k:Nat)(x:Str)(ps:List Str)(sp:Sp):Prop where
 ex:∃(f:Addr) (fd:Fu),FnOk P w K mg base (CXE P w) k f fd ps sp/\Binds K fd ps []/\W.keepIn K (.ref f)=true/\mg x=some (.ref f)
def zj2 {P:Pm}{w:World}{K:Fg}{mg:Str->Option Vl}{base:Heap}{k:Nat}{x:Str}{ps:List Str}{sp:Sp}{f:Addr}{fd:Fu}(h:FnOk P w K mg base (CXE P w) k f fd ps sp)(b:Binds K fd ps [])(c:W.keepIn K (.ref f)=true)(d:mg x=some (.ref f)) :
 CalX P w K mg base k x ps sp:=⟨f,fd,h,b,c,d⟩
section
variable {X:Cx}{k k':Nat}{x:Str}{ps:List Str}{F:List D->Option D}{e:Expr}{es:List Expr}{fl:FA}{f:FE}{p pos:Pos}
def zoj (C:CalX X.prog X.w X.K X.mg X.base k x ps (spX X.K F))(hr:Room k' X.A)(ha:VA X.nox (e::es) fl)(hk:k<=k':=by decide)(hg:Gl X x:=by rfl)(hdb:(x == ("__debug__":Str))=false:=by decide)
 (he:sE (e::es) X.env=(false,eval e X.env)::sE es X.env:=by rfl) (hpl:(backTo pos (sE es X.env)).any (·.1)=false:=by rfl):VQ X (.Call (.Name x p) (e::es) [] pos) (eCall F fl):=by
 obtain⟨f,fd,a,b,c,d⟩:=C.ex;obtain⟨t,p,g⟩:=ha;refine⟨_,zlN (a.mono hk) hr hg d c b .nil p hdb he hpl,?_⟩;intro Hz Jz O Z Y H J x Q E s e w;obtain⟨ds,e1,e⟩:=bS e;refine g Hz Jz O Z Y H J ds _ s e1 λvs H1 J1 u1 r1=>?_
 exact⟨J1,ds,x,u1.ja,by rw[waJ];exact r1,e,w.up u1⟩
def zj3 {t:TEX}{E:XK}(h:PEX X e t)(L:Leaves X E):PE X e (λY H Q=>t Y H Q E):=λpins s Y H Q I hw=>
 wav (h pins s Y H Q E I hw) (λ_ _ q=>q) λe s' ⟨H1,s1,I1,hc⟩=>L.passes pins Y H1 s1 e s' I1 hc
end
def FitsR (K:Fg)(Hz:Hp)(Jz:Addr->Prop)(O:Pr)(H:Hp)(J:Addr->Prop)(D:Ends)(E:XK):Out->Prop
|.nx Z'=>∀Y' H' J',ST K Hz Jz O Z' Y' H' J'->Keep K H J H' J'->D.nx Y' H'
|.bk Z'=>∀Y' H' J',ST K Hz Jz O Z' Y' H' J'->Keep K H J H' J'->D.bk Y' H'
|.ct Z'=>∀Y' H' J',ST K Hz Jz O Z' Y' H' J'->Keep K H J H' J'->D.ct Y' H'
|.ret (.told x) _=>FitsX K Hz Jz O x E
|.ret (.new _ _) _=>False
def FitsR.keep {K:Fg}{Hz:Hp}{Jz:Addr->Prop}{O:Pr}{H H1:Hp}{J J1:Addr->Prop}{D:Ends}{E:XK}(k:Keep K H J H1 J1):∀{o:Out},FitsR K Hz Jz O H J D E o->FitsR K Hz Jz O H1 J1 D E o
|.nx _,h=>λY' H' J' s q=>h Y' H' J' s (k.trans q)
|.bk _,h=>λY' H' J' s q=>h Y' H' J' s (k.trans q)
|.ct _,h=>λY' H' J' s q=>h Y' H' J' s (k.trans q)
|.ret (.told _) _,h=>h
|.ret (.new _ _) _,h=>h
def GoRz (K:Fg)(E:XK)(t:TS)(g:FS):Prop:=∀Hz Jz O Z Y H J o D,ST K Hz Jz O Z Y H J->g Z=some o->FitsR K Hz Jz O H J D E o->t D Y H
def VRS (X:Cx)(E:XK)(st:Stmt)(g:FS):Prop:=∃t,PS X st t/\GoRz X.K E t g
def VRs (X:Cx)(E:XK)(sts:List Stmt)(g:FS):Prop:=∃t,PSs X sts t/\GoRz X.K E t g
def zgP (g:FS):Prop:=∀Z r Z',g Z≠some (.ret r Z')
section
variable {X:Cx}{E:XK}{st:Stmt}{sts:List Stmt}{g g2:FS}{pos:Pos}{e a:Expr}{fa:FE}{fl:FA}{ft:FT}
def zqw {i:Nat}:zgP (gSet i fa):=λZ r Z' e=>by
 obtain⟨a,_,e⟩:=bS e;split at e <;> cases e
def zqx {i:Nat}:zgP (gOwn i fl):=λZ r Z' e=>by
 obtain⟨a,_,e⟩:=bS e;split at e <;> cases e
def zqy {i:Nat}:zgP (gApp i fa):=λZ r Z' e=>by
 obtain⟨a,_,e⟩:=bS e;split at e
 .split at e <;> cases e
 .cases e
def zr3:zgP (gEx fa):=λZ r Z' e=>by
 obtain⟨a,_,e⟩:=bS e;cases e
def zqz {fg:FG}:zgP (gAsg fa fg):=λZ r Z' e=>by
 obtain⟨a,_,e⟩:=bS e;obtain⟨b,_,e⟩:=bS e;cases e
def zib (h:VS X st g)(n:zgP g:=by first|exact zqw|exact zqx|exact zqy|exact zr3|exact zqz):VRS X E st g:=by
 obtain⟨t,p,q⟩:=h;refine⟨t,p,λHz Jz O Z Y H J o D s e w=>q Hz Jz O Z Y H J o D s e ?_⟩;cases o with
|ret r Z'=>exact absurd e (n Z r Z')
|_=>exact w
def zhD:VRS X E st gNo:=⟨_,zg7,λHz Jz O Z Y H J o D s e w=>by cases e⟩
def zds:VRs X E [] gNx:=⟨_,ziG,λHz Jz O Z Y H J o D s e w=>by cases e;exact w Y H J s Keep.refl⟩
def zj4 {K:Fg}{t u:TS}(h1:GoRz K E t g)(h2:GoRz K E u g2):GoRz K E (tSeq t u) (gSeq g g2):=by
 intro Hz Jz O Z Y H J o D s e w;obtain⟨o1,e1,e⟩:=bS e;refine h1 Hz Jz O Z Y H J o1 _ s e1 ?_;cases o1 with
|nx Z'=>exact λY' H' J' s' k=>h2 Hz Jz O Z' Y' H' J' o D s' e (w.keep k)
|bk Z'=>cases e;exact w
|ct Z'=>cases e;exact w
|ret d Z'=>cases e;cases d <;> exact w
def zbe (h1:VRS X E st g)(h2:VRs X E sts g2):VRs X E (st::sts) (gSeq g g2):=by
 obtain⟨t,p,q⟩:=h1;obtain⟨u,p2,q2⟩:=h2;exact⟨_,zeP p p2,zj4 q q2⟩
def zfc (h:VRS X E st g):VRs X E [st] g:=let ⟨t,p,q⟩:=h;⟨t,ziH p,q⟩
def zqA (h:VRS X E st g):VRs X E (st::sts) (gSeq g gNo):=by
 obtain⟨t,p,q⟩:=h;have nv:∀sts:List Stmt,PSs X sts ziI:=λsts _ _ _ _ _ _ h=>h.elim
 exact⟨_,zeP p (nv sts),zj4 q λHz Jz O Z Y H J o D s e w=>by cases e⟩
def zhE (is:List Nat)(h:VRs X E sts g):VRs X E sts (znV is g):=by
 obtain⟨t,p,q⟩:=h;exact⟨t,p,λHz Jz O Z Y H J o D s e w=>q Hz Jz O _ Y H J o D (s.dropE is) e w⟩
def zlP {c:Expr}{bs os:List Stmt}(hc:VT X c ft)(ha:VRs X E bs g)(hb:VRs X E os g2):VRS X E (.If c bs os pos) (gIf ft g g2):=by
 obtain⟨tc,pc,qc⟩:=hc;obtain⟨t,p,q⟩:=ha;obtain⟨u,p2,q2⟩:=hb;refine⟨_,zpf pc p p2,λHz Jz O Z Y H J o D s e w=>?_⟩;obtain⟨k,e1,e⟩:=bS e;refine qc Hz Jz O Z Y H J k _ s e1 λH1 J1 u1=>?_
 cases k with
|true=>exact iteT (q Hz Jz O Z Y H1 J1 o D (s.up u1) e (w.keep u1.keep))
|false=>exact iteF (q2 Hz Jz O Z Y H1 J1 o D (s.up u1) e (w.keep u1.keep))
def zqB {tg qb:Expr}{body:List Stmt}{is:List Nat}{fg:FG}{fi:FA}(hi:VI X tg qb fi)(hg:VG X tg is fg)(hb:VRs X E body g)(hp:PassesOwn (model X.prog X.w) X.A X.env X.xe:=by exact PassesOwn.leaving)(hc:X.calm=true:=by rfl)
 (hs:∀x,fSI qb X.env x=pure x:=by intro _;rfl):VRS X E (.For tg qb body [] pos) (gFor fi fg g):=by
 obtain⟨wi,p1,q1⟩:=hi;obtain⟨t,p2,q2⟩:=hg;obtain⟨tb,p3,q3⟩:=hb;refine⟨_,ziP hp hc p1 p2 p3 hs,?_⟩;intro Hz Jz O Z Y H J o D s e w;obtain⟨ds,e1,e⟩:=bS e;refine q1 Hz Jz O Z Y H J ds _ s e1 λI H1 J1 u1 src=>?_
 refine⟨λi m Y' H'=>m=ds.length - i/\i<=ds.length/\∃Z' J',ST X.K Hz Jz O Z' Y' H' J'/\Keep X.K H1 J1 H' J'/\forL fg g (ds.drop i) Z'=some o,⟨ds.length,by simp,wbx _,Z,J1,s.up u1,Keep.refl,by simpa using e⟩,?_⟩;rintro i m Y2 H2 ⟨rfl,hil,Z2,J2,s2,k2,e2⟩;obtain⟨stop,qC⟩:=src H2 J2 k2 s2.ja;by_cases hlt:i<ds.length
 .right
  have hd:ds[i]?=some ds[i]:=wac hlt
  generalize hdd:ds[i]=d at hd;obtain⟨go,yl⟩:=qC i d hd;have edrop:ds.drop i=d::ds.drop (i+1):=by rw[<-hdd];exact(wbg hlt).symm
  rw[edrop] at e2;unfold forL at e2;obtain⟨Z3,eg,e2⟩:=bS e2;obtain⟨ob,eb,e2⟩:=bS e2;refine⟨go,λY' H'=>∃Z' J',ST X.K Hz Jz O Z' Y' H' J'/\Keep X.K H1 J1 H' J'/\forL fg g (ds.drop (i+1)) Z'=some o,λY' H' h=>⟨ds.length - (i+1),by omega,rfl,hlt,h⟩,λx H3 y=>?_⟩;obtain⟨J3,u3,r3⟩:=yl x H3 y;refine q2.2 Hz Jz O Z2 Y2 H3 J3 x d Z3 _ (s2.up u3) r3 eg λY4 s4=>?_
  refine q3 Hz Jz O Z3 Y4 H3 J3 ob _ s4 eb ?_;have k3:=k2.trans u3.keep
  cases ob with
 |nx Z5=>exact λY5 H5 J5 s5 k5=>⟨Z5,J5,s5,k3.trans k5,e2⟩
 |ct Z5=>exact λY5 H5 J5 s5 k5=>⟨Z5,J5,s5,k3.trans k5,e2⟩
 |bk Z5=>cases e2;exact λY5 H5 J5 s5 k5=>w Y5 H5 J5 s5 ((u1.keep.trans k3).trans k5)
 |ret d Z5=>cases e2;cases d <;> exact w
 .left
  have hi':i=ds.length:=by omega
  subst hi';rw[wbE] at e2;cases e2;exact⟨stop,w Y2 H2 J2 s2 (u1.keep.trans k2)⟩
def zqC (h:VQ X e fa)(L:Leaves X E)(hs:sWw e none pos.line X.env=pure false:=by rfl):VRS X E (.Expr e pos) (gRet fa):=by
 obtain⟨t,p,q⟩:=h;refine⟨_,zdn (zj3 p L) hs,?_⟩;intro Hz Jz O Z Y H J o D s e w;obtain⟨x,e1,e⟩:=bS e;cases e;exact q Hz Jz O Z Y H J x _ E s e1 (FitsX.wants w s)
end
structure XCl (P:Pm)(w:World)(K:Fg)(mg:Str->Option Vl)(c nm:Str)(ok:D->Bool):Prop where
 sup:mg "super"=none
 ex:∃C N fI bm slf x J fd,XI P w K C N fI bm slf x nm J fd/\mg c=some (.ref C)/\W.nsIn K mG c=some (some (.ref C))/\W.keepIn K (.ref C)=true/\bm.contains (.type "BaseException")=true/\
  ∀(h:Heap) (u:Vl) (d:D),ok d=true->ndD d=true/\(Rh h u d->Says P w K fd fI x J u h)
def rz (c nm:Str)(ok:D->Bool)(d:D):Option D:=if ok d then some (.exc c [nm] [d]) else none
def eRz (c nm:Str)(ok:D->Bool)(f:FE):FE:=λZ=>(f Z).bind (rz c nm ok)
section
variable {X:Cx}{E:XK}{c nm:Str}{ok:D->Bool}{e:Expr}{fa:FE}{k:Nat}{np cp pos:Pos}
def zlQ (cl:XCl X.prog X.w X.K X.mg c nm ok)(hr:Room (k+1) X.A)(hL:Leaves X E)(ha:VE X e fa)(hg:Gl X c:=by rfl)
 (hdb:(c == ("__debug__":Str))=false:=by decide) (he:sE [e] X.env=(false,eval e X.env)::sE [] X.env:=by rfl):VRS X E (.Raise (some (.Call (.Name c np) [e] [] cp)) none pos) (gRet (eRz c nm ok fa)):=by
 obtain⟨C,N,fI,bm,slf,x,J,fd,xi,hm,hn,hk,hB,says⟩:=cl.ex;obtain⟨t,p,g⟩:=zad ha zai he;refine⟨_,zlK (SJ:=λv H=>∃J d,Rp X.K H J v d/\ok d=true) xi cl.sup hg hm hk hB hr hL p ?_ hdb he,?_⟩
 .rintro pins Y H s v u I r ⟨J,d,rv,hok⟩;exact(says s.heap u d hok).2 (Rp.rh I rv (says s.heap u d hok).1 r)
 intro Hz Jz O Z Y H J o D s e w;obtain⟨y,e1,e⟩:=bS e;cases e;obtain⟨d,e0,e2⟩:=bS e1;unfold rz at e2;by_cases hok:ok d=true
 .rw[if_pos hok] at e2;cases e2;have e3:aCons fa aNil Z=some [d]:=by unfold aCons;rw[e0];rfl
  refine g Hz Jz O Z Y H J [d] _ s e3 λvs H1 J1 u1 r1=>?_
  obtain⟨v,rfl,rv⟩:=r1.one;refine⟨v,rfl,⟨J1,d,rv,hok⟩,λdx hdx=>?_⟩;have un:=Up.new u1.ja hdx (.xd [(nm,v)])
  have s1:=s.up u1
  exact w Z Y _ J1 _ _ (s1.up un) ⟨c,[nm],[d],C,rfl,hn,rfl,.inr ⟨dx,[v],rfl,λj=>u1.ja dx j hdx,zae,rfl,.cons (rv.keep un.keep) .nil⟩⟩ λb z=>by cases z;exact s1.h0 hdx
 .rw[if_neg hok] at e2;cases e2
end
def kX:Out->Option D
|.ret (.told d) _=>some d
|_=>none
def zqD {P:Pm}{w:World}{K:Fg}{mg:Str->Option Vl}{base:Heap}{x qual:Str}{st:Stmt}{f:Addr}{fd:Fu}{N ps:List Str}{k:Nat}{c:List D->Option D}(F:Fun K x qual st f fd)(S:FnScope N ps (zab st))(qe:∀ds d,c ds=some d->ds.length=ps.length)
 (qK:∀(cdv:Vl) (A:Ao) (outer:List Env) (s:Sd) (H:Hp) (E:XK),Room k (A.deeper (envOfC qual (zab st) s.heap.objs.size f cdv))->Leaves (cxOf (CXE P w) P w K mg base N qual (zab st) f cdv A outer s H E) E->
  ∃g,VRs (cxOf (CXE P w) P w K mg base N qual (zab st) f cdv A outer s H E) E (zaI st) g/\∀ds,ds.length=ps.length->EvS kX some g (ds.map SV.val++rpl (N.length - ps.length) .un) (c ds)):FnOk P w K mg base (CXE P w) (k+1) f fd ps (spX K c):=by
 obtain⟨oc,od,kV,doc,pm,an,cdv,ct,osl,rfl,lk,hcd⟩:=F.ex;refine zkR lk hcd S (λvs H Q E h=>?_) λA outer s H vs Q E hr h=>?_
 .obtain⟨J,ds,d,ja,r,e,w⟩:=h;rw[r.length];exact qe ds d e
 .obtain⟨J,ds,d,ja,r,e,w⟩:=h;have hl:=qe ds d e
  obtain⟨g,⟨t,p,q⟩,ev⟩:=qK cdv A outer s H E hr zfU;refine⟨t,p,?_⟩;have e:=ev ds hl d (by rw[e];rfl)
  rw[<-hl] at e;have s0:=zdK (N:=N) ja r
  cases z:g (ds.map SV.val++rpl (N.length - ds.length) .un) with
 |none=>rw[z] at e;cases e
 |some o=>
    rw[z] at e;refine q H J Pr.no _ _ H J o _ s0 z ?_;cases o with
   |ret r Z'=>
      cases r with
     |told d'=>cases e;exact λZ' Y' H' J' cls dx s' x' n'=>w H' J' cls dx s'.out x' n'
     |new n d'=>cases e
   |_=>cases e
section
variable {X:Cx}{body ss:List Stmt}{e:Expr}{pos:Pos}{f fx:FE}{ft:FT}
def zqE {t:TS}(h:PSs X.nox ss t):PSX X ss (λD _ Y H=>t D Y H):=λpins s Y H D E I hw=>
 wav (h pins s Y H D (zhx I) hw) (λfl s' q=>by
  cases fl with
 |next=>obtain⟨Y',H',J,q⟩:=q;exact⟨Y',H',zdD J,q⟩
 |brk=>obtain⟨Y',H',J,q⟩:=q;exact⟨Y',H',zdD J,q⟩
 |cont=>obtain⟨Y',H',J,q⟩:=q;exact⟨Y',H',zdD J,q⟩
 |ret u=>obtain⟨v,Y',H',J,r,q⟩:=q;exact⟨v,Y',H',zdD J,r,q⟩) λ_ _ z=>z.elim
def VXB (X:Cx)(ss:List Stmt)(gx:FE):Prop:=∃t,PSX X ss t/\∀Hz Jz O Z Y H J x D E,ST X.K Hz Jz O Z Y H J->gx Z=some x->WantsX X.K H J x E->t D E Y H
def zok (i:Nat){x:Str}{pos':Pos}(hN:X.N.Nodup)(h:VQ X e f)(hi:X.N[i]?=some x:=by rfl)(hx:Loc X.env.scope x:=by first|exact Or.inl rfl|exact Or.inr rfl)(hs:sWw e (some (.Name x pos')) pos.line X.env=pure false:=by rfl)
 (hf:X.fn x=true\/X.env.scope.names.lookup x=some .local:=by first|exact .inl rfl|exact .inr rfl|assumption):VXB X [.Assign [.Name x pos'] e pos] f:=by
 obtain⟨t,p,q⟩:=h;exact⟨_,zog hN hi hx p hs hf,λHz Jz O Z Y H J x D E s e w=>q Hz Jz O Z Y H J x _ E s e w⟩
def zcT (cs:List Str):D->Bool
|.exc c _ _=>cs.contains c
|_=>false
structure XTy (K:Fg)(mg:Str->Option Vl)(T:Str)(cs:List Str):Prop where
 ex:∃CT,mg T=some (.ref CT)/\PySem.W.mroIn K CT (.type "BaseException")=some true/\PySem.W.typeIn K (.ref CT)=some (.type "type")/\∀c C,c∈cs->W.nsIn K mG c=some (some (.ref C))->PySem.W.mroIn K C (.ref CT)=some true
def unO (i:Nat):Out->Option Out
|.nx Z=>if isPar (Z[i]?)=false then some (.nx (Z.set i .un)) else none
|.bk Z=>if isPar (Z[i]?)=false then some (.bk (Z.set i .un)) else none
|.ct Z=>if isPar (Z[i]?)=false then some (.ct (Z.set i .un)) else none
|.ret r Z=>some (.ret r Z)
def gTry (cs:List Str)(i:Nat)(gx:FE)(gb gh:FS):FS:=λZ=>match gx Z with
|some x=>if zcT cs x&&okS i Z then(gh (Z.set i (.val x))).bind (unO i) else none
|none=>gb Z
def zol {K:Fg}{H H' H2:Hp}{J J':Addr->Prop}{x:D}{cls:Vl}{dx:Option Addr}{a:Addr}{oa:Obj}(ja:∀a,J a->H a≠none)(u:Up H J H' J')(at':XAtD K H' J' x cls dx)(fr:∀d,dx=some d->H d=none)(ha:H' a=none)(hc:oa.cls=cls)(hd:oa.dict=dx)(hn:PySem.W.notCls oa=true)(h:Held H' a oa H2) :
 ∃J2,Up H J H2 J2/\Rp K H2 J2 (.ref a) x:=by
 obtain⟨c,ns,ds,C,rfl,hns,rfl,hx⟩:=at';rcases hx with⟨rfl,rfl,rfl⟩|⟨d,vs,rfl,njd,hxd,hl,rl⟩
 .rcases h with⟨hd',rfl⟩|⟨d,od,fs,hd',_,_⟩
  .refine⟨λb=>J' b\/b=a,⟨u.same.trans (zeY ha _),λb h=>.inl (u.jj b h),λb h=>?_,λb h=>?_⟩,.exc ⟨.inr rfl,oa,C,hns,zae,hc,hn,.inl ⟨rfl,rfl,hd⟩⟩ .nil⟩
   .rcases h with h|rfl
    .exact u.jn b h
    .exact .inr (u.same.free ha)
   .by_cases z:b=a
    .subst z;rw[zae];simp
    .rw[zaf z];rcases h with h|h
     .exact u.ja b h
     .exact absurd h z
  .rw[hd] at hd';cases hd'
 .rcases h with⟨hd',_⟩|⟨d',od,fs,hd',hf,rfl⟩
  .rw[hd] at hd';cases hd'
  .obtain rfl:d=d':=was (hd.symm.trans hd');rw[hxd] at hf;cases hf;have hda:d≠a:=by rintro rfl;rw[hxd] at ha;cases ha
   have hHd:=fr d rfl
   have hne:∀b o,b≠a->b≠d->H' b=o->(upd (upd H' a (.frz oa X0)) d (.frz od (.xd (ns.zip vs)))) b=o:=λb o h1 h2 h3=>by rw[zaf h2,zaf h1];exact h3
   have kp:Keep K H' J' (upd (upd H' a (.frz oa X0)) d (.frz od (.xd (ns.zip vs)))) (λb=>J' b\/b=a\/b=d):=⟨λ_ h=>.inl h,λp o j h=>hne p _ (λz=>by subst z;rw[ha] at h;cases h) (λz=>by subst z;exact njd j) h,λp us h=>by
    have sm:∀o,H' p=some o->(∀fs,o≠.xd fs)->(upd (upd H' a (.frz oa X0)) d (.frz od (.xd (ns.zip vs)))) p=some o:=λo h hx=>hne p _ (λz=>by subst z;rw[ha] at h;cases h) (λz=>by subst z;rw[hxd] at h;cases h;exact hx _ rfl) h
    rcases h with(h|⟨o,h⟩)|h
    .exact .inl (.inl (sm _ h λ_ z=>by cases z))
    .exact .inl (.inr ⟨o,sm _ h λ_ z=>by cases z⟩)
    .exact .inr h⟩
   refine⟨λb=>J' b\/b=a\/b=d,⟨λb o e=>?_,λb h=>.inl (u.jj b h),λb h=>?_,λb h=>?_⟩,.exc ⟨.inr (.inl rfl),oa,C,hns,by rw[zaf hda.symm,zae];rfl,hc,hn,.inr ⟨d,od,hd,.inr (.inr rfl),zae,hl⟩⟩ (rl.keep kp)⟩
   .exact hne b _ (λz=>by subst z;rw[u.same.free ha] at e;cases e) (λz=>by subst z;rw[hHd] at e;cases e) (u.same b o e)
   .rcases h with h|rfl|rfl
    .exact u.jn b h
    .exact .inr (u.same.free ha)
    .exact .inr hHd
   .by_cases z2:b=d
    .subst z2;rw[zae];simp
    .rw[zaf z2];by_cases z:b=a
     .subst z;rw[zae];simp
     .rw[zaf z];rcases h with h|h|h
      .exact u.ja b h
      .exact absurd h z
      .exact absurd h z2
def zqF {T n:Str}{tp hp:Pos}{wR:List Stmt}{b₀:Stmt}{cs:List Str}{gx:FE}{gb gh:FS}(i:Nat)(ty:XTy X.K X.mg T cs)(hN:X.N.Nodup)(hx:VXB X body gx)(hb:VSs X.nox body gb)(hh:∀e,VSs (inH X e) (b₀::wR) gh)
 (hg:Gl X T:=by rfl) (hi:X.N[i]?=some n:=by rfl) (hk:X.env.kindOf n=some .local:=by rfl) (hst:X.stack=X.env::X.outer:=by rfl) (hf:X.env.frame=some X.env.locals:=by rfl) (hdb:(T == ("__debug__":Str))=false:=by decide) :
 VS X (.Try body [.ExceptHandler (some (.Name T tp)) (some n) (b₀::wR) hp] [] [] pos) (gTry cs i gx gb gh):=by
 obtain⟨CT,hm,hB,hT,hC⟩:=ty.ex;obtain⟨t1,p1,q1⟩:=hx;obtain⟨t2,p2,q2⟩:=hb;have pb:PSX X body (λD E Y H=>t1 D E Y H\/t2 D Y H):=λpins s Y H D E I h=>h.elim (p1 pins s Y H D E I) (zqE p2 pins s Y H D E I)
 have ph:∀e,PSs (inH X e) (b₀::wR) (λD Y H=>∀e,(hh e).choose D Y H):=λe pins s Y H D I h=>(hh e).choose_spec.1 pins s Y H D I (h e)
 refine⟨_,zqs hst hf hg hm hN hi hk hB hT pb ph hdb,?_⟩;intro Hz Jz O Z Y H J o D s e w;unfold gTry at e;split at e
 .rename_i x e1
  by_cases hq:(zcT cs x&&okS i Z)=true
  .rw[if_pos hq] at e;rw[waF] at hq;obtain⟨o1,e2,e⟩:=bS e;have hok:=zdC hq.2
   refine .inl (q1 Hz Jz O Z Y H J x D _ s e1 λH' J' cls dx u at' fr=>?_);have at0:=at'
   obtain⟨c,ns,ds,C,hxx,hns,hcl,hx⟩:=at';have hcc:c∈cs:=by
    have:=hq.1
    rw[hxx] at this;exact List.contains_iff_mem.mp this
   refine⟨⟨C,hcl,hC c C hcc hns⟩,λd hd=>?_,λa oa H2 ha hc' hd' hn' hh'=>?_⟩
   .rcases hx with⟨z,_,_⟩|⟨d',vs,z,_,hxd,_,_⟩
    .rw[hd] at z;cases z
    .rw[hd] at z;cases z;exact⟨_,hxd⟩
   .obtain⟨J2,u2,r2⟩:=zol s.ja u at0 fr ha hc' hd' hn' hh';have s2:=(s.up u2).set r2 hok.1 (zbd hok.2)
    intro ev;refine(hh ev).choose_spec.2 Hz Jz O _ _ H2 J2 o1 (unset i D) s2 e2 ?_;cases o1 with
   |nx Z'=>
      unfold unO at e;by_cases hp:isPar (Z'[i]?)=false
      .simp only[if_pos hp] at e;cases e;exact λY' H' J' s' k'=>w _ H' J' (s'.unset (zbd hp)) (u2.keep.trans k')
      .simp only[if_neg hp] at e;cases e
   |bk Z'=>
      unfold unO at e;by_cases hp:isPar (Z'[i]?)=false
      .simp only[if_pos hp] at e;cases e;exact λY' H' J' s' k'=>w _ H' J' (s'.unset (zbd hp)) (u2.keep.trans k')
      .simp only[if_neg hp] at e;cases e
   |ct Z'=>
      unfold unO at e;by_cases hp:isPar (Z'[i]?)=false
      .simp only[if_pos hp] at e;cases e;exact λY' H' J' s' k'=>w _ H' J' (s'.unset (zbd hp)) (u2.keep.trans k')
      .simp only[if_neg hp] at e;cases e
   |ret r Z'=>cases e;exact w
  .rw[if_neg hq] at e;cases e
 .exact .inr (q2 Hz Jz O Z Y H J o D s e w)
end
def kU (i:Nat):Out->Option En
|.nx Z=>if isPar (Z[i]?)=false then some (Z.set i .un) else none
|_=>none
def zqG {S:Type}{cs:List Str}{i:Nat}{gx:FE}{gb gh:FS}{Z:En}{emb:S->En}{h:D->Option S}{b:Option S}(hi:okS i Z=true)(hh:∀x,EvS (kU i) (λs=>some (emb s)) gh (Z.set i (.val x)) (h x))(hb:gx Z=none->EvS k0 (λs=>some (emb s)) gb Z b) :
 Step (gTry cs i gx gb gh) Z (match gx Z with|some x=>if zcT cs x then h x else none|none=>b) emb:=λs z=>by
 unfold gTry;cases e:gx Z with
|some x=>
   rw[e] at z;dsimp only at z⊢;by_cases hc:zcT cs x=true
   .rw[if_pos hc] at z;rw[if_pos (by rw[hc,hi];rfl)];obtain⟨o,e1,e2⟩:=zaa (hh x (emb s) (by rw[z];rfl));rw[e1,zOB];cases o with
   |nx Z'=>
      unfold kU at e2;unfold unO;by_cases hp:isPar (Z'[i]?)=false
      .simp only[if_pos hp] at e2⊢;rw[was e2]
      .simp only[if_neg hp] at e2;cases e2
   |_=>cases e2
   .rw[if_neg hc] at z;cases z
|none=>
   rw[e] at z;obtain⟨o,e1,e2⟩:=zaa (hb e (emb s) (by rw[show b=some s from z];rfl));show gb Z=_
   rw[e1];cases o <;> cases e2
   rfl
def Exh.caught {K:Fg}{H:Hp}{J:Addr->Prop}{a:Addr}{c:Str}{ns:List Str}{vs:List V}(h:Exh K H J a c ns vs)(hn:ns≠[]):∃C,W.nsIn K mG c=some (some (.ref C))/\zhC H a C (ns.zip vs):=by
 obtain⟨j,oa,C,h1,h2,h3,h4,h5⟩:=h;rcases h5 with⟨z,_,_⟩|⟨d,od,h6,h7,h8,h9⟩
 .exact absurd z hn
 .exact⟨C,h1,oa,d,od,h2,h3,h4,h6,h8⟩
def zj5 (H:Hp)(a C:Addr):Prop:=(∃fs,zhC H a C fs)\/zj1 H a C
def Exh.caughtA {K:Fg}{H:Hp}{J:Addr->Prop}{a:Addr}{c:Str}{ns:List Str}{vs:List V}(h:Exh K H J a c ns vs):∃C,W.nsIn K mG c=some (some (.ref C))/\zj5 H a C:=by
 obtain⟨j,oa,C,h1,h2,h3,h4,h5⟩:=h;rcases h5 with⟨_,_,z⟩|⟨d,od,h6,h7,h8,h9⟩
 .exact⟨C,h1,.inr ⟨oa,h2,h3,h4,z⟩⟩
 .exact⟨C,h1,.inl ⟨_,oa,d,od,h2,h3,h4,h6,h8⟩⟩
def isX (tab:List (Str×Bool)):D->Option D
|.exc c _ _=>(tab.lookup c).map .bl
|_=>none
structure XInst (K:Fg)(cv:Vl)(tab:List (Str×Bool)):Prop where
 ok:∀c b,tab.lookup c=some b->∀C,W.nsIn K mG c=some (some (.ref C))->XK1 K C/\PySem.W.kitOne K (.ref C) cv=some b
def rIsX (K:Fg):List V->Hp->VK->Prop:=λxs H Q=>∃a c C cv b,xs = [.ref a,c]/\(∀u,RelV c u->u=cv)/\zj5 H a C/\XK1 K C/\PySem.W.kitOne K (.ref C) cv=some b/\Q (.bl b) H
def zhF {X:Cx}:zci X (.builtin "isinstance") (rIsX X.K):=by
 rintro pins s Y H xs us Q I r ⟨a,c,C,cv,b,rfl,hc,hca,k1,e,q⟩;obtain⟨u,w',rfl,r1,r2⟩:=zkP r;obtain rfl:u=Value.ref a:=r1;obtain rfl:=hc _ r2;rcases hca with⟨fs,hca⟩|hca
 .exact zj0 I k1 hca e λtk=>⟨.bl b,H,I.tok _,rfl,q⟩
 .exact zia I k1 hca e λtk=>⟨.bl b,H,I.tok _,rfl,q⟩
section
variable {X:Cx}{a e:Expr}{fa:FE}{p q pos:Pos}{T:Str}{cv:V}{u:Vl}{tab:List (Str×Bool)}
def zmL {t:TE}(IN:XInst X.K u tab)(hu:∀u',RelV cv u'->u'=u)(g:GoE X.K t fa):GoE X.K (tCB (rIsX X.K) (zkQ t (zkQ (tC cv) tNil))) (λZ=>(fa Z).bind (isX tab)):=by
 intro Hz Jz O Z Y H J d Q s e w;obtain⟨x,e1,e⟩:=bS e;unfold isX at e;split at e
 .rename_i c ns ds
  obtain⟨b,e2,e3⟩:=waX.mp e;cases e3;refine g Hz Jz O Z Y H J _ _ s e1 λv H1 J1 u1 r1=>?_
  show rIsX X.K [v,cv] H1 Q
  cases r1 with
 |exc h rl=>
    obtain⟨C,hC,ca⟩:=h.caughtA;obtain⟨k1,k2⟩:=IN.ok c b e2 C hC;exact⟨_,cv,C,u,b,rfl,hu,ca,k1,k2,w _ H1 J1 u1 (.bl b)⟩
 .cases e
def zeK {CT:Addr}(IN:XInst X.K (.ref CT) tab)(hm:X.mg T=some (.ref CT))(B:Blt X.mg)(ha:VE X a fa)(hgT:Gl X T:=by rfl)(hdT:(T == ("__debug__":Str))=false:=by decide)(hg:Gl X "isinstance":=by rfl)
 (h1:sE [a,.Name T q] X.env=(false,eval a X.env)::sE [.Name T q] X.env:=by rfl) (h2:sE [.Name T q] X.env=(false,eval (.Name T q) X.env)::sE [] X.env:=by rfl)
 (hpl:(backTo pos (sE [.Name T q] X.env)).any (·.1)=false:=by rfl):VE X (.Call (.Name "isinstance" p) [a,.Name T q] [] pos) (λZ=>(fa Z).bind (isX tab)):=by
 obtain⟨t,pa,g⟩:=ha;exact⟨_,pb zhF B boot_isinstance (za2 pa (za2 (ziE (v:=.ref CT) hgT hm rfl hdT) zcL h2) h1) (by decide +kernel) hg (by decide) (by decide) h1 hpl,zmL IN (λu' r=>r) g⟩
def zqH {Tt:String}(IN:XInst X.K (.type Tt) tab)(hm:X.mg T=none)(hv:bBs T=some (.type Tt))(B:Blt X.mg)(ha:VE X a fa)(hgT:Gl X T:=by rfl)(hnT:T≠"__name__":=by decide)(hdT:(T == ("__debug__":Str))=false:=by decide)(hg:Gl X "isinstance":=by rfl)
 (h1:sE [a,.Name T q] X.env=(false,eval a X.env)::sE [.Name T q] X.env:=by rfl) (h2:sE [.Name T q] X.env=(false,eval (.Name T q) X.env)::sE [] X.env:=by rfl)
 (hpl:(backTo pos (sE [.Name T q] X.env)).any (·.1)=false:=by rfl):VE X (.Call (.Name "isinstance" p) [a,.Name T q] [] pos) (λZ=>(fa Z).bind (isX tab)):=by
 obtain⟨t,pa,g⟩:=ha;exact⟨_,pb zhF B boot_isinstance (za2 pa (za2 (ziF (v:=.ty Tt) hgT hm hv rfl hnT hdT) zcL h2) h1) (by decide +kernel) hg (by decide) (by decide) h1 hpl,zmL IN (λu' r=>r) g⟩
structure XFld (K:Fg)(f:Str)(cs:List Str):Prop where
 ok:∀c,c∈cs->∀C,W.nsIn K mG c=some (some (.ref C))->XG K C f
def zom (f:Str)(cs:List Str)(d:D):Option D:=match d with
|.exc c (n::ns) ds=>if cs.contains c then((n::ns).zip ds).lookup f else none
|_=>none
theorem RpL.look {K:Fg}{H:Hp}{J:Addr->Prop}{f:Str}:∀{ns:List Str}{vs:List V}{ds:List D}{d:D},RpL K H J vs ds->(ns.zip ds).lookup f=some d->∃v,(ns.zip vs).lookup f=some v/\Rp K H J v d
|[],_,_,_,_,e=>by simp at e
|n::ns,_,_,_,.nil,e=>by simp at e
|n::ns,v::vs,d'::ds,d,.cons h t,e=>by
   rw[List.zip_cons_cons,wba] at e⊢;by_cases hf:(f == n)=true
   .rw[hf] at e⊢;cases e;exact⟨v,rfl,h⟩
   .have hf:(f == n)=false:=by simpa using hf
    rw[hf] at e⊢;exact RpL.look t e
def zon {f:Str}{cs:List Str}(XF:XFld X.K f cs)(ha:VE X a fa)(hb:attributeBase a f X.env (eval a X.env)=eval a X.env:=by rfl):VE X (.Attribute a f pos) (λZ=>(fa Z).bind (zom f cs)):=by
 obtain⟨t,pa,g⟩:=ha;refine⟨_,zoi pa hb,?_⟩;intro Hz Jz O Z Y H J d Q s e w;obtain⟨x,e1,e⟩:=bS e;unfold zom at e;split at e
 .rename_i c n ns ds
  split at e
  .rename_i hc
   refine g Hz Jz O Z Y H J _ _ s e1 λv H1 J1 u1 r1=>?_
   cases r1 with
  |exc h rl=>
     obtain⟨C,hC,ca⟩:=h.caught (by simp);obtain⟨v,hv,rv⟩:=rl.look e;exact⟨_,C,_,v,rfl,ca,XF.ok c (List.contains_iff_mem.mp hc) C hC,hv,w v H1 J1 u1 rv⟩
  .cases e
 .cases e
end
def okTx (y:Str):Bool:=decide (y.length<=1000)&&y.cps.toList.all λc=>decide (c<16 ^ 8)
def zic:D->Bool
|.str y=>okTx y
|_=>false
def zlR {y:Str}(h:okTx y=true):(reprText y).length<=10002:=by
 unfold okTx at h;rw[waF] at h;have h1:=wbS h.1
 have h2:=StrLaws.reprText_len y λc hc=>wbS (waB.mp h.2 c hc)
 omega
section
variable {X:Cx}{E:XK}{fa:FE}{pos:Pos}
def zr4 {R A:Type}{k:Out->Option R}{B:A->Option R}{g:FS}{Z:En}{a:Option A}(h:EvS (kx k) B g Z a):EvS k B (gSeq g gNo) Z a:=λr e=>zmE (h r e)
end
def zee:bBs "ValueError"=some (.type "ValueError"):=by decide +kernel
section
variable {K:Fg}{mg:Str->Option Vl}{c T f:Str}{C CT:Addr}{cv:Vl}{b:Bool}{tab:List (Str×Bool)}{Cs:List Addr}{cs:List Str}
def zj6:XInst K cv []:=⟨λc b e=>by cases e⟩
def zid (hn:W.nsIn K mG c=some (some (.ref C)))(k:XK1 K C)(e:PySem.W.kitOne K (.ref C) cv=some b)(t:XInst K cv tab):XInst K cv ((c,b)::tab):=⟨λx y h C' hC=>by
 rw[wba] at h;by_cases z:(x == c)=true
 .rw[z] at h;obtain rfl:x=c:=by simpa using z
  rw[hn] at hC;cases hC;cases h;exact⟨k,e⟩
 .have z:(x == c)=false:=by simpa using z
  rw[z] at h;exact t.ok x y h C' hC⟩
def zlS:XFld K f []:=⟨λc h=>by cases h⟩
def zj7 (hn:W.nsIn K mG c=some (some (.ref C)))(g:XG K C f)(t:XFld K f cs):XFld K f (c::cs):=⟨λx h C' hC=>by
 by_cases z:x=c
 .subst z;rw[hn] at hC;cases hC;exact g
 .exact t.ok x ((wap.mp h).resolve_left z) C' hC⟩
def zoo (hm:mg T=some (.ref CT))(hB:PySem.W.mroIn K CT (.type "BaseException")=some true)(hT:PySem.W.typeIn K (.ref CT)=some (.type "type")):XTy K mg T []:=⟨CT,hm,hB,hT,λc C h=>by cases h⟩
def zlT (hm:mg T=some (.ref CT))(hn:W.nsIn K mG c=some (some (.ref C)))(e:PySem.W.mroIn K C (.ref CT)=some true)(t:XTy K mg T cs):XTy K mg T (c::cs):=by
 obtain⟨CT',h1,h2,h3,h4⟩:=t.ex;rw[hm] at h1;cases h1;refine⟨_,hm,h2,h3,λx C' h hC=>?_⟩;by_cases z:x=c
 .subst z;rw[hn] at hC;cases hC;exact e
 .exact h4 x C' ((wap.mp h).resolve_left z) hC
end
abbrev TXA:=L2.St->Hp->XK->Prop
def PAX (X:Cx)(es:List Expr)(t:TXA):Prop:=∀(pos:Pos) (pins:List (Addr×Obj)) (s:Sd) (Y:L2.St) (H:Hp) (E:XK),Inv X pins Y H s->t Y H E->wA (model X.prog X.w) X.A (spliced (backTo pos (sE es X.env))) (λ_ _=>False) (XP X pins Y E) s
def GoQA (K:Fg)(t:TXA)(f:FE):Prop:=∀Hz Jz O Z Y H J x E,ST K Hz Jz O Z Y H J->f Z=some x->WantsX K H J x E->t Y H E
def VQA (X:Cx)(es:List Expr)(f:FE):Prop:=∃t,PAX X es t/\GoQA X.K t f
section
variable {X:Cx}{e a b c:Expr}{es:List Expr}{f fx:FE}{fa:FE}{ft:FT}{pos:Pos}
def PEX.no {t:TEX}(h:PEX X e t){pins:List (Addr×Obj)}{s:Sd}{Y:L2.St}{H:Hp}{E:XK}(I:Inv X pins Y H s)(q:t Y H (λ_ _=>False) E):wA (model X.prog X.w) X.A (eval e X.env) (λ_ _=>False) (XP X pins Y E) s:=
 wav (h pins s Y H _ E I q) (λ_ _ ⟨_,_,_,_,q⟩=>q) λ_ _ z=>z
def zqI (h:VQ X e f)(hs:sE (e::es) X.env=(false,eval e X.env)::sE es X.env:=by rfl):VQA X (e::es) f:=by
 obtain⟨t,p,q⟩:=h;refine⟨λY H E=>t Y H (λ_ _=>False) E,λpos pins s Y H E I h=>?_,λHz Jz O Z Y H J x E s e w=>q Hz Jz O Z Y H J x _ E s e w⟩;rw[hs];exact wbG (wav (PEX.no p I h) (λ_ _ z=>z.elim) λ_ _ z=>z)
def zqJ (ha:VE X.nox e fa)(h:VQA X es f)(hs:sE (e::es) X.env=(false,eval e X.env)::sE es X.env:=by rfl):VQA X (e::es) (λZ=>(fa Z).bind λ_=>f Z):=by
 obtain⟨t1,p1,q1⟩:=ha;obtain⟨t,p,q⟩:=h;refine⟨λY H E=>t1 Y H λ_ H1=>t Y H1 E,λpos pins s Y H E I h=>?_,λHz Jz O Z Y H J x E s e w=>?_⟩
 .rw[hs];refine wbG (wav (p1 pins s Y H _ (zhx I) h) (λu s1 ⟨v,H1,I1,r1,q1⟩=>?_) λ_ _ z=>z.elim);exact wav (p pos pins s1 Y H1 E (zdD I1) q1) (λ_ _ z=>z.elim) λ_ _ z=>z
 .obtain⟨d,e1,e⟩:=bS e;exact q1 Hz Jz O Z Y H J d _ s e1 λv H1 J1 u1 r1=>q Hz Jz O Z Y H1 J1 x E (s.up u1) e (w.up u1)
def zqK {x1}(h:VQA X es f):VQ X (.Tuple es x1 pos) f:=by
 obtain⟨t,p,q⟩:=h;exact⟨λY H _ E=>t Y H E,λpins s Y H Q E I h=>wpAny_Tuple_spliced (wav (p pos pins s Y H E I h) (λ_ _ z=>z.elim) λ_ _ z=>z),λHz Jz O Z Y H J x Q E s e w=>q Hz Jz O Z Y H J x E s e w⟩
end
section
variable {X:Cx}{k k':Nat}{x:Str}{p:Pos}{es fs:List Expr}{e ie:Expr}{fl:FA}{fi:FE}{g:List D->Option D}{gs:List (List D->Option D)}{pos lp sp:Pos}
end
section
variable {prog:Pm}{w:World}{K:Fg}{fd:Fu}{fI:Addr}{x p:Str}{cp np fp jp:Pos}{k:Nat}
end
def zop {P:Pm}{w:World}{K:Fg}{mg:Str->Option Vl}{base:Heap}{x qual:Str}{st:Stmt}{f:Addr}{fd:Fu}{N ps:List Str}{k:Nat}{c:List D->Option D}{Pc:Hp->Prop}(pe:Pers Pc)(F:Fun K x qual st f fd)(S:FnScope N ps (zab st))(qe:∀ds d,c ds=some d->ds.length=ps.length)
 (qK:∀(cdv:Vl) (A:Ao) (outer:List Env) (s:Sd) (H:Hp) (E:XK),Room k (A.deeper (envOfC qual (zab st) s.heap.objs.size f cdv))->Leaves (cxOf (CXE P w) P w K mg base N qual (zab st) f cdv A outer s H E) E->Prs (cxOf (CXE P w) P w K mg base N qual (zab st) f cdv A outer s H E) Pc->
  ∃g,VRs (cxOf (CXE P w) P w K mg base N qual (zab st) f cdv A outer s H E) E (zaI st) g/\∀ds,ds.length=ps.length->EvS kX some g (ds.map SV.val++rpl (N.length - ps.length) .un) (c ds)):FnOk P w K mg base (CXE P w) (k+1) f fd ps (pcS Pc (spX K c)):=by
 obtain⟨oc,od,kV,doc,pm,an,cdv,ct,osl,rfl,lk,hcd⟩:=F.ex;refine zkR lk hcd S (λvs H Q E h=>?_) λA outer s H vs Q E hr h=>?_
 .obtain⟨_,J,ds,d,ja,r,e,w⟩:=h;rw[r.length];exact qe ds d e
 .obtain⟨hPc,J,ds,d,ja,r,e,w⟩:=h;have hl:=qe ds d e
  obtain⟨g,⟨t,p,q⟩,ev⟩:=qK cdv A outer s H E hr zfU (Prs.of pe hPc);refine⟨t,p,?_⟩;have e:=ev ds hl d (by rw[e];rfl)
  rw[<-hl] at e;have s0:=zdK (N:=N) ja r
  cases z:g (ds.map SV.val++rpl (N.length - ds.length) .un) with
 |none=>rw[z] at e;cases e
 |some o=>
    rw[z] at e;refine q H J Pr.no _ _ H J o _ s0 z ?_;cases o with
   |ret r Z'=>
      cases r with
     |told d'=>cases e;exact λZ' Y' H' J' cls dx s' x' n'=>w H' J' cls dx s'.out x' n'
     |new n d'=>cases e
   |_=>cases e
section
variable {X:Cx}{k k':Nat}{x:Str}{ps:List Str}{F:List D->Option D}{e:Expr}{es:List Expr}{fl:FA}{f:FE}{p pos:Pos}{Pc:Hp->Prop}
def zlU (C:CalX X.prog X.w X.K X.mg X.base k x ps (pcS Pc (spX X.K F)))(hp:Prs X Pc)(hr:Room k' X.A)(ha:VA X.nox (e::es) fl)(hk:k<=k':=by decide)(hg:Gl X x:=by rfl)(hdb:(x == ("__debug__":Str))=false:=by decide)
 (he:sE (e::es) X.env=(false,eval e X.env)::sE es X.env:=by rfl) (hpl:(backTo pos (sE es X.env)).any (·.1)=false:=by rfl):VQ X (.Call (.Name x p) (e::es) [] pos) (eCall F fl):=by
 obtain⟨f,fd,a,b,c,d⟩:=C.ex;obtain⟨t,pa,g⟩:=ha;have G:FnOk X.prog X.w X.K X.mg X.base (CXE X.prog X.w) k f fd ps (pcS Pc (spX X.K F)):=a
 refine⟨λY H Q E=>t Y H λvs H1=>spX X.K F (vs++[]) H1 Q E,λpins s Y H Q E I h=>?_,?_⟩
 .refine waQ (zcO I hg d ?_ hdb);refine wcp (h₀:=X.base) I.ok.mod.kin c (wav (pa pos pins s Y H _ (zhx I) h) (λus s1 ⟨vs,H1,I1,r,q⟩=>⟨I1.kIn,?_⟩) λ_ _ z=>z.elim) he hpl;have J1:=zdD I1
  have r2:Vals (vs++[]) (us++[]):=r.append .nil
  have q':pcS Pc (spX X.K F) (vs++[]) H1 Q E:=⟨hp pins Y H1 s1 J1,q⟩
  have hl:(us++[]).length=ps.length:=by rw[<-r2.length];exact G.len _ _ _ _ q'
  refine wcH (wcA ((G.mono hk).run X.A X.stack s1 H1 ⟨us,[]⟩ (us++[]) (vs++[]) Q E hr J1.env0 (b s1 us J1.kIn hl) r2 q') λr s' hq=>?_);cases r with
 |error e=>exact⟨H1,s1,J1,hq⟩
 |ok fl=>
    cases fl with
   |ret u=>exact J1.after hq
   |next=>exact False.elim hq
   |brk=>exact False.elim hq
   |cont=>exact False.elim hq
 .intro Hz Jz O Z Y H J x Q E s e w;obtain⟨ds,e1,e⟩:=bS e;refine g Hz Jz O Z Y H J ds _ s e1 λvs H1 J1 u1 r1=>?_
  exact⟨J1,ds,x,u1.ja,by rw[waJ];exact r1,e,w.up u1⟩
end
variable {X:Cx}{f:FE}{e:Expr}{es:List Expr}{fl:FA}{p pos:Pos}
end VD
namespace VD
open PySem.Spec L2
def zfd (Z:En)(g:FG)(fk fv:FE)(d:D):Option (Key×D):=(g d Z).bind λZ1=>(fk Z1).bind λk=>(keyD k).bind λk=>(fv Z1).bind λv=>some (k,v)
def zdd (f:D->Option (Key×D)):List D->List Key×List D->Option (List Key×List D)
|[],a=>some a
|d::ds,a=>(f d).bind λp=>if a.1.length<lim then zdd f ds (putKD a.1 a.2 p.1 p.2) else none
def zmM (fr:List (Option Nat))(fi:FA)(g:FG)(fk fv:FE):FE:=λZ=>(fi Z).bind λds=>(zdd (zfd (zaE Z fr) g fk fv) ds ([],[])).bind λr=>some (.dct r.1 r.2)
def zlV {K:Fg}{fr:List (Option Nat)}{wi:TI}{fi:FA}{g:FG}{is:List Nat}{fk fv:FE}(hi:GoI K wi fi)(hon:∀d Z Z',g d Z=some Z'->Only is Z Z')(hap:apart is fr=true) :
 GoE K (zjf fr wi (TGof K g) (TTof K tTrue) (TEof K fk) (TEof K fv)) (zmM fr fi g fk fv):=by
 intro Hz Jz O Z Y H J out Q s e w;obtain⟨ds,e1,e⟩:=bS e;obtain⟨r,e2,e⟩:=bS e;cases e;refine hi Hz Jz O Z Y H J ds _ s e1 λI H1 J1 u1 src=>?_
 intro Da hD;have hD0:Hz Da=none:=(s.free (u:=u1) hD)
 have nJ1:¬J1 Da:=λj=>u1.ja Da j hD
 refine⟨λi m ys Y2 H2=>m=ds.length - i/\i<=ds.length/\∃J2 ks dn,ST K Hz Jz O.blk (zaE Z fr) Y2 H2 J2/\Up H1 J1 H2 J2/\¬J2 Da/\Keep K H1 J1 H2 J2/\ys.map (·.1)=ks/\RpL K H2 J2 (ys.map (·.2)) dn/\zdd (zfd (zaE Z fr) g fk fv) (ds.drop i) (ks,dn)=some r,⟨ds.length,by simp,wbx _,?_⟩,?_⟩
 .have un:=Up.new u1.ja hD (.dK [])
  exact⟨J1,[],[],((s.up u1).up un).pick fr,un,nJ1,un.keep,rfl,.nil,by simpa using e2⟩
 .rintro i m ys Y2 H2 ⟨rfl,hil,J2,ks,dn,s2,u2,nj2,k2,ek,r2,ec⟩ hys;obtain⟨stop,qC⟩:=src H2 J2 k2 s2.ja;by_cases hlt:i<ds.length
  .right
   have hd:ds[i]?=some ds[i]:=wac hlt
   generalize hdd:ds[i]=d at hd;obtain⟨go,yl⟩:=qC i d hd;have edrop:ds.drop i=d::ds.drop (i+1):=by rw[<-hdd];exact(wbg hlt).symm
   rw[edrop] at ec;obtain⟨p,ep,ec⟩:=bS (show((zfd (zaE Z fr) g fk fv d).bind λp=>if ks.length<lim then zdd (zfd (zaE Z fr) g fk fv) (ds.drop (i+1)) (putKD ks dn p.1 p.2) else none)=some r from ec);by_cases hl:ks.length<lim
   .rw[if_pos hl] at ec;obtain⟨Z1,eg,ep⟩:=bS ep;obtain⟨kd,ekd,ep⟩:=bS ep;obtain⟨kk,ekk,ep⟩:=bS ep;obtain⟨vd,evd,ep⟩:=bS ep;cases ep;refine⟨go,λzs Y' H'=>∃J2 ks dn,ST K Hz Jz O.blk (zaE Z fr) Y' H' J2/\Up H1 J1 H' J2/\¬J2 Da/\Keep K H1 J1 H' J2/\zs.map (·.1)=ks/\RpL K H' J2 (zs.map (·.2)) dn/\zdd (zfd (zaE Z fr) g fk fv) (ds.drop (i+1)) (ks,dn)=some r,λzs Y' H' h=>⟨ds.length - (i+1),by omega,rfl,hlt,h⟩,λx H3 y=>?_⟩;obtain⟨J3,u3,r3⟩:=yl x H3 y;have wk:Weak (zaE Z fr) Z1:=ze2 (hon _ _ _ eg) hap
    refine⟨Hz,Jz,O.blk,zaE Z fr,J3,d,Z1,s2.up u3,r3,eg,λY4 s4=>?_⟩;refine⟨Hz,Jz,O.blk,Z1,J3,true,s4,rfl,λH5 J5 u5=>?_⟩;refine⟨λ_=>?_,λz=>by cases z⟩;refine⟨Hz,Jz,O.blk,Z1,J5,kd,s4.up u5,ekd,λvk H6 J6 u6 r6=>?_⟩;refine⟨Hz,Jz,O.blk,Z1,J6,vd,(s4.up u5).up u6,evd,λv H7 J7 u7 r7=>?_⟩;have u27:=((u3.trans u5).trans u6).trans u7
    have nj7:¬J7 Da:=λj=>by
     rcases u27.jn Da j with j|j
     .exact nj2 j
     .rw[hys] at j;cases j
    have hy7:H7 Da=some (.dK ys):=u27.same _ _ hys
    have kA:Keep K H7 J7 (upd H7 Da (.dK (putK ys kk v))) J7:=zbD hy7 nj7
    obtain⟨p1,p2⟩:=znR (j:=kk) ek (r2.keep u27.keep) r7;refine⟨kk,zjt (.inl r6) ekk,hy7,?_,J7,_,_,?_,(u2.trans u27).at (ys:=[]) hD,nj7,(k2.trans u27.keep).trans kA,p1,p2.keep kA,ec⟩
    .have:ys.length=ks.length:=by rw[<-ek,waf]
     rw[this];exact waq hl (wbl zdz)
    .exact((((s4.up u5).up u6).up u7).weak wk rfl).at (zb3 Z fr) hy7 nj7 hD0
   .rw[if_neg hl] at ec;cases ec
  .left
   have hi':i=ds.length:=by omega
   subst hi';rw[wbE] at ec;cases ec;refine⟨stop,?_⟩;have hnone:H Da=none:=u1.same.free hD
   have ut:Up H J H2 J2:=u1.trans u2
   refine w (.ref Da) H2 (λb=>J2 b\/b=Da) ⟨ut.same,λb h=>.inl (ut.jj b h),λb h=>?_,λb h=>?_⟩ (.dct hys (.inr rfl) ek rfl ?_)
   .rcases h with h|rfl
    .exact ut.jn b h
    .exact .inr hnone
   .rcases h with h|rfl
    .exact ut.ja b h
    .rw[hys];simp
   .exact r2.keep ⟨λ_ h=>.inl h,λ_ _ _ h=>h,λ_ _ h=>h⟩
section
variable {X:Cx}{kx vx qb tg:Expr}{scope:Scope}{pos:Pos}{NC:List Str}{fi:FA}{g:FG}{is:List Nat}{fk fv:FE}
def zhG (i:Nat){x:Str}{pos' cp:Pos}(hND:X.N.Nodup)(N:List Str)(st:Stmt)(fr:List (Option Nat))(hi:VI X tg qb fi)
 (hg:∀{cl C s0 H0 ex pn},VG (cxC X scope cl NC C s0 H0 ex pn) tg is g) (hk:∀{cl C s0 H0 ex pn},VE (cxC X scope cl NC C s0 H0 ex pn) kx fk) (hv:∀{cl C s0 H0 ex pn},VE (cxC X scope cl NC C s0 H0 ex pn) vx fv)
 (qm:X.calm=true:=by rfl) (ql:∀x,X.env.scope.names.lookup x=some .cell->∃c,X.env.cells.lookup x=some c:=by exact λx h=>za3 h) (hfk:X.env.scope.kind=.function:=by rfl) (hN:X.N=N:=by rfl) (hsc:X.env.scope.names=(zab st).names:=by rfl)
 (qj:∀y∈scope.names,y.2=.free->(zab st).names.lookup y.1=some .cell:=by decide +kernel) (qg:∀y∈scope.names,y.2≠.cell:=by decide +kernel) (qh:scope.kind=.function:=by rfl) (qi:∀y∈scope.names,y.2=.local->scope.names.lookup y.1=some .local:=by decide +kernel)
 (qD:zbS N (zab st).names scope.names NC fr=true:=by decide +kernel) (qe:fr.length=NC.length:=by rfl) (hap:apart is fr=true:=by decide)
 (hs:∀x,fSI qb X.env x=pure x:=by intro _;rfl) (hix:X.N[i]?=some x:=by rfl) (hx:Loc X.env.scope x:=by first|exact Or.inl rfl|exact Or.inr rfl) (hsw:sWw (.DictComp kx vx [⟨tg,qb,[],0⟩] scope cp) (some (.Name x pos')) pos.line X.env=pure true:=by rfl)
 (hf:X.fn x=true\/X.env.scope.names.lookup x=some .local:=by first|exact .inl rfl|exact .inr rfl|assumption):VS X (.Assign [.Name x pos'] (.DictComp kx vx [⟨tg,qb,[],0⟩] scope cp) pos) (gSet i (zmM fr fi g fk fv)):=by
 obtain⟨wi,pi,gi⟩:=hi;obtain⟨_,_,hon,_⟩:=@hg [] 0 X.s₀ X.Hz [] [];exact⟨_,zk0 hND hix hx N st fr qm pi ql hfk hN hsc qj qg qh qi qD qe (λ_ _ _ _ _ _=>hg.of) (λ_ _ _ _ _ _=>show PTs _ [] (TTof X.K tTrue) from zcR) (λ_ _ _ _ _ _=>hk.of) (λ_ _ _ _ _ _=>hv.of) hs hsw hf,zjq (zlV gi hon hap)⟩
end
end VD
namespace EX
open PySem.Spec PySem.W
section
variable {prog:Pm}{w:World}{K:Frag}{fd:Fu}{fI:Addr}{x p q y:Str}{tk0:Tok}{h0:Heap}{cp cq np fp jp:Pos}{k k2:Nat}
def zie (hk:∀L,(cEv fd L fI).kindOf x=some .local)(hf:fd.scope.kind=.function)(hd:(x == ("__debug__":Str))=false)(hl:p.length+(reprText y).length+q.length<=sLn) :
 Says prog w K fd fI x (.JoinedStr [.Constant (.str p) k cp,.FormattedValue (.Name x np) 114 none fp,.Constant (.str q) k2 cq] jp) (.str y tk0) h0:=by
 intro A E h1 g d os tk L m Q hgd hun X kp hns hm hq';have hq:∀y t' tk',Q (.str y t') ⟨h1,g,d,tk',os⟩:=λy t' tk'=>hq' h1 y t' tk' λ_ _ z=>z
 have e0:(Str.empty++p)=p:=by first|rfl|simp|exact Str.empty_append _
 refine wpAny_JoinedStr ?_;show wA _ _ (eval (.Constant (.str p) k cp) _) _ _ _
 refine wpAny_Constant_str ⟨p,_,rfl,by rw[e0];omega,?_⟩;rw[e0];show wA _ _ (eval (.FormattedValue (.Name x np) 114 none fp) _) _ _ _
 have l1:(p++reprText y).length<=sLn:=by rw[strLen_append];omega
 have l2:(p++reprText y++q).length<=sLn:=by rw[strLen_append,strLen_append];exact hl
 refine wpAny_FormattedValue_repr (wcR (wbM hf (hk L) hns hm ?_) hd);refine pyReprObj_str (wpAny_formatField_str ⟨_,_,rfl,l1,?_⟩ ⟨_,_,rfl,l1,?_⟩ (by omega)) (by omega)
 .show wA _ _ (eval (.Constant (.str q) k2 cq) _) _ _ _
  exact wpAny_Constant_str ⟨q,_,rfl,l2,l2,hq _ _ _⟩
 .show wA _ _ (eval (.Constant (.str q) k2 cq) _) _ _ _
  exact wpAny_Constant_str ⟨q,_,rfl,l2,l2,hq _ _ _⟩
end
end EX
namespace VD
open PySem.Spec L2 EX
def zj8 {P:Pm}{w:World}{K:Fg}{mg:Str->Option Vl}{C N fI:Addr}{bm:List Vl}{slf x nm c p q:Str}{fd:Fu}{k k2:Nat}{cp cq np fp jp:Pos}(xi:XI P w K C N fI bm slf x nm (.JoinedStr [.Constant (.str p) k cp,.FormattedValue (.Name x np) 114 none fp,.Constant (.str q) k2 cq] jp) fd)
 (hsup:mg "super"=none) (hm:mg c=some (.ref C)) (hn:W.nsIn K mG c=some (some (.ref C))) (hk:W.keepIn K (.ref C)=true) (hB:bm.contains (.type "BaseException")=true) (hp:p.length+q.length<=1000):XCl P w K mg c nm zic where
 sup:=hsup
 ex:=⟨C,N,fI,bm,slf,x,_,fd,xi,hm,hn,hk,hB,λh u d hok=>by
  cases d with
 |str y=>
    refine⟨rfl,λr=>?_⟩;cases r;have h1:=zlR hok
    have h2:11002<=sLn:=by decide +kernel
    exact zie (λL=>(xi.kinds L).2.2.2) xi.flags.2.2 xi.dbg.1 (by omega)
 |_=>cases hok⟩
section
variable {X:Cx}{E:XK}{c:Str}{e:Expr}{fa:FE}{k:Nat}{np cp pos:Pos}
end
end VD
namespace VD
open PySem.Spec L2
def Its (y:Str):It:=⟨λi _=>i<y.cps.size,λi H x H'=>H'=H/\∃c,y.cps[i]?=some c/\x=.str ⟨#[c]⟩,λi _=>i=y.cps.size⟩
def zhH {P:Pm}{w:World}{K:Fg}{tg:Expr}{it:Addr}{y:Str}{t:Tok}{ty:String}(W:∀A:Ao,A.handled=none->Walks P w A it [it] [it] y.cps.size (SignAt y) (λi h=>h.IsStrIter it ty y t i))
 (hS:∀(A:Ao) (i:Nat) (s:Sd) (Q:Vl->Sd->Prop) (E:Vl->Sd->Prop),s.heap.IsStrIter it ty y t i->Q (.ref it) s->wA (model P w) A (pyIter (.ref it)) Q E s)
 (hty:["enumerate","zip","dict_itemiterator","dict_reverseitemiterator","odict_iterator","itertools.zip_longest","itertools.pairwise"].contains ty=false):Turn P w K tg (Its y) [it] it (λi h=>h.IsStrIter it ty y t i) where
 mem:=by simp
 obj:=λi h st b hb=>by
  rw[wag.mp hb];obtain⟨o,e,c,d⟩:=st;exact⟨o,e,λv z=>by rw[d] at z;cases z⟩
 keep:=λi h h' st k=>let ⟨o,e,r⟩:=st;⟨o,k it (by simp) o e,r⟩
 item:=by
  intro X hP hw hK hc i pins s Y H E I hf st hg;subst hP hw hK;obtain⟨f0,f1,f2,f3,f4,f5⟩:=hf it (by simp);refine(W X.A (I.ok.hd hc)).item i s _ _ hg st λv h' tk hv st' kk=>?_
  obtain⟨c,u,hc1,rfl⟩:=hv;have I1:Inv X pins Y H {s with heap:=h',toks:=tk}:=I.turned (λb o hb e=>kk b o (by simpa using hb) e) f0 f1 f3 f4 f5
  obtain⟨o,e,c',d⟩:=id st';exact⟨_,rfl,ziL (s:={s with heap:=h',toks:=tk}) e c' d hty ⟨.str ⟨#[c]⟩,H,I1,⟨u,rfl⟩,⟨rfl,c,hc1,rfl⟩,st',λb hb=>(hf b hb).1⟩⟩
 done:=by
  intro X hP hw hK hc i pins s Y H E I hf st hg;subst hP hw hK;obtain rfl:i=y.cps.size:=hg;obtain⟨f0,f1,f2,f3,f4,f5⟩:=hf it (by simp);exact(W X.A (I.ok.hd hc)).done s _ _ st λh' tk eb=>⟨rfl,I.turned (λb o hb e=>eb b o (by simpa using hb) e) f0 f1 f3 f4 f5⟩
 self:=hS
def iStr (tl:TE):TI:=λY H R=>tl Y H λx H1=>∃y,x=.str y/\R (Its y) H1
section
variable {X:Cx}{tg a b:Expr}{fa fb:FE}{pos:Pos}
def zqL {l:Expr}{tl:TE}(hl:PE X l tl):PI X tg l (iStr tl):=by
 intro pins s Y H R I h;refine thn (hl pins s Y H _ I h) λv s1 ⟨x,H1,I1,r1,y,e,q⟩=>?_
 subst e;obtain⟨t,rfl⟩:=r1;have fin:∀(ty:String) (o:Obj) (_:o = {cls:=.type ty,data:=.fields #[.str y t,.int 0 0]}),Turn X.prog X.w X.K tg (Its y) [s1.heap.objs.size] s1.heap.objs.size (λi h=>h.IsStrIter s1.heap.objs.size ty y t i)->PIE X pins Y tg R (.ref s1.heap.objs.size) {s1 with heap:=s1.heap.push o}:=λty o eo T=>by
  subst eo;refine⟨s1.heap.objs.size,[s1.heap.objs.size],_,_,H1,rfl,I1.kept (t':=s1.toks) λb o e=>wae _ e,T,⟨_,waw _ rfl,rfl,rfl⟩,λb hb=>?_,q⟩;rw[wag.mp hb];exact I1.fpOk (wan _) (I1.hok.fresh (wan _))
 cases ha:y.cps.all (·<128)
 .exact wpAny_pyIter_wide ha (fin _ _ rfl (zhH (λA hA=>Walks.strWide hA _ y t) (λ_ _ _ _ _ a b=>wpAny_pyIter_striter_wide a b) (by decide)))
 .exact wpAny_pyIter_ascii ha (fin _ _ rfl (zhH (λA hA=>Walks.strAscii hA _ y t) (λ_ _ _ _ _ a b=>wpAny_pyIter_striter_ascii a b) (by decide)))
def zqM:D->Option (List D)
|.str y=>some (y.cps.toList.map λc=>.str ⟨#[c]⟩)
|_=>none
def zr5 (f:FE):FA:=λZ=>(f Z).bind zqM
def zqN (h:VE X a fa):VI X tg a (zr5 fa):=by
 obtain⟨t,p,g⟩:=h;refine⟨_,zqL p,?_⟩;intro Hz Jz O Z Y H J ds R s e w;obtain⟨x,e1,e⟩:=bS e;cases x with
|str y=>
   cases e;refine g Hz Jz O Z Y H J _ _ s e1 λv H1 J1 u1 r1=>?_
   cases r1;refine⟨y,rfl,w _ H1 J1 u1 λH2 J2 k ja=>?_⟩;refine⟨by show _=_;simp,λi d hd=>?_⟩;rw[wah] at hd;obtain⟨c,hc,rfl⟩:=waX.mp hd;have hc:y.cps[i]?=some c:=by simpa using hc
   have hi:i<y.cps.size:=(wbc.mp hc).1
   refine⟨hi,λx H3 z=>?_⟩;obtain⟨rfl,c',hc',rfl⟩:=z;rw[hc] at hc';cases hc';exact⟨J2,Up.refl ja,.str _⟩
|_=>cases e
def inTx (a b:Str):Bool:=!(Builtin.Str.occurrences b a 0 b.length 1).isEmpty
def rInS (neg:Bool):R2:=λx y H Q=>∃a b,x=.str a/\y=.str b/\Q (.bl (if neg then !inTx a b else inTx a b)) H
def zqO:OpR X (cOp .In) (rInS false):=by
 intro pins s Y H x y v u Q I rx ry ⟨a,b,e1,e2,q⟩;subst e1 e2;obtain⟨t1,rfl⟩:=rx;obtain⟨t2,rfl⟩:=ry;exact in_str ⟨.bl _,H,I,rfl,q⟩
def dInS (neg:Bool):D->D->Option D
|.str a,.str b=>some (.bl (if neg then !inTx a b else inTx a b))
|_,_=>none
def zqP {K:Fg}(neg:Bool):Im2 K (rInS neg) (dInS neg):=by
 intro H J x y d e d' Q ja hx hy hF w;cases d with
|str p=>cases e with
  |str q=>cases hF;exact⟨p,q,hx.str,hy.str,w _ H J (Up.refl ja) (.bl _)⟩
  |_=>cases hF
|_=>cases hF
end
def un6:D->Option (D×D×D×D×D×D)
|.tup [a,b,c,d,e,f]=>some (a,b,c,d,e,f)
|_=>none
def zlW {d:D}{y:D×D×D×D×D×D}(h:un6 d=some y):d=.tup [y.1,y.2.1,y.2.2.1,y.2.2.2.1,y.2.2.2.2.1,y.2.2.2.2.2]:=by
 unfold un6 at h;split at h
 .cases h;rfl
 .cases h
def tg_6 {Z:En}{d:D}{i j l m n o:Nat}(h1:okS i Z=true)(h2:∀x,okS j (Z.set i (.val x))=true)(h3:∀x y,okS l ((Z.set i (.val x)).set j (.val y))=true)(h4:∀x y z,okS m (((Z.set i (.val x)).set j (.val y)).set l (.val z))=true)(h5:∀x y z w,okS n ((((Z.set i (.val x)).set j (.val y)).set l (.val z)).set m (.val w))=true)(h6:∀x y z w v,okS o (((((Z.set i (.val x)).set j (.val y)).set l (.val z)).set m (.val w)).set n (.val v))=true) :
 Tg (gT 6 (gCons' (gN i) (gCons' (gN j) (gCons' (gN l) (gCons' (gN m) (gCons' (gN n) (gCons' (gN o) gNil'))))))) d Z (un6 d) λy=>(((((Z.set i (.val y.1)).set j (.val y.2.1)).set l (.val y.2.2.1)).set m (.val y.2.2.2.1)).set n (.val y.2.2.2.2.1)).set o (.val y.2.2.2.2.2):=λy e=>by
 rw[zlW e];show((gN i y.1 Z).bind λZ1=>(gN j y.2.1 Z1).bind λZ2=>(gN l y.2.2.1 Z2).bind λZ3=>(gN m y.2.2.2.1 Z3).bind λZ4=>(gN n y.2.2.2.2.1 Z4).bind λZ5=>(gN o y.2.2.2.2.2 Z5).bind λZ6=>gNil' [] Z6)=_
 rw[zfO h1,zOB,zfO (h2 _),zOB,zfO (h3 _ _),zOB,zfO (h4 _ _ _),zOB,zfO (h5 _ _ _ _),zOB,zfO (h6 _ _ _ _ _)];rfl
def dSlW:D->Option Int->Option Int->Option D
|.tup ds,lo,hi=>some (.tup (cut ds lo hi))
|x,lo,hi=>dSl x lo hi
def eSlW (f:FE)(lo hi:FO):FE:=λZ=>(f Z).bind λx=>(lo Z).bind λl=>(hi Z).bind λh=>dSlW x l h
def dSlL:D->Option Int->Option Int->Option (List D)
|.lst ds,lo,hi=>some (cut ds lo hi)
|_,_,_=>none
def aSlL (f:FE)(lo hi:FO):FA:=λZ=>(f Z).bind λx=>(lo Z).bind λl=>(hi Z).bind λh=>dSlL x l h
section
variable {X:Cx}{a b:Expr}{fa fb:FE}{pos p2:Pos}
def zoq {ds:List D}{lo hi:Option Int}(h0:HT.sIx ds.length 0 lo=0)(h1:HT.sIx ds.length ds.length hi=ds.length):VD.cut ds lo hi=ds:=by
 unfold VD.cut;rw[h0,h1];simp
def zfX {lo hi:Option Expr}{fl fh:FO}(ha:VW X a fa)(hl:VO X lo fl)(hh:VO X hi fh):VE X (.Subscript a (.Slice lo hi none p2) pos) (eSlW fa fl fh):=by
 obtain⟨t,p,g⟩:=ha;obtain⟨tl,pl,gl⟩:=hl;obtain⟨th,ph,gh⟩:=hh;refine⟨_,zeU (r:=λx lo hi H Q=>rSlD X.K x lo hi H Q\/rSlW X.K x lo hi H Q) (SlR.or (sl_list.or (sl_tup.or zmn)) zk1) p pl ph,?_⟩;intro Hz Jz O Z Y H J d Q s e w;obtain⟨x,e1,e⟩:=bS e;obtain⟨l,e2,e⟩:=bS e;obtain⟨h,e3,e⟩:=bS e;refine g Hz Jz O Z Y H J x _ s e1 λv H1 J1 u1 r1=>?_
 refine gl Hz Jz O Z Y H1 J1 l _ (s.up u1) e2 λH2 J2 u2=>?_
 refine gh Hz Jz O Z Y H2 J2 h _ (s.up (u1.trans u2)) e3 λH3 J3 u3=>?_
 have r3:=r1.up (u2.trans u3)
 have u:=u1.trans (u2.trans u3)
 match x,e with
|.lst ds,e=>
   cases e;obtain⟨p,vs,rfl,h1,rl⟩:=r3.lst;refine .inl (.inl ⟨p,vs,rfl,SqL.of h1,λc hc=>?_⟩);have un:=Up.newJ u3.ja hc (.lst (cutV vs l h))
   exact w _ _ _ (u.trans un) (.lst zae (.inr rfl) ((rl.cut l h).keep un.keep))
|.tup ds,e=>
   cases e;obtain⟨p,vs,rfl,h1,rl⟩:=r3.tup;by_cases hc:HT.sIx ds.length 0 l=0/\HT.sIx ds.length ds.length h=ds.length
   .refine .inr ⟨p,vs,rfl,h1,by rw[rl.length];exact hc.1,by rw[rl.length];exact hc.2,?_⟩;rw[show cut ds l h=ds from zoq hc.1 hc.2] at w;exact w _ H3 J3 u (.tup h1 rl)
   .refine .inl (.inr (.inl ⟨p,vs,rfl,h1,by rw[rl.length];exact hc,λc hc=>?_⟩));have un:=Up.new u3.ja hc (.tup (cutV vs l h))
    exact w _ _ _ (u.trans un) (.tup (SqT.of zae) ((rl.cut l h).keep un.keep))
|.str z,e=>
   have e:(if z.length<=lim then some (D.str (Txt.slice z l h)) else none)=some d:=e
   by_cases hl:z.length<=lim
   .rw[if_pos hl] at e;cases e;rw[r3.str];exact .inl (.inr (.inr ⟨z,rfl,zbJ hl,w _ H3 J3 u (.str _)⟩))
   .rw[if_neg hl] at e;cases e
def zlX {lo hi:Option Expr}{fl fh:FO}(ha:VW X a fa)(hl:VO X lo fl)(hh:VO X hi fh):VN X (.Subscript a (.Slice lo hi none p2) pos) (aSlL fa fl fh):=by
 obtain⟨t,p,g⟩:=ha;obtain⟨tl,pl,gl⟩:=hl;obtain⟨th,ph,gh⟩:=hh;refine⟨_,zeU (r:=rSlL X.K) sl_list p pl ph,?_⟩;intro Hz Jz O Z Y H J d Q s e w;obtain⟨x,e1,e⟩:=bS e;obtain⟨l,e2,e⟩:=bS e;obtain⟨h,e3,e⟩:=bS e;refine g Hz Jz O Z Y H J x _ s e1 λv H1 J1 u1 r1=>?_
 refine gl Hz Jz O Z Y H1 J1 l _ (s.up u1) e2 λH2 J2 u2=>?_
 refine gh Hz Jz O Z Y H2 J2 h _ (s.up (u1.trans u2)) e3 λH3 J3 u3=>?_
 have r3:=r1.up (u2.trans u3)
 have u:=u1.trans (u2.trans u3)
 match x,e with
|.lst ds,e=>
   cases e;obtain⟨p,vs,rfl,h1,rl⟩:=r3.lst;refine⟨p,vs,rfl,SqL.of h1,λc hc=>?_⟩;have un:=Up.new u3.ja hc (.lst (cutV vs l h))
   exact w c _ _ J3 (u.trans un) (u.same.free hc) (λj=>u3.ja c j hc) zae ((rl.cut l h).keep un.keep)
def dCat:D->D->Option (List D)
|.lst xs,.lst ys=>if(xs++ys).length<=lim then some (xs++ys) else none
|_,_=>none
def aCat (f g:FE):FA:=λZ=>(f Z).bind λx=>(g Z).bind λy=>dCat x y
def zmN (ha:VW X a fa)(hb:VW X b fb):VN X (.BinOp a .Add b pos) (aCat fa fb):=by
 obtain⟨ta,pa,ga⟩:=ha;obtain⟨tb,pb,gb⟩:=hb;refine⟨_,zm6 zbu pa pb,?_⟩;intro Hz Jz O Z Y H J d Q s e w;obtain⟨x,e1,e⟩:=bS e;obtain⟨y,e2,e⟩:=bS e;refine ga Hz Jz O Z Y H J x _ s e1 λv H1 J1 u1 r1=>?_
 refine gb Hz Jz O Z Y H1 J1 y _ (s.up u1) e2 λv2 H2 J2 u2 r2=>?_
 cases x with
|lst xs=>cases y with
  |lst ys=>
     have e:(if(xs++ys).length<=lim then some (xs++ys) else none)=some d:=e
     by_cases hl:(xs++ys).length<=lim
     .rw[if_pos hl] at e;cases e;obtain⟨p,vs,rfl,h1,l1⟩:=(r1.up u2).lst;obtain⟨q,us,rfl,h2,l2⟩:=r2.lst;refine .inr (.inr (.inl ⟨p,q,vs,us,rfl,rfl,h1,h2,?_,λc hc=>?_⟩))
      .rw[l1.length,l2.length,<-waj];exact zbJ hl
      .have un:=Up.new u2.ja hc (.lst (vs++us))
       exact w c _ _ J2 ((u1.trans u2).trans un) ((u1.trans u2).same.free hc) (λj=>u2.ja c j hc) zae ((l1.append l2).keep un.keep)
     .rw[if_neg hl] at e;cases e
  |_=>cases e
|_=>cases e
def zmO:List D->Option (List D)
|[.lst ds]=>some ds
|[.tup ds]=>some ds
|_=>none
def zor {es:List Expr}{e:Expr}{fl:FA}{p:Pos}(B:Blt X.mg)(ha:VAW X (e::es) fl)(hg:Gl X "list":=by rfl)
 (he:sE (e::es) X.env=(false,eval e X.env)::sE es X.env:=by rfl) (hpl:(backTo pos (sE es X.env)).any (·.1)=false:=by rfl):VN X (.Call (.Name "list" p) (e::es) [] pos) (λZ=>(fl Z).bind zmO):=by
 obtain⟨t,p,g⟩:=ha;refine⟨_,pty zdx B boot_list p (by decide +kernel) hg (by decide) (by decide) he hpl,?_⟩;intro Hz Jz O Z Y H J d Q s e w;obtain⟨ds,e1,e⟩:=bS e;refine g Hz Jz O Z Y H J ds _ s e1 λvs H1 J1 u1 r1=>?_
 match ds,r1,e with
|[.lst ds],r,hF=>
   obtain⟨v,rfl,rr⟩:=r.one;cases hF;obtain⟨p,us,rfl,h1,rl⟩:=rr.lst;refine⟨p,us,rfl,.inl (SqL.of h1),λc hc=>?_⟩;have un:=Up.new u1.ja hc (.lst us)
   exact w c _ _ J1 (u1.trans un) (u1.same.free hc) (λj=>u1.ja c j hc) zae (rl.keep un.keep)
|[.tup ds],r,hF=>
   obtain⟨v,rfl,rr⟩:=r.one;cases hF;obtain⟨p,us,rfl,h1,rl⟩:=rr.tup;refine⟨p,us,rfl,.inr h1,λc hc=>?_⟩;have un:=Up.new u1.ja hc (.lst us)
   exact w c _ _ J1 (u1.trans un) (u1.same.free hc) (λj=>u1.ja c j hc) zae (rl.keep un.keep)
def VIU (X:Cx)(tg qb:Expr)(f:FA):Prop:=∃wi,PI X tg qb wi/\GoIU X.K wi f
def zqQ {tg:Expr}(h:VW X a fa):VIU X tg a (λZ=>(fa Z).bind dLst):=by
 obtain⟨t,p,g⟩:=h;refine⟨_,ziN p,?_⟩;intro Hz Jz O Z Y H J ds R s e w;obtain⟨x,e1,e⟩:=bS e;cases x with
|lst xs=>
   cases e;refine g Hz Jz O Z Y H J _ _ s e1 λv H1 J1 u1 r1=>?_
   obtain⟨q,vs,rfl,h1,rl⟩:=r1.lst;refine⟨q,rfl,⟨_,SqL.of h1⟩,w _ H1 J1 u1 λH2 J2 u2 ja=>?_⟩;have h2:=u2.same _ _ h1
   refine⟨⟨_,SqL.of h2,by rw[rl.length];exact wan _⟩,λi d hd=>?_⟩;obtain⟨v,hv,rv⟩:=rl.get hd;refine⟨⟨_,v,SqL.of h2,hv⟩,λx H3 y=>?_⟩;obtain⟨rfl,y⟩:=y;have e:=y _ (SqL.of h2)
   rw[hv] at e;cases e;exact⟨J2,Up.refl ja,rv.keep u2.keep⟩
|_=>cases e
end
end VD
namespace VD
open PySem.Spec L2 EX
def zr6:zgP gCt:=λZ r Z' e=>by cases e
end VD
namespace VD
open PySem.Spec L2
def zr7:List D->Option (List D)
|[.lst ds]=>some ds
|[.tup ds]=>some ds
|_=>none
def zhI (l:List D):Option (List D):=(zr7 l).bind λds=>some (zdF ds)
def zqR (f:FA):FA:=λZ=>(f Z).bind zhI
section
variable {X:Cx}{a b:Expr}{fl:FA}{pos p p2:Pos}
def zlY {elts:List Expr}{x1}{wj:Pos}(B:Blt X.mg)(ha:VA X [a] fl)(hg:Gl X "enumerate":=by rfl)(hs:sE [a] X.env = [(false,eval a X.env)]:=by rfl):VI X (.Tuple elts x1 wj) (.Call (.Name "enumerate" p) [a] [] pos) (zqR fl):=by
 obtain⟨t,q,g⟩:=ha;refine⟨_,zpR (zk2 hg (B.get "enumerate") q hs) (zi9 hg (B.get "enumerate") q hs),?_⟩;intro Hz Jz O Z Y H J ds R s e w;obtain⟨l,e1,e⟩:=bS e;obtain⟨xs,e2,e⟩:=bS e;cases e;match l,e2 with
|[.lst _],e2=>
   cases e2;refine .inl (g Hz Jz O Z Y H J _ _ s e1 λvs H1 J1 u1 r1=>?_);cases r1 with
  |cons h t=>
     cases t;cases h with
    |lst h j r=>
       refine⟨_,rfl,⟨_,SqL.of h⟩,w _ H1 J1 u1 λH2 J2 k ja=>?_⟩;have h2:=SqL.of (K:=X.K) (k.jo _ _ j h)
       refine⟨⟨_,h2,by rw[r.length,zcn];exact wan _⟩,λi d hd=>?_⟩;obtain⟨x,hx,rfl⟩:=zd0 hd;obtain⟨v,hv,rv⟩:=r.get hx;refine⟨⟨_,v,h2,hv⟩,λy H3 hy=>?_⟩;obtain⟨q,hn,rfl,hy⟩:=hy;obtain⟨y,ey,rfl⟩:=hy _ h2;rw[hv] at ey;cases ey;have un:=Up.new ja hn (.tup [.int (i:Nat),v])
       exact⟨J2,un,.tup (SqT.of zae) (.cons (.int _) (.cons ((rv.keep k).keep un.keep) .nil))⟩
|[.tup _],e2=>
   cases e2;refine .inr (g Hz Jz O Z Y H J _ _ s e1 λvs H1 J1 u1 r1=>?_);cases r1 with
  |cons h t=>
     cases t;cases h with
    |tup h r=>
       refine⟨_,rfl,⟨_,h⟩,w _ H1 J1 u1 λH2 J2 k ja=>?_⟩;have h2:=k.tp _ _ h
       refine⟨⟨_,h2,by rw[r.length,zcn];exact wan _⟩,λi d hd=>?_⟩;obtain⟨x,hx,rfl⟩:=zd0 hd;obtain⟨v,hv,rv⟩:=r.get hx;refine⟨⟨_,v,h2,hv⟩,λy H3 hy=>?_⟩;obtain⟨q,hn,rfl,hy⟩:=hy;obtain⟨y,ey,rfl⟩:=hy _ h2;rw[hv] at ey;cases ey;have un:=Up.new ja hn (.tup [.int (i:Nat),v])
       exact⟨J2,un,.tup (SqT.of zae) (.cons (.int _) (.cons ((rv.keep k).keep un.keep) .nil))⟩
def zj9 {sts:List Stmt}:VSs X sts gNo:=⟨_,ziJ,λHz Jz O Z Y H J o E s e w=>by cases e⟩
end
section
variable {X:Cx}{K:Fg}{a b e:Expr}{es:List Expr}{fa fb fk:FE}{fv:FX}{fl:FA}{pos p2:Pos}{H H':Hp}{J J':Addr->Prop}
end
def zmP (fr:List (Option Nat))(fi:FA)(g:FG)(t:FT)(e:FE):FA:=λZ=>(fi Z).bind λds=>(zbT (zaZ (zbU Z fr) g t e) ds).bind λout=>if out.length<=lim then some out else none
section
variable {K:Fg}{H H' Hz:Hp}{J J' Jz:Addr->Prop}{Z:En}{Y:L2.St}{O:Pr}{fp:Nat->List Addr}
def Ow.weak {Z':En}(o:Ow K Hz O Z Y H J fp)(w:Weak Z' Z):Ow K Hz O Z' Y H J (λi=>if isUn (Z'[i]?) then[] else fp i):=by
 have key:∀i:Nat,(Z'[i]?=some SV.un)\/Z'[i]?=Z[i]?:=λi=>(w.2 i).symm
 refine⟨λi=>?_,λi=>?_,λi b hb=>?_,λi j ne b hb=>?_⟩
 .have q:=o.at' i
  rcases key i with e|e
  .rw[e];rfl
  .rw[e];cases z:Z[i]? with
  |none=>rw[z] at q;exact q
  |some x=>
     rw[z] at q;cases x with
    |un=>rfl
    |val d=>exact q
    |own n d=>exact q
    |par n d=>exact q
 .split
  .exact wbb
  .exact o.nd i
 .split at hb
  .cases hb
  .exact o.nj i b hb
 .split at hb
  .cases hb
  .split
   .simp
   .exact o.dj i j ne b hb
def ST.weakP {Z':En}(s:ST K Hz Jz O Z Y H J)(w:Weak Z' Z)(ow:∃fp,Ow K Hz O Z' Y H J fp)(hp:∀q∈O.ps,Z'[q.1]?=Z[q.1]?):ST K Hz Jz O Z' Y H J where
 same:=s.same
 j0:=s.j0
 jn:=s.jn
 ja:=s.ja
 len:=by rw[s.len,w.1]
 vl:=λi d h=>by
  rcases w.2 i with e|e
  .exact s.vl i d (e▸h)
  .rw[e] at h;cases h
 ow:=ow
 ps:=λq hq=>by rw[hp q hq];exact s.ps q hq
 al:=s.al
def zlZ {Z1:En}{fr:List (Option Nat)}{is:List Nat}(o:Only is (zbU Z fr) Z1)(h:apart is fr=true):Weak (zbU Z fr) Z1:=by
 refine⟨o.1.symm,λi=>?_⟩;by_cases hi:i∈is
 .right
  have q:=waB.mp h i hi
  have q':fr[i]?=some none:=by simpa using q
  rw[zc5,q']
 .left;exact(o.2 i hi).symm
def zqS {fr:List (Option Nat)}{q:Nat×Addr×Nat}(h:q∈psB Z Y fr):fr[q.1]?≠some none:=by
 unfold psB at h;obtain⟨k,_,hk⟩:=wbu.mp h;split at hk
 .rename_i j hj
  unfold psAt at hk;split at hk
  .cases hk;rw[hj];simp
  .cases hk
 .cases hk
def zl0 {fr:List (Option Nat)}{wi:TI}{fi:FA}{g:FG}{is:List Nat}{ft:FT}{fe:FE}(hi:GoIU K wi fi)(hon:∀d Z Z',g d Z=some Z'->Only is Z Z')(hap:apart is fr=true)(hin:(fr.filterMap id).Nodup) :
 GoN K (zeX fr wi (TGof K g) (TTof K ft) (TEof K fe)) (zmP fr fi g ft fe):=by
 intro Hz Jz O Z Y H J out Q s e w;obtain⟨ds,e1,e⟩:=bS e;obtain⟨out',e2,e⟩:=bS e;by_cases hl:out'.length<=lim
 .rw[if_pos hl] at e;cases e;refine hi Hz Jz O Z Y H J ds _ s e1 λI H1 J1 u1 src=>?_
  intro Da hD;have nJ1:¬J1 Da:=λj=>u1.ja Da j hD
  have s1:=s.up u1
  obtain⟨fp,ow1⟩:=s1.ow;have un:=Up.new u1.ja hD (.lst [])
  have sB:=s1.block (fr:=fr) ow1 hin
  obtain⟨fpz,owz⟩:=sB.ow;have nz:∀k,Da∉fpz k:=λk hk=>by
   obtain⟨o,eo,_⟩:=(owz.at' k).ru Da hk;rw[hD] at eo;cases eo
  have hno:=zgH Z fr
  refine⟨λi m ys Y2 H2=>m=ds.length - i/\i<=ds.length/\∃J2 fp2 dn rs,ST K H1 J1 ⟨psB Z Y fr,fpB fp fr⟩ (zbU Z fr) Y2 H2 J2/\Ow K H1 ⟨psB Z Y fr,fpB fp fr⟩ (zbU Z fr) Y2 H2 J2 fp2/\(∀k,Da∉fp2 k)/\Up H1 J1 H2 J2/\¬J2 Da/\RpL K H2 J2 ys dn/\out=dn++rs/\zbT (zaZ (zbU Z fr) g ft fe) (ds.drop i)=some rs,⟨ds.length,by simp,wbx _,?_⟩,?_⟩
  .exact⟨J1,fpz,[],out,sB.up un,owz.up sB un,nz,un,nJ1,.nil,rfl,by simpa using e2⟩
  .rintro i m ys Y2 H2 ⟨rfl,hil,J2,fp2,dn,rs,s2,w2,nf2,u2,nj2,r2,eo,ec⟩ hys;obtain⟨stop,qC⟩:=src H2 J2 u2 s2.ja;by_cases hlt:i<ds.length
   .right
    have hd:ds[i]?=some ds[i]:=wac hlt
    generalize hdd:ds[i]=d at hd;obtain⟨go,yl⟩:=qC i d hd;have edrop:ds.drop i=d::ds.drop (i+1):=by rw[<-hdd];exact(wbg hlt).symm
    rw[edrop] at ec;obtain⟨o,eo1,ec⟩:=bS (show((zaZ (zbU Z fr) g ft fe d).bind λo=>(zbT (zaZ (zbU Z fr) g ft fe) (ds.drop (i+1))).bind λxs=>some (match o with|some x=>x::xs|none=>xs))=some rs from ec);obtain⟨rs',er,ec⟩:=bS ec;obtain⟨Z1,eg,eo1⟩:=bS eo1;obtain⟨ok,et,eo1⟩:=bS eo1;have sR:=s2.re w2 hno
    refine⟨go,λzs Y' H'=>∃J2 fp2 dn rs,ST K H1 J1 ⟨psB Z Y fr,fpB fp fr⟩ (zbU Z fr) Y' H' J2/\Ow K H1 ⟨psB Z Y fr,fpB fp fr⟩ (zbU Z fr) Y' H' J2 fp2/\(∀k,Da∉fp2 k)/\Up H1 J1 H' J2/\¬J2 Da/\RpL K H' J2 zs dn/\out=dn++rs/\zbT (zaZ (zbU Z fr) g ft fe) (ds.drop (i+1))=some rs,λzs Y' H' h=>⟨ds.length - (i+1),by omega,rfl,hlt,h⟩,λxv H3 y=>?_⟩;obtain⟨J3,u3,r3⟩:=yl xv H3 y;have on1:=hon _ _ _ eg
    have wk:Weak (zbU Z fr) Z1:=zlZ on1 hap
    refine⟨H2,J2,_,zbU Z fr,J3,d,Z1,sR.up u3,r3,eg,λY4 s4=>?_⟩;refine⟨H2,J2,_,Z1,J3,ok,s4,et,λH5 J5 u5=>?_⟩;have keepDa:∀{Hx:Hp}{Jx:Addr->Prop},ST K H2 J2 ⟨psB Z Y fr,fp2⟩ Z1 Y4 Hx Jx->Hx Da=some (.lst ys)/\¬Jx Da/\∃fpx,ST K H1 J1 ⟨psB Z Y fr,fpB fp fr⟩ (zbU Z fr) Y4 Hx Jx/\Ow K H1 ⟨psB Z Y fr,fpB fp fr⟩ (zbU Z fr) Y4 Hx Jx fpx/\∀k,Da∉fpx k:=λ{Hx Jx} sx=>by
     obtain⟨fpx,wx⟩:=sx.ow;have nfx:∀k,Da∉fpx k:=λk hk=>by
      rcases wx.free sx k Da hk with h|h
      .rw[hys] at h;cases h
      .exact nf2 k h
     have sT:=s2.trans w2 sx
     have wT:=w2.trans s2 wx
     have wW:=wT.weak wk
     refine⟨sx.same Da _ (λ⟨k,hk⟩=>nf2 k hk) hys,λjx=>?_,_,sT.weakP wk ⟨_,wW⟩ λq hq=>?_,wW,λk hk=>?_⟩
     .rcases sx.jn Da jx with h|h
      .exact nj2 h
      .rw[hys] at h;cases h
     .by_cases hi:q.1∈is
      .have z:=waB.mp hap q.1 hi
       exact absurd (by simpa using z) (zqS hq)
      .exact(on1.2 q.1 hi).symm
     .split at hk
      .cases hk
      .exact nfx k hk
    have u25:=u3.trans u5
    refine⟨λhok=>?_,λhok=>?_⟩
    .subst hok;rw[if_pos rfl] at eo1;obtain⟨xd,ex,eo1⟩:=bS eo1;cases eo1;cases ec;refine⟨H2,J2,_,Z1,J5,xd,s4.up u5,ex,λv H6 J6 u6 r6=>?_⟩;have u26:=u25.trans u6
     obtain⟨hy6,nj6,fp6,sT,wT,nf6⟩:=keepDa ((s4.up u5).up u6);have kA:Keep K H6 J6 (upd H6 Da (.lst (ys++[v]))) J6:=zbD hy6 nj6
     obtain⟨sU,wU⟩:=sT.atO wT (o:=.lst (ys++[v])) hy6 nj6 hD nf6;refine⟨hy6,?_,J6,fp6,dn++[xd],rs',sU,wU,nf6,(u2.trans u26).at (ys:=ys) hD,nj6,((r2.keep u26.keep).append (.cons r6 .nil)).keep kA,by rw[eo];simp,er⟩;have:(dn++xd::rs').length<=lim:=by rw[<-eo];exact hl
     rw[waj,waM] at this;rw[r2.length];exact waq (by omega:dn.length<lim) (wbl zdz)
    .subst hok;rw[if_neg (by simp)] at eo1;cases eo1;cases ec;obtain⟨hy5,nj5,fp5,sT,wT,nf5⟩:=keepDa (s4.up u5);exact⟨hy5,J5,fp5,dn,rs',sT,wT,nf5,u2.trans u25,nj5,r2.keep u25.keep,eo,er⟩
   .left
    have hi':i=ds.length:=by omega
    subst hi';rw[wbE] at ec;cases ec;refine⟨stop,?_⟩;rw[waJ] at eo;subst eo;exact w Da ys H2 J2 (u1.trans u2) (u1.same.free hD) nj2 hys r2
 .rw[if_neg hl] at e;cases e
end
def vnCO (N:List Str)(st:Stmt){X:Cx}{elt qb tg:Expr}{ifs:List Expr}{scope:Scope}{pos:Pos}{NC:List Str}(fr:List (Option Nat)){fi:FA}{g:FG}{is:List Nat}{ft:FT}{fe:FE}(hi:VIU X tg qb fi)
 (hg:∀{cl C s0 H0 ex pn},VG (cxC X scope cl NC C s0 H0 ex pn) tg is g) (ht:∀{cl C s0 H0 ex pn},VTs (cxC X scope cl NC C s0 H0 ex pn) ifs ft) (he:∀{cl C s0 H0 ex pn},VE (cxC X scope cl NC C s0 H0 ex pn) elt fe)
 (qm:X.calm=true:=by rfl) (ql:∀x,X.env.scope.names.lookup x=some .cell->∃c,X.env.cells.lookup x=some c:=by exact λx h=>za3 h) (hfk:X.env.scope.kind=.function:=by rfl) (hN:X.N=N:=by rfl) (hsc:X.env.scope.names=(zab st).names:=by rfl)
 (qj:∀y∈scope.names,y.2=.free->(zab st).names.lookup y.1=some .cell:=by decide +kernel) (qg:∀y∈scope.names,y.2≠.cell:=by decide +kernel) (qh:scope.kind=.function:=by rfl) (qi:∀y∈scope.names,y.2=.local->scope.names.lookup y.1=some .local:=by decide +kernel)
 (qD:zbS N (zab st).names scope.names NC fr=true:=by decide +kernel) (qe:fr.length=NC.length:=by rfl) (hap:apart is fr=true:=by decide) (hin:(fr.filterMap id).Nodup:=by decide)
 (hs:∀x,fSI qb X.env x=pure x:=by intro _;rfl):VN X (.ListComp elt [⟨tg,qb,ifs,0⟩] scope pos) (zmP fr fi g ft fe):=by
 obtain⟨wi,pi,gi⟩:=hi;obtain⟨_,_,hon,_⟩:=@hg [] 0 X.s₀ X.Hz [] [];exact⟨_,zfF (RR:=λ_=>True) N st fr (λ_ _ _ _ _=>trivial) qm pi ql hfk hN hsc qj qg qh qi qD qe (λcl C s0 H0 ex pn=>hg.of) (λcl C s0 H0 ex pn=>show PTs (cxC X scope cl NC C s0 H0 ex pn) ifs (TTof X.K ft) from ht) (λcl C s0 H0 ex pn _=>he.of) hs,zl0 gi hon hap hin⟩
def isI:D->Bool
|.int _=>true
|_=>false
def zos:List D->Option D
|[.lst xs]=>if xs.all isI=true then minL xs else none
|_=>none
def zqT (K:Fg):List V->Hp->VK->Prop:=λxs H Q=>∃J l vs ds i y,xs = [.ref l]/\SqL K H l vs/\RpL K H J vs ds/\ds.all isI=true/\ds≠[]/\zgK (ltIx ds) (ds.length - 1)=some i/\vs[i]?=some y/\Q y H
def zka {X:Cx}{k:Nat}(hr:Room k X.A):zci X (.builtin "min") (zqT X.K):=by
 intro pins s Y H xs us Q I r h;obtain⟨J,l,vs,ds,i,y,rfl,hs,rl,hc,hne,hm,hy,q⟩:=h;obtain⟨u,rfl,ru⟩:=zeS r;obtain rfl:u=Value.ref l:=ru;obtain⟨its,rv,pl,hz⟩:=I.list hs;have hl:=pl.isList
 have hlt:l<s.heap.objs.size:=by obtain⟨_,e,_⟩:=hl;exact wal e
 have qe:its.length=ds.length:=rv.length.symm.trans rl.length
 have hpos:0<ds.length:=List.length_pos_iff.mpr hne
 have at':∀(j:Nat) (v:Vl),its.toArray[j]?=some v->∃a t,v=Value.int a t/\ds[j]?=some (D.int a):=λj v e=>by
  have e:its[j]?=some v:=by simpa using e
  have hj:j<ds.length:=by rw[<-qe];exact(wab.mp e).1
  have ed:ds[j]?=some ds[j]:=wac hj
  obtain⟨x,ex,rx⟩:=rl.get ed;obtain⟨v',e1,r1⟩:=rv.get ex;rw[e] at e1;cases e1;have hi:=waB.mp hc _ (List.getElem_mem hj)
  generalize ds[j]=d at ed rx hi;cases d with
 |int a=>cases rx;obtain⟨t,rfl⟩:=r1;exact⟨a,t,rfl,ed⟩
 |_=>cases hi
 refine call_min_walk (wpAny_pyIter_list hl ⟨_,_,_,_,_,_,btOf ds,rfl,Walks.list (A:=X.A.in1) hr.hd s.heap.objs.size l (wax hlt) its.toArray,⟨⟨_,waw _ rfl,rfl,rfl⟩,hl.push _⟩,?_,?_,?_,?_⟩)
 .intro b hb;rcases wap.mp hb with rfl|hb
  .rw[wbJ];exact Nat.lt_succ_self _
  .rw[wag.mp hb,wbJ];exact Nat.lt_succ_of_lt hlt
 .rw[wad,qe];exact hpos
 .intro j1 j2 v1 v2 s' Q' E' h1 h2 q';obtain⟨a,t,rfl,ea⟩:=at' j1 v1 h1;obtain⟨b,u,rfl,eb⟩:=at' j2 v2 h2;have e:btOf ds j1 j2=decide (a<b):=by
   show(ltIx ds j1 j2).getD false=_
   unfold ltIx;rw[ea,eb];rfl
  rw[e] at q';exact lt_int q'
 .intro v h' tk hP hk;rw[wad,qe,(zeI hm).1] at hP;have hv':its[i]?=some v:=by simpa using hP
  obtain⟨v',e1,r1⟩:=rv.get hy;rw[hv'] at e1;cases e1;exact⟨y,H,I.kept (t':=tk) (λb o e=>hk b o (λz=>absurd (wal e) (by rw[wag.mp z];exact waT _)) (wae _ e)),r1,q⟩
def zot {K:Fg}:ImC K (zqT K) zos:=by
 intro H J vs ds d Q ja r hF w;match ds,r,hF with
|[.lst xs],r,hF=>
   obtain⟨v,rfl,rr⟩:=r.one;obtain⟨p,us,rfl,h1,rl⟩:=rr.lst;have hF:(if xs.all isI=true then minL xs else none)=some d:=hF
   split at hF
   .rename_i hc
    unfold minL at hF;split at hF
    .cases hF
    .rename_i hne
     obtain⟨i,e,hF⟩:=zaa hF;obtain⟨y,hy,ry⟩:=rl.get hF;exact⟨J,p,us,xs,i,y,rfl,SqL.of h1,rl,hc,hne,e,hy,w y H J (Up.refl ja) ry⟩
   .cases hF
end VD
namespace GX
open PySem.Spec L2
abbrev GP:=Nat->Sd->Prop
def zif (n:Nat)(P:Nat->Vl->Prop)(Mid St:GP):Protocol:=λm _ v s kap=>
 ∃i,i+1+m=n/\P i v/\Mid (i+1) s/\∀s'':Sd,St (i+1) s''->kap (.send .none) s''
def gend (Dn:Sd->Prop):GenEnd:=λm _ r s₁=>r=.ok .next/\(m=0/\Dn s₁)
def zbl (elt qq qb:Expr)(scope:Scope)(pos:Pos)(it:Vl)(qz:Env):Code:=.compLoop (.GeneratorExp elt [⟨qq,qb,[],0⟩] scope pos) 0 it .none qz
def zef (elt qq qb:Expr)(scope:Scope)(pos:Pos)(it:Vl)(qz:Env):Code:=.compStart (.GeneratorExp elt [⟨qq,qb,[],0⟩] scope pos) 0 it .none qz
def zde {gens:Array GenState}{g:Nat}{x:GenState}(h:AllBare gens)(hx:x.bare=true){s:Sd}(e:gens=s.gens):AllBare (s.setGen g x).gens:=by
 subst e;intro y hy;obtain⟨i,hi,rfl⟩:=Array.mem_iff_getElem.mp hy;simp only[Shared.setGen] at hi⊢;by_cases z:g=i
 .subst z;simp[hx]
 .rw[Array.getElem_setIfInBounds_ne (by simpa using hi) z];exact h _ (Array.getElem_mem _)
section
variable {prog:Pm}{w:World}{A:Ao}{elt qq qb:Expr}{scope:Scope}{pos:Pos}{it:Vl}{qz:Env}{n:Nat}{P:Nat->Vl->Prop}{Mid St:GP}{Dn:Sd->Prop}
def zl1 (hco:qz.scope.isCoroutine=false)
 (qC:∀i s,i<n->St i s->wA (model prog w) (A.over (zbl elt qq qb scope pos it qz) []) (pyNext it) (λr s1=>∃v,r=some v/\
  wA (model prog w) (A.over (zbl elt qq qb scope pos it qz) []) (letOwnedTupleGo qq it v) (λ_ s2=>
   wA (model prog w) (A.over (zbl elt qq qb scope pos it qz) []) (assign qq qz v) (λ_ s3=>
    wA (model prog w) (A.over (zbl elt qq qb scope pos it qz) []) (eval elt qz) (λy s4=>P i y/\Mid (i+1) s4) (λ_ _=>False) s3) (λ_ _=>False) s2) (λ_ _=>False) s1) (λ_ _=>False) s)
 (done:∀s,St n s->wA (model prog w) (A.over (zbl elt qq qb scope pos it qz) []) (pyNext it) (λr s1=>r=none/\Dn s1) (λ_ _=>False) s) :
 ∀(k i:Nat) (s₀ s:Sd),n - i=k->i<=n->St i s->Seg (model prog w) A (gend Dn) (zif n P Mid St) k s₀ (zbl elt qq qb scope pos it qz) ((model prog w).den (zbl elt qq qb scope pos it qz)) [] s:=by
 intro k;induction k with
|zero=>
   intro i s₀ s hk hi hst;have hin:i=n:=by omega
   subst hin;show Seg _ A _ _ _ s₀ _ ((compTurn (.GeneratorExp elt [⟨qq,qb,[],0⟩] scope pos) 0 it .none qz).onRaise (leaving qz)) [] s
   rw[compTurn_gen,wcM];refine seg_bind_wrap (wbs ?_);refine seg_bind_wrap (wav (done s hst) (λr s1 ⟨hr,hd⟩=>?_) λ_ _ e=>e.elim);subst hr;exact seg_end (.ok .next) ⟨rfl,rfl,hd⟩
|succ k ih=>
   intro i s₀ s hk hi hst;have hlt:i<n:=by omega
   show Seg _ A _ _ _ s₀ _ ((compTurn (.GeneratorExp elt [⟨qq,qb,[],0⟩] scope pos) 0 it .none qz).onRaise (leaving qz)) [] s
   rw[compTurn_gen,wcM];refine seg_bind_wrap (wbs ?_);refine seg_bind_wrap (wav (qC i s hlt hst) (λr s1 ⟨v,hr,h1⟩=>?_) λ_ _ e=>e.elim);subst hr;refine seg_bind_wrap (wav h1 (λ_ s2 h2=>?_) λ_ _ e=>e.elim);refine seg_bind_wrap (wav h2 (λ_ s3 h3=>?_) λ_ _ e=>e.elim);refine seg_bind_wrap (wak ?_);simp only[if_true];have hy:∀v,yieldOut qz v=yieldValue v:=λv=>by simp only[yieldOut,hco,wbY,if_false]
   simp only[hy];rw[Sem.bind_eq_wrap',Sem.bind_eq_wrap',Sem.wrap_wrap,Sem.wrap_wrap];refine seg_wrap (wav h3 (λy s4 h4=>?_) λ_ _ e=>e.elim);refine seg_at (seg_yield rfl rfl rfl ⟨i,by omega,h4.1,h4.2,λs'' hs=>?_⟩)
   exact seg_again rfl (ih (i+1) s'' s'' (by omega) hlt hs)
def zkb (hloop:∀s₀ s,St 0 s->Seg (model prog w) A (gend Dn) (zif n P Mid St) n s₀ (zbl elt qq qb scope pos it qz) ((model prog w).den (zbl elt qq qb scope pos it qz)) [] s)
 (self:∀(A':Ao) s,St 0 s->wA (model prog w) A' (pyIter it) (λx s'=>x=it/\St 0 s') (λ_ _=>False) s) (s₀ s:Sd) (h:St 0 s) :
 Seg (model prog w) A (gend Dn) (zif n P Mid St) n s₀ (zef elt qq qb scope pos it qz) ((model prog w).den (zef elt qq qb scope pos it qz)) [] s:=by
 show Seg _ A _ _ _ s₀ _ ((compStart (.GeneratorExp elt [⟨qq,qb,[],0⟩] scope pos) 0 it .none qz).onRaise (leaving qz)) [] s
 unfold compStart;rw[wcM];show Seg _ A _ _ _ s₀ _ ((ask >>= _).wrap _ _ _ _) [] s
 refine seg_bind_wrap (wpAny_askSetting ?_);split
 .exact seg_again rfl (hloop _ _ h)
 .refine seg_bind_wrap (wcS ?_);show Seg _ A _ _ _ s₀ _ ((standAt qb.pos >>= _).wrap _ _ _ _) [] s
  refine seg_bind_wrap (wbs ?_);refine seg_bind_wrap (wav (self _ s h) (λx s' hx=>?_) λ_ _ e=>e.elim);obtain⟨rfl,hx⟩:=hx;exact seg_again rfl (hloop _ _ hx)
structure At (prog:Pm)(w:World)(A:Ao)(a:Addr)(g n:Nat)(P:Nat->Vl->Prop)(Mid St:GP)(Dn:Sd->Prop)(j:Nat)(s:Sd):Prop where
 bare:AllBare s.gens
 gen:s.heap.IsGen a g
 lim:s.heap.NoLimit
 go:∃gs,s.gens[g]?=some gs/\∀s'',St j s''->gs.Goes (model prog w) A.in1 (gend Dn) (zif n P Mid St) (n - j) (.send .none) s''
 run:St j (s.setGen g .running)
structure Holds (a:Addr)(g:Nat)(Mid St:GP):Prop where
 bare:∀i s,Mid i s->AllBare s.gens
 gen:∀i s,Mid i s->s.heap.IsGen a g
 lim:∀i s,Mid i s->s.heap.NoLimit
 size:∀i s,Mid i s->g<s.gens.size
 on:∀i s gs,gs.bare=true->Mid i s->St i ((s.setGen g gs).setGen g .running)
def zkc {s:Sd}{g:Nat}{x:GenState}(h:g<s.gens.size):(s.setGen g x).gens[g]?=some x:=by simp[Shared.setGen,h]
def zkd {a:Addr}{g j:Nat}{s:Sd}{Q:Option Vl->Sd->Prop}(hh:A.handled=none)(qT:A.depth<recursionLimit)(hd:Holds a g Mid St)(hj:j<n)(h:At prog w A a g n P Mid St Dn j s)
 (hQ:∀v s1 gs,P j v->Mid (j+1) s1->gs.bare=true->At prog w A a g n P Mid St Dn (j+1) (s1.setGen g gs)->Q (some v) (s1.setGen g gs)):wA (model prog w) A (pyNext (.ref a)) Q (λ_ _=>False) s:=by
 obtain⟨_,hg,hl,⟨gs,hgs,hgo⟩,hr⟩:=h;obtain⟨m,hm⟩:∃m,n - j=m+1:=⟨n - j - 1,by omega⟩
 have go1:=hgo _ hr
 rw[hm] at go1;refine wpAny_pyNext_genexpQ (P:=λm _ s₁=>m=0/\Dn s₁) hh hl qT hg hgs go1 (λv s₁ gs' hb hv=>?_) (λs₁ hp h' hk=>absurd hp.1 (Nat.succ_ne_zero m));obtain⟨i,hi,hP,hM,hkap⟩:=hv;have hij:i=j:=by omega
 subst hij;refine hQ v s₁ gs' hP hM hb ⟨zde (hd.bare (i+1) s₁ hM) hb rfl,hd.gen (i+1) s₁ hM,hd.lim (i+1) s₁ hM,⟨gs',zkc (hd.size (i+1) s₁ hM),λs'' hs=>?_⟩,hd.on (i+1) s₁ gs' hb hM⟩;rw[show n - (i+1)=m by omega];exact hkap s'' hs
def zke {a:Addr}{g:Nat}{s:Sd}{Q:Option Vl->Sd->Prop}(hh:A.handled=none)(qT:A.depth<recursionLimit)(hd:Holds a g Mid St)(h:At prog w A a g n P Mid St Dn n s)
 (hQ:∀s1 h',Dn s1->(∀b o,s1.heap.get? b=some o->h'.get? b=some o)->Q none {s1.setGen g .finished with heap:=h'}):wA (model prog w) A (pyNext (.ref a)) Q (λ_ _=>False) s:=by
 obtain⟨_,hg,hl,⟨gs,hgs,hgo⟩,hr⟩:=h;have go1:=hgo _ hr
 rw[wcb] at go1;refine wpAny_pyNext_genexpQ (P:=λm _ s₁=>m=0/\Dn s₁) hh hl qT hg hgs go1 (λv s₁ gs' hb hv=>?_) (λs₁ hp h' hk=>hQ s₁ h' hp.2 hk);obtain⟨i,hi,_,hM,hkap⟩:=hv;exact(hkap _ (hd.on (i+1) s₁ gs' hb hM)).elim
end
section
variable {prog:Pm}{w:World}{A:Ao}{R:Result->Sd->Prop}{I:Addr}{n:Nat}{P:Nat->Vl->Prop}{Wt:GP}{Fin:Sd->Prop}{tr:Nat->Bool}
def zl2 (htr:TruthOf prog w A.in1 P tr)
 (item:∀i s,i<n->Wt i s->wA (model prog w) A.in1 (pyNext (.ref I)) (λr s'=>∃v,r=some v/\P i v/\Wt (i+1) s') (λ_ _=>False) s)
 (done:∀s,Wt n s->wA (model prog w) A.in1 (pyNext (.ref I)) (λr s'=>r=none/\Fin s') (λ_ _=>False) s)
 (stop:∀i s,i<n->tr i=false->Wt (i+1) s->Fin s):∀(k i:Nat) (s:Sd),n - i=k->i<=n->Wt i s->
 (∀s',Fin s'->R (.ok (.ret (.bool (((List.range n).drop i).all tr)))) s')->codeAny (model prog w) A (.builtin "all.loop" ⟨[.ref I],[]⟩) R s:=by
 intro k;induction k with
|zero=>
   intro i s hk hi hst hR;have hin:i=n:=by omega
   subst hin;refine wcK F.entry_all_loop ?_;rw[wcF wcE _];show wA _ A.in1 (pyNext (.ref I) >>= _) _ _ s
   refine waa (wav (done s hst) (λr s' ⟨hr,hf⟩=>?_) λ_ _ e=>e.elim);subst hr;refine waa (wcS (wak ?_));have:=hR s' hf
   rw[wcv (by simp)] at this;exact this
|succ k ih=>
   intro i s hk hi hst hR;have hlt:i<n:=by omega
   have hd:(List.range n).drop i=i::(List.range n).drop (i+1):=by
    rw[wbL (by simpa using hlt)];simp
   refine wcK F.entry_all_loop ?_;rw[wcF wcE _];show wA _ A.in1 (pyNext (.ref I) >>= _) _ _ s
   refine waa (wav (item i s hlt hst) (λr s' ⟨v,hr,hP,hst'⟩=>?_) λ_ _ e=>e.elim);subst hr;refine waa (wbo (htr i v _ _ _ hP ?_));refine waa (wpAny_letGo ?_);cases hb:tr i with
  |true=>
     simp only[if_true];refine wak ⟨plainId_quiet wcE _,ih (i+1) _ (by omega) hlt hst' λs'' hf=>?_⟩;have:=hR s'' hf
     rw[hd,List.all_cons,hb,Bool.true_and] at this;exact this
  |false=>
     simp only[wbY,if_false];refine waa (wcS (wak ?_));have:=hR s' (stop i s' hlt hb hst')
     rw[hd,List.all_cons,hb,Bool.false_and] at this;exact this
end
section
variable {prog:Pm}{w:World}{A:Ao}{E:Vl->Sd->Prop}{s:Sd}{a:Addr}{n:Nat}{P:Nat->Vl->Prop}{Wt:GP}{Fin:Sd->Prop}{tr:Nat->Bool}{Q:Vl->Sd->Prop}
def zl3 (htr:TruthOf prog w A.in1 P tr)
 (item:∀i s,i<n->Wt i s->wA (model prog w) A.in1 (pyNext (.ref a)) (λr s'=>∃v,r=some v/\P i v/\Wt (i+1) s') (λ_ _=>False) s)
 (done:∀s,Wt n s->wA (model prog w) A.in1 (pyNext (.ref a)) (λr s'=>r=none/\Fin s') (λ_ _=>False) s)
 (stop:∀i s,i<n->tr i=false->Wt (i+1) s->Fin s) {g:Nat}(hg:s.heap.IsGen a g) (h:Wt 0 s) (hQ:∀s',Fin s'->Q (.bool ((List.range n).all tr)) s') :
 wA (model prog w) A (call (.builtin "all") [.ref a]) Q E s:=by
 refine call_function_tree F.kind_all F.plain_all F.entry_all (F.args_all1 _) ?_;unfold Builtin.«all»;refine waa (m:=oneArg "all" _) (wak ?_);refine waa (wpAny_pyIter_gen hg ?_);exact wak ⟨plainId_quiet wcE _,zl2 htr item done stop n 0 s rfl (wbx _) h λs' hf=>by simpa using hQ s' hf⟩
end
def gcx (X:Cx)(scope:Scope)(cl:List (Str×Addr))(NC:List Str)(C:Addr)(code:Vl)(bi:Addr)(A':Ao)(s0:Sd)(H0:Hp)(ex:List Addr)(pn:List (Addr×Obj)):Cx where
 prog:=X.prog
 w:=X.w
 K:=X.K
 mg:=X.mg
 base:=X.base
 A:=A'
 N:=NC
 s₀:=s0
 Hz:=H0
 env:=genEnv scope cl C code bi X.env
 outer:=X.stack
 stack:=genEnv scope cl C code bi X.env::X.stack
 ex:=ex
 fn:=λ_=>false
 calm:=true
 pn:=pn
 xe:=λ_ _=>False
def frO:Obj:={cls:=.type "frame",data:=.dict #[]}
def zou {X:Cx}{pins:List (Addr×Obj)}{s4:Sd}{Y:L2.St}{H1:Hp}{fp:List Addr}{scope:Scope}{cl:List (Str×Addr)}{NC:List Str}{fr:List (Option Nat)}{code:Vl}{bi:Addr}{A':Ao}{mm:Str->Option Vl}{h':Heap}{gs:Array GenState}{tk:Nat}{og:Obj}
 (I:Inv X pins Y H1 s4) (f2:∀b∈fp,FpOk X pins H1 b) (obj:∀b∈fp,∃o,s4.heap.get? b=some o/\∀v,o.data≠.cell v) (qh:scope.kind=.function) (hbi:bi=bNs)
 (hcl:∀x c,cl.lookup x=some c->X.env.cells.lookup x=some c)
 (wu:∀x,(scope.names.lookup x=some .cell\/scope.names.lookup x=some .free)->∃c,cl.lookup x=some c)
 (hfr:∀(i:Nat) (x:Str) (j:Nat),NC[i]?=some x->fr[i]?=some (some j)->X.N[j]?=some x/\Vis X.env.scope x/\X.env.kindOf x≠some .local/\(scope.names.lookup x=some .cell\/scope.names.lookup x=some .free))
 (qe:fr.length=NC.length) (hA:A'.handled=none) (hAf:A'.frames=some (genEnv scope cl s4.heap.objs.size code bi X.env::X.stack))
 (hn':h'.Ns s4.heap.objs.size mm) (hs':Heap.SameBut s4.heap.objs.size (s4.heap.push frO) h') (hg:AllBare gs) (hog:∀v,og.data≠.cell v) (hfz:og.isFreed=false) :
 Inv (gcx X scope cl NC s4.heap.objs.size code bi A' s4 H1 fp (X.pn++pins)) [(h'.objs.size,og)] (pick Y fr) H1 {s4 with gens:=gs,toks:=tk,heap:=h'.push og}:=by
 have sz:h'.objs.size=s4.heap.objs.size+1:=by rw[hs'.1,wbJ]
 generalize hC:s4.heap.objs.size=C at *;have ltC:∀{b:Addr}{o:Obj},s4.heap.get? b=some o->b<C:=λe=>by rw[<-hC];exact wal e
 have k4:∀b o,s4.heap.get? b=some o->(h'.push og).get? b=some o:=λb o e=>wae _ (hs'.extBut b o (wax (ltC e)) (wae _ e))
 have hCn:H1 C=none:=I.hok.fresh (wbe hC)
 have stkNo:∀b,s4.heap.objs.size<=b->b∉frs X.stack:=λb hb z=>by
  have f:=I.fpOk hb (I.hok.fresh hb)
  rcases wap.mp (I.stkSub b z) with z|z
  .exact f.2.1 z
  .exact f.2.2.1 z
 have okC:(gcx X scope cl NC C code bi A' s4 H1 fp (X.pn++pins)).Ok:=by
  refine⟨I.ok.mod,qh,I.ok.glob,hbi,wbe hC,λx y c h1 h2=>I.ok.inj x y c (hcl x c h1) (hcl y c h2),λx hx=>wu x hx,λx c hf _=>(by cases hf),λ_=>hA,hAf,.inr ⟨rfl,rfl⟩,λb hb=>⟨?_,λx c e=>?_⟩,λb o e=>I.bs b o e,?_,λb o e hb=>?_,λb hb hf=>?_,?_,λb hb=>I.stkFree b hb⟩
  .obtain⟨o,eo,_⟩:=obj b hb;exact wax (ltC eo)
  .exact(f2 b hb).2.2.2.2.1 x c (hcl x c e)
  .exact wao I.ok.bsz I.sz
  .obtain⟨e1,_⟩:=I.ok.bs b o e;have f:=f2 b hb
   rcases f.2.2.2.1 with z|z
   .exact I.ok.noex b o e z
   .exact absurd (waq (wal e1) z) (waT _)
  .rcases wap.mp (I.stkSub b hf) with z|z
   .exact(f2 b hb).2.1 z
   .exact(f2 b hb).2.2.1 z
  .exact I.stack
 refine⟨okC,rfl,hg,Un.kept k4,⟨_,hn'.push _,λi x v hN hv hvis=>?_⟩,λx c e=>?_,hCn,λx c e=>I.freeC x c (hcl x c e),λp hp=>?_,I.hok.kept k4,?_⟩
 .have hfi:∃j,fr[i]?=some (some j)/\Y[j]?=some (some v):=by
   unfold pick at hv;rw[wah] at hv;cases e1:fr[i]? with
  |none=>rw[e1] at hv;cases hv
  |some o=>
     rw[e1] at hv;cases o with
    |none=>cases hv
    |some j=>
       refine⟨j,rfl,?_⟩;have hv':(Y[j]?).join=some v:=was hv
       cases e2:Y[j]? with
      |none=>rw[e2] at hv';cases hv'
      |some w'=>rw[e2] at hv';exact wbi some hv'
  obtain⟨j,hj,hσ⟩:=hfi;obtain⟨q1,q2,q3,q4⟩:=hfr i x j hN hj;obtain⟨m,hm,hl⟩:=I.loc;obtain⟨u,ru,lk⟩:=hl j x v q1 hσ q2;refine⟨u,ru,?_⟩;rcases lk with⟨z,_⟩|⟨_,c,ec,ic⟩
  .exact absurd z q3
  .obtain⟨c',ec'⟩:=wu x q4;have:c'=c:=by rw[hcl x c' ec'] at ec;exact was ec
   subst this;obtain⟨oc,h1,h2⟩:=ic;exact .inr ⟨q4,c',ec',oc,k4 _ _ h1,h2⟩
 .obtain⟨v,oc,h1,h2⟩:=I.cell x c (hcl x c e);exact⟨v,oc,k4 _ _ h1,h2⟩
 .have hp':p∈(X.pn++pins)++[(h'.objs.size,og)]:=hp
  rcases waA.mp hp' with hp'|hp'
  .obtain⟨e1,e2,e3,e4,e5⟩:=I.pin p hp';refine⟨k4 _ _ e1,e2,wax (ltC e1),λz=>?_,e5⟩;rcases wap.mp (I.stkSub p.1 z) with z'|z'
   .exact e3 z'
   .exact e4 z'
  .rw[wag.mp hp'];have hle:s4.heap.objs.size<=h'.objs.size:=by omega
   exact⟨waw _ hfz,I.hok.fresh hle,by show h'.objs.size≠C;omega,stkNo _ hle,hog⟩
 .unfold pick;rw[waf];exact qe
def zl4 {X:Cx}{pins pins':List (Addr×Obj)}{s4 s':Sd}{Y Y':L2.St}{H1 H':Hp}{fp:List Addr}{scope:Scope}{cl:List (Str×Addr)}{NC:List Str}{C:Addr}{code:Vl}{bi:Addr}{A':Ao}{pn:List (Addr×Obj)}
 (I:Inv X pins Y H1 s4) (f2:∀b∈fp,FpOk X pins H1 b) (J:Inv (gcx X scope cl NC C code bi A' s4 H1 fp pn) pins' Y' H' s'):Inv X pins Y H' s':=
 I.call' J.os J.base J.hok J.bare λb hb=>let f:=f2 b hb;⟨f.2.2.2.1,f.2.1,f.2.2.2.2.1,f.2.2.2.2.2⟩
def zfe {X:Cx}{pins:List (Addr×Obj)}{Y:L2.St}{H:Hp}{s:Sd}{gs:Array GenState}(I:Inv X pins Y H s)(h:AllBare gs):Inv X pins Y H {s with gens:=gs}:=by
 obtain⟨a,b,c,d,e,f,g,h1,i,j,k⟩:=I;exact⟨a,b,h,d,e,f,g,h1,i,j,k⟩
def zaS {s:Sd}{g:Nat}{x:GenState}:(s.setGen g x).gens.size=s.gens.size:=by simp[Shared.setGen]
def zfY {M:Model}{B:PySem.Ctx}{p:Pos}{t:Sem Fin}{fs:List Frame}{s s':Sd}{e:End}(h:Runs M B p t fs s e s'):s.gens.size<=s'.gens.size:=by
 induction h <;> (try simp only[zaS,Array.size_push] at *) <;> omega
def zig {M:Model}{B:PySem.Ctx}{p:Pos}{g:Nat}{r:Resume}{s s':Sd}{res:GenResult}(h:Wakes M B p g r s res s'):s.gens.size<=s'.gens.size:=by
 have key:∀{A:PySem.Ctx}{q:Pos}{u:Sem Fin}{fs:List Frame}{e:End}{s1:Sd}{x:GenState},Runs M A q u fs (s.setGen g .running) e s1->s.gens.size<=(s1.setGen g x).gens.size:=λhr=>by
  have:=zfY hr
  rw[zaS] at this⊢;exact this
 unfold Wakes at h;split at h
 .exact h.elim
 .split at h
  .obtain⟨_,_,hr,_,_,rfl⟩:=h;exact key hr
  .exact wbe (by rw[h.2];try rw[zaS])
  .exact wbe (by rw[h.2];try rw[zaS])
 .obtain⟨_,_,hr,_,_,rfl⟩:=h;exact key hr
 .exact wbe (by rw[h.2];try rw[zaS])
 .exact wbe (by rw[h.2];try rw[zaS])
def zov {C:Type}(M:Model)(B:PySem.Ctx)(n:Nat)(t:Sem C):∀(Q:C->Pos->Sd->Prop) (E:Vl->Pos->Sd->Prop) (p:Pos) (s:Sd),n<=s.gens.size->Sem.wp M B t Q E p s->
 Sem.wp M B t (λa p' s'=>n<=s'.gens.size/\Q a p' s') (λe p' s'=>n<=s'.gens.size/\E e p' s') p s:=by
 induction t with
|pure a=>exact λQ E p s hn h=>⟨hn,h⟩
|raise e=>exact λQ E p s hn h=>⟨hn,h⟩
|newGen c k ih=>exact λQ E p s hn h=>ih _ Q E p _ (by show n<=(s.gens.push _).size;rw[Array.size_push];omega) h
|resume g r _ k ih=>exact λQ E p s hn h=>let ⟨res,s',hw,h⟩:=h;⟨res,s',hw,ih res Q E p s' (wao hn (zig hw)) h⟩
|call c hd _ _ k ih=>exact λQ E p s hn h=>let ⟨r,s',hr,h⟩:=h;⟨r,s',hr,ih r Q E p s' (wao hn (zfY hr)) h⟩
|load a _ k ih=>exact λQ E p s hn h=>let ⟨o,ho,h⟩:=h;⟨o,ho,ih o Q E p s hn h⟩
|genState g k ih=>exact λQ E p s hn h=>let ⟨st,hs,h⟩:=h;⟨st,hs,ih _ Q E p s hn h⟩
|update a _ f k ih=>exact λQ E p s hn h=>⟨h.1,ih () Q E p _ hn h.2⟩
|choose src m k ih=>exact λQ E p s hn h=>⟨h.1,ih _ Q E p _ hn h.2⟩
|rule _ k ih=>exact λQ E p s hn h=>ih () Q E p s hn h
|«at» p' k ih=>exact λQ E p s hn h=>ih () Q E p' s hn h
|point _ k ih=>exact λQ E p s hn h=>ih () Q E p s hn h
|loadIfAlive a k ih=>exact λQ E p s hn h=>ih _ Q E p s hn h
|alloc o k ih=>exact λQ E p s hn h=>ih _ Q E p _ hn h
|fresh k ih=>exact λQ E p s hn h=>ih _ Q E p _ hn h
|ask k ih=>exact λQ E p s hn h=>ih _ Q E p s hn h
|os q _ k ih=>exact λQ E p s hn h=>ih _ Q E p _ hn h
|handled own k ih=>exact λQ E p s hn h=>ih _ Q E p s hn h
|stack k ih=>exact λQ E p s hn h=>ih _ Q E p s hn h
|thread k ih=>exact λQ E p s hn h=>ih _ Q E p s hn h
|_=>exact λQ E p s hn h=>h
def zcz {C:Type}{M:Model}{A:Ao}{s:Sd}{t:Sem C}{Q:C->Sd->Prop}{E:Vl->Sd->Prop}{n:Nat}(hn:n<=s.gens.size)(h:wA M A t Q E s) :
 wA M A t (λa s'=>n<=s'.gens.size/\Q a s') (λe s'=>n<=s'.gens.size/\E e s') s:=
 λB p hΓ=>zov M B n t _ _ p s hn (h B p hΓ)
end GX
namespace GX
open PySem.Spec L2 PySem.W
def zl5 {X:Cx}{pins:List (Addr×Obj)}{Y:L2.St}{H:Hp}{s:Sd}{A:Ao}{tp:Array Vl}{scope:Scope}{pos:Pos}{c P:Addr}{q:Str}{Q:Vl->Sd->Prop}{E:Vl->Sd->Prop}(I:Inv X pins Y H s)(hcd:X.env.code=.ref c)(hC:CodeK X.K c P)
 (hH:H P=some (.tbl tp)) (hps:tp[0]?=some (Value.str q 0)) (hq:X.env.qual++"<genexpr>"=q)
 (h:∀(code:Vl) (H1:Hp) (s':Sd),(∀b o,H b=some o->H1 b=some o)->(∀b,H1 b=none->H b=none)->(∀b,b<s.heap.objs.size->H b=none->H1 b=none)->(∀b o,b≠P->s.heap.get? b=some o->s'.heap.get? b=some o)->s.gens.size<=s'.gens.size->Inv X pins Y H1 s'->Q code s') :
 wA (model X.prog X.w) A (genexprCode X.env pos (X.env.qual++"<genexpr>") scope) Q E s:=by
 obtain⟨ps,hP,ht⟩:=I.tblAt hH;have C:=hC.hd I.kIn
 rw[hq];cases e:codeAmong pos ps.toList with
|none=>
   refine wpAny_genexprCodeX hcd (C.code hP ht.1) (C.tab hP) e λc' h' tk hx hge hlt _ hrec htb _=>?_
   obtain⟨c2,oc,vs,t,e2,hoc,hd,hv⟩:=hrec;cases e2;have J:=I.grownC (t':=tk) hH hps ht (λb o hb e=>hx b o hb e) htb.2 hge hoc hd hv
   have hn:H c'=none:=I.hok.fresh hge
   refine h (.ref c') _ _ (λb o q=>by rw[zaf (λz=>by rw[z,hn] at q;cases q)];exact q) (λb q=>?_) (λb hb q=>by rw[zaf (λz=>by rw[z] at hb;exact absurd (waq hb hge) (waT _))];exact q) (λb o hb e=>hx b o hb e) (wan _) J;by_cases z:b=c'
   .rw[z];exact hn
   .rw[zaf z] at q;exact q
|some cv=>
   refine wpAny_genexprCode_hit hcd (C.code hP ht.1) e ?_;exact h cv H s (λ_ _ q=>q) (λ_ q=>q) (λ_ _ q=>q) (λ_ _ _ e=>e) (wan _) I
def zfZ {X:Cx}{pins:List (Addr×Obj)}{Y:L2.St}{H:Hp}{s:Sd}{A:Ao}{bm:Addr}{ob:Obj}{Q:Addr->Sd->Prop}{E:Vl->Sd->Prop}(I:Inv X pins Y H s)(hB:BMod X.base mG X.mg bm ob)(h:Q bNs s) :
 wA (model X.prog X.w) A (builtinsFor X.env.globals X.env.builtins) Q E s:=by
 have hg:=I.mod.glob.keeps I.bk
 rw[I.ok.glob];exact wpAny_builtinsFor hg hB.name hB.ne (I.bk _ _ hB.obj) hB.cls hB.dict hB.data h
section
variable {X:Cx}{elt tg qb:Expr}{scope:Scope}{qx:Pos}{cl:List (Str×Addr)}{NC:List Str}{fr:List (Option Nat)}{g:TG}{te:TE}
def aG (X:Cx)(c:Code):Ao:=X.A.in1.in1.over c []
def ogen (g:Nat)(x y:Vl):Obj:={cls:=.type "generator",data:=.fields #[.int g 0,x,y]}
def zih {X:Cx}{it:Vl}{qz:Env}(h:X.A.frames=some X.stack):(aG X (zbl elt tg qb scope qx it qz)).frames=some (qz::X.stack):=by
 show pushEnvs (zbl elt tg qb scope qx it qz).envs (pushEnvs (envsOf ([].map Frame.where_)) X.A.frames)=_
 rw[h];rfl
def Sta (G:Cx)(fp:List Addr)(tn:Nat->Heap->Prop)(a:Addr)(og:Obj)(g:Nat)(W:Nat->L2.St->Hp->Prop):GP:=λi s=>g<s.gens.size/\tn i s.heap/\∃Y H,Inv G [(a,og)] Y H s/\(∀b∈fp,H b=none)/\W i Y H
def zf0 {G:Cx}{fp:List Addr}{tn:Nat->Heap->Prop}{a:Addr}{x y:Vl}{g:Nat}{W:Nat->L2.St->Hp->Prop}:Holds a g (Sta G fp tn a (ogen g x y) g W) (Sta G fp tn a (ogen g x y) g W) where
 bare:=λi s ⟨_,_,Y,H,J,_,_⟩=>J.bare
 gen:=λi s ⟨_,_,Y,H,J,_,_⟩=>⟨_,x,y,(J.pin (a,ogen g x y) (wat _ (wag.mpr rfl))).1,rfl,rfl,rfl⟩
 lim:=λi s ⟨_,_,Y,H,J,_,_⟩=>J.nolimit
 size:=λi s h=>h.1
 on:=λi s gs hb ⟨h1,h2,Y,H,J,h3,h4⟩=>by
  have b1:AllBare (s.setGen g gs).gens:=zde J.bare hb rfl
  have b2:AllBare ((s.setGen g gs).setGen g .running).gens:=zde b1 rfl rfl
  exact⟨by rw[zaS,zaS];exact h1,h2,Y,H,zfe (s:=s) (gs:=((s.setGen g gs).setGen g .running).gens) J b2,h3,h4⟩
def zow {pins:List (Addr×Obj)}{Y:L2.St}{s4:Sd}{H1:Hp}{fp:List Addr}{it:Addr}{tn:Nat->Heap->Prop}{J:It}{code:Vl}{Q:VK}{n:Nat}{tr:Nat->Bool}{W:Nat->L2.St->Hp->Prop}{mm:Str->Option Vl}{h':Heap}{tk:Nat}{x y:Vl}
 (I:Inv X pins Y H1 s4) (T:Turn X.prog X.w X.K tg J fp it tn) (st:tn 0 s4.heap) (f2:∀b∈fp,FpOk X pins H1 b) (hh:X.A.handled=none) (qT:X.A.depth<recursionLimit) (hco:scope.isCoroutine=false) (qh:scope.kind=.function)
 (hcl:∀x c,cl.lookup x=some c->X.env.cells.lookup x=some c)
 (wu:∀x,(scope.names.lookup x=some .cell\/scope.names.lookup x=some .free)->∃c,cl.lookup x=some c)
 (hfr:∀(i:Nat) (x:Str) (j:Nat),NC[i]?=some x->fr[i]?=some (some j)->X.N[j]?=some x/\Vis X.env.scope x/\X.env.kindOf x≠some .local/\(scope.names.lookup x=some .cell\/scope.names.lookup x=some .free))
 (qe:fr.length=NC.length)
 (hg:PG (gcx X scope cl NC s4.heap.objs.size code bNs (aG X (zbl elt tg qb scope qx (.ref it) (genEnv scope cl s4.heap.objs.size code bNs X.env))) s4 H1 fp (X.pn++pins)) tg g)
 (he:PE (gcx X scope cl NC s4.heap.objs.size code bNs (aG X (zbl elt tg qb scope qx (.ref it) (genEnv scope cl s4.heap.objs.size code bNs X.env))) s4 H1 fp (X.pn++pins)) elt te)
 (w0:W 0 (pick Y fr) H1) (step:∀i Y2 H2,i<n->W i Y2 H2->J.go i H2/\∀x H3,J.yld i H2 x H3->g x Y2 H3 λY4 H4=>te Y4 H4 λv H6=>v=.bl (tr i)/\W (i+1) Y4 H6)
 (stop:∀i Y2 H2,i<n->tr i=false->W (i+1) Y2 H2->Q (.bl ((List.range n).all tr)) H2) (done:∀Y2 H2,W n Y2 H2->J.stop n H2/\Q (.bl ((List.range n).all tr)) H2)
 (hn':h'.Ns s4.heap.objs.size mm) (hs':Heap.SameBut s4.heap.objs.size (s4.heap.push frO) h') :
 wA (model X.prog X.w) X.A (call (.builtin "all") [.ref h'.objs.size]) (EP X pins Y Q) X.xe {s4 with gens:=s4.gens.push (.fresh (zef elt tg qb scope qx (.ref it) (genEnv scope cl s4.heap.objs.size code bNs X.env))),toks:=tk,heap:=h'.push (ogen s4.gens.size x y)}:=by
 generalize hL:zbl elt tg qb scope qx (.ref it) (genEnv scope cl s4.heap.objs.size code bNs X.env)=L at hg he;generalize hG:gcx X scope cl NC s4.heap.objs.size code bNs (aG X L) s4 H1 fp (X.pn++pins)=G at hg he;have gA:G.A=aG X L:=by rw[<-hG];rfl
 have gp:G.prog=X.prog:=by rw[<-hG];rfl
 have gw:G.w=X.w:=by rw[<-hG];rfl
 have gK:G.K=X.K:=by rw[<-hG];rfl
 have gc:G.calm=true:=by rw[<-hG];rfl
 have gE:G.env=genEnv scope cl s4.heap.objs.size code bNs X.env:=by rw[<-hG];rfl
 have gx:G.xe=λ_ _=>False:=by rw[<-hG];rfl
 have gfs:∀{Y':L2.St}{H':Hp}{s':Sd},Inv G [(h'.objs.size,ogen s4.gens.size x y)] Y' H' s'->Inv X pins Y H' s':=λ{Y' H' s'} J'=>by
  subst hG;exact zl4 I f2 J'
 have obj:∀b∈fp,∃o,s4.heap.get? b=some o/\∀v,o.data≠.cell v:=T.obj 0 _ st
 have start:∀gs:Array GenState,AllBare gs->Inv G [(h'.objs.size,ogen s4.gens.size x y)] (pick Y fr) H1 {s4 with gens:=gs,toks:=tk,heap:=h'.push (ogen s4.gens.size x y)}:=λgs hb=>by
  subst hG;refine zou I f2 obj qh rfl hcl wu hfr qe hh ?_ hn' hs' hb (λv e=>by cases e) rfl;subst hL;exact zih I.ok.frames
 have fC:∀{H':Hp},(∀b∈fp,H' b=none)->∀b∈fp,FpOk G [(h'.objs.size,ogen s4.gens.size x y)] H' b:=λ{H'} hn b hb=>by
  obtain⟨q1,q2,q3,q4,q5,q6⟩:=f2 b hb;obtain⟨o,eo,_⟩:=obj b hb;have lt:b<s4.heap.objs.size:=wal eo
  subst hG;refine⟨hn b hb,wax lt,λz=>?_,.inl hb,λx c e=>q5 x c (hcl x c e),λp hp z=>?_⟩
  .rcases wap.mp (I.stkSub b z) with z'|z'
   .exact q2 z'
   .exact q3 z'
  .have hp':p∈(X.pn++pins)++[(h'.objs.size,ogen s4.gens.size x y)]:=hp
   rcases waA.mp hp' with hp'|hp'
   .exact q6 p hp' z
   .rw[wag.mp hp'] at z;have:h'.objs.size=s4.heap.objs.size+1:=by rw[hs'.1,wbJ]
    have z:b=s4.heap.objs.size+1:=(show h'.objs.size=b from z).symm.trans this
    rw[z] at lt;exact absurd lt (Nat.not_lt.mpr (wci _))
 have st5:tn 0 (h'.push (ogen s4.gens.size x y)):=T.keep _ _ _ st λb hb o e=>wae _ (hs'.extBut b o (wax (wal e)) (wae _ e))
 have qC:∀i s,i<n->Sta G fp tn h'.objs.size (ogen s4.gens.size x y) s4.gens.size W i s->wA (model X.prog X.w) (aG X L) (pyNext (.ref it)) (λr s1=>∃v,r=some v/\
  wA (model X.prog X.w) (aG X L) (letOwnedTupleGo tg (.ref it) v) (λ_ s2=>wA (model X.prog X.w) (aG X L) (assign tg G.env v) (λ_ s3=>
   wA (model X.prog X.w) (aG X L) (eval elt G.env) (λy' s4'=>y'=.bool (tr i)/\Sta G fp tn h'.objs.size (ogen s4.gens.size x y) s4.gens.size W (i+1) s4') (λ_ _=>False) s3) (λ_ _=>False) s2) (λ_ _=>False) s1) (λ_ _=>False) s:=λi s hi ⟨h1,h2,Y2,H2,J2,h3,h4⟩=>by
  obtain⟨go,next⟩:=step i Y2 H2 hi h4;have q:=T.item G gp gw gK gc i _ s Y2 H2 (λ_ _=>False) J2 (fC h3) h2 go
  rw[gA] at q;refine wav (zcz (n:=s4.gens.size+1) h1 q) (λr s1 ⟨n1,u,hr,q1⟩=>⟨u,hr,?_⟩) λ_ _ z=>z.2
  refine wav (zcz n1 q1) (λ_ s2 ⟨n2,v,H3,J3,r3,y3,t3,f3⟩=>?_) λ_ _ z=>z.2
  have J3':=J3.pinned (fC f3) (T.obj _ _ t3)
  have q2:=hg _ s2 Y2 H3 v u _ J3' r3 (next v H3 y3)
  rw[gp,gw,gA,gx] at q2;refine wav (zcz n2 q2) (λ_ s3 ⟨n3,Y4,H4,J4,q4⟩=>?_) λ_ _ z=>z.2
  have q3:=he _ s3 Y4 H4 _ J4 q4
  rw[gp,gw,gA,gx] at q3;refine wav (zcz n3 q3) (λy' s5 ⟨n5,v',H6,J6,r6,hv,w6⟩=>?_) λ_ _ z=>z.2
  subst hv;refine⟨r6,n5,T.keep _ _ _ t3 λb hb o e=>(J6.pin (b,o) (wat _ (wat _ (zbv hb e)))).1,Y4,H6,J6.unpinned,λb hb=>?_,w6⟩;obtain⟨o,e,_⟩:=T.obj _ _ t3 b hb;exact(J6.pin (b,o) (wat _ (wat _ (zbv hb e)))).2.1
 have fin:∀s,Sta G fp tn h'.objs.size (ogen s4.gens.size x y) s4.gens.size W n s->wA (model X.prog X.w) (aG X L) (pyNext (.ref it)) (λr s1=>r=none/\∃Y' H',Inv G [(h'.objs.size,ogen s4.gens.size x y)] Y' H' s1/\Q (.bl ((List.range n).all tr)) H') (λ_ _=>False) s:=λs ⟨h1,h2,Y2,H2,J2,h3,h4⟩=>by
  obtain⟨go,hq⟩:=done Y2 H2 h4;have q:=T.done G gp gw gK gc n _ s Y2 H2 (λ_ _=>False) J2 (fC h3) h2 go
  rw[gA] at q;exact wav q (λr s1 ⟨hr,J3⟩=>⟨hr,Y2,H2,J3,hq⟩) λ_ _ z=>z
 have wl:∀s₀ s,Sta G fp tn h'.objs.size (ogen s4.gens.size x y) s4.gens.size W 0 s->Seg (model X.prog X.w) X.A.in1.in1 (gend λs1=>∃Y' H',Inv G [(h'.objs.size,ogen s4.gens.size x y)] Y' H' s1/\Q (.bl ((List.range n).all tr)) H') (zif n (λi v=>v=.bool (tr i)) (Sta G fp tn h'.objs.size (ogen s4.gens.size x y) s4.gens.size W) (Sta G fp tn h'.objs.size (ogen s4.gens.size x y) s4.gens.size W)) n s₀ L ((model X.prog X.w).den L) [] s:=λs₀ s hs=>by
  rw[gE] at qC;subst hL;exact zl1 hco qC fin n 0 s₀ s (Nat.sub_zero _) (wbx _) hs
 have self:∀(A':Ao) s,Sta G fp tn h'.objs.size (ogen s4.gens.size x y) s4.gens.size W 0 s->wA (model X.prog X.w) A' (pyIter (.ref it)) (λz s'=>z=.ref it/\Sta G fp tn h'.objs.size (ogen s4.gens.size x y) s4.gens.size W 0 s') (λ_ _=>False) s:=λA' s hs=>T.self A' 0 s _ _ hs.2.1 ⟨rfl,hs⟩
 have ws:∀s₀ s,Sta G fp tn h'.objs.size (ogen s4.gens.size x y) s4.gens.size W 0 s->Seg (model X.prog X.w) X.A.in1.in1 (gend λs1=>∃Y' H',Inv G [(h'.objs.size,ogen s4.gens.size x y)] Y' H' s1/\Q (.bl ((List.range n).all tr)) H') (zif n (λi v=>v=.bool (tr i)) (Sta G fp tn h'.objs.size (ogen s4.gens.size x y) s4.gens.size W) (Sta G fp tn h'.objs.size (ogen s4.gens.size x y) s4.gens.size W)) n s₀ (zef elt tg qb scope qx (.ref it) (genEnv scope cl s4.heap.objs.size code bNs X.env)) ((model X.prog X.w).den (zef elt tg qb scope qx (.ref it) (genEnv scope cl s4.heap.objs.size code bNs X.env))) [] s:=λs₀ s hs=>by
  subst hL;exact zkb wl self s₀ s hs
 have b0:AllBare (s4.gens.push (.fresh (zef elt tg qb scope qx (.ref it) (genEnv scope cl s4.heap.objs.size code bNs X.env)))):=AllBare.push I.bare rfl
 have sta0:∀gs:Array GenState,AllBare gs->s4.gens.size<gs.size->Sta G fp tn h'.objs.size (ogen s4.gens.size x y) s4.gens.size W 0 {s4 with gens:=gs,toks:=tk,heap:=h'.push (ogen s4.gens.size x y)}:=λgs hb hz=>⟨hz,st5,_,H1,start gs hb,λb hb=>(f2 b hb).1,w0⟩
 have I5:=start _ b0
 have at0:At X.prog X.w X.A.in1 h'.objs.size s4.gens.size n (λi v=>v=.bool (tr i)) (Sta G fp tn h'.objs.size (ogen s4.gens.size x y) s4.gens.size W) (Sta G fp tn h'.objs.size (ogen s4.gens.size x y) s4.gens.size W) (λs1=>∃Y' H',Inv G [(h'.objs.size,ogen s4.gens.size x y)] Y' H' s1/\Q (.bl ((List.range n).all tr)) H') 0 {s4 with gens:=s4.gens.push (.fresh (zef elt tg qb scope qx (.ref it) (genEnv scope cl s4.heap.objs.size code bNs X.env))),toks:=tk,heap:=h'.push (ogen s4.gens.size x y)}:=by
  refine⟨b0,⟨_,x,y,waw _ rfl,rfl,rfl,rfl⟩,I5.nolimit,⟨_,Array.getElem?_push_size ..,λs'' hs=>⟨rfl,?_⟩⟩,?_⟩
  .rw[Nat.sub_zero];exact ws s'' s'' hs
  .exact sta0 _ (zde b0 rfl rfl) (by show s4.gens.size<((s4.gens.push _).setIfInBounds _ _).size;simp)
 refine zl3 (P:=λi v=>v=.bool (tr i)) (Wt:=λi s=>At X.prog X.w X.A.in1 h'.objs.size s4.gens.size n (λi v=>v=.bool (tr i)) (Sta G fp tn h'.objs.size (ogen s4.gens.size x y) s4.gens.size W) (Sta G fp tn h'.objs.size (ogen s4.gens.size x y) s4.gens.size W) (λs1=>∃Y' H',Inv G [(h'.objs.size,ogen s4.gens.size x y)] Y' H' s1/\Q (.bl ((List.range n).all tr)) H') i s)
  (Fin:=λs'=>∃H',Inv X pins Y H' s'/\Q (.bl ((List.range n).all tr)) H') (tr:=tr) (n:=n) ?_ ?_ ?_ ?_ at0.gen at0 λs' ⟨H',J',q⟩=>⟨.bl _,H',J',rfl,q⟩
 .intro i v s Q' E' hv hq;subst hv;exact wak hq
 .intro i s hi hs;refine zkd hh qT zf0 hi hs λv s1 gs hP hM hb hA=>⟨v,rfl,hP,hA⟩
 .intro s hs;refine zke hh qT zf0 hs λs1 h2 ⟨Y',H',J',hq⟩ hk=>⟨rfl,H',?_,hq⟩
  have J2:=gfs J'
  exact(zfe (s:=s1) (gs:=(s1.setGen s4.gens.size .finished).gens) J2 (zde J2.bare rfl rfl)).kept (t':=s1.toks) hk
 .intro i s hi ht hs;obtain⟨h1,h2,Y',H',J',_,w'⟩:=hs.run;have J2:=gfs J'
  exact⟨H',zfe (s:=s.setGen s4.gens.size .running) (gs:=s.gens) J2 hs.bare,stop i Y' H' hi ht w'⟩
end
def tAll (fr:List (Option Nat))(wi:TI)(g:TG)(te:TE):TE:=λY H Q=>wi Y H λJ H1=>∀H3:Hp,(∀b o,H1 b=some o->H3 b=some o)->(∀b,H3 b=none->H1 b=none)->∃(n:Nat) (tr:Nat->Bool) (W:Nat->L2.St->Hp->Prop),W 0 (pick Y fr) H3/\
 (∀i Y2 H2,i<n->W i Y2 H2->J.go i H2/\∀x H3,J.yld i H2 x H3->g x Y2 H3 λY4 H4=>te Y4 H4 λv H6=>v=.bl (tr i)/\W (i+1) Y4 H6)/\
 (∀i Y2 H2,i<n->tr i=false->W (i+1) Y2 H2->Q (.bl ((List.range n).all tr)) H2)/\∀Y2 H2,W n Y2 H2->J.stop n H2/\Q (.bl ((List.range n).all tr)) H2
def zqU {X:Cx}{elt tg qb:Expr}{scope:Scope}{qx np qt:Pos}{cl:List (Str×Addr)}{NC:List Str}{fr:List (Option Nat)}{wi:TI}{g:TG}{te:TE}{c P bm:Addr}{ob:Obj}{q:Str}{RR:Hp->Prop}(hRR:∀pins Y H s,Inv X pins Y H s->RR H)
 (qm:X.calm=true) (B:Blt X.mg) (hi:PI X tg qb wi) (wL:closureFor scope X.env=pure cl) (qg:∀y∈scope.names,y.2≠.cell) (h0:scope.names.lookup (".0":Str)=some NameKind.local) (qh:scope.kind=.function) (hco:scope.isCoroutine=false) (qT:X.A.depth<recursionLimit)
 (hcl:∀x c,cl.lookup x=some c->X.env.cells.lookup x=some c)
 (wu:∀x,(scope.names.lookup x=some .cell\/scope.names.lookup x=some .free)->∃c,cl.lookup x=some c)
 (hfr:∀(i:Nat) (x:Str) (j:Nat),NC[i]?=some x->fr[i]?=some (some j)->X.N[j]?=some x/\Vis X.env.scope x/\X.env.kindOf x≠some .local/\(scope.names.lookup x=some .cell\/scope.names.lookup x=some .free))
 (qe:fr.length=NC.length) (hcd:X.env.code=.ref c) (hC:CodeK X.K c P) (hB:BMod X.base mG X.mg bm ob) (hT:∀pins Y H s,Inv X pins Y H s->VD.TabH P q H) (hq:X.env.qual++"<genexpr>"=q)
 (hg:∀C code it s0 H0 ex pn,PG (gcx X scope cl NC C code bNs (aG X (zbl elt tg qb scope qx it (genEnv scope cl C code bNs X.env))) s0 H0 ex pn) tg g)
 (he:∀C code it s0 H0 ex pn,RR H0->PE (gcx X scope cl NC C code bNs (aG X (zbl elt tg qb scope qx it (genEnv scope cl C code bNs X.env))) s0 H0 ex pn) elt te)
 (hgl:Gl X "all":=by rfl) (hs:∀x,genFold qb X.env x=pure x:=by intro _;rfl)
 (he1:sE [.GeneratorExp elt [⟨tg,qb,[],0⟩] scope qx] X.env=(false,eval (.GeneratorExp elt [⟨tg,qb,[],0⟩] scope qx) X.env)::sE [] X.env:=by rfl) :
 PE X (.Call (.Name "all" np) [.GeneratorExp elt [⟨tg,qb,[],0⟩] scope qx] [] qt) (tAll fr wi g te):=by
 intro pins s Y H Q I h;refine waQ (zcZ I hgl (B "all" (by decide +kernel)) boot_all ?_ (by decide) (by decide));refine PyProof.Rows.callWith_builtin1 ?_ he1 rfl;rw[he1];refine wbG ?_;refine wpAny_GeneratorExp_make hco wL qg h0 qh qT (thn (hi pins s Y H _ I h) λv s1 h1=>thn h1 λitv s2 h2=>?_) hs;obtain⟨it,fp,tn,J,H1,rfl,I2,T,st2,f2,hW⟩:=h2;obtain⟨tp,hH,hps⟩:=hT _ _ _ _ I2;refine⟨I2.nolimit,zl5 I2 hcd hC hH hps hq λcode H3 s3 k1 k2 k3 k4 k5 I3=>zfZ I3 hB ?_⟩;intro h' hn' hs';obtain⟨n,tr,W,w0,step,stop,done⟩:=hW H3 k1 k2;have lt:∀b∈fp,b<s2.heap.objs.size:=λb hb=>let ⟨o,e,_⟩:=T.obj _ _ st2 b hb;wal e
 have st3:tn 0 s3.heap:=T.keep _ _ _ st2 λb hb o e=>k4 b o (λz=>by
  have:=(f2 b hb).1
  rw[z,hH] at this;cases this) e
 have f3:∀b∈fp,FpOk X pins H3 b:=λb hb=>⟨k3 b (lt b hb) (f2 b hb).1,(f2 b hb).2⟩
 have run:=λtk=>zow (Q:=Q) (tk:=tk) (x:=.str "<genexpr>" (s3.toks+1)) (y:=.str (X.env.qual++"<genexpr>") (s3.toks+1+1)) I3 T st3 f3 (I.ok.hd qm) qT hco qh hcl wu hfr qe (hg _ code _ _ _ _ _) (he _ code _ _ _ _ _ (hRR _ _ _ _ I3)) w0 step stop done hn' hs'
 exact wak (run _)
end GX
namespace VD
open PySem.Spec L2 PySem.W GX
def zff (f:D->Option Bool):List D->Option (List Bool)
|[]=>some []
|d::ds=>(f d).bind λb=>(zff f ds).bind λbs=>some (b::bs)
theorem zf1 {f:D->Option Bool}:∀{ds:List D}{bs:List Bool},zff f ds=some bs->bs.length=ds.length/\∀(i:Nat) (d:D),ds[i]?=some d->f d=some (bs.getD i true)
|[],bs,e=>by cases e;exact⟨rfl,λi d h=>by simp at h⟩
|d::ds,bs,e=>by
   obtain⟨b,e1,e⟩:=bS e;obtain⟨bs',e2,e⟩:=bS e;cases e;obtain⟨l,h⟩:=zf1 e2;refine⟨by simp[l],λi x hx=>?_⟩;cases i with
  |zero=>cases hx;exact e1
  |succ i=>exact h i x (by simpa using hx)
def zkf (bs:List Bool):(List.range bs.length).all (λi=>bs.getD i true)=bs.all id:=by
 rw[wbO,waB,waB];constructor
 .intro h b hb;obtain⟨i,hi,rfl⟩:=List.mem_iff_getElem.mp hb;have:=h i (wbI.mpr hi)
  simpa[List.getD,wac hi] using this
 .intro h i hi;have hi:=wbI.mp hi
  have:=h bs[i] (List.getElem_mem hi)
  simpa[List.getD,wac hi] using this
def eAll (fr:List (Option Nat))(fi:FA)(g:FG)(fe:FE):FE:=λZ=>(fi Z).bind λds=>(zff (λd=>(g d (zaE Z fr)).bind λZ1=>(fe Z1).bind dB) ds).bind λbs=>some (.bl (bs.all id))
def zqV {K:Fg}{fr:List (Option Nat)}{wi:TI}{fi:FA}{g:FG}{is:List Nat}{fe:FE}(hi:GoI K wi fi)(hon:∀d Z Z',g d Z=some Z'->Only is Z Z')(hap:apart is fr=true) :
 GoE K (tAll fr wi (TGof K g) (TEof K fe)) (eAll fr fi g fe):=by
 intro Hz Jz O Z Y H J out Q s e w;obtain⟨ds,e1,e⟩:=bS e;obtain⟨bs,e2,e⟩:=bS e;cases e;obtain⟨bl,bg⟩:=zf1 e2;refine hi Hz Jz O Z Y H J ds _ s e1 λI H1 J1 u1 src=>?_
 intro H3 k1 k2;have u0:Up H1 J1 H3 J1:=⟨λb o h=>k1 b o h,λ_ h=>h,λ_ h=>.inl h,λa h z=>u1.ja a h (k2 a z)⟩
 have fin:∀H2 J2,Up H1 J1 H2 J2->Q (.bl ((List.range ds.length).all λi=>bs.getD i true)) H2:=λH2 J2 u2=>by
  rw[<-bl,zkf];exact w _ H2 J2 (u1.trans u2) (.bl _)
 refine⟨ds.length,λi=>bs.getD i true,λi Y2 H2=>i<=ds.length/\∃J2,ST K Hz Jz O.blk (zaE Z fr) Y2 H2 J2/\Up H1 J1 H2 J2,⟨wbx _,J1,((s.up u1).up u0).pick fr,u0⟩,?_,?_,?_⟩
 .rintro i Y2 H2 hlt ⟨_,J2,s2,u2⟩;obtain⟨_,qC⟩:=src H2 J2 u2.keep s2.ja;have hd:ds[i]?=some ds[i]:=wac hlt
  obtain⟨go,yl⟩:=qC i _ hd;obtain⟨Z1,eg,ee⟩:=bS (bg i _ hd);obtain⟨xd,ex,eb⟩:=bS ee;refine⟨go,λx H4 y=>?_⟩;obtain⟨J3,u3,r3⟩:=yl x H4 y;have wk:Weak (zaE Z fr) Z1:=ze2 (hon _ _ _ eg) hap
  refine⟨Hz,Jz,O.blk,zaE Z fr,J3,_,Z1,s2.up u3,r3,eg,λY4 s4=>?_⟩;refine⟨Hz,Jz,O.blk,Z1,J3,xd,s4,ex,λv H6 J6 u6 r6=>?_⟩;have hxd:xd=.bl (bs.getD i true):=by
   cases xd with
  |bl b=>cases eb;rfl
  |_=>cases eb
  subst hxd;cases r6;exact⟨rfl,hlt,J6,(s4.up u6).weak wk rfl,u2.trans (u3.trans u6)⟩
 .rintro i Y2 H2 _ _ ⟨_,J2,_,u2⟩;exact fin H2 J2 u2
 .rintro Y2 H2 ⟨_,J2,s2,u2⟩;obtain⟨stop,_⟩:=src H2 J2 u2.keep s2.ja;exact⟨stop,fin H2 J2 u2⟩
def zmQ (N:List Str)(st:Stmt){X:Cx}{elt qb tg:Expr}{scope:Scope}{qx np qt:Pos}{NC:List Str}(fr:List (Option Nat)){fi:FA}{g:FG}{is:List Nat}{fe:FE}{q:Str}{RR:Hp->Prop}(hRR:∀pins Y H s,Inv X pins Y H s->RR H)(qm:X.calm=true)(B:Blt X.mg)(hi:VI X tg qb fi)(TX:TabX X q)(qT:X.A.depth<recursionLimit)
 (ql:∀x,X.env.scope.names.lookup x=some .cell->∃c,X.env.cells.lookup x=some c) (hfk:X.env.scope.kind=.function) (hN:X.N=N) (hsc:X.env.scope.names=(zab st).names)
 (qj:∀y∈scope.names,y.2=.free->(zab st).names.lookup y.1=some .cell) (qg:∀y∈scope.names,y.2≠.cell) (qh:scope.kind=.function) (hco:scope.isCoroutine=false) (h0:scope.names.lookup (".0":Str)=some NameKind.local)
 (qD:zbS N (zab st).names scope.names NC fr=true) (qe:fr.length=NC.length) (hap:apart is fr=true) (hq:X.env.qual++"<genexpr>"=q)
 (hg:∀cl C code it s0 H0 ex pn,VG (gcx X scope cl NC C code bNs (aG X (zbl elt tg qb scope qx it (genEnv scope cl C code bNs X.env))) s0 H0 ex pn) tg is g)
 (he:∀cl C code it s0 H0 ex pn,RR H0->VE (gcx X scope cl NC C code bNs (aG X (zbl elt tg qb scope qx it (genEnv scope cl C code bNs X.env))) s0 H0 ex pn) elt fe)
 (hgl:Gl X "all":=by rfl) (hs:∀x,genFold qb X.env x=pure x:=by intro _;rfl)
 (he1:sE [.GeneratorExp elt [⟨tg,qb,[],0⟩] scope qx] X.env=(false,eval (.GeneratorExp elt [⟨tg,qb,[],0⟩] scope qx) X.env)::sE [] X.env:=by rfl) :
 VE X (.Call (.Name "all" np) [.GeneratorExp elt [⟨tg,qb,[],0⟩] scope qx] [] qt) (eAll fr fi g fe):=by
 obtain⟨wi,pi,gi⟩:=hi;obtain⟨c,P,bm,ob,e1,e2,e3,hT⟩:=TX;obtain⟨_,_,hon,_⟩:=hg [] 0 .none .none X.s₀ X.Hz [] [];have qW:∀y∈scope.names,y.2=.free->X.env.scope.names.lookup y.1=some .cell:=by rw[hsc];exact qj
 have hfr:zbS X.N X.env.scope.names scope.names NC fr=true:=by rw[hsc,hN];exact qD
 have hc:∀y∈scope.names,y.2=.free->∃c,X.env.cells.lookup y.1=some c:=λy hy h=>ql _ (qW y hy h)
 refine⟨_,zqU (fr:=fr) (NC:=NC) (cl:=clo X.env.cells scope.names []) (RR:=RR) hRR qm B pi (zhj hc) qg h0 qh hco qT (λx c e=>zdU _ _ _ (λ_ _ z=>by cases z) hc x c e) (λx hx=>?_) (λi x j h1 h2=>?_) qe e1 e2 e3 (λpins Y H s I=>pers_T.st I.base hT) hq (λC code it s0 H0 ex pn=>(hg _ C code it s0 H0 ex pn).of) (λC code it s0 H0 ex pn rH=>(he _ C code it s0 H0 ex pn rH).of) hgl hs he1,zqV gi hon hap⟩
 .refine zdV _ _ _ x (.inr (zbw ?_));rcases hx with e|e
  .exact absurd rfl (qg _ (zbw e))
  .exact e
 .have hm:(x,some j)∈NC.zip fr:=by
   have:(NC.zip fr)[i]?=some (x,some j):=by rw[wbK];exact⟨h1,h2⟩
   exact way this
  have q:=waB.mp hfr _ hm
  have q':((X.N[j]? == some x)&&(X.env.scope.names.lookup x == some .cell)&&(scope.names.lookup x == some .free))=true:=q
  simp only[waF,beq_iff_eq] at q';obtain⟨⟨q1,q2⟩,q3⟩:=q';refine⟨q1,.inr (.inl q2),?_,.inr q3⟩;intro z;have z':X.env.scope.names.lookup x=some .local:=z
  rw[q2] at z';cases z'
def vgg (i:Nat){X:Cx}{scope:Scope}{cl:List (Str×Addr)}{NC:List Str}{C:Addr}{code:Vl}{bi:Addr}{A':Ao}{s0:Sd}{H0:Hp}{ex:List Addr}{pn:List (Addr×Obj)}{x:Str}{pos:Pos}(nd:NC.Nodup:=by decide +kernel)(hi:NC[i]?=some x:=by rfl)(hx:scope.names.lookup x=some .local:=by rfl) :
 VG (gcx X scope cl NC C code bi A' s0 H0 ex pn) (.Name x pos) [i] (gN i):=⟨_,zgs (X:=gcx X scope cl NC C code bi A' s0 H0 ex pn) nd hi (.inl hx) (.inr hx),zgA⟩
def zhJ {X:Cx}{k:Nat}{elt tg qb:Expr}{scope:Scope}{qx:Pos}{it:Vl}{qz:Env}(r:Room (k+1) X.A):Room k (aG X (zbl elt tg qb scope qx it qz)):=by
 have hd:=r.dp
 have hu:=r.un
 refine⟨r.hd,?_,?_,?_⟩
 .show X.A.depth+0+(zbl elt tg qb scope qx it qz).weight+3*k+5<recursionLimit
  have:(zbl elt tg qb scope qx it qz).weight=1:=rfl
  omega
 .show X.A.units+1+1+0+(zbl elt tg qb scope qx it qz).cUnits+16*k+200<cLine
  have:(zbl elt tg qb scope qx it qz).cUnits<=3:=by first|exact wan _|decide
  omega
 .show pushGuards (zbl elt tg qb scope qx it qz).guards (pushGuards [] X.A.guards)=some []
  rw[r.gd];rfl
def zqW (N:List Str)(st:Stmt){X:Cx}{k:Nat}{elt qb tg:Expr}{scope:Scope}{qx np qt:Pos}{NC:List Str}(fr:List (Option Nat)){fi:FA}{g:FG}{is:List Nat}{fe:FE}{q:Str}(hr:Room k X.A)(B:Blt X.mg)(TX:TabX X q)(hi:VI X tg qb fi)
 (hg:∀{cl C code A' s0 H0 ex pn},VG (gcx X scope cl NC C code bNs A' s0 H0 ex pn) tg is g)
 (he:∀{cl C code it s0 H0 ex pn},VE (gcx X scope cl NC C code bNs (aG X (zbl elt tg qb scope qx it (genEnv scope cl C code bNs X.env))) s0 H0 ex pn) elt fe)
 (qm:X.calm=true:=by rfl) (ql:∀x,X.env.scope.names.lookup x=some .cell->∃c,X.env.cells.lookup x=some c:=by exact λx h=>za3 h) (hfk:X.env.scope.kind=.function:=by rfl) (hN:X.N=N:=by rfl) (hsc:X.env.scope.names=(zab st).names:=by rfl)
 (qj:∀y∈scope.names,y.2=.free->(zab st).names.lookup y.1=some .cell:=by decide +kernel) (qg:∀y∈scope.names,y.2≠.cell:=by decide +kernel) (qh:scope.kind=.function:=by rfl) (hco:scope.isCoroutine=false:=by rfl) (h0:scope.names.lookup (".0":Str)=some NameKind.local:=by rfl)
 (qD:zbS N (zab st).names scope.names NC fr=true:=by decide +kernel) (qe:fr.length=NC.length:=by rfl) (hap:apart is fr=true:=by decide) (hq:X.env.qual++"<genexpr>"=q:=by decide +kernel)
 (hgl:Gl X "all":=by rfl) (hs:∀x,genFold qb X.env x=pure x:=by intro _;rfl)
 (he1:sE [.GeneratorExp elt [⟨tg,qb,[],0⟩] scope qx] X.env=(false,eval (.GeneratorExp elt [⟨tg,qb,[],0⟩] scope qx) X.env)::sE [] X.env:=by rfl) :
 VE X (.Call (.Name "all" np) [.GeneratorExp elt [⟨tg,qb,[],0⟩] scope qx] [] qt) (eAll fr fi g fe):=
 zmQ (RR:=λ_=>True) N st fr (λ_ _ _ _ _=>trivial) qm B hi TX hr.depth ql hfk hN hsc qj qg qh hco h0 qD qe hap hq (λ_ _ _ _ _ _ _ _=>hg) (λ_ _ _ _ _ _ _ _ _=>he) hgl hs he1
def zqX (N:List Str)(st:Stmt){X:Cx}{k:Nat}{elt qb tg:Expr}{scope:Scope}{qx np qt:Pos}{NC:List Str}(fr:List (Option Nat)){fi:FA}{g:FG}{is:List Nat}{fe:FE}{q:Str}{Pc:Hp->Prop}(hp:Prs X Pc)(hr:Room k X.A)(B:Blt X.mg)(TX:TabX X q)(hi:VI X tg qb fi)
 (hg:∀{cl C code A' s0 H0 ex pn},VG (gcx X scope cl NC C code bNs A' s0 H0 ex pn) tg is g)
 (he:∀{cl C code it s0 H0 ex pn},Pc H0->VE (gcx X scope cl NC C code bNs (aG X (zbl elt tg qb scope qx it (genEnv scope cl C code bNs X.env))) s0 H0 ex pn) elt fe)
 (qm:X.calm=true:=by rfl) (ql:∀x,X.env.scope.names.lookup x=some .cell->∃c,X.env.cells.lookup x=some c:=by exact λx h=>za3 h) (hfk:X.env.scope.kind=.function:=by rfl) (hN:X.N=N:=by rfl) (hsc:X.env.scope.names=(zab st).names:=by rfl)
 (qj:∀y∈scope.names,y.2=.free->(zab st).names.lookup y.1=some .cell:=by decide +kernel) (qg:∀y∈scope.names,y.2≠.cell:=by decide +kernel) (qh:scope.kind=.function:=by rfl) (hco:scope.isCoroutine=false:=by rfl) (h0:scope.names.lookup (".0":Str)=some NameKind.local:=by rfl)
 (qD:zbS N (zab st).names scope.names NC fr=true:=by decide +kernel) (qe:fr.length=NC.length:=by rfl) (hap:apart is fr=true:=by decide) (hq:X.env.qual++"<genexpr>"=q:=by decide +kernel)
 (hgl:Gl X "all":=by rfl) (hs:∀x,genFold qb X.env x=pure x:=by intro _;rfl)
 (he1:sE [.GeneratorExp elt [⟨tg,qb,[],0⟩] scope qx] X.env=(false,eval (.GeneratorExp elt [⟨tg,qb,[],0⟩] scope qx) X.env)::sE [] X.env:=by rfl) :
 VE X (.Call (.Name "all" np) [.GeneratorExp elt [⟨tg,qb,[],0⟩] scope qx] [] qt) (eAll fr fi g fe):=
 zmQ (RR:=Pc) N st fr hp qm B hi TX hr.depth ql hfk hN hsc qj qg qh hco h0 qD qe hap hq (λ_ _ _ _ _ _ _ _=>hg) (λ_ _ _ _ _ _ _ _ rH=>he rH) hgl hs he1
end VD
namespace VD
open PySem.Spec L2 PySem.W GX EX
end VD
namespace GB
open PySem.Spec L2 VD GM
def Po {A:Type}(o:Option A)(R:A->Prop):Prop:=∃a,o=some a/\R a
section
variable {A B:Type}{o:Option A}{k:A->Option B}{P:A->Prop}{R:B->Prop}{a:A}
def sx (e:o=some a)(h:Po (k a) R):Po (o.bind k) R:=by rw[e];exact h
def asc {C:Type}{g:B->Option C}{R:C->Prop}(h:Po (o.bind λx=>(k x).bind g) R):Po ((o.bind k).bind g) R:=by
 cases o with
|none=>exact h
|some x=>exact h
theorem Po.bind (h:Po o P)(hk:∀a,P a->Po (k a) R):Po (o.bind k) R:=by
 obtain⟨a,e,p⟩:=h;exact sx e (hk a p)
def zqY {b:Bool}{x y:Option A}(h1:b=true->Po x P)(h2:b=false->Po y P):Po (if b then x else y) P:=by
 cases b with
|true=>exact h1 rfl
|false=>exact h2 rfl
end
def zkg {S A:Type}{f:S->D->Option S}{ds:List D}{s0:S}{k:S->Option A}{R:A->Prop}(I:Nat->S->Prop)(h0:I 0 s0)(hs:∀i s d,ds[i]?=some d->I i s->Po (f s d) (I (i+1)))(hk:∀s,I ds.length s->Po (k s) R):Po ((zaW f s0 ds).bind k) R:=by
 have key:∀(ds:List D) (b:Nat) (s:S),(∀i s d,ds[i]?=some d->I (b+i) s->Po (f s d) (I (b+i+1)))->I b s->Po (zaW f s ds) (I (b+ds.length)):=by
  intro ds;induction ds with
 |nil=>intro b s _ h;exact⟨s,rfl,h⟩
 |cons d ds ih=>
    intro b s hf h;obtain⟨s1,e1,h1⟩:=hf 0 s d rfl h;show Po ((f s d).bind λs=>zaW f s ds) _
    refine sx e1 ?_;rw[waM,show b+(ds.length+1)=b+1+ds.length by omega];exact ih (b+1) s1 (λi s d hd hI=>by
     rw[show b+1+i=b+(i+1) by omega] at hI⊢;exact hf (i+1) s d hd hI) h1
 have:=key ds 0 s0 (λi s d hd hI=>by rw[wbf] at hI⊢;exact hs i s d hd hI) h0
 rw[wbf] at this;exact this.bind hk
structure Itm where
 dp:Nat
 nm:Str
 ba:Int
 bb:Int
 bc:Int
 bd:Int
 wd:Str
 rk:Int
 hd:Option Str
def Itm.bx (x:Itm):D:=.tup [.int x.ba,.int x.bb,.int x.bc,.int x.bd]
def hdO:Option Str->D
|none=>.non
|some h=>.str h
inductive Vd:Nat->List Itm->Prop
|nil {m:Nat}:Vd m []
|cons {m:Nat}{x:Itm}{S:List Itm}(hm:x.dp<=m) (h4:x.dp<=4) (t:Vd (x.dp+1) S):Vd m (x::S)
def part (x:Itm)(_:Nat)(inn:List D):D:=.tup [.str x.nm,x.bx,.str x.wd,.int x.rk,hdO x.hd,.tup inn]
def fo:List Itm->Nat->List D
|[],_=>[]
|x::S,d=>if d=x.dp then part x 0 (fo S (d+1))::fo S d else if d=x.dp+1 then[] else fo S d
def ot (fr:Str->Bool):Nat->List D->List D
|0,_=>[]
|n+1,ds=>ds.flatMap λd=>match d with
  |.tup [_,_,.str w,_,_,.tup inn]=>if fr w then d::ot fr n inn else[]
  |_=>[]
theorem zkh:∀{m:Nat}{S:List Itm},Vd m S->∀d,m<d->fo S d = []
|_,_,.nil,_,_=>rfl
|m,_,.cons (x:=x) (S:=S) hm h4 t,d,hd=>by
   show(if d=x.dp then _ else if d=x.dp+1 then[] else fo S d) = []
   rw[if_neg (by omega)];by_cases e:d=x.dp+1
   .rw[if_pos e]
   .rw[if_neg e];exact zkh t d (by omega)
def nr:D->Int×Str
|.tup [.str n,_,_,.int r,_,_]=>(r,n)
|_=>(0,"")
def zox {fr:Str->Bool}{n:Nat}{x:Itm}{dp:Nat}{inn ds:List D}:ot fr (n+1) (part x dp inn::ds)=(if fr x.wd then part x dp inn::ot fr n inn else[])++ot fr (n+1) ds:=by
 show(List.flatMap _ (_::ds))=_
 rw[List.flatMap_cons];rfl
def Ok:Nat->List D->Prop
|0,ds=>ds = []
|n+1,ds=>∀d∈ds,∃x dp inn,d=part x dp inn/\Ok n inn
def Ok.nil:∀{n:Nat},Ok n []
|0=>rfl
|_+1=>λd h=>by cases h
theorem zf2:∀{m:Nat}{S:List Itm},Vd m S->∀d,Ok (6 - d) (fo S d)
|_,_,.nil,_=>Ok.nil
|m,_,.cons (x:=x) (S:=S) hm h4 t,d=>by
   show Ok (6 - d) (if d=x.dp then part x 0 (fo S (d+1))::fo S d else if d=x.dp+1 then[] else fo S d)
   by_cases e:d=x.dp
   .rw[if_pos e];have h1:=zf2 t (d+1)
    have h2:=zf2 t d
    rw[show 6 - d=(6 - (d+1))+1 by omega] at h2⊢;intro y hy;rcases wap.mp hy with rfl|hy
    .exact⟨_,_,_,rfl,h1⟩
    .exact h2 y hy
   .rw[if_neg e];by_cases e2:d=x.dp+1
    .rw[if_pos e2];exact Ok.nil
    .rw[if_neg e2];exact zf2 t d
theorem Ok.up:∀{n:Nat}{ds:List D},Ok n ds->Ok (n+1) ds
|0,ds,h=>by rw[show ds = [] from h];exact Ok.nil
|n+1,ds,h=>λd hd=>by
   obtain⟨x,dp,inn,e,o⟩:=h d hd;exact⟨x,dp,inn,e,o.up⟩
end GB
namespace Pg
open L2
def top (i:Nat):Stmt:=PySem.Challenge.pw_focuswalk_k06_heads.main.body.getD i (.Pass ⟨0,0,0,0⟩)
abbrev zbm:Stmt:=top 14
abbrev zcA:Stmt:=top 15
abbrev zcB:Stmt:=top 16
abbrev zbQ:Stmt:=top 17
abbrev zbG:Stmt:=top 18
abbrev zdf:Stmt:=top 23
abbrev zcC:Stmt:=top 24
abbrev zaT:Stmt:=top 25
abbrev zeg:Stmt:=top 26
abbrev zdt:Stmt:=top 27
abbrev zbL:Stmt:=top 28
abbrev zeh:Stmt:=top 29
abbrev zei:Stmt:=top 30
abbrev zej:Stmt:=top 31
abbrev zbR:Stmt:=top 32
abbrev zaM:Stmt:=top 33
abbrev zcr:Stmt:=top 34
abbrev zek:Stmt:=top 35
abbrev zbn:Stmt:=top 36
abbrev zcU:Stmt:=top 39
abbrev zcV:Stmt:=top 40
abbrev zb8:Stmt:=top 41
abbrev zbX:Stmt:=top 42
abbrev zb9:Stmt:=top 43
abbrev zcD:Stmt:=top 44
abbrev zey:Stmt:=top 45
end Pg
namespace Pg
open PySem.Spec L2 VD EX
section
variable {P:Pm}{w:World}{K:Fg}{mg:Str->Option Vl}{base:Heap}{f g:Addr}{fd gd:Fu}
def za7 (self:List D->Option D)(j9 qU:D):Option D:=
 (Ob (some ([]:List D)) λ(x1:List D)=>(Ob (Ob (zrW [j9]) (zaW (λ(s2:List D) (d8:D)=>Ob (un2 d8) λ(y3:D×D)=>(Ob (dAdd qU (.tup [y3.1])) λ(x4:D)=>(Ob (appL s2 (.tup [x4,y3.2])) λ(x5:List D)=>(Ob (Ob (Ob (aC (dIx y3.2 (.int 5)) (aC (some x4) aN)) self) (extL x5)) λ(x6:List D)=>(some x6))))) x1)) λ(s2:List D)=>(Ob (some (.lst s2)) λ(r7:D)=>(some r7))))
def zbH (self:List D->Option D):List D->Option D:=c2 (za7 self)
def zaz:Nat->List D->Option D
|0=>λ_=>none
|n+1=>zbH (zaz n)
def sc_placed_within:FnScope ["parts","outer_place","pairs","number","part","place"] ["parts","outer_place"] (zab zbG):=fsc
def zdI (F:Fun K "placed_within" "placed_within" zbG f fd)(B:Blt mg){n:Nat}{self:List D->Option D}(qy:Cal P w K mg base n "placed_within" ["parts","outer_place"] (spF K self))(wb:GlobD K mg "PARTS" (.int 5)):FnOk P w K mg base CX0 (n+1) f fd ["parts","outer_place"] (spF K (zbH self)):=
 zbF F sc_placed_within zc7 λcdv A outer s H E hr=>by
  have nd:=sc_placed_within.nd
  refine⟨_,(zac (vsO 2 nd (zbs zai)) (zac (zd2 (znB B (zad (vv 0) zai)) (zc2 rfl (zaq (vgN 3 nd) (zaq (vgN 4 nd) zb2))) (zac (vsS 5 nd (zaK zbu zaP (vr 1) (VE.w (zcm (zad (vv 3) zai))))) (zac (zfK 2 (zcm (zad (vv 5) (zad (vv 4) zai)))) (zac (zmx 2 (zay (hk:=wan _) qy hr (zad (zax (vr 4) (VE.w (zaJ wb))) (zad (vv 5) zai)))) (za5 [3,4,5] zak))))) (ze3 2 (zaj (zau (vv 2)))))),zgJ ?_⟩;intro j9 qU;unfold za7;exact(zah (zc6 rfl) λx1=>(zah (zgI (emb:=(λ(s2:List D)=>[.val j9,.val qU,.own 1 (.lst s2),.un,.un,.un])) rfl (λ_=>rfl) (λ_ _=>rfl) λs2 y3=>(zah (zas rfl) λx4=>(zah (zfN rfl) λx5=>(zah (zmF rfl) λx6=>(zba [3,4,5] (za6 λ_ h=>h)))))) λs2=>(zhq 2 (zar λ_ _ h=>h))))
def zbf (qr:D):Option D:=
 (Ob ((zaz 8) [qr,(.tup [])]) λ(r1:D)=>(some r1))
def zap:List D->Option D:=c1 zbf
def zel:FnScope ["sheet"] ["sheet"] (zab zbQ):=fsc
def zem (F:Fun K "placed_parts" "placed_parts" zbQ f fd)(B:Blt mg)(qy:Cal P w K mg base 8 "placed_within" ["parts","outer_place"] (spF K (zaz 8))):FnOk P w K mg base CX0 (8+1) f fd ["sheet"] (spF K zap):=
 zbF F zel c1_len λcdv A outer s H E hr=>by
  refine⟨_,(zaj (zau (zay qy hr (zad (vv 0) (zad (zcm zai) zai))))),zck ?_⟩;intro qr;unfold zbf;exact(zar λ_ _ h=>h)
def zcE (qr:D):Option D:=
 (Ob (Ob (Ob (Ob (zap [qr]) dSeq) (zbq (zaZ [.un,.un] (gT 2 (gCons' (gN 0) (gCons' (gN 1) gNil'))) tTrue (eVar 1)))) λds=>some (.lst ds)) λ(r1:D)=>(some r1))
def zbx:List D->Option D:=c1 zcE
def zgQ:FnScope ["sheet"] ["sheet"] (zab zcB):=fsc
def zgR (F:Fun K "parts_of" "parts_of" zcB f fd)(B:Blt mg)(qo:Cal P w K mg base 9 "placed_parts" ["sheet"] (spF K zap)):FnOk P w K mg base CX0 (9+1) f fd ["sheet"] (spF K zbx):=
 zbF F zgQ c1_len λcdv A outer s H E hr=>by
  refine⟨_,(zaj (zau (VN.ve (vnC ["sheet"] zcB (NC:=["place","part"]) [none,none] (zbC (zay qo hr (zad (vv 0) zai))) ((zc2 (n:=2) rfl (zaq (vgc 0) (zaq (vgc 1) zb2)))) (zcR) ((vv 1)))))),zck ?_⟩;intro qr;unfold zcE;exact(zar λ_ _ h=>h)
def zcF (qr:D):Option D:=
 (Ob (Ob (Ob (Ob (zbx [qr]) dSeq) (zbq (λd1=>(Ob (dIx d1 (.int 0)) λz=>some (some z))))) λds=>some (.lst ds)) λ(r2:D)=>(some r2))
def zby:List D->Option D:=c1 zcF
def zgS:FnScope ["sheet"] ["sheet"] (zab zcA):=fsc
def zgT (F:Fun K "names_of" "names_of" zcA f fd)(B:Blt mg)(qG:Cal P w K mg base 10 "parts_of" ["sheet"] (spF K zbx))(qE:GlobD K mg "NAME" (.int 0)):FnOk P w K mg base CX0 (10+1) f fd ["sheet"] (spF K zby):=
 zbF F zgS c1_len λcdv A outer s H E hr=>by
  refine⟨_,(zaj (zau (VN.ve (vnC ["sheet"] zcA (NC:=["part"]) [none] (zbC (zay qG hr (zad (vv 0) zai))) ((vgc 0)) (zcR) ((zax (vr 0) (VE.w (zaJ qE)))))))),zck ?_⟩;intro qr;unfold zcF;exact(zar λ_ _ h=>h)
def zdg (qd:D):Option D:=
 (Ob (Ob (Ob (Ob ((isD "str") qd) dTru) λk6=>some (!k6)) λk5=>if k5 then some true else(Ob (Ob (Ob (bLen [qd]) λv4=>(Ob (dLe (.int 1) v4) λzk3=>Ob (dB zk3) λk3=>if k3 then(dLe v4 (.int 8)) else some (.bl false))) dB) λk2=>some (!k2))) λk1=>if k1 then(Ob (some (.bl false)) λ(r7:D)=>(some r7)) else(Ob (Ob (zqM qd) λds=>Ob (zff (λd8=>Ob ((dInS false) d8 (.str "abcdefghijklmnopqrstuvwxyz")) dB) ds) λbs=>some (D.bl (bs.all id))) λ(r9:D)=>(some r9)))
def zbo:List D->Option D:=c1 zdg
def zii:FnScope ["thing"] ["thing"] (zab zbm):=fsc
def zij (F:Fun K "is_name" "is_name" zbm f fd)(B:Blt mg){Pc:Hp->Prop}(pe:Pers Pc){tP:Addr}(T:TabF K mg base fd tP)(hT:∀H,Pc H->TabH tP "is_name.<locals>.<genexpr>" H)(j6:Kit K "str")(qR:GlobD K mg "LONGEST_NAME" (.int 8))(ww:GlobD K mg "LETTERS" (.str "abcdefghijklmnopqrstuvwxyz")):FnOk P w K mg base CX0 (1+1) f fd ["thing"] (pcS Pc (spF K zbo)):=
 zb7 pe F zii c1_len λcdv A outer s H E hcv hr hPc hp=>by
  have TX:TabX (cxOf CX0 P w K mg base ["thing"] "is_name" (zab zbm) f cdv A outer s H E).nox "is_name.<locals>.<genexpr>":=zgN T hcv (hT _ hPc)
  refine⟨_,(zac (zbP (VP.t (zfG (zch (zbr (VE.w (zcS j6 B boot_str (vr 0))))) (zdY (zch (zk9 zpm zpN zpm zpN (VE.w zag) (VE.w (ve_b zaG zbB B boot_len (zao (vr 0) zaA))) (VE.w (zaJ qR))))))) (zaj (zau zcj)) zak) (zaj (zau (zqW ["thing"] zbm (NC:=["sign"]) [none] hr B TX (zqN (vv 0)) (vgg 0) (hq:=by show((("is_name":Str)++".<locals>.":Str))++"<genexpr>"=_;decide +kernel) (zdW zqO (zqP false) (vr 0) (VE.w (zaJ ww)) rfl))))),zck ?_⟩;intro qd;unfold zdg;exact(zaQ (zar λ_ _ h=>h) (zbE (zar λ_ _ h=>h)))
def zeL (qd:D):Option D:=
 (Ob (Ob (Ob ((isD "int") qd) dB) λk2=>if k2 then(Ob (Ob ((isD "bool") qd) dB) λk1=>some (.bl (!k1))) else some (.bl false)) λ(r3:D)=>(some r3))
def zbY:List D->Option D:=c1 zeL
def zgU:FnScope ["thing"] ["thing"] (zab zdt):=fsc
def zgV (F:Fun K "is_whole" "is_whole" zdt f fd)(B:Blt mg)(jA:Kit K "bool")(Ja:Kit K "int"):FnOk P w K mg base CX0 (0+1) f fd ["thing"] (spF K zbY):=
 zbF F zgU c1_len λcdv A outer s H E hr=>by
  refine⟨_,(zaj (zau (zeF (zcS Ja B boot_int (vr 0)) (zeE (zpI (zcS jA B boot_bool (vr 0))))))),zck ?_⟩;intro qd;unfold zeL;exact(zar λ_ _ h=>h)
def zdP (qd:D):Option D:=
 (Ob (Ob (Ob (Ob ((isD "tuple") qd) dTru) λk4=>some (!k4)) λk3=>if k3 then some true else(Ob (Ob (bLen [qd]) λv2=>((dEqG true) v2 (.int 4))) dB)) λk1=>if k1 then(Ob (some (.bl false)) λ(r5:D)=>(some r5)) else(Ob (Ob (Ob (Ob (dSeq qd) λds=>Ob (zff (λd8=>Ob (zbY [d8]) dB) ds) λbs=>some (D.bl (bs.all id))) dTru) λk7=>some (!k7)) λk6=>if k6 then(Ob (some (.bl false)) λ(r9:D)=>(some r9)) else(Ob (Ob (Ob (Ob (dIx qd (.int 2)) λv12=>(dGe v12 (.int 1))) dB) λk11=>if k11 then(Ob (dIx qd (.int 3)) λv10=>(dGe v10 (.int 1))) else some (.bl false)) λ(r13:D)=>(some r13))))
def zdh:List D->Option D:=c1 zdP
def zki:FnScope ["thing"] ["thing"] (zab zbL):=fsc
def zkj (F:Fun K "is_box" "is_box" zbL f fd)(B:Blt mg){Pc:Hp->Prop}(pe:Pers Pc){tP:Addr}(T:TabF K mg base fd tP)(hT:∀H,Pc H->TabH tP "is_box.<locals>.<genexpr>" H)(qI:Cal P w K mg base 1 "is_whole" ["thing"] (spF K zbY))(qM:Kit K "tuple"):FnOk P w K mg base CX0 (2+1) f fd ["thing"] (pcS Pc (spF K zdh)):=
 zb7 pe F zki c1_len λcdv A outer s H E hcv hr hPc hp=>by
  have TX:TabX (cxOf CX0 P w K mg base ["thing"] "is_box" (zab zbL) f cdv A outer s H E).nox "is_box.<locals>.<genexpr>":=zgN T hcv (hT _ hPc)
  refine⟨_,(zac (zbP (VP.t (zfG (zch (zbr (VE.w (zcS qM B boot_tuple (vr 0))))) (zdY (zaO (zjD hr) (zc8 true) (VE.w (ve_b zaG zbB B boot_len (zao (vr 0) zaA))) (VE.w zag) (zaX _))))) (zaj (zau zcj)) zak) (zac (zbP (zch (zbr (VE.w (zqW ["thing"] zbL (NC:=["number"]) [none] hr B TX (zbC (vv 0)) (vgg 0) (hq:=by show((("is_box":Str)++".<locals>.":Str))++"<genexpr>"=_;decide +kernel) (zay qI (zhJ hr) (zad (vv 0) zai)))))) (zaj (zau zcj)) zak) (zaj (zau (zeF (zdW zkM zlb (VE.w (zax (vr 0) (VE.w zag))) (VE.w zag) (zaX _)) (zeE (zdW zkM zlb (VE.w (zax (vr 0) (VE.w zag))) (VE.w zag) (zaX _)))))))),zck ?_⟩;intro qd;unfold zdP;exact(zaQ (zar λ_ _ h=>h) (zbE (zaQ (zar λ_ _ h=>h) (zbE (zar λ_ _ h=>h)))))
def zf3 (qd:D):Option D:=
 (Ob (Ob (Ob ((isD "str") qd) dB) λk1=>if k1 then((dInG false) qd (.tup [(.str "free"),(.str "shut"),(.str "hidden")])) else some (.bl false)) λ(r2:D)=>(some r2))
def zcs:List D->Option D:=c1 zf3
def zik:FnScope ["thing"] ["thing"] (zab zeh):=fsc
def zil (F:Fun K "is_word" "is_word" zeh f fd)(B:Blt mg)(j6:Kit K "str")(ji:GlobD K mg "WORDS" (.tup [(.str "free"),(.str "shut"),(.str "hidden")])):FnOk P w K mg base CX0 (0+1) f fd ["thing"] (spF K zcs):=
 zbF F zik c1_len λcdv A outer s H E hr=>by
  refine⟨_,(zaj (zau (zeF (zcS j6 B boot_str (vr 0)) (zeE (zdW (zjG hr) (zc9 false) (vr 0) (VE.w (zaJ ji)) rfl))))),zck ?_⟩;intro qd;unfold zf3;exact(zar λ_ _ h=>h)
def zf4 (qd:D):Option D:=
 (Ob (Ob (Ob (zbY [qd]) dB) λk1=>if k1 then(dGe qd (.int 0)) else some (.bl false)) λ(r2:D)=>(some r2))
def zct:List D->Option D:=c1 zf4
def zim:FnScope ["thing"] ["thing"] (zab zei):=fsc
def zin (F:Fun K "is_rank" "is_rank" zei f fd)(B:Blt mg)(qI:Cal P w K mg base 1 "is_whole" ["thing"] (spF K zbY)):FnOk P w K mg base CX0 (1+1) f fd ["thing"] (spF K zct):=
 zbF F zim c1_len λcdv A outer s H E hr=>by
  refine⟨_,(zaj (zau (zeF (zay qI hr (zad (vv 0) zai)) (zeE (zdW zkM zlb (vr 0) (VE.w zag) (zaX _)))))),zck ?_⟩;intro qd;unfold zf4;exact(zar λ_ _ h=>h)
def zf5 (qd:D):Option D:=
 (Ob (Ob (Ob ((dIs false) qd D.non) dB) λk1=>if k1 then some (.bl true) else(zbo [qd])) λ(r2:D)=>(some r2))
def zcu:List D->Option D:=c1 zf5
def zio:FnScope ["thing"] ["thing"] (zab zej):=fsc
def ziq (F:Fun K "is_head" "is_head" zej f fd)(B:Blt mg){Pc:Hp->Prop}(pe:Pers Pc)(qO:Cal P w K mg base 2 "is_name" ["thing"] (pcS Pc (spF K zbo))):FnOk P w K mg base CX0 (2+1) f fd ["thing"] (pcS Pc (spF K zcu)):=
 zb7 pe F zio c1_len λcdv A outer s H E hcv hr hPc hp=>by
  refine⟨_,(zaj (zau (zrP (zdW ziR zny (vr 0) (VE.w zeD) (zaX _)) (zeE (za0 qO hp hr (zad (vv 0) zai)))))),zck ?_⟩;intro qd;unfold zf5;exact(zar λ_ _ h=>h)
def zdi (self:List D->Option D)(qd wn:D):Option D:=
 (Ob (Ob (Ob (Ob ((isD "tuple") qd) dTru) λk4=>some (!k4)) λk3=>if k3 then some true else(Ob (Ob (bLen [qd]) λv2=>((dEqG true) v2 (.int 6))) dB)) λk1=>if k1 then(Ob (some (.bl false)) λ(r5:D)=>(some r5)) else(Ob (un6 qd) λ(y6:D×D×D×D×D×D)=>(Ob (Ob (Ob (Ob (zbo [y6.1]) dTru) λk12=>some (!k12)) λk11=>if k11 then some true else(Ob (Ob (Ob (zdh [y6.2.1]) dTru) λk10=>some (!k10)) λk9=>if k9 then some true else(Ob (Ob (zcs [y6.2.2.1]) dTru) λk8=>some (!k8)))) λk7=>if k7 then(Ob (some (.bl false)) λ(r13:D)=>(some r13)) else(Ob (Ob (Ob (zct [y6.2.2.2.1]) dB) λk15=>if k15 then(Ob (Ob (zcu [y6.2.2.2.2.1]) dB) λk14=>if k14 then(Ob (aC (some y6.2.2.2.2.2) (aC (dAdd wn (.int 1)) aN)) self) else some (.bl false)) else some (.bl false)) λ(r16:D)=>(some r16)))))
def zbp (self:List D->Option D):List D->Option D:=c2 (zdi self)
def sc_is_part:FnScope ["thing","deep","name","box","word","rank","head","parts"] ["thing","deep"] (zab zeg):=fsc
def zir (F:Fun K "is_part" "is_part" zeg f fd)(B:Blt mg){Pc:Hp->Prop}(pe:Pers Pc)(wB:Cal P w K mg base 1 "is_word" ["thing"] (spF K zcs))(wO:Cal P w K mg base 3 "is_box" ["thing"] (pcS Pc (spF K zdh)))(qO:Cal P w K mg base 2 "is_name" ["thing"] (pcS Pc (spF K zbo))){n:Nat}{self:List D->Option D}(qw:Cal P w K mg base n "are_parts" ["thing","deep"] (pcS Pc (spF K self)))(wE:Cal P w K mg base 3 "is_head" ["thing"] (pcS Pc (spF K zcu)))(wC:Cal P w K mg base 2 "is_rank" ["thing"] (spF K zct))(qM:Kit K "tuple"):FnOk P w K mg base CX0 (n+4+1) f fd ["thing","deep"] (pcS Pc (spF K (zbp self))):=
 zb7 pe F sc_is_part zc7 λcdv A outer s H E hcv hr hPc hp=>by
  have nd:=sc_is_part.nd
  refine⟨_,(zac (zbP (VP.t (zfG (zch (zbr (VE.w (zcS qM B boot_tuple (vr 0))))) (zdY (zaO (zjD hr) (zc8 true) (VE.w (ve_b zaG zbB B boot_len (zao (vr 0) zaA))) (VE.w zag) (zaX _))))) (zaj (zau zcj)) zak) (zac (zpV (vv 0) (zc2 rfl (zaq (vgN 2 nd) (zaq (vgN 3 nd) (zaq (vgN 4 nd) (zaq (vgN 5 nd) (zaq (vgN 6 nd) (zaq (vgN 7 nd) zb2)))))))) (zac (zbP (VP.t (zfG (zch (zbr (VE.w (za0 (hk:=by omega) qO hp hr (zad (vv 2) zai))))) (zfG (zch (zbr (VE.w (za0 (hk:=by omega) wO hp hr (zad (vv 3) zai))))) (zdY (zch (zbr (VE.w (zay (hk:=by omega) wB hr (zad (vv 4) zai))))))))) (zaj (zau zcj)) zak) (zaj (zau (zeF (zay (hk:=by omega) wC hr (zad (vv 5) zai)) (zeF (za0 (hk:=by omega) wE hp hr (zad (vv 6) zai)) (zeE (za0 (hk:=by omega) qw hp hr (zad (vv 7) (zad (zaK zbu zaP (vr 1) (VE.w zag)) zai))))))))))),zgJ ?_⟩;intro qd wn;unfold zdi;exact(zaQ (zar λ_ _ h=>h) (zbE (zah (zp7 λ_=>tg_6 rfl (λ_=>rfl) (λ_ _=>rfl) (λ_ _ _=>rfl) (λ_ _ _ _=>rfl) (λ_ _ _ _ _=>rfl)) λy6=>(zaQ (zar λ_ _ h=>h) (zbE (zar λ_ _ h=>h))))))
def zca (self:List D->Option D)(qd wn:D):Option D:=
 (Ob (Ob (Ob ((isD "tuple") qd) dTru) λk2=>some (!k2)) λk1=>if k1 then(Ob (some (.bl false)) λ(r3:D)=>(some r3)) else(Ob (Ob (dTru qd) λk5=>if k5 then(Ob (dGt wn (.int 5)) dB) else some false) λk4=>if k4 then(Ob (some (.bl false)) λ(r6:D)=>(some r6)) else(Ob (Ob (dSeq qd) λds=>Ob (zff (λd7=>Ob ((zbp self) [d7,wn]) dB) ds) λbs=>some (D.bl (bs.all id))) λ(r8:D)=>(some r8))))
def zcW (self:List D->Option D):List D->Option D:=c2 (zca self)
def zam:Nat->List D->Option D
|0=>λ_=>none
|n+1=>zcW (zam n)
def zf6:FnScope ["thing","deep"] ["thing","deep"] (zab zaT):=fsc
def zf7 (F:Fun K "are_parts" "are_parts" zaT f fd)(B:Blt mg){Pc:Hp->Prop}(pe:Pers Pc){tP:Addr}(T:TabF K mg base fd tP)(hT:∀H,Pc H->TabH tP "are_parts.<locals>.<genexpr>" H){n:Nat}{self:List D->Option D}(wD:Cal P w K mg base (n+5) "is_part" ["thing","deep"] (pcS Pc (spF K (zbp self))))(qM:Kit K "tuple")(wy:GlobD K mg "DEEPEST" (.int 5)):FnOk P w K mg base CX0 (n+6+1) f fd ["thing","deep"] (pcS Pc (spF K (zcW self))):=
 zb7 pe F zf6 zc7 λcdv A outer s H E hcv hr hPc hp=>by
  have TX:TabX (cxOf CX0 P w K mg base ["thing","deep"] "are_parts" (zab zaT) f cdv A outer s H E).nox "are_parts.<locals>.<genexpr>":=zgN T hcv (hT _ hPc)
  refine⟨_,(zac (zbP (zch (zbr (VE.w (zcS qM B boot_tuple (vr 0))))) (zaj (zau zcj)) zak) (zac (zbP (VP.t (zmr (zbr (vr 0)) (zjj (zaO zm7 znx (vr 1) (VE.w (zaJ wy)) (zaX _))))) (zaj (zau zcj)) zak) (zaj (zau (zqX ["thing","deep"] zaT (NC:=["part","deep"]) [none,some 1] hp hr B TX (zbC (vv 0)) (vgg 0) (hq:=by show((("are_parts":Str)++".<locals>.":Str))++"<genexpr>"=_;decide +kernel) (λrH=>(za0 (hk:=by omega) wD (Prs.of pe rH) (zhJ hr) (zad (vv 0) (zad (vv 1) zai))))))))),zgJ ?_⟩;intro qd wn;unfold zca;exact(zaQ (zar λ_ _ h=>h) (zbE (zaQ (zar λ_ _ h=>h) (zbE (zar λ_ _ h=>h)))))
def zcG (qr:D):Option D:=
 (Ob (some ([]:List D)) λ(x1:List D)=>(Ob (Ob (Ob (zbx [qr]) dSeq) (zaW (λ(s2:List D) (d3:D)=>(Ob (Ob (Ob (Ob (Ob (dIx d3 (.int 5)) dSeq) (zbq (λd4=>(Ob (Ob (aC (dIx d3 (.int 0)) (aC (dIx d4 (.int 0)) aN)) mkT) λz=>some (some z))))) λds=>some (.lst ds)) (extL s2)) λ(x5:List D)=>(Ob (Ob (Ob (Ob (dIx d3 (.int 4)) λv7=>((dIs true) v7 D.non)) dB) λk6=>if k6 then(Ob (Ob (Ob (aC (dIx d3 (.int 4)) (aC (dIx d3 (.int 0)) aN)) mkT) (appL x5)) λ(x8:List D)=>(some x8)) else(some x5)) λ(s9:List D)=>(some s9)))) x1)) λ(s2:List D)=>(Ob (some (.lst s2)) λ(r10:D)=>(some r10))))
def zcH:List D->Option D:=c1 zcG
def sc_musts_of:FnScope ["sheet","musts","part"] ["sheet"] (zab zcC):=fsc
def zgW (F:Fun K "musts_of" "musts_of" zcC f fd)(B:Blt mg)(qG:Cal P w K mg base 10 "parts_of" ["sheet"] (spF K zbx))(wb:GlobD K mg "PARTS" (.int 5))(qE:GlobD K mg "NAME" (.int 0))(qV:GlobD K mg "HEAD" (.int 4)):FnOk P w K mg base CX0 (10+1) f fd ["sheet"] (spF K zcH):=
 zbF F sc_musts_of c1_len λcdv A outer s H E hr=>by
  have nd:=sc_musts_of.nd
  refine⟨_,(zac (vsO 1 nd (zbs zai)) (zac (zd2 (zbC (zay qG hr (zad (vv 0) zai))) (vgN 2 nd) (zac (zmx 1 (VN.ve (vnC ["sheet","musts","part"] zcC (NC:=["inner","part"]) [none,some 2] (zbC (zax (vr 2) (VE.w (zaJ wb)))) ((vgc 0)) (zcR) ((zcm (zad (zax (vrC 1 rfl rfl rfl rfl) (VE.w (zaJ qE))) (zad (zax (vr 0) (VE.w (zaJ qE))) zai))))))) (zac (zbP (zaO zm8 znz (VE.w (zax (vr 2) (VE.w (zaJ qV)))) (VE.w zeD) (zaX _)) (zac (zfK 1 (zcm (zad (zax (vr 2) (VE.w (zaJ qV))) (zad (zax (vr 2) (VE.w (zaJ qE))) zai)))) zak) zak) (za5 [2] zak)))) (ze3 1 (zaj (zau (vv 1)))))),zck ?_⟩;intro qr;unfold zcG;exact(zah (zc6 rfl) λx1=>(zah (ze6 (emb:=(λ(s2:List D)=>[.val qr,.own 1 (.lst s2),.un])) rfl (λ_=>rfl) λs2 d3=>(zah (zmF rfl) λx5=>(zah (zp6 (emb:=(λ(s9:List D)=>[.val qr,.own 1 (.lst s9),.val d3])) (zah (zfN rfl) λx8=>(za6 λ_ h=>h)) (za6 λ_ h=>h)) λs9=>(zba [2] (za6 λ_ h=>h))))) λs2=>(zhq 1 (zar λ_ _ h=>h))))
def zbg (qF:D):Option D:=
 (Ob (Ob (zhI [qF]) (zaW (λ(s1:Unit) (d6:D)=>Ob (un2 d6) λ(y2:D×D)=>(Ob (Ob (Ob (Ob (Ob (dInt y2.1) λi=>some (some i)) λv4=>(dSl qF none v4)) λv5=>((dInG false) y2.2 v5)) dB) λk3=>if k3 then none else(some ()))) ())) λ(s1:Unit)=>(some D.non))
def zaw:List D->Option D:=c1 zbg
def sc_refuse_twice:FnScope ["names","number","name"] ["names"] (zab zbR):=fsc
def zen (F:Fun K "refuse_twice" "refuse_twice" zbR f fd)(B:Blt mg):FnOk P w K mg base CX0 (1+1) f fd ["names"] (spF K zaw):=
 zbF F sc_refuse_twice c1_len λcdv A outer s H E hr=>by
  have nd:=sc_refuse_twice.nd
  refine⟨_,(zac (zd2 (zlY B (zad (vv 0) zai)) (zc2 rfl (zaq (vgN 1 nd) (zaq (vgN 2 nd) zb2))) (zac (zbP (zaO (zjG hr) (zc9 false) (vr 2) (VE.w (zcx (vr 0) zb0 (zb1 (vv 1)))) rfl) (zaj zc3) zak) (za5 [1,2] zak))) zak),zck ?_⟩;intro qF;unfold zbg;exact(zah (zgI (emb:=(λ(s1:Unit)=>[.val qF,.un,.un])) rfl (λ_=>rfl) (λ_ _=>rfl) λs1 y2=>(zaQ (zfM rfl) (zbE (zba [1,2] (za6 λ_ h=>h))))) λs1=>(za6 λ_ h=>h))
def zbM (jV jc:D):Option D:=
 (Ob (Ob (aC (bLen [jV]) (aC (bLen [jc]) aN)) bMin) λ(x1:D)=>(Ob (Ob (Ob (Ob (dInt x1) λi=>some (some i)) λv2=>(dSlW jV none v2)) λv4=>(Ob (Ob (Ob (dInt x1) λi=>some (some i)) λv3=>(dSlW jc none v3)) λv5=>((dEqG false) v4 v5))) λ(r6:D)=>(some r6)))
def zan:List D->Option D:=c2 zbM
def sc_are_nested:FnScope ["one","other","short"] ["one","other"] (zab zcr):=fsc
def zfg (F:Fun K "are_nested" "are_nested" zcr f fd)(B:Blt mg):FnOk P w K mg base CX0 (0+1) f fd ["one","other"] (spF K zan):=
 zbF F sc_are_nested zc7 λcdv A outer s H E hr=>by
  have nd:=sc_are_nested.nd
  refine⟨_,(zac (vsS 2 nd (ve_b (zft rfl) zmv B boot_min (zao (VE.w (ve_b zaG zbB B boot_len (zao (vr 0) zaA))) (zao (VE.w (ve_b zaG zbB B boot_len (zao (vr 1) zaA))) zaA)))) (zaj (zau (zdW (zlv hr) (zc8 false) (VE.w (zfX (vr 0) zb0 (zb1 (vv 2)))) (VE.w (zfX (vr 1) zb0 (zb1 (vv 2)))) (zaX _))))),zgJ ?_⟩;intro jV jc;unfold zbM;exact(zah (zas rfl) λx1=>(zar λ_ _ h=>h))
def zbh (qr:D):Option D:=
 (Ob (zap [qr]) λ(x1:D)=>(Ob (Ob (dSeq x1) λds=>Ob (zdd (zfd [.un,.un] (gT 2 (gCons' (gN 0) (gCons' (gN 1) gNil'))) (e2 dIx (eRd 1) (eK (.int 0))) (eVar 0)) ds ([],[])) λr=>some (D.dct r.1 r.2)) λ(x2:D)=>(Ob (Ob (dSeq x1) (zaW (λ(s3:Unit) (d9:D)=>Ob (un2 d9) λ(y4:D×D)=>(Ob (dIx y4.2 (.int 4)) λ(x5:D)=>(Ob (Ob ((dIs false) x5 D.non) dB) λk6=>if k6 then(some ()) else(Ob (Ob (Ob ((dInG true) x5 x2) dB) λk8=>if k8 then some true else(Ob (Ob (aC (dGet x2 x5) (aC (some y4.1) aN)) zan) dTru)) λk7=>if k7 then none else(some ()))))) ())) λ(s3:Unit)=>(some D.non))))
def zbi:List D->Option D:=c1 zbh
def sc_refuse_heads:FnScope ["sheet","pairs","places","place","part","head"] ["sheet"] (zab zaM):=fsc
def zeo (F:Fun K "refuse_heads" "refuse_heads" zaM f fd)(B:Blt mg)(qo:Cal P w K mg base 9 "placed_parts" ["sheet"] (spF K zap))(qB:Cal P w K mg base 1 "are_nested" ["one","other"] (spF K zan))(qE:GlobD K mg "NAME" (.int 0))(qV:GlobD K mg "HEAD" (.int 4)):FnOk P w K mg base CX0 (9+1) f fd ["sheet"] (spF K zbi):=
 zbF F sc_refuse_heads c1_len λcdv A outer s H E hr=>by
  have nd:=sc_refuse_heads.nd
  have hu2:=zkU hr
  refine⟨_,(zac (vsS 1 nd (zay qo hr (zad (vv 0) zai))) (zac (zhG 2 nd ["sheet","pairs","places","place","part","head"] zaM (NC:=["place","part"]) [none,none] (zbC (vv 1)) (zc2 (n:=2) rfl (zaq (vgc 0) (zaq (vgc 1) zb2))) (zax (vr 1) (VE.w (zaJ qE))) (vv 0)) (zac (zd2 (zbC (vv 1)) (zc2 rfl (zaq (vgN 3 nd) (zaq (vgN 4 nd) zb2))) (zac (vsS 5 nd (zax (vr 4) (VE.w (zaJ qV)))) (zac (zbP (zaO ziR zny (vr 5) (VE.w zeD) (zaX _)) (za5 [3,4,5] (zaj zd1)) zak) (zac (zbP (VP.t (zfG (zaO (zdO hr) (zc9 true) (vr 5) (vr 2) rfl) (zdY (zbr (VE.w (zay qB hr (zad (zju hu2 (vr 2) (vr 5)) (zad (vv 3) zai)))))))) (zaj zc3) zak) (za5 [3,4,5] zak))))) zak))),zck ?_⟩;intro qr;unfold zbh;exact(zah (zas rfl) λx1=>(zah (zas rfl) λx2=>(zah (zgI (emb:=(λ(s3:Unit)=>[.val qr,.val x1,.val x2,.un,.un,.un])) rfl (λ_=>rfl) (λ_ _=>rfl) λs3 y4=>(zah (zas rfl) λx5=>(zaQ (zba [3,4,5] (zp5 λ_ h=>h)) (zbE (zaQ (zfM rfl) (zbE (zba [3,4,5] (za6 λ_ h=>h)))))))) λs3=>(za6 λ_ h=>h))))
def zbN (qF wa:D):Option D:=
 (Ob (some qF) λ(x1:D)=>(Ob (zeG (λ(s2:D)=>(dTru (.bl true))) (λ(s2:D)=>(Ob (Ob (Ob (dSeq wa) (zbq (zaZ [.un,.un,.val s2] (gT 2 (gCons' (gN 0) (gCons' (gN 1) gNil'))) (t1 (e2 (dInG false) (eRd 0) (eRd 2))) (eVar 1)))) λds=>some (.lst ds)) λ(x3:D)=>(Ob (Ob (Ob (dSeq s2) (zbq (λd4=>(Ob (Ob ((dInG false) d4 x3) dB) λk5=>if k5 then(some (some d4)) else some none)))) λds=>some (.lst ds)) λ(x6:D)=>(Ob (Ob (Ob (bLen [x6]) λv8=>(Ob (bLen [s2]) λv9=>((dEqG false) v8 v9))) dB) λk7=>if k7 then(Ob (some x6) λ(r10:D)=>(some (Fl.ret r10:Fl (D) (D)))) else(Ob (some x6) λ(x11:D)=>(some (Fl.nx x11:Fl (D) (D)))))))) 50 x1) (flK λ(s2:D)=>(some D.non))))
def zbO:List D->Option D:=c2 zbN
def sc_tied_names:FnScope ["names","musts","left","held","tied"] ["names","musts"] (zab zbn):=fsc
def zfh (F:Fun K "tied_names" "tied_names" zbn f fd)(B:Blt mg):FnOk P w K mg base CX0 (0+1) f fd ["names","musts"] (spF K zbO):=
 zbF F sc_tied_names zc7 λcdv A outer s H E hr=>by
  have nd:=sc_tied_names.nd
  refine⟨_,(zac (vsS 2 nd (vv 0)) (zac (zlg (λ_=>50) (zbr (VE.w zcj)) (zac (vsS 3 nd (VN.ve (vnC ["names","musts","left","held","tied"] zbn (NC:=["one","other","left"]) [none,none,some 2] (zbC (vv 1)) ((zc2 (n:=2) rfl (zaq (vgc 0) (zaq (vgc 1) zb2)))) ((ze1 (zaO (zjG hr) (zc9 false) (vr 0) (vrC 2 rfl rfl rfl rfl) rfl))) ((vv 1))))) (zac (And.left (zgD ["names","musts","left","held","tied"] zbn (i:=4) (NC:=["name","held"]) [none,some 3] nd rfl (Or.inl rfl) rfl (zbC (vv 2)) (λx h=>za3 h) rfl rfl rfl (by decide +kernel) (by decide +kernel) rfl (by decide +kernel) (by decide +kernel) rfl (by decide) (λcl C s0 H0 ex pn=>(vgc 0)) (λcl C s0 H0 ex pn=>(ze1 (zaO (zjG hr) (zc9 false) (vr 0) (vrC 1 rfl rfl rfl rfl) rfl))) (λcl C s0 H0 ex pn=>(vv 0)))) (zac (zbP (zaO (zlv hr) (zc8 false) (VE.w (ve_b zaG zbB B boot_len (zao (vr 4) zaA))) (VE.w (ve_b zaG zbB B boot_len (zao (vr 2) zaA))) (zaX _)) (zaj (zau (vv 4))) zak) (zac (vsS 2 nd (vv 4)) (za5 [3,4] zak)))))) zak)),zgJ ?_⟩;intro qF wa;unfold zbN;exact(zah (zas rfl) λx1=>(zjz (emb:=(λ(s2:D)=>[.val qF,.val wa,.val s2,.un,.un])) rfl (λ_=>rfl) (λs2=>(zah (zas rfl) λx3=>(zah (zas rfl) λx6=>(zaQ (zar λ_ _ h=>h) (zbE (zah (zas rfl) λx11=>(zba [3,4] (za6 λ_ h=>h)))))))) λs2=>(za6 λ_ h=>h)))
def zdj (qF wa:D):Option D:=
 (Ob (zbO [qF,wa]) λ(x1:D)=>(Ob (Ob (dTru x1) λk3=>some (!k3)) λk2=>if k2 then(Ob (some (.lst [])) λ(r4:D)=>(some r4)) else none))
def zcv:List D->Option D:=c2 zdj
def sc_ring_of:FnScope ["names","musts","tied","row","ahead","ring"] ["names","musts"] (zab zek):=fsc
def zis (F:Fun K "ring_of" "ring_of" zek f fd)(B:Blt mg)(qZ:Cal P w K mg base 1 "tied_names" ["names","musts"] (spF K zbO)):FnOk P w K mg base CX0 (2+1) f fd ["names","musts"] (spF K zcv):=
 zbF F sc_ring_of zc7 λcdv A outer s H E hr=>by
  have nd:=sc_ring_of.nd
  refine⟨_,(zac (vsS 2 nd (zay qZ hr (zad (vv 0) (zad (vv 1) zai)))) (zac (zbP (zch (zbr (vr 2))) (zaj (zau (VN.ve (zbs zai)))) zak) zj9)),zgJ ?_⟩;intro qF wa;unfold zdj;exact(zah (zas rfl) λx1=>(zaQ (zar λ_ _ h=>h) (zbE (zfM rfl))))
def zdk (qd:D):Option D:=
 (Ob (Ob (Ob ((zam 7) [qd,(.int 1)]) dTru) λk2=>some (!k2)) λk1=>if k1 then none else(Ob (zby [qd]) λ(x3:D)=>(Ob (Ob (Ob (bLen [x3]) λv5=>(dGt v5 (.int 40))) dB) λk4=>if k4 then none else(Ob (zaw [x3]) λ(u6:D)=>(Ob (zbi [qd]) λ(u7:D)=>(Ob (Ob (aC (some x3) (aC (zcH [qd]) aN)) zcv) λ(x8:D)=>(Ob (dTru x8) λk9=>if k9 then none else(Ob (some qd) λ(r10:D)=>(some r10)))))))))
def zbZ:List D->Option D:=c1 zdk
def sc_checked:FnScope ["thing","names","ring"] ["thing"] (zab zdf):=fsc
def zit (F:Fun K "checked" "checked" zdf f fd)(B:Blt mg){Pc:Hp->Prop}(pe:Pers Pc)(qw:Cal P w K mg base 49 "are_parts" ["thing","deep"] (pcS Pc (spF K (zam 7))))(qH:Cal P w K mg base 11 "names_of" ["sheet"] (spF K zby))(qv:Cal P w K mg base 2 "refuse_twice" ["names"] (spF K zaw))(qS:Cal P w K mg base 10 "refuse_heads" ["sheet"] (spF K zbi))(wz:Cal P w K mg base 3 "ring_of" ["names","musts"] (spF K zcv))(we:Cal P w K mg base 11 "musts_of" ["sheet"] (spF K zcH))(qA:GlobD K mg "MOST_PARTS" (.int 40)):FnOk P w K mg base CX0 (49+1) f fd ["thing"] (pcS Pc (spF K zbZ)):=
 zb7 pe F sc_checked c1_len λcdv A outer s H E hcv hr hPc hp=>by
  have nd:=sc_checked.nd
  refine⟨_,(zac (zbP (zch (zbr (VE.w (za0 qw hp hr (zad (vv 0) (zad zag zai)))))) (zaj zc3) zak) (zac (vsS 1 nd (zay qH hr (zad (vv 0) zai))) (zac (zbP (zaO zm7 znx (VE.w (ve_b zaG zbB B boot_len (zao (vr 1) zaA))) (VE.w (zaJ qA)) (zaX _)) (zaj zc3) zak) (zac (zgC (zay qv hr (zad (vv 1) zai))) (zac (zgC (zay qS hr (zad (vv 0) zai))) (zac (vsS 2 nd (zay wz hr (zad (vv 1) (zad (zay we hr (zad (vv 0) zai)) zai)))) (zac (zbP (zbr (vr 2)) (zaj zc3) zak) (zaj (zau (vv 0)))))))))),zck ?_⟩;intro qd;unfold zdk;exact(zaQ (zfM rfl) (zbE (zah (zas rfl) λx3=>(zaQ (zfM rfl) (zbE (zah znW λu6=>(zah znW λu7=>(zah (zas rfl) λx8=>(zaQ (zfM rfl) (zbE (zar λ_ _ h=>h)))))))))))
def zaN (qr:D):Option D:=
 (Ob (zap [qr]) λ(x1:D)=>(Ob (Ob (dSeq x1) λds=>Ob (zdd (zfd [.un,.un] (gT 2 (gCons' (gN 0) (gCons' (gN 1) gNil'))) (e2 dIx (eRd 1) (eK (.int 0))) (eVar 0)) ds ([],[])) λr=>some (D.dct r.1 r.2)) λ(x2:D)=>(Ob (dSeq x1) λds12=>Ob ((zeu (λ(s3:Unit) (d9:D)=>Ob (un2 d9) λ(y4:D×D)=>(Ob (dIx y4.2 (.int 4)) λ(x5:D)=>(Ob (Ob ((dIs false) x5 D.non) dB) λk6=>if k6 then(some (Fl.nx ():Fl (Unit) (D))) else(Ob (Ob (Ob ((dInG true) x5 x2) dB) λk8=>if k8 then some true else(Ob (Ob (aC (dGet x2 x5) (aC (some y4.1) aN)) zan) dTru)) λk7=>if k7 then(Ob (Ob (dIx y4.2 (.int 0)) (rz "NoHead" "name" zic)) λ(r7:D)=>(some (Fl.ret r7:Fl (Unit) (D)))) else(some (Fl.nx ():Fl (Unit) (D))))))) ()) ds12) (flK λ(s3:Unit)=>none))))
def zaC:List D->Option D:=VD.c1 zaN
def zdu (F:Fun K "refuse_heads" "refuse_heads" zaM f fd)(B:Blt mg)(qo:Cal P w K mg base 9 "placed_parts" ["sheet"] (spF K zap))(qB:Cal P w K mg base 1 "are_nested" ["one","other"] (spF K zan))(qE:GlobD K mg "NAME" (.int 0))(qV:GlobD K mg "HEAD" (.int 4))(wN:XCl P w K mg "NoHead" "name" zic):FnOk P w K mg base (CXE P w) (9+1) f fd ["sheet"] (spX K zaC):=
 zqD F sc_refuse_heads VD.c1_len λcdv A outer s H E hr L=>by
  have nd:=sc_refuse_heads.nd
  have hu2:=zkU hr
  refine⟨_,(zbe (zib (vsS 1 nd (zay qo hr (zad (vv 0) zai)))) (zbe (zib (zhG 2 nd ["sheet","pairs","places","place","part","head"] zaM (NC:=["place","part"]) [none,none] (zbC (vv 1)) (zc2 (n:=2) rfl (zaq (vgc 0) (zaq (vgc 1) zb2))) (zax (vr 1) (VE.w (zaJ qE))) (vv 0))) (zbe (zqB (zbC (vv 1)) (zc2 rfl (zaq (vgN 3 nd) (zaq (vgN 4 nd) zb2))) (zbe (zib (vsS 5 nd (zax (vr 4) (VE.w (zaJ qV))))) (zbe (zlP (zaO ziR zny (vr 5) (VE.w zeD) (zaX _)) (zhE [3,4,5] (zfc (zib zd1 zr6))) zds) (zbe (zlP (VP.t (zfG (zaO (zdO hr) (zc9 true) (vr 5) (vr 2) rfl) (zdY (zbr (VE.w (zay qB hr (zad (zju hu2 (vr 2) (vr 5)) (zad (vv 3) zai)))))))) (zfc (zlQ (k:=8) wN hr L (zax (vr 4) (VE.w (zaJ qE))))) zds) (zhE [3,4,5] zds))))) zds))),zck ?_⟩;intro qr;unfold zaN;exact(zah (zas rfl) λx1=>(zah (zas rfl) λx2=>(znY (emb:=(λ(s3:Unit)=>[.val qr,.val x1,.val x2,.un,.un,.un])) rfl (λ_=>rfl) (λ_ _=>rfl) (λs3 y4=>(zah (zas rfl) λx5=>(zaQ (zba [3,4,5] (zp5 λ_ h=>h)) (zbE (zaQ (zar λ_ _ h=>h) (zbE (zba [3,4,5] (za6 λ_ h=>h)))))))) λs3=>(za6 λ_ h=>by cases h))))
def za8 (qd:D):Option D:=
 (Ob (Ob (Ob ((zam 7) [qd,(.int 1)]) dTru) λk2=>some (!k2)) λk1=>if k1 then none else(Ob (zby [qd]) λ(x3:D)=>(Ob (Ob (Ob (bLen [x3]) λv5=>(dGt v5 (.int 40))) dB) λk4=>if k4 then none else(Ob (zaw [x3]) λ(u6:D)=>(Ob (zaC [qd]) λ(r:D)=>some r)))))
def zaY:List D->Option D:=VD.c1 za8
def zf8 (F:Fun K "checked" "checked" zdf f fd)(B:Blt mg){Pc:Hp->Prop}(pe:Pers Pc)(qw:Cal P w K mg base 49 "are_parts" ["thing","deep"] (pcS Pc (spF K (zam 7))))(qH:Cal P w K mg base 11 "names_of" ["sheet"] (spF K zby))(qv:Cal P w K mg base 2 "refuse_twice" ["names"] (spF K zaw))(qQ:CalX P w K mg base 10 "refuse_heads" ["sheet"] (spX K zaC))(qA:GlobD K mg "MOST_PARTS" (.int 40)):FnOk P w K mg base (CXE P w) (49+1) f fd ["thing"] (pcS Pc (spX K zaY)):=
 (zop pe F sc_checked VD.c1_len λcdv A outer s H E hr L hp=>by
  have nd:=sc_checked.nd
  refine⟨_,(zbe (zlP (zch (zbr (VE.w (za0 qw hp hr (zad (vv 0) (zad zag zai)))))) (zfc zhD) zds) (zbe (zib (vsS 1 nd (zay qH hr (zad (vv 0) zai)))) (zbe (zlP (zaO zm7 znx (VE.w (ve_b zaG zbB B boot_len (zao (vr 1) zaA))) (VE.w (zaJ qA)) (zaX _)) (zfc zhD) zds) (zbe (zib (zgC (zay qv hr (zad (vv 1) zai)))) (zqA (zqC (zoj qQ hr (zad (vv 0) zai)) L)))))),zck ?_⟩;intro qd;unfold za8;exact(zaQ (zfM rfl) (zbE (zah (zas rfl) λx3=>(zaQ (zfM rfl) (zbE (zah znW λu6=>(zr4 (zar λ_ _ h=>h)))))))))
def zcb (S:Scr)(qf pLk:D):Option (RV×List D):=
 (Ob (Ob (Ob ((lenS S) qf) λv2=>((dEqG false) v2 (.int 0))) dB) λk1=>if k1 then(Ob (some ([(.int 0),(.int 0),pLk]:List D)) λ(r3:List D)=>(some ((.new 1 (.lst r3)),[.non,.non]))) else(Ob (Ob (aC (Ob (Ob ((lenS S) qf) λv4=>(dMod pLk v4)) λv5=>(ixS S qf v5)) (aC (some (.int 0)) (aC (some pLk) aN))) mkLs) λ(r6:List D)=>(some ((.new 1 (.lst r6)),[.non,.non]))))
def zaL (S:Scr):List D->Option (RV×List D):=g2 (zcb S)
def zf9:FnScope ["_law_script","_law_k"] ["_law_script","_law_k"] (zab zcU):=fsc
def zga (F:Fun K "_law_feed" "_law_feed" zcU f fd)(B:Blt mg){Pc:Hp->Prop}(pe:Pers Pc){S:Scr}(hSq:∀H,Pc H->SqF K S H):FnOk P w K mg base CX0 (0+1) f fd ["_law_script","_law_k"] (pcS Pc (spG K [none,none] (zaL S))):=
 zn9 pe [none,none] F zf9 rfl λcdv A outer s H E hcv hr hPc hp=>by
  have hS:Prs _ (SqF K S):=λp Y H s I=>hSq _ (hp p Y H s I)
  refine⟨_,(zac (zbP (zaO (zlv hr) (zc8 false) (VE.w (zjQ hS B (vv 0))) (VE.w zag) (zaX _)) (zaj (zfJ (zbs (zad zag (zad zag (zad (vv 1) zai)))))) zak) (zaj (zfJ (zbs (zad (zqm hS (vv 0) (zaK zcK zcM (vr 1) (VE.w (zjQ hS B (vv 0))))) (zad zag (zad (vv 1) zai))))))),zqh ?_⟩;intro qf pLk;unfold zcb;exact(zaQ (zjy λ_ _ h=>h) (zbE (zjy λ_ _ h=>h)))
def zcc (w4 jd:D):Option (RV×List D):=
 (Ob (Ob (Ob (dIx w4 (.int 1)) λv1=>(dAdd v1 (.int 1))) λv2=>(zlF w4 (.int 1) v2)) λ(x3:D)=>(Ob (Ob (Ob (dIx x3 (.int 0)) λv5=>(Ob (dPow (.int 10) (.int 18)) λv6=>(dGe v5 v6))) dB) λk4=>if k4 then(Ob (Ob (dIx x3 (.int 0)) λv7=>(dMod v7 jd)) λ(x8:D)=>(Ob (Ob (Ob (dIx x3 (.int 0)) λv9=>(dFdiv v9 jd)) λv10=>(zlF x3 (.int 0) v10)) λ(x11:D)=>(Ob (some x8) λ(r12:D)=>(some (.told r12,[x11,.non]))))) else(Ob (Ob (Ob (Ob (dIx x3 (.int 0)) λv13=>(dMod v13 (.int 1000003))) λv15=>(Ob (Ob (dIx x3 (.int 2)) λv14=>(dMul (.int 7919) v14)) λv16=>(dAdd v15 v16))) λv18=>(Ob (Ob (dIx x3 (.int 1)) λv17=>(dMul (.int 104729) v17)) λv19=>(dAdd v18 v19))) λ(x20:D)=>(Ob (Ob (dMul x20 (.int 48271)) λv21=>(dMod v21 (.int 2147483647))) λ(x22:D)=>(Ob (Ob (Ob (Ob (Ob (dMod x22 (.int 65521)) λv23=>(Ob (dIx x3 (.int 1)) λv24=>(dAdd v23 v24))) λv25=>(dMul x22 v25)) λv26=>(dMod v26 (.int 2147483629))) λv27=>(dMod v27 jd)) λ(r28:D)=>(some (.told r28,[x3,.non])))))))
def zal:List D->Option (RV×List D):=g2 zcc
def scLnext:FnScope ["_law_feed_here","_law_many","_law_digit","_law_mixed"] ["_law_feed_here","_law_many"] (zab zcV):=fsc
def zgb (F:Fun K "_law_next" "_law_next" zcV f fd)(B:Blt mg):FnOk P w K mg base CX0 (0+1) f fd ["_law_feed_here","_law_many"] (spG K [some 1,none] zal):=
 zn5 [some 1,none] F scLnext rfl λcdv A outer s H E hr=>by
  have nd:=scLnext.nd
  refine⟨_,(zac (zgG 0 (VE.x (zaK zbu zaP (VE.w (zax (vr 0) (VE.w zag))) (VE.w zag))) zag) (zac (zbP (zaO zkM zlb (VE.w (zax (vr 0) (VE.w zag))) (VE.w (zaK zpk zpM (VE.w zag) (VE.w zag))) (zaX _)) (zac (vsS 2 nd (zaK zcK zcM (VE.w (zax (vr 0) (VE.w zag))) (vr 1))) (zac (zgG 0 (VE.x (zaK ziQ zjl (VE.w (zax (vr 0) (VE.w zag))) (vr 1))) zag) (zaj (zau (vv 2))))) zak) (zac (vsS 3 nd (zaK zbu zaP (VE.w (zaK zbu zaP (VE.w (zaK zcK zcM (VE.w (zax (vr 0) (VE.w zag))) (VE.w zag))) (VE.w (zaK zjm zfH (VE.w zag) (VE.w (zax (vr 0) (VE.w zag))))))) (VE.w (zaK zjm zfH (VE.w zag) (VE.w (zax (vr 0) (VE.w zag))))))) (zac (vsS 3 nd (zaK zcK zcM (VE.w (zaK zjm zfH (vr 3) (VE.w zag))) (VE.w zag))) (zaj (zau (zaK zcK zcM (VE.w (zaK zcK zcM (VE.w (zaK zjm zfH (vr 3) (VE.w (zaK zbu zaP (VE.w (zaK zcK zcM (vr 3) (VE.w zag))) (VE.w (zax (vr 0) (VE.w zag))))))) (VE.w zag))) (vr 1)))))))),zqh ?_⟩;intro w4 jd;unfold zcc;exact(zah (zhw rfl) λx3=>(zaQ (zah (zas rfl) λx8=>(zah (zhw rfl) λx11=>(zar λ_ _ h=>h))) (zbE (zah (zas rfl) λx20=>(zah (zas rfl) λx22=>(zar λ_ _ h=>h))))))
def zcd (S:Scr)(qf:D):Option D:=
 (Ob (some (.str "abcdefghijklmnopqrstuvwxyz")) λ(x1:D)=>(Ob (Ob (Ob (Ob (some [qf,(.int 0)]) λd=>some (d,())) λq3=>Ob ((zaL S) q3.1) λr4=>if q3.1.length=2 then some (r4.1,q3.2) else none) newD) λ(q5:D×Unit)=>(Ob (Ob (Ob (Ob (Ob (Ob (Ob (some (.int 2)) λd=>some (d,q5.1)) λq7=>Ob (Ob (zfR zal ((λ(s:D) e=>e) q7.2) [q7.2,(.int 15)]) λq8=>some (q8.1.d,q8.2)) λq9=>Ob (dAdd q7.1 q9.1) λd10=>some (d10,q9.2)) λq11=>Ob (Ob (Ob (some (.int 40)) λd=>some (d,q11.2)) λq12=>Ob (some ([],q12.2)) λq13=>some (q12.1::q13.1,q13.2)) λq14=>some (q11.1::q14.1,q14.2)) λq15=>Ob (mkLs q15.1) λds=>some (RV.new 1 (.lst ds),q15.2)) λq16=>some (q16.1.d,q16.2)) λq17=>Ob (Ob (Ob (Ob (Ob (zfR zal ((λ(s:D) e=>e) q17.2) [q17.2,(.int 8)]) λq18=>some (q18.1.d,q18.2)) λq19=>Ob (Ob (some (.int 7)) λd=>some (d,q19.2)) λq20=>Ob ((dEqG false) q19.1 q20.1) λd21=>some (d21,q20.2)) λq22=>Ob (some ([],q22.2)) λq23=>some (q22.1::q23.1,q23.2)) λq24=>Ob (bInt q24.1) λd25=>some (d25,q24.2)) λq26=>Ob (dIx q17.1 q26.1) λd27=>some (d27,q26.2)) λ(q28:D×D)=>(Ob (Ob (zfR zal ((λ(s:D) e=>e) q28.2) [q28.2,(.int 26)]) λq30=>some (q30.1.d,q30.2)) λ(q31:D×D)=>(Ob (Ob (Ob (some (.int 1)) λd=>some (d,q31.2)) λq33=>Ob (Ob (zfR zal ((λ(s:D) e=>e) q33.2) [q33.2,(.int 6)]) λq34=>some (q34.1.d,q34.2)) λq35=>Ob (dAdd q33.1 q35.1) λd36=>some (d36,q35.2)) λ(q37:D×D)=>(Ob (some ([]:List D)) λ(x38:List D)=>(Ob (some ([]:List D)) λ(x39:List D)=>(Ob (Ob (rngA [q28.1]) (zaW (λ(s40:D×List D×List D) (d41:D)=>(Ob (Ob (Ob (Ob (aC (some qf) (aC (dAdd (.int 1) d41) aN)) λd=>some (d,())) λq43=>Ob ((zaL S) q43.1) λr44=>if q43.1.length=2 then some (r44.1,q43.2) else none) newD) λ(q45:D×Unit)=>(Ob (Ob (zjK zal [some 1,none] 0 1 (λ(s:D)=>s) (λ(s:D) e=>e) (Ob (Ob (Ob (Ob (aC (some (.int 5)) (aC (Ob (bLen [(.lst s40.2.2)]) λv48=>(dAdd v48 (.int 1))) aN)) bMin) λd=>some (d,q45.1)) λq49=>Ob (some ([],q49.2)) λq50=>some (some q49.1::q50.1,q50.2)) λq51=>some (none::q51.1,q51.2))) λq52=>some (q52.1.d,q52.2)) λ(q53:D×D)=>(Ob (Ob (Ob (dInt q53.1) λi=>some (some i)) λv54=>(dSlL (.lst s40.2.2) none v54)) λ(x55:List D)=>(Ob (Ob (Ob (Ob (dAdd q31.1 d41) λv56=>(dMod v56 (.int 26))) λv57=>(dIx x1 v57)) λv59=>(Ob (Ob (dFdiv d41 (.int 26)) λv58=>(dAdd q37.1 v58)) λv60=>(dMul v59 v60))) λ(x61:D)=>(Ob (Ob (Ob (zbq (λd62=>(Ob (Ob (Ob (dIx d62 (.int 1)) λv64=>((dInG true) v64 (.lst x55))) dB) λk63=>if k63 then(Ob (dIx d62 (.int 1)) λz=>some (some z)) else some none)) s40.2.1) λds=>some (.lst ds)) λv65=>(dAdd (.lst [D.non]) v65)) λ(x66:D)=>(Ob (Ob (Ob (Ob (Ob (some q53.1) λd=>some (d,q53.2)) λq68=>Ob (Ob (Ob (some x61) λd=>some (d,q68.2)) λq69=>Ob (Ob (Ob (bList [(.lst x55)]) λd=>some (d,q69.2)) λq70=>Ob (Ob (Ob (Ob (some x66) λd=>some (d,q70.2)) λq71=>Ob (Ob (zjK zal [some 1,none] 0 1 (λ(s:D)=>s) (λ(s:D) e=>e) (Ob (Ob (Ob (bLen [x66]) λd=>some (d,q71.2)) λq72=>Ob (some ([],q72.2)) λq73=>some (some q72.1::q73.1,q73.2)) λq74=>some (none::q74.1,q74.2))) λq75=>some (q75.1.d,q75.2)) λq76=>Ob (dIx q71.1 q76.1) λd77=>some (d77,q76.2)) λq78=>Ob (some ([],q78.2)) λq79=>some (q78.1::q79.1,q79.2)) λq80=>some (q70.1::q80.1,q80.2)) λq81=>some (q69.1::q81.1,q81.2)) λq82=>some (q68.1::q82.1,q82.2)) λq83=>Ob (mkT q83.1) λd84=>some (d84,q83.2)) λq85=>Ob (appL ((λ_=>s40.2.1) q85.2) q85.1) λys=>some (ys,q85.2)) λ(q86:List D×D)=>(Ob (appL x55 x61) λ(x87:List D)=>(some (q86.2,q86.1,x87)))))))))) (q37.2,x38,x39))) λ(s40:D×List D×List D)=>(Ob (some (.lst s40.2.1)) λ(r88:D)=>(some r88))))))))))
def zce (S:Scr):List D->Option D:=c1 (zcd S)
def scLrows:FnScope ["_law_script","_law_letters","_law_feed_here","_law_many","_law_turn","_law_size","_law_rows_here","_law_line","_law_k","_law_deep","_law_name","_law_others"] ["_law_script"] (zab zb8):=fsc
def zgc (F:Fun K "_law_rows" "_law_rows" zb8 f fd)(B:Blt mg){Pc:Hp->Prop}(pe:Pers Pc){S:Scr}(wf:Cal P w K mg base 1 "_law_feed" ["_law_script","_law_k"] (pcS Pc (spG K [none,none] (zaL S))))(qJ:Cal P w K mg base 1 "_law_next" ["_law_feed_here","_law_many"] (spG K [some 1,none] zal)):FnOk P w K mg base CX0 (4+1) f fd ["_law_script"] (pcS Pc (spF K (zce S))):=
 zb7 pe F scLrows c1_len λcdv A outer s H E hcv hr hPc hp=>by
  have nd:=scLrows.nd
  refine⟨_,(zac (vsS 1 nd zdA) (zac (zgF (i:=2) nd rfl (Or.inl rfl) (zed wf hp hr (VA.x (zad (vv 0) (zad zag zai))))) (zac (zd5 (i:=3) nd rfl (Or.inl rfl) (zp2 (VR.x (zp1 (za4 (znG zbu zaP (VE.x zag) (VR.x (zb6 0 2 1 qJ hr (zb5 (ze5 (VE.x zag) zb4))))) (za4 (VE.x zag) zd3)))) (zrS ziT zpQ B boot_int (za4 (zpZ (zlv hr) (zc8 false) (VR.x (zb6 0 2 1 qJ hr (zb5 (ze5 (VE.x zag) zb4)))) (VE.x zag) (zaX _)) zd3)))) (zac (zd5 (i:=4) nd rfl (Or.inl rfl) (VR.x (zb6 0 2 1 qJ hr (zb5 (ze5 (VE.x zag) zb4))))) (zac (zd5 (i:=5) nd rfl (Or.inl rfl) (znG zbu zaP (VE.x zag) (VR.x (zb6 0 2 1 qJ hr (zb5 (ze5 (VE.x zag) zb4)))))) (zac (vsO 6 nd (zbs zai)) (zac (vsO 7 nd (zbs zai)) (zac (zd2 (zdZ B (zad (vv 3) zai)) (vgN 8 nd) (zac (zgF (i:=2) nd rfl (Or.inl rfl) (zed wf hp hr (VA.x (zad (vv 0) (zad (zaK zbu zaP (VE.w zag) (vr 8)) zai))))) (zac (zd5 (i:=9) nd rfl (Or.inl rfl) (VR.x (zb6 0 2 1 qJ hr (zb5 (ze5 (VE.x (ve_b (zft rfl) zmv B boot_min (zao (VE.w zag) (zao (VE.w (zaK zbu zaP (VE.w (ve_b zaG zbB B boot_len (zao (vr 7) zaA))) (VE.w zag))) zaA)))) zb4))))) (zac (vsO 7 nd (zlX (vr 7) zb0 (zb1 (vv 9)))) (zac (vsS 10 nd (zaK zjm zfH (VE.w (zax (vr 1) (VE.w (zaK zcK zcM (VE.w (zaK zbu zaP (vr 4) (vr 8))) (VE.w zag))))) (VE.w (zaK zbu zaP (vr 5) (VE.w (zaK ziQ zjl (vr 8) (VE.w zag))))))) (zac (vsS 11 nd (zaK zbu zaP (VE.w (VN.ve (zbs (zad zeD zai)))) (VE.w (VN.ve (vnCO ["_law_script","_law_letters","_law_feed_here","_law_many","_law_turn","_law_size","_law_rows_here","_law_line","_law_k","_law_deep","_law_name","_law_others"] zb8 (NC:=["_law_row","_law_line"]) [none,some 7] (zqQ (vr 6)) ((vgc 0)) ((ze1 (zaO (zdO hr) (zc9 true) (VE.w (zax (vr 0) (VE.w zag))) (vrC 1 rfl rfl rfl rfl) rfl))) ((zax (vr 0) (VE.w zag)))))))) (zac (znK 6 (zp0 (za4 (VE.x (vv 9)) (za4 (VE.x (vv 10)) (za4 (VE.x (znw zdx znA B boot_list (zao (vr 7) zaA))) (za4 (zp2 (VE.x (vv 11)) (VR.x (zb6 0 2 1 qJ hr (zb5 (ze5 (VE.x (ve_b zaG zbB B boot_len (zao (vr 11) zaA))) zb4))))) zd3)))))) (zac (zfK 7 (vv 10)) (za5 [8,9,10,11] zak))))))))) (ze3 6 (zaj (zau (vv 6)))))))))))),zck ?_⟩;intro qf;unfold zcd;exact(zah (zas rfl) λx1=>(zah (zgO (emb:=(λ(s2:Unit)=>[.val qf,.val x1,.un,.un,.un,.un,.un,.un,.un,.un,.un,.un])) (zd8 (zjI rfl)) λ_=>rfl) λq5=>(zah (zd9 (emb:=(λ(s6:D)=>[.val qf,.val x1,.own 1 s6,.un,.un,.un,.un,.un,.un,.un,.un,.un])) (zh6 (zew (zn3 (zaR (zh6 (zda rfl) λq7=>(zew (zbW (put:=((λ(s:D) e=>e) q7.2)) (as:=[none,some (.int 15)]) (d:=q7.2) rfl rfl rfl λ_=>rfl))) λq11=>(zaR (zda rfl) λq12=>(zdb rfl))))) λq17=>(zhu (zaR (zh6 (zew (zbW (put:=((λ(s:D) e=>e) q17.2)) (as:=[none,some (.int 8)]) (d:=q17.2) rfl rfl rfl λ_=>rfl)) λq19=>(zda rfl)) λq22=>(zdb rfl)))) λ_=>rfl) λq28=>(zah (zd9 (emb:=(λ(s29:D)=>[.val qf,.val x1,.own 1 s29,.val q28.1,.un,.un,.un,.un,.un,.un,.un,.un])) (zew (zbW (put:=((λ(s:D) e=>e) q28.2)) (as:=[none,some (.int 26)]) (d:=q28.2) rfl rfl rfl λ_=>rfl)) λ_=>rfl) λq31=>(zah (zd9 (emb:=(λ(s32:D)=>[.val qf,.val x1,.own 1 s32,.val q28.1,.val q31.1,.un,.un,.un,.un,.un,.un,.un])) (zh6 (zda rfl) λq33=>(zew (zbW (put:=((λ(s:D) e=>e) q33.2)) (as:=[none,some (.int 6)]) (d:=q33.2) rfl rfl rfl λ_=>rfl))) λ_=>rfl) λq37=>(zah (zc6 rfl) λx38=>(zah (zc6 rfl) λx39=>(zah (ze6 (emb:=(λ(s40:D×List D×List D)=>[.val qf,.val x1,.own 1 s40.1,.val q28.1,.val q31.1,.val q37.1,.own 1 (.lst s40.2.1),.own 1 (.lst s40.2.2),.un,.un,.un,.un])) rfl (λ_=>rfl) λs40 d41=>(zah (zgO (emb:=(λ(s42:Unit)=>[.val qf,.val x1,.own 1 s40.1,.val q28.1,.val q31.1,.val q37.1,.own 1 (.lst s40.2.1),.own 1 (.lst s40.2.2),.val d41,.un,.un,.un])) (zd8 (zjI rfl)) λ_=>rfl) λq45=>(zah (zd9 (emb:=(λ(s46:D)=>[.val qf,.val x1,.own 1 s46,.val q28.1,.val q31.1,.val q37.1,.own 1 (.lst s40.2.1),.own 1 (.lst s40.2.2),.val d41,.un,.un,.un])) (zew (zfa (get:=(λ(s:D)=>s)) (put:=(λ(s:D) e=>e)) (ze9 rfl (zjJ (zda rfl) λq49=>(ze8 rfl))) (λ_=>rfl) λ_ _=>rfl)) λ_=>rfl) λq53=>(zah (zc6 rfl) λx55=>(zah (zas rfl) λx61=>(zah (zas rfl) λx66=>(zah (zn4 (emb:=(λ(s67:D)=>[.val qf,.val x1,.own 1 s67,.val q28.1,.val q31.1,.val q37.1,.own 1 (.lst s40.2.1),.own 1 (.lst x55),.val d41,.val q53.1,.val x61,.val x66])) (get:=(λ_=>s40.2.1)) rfl (zn2 (zaR (zda rfl) λq68=>(zaR (zda rfl) λq69=>(zaR (zda rfl) λq70=>(zaR (zh6 (zda rfl) λq71=>(zew (zfa (get:=(λ(s:D)=>s)) (put:=(λ(s:D) e=>e)) (ze9 rfl (zjJ (zda rfl) λq72=>(ze8 rfl))) (λ_=>rfl) λ_ _=>rfl))) λq78=>(zdb rfl)))))) λ_=>rfl) λq86=>(zah (zfN rfl) λx87=>(zba [8,9,10,11] (za6 λ_ h=>h)))))))))) λs40=>(zhq 6 (zar λ_ _ h=>h))))))))))
def zcI (qp pLk jW:D):Option D:=
 (Ob (Ob (Ob (dSeq qp) (zbq (λd1=>(Ob (dIx d1 (.int 1)) λz=>some (some z))))) λds=>some (.lst ds)) λ(x2:D)=>(Ob (Ob (Ob (dSeq qp) (zbq (λd3=>(Ob (Ob (Ob (dIx x2 pLk) λv5=>(Ob (dIx d3 (.int 2)) λv6=>((dInG false) v5 v6))) dB) λk4=>if k4 then(Ob (dIx d3 (.int 1)) λz=>some (some z)) else some none)))) λds=>some (.lst ds)) λ(x7:D)=>(Ob (Ob (Ob (Ob (Ob (aC (dIx x2 pLk) aN) mkLs) λds=>some (.lst ds)) λv10=>(Ob (Ob (Ob (dIx qp pLk) λv8=>(dIx v8 (.int 2))) λv9=>(dSl v9 none (some 1))) λv11=>(dAdd v10 v11))) λv12=>(Ob (Ob (Ob (dIx qp pLk) λv13=>(dIx v13 (.int 2))) λv14=>(Ob (Ob (dNeg (.int 1)) λd=>Ob (dInt d) λi=>some (some i)) λv15=>(dSl v14 v15 none))) λv16=>(dCat v12 v16))) λ(x17:List D)=>(Ob (Ob (Ob (Ob (dSl x7 none (some 1)) λv18=>(dAdd (.lst x17) v18)) λv20=>(Ob (Ob (Ob (dNeg (.int 1)) λd=>Ob (dInt d) λi=>some (some i)) λv19=>(dSl x7 v19 none)) λv21=>(dAdd v20 v21))) λv22=>(dCat v22 (.lst [(.str "zzzzzzzz")]))) λ(x23:List D)=>(Ob (Ob (Ob (Ob (Ob (Ob (aC (dIx x2 pLk) aN) bLen) λv28=>(dLt v28 (.int 8))) dB) λk27=>if k27 then(Ob (Ob (Ob (dIx x2 pLk) λv25=>(dAdd v25 (.str "q"))) λv26=>((dInG true) v26 x2)) dB) else some false) λk24=>if k24 then(Ob (Ob (Ob (dIx x2 pLk) λv29=>(dAdd v29 (.str "q"))) (appL x23)) λ(x30:List D)=>(some x30)) else(some x23)) λ(s31:List D)=>(Ob (Ob (Ob (bLen [(.lst s31)]) λv32=>(dMod jW v32)) λv33=>(dIx (.lst s31) v33)) λ(r34:D)=>(some r34)))))))
def zcJ:List D->Option D:=c3 zcI
def scLbad:FnScope ["_law_rows_here","_law_k","_law_way","_law_names","_law_within","_law_some"] ["_law_rows_here","_law_k","_law_way"] (zab zbX):=fsc
def zgX (F:Fun K "_law_bad" "_law_bad" zbX f fd)(B:Blt mg):FnOk P w K mg base CX0 (0+1) f fd ["_law_rows_here","_law_k","_law_way"] (spF K zcJ):=
 zbF F scLbad zqa λcdv A outer s H E hr=>by
  have nd:=scLbad.nd
  refine⟨_,(zac (vsS 3 nd (VN.ve (vnC ["_law_rows_here","_law_k","_law_way","_law_names","_law_within","_law_some"] zbX (NC:=["_law_row"]) [none] (zbC (vv 0)) ((vgc 0)) (zcR) ((zax (vr 0) (VE.w zag)))))) (zac (And.left (zgD ["_law_rows_here","_law_k","_law_way","_law_names","_law_within","_law_some"] zbX (i:=4) (NC:=["_law_row","_law_k","_law_names"]) [none,some 1,some 3] nd rfl (Or.inl rfl) rfl (zbC (vv 0)) (λx h=>za3 h) rfl rfl rfl (by decide +kernel) (by decide +kernel) rfl (by decide +kernel) (by decide +kernel) rfl (by decide) (λcl C s0 H0 ex pn=>(vgc 0)) (λcl C s0 H0 ex pn=>(ze1 (zaO (zjG hr) (zc9 false) (VE.w (zax (vrC 2 rfl rfl rfl rfl) (vrC 1 rfl rfl rfl rfl))) (VE.w (zax (vr 0) (VE.w zag))) rfl))) (λcl C s0 H0 ex pn=>(zax (vr 0) (VE.w zag))))) (zac (vsO 5 nd (zmN (VE.w (zaK zbu zaP (VE.w (VN.ve (zbs (zad (zax (vr 3) (vr 1)) zai)))) (VE.w (zcx (VE.w (zax (VE.w (zax (vr 0) (vr 1))) (VE.w zag))) zb0 (zb1 zag))))) (VE.w (zcx (VE.w (zax (VE.w (zax (vr 0) (vr 1))) (VE.w zag))) (zb1 (zmu zag)) zb0)))) (zac (vsO 5 nd (zmN (VE.w (zaK zbu zaP (VE.w (zaK zbu zaP (vr 5) (VE.w (zcx (vr 4) zb0 (zb1 zag))))) (VE.w (zcx (vr 4) (zb1 (zmu zag)) zb0)))) (VE.w (VN.ve (zbs (zad zdA zai)))))) (zac (zbP (VP.t (zmr (zaO zrG zrQ (VE.w (ve_b zaG zbB B boot_len (zao (VE.w (zax (vr 3) (vr 1))) zaA))) (VE.w zag) (zaX _)) (zjj (zaO (zdO hr) (zc9 true) (VE.w (zaK zbu zaP (VE.w (zax (vr 3) (vr 1))) (VE.w zdA))) (vr 3) rfl)))) (zac (zfK 5 (zaK zbu zaP (VE.w (zax (vr 3) (vr 1))) (VE.w zdA))) zak) zak) (zaj (zau (zax (vr 5) (VE.w (zaK zcK zcM (vr 2) (VE.w (ve_b zaG zbB B boot_len (zao (vr 5) zaA))))))))))))),zrZ ?_⟩;intro qp pLk jW;unfold zcI;exact(zah (zas rfl) λx2=>(zah (zas rfl) λx7=>(zah (zc6 rfl) λx17=>(zah (zc6 rfl) λx23=>(zah (zp6 (emb:=(λ(s31:List D)=>[.val qp,.val pLk,.val jW,.val x2,.val x7,.own 1 (.lst s31)])) (zah (zfN rfl) λx30=>(za6 λ_ h=>h)) (za6 λ_ h=>h)) λs31=>(zar λ_ _ h=>h))))))
def zcf (qp je:D):Option D:=
 (Ob (some ()) λ(u1:Unit)=>(Ob (Ob (Ob (aC (bLen [qp]) aN) zp9) (zaW (λ(s2:List D) (d3:D)=>(Ob (Ob (dIx qp d3) λv4=>(dIx v4 (.int 0))) λ(x5:D)=>(Ob (Ob (aC (Ob (dIx qp d3) λv6=>(dIx v6 (.int 1))) (aC (Ob (aC (some d3) (aC (dSub (.int 0) d3) (aC (dAdd (.int 1) d3) (aC (some (.int 2)) aN)))) mkT) (aC (some (.str "free")) (aC (dMod d3 (.int 3)) (aC (dIx je d3) (aC (Ob (aC (Ob (Ob (Ob (dAdd x5 (.int 1)) λv7=>(ix2C s2 v7)) λv8=>(Ob (dLst v8) λds=>some ds.reverse)) λds=>some (.lst ds)) aN) bTuple) aN)))))) mkT) λ(x9:D)=>(Ob (Ob (dAdd x5 (.int 1)) λv10=>(zlE s2 [] v10)) λ(x11:List D)=>(Ob (zoa x11 x5 x9) λ(x12:List D)=>(some x12)))))) [D.lst [],D.lst [],D.lst [],D.lst [],D.lst [],D.lst []])) λ(s2:List D)=>(Ob (Ob (aC (Ob (Ob (ix2C s2 (.int 0)) λv13=>(Ob (dLst v13) λds=>some ds.reverse)) λds=>some (.lst ds)) aN) bTuple) λ(r14:D)=>(some r14))))
def zaU:List D->Option D:=c2 zcf
def scLhung:FnScope ["_law_rows_here","_law_heads","_law_waiting","_law_k","_law_deep","_law_part"] ["_law_rows_here","_law_heads"] (zab zb9):=fsc
def zgd (F:Fun K "_law_hung" "_law_hung" zb9 f fd)(B:Blt mg):FnOk P w K mg base CX0 (1+1) f fd ["_law_rows_here","_law_heads"] (spF K zaU):=
 zbF F scLhung zc7 λcdv A outer s H E hr=>by
  have nd:=scLhung.nd
  refine⟨_,(zac (zlq ["_law_rows_here","_law_heads","_law_waiting","_law_k","_law_deep","_law_part"] zb9 (i:=2) (NC:=["_law_deep"]) [none] nd rfl (Or.inl rfl) rfl (zdZ B (zad zag zai)) (λx h=>za3 h) rfl rfl rfl (by decide +kernel) (by decide +kernel) rfl (by decide +kernel) (by decide +kernel) rfl (by decide) (λcl C s0 H0 ex pn=>(vgc 0)) (λcl C s0 H0 ex pn=>(zbs zai))) (zac (zd2 (znS B (zad (ve_b zaG zbB B boot_len (zao (vr 0) zaA)) zai)) (vgN 3 nd) (zac (vsS 4 nd (zax (VE.w (zax (vr 0) (vr 3))) (VE.w zag))) (zac (vsS 5 nd (zcm (zad (zax (VE.w (zax (vr 0) (vr 3))) (VE.w zag)) (zad (zcm (zad (vv 3) (zad (zaK zpj zpL (VE.w zag) (vr 3)) (zad (zaK zbu zaP (VE.w zag) (vr 3)) (zad zag zai))))) (zad zdA (zad (zaK zcK zcM (vr 3) (VE.w zag)) (zad (zax (vr 1) (vr 3)) (zad (znw zc0 zhm B boot_tuple (zao (VE.w (VN.ve (zmt (zmB 2 (zaK zbu zaP (vr 4) (VE.w zag)))))) zaA)) zai)))))))) (zac (znQ 2 (zbs zai) (zaK zbu zaP (vr 4) (VE.w zag))) (zac (znO 2 (vv 4) (vv 5)) (za5 [3,4,5] zak)))))) (zaj (zau (znw zc0 zhm B boot_tuple (zao (VE.w (VN.ve (zmt (zmB 2 zag)))) zaA)))))),zgJ ?_⟩;intro qp je;unfold zcf;exact(zah (zn0 (n:=2) (x:=.lst [D.lst [],D.lst [],D.lst [],D.lst [],D.lst [],D.lst []]) rfl rfl) λu1=>(zah (ze6 (emb:=(λ(s2:List D)=>[.val qp,.val je,.own 2 (.lst s2),.un,.un,.un])) rfl (λ_=>rfl) λs2 d3=>(zah (zas rfl) λx5=>(zah (zas rfl) λx9=>(zah (zob rfl) λx11=>(zah (zoc rfl) λx12=>(zba [3,4,5] (za6 λ_ h=>h))))))) λs2=>(zar λ_ _ h=>h)))
def scLgot:FnScope ["_law_sheet","_law_got_here","e","_law_sorts"] ["_law_sheet"] (zab zcD):=fsc
def zge:List (Str×Bool):=[("NoHead",true)]
def zez:List (Str×Bool):=[("NoHead",false)]
def zqZ:List (Str×Bool):=[("NoHead",true)]
def zl6 (x:D):Option D:=
 (Ob (Ob (Ob (aC (isX zge x) (aC (isX zez x) (aC (isX zez x) (aC (isX zez x) aN)))) mkLs) λds=>some (.lst ds)) λ(l1:D)=>(Ob (Ob (Ob (Ob (aC (isX zez x) (aC (isX zez x) aN)) mkLs) λds=>some (.lst ds)) λv=>dAdd l1 v) λ(l2:D)=>(Ob (Ob (aC (some l2) (aC (isX zqZ x) (aC (some x) aN))) mkT) λ(r2:D)=>some r2)))
def zl7 (qd:D):Option D:=
 (Ob (Ob (aC (some (.str "told")) (aC (Ob (aC (some qd) aN) zbZ) aN)) mkT) λ(r:D)=>some r)
def zbz (qd:D):Option D:=
 (Ob (some D.non) λ(x1:D)=>(Ob (match (Ob (some (D.str "told")) λ_=>Ob (aC (some qd) aN) zaY) with|some x=>if zcT ["NoHead"] x then zl6 x else none|none=>zl7 qd) λ(x10:D)=>(Ob (some x10) λ(r:D)=>some r)))
def zbb:List D->Option D:=VD.c1 zbz
def zgY {c0 c1 c2 c3 c4 c5:Addr}(F:Fun K "_law_got" "_law_got" zcD f fd)(B:Blt mg){Pc:Hp->Prop}(pe:Pers Pc)(wF:Cal P w K mg base 50 "checked" ["thing"] (pcS Pc (spF K zbZ)))(wv:CalX P w K mg base 50 "checked" ["thing"] (pcS Pc (spX K zaY)))(TY:XTy K mg "FocusError" ["NoHead"])
 (m0:mg "NoHead"=some (.ref c0)) (m1:mg "NoSheet"=some (.ref c1)) (m2:mg "TooMany"=some (.ref c2)) (m3:mg "Twice"=some (.ref c3)) (m4:mg "MustRing"=some (.ref c4)) (m5:mg "NoPart"=some (.ref c5)) (mv:mg "ValueError"=none)
 (i0:XInst K (.ref c0) zge) (i1:XInst K (.ref c1) zez) (i2:XInst K (.ref c2) zez) (i3:XInst K (.ref c3) zez) (i4:XInst K (.ref c4) zez) (i5:XInst K (.ref c5) zez) (iv:XInst K (.type "ValueError") zqZ):FnOk P w K mg base CX0 (50+1) f fd ["_law_sheet"] (pcS Pc (spF K zbb)):=
 zb7 pe F scLgot VD.c1_len λcdv A outer s H E hcv hr hPc hp=>by
  have nd:=scLgot.nd
  have hp2:Prs (cxOf CX0 P w K mg base ["_law_sheet","_law_got_here","e","_law_sorts"] "_law_got" (zab zcD) f cdv A outer s H E).nox.nox Pc:=λa b c d I=>hp a b c d (zdD I)
  refine⟨_,(zac (vsS 1 nd zeD) (zac (zqF 2 TY nd (zok 1 nd (zqK (zqJ zdA (zqI (zlU wv hp hr (zad (vv 0) zai))))))
   (zaj (vsS 1 nd (zcm (zad zdA (zad (za0 wF hp2 hr (zad (vv 0) zai)) zai)))))
   (λev=>zac (vsS 3 nd (VN.ve (zbs (zad (zeK i0 m0 B (vv 2)) (zad (zeK i1 m1 B (vv 2)) (zad (zeK i2 m2 B (vv 2)) (zad (zeK i3 m3 B (vv 2)) zai))))))) (zac (vsS 3 nd (zaK zbu zaP (vr 3) (VE.w (VN.ve (zbs (zad (zeK i4 m4 B (vv 2)) (zad (zeK i5 m5 B (vv 2)) zai))))))) (zac (vsS 1 nd (zcm (zad (vv 3) (zad (zqH iv mv zee B (vv 2)) (zad (vv 2) zai))))) (za5 [3] zak))))) (zaj (zau (vv 1))))),zck ?_⟩
  intro qd;unfold zbz;exact(zah (zas rfl) λx1=>(zah (zqG (emb:=λx10=>[.val qd,.val x10,.un,.un]) rfl (λx=>(by unfold zl6;exact(zah (zas rfl) λl1=>(zah (zas rfl) λl2=>(zah (zas rfl) λr2=>(zba [3] (za6 λ_ h=>h))))))) (λ_=>(by unfold zl7;exact(zp4 (zas rfl) λ_ _ h=>h)))) λx10=>(zar λ_ _ h=>h)))
def zl8 (S:Scr)(qf:D):Option D:=
 (Ob ((zce S) [qf]) λ(x1:D)=>(Ob (Ob (Ob (dSeq x1) (zbq (λd2=>(Ob (dIx d2 (.int 3)) λz=>some (some z))))) λds=>some (.lst ds)) λ(x3:D)=>(Ob (zmO [x3]) λ(x4:List D)=>(Ob (Ob (Ob (Ob (some [qf,(.int 61)]) λd=>some (d,())) λq6=>Ob ((zaL S) q6.1) λr7=>if q6.1.length=2 then some (r7.1,q6.2) else none) newD) λ(q8:D×Unit)=>(Ob (some ([]:List D)) λ(x9:List D)=>(Ob (Ob (Ob (Ob (Ob (Ob (some (.int 1)) λd=>some (d,q8.1)) λq11=>Ob (Ob (zfR zal ((λ(s:D) e=>e) q11.2) [q11.2,(.int 3)]) λq12=>some (q12.1.d,q12.2)) λq13=>Ob (dAdd q11.1 q13.1) λd14=>some (d14,q13.2)) λq15=>Ob (some ([],q15.2)) λq16=>some (q15.1::q16.1,q16.2)) λq17=>Ob (rngA q17.1) λds=>some (ds,q17.2)) λq74=>(zaW (λ(s18:List D×D×List D) (d19:D)=>(Ob (Ob (zjK zal [some 1,none] 0 1 (λ(s:D)=>s) (λ(s:D) e=>e) (Ob (Ob (Ob (bLen [x1]) λd=>some (d,s18.2.1)) λq21=>Ob (some ([],q21.2)) λq22=>some (some q21.1::q22.1,q22.2)) λq23=>some (none::q23.1,q23.2))) λq24=>some (q24.1.d,q24.2)) λ(q25:D×D)=>(Ob (Ob (Ob (Ob (Ob (some x1) λd=>some (d,q25.2)) λq27=>Ob (Ob (Ob (some q25.1) λd=>some (d,q27.2)) λq28=>Ob (Ob (Ob (zfR zal ((λ(s:D) e=>e) q28.2) [q28.2,(.int 7)]) λq29=>some (q29.1.d,q29.2)) λq30=>Ob (some ([],q30.2)) λq31=>some (q30.1::q31.1,q31.2)) λq32=>some (q28.1::q32.1,q32.2)) λq33=>some (q27.1::q33.1,q33.2)) λq34=>Ob (zcJ q34.1) λd35=>some (d35,q34.2)) λq36=>Ob (some q25.1) λk38=>Ob (zjA ((λ_=>s18.1) q36.2) k38 q36.1) λys=>some (ys,q36.2)) λ(q37:List D×D)=>(Ob (appL s18.2.2 q25.1) λ(x39:List D)=>(some (q37.1,q37.2,x39)))))) (x4,q74.2,x9) q74.1)) λ(s18:List D×D×List D)=>(Ob (rngA [(.int 2)]) λds73=>Ob ((zeu (λ(s56:Unit) (d57:D)=>(Ob (Ob (aC (zaU [x1,(.lst s18.1)]) aN) zbb) λ(x58:D)=>(Ob (Ob (Ob (Ob (dSl x58 none (some 2)) λv66=>((dEqG true) v66 (.tup [(.lst [(.bl true),(.bl false),(.bl false),(.bl false),(.bl false),(.bl false)]),(.bl true)]))) dB) λk65=>if k65 then some true else(Ob (Ob (Ob (dIx x58 (.int 2)) λv60=>(zom "name" ["NoHead"] v60)) λv63=>(Ob (Ob (Ob (zos [(.lst s18.2.2)]) λv61=>(dIx x1 v61)) λv62=>(dIx v62 (.int 1))) λv64=>((dEqG true) v63 v64))) dB)) λk59=>if k59 then(Ob (some (.bl false)) λ(r67:D)=>(some (Fl.ret r67:Fl (Unit) (D)))) else(Ob (zaU [x1,x3]) λ(x68:D)=>(Ob (Ob (Ob (zbb [x68]) λv70=>((dEqG true) v70 (.tup [(.str "told"),x68]))) dB) λk69=>if k69 then(Ob (some (.bl false)) λ(r71:D)=>(some (Fl.ret r71:Fl (Unit) (D)))) else(some (Fl.nx ():Fl (Unit) (D)))))))) ()) ds73) (flK λ(s56:Unit)=>(Ob (some (.bl true)) λ(r72:D)=>(some r72))))))))))
def zoy (S:Scr):List D->Option D:=c1 (zl8 S)
def sc_law:FnScope ["_law_script","_law_rows_here","_law_good","_law_bent","_law_feed_here","_law_spoilt","_law_k","_law_at","_law_turn","_law_got_here","_law_sheet"] ["_law_script"] (zab zey):=fsc
def zq0 (F:Fun K "law" "law" zey f fd)(B:Blt mg){Pc:Hp->Prop}(pe:Pers Pc){S:Scr}(jB:Cal P w K mg base 5 "_law_rows" ["_law_script"] (pcS Pc (spF K (zce S))))(wf:Cal P w K mg base 1 "_law_feed" ["_law_script","_law_k"] (pcS Pc (spG K [none,none] (zaL S))))(qJ:Cal P w K mg base 1 "_law_next" ["_law_feed_here","_law_many"] (spG K [some 1,none] zal))(Jb:Cal P w K mg base 1 "_law_bad" ["_law_rows_here","_law_k","_law_way"] (spF K zcJ))(jI:Cal P w K mg base 51 "_law_got" ["_law_sheet"] (pcS Pc (spF K zbb)))(jk:Cal P w K mg base 2 "_law_hung" ["_law_rows_here","_law_heads"] (spF K zaU))(jh:XFld K "name" ["NoHead"]):FnOk P w K mg base CX0 (52+1) f fd ["_law_script"] (pcS Pc (spF K (zoy S))):=
 zb7 pe F sc_law c1_len λcdv A outer s H E hcv hr hPc hp=>by
  have nd:=sc_law.nd
  refine⟨_,(zac (vsS 1 nd (za0 jB hp hr (zad (vv 0) zai))) (zac (And.left (zgD ["_law_script","_law_rows_here","_law_good","_law_bent","_law_feed_here","_law_spoilt","_law_k","_law_at","_law_turn","_law_got_here","_law_sheet"] zey (i:=2) (NC:=["_law_row"]) [none] nd rfl (Or.inl rfl) rfl (zbC (vv 1)) (λx h=>za3 h) rfl rfl rfl (by decide +kernel) (by decide +kernel) rfl (by decide +kernel) (by decide +kernel) rfl (by decide) (λcl C s0 H0 ex pn=>(vgc 0)) (λcl C s0 H0 ex pn=>zcR) (λcl C s0 H0 ex pn=>(zax (vr 0) (VE.w zag))))) (zac (vsO 3 nd (zor B (zao (vr 2) zaA))) (zac (zgF (i:=4) nd rfl (Or.inl rfl) (zed wf hp hr (VA.x (zad (vv 0) (zad zag zai))))) (zac (vsO 5 nd (zbs zai)) (zac (znM (zh5 B (za4 (znG zbu zaP (VE.x zag) (VR.x (zb6 0 4 1 qJ hr (zb5 (ze5 (VE.x zag) zb4))))) zd3)) (vgN 6 nd) (zac (zd5 (i:=7) nd rfl (Or.inl rfl) (VR.x (zb6 0 4 1 qJ hr (zb5 (ze5 (VE.x (ve_b zaG zbB B boot_len (zao (vr 1) zaA))) zb4))))) (zac (zgG 3 (znH Jb hr (za4 (VE.x (vv 1)) (za4 (VE.x (vv 7)) (za4 (VR.x (zb6 0 4 1 qJ hr (zb5 (ze5 (VE.x zag) zb4)))) zd3)))) (vv 7)) (zac (zfK 5 (vv 7)) (za5 [6,7] zak))))) (ze3 3 (zac (zd2 (zdZ B (zad zag zai)) (vgN 8 nd) (zac (vsS 9 nd (za0 jI hp hr (zad (zay jk hr (zad (vv 1) (zad (vv 3) zai))) zai))) (zac (zbP (VP.t (zfG (zaO (zjD hr) (zc8 true) (VE.w (zcx (vr 9) zb0 (zb1 zag))) (VE.w (zcm (zad (VN.ve (zbs (zad zcj (zad zcj (zad zcj (zad zcj (zad zcj (zad zcj zai)))))))) (zad zcj zai)))) (zaX _)) (zdY (zaO (zjD hr) (zc8 true) (VE.w (zon jh (zax (vr 9) (VE.w zag)))) (VE.w (zax (VE.w (zax (vr 1) (VE.w (ve_b (zka hr) zot B boot_min (zao (vr 5) zaA))))) (VE.w zag))) (zaX _))))) (zaj (zau zcj)) zak) (zac (vsS 10 nd (zay jk hr (zad (vv 1) (zad (vv 2) zai)))) (zac (zbP (zaO (zjD hr) (zc8 true) (VE.w (za0 jI hp hr (zad (vv 10) zai))) (VE.w (zcm (zad zdA (zad (vv 10) zai)))) (zaX _)) (zaj (zau zcj)) zak) (za5 [8,9,10] zak)))))) (zaj (zau zcj)))))))))),zck ?_⟩;intro qf;unfold zl8;exact(zah (zas rfl) λx1=>(zah (zas rfl) λx3=>(zah (zc6 rfl) λx4=>(zah (zgO (emb:=(λ(s5:Unit)=>[.val qf,.val x1,.val x3,.own 1 (.lst x4),.un,.un,.un,.un,.un,.un,.un])) (zd8 (zjI rfl)) λ_=>rfl) λq8=>(zah (zc6 rfl) λx9=>(zah (zlz (emb:=(λ(s18:List D×D×List D)=>[.val qf,.val x1,.val x3,.own 1 (.lst s18.1),.own 1 s18.2.1,.own 1 (.lst s18.2.2),.un,.un,.un,.un,.un])) (emb0:=(λ(s10:D)=>[.val qf,.val x1,.val x3,.own 1 (.lst x4),.own 1 s10,.own 1 (.lst x9),.un,.un,.un,.un,.un])) (ini:=(λ(z75:D)=>(x4,z75,x9))) (zlA (zaR (zh6 (zda rfl) λq11=>(zew (zbW (put:=((λ(s:D) e=>e) q11.2)) (as:=[none,some (.int 3)]) (d:=q11.2) rfl rfl rfl λ_=>rfl))) λq15=>(zdb rfl))) (λ_=>rfl) (λ_=>rfl) λs18 d19=>(zah (zd9 (emb:=(λ(s20:D)=>[.val qf,.val x1,.val x3,.own 1 (.lst s18.1),.own 1 s20,.own 1 (.lst s18.2.2),.val d19,.un,.un,.un,.un])) (zew (zfa (get:=(λ(s:D)=>s)) (put:=(λ(s:D) e=>e)) (ze9 rfl (zjJ (zda rfl) λq21=>(ze8 rfl))) (λ_=>rfl) λ_ _=>rfl)) λ_=>rfl) λq25=>(zah (zlx (emb:=(λ(s26:D)=>[.val qf,.val x1,.val x3,.own 1 (.lst s18.1),.own 1 s26,.own 1 (.lst s18.2.2),.val d19,.val q25.1,.un,.un,.un])) (get:=(λ_=>s18.1)) (zhu (zaR (zda rfl) λq27=>(zaR (zda rfl) λq28=>(zaR (zew (zbW (put:=((λ(s:D) e=>e) q28.2)) (as:=[none,some (.int 7)]) (d:=q28.2) rfl rfl rfl λ_=>rfl)) λq30=>(zdb rfl))))) (λ_=>rfl) λ_=>rfl) λq37=>(zah (zfN rfl) λx39=>(zba [6,7] (za6 λ_ h=>h)))))) λs18=>(zhq 3 (znX (emb:=(λ(s56:Unit)=>[.val qf,.val x1,.val x3,.val (.lst s18.1),.own 1 s18.2.1,.own 1 (.lst s18.2.2),.un,.un,.un,.un,.un])) rfl (λ_=>rfl) (λs56 d57=>(zah (zas rfl) λx58=>(zaQ (zar λ_ _ h=>h) (zbE (zah (zas rfl) λx68=>(zaQ (zar λ_ _ h=>h) (zbE (zba [8,9,10] (za6 λ_ h=>h))))))))) λs56=>(zar λ_ _ h=>h)))))))))
end
end Pg
namespace Pg
open L2 VD GM GB
def zcX (x:Itm)(dp:Nat)(inn:List D):dIx (part x dp inn) (.int 0)=some (.str x.nm)/\dIx (part x dp inn) (.int 2)=some (.str x.wd)/\dIx (part x dp inn) (.int 3)=some (.int x.rk)/\dIx (part x dp inn) (.int 5)=some (.tup inn):=
 ⟨zaH (j:=0) rfl,zaH (j:=2) rfl,zaH (j:=3) rfl,zaH (j:=5) rfl⟩
def zep (x:Itm)(dp:Nat)(inn:List D):dIx (part x dp inn) (.int 4)=some (hdO x.hd):=zaH (j:=4) rfl
theorem zmR {fr:Str->Bool}:∀{n:Nat}{ds:List D},Ok n ds->∀d∈ot fr (n+1) ds,∃x dp inn,d=part x dp inn
|0,ds,o,d,h=>by rw[show ds = [] from o] at h;cases h
|n+1,ds,o,d,h=>by
   obtain⟨y,hy,hd⟩:=List.mem_flatMap.mp (show d∈List.flatMap _ ds from h);obtain⟨x,dp,inn,rfl,oi⟩:=o y hy;have hd:d∈(if fr x.wd then part x dp inn::ot fr (n+1) inn else[]):=hd
   split at hd
   .rcases wap.mp hd with rfl|hd
    .exact⟨_,_,_,rfl⟩
    .exact zmR oi d hd
   .cases hd
def innD:D->List D
|.tup [_,_,_,_,_,.tup l]=>l
|_=>[]
def plI (rc:List D->List D->List D->List (List D×List D))(pre ch:List D):Nat->List D->List (List D×List D)
|_,[]=>[]
|i,d::ds=>(pre++[.int (i:Int)],ch++[d])::(rc (innD d) (pre++[.int (i:Int)]) (ch++[d])++plI rc pre ch (i+1) ds)
def zhK (rc:List D->List D->List D->List (List D×List D))(pre ch:List D)(b:Nat)(x:Itm)(dp:Nat)(inn es:List D):plI rc pre ch b (part x dp inn::es)=(pre++[.int (b:Int)],ch++[part x dp inn])::(rc inn (pre++[.int (b:Int)]) (ch++[part x dp inn])++plI rc pre ch (b+1) es):=rfl
def pl:Nat->List D->List D->List D->List (List D×List D)
|0,_,_,_=>[]
|n+1,ds,pre,ch=>plI (pl n) pre ch 0 ds
def zgf (c:List D):D:=c.getLast?.getD .non
def zdv (c:List D)(d:D):zgf (c++[d])=d:=by unfold zgf;simp
def ent (q:List D×List D):D:=.tup [.tup q.1,zgf q.2]
def zoz {pre:List D}{d:D}(h:pre.length<=100):dAdd (.tup pre) (.tup [d])=some (.tup (pre++[d])):=by
 rw[dAdd,if_neg (by simp)];unfold mkT;rw[if_pos (wao (by simp;omega:_<=101) (by decide))]
def zq1 {xs es:List D}(h:xs.length+es.length<=1000):extL xs (.lst es)=some (xs++es):=by
 show(if(xs++es).length<=lim then _ else _)=_
 rw[if_pos (wao (by rw[waj];omega:_<=1000) (by decide))]
def ac2 (a b:D):aC (some a) (aC (some b) aN)=some [a,b]:=rfl
def zoA {S:Type}(f:S->D->Option S)(s:S)(d:D)(ds:List D):zaW f s (d::ds)=(f s d).bind λs=>zaW f s ds:=rfl
def zkk:∀{n:Nat}{ds pre ch:List D},Ok n ds->(pl (n+1) ds pre ch).length<=1000->pre.length+n<=100->zaz (n+1) [.tup ds,.tup pre]=some (.lst ((pl (n+1) ds pre ch).map ent)):=by
 intro n;induction n with
|zero=>intro ds pre ch o _ _;rw[show ds = [] from o];rfl
|succ n ih=>
   intro ds pre ch o hl hp;show za7 (zaz (n+1)) (.tup ds) (.tup pre)=_
   unfold za7;rw[zOB];show Ob (Ob (some (zdF ds)) _) _=_
   rw[zOB];generalize hf:(λ(s2:List D) (d8:D)=>Ob (un2 d8) _)=f;have stp:∀(acc:List D) (i:Nat) (x:Itm) (dp:Nat) (inn:List D),Ok n inn->acc.length+1+(pl (n+1) inn (pre++[.int (i:Int)]) (ch++[part x dp inn])).length<=1000->
    f acc (.tup [.int (i:Int),part x dp inn])=some (acc++ent (pre++[.int (i:Int)],ch++[part x dp inn])::(pl (n+1) inn (pre++[.int (i:Int)]) (ch++[part x dp inn])).map ent):=by
    intro acc i x dp inn oi ha;rw[<-hf];show Ob (dAdd (.tup pre) (.tup [.int (i:Int)])) _=_
    rw[zoz (by omega),zOB,zdq (waY (by omega:_<=1000) (by decide)),zOB,(zcX x dp inn).2.2.2,ac2,zOB,ih (ch:=ch++[part x dp inn]) oi (by omega) (by simp;omega),zOB,zq1 (by simp;omega),zOB];unfold ent;rw[zdv];simp
   have key:∀(ds:List D) (b:Nat) (acc:List D),(∀d∈ds,∃x dp inn,d=part x dp inn/\Ok n inn)->acc.length+(plI (pl (n+1)) pre ch b ds).length<=1000->zaW f acc ((ds.zipIdx b).map λp=>.tup [.int (p.2:Nat),p.1])=some (acc++(plI (pl (n+1)) pre ch b ds).map ent):=by
    intro ds;induction ds with
   |nil=>intro b acc _ _;show some acc=some (acc++[]);rw[waJ]
   |cons d ds ih2=>
      intro b acc o ha;obtain⟨x,dp,inn,rfl,oi⟩:=o d war;rw[zhK] at ha⊢;rw[waM,waj] at ha;rw[List.zipIdx_cons,waN,zoA,stp acc b x dp inn oi (by omega),zOB,ih2 _ _ (λy hy=>o y (wam _ hy)) (by simp;omega)];simp
   have e9:=key ds 0 [] o (by rw[wcr,wbf];exact hl)
   rw[show(zaW f [] (zdF ds))=_ from e9];rfl
def zkl:∀{n:Nat}{ds pre ch:List D},Ok n ds->(pl (n+1) ds pre ch).map (λq=>zgf q.2)=ot (λ_=>true) (n+1) ds:=by
 intro n;induction n with
|zero=>intro ds pre ch o;rw[show ds = [] from o];rfl
|succ n ih=>
   intro ds pre ch o;have key:∀(es:List D) (b:Nat),(∀d∈es,∃x dp inn,d=part x dp inn/\Ok n inn)->(plI (pl (n+1)) pre ch b es).map (λq=>zgf q.2)=ot (λ_=>true) (n+1+1) es:=by
    intro es;induction es with
   |nil=>intro b _;rfl
   |cons d es ih2=>
      intro b o;obtain⟨x,dp,inn,rfl,oi⟩:=o d war;rw[zhK,zox,waN,waH,ih oi,ih2 _ λy hy=>o y (wam _ hy),zdv];rfl
   exact key ds 0 o
def inD (P:List Nat):List D:=P.map λ(i:Nat)=>D.int (i:Int)
def tri (q:List D×List D):List D×D:=(q.1,zgf q.2)
def trI (rc:List D->List Nat->List (List D×D))(pre:List Nat):Nat->List D->List (List D×D)
|_,[]=>[]
|b,d::ds=>(inD (pre++[b]),d)::(rc (innD d) (pre++[b])++trI rc pre (b+1) ds)
def tr:Nat->List D->List Nat->Nat->List (List D×D)
|0,_,_,_=>[]
|n+1,ds,pre,b=>trI (λinn pre=>tr n inn pre 0) pre b ds
def zl9 (P:List Nat)(b:Nat):inD (P++[b])=inD P++[.int (b:Int)]:=by unfold inD;rw[waH];rfl
def zr8:∀{n:Nat}{ds:List D}{pre:List Nat}{ch:List D},(pl n ds (inD pre) ch).map tri=tr n ds pre 0:=by
 intro n;induction n with
|zero=>intro ds pre ch;rfl
|succ n ih=>
   intro ds pre ch;have key:∀(es:List D) (b:Nat),(plI (pl n) (inD pre) ch b es).map tri=tr (n+1) es pre b:=by
    intro es;induction es with
   |nil=>intro b;rfl
   |cons d es ih2=>
      intro b;show(inD pre++[.int (b:Int)],zgf (ch++[d]))::(pl n (innD d) (inD pre++[.int (b:Int)]) (ch++[d])++plI (pl n) (inD pre) ch (b+1) es).map tri=(inD (pre++[b]),d)::(tr n (innD d) (pre++[b]) 0++tr (n+1) es pre (b+1))
      rw[waH,<-zl9,ih,ih2,zdv]
   exact key ds 0
def bat (P:List Nat)(d:Nat):Nat:=match P[d]? with
|some i=>i+1
|none=>0
def stp (P:List Nat)(c:Nat):List Nat:=P.take c++[bat P c]
def trL:List Nat->List Itm->List (List D×D)
|_,[]=>[]
|P,x::S=>(inD (stp P x.dp),part x 0 (fo S (x.dp+1)))::trL (stp P x.dp) S
def sl (G:Nat->List (List D×D)):Nat->List (List D×D)
|0=>[]
|d+1=>G d++sl G d
theorem zkm {G:Nat->List (List D×D)}{m:Nat}(h:∀d,m<=d->G d = []):∀k,sl G (m+k)=sl G m
|0=>rfl
|k+1=>by
   show G (m+k)++sl G (m+k)=_
   rw[h _ (by omega),zkm h k];simp
theorem zhL {G K:Nat->List (List D×D)}:∀{m:Nat},(∀d,d<m->G d=K d)->sl G m=sl K m
|0,_=>rfl
|m+1,h=>by
   show G m++sl G m=K m++sl K m
   rw[h m (by omega),zhL λd hd=>h d (by omega)]
def zq2 {P:List Nat}{c d:Nat}(h:d<c)(hc:c<=P.length):bat (stp P c) d=bat P d:=by
 unfold bat stp;rw[waK (by rw[waC];omega),waR,if_pos h]
def zq3 {P:List Nat}{c:Nat}(hc:c<=P.length):bat (stp P c) c=bat P c+1:=by
 have:(stp P c)[c]?=some (bat P c):=by
  unfold stp;rw[waI (by rw[waC];omega),waC,wbh hc,wcb];rfl
 show(match (stp P c)[c]? with|some i=>i+1|none=>0)=_
 rw[this]
def zcw {P:List Nat}{c:Nat}(hc:c<=P.length):(stp P c).length=c+1:=by unfold stp;rw[waj,waC,wbh hc];rfl
def zq4 {P:List Nat}{c:Nat}(hc:P.length<=c):bat P c=0:=by unfold bat;rw[waS hc]
def zdl {P:List Nat}{c d:Nat}(h:d<=c)(hc:c<=P.length):(stp P c).take d=P.take d:=by
 unfold stp;rw[List.take_append_of_le_length (by rw[waC];omega),wcg,wbh h]
theorem zkn:∀{m:Nat}{S:List Itm},Vd m S->∀(P:List Nat),P.length=m->trL P S=sl (λd=>tr (8 - d) (fo S d) (P.take d) (bat P d)) (m+1)
|m,_,.nil,P,hP=>by
   have:∀k,sl (λd=>tr (8 - d) (fo [] d) (P.take d) (bat P d)) k = []:=λk=>by
    induction k with
   |zero=>rfl
   |succ k ih=>
      show tr (8 - k) [] _ _++sl _ k = []
      rw[ih];have:tr (8 - k) [] (P.take k) (bat P k) = []:=by cases 8 - k <;> rfl
      rw[this];rfl
   rw[this];rfl
|m,_,.cons (x:=x) (S:=S) hm h4 t,P,hP=>by
   obtain⟨c,hc⟩:∃c,x.dp=c:=⟨_,rfl⟩
   have ih:=zkn t (stp P c) (by rw[zcw (by omega),hc])
   have f1:fo (x::S) c=part x 0 (fo S (c+1))::fo S c:=by
    show(if c=x.dp then _ else _)=_
    rw[if_pos hc.symm]
   have f2:∀d,d<c->fo (x::S) d=fo S d:=λd hd=>by
    show(if d=x.dp then _ else if d=x.dp+1 then[] else fo S d)=_
    rw[if_neg (by omega),if_neg (by omega)]
   have f3:∀d,c+1<=d->fo (x::S) d = []:=λd hd=>by
    show(if d=x.dp then _ else if d=x.dp+1 then[] else fo S d)=_
    rw[if_neg (by omega)];by_cases e:d=x.dp+1
    .rw[if_pos e]
    .rw[if_neg e];exact zkh t d (by omega)
   have o0:∀n pre b,tr n [] pre b = []:=λn pre b=>by cases n <;> rfl
   have e1:sl (λd=>tr (8 - d) (fo (x::S) d) (P.take d) (bat P d)) (m+1)=sl (λd=>tr (8 - d) (fo (x::S) d) (P.take d) (bat P d)) (c+1):=by
    have:=zkm (G:=λd=>tr (8 - d) (fo (x::S) d) (P.take d) (bat P d)) (m:=c+1) (λd hd=>by show tr (8 - d) _ _ _ = [];rw[f3 d hd,o0]) (m - c)
    rw[show c+1+(m - c)=m+1 by omega] at this;exact this
   have lower:sl (λd=>tr (8 - d) (fo S d) ((stp P c).take d) (bat (stp P c) d)) c=sl (λd=>tr (8 - d) (fo (x::S) d) (P.take d) (bat P d)) c:=zhL λd hd=>by rw[f2 d hd,zdl (by omega) (by omega),zq2 hd (by omega)]
   rw[e1];show(inD (stp P x.dp),part x 0 (fo S (x.dp+1)))::trL (stp P x.dp) S=tr (8 - c) (fo (x::S) c) (P.take c) (bat P c)++sl _ c
   rw[hc,f1,<-lower,show 8 - c=(8 - (c+1))+1 by omega];show _=(inD (P.take c++[bat P c]),part x 0 (fo S (c+1)))::(tr (8 - (c+1)) (fo S (c+1)) (P.take c++[bat P c]) 0++tr (8 - (c+1)+1) (fo S c) (P.take c) (bat P c+1))++_
   rw[List.cons_append];refine wbi _ ?_;rw[hc] at ih;refine ih.trans ?_;show tr (8 - (c+1)) (fo S (c+1)) ((stp P c).take (c+1)) (bat (stp P c) (c+1))++(tr (8 - c) (fo S c) ((stp P c).take c) (bat (stp P c) c)++sl (λd=>tr (8 - d) (fo S d) ((stp P c).take d) (bat (stp P c) d)) c)=_
   rw[zq4 (c:=c+1) (wbe (zcw (by omega))),wcw (wbe (zcw (by omega))),zdl (wan _) (by omega),zq3 (by omega),waV,show 8 - c=8 - (c+1)+1 by omega];rfl
def zfi {L:List Itm}(t:Vd 0 L):(pl 8 (fo L 0) [] []).map tri=trL [] L:=by
 have:=zkn t [] rfl
 rw[show sl (λd=>tr (8 - d) (fo L d) (([]:List Nat).take d) (bat [] d)) (0+1)=tr 8 (fo L 0) [] 0++[] from rfl,waJ] at this;rw[this];exact zr8 (n:=8) (pre:=[])
theorem zfj:∀{P:List Nat}{L:List Itm},(trL P L).length=L.length
|_,[]=>rfl
|P,x::S=>by show(trL _ S).length+1=_;rw[zfj];rfl
theorem zmS:∀{P:List Nat}{L:List Itm},(trL P L).map (λq=>(nr q.2).2)=L.map Itm.nm
|_,[]=>rfl
|P,x::S=>by show x.nm::(trL _ S).map _=_;rw[zmS];rfl
def zmT {L:List Itm}(t:Vd 0 L):(ot (λ_=>true) 8 (fo L 0))=(trL [] L).map (·.2):=by
 have o:Ok 7 (fo L 0):=(zf2 t 0).up
 rw[<-zkl (pre:=[]) (ch:=[]) o,<-zfi t,waW];rfl
def zmU {L:List Itm}(t:Vd 0 L):(ot (λ_=>true) 8 (fo L 0)).length=L.length:=by
 rw[zmT t,waf,zfj]
def zgg {ds:List D}(o:Ok 7 ds)(hl:(ot (λ_=>true) 8 ds).length<=1000):zap [.tup ds]=some (.lst ((pl 8 ds [] []).map ent)):=by
 have l1:(pl 8 ds [] []).length<=1000:=by
  have:=wbi List.length (zkl (pre:=[]) (ch:=[]) o)
  rw[waf] at this;show(pl (7+1) ds [] []).length<=1000
  rw[this];exact hl
 show zbf (.tup ds)=_
 unfold zbf;rw[zkk (n:=7) (ch:=[]) o l1 (by decide)];rfl
def zhM {L:List Itm}(t:Vd 0 L)(hl:L.length<=1000):zbx [.tup (fo L 0)]=some (.lst ((trL [] L).map (·.2))):=by
 have o:Ok 7 (fo L 0):=(zf2 t 0).up
 have hll:(pl 8 (fo L 0) [] []).length<=1000:=by
  have:=wbi List.length (zfi t)
  rw[waf,zfj] at this;omega
 show zcE _=_
 unfold zcE;rw[zgg o (by rw[zmU t];omega),zOB];show Ob (Ob (zbq _ ((pl 8 (fo L 0) [] []).map ent)) _) _=_
 rw[zcp ent (λq=>zgf q.2) (by omega) λq hq=>rfl,<-zfi t,waW];rfl
def ziu {L:List Itm}(t:Vd 0 L)(hl:L.length<=1000):zap [.tup (fo L 0)]=some (.lst ((trL [] L).map λq=>.tup [.tup q.1,q.2])):=by
 have o:Ok 7 (fo L 0):=(zf2 t 0).up
 rw[zgg o (by rw[zmU t];omega),<-zfi t,waW];rfl
def zhN {L:List Itm}(t:Vd 0 L)(hl:L.length<=1000):zby [.tup (fo L 0)]=some (.lst ((L.map Itm.nm).map D.str)):=by
 show zcF _=_
 unfold zcF;rw[zhM t hl,zOB];show Ob (Ob (zbq _ ((trL [] L).map (·.2))) _) _=_
 rw[zcp (·.2) (λq:List D×D=>D.str (nr q.2).2) (by rw[zfj];omega) λq hq=>?_]
 .rw[zOB,zOB,<-zmS (P:=[]),waW];rfl
 .have:q.2∈ot (λ_=>true) (7+1) (fo L 0):=by
   rw[show ot (λ_=>true) (7+1) (fo L 0)=_ from zmT t];exact waE.mpr ⟨q,hq,rfl⟩
  obtain⟨x,dp,inn,ex⟩:=zmR (zf2 t 0).up _ this;rw[ex,(zcX x dp inn).1];rfl
def nmOk (y:Str):Prop:=1<=y.length/\y.length<=8/\∀c∈y.cps.toList,97<=c/\c<123
def zq5 {c:Nat}(h0:97<=c)(h1:c<123):inTx ⟨#[c]⟩ "abcdefghijklmnopqrstuvwxyz"=true:=by
 have h:∀i<26,inTx ⟨#[97+i]⟩ "abcdefghijklmnopqrstuvwxyz"=true:=by decide +kernel
 have:=h (c - 97) (by omega)
 rwa [show 97+(c - 97)=c by omega] at this
theorem zeq {C:Type}{f:D->Option Bool}(h:C->D)(g:C->Bool):∀{ds:List C},(∀d∈ds,f (h d)=some (g d))->zff f (ds.map h)=some (ds.map g)
|[],_=>rfl
|d::ds,k=>by
   show(f (h d)).bind _=_
   rw[k d war,zOB,zeq h g λy hy=>k y (wam _ hy)];rfl
def zma {C:Type}{g:C->Bool}{ds:List C}(h:∀d∈ds,g d=true):(ds.map g).all id=true:=by
 rw[waB];intro b hb;obtain⟨d,hd,rfl⟩:=waE.mp hb;exact h d hd
def zko {y:Str}(h:nmOk y):zbo [.str y]=some (.bl true):=by
 obtain⟨h1,h2,h3⟩:=h;have l:bLen [.str y]=some (.int y.length):=if_pos (wao h2 (by decide))
 show zdg _=_
 unfold zdg;rw[show isD "str" (.str y)=some (.bl true) from rfl,l];show Ob (Ob (Ob (Ob (some (D.bl (decide ((1:Int)<=(y.length:Int))))) λzk3=>Ob (dB zk3) λk3=>if k3 then(dLe (.int y.length) (.int 8)) else some (.bl false)) dB) λk2=>some (!k2)) _=_
 rw[waD (show(1:Int)<=(y.length:Int) by omega)];show Ob (Ob (Ob (some (D.bl (decide ((y.length:Int)<=8)))) dB) λk2=>some (!k2)) _=_
 rw[waD (show(y.length:Int)<=8 by omega)];show Ob (Ob (some (y.cps.toList.map λc=>D.str ⟨#[c]⟩)) _) _=_
 rw[zOB,zeq (λc=>D.str ⟨#[c]⟩) (λ_=>true) λc hc=>by
  show some (inTx ⟨#[c]⟩ "abcdefghijklmnopqrstuvwxyz")=_
  rw[zq5 (h3 c hc).1 (h3 c hc).2],zOB,zma λ_ _=>rfl]
 rfl
def zq6 {x:Itm}(h1:1<=x.bc)(h2:1<=x.bd):zdh [x.bx]=some (.bl true):=by
 show zdP (.tup [.int x.ba,.int x.bb,.int x.bc,.int x.bd])=_
 unfold zdP;have g:∀a b:Int,dGe (.int a) (.int b)=some (.bl (decide (b<=a))):=λ_ _=>rfl
 have i2:dIx (.tup [.int x.ba,.int x.bb,.int x.bc,.int x.bd]) (.int 2)=some (.int x.bc):=zaH (j:=2) rfl
 have i3:dIx (.tup [.int x.ba,.int x.bb,.int x.bc,.int x.bd]) (.int 3)=some (.int x.bd):=zaH (j:=3) rfl
 rw[i2,i3];show Ob (Ob (Ob (some (D.bl (decide (1<=x.bc)))) dB) λk11=>if k11 then(some (D.bl (decide (1<=x.bd)))) else some (.bl false)) _=_
 rw[waD h1,waD h2];rfl
def Wd (w:Str):Prop:=w = "free"\/w = "shut"\/w = "hidden"
def zoB {w:Str}(h:Wd w):zcs [.str w]=some (.bl true):=by
 rcases h with rfl|rfl|rfl <;> rfl
def zoC {r:Int}(h:0<=r):zct [.int r]=some (.bl true):=by
 show Ob (some (D.bl (decide (0<=r)))) _=_
 rw[waD h];rfl
def zoD {h:Option Str}(k:∀y,h=some y->nmOk y):zcu [hdO h]=some (.bl true):=by
 cases h with
|none=>rfl
|some y=>
   show Ob (zbo [.str y]) _=_
   rw[zko (k y rfl)];rfl
structure Gd (x:Itm):Prop where
 nm:nmOk x.nm
 c:1<=x.bc
 d:1<=x.bd
 wd:Wd x.wd
 rk:0<=x.rk
 hd:∀y,x.hd=some y->nmOk y
def zkp {self:List D->Option D}{x:Itm}(g:Gd x){dp:Nat}{inn:List D}{deep:Int}{b:Bool}(h:self [.tup inn,.int (deep+1)]=some (.bl b)):(zbp self) [part x dp inn,.int deep]=some (.bl b):=by
 show zdi self (.tup [.str x.nm,x.bx,.str x.wd,.int x.rk,hdO x.hd,.tup inn]) (.int deep)=_
 unfold zdi;show Ob (Ob (Ob (Ob (zbo [.str x.nm]) dTru) λk12=>some (!k12)) λk11=>if k11 then some true else(Ob (Ob (Ob (zdh [x.bx]) dTru) λk10=>some (!k10)) λk9=>if k9 then some true else(Ob (Ob (zcs [.str x.wd]) dTru) λk8=>some (!k8)))) _=_
 rw[zko g.nm,zq6 g.c g.d,zoB g.wd];show Ob (Ob (Ob (zct [.int x.rk]) dB) λk15=>if k15 then(Ob (Ob (zcu [hdO x.hd]) dB) λk14=>if k14 then(Ob (aC (some (.tup inn)) (aC (some (.int (deep+1))) aN)) self) else some (.bl false)) else some (.bl false)) _=_
 rw[zoC g.rk,zoD g.hd];show Ob (self [.tup inn,.int (deep+1)]) _=_
 rw[h];rfl
def zq7 {n:Nat}{ds:List D}{deep:Int}(bf:D->Bool)(hd:deep<=5)(hp:∀d∈ds,zbp (zam n) [d,.int deep]=some (.bl (bf d))):zam (n+1) [.tup ds,.int deep]=some (.bl (ds.all bf)):=by
 show zca (zam n) (.tup ds) (.int deep)=_
 unfold zca;rw[show isD "tuple" (.tup ds)=some (.bl true) from rfl,show dGt (.int deep) (.int 5)=some (.bl (decide (5<deep))) from rfl,waz (by omega)];have e:(Ob (dTru (.tup ds)) λk5=>if k5 then(Ob (some (D.bl false)) dB) else some false)=some false:=by
  show(if(!ds.isEmpty)=true then some false else some false)=_
  split <;> rfl
 show Ob (Ob (dTru (.tup ds)) λk5=>if k5 then(Ob (some (D.bl false)) dB) else some false) _=_
 rw[e];show Ob (Ob (zff (λd7=>Ob ((zbp (zam n)) [d7,.int deep]) dB) ds) _) _=_
 have hb:zff (λd7=>Ob ((zbp (zam n)) [d7,.int deep]) dB) ds=some (ds.map bf):=by
  have:=zeq (f:=λd7=>Ob ((zbp (zam n)) [d7,.int deep]) dB) (λd=>d) bf (ds:=ds) λd hd=>by rw[hp d hd];rfl
  rwa [List.map_id'] at this
 rw[hb,zOB,zOB,List.all_map];rfl
def zoE (n:Nat)(deep:Int):zam (n+1) [.tup [],.int deep]=some (.bl true):=rfl
def GOk:Nat->List D->Prop
|0,ds=>ds = []
|n+1,ds=>∀d∈ds,∃x dp inn,d=part x dp inn/\Gd x/\GOk n inn
def GOk.nil:∀{n:Nat},GOk n []
|0=>rfl
|_+1=>λd h=>by cases h
theorem gfo:∀{m:Nat}{S:List Itm},Vd m S->(∀x∈S,Gd x)->∀d,d<=5->GOk (5 - d) (fo S d)
|_,_,.nil,_,_,_=>GOk.nil
|m,_,.cons (x:=x) (S:=S) hm h4 t,g,d,h5=>by
   have gS:∀y∈S,Gd y:=λy hy=>g y (wam _ hy)
   show GOk (5 - d) (if d=x.dp then part x 0 (fo S (d+1))::fo S d else if d=x.dp+1 then[] else fo S d)
   by_cases e:d=x.dp
   .rw[if_pos e];have h1:=gfo t gS (d+1) (by omega)
    have h2:=gfo t gS d h5
    rw[show 5 - d=(5 - (d+1))+1 by omega] at h2⊢;intro y hy;rcases wap.mp hy with rfl|hy
    .exact⟨_,_,_,rfl,g x war,h1⟩
    .exact h2 y hy
   .rw[if_neg e];by_cases e2:d=x.dp+1
    .rw[if_pos e2];exact GOk.nil
    .rw[if_neg e2];exact gfo t gS d h5
theorem zmV:∀{n:Nat}{ds:List D}{deep:Int}{m:Nat},GOk n ds->deep+n<=6->n+1<=m->zam m [.tup ds,.int deep]=some (.bl true)
|0,ds,deep,m+1,o,_,_=>by rw[show ds = [] from o];exact zoE m deep
|n+1,ds,deep,m+1,o,hd,hm=>by
   rw[zq7 (n:=m) (λ_=>true) (by omega) λd h=>by
    obtain⟨x,dp,inn,rfl,g,oi⟩:=o d h;exact zkp g (zmV oi (by omega) (by omega))]
   simp
def zq8 {xs:List Str}{i:Nat}(h:i<=xs.length):dSl (.lst (xs.map D.str)) none (some (i:Int))=some (.lst ((xs.take i).map D.str)):=by
 show some (D.lst (VD.cut (xs.map D.str) none (some (i:Int))))=_
 rw[zhv (by omega) (by rw[waf];omega),<-List.map_take,wbA]
def ziv (N:List Str):zhI [.lst (N.map D.str)]=some (N.zipIdx.map λp=>.tup [.int (p.2:Nat),.str p.1]):=by
 have e:zhI [.lst (N.map D.str)]=some (zdF (N.map D.str)):=rfl
 rw[e,zjN]
theorem zkq {f:Unit->D->Option Unit}:∀{l:List D},(∀d∈l,f () d=some ())->zaW f () l=some ()
|[],_=>rfl
|d::l,h=>by
   show(f () d).bind _=_
   rw[h d war,zOB];exact zkq λy hy=>h y (wam _ hy)
def ziw {C:Type}{N:List C}(nd:N.Nodup){i:Nat}{x:C}(h:N[i]?=some x):x∉N.take i:=λq=>by
 obtain⟨j,hj⟩:=waG q;rw[waR] at hj;split at hj
 .rename_i hji
  have:=(wbT (by have:=(wab.mp h).1;omega) nd).mp (hj.trans h.symm)
  omega
 .cases hj
def zkr {N:List Str}(nd:N.Nodup):zaw [.lst (N.map D.str)]=some .non:=by
 show zbg (.lst (N.map D.str))=_
 unfold zbg;rw[ziv,zOB,zkq λd hd=>?_]
 .rfl
 .obtain⟨p,hp,rfl⟩:=waE.mp hd;obtain⟨x,i⟩:=p;have hx:N[i]?=some x:=List.mem_zipIdx_iff_getElem?.mp hp
  have hi:i<N.length:=(wab.mp hx).1
  show Ob (Ob (Ob (dSl (.lst (N.map D.str)) none (some (i:Int))) _) dB) _=_
  rw[zq8 (by omega),zOB,zec,waz (ziw nd hx)];rfl
theorem zeM {S:Type}{f:S->D->Option S}{d:D}:∀{ds:List D}{s:S},zaW f s (ds++[d])=(zaW f s ds).bind λs=>f s d
|[],s=>by show(f s d).bind (λs=>some s)=f s d;cases f s d <;> rfl
|e::ds,s=>by
   show(f s e).bind (λs=>zaW f s (ds++[d]))=((f s e).bind λs=>zaW f s ds).bind _
   cases f s e with
  |none=>rfl
  |some s'=>exact zeM
def wt (S:List Itm):List D:=[.lst (fo S 0).reverse,.lst (fo S 1).reverse,.lst (fo S 2).reverse,.lst (fo S 3).reverse,.lst (fo S 4).reverse,.lst (fo S 5).reverse]
theorem zgh:∀{S:List Itm}{d:Nat},(fo S d).length<=S.length
|[],_=>wan _
|x::S,d=>by
   show(if d=x.dp then part x 0 (fo S (d+1))::fo S d else if d=x.dp+1 then[] else fo S d).length<=S.length+1
   have:=zgh (S:=S) (d:=d)
   split
   .simp;omega
   .split
    .simp
    .omega
def zoF {x:Itm}{S:List Itm}{e:Nat}(h:x.dp=e)(d:Nat):fo (x::S) d=if d=e then part x 0 (fo S (e+1))::fo S d else if d=e+1 then[] else fo S d:=by
 show(if d=x.dp then part x 0 (fo S (d+1))::fo S d else if d=x.dp+1 then[] else fo S d)=_
 rw[h];by_cases z:d=e
 .subst z;simp
 .rw[if_neg z,if_neg z]
def zq9 {S:List Itm}{e:Nat}(he:e<=4):zlE (wt S) [] (.int (e+1))=some ((wt S).set (e+1) (.lst [])):=by
 match e,he with
|0,_=>rfl
|1,_=>rfl
|2,_=>rfl
|3,_=>rfl
|4,_=>rfl
def zr9 {S:List Itm}{e:Nat}(he:e<=4):ix2C (wt S) (.int (e+1))=some (.lst (fo S (e+1)).reverse):=by
 match e,he with
|0,_=>rfl
|1,_=>rfl
|2,_=>rfl
|3,_=>rfl
|4,_=>rfl
def zra {x:Itm}{S:List Itm}{e:Nat}(he:e<=4)(h:x.dp=e)(hs:S.length<=1000):zoa ((wt S).set (e+1) (.lst [])) (.int e) (part x 0 (fo S (e+1)))=some (wt (x::S)):=by
 have hb:∀d,(fo S d).reverse.length<lim:=λd=>waY (by rw[wcj];exact wao zgh hs) (by decide:1000<lim)
 have fc:=zoF (S:=S) h
 match e,he with
|0,_=>
   show(if(fo S 0).reverse.length<lim then _ else none)=_
   rw[if_pos (hb 0)];simp[wt,fc]
|1,_=>
   show(if(fo S 1).reverse.length<lim then _ else none)=_
   rw[if_pos (hb 1)];simp[wt,fc]
|2,_=>
   show(if(fo S 2).reverse.length<lim then _ else none)=_
   rw[if_pos (hb 2)];simp[wt,fc]
|3,_=>
   show(if(fo S 3).reverse.length<lim then _ else none)=_
   rw[if_pos (hb 3)];simp[wt,fc]
|4,_=>
   show(if(fo S 4).reverse.length<lim then _ else none)=_
   rw[if_pos (hb 4)];simp[wt,fc]
def prD (q:Str×Str):D:=.tup [.str q.1,.str q.2]
def Fwd (N:List Str)(q:Str×Str):Prop:=∃i j:Nat,i<j/\N[i]?=some q.1/\N[j]?=some q.2
def zix (left:List Str)(M:List (Str×Str)):List Str:=(M.filter λq=>decide (q.1∈left)).map (·.2)
def zgZ (left:List Str)(M:List (Str×Str)):List Str:=left.filter λx=>decide (x∈zix left M)
def zbk {C:Type}{f:D->Option (Option D)}(h:C->D)(p:C->Bool)(g:C->D){ds:List C}(hl:ds.length<=lim)(hf:∀d∈ds,f (h d)=some (if p d then some (g d) else none)):zbq f (ds.map h)=some ((ds.filter p).map g):=by
 have key:∀(ds:List C),(∀d∈ds,f (h d)=some (if p d then some (g d) else none))->zbT f (ds.map h)=some ((ds.filter p).map g):=by
  intro ds;induction ds with
 |nil=>intro _;rfl
 |cons d ds ih=>
    intro k;show(f (h d)).bind _=_
    rw[k d war,zOB];show(zbT f (ds.map h)).bind _=_
    rw[ih λy hy=>k y (wam _ hy)];by_cases q:p d=true
    .rw[List.filter_cons_of_pos q,if_pos q];rfl
    .rw[List.filter_cons_of_neg q,if_neg q];rfl
 unfold zbq;rw[key ds hf,zOB,if_pos (wao (by rw[waf];exact wbH _ _) hl)]
def zks {N left:List Str}{M:List (Str×Str)}(nd:N.Nodup)(sb:left.Sublist N)(hm:∀q∈M,Fwd N q)(h0:left≠[]):(zgZ left M).length<left.length:=by
 cases left with
|nil=>exact absurd rfl h0
|cons x r=>
   have hx:x∉zix (x::r) M:=by
    intro hx;obtain⟨q,hq,e⟩:=waE.mp hx;obtain⟨hq,h1⟩:=wcm.mp hq;have h1:q.1∈x::r:=wbS h1
    obtain⟨i,j,hij,e1,e2⟩:=hm q hq;rw[e] at e2;obtain⟨A,B,rfl,hA,hB⟩:=List.cons_sublist_iff.mp sb;obtain⟨j',hj'⟩:=waG hA;have lj:j'<A.length:=(wab.mp hj').1
    have ej:(A++B)[j']?=some x:=by rw[waK lj];exact hj'
    have hj:j=j':=((wbT (by rw[waj];omega) nd).mp (ej.trans e2.symm)).symm
    rcases wap.mp h1 with z|z
    .rw[z] at e1;have:=(wbT (by rw[waj];omega) nd).mp (ej.trans e1.symm)
     omega
    .obtain⟨i',hi'⟩:=waG (hB.subset z);have ei:(A++B)[A.length+i']?=some q.1:=by rw[waI (by omega)];simpa using hi'
     have:=(wbT (wab.mp e1).1 nd).mp (e1.trans ei.symm)
     omega
   unfold zgZ;rw[List.filter_cons_of_neg (by simpa using hx)];exact Nat.lt_succ_of_le (wbH _ _)
def zrb {a b:Nat}:dEqG false (.int (a:Int)) (.int (b:Int))=some (.bl (decide (a=b))):=by
 have e1:eqC (.int (a:Int)) (.int (b:Int))=true:=rfl
 unfold dEqG;rw[if_pos e1];show some (D.bl (decide (D.int (a:Int)=D.int (b:Int))))=_
 congr 2;simp;omega
def zoG {N:List Str}{M:List (Str×Str)}(nd:N.Nodup)(hm:∀q∈M,Fwd N q)(hN:N.length<=48)(hM:M.length<=2000):zbO [.lst (N.map D.str),.lst (M.map prD)]=some (.lst []):=by
 show zbN (.lst (N.map D.str)) (.lst (M.map prD))=_
 unfold zbN;rw[zOB];generalize hf:(λ(s2:D)=>(Ob (Ob (Ob (dSeq (.lst (M.map prD))) _) λds=>some (.lst ds)) λ(x3:D)=>_))=f;have stp:∀left:List Str,left.length<=48->f (.lst (left.map D.str))=some (if(zgZ left M).length=left.length then Fl.ret (.lst ((zgZ left M).map D.str)) else Fl.nx (.lst ((zgZ left M).map D.str))):=by
  intro left hl;rw[<-hf];show Ob (Ob (zbq _ (M.map prD)) _) _=_
  rw[zbk prD (λq=>decide (q.1∈left)) (λq=>D.str q.2) (wao hM (by decide)) λq hq=>?_]
  .rw[zOB,zOB];have e:(M.filter λq=>decide (q.1∈left)).map (λq=>D.str q.2)=(zix left M).map D.str:=by unfold zix;rw[waW];rfl
   rw[e];show Ob (Ob (zbq _ (left.map D.str)) _) _=_
   rw[zbk D.str (λx=>decide (x∈zix left M)) D.str (wao hl (by decide)) λx hx=>?_]
   .rw[zOB,zOB];show Ob (Ob (dEqG false (.int ((((zgZ left M).map D.str).length:Nat):Int)) (.int (((left.map D.str).length:Nat):Int))) dB) _=_
    rw[waf,waf,zrb];by_cases z:(zgZ left M).length=left.length
    .rw[if_pos z,waD z];rfl
    .rw[if_neg z,waz z];rfl
   .rw[zec,zOB];show(if decide (x∈zix left M) then some (some (D.str x)) else some none)=_
    split <;> simp_all
  .refine Eq.trans (b:=Ob (Ob (dInG false (.str q.1) (.lst (left.map D.str))) dB) λok=>if ok then some (some (D.str q.2)) else some none) rfl ?_;rw[zec,zOB];show(if decide (q.1∈left) then some (some (D.str q.2)) else some none)=_
   split <;> simp_all
 have key:∀(n:Nat) (left:List Str),left.length<n->left.length<=48->left.Sublist N->zeG (λ(s2:D)=>dTru (.bl true)) f n (.lst (left.map D.str))=some (.ret (.lst [])):=by
  intro n;induction n with
 |zero=>intro left h;omega
 |succ n ih=>
    intro left h hl sb;show(Ob (f (.lst (left.map D.str))) _)=_
    rw[stp left hl,zOB];by_cases h0:left = []
    .subst h0;rfl
    .have:=zks nd sb hm h0
     rw[if_neg (by omega)];exact ih _ (by omega) (by omega) (List.Sublist.trans List.filter_sublist sb)
 rw[key 50 N (by omega) hN (List.Sublist.refl _)];rfl
def zoH {N:List Str}{M:List (Str×Str)}(nd:N.Nodup)(hm:∀q∈M,Fwd N q)(hN:N.length<=48)(hM:M.length<=2000):zcv [.lst (N.map D.str),.lst (M.map prD)]=some (.lst []):=by
 show zdj _ _=_
 unfold zdj;rw[zoG nd hm hN hM,zOB];rfl
def trR:List Nat->List Itm->List (List Nat×Itm×List D)
|_,[]=>[]
|P,x::S=>(stp P x.dp,x,fo S (x.dp+1))::trR (stp P x.dp) S
def ptR (q:List Nat×Itm×List D):D:=part q.2.1 0 q.2.2
theorem zrc:∀{P:List Nat}{L:List Itm},trL P L=(trR P L).map λq=>(inD q.1,ptR q)
|_,[]=>rfl
|P,x::S=>by show _::trL _ S=_::_;rw[zrc];rfl
theorem zgi:∀{P:List Nat}{L:List Itm},(trR P L).map (λq=>q.2.1)=L
|_,[]=>rfl
|P,x::S=>by show x::(trR _ S).map _=_;rw[zgi]
def zg0 {P:List Nat}{L:List Itm}:(trR P L).length=L.length:=by
 have:=wbi List.length (zgi (P:=P) (L:=L))
 rwa [waf] at this
theorem zkt:∀{S:List Itm}{e:Nat}{d:D},d∈fo S e->∃y∈S,∃inn,d=part y 0 inn
|[],_,_,h=>by cases h
|x::S,e,d,h=>by
   have h:d∈(if e=x.dp then part x 0 (fo S (e+1))::fo S e else if e=x.dp+1 then[] else fo S e):=h
   have up:d∈fo S e->∃y∈x::S,∃inn,d=part y 0 inn:=λh=>by
    obtain⟨y,hy,i,e⟩:=zkt h;exact⟨y,wam _ hy,i,e⟩
   split at h
   .rcases wap.mp h with rfl|h
    .exact⟨x,war,_,rfl⟩
    .exact up h
   .split at h
    .cases h
    .exact up h
theorem zgj {C:Type}{f:D->Option (Key×D)}{h:C->D}{k:C->Key}{v:C->D}:∀{E:List C}{pre:List C},(∀q∈E,f (h q)=some (k q,v q))->((pre++E).map k).Nodup->(pre++E).length<=10000->zdd f (E.map h) (pre.map k,pre.map v)=some ((pre++E).map k,(pre++E).map v)
|[],pre,_,_,_=>by rw[waJ];rfl
|q::E,pre,hf,nd,hl=>by
   show((f (h q)).bind λp=>if(pre.map k).length<lim then zdd f (E.map h) (putKD (pre.map k) (pre.map v) p.1 p.2) else none)=_
   rw[hf q war,zOB,if_pos (waY (by rw[waf];rw[waj] at hl;omega:_<=10000) (by decide))];have hn:(pre.map k).any (λx=>decide (x=k q))=false:=by
    rw[List.any_eq_false];intro x hx hz;have hz:=wbS hz
    subst hz;rw[waH,wbn] at nd;exact nd.2.2 _ hx _ (by rw[waN];exact war) rfl
   have hp:putKD (pre.map k) (pre.map v) (k q) (v q)=((pre++[q]).map k,(pre++[q]).map v):=by
    unfold putKD;rw[hn,if_neg (by decide),waH,waH];rfl
   show zdd f (E.map h) (putKD (pre.map k) (pre.map v) (k q) (v q))=_
   rw[hp,zgj (E:=E) (pre:=pre++[q]) (λy hy=>hf y (wam _ hy)) (by rw[waV];exact nd) (by rw[waV];exact hl),waV];rfl
theorem zku {C:Type}{k:C->Key}{v:C->D}:∀{E:List C}{q:C},q∈E->(E.map k).Nodup->dLook (E.map k) (E.map v) (k q)=some (v q)
|p::E,q,hq,nd=>by
   rw[waN,waP] at nd;show(if k p=k q then some (v p) else dLook (E.map k) (E.map v) (k q))=_
   rcases wap.mp hq with rfl|hq
   .rw[if_pos rfl]
   .rw[if_neg λz=>nd.1 (by rw[z];exact waE.mpr ⟨q,hq,rfl⟩),zku hq nd.2]
def kyR (q:List Nat×Itm×List D):Key:=.inr q.2.1.nm
def plR (q:List Nat×Itm×List D):D:=.tup (inD q.1)
def enR (q:List Nat×Itm×List D):D:=.tup [plR q,ptR q]
def plsD (L:List Itm):D:=.dct ((trR [] L).map kyR) ((trR [] L).map plR)
def zhO {L:List Itm}(nd:(L.map Itm.nm).Nodup):((trR [] L).map kyR).Nodup:=by
 have:(trR [] L).map kyR=(L.map Itm.nm).map Sum.inr:=by
  rw[waW];conv=>rhs;rw[<-zgi (P:=[]) (L:=L),waW]
  rfl
 rw[this];exact List.pairwise_map.mpr (nd.imp λh z=>h (Sum.inr.inj z))
def zer {L:List Itm}(nd:(L.map Itm.nm).Nodup)(hl:L.length<=1000):(zdd (zfd [.un,.un] (gT 2 (gCons' (gN 0) (gCons' (gN 1) gNil'))) (e2 dIx (eRd 1) (eK (.int 0))) (eVar 0)) ((trR [] L).map enR) ([],[]))=some ((trR [] L).map kyR,(trR [] L).map plR):=by
 refine zgj (h:=enR) (k:=kyR) (v:=plR) (pre:=[]) (λq hq=>?_) (zhO nd) (by rw[List.nil_append,zg0];omega);have:zfd [.un,.un] (gT 2 (gCons' (gN 0) (gCons' (gN 1) gNil'))) (e2 dIx (eRd 1) (eK (.int 0))) (eVar 0) (enR q)=Ob (dIx (ptR q) (.int 0)) λk=>(keyD k).bind λk=>some (k,plR q):=rfl
 rw[this,show dIx (ptR q) (.int 0)=_ from(zcX q.2.1 0 q.2.2).1];rfl
def zoI {L:List Itm}(t:Vd 0 L)(hl:L.length<=1000):zap [.tup (fo L 0)]=some (.lst ((trR [] L).map enR)):=by
 rw[ziu t hl,zrc,waW];rfl
def zg1 (Q:List Nat):ndL (inD Q)=true/\depL (inD Q)<=0:=by
 unfold inD;refine⟨zjO λd hd=>?_,zgM λd hd=>?_⟩
 .obtain⟨i,_,rfl⟩:=waE.mp hd;rfl
 .obtain⟨i,_,rfl⟩:=waE.mp hd;exact wan _
def zg2 (x:Str):D:=.exc "NoHead" ["name"] [.str x]
def Lt (Q P:List Nat):Prop:=∃d a b,Q.take d=P.take d/\Q[d]?=some a/\P[d]?=some b/\a<b
def Px (Q P:List Nat):Prop:=∃n,n<P.length/\Q=P.take (n+1)
def Rl (a:List Nat×Str)(b:List Nat×Str×List Str):Prop:=(a.2∈b.2.2->Px a.1 b.1)/\(a.2∉b.2.2->Lt a.1 b.1)
def tz:List Nat->List Str->List (Nat×Str)->List (List Nat×Str×List Str)
|_,_,[]=>[]
|P,l,q::S=>(stp P q.1,q.2,l.take q.1)::tz (stp P q.1) (l.take q.1++[q.2]) S
structure Hs (P:List Nat)(l:List Str)(E:List (List Nat×Str)):Prop where
 len:P.length=l.length
 nd:l.Nodup
 sub:∀y∈l,y∈E.map (·.2)
 hi:∀q∈E,(∃d,d<P.length/\q.1=P.take (d+1)/\l[d]?=some q.2)\/(Lt q.1 P/\q.2∉l)
section
variable {P Q:List Nat}{l:List Str}{E:List (List Nat×Str)}{c:Nat}{y:Str}
def zrd {d:Nat}(h:d<c)(hc:c<=P.length):(stp P c)[d]?=P[d]?:=by
 unfold stp;rw[waK (by rw[waC];omega),waR,if_pos h]
def zre (hc:c<=P.length):(stp P c)[c]?=some (bat P c):=by
 unfold stp;rw[waI (by rw[waC];omega),waC,wbh hc,wcb];rfl
def zoJ {z a:Nat}(hc:c<=P.length)(hz:P[c]?=some z)(ha:Q[c]?=some a)(hle:a<=z)(ht:Q.take c=P.take c):Lt Q (stp P c):=
 ⟨c,a,z+1,by rw[zdl (wan _) hc];exact ht,ha,by rw[zre hc];unfold bat;rw[hz],by omega⟩
def zoK {d:Nat}(h:Q.take d=P.take d)(hc:c<=d):Q.take c=P.take c:=by
 have:=wbi (List.take c) h
 rwa [wcg,wcg,wbh hc] at this
def zoL {d:Nat}(h:Q.take d=P.take d)(hc:c<d):Q[c]?=P[c]?:=by
 have:=wbi (λx=>x[c]?) h
 rwa [waR,waR,if_pos hc,if_pos hc] at this
def Hs.step (h:Hs P l E)(hc:c<=P.length)(hy:y∉E.map (·.2)):Hs (stp P c) (l.take c++[y]) (E++[(stp P c,y)])/\∀q∈E,Rl q (stp P c,y,l.take c):=by
 have hyl:y∉l:=λz=>hy (h.sub y z)
 have hcl:c<=l.length:=by rw[<-h.len];exact hc
 have key:∀q∈E,((∃d,d<(stp P c).length/\q.1=(stp P c).take (d+1)/\(l.take c++[y])[d]?=some q.2)/\Px q.1 (stp P c)/\q.2∈l.take c)\/(Lt q.1 (stp P c)/\q.2∉l.take c++[y]):=by
  intro q hq;have hqy:q.2≠y:=λz=>hy (z▸waE.mpr ⟨q,hq,rfl⟩)
  have nol:q.2∉l.take c->q.2∉l.take c++[y]:=λh1 h2=>by
   rcases waA.mp h2 with h2|h2
   .exact h1 h2
   .exact hqy (wag.mp h2)
  rcases h.hi q hq with⟨d,hd,e1,e2⟩|⟨⟨d,a,b,ht,ha,hb,hab⟩,hn⟩
  .by_cases hdc:d<c
   .left
    have e3:q.1=(stp P c).take (d+1):=by rw[zdl (by omega) hc];exact e1
    have hl:d<(stp P c).length:=by rw[zcw hc];omega
    have hm:(l.take c)[d]?=some q.2:=by rw[waR,if_pos hdc];exact e2
    exact⟨⟨d,hl,e3,by rw[waK (by rw[waC];omega)];exact hm⟩,⟨d,hl,e3⟩,way hm⟩
   .right
    have hcl':c<P.length:=by omega
    refine⟨zoJ hc (wac hcl') (a:=P[c]) ?_ (wan _) ?_,nol λz=>?_⟩
    .rw[e1,waR,if_pos (by omega)];exact wac hcl'
    .rw[e1,wcg,wbh (by omega)]
    .obtain⟨i,hi⟩:=waG z;rw[waR] at hi;split at hi
     .rename_i hic
      have:=(wbT (wab.mp hi).1 h.nd).mp (hi.trans e2.symm)
      omega
     .cases hi
  .right
   have hn':q.2∉l.take c++[y]:=nol λz=>hn (wby z)
   by_cases hdc:d<c
   .exact⟨⟨d,a,b,by rw[zdl (by omega) hc];exact ht,ha,by rw[zrd hdc hc];exact hb,hab⟩,hn'⟩
   .have hdl:=(wab.mp hb).1
    have hcl':c<P.length:=by omega
    refine⟨?_,hn'⟩;by_cases e:d=c
    .subst e;exact zoJ hc hb ha (by omega) ht
    .exact zoJ hc (wac hcl') ((zoL ht (by omega)).trans (wac hcl')) (wan _) (zoK ht (by omega))
 refine⟨⟨?_,?_,?_,?_⟩,λq hq=>?_⟩
 .rw[zcw hc,waj,waC,wbh hcl];rfl
 .rw[wbn];refine⟨h.nd.sublist (List.take_sublist _ _),by simp,λa ha b hb e=>?_⟩;rw[wag.mp hb] at e;exact hyl (e▸wby ha)
 .intro z hz;rw[waH];rcases waA.mp hz with hz|hz
  .exact wbd _ (h.sub z (wby hz))
  .exact wat _ (by rw[wag.mp hz];exact wag.mpr rfl)
 .intro q hq;rcases waA.mp hq with hq|hq
  .rcases key q hq with⟨h1,_⟩|h2
   .exact .inl h1
   .exact .inr h2
  .rw[wag.mp hq];refine .inl ⟨c,by rw[zcw hc];omega,by rw[wcw (wbe (zcw hc))],?_⟩;rw[waI (by rw[waC];omega),waC,wbh hcl,wcb];rfl
 .rcases key q hq with⟨_,h1,h2⟩|⟨h1,h2⟩
  .exact⟨λ_=>h1,λz=>absurd h2 z⟩
  .exact⟨λz=>absurd (wbd _ z) h2,λ_=>h1⟩
end
def Ch:Nat->List (Nat×Str)->Prop
|_,[]=>True
|m,q::S=>q.1<=m/\Ch (q.1+1) S
theorem zmW:∀(S:List (Nat×Str)) (P:List Nat) (l:List Str) (E:List (List Nat×Str)),Hs P l E->Ch P.length S->(E.map (·.2)++S.map (·.2)).Nodup->(∀q∈E,∀b∈tz P l S,Rl q b)/\(tz P l S).Pairwise λa b=>Rl (a.1,a.2.1) b
|[],_,_,_,_,_,_=>⟨λ_ _ _ hb=>(by cases hb),List.Pairwise.nil⟩
|q::S,P,l,E,h,hc,nd=>by
   rw[waN,List.append_cons] at nd;have hy:q.2∉E.map (·.2):=λz=>(wbn.mp (wbn.mp nd).1).2.2 _ z _ (wag.mpr rfl) rfl
   obtain⟨h1,h2⟩:=h.step (c:=q.1) (y:=q.2) hc.1 hy;obtain⟨g1,g2⟩:=zmW S (stp P q.1) (l.take q.1++[q.2]) (E++[(stp P q.1,q.2)]) h1 (by rw[zcw hc.1];exact hc.2) (by rw[waH];exact nd);refine⟨λp hp b hb=>?_,List.pairwise_cons.mpr ⟨λb hb=>g1 _ (wat _ (wag.mpr rfl)) b hb,g2⟩⟩;rcases wap.mp hb with rfl|hb
   .exact h2 p hp
   .exact g1 p (wbd _ hp) b hb
def dn (x:Itm):Nat×Str:=(x.dp,x.nm)
theorem zrf:∀{m:Nat}{L:List Itm},Vd m L->Ch m (L.map dn)
|_,_,.nil=>trivial
|_,_,.cons hm _ t=>⟨hm,zrf t⟩
theorem zrg:∀{P:List Nat}{l:List Str}{L:List Itm},(trR P L).map (λq=>(q.1,q.2.1.nm))=(tz P l (L.map dn)).map λb=>(b.1,b.2.1)
|_,_,[]=>rfl
|P,l,x::S=>by
   show(stp P x.dp,x.nm)::(trR (stp P x.dp) S).map _=(stp P x.dp,x.nm)::(tz (stp P x.dp) (l.take x.dp++[x.nm]) (S.map dn)).map _
   rw[zrg (l:=l.take x.dp++[x.nm])]
def zrh {L:List Itm}(v:Vd 0 L)(nd:(L.map Itm.nm).Nodup){i j:Nat}(hij:i<j){p q:List Nat×Itm×List D}(ei:(trR [] L)[i]?=some p)(ej:(trR [] L)[j]?=some q){b:List Nat×Str×List Str}(eb:(tz [] [] (L.map dn))[j]?=some b):Rl (p.1,p.2.1.nm) (q.1,q.2.1.nm,b.2.2):=by
 have h:=(zmW (L.map dn) [] [] [] ⟨rfl,wbb,(λy h=>by cases h),(λq h=>by cases h)⟩ (zrf v) (by rw[waW];exact nd)).2
 have e:=zrg (P:=[]) (l:=[]) (L:=L)
 have e1:=wbi (λx=>x[i]?) e
 have e2:=wbi (λx=>x[j]?) e
 rw[wah,wah,ei] at e1;rw[wah,wah,ej,eb] at e2;obtain⟨a,ea,e1⟩:=waX.mp e1.symm;have e2:=was e2
 obtain⟨la,ha⟩:=wab.mp ea;obtain⟨lb,hb⟩:=wab.mp eb;have r:=List.pairwise_iff_getElem.mp h i j la lb hij
 rw[ha,hb] at r;rw[show(p.1,p.2.1.nm)=(a.1,a.2.1) from e1.symm,show q.1=b.1 from wbi Prod.fst e2];exact r
def zes {xs:List D}{n:Nat}:VD.cut xs none (some (n:Int))=xs.take n:=by
 by_cases h:n<=xs.length
 .rw[zhv (by omega) (by omega),wbA]
 .unfold VD.cut HT.sIx;try dsimp only[]
  rw[if_neg (by omega),wcQ,Nat.sub_zero,Nat.min_eq_right (by omega),List.take_length,wcw (by omega)]
theorem zkv:∀{A B:List Nat},inD A=inD B->A=B
|[],[],_=>rfl
|[],_::_,h=>by cases h
|_::_,[],h=>by cases h
|a::A,b::B,h=>by
   have h:D.int (a:Int)::inD A=D.int (b:Int)::inD B:=h
   injection h with h1 h2
   injection h1 with h1
   rw[zkv h2,Int.ofNat.inj h1]
theorem zkw:∀{A B:List Nat},A.length=B.length->zdG (inD A) (inD B)=true
|[],[],_=>rfl
|[],_::_,h=>by cases h
|_::_,[],h=>by cases h
|a::A,b::B,h=>by
   have ih:=zkw (A:=A) (B:=B) (wcO h)
   show(zdG (D.int (a:Int)::inD A) (D.int (b:Int)::inD B))=true
   unfold zdG;rw[ih];rfl
def nst (A B:List Nat):Bool:=decide (A.take (min A.length B.length)=B.take (min A.length B.length))
def zoM (A B:List Nat):zan [.tup (inD A),.tup (inD B)]=some (.bl (nst A B)):=by
 show zbM (.tup (inD A)) (.tup (inD B))=_
 unfold zbM;show Ob (some (D.int (if((inD B).length:Int)<((inD A).length:Int) then((inD B).length:Int) else((inD A).length:Int)))) _=_
 have hm:(if((inD B).length:Int)<((inD A).length:Int) then((inD B).length:Int) else((inD A).length:Int))=((min A.length B.length:Nat):Int):=by
  unfold inD;rw[waf,waf];split <;> omega
 rw[hm,zOB];show Ob (dEqG false (.tup (VD.cut (inD A) none (some ((min A.length B.length:Nat):Int)))) (.tup (VD.cut (inD B) none (some ((min A.length B.length:Nat):Int))))) _=_
 have tk:∀C:List Nat,(inD C).take (min A.length B.length)=inD (C.take (min A.length B.length)):=λC=>(List.map_take ..).symm
 rw[zes,zes,tk,tk];have hl:(A.take (min A.length B.length)).length=(B.take (min A.length B.length)).length:=by rw[waC,waC];omega
 unfold nst;generalize A.take (min A.length B.length)=X at hl⊢;generalize B.take (min A.length B.length)=Y at hl⊢;have hc:eqC (.tup (inD X)) (.tup (inD Y))=true:=by
  unfold eqC;rw[show eqOk (.tup (inD X)) (.tup (inD Y))=true from zkw hl,show ndD (.tup (inD X))=true from(zg1 X).1,show ndD (.tup (inD Y))=true from(zg1 Y).1,waD (show depD (.tup (inD X))<=40 by show depL (inD X)+1<=40;have:=(zg1 X).2;omega)];rfl
 unfold dEqG;rw[if_pos hc];have hd:decide (D.tup (inD X)=D.tup (inD Y))=decide (X=Y):=decide_eq_decide.mpr ⟨λz=>zkv (D.tup.inj z),λz=>by rw[z]⟩
 show some (D.bl (decide (D.tup (inD X)=D.tup (inD Y))))=_
 rw[hd]
def zmX {A B:List Nat}(h:Px A B):nst A B=true/\nst B A=true:=by
 obtain⟨n,hn,rfl⟩:=h;have hl:(B.take (n+1)).length=n+1:=by rw[waC];omega
 constructor
 .unfold nst;rw[hl,wbh (by omega),wcg,Nat.min_self];exact waD rfl
 .unfold nst;rw[hl,Nat.min_eq_right (by omega),wcg,Nat.min_self];exact waD rfl
def zri {A B:List Nat}(h:Lt A B):nst A B=false:=by
 obtain⟨d,a,b,_,ha,hb,hab⟩:=h;have la:=(wab.mp ha).1
 have lb:=(wab.mp hb).1
 refine waz λz=>?_
 have:=wbi (λx=>x[d]?) z
 rw[waR,waR,if_pos (by omega),if_pos (by omega),ha,hb] at this;have:=was this
 omega
def zmb (A:List Nat):nst A A=true:=by
 unfold nst;exact waD rfl
abbrev Tp:=List Nat×Itm×List D
def GdH (T:List Tp)(q:Tp):Prop:=q.2.1.hd=none\/∃p∈T,q.2.1.hd=some p.2.1.nm/\nst p.1 q.1=false
def BdH (T:List Tp)(q:Tp):Prop:=∃h,q.2.1.hd=some h/\((∀p∈T,p.2.1.nm≠h)\/∃p∈T,p.2.1.nm=h/\nst p.1 q.1=true)
section
variable {L:List Itm}(nd:(L.map Itm.nm).Nodup)
def zrj {p:Tp}(hp:p∈trR [] L):hasK ((trR [] L).map kyR) (.inr p.2.1.nm)=true:=by
 unfold hasK;rw[List.any_eq_true];exact⟨kyR p,waE.mpr ⟨p,hp,rfl⟩,waD rfl⟩
def zsa {h:Str}(hn:∀p∈trR [] L,p.2.1.nm≠h):hasK ((trR [] L).map kyR) (.inr h)=false:=by
 unfold hasK;rw[List.any_eq_false];intro x hx hh;have hh:=wbS hh
 obtain⟨p,hp,rfl⟩:=waE.mp hx;exact hn p hp (Sum.inr.inj hh)
include nd
theorem zfk {q:Tp}{h:Str}{b:Bool}(hb:((∀p∈trR [] L,p.2.1.nm≠h)/\b=true)\/∃p∈trR [] L,p.2.1.nm=h/\nst p.1 q.1=b):(Ob (Ob ((dInG true) (.str h) (plsD L)) dB) λk8=>if k8 then some true else(Ob (Ob (aC (dGet (plsD L) (.str h)) (aC (some (plR q)) aN)) zan) dTru))=some b:=by
 show(Ob (Ob (some (D.bl (!hasK ((trR [] L).map kyR) (.inr h)))) dB) λk8=>if k8 then some true else(Ob (Ob (aC (dGet (plsD L) (.str h)) (aC (some (plR q)) aN)) zan) dTru))=some b
 rcases hb with⟨hn,rfl⟩|⟨p,hp,rfl,hb⟩
 .rw[zsa hn];rfl
 .have hg:dGet (plsD L) (.str p.2.1.nm)=some (plR p):=zku (k:=kyR) (v:=plR) hp (zhO nd)
  rw[zrj hp,hg];show Ob (zan [.tup (inD p.1),.tup (inD q.1)]) dTru=_
  rw[zoM,hb];rfl
end
theorem zhP {f:Unit->D->Option Unit}{g:Tp->D}:∀{E:List Tp},(∀q∈E,f () (g q)=some ())->zaW f () (E.map g)=some ()
|[],_=>rfl
|q::E,h=>by
   show(f () (g q)).bind (λs=>zaW f s (E.map g))=_
   rw[h q war,zOB];exact zhP λy hy=>h y (wam _ hy)
section
variable {L:List Itm}(t:Vd 0 L)(nd:(L.map Itm.nm).Nodup)(hl:L.length<=1000)
include t nd hl
theorem zoN (hg:∀q∈trR [] L,GdH (trR [] L) q):zbi [.tup (fo L 0)]=some .non:=by
 show zbh (.tup (fo L 0))=_
 unfold zbh;rw[zoI t hl,zOB];show Ob (Ob (zdd _ ((trR [] L).map enR) ([],[])) _) _=_
 rw[zer nd hl,zOB,zOB];show Ob (zaW _ () ((trR [] L).map enR)) _=_
 rw[zhP λq hq=>?_]
 .rfl
 .rw[show un2 (enR q)=some (plR q,ptR q) from rfl,zOB];show Ob (dIx (ptR q) (.int 4)) _=_
  rw[show dIx (ptR q) (.int 4)=some (hdO q.2.1.hd) from zep ..,zOB];rcases hg q hq with e|⟨p,hp,e,hb⟩
  .rw[e];rfl
  .rw[e];show Ob (Ob (Ob ((dInG true) (.str p.2.1.nm) (plsD L)) dB) λk8=>if k8 then some true else(Ob (Ob (aC (dGet (plsD L) (.str p.2.1.nm)) (aC (some (plR q)) aN)) zan) dTru)) _=_
   rw[zfk nd (b:=false) (.inr ⟨p,hp,rfl,hb⟩)];rfl
theorem zoO (hg:∀q∈trR [] L,GdH (trR [] L) q):zaC [.tup (fo L 0)]=none:=by
 show zaN (.tup (fo L 0))=_
 unfold zaN;rw[zoI t hl,zOB];show Ob (Ob (zdd _ ((trR [] L).map enR) ([],[])) _) _=_
 rw[zer nd hl,zOB,zOB];show Ob (some ((trR [] L).map enR)) _=_
 rw[zOB,zdp enR λq hq=>?_]
 .rfl
 .dsimp only[];rw[show un2 (enR q)=some (plR q,ptR q) from rfl,zOB];show Ob (dIx (ptR q) (.int 4)) _=_
  rw[show dIx (ptR q) (.int 4)=some (hdO q.2.1.hd) from zep ..,zOB];rcases hg q hq with e|⟨p,hp,e,hb⟩
  .rw[e];rfl
  .rw[e];show Ob (Ob (Ob ((dInG true) (.str p.2.1.nm) (plsD L)) dB) λk8=>if k8 then some true else(Ob (Ob (aC (dGet (plsD L) (.str p.2.1.nm)) (aC (some (plR q)) aN)) zan) dTru)) _=_
   rw[zfk nd (b:=false) (.inr ⟨p,hp,rfl,hb⟩)];rfl
theorem zoP {A B:List Tp}{q:Tp}(e:trR [] L=A++q::B)(hg:∀p∈A,GdH (trR [] L) p)(hb:BdH (trR [] L) q)(ok:okTx q.2.1.nm=true):zaC [.tup (fo L 0)]=some (zg2 q.2.1.nm):=by
 show zaN (.tup (fo L 0))=_
 unfold zaN;rw[zoI t hl,zOB];show Ob (Ob (zdd _ ((trR [] L).map enR) ([],[])) _) _=_
 rw[zer nd hl,zOB,zOB];show Ob (some ((trR [] L).map enR)) _=_
 rw[zOB];generalize hf:(λ(s3:Unit) (d9:D)=>Ob (un2 d9) λ(y4:D×D)=>_)=f;have sg:∀p,GdH (trR [] L) p->f () (enR p)=some (.nx ()):=λp hp=>by
  rw[<-hf];dsimp only[];rw[show un2 (enR p)=some (plR p,ptR p) from rfl,zOB];show Ob (dIx (ptR p) (.int 4)) _=_
  rw[show dIx (ptR p) (.int 4)=some (hdO p.2.1.hd) from zep ..,zOB];rcases hp with e|⟨r,hr,e,hb⟩
  .rw[e];rfl
  .rw[e];show Ob (Ob (Ob ((dInG true) (.str r.2.1.nm) (plsD L)) dB) λk8=>if k8 then some true else(Ob (Ob (aC (dGet (plsD L) (.str r.2.1.nm)) (aC (some (plR p)) aN)) zan) dTru)) _=_
   rw[zfk nd (b:=false) (.inr ⟨r,hr,rfl,hb⟩)];rfl
 have sb:f () (enR q)=some (.ret (zg2 q.2.1.nm)):=by
  rw[<-hf];dsimp only[];rw[show un2 (enR q)=some (plR q,ptR q) from rfl,zOB];show Ob (dIx (ptR q) (.int 4)) _=_
  obtain⟨h,e,hb⟩:=hb;rw[show dIx (ptR q) (.int 4)=some (hdO q.2.1.hd) from zep ..,zOB,e];show Ob (Ob (Ob ((dInG true) (.str h) (plsD L)) dB) λk8=>if k8 then some true else(Ob (Ob (aC (dGet (plsD L) (.str h)) (aC (some (plR q)) aN)) zan) dTru)) _=_
  rw[zfk nd (b:=true) (hb.imp (λh=>⟨h,rfl⟩) id)];show Ob (Ob (dIx (ptR q) (.int 0)) (rz "NoHead" "name" zic)) _=_
  rw[show dIx (ptR q) (.int 0)=_ from(zcX q.2.1 0 q.2.2).1,zOB,show rz "NoHead" "name" zic (.str q.2.1.nm)=some (zg2 q.2.1.nm) from if_pos ok];rfl
 have key:∀A:List Tp,(∀p∈A,GdH (trR [] L) p)->zeu f () ((A++q::B).map enR)=some (.ret (zg2 q.2.1.nm)):=by
  intro A;induction A with
 |nil=>
    intro _;show(f () (enR q)).bind _=_
    rw[sb,zOB]
 |cons p A ih=>
    intro hg;show(f () (enR p)).bind _=_
    rw[sg p (hg p war),zOB];exact ih λy hy=>hg y (wam _ hy)
 rw[e,key A hg];rfl
end
def hdM (x:Itm):List (Str×Str):=match x.hd with
|some h=>[(h,x.nm)]
|none=>[]
def mus:List Itm->List (Str×Str)
|[]=>[]
|x::S=>((fo S (x.dp+1)).map λd=>(x.nm,(nr d).2))++hdM x++mus S
def zoQ (x:Itm):(hdM x).length<=1:=by
 unfold hdM;split <;> simp
theorem zg3:∀{L:List Itm},(mus L).length<=L.length*L.length+L.length
|[]=>wan _
|x::S=>by
   show(((fo S (x.dp+1)).map λd=>(x.nm,(nr d).2))++hdM x++mus S).length<=(S.length+1)*(S.length+1)+(S.length+1)
   rw[waj,waj,waf];have h1:=zgh (S:=S) (d:=x.dp+1)
   have h2:=zg3 (L:=S)
   have h3:=zoQ x
   rw[Nat.add_mul,Nat.mul_add,Nat.mul_one,Nat.one_mul];omega
def Ahd:List Str->List Itm->Prop
|_,[]=>True
|e,x::S=>(∀h,x.hd=some h->h∈e)/\Ahd (e++[x.nm]) S
theorem zkx:∀{L pre:List Itm}{q:Str×Str},Ahd (pre.map Itm.nm) L->q∈mus L->Fwd ((pre++L).map Itm.nm) q
|[],_,_,_,h=>by cases h
|x::S,pre,q,ha,h=>by
   rcases waA.mp (show q∈((fo S (x.dp+1)).map λd=>(x.nm,(nr d).2))++hdM x++mus S from h) with h|h
   .rcases waA.mp h with h|h
    .obtain⟨d,hd,rfl⟩:=waE.mp h;obtain⟨y,hy,inn,rfl⟩:=zkt hd;obtain⟨k,hk⟩:=waG hy;refine⟨pre.length,pre.length+1+k,by omega,?_,?_⟩
     .rw[wah,waI (wan _),wcb];rfl
     .rw[wah,waI (by omega),show pre.length+1+k - pre.length=k+1 by omega,List.getElem?_cons_succ,hk];rfl
    .unfold hdM at h;cases e:x.hd with
    |none=>rw[e] at h;cases h
    |some y=>
       rw[e] at h;rw[wag.mp h];obtain⟨k,hk⟩:=waG (ha.1 y e);have lk:=(wab.mp hk).1
       rw[waf] at lk;refine⟨k,pre.length,lk,?_,?_⟩
       .rw[waH,waK (by rw[waf];exact lk)];exact hk
       .rw[wah,waI (wan _),wcb];rfl
   .have:=zkx (pre:=pre++[x]) (by rw[waH];exact ha.2) h
    rwa [waV] at this
def zmc {L:List Itm}(t:Vd 0 L)(hl:L.length<=40):zcH [.tup (fo L 0)]=some (.lst ((mus L).map prD)):=by
 show zcG (.tup (fo L 0))=_
 unfold zcG;rw[zOB,zhM t (by omega)];generalize hf:(λ(s2:List D) (d3:D)=>(Ob (Ob (Ob (Ob (Ob (dIx d3 (.int 5)) dSeq) _) λds=>some (.lst ds)) (extL s2)) λ(x5:List D)=>_))=f;show Ob (zaW f [] ((trL [] L).map (·.2))) _=_
 have stp:∀(x:Itm) (S:List Itm) (M0:List (Str×Str)),S.length<=44->M0.length<=2000->f (M0.map prD) (part x 0 (fo S (x.dp+1)))=some ((M0++(((fo S (x.dp+1)).map λd=>(x.nm,(nr d).2))++hdM x)).map prD):=by
  intro x S M0 hs hM;rw[<-hf];dsimp only[];rw[(zcX x 0 _).2.2.2,zep,(zcX x 0 _).1];show Ob (Ob (Ob (zbq _ (fo S (x.dp+1))) _) _) _=_
  have hc:zbq (λd4=>(Ob (Ob (aC (some (.str x.nm)) (aC (dIx d4 (.int 0)) aN)) mkT) λz=>some (some z))) (fo S (x.dp+1))=some (((fo S (x.dp+1)).map λd=>(x.nm,(nr d).2)).map prD):=by
   have:=zcp (f:=λd4=>(Ob (Ob (aC (some (.str x.nm)) (aC (dIx d4 (.int 0)) aN)) mkT) λz=>some (some z))) (λd=>d) (λd=>prD (x.nm,(nr d).2)) (xs:=fo S (x.dp+1)) (wao zgh (by omega)) λd hd=>by
    obtain⟨y,hy,inn,rfl⟩:=zkt hd;rw[(zcX y 0 _).1];rfl
   rw[List.map_id'] at this;rw[this,waW];rfl
  have hfl:=zgh (S:=S) (d:=x.dp+1)
  rw[hc,zOB,zOB];have hx:extL (M0.map prD) (.lst (((fo S (x.dp+1)).map λd=>(x.nm,(nr d).2)).map prD))=some ((M0++(fo S (x.dp+1)).map λd=>(x.nm,(nr d).2)).map prD):=by
   rw[waH];exact if_pos (wao (by
    rw[waj,waf,waf,waf];omega:_<=2044) (by decide))
  rw[hx,zOB];unfold hdM;cases x.hd with
 |none=>rw[waJ];rfl
 |some h=>
    show Ob (Ob (appL ((M0++(fo S (x.dp+1)).map λd=>(x.nm,(nr d).2)).map prD) (prD (h,x.nm))) _) _=_
    rw[zdq (waY (by rw[waf,waj,waf];omega:_<=2044) (by decide)),<-waV,waH (l₁:=M0++_)];rfl
 have key:∀(L:List Itm) (P:List Nat) (M0:List (Str×Str)),L.length<=44->M0.length+(mus L).length<=2000->zaW f (M0.map prD) ((trL P L).map (·.2))=some ((M0++mus L).map prD):=by
  intro L;induction L with
 |nil=>intro P M0 _ _;show some _=_;rw[show mus [] = [] from rfl,waJ]
 |cons x S ih=>
    intro P M0 hs hM;rw[show mus (x::S)=((fo S (x.dp+1)).map λd=>(x.nm,(nr d).2))++hdM x++mus S from rfl,waj] at hM;rw[waM] at hs;show(f (M0.map prD) (part x 0 (fo S (x.dp+1)))).bind (λs=>zaW f s ((trL (Pg.stp P x.dp) S).map (·.2)))=_
    rw[stp x S M0 (by omega) (by omega),zOB,ih _ _ (by omega) (by rw[waj];omega),waV];rfl
 have h2:(mus L).length<=2000:=wao zg3 (wao (Nat.add_le_add (wcP hl hl) hl) (by decide))
 have:=key L [] [] (by omega) (by rw[wcr];omega)
 rw[show zaW f [] ((trL [] L).map (·.2))=_ from this];rfl
structure R6 where
 dp:Nat
 nm:Str
 ln:List Str
 gd:Option Str
def R6.d (r:R6):D:=.tup [.int (r.dp:Int),.str r.nm,.lst (r.ln.map D.str),hdO r.gd]
def zdw (L:List R6):D:=.lst (L.map R6.d)
def it6 (r:R6)(k:Nat)(h:Option Str):Itm:=⟨r.dp,r.nm,(k:Int),0 - (k:Int),1+(k:Int),2,"free",(k:Int) % 3,h⟩
def its:Nat->List R6->List (Option Str)->List Itm
|k,r::L,h::hs=>it6 r k h::its (k+1) L hs
|_,_,_=>[]
theorem zhQ:∀{k i:Nat}{L:List R6}{hs:List (Option Str)}{r:R6}{h:Option Str},L[i]?=some r->hs[i]?=some h->(its k L hs)[i]?=some (it6 r (k+i) h)
|k,0,r::L,h::hs,_,_,e1,e2=>by cases e1;cases e2;rfl
|k,i+1,r::L,h::hs,_,_,e1,e2=>by
   have:=zhQ (k:=k+1) (i:=i) (L:=L) (hs:=hs) e1 e2
   rw[show k+(i+1)=k+1+i by omega];exact this
|_,_,[],_,_,_,e1,_=>by simp at e1
|_,_,_::_,[],_,_,_,e2=>by simp at e2
theorem zcY:∀{k:Nat}{L:List R6}{hs:List (Option Str)},hs.length=L.length->(its k L hs).length=L.length
|_,[],[],_=>rfl
|k,r::L,h::hs,e=>by show(its (k+1) L hs).length+1=L.length+1;rw[zcY (wcO e)]
|_,[],_::_,e=>by cases e
|_,_::_,[],e=>by cases e
theorem zky:∀{k:Nat}{L:List R6}{hs:List (Option Str)},hs.length=L.length->(its k L hs).map Itm.nm=L.map R6.nm
|_,[],[],_=>rfl
|k,r::L,h::hs,e=>by show r.nm::(its (k+1) L hs).map Itm.nm=r.nm::L.map R6.nm;rw[zky (wcO e)]
|_,[],_::_,e=>by cases e
|_,_::_,[],e=>by cases e
def zgk (r:R6):dIx r.d (.int 0)=some (.int (r.dp:Int))/\dIx r.d (.int 1)=some (.str r.nm)/\dIx r.d (.int 2)=some (.lst (r.ln.map D.str))/\dIx r.d (.int 3)=some (hdO r.gd):=⟨zaH (j:=0) rfl,zaH (j:=1) rfl,zaH (j:=2) rfl,zaH (j:=3) rfl⟩
def zfl {L:List R6}{i:Nat}{r:R6}(h:L[i]?=some r):dIx (zdw L) (.int (i:Int))=some r.d:=zaH (j:=i) (by rw[wah,h];rfl)
def zkz {L:List R6}{hs:List (Option Str)}(h4:∀r∈L,r.dp<=4)(hl:L.length<=1000)(he:hs.length=L.length):zaU [zdw L,.lst (hs.map hdO)]=some (.tup (fo (its 0 L hs) 0)):=by
 show zcf (zdw L) (.lst (hs.map hdO))=_
 unfold zcf;rw[zOB];have hn:(Ob (aC (bLen [zdw L]) aN) zp9)=some (zaB 0 L.length).reverse:=by
  show(if(0:Int)<=((L.map R6.d).length:Int)/\((L.map R6.d).length:Int)<=1000000 then some (zaB 0 (((L.map R6.d).length:Nat):Int).toNat).reverse else none)=_
  rw[waf,if_pos ⟨by omega,by omega⟩,wbA]
 rw[hn];generalize hf:(λ(s2:List D) (d3:D)=>(Ob (Ob (dIx (zdw L) d3) λv4=>(dIx v4 (.int 0))) λ(x5:D)=>_))=f;have stp:∀(k:Nat) (r:R6) (h:Option Str) (S:List Itm),L[k]?=some r->hs[k]?=some h->S.length<=1000->f (wt S) (.int (k:Int))=some (wt (it6 r k h::S)):=by
  intro k r h S er eh hs';have e4:r.dp<=4:=h4 r (way er)
  rw[<-hf];obtain⟨b0,b1,_,_⟩:=zgk r;have b3:dAdd (.int (r.dp:Int)) (.int 1)=some (.int ((r.dp:Int)+1)):=rfl
  have bh:dIx (.lst (hs.map hdO)) (.int (k:Int))=some (hdO h):=zaH (j:=k) (by rw[wah,eh];rfl)
  dsimp only[];rw[zfl er,zOB,zOB,b0,b1,bh,zOB,b3,zOB,zr9 e4,zOB];show Ob (Ob (aC (some (.str r.nm)) (aC (Ob (some [.int (k:Int),.int (0 - (k:Int)),.int (1+(k:Int)),.int 2]) mkT) (aC (some (.str "free")) (aC (some (.int ((k:Int) % 3))) (aC (some (hdO h)) (aC (Ob (some [D.lst (fo S (r.dp+1)).reverse.reverse]) bTuple) aN)))))) mkT) _=_
  rw[List.reverse_reverse,zOB,zOB,show mkT [.int (k:Int),.int (0 - (k:Int)),.int (1+(k:Int)),.int 2]=some (it6 r k h).bx from if_pos (by show 4<=lim;decide)];show Ob (mkT [.str r.nm,(it6 r k h).bx,.str "free",.int ((k:Int) % 3),hdO h,.tup (fo S (r.dp+1))]) _=_
  rw[show mkT [.str r.nm,(it6 r k h).bx,.str "free",.int ((k:Int) % 3),hdO h,.tup (fo S (r.dp+1))]=some (part (it6 r k h) 0 (fo S (r.dp+1))) from if_pos (by show 6<=lim;decide),zOB];show Ob (zlE (wt S) [] (.int ((r.dp:Int)+1))) _=_
  rw[zq9 e4,zOB,zra (x:=it6 r k h) (e:=r.dp) e4 rfl hs'];rfl
 have key:∀j:Nat,j<=L.length->zaW f (wt []) ((((List.range L.length).drop (L.length - j)).map λ(i:Nat)=>D.int (i:Int)).reverse)=some (wt ((its 0 L hs).drop (L.length - j))):=by
  intro j;induction j with
 |zero=>
    intro _;rw[wcv (by rw[List.length_range];omega),wcv (by rw[zcY he];omega)];rfl
 |succ j ih=>
    intro hj;obtain⟨k,hk⟩:∃k,L.length - (j+1)=k:=⟨_,rfl⟩
    have hk1:L.length - j=k+1:=by omega
    have kl:k<L.length:=by omega
    have er:L[k]?=some L[k]:=wac kl
    have eh:hs[k]?=some (hs[k]'(by omega)):=wac _
    have ei:=zhQ (k:=0) er eh
    rw[wbf] at ei;obtain⟨li,ei'⟩:=wab.mp ei;rw[hk,wbL (show k<(List.range L.length).length by rw[List.length_range];exact kl),wbL li,List.getElem_range,ei',waN,wcc,zeM];have ih:=ih (by omega)
    rw[hk1] at ih;rw[ih,zOB];exact stp k _ _ _ er eh (by rw[wcD,zcY he];omega)
 have hr:(zaB 0 L.length).reverse=(((List.range L.length).drop (L.length - L.length)).map λ(i:Nat)=>D.int (i:Int)).reverse:=by
  rw[wcb,wcQ];unfold zaB;congr 2;funext i
  rw[Int.zero_add]
 rw[hr];show Ob (zaW f (wt []) _) _=_
 rw[key L.length (wan _),wcb,wcQ,zOB];show Ob (bTuple [.lst (fo (its 0 L hs) 0).reverse.reverse]) _=_
 rw[List.reverse_reverse];rfl
def nmR (s t:Int)(j:Nat):Str:=Txt.mul (sg (97+((t+(j:Int)) % 26).toNat)) (s+(j:Int) / 26)
def zgl (s t:Int)(hs:1<=s){m:Nat}(h:m<=100):((List.range m).map (nmR s t)).Nodup:=by
 refine List.pairwise_map.mpr (List.nodup_range.imp_of_mem λ{a b} ha hb hne e=>hne ?_);obtain⟨e1,e2⟩:=zn6 (by omega) (by omega) e;omega
def zoR {s t:Int}(hs:1<=s){i j:Nat}(hi:i<100)(hj:j<100)(e:nmR s t i=nmR s t j):i=j:=by
 have nd:=zgl s t hs (m:=100) (wan _)
 have at':∀k,k<100->((List.range 100).map (nmR s t))[k]?=some (nmR s t k):=λk hk=>by rw[wah,wck hk];rfl
 exact(wbT (by rw[waf,List.length_range];exact hi) nd).mp ((at' i hi).trans (e▸(at' j hj).symm))
section
variable (s t:Int)
def V6:Nat->List Str->List R6->Prop
|_,_,[]=>True
|k,l,r::S=>r.dp<=l.length/\r.dp<=4/\r.nm=nmR s t k/\r.ln=l.take r.dp/\(∀h,r.gd=some h->h∉r.ln/\∃j,j<k/\h=nmR s t j)/\V6 (k+1) (r.ln++[r.nm]) S
def lnA:List Str->List R6->List Str
|l,[]=>l
|_,r::S=>lnA (r.ln++[r.nm]) S
theorem zhR:∀{l:List Str}{L:List R6}{r:R6},lnA l (L++[r])=r.ln++[r.nm]
|_,[],_=>rfl
|_,x::S,r=>zhR (L:=S)
theorem zkA:∀{k:Nat}{l:List Str}{L:List R6}{r:R6},V6 s t k l L->r.dp<=(lnA l L).length->r.dp<=4->r.nm=nmR s t (k+L.length)->r.ln=(lnA l L).take r.dp->(∀h,r.gd=some h->h∉r.ln/\∃j,j<k+L.length/\h=nmR s t j)->V6 s t k l (L++[r])
|k,l,[],r,_,h1,h2,h3,h4,h5=>⟨h1,h2,h3,h4,h5,trivial⟩
|k,l,x::S,r,⟨a1,a2,a3,a4,a5,a6⟩,h1,h2,h3,h4,h5=>⟨a1,a2,a3,a4,a5,zkA a6 h1 h2 (by rw[h3,waM];congr 1;omega) h4 λh e=>by
   obtain⟨b1,j,b2,b3⟩:=h5 h e;exact⟨b1,j,by rw[waM] at b2;omega,b3⟩⟩
end
section
variable {s t:Int}
theorem zg4:∀{k i:Nat}{l:List Str}{L:List R6}{r:R6},V6 s t k l L->L[i]?=some r->r.dp<=4/\r.nm=nmR s t (k+i)/\(∀h,r.gd=some h->h∉r.ln/\∃j,j<k+i/\h=nmR s t j)
|k,0,l,x::S,r,⟨a1,a2,a3,a4,a5,a6⟩,e=>by cases e;exact⟨a2,a3,a5⟩
|k,i+1,l,x::S,r,⟨a1,a2,a3,a4,a5,a6⟩,e=>by
   have:=zg4 (i:=i) a6 e
   rw[show k+(i+1)=k+1+i by omega];exact this
|_,_,_,[],_,_,e=>by simp at e
def zsb {k:Nat}{l:List Str}{L:List R6}(v:V6 s t k l L):∀r∈L,r.dp<=4:=λr hr=>by
 obtain⟨i,hi⟩:=waG hr;exact(zg4 v hi).1
theorem zmY:∀{k:Nat}{l:List Str}{L:List R6},V6 s t k l L->L.map R6.nm=(List.range' k L.length).map (nmR s t)
|_,_,[],_=>rfl
|k,l,x::S,⟨_,_,a3,_,_,a6⟩=>by
   rw[waM,List.range'_succ,waN,waN,zmY a6,a3]
def zsc (hs:1<=s){L:List R6}(v:V6 s t 0 [] L)(hl:L.length<=40):(L.map R6.nm).Nodup:=by
 rw[zmY v,<-List.range_eq_range'];exact zgl s t hs (by omega)
theorem zgm:∀{k:Nat}{l:List Str}{L:List R6}{hs:List (Option Str)},V6 s t k l L->hs.length=L.length->Vd l.length (its k L hs)
|_,_,[],[],_,_=>.nil
|k,l,x::S,h::hs,⟨a1,a2,_,a4,_,a6⟩,e=>by
   refine .cons (x:=it6 x k h) a1 a2 ?_;have:=zgm (hs:=hs) a6 (wcO e)
   rw[a4,waj,waC,wbh a1] at this;exact this
|_,_,[],_::_,_,e=>by cases e
|_,_,_::_,[],_,e=>by cases e
theorem zrk:∀{k:Nat}{P:List Nat}{l:List Str}{L:List R6}{hs:List (Option Str)},V6 s t k l L->hs.length=L.length->(tz P l ((its k L hs).map dn)).map (·.2.2)=L.map R6.ln
|_,_,_,[],[],_,_=>rfl
|k,P,l,x::S,h::hs,⟨a1,a2,_,a4,_,a6⟩,e=>by
   show l.take x.dp::(tz (stp P x.dp) (l.take x.dp++[x.nm]) ((its (k+1) S hs).map dn)).map _=x.ln::S.map R6.ln
   rw[<-a4,zrk a6 (wcO e)]
|_,_,_,[],_::_,_,e=>by cases e
|_,_,_,_::_,[],_,e=>by cases e
theorem zmZ:∀{k:Nat}{l:List Str}{L:List R6},V6 s t k l L->Ahd ((List.range k).map (nmR s t)) (its k L (L.map R6.gd))
|_,_,[],_=>trivial
|k,l,x::S,⟨_,_,a3,_,a5,a6⟩=>by
   refine⟨λh e=>?_,?_⟩
   .obtain⟨_,j,hj,rfl⟩:=a5 h e;exact waE.mpr ⟨j,wbI.mpr hj,rfl⟩
   .have:=zmZ a6
    rw[List.range_succ,waH] at this;show Ahd ((List.range k).map (nmR s t)++[x.nm]) (its (k+1) S (S.map R6.gd))
    rw[a3];exact this
end
def fe (c n k:Int):D:=.lst [.int c,.int n,.int k]
def zrl (c n k:Int):dIx (fe c n k) (.int 0)=some (.int c)/\dIx (fe c n k) (.int 1)=some (.int n)/\dIx (fe c n k) (.int 2)=some (.int k):=⟨zaH (j:=0) rfl,zaH (j:=1) rfl,zaH (j:=2) rfl⟩
def zkB {c n k m:Int}(m0:0<m)(m1:m<1073741824):∃r c' n',zal [fe c n k,.int m]=some (.told (.int r),[fe c' n' k,.non])/\0<=r/\r<m:=by
 have hm:∀a b:Int,0<b->dMod (.int a) (.int b)=some (.int (a % b)):=λa b h=>if_pos h
 have hd:∀a:Int,dFdiv (.int a) (.int m)=some (.int (a / m)):=λa=>if_pos (show CDiv a m from⟨m0,m1⟩)
 have hl:∀a b:Int,-(2 ^ 64)<a->a<2 ^ 64->dMul (.int a) (.int b)=some (.int (a*b)):=λa b h1 h2=>if_pos (show CMul a b from .inl ⟨h1,h2⟩)
 have hr:∀a b:Int,-(2 ^ 64)<b->b<2 ^ 64->dMul (.int a) (.int b)=some (.int (a*b)):=λa b h1 h2=>if_pos (show CMul a b from .inr ⟨h1,h2⟩)
 have pw:dPow (.int 10) (.int 18)=some (.int 1000000000000000000):=rfl
 obtain⟨i0,i1,i2⟩:=zrl c n k;obtain⟨j0,j1,j2⟩:=zrl c (n+1) k;have p1:zlF (fe c n k) (.int 1) (.int (n+1))=some (fe c (n+1) k):=rfl
 show ∃r c' n',zcc (fe c n k) (.int m)=_/\_
 unfold zcc;rw[i1,zOB,show dAdd (.int n) (.int 1)=some (.int (n+1)) from rfl,zOB,p1,zOB,j0,zOB,pw,zOB,show dGe (.int c) (.int 1000000000000000000)=some (.bl (decide (1000000000000000000<=c))) from rfl,zOB,show ∀b,dB (.bl b)=some b from λ_=>rfl,zOB];by_cases h:1000000000000000000<=c
 .refine⟨c % m,c / m,n+1,?_,wbB _ (by omega),wbw _ m0⟩;rw[waD h,if_pos rfl,zOB,hm _ _ m0,zOB,zOB,hd,zOB];rfl
 .rw[waz h,if_neg (by decide)];have b1:∀x:Int,0<=x % 2147483647/\x % 2147483647<2147483647:=λx=>⟨wbB _ (by decide),wbw _ (by decide)⟩
  refine⟨((c % 1000003+7919*k+104729*(n+1))*48271 % 2147483647*((c % 1000003+7919*k+104729*(n+1))*48271 % 2147483647 % 65521+(n+1)) % 2147483629) % m,c,n+1,?_,wbB _ (by omega),wbw _ m0⟩
  .rw[zOB,hm _ _ (by decide),zOB,j2,zOB,hl _ _ (by decide) (by decide),zOB,show ∀a b,dAdd (.int a) (.int b)=some (.int (a+b)) from λ_ _=>rfl,zOB,j1,zOB,hl _ _ (by decide) (by decide),zOB,show ∀a b,dAdd (.int a) (.int b)=some (.int (a+b)) from λ_ _=>rfl,zOB,hr _ _ (by decide) (by decide),zOB,hm _ _ (by decide),zOB,hm _ _ (by decide),zOB,zOB,show ∀a b,dAdd (.int a) (.int b)=some (.int (a+b)) from λ_ _=>rfl,zOB,hl _ _ (by have:=b1 ((c % 1000003+7919*k+104729*(n+1))*48271);omega) (by have:=b1 ((c % 1000003+7919*k+104729*(n+1))*48271);omega),zOB,hm _ _ (by decide),zOB,hm _ _ m0,zOB]
def zoS {S:Scr}{k:Int}(h0:0<=k):∃c,zaL S [.scr S.p,.int k]=some (.new 1 (fe c 0 k),[.non,.non]):=by
 have hl:lenS S (.scr S.p)=some (.int S.ns.length):=if_pos rfl
 show ∃c,zcb S (.scr S.p) (.int k)=_
 unfold zcb;rw[hl,zOB,zaD,zOB,show ∀b,dB (.bl b)=some b from λ_=>rfl,zOB];by_cases h:(S.ns.length:Int)=0
 .rw[waD h];exact⟨0,rfl⟩
 .rw[waz h];have hp:(0:Int)<S.ns.length:=by omega
  obtain⟨x,_,hx⟩:=zjM (xs:=S.ns) (i:=k % S.ns.length) (wbB _ (by omega)) (wbw _ hp);refine⟨x,?_⟩;rw[if_neg (by decide),zOB,show dMod (.int k) (.int S.ns.length)=some (.int (k % S.ns.length)) from if_pos hp,zOB,show ixS S (.scr S.p) (.int (k % S.ns.length))=some (.int x) by show(if S.p=S.p then _ else _)=_;rw[if_pos rfl,hx];rfl];rfl
section
variable {B:Type}{R:B->Prop}
def ziy {c n k m:Int}{K:RV×D->Option B}(m0:0<m)(m1:m<1073741824)(h:∀r c' n',0<=r->r<m->Po (K (.told (.int r),fe c' n' k)) R):Po (Ob (zfR zal (λe=>e) [fe c n k,.int m]) K) R:=by
 obtain⟨r,c',n',e,h0,h1⟩:=zkB (c:=c) (n:=n) (k:=k) m0 m1;refine sx ?_ (h r c' n' h0 h1);show Ob (zal [fe c n k,.int m]) _=_
 rw[e];rfl
def zoT {c n k m:Int}{x:Option (List (Option D)×D)}{K:RV×D->Option B}(hx:x=some ([none,some (.int m)],fe c n k))(m0:0<m)(m1:m<1073741824)(h:∀r c' n',0<=r->r<m->Po (K (.told (.int r),fe c' n' k)) R):Po (Ob (zjK zal [some 1,none] 0 1 (λs=>s) (λ_ e=>e) x) K) R:=by
 obtain⟨r,c',n',e,h0,h1⟩:=zkB (c:=c) (n:=n) (k:=k) m0 m1;refine sx ?_ (h r c' n' h0 h1);rw[hx];show Ob (zal [fe c n k,.int m]) _=_
 rw[e];rfl
def zoU {S:Scr}{k:Int}{K:D×Unit->Option B}(h0:0<=k)(h:∀c,Po (K (fe c 0 k,())) R):Po (Ob (Ob (Ob (Ob (some [.scr S.p,.int k]) λd=>some (d,())) λq3=>Ob (zaL S q3.1) λr4=>if q3.1.length=2 then some (r4.1,q3.2) else none) newD) K) R:=by
 obtain⟨c,e⟩:=zoS (S:=S) h0;refine sx ?_ (h c);show Ob (Ob (zaL S [.scr S.p,.int k]) _) newD=_
 rw[e];rfl
end
def zkC {xs:List D}{P:D->Prop}{i:Int}(h:∀d∈xs,P d)(h0:0<=i)(h1:i<xs.length):∃d,dIx (.lst xs) (.int i)=some d/\P d:=by
 obtain⟨x,hx,e⟩:=zjM (xs:=xs) h0 h1;exact⟨x,e,h x (way hx)⟩
def zrm (lo hi:Int)(d:D):Prop:=∃n,d=.int n/\lo<=n/\n<=hi
def adI (a b:Int):dAdd (.int a) (.int b)=some (.int (a+b)):=rfl
def mk4 (a b c d:D):mkT [a,b,c,d]=some (.tup [a,b,c,d]):=if_pos (by show 4<=lim;decide)
def zeN {x:Str}{th:List Str}:dInG true (.str x) (.lst (th.map D.str))=some (.bl (!decide (x∈th))):=by
 have h:(if inC (.str x) (th.map D.str)=true then some (D.bl (decide (D.str x∈th.map D.str))) else none)=some (.bl (decide (x∈th))):=zec
 show(if inC (.str x) (th.map D.str)=true then some (D.bl (!decide (D.str x∈th.map D.str))) else none)=_
 by_cases hc:inC (.str x) (th.map D.str)=true
 .rw[if_pos hc] at h⊢;rw[D.bl.inj (was h)]
 .rw[if_neg hc] at h;cases h
def E6 (L:List R6)(l:List Str):List Str:=(L.filter λr=>!decide (r.nm∈l)).map R6.nm
def zkD {L:List R6}{l:List Str}(hl:L.length<=100):zbq (λd62=>(Ob (Ob (Ob (dIx d62 (.int 1)) λv64=>((dInG true) v64 (.lst (l.map D.str)))) dB) λk63=>if k63 then(Ob (dIx d62 (.int 1)) λz=>some (some z)) else some none)) (L.map R6.d)=some ((E6 L l).map D.str):=by
 rw[zbk R6.d (λr=>!decide (r.nm∈l)) (λr=>D.str r.nm) (wao hl (by decide)) λr hr=>?_]
 .unfold E6;rw[waW];rfl
 .rw[(zgk r).2.1,zOB,zeN,zOB];show(if(!decide (r.nm∈l))=true then some (some (D.str r.nm)) else some none)=_
  split <;> rfl
local macro_rules|`(tactic|nofun)=>`(tactic|repeat (first|with_reducible refine sx rfl ?_|with_reducible refine asc ?_|with_reducible refine sx (adI _ _) ?_|with_reducible refine sx (mk4 _ _ _ _) ?_|with_reducible refine sx (zaD _ _) ?_|(dsimp only[RV.d])))
def zoV {S:Scr}:Po (zcd S (.scr S.p)) λd=>∃s t L,d=zdw L/\V6 s t 0 [] L/\1<=s/\s<=6/\2<=L.length/\L.length<=40:=by
 unfold zcd;refine sx rfl ?_;refine zoU (k:=0) (by decide) λc=>?_
 try dsimp only[]
 nofun
 refine ziy (by decide) (by decide) λr15 c1 n1 a0 a1=>?_
 try dsimp only[RV.d]
 nofun
 refine ziy (by decide) (by decide) λr8 c2 n2 a2 a3=>?_
 try dsimp only[RV.d]
 nofun
 obtain⟨_,e1,m,rfl,m0,m1⟩:=zkC (P:=zrm 2 40) (i:=if(if false=true then !decide (D.int r8=D.int 7) else decide (D.int r8=D.int 7))=true then 1 else 0) (xs:=[.int (2+r15),.int 40]) (by simp[zrm];omega) (by split <;> split <;> omega) (by show _<(2:Int);split <;> split <;> omega);refine sx e1 ?_;nofun
 refine ziy (by decide) (by decide) λt0 c3 n3 a4 a5=>?_
 try dsimp only[RV.d]
 nofun
 refine ziy (by decide) (by decide) λs1 c4 n4 b0 b1=>?_
 try dsimp only[RV.d]
 nofun
 obtain⟨m,rfl⟩:∃k:Nat,m=k:=⟨m.toNat,by omega⟩
 refine sx (show rngA [.int (m:Int)]=some (zaB 0 m) from(if_pos ⟨by omega,by omega⟩).trans (by rw[wbA])) ?_;try dsimp only[]
 refine zkg (λi s=>∃L f,s=(f,L.map R6.d,(lnA [] L).map D.str)/\V6 (1+s1) t0 0 [] L/\L.length=i) ⟨[],_,rfl,trivial,rfl⟩ (λi s d hd hI=>?_) λs hI=>?_
 .obtain⟨L,f,rfl,v,hL⟩:=hI;obtain⟨hi,rfl⟩:=zeJ hd;try dsimp only[]
  refine zoU (k:=1+(i:Int)) (by omega) λc=>?_
  try dsimp only[RV.d]
  nofun
  refine zoT (m:=if(((lnA [] L).map D.str).length:Int)+1<5 then(((lnA [] L).map D.str).length:Int)+1 else 5) rfl (by split <;> omega) (by split <;> omega) λr c' n' r0 r1=>?_
  rw[waf] at r1;obtain⟨r,rfl⟩:∃k:Nat,r=k:=⟨r.toNat,by omega⟩
  have r3:r<=(lnA [] L).length:=by split at r1 <;> omega
  have r4:r<=4:=by split at r1 <;> omega
  nofun
  have eN:dIx (.str abcS) (.int ((t0+(i:Int)) % 26))=some (.str (sg (97+((t0+(i:Int)) % 26).toNat))):=zqj (wbB _ (by decide)) (wbw _ (by decide))
  refine sx eN ?_;nofun
  refine sx (show dMul (.str (sg (97+((t0+(i:Int)) % 26).toNat))) (.int (1+s1+(i:Int) / 26))=some (.str (nmR (1+s1) t0 i)) from zql _ (by omega) (by omega)) ?_;rw[zes,<-List.map_take];generalize hln:(lnA [] L).take r=ln;have hE:(E6 L ln).length<=L.length:=by unfold E6;rw[waf];exact wbH _ _
  have hln5:ln.length<=4:=by rw[<-hln,waC];omega
  rw[zkD (by omega)];nofun
  refine sx (show dAdd (.lst [D.non]) (.lst ((E6 L ln).map D.str))=some (.lst (D.non::(E6 L ln).map D.str)) from if_pos (wao (by rw[waj,waf];show 1+_<=50;omega:_<=50) (by decide))) ?_;nofun
  refine zoT (m:=((D.non::(E6 L ln).map D.str).length:Int)) rfl (by rw[waM];omega) (by rw[waM,waf];omega) λq cq nq q0 q1=>?_
  try dsimp only[RV.d]
  nofun
  obtain⟨_,e5,h,rfl,hh⟩:=zkC (P:=λd=>∃h:Option Str,d=hdO h/\∀y,h=some y->y∈E6 L ln) (i:=q) (xs:=D.non::(E6 L ln).map D.str) (λd hd=>by
   rcases wap.mp hd with rfl|hd
   .exact⟨none,rfl,λy e=>by cases e⟩
   .obtain⟨y,hy,rfl⟩:=waE.mp hd;exact⟨some y,rfl,λz e=>by cases e;exact hy⟩) q0 q1
  refine sx e5 ?_;nofun
  refine sx (zdq (waY (by rw[waf];omega:_<=100) (by decide))) ?_;nofun
  refine sx (zdq (waY (by rw[waf];omega:_<=100) (by decide))) ?_;nofun
  refine⟨_,rfl,L++[⟨r,nmR (1+s1) t0 i,ln,h⟩],fe cq nq (1+(i:Int)),?_,zkA _ _ v r3 r4 (by rw[hL,wbf]) hln.symm λy e=>?_,by simp[hL]⟩
  .rw[zhR,waH,waH];rfl
  .have hy:=hh y e
   unfold E6 at hy;obtain⟨x,hx,rfl⟩:=waE.mp hy;obtain⟨hx,hn⟩:=wcm.mp hx;obtain⟨j,hj⟩:=waG hx;exact⟨by simpa using hn,j,by have:=(wab.mp hj).1;omega,by have:=(zg4 v hj).2.1;rwa [wbf] at this⟩
 .obtain⟨L,f,rfl,v,hL⟩:=hI;have hl:(zaB 0 m).length=m:=by simp[zaB]
  exact⟨_,rfl,_,_,L,rfl,v,by omega,by omega,by omega,by omega⟩
def zoW {S:Scr}:∃s t L,zce S [.scr S.p]=some (zdw L)/\V6 s t 0 [] L/\1<=s/\s<=6/\2<=L.length/\L.length<=40:=by
 obtain⟨d,e,s,t,L,rfl,v,h⟩:=zoV (S:=S);exact⟨s,t,L,e,v,h⟩
def appC (x y:Str):(x++y).cps.toList=x.cps.toList++y.cps.toList:=Array.toList_append
def zgn {s t:Int}{j:Nat}(h1:1<=s)(h6:s<=6)(h:j<40):nmOk (nmR s t j)/\(nmR s t j).length<=7:=by
 have hl:(nmR s t j).length=(s+(j:Int) / 26).toNat:=zn7 _ _ (by omega)
 refine⟨⟨by rw[hl];omega,by rw[hl];omega,λc hc=>?_⟩,by rw[hl];omega⟩;rw[show(nmR s t j).cps.toList=rpl (s+(j:Int) / 26).toNat (97+((t+(j:Int)) % 26).toNat) from zfb _ _ (by omega)] at hc;rw[(List.mem_replicate.mp hc).2];have h1:=wbB (t+(j:Int)) (show(26:Int)≠0 by decide)
 have h2:=wbw (t+(j:Int)) (show(0:Int)<26 by decide)
 omega
def zrn {x:Str}(h:nmOk x)(h7:x.length<=7):nmOk (x++"q"):=by
 have hl:∀z:Str,z.length=z.cps.toList.length:=λz=>(wch ..).symm
 have h1:(x++("q":Str)).length=x.length+1:=by rw[hl,appC,waj,<-hl];rfl
 refine⟨by rw[h1];omega,by rw[h1];omega,λc hc=>?_⟩;rw[appC] at hc;rcases waA.mp hc with hc|hc
 .exact h.2.2 c hc
 .have hc:c∈[113]:=hc
  simp at hc;omega
section
variable {s t:Int}
theorem zmd:∀{k i:Nat}{l:List Str}{L:List R6}{r:R6},V6 s t k l L->(∀y∈l,∃j,j<k/\y=nmR s t j)->L[i]?=some r->r.ln.length<=4/\∀y∈r.ln,∃j,j<k+i/\y=nmR s t j
|k,0,l,x::S,r,⟨a1,a2,a3,a4,a5,a6⟩,hl,e=>by
   cases e;rw[a4];exact⟨by rw[waC];omega,λy hy=>hl y (wby hy)⟩
|k,i+1,l,x::S,r,⟨a1,a2,a3,a4,a5,a6⟩,hl,e=>by
   have:=zmd (i:=i) a6 (λy hy=>by
    rcases waA.mp hy with hy|hy
    .rw[a4] at hy;obtain⟨j,hj,e⟩:=hl y (wby hy);exact⟨j,by omega,e⟩
    .exact⟨k,by omega,by rw[wag.mp hy,a3]⟩) e
   rw[show k+(i+1)=k+1+i by omega];exact this
|_,_,_,[],_,_,_,e=>by simp at e
def Bd6 (L:List R6)(r:R6)(y:Str):Prop:=nmOk y/\(y=r.nm\/y∈r.ln\/(∃x∈L,r.nm∈x.ln/\y=x.nm)\/y∉L.map R6.nm)
def zfm {xs:List D}{lo hi:Option Int}{d:D}(h:d∈VD.cut xs lo hi):d∈xs:=List.mem_of_mem_drop (wby h)
def zfn {xs:List D}{lo hi:Option Int}:(VD.cut xs lo hi).length<=xs.length:=by
 unfold VD.cut;rw[waC,wcD];omega
def addL {xs ys:List D}(h:xs.length+ys.length<=1000):dAdd (.lst xs) (.lst ys)=some (.lst (xs++ys)):=if_pos (wao (by rw[waj];exact h) (by decide))
def catL {xs ys:List D}(h:xs.length+ys.length<=1000):dCat (.lst xs) (.lst ys)=some (xs++ys):=if_pos (wao (by rw[waj];exact h) (by decide))
def zro {L:List R6}{k:Nat}{r:R6}{w:Int}(v:V6 s t 0 [] L)(h1:1<=s)(h6:s<=6)(hl:L.length<=40)(hk:L[k]?=some r):∃y,zcJ [zdw L,.int (k:Int),.int w]=some (.str y)/\Bd6 L r y:=by
 have at':∀(i:Nat) (x:R6),L[i]?=some x->x.nm=nmR s t i/\i<40:=λi x hx=>by
  have e1:=(zg4 v hx).2.1
  rw[wbf] at e1;exact⟨e1,by have:=(wab.mp hx).1;omega⟩
 have nmx:∀x∈L,nmOk x.nm/\x.nm.length<=7:=λx hx=>by
  obtain⟨i,hi⟩:=waG hx;obtain⟨e,h⟩:=at' i x hi;rw[e];exact zgn h1 h6 h
 have hr:=nmx r (way hk)
 have hln:=zmd v (λy h=>by cases h) hk
 have hkl:=(wab.mp hk).1
 have bln:∀y∈r.ln,Bd6 L r y:=λy hy=>by
  obtain⟨j,hj,rfl⟩:=hln.2 y hy;exact⟨(zgn h1 h6 (by omega)).1,.inr (.inl hy)⟩
 have hx2:dIx (.lst ((L.map R6.nm).map D.str)) (.int (k:Int))=some (.str r.nm):=zaH (j:=k) (by rw[wah,wah,hk];rfl)
 suffices h:Po (zcI (zdw L) (.int (k:Int)) (.int w)) (λd=>∃y,d=.str y/\Bd6 L r y) by
  obtain⟨d,e,y,rfl,b⟩:=h;exact⟨y,e,b⟩
 unfold zcI;refine sx (a:=D.lst ((L.map R6.nm).map D.str)) ?_ ?_
 .show Ob (zbq _ (L.map R6.d)) _=_
  rw[zcp R6.d (λr=>D.str r.nm) (by omega) λr hr=>by rw[(zgk r).2.1];rfl,waW];rfl
 refine sx (a:=D.lst (((L.filter λx=>decide (r.nm∈x.ln)).map R6.nm).map D.str)) ?_ ?_
 .show Ob (zbq _ (L.map R6.d)) _=_
  rw[zbk R6.d (λx=>decide (r.nm∈x.ln)) (λx=>D.str x.nm) (wao hl (by decide)) λx hx=>?_,waW]
  .rfl
  .rw[hx2,zOB,(zgk x).2.2.1,(zgk x).2.1,zOB,zec,zOB];show(if decide (r.nm∈x.ln)=true then some (some (D.str x.nm)) else some none)=_
   split <;> rfl
 have hW:∀d∈((L.filter λx=>decide (r.nm∈x.ln)).map R6.nm).map D.str,∃y,d=.str y/\Bd6 L r y:=λd hd=>by
  obtain⟨y,hy,rfl⟩:=waE.mp hd;obtain⟨x,hx,rfl⟩:=waE.mp hy;obtain⟨hx,hm⟩:=wcm.mp hx;exact⟨_,rfl,(nmx x hx).1,.inr (.inr (.inl ⟨x,hx,wbS hm,rfl⟩))⟩
 have lW:(((L.filter λx=>decide (r.nm∈x.ln)).map R6.nm).map D.str).length<=40:=by
  rw[waf,waf];exact wao (wbH _ _) hl
 generalize ((L.filter λx=>decide (r.nm∈x.ln)).map R6.nm).map D.str=W at hW lW;rw[hx2,zfl hk];simp only[zOB];rw[(zgk r).2.2.1];have hA:∀d∈r.ln.map D.str,∃y,d=.str y/\Bd6 L r y:=λd hd=>by
  obtain⟨y,hy,rfl⟩:=waE.mp hd;exact⟨y,rfl,bln y hy⟩
 have lA:(r.ln.map D.str).length<=4:=by rw[waf];exact hln.1
 generalize r.ln.map D.str=A at hA lA;have c1:=zfn (xs:=A) (lo:=none) (hi:=some 1)
 have c2:=zfn (xs:=A) (lo:=some (-1)) (hi:=none)
 have c3:=zfn (xs:=W) (lo:=none) (hi:=some 1)
 have c4:=zfn (xs:=W) (lo:=some (-1)) (hi:=none)
 refine sx (a:=[D.str r.nm]++VD.cut A none (some 1)++VD.cut A (some (-1)) none) ?_ ?_
 .show Ob (dAdd (.lst [D.str r.nm]) (.lst (VD.cut A none (some 1)))) (λv12=>dCat v12 (.lst (VD.cut A (some (-1)) none)))=_
  rw[addL (by show 1+_<=1000;omega),zOB,catL (by rw[waj];show 1+_+_<=1000;omega)]
 refine sx (a:=[D.str r.nm]++VD.cut A none (some 1)++VD.cut A (some (-1)) none++VD.cut W none (some 1)++VD.cut W (some (-1)) none++[D.str "zzzzzzzz"]) ?_ ?_
 .show Ob (Ob (dAdd (.lst ([D.str r.nm]++VD.cut A none (some 1)++VD.cut A (some (-1)) none)) (.lst (VD.cut W none (some 1)))) (λv20=>dAdd v20 (.lst (VD.cut W (some (-1)) none)))) (λv22=>dCat v22 (.lst [D.str "zzzzzzzz"]))=_
  rw[addL (by simp only[waj];show 1+_+_+_<=1000;omega),zOB,addL (by simp only[waj];show 1+_+_+_+_<=1000;omega),zOB,catL (by simp only[waj];show 1+_+_+_+_+1<=1000;omega)]
 have hS:∀d∈[D.str r.nm]++VD.cut A none (some 1)++VD.cut A (some (-1)) none++VD.cut W none (some 1)++VD.cut W (some (-1)) none++[D.str "zzzzzzzz"],∃y,d=.str y/\Bd6 L r y:=λd hd=>by
  simp only[waA,wag] at hd;rcases hd with((((rfl|h)|h)|h)|h)|rfl
  .exact⟨_,rfl,hr.1,.inl rfl⟩
  .exact hA d (zfm h)
  .exact hA d (zfm h)
  .exact hW d (zfm h)
  .exact hW d (zfm h)
  .refine⟨_,rfl,⟨by decide,by decide,λc hc=>?_⟩,.inr (.inr (.inr λh=>?_))⟩
   .have hc:c∈[122,122,122,122,122,122,122,122]:=hc
    simp at hc;omega
   .obtain⟨x,hx,e⟩:=waE.mp h;have:=(nmx x hx).2
    rw[e] at this;have e8:Str.length ("zzzzzzzz":Str)=8:=rfl
    omega
 have lS:([D.str r.nm]++VD.cut A none (some 1)++VD.cut A (some (-1)) none++VD.cut W none (some 1)++VD.cut W (some (-1)) none++[D.str "zzzzzzzz"]).length<=100:=by
  simp only[waj];show 1+_+_+_+_+1<=100;omega
 have pS:([D.str r.nm]++VD.cut A none (some 1)++VD.cut A (some (-1)) none++VD.cut W none (some 1)++VD.cut W (some (-1)) none++[D.str "zzzzzzzz"])≠[]:=by simp
 generalize [D.str r.nm]++VD.cut A none (some 1)++VD.cut A (some (-1)) none++VD.cut W none (some 1)++VD.cut W (some (-1)) none++[D.str "zzzzzzzz"]=Z at hS lS pS;have fin:∀Z:List D,(∀d∈Z,∃y,d=.str y/\Bd6 L r y)->Z≠[]->Po (Ob (Ob (Ob (bLen [.lst Z]) λv32=>dMod (.int w) v32) λv33=>dIx (.lst Z) v33) λ(r34:D)=>some r34) (λd=>∃y,d=.str y/\Bd6 L r y):=λZ hZ hp=>by
  have hpos:0<Z.length:=List.length_pos_iff.mpr hp
  refine asc (asc (sx (a:=.int (Z.length:Int)) rfl (sx (show dMod (.int w) (.int (Z.length:Int))=some (.int (w % (Z.length:Int))) from if_pos (by omega)) ?_)));obtain⟨d,e,y,rfl,b⟩:=zkC (i:=w % (Z.length:Int)) hZ (wbB _ (by omega)) (wbw _ (by omega));exact sx e ⟨_,rfl,y,rfl,b⟩
 refine Po.bind (P:=λZ':List D=>(∀d∈Z',∃y,d=.str y/\Bd6 L r y)/\Z'≠[]) ?_ λZ' ⟨h1,h2⟩=>fin Z' h1 h2
 refine Po.bind (P:=λb:Bool=>b=true->Bd6 L r (r.nm++"q")) ?_ λb hb=>?_
 .refine sx (a:=decide ((r.nm.length:Int)<8)) ?_ ?_
  .show Ob (Ob (Ob (some [D.str r.nm]) bLen) λv28=>dLt v28 (.int 8)) dB=_
   rw[zOB,show bLen [.str r.nm]=some (.int r.nm.length) from if_pos (wao hr.2 (by decide))];rfl
  .refine zqY (λ_=>?_) λ_=>⟨_,rfl,λz=>by cases z⟩
   rw[show dAdd (.str r.nm) (.str "q")=some (.str (r.nm++"q")) from if_pos (wao (by have:Str.length ("q":Str)=1:=rfl;have:=hr.2;omega:_<=8) (by decide)),zOB,zeN];refine⟨!decide (r.nm++"q"∈L.map R6.nm),rfl,λz=>⟨zrn hr.1 hr.2,.inr (.inr (.inr (by simpa using z)))⟩⟩
 .refine zqY (λz=>?_) λ_=>⟨_,rfl,hS,pS⟩
  rw[show dAdd (.str r.nm) (.str "q")=some (.str (r.nm++"q")) from if_pos (wao (by have:Str.length ("q":Str)=1:=rfl;have:=hr.2;omega:_<=8) (by decide)),zOB,zdq (waY lS (by decide))];refine⟨_,rfl,λd hd=>?_,by simp⟩;rcases waA.mp hd with hd|hd
  .exact hS d hd
  .exact⟨_,wag.mp hd,hb z⟩
end
def zoX {y:Str}(h:nmOk y):okTx y=true:=by
 unfold okTx;rw[waF];refine⟨waD (wao h.2.1 (by decide)),waB.mpr λc hc=>waD ?_⟩;have:=(h.2.2 c hc).2
 exact Nat.lt_trans this (by decide)
def zm0 {N:List Str}:Ob (Ob (bLen [.lst (N.map D.str)]) λv5=>dGt v5 (.int 40)) dB=some (decide (40<N.length)):=by
 show some (decide ((40:Int)<((N.map D.str).length:Int)))=_
 rw[waf];congr 1;exact decide_eq_decide.mpr (by omega)
theorem zg5:∀{n:Nat}{ds:List D},Ok n ds->ndL ds=true/\depL ds<=2*n
|0,ds,o=>by rw[show ds = [] from o];exact⟨rfl,wan _⟩
|n+1,ds,o=>by
   refine⟨zjO λd hd=>?_,zgM λd hd=>?_⟩
   .obtain⟨x,dp,inn,rfl,oi⟩:=o d hd;have h:=(zg5 oi).1
    show(true&&(true&&(true&&(true&&(ndD (hdO x.hd)&&(ndL inn&&true))))))=true
    rw[h];cases x.hd <;> rfl
   .obtain⟨x,dp,inn,rfl,oi⟩:=o d hd;have h:=(zg5 oi).2
    show max 0 (max 1 (max 0 (max 0 (max (depD (hdO x.hd)) (max (depL inn+1) 0)))))+1<=2*(n+1)
    have:depD (hdO x.hd)=0:=by cases x.hd <;> rfl
    rw[this];omega
def zkE:D:=.lst [.bl true,.bl false,.bl false,.bl false,.bl false,.bl false]
def zoY {s:D}{x:Str}(h:zaY [s]=some (zg2 x)):zbb [s]=some (.tup [zkE,.bl true,zg2 x]):=by
 show zbz s=_
 unfold zbz;show Ob (match zaY [s] with|some x=>if zcT ["NoHead"] x then zl6 x else none|none=>zl7 s) _=_
 rw[h];rfl
def zme {s:D}(h:zaY [s]=none)(hm:zbZ [s]=some s):zbb [s]=some (.tup [.str "told",s]):=by
 show zbz s=_
 unfold zbz;show Ob (match zaY [s] with|some x=>if zcT ["NoHead"] x then zl6 x else none|none=>zl7 s) _=_
 rw[h];show Ob (Ob (Ob (aC (some (.str "told")) (aC (zbZ [s]) aN)) mkT) _) _=_
 rw[hm];rfl
def zoZ {L:List R6}{hs:List (Option Str)}(he:hs.length=L.length){x:Itm}(hx:x∈its 0 L hs):∃i r h,L[i]?=some r/\hs[i]?=some h/\x=it6 r i h:=by
 obtain⟨i,hi⟩:=waG hx;have li:=(wab.mp hi).1
 rw[zcY he] at li;have er:L[i]?=some L[i]:=wac li
 have eh:hs[i]?=some (hs[i]'(by omega)):=wac _
 have e:=zhQ (k:=0) er eh
 rw[wbf,hi] at e;exact⟨i,_,_,er,eh,was e⟩
section
variable {s t:Int}{L:List R6}{hs:List (Option Str)}(v:V6 s t 0 [] L)(h1:1<=s)(h6:s<=6)(hl:L.length<=40)(he:hs.length=L.length)
include v h1 h6 hl he
theorem ziz {k:Nat}{r:R6}(hk:L[k]?=some r):r.nm=nmR s t k/\k<40:=by
 have e1:=(zg4 v hk).2.1
 rw[wbf] at e1;exact⟨e1,by have:=(wab.mp hk).1;omega⟩
theorem zgo:((its 0 L hs).map Itm.nm).Nodup:=by rw[zky he];exact zsc h1 v hl
theorem zfo:(its 0 L hs).length<=40:=by rw[zcY he];exact hl
theorem ziA {k:Nat}{q:Tp}{r:R6}{h:Option Str}(hq:(trR [] (its 0 L hs))[k]?=some q)(hk:L[k]?=some r)(hh:hs[k]?=some h):q.2.1=it6 r k h:=by
 have e:=wbi (λx=>x[k]?) (zgi (P:=[]) (L:=its 0 L hs))
 have e2:=zhQ (k:=0) hk hh
 rw[wbf] at e2;rw[wah,hq,e2] at e;exact was e
theorem zo0 {k:Nat}(hk:k<L.length):∃q,(trR [] (its 0 L hs))[k]?=some q/\q∈trR [] (its 0 L hs):=by
 have:k<(trR [] (its 0 L hs)).length:=by rw[zg0,zcY he];exact hk
 exact⟨_,wac this,List.getElem_mem this⟩
theorem zo1 {i j:Nat}(hij:i<j){p q:Tp}{ri rj:R6}(ei:(trR [] (its 0 L hs))[i]?=some p)(ej:(trR [] (its 0 L hs))[j]?=some q)(li:L[i]?=some ri)(lj:L[j]?=some rj):(ri.nm∈rj.ln->Px p.1 q.1)/\(ri.nm∉rj.ln->Lt p.1 q.1):=by
 have vd:Vd 0 (its 0 L hs):=zgm v he
 have e:=wbi (λx=>x[j]?) (zrk (P:=[]) v he)
 rw[wah,wah,lj] at e;obtain⟨b,eb,e⟩:=waX.mp e;have r:=zrh vd (zgo v h1 h6 hl he) hij ei ej eb
 have kl:∀{k:Nat}{r:R6},L[k]?=some r->hs[k]?=some (hs[k]?.getD none):=λ{k r} h=>by
  have:=(wab.mp h).1
  rw[wac (show k<hs.length by omega)];rfl
 have np:p.2.1.nm=ri.nm:=by rw[ziA v h1 h6 hl he ei li (kl li)];rfl
 have r:(p.2.1.nm∈b.2.2->Px p.1 q.1)/\(p.2.1.nm∉b.2.2->Lt p.1 q.1):=r
 rw[np,e] at r;exact r
theorem zrp {k:Nat}{q:Tp}{r:R6}(hq:(trR [] (its 0 L hs))[k]?=some q)(hk:L[k]?=some r)(hh:hs[k]?=some r.gd):GdH (trR [] (its 0 L hs)) q:=by
 have e:=ziA v h1 h6 hl he hq hk hh
 have eh:q.2.1.hd=r.gd:=by rw[e];rfl
 cases z:r.gd with
|none=>exact .inl (eh.trans z)
|some h=>
   obtain⟨hn,j,hj,rfl⟩:=(zg4 v hk).2.2 h z;rw[wbf] at hj;have lk:=(wab.mp hk).1
   obtain⟨p,ep,mp⟩:=zo0 v h1 h6 hl he (k:=j) (by omega);have lj:L[j]?=some L[j]:=wac (by omega)
   have hj2:hs[j]?=some (hs[j]'(by omega)):=wac _
   have np:p.2.1.nm=nmR s t j:=by rw[ziA v h1 h6 hl he ep lj hj2];exact(ziz v h1 h6 hl he lj).1
   refine .inr ⟨p,mp,by rw[eh,z,np],zri ((zo1 v h1 h6 hl he hj ep hq lj hk).2 ?_)⟩;rw[(ziz v h1 h6 hl he lj).1];exact hn
theorem zsd {k:Nat}{q:Tp}{r:R6}{y:Str}(hq:(trR [] (its 0 L hs))[k]?=some q)(hk:L[k]?=some r)(hh:hs[k]?=some (some y))(hb:Bd6 L r y):BdH (trR [] (its 0 L hs)) q:=by
 have e:=ziA v h1 h6 hl he hq hk hh
 have eh:q.2.1.hd=some y:=by rw[e];rfl
 have lk:=(wab.mp hk).1
 have atj:∀j,j<L.length->∃p x,(trR [] (its 0 L hs))[j]?=some p/\p∈trR [] (its 0 L hs)/\L[j]?=some x/\p.2.1.nm=x.nm/\x.nm=nmR s t j:=λj hj=>by
  obtain⟨p,ep,mp⟩:=zo0 v h1 h6 hl he hj;have lj:L[j]?=some L[j]:=wac hj
  have hj2:hs[j]?=some (hs[j]'(by omega)):=wac _
  exact⟨p,_,ep,mp,lj,by rw[ziA v h1 h6 hl he ep lj hj2];rfl,(ziz v h1 h6 hl he lj).1⟩
 have mq:q∈trR [] (its 0 L hs):=way hq
 refine⟨y,eh,?_⟩;rcases hb.2 with rfl|hm|⟨x,hx,hm,rfl⟩|hn
 .exact .inr ⟨q,mq,by rw[e];rfl,zmb _⟩
 .obtain⟨j,hj,rfl⟩:=(zmd v (λy h=>by cases h) hk).2 y hm;rw[wbf] at hj;obtain⟨p,x,ep,mp,lj,n1,n2⟩:=atj j (by omega);refine .inr ⟨p,mp,n1.trans n2,(zmX ((zo1 v h1 h6 hl he hj ep hq lj hk).1 ?_)).1⟩;rw[n2];exact hm
 .obtain⟨m,hx⟩:=waG hx;obtain⟨j,hj,ej⟩:=(zmd v (λy h=>by cases h) hx).2 _ hm;rw[wbf] at hj;have lm:=(wab.mp hx).1
  rw[(ziz v h1 h6 hl he hk).1] at ej;have:=zoR h1 (by omega) (by omega) ej
  subst this;obtain⟨p,x',ep,mp,lj,n1,n2⟩:=atj m lm;rw[hx] at lj;cases lj;exact .inr ⟨p,mp,n1,(zmX ((zo1 v h1 h6 hl he hj hq ep hk hx).1 hm)).2⟩
 .refine .inl λp hp z=>hn ?_
  rw[<-zky he,<-zgi (P:=[]) (L:=its 0 L hs),waW];exact waE.mpr ⟨p,hp,z⟩
theorem zhS (hg:∀(k:Nat) (y:Str),hs[k]?=some (some y)->nmOk y):zam 7 [.tup (fo (its 0 L hs) 0),.int 1]=some (.bl true):=by
 refine zmV (n:=5) (gfo (zgm v he) (λx hx=>?_) 0 (by decide)) (by decide) (by decide);obtain⟨i,r,h,er,eh,rfl⟩:=zoZ he hx;obtain⟨en,hi⟩:=ziz v h1 h6 hl he er;exact⟨by show nmOk r.nm;rw[en];exact(zgn h1 h6 hi).1,by show 1<=1+(i:Int);omega,by show(1:Int)<=2;decide,.inl rfl,wbB _ (by decide),λy e=>hg i y (by rw[eh];exact wbi some e)⟩
theorem n_ok (hg:∀(k:Nat) (y:Str),hs[k]?=some (some y)->nmOk y){o:Option D}(ho:zaC [.tup (fo (its 0 L hs) 0)]=o):zaY [.tup (fo (its 0 L hs) 0)]=o:=by
 have vd:Vd 0 (its 0 L hs):=zgm v he
 have hL:=zfo v h1 h6 hl he
 have nd:=zgo v h1 h6 hl he
 show za8 (.tup (fo (its 0 L hs) 0))=_
 unfold za8;rw[zhS v h1 h6 hl he hg,zhN vd (by omega)];show Ob (Ob (Ob (bLen [.lst (((its 0 L hs).map Itm.nm).map D.str)]) λv5=>dGt v5 (.int 40)) dB) (λk4=>if k4 then none else(Ob (zaw [.lst (((its 0 L hs).map Itm.nm).map D.str)]) λ(u6:D)=>(Ob (zaC [.tup (fo (its 0 L hs) 0)]) λ(r:D)=>some r)))=_
 rw[zm0,waf,waz (by omega),zOB,if_neg (by decide),zkr nd,zOB,ho];cases o <;> rfl
theorem zse (hg:∀(k:Nat) (y:Str),hs[k]?=some (some y)->nmOk y){m:Nat}{r:R6}{y:Str}(hm:L[m]?=some r)(hy:hs[m]?=some (some y))(hb:Bd6 L r y)(hlo:∀(k:Nat) (x:R6),k<m->L[k]?=some x->hs[k]?=some x.gd):zaY [.tup (fo (its 0 L hs) 0)]=some (zg2 r.nm):=by
 have vd:Vd 0 (its 0 L hs):=zgm v he
 have hL:=zfo v h1 h6 hl he
 have nd:=zgo v h1 h6 hl he
 have lm:=(wab.mp hm).1
 obtain⟨q,eq,mq⟩:=zo0 v h1 h6 hl he lm;have en:q.2.1.nm=r.nm:=by rw[ziA v h1 h6 hl he eq hm hy];rfl
 refine n_ok v h1 h6 hl he hg ?_;rw[<-en];obtain⟨lq,eq'⟩:=wab.mp eq;refine zoP vd nd (by omega) (A:=(trR [] (its 0 L hs)).take m) (B:=(trR [] (its 0 L hs)).drop (m+1)) ?_ (λp hp=>?_) (zsd v h1 h6 hl he eq hm hy hb) ?_
 .conv=>lhs;rw[<-List.take_append_drop m (trR [] (its 0 L hs)),wbL lq,eq']
 .obtain⟨i,hi⟩:=waG hp;rw[waR] at hi;split at hi
  .rename_i him
   have li:L[i]?=some (L[i]'(by omega)):=wac _
   exact zrp v h1 h6 hl he hi li (hlo i _ him li)
  .cases hi
 .obtain⟨e1,e2⟩:=ziz v h1 h6 hl he hm;rw[en,e1];exact zoX (zgn h1 h6 e2).1
theorem zfp (hgd:hs=L.map R6.gd):(∀(k:Nat) (y:Str),hs[k]?=some (some y)->nmOk y)/\∀q∈trR [] (its 0 L hs),GdH (trR [] (its 0 L hs)) q:=by
 refine⟨λk y e=>?_,λq hq=>?_⟩
 .rw[hgd,wah] at e;obtain⟨r,er,e⟩:=waX.mp e;obtain⟨_,j,hj,rfl⟩:=(zg4 v er).2.2 y e;rw[wbf] at hj;have:=(wab.mp er).1
  exact(zgn h1 h6 (by omega)).1
 .obtain⟨k,hk⟩:=waG hq;have lk:=(wab.mp hk).1
  rw[zg0,zcY he] at lk;have li:L[k]?=some L[k]:=wac lk
  exact zrp v h1 h6 hl he hk li (by rw[hgd,wah,li];rfl)
theorem zrq (hgd:hs=L.map R6.gd):zaY [.tup (fo (its 0 L hs) 0)]=none:=by
 obtain⟨g1,g2⟩:=zfp v h1 h6 hl he hgd;have hL:=zfo v h1 h6 hl he
 exact n_ok v h1 h6 hl he g1 (zoO (zgm v he) (zgo v h1 h6 hl he) (by omega) g2)
theorem zkF (hgd:hs=L.map R6.gd):zbZ [.tup (fo (its 0 L hs) 0)]=some (.tup (fo (its 0 L hs) 0)):=by
 obtain⟨g1,g2⟩:=zfp v h1 h6 hl he hgd;have vd:Vd 0 (its 0 L hs):=zgm v he
 have hL:=zfo v h1 h6 hl he
 have nd:=zgo v h1 h6 hl he
 have ha:Ahd ((([]:List Itm)).map Itm.nm) (its 0 L hs):=by rw[hgd];exact zmZ v
 show zdk (.tup (fo (its 0 L hs) 0))=_
 unfold zdk;rw[zhS v h1 h6 hl he g1,zhN vd (by omega)];show Ob (Ob (Ob (bLen [.lst (((its 0 L hs).map Itm.nm).map D.str)]) λv5=>dGt v5 (.int 40)) dB) (λk4=>if k4 then none else(Ob (zaw [.lst (((its 0 L hs).map Itm.nm).map D.str)]) λ(u6:D)=>_))=_
 rw[zm0,waf,waz (by omega),zOB,if_neg (by decide),zkr nd,zOB,zoN vd nd (by omega) g2,zOB,zmc vd (by omega)];show Ob (zcv [.lst (((its 0 L hs).map Itm.nm).map D.str),.lst ((mus (its 0 L hs)).map prD)]) _=_
 rw[zoH nd (λq hq=>zkx (pre:=[]) ha hq) (by rw[waf];omega) (wao zg3 (wao (Nat.add_le_add (wcP hL hL) hL) (by decide)))];rfl
end
theorem zm1 {sp:List Nat}:∀k,k<sp.length->∃i,zgK (ltIx (sp.map λ(i:Nat)=>D.int (i:Int))) k=some i/\i<=k/\∀j,j<=k->∀a b,sp[i]?=some a->sp[j]?=some b->a<=b
|0,_=>⟨0,rfl,wan _,λj hj a b ea eb=>by
   have:j=0:=by omega
   subst this;rw[ea] at eb;cases eb;exact wan _⟩
|k+1,hk=>by
   obtain⟨m,em,hm,hj⟩:=zm1 (sp:=sp) k (by omega);have e1:sp[k+1]?=some sp[k+1]:=wac hk
   have e2:sp[m]?=some (sp[m]'(by omega)):=wac _
   have hlt:ltIx (sp.map λ(i:Nat)=>D.int (i:Int)) (k+1) m=some (decide (sp[k+1]<sp[m]'(by omega))):=by
    unfold ltIx;rw[wah,wah,e1,e2];show some (decide ((sp[k+1]:Int)<((sp[m]'(by omega):Nat):Int)))=_
    congr 1;exact decide_eq_decide.mpr (by omega)
   have er:zgK (ltIx (sp.map λ(i:Nat)=>D.int (i:Int))) (k+1)=some (if decide (sp[k+1]<sp[m]'(by omega)) then k+1 else m):=by
    show(zgK (ltIx (sp.map λ(i:Nat)=>D.int (i:Int))) k).bind _=_
    rw[em,zOB,hlt,zOB]
   by_cases c:sp[k+1]<sp[m]'(by omega)
   .rw[waD c,if_pos rfl] at er;refine⟨k+1,er,wan _,λj hj' a b ea eb=>?_⟩;rw[e1] at ea;cases ea;by_cases z:j=k+1
    .subst z;rw[e1] at eb;cases eb;exact wan _
    .have:=hj j (by omega) _ b e2 eb
     omega
   .rw[waz c,if_neg (by decide)] at er;refine⟨m,er,by omega,λj hj' a b ea eb=>?_⟩;by_cases z:j=k+1
    .subst z;rw[e1] at eb;cases eb;rw[e2] at ea;cases ea;omega
    .exact hj j (by omega) a b ea eb
def zrr {sp:List Nat}(h0:0<sp.length):∃m∈sp,(∀k∈sp,m<=k)/\zos [.lst (sp.map λ(i:Nat)=>D.int (i:Int))]=some (.int (m:Int)):=by
 obtain⟨i,em,hi,hj⟩:=zm1 (sp:=sp) (sp.length - 1) (by omega);have e:sp[i]?=some (sp[i]'(by omega)):=wac _
 refine⟨_,way e,λk hk=>?_,?_⟩
 .obtain⟨j,hjk⟩:=waG hk;have:=(wab.mp hjk).1
  exact hj j (by omega) _ _ e hjk
 .have hc:(sp.map λ(i:Nat)=>D.int (i:Int)).all isI=true:=waB.mpr λd hd=>by
   obtain⟨x,_,rfl⟩:=waE.mp hd;rfl
  show(if(sp.map λ(i:Nat)=>D.int (i:Int)).all isI=true then minL _ else none)=_
  rw[if_pos hc];unfold minL;rw[if_neg (λz=>by rw[List.map_eq_nil_iff] at z;rw[z] at h0;simp at h0),waf,em,zOB,wah,e];rfl
structure Bn (L:List R6)(hs:List (Option Str))(sp:List Nat):Prop where
 len:hs.length=L.length
 bad:∀k∈sp,∃r y,L[k]?=some r/\hs[k]?=some (some y)/\Bd6 L r y
 good:∀(k:Nat) (r:R6),k∉sp->L[k]?=some r->hs[k]?=some r.gd
def Bn.step {L:List R6}{hs:List (Option Str)}{sp:List Nat}(b:Bn L hs sp){a:Nat}{r:R6}{y:Str}(ha:L[a]?=some r)(hb:Bd6 L r y):Bn L (hs.set a (some y)) (sp++[a]):=by
 have la:=(wab.mp ha).1
 have hh:(hs.set a (some y))[a]?=some (some y):=wau (by have:=b.len;omega)
 refine⟨by rw[List.length_set];exact b.len,λk hk=>?_,λk x hk hx=>?_⟩
 .by_cases e:k=a
  .subst e;exact⟨r,y,ha,hh,hb⟩
  .rcases waA.mp hk with hk|hk
   .obtain⟨r',y',h1,h2,h3⟩:=b.bad k hk;exact⟨r',y',h1,by rw[wai (λz=>e z.symm)];exact h2,h3⟩
   .exact absurd (wag.mp hk) e
 .have hne:k≠a:=λz=>hk (by rw[z];exact wat _ (wag.mpr rfl))
  rw[wai (λz=>hne z.symm)];exact b.good k x (λz=>hk (wbd _ z)) hx
def zrs {hs:List (Option Str)}{a:Nat}{y:Str}(h:a<hs.length):zjA (hs.map hdO) (.int (a:Int)) (.str y)=some ((hs.set a (some y)).map hdO):=by
 show((ixN (hs.map hdO).length (a:Int)).bind λj=>some ((hs.map hdO).set j (.str y)))=_
 rw[show ixN (hs.map hdO).length (a:Int)=some a by
  unfold ixN;rw[if_pos (by omega),waf,if_pos (by omega),wbA],zOB,List.map_set]
 rfl
local macro_rules|`(tactic|and_intros)=>`(tactic|repeat (first|with_reducible refine sx rfl ?_|with_reducible refine asc ?_|with_reducible refine sx (adI _ _) ?_|(dsimp only[RV.d])))
def zrt {S:Scr}:Po (zl8 S (.scr S.p)) λd=>d=.bl true:=by
 obtain⟨s,t,L,eR,v,h1,h6,l2,l40⟩:=zoW (S:=S);unfold zl8;refine sx eR ?_;refine sx (a:=D.lst ((L.map R6.gd).map hdO)) ?_ ?_
 .show Ob (zbq _ (L.map R6.d)) _=_
  rw[zcp R6.d (λr=>hdO r.gd) (by omega) λr hr=>by rw[(zgk r).2.2.2];rfl,waW];rfl
 refine sx (a:=(L.map R6.gd).map hdO) rfl ?_;refine zoU (k:=61) (by decide) λc=>?_
 try dsimp only[]
 and_intros
 refine ziy (by decide) (by decide) λr3 c1 n1 a0 a1=>?_
 try dsimp only[RV.d]
 and_intros
 obtain⟨r3,rfl⟩:∃k:Nat,r3=k:=⟨r3.toNat,by omega⟩
 refine sx (show rngA [.int (1+(r3:Int))]=some (zaB 0 (1+r3)) from(if_pos ⟨by omega,by omega⟩).trans (by rw[show(1+(r3:Int)).toNat=1+r3 by omega])) ?_;and_intros
 refine zkg (λi st=>∃hs c n sp,st=(hs.map hdO,fe c n 61,sp.map λ(i:Nat)=>D.int (i:Int))/\Bn L hs sp/\sp.length=i) ⟨L.map R6.gd,_,_,[],rfl,⟨by rw[waf],(λk h=>by cases h),λk r _ e=>by rw[wah,e];rfl⟩,rfl⟩ (λi st d hd hI=>?_) λst hI=>?_
 .obtain⟨hs,c,n,sp,rfl,b,hsp⟩:=hI;obtain⟨hi,rfl⟩:=zeJ hd;try dsimp only[]
  and_intros
  refine zoT (m:=((L.map R6.d).length:Int)) rfl (by rw[waf];omega) (by rw[waf];omega) λa c' n' b0 b1=>?_
  rw[waf] at b1;try dsimp only[RV.d]
  and_intros
  refine ziy (by decide) (by decide) λw c2 n2 w0 w1=>?_
  try dsimp only[RV.d]
  and_intros
  obtain⟨a,rfl⟩:∃k:Nat,a=k:=⟨a.toNat,by omega⟩
  have la:a<L.length:=by omega
  have ea:L[a]?=some L[a]:=wac la
  obtain⟨y,ey,by'⟩:=zro (w:=w) v h1 h6 l40 ea;refine sx ey ?_;and_intros
  refine sx (zrs (by rw[b.len];exact la)) ?_;and_intros
  refine sx (zdq (waY (by rw[waf];omega:_<=100) (by decide))) ?_;try dsimp only[]
  refine⟨_,rfl,hs.set a (some y),c2,n2,sp++[a],?_,b.step ea by',by simp[hsp]⟩;rw[waH];rfl
 .obtain⟨hs,c,n,sp,rfl,b,hsp⟩:=hI;have hl:(zaB 0 (1+r3)).length=1+r3:=by simp[zaB]
  obtain⟨m,hm,hlow,em⟩:=zrr (sp:=sp) (by omega);obtain⟨r,y,er,ey,by'⟩:=b.bad m hm;have dp4:=zsb v
  have H1:zaU [zdw L,.lst (hs.map hdO)]=some (.tup (fo (its 0 L hs) 0)):=zkz dp4 (by omega) b.len
  have H2:zaU [zdw L,.lst ((L.map R6.gd).map hdO)]=some (.tup (fo (its 0 L (L.map R6.gd)) 0)):=zkz dp4 (by omega) (by rw[waf])
  have hg:∀(k:Nat) (y:Str),hs[k]?=some (some y)->nmOk y:=λk y e=>by
   by_cases z:k∈sp
   .obtain⟨r',y',_,h2,h3⟩:=b.bad k z;rw[e] at h2;cases h2;exact h3.1
   .have lk:=(wab.mp e).1
    rw[b.len] at lk;have ek:L[k]?=some L[k]:=wac lk
    have:=b.good k _ z ek
    rw[e] at this;have g:=(zfp v h1 h6 l40 (hs:=L.map R6.gd) (by rw[waf]) rfl).1 k y
    exact g (by rw[wah,ek];exact wbi some (was this).symm)
  have G1:=zoY (zse v h1 h6 l40 b.len hg er ey by' λk x hk hx=>b.good k x (λz=>by have:=hlow k z;omega) hx)
  have hgl:(L.map R6.gd).length=L.length:=by rw[waf]
  have G2:=zme (zrq v h1 h6 l40 hgl rfl) (zkF v h1 h6 l40 hgl rfl)
  try dsimp only[]
  refine sx (show rngA [.int 2]=some (zaB 0 2) from rfl) ?_;rw[zgL λd hd=>?_]
  .exact⟨_,rfl,rfl⟩
  .rw[H1];show Ob (zbb [.tup (fo (its 0 L hs) 0)]) _=_
   rw[G1,zOB,em];show Ob (Ob (Ob (dEqG true (.tup [zkE,.bl true]) (.tup [zkE,.bl true])) dB) λk65=>if k65 then some true else(Ob (Ob (some (.str r.nm)) λv63=>(Ob (Ob (dIx (zdw L) (.int (m:Int))) λv62=>(dIx v62 (.int 1))) λv64=>((dEqG true) v63 v64))) dB)) _=_
   rw[zeb rfl,zfl er,zOB (f:=λv62=>dIx v62 (.int 1)),(zgk r).2.1];show Ob (Ob (dEqG true (.str r.nm) (.str r.nm)) dB) _=_
   rw[zeb rfl];show Ob (zaU [zdw L,.lst ((L.map R6.gd).map hdO)]) _=_
   rw[H2,zOB,G2];have ot:=zg5 (zf2 (zgm v hgl) 0)
   show Ob (Ob (dEqG true (.tup [.str "told",.tup (fo (its 0 L (L.map R6.gd)) 0)]) (.tup [.str "told",.tup (fo (its 0 L (L.map R6.gd)) 0)])) dB) _=_
   rw[zeb (zlC (d:=.tup [.str "told",.tup (fo (its 0 L (L.map R6.gd)) 0)]) (by show(true&&(ndL (fo (its 0 L (L.map R6.gd)) 0)&&true))=true;rw[ot.1];rfl) (by show max 0 (max (depL (fo (its 0 L (L.map R6.gd)) 0)+1) 0)+1<=40;have:=ot.2;omega)) true];rfl
def zru {S:Scr}:zoy S [.scr S.p]=some (.bl true):=by
 obtain⟨d,e,rfl⟩:=zrt (S:=S);exact e
end Pg
namespace VD
open PySem.Spec L2 PySem.W
def PcM (K:Fg)(S:Scr)(ts:List (Addr×Str))(H:Hp):Prop:=SqF K S H/\∀t∈ts,TabH t.1 t.2 H
def zrv {K:Fg}{S:Scr}{ts:List (Addr×Str)}:Pers (PcM K S ts):=⟨λu h=>⟨pers_F.st u h.1,λt ht=>pers_T.st u (h.2 t ht)⟩,λs h=>⟨pers_F.sm s h.1,λt ht=>pers_T.sm s (h.2 t ht)⟩⟩
def zg6 {K:Fg}{S:Scr}{ts:List (Addr×Str)}(i:Nat){t:Addr×Str}(h:ts[i]?=some t):∀H,PcM K S ts H->TabH t.1 t.2 H:=λH hp=>hp.2 t (way h)
def nmM (ts:List (Addr×Str))(a:Addr):Array Vl:=#[.str ((ts.lookup a).getD "") 0]
theorem zm2:∀{ts:List (Addr×Str)},(ts.map (·.1)).Nodup->∀t∈ts,(nmM ts t.1)[0]?=some (Value.str t.2 0)
|[],_,t,h=>by cases h
|(a,q)::ts,nd,t,h=>by
   rw[waN,waP] at nd;rcases wap.mp h with rfl|h
   .unfold nmM;simp
   .have hne:(t.1 == a)=false:=beq_eq_false_iff_ne.mpr λz=>nd.1 (by rw[<-z];exact waE.mpr ⟨t,h,rfl⟩)
    have ih:=zm2 nd.2 t h
    unfold nmM at ih⊢;rw[wba,hne];exact ih
def spM (K:Fg)(qs:List Str):List Addr->(Addr->Array Vl)->Sp:=λtb nm vs H Q _=>vs.length=1/\(tb.length=qs.length->(∀t∈tb.zip qs,(nm t.1)[0]?=some (Value.str t.2 0))->∃S:Scr,vs = [.ref S.p]/\PcM K S (tb.zip qs) H/\∀H',Q (.bl true) H')
def lawM {P:Pm}{w:World}{K:Fg}{mg:Str->Option Vl}{base:Heap}{k:Nat}{f:Addr}{fd:Fu}{x:Str}{tb:List Addr}{qs:List Str}{m:Scr->List D->Option D}{nm:Addr->Array Vl}
 (hl0:tb.length=qs.length) (hn:∀t∈tb.zip qs,(nm t.1)[0]?=some (Value.str t.2 0)) (F:∀S:Scr,FnOk P w K mg base CX0 k f fd [x] (pcS (PcM K S (tb.zip qs)) (spF K (m S)))) (hl:∀S:Scr,m S [.scr S.p]=some (.bl true)):FnOk P w K mg base CX0 k f fd [x] (spM K qs tb nm):=
 ⟨λvs H Q E h=>h.1,λA outer s H args us vs Q E hr he hb hv h=>by
  obtain⟨S,e,hP,hq⟩:=h.2 hl0 hn;subst e;refine(F S).run A outer s H args us _ Q E hr he hb hv ⟨hP,λ_=>False,[.scr S.p],.bl true,λ_ h=>h.elim,.cons (.scr _) .nil,hl S,λv H' J' u r=>?_⟩;cases r;exact hq _⟩
def walkM {l:PySem.W.OpenLaw}{k:Nat}{x:Str}{qs:List Str}{q:Pm}{loose:List Str}{XP:(Str->Option Vl)->Heap->Prop}{YP:World->Heap->Prop}{d:DefRec}{K:Params->Fg}(hn:l.most=some 63)(hdf:d.params.defaults = [])(hr:Room k callerA)
 (hY:∀(w:World) (h:Heap),YP w h->(K w.params).In h)
 (F:∀(w:World) (mg mb:Str->Option Vl) (mean:ExcName->Option Vl) (fa:Addr) (h:Heap),(K w.params).In h->Top q (PySem.W.looseW q loose) mean mg mb h->mg d.name=some (.ref fa)->
  ∃(fd:Fu) (tb:List Addr) (nm:Addr->Array Vl),Tabs (K w.params) h tb/\(∀(s:Sd) (u:Vl),BindsTo s fd ⟨[u],[]⟩ [(x,u)])/\
   ∀(base:Heap) (bm:Addr) (ob:Obj),(K w.params).In base->base.Ns mG mg->BMod base mG mg bm ob->FnOk l.prog w (K w.params) mg base CX0 k fa fd [x] (spM (K w.params) qs tb nm)) :
 PySem.W.WalkO q loose XP YP l.row.toRowW d [] (λf vs=>PySem.call f vs):=
 zkV (n:=63) (k:=k) (x:=x) (CX:=λ_=>CX0) (sp:=λw=>spM (K w.params) qs) hn (by decide) hdf hr hY F
  (λw tb nm H a ns hl hT hS hF=>⟨rfl,λh0 h1=>⟨⟨a,ns⟩,rfl,⟨SqF.of hS hF,λt ht=>⟨_,hT t.1 (wcJ ht).1,h1 t ht⟩⟩,λ_=>rfl⟩⟩) λ_ _ _ _ _ z=>z
def zfq {K:Fg}{h:Heap}{ct Pt p:Addr}{ocd:Obj}{vs:Array Vl}(X:K.In h)(hB:Based h h ct Pt #[])(lt:K.lookup ct=some ocd)(dt:ocd.data=.fields vs)(v11:vs.getD 11 .none=.ref p):Pt=p:=by
 obtain⟨o,vs',_,_,_,_,_,_,_,_,e1,e2,e3,_⟩:=hB.code;rw[X _ _ lt] at e1;cases e1;rw[dt] at e2;cases e2;rw[v11] at e3;cases e3;rfl
theorem zkG {P:Pm}{w:World}{K:Fg}{mg:Str->Option Vl}{base:Heap}{f:Addr}{fd:Fu}{ps:List Str}{x:Str}{Pc:Hp->Prop}{b:(List D->Option D)->List D->Option D}{m:Nat->List D->Option D}{c:Nat}(h0:∀ds,m 0 ds=none)(hs:∀n,m (n+1)=b (m n))
 (bd:Binds K fd ps []) (kp:W.keepIn K (.ref f)=true) (mx:mg x=some (.ref f)) {k:Nat}(qe:∀n ds d,m n ds=some d->ds.length=ps.length)
 (step:∀{n:Nat}{self:List D->Option D},Cal P w K mg base n x ps (pcS Pc (spF K self))->FnOk P w K mg base CX0 (n+c) f fd ps (pcS Pc (spF K (b self)))):∀n,FnOk P w K mg base CX0 (k+c*n) f fd ps (pcS Pc (spF K (m n)))
|0=>by
   refine⟨λvs H Q E h=>?_,λA outer s H args us vs Q E _ _ _ _ h=>?_⟩
   .obtain⟨_,J,ds,d,_,_,e,_⟩:=h;rw[h0] at e;cases e
   .obtain⟨_,J,ds,d,_,_,e,_⟩:=h;rw[h0] at e;cases e
|n+1=>by
   rw[hs,Nat.mul_succ,<-Nat.add_assoc];exact step ⟨f,fd,zkG h0 hs bd kp mx qe step n,bd,kp,mx⟩
end VD
namespace PySem.W.Fast
def tw382519235131734873:=0
def tw4132306294383793237:=0
def tw16829541063795858764:=0
def tw11903748895982763076:=0
def tw693665116922348579:=0
def tw17717837412799265435:=0
def tw7864506565629106226:=0
def tw11668444471575531337:=0
def tw8662490889492704877:=0
def tw1425686707276714812:=0
def tw8334538085885185359:=0
def tw3512172171975221519:=0
def tw5419908677104279854:=0
def tw11719920085958218749:=0
def tw13943700092506918496:=0
def tw9529257065919499939:=0
def tw15270597665923226197:=0
def tw11724371086797723728:=0
def tw12212195537021593111:=0
def tw11704495382852261826:=0
def tw14987501270809783427:=0
def tw14154211566429177634:=0
def tw9237377483192589669:=0
def tw7989665516456847709:=0
def tw6439270029724540867:=0
def tw5900349254054858539:=0
def tw12912721175518263102:=0
def tw2826202934505228100:=0
def tw14504438043482636320:=0
def tw5563319549894187587:=0
def tw17988177716733071945:=0
def tw11721739653299461316:=0
def tw3230645020274758684:=0
def tw10174131225118481661:=0
def tw1336938135873380709:=0
def tw10116864112878342988:=0
def tw13676172951642666118:=0
def tw15314144367511804810:=0
def tw7635343077042971589:=0
def tw12229788486372280342:=0
def tw14504380462685385835:=0
def tw10711821632278343134:=0
def tw9734294178302090879:=0
def tw6996650415918102539:=0
def tw11628324762147865632:=0
def tw9225119604786059671:=0
def tw9226173444283727982:=0
def tw6217705849976970215:=0
def tw9193769489211570020:=0
def tw11342956514593921275:=0
def tw17320403386984788343:=0
def tw1246984640247490878:=0
def tw14731316611860809556:=0
def tw15577963247256496053:=0
def tw6729164092750801565:=0
def tw3708282020994583829:=0
def tw7272140662054638298:=0
def tw10297711294439552182:=0
def tw13066248683618417239:=0
def tw6263854433082934458:=0
def tw5118502587575161932:=0
def tw1862878185864595632:=0
def tw11037361331538158269:=0
def tw4619307412549474314:=0
def tw5546992433817547092:=0
def tw6190600874336794395:=0
def tw7393737193976273645:=0
def tw13533644285002270864:=0
def tw8099796833379927637:=0
def tw16925574120925857429:=0
def tw17369414471696135156:=0
def tw1675551565586378147:=0
def tw7416643086225581543:=0
def tw4934703030718650165:=0
def tw10958310939062025784:=0
def tw13163565935690755002:=0
def tw12707122075239760046:=0
def tw3782343679631250971:=0
def tw6808464909593917328:=0
def tw1702171771644085839:=0
def tw17830173053552889486:=0
def tw1985668857842362371:=0
def tw14043386690438940876:=0
end PySem.W.Fast
namespace Pg
open PySem.Spec L2 VD EX
def zav {p:Str->Prop}{x:Str}{xs:List Str}(h:p x)(t:∀y∈xs,p y):∀y∈x::xs,p y:=λy hy=>(wap.mp hy).elim (λe=>e▸h) (t y)
def FH (K:Fg)(x:Str)(st:Stmt)(f:Addr):Prop:=W.nsIn K mG x=some (some (.ref f))/\(∃fd,Fun K x x st f fd)/\W.keepIn K (.ref f)=true
def fh_mk {K:Fg}{x:Str}{st:Stmt}{f:Addr}{oc:Vl}{od an:Option Addr}{osl:Array (Option Vl)}{kV doc pm cdv ct:Vl}(a:W.nsIn K mG x=some (some (.ref f)))(l:K.lookup f=some ⟨oc,od,.func (W.fnOf x x (zbA st) (zaI st) (zab st) .none kV doc pm an cdv ct),osl⟩)(c:W.codeIn K cdv x=true)(k:W.keepIn K (.ref f)=true):FH K x st f:=⟨a,⟨_,zfD l c k⟩,k⟩
def zdm:∀(n:Nat) (ds:List D) (d:D),zaz n ds=some d->ds.length=2
|0,ds,d,e=>by cases e
|n+1,ds,d,e=>zc7 ds d e
def zeA:∀(n:Nat) (ds:List D) (d:D),zam n ds=some d->ds.length=2
|0,ds,d,e=>by cases e
|n+1,ds,d,e=>zc7 ds d e
def all_mk {l:PySem.W.OpenLaw}{q:Pm}{loose:List Str}{w:World}{K:Fg}{h:Heap}{mg mb:Str->Option Vl}{mean:ExcName->Option Vl}{dR5 dR7 dR12:DefRec}{fa f1 f2 f3 f4 f5 f6 f7 f8 f9 f10 f11 f12 f13 f14 f15 f16 f17 f18 f19 f20 f21 f22 f23 f24 f25 f26 q5 p5 q7 p7 q12 p12:Addr}(X:K.In h)(T:Top q loose mean mg mb h)(hfa:mg "law"=some (.ref fa))
 {od5 an5 od7 an7 od12 an12 od26 an26:Option Addr}{sl5 sl7 sl12 sl26:Array (Option Vl)}{oc5 kV5 dc5 pm5 ct5 oc7 kV7 dc7 pm7 ct7 oc12 kV12 dc12 pm12 ct12 oc26 kV26 dc26 pm26 ct26 cd26:Vl}
 {oct5:Obj}{vs5:Array Vl}(lt5:K.lookup q5=some oct5) (dt5:oct5.data=.fields vs5) (v5:vs5.getD 11 .none=.ref p5)
 {oct7:Obj}{vs7:Array Vl}(lt7:K.lookup q7=some oct7) (dt7:oct7.data=.fields vs7) (v7:vs7.getD 11 .none=.ref p7)
 {oct12:Obj}{vs12:Array Vl}(lt12:K.lookup q12=some oct12) (dt12:oct12.data=.fields vs12) (v12:vs12.getD 11 .none=.ref p12)
 (nd:[p5,p7,p12].Nodup)
 (h1:FH K "placed_within" zbG f1)
 (h2:FH K "placed_parts" zbQ f2)
 (h3:FH K "parts_of" zcB f3)
 (h4:FH K "names_of" zcA f4)
 (a5:W.nsIn K mG "is_name"=some (some (.ref f5))) (l5:K.lookup f5=some ⟨oc5,od5,.func (W.fnOf "is_name" "is_name" (zbA zbm) (zaI zbm) (zab zbm) .none kV5 dc5 pm5 an5 (.ref q5) ct5),sl5⟩) (c5:W.codeIn K (.ref q5) "is_name"=true) (k5:W.keepIn K (.ref f5)=true)
 (h6:FH K "is_whole" zdt f6)
 (a7:W.nsIn K mG "is_box"=some (some (.ref f7))) (l7:K.lookup f7=some ⟨oc7,od7,.func (W.fnOf "is_box" "is_box" (zbA zbL) (zaI zbL) (zab zbL) .none kV7 dc7 pm7 an7 (.ref q7) ct7),sl7⟩) (c7:W.codeIn K (.ref q7) "is_box"=true) (k7:W.keepIn K (.ref f7)=true)
 (h8:FH K "is_word" zeh f8)
 (h9:FH K "is_rank" zei f9)
 (h10:FH K "is_head" zej f10)
 (h11:FH K "is_part" zeg f11)
 (a12:W.nsIn K mG "are_parts"=some (some (.ref f12))) (l12:K.lookup f12=some ⟨oc12,od12,.func (W.fnOf "are_parts" "are_parts" (zbA zaT) (zaI zaT) (zab zaT) .none kV12 dc12 pm12 an12 (.ref q12) ct12),sl12⟩) (c12:W.codeIn K (.ref q12) "are_parts"=true) (k12:W.keepIn K (.ref f12)=true)
 (h13:FH K "musts_of" zcC f13)
 (h14:FH K "refuse_twice" zbR f14)
 (h15:FH K "are_nested" zcr f15)
 (h16:FH K "refuse_heads" zaM f16)
 (h17:FH K "tied_names" zbn f17)
 (h18:FH K "ring_of" zek f18)
 (h19:FH K "checked" zdf f19)
 (h20:FH K "_law_feed" zcU f20)
 (h21:FH K "_law_next" zcV f21)
 (h22:FH K "_law_rows" zb8 f22)
 (h23:FH K "_law_bad" zbX f23)
 (h24:FH K "_law_hung" zb9 f24)
 (h25:FH K "_law_got" zcD f25)
 (a26:W.nsIn K mG "law"=some (some (.ref f26))) (l26:K.lookup f26=some ⟨oc26,od26,.func (W.fnOf "law" "law" (zbA zey) (zaI zey) (zab zey) .none kV26 dc26 pm26 an26 cd26 ct26),sl26⟩) (c26:W.codeIn K cd26 "law"=true) (k26:W.keepIn K (.ref f26)=true)
 (z0:W.nsIn K mG "len"=some none)
 (z1:W.nsIn K mG "range"=some none)
 (z2:W.nsIn K mG "min"=some none)
 (z3:W.nsIn K mG "max"=some none)
 (z4:W.nsIn K mG "int"=some none)
 (z5:W.nsIn K mG "str"=some none)
 (z6:W.nsIn K mG "bool"=some none)
 (z7:W.nsIn K mG "list"=some none)
 (z8:W.nsIn K mG "tuple"=some none)
 (z9:W.nsIn K mG "isinstance"=some none)
 (z10:W.nsIn K mG "any"=some none)
 (z11:W.nsIn K mG "all"=some none)
 (z12:W.nsIn K mG "enumerate"=some none)
 (z13:W.nsIn K mG "abs"=some none)
 (z14:W.nsIn K mG "sorted"=some none)
 (z15:W.nsIn K mG "dict"=some none)
 (z16:W.nsIn K mG "ord"=some none)
 (z17:W.nsIn K mG "chr"=some none)
 (z18:W.nsIn K mG "reversed"=some none)
 {jT:Tok}
 {Jd:Tok}
 {wG:Tok}
 {jw:Tok}
 {jC:Addr}{jX:Option Addr}{Jf:Nat}{jU:Array (Option Vl)}{jv ju jt:Tok}
 {jy:Tok}
 {Je:Tok}
 {wQ:Tok}
 (j6:Kit K "str")
 (jA:Kit K "bool")
 (Ja:Kit K "int")
 (qM:Kit K "tuple")
 (jG:W.nsIn K mG "PARTS"=some (some (.int 5 jT)))
 (jY:W.nsIn K mG "NAME"=some (some (.int 0 Jd)))
 (w9:W.nsIn K mG "LONGEST_NAME"=some (some (.int 8 wG)))
 (wY:W.nsIn K mG "LETTERS"=some (some (.str "abcdefghijklmnopqrstuvwxyz" jw)))
 (jF:W.nsIn K mG "WORDS"=some (some (.ref jC)))
 (jD:K.lookup jC=some ⟨.type "tuple",jX,.seq #[.str "free" jv,.str "shut" ju,.str "hidden" jt] Jf,jU⟩)
 (wZ:W.nsIn K mG "DEEPEST"=some (some (.int 5 jy)))
 (jZ:W.nsIn K mG "HEAD"=some (some (.int 4 Je)))
 (wg:W.nsIn K mG "MOST_PARTS"=some (some (.int 40 wQ)))
 {qu:Addr}(qP:W.nsIn K mG "NoHead"=some (some (.ref qu)))
 {j8:Addr}(wq:W.nsIn K mG "NoSheet"=some (some (.ref j8)))
 {qN:Addr}(qY:W.nsIn K mG "FocusError"=some (some (.ref qN)))
 {wP:Addr}(wc:W.nsIn K mG "MustRing"=some (some (.ref wP)))
 {jr:Addr}(wH:W.nsIn K mG "NoPart"=some (some (.ref jr)))
 {j7:Addr}(wo:W.nsIn K mG "TooMany"=some (some (.ref j7)))
 {jH:Addr}(jf:W.nsIn K mG "Twice"=some (some (.ref jH)))
 {J0 jQ:Addr}{j4:List Vl}{jl q_NoHead x_NoHead jz:Str}{k_NoHead jM:Nat}{jS jR jL jO jN:Pos}{jP:Fu}(jK:EX.XI l.prog w K qu J0 jQ j4 jz x_NoHead "name" (.JoinedStr [.Constant (.str jl) k_NoHead jS,.FormattedValue (.Name x_NoHead jL) 114 none jO,.Constant (.str q_NoHead) jM jR] jN) jP) (wS:W.keepIn K (.ref qu)=true) (j5:j4.contains (.type "BaseException")=true) (wm:jl.length+q_NoHead.length<=1000)
 (z_super:W.nsIn K mG "super"=some none)
 (Ji:PySem.W.mroIn K qN (.type "BaseException")=some true)
 (Jh:PySem.W.typeIn K (.ref qN)=some (.type "type"))
 (z_VE:W.nsIn K mG "ValueError"=some none)
 (j3:PySem.W.mroIn K qu (.ref qN)=some true)
 (jJ:EX.XK1 K qu)
 (Jc:EX.XG K qu "name")
 (jq:PySem.W.kitOne K (.ref qu) (.ref qu)=some true)
 (wX:PySem.W.kitOne K (.ref qu) (.ref j8)=some false)
 (wV:PySem.W.kitOne K (.ref qu) (.ref j7)=some false)
 (jE:PySem.W.kitOne K (.ref qu) (.ref jH)=some false)
 (wI:PySem.W.kitOne K (.ref qu) (.ref wP)=some false)
 (jm:PySem.W.kitOne K (.ref qu) (.ref jr)=some false)
 (Jg:PySem.W.kitOne K (.ref qu) (.type "ValueError")=some true)
 (hK:PySem.W.kb_classed K=true) (hf5:(recsOf q).find? (λe=>e.name == (Str.ofString "is_name"))=some dR5) (hf7:(recsOf q).find? (λe=>e.name == (Str.ofString "is_box"))=some dR7) (hf12:(recsOf q).find? (λe=>e.name == (Str.ofString "are_parts"))=some dR12)
 : ∃(fd:Fu) (tb:List Addr) (nm:Addr->Array Vl),Tabs K h tb/\(∀(s:Sd) (v:Vl),BindsTo s fd ⟨[v],[]⟩ [("_law_script",v)])/\∀(base:Heap) (bm:Addr) (ob:Obj),K.In base->base.Ns mG mg->BMod base mG mg bm ob->FnOk l.prog w K mg base CX0 53 fa fd ["_law_script"] (spM K ["is_name.<locals>.<genexpr>","is_box.<locals>.<genexpr>","are_parts.<locals>.<genexpr>"] tb nm):=by
 have e:=hfa.symm.trans (wbD X T.g a26)
 cases e;have wb:GlobD K mg "PARTS" (.int 5):=zcy (wbD X T.g jG)
 have qE:GlobD K mg "NAME" (.int 0):=zcy (wbD X T.g jY)
 have qR:GlobD K mg "LONGEST_NAME" (.int 8):=zcy (wbD X T.g w9)
 have ww:GlobD K mg "LETTERS" (.str "abcdefghijklmnopqrstuvwxyz"):=zli (wbD X T.g wY)
 have ji:GlobD K mg "WORDS" (.tup [(.str "free"),(.str "shut"),(.str "hidden")]):=zlj (vs:=[.str "free",.str "shut",.str "hidden"]) (wbD X T.g jF) jD rfl rfl (by show 3<=sLn;decide) (.cons ⟨_,rfl⟩ (.cons ⟨_,rfl⟩ (.cons ⟨_,rfl⟩ (.nil)))) (λ_ _=>.cons (.str _) (.cons (.str _) (.cons (.str _) (.nil))))
 have wy:GlobD K mg "DEEPEST" (.int 5):=zcy (wbD X T.g wZ)
 have qV:GlobD K mg "HEAD" (.int 4):=zcy (wbD X T.g jZ)
 have qA:GlobD K mg "MOST_PARTS" (.int 40):=zcy (wbD X T.g wg)
 obtain⟨a1,⟨_,F1⟩,k1⟩:=h1;have b1:=F1.binds (ps:=["parts","outer_place"]) λ_ _ _ _ _ _=>λ|[_,_],_=>rfl
 have m1:=wbD X T.g a1
 obtain⟨a2,⟨_,F2⟩,k2⟩:=h2;obtain⟨a3,⟨_,F3⟩,k3⟩:=h3;obtain⟨a4,⟨_,F4⟩,k4⟩:=h4;have F5:=zfD (st:=zbm) l5 c5 k5
 have m5:=wbD X T.g a5
 obtain⟨a6,⟨_,F6⟩,k6⟩:=h6;have F7:=zfD (st:=zbL) l7 c7 k7
 have m7:=wbD X T.g a7
 obtain⟨a8,⟨_,F8⟩,k8⟩:=h8;obtain⟨a9,⟨_,F9⟩,k9⟩:=h9;obtain⟨a10,⟨_,F10⟩,k10⟩:=h10;obtain⟨a11,⟨_,F11⟩,k11⟩:=h11;have F12:=zfD (st:=zaT) l12 c12 k12
 have b12:=F12.binds (ps:=["thing","deep"]) λ_ _ _ _ _ _=>λ|[_,_],_=>rfl
 have m12:=wbD X T.g a12
 obtain⟨a13,⟨_,F13⟩,k13⟩:=h13;obtain⟨a14,⟨_,F14⟩,k14⟩:=h14;obtain⟨a15,⟨_,F15⟩,k15⟩:=h15;obtain⟨a16,⟨_,F16⟩,k16⟩:=h16;have b16:=F16.binds (ps:=["sheet"]) λ_ _ _ _ _ _=>λ|[_],_=>rfl
 have m16:=wbD X T.g a16
 obtain⟨a17,⟨_,F17⟩,k17⟩:=h17;obtain⟨a18,⟨_,F18⟩,k18⟩:=h18;obtain⟨a19,⟨_,F19⟩,k19⟩:=h19;have b19:=F19.binds (ps:=["thing"]) λ_ _ _ _ _ _=>λ|[_],_=>rfl
 have m19:=wbD X T.g a19
 obtain⟨a20,⟨_,F20⟩,k20⟩:=h20;obtain⟨a21,⟨_,F21⟩,k21⟩:=h21;obtain⟨a22,⟨_,F22⟩,k22⟩:=h22;obtain⟨a23,⟨_,F23⟩,k23⟩:=h23;obtain⟨a24,⟨_,F24⟩,k24⟩:=h24;obtain⟨a25,⟨_,F25⟩,k25⟩:=h25;have F26:=zfD (st:=zey) l26 c26 k26
 have B:Blt mg:=zav (waL X T.g z0) (zav (waL X T.g z1) (zav (waL X T.g z2) (zav (waL X T.g z3) (zav (waL X T.g z4) (zav (waL X T.g z5) (zav (waL X T.g z6) (zav (waL X T.g z7) (zav (waL X T.g z8) (zav (waL X T.g z9) (zav (waL X T.g z10) (zav (waL X T.g z11) (zav (waL X T.g z12) (zav (waL X T.g z13) (zav (waL X T.g z14) (zav (waL X T.g z15) (zav (waL X T.g z16) (zav (waL X T.g z17) (zav (waL X T.g z18) (λ_ hy=>by cases hy)))))))))))))))))))
 have m_NoHead:=wbD X T.g qP
 have m_NoSheet:=wbD X T.g wq
 have m_FocusError:=wbD X T.g qY
 have m_MustRing:=wbD X T.g wc
 have m_NoPart:=wbD X T.g wH
 have m_TooMany:=wbD X T.g wo
 have m_Twice:=wbD X T.g jf
 have wN:XCl l.prog w K mg "NoHead" "name" zic:=zj8 jK (waL X T.g z_super) m_NoHead qP wS j5 wm
 have xi {v:Vl}{p:Bool}(h:PySem.W.kitOne K (.ref qu) v=some p):XInst K v [("NoHead",p)]:=zid qP jJ h zj6
 have jh:XFld K "name" ["NoHead"]:=zj7 qP Jc zlS
 obtain⟨ct'5,Pt5,hcd5,hB5⟩:=wcG T hf5 m5 (X _ _ l5) rfl;obtain rfl:q5=ct'5:=Value.ref.inj hcd5;obtain rfl:Pt5=p5:=zfq X hB5 lt5 dt5 v5;have hC5:=CodeK.of X c5 hB5
 obtain⟨ct'7,Pt7,hcd7,hB7⟩:=wcG T hf7 m7 (X _ _ l7) rfl;obtain rfl:q7=ct'7:=Value.ref.inj hcd7;obtain rfl:Pt7=p7:=zfq X hB7 lt7 dt7 v7;have hC7:=CodeK.of X c7 hB7
 obtain⟨ct'12,Pt12,hcd12,hB12⟩:=wcG T hf12 m12 (X _ _ l12) rfl;obtain rfl:q12=ct'12:=Value.ref.inj hcd12;obtain rfl:Pt12=p12:=zfq X hB12 lt12 dt12 v12;have hC12:=CodeK.of X c12 hB12
 refine⟨W.fnOf "law" "law" (zbA zey) (zaI zey) (zab zey) .none kV26 dc26 pm26 an26 cd26 ct26,[Pt5,Pt7,Pt12],nmM [(Pt5,"is_name.<locals>.<genexpr>"),(Pt7,"is_box.<locals>.<genexpr>"),(Pt12,"are_parts.<locals>.<genexpr>")],⟨(λP hP=>by
  rcases wap.mp hP with rfl|hP
  .exact⟨_,hB5.tab⟩
  rcases wap.mp hP with rfl|hP
  .exact⟨_,hB7.tab⟩
  rcases wap.mp hP with rfl|hP
  .exact⟨_,hB12.tab⟩
  cases hP),(λP hP=>by
  rcases wap.mp hP with rfl|hP
  .exact zgw X T.g hB5 hK
  rcases wap.mp hP with rfl|hP
  .exact zgw X T.g hB7 hK
  rcases wap.mp hP with rfl|hP
  .exact zgw X T.g hB12 hK
  cases hP)⟩,λs v=>.of_eq rfl,λbase bm ob hk hn hM=>lawM (m:=zoy) (tb:=[Pt5,Pt7,Pt12]) (qs:=["is_name.<locals>.<genexpr>","is_box.<locals>.<genexpr>","are_parts.<locals>.<genexpr>"]) rfl (zm2 (ts:=[(Pt5,"is_name.<locals>.<genexpr>"),(Pt7,"is_box.<locals>.<genexpr>"),(Pt12,"are_parts.<locals>.<genexpr>")]) nd) (λS=>?_) λS=>zru (S:=S)⟩
 have CM {k:Nat}{x:Str}{ps:List Str}{sp:Sp}{f:Addr}{fd:Fu}{st:Stmt}(F:Fun K x x st f fd) (h:FnOk l.prog w K mg base CX0 k f fd ps sp) (c:W.keepIn K (.ref f)=true) (a:W.nsIn K mG x=some (some (.ref f))) (b:∀(kV doc pm:Vl) (an:Option Addr) (cdv ct:Vl) (us:List Vl),us.length=ps.length->bindArgs (W.fnOf x x (zbA st) (zaI st) (zab st) .none kV doc pm an cdv ct) ⟨us,[]⟩=pure (ps.zip us):=by(intro _ _ _ _ _ _ us hl;first|exact(match us,hl with|[_],_=>rfl)|exact(match us,hl with|[_,_],_=>rfl)|exact(match us,hl with|[_,_,_],_=>rfl))):Cal l.prog w K mg base k x ps sp:=⟨f,fd,h,F.binds b,c,wbD X T.g a⟩
 have zc:=@zrv K S [(Pt5,"is_name.<locals>.<genexpr>"),(Pt7,"is_box.<locals>.<genexpr>"),(Pt12,"are_parts.<locals>.<genexpr>")]
 have TT5:TabF K mg base _ Pt5:=⟨q5,bm,ob,hcd5,hC5,hM⟩
 have TT7:TabF K mg base _ Pt7:=⟨q7,bm,ob,hcd7,hC7,hM⟩
 have TT12:TabF K mg base _ Pt12:=⟨q12,bm,ob,hcd12,hC12,hM⟩
 have qy:=CM F1 (zmy (P:=l.prog) (w:=w) (K:=K) (mg:=mg) (base:=base) (x:="placed_within") (ps:=["parts","outer_place"]) (b:=zbH) (m:=zaz) (k:=0) (λ_=>rfl) (λ_=>rfl) b1 k1 m1 (zdm) (λ{n} {self} C=>by rw[wbf] at *;exact zdI F1 B C wb) 8) k1 a1
 have qo:=CM F2 (zem F2 B qy) k2 a2
 have qG:=CM F3 (zgR F3 B qo) k3 a3
 have qH:=CM F4 (zgT F4 B qG qE) k4 a4
 have qO:=CM F5 (zij F5 B zc TT5 (zg6 (t:=(Pt5,"is_name.<locals>.<genexpr>")) 0 rfl) j6 qR ww) k5 a5
 have qI:=CM F6 (zgV F6 B jA Ja) k6 a6
 have wO:=CM F7 (zkj F7 B zc TT7 (zg6 (t:=(Pt7,"is_box.<locals>.<genexpr>")) 1 rfl) qI qM) k7 a7
 have wB:=CM F8 (zil F8 B j6 ji) k8 a8
 have wC:=CM F9 (zin F9 B qI) k9 a9
 have wE:=CM F10 (ziq F10 B zc qO) k10 a10
 have qw:=CM F12 (zkG (P:=l.prog) (w:=w) (K:=K) (mg:=mg) (base:=base) (x:="are_parts") (ps:=["thing","deep"]) (b:=zcW) (m:=zam) (c:=7) (k:=0) (λ_=>rfl) (λ_=>rfl) b12 k12 m12 (zeA) (λ{n} {self} C=>by
  have wD:=CM F11 (zir F11 B zc wB wO qO C wE wC qM) k11 a11
  exact zf7 F12 B zc TT12 (zg6 (t:=(Pt12,"are_parts.<locals>.<genexpr>")) 2 rfl) wD qM wy) 7) k12 a12
 have we:=CM F13 (zgW F13 B qG wb qE qV) k13 a13
 have qv:=CM F14 (zen F14 B) k14 a14
 have qB:=CM F15 (zfg F15 B) k15 a15
 have qS:=CM F16 (zeo F16 B qo qB qE qV) k16 a16
 have qZ:=CM F17 (zfh F17 B) k17 a17
 have wz:=CM F18 (zis F18 B qZ) k18 a18
 have wF:=CM F19 (zit F19 B zc qw qH qv qS wz we qA) k19 a19
 have wf:=CM F20 (zga F20 B zc (S:=S) (λH h=>h.1)) k20 a20
 have qJ:=CM F21 (zgb F21 B) k21 a21
 have jB:=CM F22 (zgc F22 B zc (S:=S) wf qJ) k22 a22
 have Jb:=CM F23 (zgX F23 B) k23 a23
 have jk:=CM F24 (zgd F24 B) k24 a24
 have qQ:=zj2 (zdu F16 B qo qB qE qV wN) b16 k16 m16
 have wv:=zj2 (zf8 F19 B zc qw qH qv qQ qA) b19 k19 m19
 have jI:=CM F25 (zgY F25 B zc wF wv (zlT m_FocusError qP j3 (zoo m_FocusError Ji Jh)) m_NoHead m_NoSheet m_TooMany m_Twice m_MustRing m_NoPart (waL X T.g z_VE) (xi jq) (xi wX) (xi wV) (xi jE) (xi wI) (xi jm) (xi Jg)) k25 a25
 exact zq0 F26 B zc (S:=S) jB wf qJ Jb jI jk jh
end Pg
open PySem.W
set_option maxRecDepth 100000 in
set_option maxHeartbeats 0 in
theorem PySem.Challenge.cw_focuswalk_k06_heads_holds : PySem.Challenge.rw_focuswalk_k06_heads.Holds := by
 w_on;o_law;k_head;(case hw=>w_witness2)
 k_fill
 refine VD.walkM (l:=PySem.Challenge.rw_focuswalk_k06_heads) (k:=53) (x:="_law_script") (qs:=["is_name.<locals>.<genexpr>","is_box.<locals>.<genexpr>","are_parts.<locals>.<genexpr>"]) rfl rfl ⟨rfl,by decide,by decide,rfl⟩ (λw h Y=>PySem.W.kIn_of Y) ?F;case F=>
  intro w mg mb mean fa h KX T hmg;refine' Pg.all_mk KX T hmg ?lt5 ?dt5 ?v5 ?lt7 ?dt7 ?v7 ?lt12 ?dt12 ?v12 ?nd (Pg.fh_mk ?a1 ?l1 ?c1 ?k1) (Pg.fh_mk ?a2 ?l2 ?c2 ?k2) (Pg.fh_mk ?a3 ?l3 ?c3 ?k3) (Pg.fh_mk ?a4 ?l4 ?c4 ?k4) ?a5 ?l5 ?c5 ?k5 (Pg.fh_mk ?a6 ?l6 ?c6 ?k6) ?a7 ?l7 ?c7 ?k7 (Pg.fh_mk ?a8 ?l8 ?c8 ?k8) (Pg.fh_mk ?a9 ?l9 ?c9 ?k9) (Pg.fh_mk ?a10 ?l10 ?c10 ?k10) (Pg.fh_mk ?a11 ?l11 ?c11 ?k11) ?a12 ?l12 ?c12 ?k12 (Pg.fh_mk ?a13 ?l13 ?c13 ?k13) (Pg.fh_mk ?a14 ?l14 ?c14 ?k14) (Pg.fh_mk ?a15 ?l15 ?c15 ?k15) (Pg.fh_mk ?a16 ?l16 ?c16 ?k16) (Pg.fh_mk ?a17 ?l17 ?c17 ?k17) (Pg.fh_mk ?a18 ?l18 ?c18 ?k18) (Pg.fh_mk ?a19 ?l19 ?c19 ?k19) (Pg.fh_mk ?a20 ?l20 ?c20 ?k20) (Pg.fh_mk ?a21 ?l21 ?c21 ?k21) (Pg.fh_mk ?a22 ?l22 ?c22 ?k22) (Pg.fh_mk ?a23 ?l23 ?c23 ?k23) (Pg.fh_mk ?a24 ?l24 ?c24 ?k24) (Pg.fh_mk ?a25 ?l25 ?c25 ?k25) ?a26 ?l26 ?c26 ?k26 ?z0 ?z1 ?z2 ?z3 ?z4 ?z5 ?z6 ?z7 ?z8 ?z9 ?z10 ?z11 ?z12 ?z13 ?z14 ?z15 ?z16 ?z17 ?z18 ⟨?t_str_NoneType,?t_str_bool,?t_str_int,?t_str_str,?t_str_tuple,?t_str_list,?t_str_dict⟩ ⟨?t_bool_NoneType,?t_bool_bool,?t_bool_int,?t_bool_str,?t_bool_tuple,?t_bool_list,?t_bool_dict⟩ ⟨?t_int_NoneType,?t_int_bool,?t_int_int,?t_int_str,?t_int_tuple,?t_int_list,?t_int_dict⟩ ⟨?t_tuple_NoneType,?t_tuple_bool,?t_tuple_int,?t_tuple_str,?t_tuple_tuple,?t_tuple_list,?t_tuple_dict⟩ ?jG ?jY ?w9 ?wY ?jF ?jD ?wZ ?jZ ?wg ?qP ?wq ?qY ?wc ?wH ?wo ?jf (EX.xi_mk ?lk_NoHead ?i_NoHead ?lf_NoHead ?opq_NoHead ?self_NoHead ?st_NoHead ?tak_NoHead ?cdi_NoHead ?hc_NoHead ?lc_NoHead ?lcc_NoHead ?occd_NoHead ?inC_NoHead ?t1_NoHead ?sN_NoHead ?und_NoHead ?hasD_NoHead ?body_NoHead ?ne_NoHead ?dbg_NoHead ?par_NoHead ?bind_NoHead ?cell_NoHead ?loc1_NoHead ?loc2_NoHead ?flags_NoHead ?kinds_NoHead ?file_NoHead ?top_NoHead ?glob_NoHead ?blt_NoHead ?ccl_NoHead) ?wS ?j5 ?wm ?z_super ?Ji ?Jh ?z_VE ?j3 ⟨?ga_NoHead,?gt_NoHead,?xb_NoHead,?xo_NoHead,?hd_NoHead,?cl_NoHead,?x_sg,?x_tk⟩ ⟨?ga_NoHead,?gt_NoHead,?xb_NoHead,?no_name,?hd_NoHead⟩ ?jq ?wX ?wV ?jE ?wI ?jm ?Jg ?hK ?hf5 ?hf7 ?hf12
  (case qP|wq|qY|wc|wH|wo|jf=>k_is)
  (case lk_NoHead=>k_is)
  (case i_NoHead=>k_is)
  (case lf_NoHead=>k_is)
  (case opq_NoHead=>k_is)
  (case self_NoHead=>k_is)
  (case st_NoHead=>k_is)
  (case tak_NoHead=>k_is)
  (case cdi_NoHead=>first|k_is|exact rfl)
  (case hc_NoHead=>exact rfl)
  (case lc_NoHead=>k_is)
  (case ccl_NoHead=>exact λ_=>rfl)
  (case lcc_NoHead=>k_is)
  (case occd_NoHead=>exact rfl)
  (case inC_NoHead=>exact rfl)
  (case t1_NoHead=>exact rfl)
  (case sN_NoHead=>exact rfl)
  (case und_NoHead=>exact rfl)
  (case hasD_NoHead=>exact rfl)
  (case body_NoHead=>exact⟨_,_,_,_,_,_,_,_,_,rfl,λ_=>rfl,λ_=>rfl,λ_=>rfl,λ_=>rfl,λ_=>_,λ_=>rfl⟩)
  (case ne_NoHead=>decide)
  (case dbg_NoHead=>decide)
  (case par_NoHead=>exact⟨_,rfl,rfl⟩)
  (case bind_NoHead=>exact λ_ _=>rfl)
  (case cell_NoHead=>decide)
  (case loc1_NoHead=>exact rfl)
  (case loc2_NoHead=>exact rfl)
  (case flags_NoHead=>exact⟨rfl,rfl,rfl⟩)
  (case kinds_NoHead=>exact λ_=>⟨rfl,rfl,rfl,rfl⟩)
  (case file_NoHead=>exact⟨_,_,_,rfl,rfl,rfl⟩)
  (case top_NoHead=>exact rfl)
  (case glob_NoHead=>exact λ_=>rfl)
  (case blt_NoHead=>exact λ_=>rfl)
  (case wm=>decide +kernel)
  (case hK=>first|(with_unfolding_all rfl)|rfl)
  (case hf5=>rfl)
  (case hf7=>rfl)
  (case hf12=>rfl)
  (case a5=>k_is)
  (case l5=>k_is)
  (case c5=>k_is)
  (case k5=>k_is)
  (case lt5=>k_is)
  (case dt5=>exact rfl)
  (case v5=>exact rfl)
  (case a7=>k_is)
  (case l7=>k_is)
  (case c7=>k_is)
  (case k7=>k_is)
  (case lt7=>k_is)
  (case dt7=>exact rfl)
  (case v7=>exact rfl)
  (case a12=>k_is)
  (case l12=>k_is)
  (case c12=>k_is)
  (case k12=>k_is)
  (case lt12=>k_is)
  (case dt12=>exact rfl)
  (case v12=>exact rfl)
  (case nd=>decide)
  all_goals try first|k_is|exact rfl|kit_is

import PyProof.Rows.All
import Wide.All
import OpenK.AllK
import Wide.FinOn
import Lean
import PyProof.EqAt
import PyProof.EqKinds
import PyProof.TupleCall
import KE.KSortTup
import KE.KLam
import PyProof.NeKinds
import PyProof.StrCalls2
import PyProof.StrLawsJoin
import PyProof.MinMaxWalk
import PyProof.Rows.CallKwBuiltin
import PyProof.DictCompW
import KE.KRevIter
import PyProof.FactsAll.list_3
import PyProof.ExcInit
import PyProof.ExcClass3
import PyProof.StationsW
import KE.KSuper
import PyProof.ExcBaseAll.ValueError
import PyProof.RulesAs
import PyProof.NsDelKeeps
import PyProof.ExcArgs
import KE.KIsAll
import PyProof.FString4
import PyProof.ExcClass2
import PyProof.StrWalks
import PyProof.GenQ
import PyProof.ConsumeS
import PyProof.CodeObjX
import PySem.Challenge.RW_focuswalk_k71_word_box_and_rank
set_option Elab.async false
set_option linter.all false
set_option maxRecDepth 100000
set_option maxHeartbeats 4000000
def waa:=@List.getElem?_eq_some_iff
def wab:=@PySem.wpAny_bind
def wac:=@List.size_toArray
def wad:=@List.length_map
def wae:=@List.mem_cons_of_mem
def waf:=@List.mem_singleton
def wag:=@PySem.Heap.get?_push_of_some
def wah:=@List.getElem?_set_ne
def wai:=@List.mem_cons_self
def waj:=@List.getElem?_map
def wak:=@List.mem_cons
def wal:=@Nat.le_refl
def wam:=@List.getElem?_set_self
def wan:=@List.length_append
def wao:=@PySem.wpAny_pure
def wap:=@List.getElem?_eq_getElem
def waq:=@Nat.le_trans
def war:=@Nat.lt_of_lt_of_le
def was:=@PySem.Heap.lt_size
def wat:=@List.mem_append_right
def wau:=@PySem.Heap.get?_push_size
def wav:=@decide_eq_false
def waw:=@Option.some.inj
def wax:=@List.mem_append
def way:=@List.mem_map
def waz:=@List.length_take
def waA:=@PySem.wpAny_mono
def waB:=@Nat.ne_of_lt
def waC:=@List.mem_of_getElem?
def waD:=@Bool.and_eq_true
def waE:=@decide_eq_true
def waF:=@List.nodup_cons
def waG:=@List.getElem?_eq_none
def waH:=@List.map_append
def waI:=@List.getElem?_append_right
def waJ:=@List.getElem?_append_left
def waK:=@List.length_cons
def waL:=@List.map_cons
def waM:=@List.getElem?_of_mem
def waN:=@List.all_eq_true
def waO:=@PySem.W.mg_none_of
def waP:=@PyProof.Rows.callWith_type1
def waQ:=@List.append_nil
def waR:=@List.append_assoc
def waS:=@List.map_map
def waT:=@Nat.lt_irrefl
def waU:=@List.getElem?_take
def waV:=@PySem.W.kia_one
def waW:=@List.nodup_append
def waX:=@PySem.wpAny_Call_Name_kw
def waY:=@Nat.le_of_eq
def waZ:=@List.nodup_nil
def wba:=@congrArg
def wbb:=@List.replicate_succ
def wbc:=@Nat.min_eq_left
def wbd:=@List.mem_append_left
def wbe:=@List.lookup_cons
def wbf:=@Nat.le_of_succ_le_succ
def wbg:=@PySem.wpAny_newObj_type
def wbh:=@PyProof.Rows.slot_tuple_getitem
def wbi:=@PySem.wpAny_loadPart'
def wbj:=@Nat.lt_of_le_of_lt
def wbk:=@PySem.wpAny_standAt
def wbl:=@Nat.zero_add
def wbm:=@PySem.wpAny_truthy_bool
def wbn:=@Nat.zero_le
def wbo:=@List.length_reverse
def wbp:=@Nat.le_of_lt
def wbq:=@Bool.false_ne_true
def wbr:=@List.mem_range
def wbs:=@List.getElem?_zip_eq_some
def wbt:=@PySem.wpAny_passesOwn
def wbu:=@Bool.eq_iff_iff
def wbv:=@List.flatten_cons
def wbw:=@List.find?_cons
def wbx:=@List.getElem?_inj
def wby:=@PySem.wpAny_holding
def wbz:=@PySem.mem_of_lookup
def wbA:=@PySem.wpAny_callSpecial?_slot
def wbB:=@PySem.wpAny_getItem_str_slice
def wbC:=@Option.map_eq_some_iff
def wbD:=@List.getElem_cons_drop
def wbE:=@Int.emod_lt_of_pos
def wbF:=@List.length_replicate
def wbG:=@List.length_filter_le
def wbH:=@List.reverse_cons
def wbI:=@Int.toNat_natCast
def wbJ:=@PySem.W.mg_of
def wbK:=@PySem.F.args_tuple_add_2
def wbL:=@PySem.wpAny_pyIter_tuple
def wbM:=@PySem.F.entry_tuple_add
def wbN:=@Int.emod_nonneg
def wbO:=@PySem.wpAny_pyIter_rangeiter
def wbP:=@PySem.F.slot_tuple_add
def wbQ:=@List.take_of_length_le
def wbR:=@PySem.wpAny_field
def wbS:=@PySem.wpAny_pyIter_enum
def wbT:=@List.ext_getElem?
def wbU:=@PySem.Heap.size_push
def wbV:=@List.singleton_append
def wbW:=@Bool.beq_eq_decide_eq
def wbX:=@Nat.sub_self
def wbY:=@PySem.wpAny_call_entry
def wbZ:=@List.drop_length
def wca:=@PySem.F.plain_all_loop
def wcb:=@List.mem_of_mem_take
def wcc:=@PySem.W.based_of_top
def wcd:=@PySem.wpAny_rule
def wce:=@List.mem_filter
def wcf:=@List.filterMap_cons
def wcg:=@Array.length_toList
def wch:=@PySem.wpAny_execs_nil
def wci:=@List.of_mem_zip
def wcj:=@List.getElem?_range
def wck:=@PySem.Sem.onRaise_eq_wrap
def wcl:=@Nat.mul_le_mul
def wcm:=@List.take_take
def wcn:=@Nat.le_succ
def zOB {α β:Type _} (a:α) (f:α->Option β):Option.bind (some a) f=f a:=rfl
namespace L2
open PySem PySem.Spec PyProof.Rows
abbrev Key:=Sum Int Str
def zhJ:Key->Value->Bool
|.inl k,v=>Value.isInt k v
|.inr x,v=>Value.isStrOf x v
def keyH (w:World):Key->Int
|.inl k=>hashInt k
|.inr x=>hashStr w x
def zaU:∀{k:Key}{v:Value},zhJ k v=true->(∃i t,k=Sum.inl i/\v=Value.int i t)\/(∃x t,k=Sum.inr x/\v=Value.str x t)
|.inl i,v,h=>by
   obtain⟨t,e⟩:=Value.isInt_shape (k:=i) (v:=v) h;exact .inl ⟨i,t,rfl,e⟩
|.inr x,v,h=>by
   obtain⟨t,e⟩:=Value.isStrOf_shape (x:=x) (v:=v) h;exact .inr ⟨x,t,rfl,e⟩
def zin (i:Int)(t:Tok):zhJ (.inl i) (.int i t)=true:=by simp[zhJ,Value.isInt]
def zio (x:Str)(t:Tok):zhJ (.inr x) (.str x t)=true:=by simp[zhJ,Value.isStrOf]
def zoo (a b:Int):decide ((Sum.inl a:Key)=Sum.inl b)=(a == b):=by
 by_cases e:a=b
 .subst e;simp
 .have h:¬(Sum.inl a:Key)=Sum.inl b:=λq=>e (Sum.inl.inj q)
  rw[wav h];exact(beq_eq_false_iff_ne.mpr e).symm
def zop (a b:Str):decide ((Sum.inr a:Key)=Sum.inr b)=decide (a=b):=by
 by_cases e:a=b
 .subst e;simp
 .have h:¬(Sum.inr a:Key)=Sum.inr b:=λq=>e (Sum.inr.inj q)
  rw[wav h,wav e]
def zoq (a:Int)(b:Str):decide ((Sum.inl a:Key)=Sum.inr b)=false:=wav (λq=>nomatch q)
def zor (a:Str)(b:Int):decide ((Sum.inr a:Key)=Sum.inl b)=false:=wav (λq=>nomatch q)
def zaL (prog:Program)(w:World):PySem.KeyKind prog w Key where
 is:=zhJ
 hash:=keyH w
 inj:=λv a b ha hb=>by
  rcases zaU ha with⟨i,t,rfl,rfl⟩|⟨x,t,rfl,rfl⟩
  .rcases zaU hb with⟨j,u,rfl,e⟩|⟨y,u,rfl,e⟩
   .injection e with e1 _;rw[e1]
   .exact nomatch e
  .rcases zaU hb with⟨j,u,rfl,e⟩|⟨y,u,rfl,e⟩
   .exact nomatch e
   .injection e with e1 _;rw[e1]
 byValue:=λk v h=>by
  rcases zaU h with⟨i,t,rfl,rfl⟩|⟨x,t,rfl,rfl⟩ <;> rfl
 pyHash:=λhv h=>by
  rcases zaU hv with⟨i,t,rfl,rfl⟩|⟨x,t,rfl,rfl⟩
  .exact wpAny_pyHash_int h
  .exact wpAny_pyHash_str h
 eqBool:=λhu hv h=>by
  rcases zaU hu with⟨i,t,rfl,rfl⟩|⟨x,t,rfl,rfl⟩
  .rcases zaU hv with⟨j,u,rfl,rfl⟩|⟨y,u,rfl,rfl⟩
   .rw[zoo] at h;exact wpAny_eqBool_int h
   .rw[zoq] at h;exact SeqAt.EqAt.int_str i t y u _ _ _ _ h
  .rcases zaU hv with⟨j,u,rfl,rfl⟩|⟨y,u,rfl,rfl⟩
   .rw[zor] at h;exact SeqAt.EqAt.str_int x t j u _ _ _ _ h
   .rw[zop] at h;exact wpAny_eqBool_str h
 «strs»:=λk x t v h=>by
  rcases zaU h with⟨i,u,rfl,e⟩|⟨y,u,rfl,e⟩
  .exact nomatch e
  .injection e with e1 _
   subst e1;cases v <;> rfl
def zgs (prog:Program)(w:World)(i:Int)(t:Tok):(zaL prog w).is (.inl i) (.int i t)=true:=zin i t
def zc3 (prog:Program)(w:World)(x:Str)(t:Tok):(zaL prog w).is (.inr x) (.str x t)=true:=zio x t
inductive V where
|non|bl (b:Bool)|int (i:Int)|str (x:Str)|byt (b:Array UInt8)|flt (b:UInt64)|ref (a:Addr)|ty (n:String)
 deriving DecidableEq
def RelV:V->Value->Prop
|.non,u=>u=Value.none
|.bl b,u=>u=Value.bool b
|.int i,u=>∃t,u=Value.int i t
|.str x,u=>∃t,u=Value.str x t
|.byt b,u=>∃t,u=Value.bytes b t
|.flt b,u=>∃t,u=Value.float b t
|.ref a,u=>u=Value.ref a
|.ty n,u=>u=Value.type n
abbrev Vals:List V->List Value->Prop:=Paired RelV
theorem Vals.length {xs:List V}{us:List Value}(r:Vals xs us):xs.length=us.length:=Paired.length r
theorem Vals.get:∀{xs:List V}{us:List Value}{i:Nat}{x:V},Vals xs us->xs[i]?=some x->∃u,us[i]?=some u/\RelV x u
|_,_,_,_,.nil,e=>by simp at e
|_,_,0,_,.cons r _,e=>by simp at e;subst e;exact⟨_,rfl,r⟩
|_,_,i+1,x,.cons _ t,e=>by
   obtain⟨u,h1,h2⟩:=Vals.get (i:=i) (x:=x) t (by simpa using e);exact⟨u,by simpa using h1,h2⟩
theorem Vals.set {x:V}{u:Value}(r:RelV x u):∀{xs:List V}{us:List Value}(i:Nat),Vals xs us->Vals (xs.set i x) (us.set i u)
|_,_,_,.nil=>.nil
|_,_,0,.cons _ t=>.cons r t
|_,_,i+1,.cons q t=>.cons q (Vals.set r i t)
theorem Vals.append:∀{xs ys:List V}{us ws:List Value},Vals xs us->Vals ys ws->Vals (xs++ys) (us++ws)
|_,_,_,_,.nil,s=>s
|_,_,_,_,.cons r t,s=>.cons r (Vals.append t s)
theorem Vals.take:∀{xs:List V}{us:List Value}(n:Nat),Vals xs us->Vals (xs.take n) (us.take n)
|_,_,0,_=>.nil
|_,_,_+1,.nil=>.nil
|_,_,n+1,.cons r t=>.cons r (Vals.take n t)
theorem Vals.drop:∀{xs:List V}{us:List Value}(n:Nat),Vals xs us->Vals (xs.drop n) (us.drop n)
|_,_,0,r=>r
|_,_,_+1,.nil=>.nil
|_,_,n+1,.cons _ t=>Vals.drop n t
def RelO:Option V->Option Value->Prop
|some v,some u=>RelV v u
|none,none=>True
|_,_=>False
def KV {κ:Type}:List (κ×V)->List (κ×Value)->Prop:=Paired λ(p:κ×V) (q:κ×Value)=>p.1=q.1/\RelV p.2 q.2
def kV:Key->V
|.inl i=>.int i
|.inr x=>.str x
inductive HO where
|lst (xs:List V)
|tup (xs:List V)
|dK (kvs:List (Key×V))|dT (kvs:List (List Key×V))
|set (S:Int->Bool) (n:Nat)
|ins (C dx:Addr) (fs:List (Str×V))
|own (x:Addr)
|xd (fs:List (Str×V))
|met (f x:Addr)
|rng (lo hi:Int)
|frz (o:Obj) (u:HO)
|tbl (ps:Array Value)
|ext (φ:Heap->Prop)
abbrev Hp:=Addr->Option HO
def upd (H:Hp)(a:Addr)(o:HO):Hp:=λb=>if b=a then some o else H b
def zah {H:Hp}{a:Addr}{o:HO}:upd H a o a=some o:=by unfold upd;rw[if_pos rfl]
def zak {H:Hp}{a b:Addr}{o:HO}(h:b≠a):upd H a o b=H b:=by unfold upd;rw[if_neg h]
def za3 {H:Hp}{a b:Addr}{o:HO}(h:H a=some o)(h':H b=none):a≠b:=by
 intro e;subst e;rw[h] at h';cases h'
section
variable (P:Program)(w:World)
def ObjOk (H:Hp)(h:Heap)(a:Addr):HO->Prop
|.lst xs=>xs.length<=sizeLine/\∃(its:List Value) (n:Nat),Vals xs its/\h.get? a=some {cls:=.type "list",data:=.seq its.toArray n}
|.tup xs=>xs.length<=sizeLine/\∃its:List Value,Vals xs its/\IsTup h a its.toArray
|.dK kvs=>kvs.length<=sizeLine/\(a == sysModules)=false/\∃vs,KV kvs vs/\h.DictOf (zaL P w) a vs
|.dT kvs=>kvs.length<=sizeLine/\(a == sysModules)=false/\∃xs:List (List Key×Addr×Value),
  Paired (λ(p:List Key×V) (q:List Key×Addr×Value)=>p.1=q.1/\H q.2.1=some (.tup (p.1.map kV))/\RelV p.2 q.2.2) kvs xs/\
  ∃o es ep,h.get? a=some o/\o.ExactDict/\o.data=.dict es ep/\es.toList=xs.map (entryOfKey (tupleKind (zaL P w)))/\(xs.map (·.1)).Nodup
|.set S n=>h.SetOf (intKind P w) a S n
|.ins C dx fs=>H dx=some (.own a)/\fs.length<=1000/\dx≠a/\h.get? a=some (PySem.W.instObj C dx)/\
  ∃mA,h.Ns1 dx mA/\(∀f,RelO (fs.lookup f) (mA f))/\PySem.Within mA (fs.map (·.1))
|.own _=>∃o,h.get? a=some o
|.xd fs=>∃mA,h.Ns1 a mA/\∀f,RelO (fs.lookup f) (mA f)
|.rng lo hi=>∃t u v,h.get? a=some {cls:=.type "range",data:=.fields #[.int lo t,.int hi u,.int 1 v]}
|.frz o u=>h.get? a=some o/\ObjOk H h a u
|.tbl ps=>∃qs:Array Value,h.get? a=some {cls:=.none,data:=.fields qs}/\TriplesOk qs.toList/\∀pos cv,codeAmong pos qs.toList=some cv->∃c' o u vs t q,cv=Value.ref c'/\H c'=some (.frz o u)/\o.data=.fields vs/\vs[1]?=some (Value.str q t)/\ps[0]?=some (Value.str q 0)
|.met f x=>h.get? a=some (PySem.W.methodObj (.ref f) (.ref x))
|.ext φ=>φ h/\(∃o,h.get? a=some o)/\∀h1 h2:Heap,φ h1->(∀o,h1.get? a=some o->h2.get? a=some o)->φ h2
def HOk (H:Hp)(h:Heap):Prop:=∀a o,H a=some o->ObjOk P w H h a o
end
section
variable {P:Program}{w:World}{H H':Hp}{h h':Heap}{a:Addr}{o:HO}
theorem ObjOk.lt (x:ObjOk P w H h a o):a<h.objs.size:=by
 cases o with
|lst xs=>obtain⟨_,_,_,_,e⟩:=x;exact was e
|tup xs=>obtain⟨_,_,_,p⟩:=x;exact p.lt
|dK kvs=>obtain⟨_,_,_,_,o,_,_,e,_⟩:=x;exact was e
|dT kvs=>obtain⟨_,_,_,_,o,_,_,e,_⟩:=x;exact was e
|set S n=>obtain⟨o,_,_,_,e,_⟩:=x;exact was e
|ins C dx fs=>obtain⟨_,_,_,e,_⟩:=x;exact was e
|own y=>obtain⟨_,e⟩:=x;exact was e
|xd fs=>obtain⟨_,⟨_,_,_,e,_⟩,_⟩:=x;exact was e
|rng lo hi=>obtain⟨_,_,_,e⟩:=x;exact was e
|frz ob u=>obtain⟨e,_⟩:=x;exact was e
|tbl ps=>obtain⟨_,e,_⟩:=x;exact was e
|met f y=>exact was (show h.get? a=some _ from x)
|ext φ=>obtain⟨_,⟨_,e⟩,_⟩:=x;exact was e
theorem Paired.mapP {α β:Type}{F G:α->β->Prop}:∀{l₁:List α}{l₂:List β},Paired F l₁ l₂->(∀a b,F a b->G a b)->Paired G l₁ l₂
|_,_,.nil,_=>.nil
|_,_,.cons r t,f=>.cons (f _ _ r) (Paired.mapP t f)
def Cst:HO->Prop
|.tup _=>True
|.frz _ _=>True
|_=>False
def ObjOk.stay (x:ObjOk P w H h a o)(k:∀b u,(b=a\/H b=some (.own a))->h.get? b=some u->h'.get? b=some u)
 (ho:∀b,H b=some (.own a)->H' b=some (.own a)) (ht:∀b z,Cst z->H b=some z->H' b=some z):ObjOk P w H' h' a o:=by
 induction o with
|lst xs=>obtain⟨z,its,n,r,e⟩:=x;exact⟨z,its,n,r,k _ _ (.inl rfl) e⟩
|tup xs=>obtain⟨z,its,r,ob,e,c⟩:=x;exact⟨z,its,r,ob,k _ _ (.inl rfl) e,c⟩
|dK kvs=>obtain⟨z,y,vs,r,ob,es,ep,e,c⟩:=x;exact⟨z,y,vs,r,ob,es,ep,k _ _ (.inl rfl) e,c⟩
|dT kvs=>
   obtain⟨z,y,xs,r,ob,es,ep,e,c⟩:=x;exact⟨z,y,xs,Paired.mapP r λp q z=>⟨z.1,ht _ _ trivial z.2.1,z.2.2⟩,ob,es,ep,k _ _ (.inl rfl) e,c⟩
|set S n=>obtain⟨ob,es,ep,t,e,c⟩:=x;exact⟨ob,es,ep,t,k _ _ (.inl rfl) e,c⟩
|ins C dx fs=>
   obtain⟨d,z,ne,e,mA,⟨od,es,ep,e2,c⟩,r⟩:=x;exact⟨ho _ d,z,ne,k _ _ (.inl rfl) e,mA,⟨od,es,ep,k _ _ (.inr d) e2,c⟩,r⟩
|own y=>obtain⟨ob,e⟩:=x;exact⟨ob,k _ _ (.inl rfl) e⟩
|xd fs=>obtain⟨mA,⟨od,es,ep,e,c⟩,r⟩:=x;exact⟨mA,⟨od,es,ep,k _ _ (.inl rfl) e,c⟩,r⟩
|rng lo hi=>obtain⟨t,u,v,e⟩:=x;exact⟨t,u,v,k _ _ (.inl rfl) e⟩
|frz ob u ih=>obtain⟨e,q⟩:=x;exact⟨k _ _ (.inl rfl) e,ih q⟩
|tbl ps=>obtain⟨qs,e,r,rc⟩:=x;exact⟨qs,k a _ (.inl rfl) e,r,λpos cv q=>let ⟨c',o,u,vs,t,q',e1,e2,e3⟩:=rc pos cv q;⟨c',o,u,vs,t,q',e1,ht _ _ trivial e2,e3⟩⟩
|met f y=>
   have e:h.get? a=some (PySem.W.methodObj (.ref f) (.ref y)):=x
   show h'.get? a=some (PySem.W.methodObj (.ref f) (.ref y))
   exact k a _ (.inl rfl) e
|ext φ=>obtain⟨p,⟨o,e⟩,st⟩:=x;exact⟨st _ _ p λo q=>k _ _ (.inl rfl) q,⟨o,k _ _ (.inl rfl) e⟩,st⟩
theorem HOk.lt (x:HOk P w H h)(e:H a=some o):a<h.objs.size:=(x a o e).lt
def HOk.fresh (x:HOk P w H h)(e:h.objs.size<=a):H a=none:=by
 cases q:H a with
|none=>rfl
|some u=>exact absurd (war (x.lt q) e) (waT _)
def HOk.kept (x:HOk P w H h)(k:∀b u,h.get? b=some u->h'.get? b=some u):HOk P w H h':=λa o e=>
 (x a o e).stay (λb u _ q=>k b u q) (λ_ q=>q) λ_ _ _ q=>q
def HOk.laid (x:HOk P w H h)(k:∀b u,h.get? b=some u->h'.get? b=some u)(hp:h.objs.size<=a)(new:ObjOk P w (upd H a o) h' a o):HOk P w (upd H a o) h':=λb u e=>by
 have hn:=x.fresh hp
 by_cases hb:b=a
 .subst hb;rw[zah] at e;cases e;exact new
 .rw[zak hb] at e;exact(x b u e).stay (λc v _ q=>k c v q) (λc q=>by rw[zak (za3 q hn)];exact q) λc xs _ q=>by rw[zak (za3 q hn)];exact q
end
def Rd (H:Hp)(a:Addr)(u:HO):Prop:=H a=some u\/∃o,H a=some (.frz o u)
def Rd.ok {P:Program}{w:World}{H:Hp}{h:Heap}{a:Addr}{u:HO}(r:Rd H a u)(x:HOk P w H h):ObjOk P w H h a u:=by
 rcases r with r|⟨o,r⟩
 .exact x a u r
 .obtain⟨_,q⟩:=x a _ r;exact q
def Mut:Option HO->Prop
|some (.lst _)=>True
|some (.dK _)=>True
|some (.dT _)=>True
|some (.set _ _)=>True
|some (.ins _ _ _)=>True
|some (.ext _)=>True
|_=>False
section
variable {P:Program}{w:World}{H:Hp}{h h':Heap}{x e:Addr}{o':HO}
def HOk.write (ok:HOk P w H h)(mu:Mut (H x))(he:e=x\/H e=some (.own x))(k:∀b u,b≠e->h.get? b=some u->h'.get? b=some u)(heo:∃u,h'.get? e=some u)
 (new:ObjOk P w (upd H x o') h' x o'):HOk P w (upd H x o') h':=λb u q=>by
 have nown:∀c y,H c=some (.own y)->c≠x:=λc y r z=>by subst z;rw[r] at mu;exact mu
 have ntup:∀c o,Cst o->H c=some o->c≠x:=λc o hc r z=>by subst z;rw[r] at mu;cases o <;> first|exact mu|exact hc
 by_cases hb:b=x
 .subst hb;rw[zah] at q;cases q;exact new
 .rw[zak hb] at q;by_cases hbe:b=e
  .have q':H b=some (.own x):=by
    rcases he with z|z
    .exact absurd (hbe.trans z) hb
    .rw[hbe];exact z
   rw[q] at q';cases q';obtain⟨v,hv⟩:=heo;exact⟨v,by rw[hbe];exact hv⟩
  .refine(ok b u q).stay (λc v hc r=>k c v ?_ r) (λc r=>by rw[zak (nown c b r)];exact r) λc xs hc r=>by rw[zak (ntup c xs hc r)];exact r
   rcases hc with rfl|hc
   .exact hbe
   .rintro rfl;rcases he with z|z
    .exact nown c b hc z
    .rw[hc] at z;cases z;exact hb rfl
end
structure Un (fs ex:List Addr)(H H':Hp)(h h':Heap):Prop where
 keep:∀b o,h.get? b=some o->H b=none->b∉fs->b∉ex->h'.get? b=some o
 slot:∀b o,h.get? b=some o->H b=none->b∈fs->b∉ex->∃sl,h'.get? b=some {o with slots:=sl}
 free:∀b o,h.get? b=some o->H b=none->b∉ex->H' b=none
 there:∀b o,h.get? b=some o->b∉ex->∃o',h'.get? b=some o'
 tups:∀b xs,H b=some (.tup xs)->H' b=some (.tup xs)
 frzs:∀b o u,H b=some (.frz o u)->H' b=some (.frz o u)
 tbls:∀b ps,H b=some (.tbl ps)->∃more,H' b=some (.tbl (ps++more))
section
variable {fs fs' ex ex':List Addr}{H H1 H2:Hp}{h h1 h2 h':Heap}{a x e:Addr}{o:HO}
def Un.any (u:Un fs ex H H1 h h1){b:Addr}{ob:Obj}(q:h.get? b=some ob)(n:H b=none)(hx:b∉ex):∃sl,h1.get? b=some {ob with slots:=sl}:=by
 by_cases hb:b∈fs
 .exact u.slot b ob q n hb hx
 .exact⟨ob.slots,u.keep b ob q n hb hx⟩
def Un.kept (k:∀b u,h.get? b=some u->h'.get? b=some u):Un fs ex H H h h':=
 ⟨λb ob q _ _ _=>k b ob q,λb ob q _ _ _=>⟨ob.slots,k b ob q⟩,λ_ _ _ n _=>n,λb ob q _=>⟨ob,k b ob q⟩,λ_ _ q=>q,λ_ _ _ q=>q,λ_ ps q=>⟨#[],by rw[q];simp⟩⟩
def Un.refl:Un fs ex H H h h:=Un.kept λ_ _ q=>q
def Un.laid (k:∀b u,h.get? b=some u->h'.get? b=some u)(hp:h.objs.size<=a)(hn:H a=none):Un fs ex H (upd H a o) h h' where
 keep:=λb u q _ _ _=>k b u q
 slot:=λb u q _ _ _=>⟨u.slots,k b u q⟩
 free:=λb u q n _=>by rw[zak (waB (war (was q) hp))];exact n
 there:=λb u q _=>⟨u,k b u q⟩
 tups:=λb xs q=>by rw[zak (za3 q hn)];exact q
 frzs:=λb u xs q=>by rw[zak (za3 q hn)];exact q
 tbls:=λb ps q=>⟨#[],by rw[zak (za3 q hn),q];simp⟩
def Un.write (mu:Mut (H x))(he:e=x\/H e=some (.own x))(k:∀b u,b≠e->h.get? b=some u->h'.get? b=some u)(heo:∃u,h'.get? e=some u):Un fs ex H (upd H x o) h h':=by
 have hx:∀b,H b=none->b≠x:=λb n z=>by subst z;rw[n] at mu;exact mu
 have hb:∀b,H b=none->b≠e:=λb n z=>by
  subst z;rcases he with r|r
  .exact hx b n r
  .rw[n] at r;cases r
 have hm:∀b u,H b=some u->¬Mut (some u)->b≠x:=λb u q nm z=>by subst z;rw[q] at mu;exact nm mu
 refine⟨λb u q n _ _=>k b u (hb b n) q,λb u q n _ _=>⟨u.slots,k b u (hb b n) q⟩,λb u q n _=>by rw[zak (hx b n)];exact n,λb u q _=>?_,
  λb xs q=>by rw[zak (hm b _ q λz=>z)];exact q,λb u xs q=>by rw[zak (hm b _ q λz=>z)];exact q,λb ps q=>⟨#[],by rw[zak (hm b _ q λz=>z),q];simp⟩⟩
 by_cases hbe:b=e
 .subst hbe;exact heo
 .exact⟨u,k b u hbe q⟩
end
def trk (h:Heap)(H:Hp):List Addr:=(List.range h.objs.size).filter λa=>(H a).isSome
def hidT (h:Heap)(H:Hp):Heap:=PySem.W.hideAll h (trk h H)
def ziq (h:Heap)(H:Hp):(hidT h H).objs.size=h.objs.size:=PySem.W.hideAll_size _ _
def zky {h:Heap}{H:Hp}{b:Addr}{o:Obj}(e:h.get? b=some o)(n:H b=none):(hidT h H).get? b=some o:=
 PySem.W.hideAll_get _ e λhm=>by
  have q:(H b).isSome=true:=(wce.mp hm).2
  rw[n] at q;simp at q
def zmL {h:Heap}{H:Hp}{b:Addr}{o:Obj}(e:(hidT h H).get? b=some o):h.get? b=some o/\H b=none:=by
 have e':h.get? b=some o:=PySem.W.of_hideAll (trk h H) e
 refine⟨e',?_⟩;cases q:H b with
|none=>rfl
|some x=>
   have hm:b∈trk h H:=wce.mpr ⟨wbr.mpr (was e'),by simp[q]⟩
   have z:(hidT h H).get? b=none:=PySem.W.hideAll_none (trk h H) hm
   rw[z] at e;cases e
structure Mod (K:W.Frag)(mg:Str->Option Value)(base:Heap):Prop where
 kin:K.In base
 glob:base.Ns mainGlobals mg
 blt:∃mb,base.Ns builtinsNs mb/\∀x:Str,x≠"__name__"->mb x=bootBuiltins x
 nolimit:base.NoLimit
structure Cx where
 prog:Program
 w:World
 K:W.Frag
 mg:Str->Option Value
 base:Heap
 A:Around
 N:List Str
 s₀:Shared
 Hz:Hp
 env:Env
 outer:List Env
 stack:List Env
 ex:List Addr
 fn:Str->Bool
 calm:Bool
 pn:List (Addr×Obj)
 xe:Value->Shared->Prop
def frs (l:List Env):List Addr:=l.filterMap (·.frame)
abbrev Cx.fs (X:Cx):List Addr:=frs X.outer
def Vis (sc:Scope)(x:Str):Prop:=sc.names.lookup x=some .local\/sc.names.lookup x=some .cell\/sc.names.lookup x=some .free
def Loc (sc:Scope)(x:Str):Prop:=sc.names.lookup x=some .local\/sc.names.lookup x=some .cell
def Look (env:Env)(h:Heap)(m:Str->Option Value)(x:Str)(u:Value):Prop:=
 (env.kindOf x=some .local/\m x=some u)\/((env.kindOf x=some .cell\/env.kindOf x=some .free)/\∃c,env.cells.lookup x=some c/\h.IsCell c (some u))
structure Cx.Ok (X:Cx):Prop where
 mod:Mod X.K X.mg X.base
 kind:X.env.scope.kind=.function
 glob:X.env.globals=mainGlobals
 blt:X.env.builtins=builtinsNs
 above:X.s₀.heap.objs.size<=X.env.locals
 inj:∀x y c,X.env.cells.lookup x=some c->X.env.cells.lookup y=some c->x=y
 has:∀x,(X.env.kindOf x=some .cell\/X.env.kindOf x=some .free)->∃c,X.env.cells.lookup x=some c
 cab:∀x c,X.fn x=true->X.env.cells.lookup x=some c->X.s₀.heap.objs.size<=c
 hd:X.calm=true->X.A.handled=none
 frames:X.A.frames=some X.stack
 stk:X.stack=X.outer\/(X.stack=X.env::X.outer/\X.env.frame=some X.env.locals)
 exf:∀b∈X.ex,b≠X.env.locals/\∀x c,X.env.cells.lookup x=some c->c≠b
 bs:∀b o,X.base.get? b=some o->X.s₀.heap.get? b=some o/\X.Hz b=none
 bsz:X.base.objs.size<=X.s₀.heap.objs.size
 noex:∀b o,X.base.get? b=some o->b∉X.ex
 exfs:∀b∈X.ex,b∉X.fs
 funs:X.s₀.heap.FunFrames X.base X.outer
 frf:∀b∈X.fs,X.Hz b=none
structure Inv (X:Cx)(pins:List (Addr×Obj))(Y:List (Option V))(H:Hp)(s:Shared):Prop where
 ok:X.Ok
 os:s.os=X.s₀.os
 bare:AllBare s.gens
 base:Un X.fs X.ex X.Hz H X.s₀.heap s.heap
 loc:∃m,s.heap.Ns X.env.locals m/\∀(i:Nat) (x:Str) (v:V),X.N[i]?=some x->Y[i]?=some (some v)->Vis X.env.scope x->∃u,RelV v u/\Look X.env s.heap m x u
 cell:∀x c,X.env.cells.lookup x=some c->∃v,s.heap.IsCell c v
 free:H X.env.locals=none
 freeC:∀x c,X.env.cells.lookup x=some c->H c=none
 pin:∀p∈X.pn++pins,s.heap.get? p.1=some p.2/\H p.1=none/\p.1≠X.env.locals/\p.1∉X.fs/\∀v,p.2.data≠.cell v
 hok:HOk X.prog X.w H s.heap
 len:Y.length=X.N.length
section
variable {X:Cx}{pins:List (Addr×Obj)}{Y:List (Option V)}{H H':Hp}{s:Shared}{h':Heap}
def Cx.Ok.nofr (ok:X.Ok){b:Addr}{o:Obj}(e:X.base.get? b=some o):b∉X.fs:=λhb=>by
 have:=(ok.funs.mem hb).1
 rw[e] at this;cases this
theorem Inv.bs (I:Inv X pins Y H s):∀b o,X.base.get? b=some o->s.heap.get? b=some o/\H b=none:=λb o e=>
 ⟨I.base.keep b o (I.ok.bs b o e).1 (I.ok.bs b o e).2 (I.ok.nofr e) (I.ok.noex b o e),I.base.free b o (I.ok.bs b o e).1 (I.ok.bs b o e).2 (I.ok.noex b o e)⟩
def Inv.bk (I:Inv X pins Y H s):∀b o,X.base.get? b=some o->s.heap.get? b=some o:=λb o e=>(I.bs b o e).1
theorem Inv.mod (I:Inv X pins Y H s):Mod X.K X.mg X.base:=I.ok.mod
def Inv.kIn (I:Inv X pins Y H s):X.K.In s.heap:=I.ok.mod.kin.keeps I.bk
theorem Inv.nolimit (I:Inv X pins Y H s):s.heap.NoLimit:=I.ok.mod.nolimit.keeps I.bk
theorem Inv.lt (I:Inv X pins Y H s):X.env.locals<s.heap.objs.size:=let ⟨_,hn,_⟩:=I.loc;hn.lt
def Inv.sz (I:Inv X pins Y H s):X.s₀.heap.objs.size<=s.heap.objs.size:=waq I.ok.above (wbp I.lt)
def Inv.nofs (I:Inv X pins Y H s){a:Addr}(h:s.heap.objs.size<=a):a∉X.fs:=λhb=>by
 obtain⟨_,o,ho,_⟩:=I.ok.funs.mem hb;exact absurd (war (was ho) (waq I.sz h)) (waT _)
def Inv.cne (I:Inv X pins Y H s):∀x c,X.env.cells.lookup x=some c->c≠X.env.locals:=λx c e z=>by
 obtain⟨v,o,ho,hd⟩:=I.cell x c e;obtain⟨m,⟨o',es,ep,ho',hd',_⟩,_⟩:=I.loc;rw[z,ho'] at ho;cases ho;rw[hd'] at hd;cases hd
theorem Inv.funs (I:Inv X pins Y H s):s.heap.FunFrames X.base X.outer:=by
 have all:∀(l:List Env),(∀b∈frs l,b∈X.fs)->X.s₀.heap.FunFrames X.base l->s.heap.FunFrames X.base l:=by
  intro l;induction l with
 |nil=>intro _ _;trivial
 |cons env r ih=>
    intro hs hl;obtain⟨hk,⟨L,o,hf,hn,ho,hd⟩,hr⟩:=hl;have hL:L∈X.fs:=hs L (by unfold frs;rw[wcf,hf];exact wai)
    obtain⟨sl,e⟩:=I.base.slot L o ho (I.ok.frf L hL) hL λz=>I.ok.exfs L z hL
    exact⟨hk,⟨L,_,hf,hn,e,hd⟩,ih (λb hb=>hs b (by unfold frs;rw[wcf,hf];exact wae _ hb)) hr⟩
 exact all X.outer (λ_ hb=>hb) I.ok.funs
theorem Inv.stack (I:Inv X pins Y H s):s.heap.FunFrames X.base X.stack:=by
 rcases I.ok.stk with e|⟨e,hf⟩
 .rw[e];exact I.funs
 .rw[e];obtain⟨m,hn,_⟩:=I.loc;refine .cons (by rw[I.ok.kind];decide) hf hn ?_ I.funs;exact Heap.get?_none_of_le (waq I.ok.bsz I.ok.above)
def Inv.stkSub (I:Inv X pins Y H s):∀b∈frs X.stack,b∈X.env.locals::X.fs:=λb hb=>by
 rcases I.ok.stk with e|⟨e,hf⟩
 .rw[e] at hb;exact wae _ hb
 .rw[e] at hb;unfold frs at hb;rw[wcf,hf] at hb;exact hb
def Inv.stkFree (I:Inv X pins Y H s):∀b∈frs X.stack,H b=none:=λb hb=>by
 rcases wak.mp (I.stkSub b hb) with e|hb
 .rw[e];exact I.free
 .obtain⟨_,o,ho,_⟩:=I.ok.funs.mem hb;exact I.base.free b o ho (I.ok.frf b hb) λz=>I.ok.exfs b z hb
def Inv.step {g':Array GenState}{t':Nat}{d':Drawn}{ch:List Addr}(I:Inv X pins Y H s)
 (hch:∀b∈ch,(b∈X.ex\/X.s₀.heap.objs.size<=b)/\b≠X.env.locals/\(∀x c,X.env.cells.lookup x=some c->c≠b)/\∀p∈X.pn++pins,p.1≠b)
 (keep:∀b o,b≠X.env.locals->b∉X.fs->b∉ch->s.heap.get? b=some o->H b=none->h'.get? b=some o)
 (slot:∀b o,b≠X.env.locals->b∈X.fs->b∉ch->s.heap.get? b=some o->H b=none->∃sl,h'.get? b=some {o with slots:=sl}) (free:∀b o,b∉ch->s.heap.get? b=some o->H b=none->H' b=none)
 (there:∀b o,b∉ch->s.heap.get? b=some o->∃o',h'.get? b=some o')
 (tups:∀b xs,H b=some (.tup xs)->H' b=some (.tup xs)) (frzs:∀b o u,H b=some (.frz o u)->H' b=some (.frz o u)) (tbls:∀b ps,H b=some (.tbl ps)->∃more,H' b=some (.tbl (ps++more)))
 (ns:∀m,s.heap.Ns X.env.locals m->h'.Ns X.env.locals m) (hok:HOk X.prog X.w H' h') (hg:AllBare g') :
 Inv X pins Y H' {s with heap:=h',gens:=g',drawn:=d',toks:=t'}:=by
 have neL:∀b o,X.s₀.heap.get? b=some o->b≠X.env.locals:=λb o e=>waB (war (was e) I.ok.above)
 have neC:∀b o,X.s₀.heap.get? b=some o->b∉X.ex->b∉ch:=λb o e hx hb=>by
  rcases(hch b hb).1 with z|z
  .exact hx z
  .exact absurd (war (was e) z) (waT _)
 have cellK:∀x c,X.env.cells.lookup x=some c->∀v,s.heap.IsCell c v->h'.IsCell c v:=λx c e v ⟨o,ho,hd⟩ =>by
  have nch:c∉ch:=λz=>(hch c z).2.2.1 x c e rfl
  by_cases hc:c∈X.fs
  .obtain⟨sl,q⟩:=slot c o (I.cne x c e) hc nch ho (I.freeC x c e);exact⟨_,q,hd⟩
  .exact⟨o,keep c o (I.cne x c e) hc nch ho (I.freeC x c e),hd⟩
 refine⟨I.ok,I.os,hg,⟨λb o e n hb hx=>?_,λb o e n hb hx=>?_,λb o e n hx=>?_,λb o e hx=>?_,λb xs e=>tups b xs (I.base.tups b xs e),λb o xs e=>frzs b o xs (I.base.frzs b o xs e),λb ps e=>?_⟩,?_,λx c e=>?_,?_,λx c e=>?_,λp hp=>?_,hok,I.len⟩
 .exact keep b o (neL b o e) hb (neC b o e hx) (I.base.keep b o e n hb hx) (I.base.free b o e n hx)
 .obtain⟨sl,e1⟩:=I.base.slot b o e n hb hx;obtain⟨sl',e2⟩:=slot b _ (neL b o e) hb (neC b o e hx) e1 (I.base.free b o e n hx);exact⟨sl',e2⟩
 .obtain⟨o',e1⟩:=I.base.there b o e hx;exact free b o' (neC b o e hx) e1 (I.base.free b o e n hx)
 .obtain⟨o',e1⟩:=I.base.there b o e hx;exact there b o' (neC b o e hx) e1
 .obtain⟨m1,e1⟩:=I.base.tbls b ps e;obtain⟨m2,e2⟩:=tbls b _ e1;exact⟨m1++m2,by rw[e2,Array.append_assoc]⟩
 .obtain⟨m,hn,hl⟩:=I.loc;refine⟨m,ns m hn,λi x v e1 e2 e3=>?_⟩;obtain⟨u,r,l⟩:=hl i x v e1 e2 e3;refine⟨u,r,?_⟩;rcases l with l|⟨k,c,e,z⟩
  .exact .inl l
  .exact .inr ⟨k,c,e,cellK x c e _ z⟩
 .obtain⟨v,z⟩:=I.cell x c e;exact⟨v,cellK x c e v z⟩
 .obtain⟨m,⟨o,_,_,ho,_⟩,_⟩:=I.loc;exact free _ o (λz=>(hch _ z).2.1 rfl) ho I.free
 .obtain⟨v,o,ho,hd⟩:=I.cell x c e;exact free c o (λz=>(hch c z).2.2.1 x c e rfl) ho (I.freeC x c e)
 .obtain⟨e,n,ne,nf,d⟩:=I.pin p hp;have nch:p.1∉ch:=λz=>(hch p.1 z).2.2.2 p hp rfl
  exact⟨keep p.1 p.2 ne nf nch e n,free p.1 p.2 nch e n,ne,nf,d⟩
def Inv.un {t':Nat}(I:Inv X pins Y H s)(u:Un X.fs [] H H' s.heap h')(hok:HOk X.prog X.w H' h'):Inv X pins Y H' {s with heap:=h',toks:=t'}:=by
 obtain⟨m,⟨o,es,ep,ho,r⟩,_⟩:=id I.loc;obtain⟨sl,hL⟩:=u.any ho I.free (by simp);exact I.step (g':=s.gens) (d':=s.drawn) (ch:=[]) (λ_ z=>nomatch z) (λb o _ hb _ e n=>u.keep b o e n hb (by simp)) (λb o _ hb _ e n=>u.slot b o e n hb (by simp)) (λb o _ e n=>u.free b o e n (by simp)) (λb o _ e=>u.there b o e (by simp)) u.tups u.frzs u.tbls (λm' hm=>by
  obtain⟨o',es',ep',ho',r'⟩:=hm;rw[ho] at ho';cases ho';exact⟨_,es',ep',hL,r'⟩) hok I.bare
def Inv.call {g':Array GenState}{t':Nat}{d':Drawn}{ch:List Addr}(I:Inv X pins Y H s)(u:Un (frs X.stack) ch H H' s.heap h')(hok:HOk X.prog X.w H' h')(hg:AllBare g')
 (hch:∀b∈ch,(b∈X.ex\/X.s₀.heap.objs.size<=b)/\b≠X.env.locals/\(∀x c,X.env.cells.lookup x=some c->c≠b)/\∀p∈X.pn++pins,p.1≠b) :
 Inv X pins Y H' {s with heap:=h',gens:=g',drawn:=d',toks:=t'}:=by
 obtain⟨m,⟨o,es,ep,ho,r⟩,_⟩:=id I.loc;obtain⟨sl,hL⟩:=u.any ho I.free λz=>(hch _ z).2.1 rfl
 exact I.step (ch:=ch) hch (λb o hL hb hc e n=>u.keep b o e n (λz=>(wak.mp (I.stkSub b z)).elim hL hb) hc) (λb o _ _ hc e n=>u.any e n hc) (λb o hc e n=>u.free b o e n hc) (λb o hc e=>u.there b o e hc) u.tups u.frzs u.tbls (λm' hm=>by
  obtain⟨o',es',ep',ho',r'⟩:=hm;rw[ho] at ho';cases ho';exact⟨_,es',ep',hL,r'⟩) hok hg
def Inv.turned {t':Nat}{it:Addr}(I:Inv X pins Y H s)(k:∀b o,b≠it->s.heap.get? b=some o->h'.get? b=some o)(hn:H it=none)(hL:it≠X.env.locals)
 (h1:it∈X.ex\/X.s₀.heap.objs.size<=it) (h2:∀x c,X.env.cells.lookup x=some c->c≠it) (h3:∀p∈X.pn++pins,p.1≠it):Inv X pins Y H {s with heap:=h',toks:=t'}:=by
 have nit:∀b u,H b=some u->b≠it:=λb u e z=>by rw[z,hn] at e;cases e
 refine I.step (g':=s.gens) (d':=s.drawn) (ch:=[it]) (λb hb=>?_) (λb o _ _ hc e _=>k b o (λz=>hc (by simp[z])) e) (λb o _ _ hc e _=>⟨o.slots,k b o (λz=>hc (by simp[z])) e⟩) (λ_ _ _ _ n=>n)
  (λb o hc e=>⟨o,k b o (λz=>hc (by simp[z])) e⟩) (λ_ _ e=>e) (λ_ _ _ e=>e) (λb ps e=>⟨#[],by rw[e];simp⟩) (λm hm=>?_) (λb u e=>?_) I.bare
 .have e:b=it:=by simpa using hb
  subst e;exact⟨h1,hL,h2,h3⟩
 .obtain⟨o,es,ep,ho,r⟩:=hm;exact⟨o,es,ep,k _ o (Ne.symm hL) ho,r⟩
 .refine(I.hok b u e).stay (λc v hc q=>k c v ?_ q) (λ_ q=>q) λ_ _ _ q=>q
  rcases hc with z|z
  .rw[z];exact nit b u e
  .exact nit c _ z
def Inv.tok (I:Inv X pins Y H s)(t:Nat):Inv X pins Y H {s with toks:=t}:=I.un (h':=s.heap) (t':=t) Un.refl I.hok
theorem Inv.kept {t':Nat}(I:Inv X pins Y H s)(k:∀b u,s.heap.get? b=some u->h'.get? b=some u):Inv X pins Y H {s with heap:=h',toks:=t'}:=I.un (Un.kept k) (I.hok.kept k)
theorem Inv.laid {a:Addr}{o:HO}{t':Nat}(I:Inv X pins Y H s)(k:∀b u,s.heap.get? b=some u->h'.get? b=some u)(hp:s.heap.objs.size<=a)(new:ObjOk X.prog X.w (upd H a o) h' a o) :
 Inv X pins Y (upd H a o) {s with heap:=h',toks:=t'}:=I.un (Un.laid k hp (I.hok.fresh hp)) (I.hok.laid k hp new)
theorem Inv.write {x e:Addr}{o:HO}{t':Nat}(I:Inv X pins Y H s)(mu:Mut (H x))(he:e=x\/H e=some (.own x))(k:∀b u,b≠e->s.heap.get? b=some u->h'.get? b=some u)(heo:∃u,h'.get? e=some u)
 (new:ObjOk X.prog X.w (upd H x o) h' x o):Inv X pins Y (upd H x o) {s with heap:=h',toks:=t'}:=I.un (Un.write mu he k heo) (I.hok.write mu he k heo new)
def Inv.pins_of {pins':List (Addr×Obj)}(I:Inv X pins Y H s)(h:∀p∈pins',s.heap.get? p.1=some p.2/\H p.1=none/\p.1≠X.env.locals/\p.1∉X.fs/\∀v,p.2.data≠.cell v):Inv X pins' Y H s:=
 ⟨I.ok,I.os,I.bare,I.base,I.loc,I.cell,I.free,I.freeC,λp hp=>(wax.mp hp).elim (λz=>I.pin p (wbd _ z)) (h p),I.hok,I.len⟩
def zg4 {N:List Str}(hN:N.Nodup){i j:Nat}{x:Str}(a:N[i]?=some x)(b:N[j]?=some x):i=j:=by
 obtain⟨h1,e1⟩:=waa.mp a;obtain⟨h2,e2⟩:=waa.mp b;exact(List.getElem_inj hN).mp (e1.trans e2.symm)
def zdX {M:Model}{A:Around}{E:Value->Shared->Prop}{i:Nat}{x:Str}{v:V}{u:Value}{Q:Unit->Shared->Prop}(I:Inv X pins Y H s)(hN:X.N.Nodup)(hi:X.N[i]?=some x)(hx:Loc X.env.scope x)(r:RelV v u)
 (h:∀s',Inv X pins (Y.set i (some v)) H s'->(∃a,Heap.SameBut a s.heap s'.heap/\(a=X.env.locals\/X.env.cells.lookup x=some a))->Q () s') (hf:X.fn x=true\/X.env.scope.names.lookup x=some .local:=by first|exact .inl rfl|exact .inr rfl|assumption):wpAny M A (storeName X.env x u) Q E s:=by
 obtain⟨m,hn,hl⟩:=id I.loc;have hcls:(X.env.scope.kind == .class||(X.env.scope.kind == .module&&X.env.locals != X.env.globals))=false:=by rw[I.ok.kind];rfl
 have hiσ:i<Y.length:=by rw[I.len];exact(waa.mp hi).1
 have cne:=I.cne
 have tracked:∀{a:Addr}{h':Heap},(∃o,s.heap.get? a=some o/\H a=none)->Heap.SameBut a s.heap h'->HOk X.prog X.w H h':=λ{a h'} ha hs b ob e=>by
  obtain⟨_,_,hfree⟩:=ha;refine(I.hok b ob e).stay (λc w' hc q=>(hs.2 c ?_).trans q) (λ_ q=>q) λ_ _ _ q=>q
  rintro rfl;rcases hc with rfl|hc
  .rw[hfree] at e;cases e
  .rw[hfree] at hc;cases hc
 rcases hx with hk|hk
 .refine wpAny_storeName_local hk hn (λh' hn' hs=>?_) hcls;obtain⟨oL,_,_,hoL,_⟩:=id hn;refine h _ ⟨I.ok,I.os,I.bare,⟨λb o e n hb hx=>?_,λb o e n hb hx=>?_,I.base.free,λb o e hx=>?_,I.base.tups,I.base.frzs,I.base.tbls⟩,⟨_,hn',λj y v' e1 e2 e3=>?_⟩,λy c e=>?_,I.free,I.freeC,λp hp=>?_,tracked ⟨oL,hoL,I.free⟩ hs,by simpa using I.len⟩ ⟨_,hs,.inl rfl⟩
  .exact(hs.2 b (waB (war (was e) I.ok.above))).trans (I.base.keep b o e n hb hx)
  .obtain⟨sl,e1⟩:=I.base.slot b o e n hb hx;exact⟨sl,(hs.2 b (waB (war (was e) I.ok.above))).trans e1⟩
  .obtain⟨o',e1⟩:=I.base.there b o e hx;exact⟨o',(hs.2 b (waB (war (was e) I.ok.above))).trans e1⟩
  .by_cases hj:j=i
   .subst hj;rw[hi] at e1;cases e1;rw[wam hiσ] at e2;cases e2;exact⟨u,r,.inl ⟨hk,by simp⟩⟩
   .rw[wah (Ne.symm hj)] at e2;obtain⟨u',r',q⟩:=hl j y v' e1 e2 e3;refine⟨u',r',?_⟩;rcases q with⟨k,e⟩|⟨k,c,e,z⟩
    .refine .inl ⟨k,?_⟩;have:y≠x:=λe=>hj (zg4 hN e1 (e▸hi))
     simp[this,e]
    .exact .inr ⟨k,c,e,z.sameBut hs (cne y c e)⟩
  .obtain⟨w',z⟩:=I.cell y c e;exact⟨w',z.sameBut hs (cne y c e)⟩
  .obtain⟨e,n,ne,nf,d⟩:=I.pin p hp;exact⟨(hs.2 p.1 ne).trans e,n,ne,nf,d⟩
 .have hfn:X.fn x=true:=by
   rcases hf with z|z
   .exact z
   .rw[z] at hk;cases hk
  obtain⟨c,hc⟩:=I.ok.has x (.inl hk);obtain⟨w',z⟩:=I.cell x c hc;refine wpAny_storeName_cell I.ok.kind hk hc z (λh' hc' hs=>?_);obtain⟨oc,hoc,hocd⟩:=id z;refine h {s with heap:=h'} ⟨I.ok,I.os,I.bare,⟨λb o e n hb hx=>?_,λb o e n hb hx=>?_,I.base.free,λb o e hx=>?_,I.base.tups,I.base.frzs,I.base.tbls⟩,⟨m,hn.sameBut hs (Ne.symm (cne x c hc)),λj y v' e1 e2 e3=>?_⟩,λy c' e=>?_,I.free,I.freeC,λp hp=>?_,tracked ⟨oc,hoc,I.freeC x c hc⟩ hs,by simpa using I.len⟩ ⟨c,hs,.inr hc⟩
  .exact(hs.2 b (waB (war (was e) (I.ok.cab x c hfn hc)))).trans (I.base.keep b o e n hb hx)
  .obtain⟨sl,e1⟩:=I.base.slot b o e n hb hx;exact⟨sl,(hs.2 b (waB (war (was e) (I.ok.cab x c hfn hc)))).trans e1⟩
  .obtain⟨o',e1⟩:=I.base.there b o e hx;exact⟨o',(hs.2 b (waB (war (was e) (I.ok.cab x c hfn hc)))).trans e1⟩
  .by_cases hj:j=i
   .subst hj;rw[hi] at e1;cases e1;rw[wam hiσ] at e2;cases e2;exact⟨u,r,.inr ⟨.inl hk,c,hc,hc'⟩⟩
   .rw[wah (Ne.symm hj)] at e2;obtain⟨u',r',q⟩:=hl j y v' e1 e2 e3;refine⟨u',r',?_⟩;rcases q with q|⟨k,c',e,z'⟩
    .exact .inl q
    .refine .inr ⟨k,c',e,z'.sameBut hs ?_⟩;rintro rfl;exact hj (zg4 hN e1 (I.ok.inj _ _ _ e hc▸hi))
  .by_cases hcc:c'=c
   .subst hcc;exact⟨_,hc'⟩
   .obtain⟨w2,z2⟩:=I.cell y c' e;exact⟨w2,z2.sameBut hs hcc⟩
  .obtain⟨e,n,ne,nf,d⟩:=I.pin p hp;refine⟨(hs.2 p.1 ?_).trans e,n,ne,nf,d⟩;intro q;rw[q,hoc] at e;have q':oc=p.2:=waw e
   exact d w' (by rw[<-q'];exact hocd)
def zdS {M:Model}{A:Around}{E:Value->Shared->Prop}{i:Nat}{x:Str}{v:V}{u:Value}{Q:Unit->Shared->Prop}(I:Inv X pins Y H s)(hN:X.N.Nodup)(hi:X.N[i]?=some x)(hx:Loc X.env.scope x)(r:RelV v u)
 (h:∀s',Inv X pins (Y.set i (some v)) H s'->Q () s') (hf:X.fn x=true\/X.env.scope.names.lookup x=some .local:=by first|exact .inl rfl|exact .inr rfl|assumption):wpAny M A (storeName X.env x u) Q E s:=
 zdX I hN hi hx r (λs' I' _=>h s' I') hf
def Inv.call' {s':Shared}{ch:List Addr}(I:Inv X pins Y H s)(ho:s'.os=s.os)(u:Un (frs X.stack) ch H H' s.heap s'.heap)(hok:HOk X.prog X.w H' s'.heap)(hg:AllBare s'.gens)
 (hch:∀b∈ch,(b∈X.ex\/X.s₀.heap.objs.size<=b)/\b≠X.env.locals/\(∀x c,X.env.cells.lookup x=some c->c≠b)/\∀p∈X.pn++pins,p.1≠b):Inv X pins Y H' s':=by
 obtain⟨h',g',d',t',o'⟩:=s';have e:o'=s.os:=ho
 subst e;exact I.call (g':=g') (t':=t') (d':=d') u hok hg hch
end
abbrev XK:=Value->Option Addr->Hp->Prop
abbrev St:=List (Option V)
abbrev VK:=V->Hp->Prop
abbrev TE:=St->Hp->VK->Prop
abbrev TT:=St->Hp->(Bool->Hp->Prop)->Prop
abbrev TA:=St->Hp->(List V->Hp->Prop)->Prop
structure Ends where
 nx:St->Hp->Prop
 rt:VK
 bk:St->Hp->Prop:=λ_ _=>False
 ct:St->Hp->Prop:=λ_ _=>False
abbrev TS:=Ends->St->Hp->Prop
def EP (X:Cx)(pins:List (Addr×Obj))(Y:St)(Q:VK)(u:Value)(s':Shared):Prop:=∃v H',Inv X pins Y H' s'/\RelV v u/\Q v H'
def TP (X:Cx)(pins:List (Addr×Obj))(Y:St)(Q:Bool->Hp->Prop)(b:Bool)(s':Shared):Prop:=∃H',Inv X pins Y H' s'/\Q b H'
def AP (X:Cx)(pins:List (Addr×Obj))(Y:St)(Q:List V->Hp->Prop)(us:List Value)(s':Shared):Prop:=∃vs H',Inv X pins Y H' s'/\Vals vs us/\Q vs H'
def SP (X:Cx)(pins:List (Addr×Obj))(D:Ends)(f:Flow)(s':Shared):Prop:=
 match f with
|.next=>∃Y' H',Inv X pins Y' H' s'/\D.nx Y' H'
|.brk=>∃Y' H',Inv X pins Y' H' s'/\D.bk Y' H'
|.cont=>∃Y' H',Inv X pins Y' H' s'/\D.ct Y' H'
|.ret u=>∃v Y' H',Inv X pins Y' H' s'/\RelV v u/\D.rt v H'
def PE (X:Cx)(e:Expr)(t:TE):Prop:=
 ∀(pins:List (Addr×Obj)) (s:Shared) (Y:St) (H:Hp) (Q:VK),Inv X pins Y H s->t Y H Q->wpAny (model X.prog X.w) X.A (eval e X.env) (EP X pins Y Q) X.xe s
def PT (X:Cx)(e:Expr)(t:TT):Prop:=
 ∀(pins:List (Addr×Obj)) (s:Shared) (Y:St) (H:Hp) (Q:Bool->Hp->Prop),Inv X pins Y H s->t Y H Q->wpAny (model X.prog X.w) X.A (isTrue e X.env (eval e X.env)) (TP X pins Y Q) X.xe s
def PW (X:Cx)(e:Expr)(t:TT):Prop:=
 ∀(whole:Sem Value) (pins:List (Addr×Obj)) (s:Shared) (Y:St) (H:Hp) (Q:Bool->Hp->Prop),Inv X pins Y H s->t Y H Q->wpAny (model X.prog X.w) X.A (isTrue e X.env whole) (TP X pins Y Q) X.xe s
def PW.pt {X:Cx}{e:Expr}{t:TT}(h:PW X e t):PT X e t:=h _
def PA (X:Cx)(es:List Expr)(t:TA):Prop:=
 ∀(pos:Pos) (pins:List (Addr×Obj)) (s:Shared) (Y:St) (H:Hp) (Q:List V->Hp->Prop),Inv X pins Y H s->t Y H Q->wpAny (model X.prog X.w) X.A (spliced (backTo pos (starEach es X.env))) (AP X pins Y Q) X.xe s
def PS (X:Cx)(st:Stmt)(t:TS):Prop:=
 ∀(pins:List (Addr×Obj)) (s:Shared) (Y:St) (H:Hp) (D:Ends),Inv X pins Y H s->t D Y H->wpAny (model X.prog X.w) X.A (exec st X.env) (SP X pins D) X.xe s
def PSs (X:Cx)(st:List Stmt)(t:TS):Prop:=
 ∀(pins:List (Addr×Obj)) (s:Shared) (Y:St) (H:Hp) (D:Ends),Inv X pins Y H s->t D Y H->wpAny (model X.prog X.w) X.A (execs st X.env) (SP X pins D) X.xe s
def thn {α:Type}{t:Sem α}{Q Q':α->Shared->Prop}{M:Model}{A:Around}{E:Value->Shared->Prop}{s:Shared}(h:wpAny M A t Q E s)(hQ:∀a s,Q a s->Q' a s):wpAny M A t Q' E s:=waA h hQ λ_ _ x=>x
section
variable {X:Cx}
def bin {a b:Expr}{ta tb:TE}(ha:PE X a ta)(hb:PE X b tb){pins:List (Addr×Obj)}{s:Shared}{Y:St}{H:Hp}{R:V->V->Hp->Prop}(I:Inv X pins Y H s)(h:ta Y H λx H1=>tb Y H1 λy H2=>R x y H2)
 {α:Type}{Q:α->Shared->Prop}{f:Value->Value->Sem α}
 (hf:∀v u s2 x y H2,Inv X pins Y H2 s2->RelV x v->RelV y u->R x y H2->wpAny (model X.prog X.w) X.A (f v u) Q X.xe s2) :
 wpAny (model X.prog X.w) X.A (eval a X.env) (λv s₁=>wpAny (model X.prog X.w) X.A (eval b X.env) (λu s₂=>wpAny (model X.prog X.w) X.A (f v u) Q X.xe s₂) X.xe s₁) X.xe s:=by
 refine thn (ha pins s Y H _ I h) λv s1 ⟨x,H1,I1,r1,q1⟩ =>?_
 refine thn (hb pins s1 Y H1 _ I1 q1) λu s2 ⟨y,H2,I2,r2,q2⟩ =>?_
 exact hf v u s2 x y H2 I2 r1 r2 q2
def tVar (i:Nat):TE:=λY H Q=>∃v,Y[i]?=some (some v)/\Q v H
def tC (v:V):TE:=λ_ H Q=>Q v H
def zbT {i:Nat}{x:Str}{pos:Pos}(hN:X.N[i]?=some x)(hv:Vis X.env.scope x)(hd:(x == ("__debug__" : Str))=false:=by decide)(hcd:(x == ("__classdict__" : Str))=false:=by decide):PE X (.Name x pos) (tVar i):=by
 intro pins s Y H Q I h;obtain⟨v,e,h⟩:=h;obtain⟨m,hn,hl⟩:=I.loc;obtain⟨u,r,l⟩:=hl i x v hN e hv;have fin:EP X pins Y Q u s:=⟨v,H,I,r,h⟩
 rcases l with⟨hk,hm⟩|⟨hk,c,hc,hcell⟩
 .exact wpAny_Name (wpAny_loadName_local I.ok.kind hk hn hm fin) hd
 .rcases hk with hk|hk
  .exact wpAny_Name (wpAny_loadName_cell I.ok.kind hk hc hcell fin) hd
  .exact wpAny_Name (wpAny_loadName_free I.ok.kind hk hc hcell fin hcd) hd
def zos {i j pos}:PE X (.Constant (.int i) j pos) (tC (.int i)):=λ_ _ _ H _ I h=>wpAny_Constant_int ⟨.int i,H,I.tok _,⟨_,rfl⟩,h⟩
def zqq {b j pos}:PE X (.Constant (.bool b) j pos) (tC (.bl b)):=λ_ _ _ H _ I h=>Constant_bool ⟨.bl b,H,I,rfl,h⟩
def zot {j pos}:PE X (.Constant .none j pos) (tC .non):=λ_ _ _ H _ I h=>Constant_none ⟨.non,H,I,rfl,h⟩
def zou {x j pos}:PE X (.Constant (.str x) j pos) (tC (.str x)):=λ_ _ _ H _ I h=>Calls.Constant_str ⟨.str x,H,I.tok _,⟨_,rfl⟩,h⟩
def Gl (X:Cx)(x:Str):Prop:=X.env.kindOf x=some .globalImplicit
def zeZ {E:Value->Shared->Prop}{pins:List (Addr×Obj)}{s:Shared}{Y:St}{H:Hp}{x:Str}{u:Value}{pos:Pos}{Q:Value->Shared->Prop}(I:Inv X pins Y H s)(hg:Gl X x)(hm:X.mg x=some u)(h:Q u s)
 (hd:(x == ("__debug__" : Str))=false:=by decide):wpAny (model X.prog X.w) X.A (eval (.Name x pos) X.env) Q E s:=
 Calls.Name_function_global I.ok.kind hg (Calls.loadGlobal_global (by rw[I.ok.glob];exact I.mod.glob.keeps I.bk) hm h) hd
def zcY {E:Value->Shared->Prop}{pins:List (Addr×Obj)}{s:Shared}{Y:St}{H:Hp}{x:Str}{u:Value}{pos:Pos}{Q:Value->Shared->Prop}(I:Inv X pins Y H s)(hg:Gl X x)(hm:X.mg x=none)(hv:bootBuiltins x=some u)(h:Q u s)
 (hn:x≠"__name__":=by decide) (hd:(x == ("__debug__" : Str))=false:=by decide):wpAny (model X.prog X.w) X.A (eval (.Name x pos) X.env) Q E s:=by
 obtain⟨mb,h1,h2⟩:=I.mod.blt;exact Calls.Name_function_global I.ok.kind hg (Calls.loadGlobal_builtin (by rw[I.ok.glob];exact I.mod.glob.keeps I.bk) hm (by rw[I.ok.blt];exact h1.keeps I.bk) ((h2 x hn).trans hv) h) hd
def zmM {x:Str}{v:V}{u:Value}{pos:Pos}(hg:Gl X x)(hm:X.mg x=some u)(r:RelV v u)(hd:(x == ("__debug__" : Str))=false:=by decide):PE X (.Name x pos) (tC v):=
 λ_ _ _ H _ I h=>zeZ I hg hm ⟨v,H,I,r,h⟩ hd
def zmN {x:Str}{v:V}{u:Value}{pos:Pos}(hg:Gl X x)(hm:X.mg x=none)(hv:bootBuiltins x=some u)(r:RelV v u)(hn:x≠"__name__":=by decide)(hd:(x == ("__debug__" : Str))=false:=by decide):PE X (.Name x pos) (tC v):=
 λ_ _ _ H _ I h=>zcY I hg hm hv ⟨v,H,I,r,h⟩ hn hd
variable {a b:Expr}{ta tb:TE}{pos:Pos}
variable {tA tB':TT}{rest:List Expr}
def tAnd (t u:TT):TT:=λY H Q=>t Y H λc H1=>if c=true then u Y H1 Q else Q false H1
def tOr (t u:TT):TT:=λY H Q=>t Y H λc H1=>if c=true then Q true H1 else u Y H1 Q
def tNot (t:TT):TT:=λY H Q=>t Y H λc H1=>Q (!c) H1
def zmO (ha:PT X a tA):PW X (.BoolOp .And [a] pos) tA:=by
 intro wh pins s Y H Q I h;refine isTrue_and (thn (ha pins s Y H Q I h) λc s1 e=>?_);cases c with
|true=>exact isTrue_and_nil e
|false=>exact e
def zov (ha:PT X a tA):PW X (.BoolOp .Or [a] pos) tA:=by
 intro wh pins s Y H Q I h;refine isTrue_or (thn (ha pins s Y H Q I h) λc s1 e=>?_);cases c with
|false=>exact isTrue_or_nil e
|true=>exact e
def zow (ha:PT X a tA)(hb:PW X (.BoolOp .And (b::rest) pos) tB'):PW X (.BoolOp .And (a::b::rest) pos) (tAnd tA tB'):=by
 intro wh pins s Y H Q I h;refine isTrue_and (thn (ha pins s Y H _ I h) λc s1 ⟨H1,I1,q1⟩ =>?_);cases c with
|true=>exact hb wh pins s1 Y H1 Q I1 q1
|false=>exact⟨H1,I1,q1⟩
def zqr (ha:PT X a tA)(hb:PW X (.BoolOp .Or (b::rest) pos) tB'):PW X (.BoolOp .Or (a::b::rest) pos) (tOr tA tB'):=by
 intro wh pins s Y H Q I h;refine isTrue_or (thn (ha pins s Y H _ I h) λc s1 ⟨H1,I1,q1⟩ =>?_);cases c with
|true=>exact⟨H1,I1,q1⟩
|false=>exact hb wh pins s1 Y H1 Q I1 q1
def zox (ha:PT X a tA):PT X (.UnaryOp .Not a pos) (tNot tA):=by
 intro pins s Y H Q I h;exact isTrue_not (ha pins s Y H (λc H1=>Q (!c) H1) I h)
def zqs (ta tb:TE):TE:=λY H Q=>ta Y H λx H1=>∃c,x=.bl c/\if c=true then tb Y H1 Q else Q (.bl false) H1
def tOrV (ta tb:TE):TE:=λY H Q=>ta Y H λx H1=>∃c,x=.bl c/\if c=true then Q (.bl true) H1 else tb Y H1 Q
def zqt (ta:TE):TE:=λY H Q=>ta Y H λx H1=>∃c,x=.bl c/\Q (.bl (!c)) H1
def zoy {op}{t:TE}(h:PE X a t):PE X (.BoolOp op [a] pos) t:=λpins s Y H Q I hw=>BoolOp_one (h pins s Y H Q I hw)
def zoz (ha:PE X a ta)(hb:PE X (.BoolOp .And (b::rest) pos) tb):PE X (.BoolOp .And (a::b::rest) pos) (zqs ta tb):=by
 intro pins s Y H Q I h;refine BoolOp_and (thn (ha pins s Y H _ I h) λv s1 ⟨x,H1,I1,r1,q1⟩ =>?_);obtain⟨c,rfl,q1⟩:=q1;cases r1;refine wbm ?_;cases c with
|true=>exact hb pins s1 Y H1 Q I1 q1
|false=>exact⟨.bl false,H1,I1,rfl,q1⟩
def zqu (ha:PE X a ta)(hb:PE X (.BoolOp .Or (b::rest) pos) tb):PE X (.BoolOp .Or (a::b::rest) pos) (tOrV ta tb):=by
 intro pins s Y H Q I h;refine BoolOp_or (thn (ha pins s Y H _ I h) λv s1 ⟨x,H1,I1,r1,q1⟩ =>?_);obtain⟨c,rfl,q1⟩:=q1;cases r1;refine wbm ?_;cases c with
|false=>exact hb pins s1 Y H1 Q I1 q1
|true=>exact⟨.bl true,H1,I1,rfl,q1⟩
def zoA (ha:PE X a ta):PE X (.UnaryOp .Not a pos) (zqt ta):=by
 intro pins s Y H Q I h;refine UnaryOp_ (thn (ha pins s Y H _ I h) λv s1 ⟨x,H1,I1,r1,q1⟩ =>?_);obtain⟨c,rfl,q1⟩:=q1;cases r1;exact not_of (wbm ⟨.bl (!c),H1,I1,rfl,q1⟩)
end
def SqL (K:W.Frag)(H:Hp)(a:Addr)(xs:List V):Prop:=
 Rd H a (.lst xs)\/
  ∃(o:Obj) (its:Array Value) (n:Nat),K.lookup a=some o/\o.cls=.type "list"/\o.dict=none/\o.data=.seq its n/\its.size<=sizeLine/\Vals xs its.toList
def SqT (K:W.Frag)(H:Hp)(a:Addr)(xs:List V):Prop:=
 Rd H a (.tup xs)\/
  ∃(o:Obj) (its:Array Value) (n:Nat),K.lookup a=some o/\o.cls=.type "tuple"/\o.data=.seq its n/\its.size<=sizeLine/\Vals xs its.toList
def absV:Value->Option V
|.none=>some .non
|.bool b=>some (.bl b)
|.int i _=>some (.int i)
|.str x _=>some (.str x)
|.bytes b _=>some (.byt b)
|.float b _=>some (.flt b)
|.ref a=>some (.ref a)
|.type n=>some (.ty n)
|_=>none
def RelV.abs {x:V}{u:Value}(r:RelV x u):absV u=some x:=by
 cases x with
|non=>cases r;rfl
|bl _=>cases r;rfl
|int _=>obtain⟨t,rfl⟩:=r;rfl
|str _=>obtain⟨t,rfl⟩:=r;rfl
|byt _=>obtain⟨t,rfl⟩:=r;rfl
|flt _=>obtain⟨t,rfl⟩:=r;rfl
|ref _=>cases r;rfl
|ty _=>cases r;rfl
def RelV.inj {x y:V}{u:Value}(r:RelV x u)(q:RelV y u):x=y:=waw (r.abs.symm.trans q.abs)
theorem Vals.inj:∀{xs ys:List V}{us:List Value},Vals xs us->Vals ys us->xs=ys
|_,_,_,.nil,.nil=>rfl
|_,_,_,.cons r t,.cons r' t'=>by rw[r.inj r',Vals.inj t t']
section
variable {X:Cx}{pins:List (Addr×Obj)}{Y:St}{H:Hp}{s:Shared}{a:Addr}{xs ys:List V}
def SqL.of {K:W.Frag}(h:H a=some (.lst xs)):SqL K H a xs:=.inl (.inl h)
def SqT.of {K:W.Frag}(h:H a=some (.tup xs)):SqT K H a xs:=.inl (.inl h)
def Inv.list (I:Inv X pins Y H s)(h:SqL X.K H a xs):∃its:List Value,Vals xs its/\PlainL s.heap a its.toArray/\xs.length<=sizeLine:=by
 rcases h with h|⟨o,its,n,hk,hc,hd,hs,hz,r⟩
 .obtain⟨z,its,n,r,e⟩:=h.ok I.hok;exact⟨its,r,⟨_,n,e,rfl,rfl,rfl⟩,z⟩
 .refine⟨its.toList,r,⟨o,n,I.kIn a o hk,hc,hd,by simpa using hs⟩,?_⟩;have e:=r.length
  simp only[wcg] at e;omega
def Inv.tuple (I:Inv X pins Y H s)(h:SqT X.K H a xs):∃its:List Value,Vals xs its/\IsTup s.heap a its.toArray/\xs.length<=sizeLine:=by
 rcases h with h|⟨o,its,n,hk,hc,hs,hz,r⟩
 .obtain⟨z,its,r,p⟩:=h.ok I.hok;exact⟨its,r,p,z⟩
 .refine⟨its.toList,r,⟨o,I.kIn a o hk,hc,n,by simpa using hs⟩,?_⟩;have e:=r.length
  simp only[wcg] at e;omega
def Inv.list_inj (I:Inv X pins Y H s)(h:SqL X.K H a xs)(h':SqL X.K H a ys):xs=ys:=by
 obtain⟨its,r,⟨o,n,e,_,_,d⟩,_⟩:=I.list h;obtain⟨its',r',⟨o',n',e',_,_,d'⟩,_⟩:=I.list h';rw[e] at e';cases e';rw[d] at d';injection d' with d1 _
 have:its=its':=by simpa using wba Array.toList d1
 subst this;exact r.inj r'
def Inv.tuple_inj (I:Inv X pins Y H s)(h:SqT X.K H a xs)(h':SqT X.K H a ys):xs=ys:=by
 obtain⟨its,r,⟨o,e,_,n,d⟩,_⟩:=I.tuple h;obtain⟨its',r',⟨o',e',_,n',d'⟩,_⟩:=I.tuple h';rw[e] at e';cases e';rw[d] at d';injection d' with d1 _
 have:its=its':=by simpa using wba Array.toList d1
 subst this;exact r.inj r'
end
abbrev Cx.wish (X:Cx)(E:Value->Shared->Prop):Cx:={X with xe:=E}
abbrev Cx.nox (X:Cx):Cx:=X.wish λ_ _=>False
theorem Cx.Ok.wish {X:Cx}(ok:X.Ok)(E:Value->Shared->Prop):(X.wish E).Ok:=
 ⟨ok.mod,ok.kind,ok.glob,ok.blt,ok.above,ok.inj,ok.has,ok.cab,ok.hd,ok.frames,ok.stk,ok.exf,ok.bs,ok.bsz,ok.noex,ok.exfs,ok.funs,ok.frf⟩
def Cx.Ok.unwish {X:Cx}{E:Value->Shared->Prop}(ok:(X.wish E).Ok):X.Ok:=
 ⟨ok.mod,ok.kind,ok.glob,ok.blt,ok.above,ok.inj,ok.has,ok.cab,ok.hd,ok.frames,ok.stk,ok.exf,ok.bs,ok.bsz,ok.noex,ok.exfs,ok.funs,ok.frf⟩
section
variable {X:Cx}{pins:List (Addr×Obj)}{Y:St}{H:Hp}{s:Shared}{E:Value->Shared->Prop}
theorem Inv.wish (I:Inv X pins Y H s)(E:Value->Shared->Prop):Inv (X.wish E) pins Y H s:=⟨I.ok.wish E,I.os,I.bare,I.base,I.loc,I.cell,I.free,I.freeC,I.pin,I.hok,I.len⟩
theorem Inv.unwish (I:Inv (X.wish E) pins Y H s):Inv X pins Y H s:=⟨I.ok.unwish,I.os,I.bare,I.base,I.loc,I.cell,I.free,I.freeC,I.pin,I.hok,I.len⟩
theorem SP.unwish {D:Ends}{f:Flow}{s':Shared}(h:SP (X.wish E) pins D f s'):SP X pins D f s':=by
 cases f with
|next=>obtain⟨Y',H',I,q⟩:=h;exact⟨Y',H',I.unwish,q⟩
|brk=>obtain⟨Y',H',I,q⟩:=h;exact⟨Y',H',I.unwish,q⟩
|cont=>obtain⟨Y',H',I,q⟩:=h;exact⟨Y',H',I.unwish,q⟩
|ret u=>obtain⟨v,Y',H',I,r,q⟩:=h;exact⟨v,Y',H',I.unwish,r,q⟩
theorem PSs.nox {st:List Stmt}{t:TS}(h:PSs X.nox st t):PSs X st t:=λpins s Y H D I hw=>
 waA (h pins s Y H D (I.wish _) hw) (λ_ _ q=>q.unwish) λ_ _ z=>False.elim z
end
section
variable {X:Cx}{st:Stmt}{rest:List Stmt}{t u:TS}{e:Expr}{te:TE}{pos:Pos}
def zqv:TS:=λD Y H=>D.nx Y H
def tSeq (t u:TS):TS:=λD Y H=>t {D with nx:=u D} Y H
def zmP:PSs X [] zqv:=λ_ _ Y H _ I h=>wch ⟨Y,H,I,h⟩
def zkz (h1:PS X st t)(h2:PSs X rest u):PSs X (st::rest) (tSeq t u):=by
 intro pins s Y H D I h;refine wpAny_execs_cons (thn (h1 pins s Y H {D with nx:=u D} I h) λf s1 q=>?_);cases f with
|next=>
   obtain⟨Y',H',I',q⟩:=q;exact h2 pins s1 Y' H' D I' q
|ret v=>exact q
|brk=>exact q
|cont=>exact q
def zmQ (h1:PS X st t):PSs X [st] t:=by
 intro pins s Y H D I h;refine wpAny_execs_cons (thn (h1 pins s Y H D I h) λf s1 q=>?_);cases f with
|next=>exact wch q
|ret v=>exact q
|brk=>exact q
|cont=>exact q
def zqw:TS:=λD Y H=>D.ct Y H
def zgt:PS X (.Continue pos) zqw:=λ_ _ Y H _ I h=>wpAny_Continue ⟨Y,H,I,h⟩
def Inv.quiet {pins:List (Addr×Obj)}{Y:St}{H:Hp}{s:Shared}(I:Inv X pins Y H s):interactive X.env=false:=by simp[interactive,I.ok.kind]
def zkA (te:TE):TS:=λD Y H=>te Y H λ_ H1=>D.nx Y H1
def zdY (he:PE X e te)(hs:swapsWith e none pos.line X.env=pure false:=by rfl):PS X (.Expr e pos) (zkA te):=by
 intro pins s Y H D I h;exact wpAny_Expr_any (thn (he pins s Y H _ I h) λv s1 ⟨x,H1,I1,r1,q1⟩ =>⟨Y,H1,I1,q1⟩) I.quiet hs
def tRet (te:TE):TS:=λD Y H=>te Y H D.rt
def zg5 (he:PE X e te):PS X (.Return (some e) pos) (tRet te):=by
 intro pins s Y H D I h;exact wpAny_Return_some (thn (he pins s Y H _ I h) λv s1 ⟨x,H1,I1,r1,q1⟩ =>⟨x,Y,H1,I1,r1,q1⟩)
def tIfS (c:TT)(t u:TS):TS:=λD Y H=>c Y H λb H1=>if b=true then t D Y H1 else u D Y H1
def zoB {c:Expr}{a b:List Stmt}{tc:TT}(hc:PT X c tc)(ha:PSs X a t)(hb:PSs X b u):PS X (.If c a b pos) (tIfS tc t u):=by
 intro pins s Y H D I h;refine wpAny_If (thn (hc pins s Y H _ I h) λd s1 ⟨H1,I1,q1⟩ =>?_);cases d with
|true=>exact ha pins s1 Y H1 D I1 q1
|false=>exact hb pins s1 Y H1 D I1 q1
def zl4:TS:=λ_ _ _=>False
def zkB:PS X st zl4:=λ_ _ _ _ _ _ h=>h.elim
def zir {sts:List Stmt}:PSs X sts zl4:=λ_ _ _ _ _ _ h=>h.elim
end
abbrev TG:=V->St->Hp->(St->Hp->Prop)->Prop
abbrev TGs:=List V->St->Hp->(St->Hp->Prop)->Prop
def PG (X:Cx)(target:Expr)(t:TG):Prop:=
 ∀(pins:List (Addr×Obj)) (s:Shared) (Y:St) (H:Hp) (v:V) (u:Value) (Q:St->Hp->Prop),Inv X pins Y H s->RelV v u->t v Y H Q->
  wpAny (model X.prog X.w) X.A (assign target X.env u) (λ_ s'=>∃Y' H',Inv X pins Y' H' s'/\Q Y' H') X.xe s
def PGs (X:Cx)(ts:List Expr)(t:TGs):Prop:=
 ∀(pins:List (Addr×Obj)) (s:Shared) (Y:St) (H:Hp) (vs:List V) (us:List Value) (Q:St->Hp->Prop),Inv X pins Y H s->Vals vs us->t vs Y H Q->
  wpAny (model X.prog X.w) X.A (assignInOrder ((assignEach ts X.env).map (·.2)) us) (λ_ s'=>∃Y' H',Inv X pins Y' H' s'/\Q Y' H') X.xe s
abbrev TSet:=V->V->V->Hp->(Hp->Prop)->Prop
def PSet (X:Cx)(t:TSet):Prop:=
 ∀(pins:List (Addr×Obj)) (s:Shared) (Y:St) (H:Hp) (o i v:V) (ov iv u:Value) (Q:Hp->Prop),Inv X pins Y H s->RelV o ov->RelV i iv->RelV v u->t o i v H Q->
  wpAny (model X.prog X.w) X.A (setItem ov iv u) (λ_ s'=>∃H',Inv X pins Y H' s'/\Q H') X.xe s
section
variable {X:Cx}{pos:Pos}
def zdL (i:Nat):TG:=λv Y H Q=>Q (Y.set i (some v)) H
def zgu {i:Nat}{x:Str}(hN:X.N.Nodup)(hi:X.N[i]?=some x)(hx:Loc X.env.scope x)(hf:X.fn x=true\/X.env.scope.names.lookup x=some .local:=by first|exact .inl rfl|exact .inr rfl|assumption):PG X (.Name x pos) (zdL i):=by
 intro pins s Y H v u Q I r h;exact wpAny_assign_Name (zdS I hN hi hx r (λs' I'=>⟨_,H,I',h⟩) hf)
def gNil:TGs:=λvs Y H Q=>vs = []/\Q Y H
def zoC (t:TG)(u:TGs):TGs:=λvs Y H Q=>∃v r,vs=v::r/\t v Y H λY' H'=>u r Y' H' Q
def zmR:PGs X [] gNil:=by
 intro pins s Y H vs us Q I r h;obtain⟨e,h⟩:=h;subst e;cases r;exact assignInOrder_nil ⟨Y,H,I,h⟩
def zkC {e:Expr}{es:List Expr}{t:TG}{u:TGs}(h1:PG X e t)(h2:PGs X es u)
 (hs:(assignEach (e::es) X.env).map (·.2)=assign e X.env::(assignEach es X.env).map (·.2):=by rfl):PGs X (e::es) (zoC t u):=by
 intro pins s Y H vs us Q I r h;obtain⟨v,vr,e1,h⟩:=h;subst e1;cases r with
|cons r rr=>
   rw[hs];refine assignInOrder_cons (thn (h1 pins s Y H _ _ _ I r h) λ_ s1 ⟨Y1,H1,I1,q1⟩ =>?_);exact h2 pins s1 Y1 H1 _ _ Q I1 rr q1
def gTup (K:W.Frag)(n:Nat)(t:TGs):TG:=λv Y H Q=>∃a xs,v=.ref a/\SqT K H a xs/\xs.length=n/\t xs Y H Q
def zoD {es:List Expr}{k:Nat}{t:TGs}{n:Nat}(hc:X.calm=true)(h:PGs X es t)
 (hn:(assignEach es X.env).length=n:=by rfl) (hst:(assignEach es X.env).findIdx? (·.1)=none:=by rfl):PG X (.Tuple es k pos) (gTup X.K n t):=by
 intro pins s Y H v u Q I r hw;obtain⟨a,xs,e1,hq,hl,hw⟩:=hw;subst e1;cases r;obtain⟨its,rv,ht,hz⟩:=I.tuple hq;refine assign_Tuple_tuple (I.ok.hd hc) ht (by simp[hn,<-hl,rv.length]) hst λh' hx=>?_
 have I1:Inv X pins Y H {s with heap:=h'}:=I.kept (t':=s.toks) λb o e=>hx b o (waB (was e)) e
 exact h pins _ Y H xs _ Q I1 (by simpa using rv) hw
def gSub (to ti:TE)(t:TSet):TG:=λv Y H Q=>to Y H λo H1=>ti Y H1 λi H2=>t o i v H2 λH3=>Q Y H3
def zis {o i:Expr}{to ti:TE}{t:TSet}(ho:PE X o to)(hi:PE X i ti)(hs:PSet X t)
 (ha:∀v,assign (.Subscript o i pos) X.env v=(do
  let ov <-holding [v] (eval o X.env)
  let iv <-holding [v,ov] (eval i X.env)
  standAt pos
  holding [v,ov,iv] (setItem ov iv v)
  release [v,ov,iv] []):=by intro _;rfl):PG X (.Subscript o i pos) (gSub to ti t):=by
 intro pins s Y H v u Q I r h;rw[ha];refine wab (wby (thn (ho pins s Y H _ I h) λov s1 ⟨x,H1,I1,r1,q1⟩ =>?_));refine wab (wby (thn (hi pins s1 Y H1 _ I1 q1) λiv s2 ⟨y,H2,I2,r2,q2⟩ =>?_));refine wab (wbk (wab (wby (thn (hs pins s2 Y H2 x y v ov iv u _ I2 r1 r2 r q2) λ_ s3 ⟨H3,I3,q3⟩ =>?_))));exact wpAny_release ⟨Y,H3,I3,q3⟩
def tAsg (te:TE)(g:TG):TS:=λD Y H=>te Y H λx H1=>g x Y H1 D.nx
def zg6 {tg e:Expr}{te:TE}{g:TG}(he:PE X e te)(hg:PG X tg g)(hs:swapsWithSole [tg] e pos.line X.env=pure false:=by rfl)(hw:swappedStores [tg] e X.env=pure none:=by rfl)
 (h1:(assignEach [tg] X.env).map (·.2) = [assign tg X.env]:=by rfl):PS X (.Assign [tg] e pos) (tAsg te g):=by
 intro pins s Y H D I h;refine wpAny_Assign_stores (thn (he pins s Y H _ I h) λv s1 ⟨x,H1,I1,r1,q1⟩ =>?_) hs hw;rw[h1];exact thn (hg pins s1 Y H1 x v _ I1 r1 q1) λ_ s2 q=>q
def zg7 {i:Nat}{x:Str}{e:Expr}{te:TE}{pos':Pos}(hN:X.N.Nodup)(hi:X.N[i]?=some x)(hx:Loc X.env.scope x)(he:PE X e te)(hs:swapsWith e (some (.Name x pos')) pos.line X.env=pure false:=by rfl)(hf:X.fn x=true\/X.env.scope.names.lookup x=some .local:=by first|exact .inl rfl|exact .inr rfl|assumption) :
 PS X (.Assign [.Name x pos'] e pos) (tAsg te (zdL i)):=by
 intro pins s Y H D I h;refine wpAny_Assign_Name (thn (he pins s Y H _ I h) λv s1 ⟨y,H1,I1,r1,q1⟩ =>?_) hs;exact zdS I1 hN hi hx r1 (λs2 I2=>⟨_,H1,I2,q1⟩) hf
def tPar (i j:Nat)(ta:TA):TS:=λD Y H=>ta Y H λvs H1=>∃v w,vs = [v,w]/\D.nx ((Y.set i (some v)).set j (some w)) H1
def zoE {i j:Nat}{x y:Str}{a b:Expr}{ta:TA}{px py pt:Pos}{kt k2 pt2}(hc:X.calm=true)(hN:X.N.Nodup)(hi:X.N[i]?=some x)(hj:X.N[j]?=some y)(hij:i≠j)
 (hx:X.env.scope.names.lookup x=some .local) (hy:X.env.scope.names.lookup y=some .local) (ha:PA X [a,b] ta)
 (hw:swappedStores [.Tuple [.Name x px,.Name y py] kt pt] (.Tuple [a,b] k2 pt2) X.env=pure (some [x,y]))
 (hs:swapsWithSole [.Tuple [.Name x px,.Name y py] kt pt] (.Tuple [a,b] k2 pt2) pos.line X.env=pure false:=by rfl) :
 PS X (.Assign [.Tuple [.Name x px,.Name y py] kt pt] (.Tuple [a,b] k2 pt2) pos) (tPar i j ta):=by
 intro pins s Y H D I h;rw[exec_Assign_arm];refine wab (wbk ?_);rw[hs];refine wab (wao ?_);rw[if_neg (by decide)];refine wab (Tuple_ (thn (ha _ pins s Y H _ I h) λus s1 ⟨vs,H1,I1,r1,q1⟩ =>?_));obtain⟨v,w,e1,q1⟩:=q1;subst e1;obtain⟨u1,u2,rfl,rv,rw'⟩:∃u1 u2,us = [u1,u2]/\RelV v u1/\RelV w u2:=by
  cases r1 with
 |cons p q=>
    cases q with
   |cons p' q'=>
      cases q';exact⟨_,_,rfl,p,p'⟩
 refine wbg ?_ (by show 2<=sizeLine;decide);have I2:Inv X pins Y H1 {s1 with heap:=s1.heap.push {cls:=.type "tuple",data:=.seq [u1,u2].toArray}}:=I1.kept (t':=s1.toks) λb o e=>wag _ e
 rw[hw];refine wab (wao ?_);show wpAny (model X.prog X.w) X.A (do rule "assign.swapped-stores";let items <-unpackItems (.ref s1.heap.objs.size) 2 none;assignInOrder [λv=>bindName X.env y v,λv=>bindName X.env x v] items.reverse;pure Flow.next) _ _ _
 refine wab (wcd (wab (unpackItems_tuple (items:=#[u1,u2]) (I.ok.hd hc) (IsTup.new s1.heap _) λh' hx'=>?_)));have I3:=I2.kept (h':=h') (t':=s1.toks) λb o e=>hx' b o (waB (was e)) e
 show wpAny _ _ (assignInOrder [λv=>bindName X.env y v,λv=>bindName X.env x v] [u2,u1] >>= λ_=>pure Flow.next) _ _ _
 refine wab (assignInOrder_cons (wpAny_bindName (zdS I3 hN hj (.inl hy) rw' (λs2 I4=>?_) (.inr hy))));refine assignInOrder_cons (wpAny_bindName (zdS I4 hN hi (.inl hx) rv (λs3 I5=>assignInOrder_nil (wao ?_)) (.inr hx)));rw[List.set_comm _ _ (Ne.symm hij)] at I5;exact⟨_,H1,I5,q1⟩
end
section
variable {X:Cx}{pos:Pos}
def zl5 (c:TT)(tb:TS):TS:=λD Y H=>∃W:Nat->St->Hp->Prop,(∃m,W m Y H)/\∀m Y H,W m Y H->
 c Y H λb H1=>if b=true then ∃N:St->Hp->Prop,(∀Y' H',N Y' H'->∃m',m'<m/\W m' Y' H')/\tb {D with nx:=N,ct:=N,bk:=D.nx} Y H1 else D.nx Y H1
def zkD {c:Expr}{body:List Stmt}{tc:TT}{tb:TS}(hp:PassesOwn (model X.prog X.w) X.A X.env X.xe)(hc:PT X c tc)(hb:PSs X body tb):PS X (.While c body [] pos) (zl5 tc tb):=by
 intro pins s Y H D I h;obtain⟨W,⟨m0,w0⟩,turn⟩:=h;refine wpAny_While (codeAny_whileLoop (λn s'=>∃Y' H',Inv X pins Y' H' s'/\W n Y' H') ?_ m0 ⟨Y,H,I,w0⟩);rintro n s1 ⟨Y1,H1,I1,w1⟩;refine wbt hp (thn (hc pins s1 Y1 H1 _ I1 (turn n Y1 H1 w1)) λb s2 ⟨H2,I2,q2⟩ =>?_);cases b with
|true=>
   obtain⟨N,hN,q2⟩:=q2;rw[if_pos rfl];refine wbt hp (thn (hb pins s2 Y1 H2 _ I2 q2) λf s3 q3=>?_);cases f with
  |next=>
     obtain⟨Y3,H3,I3,n3⟩:=q3;obtain⟨m',hm,w3⟩:=hN Y3 H3 n3;exact⟨m',hm,Y3,H3,I3,w3⟩
  |cont=>
     obtain⟨Y3,H3,I3,n3⟩:=q3;obtain⟨m',hm,w3⟩:=hN Y3 H3 n3;exact⟨m',hm,Y3,H3,I3,w3⟩
  |brk=>exact q3
  |ret v=>exact q3
|false=>
   rw[if_neg wbq];exact wch ⟨Y1,H2,I2,q2⟩
end
structure It where
 go:Nat->Hp->Prop
 yld:Nat->Hp->V->Hp->Prop
 stop:Nat->Hp->Prop
def FpOk (X:Cx)(pins:List (Addr×Obj))(H:Hp)(b:Addr):Prop:=
 H b=none/\b≠X.env.locals/\b∉X.fs/\(b∈X.ex\/X.s₀.heap.objs.size<=b)/\(∀x c,X.env.cells.lookup x=some c->c≠b)/\∀p∈X.pn++pins,p.1≠b
def Inv.fpOk {X:Cx}{pins:List (Addr×Obj)}{Y:St}{H H':Hp}{s:Shared}{b:Addr}(I:Inv X pins Y H s)(hb:s.heap.objs.size<=b)(hn:H' b=none):FpOk X pins H' b:=by
 refine⟨hn,Nat.ne_of_gt (war I.lt hb),I.nofs hb,.inr (waq I.sz hb),λx c e z=>?_,λp hp z=>?_⟩
 .obtain⟨v,q⟩:=I.cell x c e;exact absurd (war q.lt (by rw[z];exact hb)) (waT _)
 .exact absurd (war (was (I.pin p hp).1) (by rw[z];exact hb)) (waT _)
structure Turn (P:Program)(w:World)(K:W.Frag)(tg:Expr)(J:It)(fp:List Addr)(it:Addr)(tn:Nat->Heap->Prop):Prop where
 mem:it∈fp
 obj:∀i h,tn i h->∀b∈fp,∃o,h.get? b=some o/\∀v,o.data≠.cell v
 keep:∀i h h',tn i h->(∀b∈fp,∀o,h.get? b=some o->h'.get? b=some o)->tn i h'
 item:∀(X:Cx),X.prog=P->X.w=w->X.K=K->X.calm=true->∀(i:Nat) (pins:List (Addr×Obj)) (s:Shared) (Y:St) (H:Hp) (E:Value->Shared->Prop),Inv X pins Y H s->(∀b∈fp,FpOk X pins H b)->tn i s.heap->J.go i H->
  wpAny (model P w) X.A (pyNext (.ref it)) (λr s1=>∃u,r=some u/\
   wpAny (model P w) X.A (letOwnedTupleGo tg (.ref it) u) (λ_ s2=>∃x H',Inv X pins Y H' s2/\RelV x u/\J.yld i H x H'/\tn (i+1) s2.heap/\∀b∈fp,H' b=none) E s1) E s
 done:∀(X:Cx),X.prog=P->X.w=w->X.K=K->X.calm=true->∀(i:Nat) (pins:List (Addr×Obj)) (s:Shared) (Y:St) (H:Hp) (E:Value->Shared->Prop),Inv X pins Y H s->(∀b∈fp,FpOk X pins H b)->tn i s.heap->J.stop i H->
  wpAny (model P w) X.A (pyNext (.ref it)) (λr s1=>r=none/\Inv X pins Y H s1) E s
 self:∀(A:Around) (i:Nat) (s:Shared) (Q:Value->Shared->Prop) (E:Value->Shared->Prop),tn i s.heap->Q (.ref it) s->wpAny (model P w) A (pyIter (.ref it)) Q E s
abbrev TI:=St->Hp->(It->Hp->Prop)->Prop
def PIE (X:Cx)(pins:List (Addr×Obj))(Y:St)(tg:Expr)(R:It->Hp->Prop)(itv:Value)(s2:Shared):Prop:=
 ∃(it:Addr) (fp:List Addr) (tn:Nat->Heap->Prop) (J:It) (H':Hp),itv=.ref it/\Inv X pins Y H' s2/\Turn X.prog X.w X.K tg J fp it tn/\tn 0 s2.heap/\(∀b∈fp,FpOk X pins H' b)/\R J H'
def PI (X:Cx)(tg iter:Expr)(wi:TI):Prop:=
 ∀(pins:List (Addr×Obj)) (s:Shared) (Y:St) (H:Hp) (R:It->Hp->Prop),Inv X pins Y H s->wi Y H R->
  wpAny (model X.prog X.w) X.A (eval iter X.env) (λv s1=>wpAny (model X.prog X.w) X.A (pyIter v) (PIE X pins Y tg R) X.xe s1) X.xe s
def zhK {M:Model}{A:Around}{E:Value->Shared->Prop}{s:Shared}{tg:Expr}{it:Addr}{u:Value}{o:Obj}{n:String}{vs:Array Value}{Q:Unit->Shared->Prop}(ho:s.heap.get? it=some o)(hc:o.cls=.type n)(hd:o.data=.fields vs)
 (hn:["enumerate","zip","dict_itemiterator","dict_reverseitemiterator","odict_iterator","itertools.zip_longest","itertools.pairwise"].contains n=false) (hQ:Q () s):wpAny M A (letOwnedTupleGo tg (.ref it) u) Q E s:=by
 unfold letOwnedTupleGo;cases tg <;> first
 |exact wao hQ
 |(cases u <;> first
  |exact wao hQ
  |(refine wab (wpAny_load ho ?_)
    rw[hc,hd];show wpAny M A (if(["enumerate","zip","dict_itemiterator","dict_reverseitemiterator","odict_iterator","itertools.zip_longest","itertools.pairwise"].contains n&&vs[0]? == some (rawInt _))=true then _ else _) Q E s
    rw[if_neg (by intro h;rw[hn,Bool.false_and] at h;cases h)];exact wao hQ))
def Itl (K:W.Frag)(a:Addr):It:=
 ⟨λi H=>∃xs x,SqL K H a xs/\xs[i]?=some x,λi H x H'=>H'=H/\∀xs,SqL K H a xs->xs[i]?=some x,λi H=>∃xs,SqL K H a xs/\xs.length<=i⟩
def Itt (K:W.Frag)(a:Addr):It:=
 ⟨λi H=>∃xs x,SqT K H a xs/\xs[i]?=some x,λi H x H'=>H'=H/\∀xs,SqT K H a xs->xs[i]?=some x,λi H=>∃xs,SqT K H a xs/\xs.length<=i⟩
def Itr (lo:Int)(n:Nat):It:=⟨λi _=>i<n,λi H x H'=>H'=H/\x=.int (lo+i),λi _=>n<=i⟩
def zit {P:Program}{w:World}{K:W.Frag}{tg:Expr}(a it:Addr):Turn P w K tg (Itl K a) [it] it (λi h=>h.IsListIter it a i) where
 mem:=by simp
 obj:=λi h st b hb=>by
  have e:b=it:=by simpa using hb
  subst e;obtain⟨o,e,c,d⟩:=st;exact⟨o,e,λv z=>by rw[d] at z;cases z⟩
 keep:=λi h h' st k=>st.at λo e=>k it (by simp) o e
 item:=by
  intro X hP hw hK hc i pins s Y H E I hf st hg;subst hP hw hK;obtain⟨xs,x,hq,hx⟩:=hg;obtain⟨its,rv,p,hz⟩:=I.list hq;obtain⟨u,hu,ru⟩:=rv.get hx;obtain⟨f0,f1,f2,f3,f4,f5⟩:=hf it (by simp);refine wpAny_pyNext_list_item st p.isList (x:=u) (by simpa using hu) λh' st' sb=>?_
  have I1:Inv X pins Y H {s with heap:=h'}:=I.turned (t':=s.toks) (λb o hb e=>(sb.2 b hb).trans e) f0 f1 f3 f4 f5
  obtain⟨o,e,c,d⟩:=id st';exact⟨u,rfl,zhK (s:={s with heap:=h'}) e c d (by decide) ⟨x,H,I1,ru,⟨rfl,λys hy=>by rw[I.list_inj hy hq];exact hx⟩,st',λb hb=>(hf b hb).1⟩⟩
 done:=by
  intro X hP hw hK hc i pins s Y H E I hf st hg;subst hP hw hK;obtain⟨xs,hq,hx⟩:=hg;obtain⟨its,rv,p,hz⟩:=I.list hq;obtain⟨f0,f1,f2,f3,f4,f5⟩:=hf it (by simp);have hl:=rv.length
  exact wpAny_pyNext_list_end (I.ok.hd hc) st p.isList (by simp;omega) λh' eb=>⟨rfl,I.turned (t':=s.toks) (λb o hb e=>eb b o hb e) f0 f1 f3 f4 f5⟩
 self:=λ_ _ _ _ _ st h=>wpAny_pyIter_listiter st h
def zhL {P:Program}{w:World}{K:W.Frag}{tg:Expr}(a it:Addr):Turn P w K tg (Itt K a) [it] it (λi h=>h.IsTupleIter it a i) where
 mem:=by simp
 obj:=λi h st b hb=>by
  have e:b=it:=by simpa using hb
  subst e;obtain⟨o,e,c,d⟩:=st;exact⟨o,e,λv z=>by rw[d] at z;cases z⟩
 keep:=λi h h' st k=>st.at λo e=>k it (by simp) o e
 item:=by
  intro X hP hw hK hc i pins s Y H E I hf st hg;subst hP hw hK;obtain⟨xs,x,hq,hx⟩:=hg;obtain⟨its,rv,p,hz⟩:=I.tuple hq;obtain⟨u,hu,ru⟩:=rv.get hx;obtain⟨f0,f1,f2,f3,f4,f5⟩:=hf it (by simp);refine wpAny_pyNext_tuple_item st (show s.heap.IsTuple a its.toArray from p) (x:=u) (by simpa using hu) λh' st' sb=>?_
  have I1:Inv X pins Y H {s with heap:=h'}:=I.turned (t':=s.toks) (λb o hb e=>(sb.2 b hb).trans e) f0 f1 f3 f4 f5
  obtain⟨o,e,c,d⟩:=id st';exact⟨u,rfl,zhK (s:={s with heap:=h'}) e c d (by decide) ⟨x,H,I1,ru,⟨rfl,λys hy=>by rw[I.tuple_inj hy hq];exact hx⟩,st',λb hb=>(hf b hb).1⟩⟩
 done:=by
  intro X hP hw hK hc i pins s Y H E I hf st hg;subst hP hw hK;obtain⟨xs,hq,hx⟩:=hg;obtain⟨its,rv,p,hz⟩:=I.tuple hq;obtain⟨f0,f1,f2,f3,f4,f5⟩:=hf it (by simp);have hl:=rv.length
  exact wpAny_pyNext_tuple_end (I.ok.hd hc) st (show s.heap.IsTuple a its.toArray from p) (by simp;omega) λh' eb=>⟨rfl,I.turned (t':=s.toks) (λb o hb e=>eb b o hb e) f0 f1 f3 f4 f5⟩
 self:=λ_ _ _ _ _ st h=>wpAny_pyIter_tupleiter st h
def zhM {P:Program}{w:World}{K:W.Frag}{tg:Expr}(it:Addr)(lo:Int)(n:Nat):Turn P w K tg (Itr lo n) [it] it (λi h=>IsRangeIter h it (lo+(i:Nat)*1) ((n:Int) - (i:Nat)) 1) where
 mem:=by simp
 obj:=λi h st b hb=>by
  have e:b=it:=by simpa using hb
  subst e;exact⟨_,st,λv z=>by
   have z':Data.fields _=Data.cell v:=z
   cases z'⟩
 keep:=λi h h' st k=>k it (by simp) _ st
 item:=by
  intro X hP hw hK hc i pins s Y H E I hf st hg;subst hP hw hK;obtain⟨f0,f1,f2,f3,f4,f5⟩:=hf it (by simp);have W:=Walks.range (prog:=X.prog) (w:=X.w) (I.ok.hd hc) it lo 1 n
  refine W.item i s _ _ hg st λv h' tk hv st' kk=>?_
  obtain⟨t,rfl⟩:=hv;have I1:Inv X pins Y H {s with heap:=h',toks:=tk}:=I.turned (λb o hb e=>kk b o (by simpa using hb) e) f0 f1 f3 f4 f5
  refine⟨_,rfl,zhK (s:={s with heap:=h',toks:=tk}) (n:="range_iterator") st' rfl rfl (by decide) ⟨.int (lo+i),H,I1,⟨t,?_⟩,⟨rfl,rfl⟩,st',λb hb=>(hf b hb).1⟩⟩;rw[Int.mul_one]
 done:=by
  intro X hP hw hK hc i pins s Y H E I hf st hg;subst hP hw hK;obtain⟨f0,f1,f2,f3,f4,f5⟩:=hf it (by simp);exact wpAny_pyNext_range_end (I.ok.hd hc) st (by have:n<=i:=hg;omega) λh' eb=>⟨rfl,I.turned (t':=s.toks) (λb o hb e=>eb b o hb e) f0 f1 f3 f4 f5⟩
 self:=λ_ _ _ _ _ st h=>wbO st h
section
variable {X:Cx}{tg:Expr}
def zqx (K:W.Frag)(tl:TE):TI:=λY H R=>tl Y H λx H1=>∃a,x=.ref a/\(∃xs,SqL K H1 a xs)/\R (Itl K a) H1
def iTup (K:W.Frag)(tl:TE):TI:=λY H R=>tl Y H λx H1=>∃a,x=.ref a/\(∃xs,SqT K H1 a xs)/\R (Itt K a) H1
def zmS {l:Expr}{tl:TE}(hl:PE X l tl):PI X tg l (zqx X.K tl):=by
 intro pins s Y H R I h;refine thn (hl pins s Y H _ I h) λv s1 ⟨x,H1,I1,r1,q1⟩ =>?_
 obtain⟨a,e,⟨xs,hq⟩,q⟩:=q1;subst e;cases r1;obtain⟨its,rv,p,hz⟩:=I1.list hq;refine wpAny_pyIter_list p.isList ?_;refine⟨s1.heap.objs.size,[s1.heap.objs.size],_,_,H1,rfl,I1.kept (t':=s1.toks) λb o e=>wag _ e,zit a _,⟨_,wau _ rfl,rfl,rfl⟩,λb hb=>?_,q⟩;have e:b=s1.heap.objs.size:=by simpa using hb
 subst e;exact I1.fpOk (wal _) (I1.hok.fresh (wal _))
def zoF {l:Expr}{tl:TE}(hl:PE X l tl):PI X tg l (iTup X.K tl):=by
 intro pins s Y H R I h;refine thn (hl pins s Y H _ I h) λv s1 ⟨x,H1,I1,r1,q1⟩ =>?_
 obtain⟨a,e,⟨xs,hq⟩,q⟩:=q1;subst e;cases r1;obtain⟨its,rv,p,hz⟩:=I1.tuple hq;refine wbL (show s1.heap.IsTuple a its.toArray from p) ?_;refine⟨s1.heap.objs.size,[s1.heap.objs.size],_,_,H1,rfl,I1.kept (t':=s1.toks) λb o e=>wag _ e,zhL a _,⟨_,wau _ rfl,rfl,rfl⟩,λb hb=>?_,q⟩;have e:b=s1.heap.objs.size:=by simpa using hb
 subst e;exact I1.fpOk (wal _) (I1.hok.fresh (wal _))
def zkE {pins:List (Addr×Obj)}{Y:St}{H:Hp}{s:Shared}{R:It->Hp->Prop}{E:Value->Shared->Prop}{lo hi:Int}{t u v:Tok}{tk:Nat}(I:Inv X pins Y H s)(h1:-(2 ^ 62)<=lo)(h2:lo<2 ^ 62)(h3:-(2 ^ 62)<=hi)(h4:hi<2 ^ 62)
 (q:R (Itr lo (hi - lo).toNat) H):wpAny (model X.prog X.w) X.A (pyIter (.ref s.heap.objs.size)) (PIE X pins Y tg R) E {s with heap:=s.heap.push {cls:=.type "range",data:=.fields #[.int lo t,.int hi u,.int 1 v]},toks:=tk}:=by
 refine wpAny_pyIter_range (IsRange.new ..) (small_one h1 h2 h3 h4) ?_;have I1:Inv X pins Y H {s with heap:=s.heap.push {cls:=.type "range",data:=.fields #[.int lo t,.int hi u,.int 1 v]},toks:=tk}:=I.kept λb o e=>wag _ e
 refine⟨(s.heap.push {cls:=.type "range",data:=.fields #[.int lo t,.int hi u,.int 1 v]}).objs.size,[(s.heap.push {cls:=.type "range",data:=.fields #[.int lo t,.int hi u,.int 1 v]}).objs.size],_,_,H,rfl,
  I1.kept (t':=tk) λb o e=>wag _ e,zhM _ lo (hi - lo).toNat,?_,λb hb=>?_,q⟩
 .have e1:lo+((0:Nat):Int)*1=lo:=by simp
  have e2:(((hi - lo).toNat:Nat):Int) - ((0:Nat):Int)=Builtin.Range.rangeSize lo hi 1:=by rw[rangeSize_one];split <;> omega
  show IsRangeIter _ _ (lo+((0:Nat):Int)*1) ((((hi - lo).toNat:Nat):Int) - ((0:Nat):Int)) 1
  rw[e1,e2];exact wau _ rfl
 .have e:b=(s.heap.push {cls:=.type "range",data:=.fields #[.int lo t,.int hi u,.int 1 v]}).objs.size:=by simpa using hb
  subst e;exact I1.fpOk (wal _) (I1.hok.fresh (wal _))
def zqy (ta:TA):TI:=λY H R=>ta Y H λvs H1=>∃j:Int,vs = [.int j]/\-(2 ^ 62)<=j/\j<2 ^ 62/\R (Itr 0 j.toNat) H1
def ziu {a:Expr}{ta:TA}{p pos:Pos}(hg:Gl X "range")(hm:X.mg "range"=none)(ha:PA X [a] ta)(hs:starEach [a] X.env = [(false,eval a X.env)]:=by rfl):PI X tg (.Call (.Name "range" p) [a] [] pos) (zqy ta):=by
 intro pins s Y H R I h;refine Call_ (zcY I hg hm boot_range (waP (thn (ha pos pins s Y H _ I h) λus s1 ⟨vs,H1,I1,r1,q1⟩ =>?_) hs rfl));obtain⟨j,e,q1,q2,q⟩:=q1;subst e;cases r1 with
|cons r rr=>
   cases rr;obtain⟨t,rfl⟩:=r;exact call_range_1 (zkE I1 (by omega) (by omega) q1 q2 (by simpa using q))
def tFor (wi:TI)(g:TG)(tb:TS):TS:=λD Y H=>wi Y H λJ H1=>∃W:Nat->Nat->St->Hp->Prop,(∃m,W 0 m Y H1)/\∀i m Y H,W i m Y H->
 (J.stop i H/\D.nx Y H)\/(J.go i H/\∃N:St->Hp->Prop,(∀Y' H',N Y' H'->∃m',m'<m/\W (i+1) m' Y' H')/\∀x H',J.yld i H x H'->g x Y H' λY2 H2=>tb {D with nx:=N,ct:=N,bk:=D.nx} Y2 H2)
def zfA (fp:List Addr)(h:Heap):List (Addr×Obj):=fp.filterMap λb=>(h.get? b).map λo=>(b,o)
def zbF {fp:List Addr}{h:Heap}{b:Addr}{o:Obj}(hb:b∈fp)(e:h.get? b=some o):(b,o)∈zfA fp h:=List.mem_filterMap.mpr ⟨b,hb,by rw[e];rfl⟩
def ziv {fp:List Addr}{h:Heap}{p:Addr×Obj}(hp:p∈zfA fp h):p.1∈fp/\h.get? p.1=some p.2:=by
 obtain⟨b,hb,e⟩:=List.mem_filterMap.mp hp;cases q:h.get? b with
|none=>rw[q] at e;cases e
|some o=>
   rw[q] at e;have e':(b,o)=p:=waw e
   subst e';exact⟨hb,q⟩
def Inv.pinned {pins:List (Addr×Obj)}{Y:St}{H:Hp}{s:Shared}{fp:List Addr}(I:Inv X pins Y H s)(hf:∀b∈fp,FpOk X pins H b)(ho:∀b∈fp,∃o,s.heap.get? b=some o/\∀v,o.data≠.cell v):Inv X (pins++zfA fp s.heap) Y H s:=
 I.pins_of λp hp=>(wax.mp hp).elim (λz=>I.pin p (wat _ z)) λz=>by
  obtain⟨hb,e⟩:=ziv z;obtain⟨f0,f1,f2,_⟩:=hf p.1 hb;obtain⟨o,e',d⟩:=ho p.1 hb;rw[e] at e';cases e';exact⟨e,f0,f1,f2,d⟩
def Inv.unpinned {pins pl:List (Addr×Obj)}{Y:St}{H:Hp}{s:Shared}(I:Inv X (pins++pl) Y H s):Inv X pins Y H s:=I.pins_of λp hp=>I.pin p (wat _ (wbd _ hp))
def zoG {iter:Expr}{body:List Stmt}{wi:TI}{g:TG}{tb:TS}{pos:Pos}(hp:PassesOwn (model X.prog X.w) X.A X.env X.xe)(hc:X.calm=true)(hi:PI X tg iter wi)(hg:PG X tg g)(hb:PSs X body tb)
 (hs:∀x,foldedSetIterable iter X.env x=pure x:=by intro _;rfl):PS X (.For tg iter body [] pos) (tFor wi g tb):=by
 intro pins s Y H D I h;refine wpAny_For (thn (hi pins s Y H _ I h) λv s1 h1=>thn h1 λitv s2 h2=>?_) hs;obtain⟨it,fp,tn,J,H2,e,I2,T,st2,f2,W,⟨m0,w0⟩,turn⟩:=h2;subst e;have stat:∀{H':Hp},(∀b∈fp,H' b=none)->∀b∈fp,FpOk X pins H' b:=λhn b hb=>⟨hn b hb,(f2 b hb).2⟩
 refine codeAny_forLoop_any (λn s'=>∃i Y' H',Inv X pins Y' H' s'/\tn i s'.heap/\(∀b∈fp,H' b=none)/\W i n Y' H') ?_ m0 ⟨0,Y,H2,I2,st2,λb hb=>(f2 b hb).1,w0⟩;rintro n s3 ⟨i,Y3,H3,I3,st3,fr3,w3⟩;rcases turn i n Y3 H3 w3 with⟨stop,qn⟩|⟨go,N,hN,step⟩
 .refine wbt hp (thn (T.done X rfl rfl rfl hc i pins s3 Y3 H3 X.xe I3 (stat fr3) st3 stop) λr s4 ⟨hr,I4⟩ =>?_);subst hr;exact wch ⟨Y3,H3,I4,qn⟩
 .refine wbt hp (thn (T.item X rfl rfl rfl hc i pins s3 Y3 H3 X.xe I3 (stat fr3) st3 go) λr s4 ⟨u,hr,h4⟩ =>?_);subst hr;refine wbt hp (thn h4 λ_ s5 ⟨x,H5,I5,r5,y5,st5,fr5⟩ =>?_);have I5':=I5.pinned (stat fr5) (T.obj _ _ st5)
  refine wbt hp (thn (hg _ s5 Y3 H5 x u _ I5' r5 (step x H5 y5)) λ_ s6 ⟨Y6,H6,I6,q6⟩ =>?_);refine wbt hp (thn (hb _ s6 Y6 H6 _ I6 q6) λf s7 q7=>?_);have again:∀{Y7:St}{H7:Hp},Inv X (pins++zfA fp s5.heap) Y7 H7 s7->N Y7 H7->∃m,m<n/\∃i Y' H',Inv X pins Y' H' s7/\tn i s7.heap/\(∀b∈fp,H' b=none)/\W i m Y' H':=λ{Y7 H7} I7 n7=>by
   obtain⟨m',hm,w7⟩:=hN Y7 H7 n7;refine⟨m',hm,i+1,Y7,H7,I7.unpinned,T.keep _ _ _ st5 λb hb o e=>(I7.pin (b,o) (wat _ (wat _ (zbF hb e)))).1,λb hb=>?_,w7⟩;obtain⟨o,e,d⟩:=T.obj _ _ st5 b hb;exact(I7.pin (b,o) (wat _ (wat _ (zbF hb e)))).2.1
  cases f with
 |next=>obtain⟨Y7,H7,I7,n7⟩:=q7;exact again I7 n7
 |cont=>obtain⟨Y7,H7,I7,n7⟩:=q7;exact again I7 n7
 |brk=>obtain⟨Y7,H7,I7,q7⟩:=q7;exact⟨Y7,H7,I7.unpinned,q7⟩
 |ret v=>obtain⟨x7,Y7,H7,I7,r7,q7⟩:=q7;exact⟨x7,Y7,H7,I7.unpinned,r7,q7⟩
end
abbrev R2:=V->V->Hp->VK->Prop
def OpR (X:Cx)(f:Value->Value->Sem Value)(r:R2):Prop:=
 ∀(pins:List (Addr×Obj)) (s:Shared) (Y:St) (H:Hp) (x y:V) (v u:Value) (Q:VK),Inv X pins Y H s->RelV x v->RelV y u->r x y H Q->
  wpAny (model X.prog X.w) X.A (f v u) (EP X pins Y Q) X.xe s
def zcz (X:Cx)(f:Value)(r:List V->Hp->VK->Prop):Prop:=
 ∀(pins:List (Addr×Obj)) (s:Shared) (Y:St) (H:Hp) (xs:List V) (us:List Value) (Q:VK),Inv X pins Y H s->Vals xs us->r xs H Q->
  wpAny (model X.prog X.w) X.A (call f us) (EP X pins Y Q) X.xe s
def TruR (X:Cx)(r:V->Hp->(Bool->Hp->Prop)->Prop):Prop:=
 ∀(pins:List (Addr×Obj)) (s:Shared) (Y:St) (H:Hp) (x:V) (v:Value) (Q:Bool->Hp->Prop),Inv X pins Y H s->RelV x v->r x H Q->
  wpAny (model X.prog X.w) X.A (truthy v) (TP X pins Y Q) X.xe s
def tOp (r:R2)(ta tb:TE):TE:=λY H Q=>ta Y H λx H1=>tb Y H1 λy H2=>r x y H2 Q
def rI (C:Int->Int->Prop)(g:Int->Int->V):R2:=λx y H Q=>∃i j,x=.int i/\y=.int j/\C i j/\Q (g i j) H
def rI0 (g:Int->Int->V):R2:=λx y H Q=>∃i j,x=.int i/\y=.int j/\Q (g i j) H
section
variable {X:Cx}{a b c:Expr}{ta tb tc:TE}{pos:Pos}
def binT (ha:PE X a ta)(hb:PE X b tb){pins:List (Addr×Obj)}{s:Shared}{Y:St}{H:Hp}{R:V->V->Hp->Prop}(I:Inv X pins Y H s)
 (h:ta Y H λx H1=>tb Y H1 λy H2=>R x y H2) {Q:Value->Shared->Prop}{f:Value->Value->Sem Value}
 (hf:∀v u s2 x y H2,Inv X pins Y H2 s2->RelV x v->RelV y u->R x y H2->wpAny (model X.prog X.w) X.A (f v u) Q X.xe s2) :
 wpAny (model X.prog X.w) X.A (eval a X.env) (λv s₁=>wpAny (model X.prog X.w) X.A (eval b X.env) (λu s₂=>wpAny (model X.prog X.w) X.A (f v u) Q X.xe s₂) X.xe s₁) X.xe s:=by
 refine thn (ha pins s Y H _ I h) λv s1 ⟨x,H1,I1,r1,q1⟩ =>?_
 refine thn (hb pins s1 Y H1 _ I1 q1) λu s2 ⟨y,H2,I2,r2,q2⟩ =>?_
 exact hf v u s2 x y H2 I2 r1 r2 q2
def zoH {op:Operator}{r:R2}(ho:OpR X (binaryOp op) r)(ha:PE X a ta)(hb:PE X b tb):PE X (.BinOp a op b pos) (tOp r ta tb):=by
 intro pins s Y H Q I h;exact wpAny_BinOp (binT ha hb I h λv u s2 x y H2 I2 rx ry q=>ho pins s2 Y H2 x y v u Q I2 rx ry q)
def opI {f:Value->Value->Sem Value}{C:Int->Int->Prop}{g:Int->Int->Int}
 (rule:∀(i j:Int) (t u:Tok) (s:Shared) (Q:Value->Shared->Prop) (E:Value->Shared->Prop),C i j->Q (.int (g i j) s.toks) {s with toks:=s.toks+1}->wpAny (model X.prog X.w) X.A (f (.int i t) (.int j u)) Q E s) :
 OpR X f (rI C λi j=>.int (g i j)):=by
 intro pins s Y H x y v u Q I rx ry h;obtain⟨i,j,rfl,rfl,hc,q⟩:=h;obtain⟨t,rfl⟩:=rx;obtain⟨t',rfl⟩:=ry;exact rule i j t t' s _ _ hc ⟨.int (g i j),H,I.tok _,⟨_,rfl⟩,q⟩
def opI0 {f:Value->Value->Sem Value}{g:Int->Int->Int}
 (rule:∀(i j:Int) (t u:Tok) (s:Shared) (Q:Value->Shared->Prop) (E:Value->Shared->Prop),Q (.int (g i j) s.toks) {s with toks:=s.toks+1}->wpAny (model X.prog X.w) X.A (f (.int i t) (.int j u)) Q E s) :
 OpR X f (rI0 λi j=>.int (g i j)):=by
 intro pins s Y H x y v u Q I rx ry h;obtain⟨i,j,rfl,rfl,q⟩:=h;obtain⟨t,rfl⟩:=rx;obtain⟨t',rfl⟩:=ry;exact rule i j t t' s _ _ ⟨.int (g i j),H,I.tok _,⟨_,rfl⟩,q⟩
def opB0 {f:Value->Value->Sem Value}{g:Int->Int->Bool}
 (rule:∀(i j:Int) (t u:Tok) (s:Shared) (Q:Value->Shared->Prop) (E:Value->Shared->Prop),Q (.bool (g i j)) s->wpAny (model X.prog X.w) X.A (f (.int i t) (.int j u)) Q E s) :
 OpR X f (rI0 λi j=>.bl (g i j)):=by
 intro pins s Y H x y v u Q I rx ry h;obtain⟨i,j,rfl,rfl,q⟩:=h;obtain⟨t,rfl⟩:=rx;obtain⟨t',rfl⟩:=ry;exact rule i j t t' s _ _ ⟨.bl (g i j),H,I,rfl,q⟩
def CDiv (i j:Int):Prop:=0<j/\j<1073741824
def CPow (i j:Int):Prop:=0<=j/\j<=1000000/\i.natAbs<2 ^ 64
def CMul (i j:Int):Prop:=(-(2 ^ 64)<i/\i<2 ^ 64)\/(-(2 ^ 64)<j/\j<2 ^ 64)
def CMul.ok {i j:Int}(h:CMul i j):IntMulOk i j:=by
 rcases h with⟨h1,h2⟩|⟨h1,h2⟩
 .exact .of_left (intBits_le_64 h1 h2)
 .exact .of_right (intBits_le_64 h1 h2)
def op_add:OpR X (binaryOp .Add) (rI0 λi j=>.int (i+j)):=opI0 λ_ _ _ _ _ _ _ q=>add_int q
def ziw:OpR X (binaryOp .Sub) (rI0 λi j=>.int (i - j)):=opI0 λ_ _ _ _ _ _ _ q=>sub_int q
def op_mul:OpR X (binaryOp .Mult) (rI CMul λi j=>.int (i*j)):=opI λ_ _ _ _ _ _ _ hc q=>mul_int q hc.ok
def zix:OpR X (binaryOp .FloorDiv) (rI CDiv λi j=>.int (i / j)):=opI λi j _ _ _ _ _ hc q=>by
 have h1:(0:Int)<j:=hc.1
 have h2:j<1073741824:=hc.2
 exact floordiv_int (by omega) (by rw[Int.fdiv_eq_ediv_of_nonneg i (by omega)];exact q) (.inl (PyProof.noPylong_small (by omega)))
def zdE:OpR X (binaryOp .Mod) (rI (λ_ j=>0<j) λi j=>.int (i % j)):=opI λi j _ _ _ _ _ hc q=>by
 have h1:(0:Int)<j:=hc
 exact mod_int' (by omega) (by rw[Int.fmod_eq_emod_of_nonneg i (by omega)];exact q)
def zfB:OpR X (binaryOp .Pow) (rI CPow λi j=>.int (i ^ j.toNat)):=opI λ_ _ _ _ _ _ _ hc q=>pow_int_small hc.1 hc.2.1 hc.2.2 q
end
def ze0 {i j:Int}:decide (V.int i=V.int j)=(i == j):=by
 rw[wbu];simp
def zg8 {i j:Bool}:decide (V.bl i=V.bl j)=(i == j):=by
 rw[wbu];simp
def ze1 {i j:Str}:decide (V.str i=V.str j)=(i == j):=by
 rw[wbu];simp
section
variable {X:Cx}{a b c:Expr}{ta tb tc:TE}{pos:Pos}
def zl6 {pins:List (Addr×Obj)}{Y:St}{H:Hp}{s:Shared}{Q:VK}{k k':Bool}(I:Inv X pins Y H s)(q:Q (.bl k) H)(e:k=k'):EP X pins Y Q (.bool k') s:=by
 subst e;exact⟨.bl k,H,I,rfl,q⟩
def zqz:OpR X (compareOp .Lt) (rI0 λi j=>.bl (decide (i<j))):=opB0 λ_ _ _ _ _ _ _ q=>lt_int q
def zoI:OpR X (compareOp .LtE) (rI0 λi j=>.bl (decide (i<=j))):=opB0 λ_ _ _ _ _ _ _ q=>le_int q
def zoJ:OpR X (compareOp .Gt) (rI0 λi j=>.bl (decide (j<i))):=opB0 λ_ _ _ _ _ _ _ q=>gt_int q
def zkF:OpR X (compareOp .GtE) (rI0 λi j=>.bl (decide (j<=i))):=opB0 λ_ _ _ _ _ _ _ q=>ge_int q
def ziy:OpR X (compareOp .Is) (λx y H Q=>y=.non/\Q (.bl (decide (x=.non))) H):=by
 intro pins s Y H x y v u Q I rx ry h;obtain⟨rfl,q⟩:=h;cases ry;refine is_none_gen (zl6 I q ?_);cases x <;> first
 |(cases rx;rfl)
 |(obtain⟨t,rfl⟩:=rx;rfl)
def zmT:OpR X (compareOp .IsNot) (λx y H Q=>y=.non/\Q (.bl (!decide (x=.non))) H):=by
 intro pins s Y H x y v u Q I rx ry h;obtain⟨rfl,q⟩:=h;cases ry;refine isnot_none_gen (zl6 I q ?_);cases x <;> first
 |(cases rx;rfl)
 |(obtain⟨t,rfl⟩:=rx;rfl)
def OpR.or {f:Value->Value->Sem Value}{r r':R2}(h:OpR X f r)(h':OpR X f r'):OpR X f (λx y H Q=>r x y H Q\/r' x y H Q):=by
 intro pins s Y H x y v u Q I rx ry q;rcases q with q|q
 .exact h pins s Y H x y v u Q I rx ry q
 .exact h' pins s Y H x y v u Q I rx ry q
def zau (b:Expr){op:CmpOp}(h:op≠.In:=by decide)(h2:op≠.NotIn:=by decide):behindInMarks op b=false:=by
 have e1:(op == CmpOp.In)=false:=by cases op <;> first|rfl|exact absurd rfl h
 have e2:(op == CmpOp.NotIn)=false:=by cases op <;> first|rfl|exact absurd rfl h2
 cases b <;> simp[behindInMarks,e1,e2]
def ziz {op:CmpOp}{r:R2}(ho:OpR X (compareOp op) r)(ha:PE X a ta)(hb:PE X b tb)(hm:behindInMarks op b=false):PE X (.Compare a [op] [b] pos) (tOp r ta tb):=by
 intro pins s Y H Q I h;exact wpAny_Compare1 (binT ha hb I h λv u s2 x y H2 I2 rx ry q=>ho pins s2 Y H2 x y v u Q I2 rx ry q) hm
def zkG (t:TE):TT:=λY H Q=>t Y H λx H'=>∃k,x=.bl k/\Q k H'
def ziA {op:CmpOp}{r:R2}(ho:OpR X (compareOp op) r)(ha:PE X a ta)(hb:PE X b tb)(hm:behindInMarks op b=false):PT X (.Compare a [op] [b] pos) (zkG (tOp r ta tb)):=by
 intro pins s Y H Q I h;refine wpAny_isTrue_Compare1 (thn (ha pins s Y H _ I h) λv s1 ⟨x,H1,I1,r1,q1⟩ =>thn (hb pins s1 Y H1 _ I1 q1) λu s2 ⟨y,H2,I2,r2,q2⟩ =>
  thn (ho pins s2 Y H2 x y v u _ I2 r1 r2 q2) λc s3 ⟨z,H3,I3,r3,k,e,q3⟩ =>?_) hm
 subst e;cases r3;exact wbm ⟨H3,I3,q3⟩
def zl7 (r r':R2)(ta tb tc:TE):TE:=λY H Q=>ta Y H λx H1=>tb Y H1 λy H2=>r x y H2 λz H3=>∃k,z=.bl k/\
 (if k=true then tc Y H3 λw' H4=>r' y w' H4 Q else Q (.bl false) H3)
def zkH {op op':CmpOp}{r r':R2}(ho:OpR X (compareOp op) r)(ho':OpR X (compareOp op') r')(ha:PE X a ta)(hb:PE X b tb)(hc:PE X c tc)
 (hm:lastMarks [op,op'] [b,c]=false:=by with_unfolding_all rfl):PT X (.Compare a [op,op'] [b,c] pos) (zkG (zl7 r r' ta tb tc)):=by
 intro pins s Y H Q I h;refine isTrue_chain (thn (ha pins s Y H _ I h) λv s1 ⟨x,H1,I1,r1,q1⟩ =>test_link (thn (hb pins s1 Y H1 _ I1 q1) λu s2 ⟨y,H2,I2,r2,q2⟩ =>
  thn (ho pins s2 Y H2 x y v u _ I2 r1 r2 q2) λd s3 ⟨z,H3,I3,r3,k,e,q3⟩ =>?_)) hm
 subst e;cases r3;refine wbm ?_;cases k with
|false=>
   obtain⟨k',e',q'⟩:=q3;cases e';exact ite_ff ⟨H3,I3,q'⟩
|true=>
   refine ite_tt (test_last (thn (hc pins s3 Y H3 _ I3 q3) λw' s4 ⟨z',H4,I4,r4,q4⟩ =>thn (ho' pins s4 Y H4 y z' u w' _ I4 r2 r4 q4) λd' s5 ⟨z2,H5,I5,r5,k2,e2,q5⟩ =>?_));subst e2;cases r5;exact wbm ⟨H5,I5,q5⟩
def TruV (K:W.Frag)(x:V)(H:Hp)(k:Bool):Prop:=
 match x with
|.non=>k=false
|.bl b=>k=b
|.int i=>k=(i != 0)
|.str y=>y.length<=sizeLine/\k=((y.length:Int) != 0)
|.byt y=>y.size<=sizeLine/\k=((y.size:Int) != 0)
|.ref p=>(∃xs,SqL K H p xs/\k = !xs.isEmpty)\/(∃xs,SqT K H p xs/\k = !xs.isEmpty)\/∃kvs,H p=some (.dK kvs)/\k = !kvs.isEmpty
|_=>False
def zhN {κ:Type}{kvs:List (κ×V)}{vs:List (κ×Value)}(r:KV kvs vs):(!vs.isEmpty) = !kvs.isEmpty:=by
 cases r <;> rfl
def zeN {xs:List V}{its:List Value}(r:Vals xs its):(!its.toArray.isEmpty) = !xs.isEmpty:=by
 cases r <;> simp
def zdZ:(sizeLine:Nat)<2 ^ 63:=by rw[sizeLine_eq];decide
def zoK:TruR X (λx H Q=>∃k,TruV X.K x H k/\Q k H):=by
 intro pins s Y H x v Q I rx h;obtain⟨k,e,q⟩:=h;have hl:=zdZ
 have hs:sizeLine=16777216:=sizeLine_eq
 cases x with
|non=>
   cases rx;have e':k=false:=e
   subst e';exact truthy_none ⟨H,I,q⟩
|bl b=>
   cases rx;have e':k=b:=e
   subst e';exact wbm ⟨H,I,q⟩
|int i=>
   obtain⟨t,rfl⟩:=rx;have e':k=(i != 0):=e
   subst e';exact PySem.P.truthy_int ⟨H,I,q⟩
|str y=>
   obtain⟨t,rfl⟩:=rx;obtain⟨hy,e'⟩:y.length<=sizeLine/\k=((y.length:Int) != 0):=e;subst e';exact PySem.P.truthy_str (by omega) ⟨H,I.tok _,q⟩
|byt y=>
   obtain⟨t,rfl⟩:=rx;obtain⟨hy,e'⟩:y.size<=sizeLine/\k=((y.size:Int) != 0):=e;subst e';exact PySem.W.truthy_bytes (by omega) ⟨H,I.tok _,q⟩
|ref p=>
   cases rx;have e':(∃xs,SqL X.K H p xs/\k = !xs.isEmpty)\/(∃xs,SqT X.K H p xs/\k = !xs.isEmpty)\/∃kvs,H p=some (.dK kvs)/\k = !kvs.isEmpty:=e
   rcases e' with⟨xs,hx,e'⟩|⟨xs,hx,e'⟩|⟨kvs,hx,e'⟩
   .subst e';obtain⟨its,r,pl,hz⟩:=I.list hx;have hlen:=r.length
    exact wpAny_truthy_list pl.isList (by simp only[wac];omega) ⟨H,I.tok _,by rw[zeN r];exact q⟩
   .subst e';obtain⟨its,r,pl,hz⟩:=I.tuple hx;have hlen:=r.length
    exact truthy_tuple pl (by simp only[wac];omega) ⟨H,I.tok _,by rw[zeN r];exact q⟩
   .subst e';obtain⟨hz,hS,vs,r,m⟩:kvs.length<=sizeLine/\(p == sysModules)=false/\∃vs,KV kvs vs/\s.heap.DictOf (zaL X.prog X.w) p vs:=I.hok p _ hx;have hlen:kvs.length=vs.length:=Paired.length r
    exact wpAny_truthy_dict hS m (by omega) ⟨H,I.tok _,by rw[zhN r];exact q⟩
|_=>exact(show False from e).elim
def zkI (ha:PE X a ta)(he:∀whole,isTrue a X.env whole=(do let v <-whole;standAt a.pos;holding [v] (truthy v))) :
 PT X a (λY H Q=>ta Y H λx H'=>∃k,TruV X.K x H' k/\Q k H'):=by
 intro pins s Y H Q I h;exact isTrue_plain (thn (ha pins s Y H _ I h) λv s1 ⟨x,H1,I1,r1,q1⟩ =>zoK pins s1 Y H1 x v Q I1 r1 q1) (he _)
def op_add_str:OpR X (binaryOp .Add) (λx y H Q=>∃i j,x=.str i/\y=.str j/\i.length+j.length<=sizeLine/\Q (.str (i++j)) H):=by
 intro pins s Y H x y v u Q I rx ry h;obtain⟨i,j,rfl,rfl,hz,q⟩:=h;obtain⟨t,rfl⟩:=rx;obtain⟨t',rfl⟩:=ry;exact add_str (λt' tk=>⟨.str (i++j),H,I.tok _,⟨_,rfl⟩,q⟩) hz
def zfC {x:V}{us:List Value}(r:Vals [x] us):∃u,us = [u]/\RelV x u:=by
 cases r with
|cons r1 r2=>cases r2;exact⟨_,rfl,r1⟩
def zkJ {x y:V}{us:List Value}(r:Vals [x,y] us):∃u w',us = [u,w']/\RelV x u/\RelV y w':=by
 cases r with
|cons r1 r2=>
   cases r2 with
  |cons r3 r4=>cases r4;exact⟨_,_,rfl,r1,r3⟩
def ziB (hc:X.calm=true):zcz X (.builtin "max") (λxs H Q=>∃i j,xs = [.int i,.int j]/\Q (.int (if j>i then j else i)) H):=by
 intro pins s Y H xs us Q I r h;obtain⟨i,j,rfl,q⟩:=h;obtain⟨u,w',rfl,⟨t,rfl⟩,⟨t',rfl⟩⟩:=zkJ r;refine max_two_ints (I.ok.hd hc) λh' tk k=>⟨_,H,I.kept k,?_,q⟩
 by_cases hj:j>i
 .rw[if_pos hj,if_pos hj];exact⟨_,rfl⟩
 .rw[if_neg hj,if_neg hj];exact⟨_,rfl⟩
def zd0 (hc:X.calm=true):zcz X (.builtin "min") (λxs H Q=>∃i j,xs = [.int i,.int j]/\Q (.int (if j<i then j else i)) H):=by
 intro pins s Y H xs us Q I r h;obtain⟨i,j,rfl,q⟩:=h;obtain⟨u,w',rfl,⟨t,rfl⟩,⟨t',rfl⟩⟩:=zkJ r;refine min_two_ints (I.ok.hd hc) λh' tk k=>⟨_,H,I.kept k,?_,q⟩
 by_cases hj:j<i
 .rw[if_pos hj,if_pos hj];exact⟨_,rfl⟩
 .rw[if_neg hj,if_neg hj];exact⟨_,rfl⟩
def ziC:zcz X (.type "int") (λxs H Q=>(∃i,xs = [.int i]/\Q (.int i) H)\/∃k,xs = [.bl k]/\Q (.int (if k then 1 else 0)) H):=by
 intro pins s Y H xs us Q I r h;rcases h with⟨i,rfl,q⟩|⟨k,rfl,q⟩
 .obtain⟨u,rfl,t,rfl⟩:=zfC r;exact call_int_int ⟨.int i,H,I,⟨_,rfl⟩,q⟩
 .obtain⟨u,rfl,r1⟩:=zfC r;cases r1;exact call_int_bool ⟨.int (if k then 1 else 0),H,I.tok _,⟨_,rfl⟩,q⟩
def LenV (K:W.Frag)(x:V)(H:Hp)(n:Nat):Prop:=
 match x with
|.str y=>y.length<=sizeLine/\n=y.length
|.byt y=>y.size<=sizeLine/\n=y.size
|.ref p=>(∃xs,SqL K H p xs/\n=xs.length)\/∃xs,SqT K H p xs/\n=xs.length
|_=>False
def zaQ:zcz X (.builtin "len") (λxs H Q=>∃x n,xs = [x]/\LenV X.K x H n/\Q (.int n) H):=by
 intro pins s Y H xs us Q I r h;obtain⟨x,n,rfl,e,q⟩:=h;obtain⟨u,rfl,rx⟩:=zfC r;have hl:=zdZ
 have hs:sizeLine=16777216:=sizeLine_eq
 cases x with
|str y=>
   obtain⟨t,rfl⟩:=rx;obtain⟨hy,e'⟩:y.length<=sizeLine/\n=y.length:=e;subst e';exact len_str (by omega) ⟨.int _,H,I.tok _,⟨_,rfl⟩,q⟩
|byt y=>
   obtain⟨t,rfl⟩:=rx;obtain⟨hy,e'⟩:y.size<=sizeLine/\n=y.size:=e;subst e';exact PySem.W.len_bytes (by omega) ⟨.int _,H,I.tok _,⟨_,rfl⟩,q⟩
|ref p=>
   cases rx;have e':(∃xs,SqL X.K H p xs/\n=xs.length)\/∃xs,SqT X.K H p xs/\n=xs.length:=e
   rcases e' with⟨xs,hx,e'⟩|⟨xs,hx,e'⟩
   .subst e';obtain⟨its,r',pl,hz⟩:=I.list hx;have hlen:=r'.length
    exact Calls.call_len_list pl.isList (by simp only[wac];omega) ⟨.int xs.length,H,I.tok _,⟨_,by simp only[wac];rw[hlen]⟩,q⟩
   .subst e';obtain⟨its,r',pl,hz⟩:=I.tuple hx;have hlen:=r'.length
    exact len_tuple pl (by simp only[wac];omega) ⟨.int xs.length,H,I.tok _,⟨_,by simp only[wac];rw[hlen]⟩,q⟩
|_=>exact(show False from e).elim
end
structure ObjM (h:Heap)(x dx C:Addr)(mA:Str->Option Value):Prop where
 obj:h.get? x=some (PySem.W.instObj C dx)
 ns:h.Ns1 dx mA
 ne:dx≠x
def ziD {h:Heap}{dx:Addr}{mA:Str->Option Value}(n:h.Ns1 dx mA):∃od,h.get? dx=some od/\∀name,PySem.W.lookIn name od=some (mA name):=by
 obtain⟨o,es,ep,ho,hd,hk,_,hm⟩:=n;refine⟨o,ho,λname=>?_⟩;have e:=hm name
 unfold nsFind findBy at e;rw[<-Array.find?_toList] at e;unfold PySem.W.lookIn;rw[hd];dsimp only;split
 .rename_i y q
  rw[q] at e;exact wba some e
 .rename_i q
  rw[q] at e;have a:es.toList.any (·.refKey)=false:=by
   rw[List.any_eq_false];intro y hy;obtain⟨z,t,hkey⟩:=hk y (Array.mem_toList_iff.mp hy);simp[DictEntry.refKey,hkey]
  have a':¬es.toList.any (·.refKey)=true:=by rw[a];exact wbq
  rw[if_neg a'];exact wba some e
def ObjM.look {h:Heap}{x dx C:Addr}{mA:Str->Option Value}(I:ObjM h x dx C mA):∃od,PySem.W.InstAt h x (PySem.W.instObj C dx) C (some od)/\∀name,PySem.W.lookIn name od=some (mA name):=
 let ⟨od,ho,hl⟩:=ziD I.ns
 ⟨od,⟨I.obj,rfl,rfl,ho⟩,hl⟩
section
variable {prog:Program}{w:World}{A:Around}{E:Value->Shared->Prop}{s:Shared}{K:W.Frag}{x dx C f:Addr}{mA:Str->Option Value}{name:Str}{v:Value}
end
def RelO.some_of {v:V}{o:Option Value}(r:RelO (some v) o):∃u,o=some u/\RelV v u:=by
 cases o with
|none=>exact(show False from r).elim
|some u=>exact⟨u,rfl,r⟩
section
variable {P:Program}{w:World}{H H':Hp}{h h':Heap}{a C dx:Addr}{fs fs':List (Str×V)}
def zmU (hok:HOk P w H h)(e:H a=some (.ins C dx fs)):∃mA,ObjM h a dx C mA/\(∀f,RelO (fs.lookup f) (mA f))/\PySem.Within mA (fs.map (·.1))/\fs.length<=1000/\H dx=some (.own a):=by
 obtain⟨d,z,ne,ob,mA,n,r,q⟩:=(show ObjOk P w H h a (.ins C dx fs) from hok a _ e)
 exact⟨mA,⟨ob,n,ne⟩,r,q,z,d⟩
end
structure Cls (K:W.Frag)(C:Addr):Prop where
 pg:PySem.W.plainGet K C Str.empty=true
 hd:PySem.W.hasDictIn K C=true
 po:PySem.W.plainOver K C=true
 sa:PySem.W.findIn K (.ref C) "__setattr__"=some (some (.builtin "object.__setattr__"))
def Cls.get {K:W.Frag}{C:Addr}(c:Cls K C)(f:Str):PySem.W.plainGet K C f=true:=c.pg
section
variable {X:Cx}{pins:List (Addr×Obj)}{Y:St}{H:Hp}{s:Shared}{a C dx:Addr}{fs:List (Str×V)}{f:Str}{v:V}{A:Around}{E:Value->Shared->Prop}
end
section
variable {X:Cx}{o e value:Expr}{f:Str}{pos pos' tpos:Pos}{ta tv:TE}
end
section
variable {X:Cx}{pins:List (Addr×Obj)}{Y:St}{H:Hp}{s:Shared}{A:Around}{E:Value->Shared->Prop}{Q:Value->Shared->Prop}{c:Value}{b:Bool}
inductive TyOf (K:W.Frag)(H:Hp):V->Value->Prop where
|non:TyOf K H .non (.type "NoneType")
|bl (x:Bool):TyOf K H (.bl x) (.type "bool")
|int (i:Int):TyOf K H (.int i) (.type "int")
|str (x:Str):TyOf K H (.str x) (.type "str")
|flt (x:UInt64):TyOf K H (.flt x) (.type "float")
|lst {a:Addr}{xs:List V}(e:H a=some (.lst xs)):TyOf K H (.ref a) (.type "list")
|frz {a:Addr}{o:Obj}{xs:List V}(e:H a=some (.frz o (.lst xs))):TyOf K H (.ref a) (.type "list")
|tup {a:Addr}{xs:List V}(e:H a=some (.tup xs)):TyOf K H (.ref a) (.type "tuple")
|dK {a:Addr}{kvs:List (Key×V)}(e:H a=some (.dK kvs)):TyOf K H (.ref a) (.type "dict")
|dT {a:Addr}{kvs:List (List Key×V)}(e:H a=some (.dT kvs)):TyOf K H (.ref a) (.type "dict")
|ins {a C dx:Addr}{fs:List (Str×V)}(e:H a=some (.ins C dx fs)) (cl:Cls K C) (ha:PySem.W.findIn K (.ref C) "__class__"=some (some (.builtin "object.__class__")))
  (hn:PySem.W.specialIn K (.builtin "object.__class__") "__get__"=some (some (.builtin "getset_descriptor.__get__"))) (htk:PySem.W.takesIn K (.builtin "object.__class__")=some true)
  (hm:PySem.W.mroIn K C (.type "object")=some true):TyOf K H (.ref a) (.ref C)
def ziE {x:V}{u t:Value}(I:Inv X pins Y H s)(rx:RelV x u)(ty:TyOf X.K H x t)(e:PySem.W.kitOne X.K t c=some b)(h:∀tk,Q (.bool b) {s with toks:=tk}) :
 wpAny (model X.prog X.w) A (call (.builtin "isinstance") [u,c]) Q E s:=by
 cases ty with
|non=>cases(show u=Value.none from rx);exact waV PySem.W.kitx_none I.kIn True.intro e (λz=>nomatch z) h
|bl y=>cases(show u=Value.bool y from rx);exact waV PySem.W.kitx_bool I.kIn True.intro e (λz=>nomatch z) h
|int i=>obtain⟨t,q⟩:=(show ∃t,u=Value.int i t from rx);cases q;exact waV PySem.W.kitx_int I.kIn True.intro e (λz=>nomatch z) h
|str y=>obtain⟨t,q⟩:=(show ∃t,u=Value.str y t from rx);cases q;exact waV PySem.W.kitx_str I.kIn True.intro e (λz=>nomatch z) h
|flt y=>obtain⟨t,q⟩:=(show ∃t,u=Value.float y t from rx);cases q;exact waV PySem.W.kitx_float I.kIn True.intro e (λz=>nomatch z) h
|@lst a xs ea=>
   cases(show u=Value.ref a from rx);obtain⟨_,_,n,_,h1⟩:=(show ObjOk X.prog X.w H s.heap a (.lst xs) from I.hok a _ ea)
   exact waV PySem.W.kitx_list I.kIn ⟨_,h1,rfl⟩ e (λz=>nomatch z) h
|@frz a ob xs ea=>
   cases(show u=Value.ref a from rx);obtain⟨_,_,_,n,_,h1⟩:=(show ObjOk X.prog X.w H s.heap a (.frz ob (.lst xs)) from I.hok a _ ea)
   exact waV PySem.W.kitx_list I.kIn ⟨_,h1,rfl⟩ e (λz=>nomatch z) h
|@tup a xs ea=>
   cases(show u=Value.ref a from rx);obtain⟨_,_,_,p⟩:=(show ObjOk X.prog X.w H s.heap a (.tup xs) from I.hok a _ ea)
   obtain⟨o,h1,h2,_⟩:=p;exact waV PySem.W.kitx_tuple I.kIn ⟨o,h1,h2⟩ e (λz=>nomatch z) h
|@dK a kvs ea=>
   cases(show u=Value.ref a from rx);obtain⟨_,_,vs,_,p⟩:=(show ObjOk X.prog X.w H s.heap a (.dK kvs) from I.hok a _ ea)
   obtain⟨o,es,ep,h1,h2,_⟩:=p;exact waV PySem.W.kitx_dict I.kIn ⟨o,h1,h2.1⟩ e (λz=>nomatch z) h
|@dT a kvs ea=>
   cases(show u=Value.ref a from rx);obtain⟨_,_,xs,_,o,es,ep,h1,h2,_⟩:=(show ObjOk X.prog X.w H s.heap a (.dT kvs) from I.hok a _ ea)
   exact waV PySem.W.kitx_dict I.kIn ⟨o,h1,h2.1⟩ e (λz=>nomatch z) h
|@ins a C dx fs ea cl ha hn htk hm=>
   cases(show u=Value.ref a from rx);obtain⟨mA,O,_⟩:=zmU I.hok ea;obtain⟨od,J,_⟩:=O.look;exact waV (PySem.W.kitx_own (cl.get _) cl.hd ha hn htk hm) I.kIn J e (λz=>nomatch z) h
end
structure Room (k:Nat)(A:Around):Prop where
 hd:A.handled=none
 dp:A.depth+3*k+5<recursionLimit
 un:A.units+16*k+200<cLine
 gd:A.guards=some []
def Room.mono {j k:Nat}{A:Around}(r:Room k A)(h:j<=k):Room j A:=⟨r.hd,by have:=r.dp;omega,by have:=r.un;omega,r.gd⟩
theorem Room.deeper {k:Nat}{A:Around}(r:Room (k+1) A)(env:Env):Room k (A.deeper env):=
 ⟨r.hd,by have:=r.dp;show A.depth+1+3*k+5<_;omega,by have:=r.un;show A.units+3+16*k+200<_;omega,r.gd⟩
theorem Room.depth {k:Nat}{A:Around}(r:Room k A):A.depth<recursionLimit:=by have:=r.dp;omega
theorem Room.units {k:Nat}{A:Around}(r:Room k A):A.units+64<cLine:=by have:=r.un;omega
def tNil:TA:=λ_ H Q=>Q [] H
def zoL (ta:TE)(tr:TA):TA:=λY H Q=>ta Y H λx H1=>tr Y H1 λxs H2=>Q (x::xs) H2
section
variable {X:Cx}{e:Expr}{es:List Expr}{te:TE}{t:TA}{pos:Pos}
def zcZ:PA X [] tNil:=λ_ _ _ _ H Q I h=>Calls.spliced_nil ⟨[],H,I,.nil,h⟩
def zbJ (ha:PE X e te)(hr:PA X es t)(hs:starEach (e::es) X.env=(false,eval e X.env)::starEach es X.env:=by rfl):PA X (e::es) (zoL te t):=by
 intro pos pins s Y H Q I h;rw[hs];show wpAny _ _ (spliced ((false,eval e X.env)::backTo pos (starEach es X.env))) _ _ s
 refine Calls.spliced_cons (thn (ha pins s Y H _ I h) λu s1 ⟨x,H1,I1,r1,q1⟩ =>?_);exact thn (hr pos pins s1 Y H1 _ I1 q1) λus s2 ⟨xs,H2,I2,r2,q2⟩ =>⟨x::xs,H2,I2,.cons r1 r2,q2⟩
def tTup (t:TA):TE:=λY H Q=>t Y H λxs H1=>xs.length<=sizeLine/\∀p,H1 p=none->Q (.ref p) (upd H1 p (.tup xs))
def tLst (t:TA):TE:=λY H Q=>t Y H λxs H1=>xs.length<=sizeLine/\∀p,H1 p=none->Q (.ref p) (upd H1 p (.lst xs))
def zl8 {x1}(h:PA X es t):PE X (.Tuple es x1 pos) (tTup t):=by
 intro pins s Y H Q I hq;refine wpAny_Tuple_spliced (thn (h pos pins s Y H _ I hq) λus s1 ⟨xs,H1,I1,r,z,q⟩ =>⟨by rw[<-r.length];exact z,?_⟩);have hf:H1 s1.heap.objs.size=none:=I1.hok.fresh (wal _)
 refine⟨.ref s1.heap.objs.size,upd H1 s1.heap.objs.size (.tup xs),I1.laid (t':=s1.toks) (λb u e=>wag _ e) (wal _) ?_,rfl,q _ hf⟩;exact⟨z,us,r,⟨_,wau _ rfl,rfl,_,rfl⟩⟩
def ziF (h:PA X es t):PE X (.List es pos) (tLst t):=by
 intro pins s Y H Q I hq;refine wpAny_List_spliced (thn (h pos pins s Y H _ I hq) λus s1 ⟨xs,H1,I1,r,z,q⟩ =>⟨by rw[<-r.length];exact z,?_⟩);have hf:H1 s1.heap.objs.size=none:=I1.hok.fresh (wal _)
 refine⟨.ref s1.heap.objs.size,upd H1 s1.heap.objs.size (.lst xs),I1.laid (t':=s1.toks) (λb u e=>wag _ e) (wal _) ?_,rfl,q _ hf⟩;exact⟨z,us,0,r,wau _ rfl⟩
end
abbrev Sp:=List V->Hp->VK->XK->Prop
abbrev CXT:=List Env->Hp->Shared->XK->Value->Shared->Prop
structure Env0 (P:Program)(w:World)(K:W.Frag)(mg:Str->Option Value)(base:Heap)(A:Around)(outer:List Env)(s:Shared)(H:Hp):Prop where
 frames:A.frames=some outer
 mod:Mod K mg base
 bs:∀b o,base.get? b=some o->s.heap.get? b=some o/\H b=none
 bsz:base.objs.size<=s.heap.objs.size
 funs:s.heap.FunFrames base outer
 frf:∀b∈frs outer,H b=none
 hok:HOk P w H s.heap
 bare:AllBare s.gens
def CE (outer:List Env)(P:Program)(w:World)(H:Hp)(s:Shared)(Q:VK)(u:Value)(s':Shared):Prop:=
 ∃v H',s'.os=s.os/\AllBare s'.gens/\Un (frs outer) [] H H' s.heap s'.heap/\HOk P w H' s'.heap/\RelV v u/\Q v H'
def CR (CX:CXT)(outer:List Env)(P:Program)(w:World)(H:Hp)(s:Shared)(Q:VK)(E:XK)(r:Result)(s':Shared):Prop:=
 match r with
|.ok (.ret u)=>CE outer P w H s Q u s'
|.ok _=>False
|.error e=>CX outer H s E e s'
structure FnOk (P:Program)(w:World)(K:W.Frag)(mg:Str->Option Value)(base:Heap)(CX:CXT)(k:Nat)(f:Addr)(fd:FuncData)(ps:List Str)(sp:Sp):Prop where
 len:∀vs H Q E,sp vs H Q E->vs.length=ps.length
 run:∀(A:Around) (outer:List Env) (s:Shared) (H:Hp) (args:Args) (us:List Value) (vs:List V) (Q:VK) (E:XK),Room k A->Env0 P w K mg base A outer s H->BindsTo s fd args (ps.zip us)->Vals vs us->sp vs H Q E->
  codeAny (model P w) A (.call (.ref f) args) (CR CX outer P w H s Q E) s
theorem FnOk.mono {P:Program}{w:World}{K:W.Frag}{mg:Str->Option Value}{base:Heap}{CX:CXT}{j k:Nat}{f:Addr}{fd:FuncData}{ps:List Str}{sp:Sp}(F:FnOk P w K mg base CX j f fd ps sp)(h:j<=k) :
 FnOk P w K mg base CX k f fd ps sp:=⟨F.len,λA outer s H args us vs Q E hr=>F.run A outer s H args us vs Q E (hr.mono h)⟩
section
variable {X:Cx}{pins:List (Addr×Obj)}{Y:St}{H:Hp}{s s':Shared}
def Inv.env0 (I:Inv X pins Y H s):Env0 X.prog X.w X.K X.mg X.base X.A X.stack s H:=
 ⟨I.ok.frames,I.ok.mod,I.bs,waq I.ok.bsz I.sz,I.stack,I.stkFree,I.hok,I.bare⟩
def Inv.after {Q:VK}{u:Value}(I:Inv X pins Y H s)(h:CE X.stack X.prog X.w H s Q u s'):EP X pins Y Q u s':=by
 obtain⟨v,H',os,bare,un,hok,r,q⟩:=h;obtain⟨hh,g,d,t,os'⟩:=s';obtain rfl:os'=s.os:=os;exact⟨v,H',I.call (h':=hh) (g':=g) (d':=d) (t':=t) (ch:=[]) un hok bare (λb z=>absurd z (by simp)),r,q⟩
end
def ziG (sp:Sp)(dvs:List V)(E:XK)(t:TA):TE:=λY H Q=>t Y H λvs H1=>sp (vs++dvs) H1 Q E
def Binds (K:W.Frag)(fd:FuncData)(ps:List Str)(ds:List Value):Prop:=
 ∀(s:Shared) (us:List Value),K.In s.heap->(us++ds).length=ps.length->BindsTo s fd ⟨us,[]⟩ (ps.zip (us++ds))
def Binds.all {K:W.Frag}{fd:FuncData}{ps:List Str}(h:∀us:List Value,us.length=ps.length->bindArgs fd ⟨us,[]⟩=pure (ps.zip us)):Binds K fd ps []:=λs us _ hl=>by
 rw[waQ] at hl⊢;exact .of_eq (h us hl)
def ziH (CX:CXT)(X:Cx)(E:XK):Prop:=∀(pins:List (Addr×Obj)) (Y:St) (H:Hp) (s:Shared) (e:Value) (s':Shared),Inv X pins Y H s->CX X.stack H s E e s'->X.xe e s'
section
variable {X:Cx}{CX:CXT}{k:Nat}{f C:Addr}{fd:FuncData}{ps:List Str}{sp:Sp}{dvs:List V}{ds:List Value}{E:XK}{x m:Str}{p pos apos:Pos}{e o:Expr}{es:List Expr}{ta:TE}{t:TA}
def zl9 {pins:List (Addr×Obj)}{Y:St}{H:Hp}{s:Shared}{Q:VK}{us:List Value}{vs:List V}(F:FnOk X.prog X.w X.K X.mg X.base CX k f fd ps sp)(hr:Room k X.A)(hb:Binds X.K fd ps ds)(hd:Vals dvs ds)(hx:ziH CX X E)
 (I:Inv X pins Y H s) (r:Vals vs us) (h:sp (vs++dvs) H Q E):wpAny (model X.prog X.w) X.A (call (.ref f) us) (EP X pins Y Q) X.xe s:=by
 have r2:Vals (vs++dvs) (us++ds):=r.append hd
 have hl:(us++ds).length=ps.length:=by rw[<-r2.length];exact F.len _ _ _ _ h
 refine wpAny_call (codeAny_mono (F.run X.A X.stack s H ⟨us,[]⟩ (us++ds) (vs++dvs) Q E hr I.env0 (hb s us I.kIn hl) r2 h) λr s' hq=>?_);cases r with
|error e=>exact hx pins Y H s e s' I hq
|ok fl=>
   cases fl with
  |ret u=>exact I.after hq
  |next=>exact False.elim hq
  |brk=>exact False.elim hq
  |cont=>exact False.elim hq
def zmV (F:FnOk X.prog X.w X.K X.mg X.base CX k f fd ps sp)(hr:Room k X.A)(hg:Gl X x)(hm:X.mg x=some (.ref f))(hk:W.keepIn X.K (.ref f)=true)(hb:Binds X.K fd ps ds)(hd:Vals dvs ds)(hx:ziH CX X E)
 (ha:PA X (e::es) t) (hdb:(x == ("__debug__" : Str))=false:=by decide) (he:starEach (e::es) X.env=(false,eval e X.env)::starEach es X.env:=by rfl) (hpl:(backTo pos (starEach es X.env)).any (·.1)=false:=by rfl) :
 PE X (.Call (.Name x p) (e::es) [] pos) (ziG sp dvs E t):=by
 intro pins s Y H Q I h;refine waX (zeZ I hg hm ?_ hdb);refine PySem.W.callWith_K (h₀:=X.base) I.ok.mod.kin hk (thn (ha pos pins s Y H _ I h) λus s1 ⟨vs,H1,I1,r,q⟩ =>⟨I1.kIn,?_⟩) he hpl;exact zl9 F hr hb hd hx I1 r q
end
section
variable {X:Cx}{CX:CXT}{k:Nat}{f C:Addr}{fd:FuncData}{ps ks:List Str}{sp:Sp}{E:XK}{x m:Str}{p pos apos kpos:Pos}{e o:Expr}{es:List Expr}{kws:List Keyword}{te ta:TE}{t tk:TA}{nm:Option Str}
variable {g:List Value->List Value->List Value}{gV:List V->List V->List V}
end
structure FnScope (N P:List Str)(sc:Scope):Prop where
 kind:sc.kind=.function
 co:sc.isCoroutine=false
 gen:sc.isGenerator=false
 nd:N.Nodup
 pre:N.take P.length=P
 par:∀x∈P,sc.names.lookup x=some .local\/sc.names.lookup x=some .cell
 nofree:∀y∈sc.names,y.2≠.free
theorem zfD {kindOf:Str->Option NameKind}{x:Str}:∀{binds:List (Str×Value)}{m:Str->Option Value},(∀v,(x,v)∉binds)->bindL kindOf binds m x=m x
|[],_,_=>rfl
|(n,v)::r,m,h=>by
   unfold bindL;rw[zfD λw hw=>h w (wae _ hw)];split
   .have:x≠n:=by rintro rfl;exact h v wai
    simp[this]
   .rfl
theorem zfE {kindOf:Str->Option NameKind}{x:Str}:∀{binds:List (Str×Value)}{m:Str->Option Value},(∀v,(x,v)∉binds)->bindC kindOf binds m x=m x
|[],_,_=>rfl
|(n,v)::r,m,h=>by
   unfold bindC;rw[zfE λw hw=>h w (wae _ hw)];split
   .rfl
   .have:x≠n:=by rintro rfl;exact h v wai
    simp[this]
theorem zfF {kindOf:Str->Option NameKind}{x:Str}{v:Value}:∀{P:List Str}{vs:List Value}{i:Nat}{m:Str->Option Value},P.Nodup->P[i]?=some x->vs[i]?=some v->kindOf x=some .local->
 bindL kindOf (P.zip vs) m x=some v
|[],_,_,_,_,h,_,_=>by simp at h
|_::_,[],_,_,_,_,h,_=>by simp at h
|p::P,w::vs,0,m,nd,h1,h2,hk=>by
   simp at h1 h2;subst h1;subst h2;show bindL kindOf ((p,w)::P.zip vs) m p=_
   unfold bindL;rw[zfD λv hv=>(waF.mp nd).1 (wci hv).1,if_pos hk];simp
|p::P,w::vs,i+1,m,nd,h1,h2,hk=>by
   show bindL kindOf ((p,w)::P.zip vs) m x=_
   unfold bindL;exact zfF (i:=i) (waF.mp nd).2 (by simpa using h1) (by simpa using h2) hk
theorem zfG {kindOf:Str->Option NameKind}{x:Str}{v:Value}:∀{P:List Str}{vs:List Value}{i:Nat}{m:Str->Option Value},P.Nodup->P[i]?=some x->vs[i]?=some v->kindOf x≠some .local->
 bindC kindOf (P.zip vs) m x=some v
|[],_,_,_,_,h,_,_=>by simp at h
|_::_,[],_,_,_,_,h,_=>by simp at h
|p::P,w::vs,0,m,nd,h1,h2,hk=>by
   simp at h1 h2;subst h1;subst h2;show bindC kindOf ((p,w)::P.zip vs) m p=_
   unfold bindC;rw[zfE λv hv=>(waF.mp nd).1 (wci hv).1,if_neg hk];simp
|p::P,w::vs,i+1,m,nd,h1,h2,hk=>by
   show bindC kindOf ((p,w)::P.zip vs) m x=_
   unfold bindC;exact zfG (i:=i) (waF.mp nd).2 (by simpa using h1) (by simpa using h2) hk
def start (N:List Str)(vs:List V):St:=vs.map some++List.replicate (N.length - vs.length) none
def cxOf (CX:CXT)(P:Program)(w:World)(K:W.Frag)(mg:Str->Option Value)(base:Heap)(N:List Str)(qual:Str)(scope:Scope)(f:Addr)(cd:Value)(A:Around)(outer:List Env)(s:Shared)(H:Hp)(E:XK):Cx where
 prog:=P
 w:=w
 K:=K
 mg:=mg
 base:=base
 A:=A.deeper (envOfC qual scope s.heap.objs.size f cd)
 N:=N
 s₀:=s
 Hz:=H
 env:=envOfC qual scope s.heap.objs.size f cd
 outer:=outer
 stack:=envOfC qual scope s.heap.objs.size f cd::outer
 ex:=[]
 calm:=true
 fn:=λ_=>true
 pn:=[]
 xe:=λe s'=>wpAny (model P w) (A.deeper (envOfC qual scope s.heap.objs.size f cd)) (leaving (envOfC qual scope s.heap.objs.size f cd) e) (λ_ s''=>CX outer H s E e s'') (λe' s''=>CX outer H s E e' s'') s'
def zbU {sc:Scope}{n:Nat}{x:Str}(h:sc.names.lookup x=some .cell):∃c,(cellsFrom n sc.names []).lookup x=some c:=by
 have q:=PySem.W.cellsFrom_some sc.names n [] (.inl h)
 exact Option.isSome_iff_exists.mp q
def ziI {CX:CXT}{P:Program}{w:World}{K:W.Frag}{mg:Str->Option Value}{base:Heap}{N ps:List Str}{qual:Str}{scope:Scope}{f:Addr}{cd:Value}{A:Around}{outer:List Env}{s s1:Shared}{H:Hp}{E:XK}{us:List Value}{vs:List V}
 (S:FnScope N ps scope) (hd:A.handled=none) (e0:Env0 P w K mg base A outer s H) (hl:vs.length=ps.length) (r:Vals vs us)
 (x:InCallC s s.heap.objs.size (bindL (envOfC qual scope s.heap.objs.size f cd).kindOf (ps.zip us) λ_=>none) (cellsFrom (s.heap.objs.size+1) scope.names []) (bindC (envOfC qual scope s.heap.objs.size f cd).kindOf (ps.zip us) λ_=>none) s1) :
 Inv (cxOf CX P w K mg base N qual scope f cd A outer s H E) [] (start N vs) H s1:=by
 have hpl:ps.length<=N.length:=by have:=wba List.length S.pre;rw[waz] at this;omega
 obtain⟨h1,tk,rfl,hk⟩:=x.done;have noA:∀b:Addr,b∉(cxOf CX P w K mg base N qual scope f cd A outer s H E).ex:=λb z=>absurd (show b∈([]:List Addr) from z) (by simp)
 refine⟨⟨e0.mod,S.kind,rfl,rfl,wal _,λy z c h1 h2=>?_,λy hy=>?_,λy c _ h=>?_,λ_=>hd,Around.frames_deeper e0.frames,.inr ⟨rfl,rfl⟩,λb z=>absurd z (noA b),e0.bs,e0.bsz,λb _ _=>noA b,λb z=>absurd z (noA b),e0.funs,e0.frf⟩,
  rfl,e0.bare,Un.kept hk,⟨_,x.toInCall.ns,λi y v h1 h2 h3=>?_⟩,λy c h=>⟨_,x.cell y c h⟩,e0.hok.fresh (wal _),λy c h=>?_,λp hp=>absurd (show p∈([]:List (Addr×Obj)) from hp) (by simp),e0.hok.kept hk,?_⟩
 .exact name_of_addr x.apart (wbz h1) (wbz h2)
 .have hy:scope.names.lookup y=some .cell\/scope.names.lookup y=some .free:=hy
  rcases hy with hy|hy
  .exact zbU hy
  .exact absurd rfl (S.nofree _ (wbz hy))
 .exact wbp (x.above y c (wbz h))
 .have hi:i<vs.length:=by
   unfold start at h2;by_cases hi:i<vs.length
   .exact hi
   .rw[waI (by simpa using hi)] at h2;rw[List.getElem?_replicate] at h2;split at h2 <;> cases h2
  have ha:vs[i]?=some v:=by
   unfold start at h2;rw[waJ (by simpa using hi),waj] at h2;cases e:vs[i]? with
  |none=>rw[e] at h2;cases h2
  |some a=>rw[e] at h2;cases h2;rfl
  obtain⟨u,hu,rv⟩:=r.get ha;have hp:ps[i]?=some y:=by
   rw[<-S.pre,List.getElem?_take_of_lt (by omega)];exact h1
  have ndP:ps.Nodup:=by rw[<-S.pre];exact S.nd.sublist (List.take_sublist _ _)
  refine⟨u,rv,?_⟩;rcases S.par y (waC hp) with k|k
  .exact .inl ⟨k,zfF ndP hp hu k⟩
  .obtain⟨c,e⟩:=zbU (n:=s.heap.objs.size+1) k;refine .inr ⟨.inl k,c,e,?_⟩;have q:=x.cell y c e
   rw[zfG ndP hp hu (by show scope.names.lookup y≠_;rw[k];decide)] at q;exact q
 .exact e0.hok.fresh (wbp (x.above y c (wbz h)))
 .unfold start;show _=N.length
  rw[wan,wad,wbF];omega
def zoM {CX:CXT}{P:Program}{w:World}{K:W.Frag}{mg:Str->Option Value}{base:Heap}{k:Nat}{f:Addr}{name qual:Str}{params:Arguments}{body:List Stmt}{scope:Scope}{dV kV doc pm cdv ct oc:Value}{an od:Option Addr}
 {osl:Array (Option Value)}{N ps:List Str}{sp:Sp}(lk:K.lookup f=some ⟨oc,od,.func (W.fnOf name qual params body scope dV kV doc pm an cdv ct),osl⟩) (hcd:W.codeIn K cdv qual=true) (S:FnScope N ps scope)
 (len:∀vs H Q E,sp vs H Q E->vs.length=ps.length)
 (hbody:∀(A:Around) (outer:List Env) (s:Shared) (H:Hp) (vs:List V) (Q:VK) (E:XK),Room k (A.deeper (envOfC qual scope s.heap.objs.size f cdv))->sp vs H Q E->
  ∃t,PSs (cxOf CX P w K mg base N qual scope f cdv A outer s H E) body t/\t {nx:=λ_ H'=>Q .non H',rt:=Q} (start N vs) H) :
 FnOk P w K mg base CX (k+1) f (W.fnOf name qual params body scope dV kV doc pm an cdv ct) ps sp:=by
 refine⟨len,λA outer s H args us vs Q E hr e0 hb r hsp=>?_⟩;have hl:=len _ _ _ _ hsp
 have KX:K.In s.heap:=e0.mod.kin.keeps λb o e=>(e0.bs b o e).1
 have lim:s.heap.NoLimit:=e0.mod.nolimit.keeps λb o e=>(e0.bs b o e).1
 have hkind:∀y∈ps.zip us,scope.names.lookup y.1=some .local\/(scope.names.lookup y.1=some .cell/\((cellsFrom (s.heap.objs.size+1) scope.names []).lookup y.1).isSome=true):=λ⟨n,v⟩ hy=>by
  rcases S.par n (wci hy).1 with q|q
  .exact .inl q
  .exact .inr ⟨q,PySem.W.cellsFrom_some _ _ _ (.inl q)⟩
 refine codeAny_call_function hr.depth (KX _ _ lk) rfl S.co S.gen rfl (PySem.W.codeRec_of KX hcd) (hb _ _ _ _ ?_);refine wpAny_newFunctionEnv_cells S.kind hkind λenv he s1 x=>?_
 subst he;refine⟨lim.keeps x.toInCall.keep,codeAny_func ?_⟩;obtain⟨t,ht,hq⟩:=hbody A outer s H vs Q E (hr.deeper _) hsp;have I:Inv (cxOf CX P w K mg base N qual scope f cdv A outer s H E) [] (start N vs) H s1:=ziI S hr.hd e0 hl r x
 refine waA (ht [] s1 (start N vs) H _ I hq) (λfl s' hs=>?_) λe s' hs=>hs
 have fin:∀{Y':St}{H':Hp}{v:V}{u:Value},Inv (cxOf CX P w K mg base N qual scope f cdv A outer s H E) [] Y' H' s'->RelV v u->Q v H'->CE outer P w H s Q u s':=
  λ{Y' H' v u} J rv q=>⟨v,H',J.os,J.bare,J.base,J.hok,rv,q⟩
 cases fl with
|ret u=>
   obtain⟨v,Y',H',J,rv,q⟩:=hs;exact fin J rv q
|next=>
   obtain⟨Y',H',J,q⟩:=hs;exact fin (v:=V.non) (u:=Value.none) J rfl q
|brk=>
   obtain⟨_,_,_,q⟩:=hs;exact False.elim q
|cont=>
   obtain⟨_,_,_,q⟩:=hs;exact False.elim q
section
variable {X:Cx}{x:Str}{p pos:Pos}{e:Expr}{es:List Expr}{t:TA}{id T:String}{r:List V->Hp->VK->Prop}
def tCB (r:List V->Hp->VK->Prop)(t:TA):TE:=λY H Q=>t Y H λvs H1=>r vs H1 Q
def zkK (hc:zcz X (.builtin id) r)(hg:Gl X x)(hm:X.mg x=none)(hv:bootBuiltins x=some (.builtin id))(ha:PA X (e::es) t)(hn:x≠"__name__":=by decide)(hdb:(x == ("__debug__" : Str))=false:=by decide)
 (he:starEach (e::es) X.env=(false,eval e X.env)::starEach es X.env:=by rfl) (hpl:(backTo pos (starEach es X.env)).any (·.1)=false:=by rfl):PE X (.Call (.Name x p) (e::es) [] pos) (tCB r t):=by
 intro pins s Y H Q I h;refine waX (zcY I hg hm hv ?_ hn hdb);exact PyProof.Rows.callWith_builtin1 (thn (ha pos pins s Y H _ I h) λus s1 ⟨vs,H1,I1,r1,q1⟩ =>hc pins s1 Y H1 vs us Q I1 r1 q1) he hpl
def ziJ (hc:zcz X (.type T) r)(hg:Gl X x)(hm:X.mg x=none)(hv:bootBuiltins x=some (.type T))(ha:PA X (e::es) t)(hn:x≠"__name__":=by decide)(hdb:(x == ("__debug__" : Str))=false:=by decide)
 (he:starEach (e::es) X.env=(false,eval e X.env)::starEach es X.env:=by rfl) (hpl:(backTo pos (starEach es X.env)).any (·.1)=false:=by rfl):PE X (.Call (.Name x p) (e::es) [] pos) (tCB r t):=by
 intro pins s Y H Q I h;refine waX (zcY I hg hm hv ?_ hn hdb);exact waP (thn (ha pos pins s Y H _ I h) λus s1 ⟨vs,H1,I1,r1,q1⟩ =>hc pins s1 Y H1 vs us Q I1 r1 q1) he hpl
end
end L2
namespace HT
open PySem PyProof.Rows
def ze2 (A:Around)(s:Shared)(a:Int)(t:Tok)(c:Int)(u:Tok):∃e,SeqAt.EqAt A s (.int a t) (.int c u) e/\(e=true↔a=c):=
 ⟨(a == c),SeqAt.EqAt.int_int a t c u,by simp⟩
section
open PySem.SeqAt
open PySem.AutoSeq1 (wpAny_loadPart')
open PySem.MeetsSeq PySem.MeetsSeq2 PySem.MeetsSeq3
end
section
variable {prog:Program}{w:World}{A:Around}{E:Value->Shared->Prop}{s:Shared}
def cat_tup {t b:Addr}{vs ws:List Value}{Q:Value->Shared->Prop}(ht:IsTup s.heap t vs.toArray)(hb:IsTup s.heap b ws.toArray)(hv:vs≠[])
 (h1:ws = []->Q (.ref t) s) (h2:ws≠[]->Q (.ref s.heap.objs.size) {s with heap:=s.heap.push {cls:=.type "tuple",data:=.seq (vs++ws).toArray}})
 (hsz:vs.length+ws.length<=sizeLine):wpAny (model prog w) A (binaryOp .Add (.ref t) (.ref b)) Q E s:=by
 obtain⟨⟨cls,dd,data,sl⟩,ho,hc,n,hd⟩:=id ht;obtain⟨⟨cls2,dd2,data2,sl2⟩,ho2,hc2,n2,hd2⟩:=id hb;simp only at hc hd hc2 hd2;subst hc hd hc2 hd2;have e:vs.toArray++ws.toArray=(vs++ws).toArray:=by simp
 by_cases hw:ws = []
 .exact concat_meets ⟨_,ho,rfl⟩ ⟨_,ho2,rfl⟩ noFill_tuple_add seq_tuple_add wbP wbM (wbK _ _)
   (tuple_addW1 t b vs.toArray ws.toArray n n2 dd dd2 sl sl2 (by simpa using hv) (by simp[hw])) ⟨ho,ho2,h1 hw⟩
 .refine concat_meets ⟨_,ho,rfl⟩ ⟨_,ho2,rfl⟩ noFill_tuple_add seq_tuple_add wbP wbM (wbK _ _)
   (tuple_addW2 t b vs.toArray ws.toArray n n2 dd dd2 sl sl2 (by simpa using hv) (by simpa using hw) (by rw[wac,wac];exact hsz)) ⟨ho,ho2,?_⟩
  rw[e];exact h2 hw
def sIx (n d:Nat):Option Int->Nat
|none=>d
|some v=>if v<0 then(v+(n:Int)).toNat else min v.toNat n
def zoN (n d:Nat)(hd:d<=n)(o:Option Int):sIx n d o<=n:=by
 cases o with
|none=>exact hd
|some v=>
   show(if v<0 then(v+(n:Int)).toNat else min v.toNat n)<=n
   by_cases hv:v<0
   .rw[if_pos hv];omega
   .rw[if_neg hv];exact Nat.min_le_right _ _
def ziK (v:Int)(n d:Nat):(if v<0 then max (v+(n:Int)) 0 else min v (n:Int))=((sIx n d (some v):Nat):Int):=by
 show(if v<0 then max (v+(n:Int)) 0 else min v (n:Int))=(((if v<0 then(v+(n:Int)).toNat else min v.toNat n):Nat):Int)
 by_cases hv:v<0
 .simp only[if_pos hv];omega
 .simp only[if_neg hv];omega
def zhO (lo hi:Option Int)(n:Nat):Builtin.Slice.sliceAdjust lo hi 1 (n:Int)=(((sIx n 0 lo:Nat):Int),((sIx n n hi:Nat):Int)):=by
 have h1:¬((1:Int)<0):=by omega
 unfold Builtin.Slice.sliceAdjust;simp only[h1,if_false];refine Prod.ext ?_ ?_
 .cases lo with
 |none=>rfl
 |some v=>exact ziK v n 0
 .cases hi with
 |none=>rfl
 |some v=>exact ziK v n n
def zhP (i j:Nat):Builtin.Slice.slicePlaces (i:Int) (j:Int) 1=j - i:=by
 unfold Builtin.Slice.slicePlaces;have h1:(1:Int)>0:=by omega
 simp only[h1,if_true,Int.ediv_one];split <;> omega
def zeO {v:Value}{o:Option Int}{Q:Option Int->Shared->Prop}(p:IsPart v o)(h:Q o s):wpAny (model prog w) A (Builtin.Slice.slicePartIndex v) Q E s:=by
 cases p with
|none=>exact slicePart_none h
|int i t=>exact slicePart_int h
def zcw {sl:Addr}{vl vu:Value}{lo hi:Option Int}{n:Nat}{Q:Int×Int×Nat->Shared->Prop}(hs:s.heap.IsSliceOf sl vl vu .none)(pl:IsPart vl lo)(pu:IsPart vu hi)
 (h:Q (((sIx n 0 lo:Nat):Int),1,sIx n n hi - sIx n 0 lo) s):wpAny (model prog w) A (Builtin.Slice.sliceApplied (.ref sl) (pure (n:Int))) Q E s:=by
 obtain⟨os,hos,hcs,hds⟩:=id hs;unfold Builtin.Slice.sliceApplied Builtin.Slice.sliceFields;refine wab (wab (wbR hos hds (x:=vl) rfl (wab (wbR hos hds (x:=vu) rfl (wab (wbR hos hds (x:=.none) rfl (wao ?_)))))));refine wab (slicePart_none ?_);show wpAny _ _ (if((1:Int) == 0)=true then _ else _) _ _ s
 rw[if_neg (by decide)];refine wab (zeO pl (wab (zeO pu (wab (wao ?_)))));show wpAny _ _ (match Builtin.Slice.sliceAdjust lo hi 1 (n:Int) with|(lo,hi)=>pure (lo,(1:Int),Builtin.Slice.slicePlaces lo hi 1)) _ _ s
 rw[zhO lo hi n];show wpAny _ _ (pure (((sIx n 0 lo:Nat):Int),(1:Int),Builtin.Slice.slicePlaces ((sIx n 0 lo:Nat):Int) ((sIx n n hi:Nat):Int) 1)) _ _ s
 rw[zhP];exact wao h
def zkL (xs:Array Value)(i k:Nat):((List.range k).filterMap λ(m:Nat)=>xs[((i:Int)+(m:Int)*1).toNat]?).toArray=((xs.toList.drop i).take k).toArray:=by
 have e:(λ(m:Nat)=>xs[((i:Int)+(m:Int)*1).toNat]?)=λm=>xs[i+m]?:=by
  funext m
  have:((i:Int)+(m:Int)*1).toNat=i+m:=by omega
  rw[this]
 rw[e];have:=pick_run xs i k
 rw[List.filterMap_map] at this;have e2:((λx=>xs[x]?)∘λx=>i+x)=λm=>xs[i+m]?:=rfl
 rw[e2] at this;rw[this]
def getItem_tuple_cut {t sl:Addr}{items:Array Value}{vl vu:Value}{lo hi:Option Int}{Q:Value->Shared->Prop}(ht:IsTup s.heap t items)(hs:s.heap.IsSliceOf sl vl vu .none)(pl:IsPart vl lo)(pu:IsPart vu hi)
 (hw:¬(sIx items.size 0 lo=0/\sIx items.size items.size hi=items.size))
 (h:Q (.ref s.heap.objs.size) {s with heap:=s.heap.push {cls:=.type "tuple",data:=.seq ((items.toList.drop (sIx items.size 0 lo)).take (sIx items.size items.size hi - sIx items.size 0 lo)).toArray}})
 (hsz:items.size<=sizeLine):wpAny (model prog w) A (getItem (.ref t) (.ref sl)) Q E s:=by
 have htake:sizeOk (.seq ((items.toList.drop (sIx items.size 0 lo)).take (sIx items.size items.size hi - sIx items.size 0 lo)).toArray):=by
  show((items.toList.drop (sIx items.size 0 lo)).take (sIx items.size items.size hi - sIx items.size 0 lo)).toArray.size<=sizeLine
  rw[wac,waz,List.length_drop,wcg];omega
 have hj:sIx items.size items.size hi<=items.size:=zoN _ _ (wal _) hi
 obtain⟨os,hos,hcs,hds⟩:=id hs;have hTs:s.TypeIs (.ref sl) "slice":=⟨os,hos,hcs⟩
 unfold getItem;try with_reducible refine wby ?_
 first|refine wab (wao ?_)|skip
 refine wab (wpAny_sequenceKey ht.typeIs (by decide) ?_);refine wab (wbA (name:=Str.ofString "__getitem__") ht.typeIs wbh
  (wbY wbh ht.typeIs entry_tuple_getitem ?_ (args_tuple_getitem _ _)))
 show wpAny _ _ (Builtin.Tuple.tupleItemsOf (.ref t) >>= _) _ _ s
 refine wab (tupleItemsOf_ ht ?_);refine wab (wpAny_typeOf hTs ?_);rw[if_pos (by decide)];refine wab (zcw hs pl pu ?_);have hno:¬((((sIx items.size 0 lo:Nat):Int) == 0&&(1:Int) == 1&&(sIx items.size items.size hi - sIx items.size 0 lo) == items.size)=true):=by
  intro q;rw[waD,waD] at q;have q1:((sIx items.size 0 lo:Nat):Int)=0:=eq_of_beq q.1.1
  have q2:sIx items.size items.size hi - sIx items.size 0 lo=items.size:=eq_of_beq q.2
  exact hw ⟨by omega,by omega⟩
 show wpAny _ _ (if(((sIx items.size 0 lo:Nat):Int) == 0&&(1:Int) == 1&&(sIx items.size items.size hi - sIx items.size 0 lo) == items.size)=true then _ else _) _ _ s
 rw[if_neg hno,zkL];first
 |exact wab (m:=Builtin.Tuple.tupleExact _) (wbg (wao ⟨_,rfl,wao h⟩) htake)
 |exact wab (m:=Builtin.Tuple.tupleExact _) (wbg (wab (wao (wao ⟨_,rfl,wao h⟩))) htake)
 |exact wab (wab (m:=Builtin.Tuple.tupleExact _) (wbg (wao (wao ⟨_,rfl,wao h⟩)) htake))
 |exact wab (wab (m:=Builtin.Tuple.tupleExact _) (wbg (wao ⟨_,rfl,wao h⟩) htake))
end
end HT
namespace L2
open PySem PySem.Spec PyProof.Rows
abbrev TO:=St->Hp->(Option Int->Hp->Prop)->Prop
def PO (X:Cx)(e:Option Expr)(t:TO):Prop:=
 ∀(pins:List (Addr×Obj)) (s:Shared) (Y:St) (H:Hp) (Q:Option Int->Hp->Prop),Inv X pins Y H s->t Y H Q->
  wpAny (model X.prog X.w) X.A (evalPart e X.env) (λu s'=>∃o H',Inv X pins Y H' s'/\IsPart u o/\Q o H') X.xe s
def zmW:TO:=λ_ H Q=>Q none H
def zqA (t:TE):TO:=λY H Q=>t Y H λx H1=>∃i,x=.int i/\Q (some i) H1
section
variable {X:Cx}{e:Expr}{te:TE}{lo hi:Option Expr}{tl th:TO}{pos p2:Pos}
def ziL:PO X none zmW:=by
 intro pins s Y H Q I h;rw[evalPart_none];exact wao ⟨none,H,I,.none,h⟩
def ziM (h:PE X e te):PO X (some e) (zqA te):=by
 intro pins s Y H Q I hw;rw[evalPart_some];refine thn (h pins s Y H _ I hw) λu s1 ⟨x,H1,I1,r1,q1⟩ =>?_
 obtain⟨i,rfl,q⟩:=q1;obtain⟨t,rfl⟩:=r1;exact⟨some i,H1,I1,.int i t,q⟩
def SlR (X:Cx)(r:V->Option Int->Option Int->Hp->VK->Prop):Prop:=
 ∀(pins:List (Addr×Obj)) (s:Shared) (Y:St) (H:Hp) (x:V) (v vl vu:Value) (lo hi:Option Int) (sl:Addr) (Q:VK),Inv X pins Y H s->RelV x v->s.heap.IsSliceOf sl vl vu .none->IsPart vl lo->IsPart vu hi->r x lo hi H Q->
  ∃T id,typeLookup (.type T) "__getitem__"=pure (some (.builtin id))/\s.TypeIs v T/\wpAny (model X.prog X.w) X.A (getItem v (.ref sl)) (EP X pins Y Q) X.xe s
def SlR.or {r r':V->Option Int->Option Int->Hp->VK->Prop}(h:SlR X r)(h':SlR X r'):SlR X (λx lo hi H Q=>r x lo hi H Q\/r' x lo hi H Q):=by
 intro pins s Y H x v vl vu lo hi sl Q I rx hs pl pu q;rcases q with q|q
 .exact h pins s Y H x v vl vu lo hi sl Q I rx hs pl pu q
 .exact h' pins s Y H x v vl vu lo hi sl Q I rx hs pl pu q
def tSl (r:V->Option Int->Option Int->Hp->VK->Prop)(te:TE)(tl th:TO):TE:=λY H Q=>te Y H λx H1=>tl Y H1 λl H2=>th Y H2 λu H3=>r x l u H3 Q
def ze3 {r:V->Option Int->Option Int->Hp->VK->Prop}(hr:SlR X r)(he:PE X e te)(hl:PO X lo tl)(hu:PO X hi th):PE X (.Subscript e (.Slice lo hi none p2) pos) (tSl r te tl th):=by
 intro pins s Y H Q I h;refine Subscript_ (thn (he pins s Y H _ I h) λv s1 ⟨x,H1,I1,r1,q1⟩ =>?_);refine wpAny_Slice (thn (hl pins s1 Y H1 _ I1 q1) λvl s2 ⟨l,H2,I2,pl,q2⟩ =>thn (hu pins s2 Y H2 _ I2 q2) λvu s3 ⟨u,H3,I3,pu,q3⟩ =>?_);rw[evalPart_none];refine wao ?_;have I4:Inv X pins Y H3 {s3 with heap:=s3.heap.push {cls:=.type "slice",data:=.fields #[vl,vu,.none]}}:=I3.kept (t':=s3.toks) λb ob q=>wag _ q
 obtain⟨T,id,hT,ht,hg⟩:=hr pins {s3 with heap:=s3.heap.push {cls:=.type "slice",data:=.fields #[vl,vu,.none]}} Y H3 x v vl vu l u s3.heap.objs.size Q I4 r1 (Heap.IsSliceOf.new ..) pl pu q3;show wpAny (model X.prog X.w) X.A (subscriptTail e (.Slice lo hi none p2) v (.ref s3.heap.objs.size)) (EP X pins Y Q) X.xe {s3 with heap:=s3.heap.push {cls:=.type "slice",data:=.fields #[vl,vu,.none]}}
 exact tail_any (ops:=[.ref s3.heap.objs.size,v]) ht hT hg (by with_unfolding_all rfl)
def cutV (xs:List V)(lo hi:Option Int):List V:=(xs.drop (HT.sIx xs.length 0 lo)).take (HT.sIx xs.length xs.length hi - HT.sIx xs.length 0 lo)
def zd1 (xs:List V)(lo hi:Option Int):(cutV xs lo hi).length<=xs.length:=by
 unfold cutV;rw[waz,List.length_drop];omega
def rSlT (K:W.Frag):V->Option Int->Option Int->Hp->VK->Prop:=λx lo hi H Q=>∃a xs,x=.ref a/\SqT K H a xs/\
 ¬(HT.sIx xs.length 0 lo=0/\HT.sIx xs.length xs.length hi=xs.length)/\∀p,H p=none->Q (.ref p) (upd H p (.tup (cutV xs lo hi)))
def sl_tup:SlR X (rSlT X.K):=by
 intro pins s Y H x v vl vu lo hi sl Q I rx hs pl pu h;obtain⟨a,xs,rfl,hx,hw,q⟩:=h;cases rx;obtain⟨its,r,ht,hz⟩:=I.tuple hx;have hlen:its.toArray.size=xs.length:=by rw[wac];exact r.length.symm
 refine⟨"tuple",_,PyProof.Rows.slot_tuple_getitem.lookup,ht.typeIs,?_⟩;refine HT.getItem_tuple_cut ht hs pl pu (by rw[hlen];exact hw) ?_ (by rw[hlen];exact hz);rw[hlen];refine⟨.ref s.heap.objs.size,_,I.laid (t':=s.toks) (o:=.tup (cutV xs lo hi)) (λb ob q=>wag _ q) (wal _) ?_,rfl,q _ (I.hok.fresh (wal _))⟩;exact⟨waq (zd1 xs lo hi) hz,_,(r.drop (HT.sIx xs.length 0 lo)).take (HT.sIx xs.length xs.length hi - HT.sIx xs.length 0 lo),IsTup.new _ _⟩
def zqB (K:W.Frag):R2:=λx y H Q=>∃a b xs ys,x=.ref a/\y=.ref b/\SqT K H a xs/\SqT K H b ys/\xs≠[]/\xs.length+ys.length<=sizeLine/\
 (ys = []->Q (.ref a) H)/\(ys≠[]->∀p,H p=none->Q (.ref p) (upd H p (.tup (xs++ys))))
def Vals.nil_iff {xs:List V}{us:List Value}(r:Vals xs us):us = []↔xs = []:=by
 cases r with
|nil=>simp
|cons _ _=>simp
def zmX:OpR X (binaryOp .Add) (zqB X.K):=by
 intro pins s Y H x y v u Q I rx ry h;obtain⟨a,b,xs,ys,rfl,rfl,ha,hb,hx,hz,q1,q2⟩:=h;cases rx;cases ry;obtain⟨its,r1,p1,_⟩:=I.tuple ha;obtain⟨its2,r2,p2,_⟩:=I.tuple hb;refine HT.cat_tup p1 p2 (λz=>hx (r1.nil_iff.mp z)) (λz=>⟨.ref a,H,I,rfl,q1 (r2.nil_iff.mp z)⟩) (λz=>?_) (by rw[<-r1.length,<-r2.length];exact hz);refine⟨.ref s.heap.objs.size,_,I.laid (t':=s.toks) (o:=.tup (xs++ys)) (λb ob q=>wag _ q) (wal _) ?_,rfl,q2 (λw=>z (r2.nil_iff.mpr w)) _ (I.hok.fresh (wal _))⟩;exact⟨by rw[wan];exact hz,_,r1.append r2,IsTup.new _ _⟩
end
def ixN (n:Nat)(i:Int):Option Nat:=if 0<=i then(if i<n then some i.toNat else none) else if -(n:Int)<=i then some (i+n).toNat else none
def atI {α:Type}(xs:List α)(i:Int):Option α:=(ixN xs.length i).bind λj=>xs[j]?
def ziN {n:Nat}{i:Int}{j:Nat}(h:ixN n i=some j):seqIndex? i n=some j/\j<n/\-(n:Int)<=i/\i<n:=by
 unfold ixN at h;by_cases h0:0<=i
 .rw[if_pos h0] at h;by_cases h1:i<n
  .rw[if_pos h1] at h;have e:i.toNat=j:=waw h
   exact⟨by rw[seqIndex_of h0 h1,e],by omega,by omega,h1⟩
  .rw[if_neg h1] at h;cases h
 .rw[if_neg h0] at h;by_cases h1:-(n:Int)<=i
  .rw[if_pos h1] at h;have e:(i+n).toNat=j:=waw h
   exact⟨by rw[seqIndex_neg (by omega) h1,e],by omega,h1,by omega⟩
  .rw[if_neg h1] at h;cases h
def zgv {α:Type}{xs:List α}{i:Int}{v:α}(h:atI xs i=some v):∃j,seqIndex? i xs.length=some j/\xs[j]?=some v/\j<xs.length/\-(xs.length:Int)<=i/\i<xs.length:=by
 unfold atI at h;cases e:ixN xs.length i with
|none=>rw[e] at h;cases h
|some j=>
   rw[e] at h;obtain⟨h1,h2,h3,h4⟩:=ziN e;exact⟨j,h1,h,h2,h3,h4⟩
def za4 {α:Type}{xs:List α}{j:Nat}{v:α}(h:xs[j]?=some v):atI xs (j:Int)=some v:=by
 have hj:j<xs.length:=(waa.mp h).1
 have e:ixN xs.length (j:Int)=some j:=by
  unfold ixN;rw[if_pos (by omega),if_pos (by omega)];simp
 unfold atI;rw[e];exact h
def zc4 (b:Expr):Prop:=∀o i,subscripted b false o i=operate [o,i] (getItem o i)
def IxR (X:Cx)(r:R2):Prop:=
 ∀(value slice:Expr) (pins:List (Addr×Obj)) (s:Shared) (Y:St) (H:Hp) (x y:V) (v u:Value) (Q:VK),Inv X pins Y H s->RelV x v->RelV y u->r x y H Q->
  subscripted slice false v u=operate [v,u] (getItem v u)->wpAny (model X.prog X.w) X.A (subscriptTail value slice v u) (EP X pins Y Q) X.xe s
def MtR (X:Cx)(id:String)(r:V->List V->Hp->VK->Prop):Prop:=
 ∀(pins:List (Addr×Obj)) (s:Shared) (Y:St) (H:Hp) (x:V) (xs:List V) (v:Value) (us:List Value) (Q:VK),Inv X pins Y H s->RelV x v->Vals xs us->r x xs H Q->
  wpAny (model X.prog X.w) X.A (call (.builtin id) (v::us)) (EP X pins Y Q) X.xe s
section
variable {X:Cx}{a b:Expr}{ta tb:TE}{pos:Pos}
def IxR.or {r r':R2}(h:IxR X r)(h':IxR X r'):IxR X (λx y H Q=>r x y H Q\/r' x y H Q):=by
 intro value slice pins s Y H x y v u Q I rx ry q hs;rcases q with q|q
 .exact h value slice pins s Y H x y v u Q I rx ry q hs
 .exact h' value slice pins s Y H x y v u Q I rx ry q hs
def zhQ {r:R2}(hr:IxR X r)(ha:PE X a ta)(hb:PE X b tb)(hs:zc4 b):PE X (.Subscript a b pos) (tOp r ta tb):=by
 intro pins s Y H Q I h;exact Subscript_ (binT ha hb I h λv u s2 x y H2 I2 rx ry q=>hr a b pins s2 Y H2 x y v u Q I2 rx ry q (hs _ _))
def rIxL (K:W.Frag):R2:=λx y H Q=>∃p xs i v,x=.ref p/\y=.int i/\SqL K H p xs/\atI xs i=some v/\Q v H
def rIxT (K:W.Frag):R2:=λx y H Q=>∃p xs i v,x=.ref p/\y=.int i/\SqT K H p xs/\atI xs i=some v/\Q v H
def rIxS:R2:=λx y H Q=>∃z i c,x=.str z/\y=.int i/\z.length<=sizeLine/\atI z.cps.toList i=some c/\Q (.str ⟨#[c]⟩) H
def ix_list:IxR X (rIxL X.K):=by
 intro value slice pins s Y H x y v u Q I rx ry h hs;obtain⟨p,xs,i,z,rfl,rfl,hq,he,q⟩:=h;cases rx;obtain⟨t,rfl⟩:=ry;obtain⟨its,r,pl,hz⟩:=I.list hq;obtain⟨j,h1,h2,h3,h4,h5⟩:=zgv he;obtain⟨w,ew,rw'⟩:=r.get h2;have hl:=r.length
 have hn:=zdZ
 have fin:EP X pins Y Q w s:=⟨z,H,I,rw',q⟩
 by_cases h0:0<=i
 .have hj:i.toNat=j:=by
   rw[seqIndex_of h0 h5] at h1;exact waw h1
  exact item_listR pl.isList h0 (by omega) (by rw[hj];simpa using ew) fin hs
 .have hj:(i+(its.toArray.size:Int)).toNat=j:=by
   rw[seqIndex_neg (by omega) h4] at h1;rw[wac,<-hl];exact waw h1
  exact subscriptTail_builtinR (x:=w) pl.isList.typeIs slot_list_getitem.lookup
   (wpAny_getItem_list_neg (Q:=λr s'=>r=w/\EP X pins Y Q r s') pl.isList (by omega) (by rw[wac] <;> omega) (by omega) (by rw[hj];simpa using ew) ⟨rfl,fin⟩) hs
def ix_tup:IxR X (rIxT X.K):=by
 intro value slice pins s Y H x y v u Q I rx ry h hs;obtain⟨p,xs,i,z,rfl,rfl,hq,he,q⟩:=h;cases rx;obtain⟨t,rfl⟩:=ry;obtain⟨its,r,pl,hz⟩:=I.tuple hq;obtain⟨j,h1,h2,h3,h4,h5⟩:=zgv he;obtain⟨w,ew,rw'⟩:=r.get h2;have hl:=r.length
 have hn:=zdZ
 have fin:EP X pins Y Q w s:=⟨z,H,I,rw',q⟩
 exact subscriptTail_builtinR (x:=w) pl.typeIs slot_tuple_getitem.lookup
  (getItem_tuple (j:=j) (Q:=λr s'=>r=w/\EP X pins Y Q r s') pl (by omega) (by omega) (by rw[wac,<-hl];exact h1) (by simpa using ew) ⟨rfl,fin⟩) hs
def zoO:IxR X rIxS:=by
 intro value slice pins s Y H x y v u Q I rx ry h hs;obtain⟨z,i,c,rfl,rfl,hz,he,q⟩:=h;obtain⟨t,rfl⟩:=rx;obtain⟨t',rfl⟩:=ry;obtain⟨j,h1,h2,h3,h4,h5⟩:=zgv he;have hl:z.cps.toList.length=z.length:=by simp[Str.length]
 rw[hl] at h1 h4 h5;have hn:=zdZ
 exact tail_any (typeIs_str s z t) slot_str_getitem.lookup (getItem_str (c:=c) (by
  have e1:decide (i < -(2 ^ 63:Int))=false:=wav (by omega)
  have e2:decide (i≥2 ^ 63)=false:=wav (by omega)
  rw[e1,e2,Bool.or_false]) (by rw[h1];simpa using h2) ⟨.str ⟨#[c]⟩,H,I.tok _,⟨_,rfl⟩,q⟩) hs
def rIx (K:W.Frag):R2:=λx y H Q=>rIxL K x y H Q\/rIxT K x y H Q\/rIxS x y H Q
def zfH:IxR X (rIx X.K):=ix_list.or (ix_tup.or zoO)
def zhR (its:List Value)(n j:Nat)(u:Value):Obj.mapSeq (·.setIfInBounds j u) {cls:=.type "list",data:=.seq its.toArray n} = {cls:=.type "list",data:=.seq (its.set j u).toArray n}:=by
 simp[Obj.mapSeq]
theorem Inv.lst {pins:List (Addr×Obj)}{Y:St}{H:Hp}{s:Shared}{p:Addr}{xs:List V}(I:Inv X pins Y H s)(h:H p=some (.lst xs)) :
 ∃(its:List Value) (n:Nat),Vals xs its/\s.heap.get? p=some {cls:=.type "list",data:=.seq its.toArray n}/\xs.length<=sizeLine:=by
 obtain⟨z,its,n,r,e⟩:=I.hok p _ h;exact⟨its,n,r,e,z⟩
def Inv.lstUpd {pins:List (Addr×Obj)}{Y:St}{H:Hp}{s:Shared}{p:Addr}{xs ys:List V}{its its':List Value}{n n':Nat}{f:Obj->Obj}(I:Inv X pins Y H s)(h:H p=some (.lst xs))
 (ho:s.heap.get? p=some {cls:=.type "list",data:=.seq its.toArray n}) (hf:f {cls:=.type "list",data:=.seq its.toArray n} = {cls:=.type "list",data:=.seq its'.toArray n'}) (r:Vals ys its') (hz:ys.length<=sizeLine) (t:Nat) :
 Inv X pins Y (upd H p (.lst ys)) {s with heap:=s.heap.update p f,toks:=t}:=by
 have e:(s.heap.update p f).get? p=some {cls:=.type "list",data:=.seq its'.toArray n'}:=by
  rw[Heap.get?_update_self f ho (by rw[hf] <;> rfl),hf]
 refine I.write (x:=p) (e:=p) (by rw[h];trivial) (.inl rfl) (λb u hb q=>(Heap.get?_update_other _ _ (Ne.symm hb)).trans q) ⟨_,e⟩ ?_;exact⟨hz,its',n',r,e⟩
def zqC:V->V->V->Hp->(Hp->Prop)->Prop:=λo i v H Q=>∃p xs k j,o=.ref p/\i=.int k/\H p=some (.lst xs)/\ixN xs.length k=some j/\Q (upd H p (.lst (xs.set j v)))
def ze4:PSet X zqC:=by
 intro pins s Y H o i v ov iv u Q I ro ri rv h;obtain⟨p,xs,k,j,rfl,rfl,hp,hj,q⟩:=h;cases ro;obtain⟨t,rfl⟩:=ri;obtain⟨its,n,r,ho,hz⟩:=I.lst hp;obtain⟨h1,h2,h3,h4⟩:=ziN hj;have hl:=r.length
 have hn:=zdZ
 have I':Inv X pins Y (upd H p (.lst (xs.set j v))) {s with heap:=s.heap.update p (Obj.mapSeq (·.setIfInBounds j u))}:=
  I.lstUpd hp ho (zhR its n j u) (r.set rv j) (by rw[List.length_set];exact hz) s.toks
 by_cases h0:0<=k
 .have hk:k.toNat=j:=by
   rw[seqIndex_of h0 h4] at h1;exact waw h1
  exact PySem.W.ki_setAt ho h0 (by omega) (by rw[wac,<-hl];exact h4) (by rw[hk];exact⟨_,I',q⟩)
 .have hk:(k+(its.toArray.size:Int)).toNat=j:=by
   rw[seqIndex_neg (by omega) h3] at h1;rw[wac,<-hl];exact waw h1
  exact PySem.W.ki_setBack ho (by omega) (by rw[wac,<-hl];exact h3) (by omega) (by rw[hk];exact⟨_,I',q⟩)
def zfI (lo hi:Option Int)(n:Nat):(sliceBounds lo hi none n).1=((HT.sIx n 0 lo:Nat):Int)/\(sliceBounds lo hi none n).2.1=((HT.sIx n n hi:Nat):Int)/\(sliceBounds lo hi none n).2.2=1:=by
 refine⟨?_,?_,rfl⟩
 .cases lo with
 |none=>simp[sliceBounds,HT.sIx]
 |some i=>
    simp only[sliceBounds,HT.sIx,Option.getD_none,show(1:Int)>0 by decide,if_true];by_cases h:i<0
    .simp only[h,if_true] <;> omega
    .simp only[h,if_false] <;> omega
 .cases hi with
 |none=>simp[sliceBounds,HT.sIx]
 |some i=>
    simp only[sliceBounds,HT.sIx,Option.getD_none,show(1:Int)>0 by decide,if_true];by_cases h:i<0
    .simp only[h,if_true] <;> omega
    .simp only[h,if_false] <;> omega
def ze5 (its:List Value)(lo hi:Option Int):slicePick its.toArray lo hi none=((its.drop (HT.sIx its.length 0 lo)).take (HT.sIx its.length its.length hi - HT.sIx its.length 0 lo)).toArray:=by
 obtain⟨h1,h2,h3⟩:=zfI lo hi its.toArray.size;unfold slicePick;rw[h1,h2,h3];simp only[sliceRange_one,pick_run,wac] <;> rfl
def rSlL (K:W.Frag):V->Option Int->Option Int->Hp->VK->Prop:=λx lo hi H Q=>∃a xs,x=.ref a/\SqL K H a xs/\∀p,H p=none->Q (.ref p) (upd H p (.lst (cutV xs lo hi)))
def sl_list:SlR X (rSlL X.K):=by
 intro pins s Y H x v vl vu lo hi sl Q I rx hs pl pu h;obtain⟨a,xs,rfl,hx,q⟩:=h;cases rx;obtain⟨its,r,ht,hz⟩:=I.list hx;have hlen:=r.length
 refine⟨"list",_,slot_list_getitem.lookup,ht.isList.typeIs,?_⟩;refine wpAny_getItem_list_slice ht.isList hs pl pu .none (by simp) ?_ (by rw[wac] <;> omega);rw[ze5,<-hlen];refine⟨.ref s.heap.objs.size,_,I.laid (t':=s.toks) (o:=.lst (cutV xs lo hi)) (λb ob q=>wag _ q) (wal _) ?_,rfl,q _ (I.hok.fresh (wal _))⟩;exact⟨waq (zd1 xs lo hi) hz,_,0,(r.drop (HT.sIx xs.length 0 lo)).take (HT.sIx xs.length xs.length hi - HT.sIx xs.length 0 lo),wau _ rfl⟩
def zfJ:zcz X (.builtin "len") (λxs H Q=>∃p ys,xs = [.ref p]/\(SqL X.K H p ys\/SqT X.K H p ys)/\Q (.int ys.length) H):=by
 intro pins s Y H xs us Q I r h;obtain⟨p,ys,rfl,hq,q⟩:=h;obtain⟨u,rfl,rx⟩:=zfC r;cases rx;have hn:=zdZ
 rcases hq with hq|hq
 .obtain⟨its,r',pl,hz⟩:=I.list hq;have hlen:=r'.length
  exact Calls.call_len_list pl.isList (by simp only[wac] <;> omega) ⟨.int ys.length,H,I.tok _,⟨s.toks+1,by rw[wac,hlen]⟩,q⟩
 .obtain⟨its,r',pl,hz⟩:=I.tuple hq;have hlen:=r'.length
  exact len_tuple pl (by simp only[wac] <;> omega) ⟨.int ys.length,H,I.tok _,⟨s.toks+1,by rw[wac,hlen]⟩,q⟩
def zfK:zcz X (.type "list") (λxs H Q=>∃p ys,xs = [.ref p]/\(SqL X.K H p ys\/SqT X.K H p ys)/\∀l,H l=none->Q (.ref l) (upd H l (.lst ys))):=by
 intro pins s Y H xs us Q I r h;obtain⟨p,ys,rfl,hq,q⟩:=h;obtain⟨u,rfl,rx⟩:=zfC r;cases rx;have fin:∀(its:List Value),Vals ys its->ys.length<=sizeLine->∀(h':Heap) (c':Nat),(∀b o',s.heap.get? b=some o'->h'.get? b=some o')->
  h'.get? s.heap.objs.size=some {cls:=.type "list",dict:=none,data:=.seq its.toArray c',slots:=#[]}->EP X pins Y Q (.ref s.heap.objs.size) {s with heap:=h'}:=λits r' hz h' c' kp e=>
  ⟨.ref s.heap.objs.size,_,I.laid (t':=s.toks) kp (wal _) (show ObjOk X.prog X.w _ h' _ (.lst ys) from⟨hz,its,c',r',e⟩),rfl,q _ (I.hok.fresh (wal _))⟩
 rcases hq with hq|hq
 .obtain⟨its,r',pl,hz⟩:=I.list hq;have hlen:=r'.length
  obtain⟨o,ho,hc,n,hd⟩:=pl.isList;exact call_list_seq p (.inl rfl) ho hc hd (λh' c' kp e=>fin its r' hz h' c' kp e) (by simp only[wac] <;> omega)
 .obtain⟨its,r',pl,hz⟩:=I.tuple hq;have hlen:=r'.length
  obtain⟨o,ho,hc,n,hd⟩:=pl;exact call_list_seq p (.inr rfl) ho hc hd (λh' c' kp e=>fin its r' hz h' c' kp e) (by simp only[wac] <;> omega)
def zbb:zcz X (.type "tuple") (λxs H Q=>∃p ys,xs = [.ref p]/\((SqL X.K H p ys/\∀l,H l=none->Q (.ref l) (upd H l (.tup ys)))\/(SqT X.K H p ys/\Q (.ref p) H))):=by
 intro pins s Y H xs us Q I r h;obtain⟨p,ys,rfl,h⟩:=h;obtain⟨u,rfl,rx⟩:=zfC r;cases rx;rcases h with⟨hq,q⟩|⟨hq,q⟩
 .obtain⟨its,r',pl,hz⟩:=I.list hq;have hlen:=r'.length
  refine call_tuple_list pl.isList (λh' kp=>?_) (by simp only[wac] <;> omega);have I1:Inv X pins Y H {s with heap:=h'}:=I.kept (t':=s.toks) kp
  have I2:Inv X pins Y (upd H h'.objs.size (.tup ys)) {s with heap:=h'.push {cls:=.type "tuple",data:=.seq its.toArray}}:=
   I1.laid (t':=s.toks) (λb o e=>wag _ e) (wal _) (show ObjOk X.prog X.w _ _ _ (.tup ys) from⟨hz,its,r',IsTup.new _ _⟩)
  exact⟨.ref h'.objs.size,_,I2,rfl,q _ (I1.hok.fresh (wal _))⟩
 .obtain⟨its,r',pl,hz⟩:=I.tuple hq;exact call_tuple_same pl ⟨.ref p,H,I,rfl,q⟩
def tyV (K:W.Frag)(T:String)(x:V)(H:Hp):Prop:=match x with
|.str _=>T = "str"
|.int _=>T = "int"
|.ref p=>(T = "list"/\∃xs,SqL K H p xs)\/(T = "tuple"/\∃o,K.lookup p=some o/\o.cls=.type "tuple"/\o.dict=none)\/
  (T = "dict"/\((∃kvs,H p=some (.dK kvs))\/∃kvs,H p=some (.dT kvs)))\/(T = "set"/\∃S n,H p=some (.set S n))
|_=>False
def zoP {pins:List (Addr×Obj)}{Y:St}{H:Hp}{s:Shared}{T:String}{x:V}{v:Value}(I:Inv X pins Y H s)(r:RelV x v)(ty:tyV X.K T x H) :
 s.TypeIs v T/\∀a,v=.ref a->∃ob,s.heap.get? a=some ob/\ob.dict=none:=by
 cases x with
|str z=>
   obtain⟨t,rfl⟩:=r;cases(show T = "str" from ty);exact⟨typeIs_str s z t,λ_ e=>nomatch e⟩
|int i=>
   obtain⟨t,rfl⟩:=r;cases(show T = "int" from ty);exact⟨typeIs_int s i t,λ_ e=>nomatch e⟩
|ref p=>
   cases r;rcases ty with⟨rfl,xs,hq⟩|⟨rfl,o,hk,hc,hd⟩|⟨rfl,hk⟩|⟨rfl,S,n,hk⟩
   .obtain⟨its,_,pl,_⟩:=I.list hq;refine⟨pl.isList.typeIs,λa e=>?_⟩;cases e;obtain⟨o,n,e,c,hd,_⟩:=pl;exact⟨o,e,hd⟩
   .refine⟨⟨o,I.kIn p o hk,hc⟩,λa e=>?_⟩;cases e;exact⟨o,I.kIn _ o hk,hd⟩
   .have z:∃o,s.heap.get? p=some o/\o.ExactDict:=by
     rcases hk with⟨kvs,hk⟩|⟨kvs,hk⟩
     .obtain⟨_,_,_,_,o,_,_,e,ex,_⟩:=I.hok p _ hk;exact⟨o,e,ex⟩
     .obtain⟨_,_,_,_,o,_,_,e,ex,_⟩:=I.hok p _ hk;exact⟨o,e,ex⟩
    obtain⟨o,e,ex⟩:=z;refine⟨⟨o,e,ex.1⟩,λa e2=>?_⟩;cases e2;exact⟨o,e,ex.2.1⟩
   .obtain⟨o,_,_,_,e,ex,_⟩:=I.hok p _ hk;refine⟨⟨o,e,ex.1⟩,λa e2=>?_⟩;cases e2;exact⟨o,e,ex.2.1⟩
|_=>exact False.elim ty
def tBM (K:W.Frag)(T:String)(r:V->List V->Hp->VK->Prop)(to:TE)(t:TA):TE:=λY H Q=>to Y H λx H1=>tyV K T x H1/\t Y H1 λxs H2=>r x xs H2 Q
variable {o e:Expr}{es:List Expr}{to:TE}{t:TA}{name:Str}{apos cpos:Pos}{T id:String}{r:V->List V->Hp->VK->Prop}
def zoQ (pa:PlainAttrs T)(slot:Slot T name id)(hty:typeOf (.builtin id)=pure (.type "method_descriptor"))(hm:MtR X id r)(ho:PE X o to)(ha:PA X (e::es) t)
 (hbase:attributeBase o name X.env (eval o X.env)=eval o X.env:=by rfl)
 (hfew:((backTo cpos (starEach (e::es) X.env)).all (λx=>!x.1)&&(backToKw cpos (keywordEach [] X.env)).all (λx=>x.1.isSome)
  && decide ((e::es).length+([]:List Keyword).length+(if([]:List Keyword).isEmpty then 0 else 1)<30))=true:=by rfl)
 (hline:(apos.endLine == cpos.line)=true:=by rfl) (hs:starEach (e::es) X.env=(false,eval e X.env)::starEach es X.env:=by rfl) (hplain:(backTo cpos (starEach es X.env)).any (·.1)=false:=by rfl) :
 PE X (.Call (.Attribute o name apos) (e::es) [] cpos) (tBM X.K T r to t):=by
 intro pins s Y H Q I h;refine wpAny_Call_method_late hbase hfew hline rfl (thn (ho pins s Y H _ I h) λv s1 ⟨x,H1,I1,r1,ty,q1⟩ =>?_);obtain⟨h1,h2⟩:=zoP I1 r1 ty;refine⟨T,id,pa,slot,hty,h1,h2,?_⟩;have hA:=ha cpos pins s1 Y H1 _ I1 q1
 rw[hs] at hA⊢;refine Calls.callWith_builtin (by show(false||(backTo cpos (starEach es X.env)).any (·.1))=false;rw[hplain] <;> rfl) (Calls.evalArgs_plain ?_);exact thn hA λus s2 ⟨vs,H2,I2,r2,q2⟩ =>hm pins s2 Y H2 x vs v us Q I2 r1 r2 q2
end
def MtM (X:Cx)(id:String)(r:V->List V->Hp->VK->Prop):Prop:=
 ∀(pins:List (Addr×Obj)) (s:Shared) (Y:St) (H:Hp) (x:V) (xs:List V) (v:Value) (us:List Value) (Q:VK),Inv X pins Y H s->RelV x v->Vals xs us->r x xs H Q->
  wpAny (model X.prog X.w) X.A (call (.builtin id) (v::us)) (EP X pins Y Q) X.xe s
def Vals.one:∀{x:V}{us:List Value},Vals [x] us->∃u,us = [u]/\RelV x u
|_,_,.cons r .nil=>⟨_,rfl,r⟩
theorem Vals.reverse {xs:List V}{us:List Value}(h:Vals xs us):Vals xs.reverse us.reverse:=by
 induction h with
|nil=>exact .nil
|cons r t ih=>rw[wbH,wbH];exact Vals.append ih (.cons r .nil)
theorem Vals.rep {xs:List V}{us:List Value}(h:Vals xs us):∀k:Nat,Vals (List.replicate k xs).flatten (List.replicate k us).flatten
|0=>.nil
|k+1=>by
   rw[wbb,wbb,wbv,wbv];exact Vals.append h (Vals.rep h k)
theorem zfL (its:List Value):∀(k:Nat) (acc:List Value),
 List.foldl (λx1 x2=>x1++x2) acc.toArray (List.replicate k its.toArray)=(acc++(List.replicate k its).flatten).toArray
|0,acc=>by simp
|k+1,acc=>by
   have e:acc.toArray++its.toArray=(acc++its).toArray:=by simp
   have e2:(acc++its)++(List.replicate k its).flatten=acc++(List.replicate (k+1) its).flatten:=by
    rw[wbb,wbv,waR]
   rw[<-e2,<-zfL its k (acc++its),<-e,wbb,List.foldl_cons]
section
variable {X:Cx}{pins:List (Addr×Obj)}{Y:St}{H:Hp}{s:Shared}{l b:Addr}{xs ys zs:List V}
def Inv.lset {its its':List Value}{n:Nat}{f:Array Value->Array Value}{t':Nat}(I:Inv X pins Y H s)(hH:H l=some (.lst xs))
 (e:s.heap.get? l=some {cls:=.type "list",data:=.seq its.toArray n}) (hf:f its.toArray=its'.toArray) (hv:Vals ys its') (hz:ys.length<=sizeLine) :
 Inv X pins Y (upd H l (.lst ys)) {s with heap:=s.heap.update l (Obj.mapSeq f),toks:=t'}:=by
 have q:=PySem.IsL.update e f
 rw[hf] at q;refine I.write (x:=l) (e:=l) (by rw[hH];exact trivial) (.inl rfl) (λb' u hb hu=>(Heap.get?_update_other s.heap (Obj.mapSeq f) (Ne.symm hb)).trans hu) ⟨_,q⟩ ?_;exact⟨hz,its',_,hv,q⟩
def Inv.lnew {its:List Value}{t':Nat}(I:Inv X pins Y H s)(hv:Vals ys its)(hz:ys.length<=sizeLine) :
 Inv X pins Y (upd H s.heap.objs.size (.lst ys)) {s with heap:=s.heap.push {cls:=.type "list",data:=.seq its.toArray},toks:=t'}:=
 I.laid (λ_ _ q=>wag _ q) (wal _) ⟨hz,its,0,hv,wau _ rfl⟩
theorem Inv.fresh (I:Inv X pins Y H s):H s.heap.objs.size=none:=I.hok.fresh (wal _)
def Inv.lstM (I:Inv X pins Y H s)(hH:H l=some (.lst xs)):xs.length<=sizeLine/\∃(its:List Value) (n:Nat),Vals xs its/\xs.length=its.length/\s.heap.get? l=some {cls:=.type "list",data:=.seq its.toArray n}:=by
 obtain⟨z,its,n,r,e⟩:=I.hok l _ hH;exact⟨z,its,n,r,r.length,e⟩
def zg9 {n:Nat}(h:n<=sizeLine):Builtin.List.listTooLong n=false:=by
 unfold Builtin.List.listTooLong;exact wav (by omega)
end
section
variable {X:Cx}
def ze6:V->List V->Hp->VK->Prop:=λx vs H Q=>∃l xs y,x=.ref l/\vs = [y]/\H l=some (.lst xs)/\xs.length<sizeLine/\Q .non (upd H l (.lst (xs++[y])))
def zfM:MtM X "list.append" ze6:=by
 intro pins s Y H x vs v us Q I rx rv h;obtain⟨l,xs,y,rfl,rfl,hH,hz,q⟩:=h;cases rx;obtain⟨u,rfl,ru⟩:=rv.one;obtain⟨z,its,n,r,hl,e⟩:=I.lstM hH;refine call_meets F.slot_list_append ⟨_,e,rfl⟩ F.entry_list_append (F.args_list_append_2 _ _) (PySem.list_append l its.toArray n u (by rw[wac];omega)) ⟨e,?_⟩;refine⟨.non,_,I.lset (its':=its++[u]) hH e (by simp) (r.append (.cons ru .nil)) ?_,rfl,q⟩;rw[wan,List.length_singleton];omega
def ziO:V->List V->Hp->VK->Prop:=λx vs H Q=>∃l b xs zs,x=.ref l/\vs = [.ref b]/\H l=some (.lst xs)/\H b=some (.lst zs)/\xs.length+zs.length<=sizeLine/\Q .non (upd H l (.lst (xs++zs)))
def ziP:MtM X "list.extend" ziO:=by
 intro pins s Y H x vs v us Q I rx rv h;obtain⟨l,b,xs,zs,rfl,rfl,hH,hB,hz,q⟩:=h;cases rx;obtain⟨u,rfl,ru⟩:=rv.one;cases ru;obtain⟨z,its,n,r,hl,e⟩:=I.lstM hH;obtain⟨z2,its2,n2,r2,hl2,e2⟩:=I.lstM hB;have hsz:its.toArray.size+its2.toArray.size<=sizeLine:=by rw[wac,wac];omega
 have hlong:¬(!its.toArray.isEmpty&&Builtin.List.listTooLong (its.toArray.size+its2.toArray.size))=true:=by
  rw[zg9 hsz,Bool.and_false];exact wbq
 refine call_meets F.slot_list_extend ⟨_,e,rfl⟩ F.entry_list_extend (F.args_list_extend_2 _ _)
  (AutoSeq1.list_extend_list_list_0 l its.toArray n b its2.toArray n2 hlong (by rw[wac];omega) (by omega)) ⟨e,e2,?_⟩
 refine⟨.non,_,I.lset (its':=its++its2) hH e (by simp) (r.append r2) ?_,rfl,q⟩;rw[wan];omega
def rCat:R2:=λx y H Q=>∃l b xs zs,x=.ref l/\y=.ref b/\H l=some (.lst xs)/\H b=some (.lst zs)/\xs.length+zs.length<=sizeLine/\∀p,H p=none->Q (.ref p) (upd H p (.lst (xs++zs)))
def op_cat:OpR X (binaryOp .Add) rCat:=by
 intro pins s Y H x y v u Q I rx ry h;obtain⟨l,b,xs,zs,rfl,rfl,hH,hB,hz,q⟩:=h;cases rx;cases ry;obtain⟨z,its,n,r,hl,e⟩:=I.lstM hH;obtain⟨z2,its2,n2,r2,hl2,e2⟩:=I.lstM hB;refine PySem.P.add_list e e2 ?_ (by rw[wac,wac];omega);have ea:its.toArray++its2.toArray=(its++its2).toArray:=by simp
 rw[ea];exact⟨.ref _,_,I.lnew (t':=s.toks) (r.append r2) (by rw[wan];omega),rfl,q _ I.fresh⟩
def rRep:R2:=λx y H Q=>∃l k xs,x=.ref l/\y=.int k/\H l=some (.lst xs)/\-(2 ^ 63)<=k/\k<2 ^ 63/\xs.length*k.toNat<=sizeLine/\
 ∀p,H p=none->Q (.ref p) (upd H p (.lst (List.replicate k.toNat xs).flatten))
def zmY {α:Type}(xs:List α)(k:Nat):(List.replicate k xs).flatten.length=k*xs.length:=by
 induction k with
|zero=>simp
|succ k ih=>rw[wbb,wbv,wan,ih,Nat.succ_mul,Nat.add_comm]
def zoR:OpR X (binaryOp .Mult) rRep:=by
 intro pins s Y H x y v u Q I rx ry h;obtain⟨l,k,xs,rfl,rfl,hH,h1,h2,hz,q⟩:=h;cases rx;obtain⟨t,rfl⟩:=ry;obtain⟨z,its,n,r,hl,e⟩:=I.lstM hH;have hlen:its.toArray.size*k.toNat<=sizeLine:=by rw[wac,<-hl];exact hz
 have hcap:¬its.toArray.size*k.toNat>(2 ^ 63 - 1) / 8:=by
  have:(sizeLine:Nat)<=(2 ^ 63 - 1) / 8:=by decide
  omega
 have hfit:¬(!Builtin.List.listFitsIndex k)=true:=by
  rw[fitsIndex_both h1 h2];exact wbq
 have hlong:¬Builtin.List.listTooLong (its.toArray.size*k.toNat)=true:=by
  rw[zg9 hlen];exact wbq
 have hnew:List.foldl (λx1 x2=>x1++x2) #[] (List.replicate (if its.toArray.isEmpty=true then 0 else k.toNat) its.toArray)=(List.replicate k.toNat its).flatten.toArray:=by
  have f0:∀m:Nat,List.foldl (λx1 x2=>x1++x2) #[] (List.replicate m its.toArray)=(List.replicate m its).flatten.toArray:=λm=>by
   have:=zfL its m []
   rw[List.nil_append] at this;exact this
  rw[f0];cases its with
 |nil=>simp
 |cons a r'=>rw[if_neg (by simp)]
 refine wpAny_binaryOp_repeat_ref (T:="list") (U:="int") (by decide) ⟨_,e,rfl⟩ (λs'=>typeIs_int s' k t) noFill_list_mul F.fills_int_mul F.slot_int_rmul repeat_list F.slot_int_index.lookup
  (call_meets F.slot_int_rmul (typeIs_int s k t) F.entry_int_rmul (F.args_int_rmul_2 _ _) (int___rmul___int_list k t l its.toArray n)
   ⟨e,rfl,⟨_,e,rfl⟩,call_meets F.slot_list_mul ⟨_,e,rfl⟩ F.entry_list_mul (F.args_list_mul_2 _ _) (AutoListH.list___mul___list_int_3 l its.toArray n k t hfit hcap hlong) ⟨e,?_⟩⟩)
 rw[hnew];exact⟨.ref _,_,I.lnew (t':=s.toks) (r.rep k.toNat) (by rw[zmY,Nat.mul_comm];exact hz),rfl,q _ I.fresh⟩
end
section
variable {prog:Program}{w:World}{A:Around}{E:Value->Shared->Prop}{s:Shared}
end
section
variable {X:Cx}
end
end L2
namespace Att
open PySem PySem.W PySem.Calls PyProof.Rows
def zd2 {P:Params}{h:Heap}:∀(ns:List Int) (vs:List Value),WellAll P h vs (ns.map WData.int)->IntsAre vs ns:=by
 intro ns;induction ns with
|nil=>
   intro vs w;rw[List.map_nil] at w;cases w;exact .nil
|cons n ns ih=>
   intro vs w;rw[waL] at w;cases w with
  |cons a b=>
     cases a;exact .cons _ _ (ih _ b)
def ziQ {l:OpenLaw}{n:Nat}(hn:l.most=some n){P:Params}{h:Heap}{args:List WData}{vals:List Value}
 (hpre:l.row.toRowW.claim.pre args=true) (hwl:WellAll P h vals args) :
 ∃a vs ns,vals = [Value.ref a]/\args = [WData.list (ns.map WData.int)]/\h.get? a=some {cls:=.type "list",data:=.seq vs.toArray}/\IntsAre vs ns/\ns.length<=n:=by
 have hsh:WShape.hasAll [] args [.list .int]=true:=(pre_splitW hpre).1
 have hc:l.pre.holds [] {args:=args}=true:=(pre_splitW hpre).2
 obtain⟨d,r,rfl,h1,h2⟩:=hasAllW_cons hsh;obtain rfl:=hasAllW_nil h2;obtain⟨xs,rfl,h3⟩:=hasW_list h1;obtain⟨ns,rfl⟩:=items_int h3;have hlen:ns.length<=n:=by
  unfold OpenLaw.pre at hc;have h4:(WTm.not (.lt (.lit (.int (n:Int))) (.len (.arg 0)))).holds [] {args:=[.list (ns.map .int)]}=true:=by
   have h4:=(holds_andW hc).1
   rw[hn] at h4;exact h4
  have h5:=condW_of h4 (w_not (w_lt w_lit (w_len_list (w_arg rfl))))
  rw[wad] at h5;refine Nat.le_of_not_lt λq=>?_
  have q':(n:Int)<((ns.length:Nat):Int):=by omega
  first
  |(rw[waE q'] at h5;exact absurd h5 (by decide))
  |(simp at h5;omega)
 cases hwl with
|cons w1 w2=>
   cases w2;cases w1 with
  |list ho hall=>exact⟨_,_,ns,rfl,rfl,ho,zd2 ns _ hall,hlen⟩
def ziR (l:OpenLaw)(args:List WData):l.row.toRowW.claim.post args (.bool true) args=true:=
 postW_of (r:=l.row.toRowW) (X:=(true == true))
  (show WShape.has [] (.bool true) .bool=true by first|rfl|decide|simp[WShape.has,WShape.arms,WShape.armsAll])
  (show(WTm.eq .res (.lit (.bool true))).value [] {args:=args,res:=some (.bool true),after:=args}=some (.bool (true == true)) from w_eq_bool (w_res rfl) w_lit) rfl
def attach_call {l:OpenLaw}{n:Nat}{q:Program}{loose:List Str}{XP:(Str->Option Value)->Heap->Prop}{YP:World->Heap->Prop}{d:DefRec}
 (hn:l.most=some n) (hdf:d.params.defaults = [])
 (call:∀(w:World) (s₀ s₁:Shared) (mg mb:Str->Option Value) (fa:Addr) (o:Obj) (pm cd doc:Value) (a:Addr) (vs:List Value) (ns:List Int),
  Ground q loose [] XP w s₀ mg mb s₁.heap->YP w s₁.heap->
  s₁.heap.get? fa=some o->o.data=.func (docDef d.name d.params d.body d.scope pm cd doc)->s₁.heap.CodeRec cd d.name->mg d.name=some (.ref fa)->
  s₁.heap.get? a=some {cls:=.type "list",data:=.seq vs.toArray}->IntsAre vs ns->ns.length<=n->s₁.gens = #[]->
  codeAny (model l.prog w) callerA (.call (.ref fa) ⟨[.ref a],[]⟩) (λr s'=>r=.ok (.ret (.bool true))/\OldK s₁.heap s'.heap/\s'.os=s₁.os/\AllBare s'.gens) s₁) :
 WalkO q loose XP YP l.row.toRowW d [] (λf vs=>PySem.call f vs):=by
 intro w s₀ s₁ mg mb G Y fa o pm cd doc dV kV ho hd hcd hD hmg hg args vals as hpre hlay hrd hwl hlo;obtain rfl:dV=.none:=Dflts.none hD hdf;obtain rfl:kV=.none:=Dflts.noKw hD;obtain⟨a,vs,ns,rfl,rfl,hobj,hints,hlen⟩:=ziQ hn hpre hwl;refine enter_call (codeAny_mono (call w s₀ s₁ mg mb fa o pm cd doc a vs ns G Y ho (fd_plain hd) hcd hmg hobj hints hlen hg) λr s' hq=>?_);obtain⟨rfl,h2,h3,h4⟩:=hq;exact⟨.inl ⟨.bool true,.bool true,[],rfl,λ_=>rfl,.bool true,ziR l _,λ_=>⟨List.Pairwise.nil,λ_ hm=>(nomatch hm)⟩⟩,h2,h3,h4⟩
section
variable {prog:Program}{w:World}{A:Around}{E:Value->Shared->Prop}{s:Shared}{K:Frag}
end
end Att
namespace L2
open PySem PySem.Spec PyProof.Rows
theorem zfN:∀{vs:List Value}{ns:List Int},IntsAre vs ns->Vals (ns.map V.int) vs
|_,_,.nil=>.nil
|_,_,.cons n t h=>.cons ⟨t,rfl⟩ (zfN h)
def Only (H:Hp):Prop:=∀b,H b=none\/∃o xs,H b=some (.frz o (.lst xs))
def zbK (s:Stmt):Arguments:=match s with
|.FunctionDef _ a _ _ _ _ _ _ _ _=>a
|_=>{posonlyargs:=[],args:=[],vararg:=none,kwonlyargs:=[],kw_defaults:=[],kwarg:=none,defaults:=[]}
def zaX (s:Stmt):List Stmt:=match s with
|.FunctionDef _ _ b _ _ _ _ _ _ _=>b
|_=>[]
def zab (s:Stmt):Scope:=match s with
|.FunctionDef _ _ _ _ _ _ sc _ _ _=>sc
|_=>{kind:=.function,names:=[],isGenerator:=false,isCoroutine:=false}
abbrev CX0:CXT:=λ_ _ _ _ _ _=>False
abbrev E0:XK:=λ_ _ _=>False
def zoS {X:Cx}:ziH CX0 X E0:=λ_ _ _ _ _ _ _ h=>h.elim
structure Fun (K:W.Frag)(x qual:Str)(st:Stmt)(f:Addr)(fd:FuncData):Prop where
 ex:∃(oc:Value) (od:Option Addr) (kV doc pm:Value) (an:Option Addr) (cdv ct:Value) (osl:Array (Option Value)),
  fd=W.fnOf x qual (zbK st) (zaX st) (zab st) .none kV doc pm an cdv ct/\K.lookup f=some ⟨oc,od,.func fd,osl⟩ /\W.codeIn K cdv qual=true
 kp:W.keepIn K (.ref f)=true
section
variable {P:Program}{w:World}{K:W.Frag}{mg:Str->Option Value}{base:Heap}
def Fun.ok {x qual:Str}{st:Stmt}{f:Addr}{fd:FuncData}{N ps:List Str}{k:Nat}{sp:Sp}(F:Fun K x qual st f fd)(S:FnScope N ps (zab st))(len:∀vs H Q E,sp vs H Q E->vs.length=ps.length)
 (hbody:∀(cdv:Value) (A:Around) (outer:List Env) (s:Shared) (H:Hp) (vs:List V) (Q:VK) (E:XK),Room k (A.deeper (envOfC qual (zab st) s.heap.objs.size f cdv))->sp vs H Q E->
  ∃t,PSs (cxOf CX0 P w K mg base N qual (zab st) f cdv A outer s H E).nox (zaX st) t/\t {nx:=λ_ H'=>Q .non H',rt:=Q} (start N vs) H):FnOk P w K mg base CX0 (k+1) f fd ps sp:=by
 obtain⟨oc,od,kV,doc,pm,an,cdv,ct,osl,rfl,lk,hcd⟩:=F.ex;refine zoM lk hcd S len λA outer s H vs Q E hr hsp=>?_
 obtain⟨t,h,q⟩:=hbody cdv A outer s H vs Q E hr hsp;exact⟨t,h.nox,q⟩
def Fun.binds {x qual:Str}{st:Stmt}{f:Addr}{fd:FuncData}{ps:List Str}(F:Fun K x qual st f fd)
 (h:∀(kV doc pm:Value) (an:Option Addr) (cdv ct:Value) (us:List Value),us.length=ps.length->bindArgs (W.fnOf x qual (zbK st) (zaX st) (zab st) .none kV doc pm an cdv ct) ⟨us,[]⟩=pure (ps.zip us)):Binds K fd ps []:=by
 obtain⟨oc,od,kV,doc,pm,an,cdv,ct,osl,rfl,lk,hcd⟩:=F.ex;exact .all (h kV doc pm an cdv ct)
def zfO {x qual:Str}{st:Stmt}{f:Addr}{oc:Value}{od an:Option Addr}{osl:Array (Option Value)}{kV doc pm cdv ct:Value}(l:K.lookup f=some ⟨oc,od,.func (W.fnOf x qual (zbK st) (zaX st) (zab st) .none kV doc pm an cdv ct),osl⟩)
 (c:W.codeIn K cdv qual=true) (k:W.keepIn K (.ref f)=true):Fun K x qual st f (W.fnOf x qual (zbK st) (zaX st) (zab st) .none kV doc pm an cdv ct):=⟨⟨oc,od,kV,doc,pm,an,cdv,ct,osl,rfl,l,c⟩,k⟩
end
def zmZ {A:Around}{k:Nat}(hr:Room k A):A.units+1<cLine:=wbj (Nat.add_le_add_left (by decide:1<=64) _) hr.units
section
variable {X:Cx}
end
def iteF {A B:Prop}(h:B):if false=true then A else B:=by
 rw[if_neg wbq];exact h
def iteT {A B:Prop}(h:A):if true=true then A else B:=by
 rw[if_pos rfl];exact h
def Same (H H':Hp):Prop:=∀b o,H b=some o->H' b=some o
def Same.refl (H:Hp):Same H H:=λ_ _ h=>h
def Same.trans {H H1 H2:Hp}(a:Same H H1)(b:Same H1 H2):Same H H2:=λc o h=>b c o (a c o h)
def Same.free {H H':Hp}(e:Same H H'){l:Addr}(h:H' l=Option.none):H l=Option.none:=by
 cases q:H l with
|none=>rfl
|some o=>
   rw[e l o q] at h;cases h
end L2
namespace L2
open PySem PySem.Spec PyProof PyProof.Rows
structure CodeK (K:W.Frag)(c P:Addr):Prop where
 ex:∃(o:Obj) (vs:Array Value) (file:Str) (tf:Tok) (flags:Int) (tg:Tok) (inF:Bool) (text:Int) (tt:Tok),K.lookup c=some o/\o.cls=.type "code"/\o.data=.fields vs/\vs[11]?=some (.ref P)/\vs.getD 11 .none=.ref P/\
  vs.getD 18 .none=.str file tf/\vs.getD 7 .none=.int flags tg/\vs.getD 9 .none=.bool inF/\vs.getD 10 .none=.int text tt/\c≠P
abbrev tabO (ps:Array Value):Obj:={cls:=.none,data:=.fields ps}
def CodeK.of {K:W.Frag}{c P:Addr}{h:Heap}{q:Str}(X:K.In h)(hc:W.codeIn K (.ref c) q=true)(B:Based h h c P #[]):CodeK K c P:=by
 have hl:∃o,K.lookup c=some o:=by
  unfold W.codeIn at hc;cases e:K.lookup c with
 |some o=>exact⟨o,rfl⟩
 |none=>simp only[e] at hc;cases hc
 obtain⟨o,lo⟩:=hl;obtain⟨⟨o1,vs1,a1,a2,a3,a4⟩,_⟩:=B.tab;obtain⟨o2,vs2,file,tf,flags,tg,inF,text,tt,op,b1,b2,b3,b4,b5,b6,b7,b8,b9,b10,b11⟩:=B.code;rw[X _ _ lo] at a1 b1;cases a1;cases b1;rw[a3] at b2;cases b2;exact⟨o,_,file,tf,flags,tg,inF,text,tt,lo,a2,a3,a4,b3,b4,b5,b6,b7,b11⟩
section
variable {X:Cx}{pins:List (Addr×Obj)}{Y:St}{H:Hp}{s:Shared}
def TabC (H:Hp)(ps qs:Array Value):Prop:=TriplesOk qs.toList/\∀pos cv,codeAmong pos qs.toList=some cv->∃c' o u vs t q,cv=Value.ref c'/\H c'=some (.frz o u)/\o.data=.fields vs/\vs[1]?=some (Value.str q t)/\ps[0]?=some (Value.str q 0)
def Inv.tblAt {P:Addr}{ps:Array Value}(I:Inv X pins Y H s)(h:H P=some (.tbl ps)):∃qs:Array Value,s.heap.get? P=some (tabO qs)/\TabC H ps qs:=I.hok P _ h
def Inv.ne_tbl {P b:Addr}{ps:Array Value}(h:H P=some (.tbl ps))(n:H b=none):b≠P:=λz=>by subst z;rw[h] at n;cases n
end
section
variable {X:Cx}{a b c:Expr}{ta tb tc:TE}{pos:Pos}
def rSlS:V->Option Int->Option Int->Hp->VK->Prop:=λx lo hi H Q=>∃z,x=.str z/\z.length<=sizeLine/\Q (.str (Txt.slice z lo hi)) H
def ziS:SlR X rSlS:=by
 intro pins s Y H x v vl vu lo hi sl Q I rx hs pl pu h;obtain⟨z,rfl,hz,q⟩:=h;obtain⟨t,rfl⟩:=rx;refine⟨"str",_,F.slot_str_getitem.lookup,typeIs_str _ _ _,?_⟩;obtain⟨o,e1,e2,e3⟩:=hs;cases pl with
|none=>
   cases pu with
  |none=>exact wbB (l:=none) (u:=none) (st:=none) ⟨o,e1,e2,e3⟩ rfl (post_val_or_str ⟨waq (Txt.slice_le z _ _) hz,λt' k=>⟨.str (Txt.slice z none none),H,I.tok _,⟨_,rfl⟩,q⟩⟩)
  |int j uj=>exact wbB (l:=none) (u:=some (j,uj)) (st:=none) ⟨o,e1,e2,e3⟩ rfl (post_val_or_str ⟨waq (Txt.slice_le z _ _) hz,λt' k=>⟨.str (Txt.slice z none (some j)),H,I.tok _,⟨_,rfl⟩,q⟩⟩)
|int i ui=>
   cases pu with
  |none=>exact wbB (l:=some (i,ui)) (u:=none) (st:=none) ⟨o,e1,e2,e3⟩ rfl (post_val_or_str ⟨waq (Txt.slice_le z _ _) hz,λt' k=>⟨.str (Txt.slice z (some i) none),H,I.tok _,⟨_,rfl⟩,q⟩⟩)
  |int j uj=>exact wbB (l:=some (i,ui)) (u:=some (j,uj)) (st:=none) ⟨o,e1,e2,e3⟩ rfl (post_val_or_str ⟨waq (Txt.slice_le z _ _) hz,λt' k=>⟨.str (Txt.slice z (some i) (some j)),H,I.tok _,⟨_,rfl⟩,q⟩⟩)
def zgw {z:Str}{n:Int}(h1:-1000<=n)(h2:n<=1000)(h3:z.length<=1000):MulOk z n:=by
 refine⟨?_,λh _=>?_,λh _=>?_⟩
 .have e1:¬n < -(2 ^ 63:Int):=by omega
  have e2:¬n≥2 ^ 63:=by omega
  rw[wav e1,wav e2];rfl
 .have:(1000:Int)<=(2 ^ 63 - 1) / n:=by
   rw[Int.le_ediv_iff_mul_le (by omega)];omega
  omega
 .have h4:z.length*n.toNat<=1000*1000:=wcl h3 (by omega)
  unfold PySem.Builtin.Str.tooLong;simp only[decide_eq_false_iff_not];have:sizeLine=16777216:=sizeLine_eq
  omega
def op_rep_str:OpR X (binaryOp .Mult) (λx y H Q=>∃z n,x=.str z/\y=.int n/\-1000<=n/\n<=1000/\z.length<=1000/\Q (.str (Txt.mul z n)) H):=by
 intro pins s Y H x y v u Q I rx ry h;obtain⟨z,n,rfl,rfl,h1,h2,h3,q⟩:=h;obtain⟨t,rfl⟩:=rx;obtain⟨t',rfl⟩:=ry;exact SB.mul (zgw h1 h2 h3) λt' k=>⟨.str (Txt.mul z n),H,I.tok _,⟨_,rfl⟩,q⟩
def zgx:zcz X (.builtin "isinstance") (λxs H Q=>∃x n t k,xs = [x,.ty n]/\TyOf X.K H x t/\PySem.W.kitOne X.K t (.type n)=some k/\Q (.bl k) H):=by
 intro pins s Y H xs us Q I r h;obtain⟨x,n,t,k,rfl,ty,e,q⟩:=h;obtain⟨u,w',rfl,r1,r2⟩:=zkJ r;obtain rfl:w'=Value.type n:=r2;exact ziE I r1 ty e λtk=>⟨.bl k,H,I.tok _,rfl,q⟩
end
def ObjOk.there {P:Program}{w:World}{H:Hp}{h:Heap}{a:Addr}{o:HO}(x:ObjOk P w H h a o):∃ob,h.get? a=some ob:=by
 induction o with
|lst xs=>obtain⟨z,its,n,r,e⟩:=x;exact⟨_,e⟩
|tup xs=>obtain⟨z,its,r,ob,e,c⟩:=x;exact⟨_,e⟩
|dK kvs=>obtain⟨z,y,vs,r,ob,es,ep,e,c⟩:=x;exact⟨_,e⟩
|dT kvs=>obtain⟨z,y,xs,r,ob,es,ep,e,c⟩:=x;exact⟨_,e⟩
|set S n=>obtain⟨ob,es,ep,t,e,c⟩:=x;exact⟨_,e⟩
|ins C dx fs=>obtain⟨d,z,ne,e,_⟩:=x;exact⟨_,e⟩
|own y=>exact x
|xd fs=>obtain⟨mA,⟨od,es,ep,e,c⟩,r⟩:=x;exact⟨_,e⟩
|rng lo hi=>obtain⟨t,u,v,e⟩:=x;exact⟨_,e⟩
|frz ob u ih=>exact⟨_,x.1⟩
|tbl ps=>obtain⟨_,e,_⟩:=x;exact⟨_,e⟩
|met f y=>exact⟨_,x⟩
|ext φ=>exact x.2.1
section
variable {P:Program}{w:World}{K:W.Frag}{mg:Str->Option Value}{base:Heap}
def Fun.okC {x qual:Str}{st:Stmt}{f:Addr}{fd:FuncData}{N ps:List Str}{k:Nat}{sp:Sp}(F:Fun K x qual st f fd)(S:FnScope N ps (zab st))(len:∀vs H Q E,sp vs H Q E->vs.length=ps.length)
 (hbody:∀(cdv:Value) (A:Around) (outer:List Env) (s:Shared) (H:Hp) (vs:List V) (Q:VK) (E:XK),fd.code=cdv->Room k (A.deeper (envOfC qual (zab st) s.heap.objs.size f cdv))->sp vs H Q E->
  ∃t,PSs (cxOf CX0 P w K mg base N qual (zab st) f cdv A outer s H E).nox (zaX st) t/\t {nx:=λ_ H'=>Q .non H',rt:=Q} (start N vs) H):FnOk P w K mg base CX0 (k+1) f fd ps sp:=by
 obtain⟨oc,od,kV,doc,pm,an,cdv,ct,osl,rfl,lk,hcd⟩:=F.ex;refine zoM lk hcd S len λA outer s H vs Q E hr hsp=>?_
 obtain⟨t,h,q⟩:=hbody cdv A outer s H vs Q E rfl hr hsp;exact⟨t,h.nox,q⟩
end
structure Tabs (K:W.Frag)(h:Heap)(tb:List Addr):Prop where
 at_:∀P∈tb,∃c,h.TableAt c P #[]
 out:∀P∈tb,K.lookup P=none
def ziT {P:Program}{w:World}{K:W.Frag}{mg mb:Str->Option Value}{CX:CXT}{k:Nat}{fa a bm:Addr}{ob:Obj}{fd:FuncData}{x:Str}{sp:Sp}{s₁:Shared}{vs:List Value}{ns:List Int}{tb:List Addr}{nm:Addr->Array Value}
 (KX:K.In s₁.heap) (hns:s₁.heap.Ns mainGlobals mg) (hb:s₁.heap.Ns builtinsNs mb) (hbb:∀x:Str,x≠"__name__"->mb x=bootBuiltins x) (hlim:s₁.heap.NoLimit) (hg:s₁.gens = #[]) (hBM:BMod s₁.heap mainGlobals mg bm ob)
 (ha:s₁.heap.get? a=some {cls:=.type "list",data:=.seq vs.toArray}) (hi:IntsAre vs ns) (hl:ns.length<=sizeLine) (hr:Room k callerA) (hT:Tabs K s₁.heap tb)
 (F:∀base:Heap,K.In base->base.Ns mainGlobals mg->BMod base mainGlobals mg bm ob->FnOk P w K mg base CX k fa fd [x] sp) (hbind:∀(s:Shared) (u:Value),BindsTo s fd ⟨[u],[]⟩ [(x,u)])
 (hsp:∀H:Hp,(∀P∈tb,H P=some (.tbl (nm P)))->SqL K H a (ns.map V.int)->(H a≠none->∃o xs,H a=some (.frz o (.lst xs)))->sp [.ref a] H (λv _=>v=.bl true) λ_ _ _=>False)
 (hCX:∀H e s',CX [] H s₁ (λ_ _ _=>False) e s'->False) :
 codeAny (model P w) callerA (.call (.ref fa) ⟨[.ref a],[]⟩) (λr s'=>r=.ok (.ret (.bool true))/\OldK s₁.heap s'.heap/\s'.os=s₁.os/\AllBare s'.gens) s₁:=by
 have rv:=zfN hi
 have lenV:=hi.length
 have tabAt:∀P∈tb,s₁.heap.get? P=some (tabO #[]):=λP hP=>by obtain⟨c,h⟩:=hT.at_ P hP;exact h.2
 have aT:a∉tb:=λh=>by have:=tabAt a h;rw[ha] at this;cases this
 have core:∀H:Hp,(∀P∈tb,H P=some (.tbl (nm P)))->SqL K H a (ns.map V.int)->HOk P w H s₁.heap->(∀b,H b≠none->b=a\/b∈tb)->(H a≠none->K.lookup a=none/\∃o xs,H a=some (.frz o (.lst xs)))->
  codeAny (model P w) callerA (.call (.ref fa) ⟨[.ref a],[]⟩) (λr s'=>r=.ok (.ret (.bool true))/\OldK s₁.heap s'.heap/\s'.os=s₁.os/\AllBare s'.gens) s₁:=by
  intro H hTb hS hok hA hK;have base_of:∀{b:Addr}{o:Obj},s₁.heap.get? b=some o->H b=none->(hidT s₁.heap H).get? b=some o:=λe n=>zky e n
  have noA:∀{b:Addr}{o:Obj},s₁.heap.get? b=some o->o.cls≠.type "list"->(o.cls≠.none\/∃es ep,o.data=.dict es ep)->H b=none:=λ{b o} e d1 d2=>by
   cases q:H b with
  |none=>rfl
  |some u=>
     rcases hA b (by rw[q];simp) with e'|e'
     .subst e';rw[ha] at e;cases e;exact absurd rfl d1
     .rw[tabAt b e'] at e;cases e;rcases d2 with d|⟨es,ep,d⟩
      .exact absurd rfl d
      .cases d
  have noD:∀{b:Addr}{o:Obj}{es:Array DictEntry}{ep:Nat},s₁.heap.get? b=some o->o.data=.dict es ep->H b=none:=λ{b o es ep} e d=>by
   cases q:H b with
  |none=>rfl
  |some u=>
     rcases hA b (by rw[q];simp) with e'|e'
     .subst e';rw[ha] at e;cases e;have d':Data.seq vs.toArray _=Data.dict es ep:=d
      cases d'
     .rw[tabAt b e'] at e;cases e;cases d
  have nsK:∀{b:Addr}{m:Str->Option Value},s₁.heap.Ns b m->(hidT s₁.heap H).Ns b m:=λ{b m} ⟨o,es,ep,e,d,r⟩ =>⟨o,es,ep,base_of e (noD e d),d,r⟩
  have hKb:K.In (hidT s₁.heap H):=λb o e=>base_of (KX b o e) (by
   cases q:H b with
  |none=>rfl
  |some u=>
     rcases hA b (by rw[q];simp) with e'|e'
     .subst e';rw[(hK (by rw[q];simp)).1] at e;cases e
     .rw[hT.out b e'] at e;cases e)
  have hM:Mod K mg (hidT s₁.heap H):=⟨hKb,nsK hns,⟨mb,nsK hb,hbb⟩,let ⟨mc,h1,h2⟩:=hlim;⟨mc,nsK h1,h2⟩⟩
  have hBM':BMod (hidT s₁.heap H) mainGlobals mg bm ob:=⟨nsK hBM.ns,hBM.name,hBM.ne,base_of hBM.obj (noA hBM.obj (by rw[hBM.cls];simp) (.inl (by rw[hBM.cls];simp))),hBM.cls,hBM.dict,hBM.data⟩
  have e0:Env0 P w K mg (hidT s₁.heap H) callerA [] s₁ H:=⟨rfl,hM,λb o e=>zmL e,waY (ziq _ _),trivial,λb hb=>absurd (show b∈([]:List Addr) from hb) (by simp),hok,.of_eq hg⟩
  refine codeAny_mono ((F _ hKb (nsK hns) hBM').run callerA [] s₁ H ⟨[.ref a],[]⟩ [.ref a] [.ref a] _ _ hr e0 (hbind s₁ (.ref a)) (.cons rfl .nil) (hsp H hTb hS λz=>(hK z).2)) λr s' h=>?_
  cases r with
 |error e=>exact(hCX H e s' h).elim
 |ok fl=>
    cases fl with
   |next=>exact False.elim h
   |brk=>exact False.elim h
   |cont=>exact False.elim h
   |ret u=>
      obtain⟨v,H',os,bare,un,hok',r',q⟩:=h;have q':v=.bl true:=q
      subst q';obtain rfl:u=Value.bool true:=r';have key:∀b o,s₁.heap.get? b=some o->asItWas s₁.heap s'.heap b o:=λb o e=>by
       cases q:H b with
      |none=>exact .inl (un.keep b o e q (by intro z;exact absurd (show b∈([]:List Addr) from z) (by simp)) (by simp))
      |some u=>
         rcases hA b (by rw[q];simp) with e'|e'
         .subst e';obtain⟨_,oo,xs,z⟩:=hK (by rw[q];simp);have z2:=un.frzs b oo _ z
          obtain⟨e1,_⟩:=hok b _ z;obtain⟨e2,_⟩:=hok' b _ z2;rw[e] at e1;cases e1;exact .inl e2
         .obtain⟨more,z⟩:=un.tbls b _ (hTb b e');obtain⟨qs,e2,_⟩:=hok' b _ z;obtain⟨c,ht⟩:=hT.at_ b e';rw[tabAt b e'] at e;cases e;exact .inr (.inl ⟨ht.isCodeTable,rfl,#[],qs,rfl,by simpa using e2⟩)
      refine⟨rfl,⟨key,λb o e=>un.there b o e (by simp)⟩,os,bare⟩
 cases hk:K.lookup a with
|some o=>
   have e:=KX a o hk
   rw[ha] at e;cases e;refine core (λb=>if b∈tb then some (.tbl (nm b)) else none) (λP hP=>if_pos hP) (.inr ⟨_,vs.toArray,_,hk,rfl,rfl,rfl,by rw[wac,lenV];exact hl,by simpa using rv⟩) (λb u z=>?_) (λb z=>?_) λz=>absurd (if_neg aT) z
   .by_cases hb':b∈tb
    .have z':=(if_pos hb').symm.trans z
     cases z';exact⟨#[],tabAt b hb',trivial,λpos cv q=>by simp[codeAmong] at q⟩
    .have z':=(if_neg hb').symm.trans z
     cases z'
   .by_cases hb':b∈tb
    .exact .inr hb'
    .exact absurd (if_neg hb') z
|none=>
   have hA:∀b,(if b=a then some (HO.frz {cls:=.type "list",data:=.seq vs.toArray} (.lst (ns.map V.int))) else if b∈tb then some (.tbl (nm b)) else none:Option HO)≠none->b=a\/b∈tb:=λb z=>by
    by_cases h1:b=a
    .exact .inl h1
    .rw[if_neg h1] at z;by_cases h2:b∈tb
     .exact .inr h2
     .rw[if_neg h2] at z;exact absurd rfl z
   refine core (λb=>if b=a then some (.frz {cls:=.type "list",data:=.seq vs.toArray} (.lst (ns.map V.int))) else if b∈tb then some (.tbl (nm b)) else none) (λP hP=>?_) (.inl (.inr ⟨{cls:=.type "list",data:=.seq vs.toArray},if_pos rfl⟩)) (λb u z=>?_) hA λ_=>⟨hk,_,_,if_pos rfl⟩
   .have:P≠a:=λz=>aT (z▸hP)
    show(if P=a then _ else if P∈tb then _ else _)=_
    rw[if_neg this,if_pos hP]
   .by_cases hb':b=a
    .have z':=(if_pos hb').symm.trans z
     cases z';subst hb';exact⟨ha,by rw[wad];exact hl,vs,_,rv,ha⟩
    .have z':=(if_neg hb').symm.trans z
     by_cases h2:b∈tb
     .have z2:=(if_pos h2).symm.trans z'
      cases z2;exact⟨#[],tabAt b h2,trivial,λpos cv q=>by simp[codeAmong] at q⟩
     .have z2:=(if_neg h2).symm.trans z'
      cases z2
def zgy {K:W.Frag}{h:Heap}{mg:Str->Option Value}{c P:Addr}{ps:Array Value}(X:K.In h)(G:h.Ns mainGlobals mg)(B:Based h h c P ps)(hK:PySem.W.kb_classed K=true):K.lookup P=none:=by
 cases e:K.lookup P with
|none=>rfl
|some o=>
   have ha:=X P o e
   have q:=waN.mp hK (P,o) (PySem.W.kb_mem e)
   simp only[Bool.or_eq_true,decide_eq_true_eq,beq_iff_eq] at q;rcases q with(q|q)|q
   .exact absurd rfl (B.ne_of_cls ha q)
   .exact absurd q B.notStatics
   .exact absurd q.symm (B.ne_of_ns G)
def zkM {l:PySem.W.OpenLaw}{n k:Nat}{q:Program}{loose:List Str}{XP:(Str->Option Value)->Heap->Prop}{YP:World->Heap->Prop}{d:DefRec}{K:Params->W.Frag}{CX:World->CXT}{sp:World->List Addr->(Addr->Array Value)->Sp}{x:Str}
 (hn:l.most=some n) (hn2:n<=sizeLine) (hdf:d.params.defaults = []) (hr:Room k callerA)
 (hY:∀(w:World) (h:Heap),YP w h->(K w.params).In h)
 (F:∀(w:World) (mg mb:Str->Option Value) (mean:ExcName->Option Value) (fa:Addr) (h:Heap),(K w.params).In h->Top q (PySem.W.looseW q loose) mean mg mb h->mg d.name=some (.ref fa)->
  ∃(fd:FuncData) (tb:List Addr) (nm:Addr->Array Value),Tabs (K w.params) h tb/\(∀(s:Shared) (u:Value),BindsTo s fd ⟨[u],[]⟩ [(x,u)])/\
   ∀(base:Heap) (bm:Addr) (ob:Obj),(K w.params).In base->base.Ns mainGlobals mg->BMod base mainGlobals mg bm ob->FnOk l.prog w (K w.params) mg base (CX w) k fa fd [x] (sp w tb nm))
 (hsp:∀(w:World) (tb:List Addr) (nm:Addr->Array Value) (H:Hp) (a:Addr) (ns:List Int),ns.length<=n->(∀P∈tb,H P=some (.tbl (nm P)))->SqL (K w.params) H a (ns.map V.int)->(H a≠none->∃o xs,H a=some (.frz o (.lst xs)))->sp w tb nm [.ref a] H (λv _=>v=.bl true) λ_ _ _=>False)
 (hCX:∀(w:World) (H:Hp) (s:Shared) (e:Value) (s':Shared),CX w [] H s (λ_ _ _=>False) e s'->False) :
 PySem.W.WalkO q loose XP YP l.row.toRowW d [] (λf vs=>PySem.call f vs):=by
 refine Att.attach_call hn hdf λw s₀ s₁ mg mb fa o pm cd doc a vs ns G Y ho hd hcd hmg hobj hints hlen hg=>?_
 have KX:=hY w _ Y
 obtain⟨fd,tb,nm,hT,hb,hF⟩:=F w mg mb _ fa _ KX G.T hmg;obtain⟨bm,ob,hBM⟩:=PySem.W.bmod_of_top G.T;exact ziT KX G.T.g G.T.b G.T.builtins G.T.nolimit hg hBM hobj hints (waq hlen hn2) hr hT (λbase h1 h2 h3=>hF base bm ob h1 h2 h3) hb (λH hO hS hF=>hsp w tb nm H a ns hlen hO hS hF) λH e s'=>hCX w H s₁ e s'
def PTs (X:Cx)(ifs:List Expr)(t:TT):Prop:=
 ∀(pins:List (Addr×Obj)) (s:Shared) (Y:St) (H:Hp) (Q:Bool->Hp->Prop),Inv X pins Y H s->t Y H Q->
  wpAny (model X.prog X.w) X.A (forIn ifs true λc r=>if r=true then do let ok <-isTrue c X.env (eval c X.env);pure (ForInStep.yield ok) else pure (ForInStep.yield r)) (TP X pins Y Q) X.xe s
def zm0:TT:=λ_ H Q=>Q true H
def zm1 {X:Cx}:PTs X [] zm0:=λ_ _ _ H _ I h=>wpAny_tests_nil ⟨H,I,h⟩
def zm2 {X:Cx}{c:Expr}{t:TT}(h:PT X c t):PTs X [c] t:=λpins s Y H Q I hw=>wpAny_tests_one (h pins s Y H Q I hw)
def cxC (X:Cx)(scope:Scope)(cl:List (Str×Addr))(NC:List Str)(C:Addr)(s0:Shared)(H0:Hp)(ex:List Addr)(pn:List (Addr×Obj)):Cx where
 prog:=X.prog
 w:=X.w
 K:=X.K
 mg:=X.mg
 base:=X.base
 A:=X.A
 N:=NC
 s₀:=s0
 Hz:=H0
 env:=compEnvC scope cl C X.env
 outer:=X.stack
 stack:=X.stack
 ex:=ex
 fn:=λ_=>false
 calm:=true
 pn:=pn
 xe:=λ_ _=>False
def pick (Y:St)(fr:List (Option Nat)):St:=fr.map λo=>o.bind λj=>(Y[j]?).join
def ziU {prog:Program}{w:World}{A:Around}{R:Result->Shared->Prop}{s:Shared}{elt target iter:Expr}{ifs:List Expr}{scope:Scope}{pos:Pos}{it acc:Value}{env:Env}(I:Nat->Shared->Prop)
 (turn:∀n s,I n s->wpAny (model prog w) A (pyNext it) (λr s1=>
  (r=none->R (.ok .next) s1)/\∀v,r=some v->wpAny (model prog w) A (letOwnedTupleGo target it v) (λ_ s2=>wpAny (model prog w) A (assign target env v) (λ_ s3=>
   wpAny (model prog w) A (forIn ifs true λc r=>if r=true then do let ok <-isTrue c env (eval c env);pure (ForInStep.yield ok) else pure (ForInStep.yield r)) (λok s4=>
    (ok=true->wpAny (model prog w) A (eval elt env) (λx s5=>wpAny (model prog w) A (call (.builtin "list.append") [acc,x]) (λ_ s6=>∃m,m<n/\I m s6) (λ_ _=>False) s5) (λ_ _=>False) s4)/\
    (ok=false->∃m,m<n/\I m s4)) (λ_ _=>False) s3) (λ_ _=>False) s2) (λ_ _=>False) s1) (λ_ _=>False) s)
 (n:Nat) (h:I n s):codeAny (model prog w) A (.compLoop (.ListComp elt [⟨target,iter,ifs,0⟩] scope pos) 0 it acc env) R s:=by
 refine codeAny_loop rfl I (λn s hI=>?_) n h;refine wpAny_noted (m:=compTurn (.ListComp elt [⟨target,iter,ifs,0⟩] scope pos) 0 it acc env) ?_;rw[compTurn_list];refine wab (wbk (wab (waA (turn n s hI) (λr s1 h1=>?_) λ_ _ f=>f.elim)));cases r with
|none=>exact wao (h1.1 rfl)
|some v=>
   refine wab (waA (h1.2 v rfl) (λ_ s2 h2=>?_) λ_ _ f=>f.elim);refine wab (waA h2 (λ_ s3 h3=>?_) λ_ _ f=>f.elim);refine wab (waA h3 (λok s4 h4=>?_) λ_ _ f=>f.elim);cases ok with
  |false=>exact wao ⟨rfl,h4.2 rfl⟩
  |true=>exact wab (wab (waA (h4.1 rfl) (λx s5 h5=>wab (waA h5 (λ_ s6 h6=>wao (wao ⟨rfl,h6⟩)) λ_ _ f=>f.elim)) λ_ _ f=>f.elim))
def tGen {τ:Type}(ac:τ->HO)(t0:τ)(fr:List (Option Nat))(wi:TI)(g:TG)(tt:TT)(tel:Addr->τ->St->Hp->(τ->Hp->Prop)->Prop):TE:=λY H Q=>wi Y H λJ H1=>∀D,H1 D=none->∃W:Nat->Nat->τ->St->Hp->Prop,
 (∃m,W 0 m t0 (pick Y fr) (upd H1 D (ac t0)))/\∀i m ys Y2 H2,W i m ys Y2 H2->H2 D=some (ac ys)->
  (J.stop i H2/\Q (.ref D) H2)\/(J.go i H2/\∃N:τ->St->Hp->Prop,(∀zs Y' H',N zs Y' H'->∃m',m'<m/\W (i+1) m' zs Y' H')/\∀x H3,J.yld i H2 x H3->g x Y2 H3 λY4 H4=>tt Y4 H4 λok H5=>
   (ok=true->tel D ys Y4 H5 λzs H6=>N zs Y4 H6)/\
   (ok=false->H5 D=some (ac ys)/\N ys Y4 H5))
def telL (te:TE)(D:Addr)(ys:List V)(Y:St)(H:Hp)(Q:List V->Hp->Prop):Prop:=te Y H λv H6=>H6 D=some (.lst ys)/\ys.length<sizeLine/\Q (ys++[v]) (upd H6 D (.lst (ys++[v])))
def zfP (fr:List (Option Nat))(wi:TI)(g:TG)(tt:TT)(te:TE):TE:=tGen HO.lst [] fr wi g tt (telL te)
abbrev ElR:=Env->Addr->(Shared->Prop)->Shared->Prop
def zoT (P:Program)(w:World)(A:Around)(cexp tg:Expr)(ifs:List Expr)(EL:ElR):Prop:=∀{R:Result->Shared->Prop}{s:Shared}{it:Value}{D:Addr}{env:Env}(I:Nat->Shared->Prop)
    (_:∀n s,I n s->wpAny (model P w) A (pyNext it) (λr s1=>
     (r=none->R (.ok .next) s1)/\∀v,r=some v->wpAny (model P w) A (letOwnedTupleGo tg it v) (λ_ s2=>wpAny (model P w) A (assign tg env v) (λ_ s3=>
      wpAny (model P w) A (forIn ifs true λc r=>if r=true then do let ok <-isTrue c env (eval c env);pure (ForInStep.yield ok) else pure (ForInStep.yield r)) (λok s4=>
       (ok=true->EL env D (λs6=>∃m,m<n/\I m s6) s4)/\
       (ok=false->∃m,m<n/\I m s4)) (λ_ _=>False) s3) (λ_ _=>False) s2) (λ_ _=>False) s1) (λ_ _=>False) s)
    (n:Nat) (_:I n s),codeAny (model P w) A (.compLoop cexp 0 it (.ref D) env) R s
def zoU (P:Program)(w:World)(A:Around)(cexp:Expr):Prop:=∀{R:Result->Shared->Prop}{s:Shared}{it acc:Value}{env:Env},codeAny (model P w) A (.compLoop cexp 0 it acc env) R s->
    wpAny (model P w) A (pyIter it) (λit' s'=>codeAny (model P w) A (.compLoop cexp 0 it' acc env) R s') (notedBy (model P w) A env λx s'=>R (.error x) s') s->codeAny (model P w) A (.compStart cexp 0 it acc env) R s
def zha {X:Cx}{τ:Type}{ac:τ->HO}{t0:τ}{Tn:String}{dt:Data}{cexp:Expr}{EL:ElR}{tel:Addr->τ->St->Hp->(τ->Hp->Prop)->Prop}{use:Option (Value->Sem Unit)}{R:Value->Shared->Prop}{pins:List (Addr×Obj)}{s:Shared}{Y:St}{H:Hp}{Q:VK}{cpos:Pos}{iter tg:Expr}{ifs:List Expr}{scope:Scope}{cl:List (Str×Addr)}{NC:List Str}{fr:List (Option Nat)}{wi:TI}{g:TG}{tt:TT}{RR:Hp->Prop}(hRR:∀pins Y H s,Inv X pins Y H s->RR H)(hcalm:X.calm=true)(hi:PI X tg iter wi)
 (hclos:closureFor scope X.env=pure cl) (hcell:∀y∈scope.names,y.2≠.cell) (hkind:scope.kind=.function) (hnames:∀y∈scope.names,y.2=.local->scope.names.lookup y.1=some .local)
 (hcl:∀x c,cl.lookup x=some c->X.env.cells.lookup x=some c)
 (hhas:∀x,((compEnvC scope cl 0 X.env).kindOf x=some .cell\/(compEnvC scope cl 0 X.env).kindOf x=some .free)->∃c,cl.lookup x=some c)
 (hfr:∀(i:Nat) (x:Str) (j:Nat),NC[i]?=some x->fr[i]?=some (some j)->X.N[j]?=some x/\Vis X.env.scope x/\X.env.kindOf x≠some .local/\((compEnvC scope cl 0 X.env).kindOf x=some .cell\/(compEnvC scope cl 0 X.env).kindOf x=some .free))
 (hlen:fr.length=NC.length)
 (hg:∀C s0 H0 ex pn,PG (cxC X scope cl NC C s0 H0 ex pn) tg g) (ht:∀C s0 H0 ex pn,PTs (cxC X scope cl NC C s0 H0 ex pn) ifs tt) (hcls:clausesOf cexp = [⟨tg,iter,ifs,0⟩]) (hd:sizeOk dt)
 (hob:∀{pins Y H H' s},Inv X pins Y H s->ObjOk X.prog X.w H' (s.heap.push {cls:=.type Tn,dict:=none,data:=dt}) s.heap.objs.size (ac t0)) (LP:zoT X.prog X.w X.A cexp tg ifs EL) (SR:zoU X.prog X.w X.A cexp)
 (hel:∀C s0 H0 ex pn,RR H0->∀(pins:List (Addr×Obj)) (D:Addr) (ys:τ) (s:Shared) (Y:St) (H:Hp) (Po:Shared->Prop) (F:τ->Hp->Prop),Inv (cxC X scope cl NC C s0 H0 ex pn) pins Y H s->tel D ys Y H F->
  (∀s' zs H',Inv (cxC X scope cl NC C s0 H0 ex pn) pins Y H' s'->H' D=some (ac zs)->F zs H'->Po s')->EL (compEnvC scope cl C X.env) D Po s)
 (hs:∀x,foldedSetIterable iter X.env x=pure x) (I:Inv X pins Y H s) (h:tGen ac t0 fr wi g tt tel Y H Q)
 (hfin:∀(C D:Addr) (H':Hp) (s':Shared) (m:Str->Option Value),Inv X pins Y H' s'->s'.heap.Ns C m->FpOk X pins H' C->Q (.ref D) H'->compPost (model X.prog X.w) X.A X.xe use R (.ref D) C (.ok .next) s') :
 wpAny (model X.prog X.w) X.A (comprehension cexp scope X.env cpos (newObj (.type Tn) dt none) false (eval iter X.env) use) R X.xe s:=by
 refine wpAny_comprehension_free (use:=use) (g:=⟨tg,iter,ifs,0⟩) (gs:=[]) hcls hs hclos hkind hnames (thn (hi pins s Y H _ I h) λv s1 h1=>thn h1 λitv s2 h2=>?_);obtain⟨it,fp,tn,J,H1,e,I2,T,st2,f2,hW⟩:=h2;subst e;refine wbg (wpAny_newFunctionEnv hcell (by intro y hy;simp at hy) (λh4 hn4 hs4=>?_) hkind) hd;have hD0:H1 s2.heap.objs.size=none:=I2.hok.fresh (wal _)
 obtain⟨W,⟨m0,w0⟩,turn⟩:=hW s2.heap.objs.size hD0;generalize hDe:s2.heap.objs.size=D at hD0 w0 turn;generalize h3e:s2.heap.push {cls:=.type Tn,dict:=none,data:=dt}=h3 at hn4 hs4;have sz3:h3.objs.size=D+1:=by rw[<-h3e,wbU,hDe]
 have k3:∀b o,s2.heap.get? b=some o->h3.get? b=some o:=λb o e=>by rw[<-h3e];exact wag _ e
 have ltD:∀{b:Addr}{o:Obj},s2.heap.get? b=some o->b<D:=λe=>by rw[<-hDe];exact was e
 have I3:Inv X pins Y (upd H1 D (ac t0)) {s2 with heap:=h3}:=I2.laid (h':=h3) (t':=s2.toks) k3 (waY hDe) (by rw[<-h3e,<-hDe];exact hob I2)
 have rH:=hRR _ _ _ _ I3
 generalize hCe:h3.objs.size=C at hn4 hs4;have k4:∀b o,h3.get? b=some o->h4.get? b=some o:=λb o e=>hs4.extBut b o (λz=>by rw[z,<-hCe] at e;exact absurd (was e) (waT _)) (wag _ e)
 have ltC:∀{b:Addr}{o:Obj},h3.get? b=some o->b<C:=λe=>by rw[<-hCe];exact was e
 have hne:∀(c:Env->Addr),True:=λ_=>trivial
 have okC:(cxC X scope cl NC C {s2 with heap:=h3} (upd H1 D (ac t0)) fp (X.pn++pins)).Ok:=by
  refine⟨I.ok.mod,?_,I.ok.glob,I.ok.blt,waY hCe,λx y c h1 h2=>I.ok.inj x y c (hcl x c h1) (hcl y c h2),λx hx=>hhas x hx,λx c hf _=>(by cases hf),λ_=>I.ok.hd hcalm,I.ok.frames,.inl rfl,λb hb=>⟨?_,λx c e=>?_⟩,λb o e=>I3.bs b o e,?_,λb o e hb=>?_,λb hb hf=>?_,?_,λb hb=>I3.stkFree b hb⟩
  .show(relabel scope X.env).kind=.function
   exact hkind
  .obtain⟨o,eo,_⟩:=T.obj _ _ st2 b hb;exact waB (ltC (k3 b o eo))
  .exact(f2 b hb).2.2.2.2.1 x c (hcl x c e)
  .exact waq I.ok.bsz I3.sz
  .obtain⟨e1,_⟩:=I.ok.bs b o e;have f:=f2 b hb
   rcases f.2.2.2.1 with z|z
   .exact I.ok.noex b o e z
   .exact absurd (war (was e1) z) (waT _)
  .rcases wak.mp (I2.stkSub b hf) with z|z
   .exact(f2 b hb).2.1 z
   .exact(f2 b hb).2.2.1 z
  .exact I3.stack
 have IC:Inv (cxC X scope cl NC C {s2 with heap:=h3} (upd H1 D (ac t0)) fp (X.pn++pins)) [] (pick Y fr) (upd H1 D (ac t0)) {s2 with heap:=h4,toks:=s2.toks+([]:List (Str×Value)).length}:=by
  refine⟨okC,rfl,I2.bare,Un.kept k4,⟨_,hn4,λi x v hN hv hvis=>?_⟩,λx c e=>?_,?_,λx c e=>I3.freeC x c (hcl x c e),λp hp=>?_,I3.hok.kept k4,?_⟩
  .have hfi:∃j,fr[i]?=some (some j)/\Y[j]?=some (some v):=by
    unfold pick at hv;rw[waj] at hv;cases e1:fr[i]? with
   |none=>rw[e1] at hv;cases hv
   |some o=>
      rw[e1] at hv;cases o with
     |none=>cases hv
     |some j=>
        refine⟨j,rfl,?_⟩;have hv':(Y[j]?).join=some v:=waw hv
        cases e2:Y[j]? with
       |none=>rw[e2] at hv';cases hv'
       |some w'=>rw[e2] at hv';exact wba some hv'
   obtain⟨j,hj,hσ⟩:=hfi;obtain⟨q1,q2,q3,q4⟩:=hfr i x j hN hj;obtain⟨m,hm,hl⟩:=I3.loc;obtain⟨u,ru,lk⟩:=hl j x v q1 hσ q2;refine⟨u,ru,?_⟩;rcases lk with⟨z,_⟩|⟨_,c,ec,ic⟩
   .exact absurd z q3
   .obtain⟨c',ec'⟩:=hhas x q4;have:c'=c:=by rw[hcl x c' ec'] at ec;exact waw ec
    subst this;obtain⟨oc,h1,h2⟩:=ic;exact .inr ⟨q4,c',ec',oc,k4 _ _ h1,h2⟩
  .obtain⟨v,oc,h1,h2⟩:=I3.cell x c (hcl x c e);exact⟨v,oc,k4 _ _ h1,h2⟩
  .show upd H1 D (ac t0) C=none
   exact I3.hok.fresh (waY hCe)
  .have hp':p∈X.pn++pins:=by simpa[cxC] using hp
   obtain⟨e1,e2,e3,e4,e5⟩:=I3.pin p hp';refine⟨k4 _ _ e1,e2,waB (ltC e1),λz=>?_,e5⟩;rcases wak.mp (I2.stkSub p.1 z) with z'|z'
   .exact e3 z'
   .exact e4 z'
  .unfold pick;rw[wad];exact hlen
 have fC:∀b∈fp,FpOk (cxC X scope cl NC C {s2 with heap:=h3} (upd H1 D (ac t0)) fp (X.pn++pins)) [] H1 b:=λb hb=>by
  obtain⟨q1,q2,q3,q4,q5,q6⟩:=f2 b hb;obtain⟨o,eo,_⟩:=T.obj _ _ st2 b hb;refine⟨q1,waB (ltC (k3 b o eo)),λz=>?_,.inl hb,λx c e=>q5 x c (hcl x c e),λp hp=>q6 p (by simpa[cxC] using hp)⟩;rcases wak.mp (I2.stkSub b z) with z'|z'
  .exact q2 z'
  .exact q3 z'
 have stat:∀{H':Hp},(∀b∈fp,H' b=none)->∀b∈fp,FpOk (cxC X scope cl NC C {s2 with heap:=h3} (upd H1 D (ac t0)) fp (X.pn++pins)) [] H' b:=λhn b hb=>⟨hn b hb,(fC b hb).2⟩
 have fD:∀b∈fp,b≠D:=λb hb z=>by
  obtain⟨o,eo,_⟩:=T.obj _ _ st2 b hb;have:=ltD eo
  rw[z] at this;exact absurd this (waT _)
 have st4:tn 0 h4:=T.keep _ _ _ st2 λb hb o e=>k4 b o (k3 b o e)
 have fin:∀{Y':St}{H':Hp}{s':Shared},Inv (cxC X scope cl NC C {s2 with heap:=h3} (upd H1 D (ac t0)) fp (X.pn++pins)) [] Y' H' s'->Q (.ref D) H'->compPost (model X.prog X.w) X.A X.xe use R (.ref D) C (.ok .next) s':=λ{Y' H' s'} I' q'=>by
  obtain⟨m,hm,_⟩:=I'.loc;have hfp:FpOk X pins H' C:=⟨I'.free,(I3.fpOk (waY hCe) (I3.hok.fresh (waY hCe))).2⟩
  refine hfin C D H' s' m ?_ hm hfp q';have nC:∀{b:Addr}{o:Obj},s2.heap.get? b=some o->b≠C:=λe=>waB (ltC (k3 _ _ e))
  have nD:∀{b:Addr}{o:Obj},s2.heap.get? b=some o->b≠D:=λe=>waB (ltD e)
  refine I2.call' (s':=s') (ch:=fp) ?_ ⟨λb o e n hf hx=>?_,λb o e n hf hx=>?_,λb o e n hx=>?_,λb o e hx=>?_,λb xs e=>?_,λb o u e=>?_,λb ps e=>?_⟩ (λb u e=>?_) I'.bare λb hb=>?_
  .exact I'.os
  .exact(I'.base.keep b o (k3 b o e) (by show upd H1 D _ b=none;rw[zak (nD e)];exact n) hf hx)
  .obtain⟨sl,z⟩:=I'.base.slot b o (k3 b o e) (by show upd H1 D _ b=none;rw[zak (nD e)];exact n) hf hx;exact⟨sl,z⟩
  .exact I'.base.free b o (k3 b o e) (by show upd H1 D _ b=none;rw[zak (nD e)];exact n) hx
  .obtain⟨o',z⟩:=I'.base.there b o (k3 b o e) hx;exact⟨o',z⟩
  .exact I'.base.tups b xs (by show upd H1 D _ b=_;rw[zak (za3 e hD0)];exact e)
  .exact I'.base.frzs b o u (by show upd H1 D _ b=_;rw[zak (za3 e hD0)];exact e)
  .exact I'.base.tbls b ps (by show upd H1 D _ b=_;rw[zak (za3 e hD0)];exact e)
  .exact I'.hok b u e
  .obtain⟨q1,q2,q3,q4,q5,q6⟩:=f2 b hb;exact⟨q4,q2,q5,q6⟩
 have loop:codeAny (model X.prog X.w) X.A (.compLoop cexp 0 (.ref it) (.ref D) (compEnvC scope cl C X.env)) (compPost (model X.prog X.w) X.A X.xe use R (.ref D) C) {s2 with heap:=h4,toks:=s2.toks+([]:List (Str×Value)).length}:=by
  refine LP (λn s'=>∃i ys Y' H',Inv (cxC X scope cl NC C {s2 with heap:=h3} (upd H1 D (ac t0)) fp (X.pn++pins)) [] Y' H' s'/\tn i s'.heap/\(∀b∈fp,H' b=none)/\H' D=some (ac ys)/\W i n ys Y' H') ?_ m0 ⟨0,t0,_,_,IC,st4,λb hb=>by rw[zak (fD b hb)];exact(f2 b hb).1,zah,w0⟩;rintro n s3 ⟨i,ys,Y3,H3,J3,st3,fr3,hD3,w3⟩;rcases turn i n ys Y3 H3 w3 hD3 with⟨stop,qn⟩|⟨go,N,hN,step⟩
  .refine thn (T.done (cxC X scope cl NC C {s2 with heap:=h3} (upd H1 D (ac t0)) fp (X.pn++pins)) rfl rfl rfl rfl i [] s3 Y3 H3 _ J3 (stat fr3) st3 stop) λr s4 ⟨hr,J4⟩ =>⟨λ_=>fin J4 qn,λv z=>?_⟩
   rw[hr] at z;cases z
  .refine thn (T.item (cxC X scope cl NC C {s2 with heap:=h3} (upd H1 D (ac t0)) fp (X.pn++pins)) rfl rfl rfl rfl i [] s3 Y3 H3 _ J3 (stat fr3) st3 go) λr s4 ⟨u,hr,h4'⟩ =>⟨λz=>?_,λv z=>?_⟩
   .rw[hr] at z;cases z
   rw[hr] at z;cases z;refine thn h4' λ_ s5 ⟨x,H5,J5,r5,y5,st5,fr5⟩ =>?_
   have J5':=J5.pinned (stat fr5) (T.obj _ _ st5)
   refine thn (hg C _ _ fp _ _ s5 Y3 H5 x _ _ J5' r5 (step x H5 y5)) λ_ s6 ⟨Y6,H6,J6,q6⟩ =>?_
   have back:∀{Y7:St}{H7:Hp}{s7:Shared},Inv (cxC X scope cl NC C {s2 with heap:=h3} (upd H1 D (ac t0)) fp (X.pn++pins)) ([]++zfA fp s5.heap) Y7 H7 s7->tn (i+1) s7.heap/\∀b∈fp,H7 b=none:=λ{Y7 H7 s7} J7=>
    ⟨T.keep _ _ _ st5 λb hb o e=>(J7.pin (b,o) (wat _ (wat _ (zbF hb e)))).1,λb hb=>by
     obtain⟨o,e,d⟩:=T.obj _ _ st5 b hb;exact(J7.pin (b,o) (wat _ (wat _ (zbF hb e)))).2.1⟩
   refine thn (ht C _ _ fp _ _ s6 Y6 H6 _ J6 q6) λok s7 ⟨H7,J7,q7⟩ =>⟨λhok=>?_,λhok=>?_⟩
   .refine hel C _ _ fp _ rH _ D ys s7 Y6 H7 _ _ J7 (q7.1 hok) λs9 zs H9 J9 hD9 n9=>?_
    obtain⟨m',hm,w8⟩:=hN _ _ _ n9;obtain⟨b1,b2⟩:=back J9;exact⟨m',hm,i+1,_,_,_,J9.unpinned,b1,b2,hD9,w8⟩
   .obtain⟨hD7,n7⟩:=q7.2 hok;obtain⟨m',hm,w7⟩:=hN _ _ _ n7;obtain⟨b1,b2⟩:=back J7;exact⟨m',hm,i+1,_,_,_,J7.unpinned,b1,b2,hD7,w7⟩
 exact SR loop (T.self X.A 0 _ _ _ st4 loop)
def zhb {X:Cx}{use:Option (Value->Sem Unit)}{R:Value->Shared->Prop}{pins:List (Addr×Obj)}{s:Shared}{Y:St}{H:Hp}{Q:VK}{cpos:Pos}{elt iter tg:Expr}{ifs:List Expr}{scope:Scope}{pos:Pos}{cl:List (Str×Addr)}{NC:List Str}{fr:List (Option Nat)}{wi:TI}{g:TG}{tt:TT}{te:TE}{RR:Hp->Prop}(hRR:∀pins Y H s,Inv X pins Y H s->RR H)(hcalm:X.calm=true)(hi:PI X tg iter wi)
 (hclos:closureFor scope X.env=pure cl) (hcell:∀y∈scope.names,y.2≠.cell) (hkind:scope.kind=.function) (hnames:∀y∈scope.names,y.2=.local->scope.names.lookup y.1=some .local)
 (hcl:∀x c,cl.lookup x=some c->X.env.cells.lookup x=some c)
 (hhas:∀x,((compEnvC scope cl 0 X.env).kindOf x=some .cell\/(compEnvC scope cl 0 X.env).kindOf x=some .free)->∃c,cl.lookup x=some c)
 (hfr:∀(i:Nat) (x:Str) (j:Nat),NC[i]?=some x->fr[i]?=some (some j)->X.N[j]?=some x/\Vis X.env.scope x/\X.env.kindOf x≠some .local/\((compEnvC scope cl 0 X.env).kindOf x=some .cell\/(compEnvC scope cl 0 X.env).kindOf x=some .free))
 (hlen:fr.length=NC.length)
 (hg:∀C s0 H0 ex pn,PG (cxC X scope cl NC C s0 H0 ex pn) tg g) (ht:∀C s0 H0 ex pn,PTs (cxC X scope cl NC C s0 H0 ex pn) ifs tt) (he:∀C s0 H0 ex pn,RR H0->PE (cxC X scope cl NC C s0 H0 ex pn) elt te)
 (hs:∀x,foldedSetIterable iter X.env x=pure x) (I:Inv X pins Y H s) (h:zfP fr wi g tt te Y H Q)
 (hfin:∀(C D:Addr) (H':Hp) (s':Shared) (m:Str->Option Value),Inv X pins Y H' s'->s'.heap.Ns C m->FpOk X pins H' C->Q (.ref D) H'->compPost (model X.prog X.w) X.A X.xe use R (.ref D) C (.ok .next) s') :
 wpAny (model X.prog X.w) X.A (comprehension (.ListComp elt [⟨tg,iter,ifs,0⟩] scope pos) scope X.env cpos (newList []) false (eval iter X.env) use) R X.xe s:=by
 refine zha (Tn:="list") (dt:=.seq ([]:List Value).toArray) (ac:=HO.lst) (t0:=[]) (tel:=telL te) (EL:=λenv D Q s=>wpAny (model X.prog X.w) X.A (eval elt env) (λx s5=>wpAny (model X.prog X.w) X.A (call (.builtin "list.append") [.ref D,x]) (λ_ s6=>Q s6) (λ_ _=>False) s5) (λ_ _=>False) s)
  hRR hcalm hi hclos hcell hkind hnames hcl hhas hfr hlen hg ht rfl (by size_fits) (λI=>⟨wbn _,[],0,.nil,wau _ rfl⟩) (λI turn n h=>ziU I turn n h) (λa b=>codeAny_compStart_list (rest:=[]) a b) (λC s0 H0 ex pn rH pins D ys s Y H Po F J q k=>?_) hs I h hfin
 refine thn (he C _ _ _ _ rH _ s Y H _ J q) λxv s8 ⟨v,H8,J8,r8,hD8,hz,n8⟩ =>?_
 refine thn (zfM (X:=cxC X scope cl NC C s0 H0 ex pn) _ s8 Y H8 (.ref D) [v] (.ref D) [xv] (λ_ H9=>H9=upd H8 D (.lst (ys++[v]))) J8 rfl (.cons r8 .nil) ⟨D,ys,v,rfl,rfl,hD8,hz,rfl⟩) λ_ s9 ⟨_,H9,J9,_,e9⟩ =>?_
 subst e9;exact k s9 _ _ J9 zah n8
def zkN {X:Cx}{elt iter tg:Expr}{ifs:List Expr}{scope:Scope}{pos:Pos}{cl:List (Str×Addr)}{NC:List Str}{fr:List (Option Nat)}{wi:TI}{g:TG}{tt:TT}{te:TE}{RR:Hp->Prop}(hRR:∀pins Y H s,Inv X pins Y H s->RR H)(hcalm:X.calm=true)(hi:PI X tg iter wi)
 (hclos:closureFor scope X.env=pure cl) (hcell:∀y∈scope.names,y.2≠.cell) (hkind:scope.kind=.function) (hnames:∀y∈scope.names,y.2=.local->scope.names.lookup y.1=some .local)
 (hcl:∀x c,cl.lookup x=some c->X.env.cells.lookup x=some c)
 (hhas:∀x,((compEnvC scope cl 0 X.env).kindOf x=some .cell\/(compEnvC scope cl 0 X.env).kindOf x=some .free)->∃c,cl.lookup x=some c)
 (hfr:∀(i:Nat) (x:Str) (j:Nat),NC[i]?=some x->fr[i]?=some (some j)->X.N[j]?=some x/\Vis X.env.scope x/\X.env.kindOf x≠some .local/\((compEnvC scope cl 0 X.env).kindOf x=some .cell\/(compEnvC scope cl 0 X.env).kindOf x=some .free))
 (hlen:fr.length=NC.length)
 (hg:∀C s0 H0 ex pn,PG (cxC X scope cl NC C s0 H0 ex pn) tg g) (ht:∀C s0 H0 ex pn,PTs (cxC X scope cl NC C s0 H0 ex pn) ifs tt) (he:∀C s0 H0 ex pn,RR H0->PE (cxC X scope cl NC C s0 H0 ex pn) elt te)
 (hs:∀x,foldedSetIterable iter X.env x=pure x:=by intro _;rfl):PE X (.ListComp elt [⟨tg,iter,ifs,0⟩] scope pos) (zfP fr wi g tt te):=by
 intro pins s Y H Q I h;rw[eval_ListComp];refine zhb (use:=none) (R:=EP X pins Y Q) hRR hcalm hi hclos hcell hkind hnames hcl hhas hfr hlen hg ht he hs I h λC D H' s' m I' hm hfp q=>?_
 obtain⟨f0,f1,f2,f3,f4,f5⟩:=hfp;exact⟨m,hm,λh' hs'=>⟨.ref D,H',I'.turned (t':=s'.toks) (λb o hb e=>hs'.extBut b o hb e) f0 f1 f3 f4 f5,rfl,q⟩⟩
def pgC (i:Nat){X:Cx}{scope:Scope}{cl:List (Str×Addr)}{NC:List Str}{C:Addr}{s0:Shared}{H0:Hp}{ex:List Addr}{pn:List (Addr×Obj)}{x:Str}{pos:Pos}(nd:NC.Nodup)(hi:NC[i]?=some x)(hx:scope.names.lookup x=some .local) :
 PG (cxC X scope cl NC C s0 H0 ex pn) (.Name x pos) (zdL i):=zgu (X:=cxC X scope cl NC C s0 H0 ex pn) nd hi (.inl (lookup_relabel_local hx)) (.inr (lookup_relabel_local hx))
end L2
namespace En
open PySem
open AutoSeq1 (wpAny_loadPart')
section
variable {prog:Program}{w:World}{A:Around}{E:Value->Shared->Prop}{s:Shared}
def zm3 {it t:Addr}{i:Nat}{items:Array Value}{x:Value}{Q:Value->Shared->Prop}(a1:s.heap.IsTupleIter it t i)(a2:s.heap.IsTuple t items)(a3:items[i]?=some x)
 (q:∀h',h'.IsTupleIter it t (i+1)->Heap.SameBut it s.heap h'->Q x {s with heap:=h'}):wpAny (model prog w) A (Builtin.SmallTypes.nextOf (.ref it)) Q E s:=by
 obtain⟨o,b1,b2,b3⟩:=id a1;obtain⟨ot,c1,_,n,c2⟩:=a2;unfold Builtin.SmallTypes.nextOf;have body:wpAny (model prog w) A.in1 (Builtin.«tuple_iterator.__next__» ⟨[.ref it],[]⟩) (λf s'=>∃v,f=.done (.ret v)/\Q v s') E s:=by
  show wpAny _ _ (do let v <-field (.ref it) 0;_) _ _ s
  refine wab (wbR b1 b3 (x:=.ref t) rfl ?_);show wpAny _ _ (ite ((Value.ref t == Value.none)=true) _ _) _ _ s
  rw[if_neg (show ¬(Value.ref t == Value.none)=true by intro z;cases z)];show wpAny _ _ (do let v <-field (.ref it) 1;_) _ _ s
  refine wab (wbR b1 b3 (x:=.int i 0) rfl ?_);show wpAny _ _ (do let v <-seqItems? (.ref t);_) _ _ s
  refine wab (wpAny_seqItems c1 c2 ?_);simp only[wbI,a3];refine wab (wpAny_setField b1 b3 (by simp) (wao ⟨x,rfl,q _ ⟨_,Heap.get?_update_self _ b1 (Obj.isFreed_of_fields (Obj.data_mapFields b3 _)),(Obj.cls_mapFields ..).trans b2,?_⟩ (Heap.SameBut.update ..)⟩));rw[Obj.data_mapFields b3];simp[rawInt]
 have nx:=F.slot_tuple_iterator_next
 exact wab (wbA (name:=Str.ofString "__next__") a1.typeIs nx (wbY nx a1.typeIs F.entry_tuple_iterator_next (waA body (λf s' ⟨v,e,h⟩ =>⟨v,e,wao h⟩) λ_ _ x=>x) (F.args_tuple_iterator_next_1 _)))
def zma {it t:Addr}{i:Nat}{items:Array Value}{Q:Value->Shared->Prop}(hh:A.handled=none)(a1:s.heap.IsTupleIter it t i)(a2:s.heap.IsTuple t items)(a3:items[i]?=none)
 (q:∀h' e,Heap.ExtBut it s.heap h'->(∃o,h'.get? e=some o/\o.cls=.type "StopIteration")->E (.ref e) {s with heap:=h'}):wpAny (model prog w) A (Builtin.SmallTypes.nextOf (.ref it)) Q E s:=by
 obtain⟨o,b1,b2,b3⟩:=id a1;obtain⟨ot,c1,_,n,c2⟩:=a2;unfold Builtin.SmallTypes.nextOf;have nx:=F.slot_tuple_iterator_next
 refine wab (wbA (name:=Str.ofString "__next__") a1.typeIs nx (wbY nx a1.typeIs F.entry_tuple_iterator_next ?_ (F.args_tuple_iterator_next_1 _)));show wpAny _ _ (do let v <-field (.ref it) 0;_) _ _ s
 refine wab (wbR b1 b3 (x:=.ref t) rfl ?_);show wpAny _ _ (ite ((Value.ref t == Value.none)=true) _ _) _ _ s
 rw[if_neg (show ¬(Value.ref t == Value.none)=true by intro z;cases z)];show wpAny _ _ (do let v <-field (.ref it) 1;_) _ _ s
 refine wab (wbR b1 b3 (x:=.int i 0) rfl ?_);show wpAny _ _ (do let v <-seqItems? (.ref t);_) _ _ s
 refine wab (wpAny_seqItems c1 c2 ?_);simp only[wbI,a3];refine wab (wcd (wab (wpAny_setField b1 b3 (by simp) ?_)));show wpAny _ _ (do let x <-newExc (.type "StopIteration") [];_) _ _ _
 refine wab ?_;simp only[newExc,newTuple];refine wab (wbg ?_ (by size_fits));refine wab (m:=firstArgMember _ _) (wpAny_of_eq (a:=Value.none) (by first|rfl|(simp only[firstArgMember];rfl)) ?_);refine wbg ?_ (by size_fits);simp only[raiseNew];refine wab (wpAny_handled ?_);first|rw[show A.in1.handled=none from hh]|rw[hh]
 exact wab (wao (wpAny_throw (q _ _ (((Heap.SameBut.update ..).extBut.push _).push _) ⟨_,wau _ rfl,rfl⟩)))
end
def draws_tuple {prog:Program}{w:World}{A:Around}(hh:A.handled=none)(it t:Addr)(hne:t≠it)(items:Array Value) :
 Draws prog w A it [it,t] items.size (λi v=>items[i]?=some v) (λi h=>h.IsTupleIter it t i/\h.IsTuple t items) where
 live:=λ_ _ st=>let ⟨o,ho,_⟩:=st.1;⟨o,ho⟩
 frame:=λ_ _ _ ⟨⟨o,e,r⟩,⟨o',e',r'⟩⟩ hk=>⟨⟨o,hk it (by simp) o e,r⟩,⟨o',hk t (by simp) o' e',r'⟩⟩
 item:=λi s Q E hi st hQ=>zm3 st.1 st.2 (x:=items[i]) (by simp[hi]) λh' a b=>hQ _ h' s.toks (by simp[hi]) ⟨a,st.2.extBut b.extBut hne⟩ b
 done:=λs Q E st hE=>zma hh st.1 st.2 (by simp) hE
def draws_end {prog:Program}{w:World}{A:Around}(hh:A.handled=none)(it t:Addr)(i:Nat)(items:Array Value)(hx:items[i]?=none) :
 Draws prog w A it [it,t] i (λi v=>items[i]?=some v) (λj h=>j=i/\h.IsTupleIter it t i/\h.IsTuple t items) where
 live:=λ_ _ st=>let ⟨o,ho,_⟩:=st.2.1;⟨o,ho⟩
 frame:=λ_ _ _ ⟨hj,⟨o,e,r⟩,⟨o',e',r'⟩⟩ hk=>⟨hj,⟨o,hk it (by simp) o e,r⟩,⟨o',hk t (by simp) o' e',r'⟩⟩
 item:=λj s Q E hi st hQ=>by rw[st.1] at hi;exact absurd hi (waT _)
 done:=λs Q E st hE=>zma hh st.2.1 st.2.2 hx hE
def ziV (t:Addr)(items:Array Value)(n:Nat)(dct:Option Addr)(sl:Array (Option Value)) :
 Meets (Builtin.«enumerate.__new__» ⟨[.type "enumerate",.ref t],[]⟩) (λ_ R s=>s.heap.get? t=some {cls:=.type "tuple",dict:=dct,data:=.seq items n,slots:=sl}/\
  R (.ok (.ret (.ref (s.heap.push {cls:=.type "tuple_iterator",data:=.fields #[.ref t,.int 0 0]}).objs.size)))
    {s with heap:=(s.heap.push {cls:=.type "tuple_iterator",data:=.fields #[.ref t,.int 0 0]}).push {cls:=.type "enumerate",data:=.fields #[.none,.bool false,.ref s.heap.objs.size,rawInt 0,.none,.none]}}):=
 .of_wp λprog w A R s h=>by
  obtain⟨hp,g,d,tk,os⟩:=s;obtain⟨hl,h⟩:=h;have hsub:=PySem.sub_enumerate
  have hL:Heap.IsTuple (Shared.heap ⟨hp,g,d,tk,os⟩) t items:=⟨_,hl,rfl,n,rfl⟩
  wp_walk using wbi hl
  refine wpAny_stack_any λst=>wao ?_
  split
  .rename_i c _ _ _ _ _
   cases(c == Value.type "enumerate")
   .wp_walk using wbi hl,wbL hL
    exact⟨_,rfl,h⟩
   .wp_walk using wbi hl,wbL hL
    exact⟨_,rfl,h⟩
  .wp_walk using wbi hl,wbL hL
   exact⟨_,rfl,h⟩
def call_enum {prog:Program}{w:World}{A:Around}{E:Value->Shared->Prop}{s:Shared}{t:Addr}{items:Array Value}{Q:Value->Shared->Prop}(hL:s.heap.IsTuple t items)
 (h:∀h',IsEnum h' (s.heap.objs.size+1) s.heap.objs.size 0 .none->h'.IsTupleIter s.heap.objs.size t 0->h'.objs.size=s.heap.objs.size+2->
  (∀b o,s.heap.get? b=some o->h'.get? b=some o)->Q (.ref (s.heap.objs.size+1)) {s with heap:=h'}) :
 wpAny (model prog w) A (call (.type "enumerate") [.ref t]) Q E s:=by
 obtain⟨⟨c,dct,dt,sl⟩,hl,hc,n,hd⟩:=hL;obtain rfl:c=.type "tuple":=hc;obtain rfl:dt=.seq items n:=hd;refine callType_new F.called_enumerate (by decide) (F.typeCall_enumerate_1 _) (F.newCall_enumerate_1 _) (λobj=>F.args_object_init_2 obj _) F.entry_enumerate_new (ziV t items n dct sl) ⟨hl,?_⟩;have hz:(s.heap.push {cls:=.type "tuple_iterator",data:=.fields #[.ref t,.int 0 0]}).objs.size=s.heap.objs.size+1:=wbU ..
 have q:=wau (s.heap.push {cls:=.type "tuple_iterator",data:=.fields #[.ref t,.int 0 0]}) (o:={cls:=.type "enumerate",data:=.fields #[.none,.bool false,.ref s.heap.objs.size,rawInt 0,.none,.none]}) rfl
 show _/\_
 rw[hz] at q⊢;exact⟨⟨_,q,rfl⟩,h _ q ⟨_,wag _ (wau _ rfl),rfl,rfl⟩ (by rw[wbU,hz]) λb o x=>wag _ (wag _ x)⟩
end En
namespace L2
open PySem PySem.Spec PyProof PyProof.Rows
def Inv.laidF {X:Cx}{pins:List (Addr×Obj)}{Y:St}{H:Hp}{s:Shared}{h':Heap}{t':Nat}{fp:List Addr}{D:Addr}{o:HO}(I:Inv X pins Y H s)(hf:∀b∈fp,FpOk X pins H b)(k:∀b o,b∉fp->s.heap.get? b=some o->h'.get? b=some o)
 (hth:∀b∈fp,∃o,h'.get? b=some o) (hD:s.heap.get? D=none) (new:ObjOk X.prog X.w (upd H D o) h' D o):H D=none/\Inv X pins Y (upd H D o) {s with heap:=h',toks:=t'}:=by
 have hHD:H D=none:=by
  cases e:H D with
 |none=>rfl
 |some u=>
    obtain⟨ob,q⟩:=(I.hok D u e).there;rw[hD] at q;cases q
 refine⟨hHD,?_⟩;have nit:∀b u,H b=some u->b∉fp:=λb u e z=>by rw[(hf b z).1] at e;cases e
 have nD:∀b u,H b=some u->b≠D:=λb u e z=>by rw[z,hHD] at e;cases e
 have nD':∀b ob,s.heap.get? b=some ob->b≠D:=λb u e z=>by rw[z,hD] at e;cases e
 refine I.step (g':=s.gens) (d':=s.drawn) (t':=t') (ch:=fp) (λb hb=>?_) (λb o _ _ hc e _=>k b o hc e) (λb o _ _ hc e _=>⟨o.slots,k b o hc e⟩) (λb ob _ e n=>by rw[zak (nD' b ob e)];exact n)
  (λb o hc e=>⟨o,k b o hc e⟩) (λb _ e=>by rw[zak (nD b _ e)];exact e) (λb _ _ e=>by rw[zak (nD b _ e)];exact e) (λb ps e=>⟨#[],by rw[zak (nD b _ e),e];simp⟩) (λm hm=>?_) (λb u e=>?_) I.bare
 .obtain⟨f0,f1,f2,f3,f4,f5⟩:=hf b hb;exact⟨f3,f1,f4,f5⟩
 .obtain⟨o,es,ep,ho,r⟩:=hm;exact⟨o,es,ep,k _ o (λz=>(hf _ z).2.1 rfl) ho,r⟩
 .by_cases z:b=D
  .subst z;rw[zah] at e;cases e;exact new
  .rw[zak z] at e;refine(I.hok b u e).stay (λc v hc q=>k c v ?_ q) (λc q=>by rw[zak (nD c _ q)];exact q) λc _ _ q=>by rw[zak (nD c _ q)];exact q
   rcases hc with z|z
   .rw[z];exact nit b u e
   .exact nit c _ z
def Ite (K:W.Frag)(a:Addr):It:=
 ⟨λi H=>∃xs x,SqT K H a xs/\xs[i]?=some x,λi H x H'=>∃p,H p=none/\x=.ref p/\∀xs,SqT K H a xs->∃y,xs[i]?=some y/\H'=upd H p (.tup [.int (i:Nat),y]),λi H=>∃xs,SqT K H a xs/\xs.length<=i⟩
def ziW {P:Program}{w:World}{K:W.Frag}{elts:List Expr}{x1}{tpos:Pos}(a e it:Addr)(hei:e≠it)(hae:a≠e)(hai:a≠it) :
 Turn P w K (.Tuple elts x1 tpos) (Ite K a) [e,it] e (λi h=>(∃old,IsEnum h e it (i:Nat) old)/\h.IsTupleIter it a i) where
 mem:=by simp
 obj:=λi h st b hb=>by
  obtain⟨⟨old,e1⟩,o,e2,c,d⟩:=st;rcases wak.mp hb with z|z
  .subst z;exact⟨_,e1,λv z=>by cases z⟩
  .have z:=waf.mp z
   subst z;exact⟨o,e2,λv z=>by rw[d] at z;cases z⟩
 keep:=λi h h' st k=>by
  obtain⟨⟨old,e1⟩,o,e2,c,d⟩:=st;exact⟨⟨old,k e (by simp) _ e1⟩,o,k it (by simp) _ e2,c,d⟩
 item:=by
  intro X hP hw hK hc i pins s Y H E I hf st hg;subst hP hw hK;obtain⟨⟨old,en⟩,ti⟩:=st;obtain⟨xs,x,hq,hx⟩:=hg;obtain⟨its,rv,p,hz⟩:=I.tuple hq;obtain⟨u,hu,ru⟩:=rv.get hx;have hl:=rv.length
  have hlt:i<its.toArray.size:=by
   rw[wac,<-hl];exact(waa.mp hx).1
  have hh:X.A.in1.handled=none:=I.ok.hd hc
  refine wpAny_pyNext_enum_itemD (En.draws_tuple (A:=X.A.in1) hh it a hai its.toArray) en ⟨ti,p⟩ hlt hei (by simp[hei,Ne.symm hae]) λy h' tk hy en' st' tup sz k=>?_
  have ey:y=u:=by
   have hy':its[i]?=some y:=by simpa using hy
   rw[hu] at hy';exact(waw hy').symm
  subst ey;refine⟨_,rfl,wpAny_letOwnedTupleGo_enum en' λh2 en2 sb2=>?_⟩;have frS:s.heap.get? s.heap.objs.size=none:=by
   cases q:s.heap.get? s.heap.objs.size with
  |none=>rfl
  |some o=>exact absurd (was q) (waT _)
  have neS:∀b∈[e,it],b≠s.heap.objs.size:=λb hb z=>by
   rcases wak.mp hb with q|q
   .have en1:=(show s.heap.get? e=some _ from en)
    rw[<-z,q,en1] at frS;cases frS
   .obtain⟨o,e2,_⟩:=ti;rw[<-z,waf.mp q,e2] at frS;cases frS
  obtain⟨hn,I1⟩:=I.laidF (h':=h2) (t':=tk+1) (fp:=[e,it]) (D:=s.heap.objs.size) (o:=.tup [.int (i:Nat),x]) hf (λb o hb q=>sb2.extBut b o (λz=>hb (by simp[z])) (k b o (λz=>hb (by simp[z])) (λz=>hb (by simp[z])) q))
   (λb hb=>by
    rcases wak.mp hb with q|q
    .subst q;exact⟨_,en2⟩
    .have q:=waf.mp q
     subst q;obtain⟨o,e2,_⟩:=st'.1;exact⟨o,sb2.extBut _ o (Ne.symm hei) e2⟩) frS
   ⟨by show 2<=sizeLine;decide,[.int (i:Nat) tk,y],.cons ⟨_,rfl⟩ (.cons ru .nil),⟨_,sb2.extBut _ _ (neS e (by simp)).symm tup,rfl,_,rfl⟩⟩
  refine⟨.ref s.heap.objs.size,_,I1,rfl,⟨_,hn,rfl,λys hy=>⟨x,by rw[I.tuple_inj hy hq];exact hx,rfl⟩⟩,⟨⟨_,en2⟩,?_⟩,λb hb=>?_⟩
  .obtain⟨o,e2,c,d⟩:=st'.1;exact⟨o,sb2.extBut _ o (Ne.symm hei) e2,c,d⟩
  .rw[zak (neS b hb)];exact(hf b hb).1
 done:=by
  intro X hP hw hK hc i pins s Y H E I hf st hg;subst hP hw hK;obtain⟨⟨old,en⟩,ti⟩:=st;obtain⟨xs,hq,hx⟩:=hg;obtain⟨its,rv,p,hz⟩:=I.tuple hq;obtain⟨f0,f1,f2,f3,f4,f5⟩:=hf it (by simp);have hl:=rv.length
  have hh:X.A.in1.handled=none:=I.ok.hd hc
  refine wpAny_pyNext_enum_endD (En.draws_end (A:=X.A.in1) hh it a i its.toArray (by simp;omega)) en ⟨rfl,ti,p⟩ λh' eb=>⟨rfl,I.turned (t':=s.toks) (λb o hb e=>eb b o hb e) f0 f1 f3 f4 f5⟩
 self:=λ_ _ _ _ _ st h=>by
  obtain⟨⟨old,en⟩,_⟩:=st;exact wbS en h
def zqD (K:W.Frag)(ta:TA):TI:=λY H R=>ta Y H λvs H1=>∃a,vs = [.ref a]/\(∃xs,SqT K H1 a xs)/\R (Ite K a) H1
def ziX {X:Cx}{elts:List Expr}{x1}{tpos:Pos}{l:Expr}{ta:TA}{p pos:Pos}(hg:Gl X "enumerate")(hm:X.mg "enumerate"=none)(ha:PA X [l] ta)(hs:starEach [l] X.env = [(false,eval l X.env)]:=by rfl) :
 PI X (.Tuple elts x1 tpos) (.Call (.Name "enumerate" p) [l] [] pos) (zqD X.K ta):=by
 intro pins s Y H R I h;refine waX (zcY I hg hm boot_enumerate ?_ (by decide) (by decide));refine waP (thn (ha pos pins s Y H _ I h) λus s1 ⟨vs,H1,I1,rv,q1⟩ =>?_) hs rfl;obtain⟨a,e,⟨xs,hq⟩,q⟩:=q1;subst e;obtain⟨u,rfl,r1⟩:=zfC rv;obtain rfl:u=Value.ref a:=r1;obtain⟨its,rv,pt,hz⟩:=I1.tuple hq;refine En.call_enum pt λh' en ti sz k=>?_
 have alt:a<s1.heap.objs.size:=pt.lt
 refine wbS en ⟨s1.heap.objs.size+1,[s1.heap.objs.size+1,s1.heap.objs.size],_,_,H1,rfl,I1.kept (t':=s1.toks) k,ziW a _ _ (Nat.succ_ne_self _) (waB (Nat.lt_succ_of_lt alt)) (waB alt),⟨⟨_,en⟩,ti⟩,λb hb=>?_,q⟩;rcases wak.mp hb with z|z
 .subst z;exact I1.fpOk (wcn _) (I1.hok.fresh (wcn _))
 .have z:=waf.mp z
  subst z;exact I1.fpOk (wal _) (I1.hok.fresh (wal _))
section
variable {X:Cx}
def zm4:OpR X (binaryOp .Add) (λx y H Q=>∃a b ys,x=.ref a/\y=.ref b/\SqT X.K H a []/\SqT X.K H b ys/\Q (.ref b) H):=by
 intro pins s Y H x y v u Q I rx ry h;obtain⟨a,b,ys,rfl,rfl,ha,hb,q⟩:=h;cases rx;cases ry;obtain⟨its,r1,p1,_⟩:=I.tuple ha;obtain⟨its2,r2,p2,_⟩:=I.tuple hb;have e1:its = []:=r1.nil_iff.mpr rfl
 subst e1;obtain⟨⟨c1,d1,dt1,s1⟩,g1,g2,n1,g3⟩:=p1;obtain⟨⟨c2,d2,dt2,s2⟩,k1,k2,n2,k3⟩:=p2;obtain rfl:c1=.type "tuple":=g2;obtain rfl:c2=.type "tuple":=k2;obtain rfl:dt1=.seq _ n1:=g3;obtain rfl:dt2=.seq _ n2:=k3;exact concat_meets ⟨_,g1,rfl⟩ ⟨_,k1,rfl⟩ noFill_tuple_add seq_tuple_add wbP wbM (wbK _ _) (tuple_addW0 a b _ _ n1 n2 d1 d2 s1 s2 rfl) ⟨g1,k1,⟨.ref b,H,I,rfl,q⟩⟩
def zoV (K:W.Frag):R2:=λx y H Q=>∃a b xs ys,x=.ref a/\y=.ref b/\SqT K H a xs/\SqT K H b ys/\ys≠[]/\xs.length+ys.length<=sizeLine/\
 (xs = []->Q (.ref b) H)/\(xs≠[]->∀p,H p=none->Q (.ref p) (upd H p (.tup (xs++ys))))
def zm5:OpR X (binaryOp .Add) (zoV X.K):=by
 intro pins s Y H x y v u Q I rx ry h;obtain⟨a,b,xs,ys,rfl,rfl,ha,hb,hy,hz,q1,q2⟩:=h;by_cases hx:xs = []
 .subst hx;exact zm4 pins s Y H _ _ v u Q I rx ry ⟨a,b,ys,rfl,rfl,ha,hb,q1 rfl⟩
 .exact zmX pins s Y H _ _ v u Q I rx ry ⟨a,b,xs,ys,rfl,rfl,ha,hb,hx,hz,λz=>absurd z hy,λ_=>q2 hx⟩
end
def zhc {H:Hp}{p:Addr}(h:H p=none)(o:HO):Same H (upd H p o):=λb u q=>by rw[zak (za3 q h)];exact q
end L2
namespace Sh
open PySem L2
namespace Tr
end Tr
end Sh
namespace SO
open PySem PySem.W PyProof.Rows
section
variable {k:Nat->Int}{N:Nat}
end
end SO
namespace L2
open PySem PySem.Spec PyProof PyProof.Rows PySem.W
section
variable {X:Cx}{pins:List (Addr×Obj)}{Y:St}{H:Hp}{s:Shared}
end
def zhS {pos:Pos}{a b:Int}{c cv:Value}(l:List Value)(h:TriplesOk l):codeAmong pos (l++[rawInt a,rawInt b,c])=some cv->codeAmong pos l=some cv\/cv=c:=by
 fun_induction TriplesOk l with
|case1=>
   intro q;simp only[List.nil_append,codeAmong,rawInt] at q;split at q
   .cases q;exact .inr rfl
   .simp[codeAmong] at q
|case2 x t y u z rest ih=>
   intro q;simp only[List.cons_append,codeAmong] at q⊢;split at q
   .rename_i hc;rw[if_pos hc];exact .inl q
   .rename_i hc;rw[if_neg hc];exact ih h q
|case3 l h1 h2=>exact h.elim
section
variable {X:Cx}{pins:List (Addr×Obj)}{Y:St}{H:Hp}{s:Shared}
def CodeK.hd {K:W.Frag}{c P:Addr}{h:Heap}(hC:CodeK K c P)(x:K.In h):CodeHd h c P:=by
 obtain⟨o,vs,file,tf,flags,tg,inF,text,tt,l,e⟩:=hC.ex;exact⟨o,vs,file,tf,flags,tg,inF,text,tt,x _ _ l,e⟩
def Inv.grownC {P c':Addr}{ps qs:Array Value}{h':Heap}{t':Nat}{oc:Obj}{vs:Array Value}{t:Tok}{q:Str}{a b:Int}(I:Inv X pins Y H s)(hH:H P=some (.tbl ps))(hps:ps[0]?=some (Value.str q 0))(ht:TabC H ps qs)(k:∀b o,b≠P->s.heap.get? b=some o->h'.get? b=some o)
 (e:h'.get? P=some (tabO (qs++#[rawInt a,rawInt b,.ref c']))) (hc:s.heap.objs.size<=c') (ho:h'.get? c'=some oc) (hd:oc.data=.fields vs) (hv:vs[1]?=some (.str q t)) :
 Inv X pins Y (upd H c' (.frz oc (.ext λ_=>True))) {s with heap:=h',toks:=t'}:=by
 have hn:H c'=none:=I.hok.fresh hc
 have nP:∀b u,H b=some u->b≠c':=λb u q z=>by rw[z,hn] at q;cases q
 refine I.un ⟨λb o q n _ _=>k b o (Inv.ne_tbl hH n) q,λb o q n _ _=>⟨o.slots,k b o (Inv.ne_tbl hH n) q⟩,λb o q n _=>?_,λb o q _=>?_,λb xs q=>?_,λb o u q=>?_,λb qs q=>⟨#[],?_⟩⟩ λb u q=>?_
 .rw[zak (λ(z:b=c')=>by have e2:=was q;rw[z] at e2;exact waT _ (war e2 hc))];exact n
 .by_cases z:b=P
  .subst z;exact⟨_,e⟩
  .exact⟨o,k b o z q⟩
 .rw[zak (nP b _ q)];exact q
 .rw[zak (nP b _ q)];exact q
 .rw[zak (nP b _ q),q];simp
 .by_cases z0:b=c'
  .subst z0;rw[zah] at q;cases q;exact⟨ho,trivial,⟨_,ho⟩,λ_ _ _ _=>trivial⟩
  .rw[zak z0] at q;by_cases z:b=P
   .subst z;rw[hH] at q;cases q;refine⟨_,e,?_,λpos cv z=>?_⟩
    .simpa using TriplesOk_snoc a _ (.ref c') _ ht.1
    .rcases zhS (a:=a) (b:=_) (c:=.ref c') qs.toList ht.1 (by simpa using z) with z|z
     .obtain⟨c2,o,u,vs,t,q',e1,e2,e3⟩:=ht.2 pos cv z;exact⟨c2,o,u,vs,t,q',e1,by rw[zak (nP _ _ e2)];exact e2,e3⟩
     .exact⟨c',oc,_,vs,t,q,z,zah,hd,hv,hps⟩
   .refine(I.hok b u q).stay (λc v hc q'=>k c v ?_ q') (λc q'=>by rw[zak (nP _ _ q')];exact q') λc xs _ q'=>by rw[zak (nP _ _ q')];exact q'
    rcases hc with r|r
    .rw[r];exact z
    .intro r';subst r';rw[hH] at r;cases r
end
end L2
namespace L2
open PySem PySem.Spec PyProof.Rows
section
variable {κ:Type}[DecidableEq κ]
def valV (kvs:List (κ×V))(k:κ):Option V:=(kvs.find? λkv=>decide (kv.1=k)).map (·.2)
def putK (kvs:List (κ×V))(k:κ)(v:V):List (κ×V):=
 if(kvs.any λkv=>decide (kv.1=k))=true then kvs.map (λkv=>if kv.1=k then(kv.1,v) else kv) else kvs++[(k,v)]
def zhd {p:κ×V}{r:List (κ×V)}{k:κ}(e:p.1=k):valV (p::r) k=some p.2:=by simp[valV,wbw,e]
def zhe {p:κ×V}{r:List (κ×V)}{k:κ}(e:¬p.1=k):valV (p::r) k=valV r k:=by simp[valV,wbw,e]
def zgz (kvs:List (κ×V))(k:κ)(v:V):(putK kvs k v).length<=kvs.length+1:=by
 unfold putK;split
 .rw[wad];omega
 .rw[wan,waK,List.length_nil];omega
def RelO.isSome_eq {o:Option V}{u:Option Value}(r:RelO o u):o.isSome=u.isSome:=by
 cases o with
|none=>cases u with
  |none=>rfl
  |some _=>exact(show False from r).elim
|some _=>cases u with
  |none=>exact(show False from r).elim
  |some _=>rfl
def KV.val {kvs:List (κ×V)}{vs:List (κ×Value)}(r:KV kvs vs)(k:κ):RelO (valV kvs k) (valueAt vs k):=by
 unfold KV at r;induction r with
|nil=>exact True.intro
|@cons p q ps qs h t ih=>
   obtain⟨h1,h2⟩:=h;by_cases e:p.1=k
   .have e':q.1=k:=h1.symm.trans e
    have b:valueAt (q::qs) k=some q.2:=by simp[valueAt,wbw,e']
    rw[zhd e,b];exact h2
   .have e':¬q.1=k:=λz=>e (h1.trans z)
    have b:valueAt (q::qs) k=valueAt qs k:=by simp[valueAt,wbw,e']
    rw[zhe e,b];exact ih
theorem KV.any {kvs:List (κ×V)}{vs:List (κ×Value)}(r:KV kvs vs)(k:κ):(kvs.any λkv=>decide (kv.1=k))=vs.any λkv=>decide (kv.1=k):=by
 unfold KV at r;induction r with
|nil=>rfl
|cons h t ih=>rw[List.any_cons,List.any_cons,ih,h.1]
def KV.repl {kvs:List (κ×V)}{vs:List (κ×Value)}(r:KV kvs vs)(k:κ){y:V}{u:Value}(ry:RelV y u) :
 KV (kvs.map λkv=>if kv.1=k then(kv.1,y) else kv) (vs.map λkv=>if kv.1=k then(kv.1,u) else kv):=by
 unfold KV at r⊢;induction r with
|nil=>exact .nil
|@cons p q ps qs h t ih=>
   rw[waL,waL];refine .cons ?_ ih;obtain⟨h1,h2⟩:=h;by_cases e:p.1=k
   .rw[if_pos e,if_pos (h1.symm.trans e)];exact⟨h1,ry⟩
   .rw[if_neg e,if_neg (λz=>e (h1.trans z))];exact⟨h1,h2⟩
def KV.put {kvs:List (κ×V)}{vs:List (κ×Value)}(r:KV kvs vs)(k:κ){y:V}{u:Value}(ry:RelV y u):KV (putK kvs k y) (stored vs k u):=by
 unfold putK stored;rw[r.any k];by_cases e:(vs.any λkv=>decide (kv.1=k))=true
 .rw[if_pos e,if_pos e];exact r.repl k ry
 .rw[if_neg e,if_neg e];exact Paired.snoc r ⟨rfl,ry⟩
theorem KV.length {kvs:List (κ×V)}{vs:List (κ×Value)}(r:KV kvs vs):kvs.length=vs.length:=Paired.length r
end
def zhT {P:Program}{w:World}{k:Key}{u:Value}(r:RelV (kV k) u):(zaL P w).is k u=true:=by
 cases k with
|inl i=>obtain⟨t,e⟩:=(show ∃t,u=Value.int i t from r);subst e;exact zgs P w i t
|inr x=>obtain⟨t,e⟩:=(show ∃t,u=Value.str x t from r);subst e;exact zc3 P w x t
theorem zfQ {P:Program}{w:World}:∀{ks:List Key}{us:List Value},Vals (ks.map kV) us->ItemsAre (zaL P w) ks us
|[],_,r=>by rw[List.map_nil] at r;cases r;exact .nil
|k::ks,_,r=>by
   rw[waL] at r;cases r with
  |cons h t=>exact .cons (zhT h) (zfQ t)
abbrev KT (H:Hp):List (List Key×V)->List (List Key×Addr×Value)->Prop:=Paired λp q=>p.1=q.1/\H q.2.1=some (.tup (p.1.map kV))/\RelV p.2 q.2.2
def KT.val {H:Hp}{kvs:List (List Key×V)}{xs:List (List Key×Addr×Value)}(r:KT H kvs xs)(k:List Key):RelO (valV kvs k) ((atKey xs k).map (·.2)):=by
 induction r with
|nil=>exact True.intro
|@cons p q ps qs h t ih=>
   obtain⟨h1,_,h2⟩:=h;by_cases e:p.1=k
   .have e':q.1=k:=h1.symm.trans e
    have b:atKey (q::qs) k=some q.2:=by simp[atKey,wbw,e']
    rw[zhd e,b];exact h2
   .have e':¬q.1=k:=λz=>e (h1.trans z)
    have b:atKey (q::qs) k=atKey qs k:=by simp[atKey,wbw,e']
    rw[zhe e,b];exact ih
section
variable {P:Program}{w:World}{H:Hp}{h:Heap}{a:Addr}
def zoW {u:HO}(ok:HOk P w H h)(e:Rd H a u):ObjOk P w H h a u:=e.ok ok
def ziY {kvs:List (Key×V)}(ok:HOk P w H h)(e:Rd H a (.dK kvs)):kvs.length<=sizeLine/\(a == sysModules)=false/\∃vs,KV kvs vs/\h.DictOf (zaL P w) a vs:=
 show ObjOk P w H h a (.dK kvs) from zoW ok e
def zqE {kvs:List (Key×V)}(ok:HOk P w H h)(e:H a=some (.dK kvs)):kvs.length<=sizeLine/\(a == sysModules)=false/\∃vs,KV kvs vs/\h.DictOf (zaL P w) a vs:=ziY ok (.inl e)
def zhf {ks:List Key}(ok:HOk P w H h)(e:H a=some (.tup (ks.map kV))):(tupleKind (zaL P w)).is h ks a:=by
 obtain⟨_,its,r,o,h1,h2,n,h3⟩:=(show ObjOk P w H h a (.tup (ks.map kV)) from ok a _ e)
 exact⟨o,its.toArray,n,h1,h2,h3,by simpa using zfQ r⟩
def zkO {kvs:List (List Key×V)}(ok:HOk P w H h)(e:Rd H a (.dT kvs)):kvs.length<=sizeLine/\(a == sysModules)=false/\
 ∃xs,KT H kvs xs/\h.DictOfH (tupleKind (zaL P w)) a xs:=by
 obtain⟨z,y,xs,r,o,es,ep,h1,h2,h3,h4,h5⟩:=(show ObjOk P w H h a (.dT kvs) from zoW ok e)
 refine⟨z,y,xs,r,o,es,ep,h1,h2,h3,h4,λx hx=>?_,h5⟩;have all:∀{l:List (List Key×V)}{m:List (List Key×Addr×Value)},KT H l m->∀x∈m,(tupleKind (zaL P w)).is h x.1 x.2.1:=by
  intro l m q;induction q with
 |nil=>intro x hx;exact nomatch hx
 |@cons p q ps qs hq t ih=>
    intro x hx;rcases wak.mp hx with e|hx
    .subst e;exact zhf ok (by rw[<-hq.1];exact hq.2.1)
    .exact ih x hx
 exact all r x hx
end
def DGet (H:Hp)(a:Addr)(y:V)(r:Option V):Prop:=
 (∃kvs k,Rd H a (.dK kvs)/\y=kV k/\r=valV kvs k)\/∃kvs k b,Rd H a (.dT kvs)/\y=.ref b/\H b=some (.tup (k.map kV))/\r=valV kvs k
theorem DGet.k {H:Hp}{a:Addr}{kvs:List (Key×V)}{k:Key}(e:H a=some (.dK kvs)):DGet H a (kV k) (valV kvs k):=.inl ⟨kvs,k,.inl e,rfl,rfl⟩
section
variable {X:Cx}{pins:List (Addr×Obj)}{Y:St}{H:Hp}{s:Shared}{a:Addr}{y v:V}{u r:Value}{o:Option V}{A:Around}{E:Value->Shared->Prop}
def Inv.big (I:Inv X pins Y H s):sysModules<s.heap.objs.size:=by
 have h:mainGlobals<s.heap.objs.size:=(I.mod.glob.keeps I.bk).lt
 exact Nat.lt_trans (by decide) h
def ziZ {Q:Value->Shared->Prop}(hu:A.units+1<cLine)(I:Inv X pins Y H s)(g:DGet H a y (some v))(ry:RelV y u)(h:∀w' s',Inv X pins Y H s'->RelV v w'->Q w' s') :
 wpAny (model X.prog X.w) A (getItem (.ref a) u) Q E s:=by
 rcases g with⟨kvs,k,e,ey,l⟩|⟨kvs,k,b,e,ey,eb,l⟩
 .subst ey;obtain⟨z,hd,vs,rel,dd⟩:=ziY I.hok e;obtain⟨w',hw,rw'⟩:=RelO.some_of (v:=v) (o:=valueAt vs k) (by rw[l];exact rel.val k);exact wpAny_getItem_of (zhT ry) dd.mapOf hw (h w' _ (I.tok _) rw')
 .subst ey;cases(show u=Value.ref b from ry);obtain⟨z,hd,xs,rel,dd⟩:=zkO I.hok e;obtain⟨w',hw,rw'⟩:=RelO.some_of (v:=v) (o:=(atKey xs k).map (·.2)) (by rw[l];exact rel.val k);obtain⟨p,hp,hp2⟩:=wbC.mp hw;refine wpAny_getItem_heap (tupleKind_room_in1 hu) (zhf I.hok eb) dd hp ?_;rw[hp2];exact h w' _ (I.tok _) rw'
def d_in {Q:Value->Shared->Prop}(hu:A.units+1<cLine)(I:Inv X pins Y H s)(g:DGet H a y o)(ry:RelV y u)(h:∀s',Inv X pins Y H s'->Q (.bool o.isSome) s') :
 wpAny (model X.prog X.w) A (compareOp .In u (.ref a)) Q E s:=by
 rcases g with⟨kvs,k,e,ey,l⟩|⟨kvs,k,b,e,ey,eb,l⟩
 .subst ey;obtain⟨z,hd,vs,rel,dd⟩:=ziY I.hok e;refine wpAny_in_of (zhT ry) hd dd.mapOf ?_;rw[<-(rel.val k).isSome_eq,<-l];exact h _ (I.tok _)
 .subst ey;cases(show u=Value.ref b from ry);obtain⟨z,hd,xs,rel,dd⟩:=zkO I.hok e;refine wpAny_in_heap (tupleKind_room_in1 hu) (zhf I.hok eb) hd dd ?_;have q:=(rel.val k).isSome_eq
  rw[Option.isSome_map] at q;rw[<-q,<-l];exact h _ (I.tok _)
def zm6 {Q:Value->Shared->Prop}(hu:A.units+1<cLine)(I:Inv X pins Y H s)(g:DGet H a y o)(ry:RelV y u)(h:∀s',Inv X pins Y H s'->Q (.bool (!o.isSome)) s') :
 wpAny (model X.prog X.w) A (compareOp .NotIn u (.ref a)) Q E s:=by
 rcases g with⟨kvs,k,e,ey,l⟩|⟨kvs,k,b,e,ey,eb,l⟩
 .subst ey;obtain⟨z,hd,vs,rel,dd⟩:=ziY I.hok e;refine wpAny_notIn_of (zhT ry) hd dd.mapOf ?_;rw[<-(rel.val k).isSome_eq,<-l];exact h _ (I.tok _)
 .subst ey;cases(show u=Value.ref b from ry);obtain⟨z,hd,xs,rel,dd⟩:=zkO I.hok e;refine wpAny_notIn_heap (tupleKind_room_in1 hu) (zhf I.hok eb) hd dd ?_;have q:=(rel.val k).isSome_eq
  rw[Option.isSome_map] at q;rw[<-q,<-l];exact h _ (I.tok _)
def zm7 {h':Heap}{t':Nat}{ob:HO}(I:Inv X pins Y H s)(mu:Mut (H a))(hs:Heap.SameBut a s.heap h')(he:∃q,h'.get? a=some q)(new:ObjOk X.prog X.w (upd H a ob) h' a ob) :
 Inv X pins Y (upd H a ob) {s with heap:=h',toks:=t'}:=
 I.write (x:=a) (e:=a) mu (.inl rfl) (λb q hb z=>(hs.2 b hb).trans z) he new
def zoX {P:Program}{w:World}{H':Hp}{h':Heap}{kvs:List (Key×V)}{vs:List (Key×Value)}(z:kvs.length<=sizeLine)(hd:(a == sysModules)=false)(rel:KV kvs vs)(dd:h'.DictOf (zaL P w) a vs) :
 ObjOk P w H' h' a (.dK kvs):=⟨z,hd,vs,rel,dd⟩
end
section
variable {X:Cx}{pins:List (Addr×Obj)}{Y:St}{H:Hp}{s:Shared}{a:Addr}{kvs:List (Key×V)}{k:Key}{u:Value}{A:Around}{E:Value->Shared->Prop}
end
def NoSl (i:Expr):Prop:=∀ov iv,subscripted i false ov iv=operate [ov,iv] (getItem ov iv)
def zi0 {prog:Program}{w:World}{A:Around}{E:Value->Shared->Prop}{s:Shared}{env:Env}{value slice:Expr}{pos:Pos}{T id:String}{Q:Value->Shared->Prop}
 (hl:typeLookup (.type T) "__getitem__"=pure (some (.builtin id))) (hs:NoSl slice)
 (h:wpAny (model prog w) A (eval value env) (λo s₁=>wpAny (model prog w) A (eval slice env) (λi s₂=>s₂.TypeIs o T/\wpAny (model prog w) A (getItem o i) Q E s₂) E s₁) E s) :
 wpAny (model prog w) A (eval (.Subscript value slice pos) env) Q E s:=by
 refine Subscript_ (waA h (λo s₁ h₁=>waA h₁ (λi s₂ h₂=>?_) λ_ _ x=>x) λ_ _ x=>x);obtain⟨hT,h₂⟩:=h₂;unfold subscriptTail;refine wab ?_;rw[getitemInPython_of_ne hT.not_modules];refine wab (wpAny_specialOf hT hl ?_);have fin:wpAny (model prog w) A (subscripted slice false o i) (λr s₃=>wpAny (model prog w) A (letTemporaryGo value o r >>= λ_=>pure r) Q E s₃) E s₂:=by
  rw[hs o i];exact wpAny_operating (waA h₂ (λr s₃ h₃=>wab (wpAny_letTemporaryGo (wao h₃))) λ_ _ x=>x)
 first
 |exact wao (wab fin)
 |exact wab (wao (wab fin))
 |exact wab fin
def zgA {X:Cx}{pins:List (Addr×Obj)}{Y:St}{H:Hp}{s:Shared}{a:Addr}{y:V}{o:Option V}(I:Inv X pins Y H s)(g:DGet H a y o):s.TypeIs (.ref a) "dict":=by
 rcases g with⟨kvs,k,e,_,_⟩|⟨kvs,k,b,e,_,_,_⟩
 .obtain⟨_,_,vs,_,dd⟩:=ziY I.hok e;exact dd.typeIs
 .obtain⟨_,_,xs,_,dd⟩:=zkO I.hok e;exact dd.typeIs
def zqF (td ty:TE):TE:=λY H Q=>td Y H λx H1=>ty Y H1 λy H2=>∃a v,x=.ref a/\DGet H2 a y (some v)/\Q v H2
section
variable {X:Cx}{o i e value:Expr}{pos pos' tpos:Pos}{td ty tv:TE}
def zm8 (hu:X.A.units+1<cLine)(ho:PE X o td)(hi:PE X i ty)(hs:NoSl i):PE X (.Subscript o i pos) (zqF td ty):=by
 intro pins s Y H Q I h;refine zi0 PySem.F.slot_dict_getitem.lookup hs (thn (ho pins s Y H _ I h) λu s1 ⟨x,H1,I1,rx,q1⟩ =>thn (hi pins s1 Y H1 _ I1 q1) λiv s2 ⟨y,H2,I2,ry,a,v,ex,g,q2⟩ =>?_);subst ex;obtain rfl:u=Value.ref a:=rx;exact⟨zgA I2 g,ziZ hu I2 g ry λw' s3 I3 rw'=>⟨v,H2,I3,rw',q2⟩⟩
end
def zkP {P:Program}{w:World}{H:Hp}(h:Heap)(hb:sysModules<h.objs.size):ObjOk P w H (h.push {cls:=.type "dict",data:=.dict #[]}) h.objs.size (.dK []):=
 ⟨wbn _,beq_eq_false_iff_ne.mpr (Ne.symm (waB hb)),[],.nil,Heap.DictOf.new h⟩
section
variable {X:Cx}{pos:Pos}
end
section
variable {X:Cx}{pins:List (Addr×Obj)}{Y:St}{H:Hp}{s:Shared}{a:Addr}{y d:V}{u r:Value}{o:Option V}{A:Around}{E:Value->Shared->Prop}
end
section
variable {X:Cx}{o e f:Expr}{apos cpos:Pos}{td ty tx:TE}
end
section
variable {X:Cx}{pins:List (Addr×Obj)}{Y:St}{H:Hp}{s:Shared}{a:Addr}{kvs:List (Key×V)}{A:Around}{E:Value->Shared->Prop}
end
section
variable {X:Cx}{pins:List (Addr×Obj)}{Y:St}{H:Hp}{s:Shared}{a:Addr}{y:V}{u:Value}{A:Around}{E:Value->Shared->Prop}
end
end L2
namespace L2
open PySem PySem.Spec PyProof PyProof.Rows
section
variable {X:Cx}
def tRev (K:W.Frag)(te:TE):TE:=λY H Q=>te Y H λx H1=>∃a xs,x=.ref a/\SqL K H1 a xs/\∀p,H1 p=none->Q (.ref p) (upd H1 p (.lst xs.reverse))
def zoY {e:Expr}{te:TE}{p2 p3 p4 pos:Pos}{j:Nat}(he:PE X e te):PE X (.Subscript e (.Slice none none (some (.UnaryOp .USub (.Constant (.int 1) j p3) p4)) p2) pos) (tRev X.K te):=by
 intro pins s Y H Q I h;refine Subscript_ (thn (he pins s Y H _ I h) λv s1 ⟨x,H1,I1,r1,q1⟩ =>?_);obtain⟨a,xs,rfl,hx,q⟩:=q1;cases r1;refine wpAny_Slice ?_;rw[evalPart_none];refine wao ?_;refine wao ?_;rw[evalPart_some];refine UnaryOp_ (wpAny_Constant_int ?_);refine PyProof.Rows.neg_int ?_;obtain⟨its,r,ht,hz⟩:=I1.list hx;have hlen:=r.length
 have I4:Inv X pins Y H1 {s1 with heap:=s1.heap.push {cls:=.type "slice",data:=.fields #[.none,.none,.int (-1) (s1.toks+1)]},toks:=s1.toks+1+1}:=I1.kept (t':=s1.toks+1+1) λb ob q=>wag _ q
 obtain⟨its4,r4,ht4,hz4⟩:=I4.list hx;have hlen4:=r4.length
 refine tail_any (ops:=[.ref a,.ref s1.heap.objs.size]) ht4.isList.typeIs slot_list_getitem.lookup ?_ (by with_unfolding_all rfl);refine wpAny_getItem_list_slice ht4.isList (Heap.IsSliceOf.new s1.heap .none .none (.int (-1) (s1.toks+1))) .none .none (.int (-1) _) (by simp) ?_ (by rw[wac] <;> omega);rw[PySem.W.krv_pick];refine⟨.ref _,_,I4.laid (t':=s1.toks+1+1) (o:=.lst xs.reverse) (λb ob q=>wag _ q) (wal _) ?_,rfl,q _ (I4.hok.fresh (wal _))⟩;exact⟨by rw[wbo];exact hz,its4.reverse,0,r4.reverse,wau (s1.heap.push {cls:=.type "slice",data:=.fields #[.none,.none,.int (-1) (s1.toks+1)]}) (o:={cls:=.type "list",data:=.seq its4.reverse.toArray}) rfl⟩
end
structure Cal (P:Program)(w:World)(K:W.Frag)(mg:Str->Option Value)(base:Heap)(k:Nat)(x:Str)(ps:List Str)(sp:Sp):Prop where
 ex:∃(f:Addr) (fd:FuncData),FnOk P w K mg base CX0 k f fd ps sp/\Binds K fd ps []/\W.keepIn K (.ref f)=true/\mg x=some (.ref f)
section
variable {X:Cx}{k:Nat}{x:Str}{ps:List Str}{sp:Sp}{t:TA}{p pos:Pos}{e:Expr}{es:List Expr}
def pc {k':Nat}(C:Cal X.prog X.w X.K X.mg X.base k x ps sp)(hr:Room k' X.A)(ha:PA X (e::es) t)(hk:k<=k':=by decide)(hg:Gl X x:=by rfl)(hdb:(x == ("__debug__" : Str))=false:=by decide)
 (he:starEach (e::es) X.env=(false,eval e X.env)::starEach es X.env:=by rfl) (hpl:(backTo pos (starEach es X.env)).any (·.1)=false:=by rfl):PE X (.Call (.Name x p) (e::es) [] pos) (ziG sp [] E0 t):=by
 obtain⟨f,fd,a,b,c,d⟩:=C.ex;exact zmV (a.mono hk) hr hg d c b .nil zoS ha hdb he hpl
end
def zbi:List Str:=["len","range","min","max","int","str","bool","list","tuple","isinstance","any","all","enumerate","abs","sorted","dict","ord","chr","reversed"]
def Blt (mg:Str->Option Value):Prop:=∀x∈zbi,mg x=none
def Blt.get {mg:Str->Option Value}(B:Blt mg)(x:Str)(h:x∈zbi:=by decide +kernel):mg x=none:=B x h
section
variable {X:Cx}{r:List V->Hp->VK->Prop}{t:TA}{p pos:Pos}{e:Expr}{es:List Expr}{id T:String}{x:Str}
def pb (hc:zcz X (.builtin id) r)(B:Blt X.mg)(hv:bootBuiltins x=some (.builtin id))(ha:PA X (e::es) t)(hB:x∈zbi:=by decide +kernel)(hg:Gl X x:=by rfl)(hn:x≠"__name__":=by decide)(hdb:(x == ("__debug__" : Str))=false:=by decide)
 (he:starEach (e::es) X.env=(false,eval e X.env)::starEach es X.env:=by rfl) (hpl:(backTo pos (starEach es X.env)).any (·.1)=false:=by rfl):PE X (.Call (.Name x p) (e::es) [] pos) (tCB r t):=
 zkK hc hg (B x hB) hv ha hn hdb he hpl
def pty (hc:zcz X (.type T) r)(B:Blt X.mg)(hv:bootBuiltins x=some (.type T))(ha:PA X (e::es) t)(hB:x∈zbi:=by decide +kernel)(hg:Gl X x:=by rfl)(hn:x≠"__name__":=by decide)(hdb:(x == ("__debug__" : Str))=false:=by decide)
 (he:starEach (e::es) X.env=(false,eval e X.env)::starEach es X.env:=by rfl) (hpl:(backTo pos (starEach es X.env)).any (·.1)=false:=by rfl):PE X (.Call (.Name x p) (e::es) [] pos) (tCB r t):=
 ziJ hc hg (B x hB) hv ha hn hdb he hpl
def ptn {v:V}{u:Value}(B:Blt X.mg)(hv:bootBuiltins x=some u)(rl:RelV v u)(hB:x∈zbi:=by decide +kernel)(hg:Gl X x:=by rfl)(hn:x≠"__name__":=by decide)(hdb:(x == ("__debug__" : Str))=false:=by decide):PE X (.Name x pos) (tC v):=
 zmN hg (B x hB) hv rl hn hdb
def papp {o:Expr}{to:TE}{apos cpos:Pos}(ho:PE X o to)(ha:PA X [e] t)
 (hbase:attributeBase o "append" X.env (eval o X.env)=eval o X.env:=by rfl)
 (hfew:((backTo cpos (starEach [e] X.env)).all (λx=>!x.1)&&(backToKw cpos (keywordEach [] X.env)).all (λx=>x.1.isSome)
  && decide ([e].length+([]:List Keyword).length+(if([]:List Keyword).isEmpty then 0 else 1)<30))=true:=by rfl)
 (hline:(apos.endLine == cpos.line)=true:=by rfl) (hs:starEach [e] X.env = [(false,eval e X.env)]:=by rfl) :
 PE X (.Call (.Attribute o "append" apos) [e] [] cpos) (tBM X.K "list" ze6 to t):=
 zoQ PySem.F.plainAttrs_list PySem.F.slot_list_append PySem.F.type_list_append zfM ho ha hbase hfew hline hs rfl
end
def zoZ (K:W.Frag):List V->Hp->VK->Prop:=λxs H Q=>∃x n t k,xs = [x,.ty n]/\TyOf K H x t/\PySem.W.kitOne K t (.type n)=some k/\Q (.bl k) H
def zm9 {X:Cx}:zcz X (.builtin "isinstance") (zoZ X.K):=zgx
end L2
namespace Rv
open PySem PySem.Spec PyProof PyProof.Rows
open Sem (wp)
def zdb:Slot "reversed" "__init__" "object.__init__":=
 .of (owner:="object") (n:="__init__") (by rw[typeLookup_type,builtinLookup_eq_fast];kernel_rfl) (by decide +kernel) (by decide +kernel) (by decide +kernel)
  (by first|exact .inl (by decide +kernel)|exact .inr (by decide +kernel)) (by rw[isSubtype_type];kernel_rfl)
def zdF:mroOf (.type "reversed")=pure [.type "reversed",.type "object"]:=by rw[mroOf_type];kernel_rfl
def zc5:typeLookup (.type "reversed") "__new__"=pure (some (.builtin "reversed.__new__")):=by rw[typeLookup_type,builtinLookup_eq_fast];kernel_rfl
def called_reversed:TypeCalled "reversed" "reversed.__new__" "object.__init__":=
 ⟨by decide +kernel,by decide +kernel,⟨_,_,zdF⟩,madeBy_type zdF zc5 (by decide +kernel),by decide +kernel,by rw[isSubtype_type];kernel_rfl,zdb⟩
def typeCall_reversed_1 (a:Value):checkTypeCall "reversed" ⟨[a],[]⟩=pure ():=by kernel_rfl
def newCall_reversed_1 (a:Value):checkBuiltinCall "reversed.__new__" ⟨[.type "reversed",a],[]⟩=pure ():=by kernel_rfl
def entry_reversed_new:entryFor table "reversed.__new__"=some Builtin.«reversed.__new__»:=entryFor_of_tree (by kernel_rfl)
def sub_ri:isSubtype (.type "range_iterator") (.type "reversed")=pure false:=by rw[isSubtype_type];kernel_rfl
section
variable {prog:Program}{w:World}{A:Around}{E:Value->Shared->Prop}{s:Shared}
def callType_else {T T' newId initId:String}{Bn:Builtin}{args:List Value}{S:PySem.Spec}{Q Q₁:Value->Shared->Prop}(ft:TypeCalled T newId initId)
 (hct:checkTypeCall T ⟨args,[]⟩=pure ()) (hcn:checkBuiltinCall newId ⟨.type T::args,[]⟩=pure ())
 (entryN:entryFor table newId=some Bn) (g:Meets (Bn ⟨.type T::args,[]⟩) S) (hsub':isSubtype (.type T') (.type T)=pure false)
 (h:S A.in1 (wants Q₁ E) s) (hnext:∀obj s₁,Q₁ obj s₁->s₁.TypeIs obj T'/\Q obj s₁) :
 wpAny (model prog w) A (call (.type T) args) Q E s:=by
 obtain⟨c,tl,hmro⟩:=ft.mro;have hmade:=ft.made
 have hsub:=ft.sub
 refine wpAny_call (codeAny_of_tree ?_);show wpAny _ _ (callAny (.type T) _) _ _ _
 refine wao ⟨Code.quiet_builtin _ (by decide +kernel),codeAny_builtin F.entry_type_call ?_⟩;rw[Around.under_plain (weight_type_call_type T args []) (units_type_call_type T args [])];have h1:=ft.notType
 have h2:=ft.canCreate
 repeat (any_goals (first|assumption|wp_step))
 refine codeAny_mono (codeAny_call_builtin ft.plain entryN (wpAny_of_eq hcn (g prog w A.in1 _ s h))) λr s₁ hr=>?_
 cases r with
|error e=>exact hr
|ok fl=>
   cases fl with
  |ret obj=>
     obtain⟨hT,hq⟩:=hnext _ _ hr;repeat (any_goals (first|assumption|wp_step))
  |_=>exact hr.elim
end
def zkQ (r:Addr)(lo hi:Int)(t u v:Tok)(hs:(Builtin.Range.rangeFitsLong lo&&Builtin.Range.rangeFitsLong hi&&Builtin.Range.rangeFitsLong 1&&Builtin.Range.rangeFitsLong (-1)&&Builtin.Range.rangeFitsLong (lo - 1)&&Builtin.Range.rangeFitsLong (Builtin.Range.rangeSize lo hi 1))=true) :
 Meets (Builtin.«range.__reversed__» ⟨[.ref r],[]⟩) (λ_ R s=>s.heap.get? r=some {cls:=.type "range",data:=.fields #[.int lo t,.int hi u,.int 1 v]}/\
  R (.ok (.ret (.ref s.heap.objs.size))) {s with heap:=s.heap.push {cls:=.type "range_iterator",data:=.fields #[rawInt (lo+(Builtin.Range.rangeSize lo hi 1 - 1)*1),rawInt (Builtin.Range.rangeSize lo hi 1),rawInt (-1)]}}):=
 .of_wp λprog w A R s h=>by
  obtain⟨hp,g,d,tk,os⟩:=s;obtain⟨hl,h⟩:=h;wp_walk using wbi hl
  rw[hs,if_pos rfl];exact⟨_,rfl,h⟩
def meets_new_range (r:Addr)(lo hi:Int)(t u v:Tok)(hs:(Builtin.Range.rangeFitsLong lo&&Builtin.Range.rangeFitsLong hi&&Builtin.Range.rangeFitsLong 1&&Builtin.Range.rangeFitsLong (-1)&&Builtin.Range.rangeFitsLong (lo - 1)&&Builtin.Range.rangeFitsLong (Builtin.Range.rangeSize lo hi 1))=true) :
 Meets (Builtin.«reversed.__new__» ⟨[.type "reversed",.ref r],[]⟩) (λ_ R s=>s.heap.get? r=some {cls:=.type "range",data:=.fields #[.int lo t,.int hi u,.int 1 v]}/\
  R (.ok (.ret (.ref s.heap.objs.size))) {s with heap:=s.heap.push {cls:=.type "range_iterator",data:=.fields #[rawInt (lo+(Builtin.Range.rangeSize lo hi 1 - 1)*1),rawInt (Builtin.Range.rangeSize lo hi 1),rawInt (-1)]}}):=
 .of_wp λprog w A R s h=>by
  obtain⟨hp,g,d,tk,os⟩:=s;obtain⟨hl,h⟩:=h;have hsub:=called_reversed.sub
  have hT:Shared.TypeIs ⟨hp,g,d,tk,os⟩ (.ref r) "range":=⟨_,hl,rfl⟩
  wp_walk using wbi hl
  rw[F.slot_range_reversed.lookup];refine wao ?_;show wpAny _ _ (bindSpecial (.builtin "range.__reversed__") (Value.ref r) >>= _) _ _ _
  rw[F.slot_range_reversed.bind];refine wab (wao ?_);refine wab (wcd ?_);refine wab (m:=call (.builtin "range.__reversed__") [Value.ref r]) (call_meets F.slot_range_reversed hT F.entry_range_reversed (F.args_range_reversed_1 _) (zkQ r lo hi t u v hs) ⟨hl,?_⟩);exact wao ⟨_,rfl,h⟩
end Rv
namespace L2
open PySem PySem.Spec PyProof PyProof.Rows
def Itd (hi:Int)(n:Nat):It:=⟨λi _=>i<n,λi H x H'=>H'=H/\x=.int (hi - i),λi _=>n<=i⟩
def zi1 {P:Program}{w:World}{K:W.Frag}{tg:Expr}(it:Addr)(lo:Int)(n:Nat):Turn P w K tg (Itd lo n) [it] it (λi h=>IsRangeIter h it (lo+(i:Nat)*(-1)) ((n:Int) - (i:Nat)) (-1)) where
 mem:=by simp
 obj:=λi h st b hb=>by
  have e:b=it:=by simpa using hb
  subst e;exact⟨_,st,λv z=>by
   have z':Data.fields _=Data.cell v:=z
   cases z'⟩
 keep:=λi h h' st k=>k it (by simp) _ st
 item:=by
  intro X hP hw hK hc i pins s Y H E I hf st hg;subst hP hw hK;obtain⟨f0,f1,f2,f3,f4,f5⟩:=hf it (by simp);have W:=Walks.range (prog:=X.prog) (w:=X.w) (I.ok.hd hc) it lo (-1) n
  refine W.item i s _ _ hg st λv h' tk hv st' kk=>?_
  obtain⟨t,rfl⟩:=hv;have I1:Inv X pins Y H {s with heap:=h',toks:=tk}:=I.turned (λb o hb e=>kk b o (by simpa using hb) e) f0 f1 f3 f4 f5
  refine⟨_,rfl,zhK (s:={s with heap:=h',toks:=tk}) (n:="range_iterator") st' rfl rfl (by decide) ⟨.int (lo - i),H,I1,⟨t,?_⟩,⟨rfl,rfl⟩,st',λb hb=>(hf b hb).1⟩⟩;rw[Int.mul_neg,Int.mul_one] <;> rfl
 done:=by
  intro X hP hw hK hc i pins s Y H E I hf st hg;subst hP hw hK;obtain⟨f0,f1,f2,f3,f4,f5⟩:=hf it (by simp);exact wpAny_pyNext_range_end (I.ok.hd hc) st (by have:n<=i:=hg;omega) λh' eb=>⟨rfl,I.turned (t':=s.toks) (λb o hb e=>eb b o hb e) f0 f1 f3 f4 f5⟩
 self:=λ_ _ _ _ _ st h=>wbO st h
section
variable {X:Cx}{tg:Expr}
def zeG {prog:Program}{w:World}{A:Around}{E:Value->Shared->Prop}{s:Shared}{r:Addr}{lo hi:Int}{t u v:Tok}{Q:Value->Shared->Prop}(hr:s.heap.get? r=some {cls:=.type "range",data:=.fields #[.int lo t,.int hi u,.int 1 v]})
 (h1:-(2 ^ 62)<=lo) (h2:lo<2 ^ 62) (h3:-(2 ^ 62)<=hi) (h4:hi<2 ^ 62)
 (q:Q (.ref s.heap.objs.size) {s with heap:=s.heap.push {cls:=.type "range_iterator",data:=.fields #[rawInt (lo+(Builtin.Range.rangeSize lo hi 1 - 1)*1),rawInt (Builtin.Range.rangeSize lo hi 1),rawInt (-1)]}}) :
 wpAny (model prog w) A (call (.type "reversed") [.ref r]) Q E s:=by
 refine Rv.callType_else (T':="range_iterator") (Q₁:=λv s1=>v=.ref s.heap.objs.size/\s1 = {s with heap:=s.heap.push {cls:=.type "range_iterator",data:=.fields #[rawInt (lo+(Builtin.Range.rangeSize lo hi 1 - 1)*1),rawInt (Builtin.Range.rangeSize lo hi 1),rawInt (-1)]}}) Rv.called_reversed (Rv.typeCall_reversed_1 _) (Rv.newCall_reversed_1 _) Rv.entry_reversed_new (Rv.meets_new_range r lo hi t u v ?_) Rv.sub_ri ⟨hr,rfl,rfl⟩ ?_
 .have e2:Builtin.Range.rangeSize lo hi 1=(((hi - lo).toNat:Nat):Int):=by rw[rangeSize_one];split <;> omega
  rw[e2];have f:∀k:Int,-(2 ^ 63)<=k->k<2 ^ 63->Builtin.Range.rangeFitsLong k=true:=λk a b=>by unfold Builtin.Range.rangeFitsLong;simp only[waD,decide_eq_true_eq];omega
  rw[f lo (by omega) (by omega),f hi (by omega) (by omega),f 1 (by decide) (by decide),f (-1) (by decide) (by decide),f (lo - 1) (by omega) (by omega),f _ (by omega) (by omega)];rfl
 .rintro obj s1 ⟨rfl,rfl⟩;exact⟨⟨_,wau _ rfl,rfl⟩,q⟩
def zqG (ta:TA):TI:=λY H R=>ta Y H λvs H1=>∃j:Int,vs = [.int j]/\0<=j/\j<2 ^ 62/\R (Itd (j - 1) j.toNat) H1
def zna {a:Expr}{ta:TA}{p p2 pos pos2:Pos}(hg:Gl X "range")(hm:X.mg "range"=none)(hg2:Gl X "reversed")(hm2:X.mg "reversed"=none)(ha:PA X [a] ta)(hs:starEach [a] X.env = [(false,eval a X.env)]:=by rfl)
 (hs2:starEach [.Call (.Name "range" p) [a] [] pos] X.env = [(false,eval (.Call (.Name "range" p) [a] [] pos) X.env)]:=by rfl):PI X tg (.Call (.Name "reversed" p2) [.Call (.Name "range" p) [a] [] pos] [] pos2) (zqG ta):=by
 intro pins s Y H R I h;refine waX (zcY I hg2 hm2 boot_reversed ?_ (by decide) (by decide));refine waP ?_ hs2 rfl;rw[hs2];refine Calls.spliced_cons ?_;refine Call_ (zcY I hg hm boot_range (waP (thn (ha pos pins s Y H _ I h) λus s1 ⟨vs,H1,I1,r1,q1⟩ =>?_) hs rfl));obtain⟨j,e,q1,q2,q⟩:=q1;subst e;cases r1 with
|cons r rr=>
   cases rr;obtain⟨t,rfl⟩:=r;refine call_range_1 ?_;refine Calls.spliced_nil ?_;have I2:Inv X pins Y H1 {s1 with heap:=s1.heap.push {cls:=.type "range",data:=.fields #[.int 0 s1.toks,.int j t,.int 1 (s1.toks+1)]},toks:=s1.toks+1+1}:=I1.kept (t':=s1.toks+1+1) λb o e=>wag _ e
   refine zeG (wau _ rfl) (by decide) (by decide) (by omega) q2 ?_;have e2:Builtin.Range.rangeSize 0 j 1=((j.toNat:Nat):Int):=by rw[rangeSize_one];split <;> omega
   rw[e2];generalize hg9:s1.heap.push {cls:=.type "range",data:=.fields #[.int 0 s1.toks,.int j t,.int 1 (s1.toks+1)]}=g9 at I2
   .rw[show(0:Int)+((j.toNat:Nat) - 1)*1=(j - 1)+((0:Nat):Int)*(-1) by omega,show((j.toNat:Nat):Int)=((j.toNat:Nat):Int) - ((0:Nat):Int) by omega];refine wbO (it:=g9.objs.size) (wau _ rfl) ?_;refine⟨g9.objs.size,[g9.objs.size],_,_,H1,rfl,I2.kept (t':=s1.toks+1+1) λb o e=>wag _ e,zi1 _ (j - 1) j.toNat,?_,λb hb=>?_,q⟩
    .exact wau _ rfl
    .have e:b=g9.objs.size:=by simpa using hb
     subst e;exact I2.fpOk (wal _) (I2.hok.fresh (wal _))
end
section
variable {X:Cx}
end
def clo (cells:List (Str×Addr)):List (Str×NameKind)->List (Str×Addr)->List (Str×Addr)
|[],acc=>acc
|(n,k)::r,acc=>clo cells r (if(k == NameKind.free)=true then(n,(cells.lookup n).getD 0)::acc else acc)
theorem zi2 {env:Env}:∀(names:List (Str×NameKind)) (acc:List (Str×Addr)),(∀y∈names,y.2=.free->∃c,env.cells.lookup y.1=some c)->
 (forIn names acc λ(x:Str×NameKind) (cs:List (Str×Addr))=>match x with|(name,kind)=>if(kind == NameKind.free)=true then(do let c <-cellOf env name;pure (ForInStep.yield ((name,c)::cs))) else(pure (ForInStep.yield cs):Sem _))=pure (clo env.cells names acc)
|[],acc,_=>rfl
|(n,k)::r,acc,h=>by
   rw[List.forIn_cons];have ih:=zi2 (env:=env) r
   by_cases hk:(k == NameKind.free)=true
   .obtain⟨c,hc⟩:=h (n,k) (wai ..) (by cases k <;> first|rfl|cases hk);have e1:cellOf env n=pure c:=by unfold cellOf;rw[hc]
    show(if(k == NameKind.free)=true then _ else _) >>= _=_
    rw[if_pos hk,e1];show(forIn r ((n,c)::acc) _:Sem _)=pure (clo env.cells r (if(k == NameKind.free)=true then _ else _))
    rw[if_pos hk,hc];exact ih _ λy hy=>h y (wae _ hy)
   .show(if(k == NameKind.free)=true then _ else _) >>= _=_
    rw[if_neg hk];show(forIn r acc _:Sem _)=pure (clo env.cells r (if(k == NameKind.free)=true then _ else _))
    rw[if_neg hk];exact ih _ λy hy=>h y (wae _ hy)
def zhg {env:Env}{scope:Scope}(h:∀y∈scope.names,y.2=.free->∃c,env.cells.lookup y.1=some c):closureFor scope env=pure (clo env.cells scope.names []):=by
 have e:=zi2 (env:=env) scope.names [] h
 unfold closureFor;show(forIn scope.names ([]:List (Str×Addr)) _ >>= λcs=>pure cs)=_
 have e2:(forIn scope.names ([]:List (Str×Addr)) (λ(x:Str×NameKind) (cs:List (Str×Addr))=>match x with|(name,kind)=>if(kind == NameKind.free)=true then(do let c <-cellOf env name;pure (ForInStep.yield ((name,c)::cs))) else(pure (ForInStep.yield cs):Sem _)) >>= λcs=>pure cs)=pure (clo env.cells scope.names []):=by
  rw[e];rfl
 exact e2
theorem zd3 (cells:List (Str×Addr)):∀(names:List (Str×NameKind)) (acc:List (Str×Addr)),(∀x c,acc.lookup x=some c->cells.lookup x=some c)->(∀y∈names,y.2=.free->∃c,cells.lookup y.1=some c)->
 ∀x c,(clo cells names acc).lookup x=some c->cells.lookup x=some c
|[],acc,h,_,x,c,e=>h x c e
|(n,k)::r,acc,h,hf,x,c,e=>by
   refine zd3 cells r _ (λy d e'=>?_) (λy hy=>hf y (wae _ hy)) x c e;by_cases hk:(k == NameKind.free)=true
   .rw[if_pos hk,wbe] at e';obtain⟨c',hc⟩:=hf (n,k) (wai ..) (by cases k <;> first|rfl|cases hk);cases hy:y == n with
   |true=>
      rw[hy] at e';have:y=n:=by simpa using hy
      rw[this,hc];rw[hc] at e';exact e'
   |false=>rw[hy] at e';exact h y d e'
   .rw[if_neg hk] at e';exact h y d e'
theorem zd4 (cells:List (Str×Addr)):∀(names:List (Str×NameKind)) (acc:List (Str×Addr)) (x:Str),((∃c,acc.lookup x=some c)\/(x,NameKind.free)∈names)->∃c,(clo cells names acc).lookup x=some c
|[],acc,x,h=>by
   rcases h with h|h
   .exact h
   .cases h
|(n,k)::r,acc,x,h=>by
   refine zd4 cells r _ x ?_;rcases h with⟨c,h⟩|h
   .left
    by_cases hk:(k == NameKind.free)=true
    .rw[if_pos hk,wbe];cases hy:x == n with
    |true=>exact⟨_,rfl⟩
    |false=>exact⟨c,h⟩
    .rw[if_neg hk];exact⟨c,h⟩
   .rcases wak.mp h with h|h
    .left
     cases h;rw[if_pos (by rfl),wbe,beq_self_eq_true];exact⟨_,rfl⟩
    .exact .inr h
theorem zbG {κ β:Type}[BEq κ][LawfulBEq κ]:∀{l:List (κ×β)}{x:κ}{k:β},l.lookup x=some k->(x,k)∈l
|[],x,k,h=>by cases h
|(n,k')::r,x,k,h=>by
   rw[wbe] at h;cases hx:x == n with
  |true=>
     rw[hx] at h;cases h;have:x=n:=by simpa using hx
     rw[this];exact wai ..
  |false=>rw[hx] at h;exact wae _ (zbG h)
theorem za8 {env:Env}:∀(l:List (Str×NameKind)),(∀y∈l,y.2≠.cell)->∀x k,(l.map λ(n,k)=>if(k == NameKind.free&&env.scope.kind == .function&&env.kindOf n == some .cell) then(n,NameKind.cell) else(n,k)).lookup x=some k->(k=.cell\/k=.free)->l.lookup x=some .free
|[],_,x,k,e,_=>by cases e
|(n,k0)::r,h,x,k,e,hk=>by
   rw[waL] at e;have h0:k0≠.cell:=h _ (wai ..)
   rw[wbe];cases hx:x == n with
  |true=>
     cases k0 with
    |free=>rfl
    |cell=>exact absurd rfl h0
    |_=>
       exfalso
       obtain rfl:x=n:=by simpa using hx
       rw[wbe] at e;rcases hk with rfl|rfl <;> (revert e;simp)
  |false=>
     refine za8 (env:=env) r (λy hy=>h y (wae _ hy)) x k ?_ hk;rw[wbe] at e;have:(x == (if(k0 == NameKind.free&&env.scope.kind == .function&&env.kindOf n == some .cell)=true then(n,NameKind.cell) else(n,k0)).1)=false:=by split <;> exact hx
     rw[this] at e;exact e
theorem zbo {env:Env}(hf:env.scope.kind=.function):∀(l:List (Str×NameKind)) (x:Str),l.lookup x=some .free->env.kindOf x=some .cell->(l.map λ(n,k)=>if(k == NameKind.free&&env.scope.kind == .function&&env.kindOf n == some .cell) then(n,NameKind.cell) else(n,k)).lookup x=some .cell
|[],x,e,_=>by cases e
|(n,k0)::r,x,e,hk=>by
   rw[waL];rw[wbe] at e⊢;cases hx:x == n with
  |true=>
     rw[hx] at e;cases e;have hn:x=n:=by simpa using hx
     have hk':(env.kindOf n == some NameKind.cell)=true:=by rw[<-hn,hk];rfl
     have hcond:(NameKind.free == NameKind.free&&env.scope.kind == .function&&env.kindOf n == some .cell)=true:=by
      rw[hf,hk'];rfl
     simp only[hcond,if_true,hx]
  |false=>
     rw[hx] at e;have:(x == (if(k0 == NameKind.free&&env.scope.kind == .function&&env.kindOf n == some .cell)=true then(n,NameKind.cell) else(n,k0)).1)=false:=by split <;> exact hx
     simp only[this];exact zbo hf r x e hk
def zce (N:List Str)(sc:List (Str×NameKind))(names:List (Str×NameKind))(NC:List Str)(fr:List (Option Nat)):Bool:=
 (NC.zip fr).all λp=>match p.2 with|none=>true|some j=>(N[j]? == some p.1)&&(sc.lookup p.1 == some .cell)&&(names.lookup p.1 == some .free)
def zi3 (N:List Str)(st:Stmt){X:Cx}{elt iter tg:Expr}{ifs:List Expr}{scope:Scope}{pos:Pos}{NC:List Str}(fr:List (Option Nat)){wi:TI}{g:TG}{tt:TT}{te:TE}{RR:Hp->Prop}(hRR:∀pins Y H s,Inv X pins Y H s->RR H)(hcalm:X.calm=true)(hi:PI X tg iter wi)
 (hcells:∀x,X.env.scope.names.lookup x=some .cell->∃c,X.env.cells.lookup x=some c) (hfk:X.env.scope.kind=.function) (hN:X.N=N) (hsc:X.env.scope.names=(zab st).names)
 (hfree':∀y∈scope.names,y.2=.free->(zab st).names.lookup y.1=some .cell) (hcell:∀y∈scope.names,y.2≠.cell) (hkind:scope.kind=.function) (hnames:∀y∈scope.names,y.2=.local->scope.names.lookup y.1=some .local)
 (hfr':zce N (zab st).names scope.names NC fr=true) (hlen:fr.length=NC.length)
 (hg:∀cl C s0 H0 ex pn,PG (cxC X scope cl NC C s0 H0 ex pn) tg g) (ht:∀cl C s0 H0 ex pn,PTs (cxC X scope cl NC C s0 H0 ex pn) ifs tt) (he:∀cl C s0 H0 ex pn,RR H0->PE (cxC X scope cl NC C s0 H0 ex pn) elt te)
 (hs:∀x,foldedSetIterable iter X.env x=pure x:=by intro _;rfl):PE X (.ListComp elt [⟨tg,iter,ifs,0⟩] scope pos) (zfP fr wi g tt te):=by
 have hfree:∀y∈scope.names,y.2=.free->X.env.scope.names.lookup y.1=some .cell:=by rw[hsc];exact hfree'
 have hfr:zce X.N X.env.scope.names scope.names NC fr=true:=by rw[hsc,hN];exact hfr'
 have hc:∀y∈scope.names,y.2=.free->∃c,X.env.cells.lookup y.1=some c:=λy hy h=>hcells _ (hfree y hy h)
 refine zkN (cl:=clo X.env.cells scope.names []) hRR hcalm hi (zhg hc) hcell hkind hnames (λx c e=>zd3 _ _ _ (λ_ _ z=>by cases z) hc x c e) (λx hx=>?_) (λi x j h1 h2=>?_) hlen (hg _) (ht _) (he _) hs
 .refine zd4 _ _ _ x (.inr (zbG ?_));rcases hx with e|e
  .exact za8 scope.names hcell x _ e (.inl rfl)
  .exact za8 scope.names hcell x _ e (.inr rfl)
 .have hm:(x,some j)∈NC.zip fr:=by
   have hi1:=(waa.mp h1).1
   have:(NC.zip fr)[i]?=some (x,some j):=by rw[wbs];exact⟨h1,h2⟩
   exact waC this
  have q:=waN.mp hfr _ hm
  have q':((X.N[j]? == some x)&&(X.env.scope.names.lookup x == some .cell)&&(scope.names.lookup x == some .free))=true:=q
  simp only[waD,beq_iff_eq] at q';obtain⟨⟨q1,q2⟩,q3⟩:=q';refine⟨q1,.inr (.inl q2),?_,.inl (zbo hfk scope.names x q3 q2)⟩;intro z;have z':X.env.scope.names.lookup x=some .local:=z
  rw[q2] at z';cases z'
def pvC (i:Nat){X:Cx}{scope:Scope}{cl:List (Str×Addr)}{NC:List Str}{C:Addr}{s0:Shared}{H0:Hp}{ex:List Addr}{pn:List (Addr×Obj)}{x:Str}{pos:Pos}(hi:NC[i]?=some x)(hfk:X.env.scope.kind=.function)
 (h1:scope.names.lookup x=some .free) (h2:X.env.scope.names.lookup x=some .cell) (hd:(x == ("__debug__" : Str))=false:=by decide) (hcd:(x == ("__classdict__" : Str))=false:=by decide):PE (cxC X scope cl NC C s0 H0 ex pn) (.Name x pos) (tVar i):=
 zbT (X:=cxC X scope cl NC C s0 H0 ex pn) hi (.inr (.inl (zbo hfk scope.names x h1 h2))) hd hcd
section
variable {X:Cx}{scope:Scope}{cl:List (Str×Addr)}{NC:List Str}{C:Addr}{s0:Shared}{H0:Hp}{ex:List Addr}{pn:List (Addr×Obj)}
end
def zhh (N:List Str)(st:Stmt){X:Cx}{i:Nat}{x:Str}{elt iter tg:Expr}{ifs:List Expr}{scope:Scope}{pos pos' cp:Pos}{NC:List Str}(fr:List (Option Nat)){wi:TI}{g:TG}{tt:TT}{te:TE}(hND:X.N.Nodup)(hix:X.N[i]?=some x)(hx:Loc X.env.scope x)
 {RR:Hp->Prop}(hRR:∀pins Y H s,Inv X pins Y H s->RR H) (hcalm:X.calm=true) (hi:PI X tg iter wi)
 (hcells:∀x,X.env.scope.names.lookup x=some .cell->∃c,X.env.cells.lookup x=some c) (hfk:X.env.scope.kind=.function) (hN:X.N=N) (hsc:X.env.scope.names=(zab st).names)
 (hfree':∀y∈scope.names,y.2=.free->(zab st).names.lookup y.1=some .cell) (hcell:∀y∈scope.names,y.2≠.cell) (hkind:scope.kind=.function) (hnames:∀y∈scope.names,y.2=.local->scope.names.lookup y.1=some .local)
 (hfr':zce N (zab st).names scope.names NC fr=true) (hlen:fr.length=NC.length)
 (hg:∀cl C s0 H0 ex pn,PG (cxC X scope cl NC C s0 H0 ex pn) tg g) (ht:∀cl C s0 H0 ex pn,PTs (cxC X scope cl NC C s0 H0 ex pn) ifs tt) (he:∀cl C s0 H0 ex pn,RR H0->PE (cxC X scope cl NC C s0 H0 ex pn) elt te)
 (hs:∀x,foldedSetIterable iter X.env x=pure x:=by intro _;rfl) (hsw:swapsWith (.ListComp elt [⟨tg,iter,ifs,0⟩] scope cp) (some (.Name x pos')) pos.line X.env=pure true:=by rfl)
 (hf:X.fn x=true\/X.env.scope.names.lookup x=some .local:=by first|exact .inl rfl|exact .inr rfl|assumption) :
 PS X (.Assign [.Name x pos'] (.ListComp elt [⟨tg,iter,ifs,0⟩] scope cp) pos) (tAsg (zfP fr wi g tt te) (zdL i)):=by
 intro pins s Y H D I h;rw[exec_Assign_Name_used _ _ _ _ hsw];refine wab (wbk ?_);rw[arm_evalThenUse_ListComp];have hfree:∀y∈scope.names,y.2=.free->X.env.scope.names.lookup y.1=some .cell:=by rw[hsc];exact hfree'
 have hfr:zce X.N X.env.scope.names scope.names NC fr=true:=by rw[hsc,hN];exact hfr'
 have hc:∀y∈scope.names,y.2=.free->∃c,X.env.cells.lookup y.1=some c:=λy hy h=>hcells _ (hfree y hy h)
 refine wab (wab (zhb (cl:=clo X.env.cells scope.names []) (Q:=λx H1=>zdL i x Y H1 D.nx) (R:=λ_ s'=>wpAny (model X.prog X.w) X.A (pure ()) (λ_ s₁=>wpAny (model X.prog X.w) X.A (pure Flow.next) (SP X pins D) X.xe s₁) X.xe s') hRR hcalm hi (zhg hc) hcell hkind hnames (λx c e=>zd3 _ _ _ (λ_ _ z=>by cases z) hc x c e) (λx hx=>?_) (λi x j h1 h2=>?_) hlen (hg _) (ht _) (he _) hs I h ?_))
 .refine zd4 _ _ _ x (.inr (zbG ?_));rcases hx with e|e
  .exact za8 scope.names hcell x _ e (.inl rfl)
  .exact za8 scope.names hcell x _ e (.inr rfl)
 .have hm:(x,some j)∈NC.zip fr:=by
   have:(NC.zip fr)[i]?=some (x,some j):=by rw[wbs];exact⟨h1,h2⟩
   exact waC this
  have q:=waN.mp hfr _ hm
  have q':((X.N[j]? == some x)&&(X.env.scope.names.lookup x == some .cell)&&(scope.names.lookup x == some .free))=true:=q
  simp only[waD,beq_iff_eq] at q';obtain⟨⟨q1,q2⟩,q3⟩:=q';refine⟨q1,.inr (.inl q2),?_,.inl (zbo hfk scope.names x q3 q2)⟩;intro z;have z':X.env.scope.names.lookup x=some .local:=z
  rw[q2] at z';cases z'
 .intro C Da H' s' m I' hns hfp q;show wpAny _ _ (assign (.Name x pos') X.env (.ref Da)) _ _ _
  refine wpAny_assign_Name (zdX I' hND hix hx (show RelV (.ref Da) (.ref Da) from rfl) (λs2 I2 hsb=>?_) hf);obtain⟨f0,f1,f2,f3,f4,f5⟩:=hfp;obtain⟨a,hsb,ha⟩:=hsb;have hCa:C≠a:=by
   rcases ha with rfl|ha
   .exact f1
   .exact λz=>f4 x a ha z.symm
  obtain⟨o,es,ep,ho,r⟩:=hns;refine⟨m,⟨o,es,ep,hsb.extBut C o hCa ho,r⟩,λh' hs'=>?_⟩;refine wao (wao ⟨_,H',?_,q⟩);exact I2.turned (t':=s2.toks) (λb o hb e=>hs'.extBut b o hb e) f0 f1 f3 f4 f5
def znb (N:List Str)(st:Stmt){X:Cx}{i:Nat}{x:Str}{elt iter tg:Expr}{ifs:List Expr}{scope:Scope}{pos pos' cp:Pos}{NC:List Str}(fr:List (Option Nat)){wi:TI}{g:TG}{tt:TT}{te:TE}(hND:X.N.Nodup)(hix:X.N[i]?=some x)(hx:Loc X.env.scope x)
 (hcalm:X.calm=true) (hi:PI X tg iter wi)
 (hcells:∀x,X.env.scope.names.lookup x=some .cell->∃c,X.env.cells.lookup x=some c) (hfk:X.env.scope.kind=.function) (hN:X.N=N) (hsc:X.env.scope.names=(zab st).names)
 (hfree':∀y∈scope.names,y.2=.free->(zab st).names.lookup y.1=some .cell) (hcell:∀y∈scope.names,y.2≠.cell) (hkind:scope.kind=.function) (hnames:∀y∈scope.names,y.2=.local->scope.names.lookup y.1=some .local)
 (hfr':zce N (zab st).names scope.names NC fr=true) (hlen:fr.length=NC.length)
 (hg:∀cl C s0 H0 ex pn,PG (cxC X scope cl NC C s0 H0 ex pn) tg g) (ht:∀cl C s0 H0 ex pn,PTs (cxC X scope cl NC C s0 H0 ex pn) ifs tt) (he:∀cl C s0 H0 ex pn,PE (cxC X scope cl NC C s0 H0 ex pn) elt te)
 (hs:∀x,foldedSetIterable iter X.env x=pure x:=by intro _;rfl) (hsw:swapsWith (.ListComp elt [⟨tg,iter,ifs,0⟩] scope cp) (some (.Name x pos')) pos.line X.env=pure true:=by rfl)
 (hf:X.fn x=true\/X.env.scope.names.lookup x=some .local:=by first|exact .inl rfl|exact .inr rfl|assumption) :
 PS X (.Assign [.Name x pos'] (.ListComp elt [⟨tg,iter,ifs,0⟩] scope cp) pos) (tAsg (zfP fr wi g tt te) (zdL i)):=
 zhh (RR:=λ_=>True) N st fr hND hix hx (λ_ _ _ _ _=>trivial) hcalm hi hcells hfk hN hsc hfree' hcell hkind hnames hfr' hlen hg ht (λcl C s0 H0 ex pn _=>he cl C s0 H0 ex pn) hs hsw hf
end L2
namespace Mn
open PySem PySem.Spec PyProof PyProof.Rows
open Sem (wp)
section
variable {prog:Program}{w:World}{A:Around}{R:Result->Shared->Prop}{I:Addr}{fp wr:List Addr}{n:Nat}{P:Nat->Value->Prop}{St:Nat->Heap->Prop}
end
section
variable {prog:Program}{w:World}{A:Around}{E:Value->Shared->Prop}{s:Shared}
end
section
open PySem.SeqAt
open PySem.AutoSeq1 (wpAny_loadPart')
open PySem.MeetsSeq PySem.MeetsSeq2 PySem.MeetsSeq3
end
end Mn
namespace L2
open PySem PySem.Spec PyProof PyProof.Rows
section
variable {X:Cx}
end
abbrev elD (P:Program)(w:World)(A:Around)(kx vx:Expr):ElR:=λenv D Q s=>wpAny (model P w) A (eval kx env) (λkv s4=>wpAny (model P w) A (eval vx env) (λvv s5=>wpAny (model P w) A (dictSet D kv vv) (λ_ s6=>Q s6) (λ_ _=>False) s5) (λ_ _=>False) s4) (λ_ _=>False) s
def zhU {P:Program}{w:World}{A:Around}{kx vx tg iter:Expr}{ifs:List Expr}{scope:Scope}{pos:Pos}:zoT P w A (.DictComp kx vx [⟨tg,iter,ifs,0⟩] scope pos) tg ifs (elD P w A kx vx):=by
 intro R s it D env I turn n h;refine codeAny_loop rfl I (λn s hI=>?_) n h;refine wpAny_noted (m:=compTurn (.DictComp kx vx [⟨tg,iter,ifs,0⟩] scope pos) 0 it (.ref D) env) ?_;rw[compTurn_dict];refine wab (wbk (wab (waA (turn n s hI) (λr s1 h1=>?_) λ_ _ f=>f.elim)));cases r with
|none=>exact wao (h1.1 rfl)
|some v=>
   refine wab (waA (h1.2 v rfl) (λ_ s2 h2=>?_) λ_ _ f=>f.elim);refine wab (waA h2 (λ_ s3 h3=>?_) λ_ _ f=>f.elim);refine wab (waA h3 (λok s4 h4=>?_) λ_ _ f=>f.elim);cases ok with
  |false=>exact wao ⟨rfl,h4.2 rfl⟩
  |true=>exact wab (wab (waA (h4.1 rfl) (λkv s5 h5=>wab (wby (waA h5 (λvv s6 h6=>wab (wbk (wby (waA h6 (λ_ s7 h7=>wao ⟨rfl,h7⟩) λ_ _ f=>f.elim)))) λ_ _ f=>f.elim))) λ_ _ f=>f.elim))
def telD (tk tv:TE)(D:Addr)(ys:List (Key×V))(Y:St)(H:Hp)(Q:List (Key×V)->Hp->Prop):Prop:=tk Y H λvk H6=>tv Y H6 λv H7=>∃k,vk=kV k/\H7 D=some (.dK ys)/\ys.length<sizeLine/\Q (putK ys k v) (upd H7 D (.dK (putK ys k v)))
def zi4 (fr:List (Option Nat))(wi:TI)(g:TG)(tt:TT)(tk tv:TE):TE:=tGen HO.dK [] fr wi g tt (telD tk tv)
section
variable {X:Cx}{kx vx iter tg:Expr}{ifs:List Expr}{scope:Scope}{pos:Pos}{NC:List Str}{wi:TI}{g:TG}{tt:TT}{tk tv:TE}
def zi5 (N:List Str)(st:Stmt)(fr:List (Option Nat))(hcalm:X.calm=true)(hi:PI X tg iter wi)
 (hcells:∀x,X.env.scope.names.lookup x=some .cell->∃c,X.env.cells.lookup x=some c) (hfk:X.env.scope.kind=.function) (hN:X.N=N) (hsc:X.env.scope.names=(zab st).names)
 (hfree':∀y∈scope.names,y.2=.free->(zab st).names.lookup y.1=some .cell) (hcell:∀y∈scope.names,y.2≠.cell) (hkind:scope.kind=.function) (hnames:∀y∈scope.names,y.2=.local->scope.names.lookup y.1=some .local)
 (hfr':zce N (zab st).names scope.names NC fr=true) (hlen:fr.length=NC.length)
 (hg:∀cl C s0 H0 ex pn,PG (cxC X scope cl NC C s0 H0 ex pn) tg g) (ht:∀cl C s0 H0 ex pn,PTs (cxC X scope cl NC C s0 H0 ex pn) ifs tt) (hk:∀cl C s0 H0 ex pn,PE (cxC X scope cl NC C s0 H0 ex pn) kx tk) (hv:∀cl C s0 H0 ex pn,PE (cxC X scope cl NC C s0 H0 ex pn) vx tv)
 (hs:∀x,foldedSetIterable iter X.env x=pure x) {pins:List (Addr×Obj)}{s:Shared}{Y:St}{H:Hp}{Q:VK}{cpos:Pos}{use:Option (Value->Sem Unit)}{R:Value->Shared->Prop}(I:Inv X pins Y H s) (h:zi4 fr wi g tt tk tv Y H Q)
 (hfin:∀(C D:Addr) (H':Hp) (s':Shared) (m:Str->Option Value),Inv X pins Y H' s'->s'.heap.Ns C m->FpOk X pins H' C->Q (.ref D) H'->compPost (model X.prog X.w) X.A X.xe use R (.ref D) C (.ok .next) s') :
 wpAny (model X.prog X.w) X.A (comprehension (.DictComp kx vx [⟨tg,iter,ifs,0⟩] scope pos) scope X.env cpos newDict false (eval iter X.env) use) R X.xe s:=by
 have hfree:∀y∈scope.names,y.2=.free->X.env.scope.names.lookup y.1=some .cell:=by rw[hsc];exact hfree'
 have hfr:zce X.N X.env.scope.names scope.names NC fr=true:=by rw[hsc,hN];exact hfr'
 have hc:∀y∈scope.names,y.2=.free->∃c,X.env.cells.lookup y.1=some c:=λy hy h=>hcells _ (hfree y hy h)
 refine zha (Tn:="dict") (dt:=.dict #[]) (ac:=HO.dK) (t0:=[]) (tel:=telD tk tv) (EL:=elD X.prog X.w X.A kx vx) (cl:=clo X.env.cells scope.names []) (fr:=fr) (NC:=NC) (RR:=λ_=>True)
  (λ_ _ _ _ _=>trivial) hcalm hi (zhg hc) hcell hkind hnames (λx c e=>zd3 _ _ _ (λ_ _ z=>by cases z) hc x c e) (λx hx=>?_) (λi x j h1 h2=>?_) hlen (hg _) (ht _) rfl (by size_fits) (λI=>zkP _ I.big) zhU (λa b=>codeAny_compStart_dict (rest:=[]) a b) (λC s0 H0 ex pn rH pins D ys s Y H Po F J q k=>?_) hs I h hfin
 .refine zd4 _ _ _ x (.inr (zbG ?_));rcases hx with e|e
  .exact za8 scope.names hcell x _ e (.inl rfl)
  .exact za8 scope.names hcell x _ e (.inr rfl)
 .have hm:(x,some j)∈NC.zip fr:=by
   have:(NC.zip fr)[i]?=some (x,some j):=by rw[wbs];exact⟨h1,h2⟩
   exact waC this
  have q:=waN.mp hfr _ hm
  have q':((X.N[j]? == some x)&&(X.env.scope.names.lookup x == some .cell)&&(scope.names.lookup x == some .free))=true:=q
  simp only[waD,beq_iff_eq] at q';obtain⟨⟨q1,q2⟩,q3⟩:=q';refine⟨q1,.inr (.inl q2),?_,.inl (zbo hfk scope.names x q3 q2)⟩;intro z;have z':X.env.scope.names.lookup x=some .local:=z
  rw[q2] at z';cases z'
 .refine thn (hk _ C _ _ _ _ _ s Y H _ J q) λkv s4 ⟨vk,H6,J6,r6,q6⟩ =>?_
  refine thn (hv _ C _ _ _ _ _ s4 Y H6 _ J6 q6) λvv s5 ⟨v,H7,J7,r7,kk,ek,hD,hz,n7⟩ =>?_
  subst ek;obtain⟨z,hd,vs,rel,dd⟩:=zqE J7.hok hD;have hz':vs.length<=sizeLine:=by rw[<-rel.length];exact z
  have hl:(putK ys kk v).length<=sizeLine:=by have:=zgz ys kk v;omega
  refine wpAny_dictSet_pairs (hsz:=hz') (zhT r6) dd λh' dd' hs=>?_
  have he:∃q,h'.get? D=some q:=let ⟨q,_,_,hq,_⟩:=dd';⟨q,hq⟩
  exact k _ _ _ (zm7 J7 (by rw[hD];exact True.intro) hs he (zoX hl hd (rel.put kk r7) dd')) zah n7
def zkR {i:Nat}{x:Str}{pos' cp:Pos}(hND:X.N.Nodup)(hix:X.N[i]?=some x)(hx:Loc X.env.scope x)(N:List Str)(st:Stmt)(fr:List (Option Nat))(hcalm:X.calm=true)(hi:PI X tg iter wi)
 (hcells:∀x,X.env.scope.names.lookup x=some .cell->∃c,X.env.cells.lookup x=some c) (hfk:X.env.scope.kind=.function) (hN:X.N=N) (hsc:X.env.scope.names=(zab st).names)
 (hfree':∀y∈scope.names,y.2=.free->(zab st).names.lookup y.1=some .cell) (hcell:∀y∈scope.names,y.2≠.cell) (hkind:scope.kind=.function) (hnames:∀y∈scope.names,y.2=.local->scope.names.lookup y.1=some .local)
 (hfr':zce N (zab st).names scope.names NC fr=true) (hlen:fr.length=NC.length)
 (hg:∀cl C s0 H0 ex pn,PG (cxC X scope cl NC C s0 H0 ex pn) tg g) (ht:∀cl C s0 H0 ex pn,PTs (cxC X scope cl NC C s0 H0 ex pn) ifs tt) (hk:∀cl C s0 H0 ex pn,PE (cxC X scope cl NC C s0 H0 ex pn) kx tk) (hv:∀cl C s0 H0 ex pn,PE (cxC X scope cl NC C s0 H0 ex pn) vx tv)
 (hs:∀x,foldedSetIterable iter X.env x=pure x:=by intro _;rfl) (hsw:swapsWith (.DictComp kx vx [⟨tg,iter,ifs,0⟩] scope cp) (some (.Name x pos')) pos.line X.env=pure true:=by rfl)
 (hf:X.fn x=true\/X.env.scope.names.lookup x=some .local:=by first|exact .inl rfl|exact .inr rfl|assumption):PS X (.Assign [.Name x pos'] (.DictComp kx vx [⟨tg,iter,ifs,0⟩] scope cp) pos) (tAsg (zi4 fr wi g tt tk tv) (zdL i)):=by
 intro pins s Y H D I h;rw[exec_Assign_Name_used _ _ _ _ hsw];refine wab (wbk ?_);rw[arm_evalThenUse_DictComp];refine wab (wab (zi5 N st fr hcalm hi hcells hfk hN hsc hfree' hcell hkind hnames hfr' hlen hg ht hk hv hs (Q:=λx H1=>zdL i x Y H1 D.nx) (R:=λ_ s'=>wpAny (model X.prog X.w) X.A (pure ()) (λ_ s₁=>wpAny (model X.prog X.w) X.A (pure Flow.next) (SP X pins D) X.xe s₁) X.xe s') I h ?_));intro C Da H' s' m I' hns hfp q;show wpAny _ _ (assign (.Name x pos') X.env (.ref Da)) _ _ _
 refine wpAny_assign_Name (zdX I' hND hix hx (show RelV (.ref Da) (.ref Da) from rfl) (λs2 I2 hsb=>?_) hf);obtain⟨f0,f1,f2,f3,f4,f5⟩:=hfp;obtain⟨a,hsb,ha⟩:=hsb;have hCa:C≠a:=by
  rcases ha with rfl|ha
  .exact f1
  .exact λz=>f4 x a ha z.symm
 obtain⟨o,es,ep,ho,r⟩:=hns;refine⟨m,⟨o,es,ep,hsb.extBut C o hCa ho,r⟩,λh' hs'=>wao (wao ⟨_,H',?_,q⟩)⟩;exact I2.turned (t':=s2.toks) (λb o hb e=>hs'.extBut b o hb e) f0 f1 f3 f4 f5
end
end L2
namespace HT
open PySem PySem.Spec PyProof PyProof.Rows L2
section
variable {prog:Program}{w:World}{A:Around}{E:Value->Shared->Prop}{s:Shared}
def getItem_whole {t sl:Addr}{items:Array Value}{vl vu:Value}{lo hi:Option Int}{Q:Value->Shared->Prop}(ht:IsTup s.heap t items)(hs:s.heap.IsSliceOf sl vl vu .none)(pl:IsPart vl lo)(pu:IsPart vu hi)(h0:sIx items.size 0 lo=0)(h1:sIx items.size items.size hi=items.size)(h:Q (.ref t) s)(hsz:items.size<=sizeLine):wpAny (model prog w) A (getItem (.ref t) (.ref sl)) Q E s:=by
 obtain⟨os,hos,hcs,hds⟩:=id hs;have hTs:s.TypeIs (.ref sl) "slice":=⟨os,hos,hcs⟩
 unfold getItem;try with_reducible refine wby ?_
 try refine wab (wao ?_)
 refine wab (wpAny_sequenceKey ht.typeIs (by decide) ?_);refine wab (wbA (name:=Str.ofString "__getitem__") ht.typeIs wbh (wbY wbh ht.typeIs entry_tuple_getitem ?_ (args_tuple_getitem _ _)));show wpAny _ _ (Builtin.Tuple.tupleItemsOf (.ref t) >>= _) _ _ s
 refine wab (tupleItemsOf_ ht (wab (wpAny_typeOf hTs ?_)));rw[if_pos (by decide)];refine wab (zcw hs pl pu ?_);have hy:(((sIx items.size 0 lo:Nat):Int) == 0&&(1:Int) == 1&&(sIx items.size items.size hi - sIx items.size 0 lo) == items.size)=true:=by rw[h0,h1];simp
 show wpAny _ _ (if(((sIx items.size 0 lo:Nat):Int) == 0&&(1:Int) == 1&&(sIx items.size items.size hi - sIx items.size 0 lo) == items.size)=true then _ else _) _ _ s
 rw[if_pos hy];refine wab (waA (Q:=λb s'=>b=true/\s'=s) ?_ (λb s1 hb=>?_) λ_ _ z=>z)
 .unfold Builtin.Tuple.tupleIsExact;exact wab (wpAny_typeOf ht.typeIs (wao ⟨by decide,rfl⟩))
 .obtain⟨rfl,rfl⟩:=hb;rw[if_pos rfl];exact wab (wcd (wao ⟨_,rfl,wao h⟩))
end
end HT
namespace L2
open PySem PySem.Spec PyProof PyProof.Rows
def rSlW (K:W.Frag):V->Option Int->Option Int->Hp->VK->Prop:=λx lo hi H Q=>∃a xs,x=.ref a/\SqT K H a xs/\HT.sIx xs.length 0 lo=0/\HT.sIx xs.length xs.length hi=xs.length/\Q x H
def zkS {X:Cx}:SlR X (rSlW X.K):=by
 intro pins s Y H x v vl vu lo hi sl Q I rx hs pl pu h;obtain⟨a,xs,rfl,hx,h0,h1,q⟩:=h;cases rx;obtain⟨its,r,ht,hz⟩:=I.tuple hx;have hlen:its.toArray.size=xs.length:=by rw[wac];exact r.length.symm
 exact⟨"tuple",_,PyProof.Rows.slot_tuple_getitem.lookup,ht.typeIs,HT.getItem_whole ht hs pl pu (by rw[hlen];exact h0) (by rw[hlen];exact h1) ⟨.ref a,H,I,rfl,q⟩ (by rw[hlen];exact hz)⟩
end L2
namespace En
open PySem PySem.Spec PyProof PyProof.Rows
def draws_endL {prog:Program}{w:World}{A:Around}(hh:A.handled=none)(it t:Addr)(i:Nat)(items:Array Value)(hx:items[i]?=none) :
 Draws prog w A it [it,t] i (λi v=>items[i]?=some v) (λj h=>j=i/\h.IsListIter it t i/\h.IsList t items) where
 live:=λ_ _ st=>let ⟨o,ho,_⟩:=st.2.1;⟨o,ho⟩
 frame:=λ_ _ _ ⟨hj,⟨o,e,r⟩,⟨o',e',r'⟩⟩ hk=>⟨hj,⟨o,hk it (by simp) o e,r⟩,⟨o',hk t (by simp) o' e',r'⟩⟩
 item:=λj s Q E hi st hQ=>by rw[st.1] at hi;exact absurd hi (waT _)
 done:=λs Q E st hE=>wpAny_nextOf_list_end hh st.2.1 st.2.2 hx hE
end En
namespace L2
open PySem PySem.Spec PyProof PyProof.Rows
def IteL (K:W.Frag)(a:Addr):It:=
 ⟨λi H=>∃xs x,SqL K H a xs/\xs[i]?=some x,λi H x H'=>∃p,H p=none/\x=.ref p/\∀xs,SqL K H a xs->∃y,xs[i]?=some y/\H'=upd H p (.tup [.int (i:Nat),y]),λi H=>∃xs,SqL K H a xs/\xs.length<=i⟩
def zhV {P:Program}{w:World}{K:W.Frag}{elts:List Expr}{x1}{tpos:Pos}(a e it:Addr)(hei:e≠it)(hae:a≠e)(hai:a≠it) :
 Turn P w K (.Tuple elts x1 tpos) (IteL K a) [e,it] e (λi h=>(∃old,IsEnum h e it (i:Nat) old)/\h.IsListIter it a i) where
 mem:=by simp
 obj:=λi h st b hb=>by
  obtain⟨⟨old,e1⟩,o,e2,c,d⟩:=st;rcases wak.mp hb with z|z
  .subst z;exact⟨_,e1,λv z=>by cases z⟩
  .have z:=waf.mp z
   subst z;exact⟨o,e2,λv z=>by rw[d] at z;cases z⟩
 keep:=λi h h' st k=>by
  obtain⟨⟨old,e1⟩,o,e2,c,d⟩:=st;exact⟨⟨old,k e (by simp) _ e1⟩,o,k it (by simp) _ e2,c,d⟩
 item:=by
  intro X hP hw hK hc i pins s Y H E I hf st hg;subst hP hw hK;obtain⟨⟨old,en⟩,ti⟩:=st;obtain⟨xs,x,hq,hx⟩:=hg;obtain⟨its,rv,p,hz⟩:=I.list hq;obtain⟨u,hu,ru⟩:=rv.get hx;have hl:=rv.length
  have hlt:i<its.toArray.size:=by
   rw[wac,<-hl];exact(waa.mp hx).1
  have hh:X.A.in1.handled=none:=I.ok.hd hc
  refine wpAny_pyNext_enum_itemD (Draws.list (A:=X.A.in1) hh it a hai its.toArray) en ⟨ti,p.isList⟩ hlt hei (by simp[hei,Ne.symm hae]) λy h' tk hy en' st' tup sz k=>?_
  have ey:y=u:=by
   have hy':its[i]?=some y:=by simpa using hy
   rw[hu] at hy';exact(waw hy').symm
  subst ey;refine⟨_,rfl,wpAny_letOwnedTupleGo_enum en' λh2 en2 sb2=>?_⟩;have frS:s.heap.get? s.heap.objs.size=none:=by
   cases q:s.heap.get? s.heap.objs.size with
  |none=>rfl
  |some o=>exact absurd (was q) (waT _)
  have neS:∀b∈[e,it],b≠s.heap.objs.size:=λb hb z=>by
   rcases wak.mp hb with q|q
   .have en1:=(show s.heap.get? e=some _ from en)
    rw[<-z,q,en1] at frS;cases frS
   .obtain⟨o,e2,_⟩:=ti;rw[<-z,waf.mp q,e2] at frS;cases frS
  obtain⟨hn,I1⟩:=I.laidF (h':=h2) (t':=tk+1) (fp:=[e,it]) (D:=s.heap.objs.size) (o:=.tup [.int (i:Nat),x]) hf (λb o hb q=>sb2.extBut b o (λz=>hb (by simp[z])) (k b o (λz=>hb (by simp[z])) (λz=>hb (by simp[z])) q))
   (λb hb=>by
    rcases wak.mp hb with q|q
    .subst q;exact⟨_,en2⟩
    .have q:=waf.mp q
     subst q;obtain⟨o,e2,_⟩:=st'.1;exact⟨o,sb2.extBut _ o (Ne.symm hei) e2⟩) frS
   ⟨by show 2<=sizeLine;decide,[.int (i:Nat) tk,y],.cons ⟨_,rfl⟩ (.cons ru .nil),⟨_,sb2.extBut _ _ (neS e (by simp)).symm tup,rfl,_,rfl⟩⟩
  refine⟨.ref s.heap.objs.size,_,I1,rfl,⟨_,hn,rfl,λys hy=>⟨x,by rw[I.list_inj hy hq];exact hx,rfl⟩⟩,⟨⟨_,en2⟩,?_⟩,λb hb=>?_⟩
  .obtain⟨o,e2,c,d⟩:=st'.1;exact⟨o,sb2.extBut _ o (Ne.symm hei) e2,c,d⟩
  .rw[zak (neS b hb)];exact(hf b hb).1
 done:=by
  intro X hP hw hK hc i pins s Y H E I hf st hg;subst hP hw hK;obtain⟨⟨old,en⟩,ti⟩:=st;obtain⟨xs,hq,hx⟩:=hg;obtain⟨its,rv,p,hz⟩:=I.list hq;obtain⟨f0,f1,f2,f3,f4,f5⟩:=hf it (by simp);have hl:=rv.length
  have hh:X.A.in1.handled=none:=I.ok.hd hc
  refine wpAny_pyNext_enum_endD (En.draws_endL (A:=X.A.in1) hh it a i its.toArray (by simp;omega)) en ⟨rfl,ti,p.isList⟩ λh' eb=>⟨rfl,I.turned (t':=s.toks) (λb o hb e=>eb b o hb e) f0 f1 f3 f4 f5⟩
 self:=λ_ _ _ _ _ st h=>by
  obtain⟨⟨old,en⟩,_⟩:=st;exact wbS en h
def zo0 (K:W.Frag)(ta:TA):TI:=λY H R=>ta Y H λvs H1=>∃a,vs = [.ref a]/\(∃xs,SqL K H1 a xs)/\R (IteL K a) H1
def zkT {X:Cx}{elts:List Expr}{x1}{tpos:Pos}{l:Expr}{ta:TA}{p pos:Pos}(hg:Gl X "enumerate")(hm:X.mg "enumerate"=none)(ha:PA X [l] ta)(hs:starEach [l] X.env = [(false,eval l X.env)]:=by rfl) :
 PI X (.Tuple elts x1 tpos) (.Call (.Name "enumerate" p) [l] [] pos) (zo0 X.K ta):=by
 intro pins s Y H R I h;refine waX (zcY I hg hm boot_enumerate ?_ (by decide) (by decide));refine waP (thn (ha pos pins s Y H _ I h) λus s1 ⟨vs,H1,I1,rv,q1⟩ =>?_) hs rfl;obtain⟨a,e,⟨xs,hq⟩,q⟩:=q1;subst e;obtain⟨u,rfl,r1⟩:=zfC rv;obtain rfl:u=Value.ref a:=r1;obtain⟨its,rv,pt,hz⟩:=I1.list hq;refine call_enumerate_list pt.isList λh' en ti sz k=>?_
 have alt:a<s1.heap.objs.size:=let ⟨o,n,e,_⟩:=pt;was e
 refine wbS en ⟨s1.heap.objs.size+1,[s1.heap.objs.size+1,s1.heap.objs.size],_,_,H1,rfl,I1.kept (t':=s1.toks) k,zhV a _ _ (Nat.succ_ne_self _) (waB (Nat.lt_succ_of_lt alt)) (waB alt),⟨⟨_,en⟩,ti⟩,λb hb=>?_,q⟩;rcases wak.mp hb with z|z
 .subst z;exact I1.fpOk (wcn _) (I1.hok.fresh (wcn _))
 .have z:=waf.mp z
  subst z;exact I1.fpOk (wal _) (I1.hok.fresh (wal _))
end L2
namespace VD
open PySem PySem.Spec PyProof PyProof.Rows L2
inductive D where
|non|bl (b:Bool)|int (i:Int)|str (x:Str)|tup (ds:List D)|lst (ds:List D)|dct (ks:List Key) (ds:List D)|dcu (ks:List (List Key)) (ds:List D)|scr (p:Addr)|exc (c:Str) (ns:List Str) (ds:List D)
mutual
def D.beq:D->D->Bool
|.non,.non=>true
|.bl a,.bl b=>a == b
|.int a,.int b=>a == b
|.str a,.str b=>a == b
|.tup a,.tup b=>D.beqL a b
|.lst a,.lst b=>D.beqL a b
|.dct ks a,.dct ls b=>decide (ks=ls)&&D.beqL a b
|.dcu ks a,.dcu ls b=>decide (ks=ls)&&D.beqL a b
|.scr a,.scr b=>a == b
|.exc c ns a,.exc c' ms b=>c == c'&&decide (ns=ms)&&D.beqL a b
|_,_=>false
def D.beqL:List D->List D->Bool
|[],[]=>true
|a::as,b::bs=>D.beq a b&&D.beqL as bs
|_,_=>false
end
mutual
theorem D.beq_iff:∀(a b:D),D.beq a b=true↔a=b
|.non,b=>by cases b <;> simp[D.beq]
|.bl _,b=>by cases b <;> simp[D.beq]
|.int _,b=>by cases b <;> simp[D.beq]
|.str _,b=>by cases b <;> simp[D.beq]
|.tup xs,b=>by cases b <;> simp[D.beq,D.beqL_iff xs]
|.lst xs,b=>by cases b <;> simp[D.beq,D.beqL_iff xs]
|.dct ks xs,b=>by cases b <;> simp[D.beq,D.beqL_iff xs]
|.dcu ks xs,b=>by cases b <;> simp[D.beq,D.beqL_iff xs]
|.scr _,b=>by cases b <;> simp[D.beq]
|.exc c ns xs,b=>by cases b <;> simp[D.beq,D.beqL_iff xs,and_assoc]
theorem D.beqL_iff:∀(a b:List D),D.beqL a b=true↔a=b
|[],b=>by cases b <;> simp[D.beqL]
|x::xs,b=>by
   cases b with
  |nil=>simp[D.beqL]
  |cons y ys=>simp[D.beqL,D.beq_iff x y,D.beqL_iff xs ys]
end
instance:DecidableEq D:=λa b=>decidable_of_iff _ (D.beq_iff a b)
instance:Inhabited D:=⟨.non⟩
def Exh (K:W.Frag)(H:Hp)(J:Addr->Prop)(a:Addr)(c:Str)(ns:List Str)(vs:List V):Prop:=
 J a/\∃oa C,W.nsIn K mainGlobals c=some (some (.ref C))/\H a=some (.frz oa (.ext λ_=>True))/\oa.cls=.ref C/\PySem.W.notCls oa=true/\
   ((ns = []/\vs = []/\oa.dict=none)\/∃d od,oa.dict=some d/\J d/\H d=some (.frz od (.xd (ns.zip vs)))/\ns.length=vs.length)
mutual
inductive Rp (K:W.Frag)(H:Hp)(J:Addr->Prop):V->D->Prop
|non:Rp K H J .non .non
|bl (b:Bool):Rp K H J (.bl b) (.bl b)
|int (i:Int):Rp K H J (.int i) (.int i)
|str (x:Str):Rp K H J (.str x) (.str x)
|scr (p:Addr):Rp K H J (.ref p) (.scr p)
|tup {p:Addr}{vs:List V}{ds:List D}(h:SqT K H p vs) (r:RpL K H J vs ds):Rp K H J (.ref p) (.tup ds)
|lst {p:Addr}{vs:List V}{ds:List D}(h:H p=some (.lst vs)) (j:J p) (r:RpL K H J vs ds):Rp K H J (.ref p) (.lst ds)
|dct {p:Addr}{kvs:List (Key×V)}{vs:List V}{ks:List Key}{ds:List D}(h:H p=some (.dK kvs)) (j:J p) (ek:kvs.map (·.1)=ks) (ev:kvs.map (·.2)=vs) (r:RpL K H J vs ds):Rp K H J (.ref p) (.dct ks ds)
|dcu {p:Addr}{kvs:List (List Key×V)}{vs:List V}{ks:List (List Key)}{ds:List D}(h:H p=some (.dT kvs)) (j:J p) (ek:kvs.map (·.1)=ks) (ev:kvs.map (·.2)=vs) (r:RpL K H J vs ds):Rp K H J (.ref p) (.dcu ks ds)
|exc {p:Addr}{c:Str}{ns:List Str}{vs:List V}{ds:List D}(h:Exh K H J p c ns vs) (r:RpL K H J vs ds):Rp K H J (.ref p) (.exc c ns ds)
inductive RpL (K:W.Frag)(H:Hp)(J:Addr->Prop):List V->List D->Prop
|nil:RpL K H J [] []
|cons {v:V}{d:D}{vs:List V}{ds:List D}(h:Rp K H J v d) (t:RpL K H J vs ds):RpL K H J (v::vs) (d::ds)
end
structure Keep (K:W.Frag)(H:Hp)(J:Addr->Prop)(H':Hp)(J':Addr->Prop):Prop where
 jj:∀a,J a->J' a
 jo:∀p o,J p->H p=some o->H' p=some o
 tp:∀p vs,SqT K H p vs->SqT K H' p vs
section
variable {K:W.Frag}{H H' H1 H2 Hz:Hp}{J J' J1 J2 Jz:Addr->Prop}
def Keep.refl:Keep K H J H J:=⟨λ_ h=>h,λ_ _ _ h=>h,λ_ _ h=>h⟩
def Keep.trans (a:Keep K H J H1 J1)(b:Keep K H1 J1 H2 J2):Keep K H J H2 J2:=⟨λp h=>b.jj p (a.jj p h),λp o j h=>b.jo p o (a.jj p j) (a.jo p o j h),λp vs h=>b.tp p vs (a.tp p vs h)⟩
def Exh.keep {a:Addr}{c:Str}{ns:List Str}{vs:List V}(k:Keep K H J H' J')(h:Exh K H J a c ns vs):Exh K H' J' a c ns vs:=by
 obtain⟨j,oa,C,h1,h2,h3,h4,h5⟩:=h;refine⟨k.jj _ j,oa,C,h1,k.jo _ _ j h2,h3,h4,h5.imp (λh=>h) λ⟨d,od,h6,h7,h8,h9⟩ =>⟨d,od,h6,k.jj _ h7,k.jo _ _ h7 h8,h9⟩⟩
mutual
theorem Rp.keep {v:V}{d:D}(k:Keep K H J H' J'):Rp K H J v d->Rp K H' J' v d
|.non=>.non
|.bl b=>.bl b
|.int i=>.int i
|.str x=>.str x
|.scr p=>.scr p
|.tup h r=>.tup (k.tp _ _ h) (RpL.keep k r)
|.lst h j r=>.lst (k.jo _ _ j h) (k.jj _ j) (RpL.keep k r)
|.dct h j ek ev r=>.dct (k.jo _ _ j h) (k.jj _ j) ek ev (RpL.keep k r)
|.dcu h j ek ev r=>.dcu (k.jo _ _ j h) (k.jj _ j) ek ev (RpL.keep k r)
|.exc h r=>.exc (h.keep k) (RpL.keep k r)
theorem RpL.keep {vs:List V}{ds:List D}(k:Keep K H J H' J'):RpL K H J vs ds->RpL K H' J' vs ds
|.nil=>.nil
|.cons h t=>.cons (Rp.keep k h) (RpL.keep k t)
end
def zkU (h:Same H H')(p:Addr)(vs:List V):SqT K H p vs->SqT K H' p vs:=by
 rintro((h1|⟨o,h1⟩)|h1)
 .exact .inl (.inl (h _ _ h1))
 .exact .inl (.inr ⟨o,h _ _ h1⟩)
 .exact .inr h1
structure Up (H:Hp)(J:Addr->Prop)(H':Hp)(J':Addr->Prop):Prop where
 same:Same H H'
 jj:∀a,J a->J' a
 jn:∀a,J' a->J a\/H a=none
 ja:∀a,J' a->H' a≠none
def Up.keep (u:Up H J H' J'):Keep K H J H' J':=⟨u.jj,λp o _ h=>u.same p o h,zkU u.same⟩
theorem Up.refl (ja:∀a,J a->H a≠none):Up H J H J:=⟨Same.refl H,λ_ h=>h,λ_ h=>.inl h,ja⟩
theorem Up.trans (a:Up H J H1 J1)(b:Up H1 J1 H2 J2):Up H J H2 J2:=⟨a.same.trans b.same,λp h=>b.jj p (a.jj p h),λp h=>by
 rcases b.jn p h with h|h
 .exact a.jn p h
 .exact .inr (a.same.free h),b.ja⟩
def Up.new {p:Addr}(ja:∀a,J a->H a≠none)(hp:H p=none)(o:HO):Up H J (upd H p o) J:=
 ⟨zhc hp o,λ_ h=>h,λ_ h=>.inl h,λa h=>by
  by_cases e:a=p
  .subst e;rw[zah];simp
  .rw[zak e];exact ja a h⟩
def Up.newJ {p:Addr}(ja:∀a,J a->H a≠none)(hp:H p=none)(o:HO):Up H J (upd H p o) (λa=>J a\/a=p):=
 ⟨zhc hp o,λ_ h=>.inl h,λa h=>by rcases h with h|h;exact .inl h;subst h;exact .inr hp,λa h=>by
  by_cases e:a=p
  .subst e;rw[zah];simp
  .rw[zak e];rcases h with h|h;exact ja a h;exact absurd h e⟩
theorem RpL.length:∀{vs:List V}{ds:List D},RpL K H J vs ds->vs.length=ds.length
|_,_,.nil=>rfl
|_,_,.cons _ t=>by simp[RpL.length t]
theorem RpL.get:∀{vs:List V}{ds:List D}{i:Nat}{d:D},RpL K H J vs ds->ds[i]?=some d->∃v,vs[i]?=some v/\Rp K H J v d
|_,_,_,_,.nil,e=>by simp at e
|_,_,0,_,.cons h _,e=>by simp at e;subst e;exact⟨_,rfl,h⟩
|_,_,i+1,d,.cons _ t,e=>by
   obtain⟨v,h1,h2⟩:=RpL.get (i:=i) (d:=d) t (by simpa using e);exact⟨v,by simpa using h1,h2⟩
theorem RpL.append:∀{vs us:List V}{ds es:List D},RpL K H J vs ds->RpL K H J us es->RpL K H J (vs++us) (ds++es)
|_,_,_,_,.nil,s=>s
|_,_,_,_,.cons h t,s=>.cons h (RpL.append t s)
theorem RpL.take:∀{vs:List V}{ds:List D}(n:Nat),RpL K H J vs ds->RpL K H J (vs.take n) (ds.take n)
|_,_,0,_=>.nil
|_,_,_+1,.nil=>.nil
|_,_,n+1,.cons h t=>.cons h (RpL.take n t)
theorem RpL.drop:∀{vs:List V}{ds:List D}(n:Nat),RpL K H J vs ds->RpL K H J (vs.drop n) (ds.drop n)
|_,_,0,h=>h
|_,_,_+1,.nil=>.nil
|_,_,n+1,.cons _ t=>RpL.drop n t
theorem RpL.reverse:∀{vs:List V}{ds:List D},RpL K H J vs ds->RpL K H J vs.reverse ds.reverse
|_,_,.nil=>.nil
|_,_,.cons h t=>by
   rw[wbH,wbH];exact(RpL.reverse t).append (.cons h .nil)
theorem RpL.set:∀{vs:List V}{ds:List D}(i:Nat) {v:V}{d:D},RpL K H J vs ds->Rp K H J v d->RpL K H J (vs.set i v) (ds.set i d)
|_,_,_,_,_,.nil,_=>.nil
|_,_,0,_,_,.cons _ t,h=>.cons h t
|_,_,i+1,_,_,.cons q t,h=>.cons q (RpL.set i t h)
theorem RpL.at {vs:List V}{ds:List D}{i:Int}{d:D}(r:RpL K H J vs ds)(h:atI ds i=some d):∃v,atI vs i=some v/\Rp K H J v d:=by
 unfold atI at h⊢;rw[r.length];cases e:ixN ds.length i with
|none=>rw[e] at h;cases h
|some j=>rw[e] at h;exact r.get h
end
mutual
inductive RpU (K:W.Frag)(H:Hp)(J:Addr->Prop):Nat->V->D->List Addr->Prop
|frz {v:V}{d:D}(h:Rp K H J v d):RpU K H J 0 v d []
|lst {n:Nat}{a:Addr}{vs:List V}{ds:List D}{A:List Addr}(h:H a=some (.lst vs)) (r:RpUL K H J n vs ds A):RpU K H J (n+1) (.ref a) (.lst ds) (a::A)
|dct {n:Nat}{a:Addr}{kvs:List (Key×V)}{vs:List V}{ks:List Key}{ds:List D}{A:List Addr}(h:H a=some (.dK kvs)) (ek:kvs.map (·.1)=ks) (ev:kvs.map (·.2)=vs) (r:RpUL K H J n vs ds A):RpU K H J (n+1) (.ref a) (.dct ks ds) (a::A)
|dcu {n:Nat}{a:Addr}{kvs:List (List Key×V)}{vs:List V}{ks:List (List Key)}{ds:List D}{A:List Addr}(h:H a=some (.dT kvs)) (ek:kvs.map (·.1)=ks) (ev:kvs.map (·.2)=vs) (r:RpUL K H J n vs ds A):RpU K H J (n+1) (.ref a) (.dcu ks ds) (a::A)
inductive RpUL (K:W.Frag)(H:Hp)(J:Addr->Prop):Nat->List V->List D->List Addr->Prop
|nil {n:Nat}:RpUL K H J n [] [] []
|cons {n:Nat}{v:V}{d:D}{vs:List V}{ds:List D}{A B:List Addr}(h:RpU K H J n v d A) (t:RpUL K H J n vs ds B):RpUL K H J n (v::vs) (d::ds) (A++B)
end
def MutO:HO->Prop
|.lst _=>True
|.dK _=>True
|.dT _=>True
|_=>False
section
variable {K:W.Frag}{H H' H1 H2 Hz:Hp}{J J' J1 J2 Jz:Addr->Prop}
mutual
theorem RpU.keep {n:Nat}{v:V}{d:D}{A:List Addr}(k:Keep K H J H' J')(hA:∀b∈A,∀o,H b=some o->H' b=some o):RpU K H J n v d A->RpU K H' J' n v d A
|.frz h=>.frz (h.keep k)
|.lst h r=>.lst (hA _ wai _ h) (RpUL.keep k (λb hb=>hA b (wae _ hb)) r)
|.dct h ek ev r=>.dct (hA _ wai _ h) ek ev (RpUL.keep k (λb hb=>hA b (wae _ hb)) r)
|.dcu h ek ev r=>.dcu (hA _ wai _ h) ek ev (RpUL.keep k (λb hb=>hA b (wae _ hb)) r)
theorem RpUL.keep {n:Nat}{vs:List V}{ds:List D}{A:List Addr}(k:Keep K H J H' J')(hA:∀b∈A,∀o,H b=some o->H' b=some o):RpUL K H J n vs ds A->RpUL K H' J' n vs ds A
|.nil=>.nil
|.cons h t=>.cons (RpU.keep k (λb hb=>hA b (wbd _ hb)) h) (RpUL.keep k (λb hb=>hA b (wat _ hb)) t)
end
mutual
theorem RpU.some {n:Nat}{v:V}{d:D}{A:List Addr}:RpU K H J n v d A->∀b∈A,∃o,H b=Option.some o/\MutO o
|.frz _=>λb hb=>absurd hb (by simp)
|.lst h r=>λb hb=>by
   rcases wak.mp hb with rfl|hb
   .exact⟨_,h,trivial⟩
   .exact RpUL.some r b hb
|.dct h _ _ r=>λb hb=>by
   rcases wak.mp hb with rfl|hb
   .exact⟨_,h,trivial⟩
   .exact RpUL.some r b hb
|.dcu h _ _ r=>λb hb=>by
   rcases wak.mp hb with rfl|hb
   .exact⟨_,h,trivial⟩
   .exact RpUL.some r b hb
theorem RpUL.some {n:Nat}{vs:List V}{ds:List D}{A:List Addr}:RpUL K H J n vs ds A->∀b∈A,∃o,H b=Option.some o/\MutO o
|.nil=>λb hb=>absurd hb (by simp)
|.cons h t=>λb hb=>by
   rcases wax.mp hb with hb|hb
   .exact RpU.some h b hb
   .exact RpUL.some t b hb
end
mutual
theorem RpU.rp {n:Nat}{v:V}{d:D}{A:List Addr}(j:∀a,J a->J' a)(hA:∀b∈A,J' b):RpU K H J n v d A->Rp K H J' v d
|.frz h=>h.keep ⟨j,λ_ _ _ h=>h,λ_ _ h=>h⟩
|.lst h r=>.lst h (hA _ wai) (RpUL.rp j (λb hb=>hA b (wae _ hb)) r)
|.dct h ek ev r=>.dct h (hA _ wai) ek ev (RpUL.rp j (λb hb=>hA b (wae _ hb)) r)
|.dcu h ek ev r=>.dcu h (hA _ wai) ek ev (RpUL.rp j (λb hb=>hA b (wae _ hb)) r)
theorem RpUL.rp {n:Nat}{vs:List V}{ds:List D}{A:List Addr}(j:∀a,J a->J' a)(hA:∀b∈A,J' b):RpUL K H J n vs ds A->RpL K H J' vs ds
|.nil=>.nil
|.cons h t=>.cons (RpU.rp j (λb hb=>hA b (wbd _ hb)) h) (RpUL.rp j (λb hb=>hA b (wat _ hb)) t)
end
theorem RpUL.zero:∀{vs:List V}{ds:List D}{A:List Addr},RpUL K H J 0 vs ds A->RpL K H J vs ds/\A = []
|_,_,_,.nil=>⟨.nil,rfl⟩
|_,_,_,.cons (.frz h) t=>by
   obtain⟨r,e⟩:=RpUL.zero t;subst e;exact⟨.cons h r,rfl⟩
theorem RpUL.of:∀{vs:List V}{ds:List D},RpL K H J vs ds->RpUL K H J 0 vs ds []
|_,_,.nil=>.nil
|_,_,.cons h t=>.cons (A:=[]) (B:=[]) (.frz h) (RpUL.of t)
def RpU.one {v:V}{ds:List D}{A:List Addr}(h:RpU K H J 1 v (.lst ds) A):∃a vs,v=.ref a/\A = [a]/\H a=Option.some (.lst vs)/\RpL K H J vs ds:=by
 cases h with
|lst h r=>obtain⟨r',rfl⟩:=r.zero;exact⟨_,_,rfl,rfl,h,r'⟩
def RpU.oneD {v:V}{ks:List Key}{ds:List D}{A:List Addr}(h:RpU K H J 1 v (.dct ks ds) A):∃a kvs vs,v=.ref a/\A = [a]/\H a=Option.some (.dK kvs)/\kvs.map (·.1)=ks/\kvs.map (·.2)=vs/\RpL K H J vs ds:=by
 cases h with
|dct h e1 e2 r=>obtain⟨r',rfl⟩:=r.zero;exact⟨_,_,_,rfl,rfl,h,e1,e2,r'⟩
theorem RpUL.length {n:Nat}:∀{vs:List V}{ds:List D}{A:List Addr},RpUL K H J n vs ds A->vs.length=ds.length
|_,_,_,.nil=>rfl
|_,_,_,.cons _ t=>by simp[RpUL.length t]
theorem RpUL.append {n:Nat}:∀{vs us:List V}{ds es:List D}{A B:List Addr},RpUL K H J n vs ds A->RpUL K H J n us es B->RpUL K H J n (vs++us) (ds++es) (A++B)
|_,_,_,_,_,_,.nil,s=>s
|_,_,_,_,_,_,.cons h t,s=>by rw[waR];exact .cons h (RpUL.append t s)
theorem RpUL.split {n:Nat}:∀{vs:List V}{ds:List D}{A:List Addr}(i:Nat) {d:D},RpUL K H J n vs ds A->ds[i]?=Option.some d->∃v A1 A2 A3,vs[i]?=Option.some v/\A=A1++(A2++A3)/\RpU K H J n v d A2/\
 ∀(H':Hp) (J':Addr->Prop) (u:V) (e:D) (B:List Addr),Keep K H J H' J'->(∀b∈A1++A3,∀o,H b=Option.some o->H' b=Option.some o)->RpU K H' J' n u e B->RpUL K H' J' n (vs.set i u) (ds.set i e) (A1++(B++A3))
|_,_,_,_,_,.nil,e=>by simp at e
|_,_,_,0,_,.cons (A:=A) (B:=B) h t,e=>by
   simp at e;subst e;exact⟨_,[],A,B,rfl,rfl,h,λH' J' u e C k hk r=>RpUL.cons (A:=C) (B:=B) r (t.keep k (λb hb=>hk b (by simpa using hb)))⟩
|_,_,_,i+1,d,.cons (A:=A) (B:=B) h t,e=>by
   obtain⟨v,A1,A2,A3,hv,rfl,hr,up⟩:=RpUL.split i t (by simpa using e);refine⟨v,A++A1,A2,A3,by simpa using hv,by simp,hr,λH' J' u e C k hk r=>?_⟩;rw[waR];exact .cons (h.keep k (λb hb=>hk b (by simp[hb]))) (up H' J' u e C k (λb hb=>hk b (by simp at hb⊢;rcases hb with hb|hb <;> simp[hb])) r)
def RpW (K:W.Frag)(H:Hp)(J:Addr->Prop)(v:V)(d:D):Prop:=Rp K H J v d\/∃A,RpU K H J 1 v d A
theorem RpW.lst {v:V}{ds:List D}(h:RpW K H J v (.lst ds)):∃p vs,v=.ref p/\H p=some (.lst vs)/\RpL K H J vs ds:=by
 rcases h with h|⟨A,h⟩
 .cases h with|lst h j r=>exact⟨_,_,rfl,h,r⟩
 .obtain⟨a,vs,rfl,_,h,r⟩:=h.one;exact⟨a,vs,rfl,h,r⟩
theorem RpW.tup {v:V}{ds:List D}(h:RpW K H J v (.tup ds)):∃p vs,v=.ref p/\SqT K H p vs/\RpL K H J vs ds:=by
 rcases h with h|⟨A,h⟩
 .cases h with|tup h r=>exact⟨_,_,rfl,h,r⟩
 .cases h
theorem RpW.dct {v:V}{ks:List Key}{ds:List D}(h:RpW K H J v (.dct ks ds)):∃p kvs vs,v=.ref p/\H p=some (.dK kvs)/\kvs.map (·.1)=ks/\kvs.map (·.2)=vs/\RpL K H J vs ds:=by
 rcases h with h|⟨A,h⟩
 .cases h with|dct h j e1 e2 r=>exact⟨_,_,_,rfl,h,e1,e2,r⟩
 .obtain⟨a,kvs,vs,rfl,_,h,e1,e2,r⟩:=h.oneD;exact⟨a,kvs,vs,rfl,h,e1,e2,r⟩
theorem RpW.int {v:V}{i:Int}(h:RpW K H J v (.int i)):v=.int i:=by
 rcases h with h|⟨A,h⟩ <;> cases h
 rfl
theorem RpW.str {v:V}{i:Str}(h:RpW K H J v (.str i)):v=.str i:=by
 rcases h with h|⟨A,h⟩ <;> cases h
 rfl
theorem RpW.bl {v:V}{i:Bool}(h:RpW K H J v (.bl i)):v=.bl i:=by
 rcases h with h|⟨A,h⟩ <;> cases h
 rfl
theorem RpW.non {v:V}(h:RpW K H J v .non):v=.non:=by
 rcases h with h|⟨A,h⟩ <;> cases h
 rfl
end
inductive SV where
|un|val (d:D)|own (n:Nat) (d:D)|par (n:Nat) (d:D)
abbrev En:=List SV
structure Pr where
 ps:List (Nat×Addr×Nat)
 fpo:Nat->List Addr
def Pr.no:Pr:=⟨[],λ_=>[]⟩
def Pr.has (O:Pr)(b:Addr):Prop:=∃i,b∈O.fpo i
def OwAt (K:W.Frag)(Hz H:Hp)(J:Addr->Prop)(O:List Addr)(x:Option (Option V))(A:List Addr):Option SV->Prop
|some (.own n d)=>(∃v,x=some (some v)/\RpU K H J n v d A)/\∀b∈A,Hz b=none
|some (.par n d)=>(∃v,x=some (some v)/\RpU K H J n v d A)/\∀b∈A,Hz b=none\/b∈O
|_=>A = []
structure Ow (K:W.Frag)(Hz:Hp)(O:Pr)(Z:En)(Y:L2.St)(H:Hp)(J:Addr->Prop)(fp:Nat->List Addr):Prop where
 at':∀i,OwAt K Hz H J (O.fpo i) (Y[i]?) (fp i) (Z[i]?)
 nd:∀i,(fp i).Nodup
 nj:∀i,∀b∈fp i,¬J b
 dj:∀i j,i≠j->∀b∈fp i,b∉fp j
structure ST (K:W.Frag)(Hz:Hp)(Jz:Addr->Prop)(O:Pr)(Z:En)(Y:L2.St)(H:Hp)(J:Addr->Prop):Prop where
 same:∀b o,¬O.has b->Hz b=some o->H b=some o
 j0:∀a,Jz a->J a
 jn:∀a,J a->Jz a\/Hz a=none
 ja:∀a,J a->H a≠none
 len:Y.length=Z.length
 vl:∀(i:Nat) (d:D),Z[i]?=some (.val d)->∃v,Y[i]?=some (some v)/\Rp K H J v d
 ow:∃fp,Ow K Hz O Z Y H J fp
 ps:∀q∈O.ps,Y[q.1]?=some (some (.ref q.2.1))/\∃d,Z[q.1]?=some (.par q.2.2 d)
 al:∀b,Hz b≠none->H b≠none
section
variable {K:W.Frag}{H H' H1 H2 Hz:Hp}{J J' J1 J2 Jz:Addr->Prop}{Z:En}{Y:L2.St}{O:Pr}
def OwAt.ru {B:List Addr}{x:Option (Option V)}{A:List Addr}{s:Option SV}(h:OwAt K Hz H J B x A s):∀b∈A,∃o,H b=some o/\MutO o:=by
 match s,h with
|some (.own n d),⟨⟨v,_,r⟩,_⟩ =>exact r.some
|some (.par n d),⟨⟨v,_,r⟩,_⟩ =>exact r.some
|none,h=>cases h;simp
|some .un,h=>cases h;simp
|some (.val _),h=>cases h;simp
theorem OwAt.keep {B:List Addr}{x:Option (Option V)}{A:List Addr}{s:Option SV}(k:Keep K H J H' J')(hA:∀b∈A,∀o,H b=some o->H' b=some o)(h:OwAt K Hz H J B x A s):OwAt K Hz H' J' B x A s:=by
 match s,h with
|some (.own n d),⟨⟨v,e,r⟩,q⟩ =>exact⟨⟨v,e,r.keep k hA⟩,q⟩
|some (.par n d),⟨⟨v,e,r⟩,q⟩ =>exact⟨⟨v,e,r.keep k hA⟩,q⟩
|none,h=>exact h
|some .un,h=>exact h
|some (.val _),h=>exact h
def ST.up (s:ST K Hz Jz O Z Y H J)(u:Up H J H' J'):ST K Hz Jz O Z Y H' J' where
 same:=λb o hb h=>u.same b o (s.same b o hb h)
 j0:=λa h=>u.jj a (s.j0 a h)
 jn:=λa h=>by
  rcases u.jn a h with h|h
  .exact s.jn a h
  .right
   cases e:Hz a with
  |none=>rfl
  |some o=>
     exact absurd h (s.al a (by rw[e];simp))
 ja:=u.ja
 len:=s.len
 vl:=λi d h=>let ⟨v,e,r⟩:=s.vl i d h;⟨v,e,r.keep u.keep⟩
 ow:=by
  obtain⟨fp,w⟩:=s.ow;refine⟨fp,λi=>(w.at' i).keep u.keep λb _=>u.same b,w.nd,λi b hb j=>?_,w.dj⟩;rcases u.jn b j with j|j
  .exact w.nj i b hb j
  .obtain⟨o,e,_⟩:=(w.at' i).ru b hb;rw[e] at j;cases j
 ps:=s.ps
 al:=λb h=>by
  cases e:H b with
 |none=>exact absurd e (s.al b h)
 |some o=>rw[u.same b o e];simp
def zdu {α:Type}{l:List α}{i j:Nat}{x y:α}(h:(l.set i x)[j]?=some y):(j=i/\y=x)\/(j≠i/\l[j]?=some y):=by
 by_cases e:j=i
 .subst e;by_cases hl:j<l.length
  .rw[wam hl] at h;exact .inl ⟨rfl,(waw h).symm⟩
  .rw[waG (by simp;omega)] at h;cases h
 .rw[wah (Ne.symm e)] at h;exact .inr ⟨e,h⟩
def zfR (fp:Nat->List Addr)(i:Nat)(A:List Addr):Nat->List Addr:=λj=>if j=i then A else fp j
def zaB {fp:Nat->List Addr}{i:Nat}{A:List Addr}:zfR fp i A i=A:=if_pos rfl
def zbc {fp:Nat->List Addr}{i j:Nat}{A:List Addr}(h:j≠i):zfR fp i A j=fp j:=if_neg h
def Ow.put {fp:Nat->List Addr}{Z':En}{Y':L2.St}{i:Nat}{A:List Addr}(w:Ow K Hz O Z Y H J fp)(k:Keep K H J H' J')(hs:∀j,j≠i->∀b∈fp j,∀o,H b=some o->H' b=some o)
 (hj:∀j,j≠i->∀b∈fp j,¬J' b) (hρ:∀j,j≠i->Z'[j]?=Z[j]?) (hσ:∀j,j≠i->Y'[j]?=Y[j]?) (hi:OwAt K Hz H' J' (O.fpo i) (Y'[i]?) A (Z'[i]?)) (nd:A.Nodup) (nj:∀b∈A,¬J' b) (dj:∀j,j≠i->∀b∈A,b∉fp j) :
 Ow K Hz O Z' Y' H' J' (zfR fp i A) where
 at':=λj=>by
  by_cases e:j=i
  .subst e;rw[zaB];exact hi
  .rw[zbc e,hρ j e,hσ j e];exact(w.at' j).keep k (hs j e)
 nd:=λj=>by
  by_cases e:j=i
  .subst e;rw[zaB];exact nd
  .rw[zbc e];exact w.nd j
 nj:=λj b hb=>by
  by_cases e:j=i
  .subst e;rw[zaB] at hb;exact nj b hb
  .rw[zbc e] at hb;exact hj j e b hb
 dj:=λj l ne b hb=>by
  by_cases e:j=i
  .subst e;rw[zaB] at hb;rw[zbc (Ne.symm ne)];exact dj l (Ne.symm ne) b hb
  .rw[zbc e] at hb;by_cases e2:l=i
   .subst e2;rw[zaB];exact λhb2=>dj j e b hb2 hb
   .rw[zbc e2];exact w.dj j l ne b hb
def ST.psNe {i:Nat}(s:ST K Hz Jz O Z Y H J)(hp:∀n d,Z[i]?≠some (.par n d)):∀q∈O.ps,q.1≠i:=λq hq e=>by
 obtain⟨_,d,h⟩:=s.ps q hq;exact hp _ d (e▸h)
theorem ST.set {i:Nat}{v:V}{d:D}(s:ST K Hz Jz O Z Y H J)(r:Rp K H J v d)(hi:i<Z.length)(hp:∀n d,Z[i]?≠some (.par n d)):ST K Hz Jz O (Z.set i (.val d)) (Y.set i (some v)) H J where
 same:=s.same
 j0:=s.j0
 jn:=s.jn
 ja:=s.ja
 len:=by simp[s.len]
 vl:=λj e h=>by
  rcases zdu h with⟨rfl,he⟩|⟨ne,h⟩
  .cases he;exact⟨v,wam (by rw[s.len];exact hi),r⟩
  .rw[wah (Ne.symm ne)];exact s.vl j e h
 ow:=by
  obtain⟨fp,w⟩:=s.ow;refine⟨_,w.put (i:=i) (A:=[]) Keep.refl (λ_ _ _ _ _ h=>h) (λj _=>w.nj j) (λj e=>wah (Ne.symm e)) (λj e=>wah (Ne.symm e)) ?_ waZ (by simp) (by simp)⟩;rw[wam hi];rfl
 ps:=λq hq=>by
  have e:=s.psNe hp q hq
  rw[wah (Ne.symm e),wah (Ne.symm e)];exact s.ps q hq
 al:=s.al
def ST.drop {i:Nat}(s:ST K Hz Jz O Z Y H J)(hp:∀n d,Z[i]?≠some (.par n d)):ST K Hz Jz O (Z.set i .un) Y H J where
 same:=s.same
 j0:=s.j0
 jn:=s.jn
 ja:=s.ja
 len:=by simp[s.len]
 vl:=λj e h=>by
  rcases zdu h with⟨rfl,he⟩|⟨ne,h⟩
  .cases he
  .exact s.vl j e h
 ow:=by
  obtain⟨fp,w⟩:=s.ow;refine⟨_,w.put (i:=i) (A:=[]) Keep.refl (λ_ _ _ _ _ h=>h) (λj _=>w.nj j) (λj e=>wah (Ne.symm e)) (λ_ _=>rfl) ?_ waZ (by simp) (by simp)⟩;by_cases hi:i<Z.length
  .rw[wam hi];rfl
  .have z:(List.set Z i SV.un)[i]?=none:=waG (by simp;omega)
   rw[z];rfl
 ps:=λq hq=>by
  have e:=s.psNe hp q hq
  rw[wah (Ne.symm e)];exact s.ps q hq
 al:=s.al
def ST.setOwn {i n:Nat}{v:V}{d:D}{A:List Addr}(s:ST K Hz Jz O Z Y H1 J1)(u:Up H1 J1 H J)(fr:∀b∈A,H1 b=none)(r:RpU K H J n v d A)(nd:A.Nodup)(nj:∀b∈A,¬J b)(hi:i<Z.length)(hp:∀n d,Z[i]?≠some (.par n d)) :
 ST K Hz Jz O (Z.set i (.own n d)) (Y.set i (some v)) H J:=by
 have s':=s.up u
 refine⟨s'.same,s'.j0,s'.jn,s'.ja,by simp[s.len],λj e h=>?_,?_,λq hq=>?_,s'.al⟩
 .rcases zdu h with⟨rfl,he⟩|⟨ne,h⟩
  .cases he
  .rw[wah (Ne.symm ne)];exact s'.vl j e h
 .obtain⟨fp,w⟩:=s.ow;have h0:∀b∈A,Hz b=none:=λb hb=>by
   cases e:Hz b with
  |none=>rfl
  |some o=>exact absurd (fr b hb) (s.al b (by rw[e];simp))
  refine⟨_,w.put (i:=i) (A:=A) u.keep (λj _ b _ o=>u.same b o) (λj _ b hb jb=>?_) (λj e=>wah (Ne.symm e)) (λj e=>wah (Ne.symm e)) ?_ nd nj (λj _ b hb hb2=>?_)⟩
  .rcases u.jn b jb with jb|jb
   .exact w.nj j b hb jb
   .obtain⟨o,e,_⟩:=(w.at' j).ru b hb;rw[e] at jb;cases jb
  .rw[wam hi,wam (by rw[s.len];exact hi)];exact⟨⟨v,rfl,r⟩,h0⟩
  .obtain⟨o,e,_⟩:=(w.at' j).ru b hb2;rw[fr b hb] at e;cases e
 .have e:=s.psNe hp q hq
  rw[wah (Ne.symm e),wah (Ne.symm e)];exact s.ps q hq
def ownD:Option SV->Option (Nat×D)
|some (.own n d)=>some (n,d)
|some (.par n d)=>some (n,d)
|_=>none
def putD (s:Option SV)(d:D):SV:=match s with
|some (.own n _)=>.own n d
|some (.par n _)=>.par n d
|_=>.un
def zkV {A:List Addr}(hm:∀b∈A,∃o,H b=some o/\MutO o)(nj:∀b∈A,¬J b)(hs:∀b o,b∉A->H b=some o->H' b=some o)(jj:∀a,J a->J' a):Keep K H J H' J':=⟨jj,λp o j h=>hs p o (λhp=>nj p hp j) h,λp vs h=>by
 rcases h with(h|⟨u,h⟩)|h
 .exact .inl (.inl (hs p _ (λhp=>by obtain⟨o,e,m⟩:=hm p hp;rw[h] at e;cases e;exact m) h))
 .exact .inl (.inr ⟨u,hs p _ (λhp=>by obtain⟨o,e,m⟩:=hm p hp;rw[h] at e;cases e;exact m) h⟩)
 .exact .inr h⟩
def ST.chg {i n:Nat}{d:D}(s:ST K Hz Jz O Z Y H J)(h0:ownD (Z[i]?)=some (n,d)):∃v A,Y[i]?=some (some v)/\RpU K H J n v d A/\A.Nodup/\(∀b∈A,¬J b)/\
 ∀(H':Hp) (J':Addr->Prop) (d':D) (A':List Addr),(∀b o,b∉A->H b=some o->H' b=some o)->(∀b,H b≠none->H' b≠none)->(∀a,J a->J' a)->(∀a,J' a->J a\/H a=none)->(∀a,J' a->H' a≠none)->
  RpU K H' J' n v d' A'->A'.Nodup->(∀b∈A',¬J' b)->(∀b∈A',b∈A\/H b=none)->ST K Hz Jz O (Z.set i (putD (Z[i]?) d')) Y H' J'/\Keep K H J H' J':=by
 obtain⟨fp,w⟩:=s.ow;have hat:=w.at' i
 have hi:i<Z.length:=by
  by_cases hi:i<Z.length
  .exact hi
  .rw[waG (by omega)] at h0;cases h0
 have main:(∃v,Y[i]?=some (some v)/\RpU K H J n v d (fp i))/\(∀b∈fp i,Hz b=none\/b∈O.fpo i):=by
  match hq:Z[i]?,h0,hat with
 |some (.own m e),h0,hat=>cases h0;exact⟨hat.1,λb hb=>.inl (hat.2 b hb)⟩
 |some (.par m e),h0,hat=>cases h0;exact hat
 obtain⟨⟨v,hv,r⟩,hfr⟩:=main;refine⟨v,fp i,hv,r,w.nd i,w.nj i,λH' J' d' A' hs ha jj jn ja r' nd nj hA=>?_⟩;have kp:Keep K H J H' J':=zkV (λb hb=>hat.ru b hb) (w.nj i) hs jj
 have out:∀j,j≠i->∀b∈fp j,b∉fp i:=λj e b hb hb2=>w.dj j i e b hb hb2
 have free:∀b,H b=none->Hz b=none:=λb hb=>by
  cases e:Hz b with
 |none=>rfl
 |some o=>exact absurd hb (s.al b (by rw[e];simp))
 refine⟨⟨λb o hb h=>hs b o (λhb2=>?_) (s.same b o hb h),λa h=>jj a (s.j0 a h),λa h=>?_,ja,by simp[s.len],λj e h=>?_,?_,λq hq=>?_,λb h=>ha b (s.al b h)⟩,kp⟩
 .rcases hfr b hb2 with h2|h2
  .rw[h2] at h;cases h
  .exact hb ⟨i,h2⟩
 .rcases jn a h with h|h
  .exact s.jn a h
  .exact .inr (free a h)
 .rcases zdu h with⟨rfl,he⟩|⟨ne,h⟩
  .exfalso
   unfold putD at he;match hq:Z[j]?,h0 with
  |some (.own m e),h0=>rw[hq] at he;cases he
  |some (.par m e),h0=>rw[hq] at he;cases he
  .obtain⟨v,e1,r1⟩:=s.vl j e h;exact⟨v,e1,r1.keep kp⟩
 .refine⟨_,w.put (i:=i) (A:=A') kp (λj e b hb o ho=>hs b o (out j e b hb) ho) (λj e b hb jb=>?_) (λj e=>wah (Ne.symm e)) (λ_ _=>rfl) ?_ nd nj (λj e b hb hb2=>?_)⟩
  .rcases jn b jb with jb|jb
   .exact w.nj j b hb jb
   .obtain⟨o,e,_⟩:=(w.at' j).ru b hb;rw[e] at jb;cases jb
  .rw[wam hi];match hq:Z[i]?,h0,hat with
  |some (.own m e),h0,hat=>
     cases h0;refine⟨⟨v,hv,r'⟩,λb hb=>?_⟩;rcases hA b hb with hb|hb
     .exact hat.2 b hb
     .exact free b hb
  |some (.par m e),h0,hat=>
     cases h0;refine⟨⟨v,hv,r'⟩,λb hb=>?_⟩;rcases hA b hb with hb|hb
     .exact hat.2 b hb
     .exact .inl (free b hb)
  .rcases hA b hb with hb|hb
   .exact w.dj j i e b hb2 hb
   .obtain⟨o,e,_⟩:=(w.at' j).ru b hb2;rw[hb] at e;cases e
 .obtain⟨e1,e,h⟩:=s.ps q hq;refine⟨e1,?_⟩;by_cases e:q.1=i
  .rw[e,wam hi];rw[e] at h;exact⟨d',by rw[h];rfl⟩
  .rw[wah (Ne.symm e)];exact⟨_,h⟩
def ST.frz {i n:Nat}{d:D}(s:ST K Hz Jz O Z Y H J)(h0:Z[i]?=some (.own n d)):∃J',ST K Hz Jz O (Z.set i (.val d)) Y H J'/\Keep K H J H J':=by
 obtain⟨fp,w⟩:=s.ow;have hat:=w.at' i
 rw[h0] at hat
 obtain⟨⟨v,hv,r⟩,hn⟩:=hat
 have hi:i<Z.length:=(waa.mp h0).1
 have kp:Keep K H J H (λb=>J b\/b∈fp i):=⟨λ_ h=>.inl h,λ_ _ _ h=>h,λ_ _ h=>h⟩
 refine⟨λb=>J b\/b∈fp i,⟨s.same,λb h=>.inl (s.j0 b h),λb h=>?_,λb h=>?_,by simp[s.len],λj e h=>?_,?_,λq hq=>?_,s.al⟩,kp⟩
 .rcases h with h|h
  .exact s.jn b h
  .exact .inr (hn b h)
 .rcases h with h|h
  .exact s.ja b h
  .obtain⟨o,e,_⟩:=r.some b h;rw[e];simp
 .rcases zdu h with⟨rfl,he⟩|⟨ne,h⟩
  .cases he;exact⟨v,hv,r.rp (λ_ h=>.inl h) (λb hb=>.inr hb)⟩
  .obtain⟨v,e1,r1⟩:=s.vl j e h;exact⟨v,e1,r1.keep kp⟩
 .refine⟨_,w.put (i:=i) (A:=[]) kp (λ_ _ _ _ _ h=>h) (λj e b hb jb=>?_) (λj e=>wah (Ne.symm e)) (λ_ _=>rfl) ?_ waZ (by simp) (by simp)⟩
  .rcases jb with jb|jb
   .exact w.nj j b hb jb
   .exact w.dj j i e b hb jb
  .rw[wam hi];rfl
 .have e:=s.psNe (i:=i) (λn d z=>by rw[h0] at z;cases z) q hq
  rw[wah (Ne.symm e)];exact s.ps q hq
def Weak (Z' Z:En):Prop:=Z'.length=Z.length/\∀(i:Nat),Z'[i]?=Z[i]?\/Z'[i]?=some .un
def isUn:Option SV->Bool
|some .un=>true
|_=>false
def ST.weak {Z':En}(s:ST K Hz Jz O Z Y H J)(w:Weak Z' Z)(hO:O.ps = []):ST K Hz Jz O Z' Y H J where
 same:=s.same
 j0:=s.j0
 jn:=s.jn
 ja:=s.ja
 len:=by rw[s.len,w.1]
 vl:=λi d h=>by
  rcases w.2 i with e|e
  .exact s.vl i d (e▸h)
  .rw[e] at h;cases h
 ow:=by
  obtain⟨fp,o⟩:=s.ow;have key:∀i:Nat,(Z'[i]?=some SV.un)\/Z'[i]?=Z[i]?:=λi=>(w.2 i).symm
  refine⟨λi=>if isUn (Z'[i]?) then[] else fp i,λi=>?_,λi=>?_,λi b hb=>?_,λi j ne b hb=>?_⟩
  .have q:=o.at' i
   rcases key i with e|e
   .rw[e];rfl
   .rw[e];cases z:Z[i]? with
   |none=>rw[z] at q;exact q
   |some x=>
      rw[z] at q;cases x with
     |un=>rfl
     |val d=>exact q
     |own n d=>exact q
     |par n d=>exact q
  .split
   .exact waZ
   .exact o.nd i
  .split at hb
   .cases hb
   .exact o.nj i b hb
  .split at hb
   .cases hb
   .split
    .simp
    .exact o.dj i j ne b hb
 ps:=by rw[hO];simp
 al:=s.al
end
end VD
namespace VD
open PySem PySem.Spec PyProof PyProof.Rows L2
abbrev FE:=En->Option D
abbrev FT:=En->Option Bool
abbrev FA:=En->Option (List D)
def lim:Nat:=100000
def zd5:lim<sizeLine:=by decide
def zbV {n:Nat}(h:n<=lim):n<=sizeLine:=waq h (wbp zd5)
def mkL (ds:List D):Option D:=if ds.length<=lim then some (.lst ds) else none
def mkT (ds:List D):Option D:=if ds.length<=lim then some (.tup ds) else none
def zkW {ds:List D}{d:D}(h:mkL ds=some d):ds.length<=lim/\d=.lst ds:=by
 unfold mkL at h;by_cases e:ds.length<=lim
 .rw[if_pos e] at h;exact⟨e,(waw h).symm⟩
 .rw[if_neg e] at h;cases h
def ze7 {ds:List D}{d:D}(h:mkT ds=some d):ds.length<=lim/\d=.tup ds:=by
 unfold mkT at h;by_cases e:ds.length<=lim
 .rw[if_pos e] at h;exact⟨e,(waw h).symm⟩
 .rw[if_neg e] at h;cases h
section
variable (K:W.Frag)
def zgB (H:Hp)(J:Addr->Prop)(d:D)(Q:VK):Prop:=∀v H' J',Up H J H' J'->Rp K H' J' v d->Q v H'
def zo1 (H:Hp)(J:Addr->Prop)(d:D)(Q:VK):Prop:=∀v H' J',Up H J H' J'->RpW K H' J' v d->Q v H'
def zmb (H:Hp)(J:Addr->Prop)(ds:List D)(Q:VK):Prop:=∀p vs H' J',Up H J H' J'->H p=none->¬J' p->H' p=some (.lst vs)->RpL K H' J' vs ds->Q (.ref p) H'
def zmc (H:Hp)(J:Addr->Prop)(b:Bool)(Q:Bool->Hp->Prop):Prop:=∀H' J',Up H J H' J'->Q b H'
def zo2 (H:Hp)(J:Addr->Prop)(ds:List D)(Q:List V->Hp->Prop):Prop:=∀vs H' J',Up H J H' J'->RpL K H' J' vs ds->Q vs H'
def GoE (t:TE)(f:FE):Prop:=∀Hz Jz O Z Y H J d Q,ST K Hz Jz O Z Y H J->f Z=some d->zgB K H J d Q->t Y H Q
def GoW (t:TE)(f:FE):Prop:=∀Hz Jz O Z Y H J d Q,ST K Hz Jz O Z Y H J->f Z=some d->zo1 K H J d Q->t Y H Q
def GoN (t:TE)(f:FA):Prop:=∀Hz Jz O Z Y H J d Q,ST K Hz Jz O Z Y H J->f Z=some d->zmb K H J d Q->t Y H Q
def GoT (t:TT)(f:FT):Prop:=∀Hz Jz O Z Y H J b Q,ST K Hz Jz O Z Y H J->f Z=some b->zmc H J b Q->t Y H Q
def GoA (t:TA)(f:FA):Prop:=∀Hz Jz O Z Y H J ds Q,ST K Hz Jz O Z Y H J->f Z=some ds->zo2 K H J ds Q->t Y H Q
end
def VE (X:Cx)(e:Expr)(f:FE):Prop:=∃t,PE X e t/\GoE X.K t f
def VW (X:Cx)(e:Expr)(f:FE):Prop:=∃t,PE X e t/\GoW X.K t f
def VN (X:Cx)(e:Expr)(f:FA):Prop:=∃t,PE X e t/\GoN X.K t f
def VT (X:Cx)(e:Expr)(f:FT):Prop:=∃t,PT X e t/\GoT X.K t f
def VP (X:Cx)(e:Expr)(f:FT):Prop:=∃t,PW X e t/\GoT X.K t f
def VA (X:Cx)(es:List Expr)(f:FA):Prop:=∃t,PA X es t/\GoA X.K t f
def RpWL (K:W.Frag)(H:Hp)(J:Addr->Prop):List V->List D->Prop
|[],[]=>True
|v::vs,d::ds=>RpW K H J v d/\RpWL K H J vs ds
|_,_=>False
def GoAW (K:W.Frag)(t:TA)(f:FA):Prop:=∀Hz Jz O Z Y H J ds Q,ST K Hz Jz O Z Y H J->f Z=some ds->(∀vs H' J',Up H J H' J'->RpWL K H' J' vs ds->Q vs H')->t Y H Q
def VAW (X:Cx)(es:List Expr)(f:FA):Prop:=∃t,PA X es t/\GoAW X.K t f
def RpW.up {K:W.Frag}{H H':Hp}{J J':Addr->Prop}{v:V}{d:D}(h:RpW K H J v d)(u:Up H J H' J'):RpW K H' J' v d:=by
 rcases h with h|⟨A,h⟩
 .exact .inl (h.keep u.keep)
 .exact .inr ⟨A,h.keep u.keep λb _ o=>u.same b o⟩
section
variable {X:Cx}{a b c e:Expr}{es rest:List Expr}{fa fb:FE}{ft fu:FT}{fl:FA}{pos p:Pos}
theorem VE.w (h:VE X a fa):VW X a fa:=by
 obtain⟨t,p,g⟩:=h;exact⟨t,p,λHz Jz O Z Y H J d Q s e w=>g Hz Jz O Z Y H J d Q s e λv H' J' u r=>w v H' J' u (.inl r)⟩
def eVar (i:Nat):FE:=λZ=>match Z[i]? with|some (.val d)=>some d|_=>none
def eRd (i:Nat):FE:=λZ=>match Z[i]? with|some (.val d)=>some d|some (.own 1 d)=>some d|some (.par 1 d)=>some d|_=>none
def zo3 {K:W.Frag}{i:Nat}:GoE K (tVar i) (eVar i):=by
 intro Hz Jz O Z Y H J d Q s e w;unfold eVar at e;split at e
 .rename_i d' q
  cases e;obtain⟨v,hv,r⟩:=s.vl i _ q;exact⟨v,hv,w v H J (Up.refl s.ja) r⟩
 .cases e
def ST.rd {K:W.Frag}{Hz H:Hp}{Jz J:Addr->Prop}{O:Pr}{Z:En}{Y:L2.St}{i n:Nat}{d:D}(s:ST K Hz Jz O Z Y H J)(h:ownD (Z[i]?)=some (n,d)):∃v A,Y[i]?=some (some v)/\RpU K H J n v d A:=by
 obtain⟨v,A,h1,h2,_⟩:=s.chg h;exact⟨v,A,h1,h2⟩
def zo4 {K:W.Frag}{i:Nat}:GoW K (tVar i) (eRd i):=by
 intro Hz Jz O Z Y H J d Q s e w;unfold eRd at e;split at e
 .rename_i d' q
  cases e;obtain⟨v,hv,r⟩:=s.vl i _ q;exact⟨v,hv,w v H J (Up.refl s.ja) (.inl r)⟩
 .rename_i d' q
  cases e;obtain⟨v,A,hv,r⟩:=s.rd (i:=i) (n:=1) (d:=d) (by rw[q];rfl);exact⟨v,hv,w v H J (Up.refl s.ja) (.inr ⟨A,r⟩)⟩
 .rename_i d' q
  cases e;obtain⟨v,A,hv,r⟩:=s.rd (i:=i) (n:=1) (d:=d) (by rw[q];rfl);exact⟨v,hv,w v H J (Up.refl s.ja) (.inr ⟨A,r⟩)⟩
 .cases e
def vv (i:Nat){x:Str}{pos:Pos}(hN:X.N[i]?=some x:=by rfl)(hv:Vis X.env.scope x:=by first|exact Or.inl rfl|exact Or.inr (Or.inl rfl)|exact Or.inr (Or.inr rfl))(hd:(x == ("__debug__" : Str))=false:=by decide)
 (hcd:(x == ("__classdict__" : Str))=false:=by decide):VE X (.Name x pos) (eVar i):=⟨_,zbT hN hv hd hcd,zo3⟩
def vr (i:Nat){x:Str}{pos:Pos}(hN:X.N[i]?=some x:=by rfl)(hv:Vis X.env.scope x:=by first|exact Or.inl rfl|exact Or.inr (Or.inl rfl)|exact Or.inr (Or.inr rfl))(hd:(x == ("__debug__" : Str))=false:=by decide)
 (hcd:(x == ("__classdict__" : Str))=false:=by decide):VW X (.Name x pos) (eRd i):=⟨_,zbT hN hv hd hcd,zo4⟩
def eK (d:D):FE:=λ_=>some d
def go_c {K:W.Frag}{v:V}{d:D}(h:∀H J,Rp K H J v d):GoE K (tC v) (eK d):=by
 intro Hz Jz O Z Y H J d' Q s e w;cases e;exact w v H J (Up.refl s.ja) (h H J)
def zae {i j pos}:VE X (.Constant (.int i) j pos) (eK (.int i)):=⟨_,zos,go_c λ_ _=>.int i⟩
def zeH {i j pos}:VE X (.Constant (.bool i) j pos) (eK (.bl i)):=⟨_,zqq,go_c λ_ _=>.bl i⟩
def zbd {i j pos}:VE X (.Constant (.str i) j pos) (eK (.str i)):=⟨_,zou,go_c λ_ _=>.str i⟩
def zfS {j pos}:VE X (.Constant .none j pos) (eK .non):=⟨_,zot,go_c λ_ _=>.non⟩
structure GlobD (K:W.Frag)(mg:Str->Option Value)(x:Str)(d:D):Prop where
 ex:∃u v,mg x=some u/\RelV v u/\∀H J,Rp K H J v d
def zaV {x:Str}{d:D}{pos:Pos}(G:GlobD X.K X.mg x d)(hg:Gl X x:=by rfl)(hd:(x == ("__debug__" : Str))=false:=by decide):VE X (.Name x pos) (eK d):=by
 obtain⟨u,v,h1,h2,h3⟩:=G.ex;exact⟨_,zmM hg h1 h2 hd,go_c h3⟩
def e2 (F:D->D->Option D)(f g:FE):FE:=λZ=>(f Z).bind λx=>(g Z).bind λy=>F x y
def e1 (F:D->Option D)(f:FE):FE:=λZ=>(f Z).bind F
def bind_some {α β:Type}{o:Option α}{f:α->Option β}{b:β}(h:o.bind f=some b):∃a,o=some a/\f a=some b:=by
 cases o with
|none=>cases h
|some a=>exact⟨a,rfl,h⟩
def Im2 (K:W.Frag)(r:R2)(F:D->D->Option D):Prop:=∀H J x y d e d' Q,(∀a,J a->H a≠none)->RpW K H J x d->RpW K H J y e->F d e=some d'->zgB K H J d' Q->r x y H Q
def zkX {K:W.Frag}{r:R2}{F:D->D->Option D}{ta tb:TE}(im:Im2 K r F)(ga:GoW K ta fa)(gb:GoW K tb fb):GoE K (tOp r ta tb) (e2 F fa fb):=by
 intro Hz Jz O Z Y H J d Q s e w;obtain⟨x,ex,e⟩:=bind_some e;obtain⟨y,ey,e⟩:=bind_some e;refine ga Hz Jz O Z Y H J x _ s ex λv1 H1 J1 u1 r1=>?_
 refine gb Hz Jz O Z Y H1 J1 y _ (s.up u1) ey λv2 H2 J2 u2 r2=>?_
 exact im H2 J2 v1 v2 x y d Q u2.ja (r1.up u2) r2 e λv3 H3 J3 u3 r3=>w v3 H3 J3 (u1.trans (u2.trans u3)) r3
def zaP {op:Operator}{r:R2}{F:D->D->Option D}(ho:OpR X (binaryOp op) r)(im:Im2 X.K r F)(ha:VW X a fa)(hb:VW X b fb):VE X (.BinOp a op b pos) (e2 F fa fb):=by
 obtain⟨ta,pa,ga⟩:=ha;obtain⟨tb,pb,gb⟩:=hb;exact⟨_,zoH ho pa pb,zkX im ga gb⟩
def zcx {op:CmpOp}{r:R2}{F:D->D->Option D}(ho:OpR X (compareOp op) r)(im:Im2 X.K r F)(ha:VW X a fa)(hb:VW X b fb)(hm:behindInMarks op b=false):VE X (.Compare a [op] [b] pos) (e2 F fa fb):=by
 obtain⟨ta,pa,ga⟩:=ha;obtain⟨tb,pb,gb⟩:=hb;exact⟨_,ziz ho pa pb hm,zkX im ga gb⟩
def dB:D->Option Bool
|.bl b=>some b
|_=>none
def t1 (f:FE):FT:=λZ=>(f Z).bind dB
def zi6 {K:W.Frag}{t:TE}{f:FE}(g:GoE K t f):GoT K (zkG t) (t1 f):=by
 intro Hz Jz O Z Y H J d Q s e w;obtain⟨x,ex,e⟩:=bind_some e;refine g Hz Jz O Z Y H J x _ s ex λv H1 J1 u1 r1=>?_
 cases x with
|bl k=>cases e;cases r1;exact⟨_,rfl,w H1 J1 u1⟩
|_=>cases e
def zaG {op:CmpOp}{r:R2}{F:D->D->Option D}(ho:OpR X (compareOp op) r)(im:Im2 X.K r F)(ha:VW X a fa)(hb:VW X b fb)(hm:behindInMarks op b=false):VT X (.Compare a [op] [b] pos) (t1 (e2 F fa fb)):=by
 obtain⟨ta,pa,ga⟩:=ha;obtain⟨tb,pb,gb⟩:=hb;exact⟨_,ziA ho pa pb hm,zi6 (zkX im ga gb)⟩
def e3 (F G:D->D->Option D)(f g h:FE):FE:=λZ=>(f Z).bind λx=>(g Z).bind λy=>(F x y).bind λz=>(dB z).bind λk=>if k then(h Z).bind λw=>G y w else some (.bl false)
def zkY {K:W.Frag}{r r':R2}{F G:D->D->Option D}{ta tb tc:TE}{fc:FE}(im:Im2 K r F)(im':Im2 K r' G)(ga:GoW K ta fa)(gb:GoW K tb fb)(gc:GoW K tc fc):GoE K (zl7 r r' ta tb tc) (e3 F G fa fb fc):=by
 intro Hz Jz O Z Y H J d Q s e w;obtain⟨x,ex,e⟩:=bind_some e;obtain⟨y,ey,e⟩:=bind_some e;obtain⟨z,ez,e⟩:=bind_some e;obtain⟨k,ek,e⟩:=bind_some e;refine ga Hz Jz O Z Y H J x _ s ex λv1 H1 J1 u1 r1=>?_
 refine gb Hz Jz O Z Y H1 J1 y _ (s.up u1) ey λv2 H2 J2 u2 r2=>?_
 refine im H2 J2 v1 v2 x y z _ u2.ja (r1.up u2) r2 ez λv3 H3 J3 u3 r3=>?_
 cases z with
|bl k'=>
   have ek':k'=k:=waw ek
   subst ek';cases r3;refine⟨_,rfl,?_⟩;cases k' with
  |true=>
     refine iteT ?_;have e':((fc Z).bind λw=>G y w)=some d:=e
     obtain⟨q,eq,e'⟩:=bind_some e';refine gc Hz Jz O Z Y H3 J3 q _ (s.up (u1.trans (u2.trans u3))) eq λv4 H4 J4 u4 r4=>?_
     exact im' H4 J4 v2 v4 y q d Q u4.ja (r2.up (u3.trans u4)) r4 e' λv5 H5 J5 u5 r5=>w v5 H5 J5 (u1.trans (u2.trans (u3.trans (u4.trans u5)))) r5
  |false=>
     refine iteF ?_;have e':some (D.bl false)=some d:=e
     cases e';exact w _ H3 J3 (u1.trans (u2.trans u3)) (.bl false)
|_=>cases ek
def zkZ {op op':CmpOp}{r r':R2}{F G:D->D->Option D}{fc:FE}(ho:OpR X (compareOp op) r)(im:Im2 X.K r F)(ho':OpR X (compareOp op') r')(im':Im2 X.K r' G)(ha:VW X a fa)(hb:VW X b fb)(hc:VW X c fc)(hm:lastMarks [op,op'] [b,c]=false:=by with_unfolding_all rfl):VT X (.Compare a [op,op'] [b,c] pos) (t1 (e3 F G fa fb fc)):=by
 obtain⟨ta,pa,ga⟩:=ha;obtain⟨tb,pb,gb⟩:=hb;obtain⟨tc,pc,gc⟩:=hc;exact⟨_,zkH ho ho' pa pb pc hm,zi6 (zkY im im' ga gb gc)⟩
def dTru:D->Option Bool
|.non=>some false
|.bl b=>some b
|.int i=>some (i != 0)
|.str x=>if x.length<=lim then some ((x.length:Int) != 0) else none
|.tup ds=>some (!ds.isEmpty)
|.lst ds=>some (!ds.isEmpty)
|.dct ks _=>some (!ks.isEmpty)
|.scr _=>none
|.exc _ _ _=>none
|.dcu _ _=>none
def tT (f:FE):FT:=λZ=>(f Z).bind dTru
def zd6 {α β:Type}{xs:List α}{ys:List β}(h:xs.length=ys.length):xs.isEmpty=ys.isEmpty:=by
 cases xs <;> cases ys <;> first|rfl|cases h
def zo5 {K:W.Frag}{H:Hp}{J:Addr->Prop}{v:V}{d:D}{k:Bool}(r:RpW K H J v d)(h:dTru d=some k):TruV K v H k:=by
 cases d with
|non=>rw[r.non];cases h;rfl
|bl b=>rw[r.bl];cases h;rfl
|int b=>rw[r.int];cases h;rfl
|str x=>
   rw[r.str];have h:(if x.length<=lim then some ((x.length:Int) != 0) else none)=some k:=h
   by_cases e:x.length<=lim
   .rw[if_pos e] at h;cases h;exact⟨zbV e,rfl⟩
   .rw[if_neg e] at h;cases h
|tup ds=>obtain⟨p,vs,rfl,h1,h2⟩:=r.tup;cases h;exact .inr (.inl ⟨vs,h1,by rw[zd6 h2.length]⟩)
|lst ds=>obtain⟨p,vs,rfl,h1,h2⟩:=r.lst;cases h;exact .inl ⟨vs,SqL.of h1,by rw[zd6 h2.length]⟩
|scr p=>cases h
|exc _ _ _=>cases h
|dcu _ _=>cases h
|dct ks ds=>
   obtain⟨p,kvs,vs,rfl,h1,h2,h3,h4⟩:=r.dct;cases h;refine .inr (.inr ⟨kvs,h1,?_⟩);rw[<-h2];cases kvs <;> rfl
def zbp (ha:VW X a fa)(he:∀whole,isTrue a X.env whole=(do let v <-whole;standAt a.pos;holding [v] (truthy v)):=by intro _;rfl):VT X a (tT fa):=by
 obtain⟨ta,pa,ga⟩:=ha;refine⟨_,zkI pa he,?_⟩;intro Hz Jz O Z Y H J d Q s e w;obtain⟨x,ex,e⟩:=bind_some e;refine ga Hz Jz O Z Y H J x _ s ex λv H1 J1 u1 r1=>?_
 exact⟨d,zo5 r1 e,w H1 J1 u1⟩
def tAndF (f g:FT):FT:=λZ=>(f Z).bind λk=>if k then g Z else some false
def tOrF (f g:FT):FT:=λZ=>(f Z).bind λk=>if k then some true else g Z
def tNotF (f:FT):FT:=λZ=>(f Z).bind λk=>some (!k)
def zo6 {K:W.Frag}{t u:TT}(g1:GoT K t ft)(g2:GoT K u fu):GoT K (tAnd t u) (tAndF ft fu):=by
 intro Hz Jz O Z Y H J d Q s e w;obtain⟨k,ek,e⟩:=bind_some e;refine g1 Hz Jz O Z Y H J k _ s ek λH1 J1 u1=>?_
 cases k with
|true=>exact iteT (g2 Hz Jz O Z Y H1 J1 d Q (s.up u1) e λH2 J2 u2=>w H2 J2 (u1.trans u2))
|false=>have e':some false=some d:=e;cases e';exact iteF (w H1 J1 u1)
def zqH {K:W.Frag}{t u:TT}(g1:GoT K t ft)(g2:GoT K u fu):GoT K (tOr t u) (tOrF ft fu):=by
 intro Hz Jz O Z Y H J d Q s e w;obtain⟨k,ek,e⟩:=bind_some e;refine g1 Hz Jz O Z Y H J k _ s ek λH1 J1 u1=>?_
 cases k with
|true=>have e':some true=some d:=e;cases e';exact iteT (w H1 J1 u1)
|false=>exact iteF (g2 Hz Jz O Z Y H1 J1 d Q (s.up u1) e λH2 J2 u2=>w H2 J2 (u1.trans u2))
def zi7 (h:VT X a ft):VP X (.BoolOp .And [a] pos) ft:=let ⟨t,p,g⟩:=h;⟨t,zmO p,g⟩
def zd7 (h:VT X a ft):VP X (.BoolOp .Or [a] pos) ft:=let ⟨t,p,g⟩:=h;⟨t,zov p,g⟩
def zmd (h:VT X a ft)(h2:VP X (.BoolOp .And (b::rest) pos) fu):VP X (.BoolOp .And (a::b::rest) pos) (tAndF ft fu):=let ⟨_,p,g⟩:=h;let ⟨_,p2,g2⟩:=h2;⟨_,zow p p2,zo6 g g2⟩
def zeI (h:VT X a ft)(h2:VP X (.BoolOp .Or (b::rest) pos) fu):VP X (.BoolOp .Or (a::b::rest) pos) (tOrF ft fu):=let ⟨_,p,g⟩:=h;let ⟨_,p2,g2⟩:=h2;⟨_,zqr p p2,zqH g g2⟩
theorem VP.t (h:VP X a ft):VT X a ft:=let ⟨t,p,g⟩:=h;⟨t,p.pt,g⟩
def zbW (h:VT X a ft):VT X (.UnaryOp .Not a pos) (tNotF ft):=by
 obtain⟨t,p,g⟩:=h;refine⟨_,zox p,?_⟩;intro Hz Jz O Z Y H J d Q s e w;obtain⟨k,ek,e⟩:=bind_some e;cases e;exact g Hz Jz O Z Y H J k _ s ek λH1 J1 u1=>w H1 J1 u1
def eAnd (f g:FE):FE:=λZ=>(t1 f Z).bind λk=>if k then g Z else some (.bl false)
def eOr (f g:FE):FE:=λZ=>(t1 f Z).bind λk=>if k then some (.bl true) else g Z
def eNot (f:FE):FE:=λZ=>(t1 f Z).bind λk=>some (.bl (!k))
def zc0 {op}(h:VE X a fa):VE X (.BoolOp op [a] pos) fa:=let ⟨_,p,g⟩:=h;⟨_,zoy p,g⟩
def zc1 (h:VE X a fa)(h2:VE X (.BoolOp .And (b::rest) pos) fb):VE X (.BoolOp .And (a::b::rest) pos) (eAnd fa fb):=by
 obtain⟨t,p,g⟩:=h;obtain⟨t2,p2,g2⟩:=h2;refine⟨_,zoz p p2,?_⟩;intro Hz Jz O Z Y H J d Q s e w;obtain⟨k,ek,e⟩:=bind_some e;obtain⟨x,ex,ek⟩:=bind_some ek;refine g Hz Jz O Z Y H J x _ s ex λv H1 J1 u1 r1=>?_
 cases x with
|bl k'=>
   have ek':k'=k:=waw ek
   subst ek';cases r1;refine⟨_,rfl,?_⟩;cases k' with
  |true=>exact iteT (g2 Hz Jz O Z Y H1 J1 d Q (s.up u1) e λv2 H2 J2 u2 r2=>w v2 H2 J2 (u1.trans u2) r2)
  |false=>have e':some (D.bl false)=some d:=e;cases e';exact iteF (w _ H1 J1 u1 (.bl false))
|_=>cases ek
def zqI (h:VE X a fa)(h2:VE X (.BoolOp .Or (b::rest) pos) fb):VE X (.BoolOp .Or (a::b::rest) pos) (eOr fa fb):=by
 obtain⟨t,p,g⟩:=h;obtain⟨t2,p2,g2⟩:=h2;refine⟨_,zqu p p2,?_⟩;intro Hz Jz O Z Y H J d Q s e w;obtain⟨k,ek,e⟩:=bind_some e;obtain⟨x,ex,ek⟩:=bind_some ek;refine g Hz Jz O Z Y H J x _ s ex λv H1 J1 u1 r1=>?_
 cases x with
|bl k'=>
   have ek':k'=k:=waw ek
   subst ek';cases r1;refine⟨_,rfl,?_⟩;cases k' with
  |false=>exact iteF (g2 Hz Jz O Z Y H1 J1 d Q (s.up u1) e λv2 H2 J2 u2 r2=>w v2 H2 J2 (u1.trans u2) r2)
  |true=>have e':some (D.bl true)=some d:=e;cases e';exact iteT (w _ H1 J1 u1 (.bl true))
|_=>cases ek
def zo7 (h:VE X a fa):VE X (.UnaryOp .Not a pos) (eNot fa):=by
 obtain⟨t,p,g⟩:=h;refine⟨_,zoA p,?_⟩;intro Hz Jz O Z Y H J d Q s e w;obtain⟨k,ek,e⟩:=bind_some e;obtain⟨x,ex,ek⟩:=bind_some ek;refine g Hz Jz O Z Y H J x _ s ex λv H1 J1 u1 r1=>?_
 cases x with
|bl k'=>
   have ek':k'=k:=waw ek
   subst ek';cases r1;cases e;exact⟨_,rfl,w _ H1 J1 u1 (.bl _)⟩
|_=>cases ek
def aNil:FA:=λ_=>some []
def aCons (f:FE)(g:FA):FA:=λZ=>(f Z).bind λx=>(g Z).bind λxs=>some (x::xs)
def zaf:VA X [] aNil:=⟨_,zcZ,λHz Jz O Z Y H J ds Q s e w=>by cases e;exact w [] H J (Up.refl s.ja) .nil⟩
def zad (ha:VE X e fa)(hr:VA X es fl)(hs:starEach (e::es) X.env=(false,eval e X.env)::starEach es X.env:=by rfl):VA X (e::es) (aCons fa fl):=by
 obtain⟨t,p,g⟩:=ha;obtain⟨t2,p2,g2⟩:=hr;refine⟨_,zbJ p p2 hs,?_⟩;intro Hz Jz O Z Y H J ds Q s e w;obtain⟨x,ex,e⟩:=bind_some e;obtain⟨xs,exs,e⟩:=bind_some e;cases e;refine g Hz Jz O Z Y H J x _ s ex λv1 H1 J1 u1 r1=>?_
 refine g2 Hz Jz O Z Y H1 J1 xs _ (s.up u1) exs λvs H2 J2 u2 r2=>?_
 exact w _ H2 J2 (u1.trans u2) (.cons (r1.keep u2.keep) r2)
def zaC:VAW X [] aNil:=⟨_,zcZ,λHz Jz O Z Y H J ds Q s e w=>by cases e;exact w [] H J (Up.refl s.ja) trivial⟩
def zan (ha:VW X e fa)(hr:VAW X es fl)(hs:starEach (e::es) X.env=(false,eval e X.env)::starEach es X.env:=by rfl):VAW X (e::es) (aCons fa fl):=by
 obtain⟨t,p,g⟩:=ha;obtain⟨t2,p2,g2⟩:=hr;refine⟨_,zbJ p p2 hs,?_⟩;intro Hz Jz O Z Y H J ds Q s e w;obtain⟨x,ex,e⟩:=bind_some e;obtain⟨xs,exs,e⟩:=bind_some e;cases e;refine g Hz Jz O Z Y H J x _ s ex λv1 H1 J1 u1 r1=>?_
 refine g2 Hz Jz O Z Y H1 J1 xs _ (s.up u1) exs λvs H2 J2 u2 r2=>?_
 exact w _ H2 J2 (u1.trans u2) ⟨r1.up u2,r2⟩
def eTup (f:FA):FE:=λZ=>(f Z).bind mkT
def zdG {x1}(h:VA X es fl):VE X (.Tuple es x1 pos) (eTup fl):=by
 obtain⟨t,p,g⟩:=h;refine⟨_,zl8 p,?_⟩;intro Hz Jz O Z Y H J d Q s e w;obtain⟨xs,exs,e⟩:=bind_some e;obtain⟨hl,rfl⟩:=ze7 e;refine g Hz Jz O Z Y H J xs _ s exs λvs H1 J1 u1 r1=>⟨by rw[r1.length];exact zbV hl,λp hp=>?_⟩
 have un:=Up.new u1.ja hp (.tup vs)
 exact w _ _ _ (u1.trans un) (.tup (SqT.of zah) (r1.keep un.keep))
def aMk (f:FA):FA:=λZ=>(f Z).bind λds=>if ds.length<=lim then some ds else none
def zk0 {f:FA}{Z:En}{ds:List D}(h:aMk f Z=some ds):f Z=some ds/\ds.length<=lim:=by
 obtain⟨xs,e1,e2⟩:=bind_some h;by_cases hl:xs.length<=lim
 .rw[if_pos hl] at e2;cases e2;exact⟨e1,hl⟩
 .rw[if_neg hl] at e2;cases e2
def zbX (h:VA X es fl):VN X (.List es pos) (aMk fl):=by
 obtain⟨t,p,g⟩:=h;refine⟨_,ziF p,?_⟩;intro Hz Jz O Z Y H J ds Q s e w;obtain⟨e1,hl⟩:=zk0 e;refine g Hz Jz O Z Y H J ds _ s e1 λvs H1 J1 u1 r1=>⟨by rw[r1.length];exact zbV hl,λp hp=>?_⟩
 have un:=Up.new u1.ja hp (.lst vs)
 exact w p vs _ J1 (u1.trans un) (u1.same.free hp) (λj=>u1.ja p j hp) zah (r1.keep un.keep)
def eL (f:FA):FE:=λZ=>(f Z).bind λds=>some (.lst ds)
def zme {K:W.Frag}{t:TE}{f:FA}(g:GoN K t f):GoE K t (eL f):=by
 intro Hz Jz O Z Y H J d Q s e w;obtain⟨ds,e1,e⟩:=bind_some e;cases e;refine g Hz Jz O Z Y H J ds _ s e1 λp vs H1 J1 u1 hp nj h1 r1=>?_
 have kp:Keep K H1 J1 H1 (λa=>J1 a\/a=p):=⟨λ_ h=>.inl h,λ_ _ _ h=>h,λ_ _ h=>h⟩
 refine w (.ref p) H1 (λa=>J1 a\/a=p) ⟨u1.same,λa h=>.inl (u1.jj a h),λa h=>?_,λa h=>?_⟩ (.lst h1 (.inr rfl) (r1.keep kp))
 .rcases h with h|rfl
  .exact u1.jn a h
  .exact .inr hp
 .rcases h with h|rfl
  .exact u1.ja a h
  .rw[h1];simp
def VN.ve {f:FA}(h:VN X a f):VE X a (eL f):=let ⟨_,p,g⟩:=h;⟨_,p,zme g⟩
def spF (K:W.Frag)(F:List D->Option D):Sp:=λvs H Q _=>∃J ds d,(∀a,J a->H a≠none)/\RpL K H J vs ds/\F ds=some d/\zgB K H J d Q
def eCall (F:List D->Option D)(f:FA):FE:=λZ=>(f Z).bind F
def zaq {k k':Nat}{x:Str}{ps:List Str}{F:List D->Option D}(C:Cal X.prog X.w X.K X.mg X.base k x ps (spF X.K F))(hr:Room k' X.A)(ha:VA X (e::es) fl)(hk:k<=k':=by decide)(hg:Gl X x:=by rfl)(hdb:(x == ("__debug__" : Str))=false:=by decide)
 (he:starEach (e::es) X.env=(false,eval e X.env)::starEach es X.env:=by rfl) (hpl:(backTo pos (starEach es X.env)).any (·.1)=false:=by rfl):VE X (.Call (.Name x p) (e::es) [] pos) (eCall F fl):=by
 obtain⟨t,p,g⟩:=ha;refine⟨_,pc C hr p hk hg hdb he hpl,?_⟩;intro Hz Jz O Z Y H J d Q s e w;obtain⟨ds,e1,e⟩:=bind_some e;refine g Hz Jz O Z Y H J ds _ s e1 λvs H1 J1 u1 r1=>?_
 refine⟨J1,ds,d,u1.ja,by rw[waQ];exact r1,e,λv H2 J2 u2 r2=>w v H2 J2 (u1.trans u2) r2⟩
def ImC (K:W.Frag)(r:List V->Hp->VK->Prop)(F:List D->Option D):Prop:=∀H J vs ds d Q,(∀a,J a->H a≠none)->RpWL K H J vs ds->F ds=some d->zgB K H J d Q->r vs H Q
def zo8 {K:W.Frag}{r:List V->Hp->VK->Prop}{F:List D->Option D}{t:TA}(im:ImC K r F)(g:GoAW K t fl):GoE K (tCB r t) (eCall F fl):=by
 intro Hz Jz O Z Y H J d Q s e w;obtain⟨ds,e1,e⟩:=bind_some e;refine g Hz Jz O Z Y H J ds _ s e1 λvs H1 J1 u1 r1=>?_
 exact im H1 J1 vs ds d Q u1.ja r1 e λv H2 J2 u2 r2=>w v H2 J2 (u1.trans u2) r2
def ve_b {id:String}{x:Str}{r:List V->Hp->VK->Prop}{F:List D->Option D}(hc:zcz X (.builtin id) r)(im:ImC X.K r F)(B:Blt X.mg)(hv:bootBuiltins x=some (.builtin id))(ha:VAW X (e::es) fl)(hB:x∈zbi:=by decide +kernel)(hg:Gl X x:=by rfl)(hn:x≠"__name__":=by decide)(hdb:(x == ("__debug__" : Str))=false:=by decide)
 (he:starEach (e::es) X.env=(false,eval e X.env)::starEach es X.env:=by rfl) (hpl:(backTo pos (starEach es X.env)).any (·.1)=false:=by rfl):VE X (.Call (.Name x p) (e::es) [] pos) (eCall F fl):=by
 obtain⟨t,p,g⟩:=ha;exact⟨_,pb hc B hv p hB hg hn hdb he hpl,zo8 im g⟩
def zi8 {T:String}{x:Str}{r:List V->Hp->VK->Prop}{F:List D->Option D}(hc:zcz X (.type T) r)(im:ImC X.K r F)(B:Blt X.mg)(hv:bootBuiltins x=some (.type T))(ha:VAW X (e::es) fl)(hB:x∈zbi:=by decide +kernel)(hg:Gl X x:=by rfl)(hn:x≠"__name__":=by decide)(hdb:(x == ("__debug__" : Str))=false:=by decide)
 (he:starEach (e::es) X.env=(false,eval e X.env)::starEach es X.env:=by rfl) (hpl:(backTo pos (starEach es X.env)).any (·.1)=false:=by rfl):VE X (.Call (.Name x p) (e::es) [] pos) (eCall F fl):=by
 obtain⟨t,p,g⟩:=ha;exact⟨_,pty hc B hv p hB hg hn hdb he hpl,zo8 im g⟩
end
section
variable {K:W.Frag}{X:Cx}
def dAdd:D->D->Option D
|.int i,.int j=>some (.int (i+j))
|.str x,.str y=>if x.length+y.length<=lim then some (.str (x++y)) else none
|.lst xs,.lst ys=>mkL (xs++ys)
|.tup xs,.tup ys=>if ys = [] then none else mkT (xs++ys)
|_,_=>none
def zo9 (K:W.Frag):R2:=λx y H Q=>(rI0 λi j=>.int (i+j)) x y H Q\/(∃i j,x=.str i/\y=.str j/\i.length+j.length<=sizeLine/\Q (.str (i++j)) H)\/rCat x y H Q\/zoV K x y H Q
def zbL:OpR X (binaryOp .Add) (zo9 X.K):=op_add.or (op_add_str.or (op_cat.or zm5))
def zaY:Im2 K (zo9 K) dAdd:=by
 intro H J x y d e d' Q ja hx hy hF w;match d,e,hF with
|.int i,.int j,hF=>
   cases hF;rw[hx.int,hy.int];exact .inl ⟨i,j,rfl,rfl,w _ H J (Up.refl ja) (.int _)⟩
|.str a,.str b,hF=>
   have hF:(if a.length+b.length<=lim then some (D.str (a++b)) else none)=some d':=hF
   by_cases hl:a.length+b.length<=lim
   .rw[if_pos hl] at hF;cases hF;rw[hx.str,hy.str];exact .inr (.inl ⟨a,b,rfl,rfl,zbV hl,w _ H J (Up.refl ja) (.str _)⟩)
   .rw[if_neg hl] at hF;cases hF
|.lst xs,.lst ys,hF=>
   have hF:mkL (xs++ys)=some d':=hF
   obtain⟨hl,rfl⟩:=zkW hF;obtain⟨p,vs,rfl,h1,r1⟩:=hx.lst;obtain⟨q,us,rfl,h2,r2⟩:=hy.lst;refine .inr (.inr (.inl ⟨p,q,vs,us,rfl,rfl,h1,h2,?_,λc hc=>?_⟩))
   .rw[r1.length,r2.length,<-wan];exact zbV hl
   .have un:=Up.newJ ja hc (.lst (vs++us))
    exact w _ _ _ un (.lst zah (.inr rfl) ((r1.append r2).keep un.keep))
|.tup xs,.tup ys,hF=>
   have hF:(if ys = [] then none else mkT (xs++ys))=some d':=hF
   by_cases hy0:ys = []
   .rw[if_pos hy0] at hF;cases hF
   .rw[if_neg hy0] at hF;obtain⟨hl,rfl⟩:=ze7 hF;obtain⟨p,vs,rfl,h1,r1⟩:=hx.tup;obtain⟨q,us,rfl,h2,r2⟩:=hy.tup;refine .inr (.inr (.inr ⟨p,q,vs,us,rfl,rfl,h1,h2,?_,?_,λe=>?_,λ_ c hc=>?_⟩))
    .rintro rfl;exact hy0 (List.length_eq_zero_iff.mp (by rw[<-r2.length];rfl))
    .rw[r1.length,r2.length,<-wan];exact zbV hl
    .subst e;obtain rfl:xs = []:=List.length_eq_zero_iff.mp (by rw[<-r1.length];rfl);exact w _ H J (Up.refl ja) (.tup h2 r2)
    .have un:=Up.new ja hc (.tup (vs++us))
     exact w _ _ _ un (.tup (SqT.of zah) ((r1.append r2).keep un.keep))
def dI (C:Int->Int->Prop)[∀i j,Decidable (C i j)](g:Int->Int->D):D->D->Option D
|.int i,.int j=>if C i j then some (g i j) else none
|_,_=>none
def im_I {C:Int->Int->Prop}[∀i j,Decidable (C i j)]{g:Int->Int->V}{g':Int->Int->D}(hg:∀i j H J,Rp K H J (g i j) (g' i j)):Im2 K (rI C g) (dI C g'):=by
 intro H J x y d e d' Q ja hx hy hF w;match d,e,hF with
|.int i,.int j,hF=>
   have hF:(if C i j then some (g' i j) else none)=some d':=hF
   by_cases hc:C i j
   .rw[if_pos hc] at hF;cases hF;rw[hx.int,hy.int];exact⟨i,j,rfl,rfl,hc,w _ H J (Up.refl ja) (hg i j H J)⟩
   .rw[if_neg hc] at hF;cases hF
def dI0 (g:Int->Int->D):D->D->Option D
|.int i,.int j=>some (g i j)
|_,_=>none
def zi9 {g:Int->Int->V}{g':Int->Int->D}(hg:∀i j H J,Rp K H J (g i j) (g' i j)):Im2 K (rI0 g) (dI0 g'):=by
 intro H J x y d e d' Q ja hx hy hF w;match d,e,hF with
|.int i,.int j,hF=>
   cases hF;rw[hx.int,hy.int];exact⟨i,j,rfl,rfl,w _ H J (Up.refl ja) (hg i j H J)⟩
instance (i j:Int):Decidable (CMul i j):=by unfold CMul;infer_instance
instance (i j:Int):Decidable (CDiv i j):=by unfold CDiv;infer_instance
instance (i j:Int):Decidable (CPow i j):=by unfold CPow;infer_instance
def dSub:=dI0 λi j=>.int (i - j)
def dFdiv:=dI CDiv λi j=>.int (i / j)
def dMod:=dI (λ_ j=>0<j) λi j=>.int (i % j)
def dPow:=dI CPow λi j=>.int (i ^ j.toNat)
def dLt:=dI0 λi j=>.bl (decide (i<j))
def dLe:=dI0 λi j=>.bl (decide (i<=j))
def dGt:=dI0 λi j=>.bl (decide (j<i))
def dGe:=dI0 λi j=>.bl (decide (j<=i))
def zja:Im2 K (rI0 λi j=>.int (i - j)) dSub:=zi9 λ_ _ _ _=>.int _
def zjb:Im2 K (rI CDiv λi j=>.int (i / j)) dFdiv:=im_I λ_ _ _ _=>.int _
def zdH:Im2 K (rI (λ_ j=>0<j) λi j=>.int (i % j)) dMod:=im_I λ_ _ _ _=>.int _
def zfT:Im2 K (rI CPow λi j=>.int (i ^ j.toNat)) dPow:=im_I λ_ _ _ _=>.int _
def zqJ:Im2 K (rI0 λi j=>.bl (decide (i<j))) dLt:=zi9 λ_ _ _ _=>.bl _
def zpa:Im2 K (rI0 λi j=>.bl (decide (i<=j))) dLe:=zi9 λ_ _ _ _=>.bl _
def zpb:Im2 K (rI0 λi j=>.bl (decide (j<i))) dGt:=zi9 λ_ _ _ _=>.bl _
def zk1:Im2 K (rI0 λi j=>.bl (decide (j<=i))) dGe:=zi9 λ_ _ _ _=>.bl _
def dMul:D->D->Option D
|.int i,.int j=>if CMul i j then some (.int (i*j)) else none
|.str z,.int n=>if -1000<=n/\n<=1000/\z.length<=1000 then some (.str (Txt.mul z n)) else none
|.lst xs,.int k=>if 0<=k/\k<=1000/\xs.length<=1000 then some (.lst (List.replicate k.toNat xs).flatten) else none
|_,_=>none
def zpc:R2:=λx y H Q=>(rI CMul λi j=>.int (i*j)) x y H Q\/(∃z n,x=.str z/\y=.int n/\-1000<=n/\n<=1000/\z.length<=1000/\Q (.str (Txt.mul z n)) H)\/rRep x y H Q
def zhW:OpR X (binaryOp .Mult) zpc:=op_mul.or (op_rep_str.or zoR)
theorem RpL.rep {H:Hp}{J:Addr->Prop}{vs:List V}{ds:List D}(r:RpL K H J vs ds):∀n:Nat,RpL K H J (List.replicate n vs).flatten (List.replicate n ds).flatten
|0=>.nil
|n+1=>by
   rw[wbb,wbb,wbv,wbv];exact r.append (RpL.rep r n)
def zeP:Im2 K zpc dMul:=by
 intro H J x y d e d' Q ja hx hy hF w;match d,e,hF with
|.int i,.int j,hF=>
   have hF:(if CMul i j then some (D.int (i*j)) else none)=some d':=hF
   by_cases hc:CMul i j
   .rw[if_pos hc] at hF;cases hF;rw[hx.int,hy.int];exact .inl ⟨i,j,rfl,rfl,hc,w _ H J (Up.refl ja) (.int _)⟩
   .rw[if_neg hc] at hF;cases hF
|.str z,.int n,hF=>
   have hF:(if -1000<=n/\n<=1000/\z.length<=1000 then some (D.str (Txt.mul z n)) else none)=some d':=hF
   by_cases hc:-1000<=n/\n<=1000/\z.length<=1000
   .rw[if_pos hc] at hF;cases hF;rw[hx.str,hy.int];exact .inr (.inl ⟨z,n,rfl,rfl,hc.1,hc.2.1,hc.2.2,w _ H J (Up.refl ja) (.str _)⟩)
   .rw[if_neg hc] at hF;cases hF
|.lst xs,.int n,hF=>
   have hF:(if 0<=n/\n<=1000/\xs.length<=1000 then some (D.lst (List.replicate n.toNat xs).flatten) else none)=some d':=hF
   by_cases hc:0<=n/\n<=1000/\xs.length<=1000
   .rw[if_pos hc] at hF;cases hF;obtain⟨p,vs,rfl,h1,r1⟩:=hx.lst;rw[hy.int];refine .inr (.inr ⟨p,n,vs,rfl,rfl,h1,by omega,by omega,?_,λc hc=>?_⟩)
    .rw[r1.length];have h1:xs.length*n.toNat<=1000*1000:=wcl hc.2.2 (by omega)
     exact waq h1 (by decide)
    .have un:=Up.newJ ja hc (.lst (List.replicate n.toNat vs).flatten)
     exact w _ _ _ un (.lst zah (.inr rfl) ((r1.rep _).keep un.keep))
   .rw[if_neg hc] at hF;cases hF
def dV:D->V
|.non=>.non
|.bl b=>.bl b
|.int i=>.int i
|.str x=>.str x
|_=>.ty ""
def zhi:D->Bool
|.non=>true
|.int _=>true
|.str _=>true
|_=>false
def zav {p q:Prop}[Decidable p][Decidable q](h:p↔q):decide p=decide q:=by
 by_cases hp:p
 .rw[waE hp,waE (h.mp hp)]
 .rw[wav hp,wav (λz=>hp (h.mpr z))]
def dIn (neg:Bool):D->D->Option D
|x,.lst ds=>if zhi x=true/\ds.all zhi=true then some (.bl (if neg then !decide (x∈ds) else decide (x∈ds))) else none
|x,.tup ds=>if zhi x=true/\ds.all zhi=true then some (.bl (if neg then !decide (x∈ds) else decide (x∈ds))) else none
|_,_=>none
def dIs (neg:Bool):D->D->Option D
|d,.non=>some (.bl (if neg then !decide (d=.non) else decide (d=.non)))
|_,_=>none
def zjc {H:Hp}{J:Addr->Prop}{v:V}{d:D}(r:RpW K H J v d):v=.non↔d=.non:=by
 rcases r with r|⟨A,r⟩
 .cases r <;> simp
 .cases r <;> simp
def znc:Im2 K (λx y H Q=>y=.non/\Q (.bl (decide (x=.non))) H) (dIs false):=by
 intro H J x y d e d' Q ja hx hy hF w;cases e with
|non=>
   cases hF;refine⟨hy.non,?_⟩;rw[zav (zjc hx)];exact w _ H J (Up.refl ja) (.bl _)
|_=>cases hF
def znd:Im2 K (λx y H Q=>y=.non/\Q (.bl (!decide (x=.non))) H) (dIs true):=by
 intro H J x y d e d' Q ja hx hy hF w;cases e with
|non=>
   cases hF;refine⟨hy.non,?_⟩;rw[zav (zjc hx)];exact w _ H J (Up.refl ja) (.bl _)
|_=>cases hF
def dIx:D->D->Option D
|.lst ds,.int i=>atI ds i
|.tup ds,.int i=>atI ds i
|.str z,.int i=>if z.length<=lim then(atI z.cps.toList i).map λc=>.str ⟨#[c]⟩ else none
|_,_=>none
def zpd:Im2 K (rIx K) dIx:=by
 intro H J x y d e d' Q ja hx hy hF w;match d,e,hF with
|.lst ds,.int i,hF=>
   have hF:atI ds i=some d':=hF
   obtain⟨p,vs,rfl,h1,r1⟩:=hx.lst;obtain⟨v,hv,rv⟩:=r1.at hF;rw[hy.int];exact .inl ⟨p,vs,i,v,rfl,rfl,SqL.of h1,hv,w v H J (Up.refl ja) rv⟩
|.tup ds,.int i,hF=>
   have hF:atI ds i=some d':=hF
   obtain⟨p,vs,rfl,h1,r1⟩:=hx.tup;obtain⟨v,hv,rv⟩:=r1.at hF;rw[hy.int];exact .inr (.inl ⟨p,vs,i,v,rfl,rfl,h1,hv,w v H J (Up.refl ja) rv⟩)
|.str z,.int i,hF=>
   have hF:(if z.length<=lim then(atI z.cps.toList i).map λc=>D.str ⟨#[c]⟩ else none)=some d':=hF
   by_cases hl:z.length<=lim
   .rw[if_pos hl] at hF;cases q:atI z.cps.toList i with
   |none=>rw[q] at hF;cases hF
   |some c=>
      rw[q] at hF;cases hF;rw[hx.str,hy.int];exact .inr (.inr ⟨z,i,c,rfl,rfl,zbV hl,q,w _ H J (Up.refl ja) (.str _)⟩)
   .rw[if_neg hl] at hF;cases hF
variable {a b:Expr}{fa fb:FE}{pos p2:Pos}
def zaM (ha:VW X a fa)(hb:VW X b fb)(hs:zc4 b:=by exact λ_ _=>rfl):VE X (.Subscript a b pos) (e2 dIx fa fb):=by
 obtain⟨ta,pa,ga⟩:=ha;obtain⟨tb,pb,gb⟩:=hb;exact⟨_,zhQ zfH pa pb hs,zkX zpd ga gb⟩
def cut {α:Type}(xs:List α)(lo hi:Option Int):List α:=(xs.drop (HT.sIx xs.length 0 lo)).take (HT.sIx xs.length xs.length hi - HT.sIx xs.length 0 lo)
theorem RpL.cut {H:Hp}{J:Addr->Prop}{vs:List V}{ds:List D}(r:RpL K H J vs ds)(lo hi:Option Int):RpL K H J (cutV vs lo hi) (VD.cut ds lo hi):=by
 unfold cutV VD.cut;rw[r.length];exact(r.drop _).take _
def dSl:D->Option Int->Option Int->Option D
|.lst ds,lo,hi=>some (.lst (cut ds lo hi))
|.tup ds,lo,hi=>if HT.sIx ds.length 0 lo=0/\HT.sIx ds.length ds.length hi=ds.length then none else some (.tup (cut ds lo hi))
|.str z,lo,hi=>if z.length<=lim then some (.str (Txt.slice z lo hi)) else none
|_,_,_=>none
abbrev FO:=En->Option (Option Int)
def GoO (K:W.Frag)(t:TO)(f:FO):Prop:=∀Hz Jz O Z Y H J o Q,ST K Hz Jz O Z Y H J->f Z=some o->(∀H' J',Up H J H' J'->Q o H')->t Y H Q
def VO (X:Cx)(e:Option Expr)(f:FO):Prop:=∃t,PO X e t/\GoO X.K t f
def oN:FO:=λ_=>some none
def dInt:D->Option Int
|.int i=>some i
|_=>none
def oS (f:FE):FO:=λZ=>(f Z).bind λd=>(dInt d).bind λi=>some (some i)
def zdv:VO X none oN:=⟨_,ziL,λHz Jz O Z Y H J o Q s e w=>by cases e;exact w H J (Up.refl s.ja)⟩
def zdw (h:VE X a fa):VO X (some a) (oS fa):=by
 obtain⟨t,p,g⟩:=h;refine⟨_,ziM p,?_⟩;intro Hz Jz O Z Y H J o Q s e w;obtain⟨d,e1,e⟩:=bind_some e;obtain⟨i,e2,e⟩:=bind_some e;cases e;refine g Hz Jz O Z Y H J d _ s e1 λv H1 J1 u1 r1=>?_
 cases d with
|int k=>cases e2;cases r1;exact⟨_,rfl,w H1 J1 u1⟩
|_=>cases e2
def eSl (f:FE)(lo hi:FO):FE:=λZ=>(f Z).bind λx=>(lo Z).bind λl=>(hi Z).bind λh=>dSl x l h
def rSlD (K:W.Frag):V->Option Int->Option Int->Hp->VK->Prop:=λx lo hi H Q=>rSlL K x lo hi H Q\/rSlT K x lo hi H Q\/rSlS x lo hi H Q
def zdT {lo hi:Option Expr}{fl fh:FO}(ha:VW X a fa)(hl:VO X lo fl)(hh:VO X hi fh):VE X (.Subscript a (.Slice lo hi none p2) pos) (eSl fa fl fh):=by
 obtain⟨t,p,g⟩:=ha;obtain⟨tl,pl,gl⟩:=hl;obtain⟨th,ph,gh⟩:=hh;refine⟨_,ze3 (r:=rSlD X.K) (sl_list.or (sl_tup.or ziS)) p pl ph,?_⟩;intro Hz Jz O Z Y H J d Q s e w;obtain⟨x,e1,e⟩:=bind_some e;obtain⟨l,e2,e⟩:=bind_some e;obtain⟨h,e3,e⟩:=bind_some e;refine g Hz Jz O Z Y H J x _ s e1 λv H1 J1 u1 r1=>?_
 refine gl Hz Jz O Z Y H1 J1 l _ (s.up u1) e2 λH2 J2 u2=>?_
 refine gh Hz Jz O Z Y H2 J2 h _ (s.up (u1.trans u2)) e3 λH3 J3 u3=>?_
 have r3:=r1.up (u2.trans u3)
 have u:=u1.trans (u2.trans u3)
 match x,e with
|.lst ds,e=>
   cases e;obtain⟨p,vs,rfl,h1,rl⟩:=r3.lst;refine .inl ⟨p,vs,rfl,SqL.of h1,λc hc=>?_⟩;have un:=Up.newJ u3.ja hc (.lst (cutV vs l h))
   exact w _ _ _ (u.trans un) (.lst zah (.inr rfl) ((rl.cut l h).keep un.keep))
|.tup ds,e=>
   have e:(if HT.sIx ds.length 0 l=0/\HT.sIx ds.length ds.length h=ds.length then none else some (D.tup (cut ds l h)))=some d:=e
   by_cases hc:HT.sIx ds.length 0 l=0/\HT.sIx ds.length ds.length h=ds.length
   .rw[if_pos hc] at e;cases e
   .rw[if_neg hc] at e;cases e;obtain⟨p,vs,rfl,h1,rl⟩:=r3.tup;refine .inr (.inl ⟨p,vs,rfl,h1,by rw[rl.length];exact hc,λc hc=>?_⟩);have un:=Up.new u3.ja hc (.tup (cutV vs l h))
    exact w _ _ _ (u.trans un) (.tup (SqT.of zah) ((rl.cut l h).keep un.keep))
|.str z,e=>
   have e:(if z.length<=lim then some (D.str (Txt.slice z l h)) else none)=some d:=e
   by_cases hc:z.length<=lim
   .rw[if_pos hc] at e;cases e;rw[r3.str];exact .inr (.inr ⟨z,rfl,zbV hc,w _ _ _ u (.str _)⟩)
   .rw[if_neg hc] at e;cases e
def dLst:D->Option (List D)
|.lst ds=>some ds
|_=>none
def aRev (f:FE):FA:=λZ=>(f Z).bind λd=>(dLst d).bind λds=>some ds.reverse
def zmf {p3 p4:Pos}{j:Nat}(ha:VW X a fa):VN X (.Subscript a (.Slice none none (some (.UnaryOp .USub (.Constant (.int 1) j p3) p4)) p2) pos) (aRev fa):=by
 obtain⟨t,p,g⟩:=ha;refine⟨_,zoY p,?_⟩;intro Hz Jz O Z Y H J ds Q s e w;obtain⟨x,e1,e⟩:=bind_some e;obtain⟨xs,e2,e⟩:=bind_some e;cases e;refine g Hz Jz O Z Y H J x _ s e1 λv H1 J1 u1 r1=>?_
 cases x with
|lst ds=>
   cases e2;obtain⟨p,vs,rfl,h1,rl⟩:=r1.lst;refine⟨p,vs,rfl,SqL.of h1,λc hc=>?_⟩;have un:=Up.new u1.ja hc (.lst vs.reverse)
   exact w c _ _ _ (u1.trans un) (u1.same.free hc) (λj=>u1.ja c j hc) zah (rl.reverse.keep un.keep)
|_=>cases e2
def RpWL.one {H:Hp}{J:Addr->Prop}{vs:List V}{d:D}(h:RpWL K H J vs [d]):∃v,vs = [v]/\RpW K H J v d:=by
 match vs,h with
|[v],h=>exact⟨v,rfl,h.1⟩
|[],h=>exact h.elim
|_::_::_,h=>exact h.2.elim
def RpWL.two {H:Hp}{J:Addr->Prop}{vs:List V}{d e:D}(h:RpWL K H J vs [d,e]):∃v u,vs = [v,u]/\RpW K H J v d/\RpW K H J u e:=by
 match vs,h with
|[v,u],h=>exact⟨v,u,rfl,h.1,h.2.1⟩
|[],h=>exact h.elim
|[_],h=>exact h.2.elim
|_::_::_::_,h=>exact h.2.2.elim
def bLen:List D->Option D
|[.lst ds]=>some (.int ds.length)
|[.tup ds]=>some (.int ds.length)
|[.str z]=>if z.length<=lim then some (.int z.length) else none
|_=>none
def zbM:ImC K (λxs H Q=>∃x n,xs = [x]/\LenV K x H n/\Q (.int n) H) bLen:=by
 intro H J vs ds d Q ja r hF w;match ds,r,hF with
|[.lst ds],r,hF=>
   obtain⟨v,rfl,rr⟩:=r.one;cases hF;obtain⟨p,us,rfl,h1,rl⟩:=rr.lst;refine⟨_,us.length,rfl,.inl ⟨us,SqL.of h1,rfl⟩,?_⟩;rw[rl.length];exact w _ H J (Up.refl ja) (.int _)
|[.tup ds],r,hF=>
   obtain⟨v,rfl,rr⟩:=r.one;cases hF;obtain⟨p,us,rfl,h1,rl⟩:=rr.tup;refine⟨_,us.length,rfl,.inr ⟨us,h1,rfl⟩,?_⟩;rw[rl.length];exact w _ H J (Up.refl ja) (.int _)
|[.str z],r,hF=>
   obtain⟨v,rfl,rr⟩:=r.one;have hF:(if z.length<=lim then some (D.int z.length) else none)=some d:=hF
   by_cases hl:z.length<=lim
   .rw[if_pos hl] at hF;cases hF;rw[rr.str];exact⟨_,z.length,rfl,⟨zbV hl,rfl⟩,w _ H J (Up.refl ja) (.int _)⟩
   .rw[if_neg hl] at hF;cases hF
def bMax:List D->Option D
|[.int i,.int j]=>some (.int (if j>i then j else i))
|_=>none
def bMin:List D->Option D
|[.int i,.int j]=>some (.int (if j<i then j else i))
|_=>none
def zpe:ImC K (λxs H Q=>∃i j,xs = [.int i,.int j]/\Q (.int (if j>i then j else i)) H) bMax:=by
 intro H J vs ds d Q ja r hF w;match ds,r,hF with
|[.int i,.int j],r,hF=>obtain⟨v,u,rfl,q1,q2⟩:=r.two;cases hF;exact⟨i,j,by rw[q1.int,q2.int],w _ H J (Up.refl ja) (.int _)⟩
def zjd:ImC K (λxs H Q=>∃i j,xs = [.int i,.int j]/\Q (.int (if j<i then j else i)) H) bMin:=by
 intro H J vs ds d Q ja r hF w;match ds,r,hF with
|[.int i,.int j],r,hF=>obtain⟨v,u,rfl,q1,q2⟩:=r.two;cases hF;exact⟨i,j,by rw[q1.int,q2.int],w _ H J (Up.refl ja) (.int _)⟩
def bInt:List D->Option D
|[.int i]=>some (.int i)
|[.bl k]=>some (.int (if k then 1 else 0))
|_=>none
def zpf:ImC K (λxs H Q=>(∃i,xs = [.int i]/\Q (.int i) H)\/∃k,xs = [.bl k]/\Q (.int (if k then 1 else 0)) H) bInt:=by
 intro H J vs ds d Q ja r hF w;match ds,r,hF with
|[.int i],r,hF=>obtain⟨v,rfl,rr⟩:=r.one;cases hF;exact .inl ⟨i,by rw[rr.int],w _ H J (Up.refl ja) (.int _)⟩
|[.bl i],r,hF=>obtain⟨v,rfl,rr⟩:=r.one;cases hF;exact .inr ⟨i,by rw[rr.bl],w _ H J (Up.refl ja) (.int _)⟩
def bList:List D->Option D
|[.lst ds]=>some (.lst ds)
|[.tup ds]=>some (.lst ds)
|_=>none
def bTuple:List D->Option D
|[.lst ds]=>some (.tup ds)
|[.tup ds]=>some (.tup ds)
|_=>none
def zdc:ImC K (λxs H Q=>∃p ys,xs = [.ref p]/\((SqL K H p ys/\∀l,H l=none->Q (.ref l) (upd H l (.tup ys)))\/(SqT K H p ys/\Q (.ref p) H))) bTuple:=by
 intro H J vs ds d Q ja r hF w;match ds,r,hF with
|[.lst ds],r,hF=>
   obtain⟨v,rfl,rr⟩:=r.one;cases hF;obtain⟨p,us,rfl,h1,rl⟩:=rr.lst;refine⟨p,us,rfl,.inl ⟨SqL.of h1,λc hc=>?_⟩⟩;have un:=Up.new ja hc (.tup us)
   exact w _ _ _ un (.tup (SqT.of zah) (rl.keep un.keep))
|[.tup ds],r,hF=>
   obtain⟨v,rfl,rr⟩:=r.one;cases hF;obtain⟨p,us,rfl,h1,rl⟩:=rr.tup;exact⟨p,us,rfl,.inr ⟨h1,w _ H J (Up.refl ja) (.tup h1 rl)⟩⟩
end
def Src (K:W.Frag)(I:It)(H:Hp)(J:Addr->Prop)(ds:List D):Prop:=∀H2 J2,Keep K H J H2 J2->(∀a,J2 a->H2 a≠none)->
 I.stop ds.length H2/\∀i d,ds[i]?=some d->I.go i H2/\∀x H3,I.yld i H2 x H3->∃J3,Up H2 J2 H3 J3/\Rp K H3 J3 x d
def GoI (K:W.Frag)(wi:TI)(f:FA):Prop:=∀Hz Jz O Z Y H J ds R,ST K Hz Jz O Z Y H J->f Z=some ds->(∀I H' J',Up H J H' J'->Src K I H' J' ds->R I H')->wi Y H R
def VI (X:Cx)(tg iter:Expr)(f:FA):Prop:=∃wi,PI X tg iter wi/\GoI X.K wi f
section
variable {X:Cx}{K:W.Frag}{tg a b:Expr}{fa fb:FE}{fl:FA}{pos p:Pos}
def zpg {wi wi':TI}{iter:Expr}(h:PI X tg iter wi)(h':PI X tg iter wi'):PI X tg iter (λY H R=>wi Y H R\/wi' Y H R):=by
 intro pins s Y H R I q;rcases q with q|q
 .exact h pins s Y H R I q
 .exact h' pins s Y H R I q
def dSeq:D->Option (List D)
|.lst ds=>some ds
|.tup ds=>some ds
|_=>none
def aSeq (f:FE):FA:=λZ=>(f Z).bind dSeq
def zca (h:VE X a fa):VI X tg a (aSeq fa):=by
 obtain⟨t,p,g⟩:=h;refine⟨_,zpg (zmS p) (zoF p),?_⟩;intro Hz Jz O Z Y H J ds R s e w;obtain⟨x,e1,e⟩:=bind_some e;cases x with
|lst xs=>
   cases e;refine .inl (g Hz Jz O Z Y H J _ _ s e1 λv H1 J1 u1 r1=>?_);cases r1 with
  |lst h j r=>
     refine⟨_,rfl,⟨_,SqL.of h⟩,w _ H1 J1 u1 λH2 J2 k ja=>?_⟩;have h2:=k.jo _ _ j h
     refine⟨⟨_,SqL.of h2,by rw[r.length];exact wal _⟩,λi d hd=>?_⟩;obtain⟨v,hv,rv⟩:=r.get hd;refine⟨⟨_,v,SqL.of h2,hv⟩,λx H3 y=>?_⟩;obtain⟨rfl,y⟩:=y;have e:=y _ (SqL.of h2)
     rw[hv] at e;cases e;exact⟨J2,Up.refl ja,rv.keep k⟩
|tup xs=>
   cases e;refine .inr (g Hz Jz O Z Y H J _ _ s e1 λv H1 J1 u1 r1=>?_);cases r1 with
  |tup h r=>
     refine⟨_,rfl,⟨_,h⟩,w _ H1 J1 u1 λH2 J2 k ja=>?_⟩;have h2:=k.tp _ _ h
     refine⟨⟨_,h2,by rw[r.length];exact wal _⟩,λi d hd=>?_⟩;obtain⟨v,hv,rv⟩:=r.get hd;refine⟨⟨_,v,h2,hv⟩,λx H3 y=>?_⟩;obtain⟨rfl,y⟩:=y;have e:=y _ h2
     rw[hv] at e;cases e;exact⟨J2,Up.refl ja,rv.keep k⟩
|_=>cases e
def zbe (lo:Int)(n:Nat):List D:=(List.range n).map λ(i:Nat)=>.int (lo+(i:Int))
def zje {H:Hp}{J:Addr->Prop}(lo:Int)(n:Nat):Src K (Itr lo n) H J (zbe lo n):=by
 intro H2 J2 k ja;have hl:(zbe lo n).length=n:=by simp[zbe]
 rw[hl];refine⟨wal _,λi d hd=>?_⟩;have hi:i<n:=by rw[<-hl];exact(waa.mp hd).1
 refine⟨hi,λx H3 y=>?_⟩;obtain⟨rfl,rfl⟩:=y;unfold zbe at hd;rw[waj,wcj hi] at hd;cases hd;exact⟨J2,Up.refl ja,.int _⟩
def a1Int:List D->Option Int
|[.int i]=>some i
|_=>none
def aRng1 (f:FA):FA:=λZ=>(f Z).bind λl=>(a1Int l).bind λj=>if -1000000<=j/\j<=1000000 then some (zbe 0 j.toNat) else none
def zd8 (B:Blt X.mg)(ha:VA X [a] fl)(hg:Gl X "range":=by rfl)(hs:starEach [a] X.env = [(false,eval a X.env)]:=by rfl):VI X tg (.Call (.Name "range" p) [a] [] pos) (aRng1 fl):=by
 obtain⟨t,p,g⟩:=ha;refine⟨_,ziu hg (B.get "range") p hs,?_⟩;intro Hz Jz O Z Y H J ds R s e w;obtain⟨l,e1,e⟩:=bind_some e;obtain⟨j,e2,e⟩:=bind_some e;by_cases hj:-1000000<=j/\j<=1000000
 .rw[if_pos hj] at e;cases e;refine g Hz Jz O Z Y H J _ _ s e1 λvs H1 J1 u1 r1=>?_
  match l,e2,r1 with
 |[.int i],e2,r1=>
    cases e2;cases r1 with
   |cons h t=>cases t;cases h;exact⟨j,rfl,by omega,by omega,w _ H1 J1 u1 (zje 0 _)⟩
 .rw[if_neg hj] at e;cases e
def zdM (ds:List D):List D:=ds.zipIdx.map λp=>.tup [.int (p.2:Nat),p.1]
def a1Tup:List D->Option (List D)
|[.tup ds]=>some ds
|_=>none
def aEnum (f:FA):FA:=λZ=>(f Z).bind λl=>(a1Tup l).bind λds=>some (zdM ds)
def zcA (ds:List D):(zdM ds).length=ds.length:=by simp[zdM]
def zd9 {ds:List D}{i:Nat}{d:D}(h:(zdM ds)[i]?=some d):∃x,ds[i]?=some x/\d=.tup [.int (i:Nat),x]:=by
 unfold zdM at h;rw[waj,List.getElem?_zipIdx] at h;cases q:ds[i]? with
|none=>rw[q] at h;cases h
|some x=>rw[q] at h;simp at h;exact⟨x,rfl,h.symm⟩
def zne {elts:List Expr}{x1}{tpos:Pos}(B:Blt X.mg)(ha:VA X [a] fl)(hg:Gl X "enumerate":=by rfl)(hs:starEach [a] X.env = [(false,eval a X.env)]:=by rfl):VI X (.Tuple elts x1 tpos) (.Call (.Name "enumerate" p) [a] [] pos) (aEnum fl):=by
 obtain⟨t,p,g⟩:=ha;refine⟨_,ziX hg (B.get "enumerate") p hs,?_⟩;intro Hz Jz O Z Y H J ds R s e w;obtain⟨l,e1,e⟩:=bind_some e;obtain⟨xs,e2,e⟩:=bind_some e;cases e;refine g Hz Jz O Z Y H J _ _ s e1 λvs H1 J1 u1 r1=>?_
 match l,e2,r1 with
|[.tup _],e2,r1=>
   cases e2;cases r1 with
  |cons h t=>
     cases t;cases h with
    |tup h r=>
       refine⟨_,rfl,⟨_,h⟩,w _ H1 J1 u1 λH2 J2 k ja=>?_⟩;have h2:=k.tp _ _ h
       refine⟨⟨_,h2,by rw[r.length,zcA];exact wal _⟩,λi d hd=>?_⟩;obtain⟨x,hx,rfl⟩:=zd9 hd;obtain⟨v,hv,rv⟩:=r.get hx;refine⟨⟨_,v,h2,hv⟩,λy H3 hy=>?_⟩;obtain⟨q,hn,rfl,hy⟩:=hy;obtain⟨y,ey,rfl⟩:=hy _ h2;rw[hv] at ey;cases ey;have un:=Up.new ja hn (.tup [.int (i:Nat),v])
       exact⟨J2,un,.tup (SqT.of zah) (.cons (.int _) (.cons ((rv.keep k).keep un.keep) .nil))⟩
end
abbrev FG:=D->En->Option En
abbrev FGs:=List D->En->Option En
def Only (is:List Nat)(Z Z':En):Prop:=Z'.length=Z.length/\∀j,j∉is->Z'[j]?=Z[j]?
def GoG (K:W.Frag)(g:TG)(is:List Nat)(f:FG):Prop:=(∀d Z Z',f d Z=some Z'->Only is Z Z')/\∀Hz Jz O Z Y H J v d Z' Q,ST K Hz Jz O Z Y H J->Rp K H J v d->f d Z=some Z'->(∀Y',ST K Hz Jz O Z' Y' H J->Q Y' H)->g v Y H Q
def GoGs (K:W.Frag)(g:TGs)(is:List Nat)(f:FGs):Prop:=(∀d Z Z',f d Z=some Z'->Only is Z Z')/\∀Hz Jz O Z Y H J vs ds Z' Q,ST K Hz Jz O Z Y H J->RpL K H J vs ds->f ds Z=some Z'->(∀Y',ST K Hz Jz O Z' Y' H J->Q Y' H)->g vs Y H Q
def VG (X:Cx)(tg:Expr)(is:List Nat)(f:FG):Prop:=∃g,PG X tg g/\GoG X.K g is f
def VGs (X:Cx)(tgs:List Expr)(is:List Nat)(f:FGs):Prop:=∃g,PGs X tgs g/\GoGs X.K g is f
def isPar:Option SV->Bool
|some (.par _ _)=>true
|_=>false
def zbY {x:Option SV}(h:isPar x=false):∀n d,x≠some (.par n d):=λn d e=>by rw[e] at h;cases h
def gN (i:Nat):FG:=λd Z=>if i<Z.length/\isPar (Z[i]?)=false then some (Z.set i (.val d)) else none
def gNil':FGs:=λds Z=>if ds = [] then some Z else none
def gCons' (f:FG)(g:FGs):FGs:=λds Z=>match ds with|d::r=>(f d Z).bind λZ1=>g r Z1|[]=>none
def gT (n:Nat)(f:FGs):FG:=λd Z=>match d with|.tup ds=>if ds.length=n then f ds Z else none|_=>none
def zgC {K:W.Frag}{i:Nat}:GoG K (zdL i) [i] (gN i):=by
 refine⟨λd Z Z' h=>?_,λHz Jz O Z Y H J v d Z' Q s r e w=>?_⟩
 .unfold gN at h;by_cases hi:i<Z.length/\isPar (Z[i]?)=false
  .rw[if_pos hi] at h;cases h;exact⟨by simp,λj hj=>wah (λz=>hj (by simp[z]))⟩
  .rw[if_neg hi] at h;cases h
 .unfold gN at e;by_cases hi:i<Z.length/\isPar (Z[i]?)=false
  .rw[if_pos hi] at e;cases e;exact w _ (s.set r hi.1 (zbY hi.2))
  .rw[if_neg hi] at e;cases e
theorem Only.trans {is js:List Nat}{Z Z1 Z2:En}(a:Only is Z Z1)(b:Only js Z1 Z2):Only (is++js) Z Z2:=⟨b.1.trans a.1,λj hj=>by
 rw[wax] at hj;rw[b.2 j (λz=>hj (.inr z)),a.2 j (λz=>hj (.inl z))]⟩
def znf {K:W.Frag}:GoGs K gNil [] gNil':=by
 refine⟨λd Z Z' h=>?_,λHz Jz O Z Y H J vs ds Z' Q s r e w=>?_⟩
 .unfold gNil' at h;by_cases hd:d = []
  .rw[if_pos hd] at h;cases h;exact⟨rfl,λ_ _=>rfl⟩
  .rw[if_neg hd] at h;cases h
 .unfold gNil' at e;by_cases hd:ds = []
  .rw[if_pos hd] at e;cases e;subst hd;cases r;exact⟨rfl,w _ s⟩
  .rw[if_neg hd] at e;cases e
def zk2 {K:W.Frag}{g:TG}{gs:TGs}{is js:List Nat}{f:FG}{fs:FGs}(h1:GoG K g is f)(h2:GoGs K gs js fs):GoGs K (zoC g gs) (is++js) (gCons' f fs):=by
 refine⟨λd Z Z' h=>?_,λHz Jz O Z Y H J vs ds Z' Q s r e w=>?_⟩
 .cases d with
 |nil=>cases h
 |cons d r=>
    obtain⟨Z1,e1,e2⟩:=bind_some (show((f d Z).bind λZ1=>fs r Z1)=some Z' from h);exact(h1.1 _ _ _ e1).trans (h2.1 _ _ _ e2)
 .cases ds with
 |nil=>cases e
 |cons d ds=>
    obtain⟨Z1,e1,e2⟩:=bind_some (show((f d Z).bind λZ1=>fs ds Z1)=some Z' from e);cases r with
   |cons r1 r2=>
      refine⟨_,_,rfl,h1.2 Hz Jz O Z Y H J _ d Z1 _ s r1 e1 λY1 s1=>?_⟩;exact h2.2 Hz Jz O Z1 Y1 H J _ ds Z' _ s1 r2 e2 w
def zng {K:W.Frag}{n:Nat}{gs:TGs}{is:List Nat}{fs:FGs}(h:GoGs K gs is fs):GoG K (gTup K n gs) is (gT n fs):=by
 refine⟨λd Z Z' e=>?_,λHz Jz O Z Y H J v d Z' Q s r e w=>?_⟩
 .cases d with
 |tup ds=>
    have e:(if ds.length=n then fs ds Z else none)=some Z':=e
    by_cases hn:ds.length=n
    .rw[if_pos hn] at e;exact h.1 _ _ _ e
    .rw[if_neg hn] at e;cases e
 |_=>cases e
 .cases d with
 |tup ds=>
    have e:(if ds.length=n then fs ds Z else none)=some Z':=e
    by_cases hn:ds.length=n
    .rw[if_pos hn] at e;cases r with
    |tup hq rl=>exact⟨_,_,rfl,hq,by rw[rl.length];exact hn,h.2 Hz Jz O Z Y H J _ ds Z' Q s rl e w⟩
    .rw[if_neg hn] at e;cases e
 |_=>cases e
section
variable {X:Cx}{pos:Pos}
def znh {i:Nat}{x:Str}(hN:X.N.Nodup)(hi:X.N[i]?=some x)(hx:Loc X.env.scope x)(hf:X.fn x=true\/X.env.scope.names.lookup x=some .local:=by first|exact .inl rfl|exact .inr rfl|assumption):VG X (.Name x pos) [i] (gN i):=⟨_,zgu hN hi hx hf,zgC⟩
def zc6:VGs X [] [] gNil':=⟨_,zmR,znf⟩
def zaJ {e:Expr}{es:List Expr}{is js:List Nat}{f:FG}{fs:FGs}(h1:VG X e is f)(h2:VGs X es js fs)(hs:(assignEach (e::es) X.env).map (·.2)=assign e X.env::(assignEach es X.env).map (·.2):=by rfl):VGs X (e::es) (is++js) (gCons' f fs):=by
 obtain⟨g,p,q⟩:=h1;obtain⟨gs,ps,qs⟩:=h2;exact⟨_,zkC p ps hs,zk2 q qs⟩
def zea {es:List Expr}{k:Nat}{is:List Nat}{n:Nat}{fs:FGs}(hc:X.calm=true)(h:VGs X es is fs)(hn:(assignEach es X.env).length=n:=by rfl)(hst:(assignEach es X.env).findIdx? (·.1)=none:=by rfl):VG X (.Tuple es k pos) is (gT n fs):=by
 obtain⟨gs,ps,qs⟩:=h;exact⟨_,zoD hc ps hn hst,zng qs⟩
def vgC (i:Nat){X:Cx}{scope:Scope}{cl:List (Str×Addr)}{NC:List Str}{C:Addr}{s0:Shared}{H0:Hp}{ex:List Addr}{pn:List (Addr×Obj)}{x:Str}{pos:Pos}(nd:NC.Nodup)(hi:NC[i]?=some x)(hx:scope.names.lookup x=some .local):VG (cxC X scope cl NC C s0 H0 ex pn) (.Name x pos) [i] (gN i):=⟨_,pgC i nd hi hx,zgC⟩
end
def TEof (K:W.Frag)(f:FE):TE:=λY H Q=>∃Hz Jz O Z J d,ST K Hz Jz O Z Y H J/\f Z=some d/\zgB K H J d Q
def TTof (K:W.Frag)(f:FT):TT:=λY H Q=>∃Hz Jz O Z J b,ST K Hz Jz O Z Y H J/\f Z=some b/\zmc H J b Q
def TGof (K:W.Frag)(f:FG):TG:=λv Y H Q=>∃Hz Jz O Z J d Z',ST K Hz Jz O Z Y H J/\Rp K H J v d/\f d Z=some Z'/\∀Y',ST K Hz Jz O Z' Y' H J->Q Y' H
def VE.of {X:Cx}{e:Expr}{f:FE}(h:VE X e f):PE X e (TEof X.K f):=by
 obtain⟨t,p,g⟩:=h;rintro pins s Y H Q I ⟨Hz,Jz,O,Z,J,d,s1,e1,w⟩;exact p pins s Y H Q I (g Hz Jz O Z Y H J d Q s1 e1 w)
def VT.of {X:Cx}{e:Expr}{f:FT}(h:VT X e f):PT X e (TTof X.K f):=by
 obtain⟨t,p,g⟩:=h;rintro pins s Y H Q I ⟨Hz,Jz,O,Z,J,d,s1,e1,w⟩;exact p pins s Y H Q I (g Hz Jz O Z Y H J d Q s1 e1 w)
def VG.of {X:Cx}{e:Expr}{is:List Nat}{f:FG}(h:VG X e is f):PG X e (TGof X.K f):=by
 obtain⟨t,p,g⟩:=h;rintro pins s Y H v u Q I r ⟨Hz,Jz,O,Z,J,d,Z',s1,r1,e1,w⟩;exact p pins s Y H v u Q I r (g.2 Hz Jz O Z Y H J v d Z' Q s1 r1 e1 w)
def zaS (Z:En)(fr:List (Option Nat)):En:=fr.map λo=>match o with
|none=>.un
|some j=>match Z[j]? with
  |some (.val d)=>.val d
  |_=>.un
def zcW (f:D->Option (Option D)):List D->Option (List D)
|[]=>some []
|d::r=>(f d).bind λo=>(zcW f r).bind λxs=>some (match o with|some x=>x::xs|none=>xs)
def zcf (Z:En)(g:FG)(t:FT)(e:FE)(d:D):Option (Option D):=(g d Z).bind λZ1=>(t Z1).bind λok=>if ok then(e Z1).bind λx=>some (some x) else some none
def ze8 (fr:List (Option Nat))(fi:FA)(g:FG)(t:FT)(e:FE):FA:=λZ=>(fi Z).bind λds=>(zcW (zcf (zaS Z fr) g t e) ds).bind λout=>if out.length<=lim then some out else none
def tTrue:FT:=λ_=>some true
def VTs (X:Cx)(ifs:List Expr)(f:FT):Prop:=PTs X ifs (TTof X.K f)
def zeb {X:Cx}:VTs X [] tTrue:=by
 rintro pins s Y H Q I ⟨Hz,Jz,O,Z,J,d,s1,e1,w⟩;cases e1;exact zm1 pins s Y H Q I (w H J (Up.refl s1.ja))
def zgD {X:Cx}{c:Expr}{f:FT}(h:VT X c f):VTs X [c] f:=zm2 h.of
def zk4 (Y:L2.St)(fr:List (Option Nat)):(pick Y fr).length=fr.length:=by simp[pick]
def zjf (Z:En)(fr:List (Option Nat)):(zaS Z fr).length=fr.length:=by simp[zaS]
section
variable {K:W.Frag}{H H' H1 Hz:Hp}{J J' J1 Jz:Addr->Prop}{Z:En}{Y:L2.St}
def Pr.blk (O:Pr):Pr:=⟨[],O.fpo⟩
def zcg (Z:En)(fr:List (Option Nat)):∀i:Nat,ownD ((zaS Z fr)[i]?)=none:=by
 intro i;unfold zaS;rw[waj];cases q:fr[i]? with
|none=>rfl
|some o=>
   cases o with
  |none=>rfl
  |some j=>
     simp only[Option.map_some];cases z:Z[j]? with
    |none=>rfl
    |some y=>cases y <;> rfl
def zjg {x:Option (Option V)}{s:Option SV}{O:List Addr}(h:ownD s=none):OwAt K Hz H J O x [] s:=by
 match s,h with
|none,_=>rfl
|some .un,_=>rfl
|some (.val _),_=>rfl
theorem ST.pick {O:Pr}(s:ST K Hz Jz O Z Y H J)(fr:List (Option Nat)):ST K Hz Jz O.blk (zaS Z fr) (pick Y fr) H J where
 same:=s.same
 j0:=s.j0
 jn:=s.jn
 ja:=s.ja
 al:=s.al
 ps:=λq hq=>absurd hq (by simp[Pr.blk])
 ow:=⟨λ_=>[],λi=>zjg (zcg Z fr i),λ_=>waZ,λ_ b hb=>absurd hb (by simp),λ_ _ _ b hb=>absurd hb (by simp)⟩
 len:=by rw[zk4,zjf]
 vl:=λi d h=>by
  unfold zaS at h;rw[waj] at h;cases q:fr[i]? with
 |none=>rw[q] at h;cases h
 |some o=>
    rw[q] at h;cases o with
   |none=>simp at h
   |some j=>
      simp only[Option.map_some,Option.some.injEq] at h;cases z:Z[j]? with
     |none=>rw[z] at h;cases h
     |some y=>
        rw[z] at h;cases y with
       |val d'=>
          cases h;obtain⟨v,hv,r⟩:=s.vl j _ z;refine⟨v,?_,r⟩;show(fr.map _)[i]?=_
          rw[waj,q];simp[hv]
       |_=>cases h
def Mt:HO->Prop
|.lst _=>True
|.dK _=>True
|_=>False
def zch {D:Addr}{o0 o:HO}(hD:H D=some o0)(nj:¬J D)(hm:Mt o0:=by exact True.intro):Keep K H J (upd H D o) J:=⟨λ_ h=>h,λp u j h=>by rw[zak (show p≠D from λz=>nj (z▸j))];exact h,λp vs h=>by
 rcases h with(h|⟨u,h⟩)|h
 .refine .inl (.inl ?_);rw[zak];exact h;rintro rfl;rw[h] at hD;cases hD;exact hm
 .refine .inl (.inr ⟨u,?_⟩);rw[zak];exact h;rintro rfl;rw[h] at hD;cases hD;exact hm
 .exact .inr h⟩
def OwAt.nil {x:Option (Option V)}{A:List Addr}{s:Option SV}{O:List Addr}(h:OwAt K Hz H J O x A s)(n:ownD s=none):A = []:=by
 match s,h,n with
|none,h,_=>exact h
|some .un,h,_=>exact h
|some (.val _),h,_=>exact h
theorem ST.at {O:Pr}{D:Addr}{o0 o:HO}(s:ST K Hz Jz O Z Y H J)(no:∀i:Nat,ownD (Z[i]?)=none)(hD:H D=some o0)(nj:¬J D)(h0:Hz D=none)(hm:Mt o0:=by exact True.intro):ST K Hz Jz O Z Y (upd H D o) J where
 same:=λb u hb h=>by rw[zak (show b≠D from λz=>by rw[z,h0] at h;cases h)];exact s.same b u hb h
 j0:=s.j0
 jn:=s.jn
 ja:=λa h=>by
  by_cases e:a=D
  .subst e;rw[zah];simp
  .rw[zak e];exact s.ja a h
 al:=λa h=>by
  by_cases e:a=D
  .subst e;rw[zah];simp
  .rw[zak e];exact s.al a h
 len:=s.len
 vl:=λi d h=>let ⟨v,e,r⟩:=s.vl i d h;⟨v,e,r.keep (zch hD nj hm)⟩
 ps:=s.ps
 ow:=by
  obtain⟨fp,w⟩:=s.ow;refine⟨fp,λi=>(w.at' i).keep (zch hD nj hm) λb hb=>?_,w.nd,w.nj,w.dj⟩;rw[(w.at' i).nil (no i)] at hb;cases hb
theorem Up.at {D:Addr}{ys:List V}{o:HO}(u:Up H1 J1 H J)(h1:H1 D=none):Up H1 J1 (upd H D o) J:=⟨λb v h=>by rw[zak (show b≠D from λz=>by rw[z,h1] at h;cases h)];exact u.same b v h,u.jj,u.jn,λa h=>by
 by_cases e:a=D
 .subst e;rw[zah];simp
 .rw[zak e];exact u.ja a h⟩
end
def apart (is:List Nat)(fr:List (Option Nat)):Bool:=is.all λi=>fr[i]? == some none
def ze9 {Z Z1:En}{fr:List (Option Nat)}{is:List Nat}(o:Only is (zaS Z fr) Z1)(h:apart is fr=true):Weak (zaS Z fr) Z1:=by
 refine⟨o.1.symm,λi=>?_⟩;by_cases hi:i∈is
 .right
  have q:=waN.mp h i hi
  have q':fr[i]?=some none:=by simpa using q
  unfold zaS;rw[waj,q'];rfl
 .left;exact(o.2 i hi).symm
def ST.free {K:W.Frag}{Hz H H1:Hp}{Jz J J1:Addr->Prop}{O:Pr}{Z:En}{Y:L2.St}(s:ST K Hz Jz O Z Y H J)(u:Up H J H1 J1){b:Addr}(h:H1 b=none):Hz b=none:=by
 cases e:Hz b with
|none=>rfl
|some o=>exact absurd h ((s.up u).al b (by rw[e];simp))
def SrcU (K:W.Frag)(I:It)(H:Hp)(J:Addr->Prop)(ds:List D):Prop:=∀H2 J2,Up H J H2 J2->(∀a,J2 a->H2 a≠none)->I.stop ds.length H2/\∀i d,ds[i]?=some d->I.go i H2/\∀x H3,I.yld i H2 x H3->∃J3,Up H2 J2 H3 J3/\Rp K H3 J3 x d
def GoIU (K:W.Frag)(wi:TI)(f:FA):Prop:=∀Hz Jz O Z Y H J ds R,ST K Hz Jz O Z Y H J->f Z=some ds->(∀I H' J',Up H J H' J'->SrcU K I H' J' ds->R I H')->wi Y H R
theorem GoI.u {K:W.Frag}{wi:TI}{f:FA}(h:GoI K wi f):GoIU K wi f:=λHz Jz O Z Y H J ds R s e w=>h Hz Jz O Z Y H J ds R s e λI H' J' u src=>w I H' J' u λH2 J2 u2 ja=>src H2 J2 u2.keep ja
def zk5 {K:W.Frag}{fr:List (Option Nat)}{wi:TI}{fi:FA}{g:FG}{is:List Nat}{ft:FT}{fe:FE}(hi:GoIU K wi fi)(hon:∀d Z Z',g d Z=some Z'->Only is Z Z')(hap:apart is fr=true) :
 GoN K (zfP fr wi (TGof K g) (TTof K ft) (TEof K fe)) (ze8 fr fi g ft fe):=by
 intro Hz Jz O Z Y H J out Q s e w;obtain⟨ds,e1,e⟩:=bind_some e;obtain⟨out',e2,e⟩:=bind_some e;by_cases hl:out'.length<=lim
 .rw[if_pos hl] at e;cases e;refine hi Hz Jz O Z Y H J ds _ s e1 λI H1 J1 u1 src=>?_
  intro Da hD;have hD0:Hz Da=none:=(s.free (u:=u1) hD)
  have nJ1:¬J1 Da:=λj=>u1.ja Da j hD
  refine⟨λi m ys Y2 H2=>m=ds.length - i/\i<=ds.length/\∃J2 dn rs,ST K Hz Jz O.blk (zaS Z fr) Y2 H2 J2/\Up H1 J1 H2 J2/\¬J2 Da/\Keep K H1 J1 H2 J2/\RpL K H2 J2 ys dn/\out=dn++rs/\zcW (zcf (zaS Z fr) g ft fe) (ds.drop i)=some rs,⟨ds.length,by simp,wbn _,?_⟩,?_⟩
  .have un:=Up.new u1.ja hD (.lst [])
   exact⟨J1,[],out,((s.up u1).up un).pick fr,un,nJ1,un.keep,.nil,rfl,by simpa using e2⟩
  .rintro i m ys Y2 H2 ⟨rfl,hil,J2,dn,rs,s2,u2,nj2,k2,r2,eo,ec⟩ hys;obtain⟨stop,turn⟩:=src H2 J2 u2 s2.ja;by_cases hlt:i<ds.length
   .right
    have hd:ds[i]?=some ds[i]:=wap hlt
    generalize hdd:ds[i]=d at hd;obtain⟨go,yl⟩:=turn i d hd;have edrop:ds.drop i=d::ds.drop (i+1):=by rw[<-hdd];exact(wbD hlt).symm
    rw[edrop] at ec;obtain⟨o,eo1,ec⟩:=bind_some (show((zcf (zaS Z fr) g ft fe d).bind λo=>(zcW (zcf (zaS Z fr) g ft fe) (ds.drop (i+1))).bind λxs=>some (match o with|some x=>x::xs|none=>xs))=some rs from ec);obtain⟨rs',er,ec⟩:=bind_some ec;obtain⟨Z1,eg,eo1⟩:=bind_some eo1;obtain⟨ok,et,eo1⟩:=bind_some eo1;refine⟨go,λzs Y' H'=>∃J2 dn rs,ST K Hz Jz O.blk (zaS Z fr) Y' H' J2/\Up H1 J1 H' J2/\¬J2 Da/\Keep K H1 J1 H' J2/\RpL K H' J2 zs dn/\out=dn++rs/\zcW (zcf (zaS Z fr) g ft fe) (ds.drop (i+1))=some rs,λzs Y' H' h=>⟨ds.length - (i+1),by omega,rfl,hlt,h⟩,λx H3 y=>?_⟩;obtain⟨J3,u3,r3⟩:=yl x H3 y;have wk:Weak (zaS Z fr) Z1:=ze9 (hon _ _ _ eg) hap
    refine⟨Hz,Jz,O.blk,zaS Z fr,J3,d,Z1,s2.up u3,r3,eg,λY4 s4=>?_⟩;refine⟨Hz,Jz,O.blk,Z1,J3,ok,s4,et,λH5 J5 u5=>?_⟩;have s5:=s4.up u5
    have u25:=u3.trans u5
    have nj5:¬J5 Da:=λj=>by
     rcases u25.jn Da j with j|j
     .exact nj2 j
     .rw[hys] at j;cases j
    have hy5:H5 Da=some (.lst ys):=u25.same _ _ hys
    refine⟨λhok=>?_,λhok=>?_⟩
    .subst hok;rw[if_pos rfl] at eo1;obtain⟨xd,ex,eo1⟩:=bind_some eo1;cases eo1;cases ec;refine⟨Hz,Jz,O.blk,Z1,J5,xd,s5,ex,λv H6 J6 u6 r6=>?_⟩;have u26:=u25.trans u6
     have nj6:¬J6 Da:=λj=>by
      rcases u6.jn Da j with j|j
      .exact nj5 j
      .rw[hy5] at j;cases j
     have hy6:H6 Da=some (.lst ys):=u6.same _ _ hy5
     have kA:Keep K H6 J6 (upd H6 Da (.lst (ys++[v]))) J6:=zch hy6 nj6
     refine⟨hy6,?_,J6,dn++[xd],rs',?_,(u2.trans u26).at (ys:=ys) hD,nj6,(k2.trans u26.keep).trans kA,((r2.keep u26.keep).append (.cons r6 .nil)).keep kA,by rw[eo];simp,er⟩
     .have:(dn++xd::rs').length<=lim:=by rw[<-eo];exact hl
      rw[wan,waK] at this;rw[r2.length];exact war (by omega:dn.length<lim) (wbp zd5)
     .exact((s5.up u6).weak wk rfl).at (zcg Z fr) hy6 nj6 hD0
    .subst hok;rw[if_neg (by simp)] at eo1;cases eo1;cases ec;exact⟨hy5,J5,dn,rs',s5.weak wk rfl,u2.trans u25,nj5,k2.trans u25.keep,r2.keep u25.keep,eo,er⟩
   .left
    have hi':i=ds.length:=by omega
    subst hi';rw[wbZ] at ec;cases ec;refine⟨stop,?_⟩;rw[waQ] at eo;subst eo;exact w Da ys H2 J2 (u1.trans u2) (u1.same.free hD) nj2 hys r2
 .rw[if_neg hl] at e;cases e
def zgE {K:W.Frag}{fr:List (Option Nat)}{wi:TI}{fi:FA}{g:FG}{is:List Nat}{ft:FT}{fe:FE}(hi:GoI K wi fi)(hon:∀d Z Z',g d Z=some Z'->Only is Z Z')(hap:apart is fr=true):GoN K (zfP fr wi (TGof K g) (TTof K ft) (TEof K fe)) (ze8 fr fi g ft fe):=zk5 hi.u hon hap
def zk6 (N:List Str)(st:Stmt){X:Cx}{elt iter tg:Expr}{ifs:List Expr}{scope:Scope}{pos:Pos}{NC:List Str}(fr:List (Option Nat)){fi:FA}{g:FG}{is:List Nat}{ft:FT}{fe:FE}{RR:Hp->Prop}(hRR:∀pins Y H s,Inv X pins Y H s->RR H)(hcalm:X.calm=true)(hi:VI X tg iter fi)
 (hcells:∀x,X.env.scope.names.lookup x=some .cell->∃c,X.env.cells.lookup x=some c) (hfk:X.env.scope.kind=.function) (hN:X.N=N) (hsc:X.env.scope.names=(zab st).names)
 (hfree':∀y∈scope.names,y.2=.free->(zab st).names.lookup y.1=some .cell) (hcell:∀y∈scope.names,y.2≠.cell) (hkind:scope.kind=.function) (hnames:∀y∈scope.names,y.2=.local->scope.names.lookup y.1=some .local)
 (hfr':zce N (zab st).names scope.names NC fr=true) (hlen:fr.length=NC.length) (hap:apart is fr=true)
 (hg:∀cl C s0 H0 ex pn,VG (cxC X scope cl NC C s0 H0 ex pn) tg is g) (ht:∀cl C s0 H0 ex pn,VTs (cxC X scope cl NC C s0 H0 ex pn) ifs ft) (he:∀cl C s0 H0 ex pn,RR H0->VE (cxC X scope cl NC C s0 H0 ex pn) elt fe)
 (hs:∀x,foldedSetIterable iter X.env x=pure x:=by intro _;rfl):VN X (.ListComp elt [⟨tg,iter,ifs,0⟩] scope pos) (ze8 fr fi g ft fe):=by
 obtain⟨wi,pi,gi⟩:=hi;obtain⟨_,_,hon,_⟩:=hg [] 0 X.s₀ X.Hz [] [];exact⟨_,zi3 N st fr hRR hcalm pi hcells hfk hN hsc hfree' hcell hkind hnames hfr' hlen (λcl C s0 H0 ex pn=>(hg cl C s0 H0 ex pn).of) (λcl C s0 H0 ex pn=>show PTs (cxC X scope cl NC C s0 H0 ex pn) ifs (TTof X.K ft) from ht cl C s0 H0 ex pn) (λcl C s0 H0 ex pn r=>(he cl C s0 H0 ex pn r).of) hs,zgE gi hon hap⟩
def zni (N:List Str)(st:Stmt){X:Cx}{elt iter tg:Expr}{ifs:List Expr}{scope:Scope}{pos:Pos}{NC:List Str}(fr:List (Option Nat)){fi:FA}{g:FG}{is:List Nat}{ft:FT}{fe:FE}(hcalm:X.calm=true)(hi:VI X tg iter fi)
 (hcells:∀x,X.env.scope.names.lookup x=some .cell->∃c,X.env.cells.lookup x=some c) (hfk:X.env.scope.kind=.function) (hN:X.N=N) (hsc:X.env.scope.names=(zab st).names)
 (hfree':∀y∈scope.names,y.2=.free->(zab st).names.lookup y.1=some .cell) (hcell:∀y∈scope.names,y.2≠.cell) (hkind:scope.kind=.function) (hnames:∀y∈scope.names,y.2=.local->scope.names.lookup y.1=some .local)
 (hfr':zce N (zab st).names scope.names NC fr=true) (hlen:fr.length=NC.length) (hap:apart is fr=true)
 (hg:∀cl C s0 H0 ex pn,VG (cxC X scope cl NC C s0 H0 ex pn) tg is g) (ht:∀cl C s0 H0 ex pn,VTs (cxC X scope cl NC C s0 H0 ex pn) ifs ft) (he:∀cl C s0 H0 ex pn,VE (cxC X scope cl NC C s0 H0 ex pn) elt fe)
 (hs:∀x,foldedSetIterable iter X.env x=pure x:=by intro _;rfl):VN X (.ListComp elt [⟨tg,iter,ifs,0⟩] scope pos) (ze8 fr fi g ft fe):=
 zk6 (RR:=λ_=>True) N st fr (λ_ _ _ _ _=>trivial) hcalm hi hcells hfk hN hsc hfree' hcell hkind hnames hfr' hlen hap hg ht (λcl C s0 H0 ex pn _=>he cl C s0 H0 ex pn) hs
inductive RV where
|told (d:D)|new (n:Nat) (d:D)
inductive Out where
|nx (Z:En)|ret (r:RV) (Z:En)|bk (Z:En)|ct (Z:En)
abbrev FS:=En->Option Out
def RtAt (K:W.Frag)(Hz:Hp)(O:Pr)(Z:En)(Y:L2.St)(H:Hp)(J:Addr->Prop)(v:V):RV->Prop
|.told d=>Rp K H J v d
|.new n d=>∃A fp,Ow K Hz O Z Y H J fp/\RpU K H J n v d A/\A.Nodup/\(∀b∈A,¬J b/\Hz b=none)/\∀i:Nat,∀b∈A,b∉fp i
def Fits (K:W.Frag)(Hz:Hp)(Jz:Addr->Prop)(O:Pr)(H:Hp)(J:Addr->Prop)(E:Ends):Out->Prop
|.nx Z'=>∀Y' H' J',ST K Hz Jz O Z' Y' H' J'->Keep K H J H' J'->E.nx Y' H'
|.bk Z'=>∀Y' H' J',ST K Hz Jz O Z' Y' H' J'->Keep K H J H' J'->E.bk Y' H'
|.ct Z'=>∀Y' H' J',ST K Hz Jz O Z' Y' H' J'->Keep K H J H' J'->E.ct Y' H'
|.ret r Z'=>∀v Y' H' J',ST K Hz Jz O Z' Y' H' J'->RtAt K Hz O Z' Y' H' J' v r->E.rt v H'
def Fits.keep {K:W.Frag}{Hz:Hp}{Jz:Addr->Prop}{O:Pr}{H H1:Hp}{J J1:Addr->Prop}{E:Ends}(k:Keep K H J H1 J1):∀{o:Out},Fits K Hz Jz O H J E o->Fits K Hz Jz O H1 J1 E o
|.nx _,h=>λY' H' J' s q=>h Y' H' J' s (k.trans q)
|.bk _,h=>λY' H' J' s q=>h Y' H' J' s (k.trans q)
|.ct _,h=>λY' H' J' s q=>h Y' H' J' s (k.trans q)
|.ret _ _,h=>h
def GoS (K:W.Frag)(t:TS)(g:FS):Prop:=∀Hz Jz O Z Y H J o E,ST K Hz Jz O Z Y H J->g Z=some o->Fits K Hz Jz O H J E o->t E Y H
def VS (X:Cx)(st:Stmt)(g:FS):Prop:=∃t,PS X st t/\GoS X.K t g
def VSs (X:Cx)(sts:List Stmt)(g:FS):Prop:=∃t,PSs X sts t/\GoS X.K t g
def gSeq (a b:FS):FS:=λZ=>(a Z).bind λo=>match o with
|.nx Z'=>b Z'
|.bk Z'=>some (.bk Z')
|.ct Z'=>some (.ct Z')
|.ret d Z'=>some (.ret d Z')
def gNx:FS:=λZ=>some (.nx Z)
def RpL.one {K:W.Frag}{H:Hp}{J:Addr->Prop}{vs:List V}{d:D}(r:RpL K H J vs [d]):∃v,vs = [v]/\Rp K H J v d:=by
 cases r with
|cons h t=>cases t;exact⟨_,rfl,h⟩
section
variable {X:Cx}{K:W.Frag}{st:Stmt}{sts:List Stmt}{g g2:FS}{pos:Pos}{e a:Expr}{fa:FE}{fl:FA}{ft:FT}
def zal:VSs X [] gNx:=⟨_,zmP,λHz Jz O Z Y H J o E s e w=>by cases e;exact w Y H J s Keep.refl⟩
def zph {t u:TS}(h1:GoS K t g)(h2:GoS K u g2):GoS K (tSeq t u) (gSeq g g2):=by
 intro Hz Jz O Z Y H J o E s e w;obtain⟨o1,e1,e⟩:=bind_some e;refine h1 Hz Jz O Z Y H J o1 _ s e1 ?_;cases o1 with
|nx Z'=>exact λY' H' J' s' k=>h2 Hz Jz O Z' Y' H' J' o E s' e (w.keep k)
|bk Z'=>cases e;exact w
|ct Z'=>cases e;exact w
|ret d Z'=>cases e;exact w
def zac (h1:VS X st g)(h2:VSs X sts g2):VSs X (st::sts) (gSeq g g2):=by
 obtain⟨t,p,q⟩:=h1;obtain⟨u,p2,q2⟩:=h2;exact⟨_,zkz p p2,zph q q2⟩
def zag (h:VS X st g):VSs X [st] g:=let ⟨t,p,q⟩:=h;⟨t,zmQ p,q⟩
def frzE (i:Nat)(Z:En):En:=match Z[i]? with
|some (.own _ d)=>Z.set i (.val d)
|_=>Z
def zjh (i:Nat)(h:VSs X sts g):VSs X sts (λZ=>g (frzE i Z)):=by
 obtain⟨t,p,q⟩:=h;refine⟨t,p,λHz Jz O Z Y H J o E s e w=>?_⟩;have e:g (frzE i Z)=some o:=e
 unfold frzE at e;cases z:Z[i]? with
|none=>rw[z] at e;exact q Hz Jz O Z Y H J o E s e w
|some x=>
   rw[z] at e;cases x with
  |own n d=>
     obtain⟨J',s',k⟩:=s.frz z;exact q Hz Jz O _ Y H J' o E s' e (w.keep k)
  |_=>exact q Hz Jz O Z Y H J o E s e w
def gCt:FS:=λZ=>some (.ct Z)
def zgF:VS X (.Continue pos) gCt:=⟨_,zgt,λHz Jz O Z Y H J o E s e w=>by cases e;exact w Y H J s Keep.refl⟩
def gNo:FS:=λ_=>none
def zci:VS X st gNo:=⟨_,zkB,λHz Jz O Z Y H J o E s e w=>by cases e⟩
def gRet (f:FE):FS:=λZ=>(f Z).bind λd=>some (.ret (.told d) Z)
def zao (h:VE X e fa):VS X (.Return (some e) pos) (gRet fa):=by
 obtain⟨t,p,q⟩:=h;refine⟨_,zg5 p,λHz Jz O Z Y H J o E s e w=>?_⟩;obtain⟨d,e1,e⟩:=bind_some e;cases e;exact q Hz Jz O Z Y H J d _ s e1 λv H' J' u r=>w v Y H' J' (s.up u) r
def gEx (f:FE):FS:=λZ=>(f Z).bind λ_=>some (.nx Z)
def zji (h:VE X e fa)(hs:swapsWith e none pos.line X.env=pure false:=by rfl):VS X (.Expr e pos) (gEx fa):=by
 obtain⟨t,p,q⟩:=h;refine⟨_,zdY p hs,λHz Jz O Z Y H J o E s e w=>?_⟩;obtain⟨d,e1,e⟩:=bind_some e;cases e;exact q Hz Jz O Z Y H J d _ s e1 λv H' J' u r=>w Y H' J' (s.up u) u.keep
def gIf (c:FT)(a b:FS):FS:=λZ=>(c Z).bind λk=>if k then a Z else b Z
def za5 {c:Expr}{bs os:List Stmt}(hc:VT X c ft)(ha:VSs X bs g)(hb:VSs X os g2):VS X (.If c bs os pos) (gIf ft g g2):=by
 obtain⟨tc,pc,qc⟩:=hc;obtain⟨t,p,q⟩:=ha;obtain⟨u,p2,q2⟩:=hb;refine⟨_,zoB pc p p2,λHz Jz O Z Y H J o E s e w=>?_⟩;obtain⟨k,e1,e⟩:=bind_some e;refine qc Hz Jz O Z Y H J k _ s e1 λH1 J1 u1=>?_
 cases k with
|true=>exact iteT (q Hz Jz O Z Y H1 J1 o E (s.up u1) e (w.keep u1.keep))
|false=>exact iteF (q2 Hz Jz O Z Y H1 J1 o E (s.up u1) e (w.keep u1.keep))
def gSet (i:Nat)(f:FE):FS:=λZ=>(f Z).bind λd=>if i<Z.length/\isPar (Z[i]?)=false then some (.nx (Z.set i (.val d))) else none
def zjj {i:Nat}{t:TE}(q:GoE K t fa):GoS K (tAsg t (zdL i)) (gSet i fa):=by
 intro Hz Jz O Z Y H J o E s e w;obtain⟨d,e1,e⟩:=bind_some e;by_cases hi:i<Z.length/\isPar (Z[i]?)=false
 .rw[if_pos hi] at e;cases e;exact q Hz Jz O Z Y H J d _ s e1 λv H' J' u r=>w _ H' J' ((s.up u).set r hi.1 (zbY hi.2)) u.keep
 .rw[if_neg hi] at e;cases e
def zpi {i:Nat}{x:Str}{pos':Pos}(hN:X.N.Nodup)(hi:X.N[i]?=some x)(hx:Loc X.env.scope x)(h:VE X e fa)(hs:swapsWith e (some (.Name x pos')) pos.line X.env=pure false:=by rfl)(hf:X.fn x=true\/X.env.scope.names.lookup x=some .local:=by first|exact .inl rfl|exact .inr rfl|assumption) :
 VS X (.Assign [.Name x pos'] e pos) (gSet i fa):=by
 obtain⟨t,p,q⟩:=h;exact⟨_,zg7 hN hi hx p hs hf,zjj q⟩
def gOwn (i:Nat)(f:FA):FS:=λZ=>(f Z).bind λds=>if i<Z.length/\isPar (Z[i]?)=false then some (.nx (Z.set i (.own 1 (.lst ds)))) else none
def zmg {i:Nat}{t:TE}(q:GoN K t fl):GoS K (tAsg t (zdL i)) (gOwn i fl):=by
 intro Hz Jz O Z Y H J o E s e w;obtain⟨ds,e1,e⟩:=bind_some e;by_cases hi:i<Z.length/\isPar (Z[i]?)=false
 .rw[if_pos hi] at e;cases e;refine q Hz Jz O Z Y H J ds _ s e1 λp vs H' J' u hp nj h' r=>w _ H' J' (s.setOwn (A:=[p]) u (λb hb=>by rw[waf.mp hb];exact hp) (.lst h' (RpUL.of r)) (by simp) (λb hb=>by rw[waf.mp hb];exact nj) hi.1 (zbY hi.2)) u.keep
 .rw[if_neg hi] at e;cases e
def gRetO (i:Nat):FS:=λZ=>match Z[i]? with
|some (.own n d)=>some (.ret (.new n d) (Z.set i .un))
|_=>none
def ST.move {Hz H:Hp}{Jz J:Addr->Prop}{O:Pr}{Z:En}{Y:L2.St}{i n:Nat}{d:D}(s:ST K Hz Jz O Z Y H J)(h0:Z[i]?=some (.own n d)):∃v,Y[i]?=some (some v)/\ST K Hz Jz O (Z.set i .un) Y H J/\RtAt K Hz O (Z.set i .un) Y H J v (.new n d):=by
 have hp:∀n d,Z[i]?≠some (.par n d):=λm e z=>by rw[h0] at z;cases z
 obtain⟨fp,w⟩:=s.ow;have hat:=w.at' i
 rw[h0] at hat
 obtain⟨⟨v,hv,r⟩,hn⟩:=hat
 have hi:i<Z.length:=(waa.mp h0).1
 refine⟨v,hv,s.drop hp,fp i,zfR fp i [],w.put (i:=i) (A:=[]) Keep.refl (λ_ _ _ _ _ h=>h) (λj _=>w.nj j) (λj e=>wah (Ne.symm e)) (λ_ _=>rfl) ?_ waZ (by simp) (by simp),r,w.nd i,λb hb=>⟨w.nj i b hb,hn b hb⟩,λj b hb=>?_⟩
 .rw[wam hi];rfl
 .by_cases e:j=i
  .subst e;rw[zaB];simp
  .rw[zbc e];exact λhb2=>w.dj j i e b hb2 hb
def znj (i:Nat){x:Str}{p:Pos}(hN:X.N[i]?=some x:=by rfl)(hv:Vis X.env.scope x:=by first|exact Or.inl rfl|exact Or.inr (Or.inl rfl)|exact Or.inr (Or.inr rfl))(hd:(x == ("__debug__" : Str))=false:=by decide)
 (hcd:(x == ("__classdict__" : Str))=false:=by decide):VS X (.Return (some (.Name x p)) pos) (gRetO i):=by
 refine⟨_,zg5 (zbT hN hv hd hcd),λHz Jz O Z Y H J o E s e w=>?_⟩;unfold gRetO at e;split at e
 .rename_i n d z
  cases e;obtain⟨v,hv,s',r⟩:=s.move z;exact⟨v,hv,w v Y H J s' r⟩
 .cases e
def gRetN (f:FA):FS:=λZ=>(f Z).bind λds=>some (.ret (.new 1 (.lst ds)) Z)
def zfU (h:VN X e fl):VS X (.Return (some e) pos) (gRetN fl):=by
 obtain⟨t,p,q⟩:=h;refine⟨_,zg5 p,λHz Jz O Z Y H J o E s e w=>?_⟩;obtain⟨ds,e1,e⟩:=bind_some e;cases e;refine q Hz Jz O Z Y H J ds _ s e1 λp vs H' J' u hp nj h' r=>?_
 obtain⟨fp,ow⟩:=(s.up u).ow;obtain⟨fp0,ow0⟩:=s.ow;have s':=s.up u
 refine w _ Y H' J' s' ⟨[p],fp0,⟨λi=>(ow0.at' i).keep u.keep λb _=>u.same b,ow0.nd,λi b hb jb=>?_,ow0.dj⟩,.lst h' (RpUL.of r),by simp,λb hb=>?_,λi b hb hb2=>?_⟩
 .rcases u.jn b jb with jb|jb
  .exact ow0.nj i b hb jb
  .obtain⟨o,e,_⟩:=(ow0.at' i).ru b hb;rw[e] at jb;cases jb
 .rw[waf.mp hb];refine⟨nj,?_⟩;cases e:Hz p with
 |none=>rfl
 |some o=>exact absurd hp (s.al p (by rw[e];simp))
 .rw[waf.mp hb] at hb2;obtain⟨o,e,_⟩:=(ow0.at' i).ru p hb2;rw[hp] at e;cases e
def zpj {i:Nat}{x:Str}{pos':Pos}(hN:X.N.Nodup)(hi:X.N[i]?=some x)(hx:Loc X.env.scope x)(h:VN X e fl)(hs:swapsWith e (some (.Name x pos')) pos.line X.env=pure false:=by rfl)(hf:X.fn x=true\/X.env.scope.names.lookup x=some .local:=by first|exact .inl rfl|exact .inr rfl|assumption) :
 VS X (.Assign [.Name x pos'] e pos) (gOwn i fl):=by
 obtain⟨t,p,q⟩:=h;exact⟨_,zg7 hN hi hx p hs hf,zmg q⟩
def gAsg (f:FE)(g:FG):FS:=λZ=>(f Z).bind λd=>(g d Z).bind λZ'=>some (.nx Z')
def zpk {tg:Expr}{is:List Nat}{fg:FG}(h:VE X e fa)(hg:VG X tg is fg)(hs:swapsWithSole [tg] e pos.line X.env=pure false:=by rfl)(hw:swappedStores [tg] e X.env=pure none:=by rfl)(h1:(assignEach [tg] X.env).map (·.2) = [assign tg X.env]:=by rfl):VS X (.Assign [tg] e pos) (gAsg fa fg):=by
 obtain⟨t,p,q⟩:=h;obtain⟨u,p2,q2⟩:=hg;refine⟨_,zg6 p p2 hs hw h1,λHz Jz O Z Y H J o E s e w=>?_⟩;obtain⟨d,e1,e⟩:=bind_some e;obtain⟨Z',e2,e⟩:=bind_some e;cases e;exact q Hz Jz O Z Y H J d _ s e1 λv H' J' u r=>q2.2 Hz Jz O Z Y H' J' v d Z' _ (s.up u) r e2 λY' s'=>w Y' H' J' s' u.keep
def setO (Z:En)(i:Nat)(d:D):En:=Z.set i (putD (Z[i]?) d)
def ST.top {Hz H H':Hp}{Jz J:Addr->Prop}{O:Pr}{Z:En}{Y:L2.St}{i:Nat}{ds es:List D}(s:ST K Hz Jz O Z Y H J)(h0:ownD (Z[i]?)=some (1,.lst ds)):∃a vs,Y[i]?=some (some (.ref a))/\H a=some (.lst vs)/\RpL K H J vs ds/\
 ∀(us:List V) (es:List D),RpL K H J us es->ST K Hz Jz O (setO Z i (.lst es)) Y (upd H a (.lst us)) J/\Keep K H J (upd H a (.lst us)) J:=by
 obtain⟨v,A,hv,r,nd,nj,go⟩:=s.chg h0;obtain⟨a,vs,rfl,rfl,ha,rl⟩:=r.one;refine⟨a,vs,hv,ha,rl,λus es re=>?_⟩;have nja:¬J a:=nj a (by simp)
 have kp:Keep K H J (upd H a (.lst us)) J:=zch ha nja
 refine go (upd H a (.lst us)) J (.lst es) [a] (λb o hb h=>?_) (λb h=>?_) (λ_ h=>h) (λ_ h=>.inl h) (λb h=>?_) (.lst zah (RpUL.of (re.keep kp))) (by simp) nj (λb hb=>.inl hb)
 .rw[zak (λz=>hb (by simp[z]))];exact h
 .by_cases e:b=a
  .subst e;rw[zah];simp
  .rw[zak e];exact h
 .by_cases e:b=a
  .subst e;rw[zah];simp
  .rw[zak e];exact s.ja b h
def gApp (i:Nat)(f:FE):FS:=λZ=>(f Z).bind λd=>match ownD (Z[i]?) with
|some (1,.lst ds)=>if ds.length<lim then some (.nx (setO Z i (.lst (ds++[d])))) else none
|_=>none
def zpl {i:Nat}{t:TA}(q:GoA K t fl)(f:FE)(hf:∀Z d,f Z=some d->fl Z=some [d]):GoS K (zkA (tBM K "list" ze6 (tVar i) t)) (gApp i f):=by
 intro Hz Jz O Z Y H J o E s e w;obtain⟨d,e1,e⟩:=bind_some e;split at e
 .rename_i ds z
  by_cases hl:ds.length<lim
  .rw[if_pos hl] at e;cases e;obtain⟨a,vs,ha,hv,_,_⟩:=s.top (H':=H) (es:=[]) z;refine⟨.ref a,ha,.inl ⟨rfl,vs,SqL.of hv⟩,q Hz Jz O Z Y H J [d] _ s (hf Z d e1) λws H1 J1 u1 r1=>?_⟩;obtain⟨v,rfl,rv⟩:=r1.one;obtain⟨a',vs',ha',hv',rl,go⟩:=(s.up u1).top (H':=H) (es:=[]) z;rw[ha] at ha';cases ha';refine⟨a,vs',v,rfl,rfl,hv',by rw[rl.length];exact war hl (wbp zd5),?_⟩;obtain⟨s2,k2⟩:=go (vs'++[v]) (ds++[d]) (rl.append (.cons rv .nil));exact w Y _ J1 s2 (u1.keep.trans k2)
  .rw[if_neg hl] at e;cases e
 .cases e
def zjk (i:Nat){x:Str}{xp apos cpos:Pos}(h:VE X e fa)(hN:X.N[i]?=some x:=by rfl)(hv:Vis X.env.scope x:=by first|exact Or.inl rfl|exact Or.inr (Or.inl rfl)|exact Or.inr (Or.inr rfl))(hd:(x == ("__debug__" : Str))=false:=by decide)
 (hcd:(x == ("__classdict__" : Str))=false:=by decide) (h1:starEach [e] X.env=(false,eval e X.env)::starEach [] X.env:=by rfl)
 (hbase:attributeBase (.Name x xp) "append" X.env (eval (.Name x xp) X.env)=eval (.Name x xp) X.env:=by rfl)
 (hfew:((backTo cpos (starEach [e] X.env)).all (λx=>!x.1)&&(backToKw cpos (keywordEach [] X.env)).all (λx=>x.1.isSome)
  && decide ([e].length+([]:List Keyword).length+(if([]:List Keyword).isEmpty then 0 else 1)<30))=true:=by rfl)
 (hline:(apos.endLine == cpos.line)=true:=by rfl) (hs:starEach [e] X.env = [(false,eval e X.env)]:=by rfl) (hsw:swapsWith (.Call (.Attribute (.Name x xp) "append" apos) [e] [] cpos) none pos.line X.env=pure false:=by rfl) :
 VS X (.Expr (.Call (.Attribute (.Name x xp) "append" apos) [e] [] cpos) pos) (gApp i fa):=by
 obtain⟨t,p,q⟩:=zad h zaf h1;refine⟨_,zdY (papp (zbT hN hv hd hcd) p hbase hfew hline hs) hsw,zpl q fa λZ d e=>?_⟩;show((fa Z).bind λx=>(aNil Z).bind λxs=>some (x::xs))=some [d]
 rw[e];rfl
def gExt (i:Nat)(f:FE):FS:=λZ=>(f Z).bind λd=>match d,ownD (Z[i]?) with
|.lst es,some (1,.lst ds)=>if(ds++es).length<=lim then some (.nx (setO Z i (.lst (ds++es)))) else none
|_,_=>none
def zpm {i:Nat}{t:TA}(q:GoA K t fl)(f:FE)(hf:∀Z d,f Z=some d->fl Z=some [d]):GoS K (zkA (tBM K "list" ziO (tVar i) t)) (gExt i f):=by
 intro Hz Jz O Z Y H J o E s e w;obtain⟨d,e1,e⟩:=bind_some e;split at e
 .rename_i es ds z
  by_cases hl:(ds++es).length<=lim
  .rw[if_pos hl] at e;cases e;obtain⟨a,vs,ha,hv,_,_⟩:=s.top (H':=H) (es:=[]) z;refine⟨.ref a,ha,.inl ⟨rfl,vs,SqL.of hv⟩,q Hz Jz O Z Y H J [.lst es] _ s (hf Z _ e1) λws H1 J1 u1 r1=>?_⟩;obtain⟨v,rfl,rv⟩:=r1.one;obtain⟨b,us,rfl,hb,rb⟩:=RpW.lst (.inl rv);obtain⟨a',vs',ha',hv',rl,go⟩:=(s.up u1).top (H':=H) (es:=[]) z;rw[ha] at ha';cases ha';refine⟨a,b,vs',us,rfl,rfl,hv',hb,by rw[rl.length,rb.length,<-wan];exact zbV hl,?_⟩;obtain⟨s2,k2⟩:=go (vs'++us) (ds++es) (rl.append rb);exact w Y _ J1 s2 (u1.keep.trans k2)
  .rw[if_neg hl] at e;cases e
 .cases e
def zmh (i:Nat){x:Str}{xp apos cpos:Pos}(h:VE X e fa)(hN:X.N[i]?=some x:=by rfl)(hv:Vis X.env.scope x:=by first|exact Or.inl rfl|exact Or.inr (Or.inl rfl)|exact Or.inr (Or.inr rfl))(hd:(x == ("__debug__" : Str))=false:=by decide)
 (hcd:(x == ("__classdict__" : Str))=false:=by decide) (h1:starEach [e] X.env=(false,eval e X.env)::starEach [] X.env:=by rfl)
 (hbase:attributeBase (.Name x xp) "extend" X.env (eval (.Name x xp) X.env)=eval (.Name x xp) X.env:=by rfl)
 (hfew:((backTo cpos (starEach [e] X.env)).all (λx=>!x.1)&&(backToKw cpos (keywordEach [] X.env)).all (λx=>x.1.isSome)
  && decide ([e].length+([]:List Keyword).length+(if([]:List Keyword).isEmpty then 0 else 1)<30))=true:=by rfl)
 (hline:(apos.endLine == cpos.line)=true:=by rfl) (hs:starEach [e] X.env = [(false,eval e X.env)]:=by rfl) (hsw:swapsWith (.Call (.Attribute (.Name x xp) "extend" apos) [e] [] cpos) none pos.line X.env=pure false:=by rfl) :
 VS X (.Expr (.Call (.Attribute (.Name x xp) "extend" apos) [e] [] cpos) pos) (gExt i fa):=by
 obtain⟨t,p,q⟩:=zad h zaf h1;refine⟨_,zdY (zoQ PySem.F.plainAttrs_list PySem.F.slot_list_extend PySem.F.type_list_extend ziP (zbT hN hv hd hcd) p hbase hfew hline hs rfl) hsw,zpm q fa λZ d e=>?_⟩;show((fa Z).bind λx=>(aNil Z).bind λxs=>some (x::xs))=some [d]
 rw[e];rfl
end
def forL (tg:FG)(b:FS):List D->En->Option Out
|[],Z=>some (.nx Z)
|d::r,Z=>(tg d Z).bind λZ1=>(b Z1).bind λo=>match o with
  |.nx Z2=>forL tg b r Z2
  |.ct Z2=>forL tg b r Z2
  |.bk Z2=>some (.nx Z2)
  |.ret d Z2=>some (.ret d Z2)
def gFor (fi:FA)(tg:FG)(b:FS):FS:=λZ=>(fi Z).bind λds=>forL tg b ds Z
section
variable {X:Cx}{K:W.Frag}{fi:FA}{g:FS}{pos:Pos}{ft:FT}
def zpn {wi:TI}{tb:TS}{tg:TG}{fg:FG}{is:List Nat}(hi:GoI K wi fi)(hg:GoG K tg is fg)(hb:GoS K tb g):GoS K (tFor wi tg tb) (gFor fi fg g):=by
 intro Hz Jz O Z Y H J o E s e w;obtain⟨ds,e1,e⟩:=bind_some e;refine hi Hz Jz O Z Y H J ds _ s e1 λI H1 J1 u1 src=>?_
 refine⟨λi m Y' H'=>m=ds.length - i/\i<=ds.length/\∃Z' J',ST K Hz Jz O Z' Y' H' J'/\Keep K H1 J1 H' J'/\forL fg g (ds.drop i) Z'=some o,⟨ds.length,by simp,wbn _,Z,J1,s.up u1,Keep.refl,by simpa using e⟩,?_⟩;rintro i m Y2 H2 ⟨rfl,hil,Z2,J2,s2,k2,e2⟩;obtain⟨stop,turn⟩:=src H2 J2 k2 s2.ja;by_cases hlt:i<ds.length
 .right
  have hd:ds[i]?=some ds[i]:=wap hlt
  generalize hdd:ds[i]=d at hd;obtain⟨go,yl⟩:=turn i d hd;have edrop:ds.drop i=d::ds.drop (i+1):=by rw[<-hdd];exact(wbD hlt).symm
  rw[edrop] at e2;unfold forL at e2;obtain⟨Z3,eg,e2⟩:=bind_some e2;obtain⟨ob,eb,e2⟩:=bind_some e2;refine⟨go,λY' H'=>∃Z' J',ST K Hz Jz O Z' Y' H' J'/\Keep K H1 J1 H' J'/\forL fg g (ds.drop (i+1)) Z'=some o,λY' H' h=>⟨ds.length - (i+1),by omega,rfl,hlt,h⟩,λx H3 y=>?_⟩;obtain⟨J3,u3,r3⟩:=yl x H3 y;refine hg.2 Hz Jz O Z2 Y2 H3 J3 x d Z3 _ (s2.up u3) r3 eg λY4 s4=>?_
  refine hb Hz Jz O Z3 Y4 H3 J3 ob _ s4 eb ?_;have k3:=k2.trans u3.keep
  cases ob with
 |nx Z5=>exact λY5 H5 J5 s5 k5=>⟨Z5,J5,s5,k3.trans k5,e2⟩
 |ct Z5=>exact λY5 H5 J5 s5 k5=>⟨Z5,J5,s5,k3.trans k5,e2⟩
 |bk Z5=>cases e2;exact λY5 H5 J5 s5 k5=>w Y5 H5 J5 s5 ((u1.keep.trans k3).trans k5)
 |ret d Z5=>cases e2;exact w
 .left
  have hi':i=ds.length:=by omega
  subst hi';rw[wbZ] at e2;cases e2;exact⟨stop,w Y2 H2 J2 s2 (u1.keep.trans k2)⟩
def zdd {tg iter:Expr}{body:List Stmt}{is:List Nat}{fg:FG}(hi:VI X tg iter fi)(hg:VG X tg is fg)(hb:VSs X body g)(hp:PassesOwn (model X.prog X.w) X.A X.env X.xe:=by exact PassesOwn.never)(hc:X.calm=true:=by rfl)
 (hs:∀x,foldedSetIterable iter X.env x=pure x:=by intro _;rfl):VS X (.For tg iter body [] pos) (gFor fi fg g):=by
 obtain⟨wi,p1,q1⟩:=hi;obtain⟨t,p2,q2⟩:=hg;obtain⟨tb,p3,q3⟩:=hb;exact⟨_,zoG hp hc p1 p2 p3 hs,zpn q1 q2 q3⟩
def zdI (c:FT)(b:FS):Nat->En->Option Out
|0,_=>none
|n+1,Z=>(c Z).bind λk=>if k then(b Z).bind λo=>match o with
  |.nx Z2=>zdI c b n Z2
  |.ct Z2=>zdI c b n Z2
  |.bk Z2=>some (.nx Z2)
  |.ret d Z2=>some (.ret d Z2)
   else some (.nx Z)
def gWhile (c:FT)(b:FS)(fuel:En->Nat):FS:=λZ=>zdI c b (fuel Z) Z
def zk7 {tc:TT}{tb:TS}{fuel:En->Nat}(hc:GoT K tc ft)(hb:GoS K tb g):GoS K (zl5 tc tb) (gWhile ft g fuel):=by
 intro Hz Jz O Z Y H J o E s e w;refine⟨λm Y' H'=>∃Z' J',ST K Hz Jz O Z' Y' H' J'/\Keep K H J H' J'/\zdI ft g m Z'=some o,⟨fuel Z,Z,J,s,Keep.refl,e⟩,?_⟩;rintro m Y2 H2 ⟨Z2,J2,s2,k2,e2⟩;cases m with
|zero=>cases e2
|succ n=>
   unfold zdI at e2;obtain⟨k,ek,e2⟩:=bind_some e2;refine hc Hz Jz O Z2 Y2 H2 J2 k _ s2 ek λH3 J3 u3=>?_
   have s3:=s2.up u3
   have k3:=k2.trans u3.keep
   cases k with
  |true=>
     refine iteT ?_;rw[if_pos rfl] at e2;obtain⟨ob,eb,e2⟩:=bind_some e2;refine⟨λY' H'=>∃Z' J',ST K Hz Jz O Z' Y' H' J'/\Keep K H J H' J'/\zdI ft g n Z'=some o,λY' H' h=>⟨n,Nat.lt_succ_self n,h⟩,?_⟩;refine hb Hz Jz O Z2 Y2 H3 J3 ob _ s3 eb ?_;cases ob with
    |nx Z5=>exact λY5 H5 J5 s5 k5=>⟨Z5,J5,s5,k3.trans k5,e2⟩
    |ct Z5=>exact λY5 H5 J5 s5 k5=>⟨Z5,J5,s5,k3.trans k5,e2⟩
    |bk Z5=>cases e2;exact λY5 H5 J5 s5 k5=>w Y5 H5 J5 s5 (k3.trans k5)
    |ret d Z5=>cases e2;exact w
  |false=>
     refine iteF ?_;rw[if_neg (by simp)] at e2;cases e2;exact w Y2 H3 J3 s3 k3
def zk8 {c:Expr}{body:List Stmt}(fuel:En->Nat)(hc:VT X c ft)(hb:VSs X body g)(hp:PassesOwn (model X.prog X.w) X.A X.env X.xe:=by exact PassesOwn.never):VS X (.While c body [] pos) (gWhile ft g fuel):=by
 obtain⟨t,p2,q2⟩:=hc;obtain⟨tb,p3,q3⟩:=hb;exact⟨_,zkD hp p2 p3,zk7 q2 q3⟩
end
def zk9 (N:List Str)(st:Stmt){X:Cx}{i:Nat}{x:Str}{elt iter tg:Expr}{ifs:List Expr}{scope:Scope}{pos pos' cp:Pos}{NC:List Str}(fr:List (Option Nat)){fi:FA}{g:FG}{is:List Nat}{ft:FT}{fe:FE}(hND:X.N.Nodup)(hix:X.N[i]?=some x)(hx:Loc X.env.scope x){RR:Hp->Prop}(hRR:∀pins Y H s,Inv X pins Y H s->RR H)(hcalm:X.calm=true)(hi:VI X tg iter fi)
 (hcells:∀x,X.env.scope.names.lookup x=some .cell->∃c,X.env.cells.lookup x=some c) (hfk:X.env.scope.kind=.function) (hN:X.N=N) (hsc:X.env.scope.names=(zab st).names)
 (hfree':∀y∈scope.names,y.2=.free->(zab st).names.lookup y.1=some .cell) (hcell:∀y∈scope.names,y.2≠.cell) (hkind:scope.kind=.function) (hnames:∀y∈scope.names,y.2=.local->scope.names.lookup y.1=some .local)
 (hfr':zce N (zab st).names scope.names NC fr=true) (hlen:fr.length=NC.length) (hap:apart is fr=true)
 (hg:∀cl C s0 H0 ex pn,VG (cxC X scope cl NC C s0 H0 ex pn) tg is g) (ht:∀cl C s0 H0 ex pn,VTs (cxC X scope cl NC C s0 H0 ex pn) ifs ft) (he:∀cl C s0 H0 ex pn,RR H0->VE (cxC X scope cl NC C s0 H0 ex pn) elt fe)
 (hs:∀x,foldedSetIterable iter X.env x=pure x:=by intro _;rfl) (hsw:swapsWith (.ListComp elt [⟨tg,iter,ifs,0⟩] scope cp) (some (.Name x pos')) pos.line X.env=pure true:=by rfl)
 (hf:X.fn x=true\/X.env.scope.names.lookup x=some .local:=by first|exact .inl rfl|exact .inr rfl|assumption) :
 VS X (.Assign [.Name x pos'] (.ListComp elt [⟨tg,iter,ifs,0⟩] scope cp) pos) (gSet i (eL (ze8 fr fi g ft fe)))/\VS X (.Assign [.Name x pos'] (.ListComp elt [⟨tg,iter,ifs,0⟩] scope cp) pos) (gOwn i (ze8 fr fi g ft fe)):=by
 obtain⟨wi,pi,gi⟩:=hi;obtain⟨_,_,hon,_⟩:=hg [] 0 X.s₀ X.Hz [] [];have p:=zhh N st (i:=i) (pos:=pos) (pos':=pos') (cp:=cp) fr hND hix hx hRR hcalm pi hcells hfk hN hsc hfree' hcell hkind hnames hfr' hlen (λcl C s0 H0 ex pn=>show PG (cxC X scope cl NC C s0 H0 ex pn) tg (TGof X.K g) from(hg cl C s0 H0 ex pn).of) (λcl C s0 H0 ex pn=>show PTs (cxC X scope cl NC C s0 H0 ex pn) ifs (TTof X.K ft) from ht cl C s0 H0 ex pn) (λcl C s0 H0 ex pn r=>show PE (cxC X scope cl NC C s0 H0 ex pn) elt (TEof X.K fe) from(he cl C s0 H0 ex pn r).of) hs hsw hf
 exact⟨⟨_,p,zjj (zme (zgE gi hon hap))⟩,⟨_,p,zmg (zgE gi hon hap)⟩⟩
def znk (N:List Str)(st:Stmt){X:Cx}{i:Nat}{x:Str}{elt iter tg:Expr}{ifs:List Expr}{scope:Scope}{pos pos' cp:Pos}{NC:List Str}(fr:List (Option Nat)){fi:FA}{g:FG}{is:List Nat}{ft:FT}{fe:FE}(hND:X.N.Nodup)(hix:X.N[i]?=some x)(hx:Loc X.env.scope x)(hcalm:X.calm=true)(hi:VI X tg iter fi)
 (hcells:∀x,X.env.scope.names.lookup x=some .cell->∃c,X.env.cells.lookup x=some c) (hfk:X.env.scope.kind=.function) (hN:X.N=N) (hsc:X.env.scope.names=(zab st).names)
 (hfree':∀y∈scope.names,y.2=.free->(zab st).names.lookup y.1=some .cell) (hcell:∀y∈scope.names,y.2≠.cell) (hkind:scope.kind=.function) (hnames:∀y∈scope.names,y.2=.local->scope.names.lookup y.1=some .local)
 (hfr':zce N (zab st).names scope.names NC fr=true) (hlen:fr.length=NC.length) (hap:apart is fr=true)
 (hg:∀cl C s0 H0 ex pn,VG (cxC X scope cl NC C s0 H0 ex pn) tg is g) (ht:∀cl C s0 H0 ex pn,VTs (cxC X scope cl NC C s0 H0 ex pn) ifs ft) (he:∀cl C s0 H0 ex pn,VE (cxC X scope cl NC C s0 H0 ex pn) elt fe)
 (hs:∀x,foldedSetIterable iter X.env x=pure x:=by intro _;rfl) (hsw:swapsWith (.ListComp elt [⟨tg,iter,ifs,0⟩] scope cp) (some (.Name x pos')) pos.line X.env=pure true:=by rfl)
 (hf:X.fn x=true\/X.env.scope.names.lookup x=some .local:=by first|exact .inl rfl|exact .inr rfl|assumption) :
 VS X (.Assign [.Name x pos'] (.ListComp elt [⟨tg,iter,ifs,0⟩] scope cp) pos) (gSet i (eL (ze8 fr fi g ft fe)))/\VS X (.Assign [.Name x pos'] (.ListComp elt [⟨tg,iter,ifs,0⟩] scope cp) pos) (gOwn i (ze8 fr fi g ft fe)):=
 zk9 (RR:=λ_=>True) N st fr hND hix hx (λ_ _ _ _ _=>trivial) hcalm hi hcells hfk hN hsc hfree' hcell hkind hnames hfr' hlen hap hg ht (λcl C s0 H0 ex pn _=>he cl C s0 H0 ex pn) hs hsw hf
section
variable {P:Program}{w:World}{K:W.Frag}{mg:Str->Option Value}{base:Heap}
def ST.out {Hz H:Hp}{Jz J:Addr->Prop}{Z:En}{Y:L2.St}(s:ST K Hz Jz Pr.no Z Y H J):Up Hz Jz H J:=⟨λb o=>s.same b o (λ⟨_,h⟩ =>by simp[Pr.no] at h),s.j0,s.jn,s.ja⟩
def zhj {N:List Str}{H:Hp}{J:Addr->Prop}{vs:List V}{ds:List D}(ja:∀a,J a->H a≠none)(r:RpL K H J vs ds):ST K H J Pr.no (ds.map SV.val++List.replicate (N.length - ds.length) .un) (start N vs) H J where
 same:=λ_ _ _ h=>h
 j0:=λ_ h=>h
 jn:=λ_ h=>.inl h
 ja:=ja
 al:=λ_ h=>h
 ps:=λq hq=>absurd hq (by simp[Pr.no])
 len:=by simp[L2.start,r.length]
 vl:=λi x h=>by
  rw[List.getElem?_append] at h;by_cases hi:i<(ds.map SV.val).length
  .rw[if_pos hi,waj] at h;cases q:ds[i]? with
  |none=>rw[q] at h;cases h
  |some d=>
     rw[q] at h;cases h;obtain⟨v,hv,rv⟩:=r.get q;refine⟨v,?_,rv⟩;unfold L2.start;rw[waJ (by simp at hi⊢;rw[r.length];exact hi),waj,hv];rfl
  .rw[if_neg hi] at h;have:=waC h
   cases List.eq_of_mem_replicate this
 ow:=⟨λ_=>[],λi=>zjg (by
  cases h:(List.map SV.val ds++List.replicate (N.length - ds.length) SV.un)[i]? with
 |none=>rfl
 |some x=>
    rcases wax.mp (waC h) with h|h
    .obtain⟨d',_,h⟩:=way.mp h;subst h;rfl
    .cases List.eq_of_mem_replicate h;rfl),λ_=>waZ,λ_ b hb=>absurd hb (by simp),λ_ _ _ b hb=>absurd hb (by simp)⟩
end
theorem zjl {P:Program}{w:World}{K:W.Frag}{mg:Str->Option Value}{base:Heap}{f:Addr}{fd:FuncData}{ps:List Str}{x:Str}{b:(List D->Option D)->List D->Option D}{m:Nat->List D->Option D}(h0:∀ds,m 0 ds=none)(hs:∀n,m (n+1)=b (m n))
 (bd:Binds K fd ps []) (kp:W.keepIn K (.ref f)=true) (mx:mg x=some (.ref f)) {k:Nat}(hlen:∀n ds d,m n ds=some d->ds.length=ps.length)
 (step:∀{n:Nat}{self:List D->Option D},Cal P w K mg base (k+n) x ps (spF K self)->FnOk P w K mg base CX0 (k+n+1) f fd ps (spF K (b self))):∀n,FnOk P w K mg base CX0 (k+n) f fd ps (spF K (m n))
|0=>by
   refine⟨λvs H Q E h=>?_,λA outer s H args us vs Q E _ _ _ _ h=>?_⟩
   .obtain⟨J,ds,d,_,_,e,_⟩:=h;rw[h0] at e;cases e
   .obtain⟨J,ds,d,_,_,e,_⟩:=h;rw[h0] at e;cases e
|n+1=>by
   rw[hs];exact step ⟨f,fd,zjl h0 hs bd kp mx hlen step n,bd,kp,mx⟩
section
variable {K:W.Frag}{mg:Str->Option Value}
def zcI {x:Str}{n:Int}{t:Tok}(h:mg x=some (.int n t)):GlobD K mg x (.int n):=⟨_,.int n,h,⟨t,rfl⟩,λ_ _=>.int n⟩
def zla {x n:Str}{t:Tok}(h:mg x=some (.str n t)):GlobD K mg x (.str n):=⟨_,.str n,h,⟨t,rfl⟩,λ_ _=>.str n⟩
def zlb {x:Str}{p:Addr}{o:Obj}{its:Array Value}{n:Nat}{vs:List V}{ds:List D}(h:mg x=some (.ref p))(l:K.lookup p=some o)(hc:o.cls=.type "tuple")(hd:o.data=.seq its n)(hz:its.size<=sizeLine)(hv:Vals vs its.toList)(hr:∀H J,RpL K H J vs ds):GlobD K mg x (.tup ds):=
 ⟨_,.ref p,h,rfl,λH J=>.tup (.inr ⟨o,its,n,l,hc,hd,hz,hv⟩) (hr H J)⟩
end
def tyD:D->String
|.non=>"NoneType"
|.bl _=>"bool"
|.int _=>"int"
|.str _=>"str"
|.tup _=>"tuple"
|.lst _=>"list"
|.dct _ _=>"dict"
|.scr _=>"list"
|.exc _ _ _=>"?"
|.dcu _ _=>"?"
def isK (k T:String):Bool:=k == T||(k == "bool"&&T == "int")
structure Kit (K:W.Frag)(T:String):Prop where
 non:PySem.W.kitOne K (.type "NoneType") (.type T)=some (isK "NoneType" T)
 bl:PySem.W.kitOne K (.type "bool") (.type T)=some (isK "bool" T)
 int:PySem.W.kitOne K (.type "int") (.type T)=some (isK "int" T)
 str:PySem.W.kitOne K (.type "str") (.type T)=some (isK "str" T)
 tup:PySem.W.kitOne K (.type "tuple") (.type T)=some (isK "tuple" T)
 lst:PySem.W.kitOne K (.type "list") (.type T)=some (isK "list" T)
 dct:PySem.W.kitOne K (.type "dict") (.type T)=some (isK "dict" T)
def zmi (K:W.Frag):List V->Hp->VK->Prop:=λxs H Q=>zoZ K xs H Q\/∃a vs n k,xs = [.ref a,.ty n]/\SqT K H a vs/\PySem.W.kitOne K (.type "tuple") (.type n)=some k/\Q (.bl k) H
def zhX {X:Cx}:zcz X (.builtin "isinstance") (zmi X.K):=by
 intro pins s Y H xs us Q I r h;rcases h with h|⟨a,vs,n,k,rfl,hs,e,q⟩
 .exact zm9 pins s Y H xs us Q I r h
 .obtain⟨u,w',rfl,r1,r2⟩:=zkJ r;obtain rfl:w'=Value.type n:=r2;obtain rfl:u=Value.ref a:=r1;obtain⟨its,_,p,_⟩:=I.tuple hs;obtain⟨o,h1,h2,_⟩:=p;exact waV PySem.W.kitx_tuple I.kIn ⟨o,h1,h2⟩ e (λz=>nomatch z) λtk=>⟨.bl k,H,I.tok _,rfl,q⟩
def isD (T:String):D->Option D
|.scr _=>none
|.exc _ _ _=>none
|.dcu _ _=>none
|d=>some (.bl (isK (tyD d) T))
def zqK (T:String)(f:FE):FE:=λZ=>(f Z).bind (isD T)
def zb6 {T:String}{Ts:Str}{X:Cx}{a:Expr}{fa:FE}{p q pos:Pos}(KT:Kit X.K T)(B:Blt X.mg)(hv:bootBuiltins Ts=some (.type T))(ha:VW X a fa)(hBT:Ts∈zbi:=by decide +kernel)(hgT:Gl X Ts:=by rfl)(hnT:Ts≠"__name__":=by decide)(hdT:(Ts == ("__debug__" : Str))=false:=by decide)(hg:Gl X "isinstance":=by rfl)
 (h1:starEach [a,.Name Ts q] X.env=(false,eval a X.env)::starEach [.Name Ts q] X.env:=by rfl) (h2:starEach [.Name Ts q] X.env=(false,eval (.Name Ts q) X.env)::starEach [] X.env:=by rfl)
 (hpl:(backTo pos (starEach [.Name Ts q] X.env)).any (·.1)=false:=by rfl):VE X (.Call (.Name "isinstance" p) [a,.Name Ts q] [] pos) (zqK T fa):=by
 obtain⟨t,pa,g⟩:=ha;refine⟨_,pb zhX B boot_isinstance (zbJ pa (zbJ (ptn (v:=.ty T) (u:=.type T) B hv rfl hBT hgT hnT hdT) zcZ h2) h1) (by decide +kernel) hg (by decide) (by decide) h1 hpl,?_⟩;intro Hz Jz O Z Y H J d Q s e w;obtain⟨x,e1,e⟩:=bind_some e;refine g Hz Jz O Z Y H J x _ s e1 λv H1 J1 u1 r1=>?_
 show zmi X.K [v,.ty T] H1 Q
 cases x with
|scr p=>cases e
|exc _ _ _=>cases e
|dcu _ _=>cases e
|non=>cases e;rw[r1.non];exact .inl ⟨_,_,_,_,rfl,.non,KT.non,w _ H1 J1 u1 (.bl _)⟩
|bl b=>cases e;rw[r1.bl];exact .inl ⟨_,_,_,_,rfl,.bl b,KT.bl,w _ H1 J1 u1 (.bl _)⟩
|int b=>cases e;rw[r1.int];exact .inl ⟨_,_,_,_,rfl,.int b,KT.int,w _ H1 J1 u1 (.bl _)⟩
|str b=>cases e;rw[r1.str];exact .inl ⟨_,_,_,_,rfl,.str b,KT.str,w _ H1 J1 u1 (.bl _)⟩
|tup ds=>cases e;obtain⟨a,vs,rfl,h1,_⟩:=r1.tup;exact .inr ⟨a,vs,T,_,rfl,h1,KT.tup,w _ H1 J1 u1 (.bl _)⟩
|lst ds=>cases e;obtain⟨a,vs,rfl,h1,_⟩:=r1.lst;exact .inl ⟨_,_,_,_,rfl,.lst h1,KT.lst,w _ H1 J1 u1 (.bl _)⟩
|dct ks ds=>cases e;obtain⟨a,kvs,vs,rfl,h1,_⟩:=r1.dct;exact .inl ⟨_,_,_,_,rfl,.dK h1,KT.dct,w _ H1 J1 u1 (.bl _)⟩
section
variable {K:W.Frag}{H H':Hp}{J J':Addr->Prop}
end
abbrev FX:=En->Option (D×En)
abbrev FR:=En->Option (RV×En)
abbrev FTX:=En->Option (Bool×En)
abbrev FAX:=En->Option (List D×En)
section
variable (K:W.Frag)
def GoX (t:TE)(f:FX):Prop:=∀Hz Jz O Z Y H J d Z' Q,ST K Hz Jz O Z Y H J->f Z=some (d,Z')->(∀v H' J',ST K Hz Jz O Z' Y H' J'->Keep K H J H' J'->Rp K H' J' v d->Q v H')->t Y H Q
def GoR (t:TE)(f:FR):Prop:=∀Hz Jz O Z Y H J r Z' Q,ST K Hz Jz O Z Y H J->f Z=some (r,Z')->(∀v H' J',ST K Hz Jz O Z' Y H' J'->Keep K H J H' J'->RtAt K Hz O Z' Y H' J' v r->Q v H')->t Y H Q
def GoTX (t:TT)(f:FTX):Prop:=∀Hz Jz O Z Y H J b Z' Q,ST K Hz Jz O Z Y H J->f Z=some (b,Z')->(∀H' J',ST K Hz Jz O Z' Y H' J'->Keep K H J H' J'->Q b H')->t Y H Q
def GoAX (t:TA)(f:FAX):Prop:=∀Hz Jz O Z Y H J ds Z' Q,ST K Hz Jz O Z Y H J->f Z=some (ds,Z')->(∀vs H' J',ST K Hz Jz O Z' Y H' J'->Keep K H J H' J'->RpL K H' J' vs ds->Q vs H')->t Y H Q
end
def VX (X:Cx)(e:Expr)(f:FX):Prop:=∃t,PE X e t/\GoX X.K t f
def VR (X:Cx)(e:Expr)(f:FR):Prop:=∃t,PE X e t/\GoR X.K t f
def VTX (X:Cx)(e:Expr)(f:FTX):Prop:=∃t,PT X e t/\GoTX X.K t f
def VAX (X:Cx)(es:List Expr)(f:FAX):Prop:=∃t,PA X es t/\GoAX X.K t f
section
variable {X:Cx}{K:W.Frag}{a b c e:Expr}{es rest:List Expr}{fa fb fc:FX}{fe:FE}{ft fu:FTX}{fl:FAX}{fr:FR}{pos p p2:Pos}
def xE (f:FE):FX:=λZ=>(f Z).bind λd=>some (d,Z)
def VE.x (h:VE X e fe):VX X e (xE fe):=by
 obtain⟨t,p,g⟩:=h;refine⟨t,p,λHz Jz O Z Y H J d _ Q s e w=>?_⟩;obtain⟨d',e1,e⟩:=bind_some e;cases e;exact g Hz Jz O Z Y H J d Q s e1 λv H' J' u r=>w v H' J' (s.up u) u.keep r
def xA (f:FA):FAX:=λZ=>(f Z).bind λd=>some (d,Z)
def VA.x {f:FA}(h:VA X es f):VAX X es (xA f):=by
 obtain⟨t,p,g⟩:=h;refine⟨t,p,λHz Jz O Z Y H J d _ Q s e w=>?_⟩;obtain⟨d',e1,e⟩:=bind_some e;cases e;exact g Hz Jz O Z Y H J d Q s e1 λv H' J' u r=>w v H' J' (s.up u) u.keep r
def zlc {Hz H H':Hp}{Jz J J':Addr->Prop}{O:Pr}{Z:En}{Y:L2.St}{p:Addr}{vs:List V}{ds:List D}(s:ST K Hz Jz O Z Y H J)(u:Up H J H' J')(hp:H p=none)(nj:¬J' p)(h':H' p=some (.lst vs))(r:RpL K H' J' vs ds):RtAt K Hz O Z Y H' J' (.ref p) (.new 1 (.lst ds)):=by
 obtain⟨fp0,ow0⟩:=s.ow;refine⟨[p],fp0,⟨λi=>(ow0.at' i).keep u.keep λb _=>u.same b,ow0.nd,λi b hb jb=>?_,ow0.dj⟩,.lst h' (RpUL.of r),by simp,λb hb=>?_,λi b hb hb2=>?_⟩
 .rcases u.jn b jb with jb|jb
  .exact ow0.nj i b hb jb
  .obtain⟨o,e,_⟩:=(ow0.at' i).ru b hb;rw[e] at jb;cases jb
 .rw[waf.mp hb];refine⟨nj,?_⟩;cases e:Hz p with
 |none=>rfl
 |some o=>exact absurd hp (s.al p (by rw[e];simp))
 .rw[waf.mp hb] at hb2;obtain⟨o,e,_⟩:=(ow0.at' i).ru p hb2;rw[hp] at e;cases e
def RV.d:RV->D
|.told d=>d
|.new _ d=>d
def xR (f:FR):FX:=λZ=>(f Z).bind λq=>some (q.1.d,q.2)
def ST.tell {Hz H:Hp}{Jz J:Addr->Prop}{O:Pr}{Z:En}{Y:L2.St}{v:V}{r:RV}(s:ST K Hz Jz O Z Y H J)(q:RtAt K Hz O Z Y H J v r):∃J',ST K Hz Jz O Z Y H J'/\Keep K H J H J'/\Rp K H J' v r.d:=by
 cases r with
|told d=>exact⟨J,s,Keep.refl,q⟩
|new n d=>
   obtain⟨A,fp,ow,r,nd,hA,dj⟩:=q;have kp:Keep K H J H (λb=>J b\/b∈A):=⟨λ_ h=>.inl h,λ_ _ _ h=>h,λ_ _ h=>h⟩
   refine⟨λb=>J b\/b∈A,⟨s.same,λb h=>.inl (s.j0 b h),λb h=>?_,λb h=>?_,s.len,λj e h=>?_,⟨fp,λi=>(ow.at' i).keep kp λ_ _ _ h=>h,ow.nd,λi b hb jb=>?_,ow.dj⟩,s.ps,s.al⟩,kp,r.rp (λ_ h=>.inl h) (λb hb=>.inr hb)⟩
   .rcases h with h|h
    .exact s.jn b h
    .exact .inr (hA b h).2
   .rcases h with h|h
    .exact s.ja b h
    .obtain⟨o,e,_⟩:=r.some b h;rw[e];simp
   .obtain⟨v,e1,r1⟩:=s.vl j e h;exact⟨v,e1,r1.keep kp⟩
   .rcases jb with jb|jb
    .exact ow.nj i b hb jb
    .exact dj i b jb hb
def VR.x (h:VR X e fr):VX X e (xR fr):=by
 obtain⟨t,p,g⟩:=h;refine⟨t,p,λHz Jz O Z Y H J d _ Q s e w=>?_⟩;obtain⟨⟨r,Z1⟩,e1,e⟩:=bind_some e;cases e;refine g Hz Jz O Z Y H J r _ Q s e1 λv H' J' s' k q=>?_
 obtain⟨J2,s2,k2,r2⟩:=s'.tell q;exact w v H' J2 s2 (k.trans k2) r2
def x2 (F:D->D->Option D)(f g:FX):FX:=λZ=>(f Z).bind λq=>(g q.2).bind λr=>(F q.1 r.1).bind λd=>some (d,r.2)
def zhk {r:R2}{F:D->D->Option D}{ta tb:TE}(im:Im2 K r F)(ga:GoX K ta fa)(gb:GoX K tb fb):GoX K (tOp r ta tb) (x2 F fa fb):=by
 intro Hz Jz O Z Y H J d Z' Q s e w;obtain⟨⟨x,Z1⟩,ex,e⟩:=bind_some e;obtain⟨⟨y,Z2⟩,ey,e⟩:=bind_some e;obtain⟨z,ez,e⟩:=bind_some e;cases e;refine ga Hz Jz O Z Y H J x _ _ s ex λv1 H1 J1 s1 k1 r1=>?_
 refine gb Hz Jz O Z1 Y H1 J1 y _ _ s1 ey λv2 H2 J2 s2 k2 r2=>?_
 exact im H2 J2 v1 v2 x y d Q s2.ja (.inl (r1.keep k2)) (.inl r2) ez λv3 H3 J3 u3 r3=>w v3 H3 J3 (s2.up u3) ((k1.trans k2).trans u3.keep) r3
def zjm {op:Operator}{r:R2}{F:D->D->Option D}(ho:OpR X (binaryOp op) r)(im:Im2 X.K r F)(ha:VX X a fa)(hb:VX X b fb):VX X (.BinOp a op b pos) (x2 F fa fb):=by
 obtain⟨ta,pa,ga⟩:=ha;obtain⟨tb,pb,gb⟩:=hb;exact⟨_,zoH ho pa pb,zhk im ga gb⟩
def zpo {op:CmpOp}{r:R2}{F:D->D->Option D}(ho:OpR X (compareOp op) r)(im:Im2 X.K r F)(ha:VX X a fa)(hb:VX X b fb)(hm:behindInMarks op b=false):VX X (.Compare a [op] [b] pos) (x2 F fa fb):=by
 obtain⟨ta,pa,ga⟩:=ha;obtain⟨tb,pb,gb⟩:=hb;exact⟨_,ziz ho pa pb hm,zhk im ga gb⟩
def xt1 (f:FX):FTX:=λZ=>(f Z).bind λq=>(dB q.1).bind λk=>some (k,q.2)
def zld {t:TE}(g:GoX K t fa):GoTX K (zkG t) (xt1 fa):=by
 intro Hz Jz O Z Y H J d Z' Q s e w;obtain⟨⟨x,Z1⟩,ex,e⟩:=bind_some e;obtain⟨k,ek,e⟩:=bind_some e;cases e;refine g Hz Jz O Z Y H J x _ _ s ex λv H1 J1 s1 k1 r1=>?_
 cases x with
|bl k'=>cases ek;cases r1;exact⟨_,rfl,w H1 J1 s1 k1⟩
|_=>cases ek
def znl {op:CmpOp}{r:R2}{F:D->D->Option D}(ho:OpR X (compareOp op) r)(im:Im2 X.K r F)(ha:VX X a fa)(hb:VX X b fb)(hm:behindInMarks op b=false):VTX X (.Compare a [op] [b] pos) (xt1 (x2 F fa fb)):=by
 obtain⟨ta,pa,ga⟩:=ha;obtain⟨tb,pb,gb⟩:=hb;exact⟨_,ziA ho pa pb hm,zld (zhk im ga gb)⟩
def axNil:FAX:=λZ=>some ([],Z)
def axCons (f:FX)(g:FAX):FAX:=λZ=>(f Z).bind λq=>(g q.2).bind λr=>some (q.1::r.1,r.2)
def zdx:VAX X [] axNil:=⟨_,zcZ,λHz Jz O Z Y H J ds Z' Q s e w=>by cases e;exact w [] H J s Keep.refl .nil⟩
def zaD (ha:VX X e fa)(hr:VAX X es fl)(hs:starEach (e::es) X.env=(false,eval e X.env)::starEach es X.env:=by rfl):VAX X (e::es) (axCons fa fl):=by
 obtain⟨t,p,g⟩:=ha;obtain⟨t2,p2,g2⟩:=hr;refine⟨_,zbJ p p2 hs,?_⟩;intro Hz Jz O Z Y H J ds Z' Q s e w;obtain⟨⟨x,Z1⟩,ex,e⟩:=bind_some e;obtain⟨⟨xs,Z2⟩,exs,e⟩:=bind_some e;cases e;refine g Hz Jz O Z Y H J x _ _ s ex λv1 H1 J1 s1 k1 r1=>?_
 refine g2 Hz Jz O Z1 Y H1 J1 xs _ _ s1 exs λvs H2 J2 s2 k2 r2=>?_
 exact w _ H2 J2 s2 (k1.trans k2) (.cons (r1.keep k2) r2)
def xTup (f:FAX):FX:=λZ=>(f Z).bind λq=>(mkT q.1).bind λd=>some (d,q.2)
def zpp {x1}(h:VAX X es fl):VX X (.Tuple es x1 pos) (xTup fl):=by
 obtain⟨t,p,g⟩:=h;refine⟨_,zl8 p,?_⟩;intro Hz Jz O Z Y H J d Z' Q s e w;obtain⟨⟨xs,Z1⟩,exs,e⟩:=bind_some e;obtain⟨d',ed,e⟩:=bind_some e;cases e;obtain⟨hl,rfl⟩:=ze7 ed;refine g Hz Jz O Z Y H J xs _ _ s exs λvs H1 J1 s1 k1 r1=>⟨by rw[r1.length];exact zbV hl,λp hp=>?_⟩
 have un:=Up.new s1.ja hp (.tup vs)
 exact w _ _ _ (s1.up un) (k1.trans un.keep) (.tup (SqT.of zah) (r1.keep un.keep))
def xLst (f:FAX):FR:=λZ=>(f Z).bind λq=>if q.1.length<=lim then some (.new 1 (.lst q.1),q.2) else none
def zjn (h:VAX X es fl):VR X (.List es pos) (xLst fl):=by
 obtain⟨t,p,g⟩:=h;refine⟨_,ziF p,?_⟩;intro Hz Jz O Z Y H J d Z' Q s e w;obtain⟨⟨xs,Z1⟩,exs,e⟩:=bind_some e;by_cases hl:xs.length<=lim
 .have e:(if xs.length<=lim then some (RV.new 1 (.lst xs),Z1) else none)=some (d,Z'):=e
  rw[if_pos hl] at e;cases e;refine g Hz Jz O Z Y H J xs _ _ s exs λvs H1 J1 s1 k1 r1=>⟨by rw[r1.length];exact zbV hl,λp hp=>?_⟩
  have un:=Up.new s1.ja hp (.lst vs)
  exact w _ _ _ (s1.up un) (k1.trans un.keep) (zlc s1 un hp (λj=>s1.ja p j hp) zah (r1.keep un.keep))
 .have e:(if xs.length<=lim then some (RV.new 1 (.lst xs),Z1) else none)=some (d,Z'):=e
  rw[if_neg hl] at e;cases e
def zjo (ha:VX X a fa)(hb:VX X b fb)(hs:zc4 b:=by exact λ_ _=>rfl):VX X (.Subscript a b pos) (x2 dIx fa fb):=by
 obtain⟨ta,pa,ga⟩:=ha;obtain⟨tb,pb,gb⟩:=hb;exact⟨_,zhQ zfH pa pb hs,zhk zpd ga gb⟩
def x1 (F:D->Option D)(f:FX):FX:=λZ=>(f Z).bind λq=>(F q.1).bind λd=>some (d,q.2)
def xCall (F:List D->Option D)(f:FAX):FX:=λZ=>(f Z).bind λq=>(F q.1).bind λd=>some (d,q.2)
theorem RpWL.of {H:Hp}{J:Addr->Prop}:∀{vs:List V}{ds:List D},RpL K H J vs ds->RpWL K H J vs ds
|_,_,.nil=>trivial
|_,_,.cons h t=>⟨.inl h,RpWL.of t⟩
def zmj {r:List V->Hp->VK->Prop}{F:List D->Option D}{t:TA}(im:ImC K r F)(g:GoAX K t fl):GoX K (tCB r t) (xCall F fl):=by
 intro Hz Jz O Z Y H J d Z' Q s e w;obtain⟨⟨ds,Z1⟩,e1,e⟩:=bind_some e;obtain⟨y,e2,e⟩:=bind_some e;cases e;refine g Hz Jz O Z Y H J ds _ _ s e1 λvs H1 J1 s1 k1 r1=>?_
 exact im H1 J1 vs ds d Q s1.ja (.of r1) e2 λv H2 J2 u2 r2=>w v H2 J2 (s1.up u2) (k1.trans u2.keep) r2
def vx_b {id:String}{x:Str}{r:List V->Hp->VK->Prop}{F:List D->Option D}(hc:zcz X (.builtin id) r)(im:ImC X.K r F)(B:Blt X.mg)(hv:bootBuiltins x=some (.builtin id))(ha:VAX X (e::es) fl)(hB:x∈zbi:=by decide +kernel)(hg:Gl X x:=by rfl)(hn:x≠"__name__":=by decide)(hdb:(x == ("__debug__" : Str))=false:=by decide)
 (he:starEach (e::es) X.env=(false,eval e X.env)::starEach es X.env:=by rfl) (hpl:(backTo pos (starEach es X.env)).any (·.1)=false:=by rfl):VX X (.Call (.Name x p) (e::es) [] pos) (xCall F fl):=by
 obtain⟨t,p,g⟩:=ha;exact⟨_,pb hc B hv p hB hg hn hdb he hpl,zmj im g⟩
def zqL {T:String}{x:Str}{r:List V->Hp->VK->Prop}{F:List D->Option D}(hc:zcz X (.type T) r)(im:ImC X.K r F)(B:Blt X.mg)(hv:bootBuiltins x=some (.type T))(ha:VAX X (e::es) fl)(hB:x∈zbi:=by decide +kernel)(hg:Gl X x:=by rfl)(hn:x≠"__name__":=by decide)(hdb:(x == ("__debug__" : Str))=false:=by decide)
 (he:starEach (e::es) X.env=(false,eval e X.env)::starEach es X.env:=by rfl) (hpl:(backTo pos (starEach es X.env)).any (·.1)=false:=by rfl):VX X (.Call (.Name x p) (e::es) [] pos) (xCall F fl):=by
 obtain⟨t,p,g⟩:=ha;exact⟨_,pty hc B hv p hB hg hn hdb he hpl,zmj im g⟩
abbrev FOX:=En->Option (Option Int×En)
def GoOX (K:W.Frag)(t:TO)(f:FOX):Prop:=∀Hz Jz O Z Y H J o Z' Q,ST K Hz Jz O Z Y H J->f Z=some (o,Z')->(∀H' J',ST K Hz Jz O Z' Y H' J'->Keep K H J H' J'->Q o H')->t Y H Q
def VOX (X:Cx)(e:Option Expr)(f:FOX):Prop:=∃t,PO X e t/\GoOX X.K t f
def oxN:FOX:=λZ=>some (none,Z)
def oxS (f:FX):FOX:=λZ=>(f Z).bind λq=>(dInt q.1).bind λi=>some (some i,q.2)
def zle:VOX X none oxN:=⟨_,ziL,λHz Jz O Z Y H J o Z' Q s e w=>by cases e;exact w H J s Keep.refl⟩
def zlf (h:VX X a fa):VOX X (some a) (oxS fa):=by
 obtain⟨t,p,g⟩:=h;refine⟨_,ziM p,?_⟩;intro Hz Jz O Z Y H J o Z' Q s e w;obtain⟨⟨d,Z1⟩,e1,e⟩:=bind_some e;obtain⟨i,e2,e⟩:=bind_some e;cases e;refine g Hz Jz O Z Y H J d _ _ s e1 λv H1 J1 s1 k1 r1=>?_
 cases d with
|int k=>cases e2;cases r1;exact⟨_,rfl,w H1 J1 s1 k1⟩
|_=>cases e2
def xSl (f:FX)(lo hi:FOX):FX:=λZ=>(f Z).bind λx=>(lo x.2).bind λl=>(hi l.2).bind λh=>(dSl x.1 l.1 h.1).bind λd=>some (d,h.2)
def zlg {lo hi:Option Expr}{fl fh:FOX}(ha:VX X a fa)(hl:VOX X lo fl)(hh:VOX X hi fh):VX X (.Subscript a (.Slice lo hi none p2) pos) (xSl fa fl fh):=by
 obtain⟨t,p,g⟩:=ha;obtain⟨tl,pl,gl⟩:=hl;obtain⟨th,ph,gh⟩:=hh;refine⟨_,ze3 (r:=rSlD X.K) (sl_list.or (sl_tup.or ziS)) p pl ph,?_⟩;intro Hz Jz O Z Y H J d Z' Q s e w;obtain⟨⟨x,Z1⟩,e1,e⟩:=bind_some e;obtain⟨⟨l,Z2⟩,e2,e⟩:=bind_some e;obtain⟨⟨h,Z3⟩,e3,e⟩:=bind_some e;obtain⟨d',hF,e4⟩:=bind_some e;cases e4;refine g Hz Jz O Z Y H J x _ _ s e1 λv H1 J1 s1 k1 r1=>?_
 refine gl Hz Jz O Z1 Y H1 J1 l _ _ s1 e2 λH2 J2 s2 k2=>?_
 refine gh Hz Jz O Z2 Y H2 J2 h _ _ s2 e3 λH3 J3 s3 k3=>?_
 have r3:RpW X.K H3 J3 v x:=.inl ((r1.keep k2).keep k3)
 have k:=(k1.trans k2).trans k3
 match x,hF with
|.lst ds,hF=>
   cases hF;obtain⟨p,vs,rfl,h1,rl⟩:=r3.lst;refine .inl ⟨p,vs,rfl,SqL.of h1,λc hc=>?_⟩;have un:=Up.newJ s3.ja hc (.lst (cutV vs l h))
   exact w _ _ _ (s3.up un) (k.trans un.keep) (.lst zah (.inr rfl) ((rl.cut l h).keep un.keep))
|.tup ds,hF=>
   have hF:(if HT.sIx ds.length 0 l=0/\HT.sIx ds.length ds.length h=ds.length then none else some (D.tup (cut ds l h)))=some d:=hF
   by_cases hc:HT.sIx ds.length 0 l=0/\HT.sIx ds.length ds.length h=ds.length
   .rw[if_pos hc] at hF;cases hF
   .rw[if_neg hc] at hF;cases hF;obtain⟨p,vs,rfl,h1,rl⟩:=r3.tup;refine .inr (.inl ⟨p,vs,rfl,h1,by rw[rl.length];exact hc,λc hc=>?_⟩);have un:=Up.new s3.ja hc (.tup (cutV vs l h))
    exact w _ _ _ (s3.up un) (k.trans un.keep) (.tup (SqT.of zah) ((rl.cut l h).keep un.keep))
|.str z,hF=>
   have hF:(if z.length<=lim then some (D.str (Txt.slice z l h)) else none)=some d:=hF
   by_cases hc:z.length<=lim
   .rw[if_pos hc] at hF;cases hF;rw[r3.str];exact .inr (.inr ⟨z,rfl,zbV hc,w _ _ _ s3 k (.str _)⟩)
   .rw[if_neg hc] at hF;cases hF
end
section
variable {X:Cx}{K:W.Frag}{H H' H1 H2 Hz:Hp}{J J' J1 J2 Jz:Addr->Prop}{Z Z':En}{Y:L2.St}{O:Pr}
def ST.chgsG {fp fp':Nat->List Addr}{is:Nat->Bool}(s:ST K Hz Jz O Z Y H J)(w:Ow K Hz O Z Y H J fp)(hl:Z'.length=Z.length)(h1:∀j,is j=false->Z'[j]?=Z[j]?/\fp' j=fp j)
 (h2:∀i,is i=true->∃n d d' v,ownD (Z[i]?)=some (n,d)/\Z'[i]?=some (putD (Z[i]?) d')/\Y[i]?=some (some v)/\RpU K H' J' n v d' (fp' i)/\∀b∈fp' i,b∈fp i\/(Hz b=none/\∀j,b∉fp j))
 (nd:∀i,is i=true->(fp' i).Nodup) (nj:∀i,is i=true->∀b∈fp' i,¬J' b) (dj:∀i j,is i=true->is j=true->i≠j->∀b∈fp' i,b∉fp' j)
 (hs:∀b o,(∀i,is i=true->b∉fp i)->H b=some o->H' b=some o) (ha:∀b,H b≠none->H' b≠none) (jj:∀a,J a->J' a) (jn:∀a,J' a->J a\/H a=none) (ja:∀a,J' a->H' a≠none) :
 ST K Hz Jz O Z' Y H' J'/\Ow K Hz O Z' Y H' J' fp'/\Keep K H J H' J':=by
 have free:∀b,H b=none->Hz b=none:=λb hb=>by
  cases e:Hz b with
 |none=>rfl
 |some o=>exact absurd hb (s.al b (by rw[e];simp))
 have kp:Keep K H J H' J':=⟨jj,λp o j h=>hs p o (λi _ hp=>w.nj i p hp j) h,λp vs h=>by
  have ne:∀o,H p=some o->¬MutO o->∀i,is i=true->p∉fp i:=λo ho nm i _ hp=>by
   obtain⟨o',e,m⟩:=(w.at' i).ru p hp;rw[ho] at e;cases e;exact nm m
  rcases h with(h|⟨u,h⟩)|h
  .exact .inl (.inl (hs p _ (ne _ h (λz=>z)) h))
  .exact .inl (.inr ⟨u,hs p _ (ne _ h (λz=>z)) h⟩)
  .exact .inr h⟩
 have slot:∀i,is i=true->∀b∈fp i,Hz b=none\/b∈O.fpo i:=λi hi b hb=>by
  obtain⟨n,d,d',v,e1,_⟩:=h2 i hi;have q:=w.at' i
  match z:Z[i]?,e1,q with
 |some (.own m e),_,q=>exact .inl (q.2 b hb)
 |some (.par m e),_,q=>exact q.2 b hb
 have ow':Ow K Hz O Z' Y H' J' fp':=by
  refine⟨λi=>?_,λi=>?_,λi b hb=>?_,λi j ne b hb hb2=>?_⟩
  .cases hi:is i with
  |false=>
     rw[(h1 i hi).1,(h1 i hi).2];exact(w.at' i).keep kp λb hb o ho=>hs b o (λj hj hb2=>w.dj i j (λz=>by subst z;rw[hi] at hj;cases hj) b hb hb2) ho
  |true=>
     obtain⟨n,d,d',v,e1,e2,e3,e4,e5⟩:=h2 i hi;rw[e2];have q:=w.at' i
     match z:Z[i]?,e1,q with
    |some (.own m e),e1,q=>
       cases e1;refine⟨⟨v,e3,e4⟩,λb hb=>?_⟩;rcases e5 b hb with hb|hb
       .exact q.2 b hb
       .exact hb.1
    |some (.par m e),e1,q=>
       cases e1;refine⟨⟨v,e3,e4⟩,λb hb=>?_⟩;rcases e5 b hb with hb|hb
       .exact q.2 b hb
       .exact .inl hb.1
  .cases hi:is i with
  |false=>rw[(h1 i hi).2];exact w.nd i
  |true=>exact nd i hi
  .cases hi:is i with
  |false=>
     rw[(h1 i hi).2] at hb;intro jb;rcases jn b jb with jb|jb
     .exact w.nj i b hb jb
     .obtain⟨o,e,_⟩:=(w.at' i).ru b hb;rw[e] at jb;cases jb
  |true=>exact nj i hi b hb
  .have cross:∀i j,i≠j->is i=true->is j=false->b∈fp' i->b∈fp' j->False:=λi j ne hi hj hb hb2=>by
    rw[(h1 j hj).2] at hb2;obtain⟨_,_,_,_,_,_,_,_,e5⟩:=h2 i hi;rcases e5 b hb with h|h
    .exact w.dj i j ne b h hb2
    .exact h.2 j hb2
   cases hi:is i with
  |true=>
     cases hj:is j with
    |true=>exact dj i j hi hj ne b hb hb2
    |false=>exact cross i j ne hi hj hb hb2
  |false=>
     cases hj:is j with
    |true=>exact cross j i (Ne.symm ne) hj hi hb2 hb
    |false=>
       rw[(h1 i hi).2] at hb;rw[(h1 j hj).2] at hb2;exact w.dj i j ne b hb hb2
 refine⟨⟨λb o hb h=>hs b o (λi hi hb2=>?_) (s.same b o hb h),λa h=>jj a (s.j0 a h),λa h=>?_,ja,by rw[hl];exact s.len,λj e h=>?_,⟨fp',ow'⟩,λq hq=>?_,λb h=>ha b (s.al b h)⟩,ow',kp⟩
 .rcases slot i hi b hb2 with h2|h2
  .rw[h2] at h;cases h
  .exact hb ⟨i,h2⟩
 .rcases jn a h with h|h
  .exact s.jn a h
  .exact .inr (free a h)
 .cases hj:is j with
 |false=>
    rw[(h1 j hj).1] at h;obtain⟨v,e1,r1⟩:=s.vl j e h;exact⟨v,e1,r1.keep kp⟩
 |true=>
    obtain⟨n,d,d',v,e1,e2,_⟩:=h2 j hj;rw[e2] at h;match z:Z[j]?,e1 with
   |some (.own m e),_=>rw[z] at h;cases h
   |some (.par m e),_=>rw[z] at h;cases h
 .obtain⟨e1,d,h⟩:=s.ps q hq;refine⟨e1,?_⟩;cases hj:is q.1 with
 |false=>rw[(h1 _ hj).1];exact⟨d,h⟩
 |true=>
    obtain⟨n,d0,d',v,_,e2,_⟩:=h2 _ hj;rw[e2,h];exact⟨d',rfl⟩
def ST.chgs {fp fp':Nat->List Addr}{is:Nat->Bool}(s:ST K Hz Jz O Z Y H J)(w:Ow K Hz O Z Y H J fp)(hl:Z'.length=Z.length)(h1:∀j,is j=false->Z'[j]?=Z[j]?/\fp' j=fp j)
 (h2:∀i,is i=true->∃n d d' v,ownD (Z[i]?)=some (n,d)/\Z'[i]?=some (putD (Z[i]?) d')/\Y[i]?=some (some v)/\RpU K H' J' n v d' (fp' i)/\∀b∈fp' i,b∈fp i\/H b=none)
 (nd:∀i,is i=true->(fp' i).Nodup) (nj:∀i,is i=true->∀b∈fp' i,¬J' b) (dj:∀i j,is i=true->is j=true->i≠j->∀b∈fp' i,b∉fp' j)
 (hs:∀b o,(∀i,is i=true->b∉fp i)->H b=some o->H' b=some o) (ha:∀b,H b≠none->H' b≠none) (jj:∀a,J a->J' a) (jn:∀a,J' a->J a\/H a=none) (ja:∀a,J' a->H' a≠none) :
 ST K Hz Jz O Z' Y H' J'/\Ow K Hz O Z' Y H' J' fp'/\Keep K H J H' J':=by
 refine s.chgsG w hl h1 (λi hi=>?_) nd nj dj hs ha jj jn ja;obtain⟨n,d,d',v,e1,e2,e3,e4,e5⟩:=h2 i hi;refine⟨n,d,d',v,e1,e2,e3,e4,λb hb=>?_⟩;rcases e5 b hb with h|h
 .exact .inl h
 .right
  refine⟨?_,λj hj=>?_⟩
  .cases e:Hz b with
  |none=>rfl
  |some o=>exact absurd h (s.al b (by rw[e];simp))
  .obtain⟨o,e,_⟩:=(w.at' j).ru b hj;rw[h] at e;cases e
def zqM (K:W.Frag)(H:Hp)(J:Addr->Prop)(k:Option (Option Nat))(v:Option V)(d:Option D)(A:List Addr):Prop:=match k with
|some none=>∃u e,v=some u/\d=some e/\Rp K H J u e/\A = []
|some (some n)=>∃a e,v=some (.ref a)/\d=some e/\RpU K H J n (.ref a) e A
|none=>A = []
structure ArgsG (K:W.Frag)(H:Hp)(J:Addr->Prop)(ks:List (Option Nat))(vs:List V)(ds:List D)(fp:Nat->List Addr):Prop where
 l1:vs.length=ks.length
 l2:ds.length=ks.length
 at':∀i,zqM K H J (ks[i]?) (vs[i]?) (ds[i]?) (fp i)
 nd:∀i,(fp i).Nodup
 nj:∀i,∀b∈fp i,¬J b
 dj:∀i j,i≠j->∀b∈fp i,b∉fp j
def ResG (K:W.Frag)(H:Hp)(H':Hp)(J':Addr->Prop)(fp':Nat->List Addr)(v:V):RV->Prop
|.told d=>Rp K H' J' v d
|.new n d=>∃A,RpU K H' J' n v d A/\A.Nodup/\(∀b∈A,¬J' b/\H b=none)/\∀i:Nat,∀b∈A,b∉fp' i
structure PostG (K:W.Frag)(H:Hp)(J:Addr->Prop)(ks:List (Option Nat))(vs:List V)(fp:Nat->List Addr)(r:RV)(es:List D)(v:V)(H':Hp)(J':Addr->Prop)(fp':Nat->List Addr):Prop where
 hs:∀b o,(∀i,b∉fp i)->H b=some o->H' b=some o
 al:∀b,H b≠none->H' b≠none
 jj:∀a,J a->J' a
 jn:∀a,J' a->J a\/H a=none
 ja:∀a,J' a->H' a≠none
 own:∀i n,ks[i]?=some (some n)->∃a e,vs[i]?=some (.ref a)/\es[i]?=some e/\RpU K H' J' n (.ref a) e (fp' i)/\∀b∈fp' i,b∈fp i\/H b=none
 nd:∀i,(fp' i).Nodup
 nj:∀i,∀b∈fp' i,¬J' b
 dj:∀i j,i≠j->∀b∈fp' i,b∉fp' j
 res:ResG K H H' J' fp' v r
def spG (K:W.Frag)(ks:List (Option Nat))(F:List D->Option (RV×List D)):Sp:=λvs H Q _=>∃J ds r es fp,(∀a,J a->H a≠none)/\ArgsG K H J ks vs ds fp/\F ds=some (r,es)/\∀v H' J' fp',PostG K H J ks vs fp r es v H' J' fp'->Q v H'
def inSl:List (Option Nat)->List D->En
|none::ks,d::ds=>.val d::inSl ks ds
|some n::ks,d::ds=>.par n d::inSl ks ds
|_,_=>[]
def slOf:Option (Option Nat)->Option D->Option SV
|some none,some d=>some (.val d)
|some (some n),some d=>some (.par n d)
|_,_=>none
theorem zfa:∀(ks:List (Option Nat)) (ds:List D) (i:Nat),ks.length=ds.length->(inSl ks ds)[i]?=slOf (ks[i]?) (ds[i]?)
|[],[],i,_=>by simp[inSl,slOf]
|none::ks,d::ds,0,_=>by simp[inSl,slOf]
|some n::ks,d::ds,0,_=>by simp[inSl,slOf]
|none::ks,d::ds,i+1,h=>by simpa[inSl] using zfa ks ds i (by simpa using h)
|some n::ks,d::ds,i+1,h=>by simpa[inSl] using zfa ks ds i (by simpa using h)
|[],_::_,_,h=>by simp at h
|_::_,[],_,h=>by simp at h
theorem zde:∀(ks:List (Option Nat)) (ds:List D),ks.length=ds.length->(inSl ks ds).length=ks.length
|[],[],_=>rfl
|none::ks,d::ds,h=>by simp[inSl,zde ks ds (by simpa using h)]
|some n::ks,d::ds,h=>by simp[inSl,zde ks ds (by simpa using h)]
|[],_::_,h=>by simp at h
|_::_,[],h=>by simp at h
def outSl:List (Option Nat)->En->Option (List D)
|[],_=>some []
|none::ks,_::Z=>(outSl ks Z).bind λes=>some (.non::es)
|some _::ks,.par _ d::Z=>(outSl ks Z).bind λes=>some (d::es)
|_,_=>none
theorem zec:∀{ks:List (Option Nat)}{Z:En}{es:List D}{i n:Nat}{m:Nat}{d:D},outSl ks Z=some es->ks[i]?=some (some n)->Z[i]?=some (.par m d)->es[i]?=some d
|[],_,_,_,_,_,_,_,h,_=>by simp at h
|none::ks,x::Z,es,i,n,m,d,e,h1,h2=>by
   obtain⟨es',e1,e⟩:=bind_some (show((outSl ks Z).bind λes=>some (D.non::es))=some es from e);cases e;match i,h1,h2 with
  |0,h1,_=>simp at h1
  |i+1,h1,h2=>simpa using zec (n:=n) (m:=m) e1 (by simpa using h1) (by simpa using h2)
|some k::ks,.par m' d'::Z,es,i,n,m,d,e,h1,h2=>by
   obtain⟨es',e1,e⟩:=bind_some (show((outSl ks Z).bind λes=>some (d'::es))=some es from e);cases e;match i,h1,h2 with
  |0,h1,h2=>simp at h2;simp[h2.2]
  |i+1,h1,h2=>simpa using zec (n:=n) (m:=m) e1 (by simpa using h1) (by simpa using h2)
def psAt (i:Nat):Option (Option Nat)->Option V->Option (Nat×Addr×Nat)
|some (some n),some (.ref a)=>some (i,a,n)
|_,_=>none
def psOf (ks:List (Option Nat))(vs:List V):List (Nat×Addr×Nat):=(List.range ks.length).filterMap λi=>psAt i (ks[i]?) (vs[i]?)
def mem_psOf {ks:List (Option Nat)}{vs:List V}{q:Nat×Addr×Nat}:q∈psOf ks vs↔ks[q.1]?=some (some q.2.2)/\vs[q.1]?=some (.ref q.2.1):=by
 unfold psOf;rw[List.mem_filterMap];constructor
 .rintro⟨i,_,h⟩;unfold psAt at h;split at h
  .rename_i n a h1 h2;cases h;exact⟨h1,h2⟩
  .cases h
 .rintro⟨h1,h2⟩;refine⟨q.1,wbr.mpr (waa.mp h1).1,?_⟩;rw[h1,h2];rfl
def zfV {N:List Str}{ks:List (Option Nat)}{vs:List V}{ds:List D}{fp:Nat->List Addr}(ja:∀a,J a->H a≠none)(r:ArgsG K H J ks vs ds fp) :
 ST K H J ⟨psOf ks vs,fp⟩ (inSl ks ds++List.replicate (N.length - ks.length) .un) (start N vs) H J:=by
 have get:∀i:Nat,(inSl ks ds++List.replicate (N.length - ks.length) SV.un)[i]?=slOf (ks[i]?) (ds[i]?)\/(ks[i]?=none/\((inSl ks ds++List.replicate (N.length - ks.length) SV.un)[i]?=some SV.un\/(inSl ks ds++List.replicate (N.length - ks.length) SV.un)[i]?=none)):=λi=>by
  by_cases hi:i<ks.length
  .left
   rw[waJ (by rw[zde ks ds r.l2.symm];exact hi),zfa ks ds i r.l2.symm]
  .right
   refine⟨waG (by omega),?_⟩;rw[waI (by rw[zde ks ds r.l2.symm];omega),List.getElem?_replicate];split
   .exact .inl rfl
   .exact .inr rfl
 have sg:∀(i:Nat) (v:V),vs[i]?=some v->(start N vs)[i]?=some (some v):=λi v h=>by
  unfold L2.start;rw[waJ (by simp;exact(waa.mp h).1),waj,h];rfl
 refine⟨λ_ _ _ h=>h,λ_ h=>h,λ_ h=>.inl h,ja,by simp[L2.start,r.l1,zde ks ds r.l2.symm],λi d h=>?_,⟨fp,λi=>?_,r.nd,r.nj,r.dj⟩,λq hq=>?_,λ_ h=>h⟩
 .have q:=r.at' i
  rcases get i with e|⟨_,e|e⟩
  .rw[e] at h;match z:ks[i]?,y:ds[i]?,h,q with
  |some none,some e',h,q=>
     cases h;obtain⟨u,e,h1,h2,h3,_⟩:=q;cases h2;exact⟨u,sg i u h1,h3⟩
  .rw[e] at h;cases h
  .rw[e] at h;cases h
 .have q:=r.at' i
  rcases get i with e|⟨e0,e|e⟩
  .rw[e];match z:ks[i]?,y:ds[i]?,q with
  |some none,some e',q=>obtain⟨_,_,_,_,_,h⟩:=q;exact h
  |some (some n),some e',q=>
     obtain⟨a,e,h1,h2,h3⟩:=q;cases h2;exact⟨⟨_,sg i _ h1,h3⟩,λb hb=>.inr hb⟩
  |none,_,q=>exact q
  |some none,none,q=>obtain⟨_,_,_,h,_⟩:=q;cases h
  |some (some n),none,q=>obtain⟨_,_,_,h,_⟩:=q;cases h
  .rw[e];rw[e0] at q;exact q
  .rw[e];rw[e0] at q;exact q
 .obtain⟨h1,h2⟩:=mem_psOf.mp hq;refine⟨sg _ _ h2,?_⟩;have q':=r.at' q.1
  rw[h1] at q';obtain⟨a,e,_,h3,_⟩:=q';rcases get q.1 with g|⟨g,_⟩
  .rw[g,h1,h3];exact⟨e,rfl⟩
  .rw[h1] at g;cases g
end
section
variable {P:Program}{w:World}{K:W.Frag}{mg:Str->Option Value}{base:Heap}
def zlh {ks:List (Option Nat)}{vs:List V}{ds:List D}{es:List D}{fp:Nat->List Addr}{r:RV}{H H':Hp}{J J':Addr->Prop}{Z:En}{Y:L2.St}{v:V}(A:ArgsG K H J ks vs ds fp)(s:ST K H J ⟨psOf ks vs,fp⟩ Z Y H' J')
 (q:RtAt K H ⟨psOf ks vs,fp⟩ Z Y H' J' v r) (e:outSl ks Z=some es):∃fp',PostG K H J ks vs fp r es v H' J' fp':=by
 have main:∀fp',Ow K H ⟨psOf ks vs,fp⟩ Z Y H' J' fp'->ResG K H H' J' fp' v r->PostG K H J ks vs fp r es v H' J' fp':=λfp' w hr=>
  ⟨λb o hb h=>s.same b o (λ⟨i,hi⟩ =>hb i hi) h,s.al,s.j0,s.jn,s.ja,λi n hk=>by
   have qa:=A.at' i
   rw[hk] at qa;obtain⟨a,e0,h1,_,_⟩:=qa;obtain⟨h2,d,h3⟩:=s.ps (i,a,n) (mem_psOf.mpr ⟨hk,h1⟩);have h2:Y[i]?=some (some (.ref a)):=h2
   have h3:Z[i]?=some (.par n d):=h3
   have o:=w.at' i
   rw[h3] at o;obtain⟨⟨v',e1,ru⟩,hb⟩:=o;rw[h2] at e1;cases e1;exact⟨a,d,h1,zec e hk h3,ru,λb hb'=>(hb b hb').symm⟩,w.nd,w.nj,w.dj,hr⟩
 cases r with
|told d=>
   obtain⟨fp',w⟩:=s.ow;exact⟨fp',main fp' w q⟩
|new n d=>
   obtain⟨B,fp',w,ru,nd,hb,dj⟩:=q;exact⟨fp',main fp' w ⟨B,ru,nd,hb,dj⟩⟩
end
def RpU.isRef {K:W.Frag}{H:Hp}{J:Addr->Prop}{n:Nat}{v:V}{d:D}{A:List Addr}(h:RpU K H J (n+1) v d A):∃a,v=.ref a:=by
 cases h <;> exact⟨_,rfl⟩
abbrev FAG:=En->Option (List (Option D)×En)
def ArgV (K:W.Frag)(H:Hp)(J:Addr->Prop)(u:Option (Option V)):List V->List (Option D)->Prop
|[],[]=>True
|v::vs,none::as=>u=some (some v)/\ArgV K H J u vs as
|v::vs,some d::as=>Rp K H J v d/\ArgV K H J u vs as
|_,_=>False
def GoAG (K:W.Frag)(i:Nat)(t:TA)(f:FAG):Prop:=∀Hz Jz O Z Y H J as Z' Q,ST K Hz Jz O Z Y H J->f Z=some (as,Z')->(∀vs H' J',ST K Hz Jz O Z' Y H' J'->Keep K H J H' J'->ArgV K H' J' (Y[i]?) vs as->Q vs H')->t Y H Q
def VAG (X:Cx)(i:Nat)(es:List Expr)(f:FAG):Prop:=∃t,PA X es t/\GoAG X.K i t f
theorem ArgV.keep {K:W.Frag}{H H':Hp}{J J':Addr->Prop}{u:Option (Option V)}(k:Keep K H J H' J'):∀{vs:List V}{as:List (Option D)},ArgV K H J u vs as->ArgV K H' J' u vs as
|[],[],_=>trivial
|v::vs,none::as,h=>⟨h.1,ArgV.keep k h.2⟩
|v::vs,some d::as,h=>⟨h.1.keep k,ArgV.keep k h.2⟩
|[],_::_,h=>h.elim
|_::_,[],h=>h.elim
theorem ArgV.length {K:W.Frag}{H:Hp}{J:Addr->Prop}{u:Option (Option V)}:∀{vs:List V}{as:List (Option D)},ArgV K H J u vs as->vs.length=as.length
|[],[],_=>rfl
|v::vs,none::as,h=>by simp[ArgV.length h.2]
|v::vs,some d::as,h=>by simp[ArgV.length h.2]
|[],_::_,h=>h.elim
|_::_,[],h=>h.elim
theorem ArgV.get {K:W.Frag}{H:Hp}{J:Addr->Prop}{u:Option (Option V)}:∀{vs:List V}{as:List (Option D)}{j:Nat}{o:Option D},ArgV K H J u vs as->as[j]?=some o->∃v,vs[j]?=some v/\match o with|none=>u=some (some v)|some d=>Rp K H J v d
|[],[],_,_,_,e=>by simp at e
|v::vs,none::as,0,o,h,e=>by simp at e;subst e;exact⟨v,rfl,h.1⟩
|v::vs,some d::as,0,o,h,e=>by simp at e;subst e;exact⟨v,rfl,h.1⟩
|v::vs,none::as,j+1,o,h,e=>by simpa using ArgV.get (j:=j) (o:=o) h.2 (by simpa using e)
|v::vs,some d::as,j+1,o,h,e=>by simpa using ArgV.get (j:=j) (o:=o) h.2 (by simpa using e)
|[],_::_,_,_,h,_=>h.elim
|_::_,[],_,_,h,_=>h.elim
section
variable {X:Cx}{K:W.Frag}{e:Expr}{es:List Expr}{fa:FX}{fl:FAG}{pos p:Pos}{i:Nat}
def agNil:FAG:=λZ=>some ([],Z)
def agOwn (i:Nat)(f:FAG):FAG:=λZ=>if(ownD (Z[i]?)).isSome=true then(f Z).bind λq=>some (none::q.1,q.2) else none
def agX (g:FX)(f:FAG):FAG:=λZ=>(g Z).bind λq=>(f q.2).bind λr=>some (some q.1::r.1,r.2)
def zay:VAG X i [] agNil:=⟨_,zcZ,λHz Jz O Z Y H J ds Z' Q s e w=>by cases e;exact w [] H J s Keep.refl trivial⟩
def zbB (ha:VX X e fa)(hr:VAG X i es fl)(hs:starEach (e::es) X.env=(false,eval e X.env)::starEach es X.env:=by rfl):VAG X i (e::es) (agX fa fl):=by
 obtain⟨t,p,g⟩:=ha;obtain⟨t2,p2,g2⟩:=hr;refine⟨_,zbJ p p2 hs,?_⟩;intro Hz Jz O Z Y H J ds Z' Q s e w;obtain⟨⟨x,Z1⟩,ex,e⟩:=bind_some e;obtain⟨⟨xs,Z2⟩,exs,e⟩:=bind_some e;cases e;refine g Hz Jz O Z Y H J x _ _ s ex λv1 H1 J1 s1 k1 r1=>?_
 refine g2 Hz Jz O Z1 Y H1 J1 xs _ _ s1 exs λvs H2 J2 s2 k2 r2=>?_
 exact w _ H2 J2 s2 (k1.trans k2) ⟨r1.keep k2,r2⟩
def zaz {x:Str}(hr:VAG X i es fl)(hN:X.N[i]?=some x:=by rfl)(hv:Vis X.env.scope x:=by first|exact Or.inl rfl|exact Or.inr (Or.inl rfl)|exact Or.inr (Or.inr rfl))(hd:(x == ("__debug__" : Str))=false:=by decide)(hcd:(x == ("__classdict__" : Str))=false:=by decide)
 (hs:starEach (.Name x p::es) X.env=(false,eval (.Name x p) X.env)::starEach es X.env:=by rfl):VAG X i (.Name x p::es) (agOwn i fl):=by
 obtain⟨t2,p2,g2⟩:=hr;refine⟨_,zbJ (zbT hN hv hd hcd) p2 hs,?_⟩;intro Hz Jz O Z Y H J ds Z' Q s e w;unfold agOwn at e;by_cases ho:(ownD (Z[i]?)).isSome=true
 .rw[if_pos ho] at e;obtain⟨⟨xs,Z2⟩,exs,e⟩:=bind_some e;cases e;obtain⟨⟨n,d⟩,hq⟩:=Option.isSome_iff_exists.mp ho;obtain⟨v,A,hv,_⟩:=s.rd hq;refine⟨v,hv,?_⟩;refine g2 Hz Jz O Z Y H J xs _ _ s exs λvs H2 J2 s2 k2 r2=>?_
  exact w _ H2 J2 s2 k2 ⟨hv,r2⟩
 .rw[if_neg ho] at e;cases e
def agK (n:Nat):Option D->Option Nat
|none=>some n
|some _=>none
def xCallG (ks:List (Option Nat))(p i n:Nat)(F:List D->Option (RV×List D))(f:FAG):FR:=λZ=>(f Z).bind λq=>
 if q.1.map (agK n)=ks then match ownD (q.2[i]?) with
 |some (m,d)=>if m=n then(F (q.1.map λo=>o.getD d)).bind λr=>(r.2[p]?).bind λe=>some (r.1,setO q.2 i e) else none
 |none=>none
 else none
def zc7 {Z:En}{i j:Nat}{d:D}(h:j≠i):(setO Z i d)[j]?=Z[j]?:=by
 unfold setO;exact wah (Ne.symm h)
def zli {ks:List (Option Nat)}{q n:Nat}{F:List D->Option (RV×List D)}{t:TA}(hp:ks[q]?=some (some n))(h1:∀(j m:Nat),ks[j]?=some (some m)->j=q)(hn:n≠0)(g:GoAG K i t fl)(E:XK):GoR K (ziG (spG K ks F) [] E t) (xCallG ks q i n F fl):=by
 intro Hz Jz O Z Y H J r Z' Q s e w;obtain⟨⟨as,Z1⟩,e1,e⟩:=bind_some e;have eA:(if as.map (agK n)=ks then match ownD (Z1[i]?) with
 |some (m,d)=>if m=n then(F (as.map λo=>o.getD d)).bind λr=>(r.2[q]?).bind λe=>some (r.1,setO Z1 i e) else none
 |none=>none
 else none)=some (r,Z'):=e
 by_cases hk:as.map (agK n)=ks
 .rw[if_pos hk] at eA;cases ho:ownD (Z1[i]?) with
 |none=>rw[ho] at eA;cases eA
 |some md=>
    obtain⟨m,d⟩:=md;rw[ho] at eA;have eB:(if m=n then(F (as.map λo=>o.getD d)).bind λr=>(r.2[q]?).bind λe=>some (r.1,setO Z1 i e) else none)=some (r,Z'):=eA
    by_cases hm:m=n
    .rw[if_pos hm] at eB;subst hm;obtain⟨⟨r',es⟩,e2,eC⟩:=bind_some eB;obtain⟨d',e3,eD⟩:=bind_some eC;cases eD;refine g Hz Jz O Z Y H J as Z1 _ s e1 λvs H1 J1 s1 k1 r1=>?_
     obtain⟨fp,ow⟩:=s1.ow;have hi:i<Z1.length:=by
      by_cases hi:i<Z1.length
      .exact hi
      .rw[waG (by omega)] at ho;cases ho
     have hat:∃v,Y[i]?=some (some v)/\RpU K H1 J1 m v d (fp i):=by
      have o:=ow.at' i
      match z:Z1[i]?,ho,o with
     |some (.own _ _),ho,o=>cases ho;exact o.1
     |some (.par _ _),ho,o=>cases ho;exact o.1
     obtain⟨v,hv,ru⟩:=hat
     have asq:as[q]?=some none:=by
      have:=hp
      rw[<-hk,waj] at this;cases z:as[q]? with
     |none=>rw[z] at this;cases this
     |some o=>rw[z] at this;cases o with
       |none=>rfl
       |some _=>simp[agK] at this
     have mpos:∃a,v=.ref a:=by
      cases m with
     |zero=>exact absurd rfl hn
     |succ m=>exact ru.isRef
     obtain⟨a,rfl⟩:=mpos;have vq:vs[q]?=some (.ref a):=by
      obtain⟨u,h1,h2⟩:=r1.get asq;have h2:Y[i]?=some (some u):=h2
      rw[hv] at h2;cases h2;exact h1
     have args:ArgsG K H1 J1 ks vs (as.map λo=>o.getD d) (λj=>if j=q then fp i else[]):=by
      refine⟨by rw[r1.length,<-hk,wad],by rw[wad,<-hk,wad],λj=>?_,λj=>?_,λj b hb=>?_,λj l ne b hb=>?_⟩
      .rw[<-hk,waj,waj];cases z:as[j]? with
      |none=>
         have:j≠q:=λh=>by rw[h,asq] at z;cases z
         show(if j=q then fp i else[]) = []
         rw[if_neg this]
      |some o=>
         cases o with
        |none=>
           have:j=q:=h1 j m (by rw[<-hk,waj,z];rfl)
           subst this;exact⟨a,d,vq,rfl,by rw[if_pos rfl];exact ru⟩
        |some x=>
           have:j≠q:=λh=>by rw[h,asq] at z;cases z
           obtain⟨u,h1,h2⟩:=r1.get z;exact⟨u,x,h1,rfl,h2,by rw[if_neg this]⟩
      .split
       .exact ow.nd i
       .exact waZ
      .split at hb
       .exact ow.nj i b hb
       .cases hb
      .split at hb
       .rename_i z
        rw[if_neg (λh=>ne (z.trans h.symm))];simp
       .cases hb
     refine⟨J1,_,r',es,_,s1.ja,by rw[waQ];exact args,e2,λv' H' J' fp' pg=>?_⟩;rw[waQ] at pg;obtain⟨a2,d2,h2,h3,ru2,hb2⟩:=pg.own q m hp;rw[vq] at h2;cases h2;rw[e3] at h3;cases h3;have hA:∀b:Addr,(∀j,b∉(if j=q then fp i else[]))↔b∉fp i:=λb=>by
      constructor
      .intro h;have:=h q;rwa [if_pos rfl] at this
      .intro h j;split
       .exact h
       .simp
     have key:=s1.chgs (Z':=setO Z1 i d') (fp':=zfR fp i (fp' q)) (is:=λj=>j == i) (H':=H') (J':=J') ow (by simp[setO]) (λj hj=>?_) (λj hj=>?_) (λj hj=>?_) (λj hj=>?_) (λj l hj hl ne=>?_) (λb o hb h=>pg.hs b o ((hA b).mpr (hb i (by simp))) h) pg.al pg.jj pg.jn pg.ja
     .obtain⟨s2,ow2,k2⟩:=key;refine w v' H' J' s2 (k1.trans k2) ?_;have res:=pg.res
      cases r' with
     |told d0=>exact res
     |new n0 d0=>
        obtain⟨B,ruB,ndB,hB,djB⟩:=res;refine⟨B,zfR fp i (fp' q),ow2,ruB,ndB,λb hb=>⟨(hB b hb).1,?_⟩,λj b hb=>?_⟩
        .cases z:Hz b with
        |none=>rfl
        |some o=>exact absurd (hB b hb).2 (s1.al b (by rw[z];simp))
        .by_cases hj:j=i
         .subst hj;rw[zaB];exact djB q b hb
         .rw[zbc hj];intro hb2;obtain⟨o,ho',_⟩:=(ow.at' j).ru b hb2;rw[(hB b hb).2] at ho';cases ho'
     .have hj':j≠i:=by simpa using hj
      exact⟨zc7 hj',zbc hj'⟩
     .have hj':j=i:=by simpa using hj
      subst hj';refine⟨m,d,d',.ref a,ho,wam hi,hv,by rw[zaB];exact ru2,λb hb=>?_⟩;rw[zaB] at hb;have:=hb2 b hb
      rwa [if_pos rfl] at this
     .have hj':j=i:=by simpa using hj
      subst hj';rw[zaB];exact pg.nd q
     .have hj':j=i:=by simpa using hj
      subst hj';rw[zaB];exact pg.nj q
     .have hj':j=i:=by simpa using hj
      have hl':l=i:=by simpa using hl
      exact absurd (hj'.trans hl'.symm) ne
    .rw[if_neg hm] at eB;cases eB
 .rw[if_neg hk] at eA;cases eA
def zmk (ks:List (Option Nat))(q:Nat):Bool:=(List.range ks.length).all λj=>match ks[j]? with
|some (some _)=>j == q
|_=>true
def zjp {ks:List (Option Nat)}{q:Nat}(h:zmk ks q=true)(j m:Nat)(hj:ks[j]?=some (some m)):j=q:=by
 have:=waN.mp h j (wbr.mpr (waa.mp hj).1)
 rw[hj] at this;simpa using this
def zaA (q i n:Nat){k k':Nat}{x:Str}{ps:List Str}{ks:List (Option Nat)}{F:List D->Option (RV×List D)}(C:Cal X.prog X.w X.K X.mg X.base k x ps (spG X.K ks F))(hr:Room k' X.A)(ha:VAG X i (e::es) fl)(hp:ks[q]?=some (some n):=by rfl)(ho:zmk ks q=true:=by decide)(hn:n≠0:=by decide)(hk:k<=k':=by decide)(hg:Gl X x:=by rfl)(hdb:(x == ("__debug__" : Str))=false:=by decide)
 (he:starEach (e::es) X.env=(false,eval e X.env)::starEach es X.env:=by rfl) (hpl:(backTo pos (starEach es X.env)).any (·.1)=false:=by rfl):VR X (.Call (.Name x p) (e::es) [] pos) (xCallG ks q i n F fl):=by
 obtain⟨t,p,g⟩:=ha;exact⟨_,pc C hr p hk hg hdb he hpl,zli hp (zjp ho) hn g _⟩
def xCallN (ks:List (Option Nat))(F:List D->Option (RV×List D))(f:FAX):FR:=λZ=>(f Z).bind λq=>(F q.1).bind λr=>if q.1.length=ks.length then some (r.1,q.2) else none
def ArgsG.plain {H:Hp}{J:Addr->Prop}{vs:List V}{ds:List D}{ks:List (Option Nat)}(r:RpL K H J vs ds)(hk:ds.length=ks.length)(hn:ks.all (·.isNone)=true):ArgsG K H J ks vs ds (λ_=>[]):=by
 refine⟨by rw[r.length,hk],hk,λj=>?_,λ_=>waZ,λ_ b hb=>absurd hb (by simp),λ_ _ _ b hb=>absurd hb (by simp)⟩;cases z:ks[j]? with
|none=>rfl
|some o=>
   have:=waN.mp hn o (waC z)
   cases o with
  |some _=>cases this
  |none=>
     have hj:j<ds.length:=by rw[hk];exact(waa.mp z).1
     obtain⟨v,hv,rv⟩:=r.get (wap hj);exact⟨v,ds[j],hv,wap hj,rv,rfl⟩
def zlj {fl:FAX}{ks:List (Option Nat)}{F:List D->Option (RV×List D)}{t:TA}(hn:ks.all (·.isNone)=true)(g:GoAX K t fl)(E:XK):GoR K (ziG (spG K ks F) [] E t) (xCallN ks F fl):=by
 intro Hz Jz O Z Y H J r Z' Q s e w;obtain⟨⟨ds,Z1⟩,e1,eA⟩:=bind_some e;obtain⟨⟨r',es⟩,e2,eB⟩:=bind_some eA;have eB:(if ds.length=ks.length then some (r',Z1) else none)=some (r,Z'):=eB
 by_cases hl:ds.length=ks.length
 .rw[if_pos hl] at eB;cases eB;refine g Hz Jz O Z Y H J ds _ _ s e1 λvs H1 J1 s1 k1 r1=>?_
  refine⟨J1,ds,_,es,_,s1.ja,by rw[waQ];exact ArgsG.plain r1 hl hn,e2,λv H2 J2 fp' pg=>?_⟩;have u:Up H1 J1 H2 J2:=⟨λb o h=>pg.hs b o (λ_=>by simp) h,pg.jj,pg.jn,pg.ja⟩
  refine w v H2 J2 (s1.up u) (k1.trans u.keep) ?_;have res:=pg.res
  cases r with
 |told d0=>exact res
 |new n0 d0=>
    obtain⟨B,ruB,ndB,hB,_⟩:=res;obtain⟨fp,ow⟩:=s1.ow;refine⟨B,fp,⟨λi=>(ow.at' i).keep u.keep λb _=>u.same b,ow.nd,λi b hb jb=>?_,ow.dj⟩,ruB,ndB,λb hb=>⟨(hB b hb).1,?_⟩,λj b hb hb2=>?_⟩
    .rcases u.jn b jb with jb|jb
     .exact ow.nj i b hb jb
     .obtain⟨o,e,_⟩:=(ow.at' i).ru b hb;rw[e] at jb;cases jb
    .cases z:Hz b with
    |none=>rfl
    |some o=>exact absurd (hB b hb).2 (s1.al b (by rw[z];simp))
    .obtain⟨o,ho,_⟩:=(ow.at' j).ru b hb2;rw[(hB b hb).2] at ho;cases ho
 .rw[if_neg hl] at eB;cases eB
end
section
variable {X:Cx}{K:W.Frag}{a b c e:Expr}{es:List Expr}{fa fb:FX}{fe:FE}{ft:FTX}{fl:FAX}{fr:FR}{g g2:FS}{pos p:Pos}
def gSetX (i:Nat)(f:FX):FS:=λZ=>(f Z).bind λq=>if i<q.2.length/\isPar (q.2[i]?)=false then some (.nx (q.2.set i (.val q.1))) else none
def zcj {i:Nat}{x:Str}{pos':Pos}(hN:X.N.Nodup)(hi:X.N[i]?=some x)(hx:Loc X.env.scope x)(h:VX X e fa)(hs:swapsWith e (some (.Name x pos')) pos.line X.env=pure false:=by rfl)(hf:X.fn x=true\/X.env.scope.names.lookup x=some .local:=by first|exact .inl rfl|exact .inr rfl|assumption) :
 VS X (.Assign [.Name x pos'] e pos) (gSetX i fa):=by
 obtain⟨t,p,q⟩:=h;refine⟨_,zg7 hN hi hx p hs hf,?_⟩;intro Hz Jz O Z Y H J o E s e w;obtain⟨⟨d,Z1⟩,e1,eA⟩:=bind_some e;have eA:(if i<Z1.length/\isPar (Z1[i]?)=false then some (Out.nx (Z1.set i (.val d))) else none)=some o:=eA
 by_cases hi:i<Z1.length/\isPar (Z1[i]?)=false
 .rw[if_pos hi] at eA;cases eA;exact q Hz Jz O Z Y H J d Z1 _ s e1 λv H' J' s' k r=>w _ H' J' (s'.set r hi.1 (zbY hi.2)) k
 .rw[if_neg hi] at eA;cases eA
def ST.take {Hz H:Hp}{Jz J:Addr->Prop}{O:Pr}{Z:En}{Y:L2.St}{i n:Nat}{v:V}{d:D}(s:ST K Hz Jz O Z Y H J)(q:RtAt K Hz O Z Y H J v (.new n d))(hi:i<Z.length)(hp:∀n d,Z[i]?≠some (.par n d)):ST K Hz Jz O (Z.set i (.own n d)) (Y.set i (some v)) H J:=by
 obtain⟨A,fp,w,r,nd,hA,dj⟩:=q;refine⟨s.same,s.j0,s.jn,s.ja,by simp[s.len],λj e h=>?_,?_,λq hq=>?_,s.al⟩
 .rcases zdu h with⟨rfl,he⟩|⟨ne,h⟩
  .cases he
  .rw[wah (Ne.symm ne)];exact s.vl j e h
 .refine⟨_,w.put (i:=i) (A:=A) Keep.refl (λ_ _ _ _ _ h=>h) (λj _=>w.nj j) (λj e=>wah (Ne.symm e)) (λj e=>wah (Ne.symm e)) ?_ nd (λb hb=>(hA b hb).1) (λj _ b hb=>dj j b hb)⟩;rw[wam hi,wam (by rw[s.len];exact hi)];exact⟨⟨v,rfl,r⟩,λb hb=>(hA b hb).2⟩
 .have e:=s.psNe hp q hq
  rw[wah (Ne.symm e),wah (Ne.symm e)];exact s.ps q hq
def gOwnR (i:Nat)(f:FR):FS:=λZ=>(f Z).bind λq=>match q.1 with
|.new n d=>if i<q.2.length/\isPar (q.2[i]?)=false then some (.nx (q.2.set i (.own n d))) else none
|.told _=>none
def zed {i:Nat}{x:Str}{pos':Pos}(hN:X.N.Nodup)(hi:X.N[i]?=some x)(hx:Loc X.env.scope x)(h:VR X e fr)(hs:swapsWith e (some (.Name x pos')) pos.line X.env=pure false:=by rfl)(hf:X.fn x=true\/X.env.scope.names.lookup x=some .local:=by first|exact .inl rfl|exact .inr rfl|assumption) :
 VS X (.Assign [.Name x pos'] e pos) (gOwnR i fr):=by
 obtain⟨t,p,q⟩:=h;refine⟨_,zg7 hN hi hx p hs hf,?_⟩;intro Hz Jz O Z Y H J o E s e w;obtain⟨⟨r,Z1⟩,e1,eA⟩:=bind_some e;cases r with
|told d=>cases eA
|new n d=>
   have eA:(if i<Z1.length/\isPar (Z1[i]?)=false then some (Out.nx (Z1.set i (.own n d))) else none)=some o:=eA
   by_cases hi:i<Z1.length/\isPar (Z1[i]?)=false
   .rw[if_pos hi] at eA;cases eA;exact q Hz Jz O Z Y H J _ Z1 _ s e1 λv H' J' s' k r=>w _ H' J' (s'.take r hi.1 (zbY hi.2)) k
   .rw[if_neg hi] at eA;cases eA
def gRetX (f:FX):FS:=λZ=>(f Z).bind λq=>some (.ret (.told q.1) q.2)
def zee (h:VX X e fa):VS X (.Return (some e) pos) (gRetX fa):=by
 obtain⟨t,p,q⟩:=h;refine⟨_,zg5 p,λHz Jz O Z Y H J o E s e w=>?_⟩;obtain⟨⟨d,Z1⟩,e1,eA⟩:=bind_some e;cases eA;exact q Hz Jz O Z Y H J d Z1 _ s e1 λv H' J' s' k r=>w v Y H' J' s' r
def gIfX (c:FTX)(a b:FS):FS:=λZ=>(c Z).bind λq=>if q.1 then a q.2 else b q.2
def zpq {bs os:List Stmt}(hc:VTX X c ft)(ha:VSs X bs g)(hb:VSs X os g2):VS X (.If c bs os pos) (gIfX ft g g2):=by
 obtain⟨tc,pc,qc⟩:=hc;obtain⟨t,p,q⟩:=ha;obtain⟨u,p2,q2⟩:=hb;refine⟨_,zoB pc p p2,λHz Jz O Z Y H J o E s e w=>?_⟩;obtain⟨⟨k,Z1⟩,e1,eA⟩:=bind_some e;refine qc Hz Jz O Z Y H J k Z1 _ s e1 λH1 J1 s1 k1=>?_
 cases k with
|true=>exact iteT (q Hz Jz O Z1 Y H1 J1 o E s1 eA (w.keep k1))
|false=>exact iteF (q2 Hz Jz O Z1 Y H1 J1 o E s1 eA (w.keep k1))
def znm {Z:En}{i n:Nat}{d:D}(h:ownD (Z[i]?)=some (n,d)):i<Z.length:=by
 by_cases hi:i<Z.length
 .exact hi
 .rw[waG (by omega)] at h;cases h
def isL1:Option (Nat×D)->Bool
|some (1,.lst _)=>true
|_=>false
def gPutL (i:Nat)(fk:FE)(f:FX):FS:=λZ=>(f Z).bind λq=>(fk q.2).bind λk=>(dInt k).bind λk=>match ownD (q.2[i]?) with
|some (1,.lst ds)=>(ixN ds.length k).bind λj=>some (.nx (setO q.2 i (.lst (ds.set j q.1))))
|_=>none
def zfb (i:Nat){x:Str}{xp sp:Pos}{fk:FE}(h:VX X e fa)(hk:VE X a fk)(hN:X.N[i]?=some x:=by rfl)(hv:Vis X.env.scope x:=by first|exact Or.inl rfl|exact Or.inr (Or.inl rfl)|exact Or.inr (Or.inr rfl))(hd:(x == ("__debug__" : Str))=false:=by decide)(hcd:(x == ("__classdict__" : Str))=false:=by decide)
 (ha:∀v,assign (.Subscript (.Name x xp) a sp) X.env v=(do
  let ov <-holding [v] (eval (.Name x xp) X.env)
  let iv <-holding [v,ov] (eval a X.env)
  standAt sp
  holding [v,ov,iv] (setItem ov iv v)
  release [v,ov,iv] []):=by intro _;rfl)
 (hs:swapsWithSole [.Subscript (.Name x xp) a sp] e pos.line X.env=pure false:=by rfl) (hw:swappedStores [.Subscript (.Name x xp) a sp] e X.env=pure none:=by rfl) (h1:(assignEach [.Subscript (.Name x xp) a sp] X.env).map (·.2) = [assign (.Subscript (.Name x xp) a sp) X.env]:=by rfl) :
 VS X (.Assign [.Subscript (.Name x xp) a sp] e pos) (gPutL i fk fa):=by
 obtain⟨t,p,q⟩:=h;obtain⟨tk,pk,qk⟩:=hk;refine⟨_,zg6 p (zis (zbT hN hv hd hcd) pk ze4 ha) hs hw h1,λHz Jz O Z Y H J o E s e w=>?_⟩;obtain⟨⟨d,Z1⟩,e1,eA⟩:=bind_some e;obtain⟨k,e2,eB⟩:=bind_some eA;obtain⟨kk,e3,eC⟩:=bind_some eB;refine q Hz Jz O Z Y H J d Z1 _ s e1 λv H1 J1 s1 k1 r1=>?_
 split at eC
 .rename_i ds z
  obtain⟨j,e4,eD⟩:=bind_some eC;cases eD;obtain⟨a0,vs0,ha0,_,_,_⟩:=s1.top (H':=H) (es:=[]) z;refine⟨.ref a0,ha0,?_⟩;refine qk Hz Jz O Z1 Y H1 J1 k _ s1 e2 λvk H2 J2 u2 rk=>?_
  have s2:=s1.up u2
  obtain⟨a1,vs1,ha1,hv1,rl,go⟩:=s2.top (H':=H) (es:=[]) z;rw[ha0] at ha1;cases ha1;cases k with
 |int k0=>
    cases e3;cases rk;refine⟨a0,vs1,kk,j,rfl,rfl,hv1,by rw[rl.length];exact e4,?_⟩;obtain⟨s3,k3⟩:=go (vs1.set j v) (ds.set j d) (rl.set j (r1.keep u2.keep));exact w Y _ J2 s3 ((k1.trans u2.keep).trans k3)
 |_=>cases e3
 .cases eC
end
section
variable {X:Cx}{K:W.Frag}{fi fl:FAX}{fa:FX}{g:FS}{pos p:Pos}{ft:FT}{tg a b:Expr}
def keyD:D->Option Key
|.int i=>some (.inl i)
|.str x=>some (.inr x)
|_=>none
def zhl {H:Hp}{J:Addr->Prop}{v:V}{d:D}{k:Key}(r:RpW K H J v d)(h:keyD d=some k):v=kV k:=by
 cases d with
|int i=>cases h;exact r.int
|str x=>cases h;exact r.str
|_=>cases h
def dLook:List Key->List D->Key->Option D
|k::ks,d::ds,j=>if k=j then some d else dLook ks ds j
|_,_,_=>none
theorem zfc {H:Hp}{J:Addr->Prop}:∀{kvs:List (Key×V)}{ks:List Key}{ds:List D}{j:Key}{d:D},kvs.map (·.1)=ks->RpL K H J (kvs.map (·.2)) ds->dLook ks ds j=some d->∃v,valV kvs j=some v/\Rp K H J v d
|[],_,_,_,_,e,r,h=>by subst e;cases r;cases h
|(k,v)::kvs,_,_,j,d,e,r,h=>by
   subst e;cases r with
  |cons h1 t=>
     unfold valV;rw[wbw];unfold dLook at h;rw[waL] at h;by_cases hk:k=j
     .simp only[hk,if_true] at h;cases h;simp only[hk,decide_true];exact⟨v,rfl,h1⟩
     .simp only[hk,if_false] at h;simp only[hk,decide_false];exact zfc rfl t h
def dGet:D->D->Option D
|.dct ks ds,k=>(keyD k).bind λj=>dLook ks ds j
|_,_=>none
def znn {fd fk:FE}(hu:X.A.units+1<cLine)(ha:VW X a fd)(hb:VW X b fk)(hs:NoSl b:=by exact λ_ _=>rfl):VE X (.Subscript a b pos) (e2 dGet fd fk):=by
 obtain⟨t,p,g⟩:=ha;obtain⟨t2,p2,g2⟩:=hb;refine⟨_,zm8 hu p p2 hs,?_⟩;intro Hz Jz O Z Y H J d Q s e w;obtain⟨x,ex,eA⟩:=bind_some e;obtain⟨y,ey,eB⟩:=bind_some eA;refine g Hz Jz O Z Y H J x _ s ex λv1 H1 J1 u1 r1=>?_
 refine g2 Hz Jz O Z Y H1 J1 y _ (s.up u1) ey λv2 H2 J2 u2 r2=>?_
 cases x with
|dct ks ds=>
   obtain⟨j,ej,eC⟩:=bind_some (show((keyD y).bind λj=>dLook ks ds j)=some d from eB);obtain⟨q,kvs,vs,rfl,h1,h2,h3,rl⟩:=(r1.up u2).dct;subst h3;obtain⟨v,hv,rv⟩:=zfc h2 rl eC;refine⟨q,v,rfl,?_,w v H2 J2 (u1.trans u2) rv⟩;rw[zhl r2 ej,<-hv];exact DGet.k h1
|_=>cases eB
end
section
variable {X:Cx}{K:W.Frag}{a b c e:Expr}{es:List Expr}{fa fb:FX}{fe fk fv:FE}{fl:FA}{pos p p2:Pos}
def ST.top2 {Hz H:Hp}{Jz J:Addr->Prop}{O:Pr}{Z:En}{Y:L2.St}{i j:Nat}{ds es:List D}(s:ST K Hz Jz O Z Y H J)(h0:ownD (Z[i]?)=some (2,.lst ds))(hj:ds[j]?=some (.lst es)):∃a vs b us,Y[i]?=some (some (.ref a))/\H a=some (.lst vs)/\vs.length=ds.length/\vs[j]?=some (.ref b)/\H b=some (.lst us)/\RpL K H J us es/\
 (∀(us':List V) (es':List D),RpL K H J us' es'->ST K Hz Jz O (setO Z i (.lst (ds.set j (.lst es')))) Y (upd H b (.lst us')) J/\Keep K H J (upd H b (.lst us')) J)/\
 (∀(H':Hp) (J':Addr->Prop) (q:Addr) (us':List V) (es':List D),Up H J H' J'->H q=none->¬J' q->H' q=some (.lst us')->RpL K H' J' us' es'->ST K Hz Jz O (setO Z i (.lst (ds.set j (.lst es')))) Y (upd H' a (.lst (vs.set j (.ref q)))) J'/\Keep K H J (upd H' a (.lst (vs.set j (.ref q)))) J'):=by
 obtain⟨v,A,hv,r,nd,nj,go⟩:=s.chg h0;cases r with
|lst ha rl=>
   rename_i a vs A
   obtain⟨w,A1,A2,A3,hw,rfl,rw',up⟩:=rl.split j hj;obtain⟨b,us,rfl,rfl,hb,ru⟩:=rw'.one;have hab:a≠b:=by
    rintro rfl;have:=(waF.mp nd).1
    exact this (by simp)
   have ndA:=(waF.mp nd).2
   have naA:=(waF.mp nd).1
   have hb13:∀x∈A1++A3,x≠b:=by
    intro x hx z;subst z;rw[waW] at ndA;obtain⟨n1,n2,n3⟩:=ndA;rw[wbV,waF] at n2;rcases wax.mp hx with h|h
    .exact n3 x h x (by simp) rfl
    .exact n2.1 h
   refine⟨a,vs,b,us,hv,ha,rl.length,hw,hb,ru,λus' es' re=>?_,λH' J' q us' es' u hq njq hq' re=>?_⟩
   .have nja:¬J b:=nj b (by simp)
    have kp:Keep K H J (upd H b (.lst us')) J:=zch hb nja
    refine go (upd H b (.lst us')) J (.lst (ds.set j (.lst es'))) (a::(A1++([b]++A3))) (λc o hc h=>?_) (λc h=>?_) (λ_ h=>h) (λ_ h=>.inl h) (λc h=>?_) ?_ nd nj (λc hc=>.inl hc)
    .rw[zak (λz=>hc (by simp[z]))];exact h
    .by_cases z:c=b
     .subst z;rw[zah];simp
     .rw[zak z];exact h
    .by_cases z:c=b
     .subst z;rw[zah];simp
     .rw[zak z];exact s.ja c h
    .have vset:vs.set j (V.ref b)=vs:=by
      apply wbT;intro k;by_cases hk:k=j
      .subst hk;rw[hw,wam (waa.mp hw).1]
      .rw[wah (Ne.symm hk)]
     have:=up (upd H b (.lst us')) J (.ref b) (.lst es') [b] kp (λc hc o ho=>by rw[zak (hb13 c hc)];exact ho) (.lst zah (RpUL.of (re.keep kp)))
     rw[vset] at this;exact .lst (by rw[zak hab];exact ha) this
   .have haH':=u.same _ _ ha
    have hqa:q≠a:=by rintro rfl;rw[ha] at hq;cases hq
    have nja:¬J' a:=λz=>by
     rcases u.jn a z with z|z
     .exact nj a (by simp) z
     .rw[ha] at z;cases z
    have kp:Keep K H' J' (upd H' a (.lst (vs.set j (.ref q)))) J':=zch haH' nja
    have qfree:∀c∈a::(A1++([b]++A3)),c≠q:=by
     intro c hc z;subst z;rcases wak.mp hc with rfl|hc
     .rw[ha] at hq;cases hq
     .obtain⟨o,e,_⟩:=rl.some c hc;rw[hq] at e;cases e
    refine(go (upd H' a (.lst (vs.set j (.ref q)))) J' (.lst (ds.set j (.lst es'))) (a::(A1++([q]++A3))) (λc o hc h=>?_) (λc h=>?_) u.jj u.jn (λc h=>?_) ?_ ?_ (λc hc=>?_) (λc hc=>?_))
    .rw[zak (λz=>hc (by simp[z]))];exact u.same _ _ h
    .by_cases z:c=a
     .subst z;rw[zah];simp
     .rw[zak z];cases e:H c with
     |none=>exact absurd e h
     |some o=>rw[u.same _ _ e];simp
    .by_cases z:c=a
     .subst z;rw[zah];simp
     .rw[zak z];exact u.ja c h
    .have:=up (upd H' a (.lst (vs.set j (.ref q)))) J' (.ref q) (.lst es') [q] (u.keep.trans kp) (λc hc o ho=>by
      rw[zak (λz=>naA (by rw[<-z];simp at hc⊢;rcases hc with hc|hc <;> simp[hc]))];exact u.same _ _ ho) (.lst (by rw[zak hqa];exact hq') (RpUL.of (re.keep kp)))
     exact .lst zah this
    .have h1:q∉a::(A1++([b]++A3)):=λz=>qfree q z rfl
     rw[waW] at ndA;obtain⟨n1,n2,n3⟩:=ndA;rw[wbV,waF] at n2;simp only[wak,wax,not_or,waf] at h1;refine waF.mpr ⟨?_,waW.mpr ⟨n1,?_,?_⟩⟩
     .simp only[wax,waf,not_or] at naA⊢;exact⟨naA.1,λz=>h1.1 z.symm,naA.2.2⟩
     .rw[wbV];exact waF.mpr ⟨h1.2.2.2,n2.2⟩
     .intro x hx y hy z;subst z;rcases wax.mp hy with hy|hy
      .rw[waf.mp hy] at hx;exact h1.2.1 hx
      .exact n3 x hx x (by simp[hy]) rfl
    .simp only[wak,wax,List.not_mem_nil,or_false] at hc;have old:c∈a::(A1++([b]++A3))->¬J' c:=λh z=>by
      rcases u.jn c z with z|z
      .exact nj c h z
      .rcases wak.mp h with rfl|h
       .rw[ha] at z;cases z
       .obtain⟨o,e,_⟩:=rl.some c h;rw[z] at e;cases e
     rcases hc with rfl|hc|rfl|hc
     .exact nja
     .exact old (by simp[hc])
     .exact njq
     .exact old (by simp[hc])
    .simp only[wak,wax,List.not_mem_nil,or_false] at hc;rcases hc with rfl|hc|rfl|hc
     .exact .inl (by simp)
     .exact .inl (by simp[hc])
     .exact .inr hq
     .exact .inl (by simp[hc])
def eIx2 (i:Nat)(fk:FE):FE:=λZ=>(fk Z).bind λk=>(dInt k).bind λk=>match ownD (Z[i]?) with
|some (2,.lst ds)=>(atI ds k).bind λd=>match d with|.lst es=>some (.lst es)|_=>none
|_=>none
def zml (i:Nat){x:Str}{xp:Pos}(hk:VE X a fk)(hN:X.N[i]?=some x:=by rfl)(hv:Vis X.env.scope x:=by first|exact Or.inl rfl|exact Or.inr (Or.inl rfl)|exact Or.inr (Or.inr rfl))(hd:(x == ("__debug__" : Str))=false:=by decide)(hcd:(x == ("__classdict__" : Str))=false:=by decide)(hs:zc4 a:=by exact λ_ _=>rfl) :
 VW X (.Subscript (.Name x xp) a pos) (eIx2 i fk):=by
 obtain⟨t,p,g⟩:=hk;refine⟨_,zhQ zfH (zbT hN hv hd hcd) p hs,?_⟩;intro Hz Jz O Z Y H J d Q s e w;obtain⟨k,e1,eA⟩:=bind_some e;obtain⟨kk,e2,eB⟩:=bind_some eA;split at eB
 .rename_i ds z
  obtain⟨d1,e3,eC⟩:=bind_some eB;split at eC
  .rename_i es
   cases eC;obtain⟨v,A,hv,r⟩:=s.rd z;refine⟨v,hv,?_⟩;refine g Hz Jz O Z Y H J k _ s e1 λvk H1 J1 u1 rk=>?_
   cases k with
  |int k0=>
     cases e2;cases rk;have r1:=r.keep u1.keep λb _ o=>u1.same b o
     cases r1 with
    |lst ha rl=>
       unfold atI at e3;cases q:ixN ds.length kk with
      |none=>rw[q] at e3;cases e3
      |some j=>
         rw[q] at e3;obtain⟨u,A1,A2,A3,hu,_,ru,_⟩:=rl.split j e3;refine .inl ⟨_,_,kk,u,rfl,rfl,SqL.of ha,?_,w u H1 J1 u1 (.inr ⟨A2,ru⟩)⟩;unfold atI;rw[rl.length,q];exact hu
  |_=>cases e2
  .cases eC
 .cases eB
def zno (i:Nat)(fk fv:FE):FS:=λZ=>(fk Z).bind λk=>(dInt k).bind λk=>(fv Z).bind λd=>match ownD (Z[i]?) with
|some (2,.lst ds)=>(ixN ds.length k).bind λj=>match ds[j]? with
  |some (.lst es)=>if es.length<lim then some (.nx (setO Z i (.lst (ds.set j (.lst (es++[d])))))) else none
  |_=>none
|_=>none
def znp (i:Nat){x:Str}{xp sp apos cpos:Pos}(hk:VE X a fk)(h:VE X e fv)(hN:X.N[i]?=some x:=by rfl)(hv:Vis X.env.scope x:=by first|exact Or.inl rfl|exact Or.inr (Or.inl rfl)|exact Or.inr (Or.inr rfl))(hd:(x == ("__debug__" : Str))=false:=by decide)
 (hcd:(x == ("__classdict__" : Str))=false:=by decide) (hpi:zc4 a:=by exact λ_ _=>rfl) (h1:starEach [e] X.env=(false,eval e X.env)::starEach [] X.env:=by rfl)
 (hbase:attributeBase (.Subscript (.Name x xp) a sp) "append" X.env (eval (.Subscript (.Name x xp) a sp) X.env)=eval (.Subscript (.Name x xp) a sp) X.env:=by rfl)
 (hfew:((backTo cpos (starEach [e] X.env)).all (λx=>!x.1)&&(backToKw cpos (keywordEach [] X.env)).all (λx=>x.1.isSome)
  && decide ([e].length+([]:List Keyword).length+(if([]:List Keyword).isEmpty then 0 else 1)<30))=true:=by rfl)
 (hline:(apos.endLine == cpos.line)=true:=by rfl) (hs:starEach [e] X.env = [(false,eval e X.env)]:=by rfl) (hsw:swapsWith (.Call (.Attribute (.Subscript (.Name x xp) a sp) "append" apos) [e] [] cpos) none pos.line X.env=pure false:=by rfl) :
 VS X (.Expr (.Call (.Attribute (.Subscript (.Name x xp) a sp) "append" apos) [e] [] cpos) pos) (zno i fk fv):=by
 obtain⟨tk,pk,qk⟩:=hk;obtain⟨t,p,q⟩:=h;refine⟨_,zdY (papp (zhQ zfH (zbT hN hv hd hcd) pk hpi) (zbJ p zcZ h1) hbase hfew hline hs) hsw,?_⟩;intro Hz Jz O Z Y H J o E s e w;obtain⟨k,e1,eA⟩:=bind_some e;obtain⟨kk,e2,eB⟩:=bind_some eA;obtain⟨d,e3,eC⟩:=bind_some eB;split at eC
 .rename_i ds z
  obtain⟨j,e4,eD⟩:=bind_some eC;split at eD
  .rename_i es ze
   by_cases hl:es.length<lim
   .rw[if_pos hl] at eD;cases eD;obtain⟨v0,A0,hv0,r0⟩:=s.rd z;refine⟨v0,hv0,?_⟩;refine qk Hz Jz O Z Y H J k _ s e1 λvk H1 J1 u1 rk=>?_
    cases k with
   |int k0=>
      cases e2;cases rk;have s1:=s.up u1
      obtain⟨a1,vs1,b1,us1,ha1,hA1,hl1,hj1,hb1,ru1,_,_⟩:=s1.top2 z ze;rw[hv0] at ha1;cases ha1;refine .inl ⟨a1,vs1,kk,.ref b1,rfl,rfl,SqL.of hA1,by unfold atI;rw[hl1,e4];exact hj1,?_⟩;refine⟨.inl ⟨rfl,us1,SqL.of hb1⟩,?_⟩;refine q Hz Jz O Z Y H1 J1 d _ s1 e3 λv H2 J2 u2 r2=>?_
      have s2:=s1.up u2
      obtain⟨a2,vs2,b2,us2,ha2,hA2,hl2,hj2,hb2,ru2,go,_⟩:=s2.top2 z ze;rw[hv0] at ha2;cases ha2;have hA12:=u2.same _ _ hA1
      rw[hA2] at hA12;cases hA12;rw[hj2] at hj1;cases hj1;refine⟨b1,us2,v,rfl,rfl,hb2,by rw[ru2.length];exact war hl (wbp zd5),?_⟩;obtain⟨s3,k3⟩:=go (us2++[v]) (es++[d]) (ru2.append (.cons r2 .nil));exact w Y _ J2 s3 ((u1.trans u2).keep.trans k3)
   |_=>cases e2
   .rw[if_neg hl] at eD;cases eD
  .cases eD
 .cases eC
def znq (i:Nat)(fk:FE)(f:FA):FS:=λZ=>(f Z).bind λes=>(fk Z).bind λk=>(dInt k).bind λk=>match ownD (Z[i]?) with
|some (2,.lst ds)=>(ixN ds.length k).bind λj=>match ds[j]? with
  |some (.lst _)=>some (.nx (setO Z i (.lst (ds.set j (.lst es)))))
  |_=>none
|_=>none
def znr (i:Nat){x:Str}{xp sp:Pos}(h:VN X e fl)(hk:VE X a fk)(hN:X.N[i]?=some x:=by rfl)(hv:Vis X.env.scope x:=by first|exact Or.inl rfl|exact Or.inr (Or.inl rfl)|exact Or.inr (Or.inr rfl))(hd:(x == ("__debug__" : Str))=false:=by decide)(hcd:(x == ("__classdict__" : Str))=false:=by decide)
 (ha:∀v,assign (.Subscript (.Name x xp) a sp) X.env v=(do
  let ov <-holding [v] (eval (.Name x xp) X.env)
  let iv <-holding [v,ov] (eval a X.env)
  standAt sp
  holding [v,ov,iv] (setItem ov iv v)
  release [v,ov,iv] []):=by intro _;rfl)
 (hs:swapsWithSole [.Subscript (.Name x xp) a sp] e pos.line X.env=pure false:=by rfl) (hw:swappedStores [.Subscript (.Name x xp) a sp] e X.env=pure none:=by rfl) (h1:(assignEach [.Subscript (.Name x xp) a sp] X.env).map (·.2) = [assign (.Subscript (.Name x xp) a sp) X.env]:=by rfl) :
 VS X (.Assign [.Subscript (.Name x xp) a sp] e pos) (znq i fk fl):=by
 obtain⟨t,p,q⟩:=h;obtain⟨tk,pk,qk⟩:=hk;refine⟨_,zg6 p (zis (zbT hN hv hd hcd) pk ze4 ha) hs hw h1,λHz Jz O Z Y H J o E s e w=>?_⟩;obtain⟨es,e1,eA⟩:=bind_some e;obtain⟨k,e2,eB⟩:=bind_some eA;obtain⟨kk,e3,eC⟩:=bind_some eB;split at eC
 .rename_i ds z
  obtain⟨j,e4,eD⟩:=bind_some eC;split at eD
  .rename_i es0 ze
   cases eD;refine q Hz Jz O Z Y H J es _ s e1 λp1 us H1 J1 u1 hp1 nj1 hq1 r1=>?_
   obtain⟨v0,A0,hv0,r0⟩:=s.rd z;refine⟨v0,hv0,?_⟩;refine qk Hz Jz O Z Y H1 J1 k _ (s.up u1) e2 λvk H2 J2 u2 rk=>?_
   cases k with
  |int k0=>
     cases e3;cases rk;obtain⟨a0,vs0,b0,us0,ha0,hA0,hl0,hj0,hb0,ru0,_,go⟩:=s.top2 z ze;rw[hv0] at ha0;cases ha0;have u:=u1.trans u2
     have hq2:=u2.same _ _ hq1
     have nj2:¬J2 p1:=λz=>by
      rcases u2.jn p1 z with z|z
      .exact nj1 z
      .rw[hq1] at z;cases z
     refine⟨a0,vs0,kk,j,rfl,rfl,u.same _ _ hA0,by rw[hl0];exact e4,?_⟩;obtain⟨s3,k3⟩:=go H2 J2 p1 us es u hp1 nj2 hq2 (r1.keep u2.keep);exact w Y _ J2 s3 k3
  |_=>cases e3
  .cases eD
 .cases eC
def gPut22 (i:Nat)(fk fm:FE)(f:FX):FS:=λZ=>(f Z).bind λq=>(fk q.2).bind λk=>(dInt k).bind λk=>(fm q.2).bind λm=>(dInt m).bind λm=>match ownD (q.2[i]?) with
|some (2,.lst ds)=>(ixN ds.length k).bind λj=>match ds[j]? with
  |some (.lst es)=>(ixN es.length m).bind λl=>some (.nx (setO q.2 i (.lst (ds.set j (.lst (es.set l q.1))))))
  |_=>none
|_=>none
def zlk (i:Nat){x:Str}{xp sp sp2:Pos}{fm:FE}(h:VX X e fa)(hk:VE X a fk)(hm:VE X b fm)(hN:X.N[i]?=some x:=by rfl)(hv:Vis X.env.scope x:=by first|exact Or.inl rfl|exact Or.inr (Or.inl rfl)|exact Or.inr (Or.inr rfl))(hd:(x == ("__debug__" : Str))=false:=by decide)(hcd:(x == ("__classdict__" : Str))=false:=by decide)(hpi:zc4 a:=by exact λ_ _=>rfl)
 (ha:∀v,assign (.Subscript (.Subscript (.Name x xp) a sp2) b sp) X.env v=(do
  let ov <-holding [v] (eval (.Subscript (.Name x xp) a sp2) X.env)
  let iv <-holding [v,ov] (eval b X.env)
  standAt sp
  holding [v,ov,iv] (setItem ov iv v)
  release [v,ov,iv] []):=by intro _;rfl)
 (hs:swapsWithSole [.Subscript (.Subscript (.Name x xp) a sp2) b sp] e pos.line X.env=pure false:=by rfl) (hw:swappedStores [.Subscript (.Subscript (.Name x xp) a sp2) b sp] e X.env=pure none:=by rfl) (h1:(assignEach [.Subscript (.Subscript (.Name x xp) a sp2) b sp] X.env).map (·.2) = [assign (.Subscript (.Subscript (.Name x xp) a sp2) b sp) X.env]:=by rfl) :
 VS X (.Assign [.Subscript (.Subscript (.Name x xp) a sp2) b sp] e pos) (gPut22 i fk fm fa):=by
 obtain⟨t,p,q⟩:=h;obtain⟨tk,pk,qk⟩:=hk;obtain⟨tm,pm,qm⟩:=hm;refine⟨_,zg6 p (zis (zhQ zfH (zbT hN hv hd hcd) pk hpi) pm ze4 ha) hs hw h1,λHz Jz O Z Y H J o E s e w=>?_⟩;obtain⟨⟨d,Z1⟩,e1,eA⟩:=bind_some e;obtain⟨k,e2,eB⟩:=bind_some eA;obtain⟨kk,e3,eC⟩:=bind_some eB;obtain⟨m,e4,eD⟩:=bind_some eC;obtain⟨mm,e5,eE⟩:=bind_some eD;refine q Hz Jz O Z Y H J d Z1 _ s e1 λv H1 J1 s1 k1 r1=>?_
 split at eE
 .rename_i ds z
  obtain⟨j,e6,eF⟩:=bind_some eE;split at eF
  .rename_i es ze
   obtain⟨l,e7,eG⟩:=bind_some eF;cases eG;obtain⟨v0,A0,hv0,r0⟩:=s1.rd z;refine⟨v0,hv0,?_⟩;refine qk Hz Jz O Z1 Y H1 J1 k _ s1 e2 λvk H2 J2 u2 rk=>?_
   cases k with
  |int k0=>
     cases e3;cases rk;have s2:=s1.up u2
     obtain⟨a1,vs1,b1,us1,ha1,hA1,hl1,hj1,hb1,ru1,_,_⟩:=s2.top2 z ze;rw[hv0] at ha1;cases ha1;refine .inl ⟨a1,vs1,kk,.ref b1,rfl,rfl,SqL.of hA1,by unfold atI;rw[hl1,e6];exact hj1,?_⟩;refine qm Hz Jz O Z1 Y H2 J2 m _ s2 e4 λvm H3 J3 u3 rm=>?_
     cases m with
    |int m0=>
       cases e5;cases rm;have s3:=s2.up u3
       obtain⟨a2,vs2,b2,us2,ha2,hA2,hl2,hj2,hb2,ru2,go,_⟩:=s3.top2 z ze;rw[hv0] at ha2;cases ha2;have hA12:=u3.same _ _ hA1
       rw[hA2] at hA12;cases hA12;rw[hj2] at hj1;cases hj1;refine⟨b1,us2,mm,l,rfl,rfl,hb2,by rw[ru2.length];exact e7,?_⟩;have u:=u2.trans u3
       obtain⟨s4,k4⟩:=go (us2.set l v) (es.set l d) (ru2.set l (r1.keep u.keep));exact w Y _ J3 s4 ((k1.trans u.keep).trans k4)
    |_=>cases e5
  |_=>cases e3
  .cases eF
 .cases eE
end
section
variable {X:Cx}{K:W.Frag}{elt iter tg:Expr}{ifs:List Expr}{scope:Scope}{pos:Pos}{NC:List Str}
def TNof (K:W.Frag)(f:FA):TE:=λY H Q=>∃Hz Jz O Z J d,ST K Hz Jz O Z Y H J/\f Z=some d/\zmb K H J d Q
def VN.of {X:Cx}{e:Expr}{f:FA}(h:VN X e f):PE X e (TNof X.K f):=by
 obtain⟨t,p,g⟩:=h;rintro pins s Y H Q I ⟨Hz,Jz,O,Z,J,d,s1,e1,w⟩;exact p pins s Y H Q I (g Hz Jz O Z Y H J d Q s1 e1 w)
def zcB (Z:En)(g:FG)(e:FA)(d:D):Option (Option D):=(g d Z).bind λZ1=>(e Z1).bind λx=>some (some (.lst x))
def zmm (fr:List (Option Nat))(fi:FA)(g:FG)(e:FA):FR:=λZ=>(fi Z).bind λds=>(zcW (zcB (zaS Z fr) g e) ds).bind λout=>if out.length<=lim then some (.new 2 (.lst out),Z) else none
def zll {fr:List (Option Nat)}{wi:TI}{fi:FA}{g:FG}{is:List Nat}{fe:FA}(hi:GoI K wi fi)(hon:∀d Z Z',g d Z=some Z'->Only is Z Z')(hap:apart is fr=true) :
 GoR K (zfP fr wi (TGof K g) (TTof K tTrue) (TNof K fe)) (zmm fr fi g fe):=by
 intro Hz Jz O Z Y H J rr Z' Q s e w;obtain⟨ds,e1,eA⟩:=bind_some e;obtain⟨out,e2,eB⟩:=bind_some eA;by_cases hl:out.length<=lim
 .rw[if_pos hl] at eB;cases eB;refine hi Hz Jz O Z Y H J ds _ s e1 λI H1 J1 u1 src=>?_
  intro Da hD;have hD0:Hz Da=none:=s.free (u:=u1) hD
  have nJ1:¬J1 Da:=λj=>u1.ja Da j hD
  refine⟨λi m ys Y2 H2=>m=ds.length - i/\i<=ds.length/\∃J2 dn rs A,ST K Hz Jz O.blk (zaS Z fr) Y2 H2 J2/\Up H1 J1 H2 J2/\¬J2 Da/\RpUL K H2 J2 1 ys dn A/\A.Nodup/\(∀b∈A,¬J2 b/\H1 b=none/\b≠Da)/\out=dn++rs/\zcW (zcB (zaS Z fr) g fe) (ds.drop i)=some rs,⟨ds.length,by simp,wbn _,?_⟩,?_⟩
  .have un:=Up.new u1.ja hD (.lst [])
   exact⟨J1,[],out,[],((s.up u1).up un).pick fr,un,nJ1,.nil,waZ,by simp,rfl,by simpa using e2⟩
  .rintro i m ys Y2 H2 ⟨rfl,hil,J2,dn,rs,A,s2,u2,nj2,r2,nd2,hA2,eo,ec⟩ hys;obtain⟨stop,turn⟩:=src H2 J2 u2.keep s2.ja;by_cases hlt:i<ds.length
   .right
    have hd:ds[i]?=some ds[i]:=wap hlt
    generalize hdd:ds[i]=d at hd;obtain⟨go,yl⟩:=turn i d hd;have edrop:ds.drop i=d::ds.drop (i+1):=by rw[<-hdd];exact(wbD hlt).symm
    rw[edrop] at ec;obtain⟨o,eo1,ec1⟩:=bind_some (show((zcB (zaS Z fr) g fe d).bind λo=>(zcW (zcB (zaS Z fr) g fe) (ds.drop (i+1))).bind λxs=>some (match o with|some x=>x::xs|none=>xs))=some rs from ec);obtain⟨rs',er,ec2⟩:=bind_some ec1;obtain⟨Z1,eg,eo2⟩:=bind_some eo1;obtain⟨x,ex,eo3⟩:=bind_some eo2;cases eo3;cases ec2;refine⟨go,λzs Y' H'=>∃J2 dn rs A,ST K Hz Jz O.blk (zaS Z fr) Y' H' J2/\Up H1 J1 H' J2/\¬J2 Da/\RpUL K H' J2 1 zs dn A/\A.Nodup/\(∀b∈A,¬J2 b/\H1 b=none/\b≠Da)/\out=dn++rs/\zcW (zcB (zaS Z fr) g fe) (ds.drop (i+1))=some rs,λzs Y' H' h=>⟨ds.length - (i+1),by omega,rfl,hlt,h⟩,λxv H3 y=>?_⟩;obtain⟨J3,u3,r3⟩:=yl xv H3 y;have wk:Weak (zaS Z fr) Z1:=ze9 (hon _ _ _ eg) hap
    refine⟨Hz,Jz,O.blk,zaS Z fr,J3,d,Z1,s2.up u3,r3,eg,λY4 s4=>?_⟩;refine⟨Hz,Jz,O.blk,Z1,J3,true,s4,rfl,λH5 J5 u5=>?_⟩;have s5:=s4.up u5
    refine⟨λ_=>?_,λz=>by cases z⟩;refine⟨Hz,Jz,O.blk,Z1,J5,x,s5,ex,λq vs H6 J6 u6 hq nq hq6 r6=>?_⟩;have u26:=(u3.trans u5).trans u6
    have old:∀{b:Addr}{o:HO},H2 b=some o->¬J2 b->¬J6 b:=λ{b o} hb nb jb=>by
     rcases u26.jn b jb with jb|jb
     .exact nb jb
     .rw[hb] at jb;cases jb
    have nj6:¬J6 Da:=old hys nj2
    have hy6:H6 Da=some (.lst ys):=u26.same _ _ hys
    have kA:Keep K H6 J6 (upd H6 Da (.lst (ys++[.ref q]))) J6:=zch hy6 nj6
    have hqD:q≠Da:=λz=>by
     subst z;have:=(u3.trans u5).same _ _ hys
     rw[this] at hq;cases hq
    have hqA:q∉A:=λz=>by
     obtain⟨o,eo,_⟩:=r2.some q z;rw[(u3.trans u5).same _ _ eo] at hq;cases hq
    refine⟨hy6,?_,J6,dn++[.lst x],rs',A++[q],?_,(u2.trans u26).at (ys:=ys) hD,nj6,?_,?_,λb hb=>?_,by rw[eo];simp,er⟩
    .have:(dn++.lst x::rs').length<=lim:=by rw[<-eo];exact hl
     rw[wan,waK] at this;rw[r2.length];exact war (by omega:dn.length<lim) (wbp zd5)
    .exact((s5.up u6).weak wk rfl).at (zcg Z fr) hy6 nj6 hD0
    .have ra:RpUL K H6 J6 1 ys dn A:=r2.keep u26.keep λb _ o=>u26.same b o
     have rb:RpUL K H6 J6 1 [.ref q] [.lst x] [q]:=by
      have:=RpUL.cons (n:=1) (RpU.lst hq6 (RpUL.of r6)) (RpUL.nil (K:=K) (H:=H6) (J:=J6))
      simpa using this
     refine(ra.append rb).keep kA λb hb o ho=>?_
     rw[zak];exact ho;rcases wax.mp hb with hb|hb
     .exact(hA2 b hb).2.2
     .rw[waf.mp hb];exact hqD
    .refine waW.mpr ⟨nd2,by simp,λa ha b hb z=>?_⟩;rw[waf.mp hb] at z;exact hqA (z▸ha)
    .rcases wax.mp hb with hb|hb
     .obtain⟨o,eo,_⟩:=r2.some b hb;exact⟨old eo (hA2 b hb).1,(hA2 b hb).2⟩
     .rw[waf.mp hb];exact⟨nq,(u2.trans (u3.trans u5)).same.free hq,hqD⟩
   .left
    have hi':i=ds.length:=by omega
    subst hi';rw[wbZ] at ec;cases ec;refine⟨stop,?_⟩;rw[waQ] at eo;subst eo;have u:=u1.trans u2
    obtain⟨fp,ow⟩:=s.ow;refine w (.ref Da) H2 J2 (s.up u) u.keep ⟨Da::A,fp,⟨λi=>(ow.at' i).keep u.keep λb _=>u.same b,ow.nd,λi b hb jb=>?_,ow.dj⟩,.lst hys r2,?_,λb hb=>?_,λi b hb hb2=>?_⟩
    .rcases u.jn b jb with jb|jb
     .exact ow.nj i b hb jb
     .obtain⟨o,e,_⟩:=(ow.at' i).ru b hb;rw[e] at jb;cases jb
    .exact waF.mpr ⟨λz=>(hA2 Da z).2.2 rfl,nd2⟩
    .rcases wak.mp hb with rfl|hb
     .exact⟨nj2,hD0⟩
     .exact⟨(hA2 b hb).1,s.free (u:=u1) (hA2 b hb).2.1⟩
    .obtain⟨o,e,_⟩:=(ow.at' i).ru b hb2;have e1:=u1.same _ _ e
     rcases wak.mp hb with rfl|hb
     .rw[hD] at e1;cases e1
     .rw[(hA2 b hb).2.1] at e1;cases e1
 .rw[if_neg hl] at eB;cases eB
end
section
variable {X:Cx}{K:W.Frag}{H H' H1 H2 Hz:Hp}{J J' J1 J2 Jz:Addr->Prop}{Z Z' Z2:En}{Y Y2:L2.St}{O:Pr}{fp:Nat->List Addr}
def ST.back (s:ST K Hz Jz O Z Y H J){b:Addr}(h:H b=none):Hz b=none:=by
 cases e:Hz b with
|none=>rfl
|some o=>exact absurd h (s.al b (by rw[e];simp))
def zlm {i:Nat}{d:D}:(setO Z i d).length=Z.length:=by simp[setO]
def Ow.up (s:ST K Hz Jz O Z Y H J)(w:Ow K Hz O Z Y H J fp)(u:Up H J H' J'):Ow K Hz O Z Y H' J' fp:=by
 refine⟨λi=>(w.at' i).keep u.keep λb _=>u.same b,w.nd,λi b hb j=>?_,w.dj⟩;rcases u.jn b j with j|j
 .exact w.nj i b hb j
 .obtain⟨o,e,_⟩:=(w.at' i).ru b hb;rw[e] at j;cases j
end
section
variable {X:Cx}{K:W.Frag}
end
def putKD (ks:List Key)(ds:List D)(j:Key)(d:D):List Key×List D:=if ks.any (λk=>decide (k=j))=true then(ks,(ks.zip ds).map λp=>if p.1=j then d else p.2) else(ks++[j],ds++[d])
section
variable {X:Cx}{K:W.Frag}{a b c e:Expr}{es:List Expr}{fa fb:FX}{fe fk fv:FE}{fl:FA}{fr:FR}{pos p p2:Pos}
def zns {H:Hp}{J:Addr->Prop}{kvs:List (Key×V)}{ks:List Key}{ds:List D}{j:Key}{v:V}{d:D}(e1:kvs.map (·.1)=ks)(r:RpL K H J (kvs.map (·.2)) ds)(rv:Rp K H J v d) :
 (putK kvs j v).map (·.1)=(putKD ks ds j d).1/\RpL K H J ((putK kvs j v).map (·.2)) (putKD ks ds j d).2:=by
 have hany:(kvs.any λkv=>decide (kv.1=j))=ks.any (λk=>decide (k=j)):=by
  rw[<-e1,List.any_map];rfl
 unfold putK putKD;rw[hany];by_cases h:ks.any (λk=>decide (k=j))=true
 .rw[if_pos h,if_pos h];constructor
  .rw[<-e1,waS];apply List.map_congr_left;intro kv _;simp only[Function.comp];split <;> rfl
  .clear h hany
   show RpL K H J ((kvs.map λkv=>if kv.1=j then(kv.1,v) else kv).map (·.2)) ((ks.zip ds).map λp=>if p.1=j then d else p.2)
   induction kvs generalizing ks ds with
  |nil=>subst e1;cases r;exact .nil
  |cons kv kvs ih=>
     subst e1;cases r with
    |cons h t=>
       simp only[waL,List.zip_cons_cons];refine .cons ?_ (ih rfl t);by_cases hk:kv.1=j
       .simp only[hk,if_true];exact rv
       .simp only[hk,if_false];exact h
 .rw[if_neg h,if_neg h];constructor
  .rw[waH,e1];rfl
  .rw[waH];exact r.append (.cons rv .nil)
def gPutD (i:Nat)(fk:FE)(f:FX):FS:=λZ=>(f Z).bind λq=>(fk q.2).bind λk=>(keyD k).bind λk=>match ownD (q.2[i]?) with
|some (1,.dct ks ds)=>if ks.length<lim then some (.nx (setO q.2 i (.dct (putKD ks ds k q.1).1 (putKD ks ds k q.1).2))) else none
|_=>none
def aRevR (f:FA):FA:=λZ=>(f Z).bind λl=>(a1Int l).bind λj=>if 0<=j/\j<=1000000 then some (zbe 0 j.toNat).reverse else none
def zln {H:Hp}{J:Addr->Prop}(n:Nat):Src K (Itd ((n:Int) - 1) n) H J (zbe 0 n).reverse:=by
 intro H2 J2 k ja;have hl:(zbe 0 n).length=n:=by simp[zbe]
 rw[wbo,hl];refine⟨wal _,λi d hd=>?_⟩;have hi:i<n:=by
  have:=(waa.mp hd).1
  rwa [wbo,hl] at this
 refine⟨hi,λx H3 y=>?_⟩;obtain⟨rfl,rfl⟩:=y;rw[List.getElem?_reverse (by rw[hl];exact hi),hl] at hd;unfold zbe at hd;rw[waj,wcj (by omega)] at hd;cases hd;refine⟨J2,Up.refl ja,?_⟩;have e:(n:Int) - 1 - (i:Int)=0+((n - 1 - i:Nat):Int):=by omega
 rw[e];exact .int _
def zqN {tg:Expr}{pos2:Pos}(B:Blt X.mg)(ha:VA X [a] fl)(hg:Gl X "range":=by rfl)(hg2:Gl X "reversed":=by rfl)(hs:starEach [a] X.env = [(false,eval a X.env)]:=by rfl)
 (hs2:starEach [.Call (.Name "range" p) [a] [] pos] X.env = [(false,eval (.Call (.Name "range" p) [a] [] pos) X.env)]:=by rfl):VI X tg (.Call (.Name "reversed" p2) [.Call (.Name "range" p) [a] [] pos] [] pos2) (aRevR fl):=by
 obtain⟨t,p,g⟩:=ha;refine⟨_,zna hg (B.get "range") hg2 (B.get "reversed") p hs hs2,?_⟩;intro Hz Jz O Z Y H J ds R s e w;obtain⟨l,e1,eA⟩:=bind_some e;obtain⟨j,e2,eB⟩:=bind_some eA;by_cases hj:0<=j/\j<=1000000
 .rw[if_pos hj] at eB;cases eB;refine g Hz Jz O Z Y H J _ _ s e1 λvs H1 J1 u1 r1=>?_
  match l,e2,r1 with
 |[.int i],e2,r1=>
    cases e2;cases r1 with
   |cons h t=>
      cases t;cases h;have ej:j - 1=((j.toNat:Nat):Int) - 1:=by omega
      refine⟨j,rfl,by omega,by omega,?_⟩;rw[ej];exact w _ H1 J1 u1 (zln _)
 .rw[if_neg hj] at eB;cases eB
def Itv (K:W.Frag)(a:Addr)(n:Nat):It:=
 ⟨λi H=>i<n/\∃xs x,SqL K H a xs/\xs.length=n/\xs[n - 1 - i]?=some x,λi H x H'=>H'=H/\∀xs,SqL K H a xs->xs[n - 1 - i]?=some x,λi _=>n<=i⟩
def zlo {P:Program}{w:World}{K:W.Frag}{tg:Expr}(a it:Addr)(n:Nat):Turn P w K tg (Itv K a n) [it] it (λi h=>i<=n/\h.IsRevIter it a ((n:Int) - 1 - (i:Int))) where
 mem:=by simp
 obj:=λi h st b hb=>by
  have e:b=it:=by simpa using hb
  subst e;obtain⟨_,o,e,c,d⟩:=st;exact⟨o,e,λv z=>by rw[d] at z;cases z⟩
 keep:=λi h h' st k=>⟨st.1,st.2.at λo e=>k it (by simp) o e⟩
 item:=by
  intro X hP hw hK hc i pins s Y H E I hf st hg;subst hP hw hK;obtain⟨hlt,xs,x,hq,hn,hx⟩:=hg;obtain⟨its,rv,p,hz⟩:=I.list hq;obtain⟨u,hu,ru⟩:=rv.get hx;obtain⟨f0,f1,f2,f3,f4,f5⟩:=hf it (by simp);have e1:(n:Int) - 1 - (i:Int)=((n - 1 - i:Nat):Int):=by omega
  have st':=st.2
  rw[e1] at st';refine wpAny_pyNext_rev_item st' p.isList (x:=u) (by simpa using hu) λh' st2 sb=>?_
  have I1:Inv X pins Y H {s with heap:=h'}:=I.turned (t':=s.toks) (λb o hb e=>(sb.2 b hb).trans e) f0 f1 f3 f4 f5
  obtain⟨o,e,c,d⟩:=id st2;have e2:((n - 1 - i:Nat):Int) - 1=(n:Int) - 1 - ((i+1:Nat):Int):=by omega
  rw[e2] at st2;exact⟨u,rfl,zhK (s:={s with heap:=h'}) e c d (by decide) ⟨x,H,I1,ru,⟨rfl,λys hy=>by rw[I.list_inj hy hq];exact hx⟩,⟨hlt,st2⟩,λb hb=>(hf b hb).1⟩⟩
 done:=by
  intro X hP hw hK hc i pins s Y H E I hf st hg;subst hP hw hK;obtain⟨f0,f1,f2,f3,f4,f5⟩:=hf it (by simp);have hi:n<=i:=hg
  have e1:(n:Int) - 1 - (i:Int) = -1:=by have:=st.1;omega
  have st':=st.2
  rw[e1] at st';exact wpAny_pyNext_rev_end (I.ok.hd hc) st' λh' eb=>⟨rfl,I.turned (t':=s.toks) (λb o hb e=>eb b o hb e) f0 f1 f3 f4 f5⟩
 self:=λ_ _ _ _ _ st h=>wpAny_pyIter_revIter st.2 h
def zqO (K:W.Frag)(ta:TA):TI:=λY H R=>ta Y H λvs H1=>∃a xs,vs = [.ref a]/\SqL K H1 a xs/\R (Itv K a xs.length) H1
def znt {tg:Expr}{ta:TA}(hg:Gl X "reversed")(hm:X.mg "reversed"=none)(ha:PA X [a] ta)(hs:starEach [a] X.env = [(false,eval a X.env)]:=by rfl):PI X tg (.Call (.Name "reversed" p) [a] [] pos) (zqO X.K ta):=by
 intro pins s Y H R I h;refine waX (zcY I hg hm boot_reversed ?_ (by decide) (by decide));refine waP (thn (ha pos pins s Y H _ I h) λus s1 ⟨vs,H1,I1,r1,q1⟩ =>?_) hs rfl;obtain⟨a,xs,rfl,hq,q⟩:=q1;cases r1 with
|cons r rr=>
   cases rr;cases r;obtain⟨its,rv,pl,hz⟩:=I1.list hq;refine call_reversed_list pl.isList ?_;have e0:((its.toArray.size:Nat):Int) - 1=(xs.length:Int) - 1 - ((0:Nat):Int):=by simp[rv.length]
   rw[e0];have st:(s1.heap.push (revObj a ((xs.length:Int) - 1 - ((0:Nat):Int)))).IsRevIter s1.heap.objs.size a ((xs.length:Int) - 1 - ((0:Nat):Int)):=⟨_,wau _ rfl,rfl,rfl⟩
   refine wpAny_pyIter_revIter st ?_;refine⟨s1.heap.objs.size,[s1.heap.objs.size],_,_,H1,rfl,I1.kept (t':=s1.toks) λb o e=>wag _ e,zlo a _ xs.length,⟨wbn _,st⟩,λb hb=>?_,q⟩;have e:b=s1.heap.objs.size:=by simpa using hb
   subst e;exact I1.fpOk (wal _) (I1.hok.fresh (wal _))
def zpr:List D->Option (List D)
|[.lst ds]=>some ds
|_=>none
def zqP (f:FA):FA:=λZ=>(f Z).bind λl=>(zpr l).bind λds=>some ds.reverse
def znu {tg:Expr}(B:Blt X.mg)(ha:VA X [a] fl)(hg:Gl X "reversed":=by rfl)(hs:starEach [a] X.env = [(false,eval a X.env)]:=by rfl):VI X tg (.Call (.Name "reversed" p) [a] [] pos) (zqP fl):=by
 obtain⟨t,p,g⟩:=ha;refine⟨_,znt hg (B.get "reversed") p hs,?_⟩;intro Hz Jz O Z Y H J ds R s e w;obtain⟨l,e1,eA⟩:=bind_some e;obtain⟨xs,e2,eB⟩:=bind_some eA;cases eB;refine g Hz Jz O Z Y H J _ _ s e1 λvs H1 J1 u1 r1=>?_
 match l,e2,r1 with
|[.lst _],e2,r1=>
   cases e2;cases r1 with
  |cons h t=>
     cases t;cases h with
    |lst h j r=>
       rename_i p vs
       refine⟨p,vs,rfl,SqL.of h,w _ H1 J1 u1 λH2 J2 k ja=>?_⟩;have h2:=k.jo _ _ j h
       rw[wbo,<-r.length];refine⟨wal _,λi d hd=>?_⟩;have hi:i<vs.length:=by
        have:=(waa.mp hd).1
        rwa [wbo,<-r.length] at this
       rw[List.getElem?_reverse (by rw[<-r.length];exact hi),<-r.length] at hd;obtain⟨v,hv,rv⟩:=r.get hd;refine⟨⟨hi,vs,v,SqL.of h2,rfl,hv⟩,λx H3 y=>?_⟩;obtain⟨rfl,y⟩:=y;have e:=y _ (SqL.of h2)
       rw[hv] at e;cases e;exact⟨J2,Up.refl ja,rv.keep k⟩
end
section
variable {X:Cx}{K:W.Frag}{a b c e:Expr}{es:List Expr}{fa fb:FX}{fe fk fv:FE}{fl:FA}{fr:FR}{pos p p2:Pos}
def isL2:Option (Nat×D)->Bool
|some (2,.lst _)=>true
|_=>false
def znv {x:Option (Nat×D)}(h:isL2 x=true):∃ds,x=some (2,.lst ds):=by
 match x,h with
|some (2,.lst ds),_=>exact⟨ds,rfl⟩
def gAppN2 (i:Nat)(f:FR):FS:=λZ=>if isL2 (ownD (Z[i]?))=true then(f Z).bind λq=>match q.1,ownD (q.2[i]?) with
|.new 1 d,some (2,.lst ds)=>if ds.length<lim then some (.nx (setO q.2 i (.lst (ds++[d])))) else none
|_,_=>none
 else none
def zlp {i:Nat}{t:TE}(q:GoR K t fr):GoS K (zkA (tBM K "list" ze6 (tVar i) (zoL t tNil))) (gAppN2 i fr):=by
 intro Hz Jz O Z Y H J o E s e w;unfold gAppN2 at e;by_cases h0:isL2 (ownD (Z[i]?))=true
 .rw[if_pos h0] at e;obtain⟨ds0,z0⟩:=znv h0;obtain⟨⟨r,Z1⟩,e1,eA⟩:=bind_some e;obtain⟨v0,A0,hv0,r0⟩:=s.rd z0;have hr0:∃a vs,v0=.ref a/\H a=some (.lst vs):=by
   cases r0 with
  |lst h _=>exact⟨_,_,rfl,h⟩
  obtain⟨a,vs0,rfl,hav⟩:=hr0;refine⟨.ref a,hv0,.inl ⟨rfl,vs0,SqL.of hav⟩,?_⟩;refine q Hz Jz O Z Y H J r Z1 _ s e1 λv H1 J1 s1 k1 r1=>?_
  split at eA
  .rename_i d ds hr hz
   have hr:r=.new 1 d:=hr
   have hz:ownD (Z1[i]?)=some (2,.lst ds):=hz
   subst hr;by_cases hl:ds.length<lim
   .rw[if_pos hl] at eA;cases eA;obtain⟨A,fp,ow,ru,nd,hA,djA⟩:=r1;have hi:=znm hz
    have hat:∃v,Y[i]?=some (some v)/\RpU K H1 J1 2 v (.lst ds) (fp i):=by
     have o:=ow.at' i
     match z:Z1[i]?,hz,o with
    |some (.own _ _),hz,o=>cases hz;exact o.1
    |some (.par _ _),hz,o=>cases hz;exact o.1
    obtain⟨v1,hv1,r2⟩:=hat
    rw[hv0] at hv1;cases hv1;generalize hfi:fp i=FI at r2;cases r2 with
   |lst ha1 rl=>
      rename_i vs1 B
      refine⟨a,vs1,v,rfl,rfl,ha1,by rw[rl.length];exact war hl (wbp zd5),?_⟩;have naJ:¬J1 a:=ow.nj i a (by rw[hfi];simp)
      have naA:a∉A:=λh=>djA i a h (by rw[hfi];simp)
      have nd_i:(a::B).Nodup:=by rw[<-hfi];exact ow.nd i
      have hm:∀b∈[a],∃o,H1 b=some o/\MutO o:=λb hb=>by rw[waf.mp hb];exact⟨_,ha1,trivial⟩
      have kp:Keep K H1 J1 (upd H1 a (.lst (vs1++[v]))) J1:=zch ha1 naJ
      have rnew:RpU K (upd H1 a (.lst (vs1++[v]))) J1 2 (.ref a) (.lst (ds++[d])) (a::(B++A)):=by
       refine .lst zah ?_;have r1':RpUL K H1 J1 1 [v] [d] A:=by
        have:=RpUL.cons (n:=1) ru (RpUL.nil (K:=K) (H:=H1) (J:=J1))
        simpa using this
       refine(rl.append r1').keep kp λb hb o ho=>?_
       rw[zak];exact ho;rintro rfl;rcases wax.mp hb with hb|hb
       .exact(waF.mp nd_i).1 hb
       .exact naA hb
      have key:=s1.chgsG (Z':=setO Z1 i (.lst (ds++[d]))) (fp':=zfR fp i (a::(B++A))) (is:=λj=>j == i) (H':=upd H1 a (.lst (vs1++[v]))) (J':=J1) ow zlm (λj hj=>?_) (λj hj=>?_) (λj hj=>?_) (λj hj=>?_) (λj l hj hl ne=>?_) (λb o hb h=>?_) (λb h=>?_) (λ_ h=>h) (λ_ h=>.inl h) (λb h=>?_)
      .obtain⟨s2,_,k2⟩:=key;exact w Y _ J1 s2 (k1.trans k2)
      .have hj':j≠i:=by simpa using hj
       exact⟨zc7 hj',zbc hj'⟩
      .have hj':j=i:=by simpa using hj
       subst hj';refine⟨2,_,_,.ref a,hz,wam hi,hv0,by rw[zaB];exact rnew,λb hb=>?_⟩;rw[zaB] at hb;rcases wak.mp hb with rfl|hb
       .exact .inl (by rw[hfi];simp)
       .rcases wax.mp hb with hb|hb
        .exact .inl (by rw[hfi];simp[hb])
        .exact .inr ⟨(hA b hb).2,λj=>djA j b hb⟩
      .have hj':j=i:=by simpa using hj
       subst hj';rw[zaB];refine waF.mpr ⟨λh=>?_,waW.mpr ⟨(waF.mp nd_i).2,nd,λx hx y hy z=>?_⟩⟩
       .rcases wax.mp h with h|h
        .exact(waF.mp nd_i).1 h
        .exact naA h
       .subst z;exact djA _ x hy (by rw[hfi];simp[hx])
      .have hj':j=i:=by simpa using hj
       subst hj';rw[zaB];intro b hb;rcases wak.mp hb with rfl|hb
       .exact naJ
       .rcases wax.mp hb with hb|hb
        .exact ow.nj _ b (by rw[hfi];simp[hb])
        .exact(hA b hb).1
      .have hj':j=i:=by simpa using hj
       have hl':l=i:=by simpa using hl
       exact absurd (hj'.trans hl'.symm) ne
      .rw[zak];exact h;rintro rfl;exact hb i (by simp) (by rw[hfi];simp)
      .by_cases z:b=a
       .subst z;rw[zah];simp
       .rw[zak z];exact h
      .by_cases z:b=a
       .subst z;rw[zah];simp
       .rw[zak z];exact s1.ja b h
   .rw[if_neg hl] at eA;cases eA
  .cases eA
 .rw[if_neg h0] at e;cases e
def zlq (i:Nat){x:Str}{xp apos cpos:Pos}(h:VR X e fr)(hN:X.N[i]?=some x:=by rfl)(hv:Vis X.env.scope x:=by first|exact Or.inl rfl|exact Or.inr (Or.inl rfl)|exact Or.inr (Or.inr rfl))(hd:(x == ("__debug__" : Str))=false:=by decide)
 (hcd:(x == ("__classdict__" : Str))=false:=by decide) (h1:starEach [e] X.env=(false,eval e X.env)::starEach [] X.env:=by rfl)
 (hbase:attributeBase (.Name x xp) "append" X.env (eval (.Name x xp) X.env)=eval (.Name x xp) X.env:=by rfl)
 (hfew:((backTo cpos (starEach [e] X.env)).all (λx=>!x.1)&&(backToKw cpos (keywordEach [] X.env)).all (λx=>x.1.isSome)
  && decide ([e].length+([]:List Keyword).length+(if([]:List Keyword).isEmpty then 0 else 1)<30))=true:=by rfl)
 (hline:(apos.endLine == cpos.line)=true:=by rfl) (hs:starEach [e] X.env = [(false,eval e X.env)]:=by rfl) (hsw:swapsWith (.Call (.Attribute (.Name x xp) "append" apos) [e] [] cpos) none pos.line X.env=pure false:=by rfl) :
 VS X (.Expr (.Call (.Attribute (.Name x xp) "append" apos) [e] [] cpos) pos) (gAppN2 i fr):=by
 obtain⟨t,p,q⟩:=h;exact⟨_,zdY (papp (zbT hN hv hd hcd) (zbJ p zcZ h1) hbase hfew hline hs) hsw,zlp q⟩
def eLen2 (i:Nat):FE:=λZ=>match ownD (Z[i]?) with
|some (_+1,.lst ds)=>some (.int ds.length)
|_=>none
def znw (i:Nat){x:Str}{xp:Pos}(B:Blt X.mg)(hN:X.N[i]?=some x:=by rfl)(hv:Vis X.env.scope x:=by first|exact Or.inl rfl|exact Or.inr (Or.inl rfl)|exact Or.inr (Or.inr rfl))(hd:(x == ("__debug__" : Str))=false:=by decide)(hcd:(x == ("__classdict__" : Str))=false:=by decide)(hg:Gl X "len":=by rfl)
 (he:starEach [.Name x xp] X.env=(false,eval (.Name x xp) X.env)::starEach [] X.env:=by rfl):VE X (.Call (.Name "len" p) [.Name x xp] [] pos) (eLen2 i):=by
 refine⟨_,pb zaQ B boot_len (zbJ (zbT hN hv hd hcd) zcZ he) (by decide +kernel) hg (by decide) (by decide) he rfl,λHz Jz O Z Y H J d Q s e w=>?_⟩;unfold eLen2 at e;split at e
 .rename_i n ds z
  cases e;obtain⟨v,A,hv,r⟩:=s.rd z;refine⟨v,hv,?_⟩;cases r with
 |lst ha rl=>
    rename_i vs B'
    refine⟨_,vs.length,rfl,.inl ⟨vs,SqL.of ha,rfl⟩,?_⟩;rw[rl.length];exact w _ H J (Up.refl s.ja) (.int _)
 .cases e
end
section
variable {X:Cx}{K:W.Frag}{fa:FX}{fr:FR}
def znx {i:Nat}{t:TE}(q:GoR K t fr):GoS K (tAsg t (zdL i)) (gOwnR i fr):=by
 intro Hz Jz O Z Y H J o E s e w;obtain⟨⟨r,Z1⟩,e1,eA⟩:=bind_some e;cases r with
|told d=>cases eA
|new n d=>
   have eA:(if i<Z1.length/\isPar (Z1[i]?)=false then some (Out.nx (Z1.set i (.own n d))) else none)=some o:=eA
   by_cases hi:i<Z1.length/\isPar (Z1[i]?)=false
   .rw[if_pos hi] at eA;cases eA;exact q Hz Jz O Z Y H J _ Z1 _ s e1 λv H' J' s' k r=>w _ H' J' (s'.take r hi.1 (zbY hi.2)) k
   .rw[if_neg hi] at eA;cases eA
def zlr (N:List Str)(st:Stmt){i:Nat}{x:Str}{elt iter tg:Expr}{scope:Scope}{pos pos' cp:Pos}{NC:List Str}(fr:List (Option Nat)){fi:FA}{g:FG}{is:List Nat}{fe:FA}(hND:X.N.Nodup)(hix:X.N[i]?=some x)(hx:Loc X.env.scope x)(hcalm:X.calm=true)(hi:VI X tg iter fi)
 (hcells:∀x,X.env.scope.names.lookup x=some .cell->∃c,X.env.cells.lookup x=some c) (hfk:X.env.scope.kind=.function) (hN:X.N=N) (hsc:X.env.scope.names=(zab st).names)
 (hfree':∀y∈scope.names,y.2=.free->(zab st).names.lookup y.1=some .cell) (hcell:∀y∈scope.names,y.2≠.cell) (hkind:scope.kind=.function) (hnames:∀y∈scope.names,y.2=.local->scope.names.lookup y.1=some .local)
 (hfr':zce N (zab st).names scope.names NC fr=true) (hlen:fr.length=NC.length) (hap:apart is fr=true)
 (hg:∀cl C s0 H0 ex pn,VG (cxC X scope cl NC C s0 H0 ex pn) tg is g) (he:∀cl C s0 H0 ex pn,VN (cxC X scope cl NC C s0 H0 ex pn) elt fe)
 (hs:∀x,foldedSetIterable iter X.env x=pure x:=by intro _;rfl) (hsw:swapsWith (.ListComp elt [⟨tg,iter,[],0⟩] scope cp) (some (.Name x pos')) pos.line X.env=pure true:=by rfl)
 (hf:X.fn x=true\/X.env.scope.names.lookup x=some .local:=by first|exact .inl rfl|exact .inr rfl|assumption) :
 VS X (.Assign [.Name x pos'] (.ListComp elt [⟨tg,iter,[],0⟩] scope cp) pos) (gOwnR i (zmm fr fi g fe)):=by
 obtain⟨wi,pi,gi⟩:=hi;obtain⟨_,_,hon,_⟩:=hg [] 0 X.s₀ X.Hz [] [];have p:=znb N st (i:=i) (pos:=pos) (pos':=pos') (cp:=cp) fr hND hix hx hcalm pi hcells hfk hN hsc hfree' hcell hkind hnames hfr' hlen (λcl C s0 H0 ex pn=>show PG (cxC X scope cl NC C s0 H0 ex pn) tg (TGof X.K g) from(hg cl C s0 H0 ex pn).of) (λcl C s0 H0 ex pn=>show PTs (cxC X scope cl NC C s0 H0 ex pn) [] (TTof X.K tTrue) from zeb) (λcl C s0 H0 ex pn=>show PE (cxC X scope cl NC C s0 H0 ex pn) elt (TNof X.K fe) from(he cl C s0 H0 ex pn).of) hs hsw hf
 exact⟨_,p,znx (zll gi hon hap)⟩
def vrC (i:Nat){scope:Scope}{cl:List (Str×Addr)}{NC:List Str}{C:Addr}{s0:Shared}{H0:Hp}{ex:List Addr}{pn:List (Addr×Obj)}{x:Str}{pos:Pos}(hi:NC[i]?=some x)(hfk:X.env.scope.kind=.function)
 (h1:scope.names.lookup x=some .free) (h2:X.env.scope.names.lookup x=some .cell) (hd:(x == ("__debug__" : Str))=false:=by decide) (hcd:(x == ("__classdict__" : Str))=false:=by decide):VW (cxC X scope cl NC C s0 H0 ex pn) (.Name x pos) (eRd i):=
 ⟨_,pvC i hi hfk h1 h2 hd hcd,zo4⟩
def xNil2:FR:=λZ=>some (.new 2 (.lst []),Z)
def zny {pos:Pos}:VR X (.List [] pos) xNil2:=by
 refine⟨_,ziF zcZ,λHz Jz O Z Y H J rr Z' Q s e w=>?_⟩;cases e;refine⟨wbn _,λq hq=>?_⟩;have un:=Up.new s.ja hq (.lst [])
 obtain⟨fp,ow⟩:=s.ow;refine w _ _ J (s.up un) un.keep ⟨[q],fp,ow.up s un,.lst zah .nil,by simp,λb hb=>?_,λi b hb hb2=>?_⟩
 .rw[waf.mp hb];exact⟨λj=>s.ja q j hq,s.back hq⟩
 .rw[waf.mp hb] at hb2;obtain⟨o,e,_⟩:=(ow.at' i).ru q hb2;rw[hq] at e;cases e
end
def zgG (Z:En)(i:Nat):En:=if isPar (Z[i]?)=false then Z.set i .un else Z
def dropE (is:List Nat)(Z:En):En:=is.foldl zgG Z
theorem ST.dropE {K:W.Frag}{Hz H:Hp}{Jz J:Addr->Prop}{O:Pr}{Y:L2.St}:∀(is:List Nat) {Z:En},ST K Hz Jz O Z Y H J->ST K Hz Jz O (dropE is Z) Y H J
|[],_,s=>s
|i::is,Z,s=>by
   refine ST.dropE is (Z:=zgG Z i) ?_;unfold zgG;by_cases h:isPar (Z[i]?)=false
   .rw[if_pos h];exact s.drop λn d z=>by rw[z] at h;cases h
   .rw[if_neg h];exact s
def znz (is:List Nat)(g:FS):FS:=λZ=>g (dropE is Z)
section
variable {X:Cx}{sts:List Stmt}{g:FS}
def zbf (is:List Nat)(h:VSs X sts g):VSs X sts (znz is g):=by
 obtain⟨t,p,q⟩:=h;exact⟨t,p,λHz Jz O Z Y H J o E s e w=>q Hz Jz O _ Y H J o E (s.dropE is) e w⟩
end
def EvS {R A:Type}(k:Out->Option R)(φ:A->Option R)(g:FS)(Z:En)(a:Option A):Prop:=∀r,a.bind φ=some r->(g Z).bind k=some r
def Step {α:Type}(g:FS)(Z:En)(x:Option α)(Z':α->En):Prop:=∀d,x=some d->g Z=some (.nx (Z' d))
def okS (i:Nat)(Z:En):Bool:=decide (i<Z.length) && !isPar (Z[i]?)
def zdJ {i:Nat}{Z:En}(h:okS i Z=true):i<Z.length/\isPar (Z[i]?)=false:=by
 unfold okS at h;simpa using h
section
variable {R A α S:Type}{k:Out->Option R}{φ:A->Option R}{g g2 a b:FS}{Z:En}{x:Option α}{Z':α->En}{c:FT}{e:FE}{fl:FA}
def zaa {β γ:Type}{x:Option β}{f:β->Option γ}{r:γ}(h:x.bind f=some r):∃y,x=some y/\f y=some r:=by
 cases x with
|none=>cases h
|some y=>exact⟨y,rfl,h⟩
def zaj {K:α->Option A}(s:Step g Z x Z')(h:∀d,EvS k φ g2 (Z' d) (K d)):EvS k φ (gSeq g g2) Z (x.bind K):=λr e=>by
 obtain⟨y,e,e2⟩:=zaa e;obtain⟨d,e0,e⟩:=zaa e;unfold gSeq;rw[s d e0];exact h d r (by rw[e];exact e2)
def zbq {a:Option A}(h:∀r,a.bind φ=some r->k (.nx Z)=some r):EvS k φ gNx Z a:=λr e=>h r e
def za6 {a:Option A}(h:EvS k φ g Z a):EvS k φ (gSeq gNx g) Z a:=h
def zmn (i:Nat){a:Option A}(h:EvS k φ g (frzE i Z) a):EvS k φ (λZ=>g (frzE i Z)) Z a:=h
def zb7 (is:List Nat){a:Option A}(h:EvS k φ g (dropE is Z) a):EvS k φ (znz is g) Z a:=h
def zqQ {a' b':Option A}(h1:EvS k φ a Z a')(h2:EvS k φ b Z b'):EvS k φ (gIf c a b) Z ((c Z).bind λt=>if t then a' else b'):=λr e=>by
 obtain⟨y,e,e2⟩:=zaa e;obtain⟨t,e0,e⟩:=zaa e;unfold gIf;rw[e0,zOB];cases t with
|true=>exact h1 r (by rw[if_pos rfl] at e;rw[e];exact e2)
|false=>exact h2 r (by rw[if_neg (by decide)] at e;rw[e];exact e2)
def kx (k:Out->Option R):Out->Option R
|.nx _=>none
|o=>k o
def zmo {r:R}(h:(a Z).bind (kx k)=some r):(gSeq a g Z).bind k=some r:=by
 unfold gSeq;cases z:a Z with
|none=>rw[z] at h;cases h
|some o=>rw[z] at h;cases o <;> first|cases h|exact h
def zaH {a' b':Option A}(h1:EvS (kx k) φ a Z a')(h2:EvS k φ (gSeq b g) Z b'):EvS k φ (gSeq (gIf c a b) g) Z ((c Z).bind λt=>if t then a' else b'):=λr e=>by
 obtain⟨y,e,e2⟩:=zaa e;obtain⟨t,e0,e⟩:=zaa e;cases t with
|true=>
   have:=zmo (g:=g) (h1 r (by rw[if_pos rfl] at e;rw[e];exact e2))
   unfold gSeq gIf at *;rw[e0];exact this
|false=>
   have:=h2 r (by rw[if_neg (by decide)] at e;rw[e];exact e2)
   unfold gSeq gIf at *;rw[e0];exact this
def zfW {a':Option A}(h:a'=none):EvS k φ gNo Z a':=λr e=>by rw[h] at e;cases e
def zap {K:D->Option A}(h:∀d r,(K d).bind φ=some r->k (.ret (.told d) Z)=some r):EvS k φ (gRet e) Z ((e Z).bind K):=λr z=>by
 obtain⟨y,z,z2⟩:=zaa z;obtain⟨d,e0,z⟩:=zaa z;unfold gRet;rw[e0];exact h d r (by rw[z];exact z2)
def znA {i n:Nat}{d:D}{a':Option A}(hi:Z[i]?=some (.own n d))(h:∀r,a'.bind φ=some r->k (.ret (.new n d) (Z.set i .un))=some r):EvS k φ (gRetO i) Z a':=λr z=>by
 unfold gRetO;rw[hi];exact h r z
def zjq {K:List D->Option A}(h:∀ds r,(K ds).bind φ=some r->k (.ret (.new 1 (.lst ds)) Z)=some r):EvS k φ (gRetN fl) Z ((fl Z).bind K):=λr z=>by
 obtain⟨y,z,z2⟩:=zaa z;obtain⟨d,e0,z⟩:=zaa z;unfold gRetN;rw[e0];exact h d r (by rw[z];exact z2)
def zqR {a':Option A}(h:∀r,a'.bind φ=some r->k (.ct Z)=some r):EvS k φ gCt Z a':=λr e=>h r e
def zaO {i:Nat}(h:okS i Z=true):Step (gSet i e) Z (e Z) λd=>Z.set i (.val d):=λd z=>by
 unfold gSet;rw[z,zOB,if_pos (zdJ h)]
def zps:Step (gEx e) Z (e Z) λ_=>Z:=λd z=>by unfold gEx;rw[z];rfl
def zhm {i:Nat}(h:okS i Z=true):Step (gOwn i fl) Z (fl Z) λds=>Z.set i (.own 1 (.lst ds)):=λd z=>by
 unfold gOwn;rw[z,zOB,if_pos (zdJ h)]
def appL (xs:List D)(d:D):Option (List D):=if xs.length<lim then some (xs++[d]) else none
def extL (xs:List D)(d:D):Option (List D):=match d with|.lst es=>if(xs++es).length<=lim then some (xs++es) else none|_=>none
def zjr {i:Nat}{xs:List D}(h:ownD (Z[i]?)=some (1,.lst xs)):Step (gApp i e) Z ((e Z).bind (appL xs)) λys=>setO Z i (.lst ys):=λd z=>by
 obtain⟨y,e0,z⟩:=zaa z;unfold gApp;rw[e0,zOB,h];unfold appL at z;split at z
 .rename_i q;cases z;exact if_pos q
 .cases z
def zmp {i:Nat}{xs:List D}(h:ownD (Z[i]?)=some (1,.lst xs)):Step (gExt i e) Z ((e Z).bind (extL xs)) λys=>setO Z i (.lst ys):=λd z=>by
 obtain⟨y,e0,z⟩:=zaa z;unfold gExt;rw[e0,zOB,h];unfold extL at z;cases y <;> try cases z
 rename_i es
 have z:(if(xs++es).length<=lim then some (xs++es) else none)=some d:=z
 split at z
 .rename_i q;cases z;exact if_pos q
 .cases z
def k0:Out->Option En
|.nx Z=>some Z
|_=>none
def kL:Out->Option En
|.nx Z=>some Z
|.ct Z=>some Z
|_=>none
def zpt {emb:S->En}{a' b':Option S}(h1:EvS k0 (λs=>some (emb s)) a Z a')(h2:EvS k0 (λs=>some (emb s)) b Z b'):Step (gIf c a b) Z ((c Z).bind λt=>if t then a' else b') emb:=λs z=>by
 have:=zqQ (c:=c) h1 h2 (emb s) (by rw[z];rfl)
 obtain⟨o,e1,e2⟩:=zaa this;rw[e1];cases o <;> cases e2
 rfl
end
def Tg {α:Type}(tg:FG)(d:D)(Z:En)(x:Option α)(Z':α->En):Prop:=∀y,x=some y->tg d Z=some (Z' y)
section
variable {d:D}{Z:En}
def tg_n {i:Nat}(h:okS i Z=true):Tg (gN i) d Z (some d) λd=>Z.set i (.val d):=λy e=>by
 cases e;unfold gN;rw[if_pos (zdJ h)]
def un2:D->Option (D×D)
|.tup [a,b]=>some (a,b)
|_=>none
def zls {d:D}{y:D×D}(h:un2 d=some y):d=.tup [y.1,y.2]:=by
 unfold un2 at h;split at h
 .cases h;rfl
 .cases h
def zfX {i:Nat}{d:D}{Z:En}(h:okS i Z=true):gN i d Z=some (Z.set i (.val d)):=by unfold gN;rw[if_pos (zdJ h)]
def tg_2 {i j:Nat}(h1:okS i Z=true)(h2:∀x,okS j (Z.set i (.val x))=true):Tg (gT 2 (gCons' (gN i) (gCons' (gN j) gNil'))) d Z (un2 d) λy=>(Z.set i (.val y.1)).set j (.val y.2):=λy e=>by
 rw[zls e];show((gN i y.1 Z).bind λZ1=>(gN j y.2 Z1).bind λZ2=>gNil' [] Z2)=_
 rw[zfX h1,zOB,zfX (h2 _)];rfl
def zjs {α:Type}{e:FE}{tg:FG}{x:D->Option α}{Z':α->En}(h:∀d,Tg tg d Z (x d) Z'):Step (gAsg e tg) Z ((e Z).bind x) Z':=λy z=>by
 obtain⟨d,e0,z⟩:=zaa z;unfold gAsg;rw[e0,zOB,h d y z];rfl
end
def zaZ {S:Type}(f:S->D->Option S):S->List D->Option S
|s,[]=>some s
|s,d::ds=>(f s d).bind λs=>zaZ f s ds
def zmq {α S:Type}{Z:En}{fi:FA}{tg:FG}{b:FS}{x:D->Option α}{emb:S->En}{Z1:S->α->En}{step:S->α->Option S}{s0:S}(h0:emb s0=Z)(ht:∀s d,Tg tg d (emb s) (x d) (Z1 s))(hb:∀s y,EvS kL (λs=>some (emb s)) b (Z1 s y) (step s y)) :
 Step (gFor fi tg b) Z ((fi Z).bind (zaZ (λs d=>(x d).bind (step s)) s0)) emb:=λs z=>by
 have key:∀(ds:List D) (s0:S),zaZ (λs d=>(x d).bind (step s)) s0 ds=some s->forL tg b ds (emb s0)=some (.nx (emb s)):=by
  intro ds;induction ds with
 |nil=>intro s0 q;cases q;rfl
 |cons d ds ih=>
    intro s0 q;obtain⟨s1,e1,q1⟩:=zaa q;obtain⟨y,e2,e5⟩:=zaa e1;have hb1:=hb s0 y (emb s1) (by rw[e5];rfl)
    obtain⟨o,e3,e4⟩:=zaa hb1;unfold forL;rw[ht s0 d y e2,zOB,e3,zOB];cases o <;> cases e4 <;> exact ih _ q1
 obtain⟨ds,e0,z1⟩:=zaa z;unfold gFor;rw[e0,zOB,<-h0];exact key ds s0 z1
inductive Fl (S A:Type) where
|nx (s:S)|bk (s:S)|ret (a:A)
def zef {S A:Type}(f:S->D->Option (Fl S A)):S->List D->Option (Fl S A)
|s,[]=>some (.nx s)
|s,d::ds=>(f s d).bind λo=>match o with
  |.nx s=>zef f s ds
  |.bk s=>some (.nx s)
  |.ret a=>some (.ret a)
def kR {R:Type}(k:Out->Option R):Out->Option (Fl En R)
|.nx Z=>some (.nx Z)
|.ct Z=>some (.nx Z)
|.bk Z=>some (.bk Z)
|.ret v Z=>(k (.ret v Z)).map .ret
def fR {S A R:Type}(φ:A->Option R)(emb:S->En):Fl S A->Option (Fl En R)
|.nx s=>some (.nx (emb s))
|.bk s=>some (.bk (emb s))
|.ret a=>(φ a).map .ret
def zpu {α S A R:Type}{k:Out->Option R}{φ:A->Option R}{Z:En}{fi:FA}{tg:FG}{b g:FS}{x:D->Option α}{emb:S->En}{Z1:S->α->En}{step:S->α->Option (Fl S A)}{K:S->Option A}{s0:S}(h0:emb s0=Z)(ht:∀s d,Tg tg d (emb s) (x d) (Z1 s))(hb:∀s y,EvS (kR k) (fR φ emb) b (Z1 s y) (step s y))(hk:∀s,EvS k φ g (emb s) (K s)) :
 EvS k φ (gSeq (gFor fi tg b) g) Z ((fi Z).bind λds=>(zef (λs d=>(x d).bind (step s)) s0 ds).bind λo=>match o with|.nx s=>K s|.bk s=>K s|.ret a=>some a):=λr z=>by
 have key:∀(ds:List D) (s0:S) (v:A) (o:Fl S A),zef (λs d=>(x d).bind (step s)) s0 ds=some o->(match o with|.nx s=>K s|.bk s=>K s|.ret a=>some a)=some v->φ v=some r->((forL tg b ds (emb s0)).bind λo=>match o with|.nx Z'=>g Z'|.bk Z'=>some (.bk Z')|.ct Z'=>some (.ct Z')|.ret d Z'=>some (.ret d Z')).bind k=some r:=by
  intro ds;induction ds with
 |nil=>
    intro s0 v o q1 q2 q3;cases q1;exact hk s0 r (by rw[show K s0=some v from q2];exact q3)
 |cons d ds ih=>
    intro s0 v o q1 q2 q3;obtain⟨o1,e1,q4⟩:=zaa q1;obtain⟨y,e2,e5⟩:=zaa e1;unfold forL;rw[ht s0 d y e2,zOB];cases o1 with
   |nx s1=>
      have hb1:=hb s0 y (.nx (emb s1)) (by rw[e5];rfl)
      obtain⟨ob,e3,e4⟩:=zaa hb1;rw[e3,zOB];have ih:=ih s1 v o q4 q2 q3
      cases ob with
     |nx Z2=>cases e4;exact ih
     |ct Z2=>cases e4;exact ih
     |bk Z2=>cases e4
     |ret v Z2=>
        have e4:(k (.ret v Z2)).map Fl.ret=some (Fl.nx (emb s1)):=e4
        cases h:k (.ret v Z2) <;> rw[h] at e4 <;> cases e4
   |bk s1=>
      cases q4;have q2:K s1=some v:=q2
      have hb1:=hb s0 y (.bk (emb s1)) (by rw[e5];rfl)
      obtain⟨ob,e3,e4⟩:=zaa hb1;rw[e3,zOB];cases ob with
     |nx Z2=>cases e4
     |ct Z2=>cases e4
     |bk Z2=>cases e4;exact hk s1 r (by rw[q2];exact q3)
     |ret v Z2=>
        have e4:(k (.ret v Z2)).map Fl.ret=some (Fl.bk (emb s1)):=e4
        cases h:k (.ret v Z2) <;> rw[h] at e4 <;> cases e4
   |ret a=>
      cases q4;cases q2;have hb1:=hb s0 y (.ret r) (by rw[e5];show(φ _).map Fl.ret=_;rw[q3];rfl)
      obtain⟨ob,e3,e4⟩:=zaa hb1;rw[e3,zOB];cases ob with
     |nx Z2=>cases e4
     |ct Z2=>cases e4
     |bk Z2=>cases e4
     |ret v Z2=>
        have e4:(k (.ret v Z2)).map Fl.ret=some (Fl.ret r):=e4
        cases h:k (.ret v Z2) with
       |none=>rw[h] at e4;cases e4
       |some r'=>rw[h] at e4;cases e4;exact h
 obtain⟨v,z1,z2⟩:=zaa z;obtain⟨ds,e0,z3⟩:=zaa z1;obtain⟨o,z4,z5⟩:=zaa z3;unfold gSeq gFor;rw[e0,zOB,<-h0];exact key ds s0 v o z4 z5 z2
def zpv {S:Type}(c:S->Option Bool)(f:S->Option S):Nat->S->Option S
|0,_=>none
|n+1,s=>(c s).bind λt=>if t then(f s).bind λs=>zpv c f n s else some s
def zeQ {S A:Type}(c:S->Option Bool)(f:S->Option (Fl S A)):Nat->S->Option (Fl S A)
|0,_=>none
|n+1,s=>(c s).bind λt=>if t then(f s).bind λo=>match o with
  |.nx s=>zeQ c f n s
  |.bk s=>some (.nx s)
  |.ret a=>some (.ret a)
   else some (.nx s)
def zlt {S A R:Type}{k:Out->Option R}{φ:A->Option R}{Z:En}{c:FT}{b g:FS}{fuel:En->Nat}{emb:S->En}{test:S->Option Bool}{step:S->Option (Fl S A)}{n:S->Nat}{K:S->Option A}{s0:S}(h0:emb s0=Z)(hn:n s0=fuel Z)(hc:∀s,c (emb s)=test s)(hb:∀s,EvS (kR k) (fR φ emb) b (emb s) (step s))(hk:∀s,EvS k φ g (emb s) (K s)) :
 EvS k φ (gSeq (gWhile c b fuel) g) Z ((zeQ test step (n s0) s0).bind λo=>match o with|.nx s=>K s|.bk s=>K s|.ret a=>some a):=λr z=>by
 have key:∀(m:Nat) (s0:S) (v:A) (o:Fl S A),zeQ test step m s0=some o->(match o with|.nx s=>K s|.bk s=>K s|.ret a=>some a)=some v->φ v=some r->((zdI c b m (emb s0)).bind λo=>match o with|.nx Z'=>g Z'|.bk Z'=>some (.bk Z')|.ct Z'=>some (.ct Z')|.ret d Z'=>some (.ret d Z')).bind k=some r:=by
  intro m;induction m with
 |zero=>intro s0 v o q;cases q
 |succ m ih=>
    intro s0 v o q1 q2 q3;obtain⟨t,e0,q4⟩:=zaa q1;unfold zdI;rw[hc,e0,zOB];cases t with
   |false=>
      cases q4;exact hk s0 r (by rw[show K s0=some v from q2];exact q3)
   |true=>
      obtain⟨o1,e1,q5⟩:=zaa (show(step s0).bind _=some o from q4);rw[if_pos rfl];cases o1 with
     |nx s1=>
        have hb1:=hb s0 (.nx (emb s1)) (by rw[e1];rfl)
        obtain⟨ob,e3,e4⟩:=zaa hb1;rw[e3,zOB];have ih:=ih s1 v o q5 q2 q3
        cases ob with
       |nx Z2=>cases e4;exact ih
       |ct Z2=>cases e4;exact ih
       |bk Z2=>cases e4
       |ret v Z2=>
          have e4:(k (.ret v Z2)).map Fl.ret=some (Fl.nx (emb s1)):=e4
          cases h:k (.ret v Z2) <;> rw[h] at e4 <;> cases e4
     |bk s1=>
        cases q5;have q2:K s1=some v:=q2
        have hb1:=hb s0 (.bk (emb s1)) (by rw[e1];rfl)
        obtain⟨ob,e3,e4⟩:=zaa hb1;rw[e3,zOB];cases ob with
       |nx Z2=>cases e4
       |ct Z2=>cases e4
       |bk Z2=>cases e4;exact hk s1 r (by rw[q2];exact q3)
       |ret v Z2=>
          have e4:(k (.ret v Z2)).map Fl.ret=some (Fl.bk (emb s1)):=e4
          cases h:k (.ret v Z2) <;> rw[h] at e4 <;> cases e4
     |ret a=>
        cases q5;cases q2;have hb1:=hb s0 (.ret r) (by rw[e1];show(φ _).map Fl.ret=_;rw[q3];rfl)
        obtain⟨ob,e3,e4⟩:=zaa hb1;rw[e3,zOB];cases ob with
       |nx Z2=>cases e4
       |ct Z2=>cases e4
       |bk Z2=>cases e4
       |ret v Z2=>
          have e4:(k (.ret v Z2)).map Fl.ret=some (Fl.ret r):=e4
          cases h:k (.ret v Z2) with
         |none=>rw[h] at e4;cases e4
         |some r'=>rw[h] at e4;cases e4;exact h
 obtain⟨v,z1,z2⟩:=zaa z;obtain⟨o,z4,z5⟩:=zaa z1;unfold gSeq gWhile;rw[<-hn,<-h0];exact key _ s0 v o z4 z5 z2
def aC (x:Option D)(xs:Option (List D)):Option (List D):=x.bind λd=>xs.bind λds=>some (d::ds)
def aN:Option (List D):=some []
def zck (f:D->Option (Option D))(ds:List D):Option (List D):=(zcW f ds).bind λout=>if out.length<=lim then some out else none
def zqS (l:List D):Option (List D):=(a1Tup l).bind λds=>some (zdM ds)
def rngA (l:List D):Option (List D):=(a1Int l).bind λj=>if -1000000<=j/\j<=1000000 then some (zbe 0 j.toNat) else none
def zqT (l:List D):Option (List D):=(zpr l).bind λds=>some ds.reverse
def mkLs (ds:List D):Option (List D):=if ds.length<=lim then some ds else none
def flK {S A:Type}(K:S->Option A):Fl S A->Option A
|.nx s=>K s
|.bk s=>K s
|.ret a=>some a
section
variable {α S A R:Type}{k:Out->Option R}{φ:A->Option R}{Z:En}{fi:FA}{b g:FS}{emb:S->En}{s0:S}
def zfd {i:Nat}{step:S->D->Option S}(h0:emb s0=Z)(hi:∀s,okS i (emb s)=true)(hb:∀s d,EvS kL (λs=>some (emb s)) b ((emb s).set i (.val d)) (step s d)) :
 Step (gFor fi (gN i) b) Z ((fi Z).bind (zaZ step s0)) emb:=
 zmq (x:=λd=>some d) (step:=step) h0 (λs d=>tg_n (hi s)) hb
def zgH {i j:Nat}{step:S->D×D->Option S}(h0:emb s0=Z)(hi:∀s,okS i (emb s)=true)(hj:∀s x,okS j ((emb s).set i (.val x))=true)(hb:∀s y,EvS kL (λs=>some (emb s)) b (((emb s).set i (.val y.1)).set j (.val y.2)) (step s y)) :
 Step (gFor fi (gT 2 (gCons' (gN i) (gCons' (gN j) gNil'))) b) Z ((fi Z).bind (zaZ (λs d=>(un2 d).bind (step s)) s0)) emb:=
 zmq (x:=un2) (step:=step) h0 (λs d=>tg_2 (hi s) (hj s)) hb
def zjt {i:Nat}{step:S->D->Option (Fl S A)}{K:S->Option A}(h0:emb s0=Z)(hi:∀s,okS i (emb s)=true)(hb:∀s d,EvS (kR k) (fR φ emb) b ((emb s).set i (.val d)) (step s d))(hk:∀s,EvS k φ g (emb s) (K s)) :
 EvS k φ (gSeq (gFor fi (gN i) b) g) Z ((fi Z).bind λds=>(zef step s0 ds).bind (flK K)):=λr z=>
 zpu (x:=λd=>some d) (step:=step) h0 (λs d=>tg_n (hi s)) hb hk r (by
  rw[<-z];congr 1)
def zju {c:FT}{n:Nat}{test:S->Option Bool}{step:S->Option (Fl S A)}{K:S->Option A}(h0:emb s0=Z)(hc:∀s,c (emb s)=test s)(hb:∀s,EvS (kR k) (fR φ emb) b (emb s) (step s))(hk:∀s,EvS k φ g (emb s) (K s)) :
 EvS k φ (gSeq (gWhile c b λ_=>n) g) Z ((zeQ test step n s0).bind (flK K)):=λr z=>
 zlt (n:=λ_=>n) h0 rfl hc hb hk r (by
  rw[<-z];congr 1)
end
def zqU (x k v:D):Option D:=(keyD k).bind λk=>match x with
|.dct ks ds=>if ks.length<lim then some (.dct (putKD ks ds k v).1 (putKD ks ds k v).2) else none
|_=>none
def zqV {i:Nat}{Z:En}{fk f:FE}{x:D}(h:ownD (Z[i]?)=some (1,x)):Step (gPutD i fk (xE f)) Z ((f Z).bind λv=>(fk Z).bind λk=>zqU x k v) λy=>setO Z i y:=λd z=>by
 obtain⟨v,e0,z1⟩:=zaa z;obtain⟨kk,e1,z2⟩:=zaa z1;obtain⟨key,e2,z3⟩:=zaa z2;unfold gPutD xE;rw[e0,zOB,zOB];show(fk Z).bind _=_
 rw[e1,zOB,e2,zOB];show(match ownD (Z[i]?) with|some (1,.dct ks ds)=>_|_=>_)=_
 rw[h];cases x <;> try cases z3
 rename_i ks ds
 have z3:(if ks.length<lim then some (D.dct (putKD ks ds key v).1 (putKD ks ds key v).2) else none)=some d:=z3
 split at z3
 .rename_i q;cases z3;exact if_pos q
 .cases z3
def zdN (xs:List D)(k v:D):Option (List D):=(dInt k).bind λk=>(ixN xs.length k).bind λj=>some (xs.set j v)
def zgI {i:Nat}{Z:En}{fk f:FE}{xs:List D}(h:ownD (Z[i]?)=some (1,.lst xs)):Step (gPutL i fk (xE f)) Z ((f Z).bind λv=>(fk Z).bind λk=>zdN xs k v) λys=>setO Z i (.lst ys):=λd z=>by
 obtain⟨v,e0,z1⟩:=zaa z;obtain⟨kk,e1,z2⟩:=zaa z1;obtain⟨key,e2,z3⟩:=zaa z2;obtain⟨j,e3,z4⟩:=zaa z3;cases z4;unfold gPutL xE;rw[e0,zOB,zOB];show(fk Z).bind _=_
 rw[e1,zOB,e2,zOB];show(match ownD (Z[i]?) with|some (1,.lst ds)=>_|_=>_)=_
 rw[h];show(ixN xs.length key).bind _=_
 rw[e3];rfl
def zjv {i n:Nat}{Z:En}{f:FR}{x:D}(hf:f Z=some (.new n x,Z))(h:okS i Z=true):Step (gOwnR i f) Z (some ()) λ_=>Z.set i (.own n x):=λd z=>by
 unfold gOwnR;rw[hf,zOB];exact if_pos (zdJ h)
def kF:Out->Option D
|.ret (.told d) _=>some d
|.ret (.new _ d) _=>some d
|.nx _=>some .non
|_=>none
section
variable {P:Program}{w:World}{K:W.Frag}{mg:Str->Option Value}{base:Heap}
def zbz {x qual:Str}{st:Stmt}{f:Addr}{fd:FuncData}{N ps:List Str}{k:Nat}{c:List D->Option D}(F:Fun K x qual st f fd)(S:FnScope N ps (zab st))(hlen:∀ds d,c ds=some d->ds.length=ps.length)
 (hbody:∀(cdv:Value) (A:Around) (outer:List Env) (s:Shared) (H:Hp) (E:XK),Room k (A.deeper (envOfC qual (zab st) s.heap.objs.size f cdv))->∃g,VSs (cxOf CX0 P w K mg base N qual (zab st) f cdv A outer s H E).nox (zaX st) g/\∀ds,ds.length=ps.length->EvS kF some g (ds.map SV.val++List.replicate (N.length - ps.length) .un) (c ds)):FnOk P w K mg base CX0 (k+1) f fd ps (spF K c):=by
 refine F.ok S (λvs H Q E h=>?_) (λcdv A outer s H vs Q E hr h=>?_)
 .obtain⟨J,ds,d,ja,r,e,w⟩:=h;rw[r.length];exact hlen ds d e
 .obtain⟨J,ds,d,ja,r,e,w⟩:=h;have hl:=hlen ds d e
  obtain⟨g,⟨t,p,q⟩,ev⟩:=hbody cdv A outer s H E hr;refine⟨t,p,?_⟩;have e:=ev ds hl d (by rw[e];rfl)
  rw[<-hl] at e;have s0:=zhj (N:=N) ja r
  cases z:g (ds.map SV.val++List.replicate (N.length - ds.length) .un) with
 |none=>rw[z] at e;cases e
 |some o=>
    rw[z] at e;refine q H J Pr.no _ _ H J o _ s0 z ?_;cases o with
   |nx Z'=>cases e;exact λY' H' J' s' k'=>w .non H' J' s'.out .non
   |ret r Z'=>
      cases r with
     |told d'=>cases e;exact λv Y' H' J' s' r'=>w v H' J' s'.out r'
     |new n d'=>
        cases e;rintro v Y' H' J' s' ⟨B,fp,_,ru,_,hb,_⟩;have u:=s'.out
        refine w v H' (λb=>J' b\/b∈B) ⟨u.same,λa h=>.inl (u.jj a h),λa h=>?_,λa h=>?_⟩ (ru.rp (λ_ h=>.inl h) (λb hb=>.inr hb))
        .rcases h with h|h
         .exact u.jn a h
         .exact .inr (hb a h).2
        .rcases h with h|h
         .exact u.ja a h
         .obtain⟨o,e,_⟩:=ru.some a h;rw[e];simp
   |bk _=>cases e
   |ct _=>cases e
end
def c0 (b:Option D):List D->Option D|[]=>b|_=>none
def c1 (b:D->Option D):List D->Option D|[x]=>b x|_=>none
def c2 (b:D->D->Option D):List D->Option D|[x,y]=>b x y|_=>none
def c3 (b:D->D->D->Option D):List D->Option D|[x,y,z]=>b x y z|_=>none
def c4 (b:D->D->D->D->Option D):List D->Option D|[x,y,z,u]=>b x y z u|_=>none
def c5 (b:D->D->D->D->D->Option D):List D->Option D|[x,y,z,u,v]=>b x y z u v|_=>none
def c6 (b:D->D->D->D->D->D->Option D):List D->Option D|[x,y,z,u,v,t]=>b x y z u v t|_=>none
def zbA {b:D->Option D}:∀ds d,c1 b ds=some d->ds.length=1:=λds d h=>by unfold c1 at h;split at h;rfl;cases h
def zcy {b:D->D->Option D}:∀ds d,c2 b ds=some d->ds.length=2:=λds d h=>by unfold c2 at h;split at h;rfl;cases h
def zmr {b:D->D->D->D->Option D}:∀ds d,c4 b ds=some d->ds.length=4:=λds d h=>by unfold c4 at h;split at h;rfl;cases h
section
variable {R:Type}{k:Out->Option R}{φ:D->Option R}{g:FS}{n:List SV}
def zcX {b:D->Option D}(h:∀x,EvS k φ g (.val x::n) (b x)):∀ds:List D,ds.length=1->EvS k φ g (ds.map SV.val++n) (c1 b ds)
|[x],_=>h x
def zeJ {b:D->D->Option D}(h:∀x y,EvS k φ g (.val x::.val y::n) (b x y)):∀ds:List D,ds.length=2->EvS k φ g (ds.map SV.val++n) (c2 b ds)
|[x,y],_=>h x y
def zqW {b:D->D->D->D->Option D}(h:∀x y z u,EvS k φ g (.val x::.val y::.val z::.val u::n) (b x y z u)):∀ds:List D,ds.length=4->EvS k φ g (ds.map SV.val++n) (c4 b ds)
|[x,y,z,u],_=>h x y z u
end
mutual
inductive Rh (h:Heap):Value->D->Prop
|non:Rh h .none .non
|bl (b:Bool):Rh h (.bool b) (.bl b)
|int (i:Int) (t:Tok):Rh h (.int i t) (.int i)
|str (x:Str) (t:Tok):Rh h (.str x t) (.str x)
|tup {l:Addr}{us:List Value}{ds:List D}(p:h.IsTuple l us.toArray) (r:RhL h us ds):Rh h (.ref l) (.tup ds)
|lst {l:Addr}{us:List Value}{ds:List D}(p:h.IsList l us.toArray) (r:RhL h us ds):Rh h (.ref l) (.lst ds)
inductive RhL (h:Heap):List Value->List D->Prop
|nil:RhL h [] []
|cons {u:Value}{d:D}{us:List Value}{ds:List D}(a:Rh h u d) (t:RhL h us ds):RhL h (u::us) (d::ds)
end
mutual
def ndD:D->Bool
|.dct _ _=>false
|.scr _=>false
|.exc _ _ _=>false
|.dcu _ _=>false
|.tup ds=>ndL ds
|.lst ds=>ndL ds
|_=>true
def ndL:List D->Bool
|[]=>true
|d::ds=>ndD d&&ndL ds
end
mutual
def depD:D->Nat
|.tup ds=>depL ds+1
|.lst ds=>depL ds+1
|_=>0
def depL:List D->Nat
|[]=>0
|d::ds=>max (depD d) (depL ds)
end
mutual
def eqOk:D->D->Bool
|.non,.non=>true
|.non,.int _=>true
|.non,.str _=>true
|.int _,.non=>true
|.str _,.non=>true
|.int _,.int _=>true
|.str _,.str _=>true
|.int _,.str _=>true
|.str _,.int _=>true
|.bl _,.bl _=>true
|.tup xs,.tup ys=>zdO xs ys
|.lst xs,.lst ys=>zdO xs ys
|.non,.tup _=>true
|.tup _,.non=>true
|.non,.lst _=>true
|.lst _,.non=>true
|_,_=>false
def zdO:List D->List D->Bool
|x::xs,y::ys=>eqOk x y&&zdO xs ys
|_,_=>true
end
section
variable {X:Cx}{pins:List (Addr×Obj)}{Y:L2.St}{H:Hp}{J:Addr->Prop}{s:Shared}
mutual
theorem Rp.rh (I:Inv X pins Y H s){v:V}{d:D}:Rp X.K H J v d->ndD d=true->∀{u:Value},RelV v u->Rh s.heap u d
|.non,_,_,q=>by cases q;exact .non
|.bl b,_,_,q=>by cases q;exact .bl b
|.int i,_,_,q=>by obtain⟨t,rfl⟩:=q;exact .int i t
|.str x,_,_,q=>by obtain⟨t,rfl⟩:=q;exact .str x t
|.tup h r,n,_,q=>by
   cases q;obtain⟨its,rv,pt,_⟩:=I.tuple h;exact .tup pt (RpL.rh I r n rv)
|.lst h j r,n,_,q=>by
   cases q;obtain⟨its,rv,pt,_⟩:=I.list (SqL.of h);exact .lst pt.isList (RpL.rh I r n rv)
|.dct h j ek ev r,n,_,q=>by cases n
|.scr p,n,_,q=>by cases n
|.exc _ _,n,_,q=>by cases n
|.dcu h j ek ev r,n,_,q=>by cases n
theorem RpL.rh (I:Inv X pins Y H s){vs:List V}{ds:List D}:RpL X.K H J vs ds->ndL ds=true->∀{us:List Value},Vals vs us->RhL s.heap us ds
|.nil,_,us,q=>by cases q;exact .nil
|.cons h t,n,us,q=>by
   have n:(ndD _&&ndL _)=true:=n
   rw[waD] at n;cases q with
  |cons q1 q2=>exact .cons (Rp.rh I h n.1 q1) (RpL.rh I t n.2 q2)
end
theorem RpW.rh (I:Inv X pins Y H s){v:V}{d:D}(r:RpW X.K H J v d)(n:ndD d=true){u:Value}(q:RelV v u):Rh s.heap u d:=by
 rcases r with r|⟨A,r⟩
 .exact r.rh I n q
 .have w:RpW X.K H J v d:=.inr ⟨A,r⟩
  cases r with
 |lst h r=>
    obtain⟨p,vs,e,hp,rl⟩:=w.lst;cases e;cases q;obtain⟨its,rv,pt,_⟩:=I.list (SqL.of hp);exact .lst pt.isList (RpL.rh I rl n rv)
 |dct h ek ev r=>cases n
 |dcu h ek ev r=>cases n
end
section
variable {h:Heap}
theorem RhL.length:∀{us:List Value}{ds:List D},RhL h us ds->us.length=ds.length
|_,_,.nil=>rfl
|_,_,.cons _ t=>by simp[RhL.length t]
theorem RhL.get:∀{us:List Value}{ds:List D},RhL h us ds->∀(i:Nat) (hi:i<us.length) (hj:i<ds.length),Rh h us[i] ds[i]
|_,_,.cons a _,0,_,_=>a
|_,_,.cons _ t,i+1,hi,hj=>RhL.get t i (by simpa using hi) (by simpa using hj)
def zeg {l:Addr}{us ws:List Value}(p:h.IsTuple l us.toArray)(q:h.IsTuple l ws.toArray):us=ws:=by
 obtain⟨o,e,_,_,d⟩:=p;obtain⟨o',e',_,_,d'⟩:=q;rw[e] at e';cases e';rw[d] at d';injection d' with d1 _
 simpa using wba Array.toList d1
def zeR {l:Addr}{us ws:List Value}(p:h.IsList l us.toArray)(q:h.IsList l ws.toArray):us=ws:=by
 obtain⟨o,e,_,_,d⟩:=p;obtain⟨o',e',_,_,d'⟩:=q;rw[e] at e';cases e';rw[d] at d';injection d' with d1 _
 simpa using wba Array.toList d1
def zc2 {l:Addr}{us ws:Array Value}(p:h.IsTuple l us)(q:h.IsList l ws):False:=by
 obtain⟨o,e,c,_⟩:=p;obtain⟨o',e',c',_⟩:=q;rw[e] at e';cases e';rw[c] at c';simp at c'
mutual
theorem Rh.inj:∀{d e:D}{u:Value},Rh h u d->Rh h u e->d=e
|_,_,_,.non,q=>by cases q;rfl
|_,_,_,.bl b,q=>by cases q;rfl
|_,_,_,.int i t,q=>by cases q;rfl
|_,_,_,.str x t,q=>by cases q;rfl
|_,_,_,.tup p r,q=>by
   cases q with
  |tup p' r'=>cases zeg p p';rw[RhL.inj r r']
  |lst p' r'=>exact(zc2 p p').elim
|_,_,_,.lst p r,q=>by
   cases q with
  |lst p' r'=>cases zeR p p';rw[RhL.inj r r']
  |tup p' r'=>exact(zc2 p' p).elim
theorem RhL.inj:∀{ds es:List D}{us:List Value},RhL h us ds->RhL h us es->ds=es
|_,_,_,.nil,q=>by cases q;rfl
|_,_,_,.cons a t,q=>by
   cases q with
  |cons a' t'=>rw[Rh.inj a a',RhL.inj t t']
end
end
theorem zeh:∀{xs ys:List D},zdO xs ys=true->∀(i:Nat) (hi:i<xs.length) (hj:i<ys.length),eqOk xs[i] ys[i]=true
|x::xs,y::ys,h,i,hi,hj=>by
   have h:(eqOk x y&&zdO xs ys)=true:=h
   rw[waD] at h;cases i with
  |zero=>exact h.1
  |succ i=>exact zeh h.2 i (by simpa using hi) (by simpa using hj)
theorem zfe:∀{xs:List D}(i:Nat) (hi:i<xs.length),depD xs[i]<=depL xs
|x::xs,i,hi=>by
   cases i with
  |zero=>exact Nat.le_max_left _ _
  |succ i=>exact waq (zfe i (by simpa using hi)) (Nat.le_max_right _ _)
def zbZ (xs ys:List D):((List.range (min xs.length ys.length)).all (λj=>decide (xs[j]?=ys[j]?))&&xs.length == ys.length)=decide (xs=ys):=by
 rw[wbu];simp only[waD,waN,wbr,decide_eq_true_eq,beq_iff_eq];constructor
 .rintro⟨a,b⟩;refine wbT λj=>?_
  by_cases hj:j<min xs.length ys.length
  .exact a j hj
  .rw[waG (by omega),waG (by omega)]
 .rintro rfl;exact⟨λ_ _=>rfl,rfl⟩
def zcb {p:Prop}[Decidable p](h:¬p):false=decide p:=(wav h).symm
def zjw {xs ys:List D}(j:Nat)(h1:j<xs.length)(h2:j<ys.length):decide (xs[j]=ys[j])=decide (xs[j]?=ys[j]?):=by
 rw[wap h1,wap h2];exact zav ⟨λz=>by rw[z],λz=>waw z⟩
def ze0 (i j:Int):decide (D.int i=D.int j)=(i == j):=by rw[wbW];exact zav ⟨λz=>by cases z;rfl,λz=>by rw[z]⟩
def ze1 (i j:Str):decide (D.str i=D.str j)=(i == j):=by rw[wbW];exact zav ⟨λz=>by cases z;rfl,λz=>by rw[z]⟩
def zg8 (i j:Bool):decide (D.bl i=D.bl j)=(i == j):=by rw[wbW];exact zav ⟨λz=>by cases z;rfl,λz=>by rw[z]⟩
section
variable {A:Around}{s:Shared}
def zhn {v:Value}{e:D}(hu:A.units<cLine)(rv:Rh s.heap v e)(ho:eqOk .non e=true):SeqAt.EqAt A s .none v (decide (D.non=e)):=by
 cases rv with
|non=>exact SeqAt.EqAt.same _
|bl b=>cases ho
|int i t=>rw[<-zcb (λz=>by cases z)];exact SeqAt.EqAt.none_int _ _
|str x t=>rw[<-zcb (λz=>by cases z)];exact SeqAt.EqAt.none_str _ _
|tup p r=>rw[<-zcb (λz=>by cases z)];exact SeqAt.EqAt.none_tuple p hu
|lst p r=>rw[<-zcb (λz=>by cases z)];exact SeqAt.EqAt.none_list p hu
def zjx {v:Value}{e:D}{b:Bool}(rv:Rh s.heap v e)(ho:eqOk (.bl b) e=true):SeqAt.EqAt A s (.bool b) v (decide (D.bl b=e)):=by
 cases rv with
|bl c=>rw[zg8];exact SeqAt.EqAt.bool_bool _ _
|non=>cases ho
|int i t=>cases ho
|str x t=>cases ho
|tup p r=>cases ho
|lst p r=>cases ho
def ze2 {v:Value}{e:D}{b:Int}{u:Tok}(rv:Rh s.heap v e)(ho:eqOk (.int b) e=true):SeqAt.EqAt A s (.int b u) v (decide (D.int b=e)):=by
 cases rv with
|int i t=>rw[ze0];exact SeqAt.EqAt.int_int _ _ _ _
|non=>rw[<-zcb (λz=>by cases z)];exact SeqAt.EqAt.int_none _ _
|bl c=>cases ho
|str x t=>rw[<-zcb (λz=>by cases z)];exact SeqAt.EqAt.int_str _ _ _ _
|tup p r=>cases ho
|lst p r=>cases ho
def zho {v:Value}{e:D}{b:Str}{u:Tok}(rv:Rh s.heap v e)(ho:eqOk (.str b) e=true):SeqAt.EqAt A s (.str b u) v (decide (D.str b=e)):=by
 cases rv with
|str i t=>rw[ze1];exact SeqAt.EqAt.str_str _ _ _ _
|non=>rw[<-zcb (λz=>by cases z)];exact SeqAt.EqAt.str_none _ _
|bl c=>cases ho
|int x t=>rw[<-zcb (λz=>by cases z)];exact SeqAt.EqAt.str_int _ _ _ _
|tup p r=>cases ho
|lst p r=>cases ho
def zpw {l l':Addr}{us us':List Value}{ds ds':List D}(hu:A.units<cLine)(p:s.heap.IsTuple l us.toArray)(p':s.heap.IsTuple l' us'.toArray)(r:RhL s.heap us ds)(r':RhL s.heap us' ds')
 (he:∀j (h1:j<us.toArray.size) (h2:j<us'.toArray.size),SeqAt.EqAt A.in1 s us.toArray[j] us'.toArray[j] (decide (ds[j]?=ds'[j]?))):SeqAt.RcAt A s (.ref l) (.ref l') (decide (D.tup ds=D.tup ds')):=by
 have q:=SeqAt.RcAt.tuples p p' hu he
 rw[wac,wac,r.length,r'.length,zbZ] at q;rw[zav (show D.tup ds=D.tup ds'↔ds=ds' from⟨λz=>by cases z;rfl,λz=>by rw[z]⟩)];exact q
def zpx {l l':Addr}{us us':List Value}{ds ds':List D}(hu:A.units<cLine)(p:s.heap.IsList l us.toArray)(p':s.heap.IsList l' us'.toArray)(r:RhL s.heap us ds)(r':RhL s.heap us' ds')
 (he:∀j (h1:j<us.toArray.size) (h2:j<us'.toArray.size),SeqAt.EqAt A.in1 s us.toArray[j] us'.toArray[j] (decide (ds[j]?=ds'[j]?))):SeqAt.RcAt A s (.ref l) (.ref l') (decide (D.lst ds=D.lst ds')):=by
 rw[zav (show D.lst ds=D.lst ds'↔ds=ds' from⟨λz=>by cases z;rfl,λz=>by rw[z]⟩)];by_cases hz:ds.length=ds'.length
 .have hsz:us.toArray.size=us'.toArray.size:=by simp only[wac];rw[r.length,r'.length,hz]
  have q:=SeqAt.RcAt.lists p p' hsz hu he
  have e1:=zbZ ds ds'
  rw[hz,Nat.min_self,beq_self_eq_true,Bool.and_true,<-hz] at e1;rw[wac,r.length,e1] at q;exact q
 .have q:=SeqAt.RcAt.lists_lengths p p' (by simp only[wac,r.length,r'.length];simpa using hz) hu
  rw[wav (λz=>hz (by rw[z]))];exact q
end
def zms:∀(n:Nat) {A:Around}{s:Shared}{u v:Value}{d e:D},depD d<=n->A.units+n<cLine->Rh s.heap u d->Rh s.heap v e->eqOk d e=true->SeqAt.EqAt A s u v (decide (d=e)):=by
 intro n;induction n with
|zero=>
   intro A s u v d e hn hu ru rv ho;cases ru with
  |non=>exact zhn (by omega) rv ho
  |bl b=>exact zjx rv ho
  |int i t=>exact ze2 rv ho
  |str x t=>exact zho rv ho
  |tup p r=>exact absurd hn (Nat.not_succ_le_zero _)
  |lst p r=>exact absurd hn (Nat.not_succ_le_zero _)
|succ n ih=>
   intro A s u v d e hn hu ru rv ho;have hu0:A.units<cLine:=by omega
   have he:∀{us us':List Value}{ds ds':List D}(r:RhL s.heap us ds) (r':RhL s.heap us' ds') (hd:depL ds<=n) (ho:zdO ds ds'=true),∀j (h1:j<us.toArray.size) (h2:j<us'.toArray.size),SeqAt.EqAt A.in1 s us.toArray[j] us'.toArray[j] (decide (ds[j]?=ds'[j]?)):=λ{us us' ds ds'} r r' hd ho j h1 h2=>by
    simp only[wac] at h1 h2;have g1:j<ds.length:=by rw[<-r.length];exact h1
    have g2:j<ds'.length:=by rw[<-r'.length];exact h2
    have q:=ih (A:=A.in1) (waq (zfe j g1) hd) (show A.units+1+n<cLine by omega) (r.get j h1 g1) (r'.get j h2 g2) (zeh ho j g1 g2)
    rw[zjw j g1 g2] at q;exact q
   cases ru with
  |non=>exact zhn hu0 rv ho
  |bl b=>exact zjx rv ho
  |int i t=>exact ze2 rv ho
  |str x t=>exact zho rv ho
  |tup p r=>
     rename_i l us ds
     have hd:depL ds<=n:=wbf hn
     cases rv with
    |tup p' r'=>
       rename_i l' us' ds'
       by_cases hl:l=l'
       .subst hl;cases zeg p p';rw[r.inj r',waE rfl];exact SeqAt.EqAt.same _
       .exact SeqAt.EqAt.of_refs hl (zpw hu0 p p' r r' (he r r' hd ho))
    |non=>rw[<-zcb (λz=>by cases z)];exact SeqAt.EqAt.tuple_none p hu0
    |bl c=>cases ho
    |int i t=>cases ho
    |str x t=>cases ho
    |lst p' r'=>cases ho
  |lst p r=>
     rename_i l us ds
     have hd:depL ds<=n:=wbf hn
     cases rv with
    |lst p' r'=>
       rename_i l' us' ds'
       by_cases hl:l=l'
       .subst hl;cases zeR p p';rw[r.inj r',waE rfl];exact SeqAt.EqAt.same _
       .exact SeqAt.EqAt.of_refs hl (zpx hu0 p p' r r' (he r r' hd ho))
    |non=>rw[<-zcb (λz=>by cases z)];exact SeqAt.EqAt.list_none p hu0
    |bl c=>cases ho
    |int i t=>cases ho
    |str x t=>cases ho
    |tup p' r'=>cases ho
end VD
namespace VD
open PySem PySem.Spec PyProof PyProof.Rows L2
section
variable {A:Around}{s:Shared}{u v:Value}{d e:D}
def zlu {n:Nat}(hu:A.units+1+n<cLine){us us':List Value}{ds ds':List D}(r:RhL s.heap us ds)(r':RhL s.heap us' ds')(hd:depL ds<=n)(ho:zdO ds ds'=true):∀j (h1:j<us.toArray.size) (h2:j<us'.toArray.size),SeqAt.EqAt A.in1 s us.toArray[j] us'.toArray[j] (decide (ds[j]?=ds'[j]?)):=λj h1 h2=>by
 simp only[wac] at h1 h2;have g1:j<ds.length:=by rw[<-r.length];exact h1
 have g2:j<ds'.length:=by rw[<-r'.length];exact h2
 have q:=zms n (A:=A.in1) (waq (zfe j g1) hd) hu (r.get j h1 g1) (r'.get j h2 g2) (zeh ho j g1 g2)
 rw[zjw j g1 g2] at q;exact q
def zpy {n:Nat}(hu:A.units+1+n<cLine)(hn:depD d<=n+1)(ru:Rh s.heap u d)(rv:Rh s.heap v e)(ho:eqOk d e=true):SeqAt.RcAt A s u v (decide (d=e)):=by
 have hu0:A.units<cLine:=by omega
 cases ru with
|non=>
   cases rv with
  |non=>exact SeqAt.RcAt.none_none
  |bl b=>cases ho
  |int i t=>rw[<-zcb (λz=>by cases z)];exact SeqAt.RcAt.none_int _ _
  |str x t=>rw[<-zcb (λz=>by cases z)];exact SeqAt.RcAt.none_str _ _
  |tup p r=>rw[<-zcb (λz=>by cases z)];exact SeqAt.RcAt.none_tuple p hu0
  |lst p r=>rw[<-zcb (λz=>by cases z)];exact SeqAt.RcAt.none_list p hu0
|bl b=>
   cases rv with
  |bl c=>rw[zg8];exact SeqAt.RcAt.bool_bool _ _
  |non=>cases ho
  |int i t=>cases ho
  |str x t=>cases ho
  |tup p r=>cases ho
  |lst p r=>cases ho
|int i t=>
   cases rv with
  |int i t=>rw[ze0];exact SeqAt.RcAt.int_int _ _ _ _
  |non=>rw[<-zcb (λz=>by cases z)];exact SeqAt.RcAt.int_none _ _
  |str x t=>rw[<-zcb (λz=>by cases z)];exact SeqAt.RcAt.int_str _ _ _ _
  |bl b=>cases ho
  |tup p r=>cases ho
  |lst p r=>cases ho
|str x t=>
   cases rv with
  |str i t=>rw[ze1];exact SeqAt.RcAt.str_str _ _ _ _
  |non=>rw[<-zcb (λz=>by cases z)];exact SeqAt.RcAt.str_none _ _
  |int x t=>rw[<-zcb (λz=>by cases z)];exact SeqAt.RcAt.str_int _ _ _ _
  |bl b=>cases ho
  |tup p r=>cases ho
  |lst p r=>cases ho
|tup p r=>
   cases rv with
  |tup p' r'=>exact zpw hu0 p p' r r' (zlu hu r r' (wbf hn) ho)
  |non=>rw[<-zcb (λz=>by cases z)];exact SeqAt.RcAt.tuple_none p hu0
  |int i t=>cases ho
  |bl b=>cases ho
  |str x t=>cases ho
  |lst p r=>cases ho
|lst p r=>
   cases rv with
  |lst p' r'=>exact zpx hu0 p p' r r' (zlu hu r r' (wbf hn) ho)
  |non=>rw[<-zcb (λz=>by cases z)];exact SeqAt.RcAt.list_none p hu0
  |int i t=>cases ho
  |bl b=>cases ho
  |str x t=>cases ho
  |tup p r=>cases ho
def zeK {p:Prop}[Decidable p](h:¬p):true = !decide p:=by rw[wav h];rfl
def zlv {n:Nat}(hu:A.units+1+n<cLine)(hn:depD d<=n+1)(ru:Rh s.heap u d)(rv:Rh s.heap v e)(ho:eqOk d e=true):SeqAt.RcNeAt A s u v (!decide (d=e)):=by
 have hu0:A.units<cLine:=by omega
 cases ru with
|non=>
   cases rv with
  |non=>rw[waE rfl];exact SeqAt.RcNeAt.none_none
  |bl b=>cases ho
  |int i t=>rw[<-zeK (λz=>by cases z)];exact SeqAt.RcNeAt.none_int _ _
  |str x t=>rw[<-zeK (λz=>by cases z)];exact SeqAt.RcNeAt.none_str _ _
  |tup p r=>rw[<-zeK (λz=>by cases z)];exact SeqAt.RcNeAt.none_tuple p hu0
  |lst p r=>rw[<-zeK (λz=>by cases z)];exact SeqAt.RcNeAt.none_list p hu0
|bl b=>
   cases rv with
  |bl c=>rw[zg8];exact SeqAt.RcNeAt.bool_bool _ _
  |non=>cases ho
  |int i t=>cases ho
  |str x t=>cases ho
  |tup p r=>cases ho
  |lst p r=>cases ho
|int i t=>
   cases rv with
  |int i t=>rw[ze0];exact SeqAt.RcNeAt.int_int _ _ _ _
  |non=>rw[<-zeK (λz=>by cases z)];exact SeqAt.RcNeAt.int_none _ _
  |str x t=>rw[<-zeK (λz=>by cases z)];exact SeqAt.RcNeAt.int_str _ _ _ _
  |bl b=>cases ho
  |tup p r=>cases ho
  |lst p r=>cases ho
|str x t=>
   cases rv with
  |str i t=>rw[ze1];exact SeqAt.RcNeAt.str_str _ _ _ _
  |non=>rw[<-zeK (λz=>by cases z)];exact SeqAt.RcNeAt.str_none _ _
  |int x t=>rw[<-zeK (λz=>by cases z)];exact SeqAt.RcNeAt.str_int _ _ _ _
  |bl b=>cases ho
  |tup p r=>cases ho
  |lst p r=>cases ho
|tup p r=>
   cases rv with
  |tup p' r'=>
     rename_i us ds l' us' ds'
     have q:=SeqAt.RcNeAt.tuples p p' hu0 (zlu hu r r' (wbf hn) ho)
     rw[wac,wac,r.length,r'.length,zbZ] at q;rw[zav (show D.tup ds=D.tup ds'↔ds=ds' from⟨λz=>by cases z;rfl,λz=>by rw[z]⟩)];exact q
  |non=>rw[<-zeK (λz=>by cases z)];exact SeqAt.RcNeAt.tuple_none p hu0
  |int i t=>cases ho
  |bl b=>cases ho
  |str x t=>cases ho
  |lst p r=>cases ho
|lst p r=>
   cases rv with
  |lst p' r'=>
     rename_i us ds l' us' ds'
     rw[zav (show D.lst ds=D.lst ds'↔ds=ds' from⟨λz=>by cases z;rfl,λz=>by rw[z]⟩)];by_cases hz:ds.length=ds'.length
     .have hsz:us.toArray.size=us'.toArray.size:=by simp only[wac];rw[r.length,r'.length,hz]
      have q:=SeqAt.RcNeAt.lists p p' hsz hu0 (zlu hu r r' (wbf hn) ho)
      have e1:=zbZ ds ds'
      rw[hz,Nat.min_self,beq_self_eq_true,Bool.and_true,<-hz] at e1;rw[wac,r.length,e1] at q;exact q
     .have q:=SeqAt.RcNeAt.lists_lengths p p' (by simp only[wac,r.length,r'.length];simpa using hz) hu0
      rw[wav (λz=>hz (by rw[z]))];exact q
  |non=>rw[<-zeK (λz=>by cases z)];exact SeqAt.RcNeAt.list_none p hu0
  |int i t=>cases ho
  |bl b=>cases ho
  |str x t=>cases ho
  |tup p r=>cases ho
end
def eqC (d e:D):Bool:=eqOk d e&&ndD d&&ndD e&&decide (depD d<=40)
def dEqG (neg:Bool)(d e:D):Option D:=if eqC d e=true then some (.bl (if neg then !decide (d=e) else decide (d=e))) else none
def rEqG (K:W.Frag)(neg:Bool):R2:=λx y H Q=>∃J d e,RpW K H J x d/\RpW K H J y e/\eqC d e=true/\Q (.bl (if neg then !decide (d=e) else decide (d=e))) H
def zhp {d e:D}(h:eqC d e=true):eqOk d e=true/\ndD d=true/\ndD e=true/\depD d<=40:=by
 unfold eqC at h;simp only[waD,decide_eq_true_eq] at h;exact⟨h.1.1.1,h.1.1.2,h.1.2,h.2⟩
section
variable {X:Cx}{K:W.Frag}{k:Nat}
def zbS (hr:Room k X.A):OpR X (compareOp .Eq) (rEqG X.K false):=by
 intro pins s Y H x y v u Q I rx ry ⟨J,d,e,r1,r2,hc,q⟩;obtain⟨ho,n1,n2,hd⟩:=zhp hc;have:=hr.units
 exact zpy (n:=40) (by omega) (by omega) (r1.rh I n1 rx) (r2.rh I n2 ry) ho _ _ _ _ ⟨.bl _,H,I,rfl,q⟩
def zjy (hr:Room k X.A):OpR X (compareOp .NotEq) (rEqG X.K true):=by
 intro pins s Y H x y v u Q I rx ry ⟨J,d,e,r1,r2,hc,q⟩;obtain⟨ho,n1,n2,hd⟩:=zhp hc;have:=hr.units
 exact zlv (n:=40) (by omega) (by omega) (r1.rh I n1 rx) (r2.rh I n2 ry) ho _ _ _ _ ⟨.bl _,H,I,rfl,q⟩
def zaR (neg:Bool):Im2 K (rEqG K neg) (dEqG neg):=by
 intro H J x y d e d' Q ja hx hy hF w;unfold dEqG at hF;by_cases hc:eqC d e=true
 .rw[if_pos hc] at hF;cases hF;exact⟨J,d,e,hx,hy,hc,w _ H J (Up.refl ja) (.bl _)⟩
 .rw[if_neg hc] at hF;cases hF
end
def inC (x:D)(ds:List D):Bool:=ndD x&&ds.all λy=>eqC y x
def hasK (ks:List Key)(j:Key):Bool:=ks.any λk=>decide (k=j)
def dInG (neg:Bool):D->D->Option D
|x,.lst ds=>if inC x ds=true then some (.bl (if neg then !decide (x∈ds) else decide (x∈ds))) else none
|x,.tup ds=>if inC x ds=true then some (.bl (if neg then !decide (x∈ds) else decide (x∈ds))) else none
|x,.dct ks _=>(keyD x).bind λj=>some (.bl (if neg then !hasK ks j else hasK ks j))
|_,_=>none
def znB (K:W.Frag)(neg:Bool):R2:=λx y H Q=>∃J d ds p vs,RpW K H J x d/\y=.ref p/\(SqL K H p vs\/SqT K H p vs)/\RpL K H J vs ds/\inC d ds=true/\Q (.bl (if neg then !decide (d∈ds) else decide (d∈ds))) H
open Classical in
noncomputable def zfY (h:Heap)(u:Value):D:=if q:∃d,Rh h u d then q.choose else .non
def zfZ {h:Heap}{u:Value}{d:D}(r:Rh h u d):zfY h u=d:=by
 unfold zfY;have q:∃d,Rh h u d:=⟨d,r⟩
 rw[dif_pos q];exact q.choose_spec.inj r
theorem RhL.mem {h:Heap}:∀{us:List Value}{ds:List D},RhL h us ds->∀u∈us,∃d∈ds,Rh h u d
|_,_,.cons a t,u,hu=>by
   rcases wak.mp hu with rfl|hu
   .exact⟨_,wai,a⟩
   .obtain⟨d,hd,r⟩:=RhL.mem t u hu;exact⟨d,wae _ hd,r⟩
theorem RhL.map {h:Heap}:∀{us:List Value}{ds:List D},RhL h us ds->us.map (zfY h)=ds
|_,_,.nil=>rfl
|_,_,.cons a t=>by rw[waL,zfZ a,RhL.map t]
theorem zjz:∀{ds:List D},(∀d∈ds,ndD d=true)->ndL ds=true
|[],_=>rfl
|d::ds,h=>by
   show(ndD d&&ndL ds)=true
   rw[h d wai,zjz λe he=>h e (wae _ he)];rfl
def zdU {h:Heap}{us:List Value}{ds:List D}(r:RhL h us ds)(x:D):us.toArray.any (λy=>decide (zfY h y=x))=decide (x∈ds):=by
 rw[List.any_toArray,<-r.map,wbu];simp only[List.any_eq_true,decide_eq_true_eq,way]
section
variable {X:Cx}{K:W.Frag}{k:Nat}
def zdV {A:Around}{s:Shared}{us:List Value}{ds:List D}{x:Value}{d:D}(hu:A.units+1+40<cLine)(r:RhL s.heap us ds)(rx:Rh s.heap x d)(hc:∀y∈ds,eqC y d=true):∀y,y∈us.toArray->SeqAt.EqAt A.in1 s y x (decide (zfY s.heap y=d)):=λy hy=>by
 obtain⟨e,he,re⟩:=r.mem y (by simpa using hy);obtain⟨ho,_,_,hd⟩:=zhp (hc e he);rw[zfZ re];exact zms 40 (A:=A.in1) hd hu re rx ho
def zmt {x:D}{ds:List D}(h:inC x ds=true):ndD x=true/\(∀y∈ds,eqC y x=true)/\ndL ds=true:=by
 unfold inC at h;rw[waD,waN] at h;exact⟨h.1,h.2,zjz λy hy=>(zhp (h.2 y hy)).2.1⟩
def zpz (hr:Room k X.A):OpR X (compareOp .In) (znB X.K false):=by
 intro pins s Y H x y v u Q I rx ry ⟨J,d,ds,p,vs,r1,e,hq,rl,hc,q⟩;subst e;cases ry;have hu:=hr.units
 obtain⟨n1,hc,n2⟩:=zmt hc;rcases hq with hq|hq
 .obtain⟨its,rv,pl,hz⟩:=I.list hq;refine SeqAt.in_listAt _ pl.isList (zdV (by omega) (rl.rh I n2 rv) (r1.rh I n1 rx) hc) ⟨.bl _,H,I,rfl,?_⟩;rw[zdU (rl.rh I n2 rv)];exact q
 .obtain⟨its,rv,pl,hz⟩:=I.tuple hq;refine SeqAt.in_tupleAt _ pl (zdV (by omega) (rl.rh I n2 rv) (r1.rh I n1 rx) hc) ⟨.bl _,H,I,rfl,?_⟩;rw[zdU (rl.rh I n2 rv)];exact q
def zjA (hr:Room k X.A):OpR X (compareOp .NotIn) (znB X.K true):=by
 intro pins s Y H x y v u Q I rx ry ⟨J,d,ds,p,vs,r1,e,hq,rl,hc,q⟩;subst e;cases ry;have hu:=hr.units
 obtain⟨n1,hc,n2⟩:=zmt hc;rcases hq with hq|hq
 .obtain⟨its,rv,pl,hz⟩:=I.list hq;refine SeqAt.notIn_listAt _ pl.isList (zdV (by omega) (rl.rh I n2 rv) (r1.rh I n1 rx) hc) ⟨.bl _,H,I,rfl,?_⟩;rw[zdU (rl.rh I n2 rv)];exact q
 .obtain⟨its,rv,pl,hz⟩:=I.tuple hq;refine SeqAt.notIn_tupleAt _ pl (zdV (by omega) (rl.rh I n2 rv) (r1.rh I n1 rx) hc) ⟨.bl _,H,I,rfl,?_⟩;rw[zdU (rl.rh I n2 rv)];exact q
def rInD (neg:Bool):R2:=λx y H Q=>∃a ov,y=.ref a/\DGet H a x ov/\Q (.bl (if neg then !ov.isSome else ov.isSome)) H
def rInG (K:W.Frag)(neg:Bool):R2:=λx y H Q=>znB K neg x y H Q\/rInD neg x y H Q
def zqX (hr:Room k X.A):OpR X (compareOp .In) (rInD false):=by
 intro pins s Y H x y v u Q I rx ry ⟨a,ov,e,g,q⟩;subst e;obtain rfl:u=Value.ref a:=ry;exact d_in (zmZ hr) I g rx λs3 I3=>⟨.bl ov.isSome,H,I3,rfl,q⟩
def zlw (hr:Room k X.A):OpR X (compareOp .NotIn) (rInD true):=by
 intro pins s Y H x y v u Q I rx ry ⟨a,ov,e,g,q⟩;subst e;obtain rfl:u=Value.ref a:=ry;exact zm6 (zmZ hr) I g rx λs3 I3=>⟨.bl (!ov.isSome),H,I3,rfl,q⟩
def zlx (hr:Room k X.A):OpR X (compareOp .In) (rInG X.K false):=(zpz hr).or (zqX hr)
def zhq (hr:Room k X.A):OpR X (compareOp .NotIn) (rInG X.K true):=(zjA hr).or (zlw hr)
def zjB {kvs:List (Key×V)}{j:Key}:(valV kvs j).isSome=hasK (kvs.map (·.1)) j:=by
 unfold valV hasK;rw[Option.isSome_map,List.any_map,wbu,List.find?_isSome,List.any_eq_true];rfl
def zeS (neg:Bool):Im2 K (rInG K neg) (dInG neg):=by
 intro H J x y d e d' Q ja hx hy hF w;cases e with
|lst ds=>
   have hF:(if inC d ds=true then some (D.bl (if neg then !decide (d∈ds) else decide (d∈ds))) else none)=some d':=hF
   by_cases hc:inC d ds=true
   .rw[if_pos hc] at hF;cases hF;obtain⟨p,vs,rfl,h1,r1⟩:=hy.lst;exact .inl ⟨J,d,ds,p,vs,hx,rfl,.inl (SqL.of h1),r1,hc,w _ H J (Up.refl ja) (.bl _)⟩
   .rw[if_neg hc] at hF;cases hF
|tup ds=>
   have hF:(if inC d ds=true then some (D.bl (if neg then !decide (d∈ds) else decide (d∈ds))) else none)=some d':=hF
   by_cases hc:inC d ds=true
   .rw[if_pos hc] at hF;cases hF;obtain⟨p,vs,rfl,h1,r1⟩:=hy.tup;exact .inl ⟨J,d,ds,p,vs,hx,rfl,.inr h1,r1,hc,w _ H J (Up.refl ja) (.bl _)⟩
   .rw[if_neg hc] at hF;cases hF
|dct ks ds=>
   obtain⟨j,ej,hF⟩:=zaa (show((keyD d).bind λj=>some (D.bl (if neg then !hasK ks j else hasK ks j)))=some d' from hF);cases hF;obtain⟨p,kvs,vs,rfl,h1,h2,h3,rl⟩:=hy.dct;refine .inr ⟨p,valV kvs j,rfl,?_,?_⟩
   .rw[zhl hx ej];exact DGet.k h1
   .rw[zjB,h2];exact w _ H J (Up.refl ja) (.bl _)
|_=>cases hF
end
end VD
namespace Mn
open PySem PySem.Spec PyProof PyProof.Rows
open Sem (wp)
section
variable {prog:Program}{w:World}{A:Around}{R:Result->Shared->Prop}{I:Addr}{fp wr:List Addr}{n:Nat}{P:Nat->Value->Prop}{St:Nat->Heap->Prop}
end
section
variable {prog:Program}{w:World}{A:Around}{E:Value->Shared->Prop}{s:Shared}
end
end Mn
namespace VD
open PySem PySem.Spec PyProof PyProof.Rows L2
mutual
def ltD:D->D->Option Bool
|.int a,.int b=>some (decide (a<b))
|.tup xs,.tup ys=>ltL xs ys
|_,_=>none
def ltL:List D->List D->Option Bool
|[],[]=>some false
|x::xs,y::ys=>if eqOk x y=true then(if x=y then ltL xs ys else if xs.length=ys.length then ltD x y else none) else none
|_,_=>none
end
section
variable {X:Cx}{K:W.Frag}{k:Nat}
end
end VD
namespace VD
open PySem PySem.Spec PyProof PyProof.Rows L2
section
variable {X:Cx}{K:W.Frag}{k:Nat}
end
def EvX {S:Type}(f:FX)(Z:En)(x:Option (D×S))(emb:S->En):Prop:=∀q,x=some q->f Z=some (q.1,emb q.2)
def EvAX {S:Type}(f:FAX)(Z:En)(x:Option (List D×S))(emb:S->En):Prop:=∀q,x=some q->f Z=some (q.1,emb q.2)
def EvTX {S:Type}(f:FTX)(Z:En)(x:Option (Bool×S))(emb:S->En):Prop:=∀q,x=some q->f Z=some (q.1,emb q.2)
def EvR {S:Type}(f:FR)(Z:En)(x:Option (RV×S))(emb:S->En):Prop:=∀q,x=some q->f Z=some (q.1,emb q.2)
def EvAG {S:Type}(f:FAG)(Z:En)(x:Option (List (Option D)×S))(emb:S->En):Prop:=∀q,x=some q->f Z=some (q.1,emb q.2)
section
variable {S:Type}{emb:S->En}{Z:En}{s:S}{f g:FX}{x:Option (D×S)}{y:D×S->Option (D×S)}{e:FE}
def zbC (h:emb s=Z):EvX (xE e) Z ((e Z).bind λd=>some (d,s)) emb:=λq z=>by
 obtain⟨d,e0,z⟩:=zaa z;cases z;unfold xE;rw[e0,<-h];rfl
def zdP {F:D->D->Option D}(h1:EvX f Z x emb)(h2:∀q,EvX g (emb q.2) (y q) emb):EvX (x2 F f g) Z (x.bind λq=>(y q).bind λr=>(F q.1 r.1).bind λd=>some (d,r.2)) emb:=λq z=>by
 obtain⟨a,e0,z⟩:=zaa z;obtain⟨b,e1,z⟩:=zaa z;obtain⟨d,e2,z⟩:=zaa z;cases z;unfold x2;rw[h1 a e0,zOB,h2 a b e1,zOB,e2];rfl
def zhr {fa:FAX}{xa:Option (List D×S)}{F:List D->Option D}(h1:EvAX fa Z xa emb):EvX (xCall F fa) Z (xa.bind λq=>(F q.1).bind λd=>some (d,q.2)) emb:=λq z=>by
 obtain⟨a,e0,z⟩:=zaa z;obtain⟨d,e2,z⟩:=zaa z;cases z;unfold xCall;rw[h1 a e0,zOB,e2];rfl
def znC {fa:FAX}{xa:Option (List D×S)}(h1:EvAX fa Z xa emb):EvX (xTup fa) Z (xa.bind λq=>(mkT q.1).bind λd=>some (d,q.2)) emb:=λq z=>by
 obtain⟨a,e0,z⟩:=zaa z;obtain⟨d,e2,z⟩:=zaa z;cases z;unfold xTup;rw[h1 a e0,zOB,e2];rfl
def zbr {fr:FR}{xr:Option (RV×S)}(h1:EvR fr Z xr emb):EvX (xR fr) Z (xr.bind λq=>some (q.1.d,q.2)) emb:=λq z=>by
 obtain⟨a,e0,z⟩:=zaa z;cases z;unfold xR;rw[h1 a e0];rfl
def zcJ (h:emb s=Z):EvAX axNil Z (some ([],s)) emb:=λq z=>by cases z;rw[<-h];rfl
def zhs {fl:FA}(h:emb s=Z):EvAX (xA fl) Z ((fl Z).bind λd=>some (d,s)) emb:=λq z=>by
 obtain⟨d,e0,z⟩:=zaa z;cases z;unfold xA;rw[e0,<-h];rfl
def zar {ga:FAX}{ya:D×S->Option (List D×S)}(h1:EvX f Z x emb)(h2:∀q,EvAX ga (emb q.2) (ya q) emb):EvAX (axCons f ga) Z (x.bind λq=>(ya q).bind λr=>some (q.1::r.1,r.2)) emb:=λq z=>by
 obtain⟨a,e0,z⟩:=zaa z;obtain⟨b,e1,z⟩:=zaa z;cases z;unfold axCons;rw[h1 a e0,zOB,h2 a b e1];rfl
def zcK (h:emb s=Z):EvAG agNil Z (some ([],s)) emb:=λq z=>by cases z;rw[<-h];rfl
def zcL {i:Nat}{fg:FAG}{xg:Option (List (Option D)×S)}(ho:(ownD (Z[i]?)).isSome=true)(h:EvAG fg Z xg emb):EvAG (agOwn i fg) Z (xg.bind λq=>some (none::q.1,q.2)) emb:=λq z=>by
 obtain⟨a,e0,z⟩:=zaa z;cases z;unfold agOwn;rw[if_pos ho,h a e0];rfl
def zei {fg:FAG}{yg:D×S->Option (List (Option D)×S)}(h1:EvX f Z x emb)(h2:∀q,EvAG fg (emb q.2) (yg q) emb):EvAG (agX f fg) Z (x.bind λq=>(yg q).bind λr=>some (some q.1::r.1,r.2)) emb:=λq z=>by
 obtain⟨a,e0,z⟩:=zaa z;obtain⟨b,e1,z⟩:=zaa z;cases z;unfold agX;rw[h1 a e0,zOB,h2 a b e1];rfl
def zf0 {S:Type}(F:List D->Option (RV×List D))(ks:List (Option Nat))(p n:Nat)(get:S->D)(put:S->D->S)(x:Option (List (Option D)×S)):Option (RV×S):=x.bind λq=>if q.1.map (agK n)=ks then(F (q.1.map λo=>o.getD (get q.2))).bind λr=>(r.2[p]?).bind λe=>some (r.1,put q.2 e) else none
def zdf {ks:List (Option Nat)}{p i n:Nat}{F:List D->Option (RV×List D)}{fg:FAG}{xg:Option (List (Option D)×S)}{get:S->D}{put:S->D->S}(h:EvAG fg Z xg emb)(hg:∀s,ownD ((emb s)[i]?)=some (n,get s))(hp:∀s e,setO (emb s) i e=emb (put s e)):EvR (xCallG ks p i n F fg) Z (zf0 F ks p n get put xg) emb:=λq z=>by
 obtain⟨a,e0,z⟩:=zaa z;split at z
 .rename_i hk
  obtain⟨r,e1,z⟩:=zaa z;obtain⟨e,e2,z⟩:=zaa z;cases z;unfold xCallG;rw[h a e0,zOB];show(if a.1.map (agK n)=ks then match ownD ((emb a.2)[i]?) with
  |some (m,d)=>if m=n then(F (a.1.map λo=>o.getD d)).bind λr=>(r.2[p]?).bind λe=>some (r.1,setO (emb a.2) i e) else none
  |none=>none
   else none)=_
  rw[if_pos hk,hg];show(if n=n then(F (a.1.map λo=>o.getD (get a.2))).bind λr=>(r.2[p]?).bind λe=>some (r.1,setO (emb a.2) i e) else none)=_
  rw[if_pos rfl,e1,zOB,e2,zOB,hp]
 .cases z
def zbN {S:Type}(F:List D->Option (RV×List D))(put:D->S)(as:List D):Option (RV×S):=(F as).bind λr=>(r.2[0]?).bind λe=>some (r.1,put e)
def zas {ks:List (Option Nat)}{i n:Nat}{F:List D->Option (RV×List D)}{fg:FAG}{as:List (Option D)}{d:D}{put:D->S}(h:fg Z=some (as,Z))(hk:as.map (agK n)=ks)(hg:ownD (Z[i]?)=some (n,d))(hp:∀e,setO Z i e=emb (put e)):EvR (xCallG ks 0 i n F fg) Z (zbN F put (as.map λo=>o.getD d)) emb:=λq z=>by
 obtain⟨r,e1,z⟩:=zaa z;obtain⟨e,e2,z⟩:=zaa z;cases z;unfold xCallG;rw[h,zOB];show(if as.map (agK n)=ks then match ownD (Z[i]?) with
 |some (m,d)=>if m=n then(F (as.map λo=>o.getD d)).bind λr=>(r.2[0]?).bind λe=>some (r.1,setO Z i e) else none
 |none=>none
  else none)=_
 rw[if_pos hk,hg];show(if n=n then(F (as.map λo=>o.getD d)).bind λr=>(r.2[0]?).bind λe=>some (r.1,setO Z i e) else none)=_
 rw[if_pos rfl,e1,zOB,e2,zOB,hp]
def zdg {ks:List (Option Nat)}{F:List D->Option (RV×List D)}{fa:FAX}{xa:Option (List D×S)}(h:EvAX fa Z xa emb):EvR (xCallN ks F fa) Z (xa.bind λq=>(F q.1).bind λr=>if q.1.length=ks.length then some (r.1,q.2) else none) emb:=λq z=>by
 obtain⟨a,e0,z⟩:=zaa z;obtain⟨r,e1,z⟩:=zaa z;split at z
 .rename_i hl
  cases z;unfold xCallN;rw[h a e0,zOB];show((F a.1).bind λr=>if a.1.length=ks.length then some (r.1,emb a.2) else none)=_
  rw[e1,zOB,if_pos hl]
 .cases z
def zgJ {fa:FAX}{xa:Option (List D×S)}(h:EvAX fa Z xa emb):EvR (xLst fa) Z (xa.bind λq=>(mkLs q.1).bind λds=>some (.new 1 (.lst ds),q.2)) emb:=λq z=>by
 obtain⟨a,e0,z⟩:=zaa z;obtain⟨ds,e1,z⟩:=zaa z;cases z;unfold mkLs at e1;split at e1
 .rename_i hl
  cases e1;unfold xLst;rw[h a e0,zOB];exact if_pos hl
 .cases e1
def zpA (h:EvX f Z x emb):EvTX (xt1 f) Z (x.bind λq=>(dB q.1).bind λk=>some (k,q.2)) emb:=λq z=>by
 obtain⟨a,e0,z⟩:=zaa z;obtain⟨k,e1,z⟩:=zaa z;cases z;unfold xt1;rw[h a e0,zOB,e1];rfl
def zcl {i:Nat}(h:EvX f Z x emb)(hi:∀s,okS i (emb s)=true):Step (gSetX i f) Z x λq=>(emb q.2).set i (.val q.1):=λq z=>by
 unfold gSetX;rw[h q z,zOB];exact if_pos (zdJ (hi q.2))
section
variable {R A:Type}{k:Out->Option R}{φ:A->Option R}{a b g':FS}
def zej {K:D×S->Option A}(h:EvX f Z x emb)(hk:∀q r,(K q).bind φ=some r->k (.ret (.told q.1) (emb q.2))=some r):EvS k φ (gRetX f) Z (x.bind K):=λr z=>by
 obtain⟨y,z,z2⟩:=zaa z;obtain⟨q,e0,z⟩:=zaa z;unfold gRetX;rw[h q e0];exact hk q r (by rw[z];exact z2)
def znD {t:FTX}{xt:Option (Bool×S)}{a' b':Bool×S->Option A}(ht:EvTX t Z xt emb)(h1:∀q,EvS (kx k) φ a (emb q.2) (a' q))(h2:∀q,EvS k φ (gSeq b g') (emb q.2) (b' q)):EvS k φ (gSeq (gIfX t a b) g') Z (xt.bind λq=>if q.1 then a' q else b' q):=λr z=>by
 obtain⟨y,z,z2⟩:=zaa z;obtain⟨⟨kk,s1⟩,e0,z⟩:=zaa z;cases kk with
|true=>
   have:=zmo (g:=g') (h1 (true,s1) r (by rw[show a' (true,s1)=some y from z];exact z2))
   unfold gSeq gIfX at *;rw[ht _ e0];exact this
|false=>
   have:=h2 (false,s1) r (by rw[show b' (false,s1)=some y from z];exact z2)
   unfold gSeq gIfX at *;rw[ht _ e0];exact this
end
end
section
variable {S S0 α A R:Type}{emb:S->En}{emb0:S0->En}{Z:En}{fi:FAX}{b g:FS}{tg:FG}{xa:Option (List D×S0)}{ini:S0->S}
end
def kG (ks:List (Option Nat)):Out->Option (RV×List D)
|.ret r Z=>(outSl ks Z).bind λes=>some (r,es)
|.nx Z=>(outSl ks Z).bind λes=>some (.told .non,es)
|_=>none
section
variable {P:Program}{w:World}{K:W.Frag}{mg:Str->Option Value}{base:Heap}
def zff {x qual:Str}{st:Stmt}{f:Addr}{fd:FuncData}{N ps:List Str}{k:Nat}{c:List D->Option (RV×List D)}(ks:List (Option Nat))(F:Fun K x qual st f fd)(S:FnScope N ps (zab st))(hks:ks.length=ps.length)
 (hbody:∀(cdv:Value) (A:Around) (outer:List Env) (s:Shared) (H:Hp) (E:XK),Room k (A.deeper (envOfC qual (zab st) s.heap.objs.size f cdv))->∃g,VSs (cxOf CX0 P w K mg base N qual (zab st) f cdv A outer s H E).nox (zaX st) g/\∀ds,ds.length=ks.length->EvS (kG ks) some g (inSl ks ds++List.replicate (N.length - ks.length) .un) (c ds)) :
 FnOk P w K mg base CX0 (k+1) f fd ps (spG K ks c):=by
 refine F.ok S (λvs H Q E h=>?_) (λcdv A outer s H vs Q E hr h=>?_)
 .obtain⟨J,ds,r,es,fp,ja,a,e,w⟩:=h;rw[a.l1,hks]
 .obtain⟨J,ds,r,es,fp,ja,a,e,w⟩:=h;obtain⟨g,⟨t,p,q⟩,ev⟩:=hbody cdv A outer s H E hr;refine⟨t,p,?_⟩;have s0:=zfV (N:=N) ja a
  have e:=ev ds a.l2 (r,es) (by rw[e];rfl)
  cases z:g (inSl ks ds++List.replicate (N.length - ks.length) .un) with
 |none=>rw[z] at e;cases e
 |some o=>
    rw[z] at e;refine q H J _ _ _ H J o _ s0 z ?_;cases o with
   |nx Z'=>
      obtain⟨es',e1,e⟩:=bind_some (show((outSl ks Z').bind λes=>some (RV.told D.non,es))=some (r,es) from e);cases e;intro Y' H' J' s' k';obtain⟨fp',pg⟩:=zlh (v:=.non) (r:=.told .non) a s' .non e1;exact w _ _ _ _ pg
   |ret r' Z'=>
      obtain⟨es',e1,e⟩:=bind_some (show((outSl ks Z').bind λes=>some (r',es))=some (r,es) from e);cases e;intro v Y' H' J' s' q';obtain⟨fp',pg⟩:=zlh a s' q' e1;exact w _ _ _ _ pg
   |bk _=>cases e
   |ct _=>cases e
end
def g1 (b:D->Option (RV×List D)):List D->Option (RV×List D)|[x]=>b x|_=>none
def g2 (b:D->D->Option (RV×List D)):List D->Option (RV×List D)|[x,y]=>b x y|_=>none
def g3 (b:D->D->D->Option (RV×List D)):List D->Option (RV×List D)|[x,y,z]=>b x y z|_=>none
section
variable {R:Type}{k:Out->Option R}{φ:RV×List D->Option R}{g:FS}{n:List SV}{ks:List (Option Nat)}
def zpB {b:D->Option (RV×List D)}(h:∀x,EvS k φ g (inSl ks [x]++n) (b x)):∀ds:List D,ds.length=1->EvS k φ g (inSl ks ds++n) (g1 b ds)
|[x],_=>h x
def znE {b:D->D->Option (RV×List D)}(h:∀x y,EvS k φ g (inSl ks [x,y]++n) (b x y)):∀ds:List D,ds.length=2->EvS k φ g (inSl ks ds++n) (g2 b ds)
|[x,y],_=>h x y
def zqY {b:D->D->D->Option (RV×List D)}(h:∀x y z,EvS k φ g (inSl ks [x,y,z]++n) (b x y z)):∀ds:List D,ds.length=3->EvS k φ g (inSl ks ds++n) (g3 b ds)
|[x,y,z],_=>h x y z
end
section
variable {X:Cx}{K:W.Frag}{k:Nat}
end
end VD
namespace GM
open PySem PySem.Spec PyProof PyProof.Rows L2 VD
structure Bx where
 x:Int
 y:Int
 wd:Int
 hg:Int
structure Row where
 deep:Nat
 name:Str
 box:Bx
 word:Str
 rank:Int
 head:Option Str
def zjC (ds:Nat->Nat)(cur:Nat):Nat->List Nat
|0=>[]
|n+1=>if ds n<cur then zjC ds (ds n) n++[n] else zjC ds cur n
def dsOf (L:List Row)(k:Nat):Nat:=((L[k]?).map (·.deep)).getD 0
def above (L:List Row)(k:Nat):List Nat:=zjC (dsOf L) (dsOf L k) k
abbrev abcS:Str:="abcdefghijklmnopqrstuvwxyz"
def zpC {i:Int}(h0:0<=i)(h1:i<26):atI abcS.cps.toList i=some (97+i.toNat):=by
 have k:∀n:Fin 26,abcS.cps.toList[n.val]?=some (97+n.val):=by decide +kernel
 have hn:i.toNat<26:=by omega
 have e:i=((i.toNat:Nat):Int):=by omega
 rw[e];exact za4 (k ⟨i.toNat,hn⟩)
def sg (c:Nat):Str:=⟨#[c]⟩
def zfg (c:Nat)(n:Int)(h:1<=n):(Txt.mul (sg c) n).cps.toList=List.replicate n.toNat c:=by
 unfold Txt.mul;rw[if_neg (by omega)];by_cases h1:n=1
 .subst h1;rfl
 .have:(n == 1||(sg c).length == 0)=false:=by
   have:(n == 1)=false:=by simpa using h1
   rw[this];rfl
  rw[this,if_neg (by decide)];have key:∀(k:Nat) (acc:Array Nat),((List.replicate k (sg c).cps).foldl (·++·) acc).toList=acc.toList++List.replicate k c:=by
   intro k;induction k with
  |zero=>intro acc;simp
  |succ k ih=>
     intro acc;rw[wbb,List.foldl_cons,ih];show(acc++#[c]).toList++_=_
     rw[Array.toList_append,waR];rfl
  show((List.replicate n.toNat (sg c).cps).foldl (·++·) #[]).toList=_
  rw[key];rfl
def znF {c d:Nat}{n m:Int}(hn:1<=n)(hm:1<=m)(e:Txt.mul (sg c) n=Txt.mul (sg d) m):n=m/\c=d:=by
 have q:=wba (λ(s:Str)=>s.cps.toList) e
 simp only[zfg c n hn,zfg d m hm] at q;have l:=wba List.length q
 rw[wbF,wbF] at l;refine⟨by omega,?_⟩;have h0:c∈List.replicate m.toNat d:=by rw[<-q];exact List.mem_replicate.mpr ⟨by omega,rfl⟩
 exact(List.mem_replicate.mp h0).2
def znG (c:Nat)(n:Int)(h:1<=n):(Txt.mul (sg c) n).length=n.toNat:=by
 have:=wba List.length (zfg c n h)
 rw[wbF] at this;simpa[Str.length] using this
theorem zek {α:Type}{f:Nat->α}:∀(m:Nat),(∀i j,i<j->j<m->f i≠f j)->((List.range m).map f).Nodup
|0,_=>by simp
|m+1,h=>by
   rw[List.range_succ,waH];refine waW.mpr ⟨zek m λi j hi hj=>h i j hi (by omega),by simp,λa ha b hb=>?_⟩;obtain⟨i,hi,rfl⟩:=way.mp ha;have:=waf.mp hb
   subst this;exact h i m (wbr.mp hi) (by omega)
inductive Tr where
|mk (name:Str) (box:Bx) (word:Str) (rank:Int) (head:Option Str) (parts:List Tr)
namespace Tr
def name:Tr->Str|mk n _ _ _ _ _=>n
def parts:Tr->List Tr|mk _ _ _ _ _ x=>x
end Tr
structure Seg (d:Nat)(M:List Row):Prop where
 few:M.length<=200
 low:∀r∈M,d<=r.deep/\r.deep<=4
 first:∀r,M[0]?=some r->r.deep=d
 step:∀k r r',M[k]?=some r->M[k+1]?=some r'->r'.deep<=r.deep+1
def szL:Nat->List Tr->Nat
|_,[]=>0
|0,_=>0
|n+1,t::r=>1+szL n t.parts+szL (n+1) r
termination_by n ts=>(n,ts.length)
structure Pos' where
 q:List Int
 as:List Tr
 js:List Nat
 t:Tr
def posL:Nat->List Int->Nat->List Tr->List Nat->Nat->List Tr->List Pos'
|_,_,_,_,_,_,[]=>[]
|0,_,_,_,_,_,_=>[]
|n+1,o,i,as,js,off,t::r=>⟨o++[(i:Int)],as,js,t⟩ ::(posL n (o++[(i:Int)]) 0 (as++[t]) (js++[off]) (off+1) t.parts++posL (n+1) o (i+1) as js (off+1+szL n t.parts) r)
termination_by n _ _ _ _ _ ts=>(n,ts.length)
def Fits:Nat->List Tr->Prop
|0,ts=>ts = []
|n+1,ts=>∀t∈ts,Fits n t.parts
def psOf (ts:List Tr):List Pos':=posL 5 [] 0 [] [] 0 ts
section
variable {ts:List Tr}{L:List Row}
end
end GM
namespace GM
open PySem PySem.Spec PyProof PyProof.Rows L2 VD
def zeT {n:Nat}{i:Nat}{d:D}(h:(zbe 0 n)[i]?=some d):i<n/\d=.int (i:Int):=by
 have hl:(zbe 0 n).length=n:=by simp[zbe]
 have hi:i<n:=by rw[<-hl];exact(waa.mp h).1
 refine⟨hi,?_⟩;unfold zbe at h;rw[waj,wcj hi] at h;simp at h;exact h.symm
def zjD {α:Type}{xs:List α}{i:Int}(h0:0<=i)(h1:i<xs.length):∃x,xs[i.toNat]?=some x/\atI xs i=some x:=by
 have hi:i.toNat<xs.length:=by omega
 refine⟨xs[i.toNat],wap hi,?_⟩;have e:i=((i.toNat:Nat):Int):=by omega
 have h:=za4 (xs:=xs) (wap hi)
 rw[<-e] at h;exact h
def zly:abcS.length<=lim:=by decide +kernel
def zpD {i:Int}(h0:0<=i)(h1:i<26):dIx (.str abcS) (.int i)=some (.str (sg (97+i.toNat))):=by
 show(if abcS.length<=lim then(atI abcS.cps.toList i).map λc=>D.str ⟨#[c]⟩ else none)=_
 rw[if_pos zly,zpC h0 h1];rfl
def zpE (c:Nat):(sg c).length=1:=rfl
def zpF (c:Nat){n:Int}(h0:-1000<=n)(h1:n<=1000):dMul (.str (sg c)) (.int n)=some (.str (Txt.mul (sg c) n)):=by
 show(if -1000<=n/\n<=1000/\(sg c).length<=1000 then some (D.str (Txt.mul (sg c) n)) else none)=_
 rw[if_pos ⟨h0,h1,by rw[zpE];decide⟩]
def zgK {xs:List D}{d:D}(h:xs.length<lim):appL xs d=some (xs++[d]):=if_pos h
def zel {α:Type}{f:D->Option (Option D)}(h:α->D)(g:α->D){xs:List α}(hl:xs.length<=10000)(hf:∀x,x∈xs->f (h x)=some (some (g x))):zck f (xs.map h)=some (xs.map g):=by
 unfold zck;have:zcW f (xs.map h)=some (xs.map g):=by
  clear hl
  induction xs with
 |nil=>rfl
 |cons x xs ih=>
    show(f (h x)).bind _=_
    rw[hf x wai,zOB];show(zcW f (xs.map h)).bind _=_
    rw[ih λy hy=>hf y (wae _ hy)];rfl
 rw[this,zOB,if_pos];rw[wad];exact waq hl (by decide)
def zb0 {α:Type}{f:D->Option (Option D)}(h:α->D)(p:α->Bool)(g:α->D){xs:List α}(hl:xs.length<=10000)(hf:∀x,x∈xs->f (h x)=some (if p x then some (g x) else none)):zck f (xs.map h)=some ((xs.filter p).map g):=by
 unfold zck;have:zcW f (xs.map h)=some ((xs.filter p).map g):=by
  clear hl
  induction xs with
 |nil=>rfl
 |cons x xs ih=>
    have ih:=ih λy hy=>hf y (wae _ hy)
    show(f (h x)).bind _=_
    rw[hf x wai,zOB];cases hp:p x with
   |true=>
      show(zcW f (xs.map h)).bind _=_
      rw[ih,List.filter_cons,if_pos hp];rfl
   |false=>
      rw[ih,List.filter_cons,hp];rfl
 rw[this,zOB,if_pos];rw[wad];exact waq (wbG _ _) (waq hl (by decide))
def zjE {α:Type}(f:α->D)(xs:List α):zdM (xs.map f)=xs.zipIdx.map λp=>.tup [.int (p.2:Nat),f p.1]:=by
 unfold zdM;rw[List.zipIdx_map,waS];rfl
def zfh (x y:Str):dEqG false (.str x) (.str y)=some (.bl (decide (x=y))):=by
 show(if eqC (.str x) (.str y)=true then some (D.bl (if false=true then !decide (D.str x=D.str y) else decide (D.str x=D.str y))) else none)=_
 rw[if_pos (by rfl),if_neg (by decide),zav (show D.str x=D.str y↔x=y from⟨λh=>by cases h;rfl,λh=>by rw[h]⟩)]
def zam (x y:Int):dEqG false (.int x) (.int y)=some (.bl (decide (x=y))):=by
 show(if eqC (.int x) (.int y)=true then some (D.bl (if false=true then !decide (D.int x=D.int y) else decide (D.int x=D.int y))) else none)=_
 rw[if_pos (by rfl),if_neg (by decide),zav (show D.int x=D.int y↔x=y from⟨λh=>by cases h;rfl,λh=>by rw[h]⟩)]
def zjF {d:D}(h:eqC d d=true)(neg:Bool):dEqG neg d d=some (.bl (!neg)):=by
 unfold dEqG;rw[if_pos h,waE rfl];cases neg <;> rfl
mutual
theorem zf1:∀{d:D},ndD d=true->eqOk d d=true
|.non,_=>rfl
|.bl _,_=>rfl
|.int _,_=>rfl
|.str _,_=>rfl
|.tup ds,h=>zdy (ds:=ds) h
|.lst ds,h=>zdy (ds:=ds) h
|.dct _ _,h=>by cases h
|.scr _,h=>by cases h
|.exc _ _ _,h=>by cases h
|.dcu _ _,h=>by cases h
theorem zdy:∀{ds:List D},ndL ds=true->zdO ds ds=true
|[],_=>rfl
|d::ds,h=>by
   have h:(ndD d&&ndL ds)=true:=h
   rw[waD] at h;show(eqOk d d&&zdO ds ds)=true
   rw[zf1 h.1,zdy h.2];rfl
end
def zlz {d:D}(h:ndD d=true)(hd:depD d<=40):eqC d d=true:=by
 unfold eqC;rw[zf1 h,h,waE hd];rfl
theorem zgL {m:Nat}:∀{ds:List D},(∀d∈ds,depD d<=m)->depL ds<=m
|[],_=>wbn _
|d::ds,h=>Nat.max_le.mpr ⟨h d wai,zgL λe he=>h e (wae _ he)⟩
theorem zjG:∀{ds:List D},(∀d∈ds,ndD d=true)->ndL ds=true
|[],_=>rfl
|d::ds,h=>by
   show(ndD d&&ndL ds)=true
   rw[h d wai,zjG λe he=>h e (wae _ he)];rfl
def zfi {x:Str}{th:List Str}:dInG false (.str x) (.lst (th.map D.str))=some (.bl (decide (x∈th))):=by
 have hc:inC (.str x) (th.map D.str)=true:=by
  unfold inC;rw[waD];refine⟨rfl,waN.mpr λy hy=>?_⟩;obtain⟨z,_,rfl⟩:=way.mp hy;rfl
 show(if inC (.str x) (th.map D.str)=true then some (D.bl (if false=true then !decide (D.str x∈th.map D.str) else decide (D.str x∈th.map D.str))) else none)=_
 rw[if_pos hc,if_neg (by decide),zav (show D.str x∈th.map D.str↔x∈th from⟨λh=>by
  obtain⟨z,hz,e⟩:=way.mp h;cases e;exact hz,λh=>way.mpr ⟨x,h,rfl⟩⟩)]
def zht {xs:List D}{r:Int}(h0:0<=r)(h1:r<=xs.length):VD.cut xs none (some r)=xs.take r.toNat:=by
 unfold VD.cut HT.sIx;dsimp only[];rw[if_neg (by omega),List.drop_zero,Nat.sub_zero,wbc (by omega)]
end GM
namespace GM
open PySem PySem.Spec PyProof PyProof.Rows L2 VD
end GM
namespace VD
open PySem PySem.Spec PyProof PyProof.Rows L2 PySem.W
structure TabX (X:Cx)(q:Str):Prop where
 ex:∃c P bm ob,X.env.code=.ref c/\CodeK X.K c P/\BMod X.base mainGlobals X.mg bm ob/\∃tp,X.Hz P=some (.tbl tp)/\tp[0]?=some (Value.str q 0)
section
variable {X:Cx}{a:Expr}{fa:FE}
end
structure Pers (Pc:Hp->Prop):Prop where
 st:∀{fs ex:List Addr}{H H':Hp}{h h':Heap},Un fs ex H H' h h'->Pc H->Pc H'
 sm:∀{H H':Hp},Same H H'->Pc H->Pc H'
def Prs (X:Cx)(Pc:Hp->Prop):Prop:=∀pins Y H s,Inv X pins Y H s->Pc H
def Prs.of {X:Cx}{Pc:Hp->Prop}(p:Pers Pc)(h:Pc X.Hz):Prs X Pc:=λ_ _ _ _ I=>p.st I.base h
def pcS (Pc:Hp->Prop)(sp:Sp):Sp:=λvs H Q E=>Pc H/\sp vs H Q E
structure Scr where
 p:Addr
 ns:List Int
def SqF (K:W.Frag)(S:Scr)(H:Hp):Prop:=(∃o,H S.p=some (.frz o (.lst (S.ns.map V.int))))\/∀H,SqL K H S.p (S.ns.map V.int)
def SqF.sq {K:W.Frag}{S:Scr}{H:Hp}(h:SqF K S H):SqL K H S.p (S.ns.map V.int):=by
 rcases h with⟨o,h⟩|h
 .exact .inl (.inr ⟨o,h⟩)
 .exact h H
def SqF.of {K:W.Frag}{S:Scr}{H:Hp}(h:SqL K H S.p (S.ns.map V.int))(hf:H S.p≠none->∃o xs,H S.p=some (.frz o (.lst xs))):SqF K S H:=by
 rcases h with(h|⟨o,h⟩)|h
 .obtain⟨o,xs,e⟩:=hf (by rw[h];simp);rw[h] at e;cases e
 .exact .inl ⟨o,h⟩
 .exact .inr λ_=>.inr h
def TabH (P:Addr)(q:Str)(H:Hp):Prop:=∃tp,H P=some (.tbl tp)/\tp[0]?=some (Value.str q 0)
def tab0 {tp more:Array Value}{q:Str}(htp:tp[0]?=some (Value.str q 0)):(tp++more)[0]?=some (Value.str q 0):=by
 have:0<tp.size:=by
  rcases Nat.eq_zero_or_pos tp.size with z|z
  .rw[Array.getElem?_eq_none (by omega)] at htp;cases htp
  .exact z
 rw[Array.getElem?_append_left this];exact htp
def pers_F {K:W.Frag}{S:Scr}:Pers (SqF K S):=⟨λu h=>by
 rcases h with⟨o,h⟩|h
 .exact .inl ⟨o,u.frzs _ _ _ h⟩
 .exact .inr h,λs h=>by
 rcases h with⟨o,h⟩|h
 .exact .inl ⟨o,s _ _ h⟩
 .exact .inr h⟩
def pers_T {P:Addr}{q:Str}:Pers (TabH P q):=⟨λu ⟨tp,h,e⟩ =>by
 obtain⟨more,h'⟩:=u.tbls _ _ h;exact⟨_,h',tab0 e⟩,λs ⟨tp,h,e⟩ =>⟨tp,s _ _ h,e⟩⟩
section
variable {X:Cx}{a b e:Expr}{es:List Expr}{fa fb:FE}{fl:FA}{p pos:Pos}{Pc:Hp->Prop}
def pcP {k k':Nat}{x:Str}{ps:List Str}{sp:Sp}{t:TA}(C:Cal X.prog X.w X.K X.mg X.base k x ps (pcS Pc sp))(hp:Prs X Pc)(hr:Room k' X.A)(ha:PA X (e::es) t)(hk:k<=k')(hg:Gl X x)(hdb:(x == ("__debug__" : Str))=false)
 (he:starEach (e::es) X.env=(false,eval e X.env)::starEach es X.env) (hpl:(backTo pos (starEach es X.env)).any (·.1)=false):PE X (.Call (.Name x p) (e::es) [] pos) (ziG sp [] E0 t):=by
 obtain⟨f,fd,F,hb,hkp,hm⟩:=C.ex;intro pins s Y H Q I h;refine waX (zeZ I hg hm ?_ hdb);refine callWith_K (h₀:=X.base) I.ok.mod.kin hkp (thn (ha pos pins s Y H _ I h) λus s1 ⟨vs,H1,I1,r,q⟩ =>⟨I1.kIn,?_⟩) he hpl;exact zl9 (F.mono hk) hr hb .nil zoS I1 r ⟨hp _ _ _ _ I1,q⟩
def zaK {k k':Nat}{x:Str}{ps:List Str}{F:List D->Option D}(C:Cal X.prog X.w X.K X.mg X.base k x ps (pcS Pc (spF X.K F)))(hp:Prs X Pc)(hr:Room k' X.A)(ha:VA X (e::es) fl)(hk:k<=k':=by decide)(hg:Gl X x:=by rfl)(hdb:(x == ("__debug__" : Str))=false:=by decide)
 (he:starEach (e::es) X.env=(false,eval e X.env)::starEach es X.env:=by rfl) (hpl:(backTo pos (starEach es X.env)).any (·.1)=false:=by rfl):VE X (.Call (.Name x p) (e::es) [] pos) (eCall F fl):=by
 obtain⟨t,pa,g⟩:=ha;refine⟨_,pcP C hp hr pa hk hg hdb he hpl,?_⟩;intro Hz Jz O Z Y H J d Q s e w;obtain⟨ds,e1,e⟩:=bind_some e;refine g Hz Jz O Z Y H J ds _ s e1 λvs H1 J1 u1 r1=>?_
 refine⟨J1,ds,d,u1.ja,by rw[waQ];exact r1,e,λv H2 J2 u2 r2=>w v H2 J2 (u1.trans u2) r2⟩
def zdh {fl:FAX}{k k':Nat}{x:Str}{ps:List Str}{ks:List (Option Nat)}{F:List D->Option (RV×List D)}(C:Cal X.prog X.w X.K X.mg X.base k x ps (pcS Pc (spG X.K ks F)))(hp:Prs X Pc)(hr:Room k' X.A)(ha:VAX X (e::es) fl)(hn:ks.all (·.isNone)=true:=by rfl)(hk:k<=k':=by decide)(hg:Gl X x:=by rfl)(hdb:(x == ("__debug__" : Str))=false:=by decide)
 (he:starEach (e::es) X.env=(false,eval e X.env)::starEach es X.env:=by rfl) (hpl:(backTo pos (starEach es X.env)).any (·.1)=false:=by rfl):VR X (.Call (.Name x p) (e::es) [] pos) (xCallN ks F fl):=by
 obtain⟨t,pa,g⟩:=ha;exact⟨_,pcP C hp hr pa hk hg hdb he hpl,zlj hn g _⟩
def lenS (S:Scr):D->Option D
|.scr q=>if q=S.p then some (.int S.ns.length) else none
|_=>none
def ixS (S:Scr):D->D->Option D
|.scr q,.int i=>if q=S.p then(atI S.ns i).map D.int else none
|_,_=>none
def zjH {S:Scr}{d r:D}(h:lenS S d=some r):d=.scr S.p/\r=.int S.ns.length:=by
 unfold lenS at h;split at h
 .split at h
  .rename_i z;rw[z];cases h;exact⟨rfl,rfl⟩
  .cases h
 .cases h
def zlA {S:Scr}{x y r:D}(h:ixS S x y=some r):∃i n,x=.scr S.p/\y=.int i/\atI S.ns i=some n/\r=.int n:=by
 match x,y,h with
|.scr q,.int i,h=>
   have h:(if q=S.p then(atI S.ns i).map D.int else none)=some r:=h
   by_cases z:q=S.p
   .rw[if_pos z] at h;cases hi:atI S.ns i with
   |none=>rw[hi] at h;cases h
   |some n=>rw[hi] at h;cases h;exact⟨i,n,by rw[z],rfl,hi,rfl⟩
   .rw[if_neg z] at h;cases h
def znH {α β:Type}{f:α->β}{xs:List α}{i:Int}:atI (xs.map f) i=(atI xs i).map f:=by
 unfold atI;rw[wad];cases ixN xs.length i with
|none=>rfl
|some j=>simp
def zgM {S:Scr}(hp:Prs X (SqF X.K S))(B:Blt X.mg)(ha:VE X a fa)(hg:Gl X "len":=by rfl)(h1:starEach [a] X.env=(false,eval a X.env)::starEach [] X.env:=by rfl):VE X (.Call (.Name "len" p) [a] [] pos) (e1 (lenS S) fa):=by
 obtain⟨ta,pa,ga⟩:=ha;refine⟨λY H Q=>∃Hz Jz O Z J d,ST X.K Hz Jz O Z Y H J/\e1 (lenS S) fa Z=some d/\zgB X.K H J d Q,λpins s Y H Q I hyp=>?_,λHz Jz O Z Y H J d Q st e w=>⟨Hz,Jz,O,Z,J,d,st,e,w⟩⟩;obtain⟨Hz,Jz,O,Z,J,d,st,e,w⟩:=hyp;obtain⟨x,ex,e⟩:=bind_some e;obtain⟨rfl,rfl⟩:=zjH e;refine pb zfJ B PySem.boot_len (zbJ pa zcZ h1) (by decide +kernel) hg (by decide) (by decide) h1 rfl pins s Y H Q I ?_;refine ga Hz Jz O Z Y H J _ _ st ex λv H1 J1 u r=>?_
 cases r;refine⟨S.p,S.ns.map V.int,rfl,.inl (pers_F.sm u.same (hp _ _ _ _ I)).sq,?_⟩;rw[wad];exact w _ H1 J1 u (.int _)
def zpG {S:Scr}(hp:Prs X (SqF X.K S))(ha:VE X a fa)(hb:VE X b fb)(hs:zc4 b:=by exact λ_ _=>rfl):VE X (.Subscript a b pos) (e2 (ixS S) fa fb):=by
 obtain⟨ta,pa,ga⟩:=ha;obtain⟨tb,pb,gb⟩:=hb;refine⟨λY H Q=>∃Hz Jz O Z J d,ST X.K Hz Jz O Z Y H J/\e2 (ixS S) fa fb Z=some d/\zgB X.K H J d Q,λpins s Y H Q I hyp=>?_,λHz Jz O Z Y H J d Q st e w=>⟨Hz,Jz,O,Z,J,d,st,e,w⟩⟩;obtain⟨Hz,Jz,O,Z,J,d,st,e,w⟩:=hyp;obtain⟨x,ex,e⟩:=bind_some e;obtain⟨y,ey,e⟩:=bind_some e;obtain⟨i,n,rfl,rfl,hi,rfl⟩:=zlA e;refine zhQ ix_list pa pb hs pins s Y H Q I ?_;refine ga Hz Jz O Z Y H J _ _ st ex λv H1 J1 u r=>?_
 refine gb Hz Jz O Z Y H1 J1 _ _ (st.up u) ey λv2 H2 J2 u2 r2=>?_
 cases r;cases r2;exact⟨S.p,_,i,.int n,rfl,rfl,(pers_F.sm u2.same (pers_F.sm u.same (hp _ _ _ _ I))).sq,by rw[znH,hi];rfl,w _ H2 J2 (u.trans u2) (.int _)⟩
end
section
variable {P:Program}{w:World}{K:W.Frag}{mg:Str->Option Value}{base:Heap}{Pc:Hp->Prop}
def zbO {x qual:Str}{st:Stmt}{f:Addr}{fd:FuncData}{N ps:List Str}{k:Nat}{c:List D->Option D}(pe:Pers Pc)(F:Fun K x qual st f fd)(S:FnScope N ps (zab st))(hlen:∀ds d,c ds=some d->ds.length=ps.length)
 (hbody:∀(cdv:Value) (A:Around) (outer:List Env) (s:Shared) (H:Hp) (E:XK),fd.code=cdv->Room k (A.deeper (envOfC qual (zab st) s.heap.objs.size f cdv))->Pc H->Prs (cxOf CX0 P w K mg base N qual (zab st) f cdv A outer s H E).nox Pc->∃g,VSs (cxOf CX0 P w K mg base N qual (zab st) f cdv A outer s H E).nox (zaX st) g/\∀ds,ds.length=ps.length->EvS kF some g (ds.map SV.val++List.replicate (N.length - ps.length) .un) (c ds)):FnOk P w K mg base CX0 (k+1) f fd ps (pcS Pc (spF K c)):=by
 refine F.okC S (λvs H Q E h=>?_) (λcdv A outer s H vs Q E hcv hr h=>?_)
 .obtain⟨_,J,ds,d,ja,r,e,w⟩:=h;rw[r.length];exact hlen ds d e
 .obtain⟨hPc,J,ds,d,ja,r,e,w⟩:=h;have hl:=hlen ds d e
  obtain⟨g,⟨t,p,q⟩,ev⟩:=hbody cdv A outer s H E hcv hr hPc (Prs.of pe hPc);refine⟨t,p,?_⟩;have e:=ev ds hl d (by rw[e];rfl)
  rw[<-hl] at e;have s0:=zhj (N:=N) ja r
  cases z:g (ds.map SV.val++List.replicate (N.length - ds.length) .un) with
 |none=>rw[z] at e;cases e
 |some o=>
    rw[z] at e;refine q H J Pr.no _ _ H J o _ s0 z ?_;cases o with
   |nx Z'=>cases e;exact λY' H' J' s' k'=>w .non H' J' s'.out .non
   |ret r Z'=>
      cases r with
     |told d'=>cases e;exact λv Y' H' J' s' r'=>w v H' J' s'.out r'
     |new n d'=>
        cases e;rintro v Y' H' J' s' ⟨B,fp,_,ru,_,hb,_⟩;have u:=s'.out
        refine w v H' (λb=>J' b\/b∈B) ⟨u.same,λa h=>.inl (u.jj a h),λa h=>?_,λa h=>?_⟩ (ru.rp (λ_ h=>.inl h) (λb hb=>.inr hb))
        .rcases h with h|h
         .exact u.jn a h
         .exact .inr (hb a h).2
        .rcases h with h|h
         .exact u.ja a h
         .obtain⟨o,e,_⟩:=ru.some a h;rw[e];simp
   |bk _=>cases e
   |ct _=>cases e
def zjI {x qual:Str}{st:Stmt}{f:Addr}{fd:FuncData}{N ps:List Str}{k:Nat}{c:List D->Option (RV×List D)}(pe:Pers Pc)(ks:List (Option Nat))(F:Fun K x qual st f fd)(S:FnScope N ps (zab st))(hks:ks.length=ps.length)
 (hbody:∀(cdv:Value) (A:Around) (outer:List Env) (s:Shared) (H:Hp) (E:XK),fd.code=cdv->Room k (A.deeper (envOfC qual (zab st) s.heap.objs.size f cdv))->Pc H->Prs (cxOf CX0 P w K mg base N qual (zab st) f cdv A outer s H E).nox Pc->∃g,VSs (cxOf CX0 P w K mg base N qual (zab st) f cdv A outer s H E).nox (zaX st) g/\∀ds,ds.length=ks.length->EvS (kG ks) some g (inSl ks ds++List.replicate (N.length - ks.length) .un) (c ds)) :
 FnOk P w K mg base CX0 (k+1) f fd ps (pcS Pc (spG K ks c)):=by
 refine F.okC S (λvs H Q E h=>?_) (λcdv A outer s H vs Q E hcv hr h=>?_)
 .obtain⟨_,J,ds,r,es,fp,ja,a,e,w⟩:=h;rw[a.l1,hks]
 .obtain⟨hPc,J,ds,r,es,fp,ja,a,e,w⟩:=h;obtain⟨g,⟨t,p,q⟩,ev⟩:=hbody cdv A outer s H E hcv hr hPc (Prs.of pe hPc);refine⟨t,p,?_⟩;have s0:=zfV (N:=N) ja a
  have e:=ev ds a.l2 (r,es) (by rw[e];rfl)
  cases z:g (inSl ks ds++List.replicate (N.length - ks.length) .un) with
 |none=>rw[z] at e;cases e
 |some o=>
    rw[z] at e;refine q H J _ _ _ H J o _ s0 z ?_;cases o with
   |nx Z'=>
      obtain⟨es',e1,e⟩:=bind_some (show((outSl ks Z').bind λes=>some (RV.told D.non,es))=some (r,es) from e);cases e;intro Y' H' J' s' k';obtain⟨fp',pg⟩:=zlh (v:=.non) (r:=.told .non) a s' .non e1;exact w _ _ _ _ pg
   |ret r' Z'=>
      obtain⟨es',e1,e⟩:=bind_some (show((outSl ks Z').bind λes=>some (r',es))=some (r,es) from e);cases e;intro v Y' H' J' s' q';obtain⟨fp',pg⟩:=zlh a s' q' e1;exact w _ _ _ _ pg
   |bk _=>cases e
   |ct _=>cases e
structure TabF (K:W.Frag)(mg:Str->Option Value)(base:Heap)(fd:FuncData)(P:Addr):Prop where
 ex:∃c bm ob,fd.code=.ref c/\CodeK K c P/\BMod base mainGlobals mg bm ob
def zgN {X:Cx}{fd:FuncData}{P:Addr}{q:Str}(T:TabF X.K X.mg X.base fd P)(hc:fd.code=X.env.code)(h:TabH P q X.Hz):TabX X q:=by
 obtain⟨c,bm,ob,e1,e2,e3⟩:=T.ex;exact⟨c,P,bm,ob,by rw[<-hc];exact e1,e2,e3,h⟩
end
end VD
namespace L2
open PySem PySem.Spec PyProof PyProof.Rows
section
variable {X:Cx}
end
end L2
namespace VD
open PySem PySem.Spec PyProof PyProof.Rows L2 PySem.W
section
variable {X:Cx}{a b e:Expr}{fa fb:FE}
end
end VD
namespace HT
open PySem PySem.Spec PyProof PyProof.Rows
section
variable {prog:Program}{w:World}{A:Around}{E:Value->Shared->Prop}{s:Shared}
end
end HT
namespace L2
open PySem PySem.Spec PyProof PyProof.Rows
section
variable {X:Cx}
end
end L2
namespace VD
open PySem PySem.Spec PyProof PyProof.Rows L2 PySem.W
section
variable {X:Cx}{a:Expr}{fa:FE}{p2 pos:Pos}
end
end VD
namespace VD
open PySem PySem.Spec PyProof PyProof.Rows L2
def ix2C (xs:List D)(k:D):Option D:=(dInt k).bind λk=>(atI xs k).bind λd=>match d with|.lst es=>some (.lst es)|_=>none
def zlB (xs:List D)(es:List D)(k:D):Option (List D):=(dInt k).bind λk=>(ixN xs.length k).bind λj=>match xs[j]? with
|some (.lst _)=>some (xs.set j (.lst es))
|_=>none
def zlC (xs:List D)(k d:D):Option (List D):=(dInt k).bind λk=>(ixN xs.length k).bind λj=>match xs[j]? with
|some (.lst es)=>if es.length<lim then some (xs.set j (.lst (es++[d]))) else none
|_=>none
section
variable {Z:En}{xs:List D}{i:Nat}{fk fv:FE}{f:FA}
def znI (h:ownD (Z[i]?)=some (2,.lst xs)):Step (znq i fk f) Z ((f Z).bind λes=>(fk Z).bind λk=>zlB xs es k) λys=>setO Z i (.lst ys):=λd z=>by
 obtain⟨es,e0,z⟩:=zaa z;obtain⟨k,e1,z⟩:=zaa z;obtain⟨kk,e2,z⟩:=zaa z;obtain⟨j,e3,z⟩:=zaa z;unfold znq;rw[e0,zOB,e1,zOB,e2,zOB,h];show(ixN xs.length kk).bind _=_
 rw[e3,zOB];split at z
 .rename_i q;cases z;first|rw[q]|rfl
 .cases z
def znJ (h:ownD (Z[i]?)=some (2,.lst xs)):Step (zno i fk fv) Z ((fk Z).bind λk=>(fv Z).bind λd=>zlC xs k d) λys=>setO Z i (.lst ys):=λd z=>by
 obtain⟨k,e1,z⟩:=zaa z;obtain⟨x,e0,z⟩:=zaa z;obtain⟨kk,e2,z⟩:=zaa z;obtain⟨j,e3,z⟩:=zaa z;unfold zno;rw[e1,zOB,e2,zOB,e0,zOB,h];show(ixN xs.length kk).bind _=_
 rw[e3,zOB];split at z
 .rename_i es q
  try rw[q]
  split at z
  .rename_i hl;cases z;exact if_pos hl
  .cases z
 .cases z
end
section
variable {S:Type}{emb:S->En}{Z:En}{s:S}{f:FX}{x:Option (D×S)}
def EvOX {S:Type}(f:FOX)(Z:En)(x:Option (Option Int×S))(emb:S->En):Prop:=∀q,x=some q->f Z=some (q.1,emb q.2)
def zpH (h:emb s=Z):EvOX oxN Z (some (none,s)) emb:=λq z=>by cases z;rw[<-h];rfl
def zpI (h:EvX f Z x emb):EvOX (oxS f) Z (x.bind λq=>(dInt q.1).bind λi=>some (some i,q.2)) emb:=λq z=>by
 obtain⟨a,e0,z⟩:=zaa z;obtain⟨i,e1,z⟩:=zaa z;cases z;unfold oxS;rw[h a e0,zOB,e1];rfl
def zpJ {lo hi:FOX}{y:D×S->Option (Option Int×S)}{z:D×S->Option Int×S->Option (Option Int×S)}(h1:EvX f Z x emb)(h2:∀q,EvOX lo (emb q.2) (y q) emb)(h3:∀q l,EvOX hi (emb l.2) (z q l) emb) :
 EvX (xSl f lo hi) Z (x.bind λq=>(y q).bind λl=>(z q l).bind λh=>(dSl q.1 l.1 h.1).bind λd=>some (d,h.2)) emb:=λq w=>by
 obtain⟨a,e0,w⟩:=zaa w;obtain⟨l,e1,w⟩:=zaa w;obtain⟨h,e2,w⟩:=zaa w;obtain⟨d,e3,w⟩:=zaa w;cases w;unfold xSl;rw[h1 a e0,zOB,h2 a l e1,zOB,h3 a l h e2,zOB,e3];rfl
end
def zlD (x k v:D):Option D:=match x with
|.lst xs=>(zdN xs k v).bind λys=>some (.lst ys)
|_=>none
def zhu {i:Nat}{Z:En}{fk f:FE}{x:D}(h:ownD (Z[i]?)=some (1,x)):Step (gPutL i fk (xE f)) Z ((f Z).bind λv=>(fk Z).bind λk=>zlD x k v) λy=>setO Z i y:=λd z=>by
 obtain⟨v,e0,z1⟩:=zaa z;obtain⟨kk,e1,z2⟩:=zaa z1;cases x <;> try cases z2
 rename_i xs
 obtain⟨ys,e2,z3⟩:=zaa z2;cases z3;exact zgI h ys (by rw[e0,zOB,e1];exact e2)
def newD {S:Type}(q:RV×S):Option (D×S):=match q.1 with
|.new 1 x=>some (x,q.2)
|_=>none
def zgO {S:Type}{emb:S->En}{Z:En}{i:Nat}{fr:FR}{xr:Option (RV×S)}(h:EvR fr Z xr emb)(hi:∀s,okS i (emb s)=true):Step (gOwnR i fr) Z (xr.bind newD) λq=>(emb q.2).set i (.own 1 q.1):=λq z=>by
 obtain⟨⟨r,s1⟩,e0,z⟩:=zaa z;unfold newD at z;split at z
 .rename_i x hr
  cases z;have hr:r=.new 1 x:=hr
  subst hr;unfold gOwnR;rw[h _ e0,zOB];exact if_pos (zdJ (hi s1))
 .cases z
end VD
namespace VD
open PySem PySem.Spec PyProof PyProof.Rows L2 PySem.W
section
variable {X:Cx}{a b e e1':Expr}{es:List Expr}{fa fb:FE}{fl:FA}{p pos:Pos}{Pc:Hp->Prop}
end
def zpK:SV->SV
|.own _ d=>.val d
|.par _ d=>.val d
|s=>s
def zem (Z:En):En:=Z.map zpK
def ST.view {K:W.Frag}{Hz H:Hp}{Jz J:Addr->Prop}{O:Pr}{Z:En}{Y:L2.St}(s:ST K Hz Jz O Z Y H J):∃Jv:Addr->Prop,(∀a,J a->Jv a)/\ST K H Jv Pr.no (zem Z) Y H Jv:=by
 obtain⟨fp,ow⟩:=s.ow;have kp:Keep K H J H (λb=>J b\/∃i,b∈fp i):=⟨λ_ h=>.inl h,λ_ _ _ h=>h,λ_ _ h=>h⟩
 refine⟨λb=>J b\/∃i,b∈fp i,λ_ h=>.inl h,⟨λ_ _ _ h=>h,λ_ h=>h,λ_ h=>.inl h,λa h=>?_,by unfold zem;rw[wad];exact s.len,λi d h=>?_,⟨λ_=>[],⟨λi=>?_,λ_=>.nil,λ_ b hb=>(by cases hb),λ_ _ _ b hb=>(by cases hb)⟩⟩,λq hq=>(by cases hq),λ_ h=>h⟩⟩
 .rcases h with h|⟨i,h⟩
  .exact s.ja a h
  .obtain⟨o,e,_⟩:=(ow.at' i).ru a h;rw[e];simp
 .unfold zem at h;rw[waj] at h;cases q:Z[i]? with
 |none=>rw[q] at h;cases h
 |some z=>
    rw[q] at h;have a:=ow.at' i
    rw[q] at a;match z,h,a with
   |.val d',h,_=>
      cases h;obtain⟨v,e1,r⟩:=s.vl i _ q;exact⟨v,e1,Rp.keep kp r⟩
   |.own n d',h,a=>
      cases h;obtain⟨⟨v,e1,r⟩,_⟩:=a;exact⟨v,e1,RpU.rp (λ_ h=>.inl h) (λb hb=>.inr ⟨i,hb⟩) r⟩
   |.par n d',h,a=>
      cases h;obtain⟨⟨v,e1,r⟩,_⟩:=a;exact⟨_,e1,RpU.rp (λ_ h=>.inl h) (λb hb=>.inr ⟨i,hb⟩) r⟩
 .unfold zem;rw[waj];cases q:Z[i]? with
 |none=>rfl
 |some z=>cases z <;> rfl
def znK {X:Cx}{e:Expr}{f:FT}(h:VT X e f):VT X e (λZ=>f (zem Z)):=by
 obtain⟨t,p,g⟩:=h;refine⟨t,p,λHz Jz O Z Y H J b Q s e w=>?_⟩;obtain⟨Jv,hj,sv⟩:=s.view;refine g H Jv Pr.no _ Y H Jv b Q sv e λH' J' u=>w H' J ⟨u.same,λ_ h=>h,λ_ h=>.inl h,λa h=>?_⟩
 have:=s.ja a h
 cases q:H a with
|none=>exact absurd q this
|some o=>rw[u.same a o q];simp
end VD
namespace VD
open PySem PySem.Spec PyProof PyProof.Rows L2
structure GDct (P:Program)(w:World)(K:W.Frag)(mg:Str->Option Value)(x:Str)(ks:List Key)(ds:List D):Prop where
 ex:∃(p:Addr) (o:Obj) (es:Array DictEntry) (ep:Nat) (kvs:List (Key×V)) (vs:List (Key×Value)),mg x=some (.ref p)/\K.lookup p=some o/\o.ExactDict/\o.data=.dict es ep/\KeysOf (zaL P w) es/\Pairs (zaL P w) es.toList vs/\(vs.map (·.1)).Nodup/\KV kvs vs/\kvs.map (·.1)=ks/\∀H J,RpL K H J (kvs.map (·.2)) ds
section
variable {X:Cx}{i b:Expr}{ty:TE}{pos p':Pos}{x:Str}
def tGD (kvs:List (Key×V))(ty:TE):TE:=λY H Q=>ty Y H λy H1=>∃k v,y=kV k/\valV kvs k=some v/\Q v H1
def zlE {p:Addr}{o:Obj}{es:Array DictEntry}{ep:Nat}{kvs:List (Key×V)}{vs:List (Key×Value)}(hm:X.mg x=some (.ref p))(hl:X.K.lookup p=some o)(hx:o.ExactDict)(hd:o.data=.dict es ep)(h1:KeysOf (zaL X.prog X.w) es)(h2:Pairs (zaL X.prog X.w) es.toList vs)(h3:(vs.map (·.1)).Nodup)(h4:KV kvs vs)
 (hi:PE X i ty) (hs:NoSl i) (hg:Gl X x) (hdb:(x == ("__debug__" : Str))=false):PE X (.Subscript (.Name x p') i pos) (tGD kvs ty):=by
 intro pins s Y H Q I h;refine zi0 PySem.F.slot_dict_getitem.lookup hs (zeZ I hg hm (thn (hi pins s Y H _ I h) λiv s2 ⟨y,H2,I2,ry,k,v,ey,ev,q⟩ =>?_) hdb);subst ey;have dd:s2.heap.DictOf (zaL X.prog X.w) p vs:=⟨o,es,ep,I2.kIn _ _ hl,hx,hd,h1,h2,h3⟩
 obtain⟨w',hw,rw'⟩:=RelO.some_of (v:=v) (o:=valueAt vs k) (by rw[<-ev];exact h4.val k);exact⟨dd.typeIs,wpAny_getItem_of (zhT ry) dd.mapOf hw ⟨v,H2,I2.tok _,rw',q⟩⟩
def zlF {ks:List Key}{ds:List D}{fk:FE}(G:GDct X.prog X.w X.K X.mg x ks ds)(hb:VW X b fk)(hg:Gl X x:=by rfl)(hdb:(x == ("__debug__" : Str))=false:=by decide)(hs:NoSl b:=by exact λ_ _=>rfl):VE X (.Subscript (.Name x p') b pos) (e1 (dGet (.dct ks ds)) fk):=by
 obtain⟨p,o,es,ep,kvs,vs,hm,hl,hx,hd,h1,h2,h3,h4,h5,h6⟩:=G.ex;obtain⟨t2,p2,g2⟩:=hb;refine⟨_,zlE hm hl hx hd h1 h2 h3 h4 p2 hs hg hdb,?_⟩;intro Hz Jz O Z Y H J d Q s e w;obtain⟨y,ey,eB⟩:=bind_some e;refine g2 Hz Jz O Z Y H J y _ s ey λv2 H2 J2 u2 r2=>?_
 obtain⟨j,ej,eC⟩:=bind_some (show((keyD y).bind λj=>dLook ks ds j)=some d from eB);obtain⟨v,hv,rv⟩:=zfc h5 (h6 H2 J2) eC;exact⟨j,v,zhl r2 ej,hv,w v H2 J2 u2 rv⟩
end
section
variable {X:Cx}{e:Expr}{fa:FE}{fl:FA}{pos pos':Pos}{x:Str}
def vsS (i:Nat)(hN:X.N.Nodup)(h:VE X e fa)(hi:X.N[i]?=some x:=by rfl)(hx:Loc X.env.scope x:=by first|exact Or.inl rfl|exact Or.inr rfl)(hs:swapsWith e (some (.Name x pos')) pos.line X.env=pure false:=by rfl)(hf:X.fn x=true\/X.env.scope.names.lookup x=some .local:=by first|exact .inl rfl|exact .inr rfl|assumption) :
 VS X (.Assign [.Name x pos'] e pos) (gSet i fa):=zpi hN hi hx h hs hf
def vsO (i:Nat)(hN:X.N.Nodup)(h:VN X e fl)(hi:X.N[i]?=some x:=by rfl)(hx:Loc X.env.scope x:=by first|exact Or.inl rfl|exact Or.inr rfl)(hs:swapsWith e (some (.Name x pos')) pos.line X.env=pure false:=by rfl)(hf:X.fn x=true\/X.env.scope.names.lookup x=some .local:=by first|exact .inl rfl|exact .inr rfl|assumption) :
 VS X (.Assign [.Name x pos'] e pos) (gOwn i fl):=zpj hN hi hx h hs hf
def vgN (i:Nat)(hN:X.N.Nodup)(hi:X.N[i]?=some x:=by rfl)(hx:Loc X.env.scope x:=by first|exact Or.inl rfl|exact Or.inr rfl)(hf:X.fn x=true\/X.env.scope.names.lookup x=some .local:=by first|exact .inl rfl|exact .inr rfl|assumption):VG X (.Name x pos) [i] (gN i):=znh hN hi hx hf
def vgc (i:Nat){X:Cx}{scope:Scope}{cl:List (Str×Addr)}{NC:List Str}{C:Addr}{s0:Shared}{H0:Hp}{ex:List Addr}{pn:List (Addr×Obj)}{x:Str}{pos:Pos}(nd:NC.Nodup:=by decide +kernel)(hi:NC[i]?=some x:=by rfl)(hx:scope.names.lookup x=some .local:=by rfl):VG (cxC X scope cl NC C s0 H0 ex pn) (.Name x pos) [i] (gN i):=vgC i nd hi hx
def fsc {N P:List Str}{sc:Scope}(a:sc.kind=.function:=by rfl)(b:sc.isCoroutine=false:=by rfl)(c:sc.isGenerator=false:=by rfl)(d:N.Nodup:=by decide +kernel)(e:N.take P.length=P:=by rfl)(f:∀x∈P,sc.names.lookup x=some .local\/sc.names.lookup x=some .cell:=by decide +kernel)(g:∀y∈sc.names,y.2≠.free:=by decide +kernel):FnScope N P sc:=⟨a,b,c,d,e,f,g⟩
def vnC (N:List Str)(st:Stmt){X:Cx}{elt iter tg:Expr}{ifs:List Expr}{scope:Scope}{pos:Pos}{NC:List Str}(fr:List (Option Nat)){fi:FA}{g:FG}{is:List Nat}{ft:FT}{fe:FE}(hi:VI X tg iter fi)
 (hg:∀{cl C s0 H0 ex pn},VG (cxC X scope cl NC C s0 H0 ex pn) tg is g) (ht:∀{cl C s0 H0 ex pn},VTs (cxC X scope cl NC C s0 H0 ex pn) ifs ft) (he:∀{cl C s0 H0 ex pn},VE (cxC X scope cl NC C s0 H0 ex pn) elt fe)
 (hcalm:X.calm=true:=by rfl) (hcells:∀x,X.env.scope.names.lookup x=some .cell->∃c,X.env.cells.lookup x=some c:=by exact λx h=>zbU h) (hfk:X.env.scope.kind=.function:=by rfl) (hN:X.N=N:=by rfl) (hsc:X.env.scope.names=(zab st).names:=by rfl)
 (hfree':∀y∈scope.names,y.2=.free->(zab st).names.lookup y.1=some .cell:=by decide +kernel) (hcell:∀y∈scope.names,y.2≠.cell:=by decide +kernel) (hkind:scope.kind=.function:=by rfl) (hnames:∀y∈scope.names,y.2=.local->scope.names.lookup y.1=some .local:=by decide +kernel)
 (hfr':zce N (zab st).names scope.names NC fr=true:=by decide +kernel) (hlen:fr.length=NC.length:=by rfl) (hap:apart is fr=true:=by decide)
 (hs:∀x,foldedSetIterable iter X.env x=pure x:=by intro _;rfl):VN X (.ListComp elt [⟨tg,iter,ifs,0⟩] scope pos) (ze8 fr fi g ft fe):=
 zni N st fr hcalm hi hcells hfk hN hsc hfree' hcell hkind hnames hfr' hlen hap (λ_ _ _ _ _ _=>hg) (λ_ _ _ _ _ _=>ht) (λ_ _ _ _ _ _=>he) hs
end
end VD
namespace EX
open PySem PySem.Spec PySem.W PyProof.Rows
section
variable {prog:Program}{w:World}{A:Around}{E:Value->Shared->Prop}{h:Heap}{g:Array GenState}{d:Drawn}{t:Nat}{os:OsState}
variable {nm q:Str}{C N:Addr}{bs bm bmB:List Value}{hdct:Bool}{sn:List Str}{sub:List Value}{ab:Bool}{col:Option Bool}{dd:Option Addr}{k0 k1 k2 k3 k5:Option Value}{B newId initId:String}
end
section
variable {prog:Program}{w:World}{A:Around}{E:Value->Shared->Prop}{h:Heap}{g:Array GenState}{d:Drawn}{t:Nat}{os:OsState}
variable {nm q:Str}{C N:Addr}{bs bm bmB:List Value}{hdct:Bool}{sn:List Str}{sub:List Value}{ab:Bool}{col:Option Bool}{dd:Option Addr}{k0 k1 k2 k3 k5:Option Value}{B newId:String}
end
section
variable {prog:Program}{w:World}{A:Around}{E:Value->Shared->Prop}{h:Heap}{g:Array GenState}{d:Drawn}{t:Nat}{os:OsState}
variable {C N:Addr}{bm:List Value}{K:Frag}{env:Env}{body:List Stmt}{p0 p1 ap cp:Pos}{J:Expr}{f cda cc e t0:Addr}{of ocd:Obj}{fd:FuncData}{ar:Arg}{vs:Array Value}{file:Str}{tf:Tok}{mg mb m:Str->Option Value}{dx:Option Addr}
end
open Builtin.ObjectAttr
section
variable {prog:Program}{w:World}{A:Around}{E:Value->Shared->Prop}{h:Heap}{g:Array GenState}{d:Drawn}{t:Nat}{os:OsState}
variable {C N x:Addr}{K:Frag}{o:Obj}{name:Str}{v:Value}{Q:Unit->Shared->Prop}{R:Result->Shared->Prop}{s:Shared}
end
section
variable {prog:Program}{w:World}{A:Around}{E:Value->Shared->Prop}{h:Heap}{g:Array GenState}{d:Drawn}{t:Nat}{os:OsState}
variable {C N fI:Addr}{bm:List Value}{slf x nm:Str}{J:Expr}{fd:FuncData}{K:Frag}
end
end EX
namespace EX
open PySem PySem.Spec PyProof.Rows L2
def XAt (h0:Heap)(H:Hp)(h:Heap)(e:Addr)(cls:Value)(dx:Option Addr):Prop:=
 h0.objs.size<=e/\H e=none/\(∀d,dx=some d->h0.objs.size<=d)/\∃vs sl,h.get? e=some ⟨cls,dx,.fields vs,sl⟩ /\(vs[1]?=some .none\/∃T oT ts,vs[1]?=some (.ref T)/\T≠e/\h0.objs.size<=T/\H T=none/\h.get? T=some oT/\oT.data=.fields ts/\ts[3]?=some .none)
section
variable {M:Model}{A:Around}{E:Value->Shared->Prop}{s:Shared}{h0 base:Heap}{H:Hp}{env:Env}{outer:List Env}{L e:Addr}{cls:Value}{dx:Option Addr}{vs:Array Value}{sl:Array (Option Value)}
end
def CXE (P:Program)(w:World):CXT:=λouter H s E e s'=>∃a cls dx H',e=.ref a/\XAt s.heap H' s'.heap a cls dx/\s'.os=s.os/\AllBare s'.gens/\Un (frs outer) [] H H' s.heap s'.heap/\HOk P w H' s'.heap/\E cls dx H'
section
variable {M:Model}{A:Around}{E:Value->Shared->Prop}{env:Env}
variable {nm q:Str}{C N:Addr}{bs bm:List Value}{hdct:Bool}{sn:List Str}{sub:List Value}{ab:Bool}{col:Option Bool}{dd:Option Addr}{k0 k1 k2 k3 k5:Option Value}{newId:String}
end
section
variable {X:Cx}{C N fI:Addr}{bm:List Value}{slf x nm cn:Str}{J e:Expr}{fd:FuncData}{te:TA}{E:XK}{np cp pos:Pos}{k:Nat}
end
def XP (X:Cx)(pins:List (Addr×Obj))(Y:L2.St)(E:XK)(e:Value)(s':Shared):Prop:=∃H1 s1,Inv X pins Y H1 s1/\CXE X.prog X.w X.stack H1 s1 E e s'
section
variable {X:Cx}{pins:List (Addr×Obj)}{Y:L2.St}{E:XK}{e:Value}{s':Shared}{Ex:Value->Shared->Prop}
end
section
variable {X:Cx}{pins:List (Addr×Obj)}{Y:L2.St}{H:Hp}{s:Shared}
end
section
variable {X:Cx}{pins:List (Addr×Obj)}{Y:L2.St}{H:Hp}{s:Shared}
end
section
variable {X:Cx}{pins:List (Addr×Obj)}{Y:L2.St}{H:Hp}{s:Shared}{e:Value}
end
abbrev TX:=Ends->XK->L2.St->Hp->Prop
section
variable {X:Cx}{T n:Str}{tp hp pos:Pos}{body suite:List Stmt}{b₀:Stmt}{CT:Addr}{i:Nat}{tb:TX}{th:TS}
end
section
variable {X:Cx}{k:Nat}{f:Addr}{fd:FuncData}{ps:List Str}{sp:Sp}{dvs:List V}{ds:List Value}{x:Str}{p pos:Pos}{e:Expr}{es:List Expr}{t:TA}{te:TEX}
end
end EX
namespace EX
open PySem PySem.Spec PySem.W PyProof.Rows
section
variable {prog:Program}{w:World}{A:Around}{E:Value->Shared->Prop}{h:Heap}{g:Array GenState}{d:Drawn}{t:Nat}{os:OsState}
variable {C x:Addr}{K:Frag}{ox:Obj}{od:Option Obj}{name:Str}{v:Value}{expr:Bool}{Q:Value->Shared->Prop}
end
section
variable {prog:Program}{w:World}{A:Around}{E:Value->Shared->Prop}{h:Heap}{g:Array GenState}{d:Drawn}{t:Nat}{os:OsState}
variable {C x:Addr}{K:Frag}{ox:Obj}{od:Option Obj}
end
section
variable {prog:Program}{w:World}{K:Frag}{fd:FuncData}{fI:Addr}{x p y:Str}{tk0:Tok}{h0:Heap}{cp np fp jp:Pos}{k:Nat}
end
end EX
namespace EX
open PySem PySem.Spec PyProof.Rows L2
section
variable {X:Cx}{pins:List (Addr×Obj)}{Y:L2.St}{H:Hp}{s:Shared}{A:Around}{E:Value->Shared->Prop}{C a d:Addr}{oa od:Obj}{f:Str}{fs:List (Str×V)}{v:V}{expr:Bool}{Q:Value->Shared->Prop}
end
end EX
namespace EX
open PySem PySem.Spec PySem.W PyProof.Rows
section
variable {prog:Program}{w:World}{A:Around}{E:Value->Shared->Prop}{h:Heap}{g:Array GenState}{d:Drawn}{t:Nat}{os:OsState}
variable {nm q:Str}{C N:Addr}{bs bm bmB:List Value}{hdct:Bool}{sn:List Str}{sub:List Value}{ab:Bool}{col:Option Bool}{dd:Option Addr}{k0 k1 k2 k3 k5:Option Value}{B newId initId:String}
end
open L2
section
variable {X:Cx}{C N:Addr}{bm:List Value}{cn:Str}{e:Expr}{te:TA}{E:XK}{np cp pos:Pos}{k:Nat}
end
section
variable {X:Cx}{pins:List (Addr×Obj)}{Y:L2.St}{H:Hp}{s:Shared}{A:Around}{E:Value->Shared->Prop}{C a:Addr}{oa:Obj}{Q:Value->Shared->Prop}
end
end EX
namespace VD
open PySem PySem.Spec PyProof PyProof.Rows L2 EX
section
variable {K:W.Frag}{H H' H1 Hz:Hp}{J J' J1 Jz:Addr->Prop}{O:Pr}{Z:En}{Y:L2.St}{x:D}{E:XK}
end
section
variable {X:Cx}{k k':Nat}{x:Str}{ps:List Str}{F:List D->Option D}{e:Expr}{es:List Expr}{fl:FA}{f:FE}{p pos:Pos}
end
section
variable {X:Cx}{E:XK}{st:Stmt}{sts:List Stmt}{g g2:FS}{pos:Pos}{e a:Expr}{fa:FE}{fl:FA}{ft:FT}
end
section
variable {X:Cx}{E:XK}{c nm:Str}{ok:D->Bool}{e:Expr}{fa:FE}{k:Nat}{np cp pos:Pos}
end
section
variable {X:Cx}{body ss:List Stmt}{e:Expr}{pos:Pos}{f fx:FE}{ft:FT}
end
section
variable {X:Cx}{a e:Expr}{fa:FE}{p q pos:Pos}{T:Str}{cv:V}{u:Value}{tab:List (Str×Bool)}
end
section
variable {X:Cx}{E:XK}{fa:FE}{pos:Pos}
end
section
variable {K:W.Frag}{mg:Str->Option Value}{c T f:Str}{C CT:Addr}{cv:Value}{b:Bool}{tab:List (Str×Bool)}{Cs:List Addr}{cs:List Str}
end
section
variable {X:Cx}{e a b c:Expr}{es:List Expr}{f fx:FE}{fa:FE}{ft:FT}{pos:Pos}
end
section
variable {X:Cx}{k k':Nat}{x:Str}{p:Pos}{es fs:List Expr}{e ie:Expr}{fl:FA}{fi:FE}{g:List D->Option D}{gs:List (List D->Option D)}{pos lp sp:Pos}
end
section
variable {prog:Program}{w:World}{K:W.Frag}{fd:FuncData}{fI:Addr}{x p:Str}{cp np fp jp:Pos}{k:Nat}
end
section
variable {X:Cx}{k k':Nat}{x:Str}{ps:List Str}{F:List D->Option D}{e:Expr}{es:List Expr}{fl:FA}{f:FE}{p pos:Pos}{Pc:Hp->Prop}
end
variable {X:Cx}{f:FE}{e:Expr}{es:List Expr}{fl:FA}{p pos:Pos}
end VD
namespace VD
open PySem PySem.Spec PyProof PyProof.Rows L2
def zf2 (Z:En)(g:FG)(fk fv:FE)(d:D):Option (Key×D):=(g d Z).bind λZ1=>(fk Z1).bind λk=>(keyD k).bind λk=>(fv Z1).bind λv=>some (k,v)
def zen (f:D->Option (Key×D)):List D->List Key×List D->Option (List Key×List D)
|[],a=>some a
|d::ds,a=>(f d).bind λp=>if a.1.length<lim then zen f ds (putKD a.1 a.2 p.1 p.2) else none
def zmu (fr:List (Option Nat))(fi:FA)(g:FG)(fk fv:FE):FE:=λZ=>(fi Z).bind λds=>(zen (zf2 (zaS Z fr) g fk fv) ds ([],[])).bind λr=>some (.dct r.1 r.2)
def zlG {K:W.Frag}{fr:List (Option Nat)}{wi:TI}{fi:FA}{g:FG}{is:List Nat}{fk fv:FE}(hi:GoI K wi fi)(hon:∀d Z Z',g d Z=some Z'->Only is Z Z')(hap:apart is fr=true) :
 GoE K (zi4 fr wi (TGof K g) (TTof K tTrue) (TEof K fk) (TEof K fv)) (zmu fr fi g fk fv):=by
 intro Hz Jz O Z Y H J out Q s e w;obtain⟨ds,e1,e⟩:=bind_some e;obtain⟨r,e2,e⟩:=bind_some e;cases e;refine hi Hz Jz O Z Y H J ds _ s e1 λI H1 J1 u1 src=>?_
 intro Da hD;have hD0:Hz Da=none:=(s.free (u:=u1) hD)
 have nJ1:¬J1 Da:=λj=>u1.ja Da j hD
 refine⟨λi m ys Y2 H2=>m=ds.length - i/\i<=ds.length/\∃J2 ks dn,ST K Hz Jz O.blk (zaS Z fr) Y2 H2 J2/\Up H1 J1 H2 J2/\¬J2 Da/\Keep K H1 J1 H2 J2/\ys.map (·.1)=ks/\RpL K H2 J2 (ys.map (·.2)) dn/\zen (zf2 (zaS Z fr) g fk fv) (ds.drop i) (ks,dn)=some r,⟨ds.length,by simp,wbn _,?_⟩,?_⟩
 .have un:=Up.new u1.ja hD (.dK [])
  exact⟨J1,[],[],((s.up u1).up un).pick fr,un,nJ1,un.keep,rfl,.nil,by simpa using e2⟩
 .rintro i m ys Y2 H2 ⟨rfl,hil,J2,ks,dn,s2,u2,nj2,k2,ek,r2,ec⟩ hys;obtain⟨stop,turn⟩:=src H2 J2 k2 s2.ja;by_cases hlt:i<ds.length
  .right
   have hd:ds[i]?=some ds[i]:=wap hlt
   generalize hdd:ds[i]=d at hd;obtain⟨go,yl⟩:=turn i d hd;have edrop:ds.drop i=d::ds.drop (i+1):=by rw[<-hdd];exact(wbD hlt).symm
   rw[edrop] at ec;obtain⟨p,ep,ec⟩:=bind_some (show((zf2 (zaS Z fr) g fk fv d).bind λp=>if ks.length<lim then zen (zf2 (zaS Z fr) g fk fv) (ds.drop (i+1)) (putKD ks dn p.1 p.2) else none)=some r from ec);by_cases hl:ks.length<lim
   .rw[if_pos hl] at ec;obtain⟨Z1,eg,ep⟩:=bind_some ep;obtain⟨kd,ekd,ep⟩:=bind_some ep;obtain⟨kk,ekk,ep⟩:=bind_some ep;obtain⟨vd,evd,ep⟩:=bind_some ep;cases ep;refine⟨go,λzs Y' H'=>∃J2 ks dn,ST K Hz Jz O.blk (zaS Z fr) Y' H' J2/\Up H1 J1 H' J2/\¬J2 Da/\Keep K H1 J1 H' J2/\zs.map (·.1)=ks/\RpL K H' J2 (zs.map (·.2)) dn/\zen (zf2 (zaS Z fr) g fk fv) (ds.drop (i+1)) (ks,dn)=some r,λzs Y' H' h=>⟨ds.length - (i+1),by omega,rfl,hlt,h⟩,λx H3 y=>?_⟩;obtain⟨J3,u3,r3⟩:=yl x H3 y;have wk:Weak (zaS Z fr) Z1:=ze9 (hon _ _ _ eg) hap
    refine⟨Hz,Jz,O.blk,zaS Z fr,J3,d,Z1,s2.up u3,r3,eg,λY4 s4=>?_⟩;refine⟨Hz,Jz,O.blk,Z1,J3,true,s4,rfl,λH5 J5 u5=>?_⟩;refine⟨λ_=>?_,λz=>by cases z⟩;refine⟨Hz,Jz,O.blk,Z1,J5,kd,s4.up u5,ekd,λvk H6 J6 u6 r6=>?_⟩;refine⟨Hz,Jz,O.blk,Z1,J6,vd,(s4.up u5).up u6,evd,λv H7 J7 u7 r7=>?_⟩;have u27:=((u3.trans u5).trans u6).trans u7
    have nj7:¬J7 Da:=λj=>by
     rcases u27.jn Da j with j|j
     .exact nj2 j
     .rw[hys] at j;cases j
    have hy7:H7 Da=some (.dK ys):=u27.same _ _ hys
    have kA:Keep K H7 J7 (upd H7 Da (.dK (putK ys kk v))) J7:=zch hy7 nj7
    obtain⟨p1,p2⟩:=zns (j:=kk) ek (r2.keep u27.keep) r7;refine⟨kk,zhl (.inl r6) ekk,hy7,?_,J7,_,_,?_,(u2.trans u27).at (ys:=[]) hD,nj7,(k2.trans u27.keep).trans kA,p1,p2.keep kA,ec⟩
    .have:ys.length=ks.length:=by rw[<-ek,wad]
     rw[this];exact war hl (wbp zd5)
    .exact((((s4.up u5).up u6).up u7).weak wk rfl).at (zcg Z fr) hy7 nj7 hD0
   .rw[if_neg hl] at ec;cases ec
  .left
   have hi':i=ds.length:=by omega
   subst hi';rw[wbZ] at ec;cases ec;refine⟨stop,?_⟩;have hnone:H Da=none:=u1.same.free hD
   have ut:Up H J H2 J2:=u1.trans u2
   refine w (.ref Da) H2 (λb=>J2 b\/b=Da) ⟨ut.same,λb h=>.inl (ut.jj b h),λb h=>?_,λb h=>?_⟩ (.dct hys (.inr rfl) ek rfl ?_)
   .rcases h with h|rfl
    .exact ut.jn b h
    .exact .inr hnone
   .rcases h with h|rfl
    .exact ut.ja b h
    .rw[hys];simp
   .exact r2.keep ⟨λ_ h=>.inl h,λ_ _ _ h=>h,λ_ _ h=>h⟩
section
variable {X:Cx}{kx vx iter tg:Expr}{scope:Scope}{pos:Pos}{NC:List Str}{fi:FA}{g:FG}{is:List Nat}{fk fv:FE}
def zlH (i:Nat){x:Str}{pos' cp:Pos}(hND:X.N.Nodup)(N:List Str)(st:Stmt)(fr:List (Option Nat))(hi:VI X tg iter fi)
 (hg:∀{cl C s0 H0 ex pn},VG (cxC X scope cl NC C s0 H0 ex pn) tg is g) (hk:∀{cl C s0 H0 ex pn},VE (cxC X scope cl NC C s0 H0 ex pn) kx fk) (hv:∀{cl C s0 H0 ex pn},VE (cxC X scope cl NC C s0 H0 ex pn) vx fv)
 (hcalm:X.calm=true:=by rfl) (hcells:∀x,X.env.scope.names.lookup x=some .cell->∃c,X.env.cells.lookup x=some c:=by exact λx h=>zbU h) (hfk:X.env.scope.kind=.function:=by rfl) (hN:X.N=N:=by rfl) (hsc:X.env.scope.names=(zab st).names:=by rfl)
 (hfree':∀y∈scope.names,y.2=.free->(zab st).names.lookup y.1=some .cell:=by decide +kernel) (hcell:∀y∈scope.names,y.2≠.cell:=by decide +kernel) (hkind:scope.kind=.function:=by rfl) (hnames:∀y∈scope.names,y.2=.local->scope.names.lookup y.1=some .local:=by decide +kernel)
 (hfr':zce N (zab st).names scope.names NC fr=true:=by decide +kernel) (hlen:fr.length=NC.length:=by rfl) (hap:apart is fr=true:=by decide)
 (hs:∀x,foldedSetIterable iter X.env x=pure x:=by intro _;rfl) (hix:X.N[i]?=some x:=by rfl) (hx:Loc X.env.scope x:=by first|exact Or.inl rfl|exact Or.inr rfl) (hsw:swapsWith (.DictComp kx vx [⟨tg,iter,[],0⟩] scope cp) (some (.Name x pos')) pos.line X.env=pure true:=by rfl)
 (hf:X.fn x=true\/X.env.scope.names.lookup x=some .local:=by first|exact .inl rfl|exact .inr rfl|assumption):VS X (.Assign [.Name x pos'] (.DictComp kx vx [⟨tg,iter,[],0⟩] scope cp) pos) (gSet i (zmu fr fi g fk fv)):=by
 obtain⟨wi,pi,gi⟩:=hi;obtain⟨_,_,hon,_⟩:=@hg [] 0 X.s₀ X.Hz [] [];exact⟨_,zkR hND hix hx N st fr hcalm pi hcells hfk hN hsc hfree' hcell hkind hnames hfr' hlen (λ_ _ _ _ _ _=>hg.of) (λ_ _ _ _ _ _=>show PTs _ [] (TTof X.K tTrue) from zeb) (λ_ _ _ _ _ _=>hk.of) (λ_ _ _ _ _ _=>hv.of) hs hsw hf,zjj (zlG gi hon hap)⟩
end
end VD
namespace EX
open PySem PySem.Spec PySem.W PyProof.Rows
section
variable {prog:Program}{w:World}{K:Frag}{fd:FuncData}{fI:Addr}{x p q y:Str}{tk0:Tok}{h0:Heap}{cp cq np fp jp:Pos}{k k2:Nat}
end
end EX
namespace VD
open PySem PySem.Spec PyProof PyProof.Rows L2 EX
section
variable {X:Cx}{E:XK}{c:Str}{e:Expr}{fa:FE}{k:Nat}{np cp pos:Pos}
end
end VD
namespace VD
open PySem PySem.Spec PyProof PyProof.Rows L2
def Its (y:Str):It:=⟨λi _=>i<y.cps.size,λi H x H'=>H'=H/\∃c,y.cps[i]?=some c/\x=.str ⟨#[c]⟩,λi _=>i=y.cps.size⟩
def zhv {P:Program}{w:World}{K:W.Frag}{tg:Expr}{it:Addr}{y:Str}{t:Tok}{ty:String}(W:∀A:Around,A.handled=none->Walks P w A it [it] [it] y.cps.size (SignAt y) (λi h=>h.IsStrIter it ty y t i))
 (hS:∀(A:Around) (i:Nat) (s:Shared) (Q:Value->Shared->Prop) (E:Value->Shared->Prop),s.heap.IsStrIter it ty y t i->Q (.ref it) s->wpAny (model P w) A (pyIter (.ref it)) Q E s)
 (hty:["enumerate","zip","dict_itemiterator","dict_reverseitemiterator","odict_iterator","itertools.zip_longest","itertools.pairwise"].contains ty=false):Turn P w K tg (Its y) [it] it (λi h=>h.IsStrIter it ty y t i) where
 mem:=by simp
 obj:=λi h st b hb=>by
  rw[waf.mp hb];obtain⟨o,e,c,d⟩:=st;exact⟨o,e,λv z=>by rw[d] at z;cases z⟩
 keep:=λi h h' st k=>let ⟨o,e,r⟩:=st;⟨o,k it (by simp) o e,r⟩
 item:=by
  intro X hP hw hK hc i pins s Y H E I hf st hg;subst hP hw hK;obtain⟨f0,f1,f2,f3,f4,f5⟩:=hf it (by simp);refine(W X.A (I.ok.hd hc)).item i s _ _ hg st λv h' tk hv st' kk=>?_
  obtain⟨c,u,hc1,rfl⟩:=hv;have I1:Inv X pins Y H {s with heap:=h',toks:=tk}:=I.turned (λb o hb e=>kk b o (by simpa using hb) e) f0 f1 f3 f4 f5
  obtain⟨o,e,c',d⟩:=id st';exact⟨_,rfl,zhK (s:={s with heap:=h',toks:=tk}) e c' d hty ⟨.str ⟨#[c]⟩,H,I1,⟨u,rfl⟩,⟨rfl,c,hc1,rfl⟩,st',λb hb=>(hf b hb).1⟩⟩
 done:=by
  intro X hP hw hK hc i pins s Y H E I hf st hg;subst hP hw hK;obtain rfl:i=y.cps.size:=hg;obtain⟨f0,f1,f2,f3,f4,f5⟩:=hf it (by simp);exact(W X.A (I.ok.hd hc)).done s _ _ st λh' tk eb=>⟨rfl,I.turned (λb o hb e=>eb b o (by simpa using hb) e) f0 f1 f3 f4 f5⟩
 self:=hS
def iStr (tl:TE):TI:=λY H R=>tl Y H λx H1=>∃y,x=.str y/\R (Its y) H1
section
variable {X:Cx}{tg a b:Expr}{fa fb:FE}{pos:Pos}
def zpL {l:Expr}{tl:TE}(hl:PE X l tl):PI X tg l (iStr tl):=by
 intro pins s Y H R I h;refine thn (hl pins s Y H _ I h) λv s1 ⟨x,H1,I1,r1,y,e,q⟩ =>?_
 subst e;obtain⟨t,rfl⟩:=r1;have fin:∀(ty:String) (o:Obj) (_:o = {cls:=.type ty,data:=.fields #[.str y t,.int 0 0]}),Turn X.prog X.w X.K tg (Its y) [s1.heap.objs.size] s1.heap.objs.size (λi h=>h.IsStrIter s1.heap.objs.size ty y t i)->PIE X pins Y tg R (.ref s1.heap.objs.size) {s1 with heap:=s1.heap.push o}:=λty o eo T=>by
  subst eo;refine⟨s1.heap.objs.size,[s1.heap.objs.size],_,_,H1,rfl,I1.kept (t':=s1.toks) λb o e=>wag _ e,T,⟨_,wau _ rfl,rfl,rfl⟩,λb hb=>?_,q⟩;rw[waf.mp hb];exact I1.fpOk (wal _) (I1.hok.fresh (wal _))
 cases ha:y.cps.all (·<128)
 .exact wpAny_pyIter_wide ha (fin _ _ rfl (zhv (λA hA=>Walks.strWide hA _ y t) (λ_ _ _ _ _ a b=>wpAny_pyIter_striter_wide a b) (by decide)))
 .exact wpAny_pyIter_ascii ha (fin _ _ rfl (zhv (λA hA=>Walks.strAscii hA _ y t) (λ_ _ _ _ _ a b=>wpAny_pyIter_striter_ascii a b) (by decide)))
def zpM:D->Option (List D)
|.str y=>some (y.cps.toList.map λc=>.str ⟨#[c]⟩)
|_=>none
def zqZ (f:FE):FA:=λZ=>(f Z).bind zpM
def zpN (h:VE X a fa):VI X tg a (zqZ fa):=by
 obtain⟨t,p,g⟩:=h;refine⟨_,zpL p,?_⟩;intro Hz Jz O Z Y H J ds R s e w;obtain⟨x,e1,e⟩:=bind_some e;cases x with
|str y=>
   cases e;refine g Hz Jz O Z Y H J _ _ s e1 λv H1 J1 u1 r1=>?_
   cases r1;refine⟨y,rfl,w _ H1 J1 u1 λH2 J2 k ja=>?_⟩;refine⟨by show _=_;simp,λi d hd=>?_⟩;rw[waj] at hd;obtain⟨c,hc,rfl⟩:=wbC.mp hd;have hc:y.cps[i]?=some c:=by simpa using hc
   have hi:i<y.cps.size:=(Array.getElem?_eq_some_iff.mp hc).1
   refine⟨hi,λx H3 z=>?_⟩;obtain⟨rfl,c',hc',rfl⟩:=z;rw[hc] at hc';cases hc';exact⟨J2,Up.refl ja,.str _⟩
|_=>cases e
def inTx (a b:Str):Bool:=!(Builtin.Str.occurrences b a 0 b.length 1).isEmpty
def rInS (neg:Bool):R2:=λx y H Q=>∃a b,x=.str a/\y=.str b/\Q (.bl (if neg then !inTx a b else inTx a b)) H
def zpO:OpR X (compareOp .In) (rInS false):=by
 intro pins s Y H x y v u Q I rx ry ⟨a,b,e1,e2,q⟩;subst e1 e2;obtain⟨t1,rfl⟩:=rx;obtain⟨t2,rfl⟩:=ry;exact in_str ⟨.bl _,H,I,rfl,q⟩
def dInS (neg:Bool):D->D->Option D
|.str a,.str b=>some (.bl (if neg then !inTx a b else inTx a b))
|_,_=>none
def zpP {K:W.Frag}(neg:Bool):Im2 K (rInS neg) (dInS neg):=by
 intro H J x y d e d' Q ja hx hy hF w;cases d with
|str p=>cases e with
  |str q=>cases hF;exact⟨p,q,hx.str,hy.str,w _ H J (Up.refl ja) (.bl _)⟩
  |_=>cases hF
|_=>cases hF
end
def un6:D->Option (D×D×D×D×D×D)
|.tup [a,b,c,d,e,f]=>some (a,b,c,d,e,f)
|_=>none
def zlI {d:D}{y:D×D×D×D×D×D}(h:un6 d=some y):d=.tup [y.1,y.2.1,y.2.2.1,y.2.2.2.1,y.2.2.2.2.1,y.2.2.2.2.2]:=by
 unfold un6 at h;split at h
 .cases h;rfl
 .cases h
def tg_6 {Z:En}{d:D}{i j l m n o:Nat}(h1:okS i Z=true)(h2:∀x,okS j (Z.set i (.val x))=true)(h3:∀x y,okS l ((Z.set i (.val x)).set j (.val y))=true)(h4:∀x y z,okS m (((Z.set i (.val x)).set j (.val y)).set l (.val z))=true)(h5:∀x y z w,okS n ((((Z.set i (.val x)).set j (.val y)).set l (.val z)).set m (.val w))=true)(h6:∀x y z w v,okS o (((((Z.set i (.val x)).set j (.val y)).set l (.val z)).set m (.val w)).set n (.val v))=true) :
 Tg (gT 6 (gCons' (gN i) (gCons' (gN j) (gCons' (gN l) (gCons' (gN m) (gCons' (gN n) (gCons' (gN o) gNil'))))))) d Z (un6 d) λy=>(((((Z.set i (.val y.1)).set j (.val y.2.1)).set l (.val y.2.2.1)).set m (.val y.2.2.2.1)).set n (.val y.2.2.2.2.1)).set o (.val y.2.2.2.2.2):=λy e=>by
 rw[zlI e];show((gN i y.1 Z).bind λZ1=>(gN j y.2.1 Z1).bind λZ2=>(gN l y.2.2.1 Z2).bind λZ3=>(gN m y.2.2.2.1 Z3).bind λZ4=>(gN n y.2.2.2.2.1 Z4).bind λZ5=>(gN o y.2.2.2.2.2 Z5).bind λZ6=>gNil' [] Z6)=_
 rw[zfX h1,zOB,zfX (h2 _),zOB,zfX (h3 _ _),zOB,zfX (h4 _ _ _),zOB,zfX (h5 _ _ _ _),zOB,zfX (h6 _ _ _ _ _)];rfl
def dSlW:D->Option Int->Option Int->Option D
|.tup ds,lo,hi=>some (.tup (cut ds lo hi))
|x,lo,hi=>dSl x lo hi
def eSlW (f:FE)(lo hi:FO):FE:=λZ=>(f Z).bind λx=>(lo Z).bind λl=>(hi Z).bind λh=>dSlW x l h
section
variable {X:Cx}{a b:Expr}{fa fb:FE}{pos p2:Pos}
def znL {ds:List D}{lo hi:Option Int}(h0:HT.sIx ds.length 0 lo=0)(h1:HT.sIx ds.length ds.length hi=ds.length):VD.cut ds lo hi=ds:=by
 unfold VD.cut;rw[h0,h1];simp
def zf3 {lo hi:Option Expr}{fl fh:FO}(ha:VW X a fa)(hl:VO X lo fl)(hh:VO X hi fh):VE X (.Subscript a (.Slice lo hi none p2) pos) (eSlW fa fl fh):=by
 obtain⟨t,p,g⟩:=ha;obtain⟨tl,pl,gl⟩:=hl;obtain⟨th,ph,gh⟩:=hh;refine⟨_,ze3 (r:=λx lo hi H Q=>rSlD X.K x lo hi H Q\/rSlW X.K x lo hi H Q) (SlR.or (sl_list.or (sl_tup.or ziS)) zkS) p pl ph,?_⟩;intro Hz Jz O Z Y H J d Q s e w;obtain⟨x,e1,e⟩:=bind_some e;obtain⟨l,e2,e⟩:=bind_some e;obtain⟨h,e3,e⟩:=bind_some e;refine g Hz Jz O Z Y H J x _ s e1 λv H1 J1 u1 r1=>?_
 refine gl Hz Jz O Z Y H1 J1 l _ (s.up u1) e2 λH2 J2 u2=>?_
 refine gh Hz Jz O Z Y H2 J2 h _ (s.up (u1.trans u2)) e3 λH3 J3 u3=>?_
 have r3:=r1.up (u2.trans u3)
 have u:=u1.trans (u2.trans u3)
 match x,e with
|.lst ds,e=>
   cases e;obtain⟨p,vs,rfl,h1,rl⟩:=r3.lst;refine .inl (.inl ⟨p,vs,rfl,SqL.of h1,λc hc=>?_⟩);have un:=Up.newJ u3.ja hc (.lst (cutV vs l h))
   exact w _ _ _ (u.trans un) (.lst zah (.inr rfl) ((rl.cut l h).keep un.keep))
|.tup ds,e=>
   cases e;obtain⟨p,vs,rfl,h1,rl⟩:=r3.tup;by_cases hc:HT.sIx ds.length 0 l=0/\HT.sIx ds.length ds.length h=ds.length
   .refine .inr ⟨p,vs,rfl,h1,by rw[rl.length];exact hc.1,by rw[rl.length];exact hc.2,?_⟩;rw[show cut ds l h=ds from znL hc.1 hc.2] at w;exact w _ H3 J3 u (.tup h1 rl)
   .refine .inl (.inr (.inl ⟨p,vs,rfl,h1,by rw[rl.length];exact hc,λc hc=>?_⟩));have un:=Up.new u3.ja hc (.tup (cutV vs l h))
    exact w _ _ _ (u.trans un) (.tup (SqT.of zah) ((rl.cut l h).keep un.keep))
|.str z,e=>
   have e:(if z.length<=lim then some (D.str (Txt.slice z l h)) else none)=some d:=e
   by_cases hl:z.length<=lim
   .rw[if_pos hl] at e;cases e;rw[r3.str];exact .inl (.inr (.inr ⟨z,rfl,zbV hl,w _ H3 J3 u (.str _)⟩))
   .rw[if_neg hl] at e;cases e
def zhw:List D->Option (List D)
|[.lst ds]=>some ds
|[.tup ds]=>some ds
|_=>none
def znM {es:List Expr}{e:Expr}{fl:FA}{p:Pos}(B:Blt X.mg)(ha:VAW X (e::es) fl)(hg:Gl X "list":=by rfl)
 (he:starEach (e::es) X.env=(false,eval e X.env)::starEach es X.env:=by rfl) (hpl:(backTo pos (starEach es X.env)).any (·.1)=false:=by rfl):VN X (.Call (.Name "list" p) (e::es) [] pos) (λZ=>(fl Z).bind zhw):=by
 obtain⟨t,p,g⟩:=ha;refine⟨_,pty zfK B boot_list p (by decide +kernel) hg (by decide) (by decide) he hpl,?_⟩;intro Hz Jz O Z Y H J d Q s e w;obtain⟨ds,e1,e⟩:=bind_some e;refine g Hz Jz O Z Y H J ds _ s e1 λvs H1 J1 u1 r1=>?_
 match ds,r1,e with
|[.lst ds],r,hF=>
   obtain⟨v,rfl,rr⟩:=r.one;cases hF;obtain⟨p,us,rfl,h1,rl⟩:=rr.lst;refine⟨p,us,rfl,.inl (SqL.of h1),λc hc=>?_⟩;have un:=Up.new u1.ja hc (.lst us)
   exact w c _ _ J1 (u1.trans un) (u1.same.free hc) (λj=>u1.ja c j hc) zah (rl.keep un.keep)
|[.tup ds],r,hF=>
   obtain⟨v,rfl,rr⟩:=r.one;cases hF;obtain⟨p,us,rfl,h1,rl⟩:=rr.tup;refine⟨p,us,rfl,.inr h1,λc hc=>?_⟩;have un:=Up.new u1.ja hc (.lst us)
   exact w c _ _ J1 (u1.trans un) (u1.same.free hc) (λj=>u1.ja c j hc) zah (rl.keep un.keep)
end
end VD
namespace VD
open PySem PySem.Spec PyProof PyProof.Rows L2 EX
end VD
namespace VD
open PySem PySem.Spec PyProof PyProof.Rows L2
def zq0:List D->Option (List D)
|[.lst ds]=>some ds
|[.tup ds]=>some ds
|_=>none
def zhx (l:List D):Option (List D):=(zq0 l).bind λds=>some (zdM ds)
def zpQ (f:FA):FA:=λZ=>(f Z).bind zhx
section
variable {X:Cx}{a b:Expr}{fl:FA}{pos p p2:Pos}
def zlJ {elts:List Expr}{x1}{tpos:Pos}(B:Blt X.mg)(ha:VA X [a] fl)(hg:Gl X "enumerate":=by rfl)(hs:starEach [a] X.env = [(false,eval a X.env)]:=by rfl):VI X (.Tuple elts x1 tpos) (.Call (.Name "enumerate" p) [a] [] pos) (zpQ fl):=by
 obtain⟨t,q,g⟩:=ha;refine⟨_,zpg (zkT hg (B.get "enumerate") q hs) (ziX hg (B.get "enumerate") q hs),?_⟩;intro Hz Jz O Z Y H J ds R s e w;obtain⟨l,e1,e⟩:=bind_some e;obtain⟨xs,e2,e⟩:=bind_some e;cases e;match l,e2 with
|[.lst _],e2=>
   cases e2;refine .inl (g Hz Jz O Z Y H J _ _ s e1 λvs H1 J1 u1 r1=>?_);cases r1 with
  |cons h t=>
     cases t;cases h with
    |lst h j r=>
       refine⟨_,rfl,⟨_,SqL.of h⟩,w _ H1 J1 u1 λH2 J2 k ja=>?_⟩;have h2:=SqL.of (K:=X.K) (k.jo _ _ j h)
       refine⟨⟨_,h2,by rw[r.length,zcA];exact wal _⟩,λi d hd=>?_⟩;obtain⟨x,hx,rfl⟩:=zd9 hd;obtain⟨v,hv,rv⟩:=r.get hx;refine⟨⟨_,v,h2,hv⟩,λy H3 hy=>?_⟩;obtain⟨q,hn,rfl,hy⟩:=hy;obtain⟨y,ey,rfl⟩:=hy _ h2;rw[hv] at ey;cases ey;have un:=Up.new ja hn (.tup [.int (i:Nat),v])
       exact⟨J2,un,.tup (SqT.of zah) (.cons (.int _) (.cons ((rv.keep k).keep un.keep) .nil))⟩
|[.tup _],e2=>
   cases e2;refine .inr (g Hz Jz O Z Y H J _ _ s e1 λvs H1 J1 u1 r1=>?_);cases r1 with
  |cons h t=>
     cases t;cases h with
    |tup h r=>
       refine⟨_,rfl,⟨_,h⟩,w _ H1 J1 u1 λH2 J2 k ja=>?_⟩;have h2:=k.tp _ _ h
       refine⟨⟨_,h2,by rw[r.length,zcA];exact wal _⟩,λi d hd=>?_⟩;obtain⟨x,hx,rfl⟩:=zd9 hd;obtain⟨v,hv,rv⟩:=r.get hx;refine⟨⟨_,v,h2,hv⟩,λy H3 hy=>?_⟩;obtain⟨q,hn,rfl,hy⟩:=hy;obtain⟨y,ey,rfl⟩:=hy _ h2;rw[hv] at ey;cases ey;have un:=Up.new ja hn (.tup [.int (i:Nat),v])
       exact⟨J2,un,.tup (SqT.of zah) (.cons (.int _) (.cons ((rv.keep k).keep un.keep) .nil))⟩
def zjJ {sts:List Stmt}:VSs X sts gNo:=⟨_,zir,λHz Jz O Z Y H J o E s e w=>by cases e⟩
end
section
variable {X:Cx}{K:W.Frag}{a b e:Expr}{es:List Expr}{fa fb fk:FE}{fv:FX}{fl:FA}{pos p2:Pos}{H H':Hp}{J J':Addr->Prop}
end
section
variable {K:W.Frag}{H H' Hz:Hp}{J J' Jz:Addr->Prop}{Z:En}{Y:L2.St}{O:Pr}{fp:Nat->List Addr}
end
end VD
namespace GX
open PySem PySem.Spec PyProof PyProof.Rows L2
abbrev GP:=Nat->Shared->Prop
def zhY (n:Nat)(P:Nat->Value->Prop)(Mid St:GP):Protocol:=λm _ v s kap=>
 ∃i,i+1+m=n/\P i v/\Mid (i+1) s/\∀s'':Shared,St (i+1) s''->kap (.send .none) s''
def gend (Dn:Shared->Prop):GenEnd:=λm _ r s₁=>r=.ok .next/\(m=0/\Dn s₁)
def zbs (elt target iter:Expr)(scope:Scope)(pos:Pos)(it:Value)(cenv:Env):Code:=.compLoop (.GeneratorExp elt [⟨target,iter,[],0⟩] scope pos) 0 it .none cenv
def zeo (elt target iter:Expr)(scope:Scope)(pos:Pos)(it:Value)(cenv:Env):Code:=.compStart (.GeneratorExp elt [⟨target,iter,[],0⟩] scope pos) 0 it .none cenv
def zdi {gens:Array GenState}{g:Nat}{x:GenState}(h:AllBare gens)(hx:x.bare=true){s:Shared}(e:gens=s.gens):AllBare (s.setGen g x).gens:=by
 subst e;intro y hy;obtain⟨i,hi,rfl⟩:=Array.mem_iff_getElem.mp hy;simp only[Shared.setGen] at hi⊢;by_cases z:g=i
 .subst z;simp[hx]
 .rw[Array.getElem_setIfInBounds_ne (by simpa using hi) z];exact h _ (Array.getElem_mem _)
section
variable {prog:Program}{w:World}{A:Around}{elt target iter:Expr}{scope:Scope}{pos:Pos}{it:Value}{cenv:Env}{n:Nat}{P:Nat->Value->Prop}{Mid St:GP}{Dn:Shared->Prop}
def zlK (hco:cenv.scope.isCoroutine=false)
 (turn:∀i s,i<n->St i s->wpAny (model prog w) (A.over (zbs elt target iter scope pos it cenv) []) (pyNext it) (λr s1=>∃v,r=some v/\
  wpAny (model prog w) (A.over (zbs elt target iter scope pos it cenv) []) (letOwnedTupleGo target it v) (λ_ s2=>
   wpAny (model prog w) (A.over (zbs elt target iter scope pos it cenv) []) (assign target cenv v) (λ_ s3=>
    wpAny (model prog w) (A.over (zbs elt target iter scope pos it cenv) []) (eval elt cenv) (λy s4=>P i y/\Mid (i+1) s4) (λ_ _=>False) s3) (λ_ _=>False) s2) (λ_ _=>False) s1) (λ_ _=>False) s)
 (done:∀s,St n s->wpAny (model prog w) (A.over (zbs elt target iter scope pos it cenv) []) (pyNext it) (λr s1=>r=none/\Dn s1) (λ_ _=>False) s) :
 ∀(k i:Nat) (s₀ s:Shared),n - i=k->i<=n->St i s->Seg (model prog w) A (gend Dn) (zhY n P Mid St) k s₀ (zbs elt target iter scope pos it cenv) ((model prog w).den (zbs elt target iter scope pos it cenv)) [] s:=by
 intro k;induction k with
|zero=>
   intro i s₀ s hk hi hst;have hin:i=n:=by omega
   subst hin;show Seg _ A _ _ _ s₀ _ ((compTurn (.GeneratorExp elt [⟨target,iter,[],0⟩] scope pos) 0 it .none cenv).onRaise (leaving cenv)) [] s
   rw[compTurn_gen,wck];refine seg_bind_wrap (wbk ?_);refine seg_bind_wrap (waA (done s hst) (λr s1 ⟨hr,hd⟩ =>?_) λ_ _ e=>e.elim);subst hr;exact seg_end (.ok .next) ⟨rfl,rfl,hd⟩
|succ k ih=>
   intro i s₀ s hk hi hst;have hlt:i<n:=by omega
   show Seg _ A _ _ _ s₀ _ ((compTurn (.GeneratorExp elt [⟨target,iter,[],0⟩] scope pos) 0 it .none cenv).onRaise (leaving cenv)) [] s
   rw[compTurn_gen,wck];refine seg_bind_wrap (wbk ?_);refine seg_bind_wrap (waA (turn i s hlt hst) (λr s1 ⟨v,hr,h1⟩ =>?_) λ_ _ e=>e.elim);subst hr;refine seg_bind_wrap (waA h1 (λ_ s2 h2=>?_) λ_ _ e=>e.elim);refine seg_bind_wrap (waA h2 (λ_ s3 h3=>?_) λ_ _ e=>e.elim);refine seg_bind_wrap (wao ?_);simp only[if_true];have hy:∀v,yieldOut cenv v=yieldValue v:=λv=>by simp only[yieldOut,hco,Bool.false_eq_true,if_false]
   simp only[hy];rw[Sem.bind_eq_wrap',Sem.bind_eq_wrap',Sem.wrap_wrap,Sem.wrap_wrap];refine seg_wrap (waA h3 (λy s4 h4=>?_) λ_ _ e=>e.elim);refine seg_at (seg_yield rfl rfl rfl ⟨i,by omega,h4.1,h4.2,λs'' hs=>?_⟩)
   exact seg_again rfl (ih (i+1) s'' s'' (by omega) hlt hs)
def zjK (hloop:∀s₀ s,St 0 s->Seg (model prog w) A (gend Dn) (zhY n P Mid St) n s₀ (zbs elt target iter scope pos it cenv) ((model prog w).den (zbs elt target iter scope pos it cenv)) [] s)
 (self:∀(A':Around) s,St 0 s->wpAny (model prog w) A' (pyIter it) (λx s'=>x=it/\St 0 s') (λ_ _=>False) s) (s₀ s:Shared) (h:St 0 s) :
 Seg (model prog w) A (gend Dn) (zhY n P Mid St) n s₀ (zeo elt target iter scope pos it cenv) ((model prog w).den (zeo elt target iter scope pos it cenv)) [] s:=by
 show Seg _ A _ _ _ s₀ _ ((compStart (.GeneratorExp elt [⟨target,iter,[],0⟩] scope pos) 0 it .none cenv).onRaise (leaving cenv)) [] s
 unfold compStart;rw[wck];show Seg _ A _ _ _ s₀ _ ((ask >>= _).wrap _ _ _ _) [] s
 refine seg_bind_wrap (wpAny_askSetting ?_);split
 .exact seg_again rfl (hloop _ _ h)
 .refine seg_bind_wrap (wcd ?_);show Seg _ A _ _ _ s₀ _ ((standAt iter.pos >>= _).wrap _ _ _ _) [] s
  refine seg_bind_wrap (wbk ?_);refine seg_bind_wrap (waA (self _ s h) (λx s' hx=>?_) λ_ _ e=>e.elim);obtain⟨rfl,hx⟩:=hx;exact seg_again rfl (hloop _ _ hx)
structure At (prog:Program)(w:World)(A:Around)(a:Addr)(g n:Nat)(P:Nat->Value->Prop)(Mid St:GP)(Dn:Shared->Prop)(j:Nat)(s:Shared):Prop where
 bare:AllBare s.gens
 gen:s.heap.IsGen a g
 lim:s.heap.NoLimit
 go:∃gs,s.gens[g]?=some gs/\∀s'',St j s''->gs.Goes (model prog w) A.in1 (gend Dn) (zhY n P Mid St) (n - j) (.send .none) s''
 run:St j (s.setGen g .running)
structure Holds (a:Addr)(g:Nat)(Mid St:GP):Prop where
 bare:∀i s,Mid i s->AllBare s.gens
 gen:∀i s,Mid i s->s.heap.IsGen a g
 lim:∀i s,Mid i s->s.heap.NoLimit
 size:∀i s,Mid i s->g<s.gens.size
 on:∀i s gs,gs.bare=true->Mid i s->St i ((s.setGen g gs).setGen g .running)
def zjL {s:Shared}{g:Nat}{x:GenState}(h:g<s.gens.size):(s.setGen g x).gens[g]?=some x:=by simp[Shared.setGen,h]
def zjM {a:Addr}{g j:Nat}{s:Shared}{Q:Option Value->Shared->Prop}(hh:A.handled=none)(hroom:A.depth<recursionLimit)(hd:Holds a g Mid St)(hj:j<n)(h:At prog w A a g n P Mid St Dn j s)
 (hQ:∀v s1 gs,P j v->Mid (j+1) s1->gs.bare=true->At prog w A a g n P Mid St Dn (j+1) (s1.setGen g gs)->Q (some v) (s1.setGen g gs)):wpAny (model prog w) A (pyNext (.ref a)) Q (λ_ _=>False) s:=by
 obtain⟨_,hg,hl,⟨gs,hgs,hgo⟩,hr⟩:=h;obtain⟨m,hm⟩:∃m,n - j=m+1:=⟨n - j - 1,by omega⟩
 have go1:=hgo _ hr
 rw[hm] at go1;refine wpAny_pyNext_genexpQ (P:=λm _ s₁=>m=0/\Dn s₁) hh hl hroom hg hgs go1 (λv s₁ gs' hb hv=>?_) (λs₁ hp h' hk=>absurd hp.1 (Nat.succ_ne_zero m));obtain⟨i,hi,hP,hM,hkap⟩:=hv;have hij:i=j:=by omega
 subst hij;refine hQ v s₁ gs' hP hM hb ⟨zdi (hd.bare (i+1) s₁ hM) hb rfl,hd.gen (i+1) s₁ hM,hd.lim (i+1) s₁ hM,⟨gs',zjL (hd.size (i+1) s₁ hM),λs'' hs=>?_⟩,hd.on (i+1) s₁ gs' hb hM⟩;rw[show n - (i+1)=m by omega];exact hkap s'' hs
def zjN {a:Addr}{g:Nat}{s:Shared}{Q:Option Value->Shared->Prop}(hh:A.handled=none)(hroom:A.depth<recursionLimit)(hd:Holds a g Mid St)(h:At prog w A a g n P Mid St Dn n s)
 (hQ:∀s1 h',Dn s1->(∀b o,s1.heap.get? b=some o->h'.get? b=some o)->Q none {s1.setGen g .finished with heap:=h'}):wpAny (model prog w) A (pyNext (.ref a)) Q (λ_ _=>False) s:=by
 obtain⟨_,hg,hl,⟨gs,hgs,hgo⟩,hr⟩:=h;have go1:=hgo _ hr
 rw[wbX] at go1;refine wpAny_pyNext_genexpQ (P:=λm _ s₁=>m=0/\Dn s₁) hh hl hroom hg hgs go1 (λv s₁ gs' hb hv=>?_) (λs₁ hp h' hk=>hQ s₁ h' hp.2 hk);obtain⟨i,hi,_,hM,hkap⟩:=hv;exact(hkap _ (hd.on (i+1) s₁ gs' hb hM)).elim
end
section
variable {prog:Program}{w:World}{A:Around}{R:Result->Shared->Prop}{I:Addr}{n:Nat}{P:Nat->Value->Prop}{Wt:GP}{Fin:Shared->Prop}{tr:Nat->Bool}
def zlL (htr:TruthOf prog w A.in1 P tr)
 (item:∀i s,i<n->Wt i s->wpAny (model prog w) A.in1 (pyNext (.ref I)) (λr s'=>∃v,r=some v/\P i v/\Wt (i+1) s') (λ_ _=>False) s)
 (done:∀s,Wt n s->wpAny (model prog w) A.in1 (pyNext (.ref I)) (λr s'=>r=none/\Fin s') (λ_ _=>False) s)
 (stop:∀i s,i<n->tr i=false->Wt (i+1) s->Fin s):∀(k i:Nat) (s:Shared),n - i=k->i<=n->Wt i s->
 (∀s',Fin s'->R (.ok (.ret (.bool (((List.range n).drop i).all tr)))) s')->codeAny (model prog w) A (.builtin "all.loop" ⟨[.ref I],[]⟩) R s:=by
 intro k;induction k with
|zero=>
   intro i s hk hi hst hR;have hin:i=n:=by omega
   subst hin;refine codeAny_builtin F.entry_all_loop ?_;rw[Around.under_plainId wca _];show wpAny _ A.in1 (pyNext (.ref I) >>= _) _ _ s
   refine wab (waA (done s hst) (λr s' ⟨hr,hf⟩ =>?_) λ_ _ e=>e.elim);subst hr;refine wab (wcd (wao ?_));have:=hR s' hf
   rw[List.drop_of_length_le (by simp)] at this;exact this
|succ k ih=>
   intro i s hk hi hst hR;have hlt:i<n:=by omega
   have hd:(List.range n).drop i=i::(List.range n).drop (i+1):=by
    rw[List.drop_eq_getElem_cons (by simpa using hlt)];simp
   refine codeAny_builtin F.entry_all_loop ?_;rw[Around.under_plainId wca _];show wpAny _ A.in1 (pyNext (.ref I) >>= _) _ _ s
   refine wab (waA (item i s hlt hst) (λr s' ⟨v,hr,hP,hst'⟩ =>?_) λ_ _ e=>e.elim);subst hr;refine wab (wby (htr i v _ _ _ hP ?_));refine wab (wpAny_letGo ?_);cases hb:tr i with
  |true=>
     simp only[if_true];refine wao ⟨plainId_quiet wca _,ih (i+1) _ (by omega) hlt hst' λs'' hf=>?_⟩;have:=hR s'' hf
     rw[hd,List.all_cons,hb,Bool.true_and] at this;exact this
  |false=>
     simp only[Bool.false_eq_true,if_false];refine wab (wcd (wao ?_));have:=hR s' (stop i s' hlt hb hst')
     rw[hd,List.all_cons,hb,Bool.false_and] at this;exact this
end
section
variable {prog:Program}{w:World}{A:Around}{E:Value->Shared->Prop}{s:Shared}{a:Addr}{n:Nat}{P:Nat->Value->Prop}{Wt:GP}{Fin:Shared->Prop}{tr:Nat->Bool}{Q:Value->Shared->Prop}
def zlM (htr:TruthOf prog w A.in1 P tr)
 (item:∀i s,i<n->Wt i s->wpAny (model prog w) A.in1 (pyNext (.ref a)) (λr s'=>∃v,r=some v/\P i v/\Wt (i+1) s') (λ_ _=>False) s)
 (done:∀s,Wt n s->wpAny (model prog w) A.in1 (pyNext (.ref a)) (λr s'=>r=none/\Fin s') (λ_ _=>False) s)
 (stop:∀i s,i<n->tr i=false->Wt (i+1) s->Fin s) {g:Nat}(hg:s.heap.IsGen a g) (h:Wt 0 s) (hQ:∀s',Fin s'->Q (.bool ((List.range n).all tr)) s') :
 wpAny (model prog w) A (call (.builtin "all") [.ref a]) Q E s:=by
 refine call_function_tree F.kind_all F.plain_all F.entry_all (F.args_all1 _) ?_;unfold Builtin.«all»;refine wab (m:=oneArg "all" _) (wao ?_);refine wab (wpAny_pyIter_gen hg ?_);exact wao ⟨plainId_quiet wca _,zlL htr item done stop n 0 s rfl (wbn _) h λs' hf=>by simpa using hQ s' hf⟩
end
def gcx (X:Cx)(scope:Scope)(cl:List (Str×Addr))(NC:List Str)(C:Addr)(code:Value)(bi:Addr)(A':Around)(s0:Shared)(H0:Hp)(ex:List Addr)(pn:List (Addr×Obj)):Cx where
 prog:=X.prog
 w:=X.w
 K:=X.K
 mg:=X.mg
 base:=X.base
 A:=A'
 N:=NC
 s₀:=s0
 Hz:=H0
 env:=genEnv scope cl C code bi X.env
 outer:=X.stack
 stack:=genEnv scope cl C code bi X.env::X.stack
 ex:=ex
 fn:=λ_=>false
 calm:=true
 pn:=pn
 xe:=λ_ _=>False
def frO:Obj:={cls:=.type "frame",data:=.dict #[]}
def znN {X:Cx}{pins:List (Addr×Obj)}{s4:Shared}{Y:L2.St}{H1:Hp}{fp:List Addr}{scope:Scope}{cl:List (Str×Addr)}{NC:List Str}{fr:List (Option Nat)}{code:Value}{bi:Addr}{A':Around}{mm:Str->Option Value}{h':Heap}{gs:Array GenState}{tk:Nat}{og:Obj}
 (I:Inv X pins Y H1 s4) (f2:∀b∈fp,FpOk X pins H1 b) (obj:∀b∈fp,∃o,s4.heap.get? b=some o/\∀v,o.data≠.cell v) (hkind:scope.kind=.function) (hbi:bi=builtinsNs)
 (hcl:∀x c,cl.lookup x=some c->X.env.cells.lookup x=some c)
 (hhas:∀x,(scope.names.lookup x=some .cell\/scope.names.lookup x=some .free)->∃c,cl.lookup x=some c)
 (hfr:∀(i:Nat) (x:Str) (j:Nat),NC[i]?=some x->fr[i]?=some (some j)->X.N[j]?=some x/\Vis X.env.scope x/\X.env.kindOf x≠some .local/\(scope.names.lookup x=some .cell\/scope.names.lookup x=some .free))
 (hlen:fr.length=NC.length) (hA:A'.handled=none) (hAf:A'.frames=some (genEnv scope cl s4.heap.objs.size code bi X.env::X.stack))
 (hn':h'.Ns s4.heap.objs.size mm) (hs':Heap.SameBut s4.heap.objs.size (s4.heap.push frO) h') (hg:AllBare gs) (hog:∀v,og.data≠.cell v) (hfz:og.isFreed=false) :
 Inv (gcx X scope cl NC s4.heap.objs.size code bi A' s4 H1 fp (X.pn++pins)) [(h'.objs.size,og)] (pick Y fr) H1 {s4 with gens:=gs,toks:=tk,heap:=h'.push og}:=by
 have sz:h'.objs.size=s4.heap.objs.size+1:=by rw[hs'.1,wbU]
 generalize hC:s4.heap.objs.size=C at *;have ltC:∀{b:Addr}{o:Obj},s4.heap.get? b=some o->b<C:=λe=>by rw[<-hC];exact was e
 have k4:∀b o,s4.heap.get? b=some o->(h'.push og).get? b=some o:=λb o e=>wag _ (hs'.extBut b o (waB (ltC e)) (wag _ e))
 have hCn:H1 C=none:=I.hok.fresh (waY hC)
 have stkNo:∀b,s4.heap.objs.size<=b->b∉frs X.stack:=λb hb z=>by
  have f:=I.fpOk hb (I.hok.fresh hb)
  rcases wak.mp (I.stkSub b z) with z|z
  .exact f.2.1 z
  .exact f.2.2.1 z
 have okC:(gcx X scope cl NC C code bi A' s4 H1 fp (X.pn++pins)).Ok:=by
  refine⟨I.ok.mod,hkind,I.ok.glob,hbi,waY hC,λx y c h1 h2=>I.ok.inj x y c (hcl x c h1) (hcl y c h2),λx hx=>hhas x hx,λx c hf _=>(by cases hf),λ_=>hA,hAf,.inr ⟨rfl,rfl⟩,λb hb=>⟨?_,λx c e=>?_⟩,λb o e=>I.bs b o e,?_,λb o e hb=>?_,λb hb hf=>?_,?_,λb hb=>I.stkFree b hb⟩
  .obtain⟨o,eo,_⟩:=obj b hb;exact waB (ltC eo)
  .exact(f2 b hb).2.2.2.2.1 x c (hcl x c e)
  .exact waq I.ok.bsz I.sz
  .obtain⟨e1,_⟩:=I.ok.bs b o e;have f:=f2 b hb
   rcases f.2.2.2.1 with z|z
   .exact I.ok.noex b o e z
   .exact absurd (war (was e1) z) (waT _)
  .rcases wak.mp (I.stkSub b hf) with z|z
   .exact(f2 b hb).2.1 z
   .exact(f2 b hb).2.2.1 z
  .exact I.stack
 refine⟨okC,rfl,hg,Un.kept k4,⟨_,hn'.push _,λi x v hN hv hvis=>?_⟩,λx c e=>?_,hCn,λx c e=>I.freeC x c (hcl x c e),λp hp=>?_,I.hok.kept k4,?_⟩
 .have hfi:∃j,fr[i]?=some (some j)/\Y[j]?=some (some v):=by
   unfold pick at hv;rw[waj] at hv;cases e1:fr[i]? with
  |none=>rw[e1] at hv;cases hv
  |some o=>
     rw[e1] at hv;cases o with
    |none=>cases hv
    |some j=>
       refine⟨j,rfl,?_⟩;have hv':(Y[j]?).join=some v:=waw hv
       cases e2:Y[j]? with
      |none=>rw[e2] at hv';cases hv'
      |some w'=>rw[e2] at hv';exact wba some hv'
  obtain⟨j,hj,hσ⟩:=hfi;obtain⟨q1,q2,q3,q4⟩:=hfr i x j hN hj;obtain⟨m,hm,hl⟩:=I.loc;obtain⟨u,ru,lk⟩:=hl j x v q1 hσ q2;refine⟨u,ru,?_⟩;rcases lk with⟨z,_⟩|⟨_,c,ec,ic⟩
  .exact absurd z q3
  .obtain⟨c',ec'⟩:=hhas x q4;have:c'=c:=by rw[hcl x c' ec'] at ec;exact waw ec
   subst this;obtain⟨oc,h1,h2⟩:=ic;exact .inr ⟨q4,c',ec',oc,k4 _ _ h1,h2⟩
 .obtain⟨v,oc,h1,h2⟩:=I.cell x c (hcl x c e);exact⟨v,oc,k4 _ _ h1,h2⟩
 .have hp':p∈(X.pn++pins)++[(h'.objs.size,og)]:=hp
  rcases wax.mp hp' with hp'|hp'
  .obtain⟨e1,e2,e3,e4,e5⟩:=I.pin p hp';refine⟨k4 _ _ e1,e2,waB (ltC e1),λz=>?_,e5⟩;rcases wak.mp (I.stkSub p.1 z) with z'|z'
   .exact e3 z'
   .exact e4 z'
  .rw[waf.mp hp'];have hle:s4.heap.objs.size<=h'.objs.size:=by omega
   exact⟨wau _ hfz,I.hok.fresh hle,by show h'.objs.size≠C;omega,stkNo _ hle,hog⟩
 .unfold pick;rw[wad];exact hlen
def zlN {X:Cx}{pins pins':List (Addr×Obj)}{s4 s':Shared}{Y Y':L2.St}{H1 H':Hp}{fp:List Addr}{scope:Scope}{cl:List (Str×Addr)}{NC:List Str}{C:Addr}{code:Value}{bi:Addr}{A':Around}{pn:List (Addr×Obj)}
 (I:Inv X pins Y H1 s4) (f2:∀b∈fp,FpOk X pins H1 b) (J:Inv (gcx X scope cl NC C code bi A' s4 H1 fp pn) pins' Y' H' s'):Inv X pins Y H' s':=
 I.call' J.os J.base J.hok J.bare λb hb=>let f:=f2 b hb;⟨f.2.2.2.1,f.2.1,f.2.2.2.2.1,f.2.2.2.2.2⟩
def zfj {X:Cx}{pins:List (Addr×Obj)}{Y:L2.St}{H:Hp}{s:Shared}{gs:Array GenState}(I:Inv X pins Y H s)(h:AllBare gs):Inv X pins Y H {s with gens:=gs}:=by
 obtain⟨a,b,c,d,e,f,g,h1,i,j,k⟩:=I;exact⟨a,b,h,d,e,f,g,h1,i,j,k⟩
def za0 {s:Shared}{g:Nat}{x:GenState}:(s.setGen g x).gens.size=s.gens.size:=by simp[Shared.setGen]
def zf4 {M:Model}{Γ:PySem.Ctx}{p:Pos}{t:Sem Fin}{fs:List Frame}{s s':Shared}{e:End}(h:Runs M Γ p t fs s e s'):s.gens.size<=s'.gens.size:=by
 induction h <;> (try simp only[za0,Array.size_push] at *) <;> omega
def zhZ {M:Model}{Γ:PySem.Ctx}{p:Pos}{g:Nat}{r:Resume}{s s':Shared}{res:GenResult}(h:Wakes M Γ p g r s res s'):s.gens.size<=s'.gens.size:=by
 have key:∀{Δ:PySem.Ctx}{q:Pos}{u:Sem Fin}{fs:List Frame}{e:End}{s1:Shared}{x:GenState},Runs M Δ q u fs (s.setGen g .running) e s1->s.gens.size<=(s1.setGen g x).gens.size:=λhr=>by
  have:=zf4 hr
  rw[za0] at this⊢;exact this
 unfold Wakes at h;split at h
 .exact h.elim
 .split at h
  .obtain⟨_,_,hr,_,_,rfl⟩:=h;exact key hr
  .exact waY (by rw[h.2];try rw[za0])
  .exact waY (by rw[h.2];try rw[za0])
 .obtain⟨_,_,hr,_,_,rfl⟩:=h;exact key hr
 .exact waY (by rw[h.2];try rw[za0])
 .exact waY (by rw[h.2];try rw[za0])
def znO {α:Type}(M:Model)(Γ:PySem.Ctx)(n:Nat)(t:Sem α):∀(Q:α->Pos->Shared->Prop) (E:Value->Pos->Shared->Prop) (p:Pos) (s:Shared),n<=s.gens.size->Sem.wp M Γ t Q E p s->
 Sem.wp M Γ t (λa p' s'=>n<=s'.gens.size/\Q a p' s') (λe p' s'=>n<=s'.gens.size/\E e p' s') p s:=by
 induction t with
|pure a=>exact λQ E p s hn h=>⟨hn,h⟩
|raise e=>exact λQ E p s hn h=>⟨hn,h⟩
|newGen c k ih=>exact λQ E p s hn h=>ih _ Q E p _ (by show n<=(s.gens.push _).size;rw[Array.size_push];omega) h
|resume g r _ k ih=>exact λQ E p s hn h=>let ⟨res,s',hw,h⟩:=h;⟨res,s',hw,ih res Q E p s' (waq hn (zhZ hw)) h⟩
|call c hd _ _ k ih=>exact λQ E p s hn h=>let ⟨r,s',hr,h⟩:=h;⟨r,s',hr,ih r Q E p s' (waq hn (zf4 hr)) h⟩
|load a _ k ih=>exact λQ E p s hn h=>let ⟨o,ho,h⟩:=h;⟨o,ho,ih o Q E p s hn h⟩
|genState g k ih=>exact λQ E p s hn h=>let ⟨st,hs,h⟩:=h;⟨st,hs,ih _ Q E p s hn h⟩
|update a _ f k ih=>exact λQ E p s hn h=>⟨h.1,ih () Q E p _ hn h.2⟩
|choose src m k ih=>exact λQ E p s hn h=>⟨h.1,ih _ Q E p _ hn h.2⟩
|rule _ k ih=>exact λQ E p s hn h=>ih () Q E p s hn h
|«at» p' k ih=>exact λQ E p s hn h=>ih () Q E p' s hn h
|point _ k ih=>exact λQ E p s hn h=>ih () Q E p s hn h
|loadIfAlive a k ih=>exact λQ E p s hn h=>ih _ Q E p s hn h
|alloc o k ih=>exact λQ E p s hn h=>ih _ Q E p _ hn h
|fresh k ih=>exact λQ E p s hn h=>ih _ Q E p _ hn h
|ask k ih=>exact λQ E p s hn h=>ih _ Q E p s hn h
|os q _ k ih=>exact λQ E p s hn h=>ih _ Q E p _ hn h
|handled own k ih=>exact λQ E p s hn h=>ih _ Q E p s hn h
|stack k ih=>exact λQ E p s hn h=>ih _ Q E p s hn h
|thread k ih=>exact λQ E p s hn h=>ih _ Q E p s hn h
|_=>exact λQ E p s hn h=>h
def zcM {α:Type}{M:Model}{A:Around}{s:Shared}{t:Sem α}{Q:α->Shared->Prop}{E:Value->Shared->Prop}{n:Nat}(hn:n<=s.gens.size)(h:wpAny M A t Q E s) :
 wpAny M A t (λa s'=>n<=s'.gens.size/\Q a s') (λe s'=>n<=s'.gens.size/\E e s') s:=
 λΓ p hΓ=>znO M Γ n t _ _ p s hn (h Γ p hΓ)
end GX
namespace GX
open PySem PySem.Spec PyProof PyProof.Rows L2 PySem.W
def zlO {X:Cx}{pins:List (Addr×Obj)}{Y:L2.St}{H:Hp}{s:Shared}{A:Around}{tp:Array Value}{scope:Scope}{pos:Pos}{c P:Addr}{q:Str}{Q:Value->Shared->Prop}{E:Value->Shared->Prop}(I:Inv X pins Y H s)(hcd:X.env.code=.ref c)(hC:CodeK X.K c P)
 (hH:H P=some (.tbl tp)) (hps:tp[0]?=some (Value.str q 0)) (hq:X.env.qual++"<genexpr>"=q)
 (h:∀(code:Value) (H1:Hp) (s':Shared),(∀b o,H b=some o->H1 b=some o)->(∀b,H1 b=none->H b=none)->(∀b,b<s.heap.objs.size->H b=none->H1 b=none)->(∀b o,b≠P->s.heap.get? b=some o->s'.heap.get? b=some o)->s.gens.size<=s'.gens.size->Inv X pins Y H1 s'->Q code s') :
 wpAny (model X.prog X.w) A (genexprCode X.env pos (X.env.qual++"<genexpr>") scope) Q E s:=by
 obtain⟨ps,hP,ht⟩:=I.tblAt hH;have C:=hC.hd I.kIn
 rw[hq];cases e:codeAmong pos ps.toList with
|none=>
   refine wpAny_genexprCodeX hcd (C.code hP ht.1) (C.tab hP) e λc' h' tk hx hge hlt _ hrec htb _=>?_
   obtain⟨c2,oc,vs,t,e2,hoc,hd,hv⟩:=hrec;cases e2;have J:=I.grownC (t':=tk) hH hps ht (λb o hb e=>hx b o hb e) htb.2 hge hoc hd hv
   have hn:H c'=none:=I.hok.fresh hge
   refine h (.ref c') _ _ (λb o q=>by rw[zak (λz=>by rw[z,hn] at q;cases q)];exact q) (λb q=>?_) (λb hb q=>by rw[zak (λz=>by rw[z] at hb;exact absurd (war hb hge) (waT _))];exact q) (λb o hb e=>hx b o hb e) (wal _) J;by_cases z:b=c'
   .rw[z];exact hn
   .rw[zak z] at q;exact q
|some cv=>
   refine wpAny_genexprCode_hit hcd (C.code hP ht.1) e ?_;exact h cv H s (λ_ _ q=>q) (λ_ q=>q) (λ_ _ q=>q) (λ_ _ _ e=>e) (wal _) I
def zf5 {X:Cx}{pins:List (Addr×Obj)}{Y:L2.St}{H:Hp}{s:Shared}{A:Around}{bm:Addr}{ob:Obj}{Q:Addr->Shared->Prop}{E:Value->Shared->Prop}(I:Inv X pins Y H s)(hB:BMod X.base mainGlobals X.mg bm ob)(h:Q builtinsNs s) :
 wpAny (model X.prog X.w) A (builtinsFor X.env.globals X.env.builtins) Q E s:=by
 have hg:=I.mod.glob.keeps I.bk
 rw[I.ok.glob];exact wpAny_builtinsFor hg hB.name hB.ne (I.bk _ _ hB.obj) hB.cls hB.dict hB.data h
section
variable {X:Cx}{elt tg iter:Expr}{scope:Scope}{gpos:Pos}{cl:List (Str×Addr)}{NC:List Str}{fr:List (Option Nat)}{g:TG}{te:TE}
def aG (X:Cx)(c:Code):Around:=X.A.in1.in1.over c []
def ogen (g:Nat)(x y:Value):Obj:={cls:=.type "generator",data:=.fields #[.int g 0,x,y]}
def zh0 {X:Cx}{it:Value}{cenv:Env}(h:X.A.frames=some X.stack):(aG X (zbs elt tg iter scope gpos it cenv)).frames=some (cenv::X.stack):=by
 show pushEnvs (zbs elt tg iter scope gpos it cenv).envs (pushEnvs (envsOf ([].map Frame.where_)) X.A.frames)=_
 rw[h];rfl
def Sta (G:Cx)(fp:List Addr)(tn:Nat->Heap->Prop)(a:Addr)(og:Obj)(g:Nat)(W:Nat->L2.St->Hp->Prop):GP:=λi s=>g<s.gens.size/\tn i s.heap/\∃Y H,Inv G [(a,og)] Y H s/\(∀b∈fp,H b=none)/\W i Y H
def zf6 {G:Cx}{fp:List Addr}{tn:Nat->Heap->Prop}{a:Addr}{x y:Value}{g:Nat}{W:Nat->L2.St->Hp->Prop}:Holds a g (Sta G fp tn a (ogen g x y) g W) (Sta G fp tn a (ogen g x y) g W) where
 bare:=λi s ⟨_,_,Y,H,J,_,_⟩ =>J.bare
 gen:=λi s ⟨_,_,Y,H,J,_,_⟩ =>⟨_,x,y,(J.pin (a,ogen g x y) (wat _ (waf.mpr rfl))).1,rfl,rfl,rfl⟩
 lim:=λi s ⟨_,_,Y,H,J,_,_⟩ =>J.nolimit
 size:=λi s h=>h.1
 on:=λi s gs hb ⟨h1,h2,Y,H,J,h3,h4⟩ =>by
  have b1:AllBare (s.setGen g gs).gens:=zdi J.bare hb rfl
  have b2:AllBare ((s.setGen g gs).setGen g .running).gens:=zdi b1 rfl rfl
  exact⟨by rw[za0,za0];exact h1,h2,Y,H,zfj (s:=s) (gs:=((s.setGen g gs).setGen g .running).gens) J b2,h3,h4⟩
def znP {pins:List (Addr×Obj)}{Y:L2.St}{s4:Shared}{H1:Hp}{fp:List Addr}{it:Addr}{tn:Nat->Heap->Prop}{J:It}{code:Value}{Q:VK}{n:Nat}{tr:Nat->Bool}{W:Nat->L2.St->Hp->Prop}{mm:Str->Option Value}{h':Heap}{tk:Nat}{x y:Value}
 (I:Inv X pins Y H1 s4) (T:Turn X.prog X.w X.K tg J fp it tn) (st:tn 0 s4.heap) (f2:∀b∈fp,FpOk X pins H1 b) (hh:X.A.handled=none) (hroom:X.A.depth<recursionLimit) (hco:scope.isCoroutine=false) (hkind:scope.kind=.function)
 (hcl:∀x c,cl.lookup x=some c->X.env.cells.lookup x=some c)
 (hhas:∀x,(scope.names.lookup x=some .cell\/scope.names.lookup x=some .free)->∃c,cl.lookup x=some c)
 (hfr:∀(i:Nat) (x:Str) (j:Nat),NC[i]?=some x->fr[i]?=some (some j)->X.N[j]?=some x/\Vis X.env.scope x/\X.env.kindOf x≠some .local/\(scope.names.lookup x=some .cell\/scope.names.lookup x=some .free))
 (hlen:fr.length=NC.length)
 (hg:PG (gcx X scope cl NC s4.heap.objs.size code builtinsNs (aG X (zbs elt tg iter scope gpos (.ref it) (genEnv scope cl s4.heap.objs.size code builtinsNs X.env))) s4 H1 fp (X.pn++pins)) tg g)
 (he:PE (gcx X scope cl NC s4.heap.objs.size code builtinsNs (aG X (zbs elt tg iter scope gpos (.ref it) (genEnv scope cl s4.heap.objs.size code builtinsNs X.env))) s4 H1 fp (X.pn++pins)) elt te)
 (w0:W 0 (pick Y fr) H1) (step:∀i Y2 H2,i<n->W i Y2 H2->J.go i H2/\∀x H3,J.yld i H2 x H3->g x Y2 H3 λY4 H4=>te Y4 H4 λv H6=>v=.bl (tr i)/\W (i+1) Y4 H6)
 (stop:∀i Y2 H2,i<n->tr i=false->W (i+1) Y2 H2->Q (.bl ((List.range n).all tr)) H2) (done:∀Y2 H2,W n Y2 H2->J.stop n H2/\Q (.bl ((List.range n).all tr)) H2)
 (hn':h'.Ns s4.heap.objs.size mm) (hs':Heap.SameBut s4.heap.objs.size (s4.heap.push frO) h') :
 wpAny (model X.prog X.w) X.A (call (.builtin "all") [.ref h'.objs.size]) (EP X pins Y Q) X.xe {s4 with gens:=s4.gens.push (.fresh (zeo elt tg iter scope gpos (.ref it) (genEnv scope cl s4.heap.objs.size code builtinsNs X.env))),toks:=tk,heap:=h'.push (ogen s4.gens.size x y)}:=by
 generalize hL:zbs elt tg iter scope gpos (.ref it) (genEnv scope cl s4.heap.objs.size code builtinsNs X.env)=L at hg he;generalize hG:gcx X scope cl NC s4.heap.objs.size code builtinsNs (aG X L) s4 H1 fp (X.pn++pins)=G at hg he;have gA:G.A=aG X L:=by rw[<-hG];rfl
 have gp:G.prog=X.prog:=by rw[<-hG];rfl
 have gw:G.w=X.w:=by rw[<-hG];rfl
 have gK:G.K=X.K:=by rw[<-hG];rfl
 have gc:G.calm=true:=by rw[<-hG];rfl
 have gE:G.env=genEnv scope cl s4.heap.objs.size code builtinsNs X.env:=by rw[<-hG];rfl
 have gx:G.xe=λ_ _=>False:=by rw[<-hG];rfl
 have gfs:∀{Y':L2.St}{H':Hp}{s':Shared},Inv G [(h'.objs.size,ogen s4.gens.size x y)] Y' H' s'->Inv X pins Y H' s':=λ{Y' H' s'} J'=>by
  subst hG;exact zlN I f2 J'
 have obj:∀b∈fp,∃o,s4.heap.get? b=some o/\∀v,o.data≠.cell v:=T.obj 0 _ st
 have start:∀gs:Array GenState,AllBare gs->Inv G [(h'.objs.size,ogen s4.gens.size x y)] (pick Y fr) H1 {s4 with gens:=gs,toks:=tk,heap:=h'.push (ogen s4.gens.size x y)}:=λgs hb=>by
  subst hG;refine znN I f2 obj hkind rfl hcl hhas hfr hlen hh ?_ hn' hs' hb (λv e=>by cases e) rfl;subst hL;exact zh0 I.ok.frames
 have fC:∀{H':Hp},(∀b∈fp,H' b=none)->∀b∈fp,FpOk G [(h'.objs.size,ogen s4.gens.size x y)] H' b:=λ{H'} hn b hb=>by
  obtain⟨q1,q2,q3,q4,q5,q6⟩:=f2 b hb;obtain⟨o,eo,_⟩:=obj b hb;have lt:b<s4.heap.objs.size:=was eo
  subst hG;refine⟨hn b hb,waB lt,λz=>?_,.inl hb,λx c e=>q5 x c (hcl x c e),λp hp z=>?_⟩
  .rcases wak.mp (I.stkSub b z) with z'|z'
   .exact q2 z'
   .exact q3 z'
  .have hp':p∈(X.pn++pins)++[(h'.objs.size,ogen s4.gens.size x y)]:=hp
   rcases wax.mp hp' with hp'|hp'
   .exact q6 p hp' z
   .rw[waf.mp hp'] at z;have:h'.objs.size=s4.heap.objs.size+1:=by rw[hs'.1,wbU]
    have z:b=s4.heap.objs.size+1:=(show h'.objs.size=b from z).symm.trans this
    rw[z] at lt;exact absurd lt (Nat.not_lt.mpr (wcn _))
 have st5:tn 0 (h'.push (ogen s4.gens.size x y)):=T.keep _ _ _ st λb hb o e=>wag _ (hs'.extBut b o (waB (was e)) (wag _ e))
 have turn:∀i s,i<n->Sta G fp tn h'.objs.size (ogen s4.gens.size x y) s4.gens.size W i s->wpAny (model X.prog X.w) (aG X L) (pyNext (.ref it)) (λr s1=>∃v,r=some v/\
  wpAny (model X.prog X.w) (aG X L) (letOwnedTupleGo tg (.ref it) v) (λ_ s2=>wpAny (model X.prog X.w) (aG X L) (assign tg G.env v) (λ_ s3=>
   wpAny (model X.prog X.w) (aG X L) (eval elt G.env) (λy' s4'=>y'=.bool (tr i)/\Sta G fp tn h'.objs.size (ogen s4.gens.size x y) s4.gens.size W (i+1) s4') (λ_ _=>False) s3) (λ_ _=>False) s2) (λ_ _=>False) s1) (λ_ _=>False) s:=λi s hi ⟨h1,h2,Y2,H2,J2,h3,h4⟩ =>by
  obtain⟨go,next⟩:=step i Y2 H2 hi h4;have q:=T.item G gp gw gK gc i _ s Y2 H2 (λ_ _=>False) J2 (fC h3) h2 go
  rw[gA] at q;refine waA (zcM (n:=s4.gens.size+1) h1 q) (λr s1 ⟨n1,u,hr,q1⟩ =>⟨u,hr,?_⟩) λ_ _ z=>z.2
  refine waA (zcM n1 q1) (λ_ s2 ⟨n2,v,H3,J3,r3,y3,t3,f3⟩ =>?_) λ_ _ z=>z.2
  have J3':=J3.pinned (fC f3) (T.obj _ _ t3)
  have q2:=hg _ s2 Y2 H3 v u _ J3' r3 (next v H3 y3)
  rw[gp,gw,gA,gx] at q2;refine waA (zcM n2 q2) (λ_ s3 ⟨n3,Y4,H4,J4,q4⟩ =>?_) λ_ _ z=>z.2
  have q3:=he _ s3 Y4 H4 _ J4 q4
  rw[gp,gw,gA,gx] at q3;refine waA (zcM n3 q3) (λy' s5 ⟨n5,v',H6,J6,r6,hv,w6⟩ =>?_) λ_ _ z=>z.2
  subst hv;refine⟨r6,n5,T.keep _ _ _ t3 λb hb o e=>(J6.pin (b,o) (wat _ (wat _ (zbF hb e)))).1,Y4,H6,J6.unpinned,λb hb=>?_,w6⟩;obtain⟨o,e,_⟩:=T.obj _ _ t3 b hb;exact(J6.pin (b,o) (wat _ (wat _ (zbF hb e)))).2.1
 have fin:∀s,Sta G fp tn h'.objs.size (ogen s4.gens.size x y) s4.gens.size W n s->wpAny (model X.prog X.w) (aG X L) (pyNext (.ref it)) (λr s1=>r=none/\∃Y' H',Inv G [(h'.objs.size,ogen s4.gens.size x y)] Y' H' s1/\Q (.bl ((List.range n).all tr)) H') (λ_ _=>False) s:=λs ⟨h1,h2,Y2,H2,J2,h3,h4⟩ =>by
  obtain⟨go,hq⟩:=done Y2 H2 h4;have q:=T.done G gp gw gK gc n _ s Y2 H2 (λ_ _=>False) J2 (fC h3) h2 go
  rw[gA] at q;exact waA q (λr s1 ⟨hr,J3⟩ =>⟨hr,Y2,H2,J3,hq⟩) λ_ _ z=>z
 have wl:∀s₀ s,Sta G fp tn h'.objs.size (ogen s4.gens.size x y) s4.gens.size W 0 s->Seg (model X.prog X.w) X.A.in1.in1 (gend λs1=>∃Y' H',Inv G [(h'.objs.size,ogen s4.gens.size x y)] Y' H' s1/\Q (.bl ((List.range n).all tr)) H') (zhY n (λi v=>v=.bool (tr i)) (Sta G fp tn h'.objs.size (ogen s4.gens.size x y) s4.gens.size W) (Sta G fp tn h'.objs.size (ogen s4.gens.size x y) s4.gens.size W)) n s₀ L ((model X.prog X.w).den L) [] s:=λs₀ s hs=>by
  rw[gE] at turn;subst hL;exact zlK hco turn fin n 0 s₀ s (Nat.sub_zero _) (wbn _) hs
 have self:∀(A':Around) s,Sta G fp tn h'.objs.size (ogen s4.gens.size x y) s4.gens.size W 0 s->wpAny (model X.prog X.w) A' (pyIter (.ref it)) (λz s'=>z=.ref it/\Sta G fp tn h'.objs.size (ogen s4.gens.size x y) s4.gens.size W 0 s') (λ_ _=>False) s:=λA' s hs=>T.self A' 0 s _ _ hs.2.1 ⟨rfl,hs⟩
 have ws:∀s₀ s,Sta G fp tn h'.objs.size (ogen s4.gens.size x y) s4.gens.size W 0 s->Seg (model X.prog X.w) X.A.in1.in1 (gend λs1=>∃Y' H',Inv G [(h'.objs.size,ogen s4.gens.size x y)] Y' H' s1/\Q (.bl ((List.range n).all tr)) H') (zhY n (λi v=>v=.bool (tr i)) (Sta G fp tn h'.objs.size (ogen s4.gens.size x y) s4.gens.size W) (Sta G fp tn h'.objs.size (ogen s4.gens.size x y) s4.gens.size W)) n s₀ (zeo elt tg iter scope gpos (.ref it) (genEnv scope cl s4.heap.objs.size code builtinsNs X.env)) ((model X.prog X.w).den (zeo elt tg iter scope gpos (.ref it) (genEnv scope cl s4.heap.objs.size code builtinsNs X.env))) [] s:=λs₀ s hs=>by
  subst hL;exact zjK wl self s₀ s hs
 have b0:AllBare (s4.gens.push (.fresh (zeo elt tg iter scope gpos (.ref it) (genEnv scope cl s4.heap.objs.size code builtinsNs X.env)))):=AllBare.push I.bare rfl
 have sta0:∀gs:Array GenState,AllBare gs->s4.gens.size<gs.size->Sta G fp tn h'.objs.size (ogen s4.gens.size x y) s4.gens.size W 0 {s4 with gens:=gs,toks:=tk,heap:=h'.push (ogen s4.gens.size x y)}:=λgs hb hz=>⟨hz,st5,_,H1,start gs hb,λb hb=>(f2 b hb).1,w0⟩
 have I5:=start _ b0
 have at0:At X.prog X.w X.A.in1 h'.objs.size s4.gens.size n (λi v=>v=.bool (tr i)) (Sta G fp tn h'.objs.size (ogen s4.gens.size x y) s4.gens.size W) (Sta G fp tn h'.objs.size (ogen s4.gens.size x y) s4.gens.size W) (λs1=>∃Y' H',Inv G [(h'.objs.size,ogen s4.gens.size x y)] Y' H' s1/\Q (.bl ((List.range n).all tr)) H') 0 {s4 with gens:=s4.gens.push (.fresh (zeo elt tg iter scope gpos (.ref it) (genEnv scope cl s4.heap.objs.size code builtinsNs X.env))),toks:=tk,heap:=h'.push (ogen s4.gens.size x y)}:=by
  refine⟨b0,⟨_,x,y,wau _ rfl,rfl,rfl,rfl⟩,I5.nolimit,⟨_,Array.getElem?_push_size ..,λs'' hs=>⟨rfl,?_⟩⟩,?_⟩
  .rw[Nat.sub_zero];exact ws s'' s'' hs
  .exact sta0 _ (zdi b0 rfl rfl) (by show s4.gens.size<((s4.gens.push _).setIfInBounds _ _).size;simp)
 refine zlM (P:=λi v=>v=.bool (tr i)) (Wt:=λi s=>At X.prog X.w X.A.in1 h'.objs.size s4.gens.size n (λi v=>v=.bool (tr i)) (Sta G fp tn h'.objs.size (ogen s4.gens.size x y) s4.gens.size W) (Sta G fp tn h'.objs.size (ogen s4.gens.size x y) s4.gens.size W) (λs1=>∃Y' H',Inv G [(h'.objs.size,ogen s4.gens.size x y)] Y' H' s1/\Q (.bl ((List.range n).all tr)) H') i s)
  (Fin:=λs'=>∃H',Inv X pins Y H' s'/\Q (.bl ((List.range n).all tr)) H') (tr:=tr) (n:=n) ?_ ?_ ?_ ?_ at0.gen at0 λs' ⟨H',J',q⟩ =>⟨.bl _,H',J',rfl,q⟩
 .intro i v s Q' E' hv hq;subst hv;exact wao hq
 .intro i s hi hs;refine zjM hh hroom zf6 hi hs λv s1 gs hP hM hb hA=>⟨v,rfl,hP,hA⟩
 .intro s hs;refine zjN hh hroom zf6 hs λs1 h2 ⟨Y',H',J',hq⟩ hk=>⟨rfl,H',?_,hq⟩
  have J2:=gfs J'
  exact(zfj (s:=s1) (gs:=(s1.setGen s4.gens.size .finished).gens) J2 (zdi J2.bare rfl rfl)).kept (t':=s1.toks) hk
 .intro i s hi ht hs;obtain⟨h1,h2,Y',H',J',_,w'⟩:=hs.run;have J2:=gfs J'
  exact⟨H',zfj (s:=s.setGen s4.gens.size .running) (gs:=s.gens) J2 hs.bare,stop i Y' H' hi ht w'⟩
end
def tAll (fr:List (Option Nat))(wi:TI)(g:TG)(te:TE):TE:=λY H Q=>wi Y H λJ H1=>∀H3:Hp,(∀b o,H1 b=some o->H3 b=some o)->(∀b,H3 b=none->H1 b=none)->∃(n:Nat) (tr:Nat->Bool) (W:Nat->L2.St->Hp->Prop),W 0 (pick Y fr) H3/\
 (∀i Y2 H2,i<n->W i Y2 H2->J.go i H2/\∀x H3,J.yld i H2 x H3->g x Y2 H3 λY4 H4=>te Y4 H4 λv H6=>v=.bl (tr i)/\W (i+1) Y4 H6)/\
 (∀i Y2 H2,i<n->tr i=false->W (i+1) Y2 H2->Q (.bl ((List.range n).all tr)) H2)/\∀Y2 H2,W n Y2 H2->J.stop n H2/\Q (.bl ((List.range n).all tr)) H2
def zpR {X:Cx}{elt tg iter:Expr}{scope:Scope}{gpos np cpos:Pos}{cl:List (Str×Addr)}{NC:List Str}{fr:List (Option Nat)}{wi:TI}{g:TG}{te:TE}{c P bm:Addr}{ob:Obj}{q:Str}{RR:Hp->Prop}(hRR:∀pins Y H s,Inv X pins Y H s->RR H)
 (hcalm:X.calm=true) (B:Blt X.mg) (hi:PI X tg iter wi) (hclos:closureFor scope X.env=pure cl) (hcell:∀y∈scope.names,y.2≠.cell) (h0:scope.names.lookup (".0" : Str)=some NameKind.local) (hkind:scope.kind=.function) (hco:scope.isCoroutine=false) (hroom:X.A.depth<recursionLimit)
 (hcl:∀x c,cl.lookup x=some c->X.env.cells.lookup x=some c)
 (hhas:∀x,(scope.names.lookup x=some .cell\/scope.names.lookup x=some .free)->∃c,cl.lookup x=some c)
 (hfr:∀(i:Nat) (x:Str) (j:Nat),NC[i]?=some x->fr[i]?=some (some j)->X.N[j]?=some x/\Vis X.env.scope x/\X.env.kindOf x≠some .local/\(scope.names.lookup x=some .cell\/scope.names.lookup x=some .free))
 (hlen:fr.length=NC.length) (hcd:X.env.code=.ref c) (hC:CodeK X.K c P) (hB:BMod X.base mainGlobals X.mg bm ob) (hT:∀pins Y H s,Inv X pins Y H s->VD.TabH P q H) (hq:X.env.qual++"<genexpr>"=q)
 (hg:∀C code it s0 H0 ex pn,PG (gcx X scope cl NC C code builtinsNs (aG X (zbs elt tg iter scope gpos it (genEnv scope cl C code builtinsNs X.env))) s0 H0 ex pn) tg g)
 (he:∀C code it s0 H0 ex pn,RR H0->PE (gcx X scope cl NC C code builtinsNs (aG X (zbs elt tg iter scope gpos it (genEnv scope cl C code builtinsNs X.env))) s0 H0 ex pn) elt te)
 (hgl:Gl X "all":=by rfl) (hs:∀x,genFold iter X.env x=pure x:=by intro _;rfl)
 (he1:starEach [.GeneratorExp elt [⟨tg,iter,[],0⟩] scope gpos] X.env=(false,eval (.GeneratorExp elt [⟨tg,iter,[],0⟩] scope gpos) X.env)::starEach [] X.env:=by rfl) :
 PE X (.Call (.Name "all" np) [.GeneratorExp elt [⟨tg,iter,[],0⟩] scope gpos] [] cpos) (tAll fr wi g te):=by
 intro pins s Y H Q I h;refine waX (zcY I hgl (B "all" (by decide +kernel)) boot_all ?_ (by decide) (by decide));refine PyProof.Rows.callWith_builtin1 ?_ he1 rfl;rw[he1];refine Calls.spliced_cons ?_;refine wpAny_GeneratorExp_make hco hclos hcell h0 hkind hroom (thn (hi pins s Y H _ I h) λv s1 h1=>thn h1 λitv s2 h2=>?_) hs;obtain⟨it,fp,tn,J,H1,rfl,I2,T,st2,f2,hW⟩:=h2;obtain⟨tp,hH,hps⟩:=hT _ _ _ _ I2;refine⟨I2.nolimit,zlO I2 hcd hC hH hps hq λcode H3 s3 k1 k2 k3 k4 k5 I3=>zf5 I3 hB ?_⟩;intro h' hn' hs';obtain⟨n,tr,W,w0,step,stop,done⟩:=hW H3 k1 k2;have lt:∀b∈fp,b<s2.heap.objs.size:=λb hb=>let ⟨o,e,_⟩:=T.obj _ _ st2 b hb;was e
 have st3:tn 0 s3.heap:=T.keep _ _ _ st2 λb hb o e=>k4 b o (λz=>by
  have:=(f2 b hb).1
  rw[z,hH] at this;cases this) e
 have f3:∀b∈fp,FpOk X pins H3 b:=λb hb=>⟨k3 b (lt b hb) (f2 b hb).1,(f2 b hb).2⟩
 have run:=λtk=>znP (Q:=Q) (tk:=tk) (x:=.str "<genexpr>" (s3.toks+1)) (y:=.str (X.env.qual++"<genexpr>") (s3.toks+1+1)) I3 T st3 f3 (I.ok.hd hcalm) hroom hco hkind hcl hhas hfr hlen (hg _ code _ _ _ _ _) (he _ code _ _ _ _ _ (hRR _ _ _ _ I3)) w0 step stop done hn' hs'
 exact wao (run _)
end GX
namespace VD
open PySem PySem.Spec PyProof PyProof.Rows L2 PySem.W GX
def zfk (f:D->Option Bool):List D->Option (List Bool)
|[]=>some []
|d::ds=>(f d).bind λb=>(zfk f ds).bind λbs=>some (b::bs)
theorem zf7 {f:D->Option Bool}:∀{ds:List D}{bs:List Bool},zfk f ds=some bs->bs.length=ds.length/\∀(i:Nat) (d:D),ds[i]?=some d->f d=some (bs.getD i true)
|[],bs,e=>by cases e;exact⟨rfl,λi d h=>by simp at h⟩
|d::ds,bs,e=>by
   obtain⟨b,e1,e⟩:=bind_some e;obtain⟨bs',e2,e⟩:=bind_some e;cases e;obtain⟨l,h⟩:=zf7 e2;refine⟨by simp[l],λi x hx=>?_⟩;cases i with
  |zero=>cases hx;exact e1
  |succ i=>exact h i x (by simpa using hx)
def zjO (bs:List Bool):(List.range bs.length).all (λi=>bs.getD i true)=bs.all id:=by
 rw[wbu,waN,waN];constructor
 .intro h b hb;obtain⟨i,hi,rfl⟩:=List.mem_iff_getElem.mp hb;have:=h i (wbr.mpr hi)
  simpa[List.getD,wap hi] using this
 .intro h i hi;have hi:=wbr.mp hi
  have:=h bs[i] (List.getElem_mem hi)
  simpa[List.getD,wap hi] using this
def eAll (fr:List (Option Nat))(fi:FA)(g:FG)(fe:FE):FE:=λZ=>(fi Z).bind λds=>(zfk (λd=>(g d (zaS Z fr)).bind λZ1=>(fe Z1).bind dB) ds).bind λbs=>some (.bl (bs.all id))
def zpS {K:W.Frag}{fr:List (Option Nat)}{wi:TI}{fi:FA}{g:FG}{is:List Nat}{fe:FE}(hi:GoI K wi fi)(hon:∀d Z Z',g d Z=some Z'->Only is Z Z')(hap:apart is fr=true) :
 GoE K (tAll fr wi (TGof K g) (TEof K fe)) (eAll fr fi g fe):=by
 intro Hz Jz O Z Y H J out Q s e w;obtain⟨ds,e1,e⟩:=bind_some e;obtain⟨bs,e2,e⟩:=bind_some e;cases e;obtain⟨bl,bg⟩:=zf7 e2;refine hi Hz Jz O Z Y H J ds _ s e1 λI H1 J1 u1 src=>?_
 intro H3 k1 k2;have u0:Up H1 J1 H3 J1:=⟨λb o h=>k1 b o h,λ_ h=>h,λ_ h=>.inl h,λa h z=>u1.ja a h (k2 a z)⟩
 have fin:∀H2 J2,Up H1 J1 H2 J2->Q (.bl ((List.range ds.length).all λi=>bs.getD i true)) H2:=λH2 J2 u2=>by
  rw[<-bl,zjO];exact w _ H2 J2 (u1.trans u2) (.bl _)
 refine⟨ds.length,λi=>bs.getD i true,λi Y2 H2=>i<=ds.length/\∃J2,ST K Hz Jz O.blk (zaS Z fr) Y2 H2 J2/\Up H1 J1 H2 J2,⟨wbn _,J1,((s.up u1).up u0).pick fr,u0⟩,?_,?_,?_⟩
 .rintro i Y2 H2 hlt ⟨_,J2,s2,u2⟩;obtain⟨_,turn⟩:=src H2 J2 u2.keep s2.ja;have hd:ds[i]?=some ds[i]:=wap hlt
  obtain⟨go,yl⟩:=turn i _ hd;obtain⟨Z1,eg,ee⟩:=bind_some (bg i _ hd);obtain⟨xd,ex,eb⟩:=bind_some ee;refine⟨go,λx H4 y=>?_⟩;obtain⟨J3,u3,r3⟩:=yl x H4 y;have wk:Weak (zaS Z fr) Z1:=ze9 (hon _ _ _ eg) hap
  refine⟨Hz,Jz,O.blk,zaS Z fr,J3,_,Z1,s2.up u3,r3,eg,λY4 s4=>?_⟩;refine⟨Hz,Jz,O.blk,Z1,J3,xd,s4,ex,λv H6 J6 u6 r6=>?_⟩;have hxd:xd=.bl (bs.getD i true):=by
   cases xd with
  |bl b=>cases eb;rfl
  |_=>cases eb
  subst hxd;cases r6;exact⟨rfl,hlt,J6,(s4.up u6).weak wk rfl,u2.trans (u3.trans u6)⟩
 .rintro i Y2 H2 _ _ ⟨_,J2,_,u2⟩;exact fin H2 J2 u2
 .rintro Y2 H2 ⟨_,J2,s2,u2⟩;obtain⟨stop,_⟩:=src H2 J2 u2.keep s2.ja;exact⟨stop,fin H2 J2 u2⟩
def zmv (N:List Str)(st:Stmt){X:Cx}{elt iter tg:Expr}{scope:Scope}{gpos np cpos:Pos}{NC:List Str}(fr:List (Option Nat)){fi:FA}{g:FG}{is:List Nat}{fe:FE}{q:Str}{RR:Hp->Prop}(hRR:∀pins Y H s,Inv X pins Y H s->RR H)(hcalm:X.calm=true)(B:Blt X.mg)(hi:VI X tg iter fi)(TX:TabX X q)(hroom:X.A.depth<recursionLimit)
 (hcells:∀x,X.env.scope.names.lookup x=some .cell->∃c,X.env.cells.lookup x=some c) (hfk:X.env.scope.kind=.function) (hN:X.N=N) (hsc:X.env.scope.names=(zab st).names)
 (hfree':∀y∈scope.names,y.2=.free->(zab st).names.lookup y.1=some .cell) (hcell:∀y∈scope.names,y.2≠.cell) (hkind:scope.kind=.function) (hco:scope.isCoroutine=false) (h0:scope.names.lookup (".0" : Str)=some NameKind.local)
 (hfr':zce N (zab st).names scope.names NC fr=true) (hlen:fr.length=NC.length) (hap:apart is fr=true) (hq:X.env.qual++"<genexpr>"=q)
 (hg:∀cl C code it s0 H0 ex pn,VG (gcx X scope cl NC C code builtinsNs (aG X (zbs elt tg iter scope gpos it (genEnv scope cl C code builtinsNs X.env))) s0 H0 ex pn) tg is g)
 (he:∀cl C code it s0 H0 ex pn,RR H0->VE (gcx X scope cl NC C code builtinsNs (aG X (zbs elt tg iter scope gpos it (genEnv scope cl C code builtinsNs X.env))) s0 H0 ex pn) elt fe)
 (hgl:Gl X "all":=by rfl) (hs:∀x,genFold iter X.env x=pure x:=by intro _;rfl)
 (he1:starEach [.GeneratorExp elt [⟨tg,iter,[],0⟩] scope gpos] X.env=(false,eval (.GeneratorExp elt [⟨tg,iter,[],0⟩] scope gpos) X.env)::starEach [] X.env:=by rfl) :
 VE X (.Call (.Name "all" np) [.GeneratorExp elt [⟨tg,iter,[],0⟩] scope gpos] [] cpos) (eAll fr fi g fe):=by
 obtain⟨wi,pi,gi⟩:=hi;obtain⟨c,P,bm,ob,e1,e2,e3,hT⟩:=TX;obtain⟨_,_,hon,_⟩:=hg [] 0 .none .none X.s₀ X.Hz [] [];have hfree:∀y∈scope.names,y.2=.free->X.env.scope.names.lookup y.1=some .cell:=by rw[hsc];exact hfree'
 have hfr:zce X.N X.env.scope.names scope.names NC fr=true:=by rw[hsc,hN];exact hfr'
 have hc:∀y∈scope.names,y.2=.free->∃c,X.env.cells.lookup y.1=some c:=λy hy h=>hcells _ (hfree y hy h)
 refine⟨_,zpR (fr:=fr) (NC:=NC) (cl:=clo X.env.cells scope.names []) (RR:=RR) hRR hcalm B pi (zhg hc) hcell h0 hkind hco hroom (λx c e=>zd3 _ _ _ (λ_ _ z=>by cases z) hc x c e) (λx hx=>?_) (λi x j h1 h2=>?_) hlen e1 e2 e3 (λpins Y H s I=>pers_T.st I.base hT) hq (λC code it s0 H0 ex pn=>(hg _ C code it s0 H0 ex pn).of) (λC code it s0 H0 ex pn rH=>(he _ C code it s0 H0 ex pn rH).of) hgl hs he1,zpS gi hon hap⟩
 .refine zd4 _ _ _ x (.inr (zbG ?_));rcases hx with e|e
  .exact absurd rfl (hcell _ (zbG e))
  .exact e
 .have hm:(x,some j)∈NC.zip fr:=by
   have:(NC.zip fr)[i]?=some (x,some j):=by rw[wbs];exact⟨h1,h2⟩
   exact waC this
  have q:=waN.mp hfr _ hm
  have q':((X.N[j]? == some x)&&(X.env.scope.names.lookup x == some .cell)&&(scope.names.lookup x == some .free))=true:=q
  simp only[waD,beq_iff_eq] at q';obtain⟨⟨q1,q2⟩,q3⟩:=q';refine⟨q1,.inr (.inl q2),?_,.inr q3⟩;intro z;have z':X.env.scope.names.lookup x=some .local:=z
  rw[q2] at z';cases z'
def vgg (i:Nat){X:Cx}{scope:Scope}{cl:List (Str×Addr)}{NC:List Str}{C:Addr}{code:Value}{bi:Addr}{A':Around}{s0:Shared}{H0:Hp}{ex:List Addr}{pn:List (Addr×Obj)}{x:Str}{pos:Pos}(nd:NC.Nodup:=by decide +kernel)(hi:NC[i]?=some x:=by rfl)(hx:scope.names.lookup x=some .local:=by rfl) :
 VG (gcx X scope cl NC C code bi A' s0 H0 ex pn) (.Name x pos) [i] (gN i):=⟨_,zgu (X:=gcx X scope cl NC C code bi A' s0 H0 ex pn) nd hi (.inl hx) (.inr hx),zgC⟩
def zhy {X:Cx}{k:Nat}{elt tg iter:Expr}{scope:Scope}{gpos:Pos}{it:Value}{cenv:Env}(r:Room (k+1) X.A):Room k (aG X (zbs elt tg iter scope gpos it cenv)):=by
 have hd:=r.dp
 have hu:=r.un
 refine⟨r.hd,?_,?_,?_⟩
 .show X.A.depth+0+(zbs elt tg iter scope gpos it cenv).weight+3*k+5<recursionLimit
  have:(zbs elt tg iter scope gpos it cenv).weight=1:=rfl
  omega
 .show X.A.units+1+1+0+(zbs elt tg iter scope gpos it cenv).cUnits+16*k+200<cLine
  have:(zbs elt tg iter scope gpos it cenv).cUnits<=3:=by first|exact wal _|decide
  omega
 .show pushGuards (zbs elt tg iter scope gpos it cenv).guards (pushGuards [] X.A.guards)=some []
  rw[r.gd];rfl
def zpT (N:List Str)(st:Stmt){X:Cx}{k:Nat}{elt iter tg:Expr}{scope:Scope}{gpos np cpos:Pos}{NC:List Str}(fr:List (Option Nat)){fi:FA}{g:FG}{is:List Nat}{fe:FE}{q:Str}(hr:Room k X.A)(B:Blt X.mg)(TX:TabX X q)(hi:VI X tg iter fi)
 (hg:∀{cl C code A' s0 H0 ex pn},VG (gcx X scope cl NC C code builtinsNs A' s0 H0 ex pn) tg is g)
 (he:∀{cl C code it s0 H0 ex pn},VE (gcx X scope cl NC C code builtinsNs (aG X (zbs elt tg iter scope gpos it (genEnv scope cl C code builtinsNs X.env))) s0 H0 ex pn) elt fe)
 (hcalm:X.calm=true:=by rfl) (hcells:∀x,X.env.scope.names.lookup x=some .cell->∃c,X.env.cells.lookup x=some c:=by exact λx h=>zbU h) (hfk:X.env.scope.kind=.function:=by rfl) (hN:X.N=N:=by rfl) (hsc:X.env.scope.names=(zab st).names:=by rfl)
 (hfree':∀y∈scope.names,y.2=.free->(zab st).names.lookup y.1=some .cell:=by decide +kernel) (hcell:∀y∈scope.names,y.2≠.cell:=by decide +kernel) (hkind:scope.kind=.function:=by rfl) (hco:scope.isCoroutine=false:=by rfl) (h0:scope.names.lookup (".0" : Str)=some NameKind.local:=by rfl)
 (hfr':zce N (zab st).names scope.names NC fr=true:=by decide +kernel) (hlen:fr.length=NC.length:=by rfl) (hap:apart is fr=true:=by decide) (hq:X.env.qual++"<genexpr>"=q:=by decide +kernel)
 (hgl:Gl X "all":=by rfl) (hs:∀x,genFold iter X.env x=pure x:=by intro _;rfl)
 (he1:starEach [.GeneratorExp elt [⟨tg,iter,[],0⟩] scope gpos] X.env=(false,eval (.GeneratorExp elt [⟨tg,iter,[],0⟩] scope gpos) X.env)::starEach [] X.env:=by rfl) :
 VE X (.Call (.Name "all" np) [.GeneratorExp elt [⟨tg,iter,[],0⟩] scope gpos] [] cpos) (eAll fr fi g fe):=
 zmv (RR:=λ_=>True) N st fr (λ_ _ _ _ _=>trivial) hcalm B hi TX hr.depth hcells hfk hN hsc hfree' hcell hkind hco h0 hfr' hlen hap hq (λ_ _ _ _ _ _ _ _=>hg) (λ_ _ _ _ _ _ _ _ _=>he) hgl hs he1
def zpU (N:List Str)(st:Stmt){X:Cx}{k:Nat}{elt iter tg:Expr}{scope:Scope}{gpos np cpos:Pos}{NC:List Str}(fr:List (Option Nat)){fi:FA}{g:FG}{is:List Nat}{fe:FE}{q:Str}{Pc:Hp->Prop}(hp:Prs X Pc)(hr:Room k X.A)(B:Blt X.mg)(TX:TabX X q)(hi:VI X tg iter fi)
 (hg:∀{cl C code A' s0 H0 ex pn},VG (gcx X scope cl NC C code builtinsNs A' s0 H0 ex pn) tg is g)
 (he:∀{cl C code it s0 H0 ex pn},Pc H0->VE (gcx X scope cl NC C code builtinsNs (aG X (zbs elt tg iter scope gpos it (genEnv scope cl C code builtinsNs X.env))) s0 H0 ex pn) elt fe)
 (hcalm:X.calm=true:=by rfl) (hcells:∀x,X.env.scope.names.lookup x=some .cell->∃c,X.env.cells.lookup x=some c:=by exact λx h=>zbU h) (hfk:X.env.scope.kind=.function:=by rfl) (hN:X.N=N:=by rfl) (hsc:X.env.scope.names=(zab st).names:=by rfl)
 (hfree':∀y∈scope.names,y.2=.free->(zab st).names.lookup y.1=some .cell:=by decide +kernel) (hcell:∀y∈scope.names,y.2≠.cell:=by decide +kernel) (hkind:scope.kind=.function:=by rfl) (hco:scope.isCoroutine=false:=by rfl) (h0:scope.names.lookup (".0" : Str)=some NameKind.local:=by rfl)
 (hfr':zce N (zab st).names scope.names NC fr=true:=by decide +kernel) (hlen:fr.length=NC.length:=by rfl) (hap:apart is fr=true:=by decide) (hq:X.env.qual++"<genexpr>"=q:=by decide +kernel)
 (hgl:Gl X "all":=by rfl) (hs:∀x,genFold iter X.env x=pure x:=by intro _;rfl)
 (he1:starEach [.GeneratorExp elt [⟨tg,iter,[],0⟩] scope gpos] X.env=(false,eval (.GeneratorExp elt [⟨tg,iter,[],0⟩] scope gpos) X.env)::starEach [] X.env:=by rfl) :
 VE X (.Call (.Name "all" np) [.GeneratorExp elt [⟨tg,iter,[],0⟩] scope gpos] [] cpos) (eAll fr fi g fe):=
 zmv (RR:=Pc) N st fr hp hcalm B hi TX hr.depth hcells hfk hN hsc hfree' hcell hkind hco h0 hfr' hlen hap hq (λ_ _ _ _ _ _ _ _=>hg) (λ_ _ _ _ _ _ _ _ rH=>he rH) hgl hs he1
end VD
namespace VD
open PySem PySem.Spec PyProof PyProof.Rows L2 PySem.W GX EX
end VD
namespace VD
open PySem PySem.Spec PyProof PyProof.Rows L2
def entI (w:World)(e:DictEntry)(k:Str)(v:Int):Prop:=∃t u,e.key=.str k t/\e.val=.int v u/\e.hash=hashStr w k
inductive EntI (w:World):List DictEntry->List (Str×Int)->Prop
|nil:EntI w [] []
|cons {e:DictEntry}{k:Str}{v:Int}{es:List DictEntry}{kvs:List (Str×Int)}(h:entI w e k v) (t:EntI w es kvs):EntI w (e::es) ((k,v)::kvs)
def zlP {P:Program}{w:World}{K:W.Frag}{mg:Str->Option Value}{x:Str}{p:Addr}{es:Array DictEntry}{ep:Nat}{kvs:List (Str×Int)}(hm:mg x=some (.ref p))(hl:K.lookup p=some ⟨.type "dict",none,.dict es ep,#[]⟩)(he:EntI w es.toList kvs)(hn:(kvs.map (·.1)).Nodup):GDct P w K mg x (kvs.map λq=>.inr q.1) (kvs.map λq=>.int q.2):=by
 have key:∀{l:List DictEntry}{kvs:List (Str×Int)},EntI w l kvs->(∀e∈l,∃k,(zaL P w).is k e.key=true/\e.hash=(zaL P w).hash k)/\∃vs,Pairs (zaL P w) l vs/\vs.map (·.1)=kvs.map (λq=>Sum.inr q.1)/\KV (kvs.map λq=>((Sum.inr q.1:Key),V.int q.2)) vs:=by
  intro l kvs h;induction h with
 |nil=>exact⟨λe h=>(by cases h),[],Pairs.nil,rfl,Paired.nil⟩
 |@cons e k v es kvs h t ih=>
    obtain⟨t1,t2,h1,h2,h3⟩:=h;obtain⟨i1,vs,i2,i3,i4⟩:=ih;refine⟨λe' he=>?_,(.inr k,.int v t2)::vs,.cons (by rw[h1];exact zc3 P w k t1) h2 i2,by rw[waL,i3];rfl,.cons ⟨rfl,⟨t2,rfl⟩⟩ i4⟩;rcases wak.mp he with rfl|he
    .exact⟨.inr k,by rw[h1];exact zc3 P w k t1,h3⟩
    .exact i1 e' he
 obtain⟨k1,vs,k2,k3,k4⟩:=key he;refine⟨p,_,es,ep,kvs.map λq=>((Sum.inr q.1:Key),V.int q.2),vs,hm,hl,⟨rfl,rfl,rfl⟩,rfl,λe h=>k1 e (Array.mem_toList_iff.mpr h),k2,?_,k4,by rw[waS];rfl,λH J=>?_⟩
 .rw[k3];have:(kvs.map λq=>(Sum.inr q.1:Key))=(kvs.map (·.1)).map Sum.inr:=by rw[waS];rfl
  rw[this];exact List.Pairwise.map _ (λa b h e=>h (Sum.inr.inj e)) hn
 .clear he hn k1 k2 k3 k4
  induction kvs with
 |nil=>exact .nil
 |cons q kvs ih=>exact .cons (.int _) ih
section
variable {X:Cx}
def zmw (i j:Nat){x y:Str}{a b:Expr}{fl:FA}{px py pt pt2 pos:Pos}{kt k2:Nat}(hN:X.N.Nodup)(h:VA X [a,b] fl)(hij:i≠j:=by decide)(hc:X.calm=true:=by rfl)(hi:X.N[i]?=some x:=by rfl)(hj:X.N[j]?=some y:=by rfl)
 (hx:X.env.scope.names.lookup x=some .local:=by rfl) (hy:X.env.scope.names.lookup y=some .local:=by rfl)
 (hw:swappedStores [.Tuple [.Name x px,.Name y py] kt pt] (.Tuple [a,b] k2 pt2) X.env=pure (some [x,y]):=by rfl)
 (hs:swapsWithSole [.Tuple [.Name x px,.Name y py] kt pt] (.Tuple [a,b] k2 pt2) pos.line X.env=pure false:=by rfl) :
 VS X (.Assign [.Tuple [.Name x px,.Name y py] kt pt] (.Tuple [a,b] k2 pt2) pos) (gAsg (eTup fl) (gT 2 (gCons' (gN i) (gCons' (gN j) gNil')))):=by
 obtain⟨t,p,q⟩:=h;refine⟨_,zoE hc hN hi hj hij hx hy p hw hs,λHz Jz O Z Y H J o E s e w=>?_⟩;obtain⟨d,e1,e⟩:=bind_some e;obtain⟨Z',e2,e⟩:=bind_some e;cases e;obtain⟨ds,e3,e1⟩:=bind_some (show(fl Z).bind mkT=some d from e1);have hd:d=.tup ds:=by
  unfold mkT at e1;split at e1
  .cases e1;rfl
  .cases e1
 subst hd;have e2:(if ds.length=2 then gCons' (gN i) (gCons' (gN j) gNil') ds Z else none)=some Z':=e2
 by_cases hl:ds.length=2
 .rw[if_pos hl] at e2;match ds,hl with
 |[d1,d2],_=>
    obtain⟨Z1,f1,e2⟩:=bind_some (show(gN i d1 Z).bind (λZ1=>gCons' (gN j) gNil' [d2] Z1)=some Z' from e2);obtain⟨Z2,f2,e2⟩:=bind_some (show(gN j d2 Z1).bind (λZ2=>gNil' [] Z2)=some Z' from e2);have e2:some Z2=some Z':=e2
    cases e2;unfold gN at f1 f2;by_cases hi:i<Z.length/\isPar (Z[i]?)=false
    .rw[if_pos hi] at f1;cases f1;by_cases hj:j<(Z.set i (.val d1)).length/\isPar ((Z.set i (.val d1))[j]?)=false
     .rw[if_pos hj] at f2;cases f2;refine q Hz Jz O Z Y H J _ _ s e3 λvs H' J' u r=>?_
      match vs,r with
     |[v1,v2],.cons r1 (.cons r2 .nil)=>
        exact⟨v1,v2,rfl,w _ H' J' (((s.up u).set r1 hi.1 (zbY hi.2)).set r2 hj.1 (zbY hj.2)) u.keep⟩
     .rw[if_neg hj] at f2;cases f2
    .rw[if_neg hi] at f1;cases f1
 .rw[if_neg hl] at e2;cases e2
end
mutual
def noL:D->Bool
|.non=>true
|.bl _=>true
|.int _=>true
|.str _=>true
|.tup ds=>noLL ds
|_=>false
def noLL:List D->Bool
|[]=>true
|d::ds=>noL d&&noLL ds
end
section
variable {K:W.Frag}{H:Hp}{J J2:Addr->Prop}
mutual
theorem zjP {v:V}{d:D}:Rp K H J v d->noL d=true->Rp K H J2 v d
|.non,_=>.non
|.bl b,_=>.bl b
|.int i,_=>.int i
|.str x,_=>.str x
|.scr p,h=>by cases h
|.tup h r,n=>.tup h (zfl r n)
|.lst _ _ _,h=>by cases h
|.dct _ _ _ _ _,h=>by cases h
|.dcu _ _ _ _ _,h=>by cases h
|.exc _ _,h=>by cases h
theorem zfl {vs:List V}{ds:List D}:RpL K H J vs ds->noLL ds=true->RpL K H J2 vs ds
|.nil,_=>.nil
|.cons h t,n=>.cons (zjP h (waD _ _▸(show(noL _&&noLL _)=true from n)).1) (zfl t (waD _ _▸(show(noL _&&noLL _)=true from n)).2)
end
end
section
variable {X:Cx}{e:Expr}{es:List Expr}{fl:FA}{p pos:Pos}
end
def znQ {S:Type}(q:RV×S):Option (List D×S):=match q.1 with
|.new 2 (.lst x)=>some (x,q.2)
|_=>none
def zlQ {S:Type}{emb:S->En}{Z:En}{i:Nat}{fr:FR}{xr:Option (RV×S)}(h:EvR fr Z xr emb)(hi:∀s,okS i (emb s)=true):Step (gOwnR i fr) Z (xr.bind znQ) λq=>(emb q.2).set i (.own 2 (.lst q.1)):=λq z=>by
 obtain⟨⟨r,s1⟩,e0,z⟩:=zaa z;unfold znQ at z;split at z
 .rename_i x hr
  cases z;have hr:r=.new 2 (.lst x):=hr
  subst hr;unfold gOwnR;rw[h _ e0,zOB];exact if_pos (zdJ (hi s1))
 .cases z
end VD
namespace VD
open PySem PySem.Spec PyProof PyProof.Rows L2
def noD (d:D):Option D:=if noL d then some d else none
def noDL (d:List D):Option (List D):=if noLL d then some d else none
def zlR {d e:D}(h:noD d=some e):noL d=true/\d=e:=by
 unfold noD at h;split at h
 .rename_i q;cases h;exact⟨q,rfl⟩
 .cases h
def zjQ {d e:List D}(h:noDL d=some e):noLL d=true/\d=e:=by
 unfold noDL at h;split at h
 .rename_i q;cases h;exact⟨q,rfl⟩
 .cases h
section
variable {X:Cx}{e:Expr}{K:W.Frag}{H H' Hz:Hp}{J J' Jz Jv:Addr->Prop}{Z:En}{Y:L2.St}{O:Pr}
def zjR (s:ST K Hz Jz O Z Y H J)(u:Up H Jv H' J'):Up H J H' J:=⟨u.same,λ_ h=>h,λ_ h=>.inl h,λa h=>by
 have:=s.ja a h
 cases q:H a with
|none=>exact absurd q this
|some o=>rw[u.same a o q];simp⟩
def zfm {f:FE}(h:VE X e f):VE X e (λZ=>(f (zem Z)).bind noD):=by
 obtain⟨t,p,g⟩:=h;refine⟨t,p,λHz Jz O Z Y H J d Q s e w=>?_⟩;obtain⟨d',e1,e2⟩:=bind_some e;obtain⟨n,rfl⟩:=zlR e2;obtain⟨Jv,hj,sv⟩:=s.view;exact g H Jv Pr.no _ Y H Jv d' Q sv e1 λv H' J' u r=>w v H' J (zjR s u) (zjP r n)
def znR {f:FA}(h:VN X e f):VN X e (λZ=>(f (zem Z)).bind noDL):=by
 obtain⟨t,p,g⟩:=h;refine⟨t,p,λHz Jz O Z Y H J d Q s e w=>?_⟩;obtain⟨d',e1,e2⟩:=bind_some e;obtain⟨n,rfl⟩:=zjQ e2;obtain⟨Jv,hj,sv⟩:=s.view;exact g H Jv Pr.no _ Y H Jv d' Q sv e1 λq vs H' J' u hq nq h' r=>w q vs H' J (zjR s u) hq (λj=>s.ja q j hq) h' (zfl r n)
def parS:Option SV->SV
|some (.own n d)=>.par n d
|some (.par n d)=>.par n d
|_=>.un
def viewX (i:Nat)(Z:En):En:=(zem Z).set i (parS (Z[i]?))
def zcN {i:Nat}{n:Nat}{d:D}(h:ownD (Z[i]?)=some (n,d)):(viewX i Z)[i]?=some (.par n d):=by
 unfold viewX zem;have hi:i<Z.length:=by
  by_cases hi:i<Z.length
  .exact hi
  .rw[waG (by omega)] at h;cases h
 rw[wam (by simpa using hi)];match z:Z[i]?,h with
|some (.own _ _),h=>cases h;rfl
|some (.par _ _),h=>cases h;rfl
def zhz {i j:Nat}(h:j≠i):(viewX i Z)[j]?=(Z[j]?).map zpK:=by
 unfold viewX zem;rw[wah (Ne.symm h),waj]
theorem ST.viewX {i n:Nat}{d:D}{a:Addr}(s:ST K Hz Jz O Z Y H J){fp:Nat->List Addr}(ow:Ow K Hz O Z Y H J fp)(h:ownD (Z[i]?)=some (n,d))(ha:Y[i]?=some (some (.ref a)))(ru:RpU K H J n (.ref a) d (fp i)) :
 ST K H (λb=>J b\/∃j,j≠i/\b∈fp j) ⟨[(i,a,n)],λj=>if j=i then fp i else[]⟩ (viewX i Z) Y H (λb=>J b\/∃j,j≠i/\b∈fp j):=by
 have kp:Keep K H J H (λb=>J b\/∃j,j≠i/\b∈fp j):=⟨λ_ h=>.inl h,λ_ _ _ h=>h,λ_ _ h=>h⟩
 refine⟨λ_ _ _ h=>h,λ_ h=>h,λ_ h=>.inl h,λb hb=>?_,by unfold VD.viewX zem;rw[List.length_set,wad];exact s.len,λj e hj=>?_,⟨λj=>if j=i then fp i else[],⟨λj=>?_,λj=>?_,λj b hb=>?_,λj l ne b hb=>?_⟩⟩,λq hq=>?_,λ_ h=>h⟩
 .rcases hb with h|⟨j,_,h⟩
  .exact s.ja b h
  .obtain⟨o,e,_⟩:=(ow.at' j).ru b h;rw[e];simp
 .by_cases hji:j=i
  .subst hji;rw[zcN h] at hj;cases hj
  .rw[zhz hji] at hj;cases q:Z[j]? with
  |none=>rw[q] at hj;cases hj
  |some z=>
     rw[q] at hj;have at':=ow.at' j
     rw[q] at at';match z,hj,at',q with
    |.val d',hj,_,q=>
       cases hj;obtain⟨v,e1,r⟩:=s.vl j _ q;exact⟨v,e1,Rp.keep kp r⟩
    |.own n d',hj,at',_=>
       cases hj;obtain⟨⟨v,e1,r⟩,_⟩:=at';exact⟨v,e1,RpU.rp (λ_ h=>.inl h) (λb hb=>.inr ⟨j,hji,hb⟩) r⟩
    |.par n d',hj,at',_=>
       cases hj;obtain⟨⟨v,e1,r⟩,_⟩:=at';exact⟨_,e1,RpU.rp (λ_ h=>.inl h) (λb hb=>.inr ⟨j,hji,hb⟩) r⟩
 .by_cases hji:j=i
  .subst hji;rw[zcN h];simp only[if_true];exact⟨⟨_,ha,ru.keep kp λ_ _ _ h=>h⟩,λb hb=>.inr hb⟩
  .rw[zhz hji];simp only[if_neg hji];cases q:Z[j]? with
  |none=>rfl
  |some z=>cases z <;> rfl
 .split
  .exact ow.nd i
  .exact waZ
 .split at hb
  .rintro(jb|⟨l,hl,hb2⟩)
   .exact ow.nj i b hb jb
   .exact ow.dj i l (Ne.symm hl) b hb hb2
  .cases hb
 .split at hb
  .rename_i z
   rw[if_neg (λh=>ne (z.trans h.symm))];simp
  .cases hb
 .rw[waf.mp hq];exact⟨ha,d,zcN h⟩
def vwX (i:Nat)(f:FX):FX:=λZ=>match ownD (Z[i]?) with
|some (1,_)=>(f (viewX i Z)).bind λq=>match ownD (q.2[i]?) with
  |some (_,.lst xs)=>if noL q.1&&noLL xs then some (q.1,setO Z i (.lst xs)) else none
  |_=>none
|_=>none
def znS (i:Nat){f:FX}(h:VX X e f):VX X e (vwX i f):=by
 obtain⟨t,p,g⟩:=h;refine⟨t,p,λHz Jz O Z Y H J d Z2 Q s e w=>?_⟩;unfold vwX at e;split at e
 next d0 ho=>
  obtain⟨⟨dd,Z'⟩,e1,e⟩:=bind_some e;split at e
  next n2 xs ho2=>
   split at e
   next hn=>
    cases e;rw[waD] at hn;obtain⟨fp,ow⟩:=s.ow;have hi:i<Z.length:=by
     by_cases hi:i<Z.length
     .exact hi
     .rw[waG (by omega)] at ho;cases ho
    have hat:∃v,Y[i]?=some (some v)/\RpU X.K H J 1 v d0 (fp i):=by
     have o:=ow.at' i
     match z:Z[i]?,ho,o with
    |some (.own _ _),ho,o=>cases ho;exact o.1
    |some (.par _ _),ho,o=>cases ho;exact o.1
    obtain⟨v,hv,ru⟩:=hat
    obtain⟨a,rfl⟩:=ru.isRef;have sv:=s.viewX ow ho hv ru
    refine g _ _ _ _ Y H _ dd Z' Q sv e1 λv' H' J' s' k' r'=>?_
    obtain⟨fp',ow'⟩:=s'.ow;have ps':=s'.ps (i,a,1) wai
    obtain⟨_,d',hd'⟩:=ps';have at':=ow'.at' i
    have hd':Z'[i]?=some (.par 1 d'):=hd'
    have ho2:ownD (Z'[i]?)=some (n2,.lst xs):=ho2
    rw[hd'] at at' ho2;cases ho2;obtain⟨⟨v2,hv2,ru2⟩,hb2⟩:=at';rw[hv] at hv2;cases hv2;obtain⟨a2,vs2,ea,eA,h2,r2⟩:=ru2.one;have jj:∀b,J b->J' b:=λb hb=>k'.jj b (.inl hb)
    have ru3:RpU X.K H' J 1 (.ref a) (.lst xs) (fp' i):=by rw[ea,eA];exact .lst h2 (RpUL.of (zfl r2 hn.2))
    have key:=s.chgs (Z':=setO Z i (.lst xs)) (fp':=zfR fp i (fp' i)) (is:=λj=>j == i) (H':=H') (J':=J) ow (by simp[setO]) (λj hj=>?_) (λj hj=>?_) (λj hj=>?_) (λj hj=>?_) (λj l hj hl ne=>?_) (λb o hb h=>s'.same b o ?_ h) s'.al (λ_ h=>h) (λ_ h=>.inl h) (λb hb=>s'.al b (s.ja b hb))
    .exact w v' H' J key.1 key.2.2 (zjP r' hn.1)
    .have hj':j≠i:=by simpa using hj
     exact⟨zc7 hj',zbc hj'⟩
    .have hj':j=i:=by simpa using hj
     subst hj';refine⟨1,d0,.lst xs,.ref a,ho,wam hi,hv,by rw[zaB];exact ru3,λb hb=>?_⟩;rw[zaB] at hb;rcases hb2 b hb with h|h
     .exact .inr h
     .exact .inl (by simpa using h)
    .have hj':j=i:=by simpa using hj
     subst hj';rw[zaB];exact ow'.nd j
    .have hj':j=i:=by simpa using hj
     subst hj';rw[zaB];exact λb hb jb=>ow'.nj j b hb (jj b jb)
    .have hj':j=i:=by simpa using hj
     have hl':l=i:=by simpa using hl
     exact absurd (hj'.trans hl'.symm) ne
    .rintro⟨j,hj⟩;have hj:b∈(if j=i then fp i else[]):=hj
     split at hj
     .exact hb i (by simp) hj
     .cases hj
   next=>cases e
  next=>cases e
 next=>cases e
end
section
variable {S:Type}{Z:En}{emb:S->En}
def zlS (F:List D->Option (RV×List D))(put:D->S)(as:List D):Option (D×S):=(F as).bind λ(r:RV×List D)=>match r.2[0]? with
|some (D.lst xs)=>if noL r.1.d&&noLL xs then some (r.1.d,put (.lst xs)) else none
|_=>none
def zjS {i n:Nat}{d:D}(h:ownD (Z[i]?)=some (n,d)):ownD ((viewX i Z)[i]?)=some (n,d):=by rw[zcN h];rfl
def zlT {ks:List (Option Nat)}{i:Nat}{F:List D->Option (RV×List D)}{fg:FAG}{xa:Option (List (Option D)×Unit)}{d:D}{put:D->S}(h:EvAG fg (viewX i Z) xa (λ_=>viewX i Z))(hg:ownD (Z[i]?)=some (1,d))(hp:∀e,setO Z i e=emb (put e)):EvX (vwX i (xR (xCallG ks 0 i 1 F fg))) Z (xa.bind λa=>if a.1.map (agK 1)=ks then zlS F put (a.1.map λo=>o.getD d) else none) emb:=λq z=>by
 obtain⟨⟨as,_⟩,e00,z⟩:=zaa z;have h:=h _ e00
 split at z
 .rename_i hk
  obtain⟨r,e1,z⟩:=zaa z;have hk:as.map (agK 1)=ks:=hk
  have e1:F (as.map λo=>o.getD d)=some r:=e1
  split at z
  next xs e2=>
   split at z
   next hn=>
    cases z;have hi:i<(viewX i Z).length:=by
     by_cases hi:i<(viewX i Z).length
     .exact hi
     .have:=zcN hg;rw[waG (by omega)] at this;cases this
    have e0:xCallG ks 0 i 1 F fg (viewX i Z)=some (r.1,setO (viewX i Z) i (.lst xs)):=by
     unfold xCallG;rw[h,zOB];show(if as.map (agK 1)=ks then match ownD ((viewX i Z)[i]?) with
     |some (m,d)=>if m=1 then(F (as.map λo=>o.getD d)).bind λr=>(r.2[0]?).bind λe=>some (r.1,setO (viewX i Z) i e) else none
     |none=>none
      else none)=_
     rw[if_pos hk,zjS hg];show(if 1=1 then(F (as.map λo=>o.getD d)).bind λr=>(r.2[0]?).bind λe=>some (r.1,setO (viewX i Z) i e) else none)=_
     rw[if_pos rfl,e1,zOB,e2,zOB]
    unfold vwX;rw[hg];show((xR (xCallG ks 0 i 1 F fg)) (viewX i Z)).bind _=_
    unfold xR;rw[e0,zOB,zOB];have:ownD ((setO (viewX i Z) i (.lst xs))[i]?)=some (1,.lst xs):=by
     unfold setO;rw[wam hi,zcN hg];rfl
    show(match ownD ((setO (viewX i Z) i (.lst xs))[i]?) with
    |some (_,.lst xs)=>if noL r.1.d&&noLL xs then some (r.1.d,setO Z i (.lst xs)) else none
    |_=>none)=_
    rw[this];show(if noL r.1.d&&noLL xs then some (r.1.d,setO Z i (.lst xs)) else none)=_
    rw[if_pos hn,hp]
   next=>cases z
  next=>cases z
 .cases z
end
def zjT (xs:List D)(k m v:D):Option (List D):=(dInt k).bind λk=>(dInt m).bind λm=>(ixN xs.length k).bind λj=>match xs[j]? with
|some (.lst es)=>(ixN es.length m).bind λl=>some (xs.set j (.lst (es.set l v)))
|_=>none
section
variable {Z:En}{i:Nat}{fk fm fv:FE}{xs:List D}
def zlU (h:ownD (Z[i]?)=some (2,.lst xs)):Step (gPut22 i fk fm (xE fv)) Z ((fv Z).bind λv=>(fk Z).bind λk=>(fm Z).bind λm=>zjT xs k m v) λys=>setO Z i (.lst ys):=λd z=>by
 obtain⟨v,e0,z⟩:=zaa z;obtain⟨k,e1,z⟩:=zaa z;obtain⟨m,e2,z⟩:=zaa z;obtain⟨kk,e3,z⟩:=zaa z;obtain⟨mm,e4,z⟩:=zaa z;obtain⟨j,e5,z⟩:=zaa z;unfold gPut22 xE;rw[e0,zOB,zOB];show((fk Z).bind λk=>(dInt k).bind λk=>(fm Z).bind λm=>(dInt m).bind λm=>match ownD (Z[i]?) with
 |some (2,.lst ds)=>(ixN ds.length k).bind λj=>match ds[j]? with
   |some (.lst es)=>(ixN es.length m).bind λl=>some (Out.nx (setO Z i (.lst (ds.set j (.lst (es.set l v))))))
   |_=>none
 |_=>none)=_
 rw[e1,zOB,e3,zOB,e2,zOB,e4,zOB,h];show((ixN xs.length kk).bind λj=>match xs[j]? with
 |some (.lst es)=>(ixN es.length mm).bind λl=>some (Out.nx (setO Z i (.lst (xs.set j (.lst (es.set l v))))))
 |_=>none)=_
 rw[e5,zOB];split at z
 .rename_i es q
  obtain⟨l,e6,z⟩:=zaa z;cases z;show((ixN es.length mm).bind λl=>some (Out.nx (setO Z i (.lst (xs.set j (.lst (es.set l v)))))))=some (Out.nx (setO Z i (.lst (xs.set j (.lst (es.set _ v))))))
  rw[e6];rfl
 .cases z
def zjU (xs:List D)(r:RV):Option (List D):=match r with
|.new 1 d=>if xs.length<lim then some (xs++[d]) else none
|_=>none
def zjV {S:Type}{emb:S->En}{get:S->List D}{fr:FR}{xr:Option (RV×S)}(h0:isL2 (ownD (Z[i]?))=true)(h:EvR fr Z xr emb)(hg:∀s,ownD ((emb s)[i]?)=some (2,.lst (get s))) :
 Step (gAppN2 i fr) Z (xr.bind λq=>(zjU (get q.2) q.1).bind λys=>some (ys,q.2)) λq=>setO (emb q.2) i (.lst q.1):=λq z=>by
 obtain⟨⟨r,s1⟩,e0,z⟩:=zaa z;obtain⟨ys,e1,z⟩:=zaa z;cases z;unfold gAppN2;rw[if_pos h0,h _ e0,zOB];show(match r,ownD ((emb s1)[i]?) with
 |.new 1 d,some (2,.lst ds)=>if ds.length<lim then some (Out.nx (setO (emb s1) i (.lst (ds++[d])))) else none
 |_,_=>none)=_
 rw[hg];match r,e1 with
|.new 1 d,e1=>
   have e1:(if(get s1).length<lim then some (get s1++[d]) else none)=some ys:=e1
   split at e1
   .rename_i q
    cases e1;show(if(get s1).length<lim then some (Out.nx (setO (emb s1) i (.lst (get s1++[d])))) else none)=_
    exact if_pos q
   .cases e1
end
def memN:List Nat->Nat->Bool
|[],_=>false
|i::is,k=>match Nat.beq k i with|true=>true|false=>memN is k
def un1:SV->SV
|.par n d=>.par n d
|_=>.un
def unB:Bool->SV->SV
|true,s=>un1 s
|false,s=>s
def zjW (is:List Nat):Nat->En->En
|_,[]=>[]
|k,s::Z=>unB (memN is k) s::zjW is (k+1) Z
theorem zf8 (is:List Nat):∀(Z:En) (k j:Nat),(zjW is k Z)[j]?=(Z[j]?).map (unB (memN is (k+j)))
|[],_,_=>rfl
|s::Z,k,0=>rfl
|s::Z,k,j+1=>by
   show(zjW is (k+1) Z)[j]?=(Z[j]?).map _
   rw[zf8 is Z (k+1) j,show k+1+j=k+(j+1) by omega]
def zjX (Z:En)(i j:Nat):(zgG Z i)[j]?=(Z[j]?).map (unB (Nat.beq j i)):=by
 unfold zgG;by_cases e:j=i
 .subst e;rw[show Nat.beq j j=true from Nat.beq_refl j];cases q:Z[j]? with
 |none=>
    split
    .rw[List.getElem?_set_self'];simp[q]
    .rw[q];rfl
 |some s=>
    have hj:=(waa.mp q).1
    cases s with
   |par n d=>rw[if_neg (by simp[isPar])];rw[q];rfl
   |un=>rw[if_pos (by rfl),wam hj];rfl
   |val d=>rw[if_pos (by rfl),wam hj];rfl
   |own n d=>rw[if_pos (by rfl),wam hj];rfl
 .rw[show Nat.beq j i=false from by cases z:Nat.beq j i with|false=>rfl|true=>exact absurd (Nat.eq_of_beq_eq_true z) e];split
  .rw[wah (Ne.symm e)];cases Z[j]? <;> rfl
  .cases Z[j]? <;> rfl
def znT (a b:Bool)(s:SV):unB a (unB b s)=unB (match b with|true=>true|false=>a) s:=by
 cases a <;> cases b <;> cases s <;> rfl
theorem zf9:∀(is:List Nat) (Z:En) (j:Nat),(dropE is Z)[j]?=(Z[j]?).map (unB (memN is j))
|[],Z,j=>by show Z[j]?=_;cases Z[j]? <;> rfl
|i::is,Z,j=>by
   show(dropE is (zgG Z i))[j]?=_
   rw[zf9 is (zgG Z i) j,zjX,Option.map_map];congr 1;funext s
   exact znT _ _ _
def zlV (is:List Nat)(Z:En):dropE is Z=zjW is 0 Z:=wbT λj=>by rw[zf9,zf8,wbl]
def zhA {R A:Type}{k:Out->Option R}{φ:A->Option R}{g:FS}{Z:En}(is:List Nat){a:Option A}(h:EvS k φ g (zjW is 0 Z) a):EvS k φ (znz is g) Z a:=zb7 is (by rw[zlV];exact h)
def zhB {P:Program}{w:World}{K:W.Frag}{mg:Str->Option Value}{base:Heap}{k:Nat}{f:Addr}{fd:FuncData}{ps:List Str}{x q:Str}{st:Stmt}(_:Fun K x q st f fd):FnOk P w K mg base CX0 k f fd ps (spF K λ_=>none):=by
 refine⟨λvs H Q E h=>?_,λA outer s H args us vs Q E _ _ _ _ h=>?_⟩
 .obtain⟨J,ds,d,_,_,e,_⟩:=h;cases e
 .obtain⟨J,ds,d,_,_,e,_⟩:=h;cases e
end VD
namespace GB
open PySem PySem.Spec PyProof PyProof.Rows L2 VD GM
def Po {A:Type}(o:Option A)(R:A->Prop):Prop:=∃a,o=some a/\R a
section
variable {A B:Type}{o:Option A}{k:A->Option B}{P:A->Prop}{R:B->Prop}{a:A}
def sx (e:o=some a)(h:Po (k a) R):Po (o.bind k) R:=by rw[e];exact h
def asc {C:Type}{g:B->Option C}{R:C->Prop}(h:Po (o.bind λx=>(k x).bind g) R):Po ((o.bind k).bind g) R:=by
 cases o with
|none=>exact h
|some x=>exact h
theorem Po.bind (h:Po o P)(hk:∀a,P a->Po (k a) R):Po (o.bind k) R:=by
 obtain⟨a,e,p⟩:=h;exact sx e (hk a p)
end
def znU {S A:Type}{f:S->D->Option S}{ds:List D}{s0:S}{k:S->Option A}{R:A->Prop}(I:Nat->S->Prop)(h0:I 0 s0)(hs:∀i s d,ds[i]?=some d->I i s->Po (f s d) (I (i+1)))(hk:∀s,I ds.length s->Po (k s) R):Po ((zaZ f s0 ds).bind k) R:=by
 have key:∀(ds:List D) (b:Nat) (s:S),(∀i s d,ds[i]?=some d->I (b+i) s->Po (f s d) (I (b+i+1)))->I b s->Po (zaZ f s ds) (I (b+ds.length)):=by
  intro ds;induction ds with
 |nil=>intro b s _ h;exact⟨s,rfl,h⟩
 |cons d ds ih=>
    intro b s hf h;obtain⟨s1,e1,h1⟩:=hf 0 s d rfl h;show Po ((f s d).bind λs=>zaZ f s ds) _
    refine sx e1 ?_;rw[waK,show b+(ds.length+1)=b+1+ds.length by omega];exact ih (b+1) s1 (λi s d hd hI=>by
     rw[show b+1+i=b+(i+1) by omega] at hI⊢;exact hf (i+1) s d hd hI) h1
 have:=key ds 0 s0 (λi s d hd hI=>by rw[wbl] at hI⊢;exact hs i s d hd hI) h0
 rw[wbl] at this;exact this.bind hk
structure Itm where
 dp:Nat
 nm:Str
 ba:Int
 bb:Int
 bc:Int
 bd:Int
 wd:Str
 rk:Int
 hd:Option Str
def Itm.bx (x:Itm):D:=.tup [.int x.ba,.int x.bb,.int x.bc,.int x.bd]
def hdO:Option Str->D
|none=>.non
|some h=>.str h
inductive Vd:Nat->List Itm->Prop
|nil {m:Nat}:Vd m []
|cons {m:Nat}{x:Itm}{S:List Itm}(hm:x.dp<=m) (h4:x.dp<=4) (t:Vd (x.dp+1) S):Vd m (x::S)
def part (x:Itm)(_:Nat)(inn:List D):D:=.tup [.str x.nm,x.bx,.str x.wd,.int x.rk,hdO x.hd,.tup inn]
def fo:List Itm->Nat->List D
|[],_=>[]
|x::S,d=>if d=x.dp then part x 0 (fo S (d+1))::fo S d else if d=x.dp+1 then[] else fo S d
def ot (fr:Str->Bool):Nat->List D->List D
|0,_=>[]
|n+1,ds=>ds.flatMap λd=>match d with
  |.tup [_,_,.str w,_,_,.tup inn]=>if fr w then d::ot fr n inn else[]
  |_=>[]
theorem zjY:∀{m:Nat}{S:List Itm},Vd m S->∀d,m<d->fo S d = []
|_,_,.nil,_,_=>rfl
|m,_,.cons (x:=x) (S:=S) hm h4 t,d,hd=>by
   show(if d=x.dp then _ else if d=x.dp+1 then[] else fo S d) = []
   rw[if_neg (by omega)];by_cases e:d=x.dp+1
   .rw[if_pos e]
   .rw[if_neg e];exact zjY t d (by omega)
def nr:D->Int×Str
|.tup [.str n,_,_,.int r,_,_]=>(r,n)
|_=>(0,"")
def znV {fr:Str->Bool}{n:Nat}{x:Itm}{dp:Nat}{inn ds:List D}:ot fr (n+1) (part x dp inn::ds)=(if fr x.wd then part x dp inn::ot fr n inn else[])++ot fr (n+1) ds:=by
 show(List.flatMap _ (_::ds))=_
 rw[List.flatMap_cons];rfl
def Ok:Nat->List D->Prop
|0,ds=>ds = []
|n+1,ds=>∀d∈ds,∃x dp inn,d=part x dp inn/\Ok n inn
def Ok.nil:∀{n:Nat},Ok n []
|0=>rfl
|_+1=>λd h=>by cases h
theorem zfn:∀{m:Nat}{S:List Itm},Vd m S->∀d,Ok (6 - d) (fo S d)
|_,_,.nil,_=>Ok.nil
|m,_,.cons (x:=x) (S:=S) hm h4 t,d=>by
   show Ok (6 - d) (if d=x.dp then part x 0 (fo S (d+1))::fo S d else if d=x.dp+1 then[] else fo S d)
   by_cases e:d=x.dp
   .rw[if_pos e];have h1:=zfn t (d+1)
    have h2:=zfn t d
    rw[show 6 - d=(6 - (d+1))+1 by omega] at h2⊢;intro y hy;rcases wak.mp hy with rfl|hy
    .exact⟨_,_,_,rfl,h1⟩
    .exact h2 y hy
   .rw[if_neg e];by_cases e2:d=x.dp+1
    .rw[if_pos e2];exact Ok.nil
    .rw[if_neg e2];exact zfn t d
theorem Ok.up:∀{n:Nat}{ds:List D},Ok n ds->Ok (n+1) ds
|0,ds,h=>by rw[show ds = [] from h];exact Ok.nil
|n+1,ds,h=>λd hd=>by
   obtain⟨x,dp,inn,e,o⟩:=h d hd;exact⟨x,dp,inn,e,o.up⟩
end GB
namespace Pg
open PySem L2
def top (i:Nat):Stmt:=PySem.Challenge.pw_focuswalk_k71_word_box_and_rank.main.body.getD i (.Pass ⟨0,0,0,0⟩)
abbrev zbt:Stmt:=top 19
abbrev zcO:Stmt:=top 20
abbrev zep:Stmt:=top 21
abbrev zcP:Stmt:=top 22
abbrev zb8:Stmt:=top 23
abbrev zbP:Stmt:=top 24
abbrev zeq:Stmt:=top 29
abbrev zcQ:Stmt:=top 30
abbrev za1:Stmt:=top 31
abbrev zer:Stmt:=top 32
abbrev zdz:Stmt:=top 33
abbrev zb1:Stmt:=top 34
abbrev zes:Stmt:=top 35
abbrev zet:Stmt:=top 36
abbrev zeu:Stmt:=top 37
abbrev zb9:Stmt:=top 38
abbrev zbj:Stmt:=top 39
abbrev zcC:Stmt:=top 40
abbrev zev:Stmt:=top 41
abbrev zbu:Stmt:=top 42
abbrev zjZ:Stmt:=top 46
abbrev zew:Stmt:=top 47
abbrev zex:Stmt:=top 48
abbrev zdA:Stmt:=top 49
abbrev zcD:Stmt:=top 50
abbrev zh1:Stmt:=top 51
abbrev zj0:Stmt:=top 52
abbrev zc8:Stmt:=top 54
abbrev zc9:Stmt:=top 55
abbrev zcm:Stmt:=top 56
abbrev zdB:Stmt:=top 57
abbrev zcn:Stmt:=top 58
abbrev zco:Stmt:=top 59
abbrev zcE:Stmt:=top 60
abbrev zfo:Stmt:=top 61
end Pg
namespace Pg
open PySem PySem.Spec PyProof PyProof.Rows L2 VD EX
section
variable {P:Program}{w:World}{K:W.Frag}{mg:Str->Option Value}{base:Heap}{f g:Addr}{fd gd:FuncData}
def zbg (self:List D->Option D)(p_parts p_outer_place:D):Option D:=
 (Option.bind (some ([]:List D)) λ(x1:List D)=>(Option.bind (Option.bind (zqS [p_parts]) (zaZ (λ(s2:List D) (d8:D)=>Option.bind (un2 d8) λ(y3:D×D)=>(Option.bind (dAdd p_outer_place (.tup [y3.1])) λ(x4:D)=>(Option.bind (appL s2 (.tup [x4,y3.2])) λ(x5:List D)=>(Option.bind (Option.bind (Option.bind (aC (dIx y3.2 (.int 5)) (aC (some x4) aN)) self) (extL x5)) λ(x6:List D)=>(some x6))))) x1)) λ(s2:List D)=>(Option.bind (some (.lst s2)) λ(r7:D)=>(some r7))))
def zbQ (self:List D->Option D):List D->Option D:=c2 (zbg self)
def zaI:Nat->List D->Option D
|0=>λ_=>none
|n+1=>zbQ (zaI n)
def sc_placed_within:FnScope ["parts","outer_place","pairs","number","part","place"] ["parts","outer_place"] (zab zbP):=fsc
def zdQ (F:Fun K "placed_within" "placed_within" zbP f fd)(B:Blt mg){n:Nat}{self:List D->Option D}(C_placed_within:Cal P w K mg base n "placed_within" ["parts","outer_place"] (spF K self))(G_PARTS:GlobD K mg "PARTS" (.int 5)):FnOk P w K mg base CX0 (n+1) f fd ["parts","outer_place"] (spF K (zbQ self)):=
 zbz F sc_placed_within zcy λcdv A outer s H E hr=>by
  have nd:=sc_placed_within.nd
  refine⟨_,(zac (vsO 2 nd (zbX zaf)) (zac (zdd (zne B (zad (vv 0) zaf)) (zea rfl (zaJ (vgN 3 nd) (zaJ (vgN 4 nd) zc6))) (zac (vsS 5 nd (zaP zbL zaY (vr 1) (VE.w (zdG (zad (vv 3) zaf))))) (zac (zjk 2 (zdG (zad (vv 5) (zad (vv 4) zaf)))) (zac (zmh 2 (zaq (hk:=wal _) C_placed_within hr (zad (zaM (vr 4) (VE.w (zaV G_PARTS))) (zad (vv 5) zaf)))) (zbf [3,4,5] zal))))) (zjh 2 (zag (zao (vv 2)))))),zeJ ?_⟩;intro p_parts p_outer_place;unfold zbg;exact(zaj (zhm rfl) λx1=>(zaj (zgH (emb:=(λ(s2:List D)=>[.val p_parts,.val p_outer_place,.own 1 (.lst s2),.un,.un,.un])) rfl (λ_=>rfl) (λ_ _=>rfl) λs2 y3=>(zaj (zaO rfl) λx4=>(zaj (zjr rfl) λx5=>(zaj (zmp rfl) λx6=>(zb7 [3,4,5] (zbq λ_ h=>h)))))) λs2=>(zmn 2 (zap λ_ _ h=>h))))
def zbk (p_sheet:D):Option D:=
 (Option.bind ((zaI 8) [p_sheet,(.tup [])]) λ(r1:D)=>(some r1))
def zaF:List D->Option D:=c1 zbk
def zey:FnScope ["sheet"] ["sheet"] (zab zb8):=fsc
def zez (F:Fun K "placed_parts" "placed_parts" zb8 f fd)(B:Blt mg)(C_placed_within:Cal P w K mg base 8 "placed_within" ["parts","outer_place"] (spF K (zaI 8))):FnOk P w K mg base CX0 (8+1) f fd ["sheet"] (spF K zaF):=
 zbz F zey zbA λcdv A outer s H E hr=>by
  refine⟨_,(zag (zao (zaq C_placed_within hr (zad (vv 0) (zad (zdG zaf) zaf))))),zcX ?_⟩;intro p_sheet;unfold zbk;exact(zap λ_ _ h=>h)
def zcR (p_sheet:D):Option D:=
 (Option.bind (Option.bind (Option.bind (Option.bind (zaF [p_sheet]) dSeq) (zck (zcf [.un,.un] (gT 2 (gCons' (gN 0) (gCons' (gN 1) gNil'))) tTrue (eVar 1)))) λds=>some (.lst ds)) λ(r1:D)=>(some r1))
def za9:List D->Option D:=c1 zcR
def zgP:FnScope ["sheet"] ["sheet"] (zab zcP):=fsc
def zgQ (F:Fun K "parts_of" "parts_of" zcP f fd)(B:Blt mg)(C_placed_parts:Cal P w K mg base 9 "placed_parts" ["sheet"] (spF K zaF)):FnOk P w K mg base CX0 (9+1) f fd ["sheet"] (spF K za9):=
 zbz F zgP zbA λcdv A outer s H E hr=>by
  refine⟨_,(zag (zao (VN.ve (vnC ["sheet"] zcP (NC:=["place","part"]) [none,none] (zca (zaq C_placed_parts hr (zad (vv 0) zaf))) ((zea (n:=2) rfl (zaJ (vgc 0) (zaJ (vgc 1) zc6)))) (zeb) ((vv 1)))))),zcX ?_⟩;intro p_sheet;unfold zcR;exact(zap λ_ _ h=>h)
def zcS (p_sheet:D):Option D:=
 (Option.bind (Option.bind (Option.bind (Option.bind (za9 [p_sheet]) dSeq) (zck (λd1=>(Option.bind (dIx d1 (.int 0)) λz=>some (some z))))) λds=>some (.lst ds)) λ(r2:D)=>(some r2))
def zbH:List D->Option D:=c1 zcS
def zgR:FnScope ["sheet"] ["sheet"] (zab zcO):=fsc
def zgS (F:Fun K "names_of" "names_of" zcO f fd)(B:Blt mg)(C_parts_of:Cal P w K mg base 10 "parts_of" ["sheet"] (spF K za9))(G_NAME:GlobD K mg "NAME" (.int 0)):FnOk P w K mg base CX0 (10+1) f fd ["sheet"] (spF K zbH):=
 zbz F zgR zbA λcdv A outer s H E hr=>by
  refine⟨_,(zag (zao (VN.ve (vnC ["sheet"] zcO (NC:=["part"]) [none] (zca (zaq C_parts_of hr (zad (vv 0) zaf))) ((vgc 0)) (zeb) ((zaM (vr 0) (VE.w (zaV G_NAME)))))))),zcX ?_⟩;intro p_sheet;unfold zcS;exact(zap λ_ _ h=>h)
def zdj (p_sheet p_name:D):Option D:=
 (Option.bind (Option.bind (za9 [p_sheet]) dSeq) λds6=>Option.bind ((zef (λ(s1:Unit) (d2:D)=>(Option.bind (Option.bind (Option.bind (dIx d2 (.int 0)) λv4=>((dEqG false) v4 p_name)) dB) λk3=>if k3 then(Option.bind (some d2) λ(r5:D)=>(some (Fl.ret r5:Fl (Unit) (D)))) else(some (Fl.nx ():Fl (Unit) (D))))) ()) ds6) (flK λ(s1:Unit)=>none))
def zdk:List D->Option D:=c2 zdj
def sc_part_of:FnScope ["sheet","name","part"] ["sheet","name"] (zab zep):=fsc
def zh2 (F:Fun K "part_of" "part_of" zep f fd)(B:Blt mg)(C_parts_of:Cal P w K mg base 10 "parts_of" ["sheet"] (spF K za9))(G_NAME:GlobD K mg "NAME" (.int 0)):FnOk P w K mg base CX0 (10+1) f fd ["sheet","name"] (spF K zdk):=
 zbz F sc_part_of zcy λcdv A outer s H E hr=>by
  have nd:=sc_part_of.nd
  refine⟨_,(zac (zdd (zca (zaq C_parts_of hr (zad (vv 0) zaf))) (vgN 2 nd) (zac (za5 (zaG (zbS hr) (zaR false) (VE.w (zaM (vr 2) (VE.w (zaV G_NAME)))) (vr 1) (zau _)) (zag (zao (vv 2))) zal) (zbf [2] zal))) (zag zci)),zeJ ?_⟩;intro p_sheet p_name;unfold zdj;exact(zjt (emb:=(λ(s1:Unit)=>[.val p_sheet,.val p_name,.un])) rfl (λ_=>rfl) (λs1 d2=>(zaH (zap λ_ _ h=>h) (za6 (zb7 [2] (zbq λ_ h=>h))))) λs1=>(zfW rfl))
def zdl (p_thing:D):Option D:=
 (Option.bind (Option.bind (Option.bind (Option.bind ((isD "str") p_thing) dTru) λk6=>some (!k6)) λk5=>if k5 then some true else(Option.bind (Option.bind (Option.bind (bLen [p_thing]) λv4=>(Option.bind (dLe (.int 1) v4) λzk3=>Option.bind (dB zk3) λk3=>if k3 then(dLe v4 (.int 8)) else some (.bl false))) dB) λk2=>some (!k2))) λk1=>if k1 then(Option.bind (some (.bl false)) λ(r7:D)=>(some r7)) else(Option.bind (Option.bind (zpM p_thing) λds=>Option.bind (zfk (λd8=>Option.bind ((dInS false) d8 (.str "abcdefghijklmnopqrstuvwxyz")) dB) ds) λbs=>some (D.bl (bs.all id))) λ(r9:D)=>(some r9)))
def zbv:List D->Option D:=c1 zdl
def zh3:FnScope ["thing"] ["thing"] (zab zbt):=fsc
def zh4 (F:Fun K "is_name" "is_name" zbt f fd)(B:Blt mg){Pc:Hp->Prop}(pe:Pers Pc){tP:Addr}(T:TabF K mg base fd tP)(hT:∀H,Pc H->TabH tP "is_name.<locals>.<genexpr>" H)(K_str:Kit K "str")(G_LONGEST_NAME:GlobD K mg "LONGEST_NAME" (.int 8))(G_LETTERS:GlobD K mg "LETTERS" (.str "abcdefghijklmnopqrstuvwxyz")):FnOk P w K mg base CX0 (1+1) f fd ["thing"] (pcS Pc (spF K zbv)):=
 zbO pe F zh3 zbA λcdv A outer s H E hcv hr hPc hp=>by
  have TX:TabX (cxOf CX0 P w K mg base ["thing"] "is_name" (zab zbt) f cdv A outer s H E).nox "is_name.<locals>.<genexpr>":=zgN T hcv (hT _ hPc)
  refine⟨_,(zac (za5 (VP.t (zeI (zbW (zbp (VE.w (zb6 K_str B boot_str (vr 0))))) (zd7 (zbW (zkZ zoI zpa zoI zpa (VE.w zae) (VE.w (ve_b zaQ zbM B boot_len (zan (vr 0) zaC))) (VE.w (zaV G_LONGEST_NAME))))))) (zag (zao zeH)) zal) (zag (zao (zpT ["thing"] zbt (NC:=["sign"]) [none] hr B TX (zpN (vv 0)) (vgg 0) (hq:=by show((("is_name" : Str)++".<locals>." : Str))++"<genexpr>"=_;decide +kernel) (zcx zpO (zpP false) (vr 0) (VE.w (zaV G_LETTERS)) rfl))))),zcX ?_⟩;intro p_thing;unfold zdl;exact(zaH (zap λ_ _ h=>h) (za6 (zap λ_ _ h=>h)))
def zeU (p_thing:D):Option D:=
 (Option.bind (Option.bind (Option.bind ((isD "int") p_thing) dB) λk2=>if k2 then(Option.bind (Option.bind ((isD "bool") p_thing) dB) λk1=>some (.bl (!k1))) else some (.bl false)) λ(r3:D)=>(some r3))
def zbh:List D->Option D:=c1 zeU
def zgT:FnScope ["thing"] ["thing"] (zab zdz):=fsc
def zgU (F:Fun K "is_whole" "is_whole" zdz f fd)(B:Blt mg)(K_bool:Kit K "bool")(K_int:Kit K "int"):FnOk P w K mg base CX0 (0+1) f fd ["thing"] (spF K zbh):=
 zbz F zgT zbA λcdv A outer s H E hr=>by
  refine⟨_,(zag (zao (zc1 (zb6 K_int B boot_int (vr 0)) (zc0 (zo7 (zb6 K_bool B boot_bool (vr 0))))))),zcX ?_⟩;intro p_thing;unfold zeU;exact(zap λ_ _ h=>h)
def zdW (p_thing:D):Option D:=
 (Option.bind (Option.bind (Option.bind (Option.bind ((isD "tuple") p_thing) dTru) λk4=>some (!k4)) λk3=>if k3 then some true else(Option.bind (Option.bind (bLen [p_thing]) λv2=>((dEqG true) v2 (.int 4))) dB)) λk1=>if k1 then(Option.bind (some (.bl false)) λ(r5:D)=>(some r5)) else(Option.bind (Option.bind (Option.bind (Option.bind (dSeq p_thing) λds=>Option.bind (zfk (λd8=>Option.bind (zbh [d8]) dB) ds) λbs=>some (D.bl (bs.all id))) dTru) λk7=>some (!k7)) λk6=>if k6 then(Option.bind (some (.bl false)) λ(r9:D)=>(some r9)) else(Option.bind (Option.bind (Option.bind (Option.bind (dIx p_thing (.int 2)) λv12=>(dGe v12 (.int 1))) dB) λk11=>if k11 then(Option.bind (dIx p_thing (.int 3)) λv10=>(dGe v10 (.int 1))) else some (.bl false)) λ(r13:D)=>(some r13))))
def zbD:List D->Option D:=c1 zdW
def zj1:FnScope ["thing"] ["thing"] (zab zb1):=fsc
def zj2 (F:Fun K "is_box" "is_box" zb1 f fd)(B:Blt mg){Pc:Hp->Prop}(pe:Pers Pc){tP:Addr}(T:TabF K mg base fd tP)(hT:∀H,Pc H->TabH tP "is_box.<locals>.<genexpr>" H)(C_is_whole:Cal P w K mg base 1 "is_whole" ["thing"] (spF K zbh))(K_tuple:Kit K "tuple"):FnOk P w K mg base CX0 (2+1) f fd ["thing"] (pcS Pc (spF K zbD)):=
 zbO pe F zj1 zbA λcdv A outer s H E hcv hr hPc hp=>by
  have TX:TabX (cxOf CX0 P w K mg base ["thing"] "is_box" (zab zb1) f cdv A outer s H E).nox "is_box.<locals>.<genexpr>":=zgN T hcv (hT _ hPc)
  refine⟨_,(zac (za5 (VP.t (zeI (zbW (zbp (VE.w (zb6 K_tuple B boot_tuple (vr 0))))) (zd7 (zaG (zjy hr) (zaR true) (VE.w (ve_b zaQ zbM B boot_len (zan (vr 0) zaC))) (VE.w zae) (zau _))))) (zag (zao zeH)) zal) (zac (za5 (zbW (zbp (VE.w (zpT ["thing"] zb1 (NC:=["number"]) [none] hr B TX (zca (vv 0)) (vgg 0) (hq:=by show((("is_box" : Str)++".<locals>." : Str))++"<genexpr>"=_;decide +kernel) (zaq C_is_whole (zhy hr) (zad (vv 0) zaf)))))) (zag (zao zeH)) zal) (zag (zao (zc1 (zcx zkF zk1 (VE.w (zaM (vr 0) (VE.w zae))) (VE.w zae) (zau _)) (zc0 (zcx zkF zk1 (VE.w (zaM (vr 0) (VE.w zae))) (VE.w zae) (zau _)))))))),zcX ?_⟩;intro p_thing;unfold zdW;exact(zaH (zap λ_ _ h=>h) (za6 (zaH (zap λ_ _ h=>h) (za6 (zap λ_ _ h=>h)))))
def zga (p_thing:D):Option D:=
 (Option.bind (Option.bind (Option.bind ((isD "str") p_thing) dB) λk1=>if k1 then((dInG false) p_thing (.tup [(.str "free"),(.str "shut"),(.str "hidden")])) else some (.bl false)) λ(r2:D)=>(some r2))
def zbw:List D->Option D:=c1 zga
def zh5:FnScope ["thing"] ["thing"] (zab zes):=fsc
def zh6 (F:Fun K "is_word" "is_word" zes f fd)(B:Blt mg)(K_str:Kit K "str")(G_WORDS:GlobD K mg "WORDS" (.tup [(.str "free"),(.str "shut"),(.str "hidden")])):FnOk P w K mg base CX0 (0+1) f fd ["thing"] (spF K zbw):=
 zbz F zh5 zbA λcdv A outer s H E hr=>by
  refine⟨_,(zag (zao (zc1 (zb6 K_str B boot_str (vr 0)) (zc0 (zcx (zlx hr) (zeS false) (vr 0) (VE.w (zaV G_WORDS)) rfl))))),zcX ?_⟩;intro p_thing;unfold zga;exact(zap λ_ _ h=>h)
def zgb (p_thing:D):Option D:=
 (Option.bind (Option.bind (Option.bind (zbh [p_thing]) dB) λk1=>if k1 then(dGe p_thing (.int 0)) else some (.bl false)) λ(r2:D)=>(some r2))
def zbx:List D->Option D:=c1 zgb
def zh7:FnScope ["thing"] ["thing"] (zab zet):=fsc
def zh8 (F:Fun K "is_rank" "is_rank" zet f fd)(B:Blt mg)(C_is_whole:Cal P w K mg base 1 "is_whole" ["thing"] (spF K zbh)):FnOk P w K mg base CX0 (1+1) f fd ["thing"] (spF K zbx):=
 zbz F zh7 zbA λcdv A outer s H E hr=>by
  refine⟨_,(zag (zao (zc1 (zaq C_is_whole hr (zad (vv 0) zaf)) (zc0 (zcx zkF zk1 (vr 0) (VE.w zae) (zau _)))))),zcX ?_⟩;intro p_thing;unfold zgb;exact(zap λ_ _ h=>h)
def zgc (p_thing:D):Option D:=
 (Option.bind (Option.bind (Option.bind ((dIs false) p_thing D.non) dB) λk1=>if k1 then some (.bl true) else(zbv [p_thing])) λ(r2:D)=>(some r2))
def zbR:List D->Option D:=c1 zgc
def zh9:FnScope ["thing"] ["thing"] (zab zeu):=fsc
def zia (F:Fun K "is_head" "is_head" zeu f fd)(B:Blt mg){Pc:Hp->Prop}(pe:Pers Pc)(C_is_name:Cal P w K mg base 2 "is_name" ["thing"] (pcS Pc (spF K zbv))):FnOk P w K mg base CX0 (2+1) f fd ["thing"] (pcS Pc (spF K zbR)):=
 zbO pe F zh9 zbA λcdv A outer s H E hcv hr hPc hp=>by
  refine⟨_,(zag (zao (zqI (zcx ziy znc (vr 0) (VE.w zfS) (zau _)) (zc0 (zaK C_is_name hp hr (zad (vv 0) zaf)))))),zcX ?_⟩;intro p_thing;unfold zgc;exact(zap λ_ _ h=>h)
def zdm (self:List D->Option D)(p_thing p_deep:D):Option D:=
 (Option.bind (Option.bind (Option.bind (Option.bind ((isD "tuple") p_thing) dTru) λk4=>some (!k4)) λk3=>if k3 then some true else(Option.bind (Option.bind (bLen [p_thing]) λv2=>((dEqG true) v2 (.int 6))) dB)) λk1=>if k1 then(Option.bind (some (.bl false)) λ(r5:D)=>(some r5)) else(Option.bind (un6 p_thing) λ(y6:D×D×D×D×D×D)=>(Option.bind (Option.bind (Option.bind (Option.bind (zbv [y6.1]) dTru) λk12=>some (!k12)) λk11=>if k11 then some true else(Option.bind (Option.bind (Option.bind (zbD [y6.2.1]) dTru) λk10=>some (!k10)) λk9=>if k9 then some true else(Option.bind (Option.bind (zbw [y6.2.2.1]) dTru) λk8=>some (!k8)))) λk7=>if k7 then(Option.bind (some (.bl false)) λ(r13:D)=>(some r13)) else(Option.bind (Option.bind (Option.bind (zbx [y6.2.2.2.1]) dB) λk15=>if k15 then(Option.bind (Option.bind (zbR [y6.2.2.2.2.1]) dB) λk14=>if k14 then(Option.bind (aC (some y6.2.2.2.2.2) (aC (dAdd p_deep (.int 1)) aN)) self) else some (.bl false)) else some (.bl false)) λ(r16:D)=>(some r16)))))
def zby (self:List D->Option D):List D->Option D:=c2 (zdm self)
def sc_is_part:FnScope ["thing","deep","name","box","word","rank","head","parts"] ["thing","deep"] (zab zer):=fsc
def zib (F:Fun K "is_part" "is_part" zer f fd)(B:Blt mg){Pc:Hp->Prop}(pe:Pers Pc)(C_is_word:Cal P w K mg base 1 "is_word" ["thing"] (spF K zbw))(C_is_box:Cal P w K mg base 3 "is_box" ["thing"] (pcS Pc (spF K zbD)))(C_is_name:Cal P w K mg base 2 "is_name" ["thing"] (pcS Pc (spF K zbv))){n:Nat}{self:List D->Option D}(C_are_parts:Cal P w K mg base n "are_parts" ["thing","deep"] (pcS Pc (spF K self)))(C_is_head:Cal P w K mg base 3 "is_head" ["thing"] (pcS Pc (spF K zbR)))(C_is_rank:Cal P w K mg base 2 "is_rank" ["thing"] (spF K zbx))(K_tuple:Kit K "tuple"):FnOk P w K mg base CX0 (n+4+1) f fd ["thing","deep"] (pcS Pc (spF K (zby self))):=
 zbO pe F sc_is_part zcy λcdv A outer s H E hcv hr hPc hp=>by
  have nd:=sc_is_part.nd
  refine⟨_,(zac (za5 (VP.t (zeI (zbW (zbp (VE.w (zb6 K_tuple B boot_tuple (vr 0))))) (zd7 (zaG (zjy hr) (zaR true) (VE.w (ve_b zaQ zbM B boot_len (zan (vr 0) zaC))) (VE.w zae) (zau _))))) (zag (zao zeH)) zal) (zac (zpk (vv 0) (zea rfl (zaJ (vgN 2 nd) (zaJ (vgN 3 nd) (zaJ (vgN 4 nd) (zaJ (vgN 5 nd) (zaJ (vgN 6 nd) (zaJ (vgN 7 nd) zc6)))))))) (zac (za5 (VP.t (zeI (zbW (zbp (VE.w (zaK (hk:=by omega) C_is_name hp hr (zad (vv 2) zaf))))) (zeI (zbW (zbp (VE.w (zaK (hk:=by omega) C_is_box hp hr (zad (vv 3) zaf))))) (zd7 (zbW (zbp (VE.w (zaq (hk:=by omega) C_is_word hr (zad (vv 4) zaf))))))))) (zag (zao zeH)) zal) (zag (zao (zc1 (zaq (hk:=by omega) C_is_rank hr (zad (vv 5) zaf)) (zc1 (zaK (hk:=by omega) C_is_head hp hr (zad (vv 6) zaf)) (zc0 (zaK (hk:=by omega) C_are_parts hp hr (zad (vv 7) (zad (zaP zbL zaY (vr 1) (VE.w zae)) zaf))))))))))),zeJ ?_⟩;intro p_thing p_deep;unfold zdm;exact(zaH (zap λ_ _ h=>h) (za6 (zaj (zjs λ_=>tg_6 rfl (λ_=>rfl) (λ_ _=>rfl) (λ_ _ _=>rfl) (λ_ _ _ _=>rfl) (λ_ _ _ _ _=>rfl)) λy6=>(zaH (zap λ_ _ h=>h) (za6 (zap λ_ _ h=>h))))))
def zcp (self:List D->Option D)(p_thing p_deep:D):Option D:=
 (Option.bind (Option.bind (Option.bind ((isD "tuple") p_thing) dTru) λk2=>some (!k2)) λk1=>if k1 then(Option.bind (some (.bl false)) λ(r3:D)=>(some r3)) else(Option.bind (Option.bind (dTru p_thing) λk5=>if k5 then(Option.bind (dGt p_deep (.int 5)) dB) else some false) λk4=>if k4 then(Option.bind (some (.bl false)) λ(r6:D)=>(some r6)) else(Option.bind (Option.bind (dSeq p_thing) λds=>Option.bind (zfk (λd7=>Option.bind ((zby self) [d7,p_deep]) dB) ds) λbs=>some (D.bl (bs.all id))) λ(r8:D)=>(some r8))))
def zda (self:List D->Option D):List D->Option D:=c2 (zcp self)
def zaw:Nat->List D->Option D
|0=>λ_=>none
|n+1=>zda (zaw n)
def zgd:FnScope ["thing","deep"] ["thing","deep"] (zab za1):=fsc
def zge (F:Fun K "are_parts" "are_parts" za1 f fd)(B:Blt mg){Pc:Hp->Prop}(pe:Pers Pc){tP:Addr}(T:TabF K mg base fd tP)(hT:∀H,Pc H->TabH tP "are_parts.<locals>.<genexpr>" H){n:Nat}{self:List D->Option D}(C_is_part:Cal P w K mg base (n+5) "is_part" ["thing","deep"] (pcS Pc (spF K (zby self))))(K_tuple:Kit K "tuple")(G_DEEPEST:GlobD K mg "DEEPEST" (.int 5)):FnOk P w K mg base CX0 (n+6+1) f fd ["thing","deep"] (pcS Pc (spF K (zda self))):=
 zbO pe F zgd zcy λcdv A outer s H E hcv hr hPc hp=>by
  have TX:TabX (cxOf CX0 P w K mg base ["thing","deep"] "are_parts" (zab za1) f cdv A outer s H E).nox "are_parts.<locals>.<genexpr>":=zgN T hcv (hT _ hPc)
  refine⟨_,(zac (za5 (zbW (zbp (VE.w (zb6 K_tuple B boot_tuple (vr 0))))) (zag (zao zeH)) zal) (zac (za5 (VP.t (zmd (zbp (vr 0)) (zi7 (zaG zoJ zpb (vr 1) (VE.w (zaV G_DEEPEST)) (zau _))))) (zag (zao zeH)) zal) (zag (zao (zpU ["thing","deep"] za1 (NC:=["part","deep"]) [none,some 1] hp hr B TX (zca (vv 0)) (vgg 0) (hq:=by show((("are_parts" : Str)++".<locals>." : Str))++"<genexpr>"=_;decide +kernel) (λrH=>(zaK (hk:=by omega) C_is_part (Prs.of pe rH) (zhy hr) (zad (vv 0) (zad (vv 1) zaf))))))))),zeJ ?_⟩;intro p_thing p_deep;unfold zcp;exact(zaH (zap λ_ _ h=>h) (za6 (zaH (zap λ_ _ h=>h) (za6 (zap λ_ _ h=>h)))))
def zcT (p_sheet:D):Option D:=
 (Option.bind (some ([]:List D)) λ(x1:List D)=>(Option.bind (Option.bind (Option.bind (za9 [p_sheet]) dSeq) (zaZ (λ(s2:List D) (d3:D)=>(Option.bind (Option.bind (Option.bind (Option.bind (Option.bind (dIx d3 (.int 5)) dSeq) (zck (λd4=>(Option.bind (Option.bind (aC (dIx d3 (.int 0)) (aC (dIx d4 (.int 0)) aN)) mkT) λz=>some (some z))))) λds=>some (.lst ds)) (extL s2)) λ(x5:List D)=>(Option.bind (Option.bind (Option.bind (Option.bind (dIx d3 (.int 4)) λv7=>((dIs true) v7 D.non)) dB) λk6=>if k6 then(Option.bind (Option.bind (Option.bind (aC (dIx d3 (.int 4)) (aC (dIx d3 (.int 0)) aN)) mkT) (appL x5)) λ(x8:List D)=>(some x8)) else(some x5)) λ(s9:List D)=>(some s9)))) x1)) λ(s2:List D)=>(Option.bind (some (.lst s2)) λ(r10:D)=>(some r10))))
def zcU:List D->Option D:=c1 zcT
def sc_musts_of:FnScope ["sheet","musts","part"] ["sheet"] (zab zcQ):=fsc
def zgV (F:Fun K "musts_of" "musts_of" zcQ f fd)(B:Blt mg)(C_parts_of:Cal P w K mg base 10 "parts_of" ["sheet"] (spF K za9))(G_PARTS:GlobD K mg "PARTS" (.int 5))(G_NAME:GlobD K mg "NAME" (.int 0))(G_HEAD:GlobD K mg "HEAD" (.int 4)):FnOk P w K mg base CX0 (10+1) f fd ["sheet"] (spF K zcU):=
 zbz F sc_musts_of zbA λcdv A outer s H E hr=>by
  have nd:=sc_musts_of.nd
  refine⟨_,(zac (vsO 1 nd (zbX zaf)) (zac (zdd (zca (zaq C_parts_of hr (zad (vv 0) zaf))) (vgN 2 nd) (zac (zmh 1 (VN.ve (vnC ["sheet","musts","part"] zcQ (NC:=["inner","part"]) [none,some 2] (zca (zaM (vr 2) (VE.w (zaV G_PARTS)))) ((vgc 0)) (zeb) ((zdG (zad (zaM (vrC 1 rfl rfl rfl rfl) (VE.w (zaV G_NAME))) (zad (zaM (vr 0) (VE.w (zaV G_NAME))) zaf))))))) (zac (za5 (zaG zmT znd (VE.w (zaM (vr 2) (VE.w (zaV G_HEAD)))) (VE.w zfS) (zau _)) (zac (zjk 1 (zdG (zad (zaM (vr 2) (VE.w (zaV G_HEAD))) (zad (zaM (vr 2) (VE.w (zaV G_NAME))) zaf)))) zal) zal) (zbf [2] zal)))) (zjh 1 (zag (zao (vv 1)))))),zcX ?_⟩;intro p_sheet;unfold zcT;exact(zaj (zhm rfl) λx1=>(zaj (zfd (emb:=(λ(s2:List D)=>[.val p_sheet,.own 1 (.lst s2),.un])) rfl (λ_=>rfl) λs2 d3=>(zaj (zmp rfl) λx5=>(zaj (zpt (emb:=(λ(s9:List D)=>[.val p_sheet,.own 1 (.lst s9),.val d3])) (zaj (zjr rfl) λx8=>(zbq λ_ h=>h)) (zbq λ_ h=>h)) λs9=>(zb7 [2] (zbq λ_ h=>h))))) λs2=>(zmn 1 (zap λ_ _ h=>h))))
def zbl (p_names:D):Option D:=
 (Option.bind (Option.bind (zhx [p_names]) (zaZ (λ(s1:Unit) (d6:D)=>Option.bind (un2 d6) λ(y2:D×D)=>(Option.bind (Option.bind (Option.bind (Option.bind (Option.bind (dInt y2.1) λi=>some (some i)) λv4=>(dSl p_names none v4)) λv5=>((dInG false) y2.2 v5)) dB) λk3=>if k3 then none else(some ()))) ())) λ(s1:Unit)=>(some D.non))
def za7:List D->Option D:=c1 zbl
def sc_refuse_twice:FnScope ["names","number","name"] ["names"] (zab zb9):=fsc
def zeA (F:Fun K "refuse_twice" "refuse_twice" zb9 f fd)(B:Blt mg):FnOk P w K mg base CX0 (1+1) f fd ["names"] (spF K za7):=
 zbz F sc_refuse_twice zbA λcdv A outer s H E hr=>by
  have nd:=sc_refuse_twice.nd
  refine⟨_,(zac (zdd (zlJ B (zad (vv 0) zaf)) (zea rfl (zaJ (vgN 1 nd) (zaJ (vgN 2 nd) zc6))) (zac (za5 (zaG (zlx hr) (zeS false) (vr 2) (VE.w (zdT (vr 0) zdv (zdw (vv 1)))) rfl) (zag zci) zal) (zbf [1,2] zal))) zal),zcX ?_⟩;intro p_names;unfold zbl;exact(zaj (zgH (emb:=(λ(s1:Unit)=>[.val p_names,.un,.un])) rfl (λ_=>rfl) (λ_ _=>rfl) λs1 y2=>(zaH (zfW rfl) (za6 (zb7 [1,2] (zbq λ_ h=>h))))) λs1=>(zbq λ_ h=>h))
def zb2 (p_one p_other:D):Option D:=
 (Option.bind (Option.bind (aC (bLen [p_one]) (aC (bLen [p_other]) aN)) bMin) λ(x1:D)=>(Option.bind (Option.bind (Option.bind (Option.bind (dInt x1) λi=>some (some i)) λv2=>(dSlW p_one none v2)) λv4=>(Option.bind (Option.bind (Option.bind (dInt x1) λi=>some (some i)) λv3=>(dSlW p_other none v3)) λv5=>((dEqG false) v4 v5))) λ(r6:D)=>(some r6)))
def zaT:List D->Option D:=c2 zb2
def sc_are_nested:FnScope ["one","other","short"] ["one","other"] (zab zcC):=fsc
def zfp (F:Fun K "are_nested" "are_nested" zcC f fd)(B:Blt mg):FnOk P w K mg base CX0 (0+1) f fd ["one","other"] (spF K zaT):=
 zbz F sc_are_nested zcy λcdv A outer s H E hr=>by
  have nd:=sc_are_nested.nd
  refine⟨_,(zac (vsS 2 nd (ve_b (zd0 rfl) zjd B boot_min (zan (VE.w (ve_b zaQ zbM B boot_len (zan (vr 0) zaC))) (zan (VE.w (ve_b zaQ zbM B boot_len (zan (vr 1) zaC))) zaC)))) (zag (zao (zcx (zbS hr) (zaR false) (VE.w (zf3 (vr 0) zdv (zdw (vv 2)))) (VE.w (zf3 (vr 1) zdv (zdw (vv 2)))) (zau _))))),zeJ ?_⟩;intro p_one p_other;unfold zb2;exact(zaj (zaO rfl) λx1=>(zap λ_ _ h=>h))
def zbm (p_sheet:D):Option D:=
 (Option.bind (zaF [p_sheet]) λ(x1:D)=>(Option.bind (Option.bind (dSeq x1) λds=>Option.bind (zen (zf2 [.un,.un] (gT 2 (gCons' (gN 0) (gCons' (gN 1) gNil'))) (e2 dIx (eRd 1) (eK (.int 0))) (eVar 0)) ds ([],[])) λr=>some (D.dct r.1 r.2)) λ(x2:D)=>(Option.bind (Option.bind (dSeq x1) (zaZ (λ(s3:Unit) (d9:D)=>Option.bind (un2 d9) λ(y4:D×D)=>(Option.bind (dIx y4.2 (.int 4)) λ(x5:D)=>(Option.bind (Option.bind ((dIs false) x5 D.non) dB) λk6=>if k6 then(some ()) else(Option.bind (Option.bind (Option.bind ((dInG true) x5 x2) dB) λk8=>if k8 then some true else(Option.bind (Option.bind (aC (dGet x2 x5) (aC (some y4.1) aN)) zaT) dTru)) λk7=>if k7 then none else(some ()))))) ())) λ(s3:Unit)=>(some D.non))))
def zbn:List D->Option D:=c1 zbm
def sc_refuse_heads:FnScope ["sheet","pairs","places","place","part","head"] ["sheet"] (zab zbj):=fsc
def zeB (F:Fun K "refuse_heads" "refuse_heads" zbj f fd)(B:Blt mg)(C_placed_parts:Cal P w K mg base 9 "placed_parts" ["sheet"] (spF K zaF))(C_are_nested:Cal P w K mg base 1 "are_nested" ["one","other"] (spF K zaT))(G_NAME:GlobD K mg "NAME" (.int 0))(G_HEAD:GlobD K mg "HEAD" (.int 4)):FnOk P w K mg base CX0 (9+1) f fd ["sheet"] (spF K zbn):=
 zbz F sc_refuse_heads zbA λcdv A outer s H E hr=>by
  have nd:=sc_refuse_heads.nd
  have hu2:=zmZ hr
  refine⟨_,(zac (vsS 1 nd (zaq C_placed_parts hr (zad (vv 0) zaf))) (zac (zlH 2 nd ["sheet","pairs","places","place","part","head"] zbj (NC:=["place","part"]) [none,none] (zca (vv 1)) (zea (n:=2) rfl (zaJ (vgc 0) (zaJ (vgc 1) zc6))) (zaM (vr 1) (VE.w (zaV G_NAME))) (vv 0)) (zac (zdd (zca (vv 1)) (zea rfl (zaJ (vgN 3 nd) (zaJ (vgN 4 nd) zc6))) (zac (vsS 5 nd (zaM (vr 4) (VE.w (zaV G_HEAD)))) (zac (za5 (zaG ziy znc (vr 5) (VE.w zfS) (zau _)) (zbf [3,4,5] (zag zgF)) zal) (zac (za5 (VP.t (zeI (zaG (zhq hr) (zeS true) (vr 5) (vr 2) rfl) (zd7 (zbp (VE.w (zaq C_are_nested hr (zad (znn hu2 (vr 2) (vr 5)) (zad (vv 3) zaf)))))))) (zag zci) zal) (zbf [3,4,5] zal))))) zal))),zcX ?_⟩;intro p_sheet;unfold zbm;exact(zaj (zaO rfl) λx1=>(zaj (zaO rfl) λx2=>(zaj (zgH (emb:=(λ(s3:Unit)=>[.val p_sheet,.val x1,.val x2,.un,.un,.un])) rfl (λ_=>rfl) (λ_ _=>rfl) λs3 y4=>(zaj (zaO rfl) λx5=>(zaH (zb7 [3,4,5] (zqR λ_ h=>h)) (za6 (zaH (zfW rfl) (za6 (zb7 [3,4,5] (zbq λ_ h=>h)))))))) λs3=>(zbq λ_ h=>h))))
def zb3 (p_names p_musts:D):Option D:=
 (Option.bind (some p_names) λ(x1:D)=>(Option.bind (zeQ (λ(s2:D)=>(dTru (.bl true))) (λ(s2:D)=>(Option.bind (Option.bind (Option.bind (dSeq p_musts) (zck (zcf [.un,.un,.val s2] (gT 2 (gCons' (gN 0) (gCons' (gN 1) gNil'))) (t1 (e2 (dInG false) (eRd 0) (eRd 2))) (eVar 1)))) λds=>some (.lst ds)) λ(x3:D)=>(Option.bind (Option.bind (Option.bind (dSeq s2) (zck (λd4=>(Option.bind (Option.bind ((dInG false) d4 x3) dB) λk5=>if k5 then(some (some d4)) else some none)))) λds=>some (.lst ds)) λ(x6:D)=>(Option.bind (Option.bind (Option.bind (bLen [x6]) λv8=>(Option.bind (bLen [s2]) λv9=>((dEqG false) v8 v9))) dB) λk7=>if k7 then(Option.bind (some x6) λ(r10:D)=>(some (Fl.ret r10:Fl (D) (D)))) else(Option.bind (some x6) λ(x11:D)=>(some (Fl.nx x11:Fl (D) (D)))))))) 50 x1) (flK λ(s2:D)=>(some D.non))))
def zb4:List D->Option D:=c2 zb3
def sc_tied_names:FnScope ["names","musts","left","held","tied"] ["names","musts"] (zab zbu):=fsc
def zfq (F:Fun K "tied_names" "tied_names" zbu f fd)(B:Blt mg):FnOk P w K mg base CX0 (0+1) f fd ["names","musts"] (spF K zb4):=
 zbz F sc_tied_names zcy λcdv A outer s H E hr=>by
  have nd:=sc_tied_names.nd
  refine⟨_,(zac (vsS 2 nd (vv 0)) (zac (zk8 (λ_=>50) (zbp (VE.w zeH)) (zac (vsS 3 nd (VN.ve (vnC ["names","musts","left","held","tied"] zbu (NC:=["one","other","left"]) [none,none,some 2] (zca (vv 1)) ((zea (n:=2) rfl (zaJ (vgc 0) (zaJ (vgc 1) zc6)))) ((zgD (zaG (zlx hr) (zeS false) (vr 0) (vrC 2 rfl rfl rfl rfl) rfl))) ((vv 1))))) (zac (And.left (znk ["names","musts","left","held","tied"] zbu (i:=4) (NC:=["name","held"]) [none,some 3] nd rfl (Or.inl rfl) rfl (zca (vv 2)) (λx h=>zbU h) rfl rfl rfl (by decide +kernel) (by decide +kernel) rfl (by decide +kernel) (by decide +kernel) rfl (by decide) (λcl C s0 H0 ex pn=>(vgc 0)) (λcl C s0 H0 ex pn=>(zgD (zaG (zlx hr) (zeS false) (vr 0) (vrC 1 rfl rfl rfl rfl) rfl))) (λcl C s0 H0 ex pn=>(vv 0)))) (zac (za5 (zaG (zbS hr) (zaR false) (VE.w (ve_b zaQ zbM B boot_len (zan (vr 4) zaC))) (VE.w (ve_b zaQ zbM B boot_len (zan (vr 2) zaC))) (zau _)) (zag (zao (vv 4))) zal) (zac (vsS 2 nd (vv 4)) (zbf [3,4] zal)))))) zal)),zeJ ?_⟩;intro p_names p_musts;unfold zb3;exact(zaj (zaO rfl) λx1=>(zju (emb:=(λ(s2:D)=>[.val p_names,.val p_musts,.val s2,.un,.un])) rfl (λ_=>rfl) (λs2=>(zaj (zaO rfl) λx3=>(zaj (zaO rfl) λx6=>(zaH (zap λ_ _ h=>h) (za6 (zaj (zaO rfl) λx11=>(zb7 [3,4] (zbq λ_ h=>h)))))))) λs2=>(zbq λ_ h=>h)))
def zdn (p_names p_musts:D):Option D:=
 (Option.bind (zb4 [p_names,p_musts]) λ(x1:D)=>(Option.bind (Option.bind (dTru x1) λk3=>some (!k3)) λk2=>if k2 then(Option.bind (some (.lst [])) λ(r4:D)=>(some r4)) else none))
def zcF:List D->Option D:=c2 zdn
def sc_ring_of:FnScope ["names","musts","tied","row","ahead","ring"] ["names","musts"] (zab zev):=fsc
def zic (F:Fun K "ring_of" "ring_of" zev f fd)(B:Blt mg)(C_tied_names:Cal P w K mg base 1 "tied_names" ["names","musts"] (spF K zb4)):FnOk P w K mg base CX0 (2+1) f fd ["names","musts"] (spF K zcF):=
 zbz F sc_ring_of zcy λcdv A outer s H E hr=>by
  have nd:=sc_ring_of.nd
  refine⟨_,(zac (vsS 2 nd (zaq C_tied_names hr (zad (vv 0) (zad (vv 1) zaf)))) (zac (za5 (zbW (zbp (vr 2))) (zag (zao (VN.ve (zbX zaf)))) zal) zjJ)),zeJ ?_⟩;intro p_names p_musts;unfold zdn;exact(zaj (zaO rfl) λx1=>(zaH (zap λ_ _ h=>h) (za6 (zfW rfl))))
def zdo (p_thing:D):Option D:=
 (Option.bind (Option.bind (Option.bind ((zaw 7) [p_thing,(.int 1)]) dTru) λk2=>some (!k2)) λk1=>if k1 then none else(Option.bind (zbH [p_thing]) λ(x3:D)=>(Option.bind (Option.bind (Option.bind (bLen [x3]) λv5=>(dGt v5 (.int 40))) dB) λk4=>if k4 then none else(Option.bind (za7 [x3]) λ(u6:D)=>(Option.bind (zbn [p_thing]) λ(u7:D)=>(Option.bind (Option.bind (aC (some x3) (aC (zcU [p_thing]) aN)) zcF) λ(x8:D)=>(Option.bind (dTru x8) λk9=>if k9 then none else(Option.bind (some p_thing) λ(r10:D)=>(some r10)))))))))
def zcc:List D->Option D:=c1 zdo
def sc_checked:FnScope ["thing","names","ring"] ["thing"] (zab zeq):=fsc
def zid (F:Fun K "checked" "checked" zeq f fd)(B:Blt mg){Pc:Hp->Prop}(pe:Pers Pc)(C_are_parts:Cal P w K mg base 49 "are_parts" ["thing","deep"] (pcS Pc (spF K (zaw 7))))(C_names_of:Cal P w K mg base 11 "names_of" ["sheet"] (spF K zbH))(C_refuse_twice:Cal P w K mg base 2 "refuse_twice" ["names"] (spF K za7))(C_refuse_heads:Cal P w K mg base 10 "refuse_heads" ["sheet"] (spF K zbn))(C_ring_of:Cal P w K mg base 3 "ring_of" ["names","musts"] (spF K zcF))(C_musts_of:Cal P w K mg base 11 "musts_of" ["sheet"] (spF K zcU))(G_MOST_PARTS:GlobD K mg "MOST_PARTS" (.int 40)):FnOk P w K mg base CX0 (49+1) f fd ["thing"] (pcS Pc (spF K zcc)):=
 zbO pe F sc_checked zbA λcdv A outer s H E hcv hr hPc hp=>by
  have nd:=sc_checked.nd
  refine⟨_,(zac (za5 (zbW (zbp (VE.w (zaK C_are_parts hp hr (zad (vv 0) (zad zae zaf)))))) (zag zci) zal) (zac (vsS 1 nd (zaq C_names_of hr (zad (vv 0) zaf))) (zac (za5 (zaG zoJ zpb (VE.w (ve_b zaQ zbM B boot_len (zan (vr 1) zaC))) (VE.w (zaV G_MOST_PARTS)) (zau _)) (zag zci) zal) (zac (zji (zaq C_refuse_twice hr (zad (vv 1) zaf))) (zac (zji (zaq C_refuse_heads hr (zad (vv 0) zaf))) (zac (vsS 2 nd (zaq C_ring_of hr (zad (vv 1) (zad (zaq C_musts_of hr (zad (vv 0) zaf)) zaf)))) (zac (za5 (zbp (vr 2)) (zag zci) zal) (zag (zao (vv 0)))))))))),zcX ?_⟩;intro p_thing;unfold zdo;exact(zaH (zfW rfl) (za6 (zaj (zaO rfl) λx3=>(zaH (zfW rfl) (za6 (zaj zps λu6=>(zaj zps λu7=>(zaj (zaO rfl) λx8=>(zaH (zfW rfl) (za6 (zap λ_ _ h=>h)))))))))))
def zeV (p_kind p_thing:D):Option D:=
 (Option.bind (Option.bind ((dEqG false) p_kind (.str "word")) dB) λk1=>if k1 then(Option.bind (zbw [p_thing]) λ(r2:D)=>(some r2)) else(Option.bind (Option.bind ((dEqG false) p_kind (.str "box")) dB) λk3=>if k3 then(Option.bind (zbD [p_thing]) λ(r4:D)=>(some r4)) else(Option.bind (Option.bind ((dEqG false) p_kind (.str "rank")) dB) λk5=>if k5 then(Option.bind (zbx [p_thing]) λ(r6:D)=>(some r6)) else(Option.bind (Option.bind (Option.bind ((dEqG false) p_kind (.str "head")) dB) λk7=>if k7 then(zbR [p_thing]) else some (.bl false)) λ(r8:D)=>(some r8)))))
def zbI:List D->Option D:=c2 zeV
def zgW:FnScope ["kind","thing"] ["kind","thing"] (zab zdA):=fsc
def zgX (F:Fun K "is_given" "is_given" zdA f fd)(B:Blt mg){Pc:Hp->Prop}(pe:Pers Pc)(C_is_word:Cal P w K mg base 1 "is_word" ["thing"] (spF K zbw))(C_is_box:Cal P w K mg base 3 "is_box" ["thing"] (pcS Pc (spF K zbD)))(C_is_rank:Cal P w K mg base 2 "is_rank" ["thing"] (spF K zbx))(C_is_head:Cal P w K mg base 3 "is_head" ["thing"] (pcS Pc (spF K zbR))):FnOk P w K mg base CX0 (3+1) f fd ["kind","thing"] (pcS Pc (spF K zbI)):=
 zbO pe F zgW zcy λcdv A outer s H E hcv hr hPc hp=>by
  refine⟨_,(zac (za5 (zaG (zbS hr) (zaR false) (vr 0) (VE.w zbd) (zau _)) (zag (zao (zaq C_is_word hr (zad (vv 1) zaf)))) zal) (zac (za5 (zaG (zbS hr) (zaR false) (vr 0) (VE.w zbd) (zau _)) (zag (zao (zaK C_is_box hp hr (zad (vv 1) zaf)))) zal) (zac (za5 (zaG (zbS hr) (zaR false) (vr 0) (VE.w zbd) (zau _)) (zag (zao (zaq C_is_rank hr (zad (vv 1) zaf)))) zal) (zag (zao (zc1 (zcx (zbS hr) (zaR false) (vr 0) (VE.w zbd) (zau _)) (zc0 (zaK C_is_head hp hr (zad (vv 1) zaf))))))))),zeJ ?_⟩;intro p_kind p_thing;unfold zeV;exact(zaH (zap λ_ _ h=>h) (za6 (zaH (zap λ_ _ h=>h) (za6 (zaH (zap λ_ _ h=>h) (za6 (zap λ_ _ h=>h)))))))
def zdp (p_kind p_rest:D):Option D:=
 (Option.bind (Option.bind ((dEqG false) p_kind (.str "take")) dB) λk1=>if k1 then(Option.bind (Option.bind (bLen [p_rest]) λv2=>((dEqG false) v2 (.int 0))) λ(r3:D)=>(some r3)) else(Option.bind (Option.bind ((dEqG false) p_kind (.str "put")) dB) λk4=>if k4 then(Option.bind (Option.bind (Option.bind (Option.bind (bLen [p_rest]) λv6=>((dEqG false) v6 (.int 2))) dB) λk5=>if k5 then(Option.bind (aC (dIx p_rest (.int 0)) aN) zbh) else some (.bl false)) λ(r7:D)=>(some r7)) else(Option.bind (Option.bind (Option.bind (Option.bind (bLen [p_rest]) λv9=>((dEqG false) v9 (.int 1))) dB) λk8=>if k8 then(Option.bind (aC (some p_kind) (aC (dIx p_rest (.int 0)) aN)) zbI) else some (.bl false)) λ(r10:D)=>(some r10))))
def zcd:List D->Option D:=c2 zdp
def zie:FnScope ["kind","rest"] ["kind","rest"] (zab zex):=fsc
def zif (F:Fun K "is_rest" "is_rest" zex f fd)(B:Blt mg){Pc:Hp->Prop}(pe:Pers Pc)(C_is_whole:Cal P w K mg base 1 "is_whole" ["thing"] (spF K zbh))(C_is_given:Cal P w K mg base 4 "is_given" ["kind","thing"] (pcS Pc (spF K zbI))):FnOk P w K mg base CX0 (4+1) f fd ["kind","rest"] (pcS Pc (spF K zcd)):=
 zbO pe F zie zcy λcdv A outer s H E hcv hr hPc hp=>by
  refine⟨_,(zac (za5 (zaG (zbS hr) (zaR false) (vr 0) (VE.w zbd) (zau _)) (zag (zao (zcx (zbS hr) (zaR false) (VE.w (ve_b zaQ zbM B boot_len (zan (vr 1) zaC))) (VE.w zae) (zau _)))) zal) (zac (za5 (zaG (zbS hr) (zaR false) (vr 0) (VE.w zbd) (zau _)) (zag (zao (zc1 (zcx (zbS hr) (zaR false) (VE.w (ve_b zaQ zbM B boot_len (zan (vr 1) zaC))) (VE.w zae) (zau _)) (zc0 (zaq C_is_whole hr (zad (zaM (vr 1) (VE.w zae)) zaf)))))) zal) (zag (zao (zc1 (zcx (zbS hr) (zaR false) (VE.w (ve_b zaQ zbM B boot_len (zan (vr 1) zaC))) (VE.w zae) (zau _)) (zc0 (zaK C_is_given hp hr (zad (vv 0) (zad (zaM (vr 1) (VE.w zae)) zaf))))))))),zeJ ?_⟩;intro p_kind p_rest;unfold zdp;exact(zaH (zap λ_ _ h=>h) (za6 (zaH (zap λ_ _ h=>h) (za6 (zap λ_ _ h=>h)))))
def zdq (p_thing:D):Option D:=
 (Option.bind (Option.bind (Option.bind (Option.bind ((isD "tuple") p_thing) dTru) λk4=>some (!k4)) λk3=>if k3 then some true else(Option.bind (Option.bind (bLen [p_thing]) λv2=>(dLt v2 (.int 2))) dB)) λk1=>if k1 then(Option.bind (some (.bl false)) λ(r5:D)=>(some r5)) else(Option.bind (Option.bind (Option.bind (aC (dIx p_thing (.int 0)) (aC (dIx p_thing (.int 1)) aN)) mkT) un2) λ(y6:D×D)=>(Option.bind (Option.bind (Option.bind ((dEqG false) y6.1 (.str "put")) dB) λk8=>if k8 then(Option.bind ((dIs false) y6.2 D.non) dB) else some false) λk7=>if k7 then(Option.bind (Option.bind (aC (some y6.1) (aC (dSl p_thing (some 2) none) aN)) zcd) λ(r9:D)=>(some r9)) else(Option.bind (Option.bind (Option.bind ((isD "str") y6.2) dB) λk10=>if k10 then(Option.bind (aC (some y6.1) (aC (dSl p_thing (some 2) none) aN)) zcd) else some (.bl false)) λ(r11:D)=>(some r11)))))
def zdr:List D->Option D:=c1 zdq
def sc_is_deed:FnScope ["thing","kind","name"] ["thing"] (zab zew):=fsc
def zig (F:Fun K "is_deed" "is_deed" zew f fd)(B:Blt mg){Pc:Hp->Prop}(pe:Pers Pc)(C_is_rest:Cal P w K mg base 5 "is_rest" ["kind","rest"] (pcS Pc (spF K zcd)))(K_tuple:Kit K "tuple")(K_str:Kit K "str"):FnOk P w K mg base CX0 (5+1) f fd ["thing"] (pcS Pc (spF K zdr)):=
 zbO pe F sc_is_deed zbA λcdv A outer s H E hcv hr hPc hp=>by
  have nd:=sc_is_deed.nd
  refine⟨_,(zac (za5 (VP.t (zeI (zbW (zbp (VE.w (zb6 K_tuple B boot_tuple (vr 0))))) (zd7 (zaG zqz zqJ (VE.w (ve_b zaQ zbM B boot_len (zan (vr 0) zaC))) (VE.w zae) (zau _))))) (zag (zao zeH)) zal) (zac (zmw 1 2 nd (zad (zaM (vr 0) (VE.w zae)) (zad (zaM (vr 0) (VE.w zae)) zaf))) (zac (za5 (VP.t (zmd (zaG (zbS hr) (zaR false) (vr 1) (VE.w zbd) (zau _)) (zi7 (zaG ziy znc (vr 2) (VE.w zfS) (zau _))))) (zag (zao (zaK C_is_rest hp hr (zad (vv 1) (zad (zdT (vr 0) (zdw zae) zdv) zaf))))) zal) (zag (zao (zc1 (zb6 K_str B boot_str (vr 2)) (zc0 (zaK C_is_rest hp hr (zad (vv 1) (zad (zdT (vr 0) (zdw zae) zdv) zaf)))))))))),zcX ?_⟩;intro p_thing;unfold zdq;exact(zaH (zap λ_ _ h=>h) (za6 (zaj (zjs λ_=>tg_2 rfl (λ_=>rfl)) λy6=>(zaH (zap λ_ _ h=>h) (za6 (zap λ_ _ h=>h))))))
def zdK (self:List D->Option D)(p_parts p_name p_at p_thing:D):Option D:=
 (Option.bind (some ([]:List D)) λ(x1:List D)=>(Option.bind (Option.bind (dSeq p_parts) (zaZ (λ(s2:List D) (d3:D)=>(Option.bind (zhw [d3]) λ(x4:List D)=>(Option.bind (Option.bind (Option.bind (aC (dIx d3 (.int 5)) (aC (some p_name) (aC (some p_at) (aC (some p_thing) aN)))) self) λv5=>(zdN x4 (.int 5) v5)) λ(x6:List D)=>(Option.bind (Option.bind (Option.bind (Option.bind (dIx d3 (.int 0)) λv8=>((dEqG false) v8 p_name)) dB) λk7=>if k7 then(Option.bind (zdN x6 p_at p_thing) λ(x9:List D)=>(some x9)) else(some x6)) λ(s10:List D)=>(Option.bind (Option.bind (bTuple [(.lst s10)]) (appL s2)) λ(x11:List D)=>(some x11)))))) x1)) λ(s2:List D)=>(Option.bind (bTuple [(.lst s2)]) λ(r12:D)=>(some r12))))
def zcG (self:List D->Option D):List D->Option D:=c4 (zdK self)
def zax:Nat->List D->Option D
|0=>λ_=>none
|n+1=>zcG (zax n)
def sc_with_thing:FnScope ["parts","name","at","thing","rows","part","things"] ["parts","name","at","thing"] (zab zcD):=fsc
def zfr (F:Fun K "with_thing" "with_thing" zcD f fd)(B:Blt mg){n:Nat}{self:List D->Option D}(C_with_thing:Cal P w K mg base n "with_thing" ["parts","name","at","thing"] (spF K self))(G_PARTS:GlobD K mg "PARTS" (.int 5))(G_NAME:GlobD K mg "NAME" (.int 0)):FnOk P w K mg base CX0 (n+1) f fd ["parts","name","at","thing"] (spF K (zcG self)):=
 zbz F sc_with_thing zmr λcdv A outer s H E hr=>by
  have nd:=sc_with_thing.nd
  refine⟨_,(zac (vsO 4 nd (zbX zaf)) (zac (zdd (zca (vv 0)) (vgN 5 nd) (zac (vsO 6 nd (znM B (zan (vr 5) zaC))) (zac (zfb 6 (VE.x (zaq (hk:=wal _) C_with_thing hr (zad (zaM (vr 5) (VE.w (zaV G_PARTS))) (zad (vv 1) (zad (vv 2) (zad (vv 3) zaf)))))) (zaV G_PARTS)) (zac (za5 (zaG (zbS hr) (zaR false) (VE.w (zaM (vr 5) (VE.w (zaV G_NAME)))) (vr 1) (zau _)) (zac (zfb 6 (VE.x (vv 3)) (vv 2)) zal) zal) (zac (zjk 4 (zi8 zbb zdc B boot_tuple (zan (vr 6) zaC))) (zbf [5,6] zal)))))) (zag (zao (zi8 zbb zdc B boot_tuple (zan (vr 4) zaC)))))),zqW ?_⟩;intro p_parts p_name p_at p_thing;unfold zdK;exact(zaj (zhm rfl) λx1=>(zaj (zfd (emb:=(λ(s2:List D)=>[.val p_parts,.val p_name,.val p_at,.val p_thing,.own 1 (.lst s2),.un,.un])) rfl (λ_=>rfl) λs2 d3=>(zaj (zhm rfl) λx4=>(zaj (zgI rfl) λx6=>(zaj (zpt (emb:=(λ(s10:List D)=>[.val p_parts,.val p_name,.val p_at,.val p_thing,.own 1 (.lst s2),.val d3,.own 1 (.lst s10)])) (zaj (zgI rfl) λx9=>(zbq λ_ h=>h)) (zbq λ_ h=>h)) λs10=>(zaj (zjr rfl) λx11=>(zb7 [5,6] (zbq λ_ h=>h))))))) λs2=>(zap λ_ _ h=>h)))
def zeW:List D->Option D:=λ_=>none
def zgf:List D->Option D:=λ_=>none
def zhC (p_sheet p_deed:D):Option D:=
 (Option.bind (Option.bind (Option.bind (zdr [p_deed]) dTru) λk2=>some (!k2)) λk1=>if k1 then none else(Option.bind (Option.bind (Option.bind (aC (dIx p_deed (.int 0)) (aC (dIx p_deed (.int 1)) aN)) mkT) un2) λ(y3:D×D)=>(Option.bind (Option.bind ((dEqG false) y3.1 (.str "put")) dB) λk4=>if k4 then(Option.bind (Option.bind (aC (Option.bind (aC (some p_sheet) (aC (some y3.2) (aC (dIx p_deed (.int 2)) (aC (dIx p_deed (.int 3)) aN)))) zeW) aN) zcc) λ(r5:D)=>(some r5)) else(Option.bind (zdk [p_sheet,y3.2]) λ(x6:D)=>(Option.bind (Option.bind ((dEqG false) y3.1 (.str "take")) dB) λk7=>if k7 then(Option.bind (Option.bind (aC (Option.bind (aC (some p_sheet) (aC (zbH [(.tup [x6])]) aN)) zgf) aN) zcc) λ(r8:D)=>(some r8)) else(Option.bind (Option.bind (aC (Option.bind (aC (some p_sheet) (aC (some y3.2) (aC (dGet (.dct [.inr "word",.inr "box",.inr "rank",.inr "head"] [.int 2,.int 1,.int 3,.int 4]) y3.1) (aC (dIx p_deed (.int 2)) aN)))) (zax 7)) aN) zcc) λ(r9:D)=>(some r9)))))))
def zeX:List D->Option D:=c2 zhC
def sc_done:FnScope ["sheet","deed","kind","name","part"] ["sheet","deed"] (zab zjZ):=fsc
def znW (F:Fun K "done" "done" zjZ f fd)(B:Blt mg){Pc:Hp->Prop}(pe:Pers Pc)(C_is_deed:Cal P w K mg base 6 "is_deed" ["thing"] (pcS Pc (spF K zdr)))(C_checked:Cal P w K mg base 50 "checked" ["thing"] (pcS Pc (spF K zcc)))(C_with_put:Cal P w K mg base 13 "with_put" ["sheet","name","at","part"] (spF K zeW))(C_part_of:Cal P w K mg base 11 "part_of" ["sheet","name"] (spF K zdk))(C_without:Cal P w K mg base 1 "without" ["parts","gone"] (spF K zgf))(C_names_of:Cal P w K mg base 11 "names_of" ["sheet"] (spF K zbH))(C_with_thing:Cal P w K mg base 7 "with_thing" ["parts","name","at","thing"] (spF K (zax 7)))(G_GIVEN:GDct P w K mg "GIVEN" [.inr "word",.inr "box",.inr "rank",.inr "head"] [.int 2,.int 1,.int 3,.int 4]):FnOk P w K mg base CX0 (51+1) f fd ["sheet","deed"] (pcS Pc (spF K zeX)):=
 zbO pe F sc_done zcy λcdv A outer s H E hcv hr hPc hp=>by
  have nd:=sc_done.nd
  refine⟨_,(zac (za5 (zbW (zbp (VE.w (zaK C_is_deed hp hr (zad (vv 1) zaf))))) (zag zci) zal) (zac (zmw 2 3 nd (zad (zaM (vr 1) (VE.w zae)) (zad (zaM (vr 1) (VE.w zae)) zaf))) (zac (za5 (zaG (zbS hr) (zaR false) (vr 2) (VE.w zbd) (zau _)) (zag (zao (zaK C_checked hp hr (zad (zaq C_with_put hr (zad (vv 0) (zad (vv 3) (zad (zaM (vr 1) (VE.w zae)) (zad (zaM (vr 1) (VE.w zae)) zaf))))) zaf)))) zal) (zac (vsS 4 nd (zaq C_part_of hr (zad (vv 0) (zad (vv 3) zaf)))) (zac (za5 (zaG (zbS hr) (zaR false) (vr 2) (VE.w zbd) (zau _)) (zag (zao (zaK C_checked hp hr (zad (zaq C_without hr (zad (vv 0) (zad (zaq C_names_of hr (zad (zdG (zad (vv 4) zaf)) zaf)) zaf))) zaf)))) zal) (zag (zao (zaK C_checked hp hr (zad (zaq C_with_thing hr (zad (vv 0) (zad (vv 3) (zad (zlF G_GIVEN (vr 2)) (zad (zaM (vr 1) (VE.w zae)) zaf))))) zaf))))))))),zeJ ?_⟩;intro p_sheet p_deed;unfold zhC;exact(zaH (zfW rfl) (za6 (zaj (zjs λ_=>tg_2 rfl (λ_=>rfl)) λy3=>(zaH (zap λ_ _ h=>h) (za6 (zaj (zaO rfl) λx6=>(zaH (zap λ_ _ h=>h) (za6 (zap λ_ _ h=>h)))))))))
def zcq (S:Scr)(pLscript pLk:D):Option (RV×List D):=
 (Option.bind (Option.bind (Option.bind ((lenS S) pLscript) λv2=>((dEqG false) v2 (.int 0))) dB) λk1=>if k1 then(Option.bind (some ([(.int 0),(.int 0),pLk]:List D)) λ(r3:List D)=>(some ((.new 1 (.lst r3)),[.non,.non]))) else(Option.bind (Option.bind (aC (Option.bind (Option.bind ((lenS S) pLscript) λv4=>(dMod pLk v4)) λv5=>(ixS S pLscript v5)) (aC (some (.int 0)) (aC (some pLk) aN))) mkLs) λ(r6:List D)=>(some ((.new 1 (.lst r6)),[.non,.non]))))
def zaW (S:Scr):List D->Option (RV×List D):=g2 (zcq S)
def zgg:FnScope ["_law_script","_law_k"] ["_law_script","_law_k"] (zab zc8):=fsc
def zgh (F:Fun K "_law_feed" "_law_feed" zc8 f fd)(B:Blt mg){Pc:Hp->Prop}(pe:Pers Pc){S:Scr}(hSq:∀H,Pc H->SqF K S H):FnOk P w K mg base CX0 (0+1) f fd ["_law_script","_law_k"] (pcS Pc (spG K [none,none] (zaW S))):=
 zjI pe [none,none] F zgg rfl λcdv A outer s H E hcv hr hPc hp=>by
  have hS:Prs _ (SqF K S):=λp Y H s I=>hSq _ (hp p Y H s I)
  refine⟨_,(zac (za5 (zaG (zbS hr) (zaR false) (VE.w (zgM hS B (vv 0))) (VE.w zae) (zau _)) (zag (zfU (zbX (zad zae (zad zae (zad (vv 1) zaf)))))) zal) (zag (zfU (zbX (zad (zpG hS (vv 0) (zaP zdE zdH (vr 1) (VE.w (zgM hS B (vv 0))))) (zad zae (zad (vv 1) zaf))))))),znE ?_⟩;intro pLscript pLk;unfold zcq;exact(zaH (zjq λ_ _ h=>h) (za6 (zjq λ_ _ h=>h)))
def zcr (pLfeed_here pLmany:D):Option (RV×List D):=
 (Option.bind (Option.bind (Option.bind (dIx pLfeed_here (.int 1)) λv1=>(dAdd v1 (.int 1))) λv2=>(zlD pLfeed_here (.int 1) v2)) λ(x3:D)=>(Option.bind (Option.bind (Option.bind (dIx x3 (.int 0)) λv5=>(Option.bind (dPow (.int 10) (.int 18)) λv6=>(dGe v5 v6))) dB) λk4=>if k4 then(Option.bind (Option.bind (dIx x3 (.int 0)) λv7=>(dMod v7 pLmany)) λ(x8:D)=>(Option.bind (Option.bind (Option.bind (dIx x3 (.int 0)) λv9=>(dFdiv v9 pLmany)) λv10=>(zlD x3 (.int 0) v10)) λ(x11:D)=>(Option.bind (some x8) λ(r12:D)=>(some (.told r12,[x11,.non]))))) else(Option.bind (Option.bind (Option.bind (Option.bind (dIx x3 (.int 0)) λv13=>(dMod v13 (.int 1000003))) λv15=>(Option.bind (Option.bind (dIx x3 (.int 2)) λv14=>(dMul (.int 7919) v14)) λv16=>(dAdd v15 v16))) λv18=>(Option.bind (Option.bind (dIx x3 (.int 1)) λv17=>(dMul (.int 104729) v17)) λv19=>(dAdd v18 v19))) λ(x20:D)=>(Option.bind (Option.bind (dMul x20 (.int 48271)) λv21=>(dMod v21 (.int 2147483647))) λ(x22:D)=>(Option.bind (Option.bind (Option.bind (Option.bind (Option.bind (dMod x22 (.int 65521)) λv23=>(Option.bind (dIx x3 (.int 1)) λv24=>(dAdd v23 v24))) λv25=>(dMul x22 v25)) λv26=>(dMod v26 (.int 2147483629))) λv27=>(dMod v27 pLmany)) λ(r28:D)=>(some (.told r28,[x3,.non])))))))
def zai:List D->Option (RV×List D):=g2 zcr
def scLnext:FnScope ["_law_feed_here","_law_many","_law_digit","_law_mixed"] ["_law_feed_here","_law_many"] (zab zc9):=fsc
def zgi (F:Fun K "_law_next" "_law_next" zc9 f fd)(B:Blt mg):FnOk P w K mg base CX0 (0+1) f fd ["_law_feed_here","_law_many"] (spG K [some 1,none] zai):=
 zff [some 1,none] F scLnext rfl λcdv A outer s H E hr=>by
  have nd:=scLnext.nd
  refine⟨_,(zac (zfb 0 (VE.x (zaP zbL zaY (VE.w (zaM (vr 0) (VE.w zae))) (VE.w zae))) zae) (zac (za5 (zaG zkF zk1 (VE.w (zaM (vr 0) (VE.w zae))) (VE.w (zaP zfB zfT (VE.w zae) (VE.w zae))) (zau _)) (zac (vsS 2 nd (zaP zdE zdH (VE.w (zaM (vr 0) (VE.w zae))) (vr 1))) (zac (zfb 0 (VE.x (zaP zix zjb (VE.w (zaM (vr 0) (VE.w zae))) (vr 1))) zae) (zag (zao (vv 2))))) zal) (zac (vsS 3 nd (zaP zbL zaY (VE.w (zaP zbL zaY (VE.w (zaP zdE zdH (VE.w (zaM (vr 0) (VE.w zae))) (VE.w zae))) (VE.w (zaP zhW zeP (VE.w zae) (VE.w (zaM (vr 0) (VE.w zae))))))) (VE.w (zaP zhW zeP (VE.w zae) (VE.w (zaM (vr 0) (VE.w zae))))))) (zac (vsS 3 nd (zaP zdE zdH (VE.w (zaP zhW zeP (vr 3) (VE.w zae))) (VE.w zae))) (zag (zao (zaP zdE zdH (VE.w (zaP zdE zdH (VE.w (zaP zhW zeP (vr 3) (VE.w (zaP zbL zaY (VE.w (zaP zdE zdH (vr 3) (VE.w zae))) (VE.w (zaM (vr 0) (VE.w zae))))))) (VE.w zae))) (vr 1)))))))),znE ?_⟩;intro pLfeed_here pLmany;unfold zcr;exact(zaj (zhu rfl) λx3=>(zaH (zaj (zaO rfl) λx8=>(zaj (zhu rfl) λx11=>(zap λ_ _ h=>h))) (za6 (zaj (zaO rfl) λx20=>(zaj (zaO rfl) λx22=>(zap λ_ _ h=>h))))))
def zbE (pLfeed_here pLleast:D):Option (RV×List D):=
 (Option.bind (Option.bind (Option.bind (Option.bind (zf0 zai [some 1,none] 0 1 (λ(s:D)=>s) (λ(s:D) e=>e) (Option.bind (Option.bind (Option.bind (dPow (.int 10) (.int 9)) λd=>some (d,pLfeed_here)) λq2=>Option.bind (some ([],q2.2)) λq3=>some (some q2.1::q3.1,q3.2)) λq4=>some (none::q4.1,q4.2))) λq5=>some (q5.1.d,q5.2)) λq6=>Option.bind (Option.bind (dPow (.int 10) (.int 51)) λd=>some (d,q6.2)) λq7=>Option.bind (dMul q6.1 q7.1) λd8=>some (d8,q7.2)) λq9=>Option.bind (Option.bind (zf0 zai [some 1,none] 0 1 (λ(s:D)=>s) (λ(s:D) e=>e) (Option.bind (Option.bind (Option.bind (dPow (.int 10) (.int 9)) λd=>some (d,q9.2)) λq10=>Option.bind (some ([],q10.2)) λq11=>some (some q10.1::q11.1,q11.2)) λq12=>some (none::q12.1,q12.2))) λq13=>some (q13.1.d,q13.2)) λq14=>Option.bind (dAdd q9.1 q14.1) λd15=>some (d15,q14.2)) λ(q16:D×D)=>(Option.bind (Option.bind (Option.bind (Option.bind (some pLleast) λd=>some (d,q16.2)) λq18=>Option.bind (Option.bind (Option.bind (Option.bind (Option.bind (Option.bind (Option.bind (zbN zai ((λ(s:D) e=>e) q18.2) [q18.2,(.int 50)]) λq19=>some (q19.1.d,q19.2)) λq20=>Option.bind (Option.bind (Option.bind (Option.bind (some (.int 0)) λd=>some (d,q20.2)) λq21=>Option.bind (Option.bind (zbN zai ((λ(s:D) e=>e) q21.2) [q21.2,(.int 50)]) λq22=>some (q22.1.d,q22.2)) λq23=>Option.bind (dSub q21.1 q23.1) λd24=>some (d24,q23.2)) λq25=>Option.bind (Option.bind (Option.bind (some q16.1) λd=>some (d,q25.2)) λq26=>Option.bind (Option.bind (Option.bind (dSub (.int 0) q16.1) λd=>some (d,q26.2)) λq27=>Option.bind (some ([],q27.2)) λq28=>some (q27.1::q28.1,q28.2)) λq29=>some (q26.1::q29.1,q29.2)) λq30=>some (q25.1::q30.1,q30.2)) λq31=>some (q20.1::q31.1,q31.2)) λq32=>Option.bind (mkLs q32.1) λds=>some (RV.new 1 (.lst ds),q32.2)) λq33=>some (q33.1.d,q33.2)) λq34=>Option.bind (Option.bind (zbN zai ((λ(s:D) e=>e) q34.2) [q34.2,(.int 4)]) λq35=>some (q35.1.d,q35.2)) λq36=>Option.bind (dIx q34.1 q36.1) λd37=>some (d37,q36.2)) λq38=>Option.bind (some ([],q38.2)) λq39=>some (q38.1::q39.1,q39.2)) λq40=>some (q18.1::q40.1,q40.2)) λq41=>Option.bind (bMax q41.1) λd42=>some (d42,q41.2)) λ(q43:D×D)=>(some (.told q43.1,[q43.2,.non]))))
def zat:List D->Option (RV×List D):=g2 zbE
def scLnumber:FnScope ["_law_feed_here","_law_least","_law_far"] ["_law_feed_here","_law_least"] (zab zcm):=fsc
def zeL (F:Fun K "_law_number" "_law_number" zcm f fd)(B:Blt mg)(CLnext:Cal P w K mg base 1 "_law_next" ["_law_feed_here","_law_many"] (spG K [some 1,none] zai)):FnOk P w K mg base CX0 (1+1) f fd ["_law_feed_here","_law_least"] (spG K [some 1,none] zat):=
 zff [some 1,none] F scLnumber rfl λcdv A outer s H E hr=>by
  have nd:=scLnumber.nd
  refine⟨_,(zac (zcj (i:=2) nd rfl (Or.inl rfl) (zjm zbL zaY (zjm zhW zeP (VR.x (zaA 0 0 1 CLnext hr (zaz (zbB (VE.x (zaP zfB zfT (VE.w zae) (VE.w zae))) zay)))) (VE.x (zaP zfB zfT (VE.w zae) (VE.w zae)))) (VR.x (zaA 0 0 1 CLnext hr (zaz (zbB (VE.x (zaP zfB zfT (VE.w zae) (VE.w zae))) zay)))))) (zag (zee (vx_b (ziB rfl) zpe B boot_max (zaD (VE.x (vv 1)) (zaD (zjo (VR.x (zjn (zaD (VR.x (zaA 0 0 1 CLnext hr (zaz (zbB (VE.x zae) zay)))) (zaD (zjm ziw zja (VE.x zae) (VR.x (zaA 0 0 1 CLnext hr (zaz (zbB (VE.x zae) zay))))) (zaD (VE.x (vv 2)) (zaD (VE.x (zaP ziw zja (VE.w zae) (vr 2))) zdx)))))) (VR.x (zaA 0 0 1 CLnext hr (zaz (zbB (VE.x zae) zay))))) zdx)))))),znE ?_⟩;intro pLfeed_here pLleast;unfold zbE;exact(zaj (zcl (emb:=(λ(s1:D)=>[.par 1 s1,.val pLleast,.un])) (zdP (zdP (zbr (zdf (get:=(λ(s:D)=>s)) (put:=(λ(s:D) e=>e)) (zcL rfl (zei (zbC rfl) λq2=>(zcK rfl))) (λ_=>rfl) λ_ _=>rfl)) λq6=>(zbC rfl)) λq9=>(zbr (zdf (get:=(λ(s:D)=>s)) (put:=(λ(s:D) e=>e)) (zcL rfl (zei (zbC rfl) λq10=>(zcK rfl))) (λ_=>rfl) λ_ _=>rfl))) λ_=>rfl) λq16=>(zej (emb:=(λ(s17:D)=>[.par 1 s17,.val pLleast,.val q16.1])) (zhr (zar (zbC rfl) λq18=>(zar (zdP (zbr (zgJ (zar (zbr (zas (put:=((λ(s:D) e=>e) q18.2)) (as:=[none,some (.int 50)]) (d:=q18.2) rfl rfl rfl λ_=>rfl)) λq20=>(zar (zdP (zbC rfl) λq21=>(zbr (zas (put:=((λ(s:D) e=>e) q21.2)) (as:=[none,some (.int 50)]) (d:=q21.2) rfl rfl rfl λ_=>rfl))) λq25=>(zar (zbC rfl) λq26=>(zar (zbC rfl) λq27=>(zcJ rfl))))))) λq34=>(zbr (zas (put:=((λ(s:D) e=>e) q34.2)) (as:=[none,some (.int 4)]) (d:=q34.2) rfl rfl rfl λ_=>rfl))) λq38=>(zcJ rfl)))) λ_ _ h=>h))
def zcV (pLfeed_here:D):Option (RV×List D):=
 (Option.bind (Option.bind (Option.bind (dPow (.int 10) (.int 60)) λv1=>(dSub (.int 0) v1)) λv2=>(dAdd v2 (.int 1))) λ(x3:D)=>(Option.bind (Option.bind (Option.bind (Option.bind (zbN zat ((λ(s:D) e=>e) pLfeed_here) [pLfeed_here,x3]) λq5=>some (q5.1.d,q5.2)) λq6=>Option.bind (Option.bind (Option.bind (zbN zat ((λ(s:D) e=>e) q6.2) [q6.2,x3]) λq7=>some (q7.1.d,q7.2)) λq8=>Option.bind (Option.bind (Option.bind (zbN zat ((λ(s:D) e=>e) q8.2) [q8.2,(.int 1)]) λq9=>some (q9.1.d,q9.2)) λq10=>Option.bind (Option.bind (Option.bind (zbN zat ((λ(s:D) e=>e) q10.2) [q10.2,(.int 1)]) λq11=>some (q11.1.d,q11.2)) λq12=>Option.bind (some ([],q12.2)) λq13=>some (q12.1::q13.1,q13.2)) λq14=>some (q10.1::q14.1,q14.2)) λq15=>some (q8.1::q15.1,q15.2)) λq16=>some (q6.1::q16.1,q16.2)) λq17=>Option.bind (mkT q17.1) λd18=>some (d18,q17.2)) λ(q19:D×D)=>(some (.told q19.1,[q19.2]))))
def zba:List D->Option (RV×List D):=g1 zcV
def scLbox:FnScope ["_law_feed_here","_law_low"] ["_law_feed_here"] (zab zdB):=fsc
def zgY (F:Fun K "_law_box" "_law_box" zdB f fd)(B:Blt mg)(CLnumber:Cal P w K mg base 2 "_law_number" ["_law_feed_here","_law_least"] (spG K [some 1,none] zat)):FnOk P w K mg base CX0 (2+1) f fd ["_law_feed_here"] (spG K [some 1] zba):=
 zff [some 1] F scLbox rfl λcdv A outer s H E hr=>by
  have nd:=scLbox.nd
  refine⟨_,(zac (vsS 1 nd (zaP zbL zaY (VE.w (zaP ziw zja (VE.w zae) (VE.w (zaP zfB zfT (VE.w zae) (VE.w zae))))) (VE.w zae))) (zag (zee (zpp (zaD (VR.x (zaA 0 0 1 CLnumber hr (zaz (zbB (VE.x (vv 1)) zay)))) (zaD (VR.x (zaA 0 0 1 CLnumber hr (zaz (zbB (VE.x (vv 1)) zay)))) (zaD (VR.x (zaA 0 0 1 CLnumber hr (zaz (zbB (VE.x zae) zay)))) (zaD (VR.x (zaA 0 0 1 CLnumber hr (zaz (zbB (VE.x zae) zay)))) zdx)))))))),zpB ?_⟩;intro pLfeed_here;unfold zcV;exact(zaj (zaO rfl) λx3=>(zej (emb:=(λ(s4:D)=>[.par 1 s4,.val x3])) (znC (zar (zbr (zas (put:=((λ(s:D) e=>e) pLfeed_here)) (as:=[none,some x3]) (d:=pLfeed_here) rfl rfl rfl λ_=>rfl)) λq6=>(zar (zbr (zas (put:=((λ(s:D) e=>e) q6.2)) (as:=[none,some x3]) (d:=q6.2) rfl rfl rfl λ_=>rfl)) λq8=>(zar (zbr (zas (put:=((λ(s:D) e=>e) q8.2)) (as:=[none,some (.int 1)]) (d:=q8.2) rfl rfl rfl λ_=>rfl)) λq10=>(zar (zbr (zas (put:=((λ(s:D) e=>e) q10.2)) (as:=[none,some (.int 1)]) (d:=q10.2) rfl rfl rfl λ_=>rfl)) λq12=>(zcJ rfl)))))) λ_ _ h=>h))
def zcs (S:Scr)(pLscript:D):Option (RV×List D):=
 (Option.bind (some (.str "abcdefghijklmnopqrstuvwxyz")) λ(x1:D)=>(Option.bind (Option.bind (Option.bind (Option.bind (some [pLscript,(.int 0)]) λd=>some (d,())) λq3=>Option.bind ((zaW S) q3.1) λr4=>if q3.1.length=2 then some (r4.1,q3.2) else none) newD) λ(q5:D×Unit)=>(Option.bind (Option.bind (Option.bind (Option.bind (Option.bind (Option.bind (Option.bind (some (.int 1)) λd=>some (d,q5.1)) λq7=>Option.bind (Option.bind (zbN zai ((λ(s:D) e=>e) q7.2) [q7.2,(.int 16)]) λq8=>some (q8.1.d,q8.2)) λq9=>Option.bind (dAdd q7.1 q9.1) λd10=>some (d10,q9.2)) λq11=>Option.bind (Option.bind (Option.bind (some (.int 40)) λd=>some (d,q11.2)) λq12=>Option.bind (some ([],q12.2)) λq13=>some (q12.1::q13.1,q13.2)) λq14=>some (q11.1::q14.1,q14.2)) λq15=>Option.bind (mkLs q15.1) λds=>some (RV.new 1 (.lst ds),q15.2)) λq16=>some (q16.1.d,q16.2)) λq17=>Option.bind (Option.bind (Option.bind (Option.bind (Option.bind (zbN zai ((λ(s:D) e=>e) q17.2) [q17.2,(.int 8)]) λq18=>some (q18.1.d,q18.2)) λq19=>Option.bind (Option.bind (some (.int 7)) λd=>some (d,q19.2)) λq20=>Option.bind ((dEqG false) q19.1 q20.1) λd21=>some (d21,q20.2)) λq22=>Option.bind (some ([],q22.2)) λq23=>some (q22.1::q23.1,q23.2)) λq24=>Option.bind (bInt q24.1) λd25=>some (d25,q24.2)) λq26=>Option.bind (dIx q17.1 q26.1) λd27=>some (d27,q26.2)) λ(q28:D×D)=>(Option.bind (Option.bind (zbN zai ((λ(s:D) e=>e) q28.2) [q28.2,(.int 26)]) λq30=>some (q30.1.d,q30.2)) λ(q31:D×D)=>(Option.bind (Option.bind (Option.bind (some (.int 1)) λd=>some (d,q31.2)) λq33=>Option.bind (Option.bind (zbN zai ((λ(s:D) e=>e) q33.2) [q33.2,(.int 7)]) λq34=>some (q34.1.d,q34.2)) λq35=>Option.bind (dAdd q33.1 q35.1) λd36=>some (d36,q35.2)) λ(q37:D×D)=>(Option.bind (some ()) λ(u38:Unit)=>(Option.bind (some (.lst [])) λ(x39:D)=>(Option.bind (Option.bind (rngA [q28.1]) (zaZ (λ(s40:D×List D×D) (d41:D)=>(Option.bind (Option.bind (Option.bind (Option.bind (aC (some pLscript) (aC (dAdd (.int 1) d41) aN)) λd=>some (d,())) λq43=>Option.bind ((zaW S) q43.1) λr44=>if q43.1.length=2 then some (r44.1,q43.2) else none) newD) λ(q45:D×Unit)=>(Option.bind (Option.bind (Option.bind (some s40.2.2) λd=>some (d,q45.1)) λq47=>Option.bind (some ((none:Option Int),q47.2)) λl48=>Option.bind (Option.bind (Option.bind (zf0 zai [some 1,none] 0 1 (λ(s:D)=>s) (λ(s:D) e=>e) (Option.bind (Option.bind (Option.bind (Option.bind (aC (some (.int 5)) (aC (Option.bind (bLen [s40.2.2]) λv52=>(dAdd v52 (.int 1))) aN)) bMin) λd=>some (d,l48.2)) λq53=>Option.bind (some ([],q53.2)) λq54=>some (some q53.1::q54.1,q54.2)) λq55=>some (none::q55.1,q55.2))) λq56=>some (q56.1.d,q56.2)) λq57=>Option.bind (dInt q57.1) λi=>some (some i,q57.2)) λh49=>Option.bind (dSl q47.1 l48.1 h49.1) λd50=>some (d50,h49.2)) λ(q58:D×D)=>(Option.bind (Option.bind (Option.bind (Option.bind (dAdd q31.1 d41) λv59=>(dMod v59 (.int 26))) λv60=>(dIx x1 v60)) λv62=>(Option.bind (Option.bind (dFdiv d41 (.int 26)) λv61=>(dAdd q37.1 v61)) λv63=>(dMul v62 v63))) λ(x64:D)=>(Option.bind (Option.bind (Option.bind (Option.bind (zck (λd65=>(Option.bind (Option.bind (Option.bind (dIx d65 (.int 1)) λv67=>((dInG true) v67 q58.1)) dB) λk66=>if k66 then(Option.bind (dIx d65 (.int 1)) λz=>some (some z)) else some none)) s40.2.1) noDL) λds=>some (.lst ds)) λv68=>(dAdd (.lst [D.non]) v68)) λ(x69:D)=>(Option.bind (Option.bind (Option.bind (some (.lst [(.str "free"),(.str "shut"),(.str "hidden")])) λd=>some (d,q58.2)) λq71=>Option.bind (Option.bind (zbN zai ((λ(s:D) e=>e) q71.2) [q71.2,(.int 3)]) λq72=>some (q72.1.d,q72.2)) λq73=>Option.bind (dIx q71.1 q73.1) λd74=>some (d74,q73.2)) λ(q75:D×D)=>(Option.bind (Option.bind (Option.bind (Option.bind (Option.bind (bLen [q58.1]) λd=>some (d,q75.2)) λq102=>Option.bind (Option.bind (Option.bind (some x64) λd=>some (d,q102.2)) λq103=>Option.bind (Option.bind (Option.bind (zbN zba ((λ(s:D) e=>e) q103.2) [q103.2]) λq104=>some (q104.1.d,q104.2)) λq105=>Option.bind (Option.bind (Option.bind (some q75.1) λd=>some (d,q105.2)) λq106=>Option.bind (Option.bind (Option.bind (zbN zai ((λ(s:D) e=>e) q106.2) [q106.2,(.int 4)]) λq107=>some (q107.1.d,q107.2)) λq108=>Option.bind (Option.bind (Option.bind (Option.bind (some x69) λd=>some (d,q108.2)) λq109=>Option.bind (Option.bind (zf0 zai [some 1,none] 0 1 (λ(s:D)=>s) (λ(s:D) e=>e) (Option.bind (Option.bind (Option.bind (bLen [x69]) λd=>some (d,q109.2)) λq110=>Option.bind (some ([],q110.2)) λq111=>some (some q110.1::q111.1,q111.2)) λq112=>some (none::q112.1,q112.2))) λq113=>some (q113.1.d,q113.2)) λq114=>Option.bind (dIx q109.1 q114.1) λd115=>some (d115,q114.2)) λq116=>Option.bind (some ([],q116.2)) λq117=>some (q116.1::q117.1,q117.2)) λq118=>some (q108.1::q118.1,q118.2)) λq119=>some (q106.1::q119.1,q119.2)) λq120=>some (q105.1::q120.1,q120.2)) λq121=>some (q103.1::q121.1,q121.2)) λq122=>some (q102.1::q122.1,q122.2)) λq123=>Option.bind (mkLs q123.1) λds=>some (RV.new 1 (.lst ds),q123.2)) λq100=>Option.bind (zjU ((λ(_:D)=>(s40.2.1:List D)) q100.2) q100.1) λys=>some (ys,q100.2)) λ(q101:List D×D)=>(Option.bind (dAdd q58.1 (.lst [x64])) λ(x124:D)=>(some (q101.2,q101.1,x124)))))))))) (q37.2,[],x39))) λ(s40:D×List D×D)=>(some ((.new 2 (.lst s40.2.1)),[.non]))))))))))
def zct (S:Scr):List D->Option (RV×List D):=g1 (zcs S)
def scLrows:FnScope ["_law_script","_law_letters","_law_feed_here","_law_many","_law_turn","_law_size","_law_rows_here","_law_line","_law_k","_law_name","_law_others","_law_word"] ["_law_script"] (zab zcn):=fsc
def zgj (F:Fun K "_law_rows" "_law_rows" zcn f fd)(B:Blt mg){Pc:Hp->Prop}(pe:Pers Pc){S:Scr}(CLfeed:Cal P w K mg base 1 "_law_feed" ["_law_script","_law_k"] (pcS Pc (spG K [none,none] (zaW S))))(CLnext:Cal P w K mg base 1 "_law_next" ["_law_feed_here","_law_many"] (spG K [some 1,none] zai))(CLbox:Cal P w K mg base 3 "_law_box" ["_law_feed_here"] (spG K [some 1] zba)):FnOk P w K mg base CX0 (4+1) f fd ["_law_script"] (pcS Pc (spG K [none] (zct S))):=
 zjI pe [none] F scLrows rfl λcdv A outer s H E hcv hr hPc hp=>by
  have nd:=scLrows.nd
  refine⟨_,(zac (vsS 1 nd zbd) (zac (zed (i:=2) nd rfl (Or.inl rfl) (zdh CLfeed hp hr (VA.x (zad (vv 0) (zad zae zaf))))) (zac (zcj (i:=3) nd rfl (Or.inl rfl) (zjo (VR.x (zjn (zaD (zjm zbL zaY (VE.x zae) (VR.x (zaA 0 2 1 CLnext hr (zaz (zbB (VE.x zae) zay))))) (zaD (VE.x zae) zdx)))) (zqL ziC zpf B boot_int (zaD (zpo (zbS hr) (zaR false) (VR.x (zaA 0 2 1 CLnext hr (zaz (zbB (VE.x zae) zay)))) (VE.x zae) (zau _)) zdx)))) (zac (zcj (i:=4) nd rfl (Or.inl rfl) (VR.x (zaA 0 2 1 CLnext hr (zaz (zbB (VE.x zae) zay))))) (zac (zcj (i:=5) nd rfl (Or.inl rfl) (zjm zbL zaY (VE.x zae) (VR.x (zaA 0 2 1 CLnext hr (zaz (zbB (VE.x zae) zay)))))) (zac (zed (i:=6) nd rfl (Or.inl rfl) zny) (zac (vsS 7 nd (VN.ve (zbX zaf))) (zac (zdd (zd8 B (zad (vv 3) zaf)) (vgN 8 nd) (zac (zed (i:=2) nd rfl (Or.inl rfl) (zdh CLfeed hp hr (VA.x (zad (vv 0) (zad (zaP zbL zaY (VE.w zae) (vr 8)) zaf))))) (zac (zcj (i:=7) nd rfl (Or.inr rfl) (zlg (VE.x (vv 7)) zle (zlf (VR.x (zaA 0 2 1 CLnext hr (zaz (zbB (VE.x (ve_b (zd0 rfl) zjd B boot_min (zan (VE.w zae) (zan (VE.w (zaP zbL zaY (VE.w (ve_b zaQ zbM B boot_len (zan (vr 7) zaC))) (VE.w zae))) zaC)))) zay))))))) (zac (vsS 9 nd (zaP zhW zeP (VE.w (zaM (vr 1) (VE.w (zaP zdE zdH (VE.w (zaP zbL zaY (vr 4) (vr 8))) (VE.w zae))))) (VE.w (zaP zbL zaY (vr 5) (VE.w (zaP zix zjb (vr 8) (VE.w zae))))))) (zac (vsS 10 nd (zaP zbL zaY (VE.w (VN.ve (zbX (zad zfS zaf)))) (VE.w (VN.ve (znR (vnC ["_law_script","_law_letters","_law_feed_here","_law_many","_law_turn","_law_size","_law_rows_here","_law_line","_law_k","_law_name","_law_others","_law_word"] zcn (NC:=["_law_row","_law_line"]) [none,some 7] (zca (vv 6)) ((vgc 0)) ((zgD (zaG (zhq hr) (zeS true) (VE.w (zaM (vr 0) (VE.w zae))) (vrC 1 rfl rfl rfl rfl) rfl))) ((zaM (vr 0) (VE.w zae))))))))) (zac (zcj (i:=11) nd rfl (Or.inl rfl) (zjo (VE.x (VN.ve (zbX (zad zbd (zad zbd (zad zbd zaf)))))) (VR.x (zaA 0 2 1 CLnext hr (zaz (zbB (VE.x zae) zay)))))) (zac (zlq 6 (zjn (zaD (VE.x (ve_b zaQ zbM B boot_len (zan (vr 7) zaC))) (zaD (VE.x (vv 9)) (zaD (VR.x (zaA 0 2 1 CLbox hr (zaz zay))) (zaD (VE.x (vv 11)) (zaD (VR.x (zaA 0 2 1 CLnext hr (zaz (zbB (VE.x zae) zay)))) (zaD (zjo (VE.x (vv 10)) (VR.x (zaA 0 2 1 CLnext hr (zaz (zbB (VE.x (ve_b zaQ zbM B boot_len (zan (vr 10) zaC))) zay))))) zdx)))))))) (zac (vsS 7 nd (zaP zbL zaY (vr 7) (VE.w (VN.ve (zbX (zad (vv 9) zaf)))))) (zbf [8,9,10,11] zal))))))))) (zag (znj 6)))))))))),zpB ?_⟩;intro pLscript;unfold zcs;exact(zaj (zaO rfl) λx1=>(zaj (zgO (emb:=(λ(s2:Unit)=>[.val pLscript,.val x1,.un,.un,.un,.un,.un,.un,.un,.un,.un,.un])) (zdg (zhs rfl)) λ_=>rfl) λq5=>(zaj (zcl (emb:=(λ(s6:D)=>[.val pLscript,.val x1,.own 1 s6,.un,.un,.un,.un,.un,.un,.un,.un,.un])) (zdP (zbr (zgJ (zar (zdP (zbC rfl) λq7=>(zbr (zas (put:=((λ(s:D) e=>e) q7.2)) (as:=[none,some (.int 16)]) (d:=q7.2) rfl rfl rfl λ_=>rfl))) λq11=>(zar (zbC rfl) λq12=>(zcJ rfl))))) λq17=>(zhr (zar (zdP (zbr (zas (put:=((λ(s:D) e=>e) q17.2)) (as:=[none,some (.int 8)]) (d:=q17.2) rfl rfl rfl λ_=>rfl)) λq19=>(zbC rfl)) λq22=>(zcJ rfl)))) λ_=>rfl) λq28=>(zaj (zcl (emb:=(λ(s29:D)=>[.val pLscript,.val x1,.own 1 s29,.val q28.1,.un,.un,.un,.un,.un,.un,.un,.un])) (zbr (zas (put:=((λ(s:D) e=>e) q28.2)) (as:=[none,some (.int 26)]) (d:=q28.2) rfl rfl rfl λ_=>rfl)) λ_=>rfl) λq31=>(zaj (zcl (emb:=(λ(s32:D)=>[.val pLscript,.val x1,.own 1 s32,.val q28.1,.val q31.1,.un,.un,.un,.un,.un,.un,.un])) (zdP (zbC rfl) λq33=>(zbr (zas (put:=((λ(s:D) e=>e) q33.2)) (as:=[none,some (.int 7)]) (d:=q33.2) rfl rfl rfl λ_=>rfl))) λ_=>rfl) λq37=>(zaj (zjv (n:=2) (x:=.lst []) rfl rfl) λu38=>(zaj (zaO rfl) λx39=>(zaj (zfd (emb:=(λ(s40:D×List D×D)=>[.val pLscript,.val x1,.own 1 s40.1,.val q28.1,.val q31.1,.val q37.1,.own 2 (.lst s40.2.1),.val s40.2.2,.un,.un,.un,.un])) rfl (λ_=>rfl) λs40 d41=>(zaj (zgO (emb:=(λ(s42:Unit)=>[.val pLscript,.val x1,.own 1 s40.1,.val q28.1,.val q31.1,.val q37.1,.own 2 (.lst s40.2.1),.val s40.2.2,.val d41,.un,.un,.un])) (zdg (zhs rfl)) λ_=>rfl) λq45=>(zaj (zcl (emb:=(λ(s46:D)=>[.val pLscript,.val x1,.own 1 s46,.val q28.1,.val q31.1,.val q37.1,.own 2 (.lst s40.2.1),.val s40.2.2,.val d41,.un,.un,.un])) (zpJ (zbC rfl) (λq47=>(zpH rfl)) λq47 l48=>(zpI (zbr (zdf (get:=(λ(s:D)=>s)) (put:=(λ(s:D) e=>e)) (zcL rfl (zei (zbC rfl) λq53=>(zcK rfl))) (λ_=>rfl) λ_ _=>rfl)))) λ_=>rfl) λq58=>(zaj (zaO rfl) λx64=>(zaj (zaO rfl) λx69=>(zaj (zcl (emb:=(λ(s70:D)=>[.val pLscript,.val x1,.own 1 s70,.val q28.1,.val q31.1,.val q37.1,.own 2 (.lst s40.2.1),.val q58.1,.val d41,.val x64,.val x69,.un])) (zdP (zbC rfl) λq71=>(zbr (zas (put:=((λ(s:D) e=>e) q71.2)) (as:=[none,some (.int 3)]) (d:=q71.2) rfl rfl rfl λ_=>rfl))) λ_=>rfl) λq75=>(zaj (zjV (emb:=(λ(s76:D)=>[.val pLscript,.val x1,.own 1 s76,.val q28.1,.val q31.1,.val q37.1,.own 2 (.lst s40.2.1),.val q58.1,.val d41,.val x64,.val x69,.val q75.1])) (get:=(λ(_:D)=>(s40.2.1:List D))) rfl (zgJ (zar (zbC rfl) λq102=>(zar (zbC rfl) λq103=>(zar (zbr (zas (put:=((λ(s:D) e=>e) q103.2)) (as:=[none]) (d:=q103.2) rfl rfl rfl λ_=>rfl)) λq105=>(zar (zbC rfl) λq106=>(zar (zbr (zas (put:=((λ(s:D) e=>e) q106.2)) (as:=[none,some (.int 4)]) (d:=q106.2) rfl rfl rfl λ_=>rfl)) λq108=>(zar (zdP (zbC rfl) λq109=>(zbr (zdf (get:=(λ(s:D)=>s)) (put:=(λ(s:D) e=>e)) (zcL rfl (zei (zbC rfl) λq110=>(zcK rfl))) (λ_=>rfl) λ_ _=>rfl))) λq116=>(zcJ rfl)))))))) λ_=>rfl) λq101=>(zaj (zaO rfl) λx124=>(zhA [8,9,10,11] (zbq λ_ h=>h)))))))))) λs40=>(znA rfl λ_ h=>h)))))))))
def zcu (pLrows_here:D):Option D:=
 (Option.bind (some ()) λ(u1:Unit)=>(Option.bind (Option.bind (zqT [pLrows_here]) (zaZ (λ(s2:List D) (d3:D)=>(Option.bind (Option.bind (aC (Option.bind (Option.bind (Option.bind (Option.bind (dIx d3 (.int 0)) λv4=>(dAdd v4 (.int 1))) λv5=>(ix2C s2 v5)) λv6=>(Option.bind (dLst v6) λds=>some ds.reverse)) λds=>some (.lst ds)) aN) bTuple) λ(x7:D)=>(Option.bind (Option.bind (Option.bind (dIx d3 (.int 0)) λv8=>(dAdd v8 (.int 1))) λv9=>(zlB s2 [] v9)) λ(x10:List D)=>(Option.bind (Option.bind (dIx d3 (.int 0)) λv12=>(Option.bind (Option.bind (Option.bind (aC (dSl d3 (some 1) none) aN) bTuple) λv11=>(dAdd v11 (.tup [x7]))) λv13=>(zlC x10 v12 v13))) λ(x14:List D)=>(some x14))))) [D.lst [],D.lst [],D.lst [],D.lst [],D.lst [],D.lst []])) λ(s2:List D)=>(Option.bind (Option.bind (aC (Option.bind (Option.bind (ix2C s2 (.int 0)) λv15=>(Option.bind (dLst v15) λds=>some ds.reverse)) λds=>some (.lst ds)) aN) bTuple) λ(r16:D)=>(some r16))))
def zaN:List D->Option D:=c1 zcu
def scLhung:FnScope ["_law_rows_here","_law_waiting","_law_row","_law_parts"] ["_law_rows_here"] (zab zco):=fsc
def zgk (F:Fun K "_law_hung" "_law_hung" zco f fd)(B:Blt mg):FnOk P w K mg base CX0 (1+1) f fd ["_law_rows_here"] (spF K zaN):=
 zbz F scLhung zbA λcdv A outer s H E hr=>by
  have nd:=scLhung.nd
  refine⟨_,(zac (zlr ["_law_rows_here","_law_waiting","_law_row","_law_parts"] zco (i:=1) (NC:=["_law_deep"]) [none] nd rfl (Or.inl rfl) rfl (zd8 B (zad zae zaf)) (λx h=>zbU h) rfl rfl rfl (by decide +kernel) (by decide +kernel) rfl (by decide +kernel) (by decide +kernel) rfl (by decide) (λcl C s0 H0 ex pn=>(vgc 0)) (λcl C s0 H0 ex pn=>(zbX zaf))) (zac (zdd (znu B (zad (vv 0) zaf)) (vgN 2 nd) (zac (vsS 3 nd (zi8 zbb zdc B boot_tuple (zan (VE.w (VN.ve (zmf (zml 1 (zaP zbL zaY (VE.w (zaM (vr 2) (VE.w zae))) (VE.w zae)))))) zaC))) (zac (znr 1 (zbX zaf) (zaP zbL zaY (VE.w (zaM (vr 2) (VE.w zae))) (VE.w zae))) (zac (znp 1 (zaM (vr 2) (VE.w zae)) (zaP zbL zaY (VE.w (zi8 zbb zdc B boot_tuple (zan (VE.w (zdT (vr 2) (zdw zae) zdv)) zaC))) (VE.w (zdG (zad (vv 3) zaf))))) (zbf [2,3] zal))))) (zag (zao (zi8 zbb zdc B boot_tuple (zan (VE.w (VN.ve (zmf (zml 1 zae)))) zaC)))))),zcX ?_⟩;intro pLrows_here;unfold zcu;exact(zaj (zjv (n:=2) (x:=.lst [D.lst [],D.lst [],D.lst [],D.lst [],D.lst [],D.lst []]) rfl rfl) λu1=>(zaj (zfd (emb:=(λ(s2:List D)=>[.val pLrows_here,.own 2 (.lst s2),.un,.un])) rfl (λ_=>rfl) λs2 d3=>(zaj (zaO rfl) λx7=>(zaj (znI rfl) λx10=>(zaj (znJ rfl) λx14=>(zb7 [2,3] (zbq λ_ h=>h)))))) λs2=>(zap λ_ _ h=>h)))
def zb5 (pLfeed_here pLrow pLway:D):Option (RV×List D):=
 (Option.bind (Option.bind (Option.bind (Option.bind (zbN zai ((λ(s:D) e=>e) pLfeed_here) [pLfeed_here,(.int 6)]) λq3=>some (q3.1.d,q3.2)) λq4=>Option.bind (Option.bind (some (.int 0)) λd=>some (d,q4.2)) λq5=>Option.bind ((dEqG false) q4.1 q5.1) λd6=>some (d6,q5.2)) λq7=>Option.bind (dB q7.1) λk=>some (k,q7.2)) λk1=>if k1.1 then(Option.bind (Option.bind (dAdd (.int 2) pLway) λv8=>(dIx pLrow v8)) λ(r9:D)=>(some (.told r9,[k1.2,.non,.non]))) else(Option.bind (Option.bind ((dEqG false) pLway (.int 0)) dB) λk10=>if k10 then(Option.bind (Option.bind (zbN zba ((λ(s:D) e=>e) k1.2) [k1.2]) λq12=>some (q12.1.d,q12.2)) λ(q13:D×D)=>(some (.told q13.1,[q13.2,.non,.non]))) else(Option.bind (Option.bind ((dEqG false) pLway (.int 1)) dB) λk14=>if k14 then(Option.bind (Option.bind (Option.bind (some (.lst [(.str "free"),(.str "shut"),(.str "hidden")])) λd=>some (d,k1.2)) λq16=>Option.bind (Option.bind (zbN zai ((λ(s:D) e=>e) q16.2) [q16.2,(.int 3)]) λq17=>some (q17.1.d,q17.2)) λq18=>Option.bind (dIx q16.1 q18.1) λd19=>some (d19,q18.2)) λ(q20:D×D)=>(some (.told q20.1,[q20.2,.non,.non]))) else(Option.bind (Option.bind (zbN zat ((λ(s:D) e=>e) k1.2) [k1.2,(.int 0)]) λq22=>some (q22.1.d,q22.2)) λ(q23:D×D)=>(some (.told q23.1,[q23.2,.non,.non]))))))
def za2:List D->Option (RV×List D):=g3 zb5
def zfs:FnScope ["_law_feed_here","_law_row","_law_way"] ["_law_feed_here","_law_row","_law_way"] (zab zcE):=fsc
def zft (F:Fun K "_law_thing" "_law_thing" zcE f fd)(B:Blt mg)(CLnext:Cal P w K mg base 1 "_law_next" ["_law_feed_here","_law_many"] (spG K [some 1,none] zai))(CLbox:Cal P w K mg base 3 "_law_box" ["_law_feed_here"] (spG K [some 1] zba))(CLnumber:Cal P w K mg base 2 "_law_number" ["_law_feed_here","_law_least"] (spG K [some 1,none] zat)):FnOk P w K mg base CX0 (3+1) f fd ["_law_feed_here","_law_row","_law_way"] (spG K [some 1,none,none] za2):=
 zff [some 1,none,none] F zfs rfl λcdv A outer s H E hr=>by
  refine⟨_,(zac (zpq (znl (zbS hr) (zaR false) (VR.x (zaA 0 0 1 CLnext hr (zaz (zbB (VE.x zae) zay)))) (VE.x zae) (zau _)) (zag (zao (zaM (vr 1) (VE.w (zaP zbL zaY (VE.w zae) (vr 2)))))) zal) (zac (za5 (zaG (zbS hr) (zaR false) (vr 2) (VE.w zae) (zau _)) (zag (zee (VR.x (zaA 0 0 1 CLbox hr (zaz zay))))) zal) (zac (za5 (zaG (zbS hr) (zaR false) (vr 2) (VE.w zae) (zau _)) (zag (zee (zjo (VE.x (VN.ve (zbX (zad zbd (zad zbd (zad zbd zaf)))))) (VR.x (zaA 0 0 1 CLnext hr (zaz (zbB (VE.x zae) zay))))))) zal) (zag (zee (VR.x (zaA 0 0 1 CLnumber hr (zaz (zbB (VE.x zae) zay))))))))),zqY ?_⟩;intro pLfeed_here pLrow pLway;unfold zb5;exact(znD (emb:=(λ(s2:D)=>[.par 1 s2,.val pLrow,.val pLway])) (zpA (zdP (zbr (zas (put:=((λ(s:D) e=>e) pLfeed_here)) (as:=[none,some (.int 6)]) (d:=pLfeed_here) rfl rfl rfl λ_=>rfl)) λq4=>(zbC rfl))) (λk1=>(zap λ_ _ h=>h)) (λk1=>(za6 (zaH (zej (emb:=(λ(s11:D)=>[.par 1 s11,.val pLrow,.val pLway])) (zbr (zas (put:=((λ(s:D) e=>e) k1.2)) (as:=[none]) (d:=k1.2) rfl rfl rfl λ_=>rfl)) λ_ _ h=>h) (za6 (zaH (zej (emb:=(λ(s15:D)=>[.par 1 s15,.val pLrow,.val pLway])) (zdP (zbC rfl) λq16=>(zbr (zas (put:=((λ(s:D) e=>e) q16.2)) (as:=[none,some (.int 3)]) (d:=q16.2) rfl rfl rfl λ_=>rfl))) λ_ _ h=>h) (za6 (zej (emb:=(λ(s21:D)=>[.par 1 s21,.val pLrow,.val pLway])) (zbr (zas (put:=((λ(s:D) e=>e) k1.2)) (as:=[none,some (.int 0)]) (d:=k1.2) rfl rfl rfl λ_=>rfl)) λ_ _ h=>h))))))))
def zlW (S:Scr)(pLscript:D):Option D:=
 (Option.bind (Option.bind (Option.bind (Option.bind (some [pLscript]) λd=>some (d,())) λq2=>Option.bind ((zct S) q2.1) λr3=>if q2.1.length=1 then some (r3.1,q2.2) else none) znQ) λ(q4:List D×Unit)=>(Option.bind (Option.bind (zaN [(.lst q4.1)]) noD) λ(x5:D)=>(Option.bind (Option.bind (aC (Option.bind (aC (some (.int 12)) (aC (Option.bind ((lenS S) pLscript) λv6=>(dAdd (.int 1) v6)) aN)) bMin) aN) rngA) λds48=>Option.bind ((zef (λ(s7:List D×D) (d8:D)=>(Option.bind (Option.bind (Option.bind (Option.bind (aC (some pLscript) (aC (dAdd (.int 41) d8) aN)) λd=>some (d,())) λq10=>Option.bind ((zaW S) q10.1) λr11=>if q10.1.length=2 then some (r11.1,q10.2) else none) newD) λ(q12:D×Unit)=>(Option.bind (Option.bind (zf0 zai [some 1,none] 0 1 (λ(s:D)=>s) (λ(s:D) e=>e) (Option.bind (Option.bind (Option.bind (some (D.int (s7.1).length)) λd=>some (d,q12.1)) λq14=>Option.bind (some ([],q14.2)) λq15=>some (some q14.1::q15.1,q15.2)) λq16=>some (none::q16.1,q16.2))) λq17=>some (q17.1.d,q17.2)) λ(q18:D×D)=>(Option.bind (Option.bind (zbN zai ((λ(s:D) e=>e) q18.2) [q18.2,(.int 3)]) λq20=>some (q20.1.d,q20.2)) λ(q21:D×D)=>(Option.bind (Option.bind (Option.bind (Option.bind (Option.bind (dIx (.lst s7.1) q18.1) λd=>some (d,())) λq24=>Option.bind (Option.bind (Option.bind (some q21.1) λd=>some (d,q24.2)) λq25=>Option.bind (some ([],q25.2)) λq26=>some (some q25.1::q26.1,q26.2)) λq27=>some (some q24.1::q27.1,q27.2)) λq28=>some (none::q28.1,q28.2)) λ(a:List (Option D)×Unit)=>if a.1.map (agK 1) = [some 1,none,none] then zlS za2 ((λ(s:D) e=>e) q21.2) (a.1.map λo=>o.getD q21.2) else none) λ(q23:D×D)=>(Option.bind (Option.bind (zaN [(.lst s7.1)]) noD) λ(x29:D)=>(Option.bind (Option.bind (Option.bind (aC (dIx (.lst [(.str "box"),(.str "word"),(.str "rank")]) q21.1) (aC (Option.bind (dIx (.lst s7.1) q18.1) λv30=>(dIx v30 (.int 1))) (aC (some q23.1) aN))) mkT) noD) λ(x31:D)=>(Option.bind (zeX [s7.2,x31]) λ(x32:D)=>(Option.bind (Option.bind (some q23.1) λv34=>Option.bind (some q18.1) λv35=>Option.bind (dAdd (.int 2) q21.1) λv36=>zjT s7.1 v35 v36 v34) λ(x33:List D)=>(Option.bind (Option.bind (Option.bind (Option.bind ((isD "tuple") x32) dTru) λk43=>some (!k43)) λk42=>if k42 then some true else(Option.bind (Option.bind (Option.bind (zaN [(.lst x33)]) λv41=>((dEqG true) x32 v41)) dB) λk40=>if k40 then some true else(Option.bind (Option.bind ((dEqG true) s7.2 x29) dB) λk39=>if k39 then some true else(Option.bind (Option.bind (zeX [s7.2,x31]) λv38=>((dEqG true) v38 x32)) dB)))) λk37=>if k37 then(Option.bind (some (.bl false)) λ(r44:D)=>(some (Fl.ret r44:Fl (List D×D) (D)))) else(Option.bind (some x32) λ(x45:D)=>(some (Fl.nx (x33,x45):Fl (List D×D) (D)))))))))))))) (q4.1,x5)) ds48) (flK λ(s7:List D×D)=>(Option.bind (Option.bind (Option.bind (zaN [(.lst s7.1)]) λv46=>((dEqG false) s7.2 v46)) noD) λ(r47:D)=>(some r47))))))
def znX (S:Scr):List D->Option D:=c1 (zlW S)
def sc_law:FnScope ["_law_script","_law_rows_here","_law_sheet","_law_k","_law_feed_here","_law_at","_law_way","_law_thing_here","_law_before","_law_deed","_law_found"] ["_law_script"] (zab zfo):=fsc
def zpV (F:Fun K "law" "law" zfo f fd)(B:Blt mg){Pc:Hp->Prop}(pe:Pers Pc){S:Scr}(hSq:∀H,Pc H->SqF K S H)(CLrows:Cal P w K mg base 5 "_law_rows" ["_law_script"] (pcS Pc (spG K [none] (zct S))))(CLhung:Cal P w K mg base 2 "_law_hung" ["_law_rows_here"] (spF K zaN))(CLfeed:Cal P w K mg base 1 "_law_feed" ["_law_script","_law_k"] (pcS Pc (spG K [none,none] (zaW S))))(CLnext:Cal P w K mg base 1 "_law_next" ["_law_feed_here","_law_many"] (spG K [some 1,none] zai))(CLthing:Cal P w K mg base 4 "_law_thing" ["_law_feed_here","_law_row","_law_way"] (spG K [some 1,none,none] za2))(C_done:Cal P w K mg base 52 "done" ["sheet","deed"] (pcS Pc (spF K zeX)))(K_tuple:Kit K "tuple"):FnOk P w K mg base CX0 (53+1) f fd ["_law_script"] (pcS Pc (spF K (znX S))):=
 zbO pe F sc_law zbA λcdv A outer s H E hcv hr hPc hp=>by
  have nd:=sc_law.nd
  have hS:Prs _ (SqF K S):=λp Y H s I=>hSq _ (hp p Y H s I)
  refine⟨_,(zac (zed (i:=1) nd rfl (Or.inl rfl) (zdh CLrows hp hr (VA.x (zad (vv 0) zaf)))) (zac (vsS 2 nd (zfm (zaq CLhung hr (zad (vv 1) zaf)))) (zac (zdd (zd8 B (zad (ve_b (zd0 rfl) zjd B boot_min (zan (VE.w zae) (zan (VE.w (zaP zbL zaY (VE.w zae) (VE.w (zgM hS B (vv 0))))) zaC))) zaf)) (vgN 3 nd) (zac (zed (i:=4) nd rfl (Or.inl rfl) (zdh CLfeed hp hr (VA.x (zad (vv 0) (zad (zaP zbL zaY (VE.w zae) (vr 3)) zaf))))) (zac (zcj (i:=5) nd rfl (Or.inl rfl) (VR.x (zaA 0 4 1 CLnext hr (zaz (zbB (VE.x (znw 1 B)) zay))))) (zac (zcj (i:=6) nd rfl (Or.inl rfl) (VR.x (zaA 0 4 1 CLnext hr (zaz (zbB (VE.x zae) zay))))) (zac (zcj (i:=7) nd rfl (Or.inl rfl) (znS 4 (VR.x (zaA 0 4 1 CLthing hr (zaz (zbB (VE.x (zaM (vr 1) (vr 5))) (zbB (VE.x (vv 6)) zay))))))) (zac (vsS 8 nd (zfm (zaq CLhung hr (zad (vv 1) zaf)))) (zac (vsS 9 nd (zfm (zdG (zad (zaM (VE.w (VN.ve (zbX (zad zbd (zad zbd (zad zbd zaf)))))) (vr 6)) (zad (zaM (VE.w (zaM (vr 1) (vr 5))) (VE.w zae)) (zad (vv 7) zaf)))))) (zac (vsS 10 nd (zaK C_done hp hr (zad (vv 2) (zad (vv 9) zaf)))) (zac (zlk 1 (VE.x (vv 7)) (vv 5) (zaP zbL zaY (VE.w zae) (vr 6))) (zac (za5 (znK (VP.t (zeI (zbW (zbp (VE.w (zb6 K_tuple B boot_tuple (vr 10))))) (zeI (zaG (zjy hr) (zaR true) (vr 10) (VE.w (zaq CLhung hr (zad (vv 1) zaf))) (zau _)) (zeI (zaG (zjy hr) (zaR true) (vr 2) (vr 8) (zau _)) (zd7 (zaG (zjy hr) (zaR true) (VE.w (zaK C_done hp hr (zad (vv 2) (zad (vv 9) zaf)))) (vr 10) (zau _)))))))) (zag (zao zeH)) zal) (zac (vsS 2 nd (vv 10)) (zbf [3,4,5,6,7,8,9,10] zal)))))))))))) (zag (zao (zfm (zcx (zbS hr) (zaR false) (vr 2) (VE.w (zaq CLhung hr (zad (vv 1) zaf))) (zau _)))))))),zcX ?_⟩;intro pLscript;unfold zlW;exact(zaj (zlQ (emb:=(λ(s1:Unit)=>[.val pLscript,.un,.un,.un,.un,.un,.un,.un,.un,.un,.un])) (zdg (zhs rfl)) λ_=>rfl) λq4=>(zaj (zaO rfl) λx5=>(zjt (emb:=(λ(s7:List D×D)=>[.val pLscript,.own 2 (.lst s7.1),.val s7.2,.un,.un,.un,.un,.un,.un,.un,.un])) rfl (λ_=>rfl) (λs7 d8=>(zaj (zgO (emb:=(λ(s9:Unit)=>[.val pLscript,.own 2 (.lst s7.1),.val s7.2,.val d8,.un,.un,.un,.un,.un,.un,.un])) (zdg (zhs rfl)) λ_=>rfl) λq12=>(zaj (zcl (emb:=(λ(s13:D)=>[.val pLscript,.own 2 (.lst s7.1),.val s7.2,.val d8,.own 1 s13,.un,.un,.un,.un,.un,.un])) (zbr (zdf (get:=(λ(s:D)=>s)) (put:=(λ(s:D) e=>e)) (zcL rfl (zei (zbC rfl) λq14=>(zcK rfl))) (λ_=>rfl) λ_ _=>rfl)) λ_=>rfl) λq18=>(zaj (zcl (emb:=(λ(s19:D)=>[.val pLscript,.own 2 (.lst s7.1),.val s7.2,.val d8,.own 1 s19,.val q18.1,.un,.un,.un,.un,.un])) (zbr (zas (put:=((λ(s:D) e=>e) q18.2)) (as:=[none,some (.int 3)]) (d:=q18.2) rfl rfl rfl λ_=>rfl)) λ_=>rfl) λq21=>(zaj (zcl (emb:=(λ(s22:D)=>[.val pLscript,.own 2 (.lst s7.1),.val s7.2,.val d8,.own 1 s22,.val q18.1,.val q21.1,.un,.un,.un,.un])) (zlT (zcL rfl (zei (zbC rfl) λq24=>(zei (zbC rfl) λq25=>(zcK rfl)))) rfl λ_=>rfl) λ_=>rfl) λq23=>(zaj (zaO rfl) λx29=>(zaj (zaO rfl) λx31=>(zaj (zaO rfl) λx32=>(zaj (zlU rfl) λx33=>(zaH (zap λ_ _ h=>h) (za6 (zaj (zaO rfl) λx45=>(zhA [3,4,5,6,7,8,9,10] (zbq λ_ h=>h)))))))))))))) λs7=>(zap λ_ _ h=>h))))
end
end Pg
namespace Pg
open PySem PyProof PyProof.Rows L2 VD GM GB
def zcv (x:Itm)(dp:Nat)(inn:List D):dIx (part x dp inn) (.int 0)=some (.str x.nm)/\dIx (part x dp inn) (.int 2)=some (.str x.wd)/\dIx (part x dp inn) (.int 3)=some (.int x.rk)/\dIx (part x dp inn) (.int 5)=some (.tup inn):=
 ⟨za4 (j:=0) rfl,za4 (j:=2) rfl,za4 (j:=3) rfl,za4 (j:=5) rfl⟩
def zj3 (x:Itm)(dp:Nat)(inn:List D):dIx (part x dp inn) (.int 4)=some (hdO x.hd):=za4 (j:=4) rfl
theorem zmx {fr:Str->Bool}:∀{n:Nat}{ds:List D},Ok n ds->∀d∈ot fr (n+1) ds,∃x dp inn,d=part x dp inn
|0,ds,o,d,h=>by rw[show ds = [] from o] at h;cases h
|n+1,ds,o,d,h=>by
   obtain⟨y,hy,hd⟩:=List.mem_flatMap.mp (show d∈List.flatMap _ ds from h);obtain⟨x,dp,inn,rfl,oi⟩:=o y hy;have hd:d∈(if fr x.wd then part x dp inn::ot fr (n+1) inn else[]):=hd
   split at hd
   .rcases wak.mp hd with rfl|hd
    .exact⟨_,_,_,rfl⟩
    .exact zmx oi d hd
   .cases hd
def innD:D->List D
|.tup [_,_,_,_,_,.tup l]=>l
|_=>[]
def plI (rc:List D->List D->List D->List (List D×List D))(pre ch:List D):Nat->List D->List (List D×List D)
|_,[]=>[]
|i,d::ds=>(pre++[.int (i:Int)],ch++[d])::(rc (innD d) (pre++[.int (i:Int)]) (ch++[d])++plI rc pre ch (i+1) ds)
def zhD (rc:List D->List D->List D->List (List D×List D))(pre ch:List D)(b:Nat)(x:Itm)(dp:Nat)(inn es:List D):plI rc pre ch b (part x dp inn::es)=(pre++[.int (b:Int)],ch++[part x dp inn])::(rc inn (pre++[.int (b:Int)]) (ch++[part x dp inn])++plI rc pre ch (b+1) es):=rfl
def pl:Nat->List D->List D->List D->List (List D×List D)
|0,_,_,_=>[]
|n+1,ds,pre,ch=>plI (pl n) pre ch 0 ds
def zgl (c:List D):D:=c.getLast?.getD .non
def zdC (c:List D)(d:D):zgl (c++[d])=d:=by unfold zgl;simp
def ent (q:List D×List D):D:=.tup [.tup q.1,zgl q.2]
def znY {pre:List D}{d:D}(h:pre.length<=100):dAdd (.tup pre) (.tup [d])=some (.tup (pre++[d])):=by
 rw[dAdd,if_neg (by simp)];unfold mkT;rw[if_pos (waq (by simp;omega:_<=101) (by decide))]
def zpW {xs es:List D}(h:xs.length+es.length<=1000):extL xs (.lst es)=some (xs++es):=by
 show(if(xs++es).length<=lim then _ else _)=_
 rw[if_pos (waq (by rw[wan];omega:_<=1000) (by decide))]
def ac2 (a b:D):aC (some a) (aC (some b) aN)=some [a,b]:=rfl
def znZ {S:Type}(f:S->D->Option S)(s:S)(d:D)(ds:List D):zaZ f s (d::ds)=(f s d).bind λs=>zaZ f s ds:=rfl
def zj4:∀{n:Nat}{ds pre ch:List D},Ok n ds->(pl (n+1) ds pre ch).length<=1000->pre.length+n<=100->zaI (n+1) [.tup ds,.tup pre]=some (.lst ((pl (n+1) ds pre ch).map ent)):=by
 intro n;induction n with
|zero=>intro ds pre ch o _ _;rw[show ds = [] from o];rfl
|succ n ih=>
   intro ds pre ch o hl hp;show zbg (zaI (n+1)) (.tup ds) (.tup pre)=_
   unfold zbg;rw[zOB];show Option.bind (Option.bind (some (zdM ds)) _) _=_
   rw[zOB];generalize hf:(λ(s2:List D) (d8:D)=>Option.bind (un2 d8) _)=f;have stp:∀(acc:List D) (i:Nat) (x:Itm) (dp:Nat) (inn:List D),Ok n inn->acc.length+1+(pl (n+1) inn (pre++[.int (i:Int)]) (ch++[part x dp inn])).length<=1000->
    f acc (.tup [.int (i:Int),part x dp inn])=some (acc++ent (pre++[.int (i:Int)],ch++[part x dp inn])::(pl (n+1) inn (pre++[.int (i:Int)]) (ch++[part x dp inn])).map ent):=by
    intro acc i x dp inn oi ha;rw[<-hf];show Option.bind (dAdd (.tup pre) (.tup [.int (i:Int)])) _=_
    rw[znY (by omega),zOB,zgK (wbj (by omega:_<=1000) (by decide)),zOB,(zcv x dp inn).2.2.2,ac2,zOB,ih (ch:=ch++[part x dp inn]) oi (by omega) (by simp;omega),zOB,zpW (by simp;omega),zOB];unfold ent;rw[zdC];simp
   have key:∀(ds:List D) (b:Nat) (acc:List D),(∀d∈ds,∃x dp inn,d=part x dp inn/\Ok n inn)->acc.length+(plI (pl (n+1)) pre ch b ds).length<=1000->zaZ f acc ((ds.zipIdx b).map λp=>.tup [.int (p.2:Nat),p.1])=some (acc++(plI (pl (n+1)) pre ch b ds).map ent):=by
    intro ds;induction ds with
   |nil=>intro b acc _ _;show some acc=some (acc++[]);rw[waQ]
   |cons d ds ih2=>
      intro b acc o ha;obtain⟨x,dp,inn,rfl,oi⟩:=o d wai;rw[zhD] at ha⊢;rw[waK,wan] at ha;rw[List.zipIdx_cons,waL,znZ,stp acc b x dp inn oi (by omega),zOB,ih2 _ _ (λy hy=>o y (wae _ hy)) (by simp;omega)];simp
   have e9:=key ds 0 [] o (by rw[List.length_nil,wbl];exact hl)
   rw[show(zaZ f [] (zdM ds))=_ from e9];rfl
def zj5:∀{n:Nat}{ds pre ch:List D},Ok n ds->(pl (n+1) ds pre ch).map (λq=>zgl q.2)=ot (λ_=>true) (n+1) ds:=by
 intro n;induction n with
|zero=>intro ds pre ch o;rw[show ds = [] from o];rfl
|succ n ih=>
   intro ds pre ch o;have key:∀(es:List D) (b:Nat),(∀d∈es,∃x dp inn,d=part x dp inn/\Ok n inn)->(plI (pl (n+1)) pre ch b es).map (λq=>zgl q.2)=ot (λ_=>true) (n+1+1) es:=by
    intro es;induction es with
   |nil=>intro b _;rfl
   |cons d es ih2=>
      intro b o;obtain⟨x,dp,inn,rfl,oi⟩:=o d wai;rw[zhD,znV,waL,waH,ih oi,ih2 _ λy hy=>o y (wae _ hy),zdC];rfl
   exact key ds 0 o
def inD (P:List Nat):List D:=P.map λ(i:Nat)=>D.int (i:Int)
def tri (q:List D×List D):List D×D:=(q.1,zgl q.2)
def trI (rc:List D->List Nat->List (List D×D))(pre:List Nat):Nat->List D->List (List D×D)
|_,[]=>[]
|b,d::ds=>(inD (pre++[b]),d)::(rc (innD d) (pre++[b])++trI rc pre (b+1) ds)
def tr:Nat->List D->List Nat->Nat->List (List D×D)
|0,_,_,_=>[]
|n+1,ds,pre,b=>trI (λinn pre=>tr n inn pre 0) pre b ds
def zlX (P:List Nat)(b:Nat):inD (P++[b])=inD P++[.int (b:Int)]:=by unfold inD;rw[waH];rfl
def zq1:∀{n:Nat}{ds:List D}{pre:List Nat}{ch:List D},(pl n ds (inD pre) ch).map tri=tr n ds pre 0:=by
 intro n;induction n with
|zero=>intro ds pre ch;rfl
|succ n ih=>
   intro ds pre ch;have key:∀(es:List D) (b:Nat),(plI (pl n) (inD pre) ch b es).map tri=tr (n+1) es pre b:=by
    intro es;induction es with
   |nil=>intro b;rfl
   |cons d es ih2=>
      intro b;show(inD pre++[.int (b:Int)],zgl (ch++[d]))::(pl n (innD d) (inD pre++[.int (b:Int)]) (ch++[d])++plI (pl n) (inD pre) ch (b+1) es).map tri=(inD (pre++[b]),d)::(tr n (innD d) (pre++[b]) 0++tr (n+1) es pre (b+1))
      rw[waH,<-zlX,ih,ih2,zdC]
   exact key ds 0
def bat (P:List Nat)(d:Nat):Nat:=match P[d]? with
|some i=>i+1
|none=>0
def stp (P:List Nat)(c:Nat):List Nat:=P.take c++[bat P c]
def trL:List Nat->List Itm->List (List D×D)
|_,[]=>[]
|P,x::S=>(inD (stp P x.dp),part x 0 (fo S (x.dp+1)))::trL (stp P x.dp) S
def sl (G:Nat->List (List D×D)):Nat->List (List D×D)
|0=>[]
|d+1=>G d++sl G d
theorem zj6 {G:Nat->List (List D×D)}{m:Nat}(h:∀d,m<=d->G d = []):∀k,sl G (m+k)=sl G m
|0=>rfl
|k+1=>by
   show G (m+k)++sl G (m+k)=_
   rw[h _ (by omega),zj6 h k];simp
theorem zhE {G K:Nat->List (List D×D)}:∀{m:Nat},(∀d,d<m->G d=K d)->sl G m=sl K m
|0,_=>rfl
|m+1,h=>by
   show G m++sl G m=K m++sl K m
   rw[h m (by omega),zhE λd hd=>h d (by omega)]
def zpX {P:List Nat}{c d:Nat}(h:d<c)(hc:c<=P.length):bat (stp P c) d=bat P d:=by
 unfold bat stp;rw[waJ (by rw[waz];omega),waU,if_pos h]
def zpY {P:List Nat}{c:Nat}(hc:c<=P.length):bat (stp P c) c=bat P c+1:=by
 have:(stp P c)[c]?=some (bat P c):=by
  unfold stp;rw[waI (by rw[waz];omega),waz,wbc hc,wbX];rfl
 show(match (stp P c)[c]? with|some i=>i+1|none=>0)=_
 rw[this]
def zcH {P:List Nat}{c:Nat}(hc:c<=P.length):(stp P c).length=c+1:=by unfold stp;rw[wan,waz,wbc hc];rfl
def zpZ {P:List Nat}{c:Nat}(hc:P.length<=c):bat P c=0:=by unfold bat;rw[waG hc]
def zds {P:List Nat}{c d:Nat}(h:d<=c)(hc:c<=P.length):(stp P c).take d=P.take d:=by
 unfold stp;rw[List.take_append_of_le_length (by rw[waz];omega),wcm,wbc h]
theorem zj7:∀{m:Nat}{S:List Itm},Vd m S->∀(P:List Nat),P.length=m->trL P S=sl (λd=>tr (8 - d) (fo S d) (P.take d) (bat P d)) (m+1)
|m,_,.nil,P,hP=>by
   have:∀k,sl (λd=>tr (8 - d) (fo [] d) (P.take d) (bat P d)) k = []:=λk=>by
    induction k with
   |zero=>rfl
   |succ k ih=>
      show tr (8 - k) [] _ _++sl _ k = []
      rw[ih];have:tr (8 - k) [] (P.take k) (bat P k) = []:=by cases 8 - k <;> rfl
      rw[this];rfl
   rw[this];rfl
|m,_,.cons (x:=x) (S:=S) hm h4 t,P,hP=>by
   obtain⟨c,hc⟩:∃c,x.dp=c:=⟨_,rfl⟩
   have ih:=zj7 t (stp P c) (by rw[zcH (by omega),hc])
   have f1:fo (x::S) c=part x 0 (fo S (c+1))::fo S c:=by
    show(if c=x.dp then _ else _)=_
    rw[if_pos hc.symm]
   have f2:∀d,d<c->fo (x::S) d=fo S d:=λd hd=>by
    show(if d=x.dp then _ else if d=x.dp+1 then[] else fo S d)=_
    rw[if_neg (by omega),if_neg (by omega)]
   have f3:∀d,c+1<=d->fo (x::S) d = []:=λd hd=>by
    show(if d=x.dp then _ else if d=x.dp+1 then[] else fo S d)=_
    rw[if_neg (by omega)];by_cases e:d=x.dp+1
    .rw[if_pos e]
    .rw[if_neg e];exact zjY t d (by omega)
   have o0:∀n pre b,tr n [] pre b = []:=λn pre b=>by cases n <;> rfl
   have e1:sl (λd=>tr (8 - d) (fo (x::S) d) (P.take d) (bat P d)) (m+1)=sl (λd=>tr (8 - d) (fo (x::S) d) (P.take d) (bat P d)) (c+1):=by
    have:=zj6 (G:=λd=>tr (8 - d) (fo (x::S) d) (P.take d) (bat P d)) (m:=c+1) (λd hd=>by show tr (8 - d) _ _ _ = [];rw[f3 d hd,o0]) (m - c)
    rw[show c+1+(m - c)=m+1 by omega] at this;exact this
   have lower:sl (λd=>tr (8 - d) (fo S d) ((stp P c).take d) (bat (stp P c) d)) c=sl (λd=>tr (8 - d) (fo (x::S) d) (P.take d) (bat P d)) c:=zhE λd hd=>by rw[f2 d hd,zds (by omega) (by omega),zpX hd (by omega)]
   rw[e1];show(inD (stp P x.dp),part x 0 (fo S (x.dp+1)))::trL (stp P x.dp) S=tr (8 - c) (fo (x::S) c) (P.take c) (bat P c)++sl _ c
   rw[hc,f1,<-lower,show 8 - c=(8 - (c+1))+1 by omega];show _=(inD (P.take c++[bat P c]),part x 0 (fo S (c+1)))::(tr (8 - (c+1)) (fo S (c+1)) (P.take c++[bat P c]) 0++tr (8 - (c+1)+1) (fo S c) (P.take c) (bat P c+1))++_
   rw[List.cons_append];refine wba _ ?_;rw[hc] at ih;refine ih.trans ?_;show tr (8 - (c+1)) (fo S (c+1)) ((stp P c).take (c+1)) (bat (stp P c) (c+1))++(tr (8 - c) (fo S c) ((stp P c).take c) (bat (stp P c) c)++sl (λd=>tr (8 - d) (fo S d) ((stp P c).take d) (bat (stp P c) d)) c)=_
   rw[zpZ (c:=c+1) (waY (zcH (by omega))),wbQ (waY (zcH (by omega))),zds (wal _) (by omega),zpY (by omega),waR,show 8 - c=8 - (c+1)+1 by omega];rfl
def zfu {L:List Itm}(t:Vd 0 L):(pl 8 (fo L 0) [] []).map tri=trL [] L:=by
 have:=zj7 t [] rfl
 rw[show sl (λd=>tr (8 - d) (fo L d) (([]:List Nat).take d) (bat [] d)) (0+1)=tr 8 (fo L 0) [] 0++[] from rfl,waQ] at this;rw[this];exact zq1 (n:=8) (pre:=[])
theorem zfv:∀{P:List Nat}{L:List Itm},(trL P L).length=L.length
|_,[]=>rfl
|P,x::S=>by show(trL _ S).length+1=_;rw[zfv];rfl
theorem zmy:∀{P:List Nat}{L:List Itm},(trL P L).map (λq=>(nr q.2).2)=L.map Itm.nm
|_,[]=>rfl
|P,x::S=>by show x.nm::(trL _ S).map _=_;rw[zmy];rfl
def zmz {L:List Itm}(t:Vd 0 L):(ot (λ_=>true) 8 (fo L 0))=(trL [] L).map (·.2):=by
 have o:Ok 7 (fo L 0):=(zfn t 0).up
 rw[<-zj5 (pre:=[]) (ch:=[]) o,<-zfu t,waS];rfl
def zmA {L:List Itm}(t:Vd 0 L):(ot (λ_=>true) 8 (fo L 0)).length=L.length:=by
 rw[zmz t,wad,zfv]
def zgm {ds:List D}(o:Ok 7 ds)(hl:(ot (λ_=>true) 8 ds).length<=1000):zaF [.tup ds]=some (.lst ((pl 8 ds [] []).map ent)):=by
 have l1:(pl 8 ds [] []).length<=1000:=by
  have:=wba List.length (zj5 (pre:=[]) (ch:=[]) o)
  rw[wad] at this;show(pl (7+1) ds [] []).length<=1000
  rw[this];exact hl
 show zbk (.tup ds)=_
 unfold zbk;rw[zj4 (n:=7) (ch:=[]) o l1 (by decide)];rfl
def zfw {L:List Itm}(t:Vd 0 L)(hl:L.length<=1000):za9 [.tup (fo L 0)]=some (.lst ((trL [] L).map (·.2))):=by
 have o:Ok 7 (fo L 0):=(zfn t 0).up
 have hll:(pl 8 (fo L 0) [] []).length<=1000:=by
  have:=wba List.length (zfu t)
  rw[wad,zfv] at this;omega
 show zcR _=_
 unfold zcR;rw[zgm o (by rw[zmA t];omega),zOB];show Option.bind (Option.bind (zck _ ((pl 8 (fo L 0) [] []).map ent)) _) _=_
 rw[zel ent (λq=>zgl q.2) (by omega) λq hq=>rfl,<-zfu t,waS];rfl
def zih {L:List Itm}(t:Vd 0 L)(hl:L.length<=1000):zaF [.tup (fo L 0)]=some (.lst ((trL [] L).map λq=>.tup [.tup q.1,q.2])):=by
 have o:Ok 7 (fo L 0):=(zfn t 0).up
 rw[zgm o (by rw[zmA t];omega),<-zfu t,waS];rfl
def zlY {L:List Itm}(t:Vd 0 L)(hl:L.length<=1000):zbH [.tup (fo L 0)]=some (.lst ((L.map Itm.nm).map D.str)):=by
 show zcS _=_
 unfold zcS;rw[zfw t hl,zOB];show Option.bind (Option.bind (zck _ ((trL [] L).map (·.2))) _) _=_
 rw[zel (·.2) (λq:List D×D=>D.str (nr q.2).2) (by rw[zfv];omega) λq hq=>?_]
 .rw[zOB,zOB,<-zmy (P:=[]),waS];rfl
 .have:q.2∈ot (λ_=>true) (7+1) (fo L 0):=by
   rw[show ot (λ_=>true) (7+1) (fo L 0)=_ from zmz t];exact way.mpr ⟨q,hq,rfl⟩
  obtain⟨x,dp,inn,ex⟩:=zmx (zfn t 0).up _ this;rw[ex,(zcv x dp inn).1];rfl
def nmOk (y:Str):Prop:=1<=y.length/\y.length<=8/\∀c∈y.cps.toList,97<=c/\c<123
def zp0 {c:Nat}(h0:97<=c)(h1:c<123):inTx ⟨#[c]⟩ "abcdefghijklmnopqrstuvwxyz"=true:=by
 have h:∀i<26,inTx ⟨#[97+i]⟩ "abcdefghijklmnopqrstuvwxyz"=true:=by decide +kernel
 have:=h (c - 97) (by omega)
 rwa [show 97+(c - 97)=c by omega] at this
theorem zeC {α:Type}{f:D->Option Bool}(h:α->D)(g:α->Bool):∀{ds:List α},(∀d∈ds,f (h d)=some (g d))->zfk f (ds.map h)=some (ds.map g)
|[],_=>rfl
|d::ds,k=>by
   show(f (h d)).bind _=_
   rw[k d wai,zOB,zeC h g λy hy=>k y (wae _ hy)];rfl
def zlZ {α:Type}{g:α->Bool}{ds:List α}(h:∀d∈ds,g d=true):(ds.map g).all id=true:=by
 rw[waN];intro b hb;obtain⟨d,hd,rfl⟩:=way.mp hb;exact h d hd
def zj8 {y:Str}(h:nmOk y):zbv [.str y]=some (.bl true):=by
 obtain⟨h1,h2,h3⟩:=h;have l:bLen [.str y]=some (.int y.length):=if_pos (waq h2 (by decide))
 show zdl _=_
 unfold zdl;rw[show isD "str" (.str y)=some (.bl true) from rfl,l];show Option.bind (Option.bind (Option.bind (Option.bind (some (D.bl (decide ((1:Int)<=(y.length:Int))))) λzk3=>Option.bind (dB zk3) λk3=>if k3 then(dLe (.int y.length) (.int 8)) else some (.bl false)) dB) λk2=>some (!k2)) _=_
 rw[waE (show(1:Int)<=(y.length:Int) by omega)];show Option.bind (Option.bind (Option.bind (some (D.bl (decide ((y.length:Int)<=8)))) dB) λk2=>some (!k2)) _=_
 rw[waE (show(y.length:Int)<=8 by omega)];show Option.bind (Option.bind (some (y.cps.toList.map λc=>D.str ⟨#[c]⟩)) _) _=_
 rw[zOB,zeC (λc=>D.str ⟨#[c]⟩) (λ_=>true) λc hc=>by
  show some (inTx ⟨#[c]⟩ "abcdefghijklmnopqrstuvwxyz")=_
  rw[zp0 (h3 c hc).1 (h3 c hc).2],zOB,zlZ λ_ _=>rfl]
 rfl
def zmB {x:Itm}(h1:1<=x.bc)(h2:1<=x.bd):zbD [x.bx]=some (.bl true):=by
 show zdW (.tup [.int x.ba,.int x.bb,.int x.bc,.int x.bd])=_
 unfold zdW;have g:∀a b:Int,dGe (.int a) (.int b)=some (.bl (decide (b<=a))):=λ_ _=>rfl
 have i2:dIx (.tup [.int x.ba,.int x.bb,.int x.bc,.int x.bd]) (.int 2)=some (.int x.bc):=za4 (j:=2) rfl
 have i3:dIx (.tup [.int x.ba,.int x.bb,.int x.bc,.int x.bd]) (.int 3)=some (.int x.bd):=za4 (j:=3) rfl
 rw[i2,i3];show Option.bind (Option.bind (Option.bind (some (D.bl (decide (1<=x.bc)))) dB) λk11=>if k11 then(some (D.bl (decide (1<=x.bd)))) else some (.bl false)) _=_
 rw[waE h1,waE h2];rfl
def Wd (w:Str):Prop:=w = "free"\/w = "shut"\/w = "hidden"
def zj9 {w:Str}(h:Wd w):zbw [.str w]=some (.bl true):=by
 rcases h with rfl|rfl|rfl <;> rfl
def zka {r:Int}(h:0<=r):zbx [.int r]=some (.bl true):=by
 show Option.bind (some (D.bl (decide (0<=r)))) _=_
 rw[waE h];rfl
def zn0 {h:Option Str}(k:∀y,h=some y->nmOk y):zbR [hdO h]=some (.bl true):=by
 cases h with
|none=>rfl
|some y=>
   show Option.bind (zbv [.str y]) _=_
   rw[zj8 (k y rfl)];rfl
structure Gd (x:Itm):Prop where
 nm:nmOk x.nm
 c:1<=x.bc
 d:1<=x.bd
 wd:Wd x.wd
 rk:0<=x.rk
 hd:∀y,x.hd=some y->nmOk y
def zkb {self:List D->Option D}{x:Itm}(g:Gd x){dp:Nat}{inn:List D}{deep:Int}{b:Bool}(h:self [.tup inn,.int (deep+1)]=some (.bl b)):(zby self) [part x dp inn,.int deep]=some (.bl b):=by
 show zdm self (.tup [.str x.nm,x.bx,.str x.wd,.int x.rk,hdO x.hd,.tup inn]) (.int deep)=_
 unfold zdm;show Option.bind (Option.bind (Option.bind (Option.bind (zbv [.str x.nm]) dTru) λk12=>some (!k12)) λk11=>if k11 then some true else(Option.bind (Option.bind (Option.bind (zbD [x.bx]) dTru) λk10=>some (!k10)) λk9=>if k9 then some true else(Option.bind (Option.bind (zbw [.str x.wd]) dTru) λk8=>some (!k8)))) _=_
 rw[zj8 g.nm,zmB g.c g.d,zj9 g.wd];show Option.bind (Option.bind (Option.bind (zbx [.int x.rk]) dB) λk15=>if k15 then(Option.bind (Option.bind (zbR [hdO x.hd]) dB) λk14=>if k14 then(Option.bind (aC (some (.tup inn)) (aC (some (.int (deep+1))) aN)) self) else some (.bl false)) else some (.bl false)) _=_
 rw[zka g.rk,zn0 g.hd];show Option.bind (self [.tup inn,.int (deep+1)]) _=_
 rw[h];rfl
def zp1 {n:Nat}{ds:List D}{deep:Int}(bf:D->Bool)(hd:deep<=5)(hp:∀d∈ds,zby (zaw n) [d,.int deep]=some (.bl (bf d))):zaw (n+1) [.tup ds,.int deep]=some (.bl (ds.all bf)):=by
 show zcp (zaw n) (.tup ds) (.int deep)=_
 unfold zcp;rw[show isD "tuple" (.tup ds)=some (.bl true) from rfl,show dGt (.int deep) (.int 5)=some (.bl (decide (5<deep))) from rfl,wav (by omega)];have e:(Option.bind (dTru (.tup ds)) λk5=>if k5 then(Option.bind (some (D.bl false)) dB) else some false)=some false:=by
  show(if(!ds.isEmpty)=true then some false else some false)=_
  split <;> rfl
 show Option.bind (Option.bind (dTru (.tup ds)) λk5=>if k5 then(Option.bind (some (D.bl false)) dB) else some false) _=_
 rw[e];show Option.bind (Option.bind (zfk (λd7=>Option.bind ((zby (zaw n)) [d7,.int deep]) dB) ds) _) _=_
 have hb:zfk (λd7=>Option.bind ((zby (zaw n)) [d7,.int deep]) dB) ds=some (ds.map bf):=by
  have:=zeC (f:=λd7=>Option.bind ((zby (zaw n)) [d7,.int deep]) dB) (λd=>d) bf (ds:=ds) λd hd=>by rw[hp d hd];rfl
  rwa [List.map_id'] at this
 rw[hb,zOB,zOB,List.all_map];rfl
def zn1 (n:Nat)(deep:Int):zaw (n+1) [.tup [],.int deep]=some (.bl true):=rfl
def GOk:Nat->List D->Prop
|0,ds=>ds = []
|n+1,ds=>∀d∈ds,∃x dp inn,d=part x dp inn/\Gd x/\GOk n inn
def GOk.nil:∀{n:Nat},GOk n []
|0=>rfl
|_+1=>λd h=>by cases h
theorem gfo:∀{m:Nat}{S:List Itm},Vd m S->(∀x∈S,Gd x)->∀d,d<=5->GOk (5 - d) (fo S d)
|_,_,.nil,_,_,_=>GOk.nil
|m,_,.cons (x:=x) (S:=S) hm h4 t,g,d,h5=>by
   have gS:∀y∈S,Gd y:=λy hy=>g y (wae _ hy)
   show GOk (5 - d) (if d=x.dp then part x 0 (fo S (d+1))::fo S d else if d=x.dp+1 then[] else fo S d)
   by_cases e:d=x.dp
   .rw[if_pos e];have h1:=gfo t gS (d+1) (by omega)
    have h2:=gfo t gS d h5
    rw[show 5 - d=(5 - (d+1))+1 by omega] at h2⊢;intro y hy;rcases wak.mp hy with rfl|hy
    .exact⟨_,_,_,rfl,g x wai,h1⟩
    .exact h2 y hy
   .rw[if_neg e];by_cases e2:d=x.dp+1
    .rw[if_pos e2];exact GOk.nil
    .rw[if_neg e2];exact gfo t gS d h5
theorem zmC:∀{n:Nat}{ds:List D}{deep:Int}{m:Nat},GOk n ds->deep+n<=6->n+1<=m->zaw m [.tup ds,.int deep]=some (.bl true)
|0,ds,deep,m+1,o,_,_=>by rw[show ds = [] from o];exact zn1 m deep
|n+1,ds,deep,m+1,o,hd,hm=>by
   rw[zp1 (n:=m) (λ_=>true) (by omega) λd h=>by
    obtain⟨x,dp,inn,rfl,g,oi⟩:=o d h;exact zkb g (zmC oi (by omega) (by omega))]
   simp
def zp2 {xs:List Str}{i:Nat}(h:i<=xs.length):dSl (.lst (xs.map D.str)) none (some (i:Int))=some (.lst ((xs.take i).map D.str)):=by
 show some (D.lst (VD.cut (xs.map D.str) none (some (i:Int))))=_
 rw[zht (by omega) (by rw[wad];omega),<-List.map_take,wbI]
def zii (N:List Str):zhx [.lst (N.map D.str)]=some (N.zipIdx.map λp=>.tup [.int (p.2:Nat),.str p.1]):=by
 have e:zhx [.lst (N.map D.str)]=some (zdM (N.map D.str)):=rfl
 rw[e,zjE]
theorem zkc {f:Unit->D->Option Unit}:∀{l:List D},(∀d∈l,f () d=some ())->zaZ f () l=some ()
|[],_=>rfl
|d::l,h=>by
   show(f () d).bind _=_
   rw[h d wai,zOB];exact zkc λy hy=>h y (wae _ hy)
def zij {α:Type}{N:List α}(nd:N.Nodup){i:Nat}{x:α}(h:N[i]?=some x):x∉N.take i:=λq=>by
 obtain⟨j,hj⟩:=waM q;rw[waU] at hj;split at hj
 .rename_i hji
  have:=(wbx (by have:=(waa.mp h).1;omega) nd).mp (hj.trans h.symm)
  omega
 .cases hj
def zn2 {N:List Str}(nd:N.Nodup):za7 [.lst (N.map D.str)]=some .non:=by
 show zbl (.lst (N.map D.str))=_
 unfold zbl;rw[zii,zOB,zkc λd hd=>?_]
 .rfl
 .obtain⟨p,hp,rfl⟩:=way.mp hd;obtain⟨x,i⟩:=p;have hx:N[i]?=some x:=List.mem_zipIdx_iff_getElem?.mp hp
  have hi:i<N.length:=(waa.mp hx).1
  show Option.bind (Option.bind (Option.bind (dSl (.lst (N.map D.str)) none (some (i:Int))) _) dB) _=_
  rw[zp2 (by omega),zOB,zfi,wav (zij nd hx)];rfl
theorem zeY {S:Type}{f:S->D->Option S}{d:D}:∀{ds:List D}{s:S},zaZ f s (ds++[d])=(zaZ f s ds).bind λs=>f s d
|[],s=>by show(f s d).bind (λs=>some s)=f s d;cases f s d <;> rfl
|e::ds,s=>by
   show(f s e).bind (λs=>zaZ f s (ds++[d]))=((f s e).bind λs=>zaZ f s ds).bind _
   cases f s e with
  |none=>rfl
  |some s'=>exact zeY
theorem zeD:∀{S:List Itm}{d:Nat},(fo S d).length<=S.length
|[],_=>wal _
|x::S,d=>by
   show(if d=x.dp then part x 0 (fo S (d+1))::fo S d else if d=x.dp+1 then[] else fo S d).length<=S.length+1
   have:=zeD (S:=S) (d:=d)
   split
   .simp;omega
   .split
    .simp
    .omega
def prD (q:Str×Str):D:=.tup [.str q.1,.str q.2]
def Fwd (N:List Str)(q:Str×Str):Prop:=∃i j:Nat,i<j/\N[i]?=some q.1/\N[j]?=some q.2
def zik (left:List Str)(M:List (Str×Str)):List Str:=(M.filter λq=>decide (q.1∈left)).map (·.2)
def zgZ (left:List Str)(M:List (Str×Str)):List Str:=left.filter λx=>decide (x∈zik left M)
def zb0 {α:Type}{f:D->Option (Option D)}(h:α->D)(p:α->Bool)(g:α->D){ds:List α}(hl:ds.length<=lim)(hf:∀d∈ds,f (h d)=some (if p d then some (g d) else none)):zck f (ds.map h)=some ((ds.filter p).map g):=by
 have key:∀(ds:List α),(∀d∈ds,f (h d)=some (if p d then some (g d) else none))->zcW f (ds.map h)=some ((ds.filter p).map g):=by
  intro ds;induction ds with
 |nil=>intro _;rfl
 |cons d ds ih=>
    intro k;show(f (h d)).bind _=_
    rw[k d wai,zOB];show(zcW f (ds.map h)).bind _=_
    rw[ih λy hy=>k y (wae _ hy)];by_cases q:p d=true
    .rw[List.filter_cons_of_pos q,if_pos q];rfl
    .rw[List.filter_cons_of_neg q,if_neg q];rfl
 unfold zck;rw[key ds hf,zOB,if_pos (waq (by rw[wad];exact wbG _ _) hl)]
def zkd {N left:List Str}{M:List (Str×Str)}(nd:N.Nodup)(sb:left.Sublist N)(hm:∀q∈M,Fwd N q)(h0:left≠[]):(zgZ left M).length<left.length:=by
 cases left with
|nil=>exact absurd rfl h0
|cons x r=>
   have hx:x∉zik (x::r) M:=by
    intro hx;obtain⟨q,hq,e⟩:=way.mp hx;obtain⟨hq,h1⟩:=wce.mp hq;have h1:q.1∈x::r:=of_decide_eq_true h1
    obtain⟨i,j,hij,e1,e2⟩:=hm q hq;rw[e] at e2;obtain⟨A,B,rfl,hA,hB⟩:=List.cons_sublist_iff.mp sb;obtain⟨j',hj'⟩:=waM hA;have lj:j'<A.length:=(waa.mp hj').1
    have ej:(A++B)[j']?=some x:=by rw[waJ lj];exact hj'
    have hj:j=j':=((wbx (by rw[wan];omega) nd).mp (ej.trans e2.symm)).symm
    rcases wak.mp h1 with z|z
    .rw[z] at e1;have:=(wbx (by rw[wan];omega) nd).mp (ej.trans e1.symm)
     omega
    .obtain⟨i',hi'⟩:=waM (hB.subset z);have ei:(A++B)[A.length+i']?=some q.1:=by rw[waI (by omega)];simpa using hi'
     have:=(wbx (waa.mp e1).1 nd).mp (e1.trans ei.symm)
     omega
   unfold zgZ;rw[List.filter_cons_of_neg (by simpa using hx)];exact Nat.lt_succ_of_le (wbG _ _)
def zp3 {a b:Nat}:dEqG false (.int (a:Int)) (.int (b:Int))=some (.bl (decide (a=b))):=by
 have e1:eqC (.int (a:Int)) (.int (b:Int))=true:=rfl
 unfold dEqG;rw[if_pos e1];show some (D.bl (decide (D.int (a:Int)=D.int (b:Int))))=_
 congr 2;simp;omega
def zn3 {N:List Str}{M:List (Str×Str)}(nd:N.Nodup)(hm:∀q∈M,Fwd N q)(hN:N.length<=48)(hM:M.length<=2000):zb4 [.lst (N.map D.str),.lst (M.map prD)]=some (.lst []):=by
 show zb3 (.lst (N.map D.str)) (.lst (M.map prD))=_
 unfold zb3;rw[zOB];generalize hf:(λ(s2:D)=>(Option.bind (Option.bind (Option.bind (dSeq (.lst (M.map prD))) _) λds=>some (.lst ds)) λ(x3:D)=>_))=f;have stp:∀left:List Str,left.length<=48->f (.lst (left.map D.str))=some (if(zgZ left M).length=left.length then Fl.ret (.lst ((zgZ left M).map D.str)) else Fl.nx (.lst ((zgZ left M).map D.str))):=by
  intro left hl;rw[<-hf];show Option.bind (Option.bind (zck _ (M.map prD)) _) _=_
  rw[zb0 prD (λq=>decide (q.1∈left)) (λq=>D.str q.2) (waq hM (by decide)) λq hq=>?_]
  .rw[zOB,zOB];have e:(M.filter λq=>decide (q.1∈left)).map (λq=>D.str q.2)=(zik left M).map D.str:=by unfold zik;rw[waS];rfl
   rw[e];show Option.bind (Option.bind (zck _ (left.map D.str)) _) _=_
   rw[zb0 D.str (λx=>decide (x∈zik left M)) D.str (waq hl (by decide)) λx hx=>?_]
   .rw[zOB,zOB];show Option.bind (Option.bind (dEqG false (.int ((((zgZ left M).map D.str).length:Nat):Int)) (.int (((left.map D.str).length:Nat):Int))) dB) _=_
    rw[wad,wad,zp3];by_cases z:(zgZ left M).length=left.length
    .rw[if_pos z,waE z];rfl
    .rw[if_neg z,wav z];rfl
   .rw[zfi,zOB];show(if decide (x∈zik left M) then some (some (D.str x)) else some none)=_
    split <;> simp_all
  .refine Eq.trans (b:=Option.bind (Option.bind (dInG false (.str q.1) (.lst (left.map D.str))) dB) λok=>if ok then some (some (D.str q.2)) else some none) rfl ?_;rw[zfi,zOB];show(if decide (q.1∈left) then some (some (D.str q.2)) else some none)=_
   split <;> simp_all
 have key:∀(n:Nat) (left:List Str),left.length<n->left.length<=48->left.Sublist N->zeQ (λ(s2:D)=>dTru (.bl true)) f n (.lst (left.map D.str))=some (.ret (.lst [])):=by
  intro n;induction n with
 |zero=>intro left h;omega
 |succ n ih=>
    intro left h hl sb;show(Option.bind (f (.lst (left.map D.str))) _)=_
    rw[stp left hl,zOB];by_cases h0:left = []
    .subst h0;rfl
    .have:=zkd nd sb hm h0
     rw[if_neg (by omega)];exact ih _ (by omega) (by omega) (List.Sublist.trans List.filter_sublist sb)
 rw[key 50 N (by omega) hN (List.Sublist.refl _)];rfl
def zn4 {N:List Str}{M:List (Str×Str)}(nd:N.Nodup)(hm:∀q∈M,Fwd N q)(hN:N.length<=48)(hM:M.length<=2000):zcF [.lst (N.map D.str),.lst (M.map prD)]=some (.lst []):=by
 show zdn _ _=_
 unfold zdn;rw[zn3 nd hm hN hM,zOB];rfl
def trR:List Nat->List Itm->List (List Nat×Itm×List D)
|_,[]=>[]
|P,x::S=>(stp P x.dp,x,fo S (x.dp+1))::trR (stp P x.dp) S
def ptR (q:List Nat×Itm×List D):D:=part q.2.1 0 q.2.2
theorem zn5:∀{P:List Nat}{L:List Itm},trL P L=(trR P L).map λq=>(inD q.1,ptR q)
|_,[]=>rfl
|P,x::S=>by show _::trL _ S=_::_;rw[zn5];rfl
theorem zgn:∀{P:List Nat}{L:List Itm},(trR P L).map (λq=>q.2.1)=L
|_,[]=>rfl
|P,x::S=>by show x::(trR _ S).map _=_;rw[zgn]
def zfx {P:List Nat}{L:List Itm}:(trR P L).length=L.length:=by
 have:=wba List.length (zgn (P:=P) (L:=L))
 rwa [wad] at this
theorem zke:∀{S:List Itm}{e:Nat}{d:D},d∈fo S e->∃y∈S,∃inn,d=part y 0 inn
|[],_,_,h=>by cases h
|x::S,e,d,h=>by
   have h:d∈(if e=x.dp then part x 0 (fo S (e+1))::fo S e else if e=x.dp+1 then[] else fo S e):=h
   have up:d∈fo S e->∃y∈x::S,∃inn,d=part y 0 inn:=λh=>by
    obtain⟨y,hy,i,e⟩:=zke h;exact⟨y,wae _ hy,i,e⟩
   split at h
   .rcases wak.mp h with rfl|h
    .exact⟨x,wai,_,rfl⟩
    .exact up h
   .split at h
    .cases h
    .exact up h
theorem zgo {α:Type}{f:D->Option (Key×D)}{h:α->D}{k:α->Key}{v:α->D}:∀{E:List α}{pre:List α},(∀q∈E,f (h q)=some (k q,v q))->((pre++E).map k).Nodup->(pre++E).length<=10000->zen f (E.map h) (pre.map k,pre.map v)=some ((pre++E).map k,(pre++E).map v)
|[],pre,_,_,_=>by rw[waQ];rfl
|q::E,pre,hf,nd,hl=>by
   show((f (h q)).bind λp=>if(pre.map k).length<lim then zen f (E.map h) (putKD (pre.map k) (pre.map v) p.1 p.2) else none)=_
   rw[hf q wai,zOB,if_pos (wbj (by rw[wad];rw[wan] at hl;omega:_<=10000) (by decide))];have hn:(pre.map k).any (λx=>decide (x=k q))=false:=by
    rw[List.any_eq_false];intro x hx hz;have hz:=of_decide_eq_true hz
    subst hz;rw[waH,waW] at nd;exact nd.2.2 _ hx _ (by rw[waL];exact wai) rfl
   have hp:putKD (pre.map k) (pre.map v) (k q) (v q)=((pre++[q]).map k,(pre++[q]).map v):=by
    unfold putKD;rw[hn,if_neg (by decide),waH,waH];rfl
   show zen f (E.map h) (putKD (pre.map k) (pre.map v) (k q) (v q))=_
   rw[hp,zgo (E:=E) (pre:=pre++[q]) (λy hy=>hf y (wae _ hy)) (by rw[waR];exact nd) (by rw[waR];exact hl),waR];rfl
theorem zkf {α:Type}{k:α->Key}{v:α->D}:∀{E:List α}{q:α},q∈E->(E.map k).Nodup->dLook (E.map k) (E.map v) (k q)=some (v q)
|p::E,q,hq,nd=>by
   rw[waL,waF] at nd;show(if k p=k q then some (v p) else dLook (E.map k) (E.map v) (k q))=_
   rcases wak.mp hq with rfl|hq
   .rw[if_pos rfl]
   .rw[if_neg λz=>nd.1 (by rw[z];exact way.mpr ⟨q,hq,rfl⟩),zkf hq nd.2]
def kyR (q:List Nat×Itm×List D):Key:=.inr q.2.1.nm
def plR (q:List Nat×Itm×List D):D:=.tup (inD q.1)
def enR (q:List Nat×Itm×List D):D:=.tup [plR q,ptR q]
def plsD (L:List Itm):D:=.dct ((trR [] L).map kyR) ((trR [] L).map plR)
def zhF {L:List Itm}(nd:(L.map Itm.nm).Nodup):((trR [] L).map kyR).Nodup:=by
 have:(trR [] L).map kyR=(L.map Itm.nm).map Sum.inr:=by
  rw[waS];conv=>rhs;rw[<-zgn (P:=[]) (L:=L),waS]
  rfl
 rw[this];exact List.pairwise_map.mpr (nd.imp λh z=>h (Sum.inr.inj z))
def zkg {L:List Itm}(nd:(L.map Itm.nm).Nodup)(hl:L.length<=1000):(zen (zf2 [.un,.un] (gT 2 (gCons' (gN 0) (gCons' (gN 1) gNil'))) (e2 dIx (eRd 1) (eK (.int 0))) (eVar 0)) ((trR [] L).map enR) ([],[]))=some ((trR [] L).map kyR,(trR [] L).map plR):=by
 refine zgo (h:=enR) (k:=kyR) (v:=plR) (pre:=[]) (λq hq=>?_) (zhF nd) (by rw[List.nil_append,zfx];omega);have:zf2 [.un,.un] (gT 2 (gCons' (gN 0) (gCons' (gN 1) gNil'))) (e2 dIx (eRd 1) (eK (.int 0))) (eVar 0) (enR q)=Option.bind (dIx (ptR q) (.int 0)) λk=>(keyD k).bind λk=>some (k,plR q):=rfl
 rw[this,show dIx (ptR q) (.int 0)=_ from(zcv q.2.1 0 q.2.2).1];rfl
def zq2 {L:List Itm}(t:Vd 0 L)(hl:L.length<=1000):zaF [.tup (fo L 0)]=some (.lst ((trR [] L).map enR)):=by
 rw[zih t hl,zn5,waS];rfl
def zg0 (Q:List Nat):ndL (inD Q)=true/\depL (inD Q)<=0:=by
 unfold inD;refine⟨zjG λd hd=>?_,zgL λd hd=>?_⟩
 .obtain⟨i,_,rfl⟩:=way.mp hd;rfl
 .obtain⟨i,_,rfl⟩:=way.mp hd;exact wal _
def Lt (Q P:List Nat):Prop:=∃d a b,Q.take d=P.take d/\Q[d]?=some a/\P[d]?=some b/\a<b
def Px (Q P:List Nat):Prop:=∃n,n<P.length/\Q=P.take (n+1)
def Rl (a:List Nat×Str)(b:List Nat×Str×List Str):Prop:=(a.2∈b.2.2->Px a.1 b.1)/\(a.2∉b.2.2->Lt a.1 b.1)
def tz:List Nat->List Str->List (Nat×Str)->List (List Nat×Str×List Str)
|_,_,[]=>[]
|P,l,q::S=>(stp P q.1,q.2,l.take q.1)::tz (stp P q.1) (l.take q.1++[q.2]) S
structure Hs (P:List Nat)(l:List Str)(E:List (List Nat×Str)):Prop where
 len:P.length=l.length
 nd:l.Nodup
 sub:∀y∈l,y∈E.map (·.2)
 hi:∀q∈E,(∃d,d<P.length/\q.1=P.take (d+1)/\l[d]?=some q.2)\/(Lt q.1 P/\q.2∉l)
section
variable {P Q:List Nat}{l:List Str}{E:List (List Nat×Str)}{c:Nat}{y:Str}
def zp4 {d:Nat}(h:d<c)(hc:c<=P.length):(stp P c)[d]?=P[d]?:=by
 unfold stp;rw[waJ (by rw[waz];omega),waU,if_pos h]
def zp5 (hc:c<=P.length):(stp P c)[c]?=some (bat P c):=by
 unfold stp;rw[waI (by rw[waz];omega),waz,wbc hc,wbX];rfl
def zn6 {z a:Nat}(hc:c<=P.length)(hz:P[c]?=some z)(ha:Q[c]?=some a)(hle:a<=z)(ht:Q.take c=P.take c):Lt Q (stp P c):=
 ⟨c,a,z+1,by rw[zds (wal _) hc];exact ht,ha,by rw[zp5 hc];unfold bat;rw[hz],by omega⟩
def zn7 {d:Nat}(h:Q.take d=P.take d)(hc:c<=d):Q.take c=P.take c:=by
 have:=wba (List.take c) h
 rwa [wcm,wcm,wbc hc] at this
def zn8 {d:Nat}(h:Q.take d=P.take d)(hc:c<d):Q[c]?=P[c]?:=by
 have:=wba (λx=>x[c]?) h
 rwa [waU,waU,if_pos hc,if_pos hc] at this
def Hs.step (h:Hs P l E)(hc:c<=P.length)(hy:y∉E.map (·.2)):Hs (stp P c) (l.take c++[y]) (E++[(stp P c,y)])/\∀q∈E,Rl q (stp P c,y,l.take c):=by
 have hyl:y∉l:=λz=>hy (h.sub y z)
 have hcl:c<=l.length:=by rw[<-h.len];exact hc
 have key:∀q∈E,((∃d,d<(stp P c).length/\q.1=(stp P c).take (d+1)/\(l.take c++[y])[d]?=some q.2)/\Px q.1 (stp P c)/\q.2∈l.take c)\/(Lt q.1 (stp P c)/\q.2∉l.take c++[y]):=by
  intro q hq;have hqy:q.2≠y:=λz=>hy (z▸way.mpr ⟨q,hq,rfl⟩)
  have nol:q.2∉l.take c->q.2∉l.take c++[y]:=λh1 h2=>by
   rcases wax.mp h2 with h2|h2
   .exact h1 h2
   .exact hqy (waf.mp h2)
  rcases h.hi q hq with⟨d,hd,e1,e2⟩|⟨⟨d,a,b,ht,ha,hb,hab⟩,hn⟩
  .by_cases hdc:d<c
   .left
    have e3:q.1=(stp P c).take (d+1):=by rw[zds (by omega) hc];exact e1
    have hl:d<(stp P c).length:=by rw[zcH hc];omega
    have hm:(l.take c)[d]?=some q.2:=by rw[waU,if_pos hdc];exact e2
    exact⟨⟨d,hl,e3,by rw[waJ (by rw[waz];omega)];exact hm⟩,⟨d,hl,e3⟩,waC hm⟩
   .right
    have hcl':c<P.length:=by omega
    refine⟨zn6 hc (wap hcl') (a:=P[c]) ?_ (wal _) ?_,nol λz=>?_⟩
    .rw[e1,waU,if_pos (by omega)];exact wap hcl'
    .rw[e1,wcm,wbc (by omega)]
    .obtain⟨i,hi⟩:=waM z;rw[waU] at hi;split at hi
     .rename_i hic
      have:=(wbx (waa.mp hi).1 h.nd).mp (hi.trans e2.symm)
      omega
     .cases hi
  .right
   have hn':q.2∉l.take c++[y]:=nol λz=>hn (wcb z)
   by_cases hdc:d<c
   .exact⟨⟨d,a,b,by rw[zds (by omega) hc];exact ht,ha,by rw[zp4 hdc hc];exact hb,hab⟩,hn'⟩
   .have hdl:=(waa.mp hb).1
    have hcl':c<P.length:=by omega
    refine⟨?_,hn'⟩;by_cases e:d=c
    .subst e;exact zn6 hc hb ha (by omega) ht
    .exact zn6 hc (wap hcl') ((zn8 ht (by omega)).trans (wap hcl')) (wal _) (zn7 ht (by omega))
 refine⟨⟨?_,?_,?_,?_⟩,λq hq=>?_⟩
 .rw[zcH hc,wan,waz,wbc hcl];rfl
 .rw[waW];refine⟨h.nd.sublist (List.take_sublist _ _),by simp,λa ha b hb e=>?_⟩;rw[waf.mp hb] at e;exact hyl (e▸wcb ha)
 .intro z hz;rw[waH];rcases wax.mp hz with hz|hz
  .exact wbd _ (h.sub z (wcb hz))
  .exact wat _ (by rw[waf.mp hz];exact waf.mpr rfl)
 .intro q hq;rcases wax.mp hq with hq|hq
  .rcases key q hq with⟨h1,_⟩|h2
   .exact .inl h1
   .exact .inr h2
  .rw[waf.mp hq];refine .inl ⟨c,by rw[zcH hc];omega,by rw[wbQ (waY (zcH hc))],?_⟩;rw[waI (by rw[waz];omega),waz,wbc hcl,wbX];rfl
 .rcases key q hq with⟨_,h1,h2⟩|⟨h1,h2⟩
  .exact⟨λ_=>h1,λz=>absurd h2 z⟩
  .exact⟨λz=>absurd (wbd _ z) h2,λ_=>h1⟩
end
def Ch:Nat->List (Nat×Str)->Prop
|_,[]=>True
|m,q::S=>q.1<=m/\Ch (q.1+1) S
theorem zmD:∀(S:List (Nat×Str)) (P:List Nat) (l:List Str) (E:List (List Nat×Str)),Hs P l E->Ch P.length S->(E.map (·.2)++S.map (·.2)).Nodup->(∀q∈E,∀b∈tz P l S,Rl q b)/\(tz P l S).Pairwise λa b=>Rl (a.1,a.2.1) b
|[],_,_,_,_,_,_=>⟨λ_ _ _ hb=>(by cases hb),List.Pairwise.nil⟩
|q::S,P,l,E,h,hc,nd=>by
   rw[waL,List.append_cons] at nd;have hy:q.2∉E.map (·.2):=λz=>(waW.mp (waW.mp nd).1).2.2 _ z _ (waf.mpr rfl) rfl
   obtain⟨h1,h2⟩:=h.step (c:=q.1) (y:=q.2) hc.1 hy;obtain⟨g1,g2⟩:=zmD S (stp P q.1) (l.take q.1++[q.2]) (E++[(stp P q.1,q.2)]) h1 (by rw[zcH hc.1];exact hc.2) (by rw[waH];exact nd);refine⟨λp hp b hb=>?_,List.pairwise_cons.mpr ⟨λb hb=>g1 _ (wat _ (waf.mpr rfl)) b hb,g2⟩⟩;rcases wak.mp hb with rfl|hb
   .exact h2 p hp
   .exact g1 p (wbd _ hp) b hb
def dn (x:Itm):Nat×Str:=(x.dp,x.nm)
theorem zp6:∀{m:Nat}{L:List Itm},Vd m L->Ch m (L.map dn)
|_,_,.nil=>trivial
|_,_,.cons hm _ t=>⟨hm,zp6 t⟩
theorem zn9:∀{P:List Nat}{l:List Str}{L:List Itm},(trR P L).map (λq=>(q.1,q.2.1.nm))=(tz P l (L.map dn)).map λb=>(b.1,b.2.1)
|_,_,[]=>rfl
|P,l,x::S=>by
   show(stp P x.dp,x.nm)::(trR (stp P x.dp) S).map _=(stp P x.dp,x.nm)::(tz (stp P x.dp) (l.take x.dp++[x.nm]) (S.map dn)).map _
   rw[zn9 (l:=l.take x.dp++[x.nm])]
def zp7 {L:List Itm}(v:Vd 0 L)(nd:(L.map Itm.nm).Nodup){i j:Nat}(hij:i<j){p q:List Nat×Itm×List D}(ei:(trR [] L)[i]?=some p)(ej:(trR [] L)[j]?=some q){b:List Nat×Str×List Str}(eb:(tz [] [] (L.map dn))[j]?=some b):Rl (p.1,p.2.1.nm) (q.1,q.2.1.nm,b.2.2):=by
 have h:=(zmD (L.map dn) [] [] [] ⟨rfl,waZ,(λy h=>by cases h),(λq h=>by cases h)⟩ (zp6 v) (by rw[waS];exact nd)).2
 have e:=zn9 (P:=[]) (l:=[]) (L:=L)
 have e1:=wba (λx=>x[i]?) e
 have e2:=wba (λx=>x[j]?) e
 rw[waj,waj,ei] at e1;rw[waj,waj,ej,eb] at e2;obtain⟨a,ea,e1⟩:=wbC.mp e1.symm;have e2:=waw e2
 obtain⟨la,ha⟩:=waa.mp ea;obtain⟨lb,hb⟩:=waa.mp eb;have r:=List.pairwise_iff_getElem.mp h i j la lb hij
 rw[ha,hb] at r;rw[show(p.1,p.2.1.nm)=(a.1,a.2.1) from e1.symm,show q.1=b.1 from wba Prod.fst e2];exact r
def zeE {xs:List D}{n:Nat}:VD.cut xs none (some (n:Int))=xs.take n:=by
 by_cases h:n<=xs.length
 .rw[zht (by omega) (by omega),wbI]
 .unfold VD.cut HT.sIx;try dsimp only[]
  rw[if_neg (by omega),List.drop_zero,Nat.sub_zero,Nat.min_eq_right (by omega),List.take_length,wbQ (by omega)]
theorem zkh:∀{A B:List Nat},inD A=inD B->A=B
|[],[],_=>rfl
|[],_::_,h=>by cases h
|_::_,[],h=>by cases h
|a::A,b::B,h=>by
   have h:D.int (a:Int)::inD A=D.int (b:Int)::inD B:=h
   injection h with h1 h2
   injection h1 with h1
   rw[zkh h2,Int.ofNat.inj h1]
theorem zki:∀{A B:List Nat},A.length=B.length->zdO (inD A) (inD B)=true
|[],[],_=>rfl
|[],_::_,h=>by cases h
|_::_,[],h=>by cases h
|a::A,b::B,h=>by
   have ih:=zki (A:=A) (B:=B) (Nat.succ.inj h)
   show(zdO (D.int (a:Int)::inD A) (D.int (b:Int)::inD B))=true
   unfold zdO;rw[ih];rfl
def nst (A B:List Nat):Bool:=decide (A.take (min A.length B.length)=B.take (min A.length B.length))
def zoa (A B:List Nat):zaT [.tup (inD A),.tup (inD B)]=some (.bl (nst A B)):=by
 show zb2 (.tup (inD A)) (.tup (inD B))=_
 unfold zb2;show Option.bind (some (D.int (if((inD B).length:Int)<((inD A).length:Int) then((inD B).length:Int) else((inD A).length:Int)))) _=_
 have hm:(if((inD B).length:Int)<((inD A).length:Int) then((inD B).length:Int) else((inD A).length:Int))=((min A.length B.length:Nat):Int):=by
  unfold inD;rw[wad,wad];split <;> omega
 rw[hm,zOB];show Option.bind (dEqG false (.tup (VD.cut (inD A) none (some ((min A.length B.length:Nat):Int)))) (.tup (VD.cut (inD B) none (some ((min A.length B.length:Nat):Int))))) _=_
 have tk:∀C:List Nat,(inD C).take (min A.length B.length)=inD (C.take (min A.length B.length)):=λC=>(List.map_take ..).symm
 rw[zeE,zeE,tk,tk];have hl:(A.take (min A.length B.length)).length=(B.take (min A.length B.length)).length:=by rw[waz,waz];omega
 unfold nst;generalize A.take (min A.length B.length)=X at hl⊢;generalize B.take (min A.length B.length)=Y at hl⊢;have hc:eqC (.tup (inD X)) (.tup (inD Y))=true:=by
  unfold eqC;rw[show eqOk (.tup (inD X)) (.tup (inD Y))=true from zki hl,show ndD (.tup (inD X))=true from(zg0 X).1,show ndD (.tup (inD Y))=true from(zg0 Y).1,waE (show depD (.tup (inD X))<=40 by show depL (inD X)+1<=40;have:=(zg0 X).2;omega)];rfl
 unfold dEqG;rw[if_pos hc];have hd:decide (D.tup (inD X)=D.tup (inD Y))=decide (X=Y):=decide_eq_decide.mpr ⟨λz=>zkh (D.tup.inj z),λz=>by rw[z]⟩
 show some (D.bl (decide (D.tup (inD X)=D.tup (inD Y))))=_
 rw[hd]
def zp8 {A B:List Nat}(h:Lt A B):nst A B=false:=by
 obtain⟨d,a,b,_,ha,hb,hab⟩:=h;have la:=(waa.mp ha).1
 have lb:=(waa.mp hb).1
 refine wav λz=>?_
 have:=wba (λx=>x[d]?) z
 rw[waU,waU,if_pos (by omega),if_pos (by omega),ha,hb] at this;have:=waw this
 omega
abbrev Tp:=List Nat×Itm×List D
def GdH (T:List Tp)(q:Tp):Prop:=q.2.1.hd=none\/∃p∈T,q.2.1.hd=some p.2.1.nm/\nst p.1 q.1=false
section
variable {L:List Itm}(nd:(L.map Itm.nm).Nodup)
def zp9 {p:Tp}(hp:p∈trR [] L):hasK ((trR [] L).map kyR) (.inr p.2.1.nm)=true:=by
 unfold hasK;rw[List.any_eq_true];exact⟨kyR p,way.mpr ⟨p,hp,rfl⟩,waE rfl⟩
def zq3 {h:Str}(hn:∀p∈trR [] L,p.2.1.nm≠h):hasK ((trR [] L).map kyR) (.inr h)=false:=by
 unfold hasK;rw[List.any_eq_false];intro x hx hh;have hh:=of_decide_eq_true hh
 obtain⟨p,hp,rfl⟩:=way.mp hx;exact hn p hp (Sum.inr.inj hh)
include nd
theorem zob {q:Tp}{h:Str}{b:Bool}(hb:((∀p∈trR [] L,p.2.1.nm≠h)/\b=true)\/∃p∈trR [] L,p.2.1.nm=h/\nst p.1 q.1=b):(Option.bind (Option.bind ((dInG true) (.str h) (plsD L)) dB) λk8=>if k8 then some true else(Option.bind (Option.bind (aC (dGet (plsD L) (.str h)) (aC (some (plR q)) aN)) zaT) dTru))=some b:=by
 show(Option.bind (Option.bind (some (D.bl (!hasK ((trR [] L).map kyR) (.inr h)))) dB) λk8=>if k8 then some true else(Option.bind (Option.bind (aC (dGet (plsD L) (.str h)) (aC (some (plR q)) aN)) zaT) dTru))=some b
 rcases hb with⟨hn,rfl⟩|⟨p,hp,rfl,hb⟩
 .rw[zq3 hn];rfl
 .have hg:dGet (plsD L) (.str p.2.1.nm)=some (plR p):=zkf (k:=kyR) (v:=plR) hp (zhF nd)
  rw[zp9 hp,hg];show Option.bind (zaT [.tup (inD p.1),.tup (inD q.1)]) dTru=_
  rw[zoa,hb];rfl
end
theorem zhG {f:Unit->D->Option Unit}{g:Tp->D}:∀{E:List Tp},(∀q∈E,f () (g q)=some ())->zaZ f () (E.map g)=some ()
|[],_=>rfl
|q::E,h=>by
   show(f () (g q)).bind (λs=>zaZ f s (E.map g))=_
   rw[h q wai,zOB];exact zhG λy hy=>h y (wae _ hy)
section
variable {L:List Itm}(t:Vd 0 L)(nd:(L.map Itm.nm).Nodup)(hl:L.length<=1000)
include t nd hl
theorem zoc (hg:∀q∈trR [] L,GdH (trR [] L) q):zbn [.tup (fo L 0)]=some .non:=by
 show zbm (.tup (fo L 0))=_
 unfold zbm;rw[zq2 t hl,zOB];show Option.bind (Option.bind (zen _ ((trR [] L).map enR) ([],[])) _) _=_
 rw[zkg nd hl,zOB,zOB];show Option.bind (zaZ _ () ((trR [] L).map enR)) _=_
 rw[zhG λq hq=>?_]
 .rfl
 .rw[show un2 (enR q)=some (plR q,ptR q) from rfl,zOB];show Option.bind (dIx (ptR q) (.int 4)) _=_
  rw[show dIx (ptR q) (.int 4)=some (hdO q.2.1.hd) from zj3 ..,zOB];rcases hg q hq with e|⟨p,hp,e,hb⟩
  .rw[e];rfl
  .rw[e];show Option.bind (Option.bind (Option.bind ((dInG true) (.str p.2.1.nm) (plsD L)) dB) λk8=>if k8 then some true else(Option.bind (Option.bind (aC (dGet (plsD L) (.str p.2.1.nm)) (aC (some (plR q)) aN)) zaT) dTru)) _=_
   rw[zob nd (b:=false) (.inr ⟨p,hp,rfl,hb⟩)];rfl
end
def hdM (x:Itm):List (Str×Str):=match x.hd with
|some h=>[(h,x.nm)]
|none=>[]
def mus:List Itm->List (Str×Str)
|[]=>[]
|x::S=>((fo S (x.dp+1)).map λd=>(x.nm,(nr d).2))++hdM x++mus S
def zod (x:Itm):(hdM x).length<=1:=by
 unfold hdM;split <;> simp
theorem zg1:∀{L:List Itm},(mus L).length<=L.length*L.length+L.length
|[]=>wal _
|x::S=>by
   show(((fo S (x.dp+1)).map λd=>(x.nm,(nr d).2))++hdM x++mus S).length<=(S.length+1)*(S.length+1)+(S.length+1)
   rw[wan,wan,wad];have h1:=zeD (S:=S) (d:=x.dp+1)
   have h2:=zg1 (L:=S)
   have h3:=zod x
   rw[Nat.add_mul,Nat.mul_add,Nat.mul_one,Nat.one_mul];omega
def Ahd:List Str->List Itm->Prop
|_,[]=>True
|e,x::S=>(∀h,x.hd=some h->h∈e)/\Ahd (e++[x.nm]) S
theorem zkj:∀{L pre:List Itm}{q:Str×Str},Ahd (pre.map Itm.nm) L->q∈mus L->Fwd ((pre++L).map Itm.nm) q
|[],_,_,_,h=>by cases h
|x::S,pre,q,ha,h=>by
   rcases wax.mp (show q∈((fo S (x.dp+1)).map λd=>(x.nm,(nr d).2))++hdM x++mus S from h) with h|h
   .rcases wax.mp h with h|h
    .obtain⟨d,hd,rfl⟩:=way.mp h;obtain⟨y,hy,inn,rfl⟩:=zke hd;obtain⟨k,hk⟩:=waM hy;refine⟨pre.length,pre.length+1+k,by omega,?_,?_⟩
     .rw[waj,waI (wal _),wbX];rfl
     .rw[waj,waI (by omega),show pre.length+1+k - pre.length=k+1 by omega,List.getElem?_cons_succ,hk];rfl
    .unfold hdM at h;cases e:x.hd with
    |none=>rw[e] at h;cases h
    |some y=>
       rw[e] at h;rw[waf.mp h];obtain⟨k,hk⟩:=waM (ha.1 y e);have lk:=(waa.mp hk).1
       rw[wad] at lk;refine⟨k,pre.length,lk,?_,?_⟩
       .rw[waH,waJ (by rw[wad];exact lk)];exact hk
       .rw[waj,waI (wal _),wbX];rfl
   .have:=zkj (pre:=pre++[x]) (by rw[waH];exact ha.2) h
    rwa [waR] at this
def zl0 {L:List Itm}(t:Vd 0 L)(hl:L.length<=40):zcU [.tup (fo L 0)]=some (.lst ((mus L).map prD)):=by
 show zcT (.tup (fo L 0))=_
 unfold zcT;rw[zOB,zfw t (by omega)];generalize hf:(λ(s2:List D) (d3:D)=>(Option.bind (Option.bind (Option.bind (Option.bind (Option.bind (dIx d3 (.int 5)) dSeq) _) λds=>some (.lst ds)) (extL s2)) λ(x5:List D)=>_))=f;show Option.bind (zaZ f [] ((trL [] L).map (·.2))) _=_
 have stp:∀(x:Itm) (S:List Itm) (M0:List (Str×Str)),S.length<=44->M0.length<=2000->f (M0.map prD) (part x 0 (fo S (x.dp+1)))=some ((M0++(((fo S (x.dp+1)).map λd=>(x.nm,(nr d).2))++hdM x)).map prD):=by
  intro x S M0 hs hM;rw[<-hf];dsimp only[];rw[(zcv x 0 _).2.2.2,zj3,(zcv x 0 _).1];show Option.bind (Option.bind (Option.bind (zck _ (fo S (x.dp+1))) _) _) _=_
  have hc:zck (λd4=>(Option.bind (Option.bind (aC (some (.str x.nm)) (aC (dIx d4 (.int 0)) aN)) mkT) λz=>some (some z))) (fo S (x.dp+1))=some (((fo S (x.dp+1)).map λd=>(x.nm,(nr d).2)).map prD):=by
   have:=zel (f:=λd4=>(Option.bind (Option.bind (aC (some (.str x.nm)) (aC (dIx d4 (.int 0)) aN)) mkT) λz=>some (some z))) (λd=>d) (λd=>prD (x.nm,(nr d).2)) (xs:=fo S (x.dp+1)) (waq zeD (by omega)) λd hd=>by
    obtain⟨y,hy,inn,rfl⟩:=zke hd;rw[(zcv y 0 _).1];rfl
   rw[List.map_id'] at this;rw[this,waS];rfl
  have hfl:=zeD (S:=S) (d:=x.dp+1)
  rw[hc,zOB,zOB];have hx:extL (M0.map prD) (.lst (((fo S (x.dp+1)).map λd=>(x.nm,(nr d).2)).map prD))=some ((M0++(fo S (x.dp+1)).map λd=>(x.nm,(nr d).2)).map prD):=by
   rw[waH];exact if_pos (waq (by
    rw[wan,wad,wad,wad];omega:_<=2044) (by decide))
  rw[hx,zOB];unfold hdM;cases x.hd with
 |none=>rw[waQ];rfl
 |some h=>
    show Option.bind (Option.bind (appL ((M0++(fo S (x.dp+1)).map λd=>(x.nm,(nr d).2)).map prD) (prD (h,x.nm))) _) _=_
    rw[zgK (wbj (by rw[wad,wan,wad];omega:_<=2044) (by decide)),<-waR,waH (l₁:=M0++_)];rfl
 have key:∀(L:List Itm) (P:List Nat) (M0:List (Str×Str)),L.length<=44->M0.length+(mus L).length<=2000->zaZ f (M0.map prD) ((trL P L).map (·.2))=some ((M0++mus L).map prD):=by
  intro L;induction L with
 |nil=>intro P M0 _ _;show some _=_;rw[show mus [] = [] from rfl,waQ]
 |cons x S ih=>
    intro P M0 hs hM;rw[show mus (x::S)=((fo S (x.dp+1)).map λd=>(x.nm,(nr d).2))++hdM x++mus S from rfl,wan] at hM;rw[waK] at hs;show(f (M0.map prD) (part x 0 (fo S (x.dp+1)))).bind (λs=>zaZ f s ((trL (Pg.stp P x.dp) S).map (·.2)))=_
    rw[stp x S M0 (by omega) (by omega),zOB,ih _ _ (by omega) (by rw[wan];omega),waR];rfl
 have h2:(mus L).length<=2000:=waq zg1 (waq (Nat.add_le_add (wcl hl hl) hl) (by decide))
 have:=key L [] [] (by omega) (by rw[List.length_nil];omega)
 rw[show zaZ f [] ((trL [] L).map (·.2))=_ from this];rfl
def gW (self:List D->Option D)(nm at_ th:D)(s2:List D)(d3:D):Option (List D):=
 (Option.bind (zhw [d3]) λ(x4:List D)=>(Option.bind (Option.bind (Option.bind (aC (dIx d3 (.int 5)) (aC (some nm) (aC (some at_) (aC (some th) aN)))) self) λv5=>(zdN x4 (.int 5) v5)) λ(x6:List D)=>(Option.bind (Option.bind (Option.bind (Option.bind (dIx d3 (.int 0)) λv8=>((dEqG false) v8 nm)) dB) λk7=>if k7 then(Option.bind (zdN x6 at_ th) λ(x9:List D)=>(some x9)) else(some x6)) λ(s10:List D)=>(Option.bind (Option.bind (bTuple [(.lst s10)]) (appL s2)) λ(x11:List D)=>(some x11)))))
def zdD (x:Itm)(inn:List D):List D:=[.str x.nm,x.bx,.str x.wd,.int x.rk,hdO x.hd,.tup inn]
def upB (ch:Itm->Itm)(nm:Str)(x:Itm):Itm:=if x.nm=nm then ch x else x
section
variable {ch:Itm->Itm}{nm:Str}{at_ th:D}(hc:∀x inn,zdN (zdD x inn) at_ th=some (zdD (ch x) inn))
include hc
theorem zq4 {self:List D->Option D}{x:Itm}{dp:Nat}{inn inn' acc:List D}(h:self [.tup inn,.str nm,at_,th]=some (.tup inn'))(ha:acc.length<=1000):gW self (.str nm) at_ th acc (part x dp inn)=some (acc++[part (upB ch nm x) dp inn']):=by
 have happ:∀y:Itm,Option.bind (Option.bind (bTuple [(.lst (zdD y inn'))]) (appL acc)) (λ(x11:List D)=>(some x11))=some (acc++[part y dp inn']):=λy=>by
  show Option.bind (appL acc (part y dp inn')) _=_
  rw[zgK (wbj ha (by decide))];rfl
 unfold gW;rw[show zhw [part x dp inn]=some (zdD x inn) from rfl,zOB,(zcv x dp inn).2.2.2,(zcv x dp inn).1];show Option.bind (Option.bind (self [.tup inn,.str nm,at_,th]) λv5=>(zdN (zdD x inn) (.int 5) v5)) _=_
 rw[h];show Option.bind (Option.bind (Option.bind (dEqG false (.str x.nm) (.str nm)) dB) λk7=>if k7 then(Option.bind (zdN (zdD x inn') at_ th) λ(x9:List D)=>(some x9)) else(some (zdD x inn'))) _=_
 rw[zfh];show Option.bind (if decide (x.nm=nm) then(Option.bind (zdN (zdD x inn') at_ th) λ(x9:List D)=>(some x9)) else(some (zdD x inn'))) _=_
 unfold upB;by_cases e:x.nm=nm
 .rw[waE e,if_pos rfl,if_pos e,hc];exact happ _
 .rw[wav e,if_neg (by decide),if_neg e];exact happ _
inductive Wt (self:List D->Option D)(nm:Str)(at_ th:D):List D->List D->Prop
|nil:Wt self nm at_ th [] []
|cons {d e:D}{ds es:List D}(h:∀acc:List D,acc.length<=1000->gW self (.str nm) at_ th acc d=some (acc++[e])) (t:Wt self nm at_ th ds es):Wt self nm at_ th (d::ds) (e::es)
omit hc in
theorem Wt.fold {self:List D->Option D}{ds es:List D}(w:Wt self nm at_ th ds es):∀acc:List D,acc.length+ds.length<=1000->zaZ (gW self (.str nm) at_ th) acc ds=some (acc++es):=by
 induction w with
|nil=>intro acc _;rw[waQ];rfl
|@cons d e ds es h t ih=>
   intro acc ha;rw[waK] at ha;show(gW self (.str nm) at_ th acc d).bind _=_
   rw[h acc (by omega),zOB,ih _ (by rw[wan,List.length_singleton];omega),waR];rfl
omit hc in
theorem Wt.all {n:Nat}{ds es:List D}(w:Wt (zax n) nm at_ th ds es)(hl:ds.length<=1000):zax (n+1) [.tup ds,.str nm,at_,th]=some (.tup es):=by
 show Option.bind (zaZ (gW (zax n) (.str nm) at_ th) [] ds) (λs2=>Option.bind (bTuple [.lst s2]) λr12=>some r12)=_
 rw[w.fold [] (by simpa using hl)];rfl
theorem zqa:∀{S:List Itm},(∀x∈S,x.dp<=4)->(∀x,(ch x).dp=x.dp)->S.length<=1000->∀d,d<=5->Wt (zax (6 - d)) nm at_ th (fo S d) (fo (S.map (upB ch nm)) d)
|[],_,_,_,_,_=>.nil
|x::S,h4,hd,hl,d,h5=>by
   have h4':∀y∈S,y.dp<=4:=λy hy=>h4 y (wae _ hy)
   have ih:=λd h=>zqa (S:=S) h4' hd (by rw[waK] at hl;omega) d h
   have ud:(upB ch nm x).dp=x.dp:=by unfold upB;split;exact hd x;rfl
   show Wt (zax (6 - d)) nm at_ th (if d=x.dp then part x 0 (fo S (d+1))::fo S d else if d=x.dp+1 then[] else fo S d) (if d=(upB ch nm x).dp then part (upB ch nm x) 0 (fo (S.map (upB ch nm)) (d+1))::fo (S.map (upB ch nm)) d else if d=(upB ch nm x).dp+1 then[] else fo (S.map (upB ch nm)) d)
   rw[ud];by_cases e:d=x.dp
   .have d4:d<=4:=by rw[e];exact h4 x wai
    rw[if_pos e,if_pos e];refine .cons (λacc ha=>zq4 hc ?_ ha) (ih d h5);have t:=(ih (d+1) (by omega)).all (waq zeD (by rw[waK] at hl;omega))
    rw[show 6 - (d+1)+1=6 - d by omega] at t;exact t
   .rw[if_neg e,if_neg e];by_cases e2:d=x.dp+1
    .rw[if_pos e2,if_pos e2];exact .nil
    .rw[if_neg e2,if_neg e2];exact ih d h5
theorem zoe {L:List Itm}(h4:∀x∈L,x.dp<=4)(hd:∀x,(ch x).dp=x.dp)(hl:L.length<=1000):zax 7 [.tup (fo L 0),.str nm,at_,th]=some (.tup (fo (L.map (upB ch nm)) 0)):=(zqa hc h4 hd hl 0 (by decide)).all (waq zeD hl)
end
def zqb {N:List Str}:Option.bind (Option.bind (bLen [.lst (N.map D.str)]) λv5=>dGt v5 (.int 40)) dB=some (decide (40<N.length)):=by
 show some (decide ((40:Int)<((N.map D.str).length:Int)))=_
 rw[wad];congr 1;exact decide_eq_decide.mpr (by omega)
structure Gf (L:List Itm):Prop where
 v:Vd 0 L
 h4:∀x∈L,x.dp<=4
 nd:(L.map Itm.nm).Nodup
 g:∀x∈L,Gd x
 hd:∀q∈trR [] L,GdH (trR [] L) q
 ah:Ahd [] L
 l40:L.length<=40
def Gf.told {L:List Itm}(G:Gf L):zcc [.tup (fo L 0)]=some (.tup (fo L 0)):=by
 have l40:=G.l40
 show zdo (.tup (fo L 0))=_
 unfold zdo;rw[zmC (n:=5) (gfo G.v G.g 0 (by decide)) (by decide) (by decide),zlY G.v (by omega)];show Option.bind (Option.bind (Option.bind (bLen [.lst ((L.map Itm.nm).map D.str)]) λv5=>dGt v5 (.int 40)) dB) (λk4=>if k4 then none else(Option.bind (za7 [.lst ((L.map Itm.nm).map D.str)]) λ(u6:D)=>_))=_
 rw[zqb,wad,wav (by omega),zOB,if_neg (by decide),zn2 G.nd,zOB,zoc G.v G.nd (by omega) G.hd,zOB,zl0 G.v l40];show Option.bind (zcF [.lst ((L.map Itm.nm).map D.str),.lst ((mus L).map prD)]) _=_
 rw[zn4 G.nd (λq hq=>zkj (pre:=[]) G.ah hq) (by rw[wad];omega) (waq zg1 (waq (Nat.add_le_add (wcl l40 l40) l40) (by decide)))];rfl
def Like (x y:Itm):Prop:=y.dp=x.dp/\y.nm=x.nm/\y.hd=x.hd
theorem zkk {u:Itm->Itm}(h:∀x,Like x (u x)):∀{m:Nat}{L:List Itm},Vd m L->Vd m (L.map u)
|_,_,.nil=>.nil
|m,_,.cons (x:=x) (S:=S) hm h4 t=>by
   refine Vd.cons (x:=u x) (by rw[(h x).1];exact hm) (by rw[(h x).1];exact h4) ?_;rw[(h x).1];exact zkk h t
theorem zhH {u:Itm->Itm}(h:∀x,Like x (u x)):∀{e:List Str}{L:List Itm},Ahd e L->Ahd e (L.map u)
|_,[],_=>trivial
|e,x::S,a=>⟨λy ey=>a.1 y (by rw[<-(h x).2.2];exact ey),by rw[(h x).2.1];exact zhH h a.2⟩
theorem zkl {u:Itm->Itm}(h:∀x,Like x (u x)):∀{P:List Nat}{L:List Itm},(trR P (L.map u)).map (λq=>(q.1,q.2.1.nm,q.2.1.hd))=(trR P L).map λq=>(q.1,q.2.1.nm,q.2.1.hd)
|_,[]=>rfl
|P,x::S=>by
   show(stp P (u x).dp,(u x).nm,(u x).hd)::(trR (stp P (u x).dp) (S.map u)).map _=(stp P x.dp,x.nm,x.hd)::(trR (stp P x.dp) S).map _
   rw[(h x).1,(h x).2.1,(h x).2.2,zkl h]
def zl1 {T U:List Tp}(e:U.map (λq=>(q.1,q.2.1.nm,q.2.1.hd))=T.map λq=>(q.1,q.2.1.nm,q.2.1.hd))(h:∀q∈T,GdH T q):∀q∈U,GdH U q:=by
 intro q hq;have hm:(q.1,q.2.1.nm,q.2.1.hd)∈T.map λq=>(q.1,q.2.1.nm,q.2.1.hd):=by rw[<-e];exact way.mpr ⟨q,hq,rfl⟩
 obtain⟨r,hr,er⟩:=way.mp hm;injection er with e1 er
 injection er with e2 e3
 rcases h r hr with z|⟨p,hp,z1,z2⟩
 .exact .inl (by rw[<-e3];exact z)
 .have hp2:(p.1,p.2.1.nm,p.2.1.hd)∈U.map λq=>(q.1,q.2.1.nm,q.2.1.hd):=by rw[e];exact way.mpr ⟨p,hp,rfl⟩
  obtain⟨p',hp',ep⟩:=way.mp hp2;injection ep with p1 ep
  injection ep with p2 p3
  exact .inr ⟨p',hp',by rw[<-e3,z1,p2],by rw[p1,<-e1];exact z2⟩
def Gf.like {L:List Itm}{u:Itm->Itm}(G:Gf L)(h:∀x,Like x (u x))(g:∀x∈L,Gd (u x)):Gf (L.map u) where
 v:=zkk h G.v
 h4:=λy hy=>by obtain⟨x,hx,rfl⟩:=way.mp hy;rw[(h x).1];exact G.h4 x hx
 nd:=by
  have:(L.map u).map Itm.nm=L.map Itm.nm:=by rw[waS];exact List.map_congr_left λx _=>(h x).2.1
  rw[this];exact G.nd
 g:=λy hy=>by obtain⟨x,hx,rfl⟩:=way.mp hy;exact g x hx
 hd:=zl1 (zkl h) G.hd
 ah:=zhH h G.ah
 l40:=by rw[wad];exact G.l40
def bst {A B:Type}{o:Option A}{k:A->Option B}{a:A}{r:Option B}(e:o=some a)(h:k a=r):o.bind k=r:=by rw[e];exact h
def zgp {a b:Str}(h:a≠b):dEqG false (.str a) (.str b)=some (.bl false):=by rw[zfh,wav h]
def zkm {L:List Itm}(t:Vd 0 L)(hl:L.length<=1000){nm:Str}(h:nm∈L.map Itm.nm):∃p,zdk [.tup (fo L 0),.str nm]=some p:=by
 show ∃p,zdj (.tup (fo L 0)) (.str nm)=some p
 unfold zdj;rw[zfw t hl];show ∃p,Option.bind (zef _ () ((trL [] L).map (·.2))) _=some p
 rw[zn5,waS];generalize hf:(λ(s1:Unit) (d2:D)=>(Option.bind (Option.bind (Option.bind (dIx d2 (.int 0)) λv4=>((dEqG false) v4 (.str nm))) dB) λk3=>if k3 then _ else _))=f;have st:∀q:Tp,f () (ptR q)=some (if q.2.1.nm=nm then .ret (ptR q) else .nx ()):=λq=>by
  rw[<-hf];dsimp only[];rw[show dIx (ptR q) (.int 0)=some (.str q.2.1.nm) from(zcv q.2.1 0 q.2.2).1,zOB,zfh];show(if decide (q.2.1.nm=nm) then _ else _)=_
  by_cases e:q.2.1.nm=nm
  .rw[waE e,if_pos rfl,if_pos e];rfl
  .rw[wav e,if_neg (by decide),if_neg e]
 have key:∀T:List Tp,(∃q∈T,q.2.1.nm=nm)->∃p,zef f () (T.map ptR)=some (.ret p):=by
  intro T;induction T with
 |nil=>rintro⟨q,hq,_⟩;cases hq
 |cons q T ih=>
    rintro⟨r,hr,e⟩;show ∃p,(f () (ptR q)).bind _=some _
    rw[st];by_cases e0:q.2.1.nm=nm
    .rw[if_pos e0];exact⟨_,rfl⟩
    .rw[if_neg e0];rcases wak.mp hr with rfl|hr
     .exact absurd e e0
     .exact ih ⟨r,hr,e⟩
 obtain⟨x,hx,e⟩:=way.mp h;have hx:x∈(trR [] L).map λq=>q.2.1:=by rw[zgn];exact hx
 obtain⟨q,hq,rfl⟩:=way.mp hx;obtain⟨p,hp⟩:=key _ ⟨q,hq,e⟩;exact⟨p,by
  show Option.bind (zef f () ((trR [] L).map ptR)) _=some p
  rw[hp];rfl⟩
section
variable {kind nm:Str}{th:D}(n1:kind≠"take")(n2:kind≠"put")(hg:zbI [.str kind,th]=some (.bl true))
include n1 n2 hg
theorem zof:zcd [.str kind,.tup [th]]=some (.bl true):=by
 show zdp (.str kind) (.tup [th])=_
 unfold zdp;rw[zgp n1,zgp n2];show Option.bind (Option.bind (Option.bind (dEqG false (.int 1) (.int 1)) dB) λk8=>if k8 then(zbI [.str kind,th]) else some (.bl false)) _=_
 rw[hg];rfl
theorem zog:zdr [.tup [.str kind,.str nm,th]]=some (.bl true):=by
 show zdq (.tup [.str kind,.str nm,th])=_
 unfold zdq;show Option.bind (Option.bind (Option.bind ((dEqG false) (.str kind) (.str "put")) dB) λk8=>if k8 then(Option.bind ((dIs false) (.str nm) D.non) dB) else some false) (λk7=>if k7 then _ else(Option.bind (Option.bind (Option.bind ((isD "str") (.str nm)) dB) λk10=>if k10 then(zcd [.str kind,.tup [th]]) else some (.bl false)) λ(r11:D)=>(some r11)))=_
 rw[zgp n2,zof n1 n2 hg];rfl
theorem zoh {L:List Itm}(G:Gf L)(hm:nm∈L.map Itm.nm){at_:D}{ch:Itm->Itm}(ha:dGet (.dct [.inr "word",.inr "box",.inr "rank",.inr "head"] [.int 2,.int 1,.int 3,.int 4]) (.str kind)=some at_)(hc:∀x inn,zdN (zdD x inn) at_ th=some (zdD (ch x) inn))(hl:∀x,Like x (ch x))(g:∀x∈L,Gd x->Gd (ch x)):Gf (L.map (upB ch nm))/\zeX [.tup (fo L 0),.tup [.str kind,.str nm,th]]=some (.tup (fo (L.map (upB ch nm)) 0)):=by
 have G2:Gf (L.map (upB ch nm)):=G.like (λx=>by
  unfold upB;split
  .exact hl x
  .exact⟨rfl,rfl,rfl⟩) λx hx=>by
   unfold upB;split
   .exact g x hx (G.g x hx)
   .exact G.g x hx
 refine⟨G2,?_⟩;have l40:=G.l40
 obtain⟨p,hp⟩:=zkm G.v (by omega) hm;show zhC (.tup (fo L 0)) (.tup [.str kind,.str nm,th])=_
 unfold zhC;refine bst (a:=false) ?_ ?_
 .rw[zog n1 n2 hg];rfl
 rw[if_neg (by decide)];refine bst (a:=(D.str kind,D.str nm)) rfl ?_;refine bst (a:=false) ?_ ?_
 .show Option.bind (dEqG false (.str kind) (.str "put")) dB=_
  rw[zgp n2];rfl
 rw[if_neg (by decide)];refine bst hp ?_;refine bst (a:=false) ?_ ?_
 .show Option.bind (dEqG false (.str kind) (.str "take")) dB=_
  rw[zgp n1];rfl
 rw[if_neg (by decide)];refine bst (a:=D.tup (fo (L.map (upB ch nm)) 0)) ?_ rfl;refine bst (a:=[D.tup (fo (L.map (upB ch nm)) 0)]) ?_ G2.told;refine bst (a:=D.tup (fo (L.map (upB ch nm)) 0)) ?_ rfl;refine bst (a:=[.tup (fo L 0),.str nm,at_,th]) ?_ (zoe hc G.h4 (λx=>(hl x).1) (by omega));show(aC (some (.tup (fo L 0))) (aC (some (.str nm)) (aC (dGet (.dct [.inr "word",.inr "box",.inr "rank",.inr "head"] [.int 2,.int 1,.int 3,.int 4]) (.str kind)) (aC (some th) aN))))=_
 rw[ha];rfl
end
def nmR (s t:Int)(j:Nat):Str:=Txt.mul (sg (97+((t+(j:Int)) % 26).toNat)) (s+(j:Int) / 26)
def zkn (s t:Int)(hs:1<=s){m:Nat}(h:m<=100):((List.range m).map (nmR s t)).Nodup:=by
 refine List.pairwise_map.mpr (List.nodup_range.imp_of_mem λ{a b} ha hb hne e=>hne ?_);obtain⟨e1,e2⟩:=znF (by omega) (by omega) e;omega
def zmE {s t:Int}{j:Nat}(h1:1<=s)(h7:s<=7)(h:j<40):nmOk (nmR s t j):=by
 have hl:(nmR s t j).length=(s+(j:Int) / 26).toNat:=znG _ _ (by omega)
 refine⟨by rw[hl];omega,by rw[hl];omega,λc hc=>?_⟩;rw[show(nmR s t j).cps.toList=List.replicate (s+(j:Int) / 26).toNat (97+((t+(j:Int)) % 26).toNat) from zfg _ _ (by omega)] at hc;rw[(List.mem_replicate.mp hc).2];omega
structure Ft (x:Itm):Prop where
 c:1<=x.bc
 d:1<=x.bd
 wd:Wd x.wd
 rk:0<=x.rk
def lnE:List Str->List Itm->List Str
|l,[]=>l
|l,x::S=>lnE (l.take x.dp++[x.nm]) S
def lnS:List Str->List Itm->List (List Str)
|_,[]=>[]
|l,x::S=>l.take x.dp::lnS (l.take x.dp++[x.nm]) S
theorem zhI:∀{l:List Str}{L:List Itm}{x:Itm},lnE l (L++[x])=(lnE l L).take x.dp++[x.nm]
|_,[],_=>rfl
|l,y::S,x=>zhI (L:=S)
theorem zmF:∀{P:List Nat}{l:List Str}{L:List Itm},(tz P l (L.map dn)).map (·.2.2)=lnS l L
|_,_,[]=>rfl
|P,l,x::S=>by
   show l.take x.dp::(tz (stp P x.dp) (l.take x.dp++[x.nm]) (S.map dn)).map _=_
   rw[zmF];rfl
section
variable (s t:Int)
def V7:Nat->List Str->List Itm->Prop
|_,_,[]=>True
|k,l,x::S=>x.dp<=l.length/\x.dp<=4/\x.nm=nmR s t k/\(∀h,x.hd=some h->h∉l.take x.dp/\∃j,j<k/\h=nmR s t j)/\Ft x/\V7 (k+1) (l.take x.dp++[x.nm]) S
theorem zko:∀{k:Nat}{l:List Str}{L:List Itm}{r:Itm},V7 s t k l L->r.dp<=(lnE l L).length->r.dp<=4->r.nm=nmR s t (k+L.length)->(∀h,r.hd=some h->h∉(lnE l L).take r.dp/\∃j,j<k+L.length/\h=nmR s t j)->Ft r->V7 s t k l (L++[r])
|k,l,[],r,_,h1,h2,h3,h4,h5=>⟨h1,h2,h3,h4,h5,trivial⟩
|k,l,x::S,r,⟨a1,a2,a3,a4,a5,a6⟩,h1,h2,h3,h4,h5=>⟨a1,a2,a3,a4,a5,zko a6 h1 h2 (by rw[h3,waK];congr 1;omega) (λh e=>by
   obtain⟨b1,j,b2,b3⟩:=h4 h e;exact⟨b1,j,by rw[waK] at b2;omega,b3⟩) h5⟩
end
section
variable {s t:Int}
theorem zil:∀{k i:Nat}{l:List Str}{L:List Itm}{r:Itm},V7 s t k l L->L[i]?=some r->r.dp<=4/\r.nm=nmR s t (k+i)/\Ft r/\(∀h,r.hd=some h->(∀ln,(lnS l L)[i]?=some ln->h∉ln)/\∃j,j<k+i/\h=nmR s t j)
|k,0,l,x::S,r,⟨a1,a2,a3,a4,a5,a6⟩,e=>by
   cases e;exact⟨a2,a3,a5,λh eh=>⟨λln z=>by cases z;exact(a4 h eh).1,(a4 h eh).2⟩⟩
|k,i+1,l,x::S,r,⟨a1,a2,a3,a4,a5,a6⟩,e=>by
   have:=zil (i:=i) a6 e
   rw[show k+(i+1)=k+1+i by omega];exact this
|_,_,_,[],_,_,e=>by simp at e
theorem zmG:∀{k:Nat}{l:List Str}{L:List Itm},V7 s t k l L->L.map Itm.nm=(List.range' k L.length).map (nmR s t)
|_,_,[],_=>rfl
|k,l,x::S,⟨_,_,a3,_,_,a6⟩ =>by
   rw[waK,List.range'_succ,waL,waL,zmG a6,a3]
def zqc (hs:1<=s){L:List Itm}(v:V7 s t 0 [] L)(hl:L.length<=40):(L.map Itm.nm).Nodup:=by
 rw[zmG v,<-List.range_eq_range'];exact zkn s t hs (by omega)
theorem zoi:∀{k:Nat}{l:List Str}{L:List Itm},V7 s t k l L->Vd l.length L
|_,_,[],_=>.nil
|k,l,x::S,⟨a1,a2,_,_,_,a6⟩ =>by
   refine .cons a1 a2 ?_;have:=zoi a6
   rw[wan,waz,wbc a1] at this;exact this
theorem zmH:∀{k:Nat}{l:List Str}{L:List Itm},V7 s t k l L->Ahd ((List.range k).map (nmR s t)) L
|_,_,[],_=>trivial
|k,l,x::S,⟨_,_,a3,a4,_,a6⟩ =>by
   refine⟨λh e=>?_,?_⟩
   .obtain⟨_,j,hj,rfl⟩:=a4 h e;exact way.mpr ⟨j,wbr.mpr hj,rfl⟩
   .have:=zmH a6
    rw[List.range_succ,waH] at this;show Ahd ((List.range k).map (nmR s t)++[x.nm]) S
    rw[a3];exact this
def zq5 (h1:1<=s)(h7:s<=7){L:List Itm}(v:V7 s t 0 [] L)(hl:L.length<=40):Gf L where
 v:=zoi v
 h4:=λx hx=>by
  obtain⟨i,hi⟩:=waM hx;exact(zil v hi).1
 nd:=zqc h1 v hl
 g:=λx hx=>by
   obtain⟨i,hi⟩:=waM hx;obtain⟨_,a2,a3,a4⟩:=zil v hi;have li:=(waa.mp hi).1
   rw[wbl] at a2 a4;refine⟨by rw[a2];exact zmE h1 h7 (by omega),a3.c,a3.d,a3.wd,a3.rk,λy ey=>?_⟩;obtain⟨_,j,hj,rfl⟩:=a4 y ey;exact zmE h1 h7 (by omega)
 hd:=λq hq=>by
  obtain⟨k,hk⟩:=waM hq;have lk:=(waa.mp hk).1
  have el:=zgn (P:=[]) (L:=L)
  have at':∀{i:Nat}{p:Tp},(trR [] L)[i]?=some p->L[i]?=some p.2.1:=λ{i p} h=>by
   have e:=wba (λx=>x[i]?) el
   rw[waj,h] at e;exact e.symm
  rw[zfx] at lk;obtain⟨_,a2,_,a4⟩:=zil v (at' hk);rw[wbl] at a4;cases z:q.2.1.hd with
 |none=>exact .inl z
 |some h=>
    obtain⟨hn,j,hj,rfl⟩:=a4 h z;have lj:j<(trR [] L).length:=by rw[zfx];omega
    have ej:(trR [] L)[j]?=some (trR [] L)[j]:=wap lj
    have nj:=(zil v (at' ej)).2.1
    rw[wbl] at nj;refine .inr ⟨_,List.getElem_mem lj,by rw[z,nj],zp8 ?_⟩;have e:=wba (λx=>x[k]?) (zmF (P:=[]) (l:=[]) (L:=L))
    rw[waj] at e;have hb:∃b,(tz [] [] (L.map dn))[k]?=some b:=by
     cases w:(tz [] [] (L.map dn))[k]? with
    |some b=>exact⟨b,rfl⟩
    |none=>
       have e2:=wba List.length (zn9 (P:=[]) (l:=[]) (L:=L))
       rw[wad,wad,zfx] at e2;have:=List.getElem?_eq_none_iff.mp w
       omega
    obtain⟨b,eb⟩:=hb;rw[eb] at e;have r:=zp7 (zoi v) (zqc h1 v hl) hj ej hk eb
    refine r.2 ?_;show _∉b.2.2
    rw[nj];exact hn _ e.symm
 ah:=by have:=zmH v;exact this
 l40:=hl
end
def _root_.GB.Itm.l (x:Itm):D:=.lst [.int (x.dp:Int),.str x.nm,x.bx,.str x.wd,.int x.rk,hdO x.hd]
def zqd (L:List Itm):D:=.lst (L.map Itm.l)
def wt (S:List Itm):List D:=[.lst (fo S 0).reverse,.lst (fo S 1).reverse,.lst (fo S 2).reverse,.lst (fo S 3).reverse,.lst (fo S 4).reverse,.lst (fo S 5).reverse]
def zoj {x:Itm}{S:List Itm}{e:Nat}(h:x.dp=e)(d:Nat):fo (x::S) d=if d=e then part x 0 (fo S (e+1))::fo S d else if d=e+1 then[] else fo S d:=by
 show(if d=x.dp then part x 0 (fo S (d+1))::fo S d else if d=x.dp+1 then[] else fo S d)=_
 rw[h];by_cases z:d=e
 .subst z;simp
 .rw[if_neg z,if_neg z]
def zqe {S:List Itm}{e:Nat}(he:e<=4):zlB (wt S) [] (.int (e+1))=some ((wt S).set (e+1) (.lst [])):=by
 match e,he with
|0,_=>rfl
|1,_=>rfl
|2,_=>rfl
|3,_=>rfl
|4,_=>rfl
def zq6 {S:List Itm}{e:Nat}(he:e<=4):ix2C (wt S) (.int (e+1))=some (.lst (fo S (e+1)).reverse):=by
 match e,he with
|0,_=>rfl
|1,_=>rfl
|2,_=>rfl
|3,_=>rfl
|4,_=>rfl
def zqf {x:Itm}{S:List Itm}{e:Nat}(he:e<=4)(h:x.dp=e)(hs:S.length<=1000):zlC ((wt S).set (e+1) (.lst [])) (.int e) (part x 0 (fo S (e+1)))=some (wt (x::S)):=by
 have hb:∀d,(fo S d).reverse.length<lim:=λd=>wbj (by rw[wbo];exact waq zeD hs) (by decide:1000<lim)
 have fc:=zoj (S:=S) h
 match e,he with
|0,_=>
   show(if(fo S 0).reverse.length<lim then _ else none)=_
   rw[if_pos (hb 0)];simp[wt,fc]
|1,_=>
   show(if(fo S 1).reverse.length<lim then _ else none)=_
   rw[if_pos (hb 1)];simp[wt,fc]
|2,_=>
   show(if(fo S 2).reverse.length<lim then _ else none)=_
   rw[if_pos (hb 2)];simp[wt,fc]
|3,_=>
   show(if(fo S 3).reverse.length<lim then _ else none)=_
   rw[if_pos (hb 3)];simp[wt,fc]
|4,_=>
   show(if(fo S 4).reverse.length<lim then _ else none)=_
   rw[if_pos (hb 4)];simp[wt,fc]
def zok {L:List Itm}(h4:∀x∈L,x.dp<=4)(hl:L.length<=1000):zaN [zqd L]=some (.tup (fo L 0)):=by
 show zcu (.lst (L.map Itm.l))=_
 unfold zcu;rw[zOB];show Option.bind (Option.bind (some (L.map Itm.l).reverse) _) _=_
 rw[zOB];generalize hf:(λ(s2:List D) (d3:D)=>(Option.bind (Option.bind (aC _ aN) bTuple) λ(x7:D)=>_))=f;have stp:∀(x:Itm) (S:List Itm),x.dp<=4->S.length<=1000->f (wt S) x.l=some (wt (x::S)):=by
  intro x S h4 hs;obtain⟨e,he⟩:∃e,x.dp=e:=⟨_,rfl⟩
  have e4:e<=4:=by omega
  rw[<-hf];have b0:dIx x.l (.int 0)=some (.int (e:Int)):=by rw[<-he];exact za4 (j:=0) rfl
  have b3:dAdd (.int (e:Int)) (.int 1)=some (.int ((e:Int)+1)):=rfl
  have b4:dSl x.l (some 1) none=some (.lst [.str x.nm,x.bx,.str x.wd,.int x.rk,hdO x.hd]):=rfl
  dsimp only[];rw[b0,b4];show Option.bind (Option.bind (aC (Option.bind (Option.bind (Option.bind (dAdd (.int (e:Int)) (.int 1)) λv5=>ix2C (wt S) v5) λv6=>(Option.bind (dLst v6) λds=>some ds.reverse)) λds=>some (.lst ds)) aN) bTuple) _=_
  rw[b3,zOB,zq6 e4,zOB];show Option.bind (Option.bind (some [D.lst (fo S (e+1)).reverse.reverse]) bTuple) _=_
  rw[List.reverse_reverse,zOB];show Option.bind (some (D.tup (fo S (e+1)))) _=_
  rw[zOB];show Option.bind (Option.bind (dAdd (.int (e:Int)) (.int 1)) λv9=>zlB (wt S) [] v9) _=_
  rw[b3,zOB,zqe e4,zOB];show Option.bind (Option.bind (mkT ([.str x.nm,x.bx,.str x.wd,.int x.rk,hdO x.hd]++[.tup (fo S (e+1))])) λv13=>zlC ((wt S).set (e+1) (D.lst [])) (.int (e:Int)) v13) _=_
  rw[show mkT ([.str x.nm,x.bx,.str x.wd,.int x.rk,hdO x.hd]++[.tup (fo S (e+1))])=some (part x 0 (fo S (e+1))) from if_pos (by show 6<=lim;decide),zOB,zqf e4 he hs];rfl
 have key:∀(S:List Itm),(∀x∈S,x.dp<=4)->S.length<=1000->zaZ f (wt []) (S.map Itm.l).reverse=some (wt S):=by
  intro S;induction S with
 |nil=>intro _ _;rfl
 |cons x S ih=>
    intro t hl;rw[waK] at hl;rw[waL,wbH,zeY,ih (λy hy=>t y (wae _ hy)) (by omega),zOB];exact stp x S (t x wai) (by omega)
 show Option.bind (zaZ f (wt []) (L.map Itm.l).reverse) _=_
 rw[key L h4 hl,zOB];show Option.bind (bTuple [.lst (fo L 0).reverse.reverse]) _=_
 rw[List.reverse_reverse];rfl
def fe (c n k:Int):D:=.lst [.int c,.int n,.int k]
def zqg (c n k:Int):dIx (fe c n k) (.int 0)=some (.int c)/\dIx (fe c n k) (.int 1)=some (.int n)/\dIx (fe c n k) (.int 2)=some (.int k):=⟨za4 (j:=0) rfl,za4 (j:=1) rfl,za4 (j:=2) rfl⟩
def zkp {c n k m:Int}(m0:0<m)(m1:m<1073741824):∃r c' n',zai [fe c n k,.int m]=some (.told (.int r),[fe c' n' k,.non])/\0<=r/\r<m:=by
 have hm:∀a b:Int,0<b->dMod (.int a) (.int b)=some (.int (a % b)):=λa b h=>if_pos h
 have hd:∀a:Int,dFdiv (.int a) (.int m)=some (.int (a / m)):=λa=>if_pos (show CDiv a m from⟨m0,m1⟩)
 have hl:∀a b:Int,-(2 ^ 64)<a->a<2 ^ 64->dMul (.int a) (.int b)=some (.int (a*b)):=λa b h1 h2=>if_pos (show CMul a b from .inl ⟨h1,h2⟩)
 have hr:∀a b:Int,-(2 ^ 64)<b->b<2 ^ 64->dMul (.int a) (.int b)=some (.int (a*b)):=λa b h1 h2=>if_pos (show CMul a b from .inr ⟨h1,h2⟩)
 have pw:dPow (.int 10) (.int 18)=some (.int 1000000000000000000):=rfl
 obtain⟨i0,i1,i2⟩:=zqg c n k;obtain⟨j0,j1,j2⟩:=zqg c (n+1) k;have p1:zlD (fe c n k) (.int 1) (.int (n+1))=some (fe c (n+1) k):=rfl
 show ∃r c' n',zcr (fe c n k) (.int m)=_/\_
 unfold zcr;rw[i1,zOB,show dAdd (.int n) (.int 1)=some (.int (n+1)) from rfl,zOB,p1,zOB,j0,zOB,pw,zOB,show dGe (.int c) (.int 1000000000000000000)=some (.bl (decide (1000000000000000000<=c))) from rfl,zOB,show ∀b,dB (.bl b)=some b from λ_=>rfl,zOB];by_cases h:1000000000000000000<=c
 .refine⟨c % m,c / m,n+1,?_,wbN _ (by omega),wbE _ m0⟩;rw[waE h,if_pos rfl,zOB,hm _ _ m0,zOB,zOB,hd,zOB];rfl
 .rw[wav h,if_neg (by decide)];have b1:∀x:Int,0<=x % 2147483647/\x % 2147483647<2147483647:=λx=>⟨wbN _ (by decide),wbE _ (by decide)⟩
  refine⟨((c % 1000003+7919*k+104729*(n+1))*48271 % 2147483647*((c % 1000003+7919*k+104729*(n+1))*48271 % 2147483647 % 65521+(n+1)) % 2147483629) % m,c,n+1,?_,wbN _ (by omega),wbE _ m0⟩
  .rw[zOB,hm _ _ (by decide),zOB,j2,zOB,hl _ _ (by decide) (by decide),zOB,show ∀a b,dAdd (.int a) (.int b)=some (.int (a+b)) from λ_ _=>rfl,zOB,j1,zOB,hl _ _ (by decide) (by decide),zOB,show ∀a b,dAdd (.int a) (.int b)=some (.int (a+b)) from λ_ _=>rfl,zOB,hr _ _ (by decide) (by decide),zOB,hm _ _ (by decide),zOB,hm _ _ (by decide),zOB,zOB,show ∀a b,dAdd (.int a) (.int b)=some (.int (a+b)) from λ_ _=>rfl,zOB,hl _ _ (by have:=b1 ((c % 1000003+7919*k+104729*(n+1))*48271);omega) (by have:=b1 ((c % 1000003+7919*k+104729*(n+1))*48271);omega),zOB,hm _ _ (by decide),zOB,hm _ _ m0,zOB]
def zol {S:Scr}{k:Int}(h0:0<=k):∃c,zaW S [.scr S.p,.int k]=some (.new 1 (fe c 0 k),[.non,.non]):=by
 have hl:lenS S (.scr S.p)=some (.int S.ns.length):=if_pos rfl
 show ∃c,zcq S (.scr S.p) (.int k)=_
 unfold zcq;rw[hl,zOB,zam,zOB,show ∀b,dB (.bl b)=some b from λ_=>rfl,zOB];by_cases h:(S.ns.length:Int)=0
 .rw[waE h];exact⟨0,rfl⟩
 .rw[wav h];have hp:(0:Int)<S.ns.length:=by omega
  obtain⟨x,_,hx⟩:=zjD (xs:=S.ns) (i:=k % S.ns.length) (wbN _ (by omega)) (wbE _ hp);refine⟨x,?_⟩;rw[if_neg (by decide),zOB,show dMod (.int k) (.int S.ns.length)=some (.int (k % S.ns.length)) from if_pos hp,zOB,show ixS S (.scr S.p) (.int (k % S.ns.length))=some (.int x) by show(if S.p=S.p then _ else _)=_;rw[if_pos rfl,hx];rfl];rfl
section
variable {B:Type}{R:B->Prop}
def zdR {c n k m:Int}{K:RV×D->Option B}(m0:0<m)(m1:m<1073741824)(h:∀r c' n',0<=r->r<m->Po (K (.told (.int r),fe c' n' k)) R):Po (Option.bind (zbN zai (λe=>e) [fe c n k,.int m]) K) R:=by
 obtain⟨r,c',n',e,h0,h1⟩:=zkp (c:=c) (n:=n) (k:=k) m0 m1;refine sx ?_ (h r c' n' h0 h1);show Option.bind (zai [fe c n k,.int m]) _=_
 rw[e];rfl
def zkq {c n k m:Int}{x:Option (List (Option D)×D)}{K:RV×D->Option B}(hx:x=some ([none,some (.int m)],fe c n k))(m0:0<m)(m1:m<1073741824)(h:∀r c' n',0<=r->r<m->Po (K (.told (.int r),fe c' n' k)) R):Po (Option.bind (zf0 zai [some 1,none] 0 1 (λs=>s) (λ_ e=>e) x) K) R:=by
 obtain⟨r,c',n',e,h0,h1⟩:=zkp (c:=c) (n:=n) (k:=k) m0 m1;refine sx ?_ (h r c' n' h0 h1);rw[hx];show Option.bind (zai [fe c n k,.int m]) _=_
 rw[e];rfl
def zom {S:Scr}{k:Int}{K:D×Unit->Option B}(h0:0<=k)(h:∀c,Po (K (fe c 0 k,())) R):Po (Option.bind (Option.bind (Option.bind (Option.bind (some [.scr S.p,.int k]) λd=>some (d,())) λq3=>Option.bind (zaW S q3.1) λr4=>if q3.1.length=2 then some (r4.1,q3.2) else none) newD) K) R:=by
 obtain⟨c,e⟩:=zol (S:=S) h0;refine sx ?_ (h c);show Option.bind (Option.bind (zaW S [.scr S.p,.int k]) _) newD=_
 rw[e];rfl
end
def adI (a b:Int):dAdd (.int a) (.int b)=some (.int (a+b)):=rfl
def sbI (a b:Int):dSub (.int a) (.int b)=some (.int (a - b)):=rfl
def mk4 (a b c d:D):mkT [a,b,c,d]=some (.tup [a,b,c,d]):=if_pos (by show 4<=lim;decide)
def zgq {xs:List D}{P:D->Prop}{i:Int}(h:∀d∈xs,P d)(h0:0<=i)(h1:i<xs.length):∃d,dIx (.lst xs) (.int i)=some d/\P d:=by
 obtain⟨x,hx,e⟩:=zjD (xs:=xs) h0 h1;exact⟨x,e,h x (waC hx)⟩
def zkr {c n k lo:Int}:Po (zbE (fe c n k) (.int lo)) λp=>∃r c' n',p=(.told (.int r),[fe c' n' k,.non])/\lo<=r:=by
 unfold zbE;dsimp only[];repeat (first|with_reducible refine sx rfl ?_|with_reducible refine asc ?_)
 have p9:dPow (.int 10) (.int 9)=some (.int 1000000000):=rfl
 have p51:dPow (.int 10) (.int 51)=some (.int 1000000000000000000000000000000000000000000000000000):=rfl
 rw[p9,p51];refine zkq (m:=1000000000) rfl (by decide) (by decide) λa c1 n1 a0 a1=>?_
 try dsimp only[RV.d]
 repeat (first|with_reducible refine sx rfl ?_|with_reducible refine asc ?_|with_reducible refine sx (adI _ _) ?_|with_reducible refine sx (sbI _ _) ?_|with_reducible refine sx (mk4 _ _ _ _) ?_|with_reducible refine sx (zam _ _) ?_|(dsimp only[RV.d]))
 refine sx (show dMul (.int a) (.int 1000000000000000000000000000000000000000000000000000)=some (.int (a*1000000000000000000000000000000000000000000000000000)) from if_pos (show CMul _ _ from .inl ⟨by omega,by omega⟩)) ?_;try dsimp only[RV.d]
 repeat (first|with_reducible refine sx rfl ?_|with_reducible refine asc ?_|with_reducible refine sx (adI _ _) ?_|with_reducible refine sx (sbI _ _) ?_|with_reducible refine sx (mk4 _ _ _ _) ?_|with_reducible refine sx (zam _ _) ?_|(dsimp only[RV.d]))
 refine zkq (m:=1000000000) rfl (by decide) (by decide) λb c2 n2 b0 b1=>?_
 try dsimp only[RV.d]
 repeat (first|with_reducible refine sx rfl ?_|with_reducible refine asc ?_|with_reducible refine sx (adI _ _) ?_|with_reducible refine sx (sbI _ _) ?_|with_reducible refine sx (mk4 _ _ _ _) ?_|with_reducible refine sx (zam _ _) ?_|(dsimp only[RV.d]))
 generalize a*1000000000000000000000000000000000000000000000000000+b=far;refine zdR (by decide) (by decide) λr3 c3 n3 d0 d1=>?_
 try dsimp only[RV.d]
 repeat (first|with_reducible refine sx rfl ?_|with_reducible refine asc ?_|with_reducible refine sx (adI _ _) ?_|with_reducible refine sx (sbI _ _) ?_|with_reducible refine sx (mk4 _ _ _ _) ?_|with_reducible refine sx (zam _ _) ?_|(dsimp only[RV.d]))
 refine zdR (by decide) (by decide) λr4 c4 n4 e0 e1=>?_
 try dsimp only[RV.d]
 repeat (first|with_reducible refine sx rfl ?_|with_reducible refine asc ?_|with_reducible refine sx (adI _ _) ?_|with_reducible refine sx (sbI _ _) ?_|with_reducible refine sx (mk4 _ _ _ _) ?_|with_reducible refine sx (zam _ _) ?_|(dsimp only[RV.d]))
 refine zdR (by decide) (by decide) λr5 c5 n5 f0 f1=>?_
 try dsimp only[RV.d]
 repeat (first|with_reducible refine sx rfl ?_|with_reducible refine asc ?_|with_reducible refine sx (adI _ _) ?_|with_reducible refine sx (sbI _ _) ?_|with_reducible refine sx (mk4 _ _ _ _) ?_|with_reducible refine sx (zam _ _) ?_|(dsimp only[RV.d]))
 obtain⟨_,e9,x,rfl⟩:=zgq (P:=λd=>∃x:Int,d=.int x) (i:=r5) (xs:=[.int r3,.int (0 - r4),.int far,.int (0 - far)]) (by intro d hd;simp at hd;rcases hd with h|h|h|h <;> exact⟨_,h⟩) f0 f1;refine sx e9 ?_;try dsimp only[RV.d]
 repeat (first|with_reducible refine sx rfl ?_|with_reducible refine asc ?_|with_reducible refine sx (adI _ _) ?_|with_reducible refine sx (sbI _ _) ?_|with_reducible refine sx (mk4 _ _ _ _) ?_|with_reducible refine sx (zam _ _) ?_|(dsimp only[RV.d]))
 exact⟨_,rfl,_,c5,n5,rfl,by split <;> omega⟩
section
variable {B:Type}{R:B->Prop}
def zks {c n k lo:Int}{K:RV×D->Option B}(h:∀r c' n',lo<=r->Po (K (.told (.int r),fe c' n' k)) R):Po (Option.bind (zbN zat (λe=>e) [fe c n k,.int lo]) K) R:=by
 obtain⟨_,e,r,c',n',rfl,h0⟩:=zkr (c:=c) (n:=n) (k:=k) (lo:=lo);refine sx ?_ (h r c' n' h0);show Option.bind (zat [fe c n k,.int lo]) _=_
 rw[show zat [fe c n k,.int lo]=_ from e];rfl
end
def zqh {c n k:Int}:Po (zcV (fe c n k)) λp=>∃a b x y c' n',p=(.told (.tup [.int a,.int b,.int x,.int y]),[fe c' n' k])/\1<=x/\1<=y:=by
 unfold zcV;have p60:dPow (.int 10) (.int 60)=some (.int 1000000000000000000000000000000000000000000000000000000000000):=rfl
 dsimp only[];rw[p60];repeat (first|with_reducible refine sx rfl ?_|with_reducible refine asc ?_|with_reducible refine sx (adI _ _) ?_|with_reducible refine sx (sbI _ _) ?_|with_reducible refine sx (mk4 _ _ _ _) ?_|with_reducible refine sx (zam _ _) ?_|(dsimp only[RV.d]))
 refine zks λr1 c1 n1 h1=>?_
 try dsimp only[RV.d]
 repeat (first|with_reducible refine sx rfl ?_|with_reducible refine asc ?_|with_reducible refine sx (adI _ _) ?_|with_reducible refine sx (sbI _ _) ?_|with_reducible refine sx (mk4 _ _ _ _) ?_|with_reducible refine sx (zam _ _) ?_|(dsimp only[RV.d]))
 refine zks λr2 c2 n2 h2=>?_
 try dsimp only[RV.d]
 repeat (first|with_reducible refine sx rfl ?_|with_reducible refine asc ?_|with_reducible refine sx (adI _ _) ?_|with_reducible refine sx (sbI _ _) ?_|with_reducible refine sx (mk4 _ _ _ _) ?_|with_reducible refine sx (zam _ _) ?_|(dsimp only[RV.d]))
 refine zks λr3 c3 n3 h3=>?_
 try dsimp only[RV.d]
 repeat (first|with_reducible refine sx rfl ?_|with_reducible refine asc ?_|with_reducible refine sx (adI _ _) ?_|with_reducible refine sx (sbI _ _) ?_|with_reducible refine sx (mk4 _ _ _ _) ?_|with_reducible refine sx (zam _ _) ?_|(dsimp only[RV.d]))
 refine zks λr4 c4 n4 h4=>?_
 try dsimp only[RV.d]
 repeat (first|with_reducible refine sx rfl ?_|with_reducible refine asc ?_|with_reducible refine sx (adI _ _) ?_|with_reducible refine sx (sbI _ _) ?_|with_reducible refine sx (mk4 _ _ _ _) ?_|with_reducible refine sx (zam _ _) ?_|(dsimp only[RV.d]))
 exact⟨_,rfl,r1,r2,r3,r4,c4,n4,rfl,h3,h4⟩
section
variable {B:Type}{R:B->Prop}
def zqi {c n k:Int}{K:RV×D->Option B}(h:∀a b x y c' n',1<=x->1<=y->Po (K (.told (.tup [.int a,.int b,.int x,.int y]),fe c' n' k)) R):Po (Option.bind (zbN zba (λe=>e) [fe c n k]) K) R:=by
 obtain⟨_,e,a,b,x,y,c',n',rfl,h0,h1⟩:=zqh (c:=c) (n:=n) (k:=k);refine sx ?_ (h a b x y c' n' h0 h1);show Option.bind (zba [fe c n k]) _=_
 rw[show zba [fe c n k]=_ from e];rfl
end
def zqj (lo hi:Int)(d:D):Prop:=∃n,d=.int n/\lo<=n/\n<=hi
def zim {x:Str}{th:List Str}:dInG true (.str x) (.lst (th.map D.str))=some (.bl (!decide (x∈th))):=by
 have h:(if inC (.str x) (th.map D.str)=true then some (D.bl (decide (D.str x∈th.map D.str))) else none)=some (.bl (decide (x∈th))):=zfi
 show(if inC (.str x) (th.map D.str)=true then some (D.bl (!decide (D.str x∈th.map D.str))) else none)=_
 by_cases hc:inC (.str x) (th.map D.str)=true
 .rw[if_pos hc] at h⊢;rw[D.bl.inj (waw h)]
 .rw[if_neg hc] at h;cases h
def E7 (L:List Itm)(l:List Str):List Str:=(L.filter λr=>!decide (r.nm∈l)).map Itm.nm
def l_ix (x:Itm):dIx x.l (.int 0)=some (.int (x.dp:Int))/\dIx x.l (.int 1)=some (.str x.nm):=⟨za4 (j:=0) rfl,za4 (j:=1) rfl⟩
theorem zgr:∀l:List Str,noLL (l.map D.str)=true
|[]=>rfl
|_::l=>zgr l
def zkt {L:List Itm}{l:List Str}(hl:L.length<=100):zck (λd62=>(Option.bind (Option.bind (Option.bind (dIx d62 (.int 1)) λv64=>((dInG true) v64 (.lst (l.map D.str)))) dB) λk63=>if k63 then(Option.bind (dIx d62 (.int 1)) λz=>some (some z)) else some none)) (L.map Itm.l)=some ((E7 L l).map D.str):=by
 rw[zb0 Itm.l (λr=>!decide (r.nm∈l)) (λr=>D.str r.nm) (waq hl (by decide)) λr hr=>?_]
 .unfold E7;rw[waS];rfl
 .rw[(l_ix r).2,zOB,zim,zOB];show(if(!decide (r.nm∈l))=true then some (some (D.str r.nm)) else some none)=_
  split <;> rfl
def zon {S:Scr}:Po (zcs S (.scr S.p)) λd=>∃s t L,d=(.new 2 (zqd L),[.non])/\V7 s t 0 [] L/\1<=s/\s<=7/\1<=L.length/\L.length<=40:=by
 unfold zcs;refine sx rfl ?_;refine zom (k:=0) (by decide) λc=>?_
 try dsimp only[]
 repeat (first|with_reducible refine sx rfl ?_|with_reducible refine asc ?_|with_reducible refine sx (adI _ _) ?_|with_reducible refine sx (sbI _ _) ?_|with_reducible refine sx (mk4 _ _ _ _) ?_|with_reducible refine sx (zam _ _) ?_|(dsimp only[RV.d]))
 refine zdR (by decide) (by decide) λr15 c1 n1 a0 a1=>?_
 try dsimp only[RV.d]
 repeat (first|with_reducible refine sx rfl ?_|with_reducible refine asc ?_|with_reducible refine sx (adI _ _) ?_|with_reducible refine sx (sbI _ _) ?_|with_reducible refine sx (mk4 _ _ _ _) ?_|with_reducible refine sx (zam _ _) ?_|(dsimp only[RV.d]))
 refine zdR (by decide) (by decide) λr8 c2 n2 a2 a3=>?_
 try dsimp only[RV.d]
 repeat (first|with_reducible refine sx rfl ?_|with_reducible refine asc ?_|with_reducible refine sx (adI _ _) ?_|with_reducible refine sx (sbI _ _) ?_|with_reducible refine sx (mk4 _ _ _ _) ?_|with_reducible refine sx (zam _ _) ?_|(dsimp only[RV.d]))
 obtain⟨_,e1,m,rfl,m0,m1⟩:=zgq (P:=zqj 1 40) (i:=if(if false=true then !decide (D.int r8=D.int 7) else decide (D.int r8=D.int 7))=true then 1 else 0) (xs:=[.int (1+r15),.int 40]) (by simp[zqj];omega) (by split <;> split <;> omega) (by show _<(2:Int);split <;> split <;> omega);refine sx e1 ?_;repeat (first|with_reducible refine sx rfl ?_|with_reducible refine asc ?_|with_reducible refine sx (adI _ _) ?_|with_reducible refine sx (sbI _ _) ?_|with_reducible refine sx (mk4 _ _ _ _) ?_|with_reducible refine sx (zam _ _) ?_|(dsimp only[RV.d]))
 refine zdR (by decide) (by decide) λt0 c3 n3 a4 a5=>?_
 try dsimp only[RV.d]
 repeat (first|with_reducible refine sx rfl ?_|with_reducible refine asc ?_|with_reducible refine sx (adI _ _) ?_|with_reducible refine sx (sbI _ _) ?_|with_reducible refine sx (mk4 _ _ _ _) ?_|with_reducible refine sx (zam _ _) ?_|(dsimp only[RV.d]))
 refine zdR (by decide) (by decide) λs1 c4 n4 b0 b1=>?_
 try dsimp only[RV.d]
 repeat (first|with_reducible refine sx rfl ?_|with_reducible refine asc ?_|with_reducible refine sx (adI _ _) ?_|with_reducible refine sx (sbI _ _) ?_|with_reducible refine sx (mk4 _ _ _ _) ?_|with_reducible refine sx (zam _ _) ?_|(dsimp only[RV.d]))
 obtain⟨m,rfl⟩:∃k:Nat,m=k:=⟨m.toNat,by omega⟩
 refine sx (show rngA [.int (m:Int)]=some (zbe 0 m) from(if_pos ⟨by omega,by omega⟩).trans (by rw[wbI])) ?_;try dsimp only[]
 refine znU (λi s=>∃L f,s=(f,L.map Itm.l,.lst ((lnE [] L).map D.str))/\V7 (1+s1) t0 0 [] L/\L.length=i) ⟨[],_,rfl,trivial,rfl⟩ (λi s d hd hI=>?_) λs hI=>?_
 .obtain⟨L,f,rfl,v,hL⟩:=hI;obtain⟨hi,rfl⟩:=zeT hd;try dsimp only[]
  refine zom (k:=1+(i:Int)) (by omega) λc=>?_
  try dsimp only[RV.d]
  repeat (first|with_reducible refine sx rfl ?_|with_reducible refine asc ?_|with_reducible refine sx (adI _ _) ?_|with_reducible refine sx (sbI _ _) ?_|with_reducible refine sx (mk4 _ _ _ _) ?_|with_reducible refine sx (zam _ _) ?_|(dsimp only[RV.d]))
  refine zkq (m:=if(((lnE [] L).map D.str).length:Int)+1<5 then(((lnE [] L).map D.str).length:Int)+1 else 5) rfl (by split <;> omega) (by split <;> omega) λr c' n' r0 r1=>?_
  rw[wad] at r1;obtain⟨r,rfl⟩:∃k:Nat,r=k:=⟨r.toNat,by omega⟩
  have r3:r<=(lnE [] L).length:=by split at r1 <;> omega
  have r4:r<=4:=by split at r1 <;> omega
  repeat (first|with_reducible refine sx rfl ?_|with_reducible refine asc ?_|with_reducible refine sx (adI _ _) ?_|with_reducible refine sx (sbI _ _) ?_|with_reducible refine sx (mk4 _ _ _ _) ?_|with_reducible refine sx (zam _ _) ?_|(dsimp only[RV.d]))
  have eN:dIx (.str abcS) (.int ((t0+(i:Int)) % 26))=some (.str (sg (97+((t0+(i:Int)) % 26).toNat))):=zpD (wbN _ (by decide)) (wbE _ (by decide))
  refine sx eN ?_;repeat (first|with_reducible refine sx rfl ?_|with_reducible refine asc ?_|with_reducible refine sx (adI _ _) ?_|with_reducible refine sx (sbI _ _) ?_|with_reducible refine sx (mk4 _ _ _ _) ?_|with_reducible refine sx (zam _ _) ?_|(dsimp only[RV.d]))
  refine sx (show dMul (.str (sg (97+((t0+(i:Int)) % 26).toNat))) (.int (1+s1+(i:Int) / 26))=some (.str (nmR (1+s1) t0 i)) from zpF _ (by omega) (by omega)) ?_;rw[zeE,<-List.map_take];generalize hln:(lnE [] L).take r=ln;have hE:(E7 L ln).length<=L.length:=by unfold E7;rw[wad];exact wbG _ _
  have hln5:ln.length<=4:=by rw[<-hln,waz];omega
  repeat (first|with_reducible refine sx rfl ?_|with_reducible refine asc ?_|with_reducible refine sx (adI _ _) ?_|with_reducible refine sx (sbI _ _) ?_|with_reducible refine sx (mk4 _ _ _ _) ?_|with_reducible refine sx (zam _ _) ?_|(dsimp only[RV.d]))
  rw[zkt (by omega)];repeat (first|with_reducible refine sx rfl ?_|with_reducible refine asc ?_|with_reducible refine sx (adI _ _) ?_|with_reducible refine sx (sbI _ _) ?_|with_reducible refine sx (mk4 _ _ _ _) ?_|with_reducible refine sx (zam _ _) ?_|(dsimp only[RV.d]))
  refine sx (show noDL ((E7 L ln).map D.str)=some ((E7 L ln).map D.str) from if_pos (zgr _)) ?_;repeat (first|with_reducible refine sx rfl ?_|with_reducible refine asc ?_|with_reducible refine sx (adI _ _) ?_|with_reducible refine sx (sbI _ _) ?_|with_reducible refine sx (mk4 _ _ _ _) ?_|with_reducible refine sx (zam _ _) ?_|(dsimp only[RV.d]))
  refine sx (show dAdd (.lst [D.non]) (.lst ((E7 L ln).map D.str))=some (.lst (D.non::(E7 L ln).map D.str)) from if_pos (waq (by rw[wan,wad];show 1+_<=50;omega:_<=50) (by decide))) ?_;repeat (first|with_reducible refine sx rfl ?_|with_reducible refine asc ?_|with_reducible refine sx (adI _ _) ?_|with_reducible refine sx (sbI _ _) ?_|with_reducible refine sx (mk4 _ _ _ _) ?_|with_reducible refine sx (zam _ _) ?_|(dsimp only[RV.d]))
  refine zdR (by decide) (by decide) λw cw nw w0 w1=>?_
  try dsimp only[RV.d]
  repeat (first|with_reducible refine sx rfl ?_|with_reducible refine asc ?_|with_reducible refine sx (adI _ _) ?_|with_reducible refine sx (sbI _ _) ?_|with_reducible refine sx (mk4 _ _ _ _) ?_|with_reducible refine sx (zam _ _) ?_|(dsimp only[RV.d]))
  obtain⟨_,e4,wd,rfl,hw⟩:=zgq (P:=λd=>∃x,d=.str x/\Wd x) (i:=w) (xs:=[.str "free",.str "shut",.str "hidden"]) (by intro d hd;simp at hd;rcases hd with h|h|h <;> exact⟨_,h,by simp[Wd]⟩) w0 w1;refine sx e4 ?_;repeat (first|with_reducible refine sx rfl ?_|with_reducible refine asc ?_|with_reducible refine sx (adI _ _) ?_|with_reducible refine sx (sbI _ _) ?_|with_reducible refine sx (mk4 _ _ _ _) ?_|with_reducible refine sx (zam _ _) ?_|(dsimp only[RV.d]))
  refine zqi λa b x y cb nb hx hy=>?_
  try dsimp only[RV.d]
  repeat (first|with_reducible refine sx rfl ?_|with_reducible refine asc ?_|with_reducible refine sx (adI _ _) ?_|with_reducible refine sx (sbI _ _) ?_|with_reducible refine sx (mk4 _ _ _ _) ?_|with_reducible refine sx (zam _ _) ?_|(dsimp only[RV.d]))
  refine zdR (by decide) (by decide) λrk cr nr' k0 k1=>?_
  try dsimp only[RV.d]
  repeat (first|with_reducible refine sx rfl ?_|with_reducible refine asc ?_|with_reducible refine sx (adI _ _) ?_|with_reducible refine sx (sbI _ _) ?_|with_reducible refine sx (mk4 _ _ _ _) ?_|with_reducible refine sx (zam _ _) ?_|(dsimp only[RV.d]))
  refine zkq (m:=((D.non::(E7 L ln).map D.str).length:Int)) rfl (by rw[waK];omega) (by rw[waK,wad];omega) λq cq nq q0 q1=>?_
  try dsimp only[RV.d]
  repeat (first|with_reducible refine sx rfl ?_|with_reducible refine asc ?_|with_reducible refine sx (adI _ _) ?_|with_reducible refine sx (sbI _ _) ?_|with_reducible refine sx (mk4 _ _ _ _) ?_|with_reducible refine sx (zam _ _) ?_|(dsimp only[RV.d]))
  obtain⟨_,e5,h,rfl,hh⟩:=zgq (P:=λd=>∃h:Option Str,d=hdO h/\∀y,h=some y->y∈E7 L ln) (i:=q) (xs:=D.non::(E7 L ln).map D.str) (λd hd=>by
   rcases wak.mp hd with rfl|hd
   .exact⟨none,rfl,λy e=>by cases e⟩
   .obtain⟨y,hy,rfl⟩:=way.mp hd;exact⟨some y,rfl,λz e=>by cases e;exact hy⟩) q0 q1
  refine sx e5 ?_;repeat (first|with_reducible refine sx rfl ?_|with_reducible refine asc ?_|with_reducible refine sx (adI _ _) ?_|with_reducible refine sx (sbI _ _) ?_|with_reducible refine sx (mk4 _ _ _ _) ?_|with_reducible refine sx (zam _ _) ?_|(dsimp only[RV.d]))
  have hlr:ln.length=r:=by rw[<-hln,waz];omega
  refine sx (show zjU (L.map Itm.l) (RV.new 1 (.lst [D.int ((ln.map D.str).length:Int),.str (nmR (1+s1) t0 i),.tup [.int a,.int b,.int x,.int y],.str wd,.int rk,hdO h]))=some ((L++[(⟨r,nmR (1+s1) t0 i,a,b,x,y,wd,rk,h⟩:Itm)]).map Itm.l) from by
   show(if _ then some _ else none)=_
   rw[if_pos (wbj (by rw[wad];omega:_<=100) (by decide)),waH,wad,hlr];rfl) ?_
  repeat (first|with_reducible refine sx rfl ?_|with_reducible refine asc ?_|with_reducible refine sx (adI _ _) ?_|with_reducible refine sx (sbI _ _) ?_|with_reducible refine sx (mk4 _ _ _ _) ?_|with_reducible refine sx (zam _ _) ?_|(dsimp only[RV.d]))
  refine sx (show dAdd (.lst (ln.map D.str)) (.lst [.str (nmR (1+s1) t0 i)])=some (.lst ((ln++[nmR (1+s1) t0 i]).map D.str)) from(if_pos (waq (by rw[wan,wad];show _+1<=50;omega:_<=50) (by decide))).trans (by rw[waH];rfl)) ?_;repeat (first|with_reducible refine sx rfl ?_|with_reducible refine asc ?_|with_reducible refine sx (adI _ _) ?_|with_reducible refine sx (sbI _ _) ?_|with_reducible refine sx (mk4 _ _ _ _) ?_|with_reducible refine sx (zam _ _) ?_|(dsimp only[RV.d]))
  refine⟨_,rfl,L++[(⟨r,nmR (1+s1) t0 i,a,b,x,y,wd,rk,h⟩:Itm)],fe cq nq (1+(i:Int)),?_,zko _ _ v r3 r4 (by rw[hL,wbl]) (λz e=>?_) ⟨hx,hy,hw,k0⟩,by simp[hL]⟩
  .rw[zhI];show _=(_,_,D.lst (((lnE [] L).take r++[nmR (1+s1) t0 i]).map D.str))
   rw[hln]
  .have hz:=hh z e
   unfold E7 at hz;obtain⟨x',hx',rfl⟩:=way.mp hz;obtain⟨hx',hn⟩:=wce.mp hx';obtain⟨j,hj⟩:=waM hx';refine⟨?_,j,by have:=(waa.mp hj).1;omega,by have:=(zil v hj).2.1;rwa [wbl] at this⟩;show _∉(lnE [] L).take r
   rw[hln];simpa using hn
 .obtain⟨L,f,rfl,v,hL⟩:=hI;have hl:(zbe 0 m).length=m:=by simp[zbe]
  exact⟨_,rfl,_,_,L,rfl,v,by omega,by omega,by omega,by omega⟩
def lL (x:Itm):List D:=[.int (x.dp:Int),.str x.nm,x.bx,.str x.wd,.int x.rk,hdO x.hd]
structure Gv (kind:Str)(n:Nat)(th:D)(ch:Itm->Itm):Prop where
 n1:kind≠"take"
 n2:kind≠"put"
 hg:zbI [.str kind,th]=some (.bl true)
 ha:dGet (.dct [.inr "word",.inr "box",.inr "rank",.inr "head"] [.int 2,.int 1,.int 3,.int 4]) (.str kind)=some (.int (n:Int))
 hc:∀x inn,zdN (zdD x inn) (.int (n:Int)) th=some (zdD (ch x) inn)
 hl:∀x,Like x (ch x)
 g:∀x,Gd x->Gd (ch x)
 nl:noL th=true
 hp:∀x,(ixN (lL x).length (2+((n:Int) - 1))).map (λl=>(lL x).set l th)=some (lL (ch x))
def zmI {a b c d:Int}(hc:1<=c)(hd:1<=d):Gv "box" 1 (.tup [.int a,.int b,.int c,.int d]) (λx=>{x with ba:=a,bb:=b,bc:=c,bd:=d}) where
 n1:=by decide
 n2:=by decide
 hg:=by
  show Option.bind (zbD [.tup [.int a,.int b,.int c,.int d]]) _=_
  rw[show zbD [.tup [.int a,.int b,.int c,.int d]]=some (.bl true) from zmB (x:=⟨0,"",a,b,c,d,"",0,none⟩) hc hd];rfl
 ha:=rfl
 hc:=λx inn=>rfl
 hl:=λx=>⟨rfl,rfl,rfl⟩
 g:=λx k=>⟨k.nm,hc,hd,k.wd,k.rk,k.hd⟩
 nl:=rfl
 hp:=λx=>rfl
def zku {w:Str}(h:Wd w):Gv "word" 2 (.str w) (λx=>{x with wd:=w}) where
 n1:=by decide
 n2:=by decide
 hg:=by
  show Option.bind (zbw [.str w]) _=_
  rw[zj9 h];rfl
 ha:=rfl
 hc:=λx inn=>rfl
 hl:=λx=>⟨rfl,rfl,rfl⟩
 g:=λx k=>⟨k.nm,k.c,k.d,h,k.rk,k.hd⟩
 nl:=rfl
 hp:=λx=>rfl
def zkv {r:Int}(h:0<=r):Gv "rank" 3 (.int r) (λx=>{x with rk:=r}) where
 n1:=by decide
 n2:=by decide
 hg:=by
  show Option.bind (zbx [.int r]) _=_
  rw[zka h];rfl
 ha:=rfl
 hc:=λx inn=>rfl
 hl:=λx=>⟨rfl,rfl,rfl⟩
 g:=λx k=>⟨k.nm,k.c,k.d,k.wd,h,k.hd⟩
 nl:=rfl
 hp:=λx=>rfl
def zl2 {x:Itm}(gd:Gd x){c n k w:Int}(w0:0<=w)(w1:w<3):Po (zb5 (fe c n k) x.l (.int w)) λp=>∃(kind:Str) (m:Nat) (th:D) (ch:Itm->Itm) (c' n':Int),p=(.told th,[fe c' n' k,.non,.non])/\dIx (.lst [.str "box",.str "word",.str "rank"]) (.int w)=some (.str kind)/\(m:Int)=1+w/\Gv kind m th ch:=by
 have hw:w=0\/w=1\/w=2:=by omega
 unfold zb5;dsimp only[];repeat (first|with_reducible refine sx rfl ?_|with_reducible refine asc ?_)
 refine zdR (by decide) (by decide) λr c1 n1 a0 a1=>?_
 try dsimp only[RV.d]
 repeat (first|with_reducible refine sx rfl ?_|with_reducible refine asc ?_|with_reducible refine sx (adI _ _) ?_|with_reducible refine sx (zam _ _) ?_|(dsimp only[RV.d]))
 by_cases hr:r=0
 .subst hr;rcases hw with rfl|rfl|rfl
  .exact⟨_,rfl,"box",1,_,_,c1,n1,rfl,rfl,rfl,zmI gd.c gd.d⟩
  .exact⟨_,rfl,"word",2,_,_,c1,n1,rfl,rfl,rfl,zku gd.wd⟩
  .exact⟨_,rfl,"rank",3,_,_,c1,n1,rfl,rfl,rfl,zkv gd.rk⟩
 .rw[if_neg (by simpa using hr)];rcases hw with rfl|rfl|rfl
  .refine sx (show Option.bind (dEqG false (.int 0) (.int 0)) dB=some true from rfl) ?_;rw[if_pos rfl];repeat (first|with_reducible refine sx rfl ?_|with_reducible refine asc ?_|(dsimp only[RV.d]))
   refine zqi λa b x' y cb nb hx hy=>?_
   try dsimp only[RV.d]
   repeat (first|with_reducible refine sx rfl ?_|with_reducible refine asc ?_|(dsimp only[RV.d]))
   exact⟨_,rfl,"box",1,_,_,cb,nb,rfl,rfl,rfl,zmI hx hy⟩
  .refine sx (show Option.bind (dEqG false (.int 1) (.int 0)) dB=some false from rfl) ?_;rw[if_neg (by decide)];refine sx (show Option.bind (dEqG false (.int 1) (.int 1)) dB=some true from rfl) ?_;rw[if_pos rfl];repeat (first|with_reducible refine sx rfl ?_|with_reducible refine asc ?_|(dsimp only[RV.d]))
   refine zdR (by decide) (by decide) λw cw nw w0 w1=>?_
   try dsimp only[RV.d]
   repeat (first|with_reducible refine sx rfl ?_|with_reducible refine asc ?_|(dsimp only[RV.d]))
   obtain⟨_,e4,wd,rfl,hw⟩:=zgq (P:=λd=>∃x,d=.str x/\Wd x) (i:=w) (xs:=[.str "free",.str "shut",.str "hidden"]) (by intro d hd;simp at hd;rcases hd with h|h|h <;> exact⟨_,h,by simp[Wd]⟩) w0 w1;refine sx e4 ?_;repeat (first|with_reducible refine sx rfl ?_|with_reducible refine asc ?_|(dsimp only[RV.d]))
   exact⟨_,rfl,"word",2,_,_,cw,nw,rfl,rfl,rfl,zku hw⟩
  .refine sx (show Option.bind (dEqG false (.int 2) (.int 0)) dB=some false from rfl) ?_;rw[if_neg (by decide)];refine sx (show Option.bind (dEqG false (.int 2) (.int 1)) dB=some false from rfl) ?_;rw[if_neg (by decide)];repeat (first|with_reducible refine sx rfl ?_|with_reducible refine asc ?_|(dsimp only[RV.d]))
   refine zks λr1 cr nr' h1=>?_
   try dsimp only[RV.d]
   repeat (first|with_reducible refine sx rfl ?_|with_reducible refine asc ?_|(dsimp only[RV.d]))
   exact⟨_,rfl,"rank",3,_,_,cr,nr',rfl,rfl,rfl,zkv h1⟩
theorem zg2:∀{n:Nat}{ds:List D},Ok n ds->ndL ds=true/\depL ds<=2*n
|0,ds,o=>by rw[show ds = [] from o];exact⟨rfl,wal _⟩
|n+1,ds,o=>by
   refine⟨zjG λd hd=>?_,zgL λd hd=>?_⟩
   .obtain⟨x,dp,inn,rfl,oi⟩:=o d hd;have h:=(zg2 oi).1
    show(true&&(true&&(true&&(true&&(ndD (hdO x.hd)&&(ndL inn&&true))))))=true
    rw[h];cases x.hd <;> rfl
   .obtain⟨x,dp,inn,rfl,oi⟩:=o d hd;have h:=(zg2 oi).2
    show max 0 (max 1 (max 0 (max 0 (max (depD (hdO x.hd)) (max (depL inn+1) 0)))))+1<=2*(n+1)
    have:depD (hdO x.hd)=0:=by cases x.hd <;> rfl
    rw[this];omega
theorem zkw:∀{ds:List D},(∀d∈ds,noL d=true)->noLL ds=true
|[],_=>rfl
|d::ds,h=>by
   show(noL d&&noLL ds)=true
   rw[h d wai,zkw λe he=>h e (wae _ he)];rfl
theorem zmJ:∀{n:Nat}{ds:List D},Ok n ds->noLL ds=true
|0,ds,o=>by rw[show ds = [] from o];rfl
|n+1,ds,o=>zkw λd hd=>by
   obtain⟨x,dp,inn,rfl,oi⟩:=o d hd;have h:=zmJ oi
   show(true&&(true&&(true&&(true&&(noL (hdO x.hd)&&(noLL inn&&true))))))=true
   rw[h];cases x.hd <;> rfl
def zfy {L:List Itm}(v:Vd 0 L)(neg:Bool):dEqG neg (.tup (fo L 0)) (.tup (fo L 0))=some (.bl (!neg)):=by
 have ot:=zg2 (zfn v 0)
 have hs:eqC (.tup (fo L 0)) (.tup (fo L 0))=true:=zlz ot.1 (by show depL (fo L 0)+1<=40;omega)
 exact zjF hs neg
def zqk {L:List Itm}(v:Vd 0 L):noD (.tup (fo L 0))=some (.tup (fo L 0)):=if_pos (zmJ (zfn v 0))
def zl3 {S A B:Type}{f:S->D->Option (Fl S A)}{k:Fl S A->Option B}{R:B->Prop}(I:S->Prop){ds:List D}{s0:S}(h0:I s0)(hs:∀s d,d∈ds->I s->Po (f s d) λo=>∃s',o=.nx s'/\I s')(hk:∀s,I s->Po (k (.nx s)) R):Po ((zef f s0 ds).bind k) R:=by
 have key:∀(ds:List D) (s:S),(∀s d,d∈ds->I s->Po (f s d) λo=>∃s',o=.nx s'/\I s')->I s->∃s',zef f s ds=some (.nx s')/\I s':=by
  intro ds;induction ds with
 |nil=>intro s _ h;exact⟨s,rfl,h⟩
 |cons d ds ih=>
    intro s hf h;obtain⟨_,e1,s1,rfl,h1⟩:=hf s d wai h;obtain⟨s2,e2,h2⟩:=ih s1 (λs d hd=>hf s d (wae _ hd)) h1;refine⟨s2,?_,h2⟩;show(f s d).bind _=_
    rw[e1];exact e2
 obtain⟨s',e,h⟩:=key ds s0 hs h0;exact sx e (hk s' h)
def zql {L:List Itm}(nd:(L.map Itm.nm).Nodup){i:Nat}{x:Itm}(h:L[i]?=some x)(ch:Itm->Itm):L.map (upB ch x.nm)=L.set i (ch x):=by
 refine wbT λj=>?_
 rw[waj];by_cases e:j=i
 .subst e;rw[h,wam (waa.mp h).1];show some (upB ch x.nm x)=_
  unfold upB;rw[if_pos rfl]
 .rw[wah (Ne.symm e)];cases q:L[j]? with
 |none=>rfl
 |some y=>
    show some (upB ch x.nm y)=_
    unfold upB;rw[if_neg λz=>e ?_];have a1:(L.map Itm.nm)[j]?=some x.nm:=by rw[waj,q];exact wba some z
    have a2:(L.map Itm.nm)[i]?=some x.nm:=by rw[waj,h];rfl
    exact(wbx (waa.mp a1).1 nd).mp (a1.trans a2.symm)
section
variable {B:Type}{R:B->Prop}
def zqm {x:Itm}(gd:Gd x){c n k w:Int}(w0:0<=w)(w1:w<3){K:D×D->Option B}(h:∀(kind:Str) (m:Nat) (th:D) (ch:Itm->Itm) (c' n':Int),dIx (.lst [.str "box",.str "word",.str "rank"]) (.int w)=some (.str kind)->(m:Int)=1+w->Gv kind m th ch->Po (K (th,fe c' n' k)) R):Po (Option.bind (zlS za2 (λe=>e) [fe c n k,x.l,.int w]) K) R:=by
 obtain⟨_,e,kind,m,th,ch,c',n',rfl,e1,e2,g⟩:=zl2 gd (c:=c) (n:=n) (k:=k) w0 w1;refine sx ?_ (h kind m th ch c' n' e1 e2 g);show Option.bind (za2 [fe c n k,x.l,.int w]) _=_
 rw[show za2 [fe c n k,x.l,.int w]=_ from e];show(if noL th&&true then _ else none)=_
 rw[g.nl];rfl
end
def zq7 {B:Type}{R:B->Prop}{c n k m:Int}{K:RV×D->Option B}(m0:0<m)(m1:m<1073741824)(h:∀r c' n',0<=r->r<m->Po (K (.told (.int r),fe c' n' k)) R):Po (Option.bind (zf0 zai [some 1,none] 0 1 (λs=>s) (λ_ e=>e) (some ([none,some (.int m)],fe c n k))) K) R:=zkq rfl m0 m1 h
def zqn {S:Scr}:Po (zlW S (.scr S.p)) λd=>d=.bl true:=by
 obtain⟨_,eR,s,t,L0,rfl,v,h1,h7,hl1,hl⟩:=zon (S:=S);have G0:=zq5 h1 h7 v hl
 have hungO:∀{L:List Itm},Gf L->zaN [.lst (L.map Itm.l)]=some (.tup (fo L 0)):=λ{L} G=>zok G.h4 (by have:=G.l40;omega)
 unfold zlW;repeat (first|with_reducible refine sx rfl ?_|with_reducible refine asc ?_)
 refine sx (show zct S [.scr S.p]=_ from eR) ?_;repeat (first|with_reducible refine sx rfl ?_|with_reducible refine asc ?_|with_reducible refine sx (adI _ _) ?_|(dsimp only[RV.d]))
 refine sx (hungO G0) ?_;refine sx (zqk G0.v) ?_;obtain⟨N,hN⟩:∃N:Nat,Option.bind (aC (Option.bind (aC (some (.int 12)) (aC (Option.bind ((lenS S) (.scr S.p)) λv6=>(dAdd (.int 1) v6)) aN)) bMin) aN) rngA=some (zbe 0 N):=by
  rw[show lenS S (.scr S.p)=some (.int S.ns.length) from if_pos rfl];refine⟨(if(1:Int)+S.ns.length<12 then(1:Int)+S.ns.length else 12).toNat,?_⟩;show rngA [.int (if(1:Int)+S.ns.length<12 then(1:Int)+S.ns.length else 12)]=_
  exact if_pos ⟨by split <;> omega,by split <;> omega⟩
 refine sx hN ?_;refine zl3 (λ(p:List D×D)=>∃L,p=(L.map Itm.l,.tup (fo L 0))/\Gf L/\1<=L.length) ⟨L0,rfl,G0,hl1⟩ (λp d hd hI=>?_) λp hI=>?_
 .obtain⟨L,rfl,G,hL⟩:=hI;obtain⟨j,hj⟩:=waM hd;obtain⟨hj,rfl⟩:=zeT hj;have l40:=G.l40
  dsimp only[];refine zom (k:=41+(j:Int)) (by omega) λc=>?_
  repeat (first|with_reducible refine sx rfl ?_|with_reducible refine asc ?_|with_reducible refine sx (adI _ _) ?_|(dsimp only[RV.d]))
  refine zq7 (m:=((L.map Itm.l).length:Int)) (by rw[wad];omega) (by rw[wad];omega) λr c' n' r0 r1=>?_
  rw[wad] at r1;obtain⟨r,rfl⟩:∃k:Nat,r=k:=⟨r.toNat,by omega⟩
  repeat (first|with_reducible refine sx rfl ?_|with_reducible refine asc ?_|with_reducible refine sx (adI _ _) ?_|(dsimp only[RV.d]))
  refine zdR (by decide) (by decide) λw c2 n2 w0 w1=>?_
  repeat (first|with_reducible refine sx rfl ?_|with_reducible refine asc ?_|with_reducible refine sx (adI _ _) ?_|(dsimp only[RV.d]))
  have hr:L[r]?=some (L[r]'(by omega)):=wap _
  generalize L[r]'(by omega)=x at hr;have gx:Gd x:=G.g x (waC hr)
  have er:dIx (.lst (L.map Itm.l)) (.int (r:Int))=some x.l:=za4 (j:=r) (by rw[waj,hr];rfl)
  rw[er];repeat (first|with_reducible refine sx rfl ?_|with_reducible refine asc ?_|with_reducible refine sx (adI _ _) ?_|(dsimp only[RV.d]))
  show Po (Option.bind (zlS za2 (λe=>e) [fe c2 n2 (41+(j:Int)),x.l,.int w]) _) _
  refine zqm gx w0 w1 λkind m th ch c3 n3 e1 e2 g=>?_
  dsimp only[];refine sx (a:=.tup (fo L 0)) (by rw[hungO G];exact zqk G.v) ?_;refine sx (a:=.tup [.str kind,.str x.nm,th]) ?_ ?_
  .rw[e1];show noD (.tup [.str kind,.str x.nm,th])=_
   refine if_pos ?_;show(true&&(true&&(noL th&&true)))=true
   rw[g.nl];rfl
  obtain⟨G2,ed⟩:=zoh g.n1 g.n2 g.hg G (way.mpr ⟨x,waC hr,rfl⟩) g.ha g.hc g.hl λy _=>g.g y
  have eset:=zql G.nd hr ch
  refine sx ed ?_;refine sx (a:=(L.map (upB ch x.nm)).map Itm.l) ?_ ?_
  .show zjT (L.map Itm.l) (.int (r:Int)) (.int (2+w)) th=_
   have hp:=g.hp x
   rw[show(2:Int)+((m:Int) - 1)=2+w by omega] at hp;obtain⟨l,el,es⟩:=wbC.mp hp;have hrl:=(waa.mp hr).1
   have ex:ixN (L.map Itm.l).length (r:Int)=some r:=by
    unfold ixN;rw[wad,if_pos (by omega),if_pos (by omega)];rfl
   show(ixN (L.map Itm.l).length (r:Int)).bind _=_
   rw[ex,zOB,waj,hr];show(ixN (lL x).length (2+w)).bind (λl=>some ((L.map Itm.l).set r (.lst ((lL x).set l th))))=_
   rw[el,zOB,eset,List.map_set];show some ((L.map Itm.l).set r (.lst ((lL x).set l th)))=some ((L.map Itm.l).set r (.lst (lL (ch x))))
   rw[es]
  refine sx (a:=false) ?_ ?_
  .show(Option.bind (Option.bind (zaN [.lst ((L.map (upB ch x.nm)).map Itm.l)]) λv41=>dEqG true (.tup (fo (L.map (upB ch x.nm)) 0)) v41) dB).bind _=_
   rw[hungO G2,zOB,zfy G2.v];show(Option.bind (dEqG true (.tup (fo L 0)) (.tup (fo L 0))) dB).bind _=_
   rw[zfy G.v];show(Option.bind (Option.bind (zeX [.tup (fo L 0),.tup [.str kind,.str x.nm,th]]) λv38=>dEqG true v38 (.tup (fo (L.map (upB ch x.nm)) 0))) dB)=_
   rw[ed,zOB,zfy G2.v];rfl
  rw[if_neg (by decide)];exact⟨_,rfl,_,rfl,_,rfl,G2,by rw[wad];exact hL⟩
 .obtain⟨L,rfl,G,hL⟩:=hI;show Po (Option.bind (Option.bind (Option.bind (zaN [.lst (L.map Itm.l)]) λv46=>((dEqG false) (.tup (fo L 0)) v46)) noD) λ(r47:D)=>(some r47)) _
  rw[hungO G,zOB,zfy G.v];exact⟨_,rfl,rfl⟩
def zqo {S:Scr}:znX S [.scr S.p]=some (.bl true):=by
 obtain⟨d,e,rfl⟩:=zqn (S:=S);exact e
end Pg
namespace VD
open PySem PySem.Spec PyProof PyProof.Rows L2 PySem.W
def PcM (K:W.Frag)(S:Scr)(ts:List (Addr×Str))(H:Hp):Prop:=SqF K S H/\∀t∈ts,TabH t.1 t.2 H
def zqp {K:W.Frag}{S:Scr}{ts:List (Addr×Str)}:Pers (PcM K S ts):=⟨λu h=>⟨pers_F.st u h.1,λt ht=>pers_T.st u (h.2 t ht)⟩,λs h=>⟨pers_F.sm s h.1,λt ht=>pers_T.sm s (h.2 t ht)⟩⟩
def zg3 {K:W.Frag}{S:Scr}{ts:List (Addr×Str)}(i:Nat){t:Addr×Str}(h:ts[i]?=some t):∀H,PcM K S ts H->TabH t.1 t.2 H:=λH hp=>hp.2 t (waC h)
def nmM (ts:List (Addr×Str))(a:Addr):Array Value:=#[.str ((ts.lookup a).getD "") 0]
theorem zmK:∀{ts:List (Addr×Str)},(ts.map (·.1)).Nodup->∀t∈ts,(nmM ts t.1)[0]?=some (Value.str t.2 0)
|[],_,t,h=>by cases h
|(a,q)::ts,nd,t,h=>by
   rw[waL,waF] at nd;rcases wak.mp h with rfl|h
   .unfold nmM;simp
   .have hne:(t.1 == a)=false:=beq_eq_false_iff_ne.mpr λz=>nd.1 (by rw[<-z];exact way.mpr ⟨t,h,rfl⟩)
    have ih:=zmK nd.2 t h
    unfold nmM at ih⊢;rw[wbe,hne];exact ih
def spM (K:W.Frag)(qs:List Str):List Addr->(Addr->Array Value)->Sp:=λtb nm vs H Q _=>vs.length=1/\(tb.length=qs.length->(∀t∈tb.zip qs,(nm t.1)[0]?=some (Value.str t.2 0))->∃S:Scr,vs = [.ref S.p]/\PcM K S (tb.zip qs) H/\∀H',Q (.bl true) H')
def lawM {P:Program}{w:World}{K:W.Frag}{mg:Str->Option Value}{base:Heap}{k:Nat}{f:Addr}{fd:FuncData}{x:Str}{tb:List Addr}{qs:List Str}{m:Scr->List D->Option D}{nm:Addr->Array Value}
 (hl0:tb.length=qs.length) (hn:∀t∈tb.zip qs,(nm t.1)[0]?=some (Value.str t.2 0)) (F:∀S:Scr,FnOk P w K mg base CX0 k f fd [x] (pcS (PcM K S (tb.zip qs)) (spF K (m S)))) (hl:∀S:Scr,m S [.scr S.p]=some (.bl true)):FnOk P w K mg base CX0 k f fd [x] (spM K qs tb nm):=
 ⟨λvs H Q E h=>h.1,λA outer s H args us vs Q E hr he hb hv h=>by
  obtain⟨S,e,hP,hq⟩:=h.2 hl0 hn;subst e;refine(F S).run A outer s H args us _ Q E hr he hb hv ⟨hP,λ_=>False,[.scr S.p],.bl true,λ_ h=>h.elim,.cons (.scr _) .nil,hl S,λv H' J' u r=>?_⟩;cases r;exact hq _⟩
def walkM {l:PySem.W.OpenLaw}{k:Nat}{x:Str}{qs:List Str}{q:Program}{loose:List Str}{XP:(Str->Option Value)->Heap->Prop}{YP:World->Heap->Prop}{d:DefRec}{K:Params->W.Frag}(hn:l.most=some 63)(hdf:d.params.defaults = [])(hr:Room k callerA)
 (hY:∀(w:World) (h:Heap),YP w h->(K w.params).In h)
 (F:∀(w:World) (mg mb:Str->Option Value) (mean:ExcName->Option Value) (fa:Addr) (h:Heap),(K w.params).In h->Top q (PySem.W.looseW q loose) mean mg mb h->mg d.name=some (.ref fa)->
  ∃(fd:FuncData) (tb:List Addr) (nm:Addr->Array Value),Tabs (K w.params) h tb/\(∀(s:Shared) (u:Value),BindsTo s fd ⟨[u],[]⟩ [(x,u)])/\
   ∀(base:Heap) (bm:Addr) (ob:Obj),(K w.params).In base->base.Ns mainGlobals mg->BMod base mainGlobals mg bm ob->FnOk l.prog w (K w.params) mg base CX0 k fa fd [x] (spM (K w.params) qs tb nm)) :
 PySem.W.WalkO q loose XP YP l.row.toRowW d [] (λf vs=>PySem.call f vs):=
 zkM (n:=63) (k:=k) (x:=x) (CX:=λ_=>CX0) (sp:=λw=>spM (K w.params) qs) hn (by decide) hdf hr hY F
  (λw tb nm H a ns hl hT hS hF=>⟨rfl,λh0 h1=>⟨⟨a,ns⟩,rfl,⟨SqF.of hS hF,λt ht=>⟨_,hT t.1 (wci ht).1,h1 t ht⟩⟩,λ_=>rfl⟩⟩) λ_ _ _ _ _ z=>z
def zfz {K:W.Frag}{h:Heap}{ct Pt p:Addr}{ocd:Obj}{vs:Array Value}(X:K.In h)(hB:Based h h ct Pt #[])(lt:K.lookup ct=some ocd)(dt:ocd.data=.fields vs)(v11:vs.getD 11 .none=.ref p):Pt=p:=by
 obtain⟨o,vs',_,_,_,_,_,_,_,_,e1,e2,e3,_⟩:=hB.code;rw[X _ _ lt] at e1;cases e1;rw[dt] at e2;cases e2;rw[v11] at e3;cases e3;rfl
theorem zkx {P:Program}{w:World}{K:W.Frag}{mg:Str->Option Value}{base:Heap}{f:Addr}{fd:FuncData}{ps:List Str}{x:Str}{Pc:Hp->Prop}{b:(List D->Option D)->List D->Option D}{m:Nat->List D->Option D}{c:Nat}(h0:∀ds,m 0 ds=none)(hs:∀n,m (n+1)=b (m n))
 (bd:Binds K fd ps []) (kp:W.keepIn K (.ref f)=true) (mx:mg x=some (.ref f)) {k:Nat}(hlen:∀n ds d,m n ds=some d->ds.length=ps.length)
 (step:∀{n:Nat}{self:List D->Option D},Cal P w K mg base n x ps (pcS Pc (spF K self))->FnOk P w K mg base CX0 (n+c) f fd ps (pcS Pc (spF K (b self)))):∀n,FnOk P w K mg base CX0 (k+c*n) f fd ps (pcS Pc (spF K (m n)))
|0=>by
   refine⟨λvs H Q E h=>?_,λA outer s H args us vs Q E _ _ _ _ h=>?_⟩
   .obtain⟨_,J,ds,d,_,_,e,_⟩:=h;rw[h0] at e;cases e
   .obtain⟨_,J,ds,d,_,_,e,_⟩:=h;rw[h0] at e;cases e
|n+1=>by
   rw[hs,Nat.mul_succ,<-Nat.add_assoc];exact step ⟨f,fd,zkx h0 hs bd kp mx hlen step n,bd,kp,mx⟩
end VD
namespace PySem.W.Fast
def tw13610456313811831144:=0
def tw6877624186469021558:=0
def tw17587223093108212890:=0
def tw7444975746989573112:=0
def tw10552276919445246196:=0
def tw11631781911536344132:=0
def tw10224496449785635164:=0
def tw17316410100589907491:=0
def tw18183951893229034412:=0
def tw10976738317883233335:=0
def tw17760745644792700621:=0
def tw13290758181527233510:=0
def tw3521940020776742777:=0
def tw7440280699499440784:=0
def tw8424594704656868962:=0
def tw1191192133883614434:=0
def tw10263229549953772171:=0
def tw6016804824181994641:=0
def tw13584452837291391068:=0
def tw12211308174540024247:=0
def tw12771541785652313209:=0
def tw6096775857050910233:=0
def tw13127679336819075410:=0
def tw9894254559970036215:=0
def tw12448787727187276091:=0
def tw1795285515809070923:=0
def tw10172279950055955628:=0
def tw4394213102254181314:=0
def tw14993303251839174119:=0
def tw5598712223787522664:=0
def tw7983801870191676084:=0
def tw12311678607443965126:=0
def tw9080943732367589212:=0
def tw5808326774790799341:=0
def tw9812746936236805411:=0
def tw13727943297854351780:=0
def tw15621755300322939867:=0
def tw530995030915923398:=0
def tw3965958209265130263:=0
def tw2033047172860188197:=0
def tw5442013777253862120:=0
def tw777856554687769555:=0
def tw8690789891580555562:=0
def tw14950623781224005806:=0
def tw1183703129492291028:=0
def tw7716345157519598608:=0
def tw3594551162243358857:=0
def tw8826591682099494915:=0
def tw11486217199192069652:=0
def tw2948704782757540712:=0
def tw6291487672006906813:=0
def tw15498070046277966212:=0
def tw17721352169818098368:=0
def tw12325096493713532840:=0
def tw4954344844143947710:=0
def tw4079368361656030344:=0
def tw12249732169342000612:=0
def tw13377711459753767168:=0
def tw15992959478774614928:=0
def tw1280580864754644994:=0
def tw12005653320206501822:=0
def tw1626669703655484208:=0
def tw7899596024391985169:=0
def tw2937945565017083104:=0
def tw16630856251050480392:=0
def tw5989777343796219788:=0
def tw1734556018409611761:=0
def tw14145922093748577347:=0
def tw3324238776895170571:=0
def tw539624017458462574:=0
def tw235352153929397259:=0
def tw11293056554203380495:=0
def tw10654938068280101238:=0
def tw16663352896731047241:=0
def tw11627492060422081482:=0
def tw16726014422030208880:=0
def tw10820725770857754822:=0
def tw1696721175987390780:=0
def tw14326807529159918054:=0
def tw3167195279876941593:=0
def tw16417438743153707713:=0
def tw11504661500226557132:=0
def tw9524444316993521320:=0
def tw12054932343244579342:=0
def tw12930021975464248628:=0
def tw9592505232083288471:=0
def tw4672962930767596662:=0
def tw11021323688956464167:=0
def tw13269859113129143484:=0
def tw11545638117262484578:=0
def tw10325207132507319544:=0
def tw15537586925197595414:=0
def tw918989939884271862:=0
def tw4227111383042474293:=0
def tw12738919694824905560:=0
def tw10767632839734040063:=0
def tw2891179981063607483:=0
def tw6008526730864343720:=0
def tw12335711074029290182:=0
def tw11684827991648555874:=0
def tw12392969383827206685:=0
def tw4724896543849708411:=0
def tw18193669173345694334:=0
def tw12535308712756812504:=0
def tw6677614015027564950:=0
def tw16472120251931321055:=0
def tw4563023154831309973:=0
def tw9772154134475956913:=0
def tw159642623762374796:=0
def tw8299996573514925083:=0
end PySem.W.Fast
namespace Pg
open PySem PySem.Spec PyProof PyProof.Rows L2 VD EX
def zaE {p:Str->Prop}{x:Str}{xs:List Str}(h:p x)(t:∀y∈xs,p y):∀y∈x::xs,p y:=λy hy=>(wak.mp hy).elim (λe=>e▸h) (t y)
def FH (K:W.Frag)(x:Str)(st:Stmt)(f:Addr):Prop:=W.nsIn K mainGlobals x=some (some (.ref f))/\(∃fd,Fun K x x st f fd)/\W.keepIn K (.ref f)=true
def fh_mk {K:W.Frag}{x:Str}{st:Stmt}{f:Addr}{oc:Value}{od an:Option Addr}{osl:Array (Option Value)}{kV doc pm cdv ct:Value}(a:W.nsIn K mainGlobals x=some (some (.ref f)))(l:K.lookup f=some ⟨oc,od,.func (W.fnOf x x (zbK st) (zaX st) (zab st) .none kV doc pm an cdv ct),osl⟩)(c:W.codeIn K cdv x=true)(k:W.keepIn K (.ref f)=true):FH K x st f:=⟨a,⟨_,zfO l c k⟩,k⟩
def zdt:∀(n:Nat) (ds:List D) (d:D),zaI n ds=some d->ds.length=2
|0,ds,d,e=>by cases e
|n+1,ds,d,e=>zcy ds d e
def zeM:∀(n:Nat) (ds:List D) (d:D),zaw n ds=some d->ds.length=2
|0,ds,d,e=>by cases e
|n+1,ds,d,e=>zcy ds d e
def zeF:∀(n:Nat) (ds:List D) (d:D),zax n ds=some d->ds.length=4
|0,ds,d,e=>by cases e
|n+1,ds,d,e=>zmr ds d e
def all_mk {l:PySem.W.OpenLaw}{q:Program}{loose:List Str}{w:World}{K:W.Frag}{h:Heap}{mg mb:Str->Option Value}{mean:ExcName->Option Value}{dR6 dR8 dR13:DefRec}{fa f1 f2 f3 f4 f5 f6 f7 f8 f9 f10 f11 f12 f13 f14 f15 f16 f17 f18 f19 f20 f21 f22 f23 f24 f25 f26 f27 f28 f29 f30 f31 f32 f33 f34 f35 q6 p6 q8 p8 q13 p13:Addr}(X:K.In h)(T:Top q loose mean mg mb h)(hfa:mg "law"=some (.ref fa))
 {od6 an6 od8 an8 od13 an13 od35 an35:Option Addr}{sl6 sl8 sl13 sl35:Array (Option Value)}{oc6 kV6 dc6 pm6 ct6 oc8 kV8 dc8 pm8 ct8 oc13 kV13 dc13 pm13 ct13 oc35 kV35 dc35 pm35 ct35 cd35:Value}
 {oct6:Obj}{vs6:Array Value}(lt6:K.lookup q6=some oct6) (dt6:oct6.data=.fields vs6) (v6:vs6.getD 11 .none=.ref p6)
 {oct8:Obj}{vs8:Array Value}(lt8:K.lookup q8=some oct8) (dt8:oct8.data=.fields vs8) (v8:vs8.getD 11 .none=.ref p8)
 {oct13:Obj}{vs13:Array Value}(lt13:K.lookup q13=some oct13) (dt13:oct13.data=.fields vs13) (v13:vs13.getD 11 .none=.ref p13)
 (nd:[p6,p8,p13].Nodup)
 (h1:FH K "placed_within" zbP f1)
 (h2:FH K "placed_parts" zb8 f2)
 (h3:FH K "parts_of" zcP f3)
 (h4:FH K "names_of" zcO f4)
 (h5:FH K "part_of" zep f5)
 (a6:W.nsIn K mainGlobals "is_name"=some (some (.ref f6))) (l6:K.lookup f6=some ⟨oc6,od6,.func (W.fnOf "is_name" "is_name" (zbK zbt) (zaX zbt) (zab zbt) .none kV6 dc6 pm6 an6 (.ref q6) ct6),sl6⟩) (c6:W.codeIn K (.ref q6) "is_name"=true) (k6:W.keepIn K (.ref f6)=true)
 (h7:FH K "is_whole" zdz f7)
 (a8:W.nsIn K mainGlobals "is_box"=some (some (.ref f8))) (l8:K.lookup f8=some ⟨oc8,od8,.func (W.fnOf "is_box" "is_box" (zbK zb1) (zaX zb1) (zab zb1) .none kV8 dc8 pm8 an8 (.ref q8) ct8),sl8⟩) (c8:W.codeIn K (.ref q8) "is_box"=true) (k8:W.keepIn K (.ref f8)=true)
 (h9:FH K "is_word" zes f9)
 (h10:FH K "is_rank" zet f10)
 (h11:FH K "is_head" zeu f11)
 (h12:FH K "is_part" zer f12)
 (a13:W.nsIn K mainGlobals "are_parts"=some (some (.ref f13))) (l13:K.lookup f13=some ⟨oc13,od13,.func (W.fnOf "are_parts" "are_parts" (zbK za1) (zaX za1) (zab za1) .none kV13 dc13 pm13 an13 (.ref q13) ct13),sl13⟩) (c13:W.codeIn K (.ref q13) "are_parts"=true) (k13:W.keepIn K (.ref f13)=true)
 (h14:FH K "musts_of" zcQ f14)
 (h15:FH K "refuse_twice" zb9 f15)
 (h16:FH K "are_nested" zcC f16)
 (h17:FH K "refuse_heads" zbj f17)
 (h18:FH K "tied_names" zbu f18)
 (h19:FH K "ring_of" zev f19)
 (h20:FH K "checked" zeq f20)
 (h21:FH K "is_given" zdA f21)
 (h22:FH K "is_rest" zex f22)
 (h23:FH K "is_deed" zew f23)
 (h24:FH K "with_thing" zcD f24)
 (h25:FH K "with_put" zh1 f25)
 (h26:FH K "without" zj0 f26)
 (h27:FH K "done" zjZ f27)
 (h28:FH K "_law_feed" zc8 f28)
 (h29:FH K "_law_next" zc9 f29)
 (h30:FH K "_law_number" zcm f30)
 (h31:FH K "_law_box" zdB f31)
 (h32:FH K "_law_rows" zcn f32)
 (h33:FH K "_law_hung" zco f33)
 (h34:FH K "_law_thing" zcE f34)
 (a35:W.nsIn K mainGlobals "law"=some (some (.ref f35))) (l35:K.lookup f35=some ⟨oc35,od35,.func (W.fnOf "law" "law" (zbK zfo) (zaX zfo) (zab zfo) .none kV35 dc35 pm35 an35 cd35 ct35),sl35⟩) (c35:W.codeIn K cd35 "law"=true) (k35:W.keepIn K (.ref f35)=true)
 (z0:W.nsIn K mainGlobals "len"=some none)
 (z1:W.nsIn K mainGlobals "range"=some none)
 (z2:W.nsIn K mainGlobals "min"=some none)
 (z3:W.nsIn K mainGlobals "max"=some none)
 (z4:W.nsIn K mainGlobals "int"=some none)
 (z5:W.nsIn K mainGlobals "str"=some none)
 (z6:W.nsIn K mainGlobals "bool"=some none)
 (z7:W.nsIn K mainGlobals "list"=some none)
 (z8:W.nsIn K mainGlobals "tuple"=some none)
 (z9:W.nsIn K mainGlobals "isinstance"=some none)
 (z10:W.nsIn K mainGlobals "any"=some none)
 (z11:W.nsIn K mainGlobals "all"=some none)
 (z12:W.nsIn K mainGlobals "enumerate"=some none)
 (z13:W.nsIn K mainGlobals "abs"=some none)
 (z14:W.nsIn K mainGlobals "sorted"=some none)
 (z15:W.nsIn K mainGlobals "dict"=some none)
 (z16:W.nsIn K mainGlobals "ord"=some none)
 (z17:W.nsIn K mainGlobals "chr"=some none)
 (z18:W.nsIn K mainGlobals "reversed"=some none)
 {tk_PARTS:Tok}
 {tk_NAME:Tok}
 {tk_LONGEST_NAME:Tok}
 {tk_LETTERS:Tok}
 {p_WORDS:Addr}{od_WORDS:Option Addr}{n_WORDS:Nat}{sl_WORDS:Array (Option Value)}{tk_WORDS_0 tk_WORDS_1 tk_WORDS_2:Tok}
 {tk_DEEPEST:Tok}
 {tk_HEAD:Tok}
 {tk_MOST_PARTS:Tok}
 {p_GIVEN:Addr}{es_GIVEN:Array DictEntry}{ep_GIVEN:Nat}
 (K_str:Kit K "str")
 (K_bool:Kit K "bool")
 (K_int:Kit K "int")
 (K_tuple:Kit K "tuple")
 (g_PARTS:W.nsIn K mainGlobals "PARTS"=some (some (.int 5 tk_PARTS)))
 (g_NAME:W.nsIn K mainGlobals "NAME"=some (some (.int 0 tk_NAME)))
 (g_LONGEST_NAME:W.nsIn K mainGlobals "LONGEST_NAME"=some (some (.int 8 tk_LONGEST_NAME)))
 (g_LETTERS:W.nsIn K mainGlobals "LETTERS"=some (some (.str "abcdefghijklmnopqrstuvwxyz" tk_LETTERS)))
 (g_WORDS:W.nsIn K mainGlobals "WORDS"=some (some (.ref p_WORDS)))
 (l_WORDS:K.lookup p_WORDS=some ⟨.type "tuple",od_WORDS,.seq #[.str "free" tk_WORDS_0,.str "shut" tk_WORDS_1,.str "hidden" tk_WORDS_2] n_WORDS,sl_WORDS⟩)
 (g_DEEPEST:W.nsIn K mainGlobals "DEEPEST"=some (some (.int 5 tk_DEEPEST)))
 (g_HEAD:W.nsIn K mainGlobals "HEAD"=some (some (.int 4 tk_HEAD)))
 (g_MOST_PARTS:W.nsIn K mainGlobals "MOST_PARTS"=some (some (.int 40 tk_MOST_PARTS)))
 (g_GIVEN:W.nsIn K mainGlobals "GIVEN"=some (some (.ref p_GIVEN)))
 (l_GIVEN:K.lookup p_GIVEN=some ⟨.type "dict",none,.dict es_GIVEN ep_GIVEN,#[]⟩)
 (e_GIVEN:EntI w es_GIVEN.toList [("word",2),("box",1),("rank",3),("head",4)])
 (hK:PySem.W.kb_classed K=true) (hf6:(recsOf q).find? (λe=>e.name == (Str.ofString "is_name"))=some dR6) (hf8:(recsOf q).find? (λe=>e.name == (Str.ofString "is_box"))=some dR8) (hf13:(recsOf q).find? (λe=>e.name == (Str.ofString "are_parts"))=some dR13)
 : ∃(fd:FuncData) (tb:List Addr) (nm:Addr->Array Value),Tabs K h tb/\(∀(s:Shared) (v:Value),BindsTo s fd ⟨[v],[]⟩ [("_law_script",v)])/\∀(base:Heap) (bm:Addr) (ob:Obj),K.In base->base.Ns mainGlobals mg->BMod base mainGlobals mg bm ob->FnOk l.prog w K mg base CX0 54 fa fd ["_law_script"] (spM K ["is_name.<locals>.<genexpr>","is_box.<locals>.<genexpr>","are_parts.<locals>.<genexpr>"] tb nm):=by
 have e:=hfa.symm.trans (wbJ X T.g a35)
 cases e;have G_PARTS:GlobD K mg "PARTS" (.int 5):=zcI (wbJ X T.g g_PARTS)
 have G_NAME:GlobD K mg "NAME" (.int 0):=zcI (wbJ X T.g g_NAME)
 have G_LONGEST_NAME:GlobD K mg "LONGEST_NAME" (.int 8):=zcI (wbJ X T.g g_LONGEST_NAME)
 have G_LETTERS:GlobD K mg "LETTERS" (.str "abcdefghijklmnopqrstuvwxyz"):=zla (wbJ X T.g g_LETTERS)
 have G_WORDS:GlobD K mg "WORDS" (.tup [(.str "free"),(.str "shut"),(.str "hidden")]):=zlb (vs:=[.str "free",.str "shut",.str "hidden"]) (wbJ X T.g g_WORDS) l_WORDS rfl rfl (by show 3<=sizeLine;decide) (.cons ⟨_,rfl⟩ (.cons ⟨_,rfl⟩ (.cons ⟨_,rfl⟩ (.nil)))) (λ_ _=>.cons (.str _) (.cons (.str _) (.cons (.str _) (.nil))))
 have G_DEEPEST:GlobD K mg "DEEPEST" (.int 5):=zcI (wbJ X T.g g_DEEPEST)
 have G_HEAD:GlobD K mg "HEAD" (.int 4):=zcI (wbJ X T.g g_HEAD)
 have G_MOST_PARTS:GlobD K mg "MOST_PARTS" (.int 40):=zcI (wbJ X T.g g_MOST_PARTS)
 have G_GIVEN:GDct l.prog w K mg "GIVEN" [.inr "word",.inr "box",.inr "rank",.inr "head"] [.int 2,.int 1,.int 3,.int 4]:=zlP (wbJ X T.g g_GIVEN) l_GIVEN e_GIVEN (by decide)
 obtain⟨a1,⟨_,F1⟩,k1⟩:=h1;have b1:=F1.binds (ps:=["parts","outer_place"]) λ_ _ _ _ _ _ us hl=>match us,hl with|[_,_],_=>rfl
 have m1:=wbJ X T.g a1
 obtain⟨a2,⟨_,F2⟩,k2⟩:=h2;obtain⟨a3,⟨_,F3⟩,k3⟩:=h3;obtain⟨a4,⟨_,F4⟩,k4⟩:=h4;obtain⟨a5,⟨_,F5⟩,k5⟩:=h5;have F6:=zfO (st:=zbt) l6 c6 k6
 have m6:=wbJ X T.g a6
 obtain⟨a7,⟨_,F7⟩,k7⟩:=h7;have F8:=zfO (st:=zb1) l8 c8 k8
 have m8:=wbJ X T.g a8
 obtain⟨a9,⟨_,F9⟩,k9⟩:=h9;obtain⟨a10,⟨_,F10⟩,k10⟩:=h10;obtain⟨a11,⟨_,F11⟩,k11⟩:=h11;obtain⟨a12,⟨_,F12⟩,k12⟩:=h12;have F13:=zfO (st:=za1) l13 c13 k13
 have b13:=F13.binds (ps:=["thing","deep"]) λ_ _ _ _ _ _ us hl=>match us,hl with|[_,_],_=>rfl
 have m13:=wbJ X T.g a13
 obtain⟨a14,⟨_,F14⟩,k14⟩:=h14;obtain⟨a15,⟨_,F15⟩,k15⟩:=h15;obtain⟨a16,⟨_,F16⟩,k16⟩:=h16;obtain⟨a17,⟨_,F17⟩,k17⟩:=h17;obtain⟨a18,⟨_,F18⟩,k18⟩:=h18;obtain⟨a19,⟨_,F19⟩,k19⟩:=h19;obtain⟨a20,⟨_,F20⟩,k20⟩:=h20;obtain⟨a21,⟨_,F21⟩,k21⟩:=h21;obtain⟨a22,⟨_,F22⟩,k22⟩:=h22;obtain⟨a23,⟨_,F23⟩,k23⟩:=h23;obtain⟨a24,⟨_,F24⟩,k24⟩:=h24;have b24:=F24.binds (ps:=["parts","name","at","thing"]) λ_ _ _ _ _ _ us hl=>match us,hl with|[_,_,_,_],_=>rfl
 have m24:=wbJ X T.g a24
 obtain⟨a25,⟨_,F25⟩,k25⟩:=h25;obtain⟨a26,⟨_,F26⟩,k26⟩:=h26;obtain⟨a27,⟨_,F27⟩,k27⟩:=h27;obtain⟨a28,⟨_,F28⟩,k28⟩:=h28;obtain⟨a29,⟨_,F29⟩,k29⟩:=h29;obtain⟨a30,⟨_,F30⟩,k30⟩:=h30;obtain⟨a31,⟨_,F31⟩,k31⟩:=h31;obtain⟨a32,⟨_,F32⟩,k32⟩:=h32;obtain⟨a33,⟨_,F33⟩,k33⟩:=h33;obtain⟨a34,⟨_,F34⟩,k34⟩:=h34;have F35:=zfO (st:=zfo) l35 c35 k35
 have B:Blt mg:=zaE (waO X T.g z0) (zaE (waO X T.g z1) (zaE (waO X T.g z2) (zaE (waO X T.g z3) (zaE (waO X T.g z4) (zaE (waO X T.g z5) (zaE (waO X T.g z6) (zaE (waO X T.g z7) (zaE (waO X T.g z8) (zaE (waO X T.g z9) (zaE (waO X T.g z10) (zaE (waO X T.g z11) (zaE (waO X T.g z12) (zaE (waO X T.g z13) (zaE (waO X T.g z14) (zaE (waO X T.g z15) (zaE (waO X T.g z16) (zaE (waO X T.g z17) (zaE (waO X T.g z18) (λ_ hy=>by cases hy)))))))))))))))))))
 obtain⟨ct'6,Pt6,hcd6,hB6⟩:=wcc T hf6 m6 (X _ _ l6) rfl;obtain rfl:q6=ct'6:=Value.ref.inj hcd6;obtain rfl:Pt6=p6:=zfz X hB6 lt6 dt6 v6;have hC6:=CodeK.of X c6 hB6
 obtain⟨ct'8,Pt8,hcd8,hB8⟩:=wcc T hf8 m8 (X _ _ l8) rfl;obtain rfl:q8=ct'8:=Value.ref.inj hcd8;obtain rfl:Pt8=p8:=zfz X hB8 lt8 dt8 v8;have hC8:=CodeK.of X c8 hB8
 obtain⟨ct'13,Pt13,hcd13,hB13⟩:=wcc T hf13 m13 (X _ _ l13) rfl;obtain rfl:q13=ct'13:=Value.ref.inj hcd13;obtain rfl:Pt13=p13:=zfz X hB13 lt13 dt13 v13;have hC13:=CodeK.of X c13 hB13
 refine⟨W.fnOf "law" "law" (zbK zfo) (zaX zfo) (zab zfo) .none kV35 dc35 pm35 an35 cd35 ct35,[Pt6,Pt8,Pt13],nmM [(Pt6,"is_name.<locals>.<genexpr>"),(Pt8,"is_box.<locals>.<genexpr>"),(Pt13,"are_parts.<locals>.<genexpr>")],⟨(λP hP=>by
  rcases wak.mp hP with rfl|hP
  .exact⟨_,hB6.tab⟩
  rcases wak.mp hP with rfl|hP
  .exact⟨_,hB8.tab⟩
  rcases wak.mp hP with rfl|hP
  .exact⟨_,hB13.tab⟩
  cases hP),(λP hP=>by
  rcases wak.mp hP with rfl|hP
  .exact zgy X T.g hB6 hK
  rcases wak.mp hP with rfl|hP
  .exact zgy X T.g hB8 hK
  rcases wak.mp hP with rfl|hP
  .exact zgy X T.g hB13 hK
  cases hP)⟩,λs v=>.of_eq rfl,λbase bm ob hk hn hM=>lawM (m:=znX) (tb:=[Pt6,Pt8,Pt13]) (qs:=["is_name.<locals>.<genexpr>","is_box.<locals>.<genexpr>","are_parts.<locals>.<genexpr>"]) rfl (zmK (ts:=[(Pt6,"is_name.<locals>.<genexpr>"),(Pt8,"is_box.<locals>.<genexpr>"),(Pt13,"are_parts.<locals>.<genexpr>")]) nd) (λS=>?_) λS=>zqo (S:=S)⟩
 have CM {k:Nat}{x:Str}{ps:List Str}{sp:Sp}{f:Addr}{fd:FuncData}{st:Stmt}(F:Fun K x x st f fd) (h:FnOk l.prog w K mg base CX0 k f fd ps sp) (c:W.keepIn K (.ref f)=true) (a:W.nsIn K mainGlobals x=some (some (.ref f))) (b:∀(kV doc pm:Value) (an:Option Addr) (cdv ct:Value) (us:List Value),us.length=ps.length->bindArgs (W.fnOf x x (zbK st) (zaX st) (zab st) .none kV doc pm an cdv ct) ⟨us,[]⟩=pure (ps.zip us):=by(intro _ _ _ _ _ _ us hl;first|exact(match us,hl with|[_],_=>rfl)|exact(match us,hl with|[_,_],_=>rfl)|exact(match us,hl with|[_,_,_],_=>rfl)|exact(match us,hl with|[_,_,_,_],_=>rfl))):Cal l.prog w K mg base k x ps sp:=⟨f,fd,h,F.binds b,c,wbJ X T.g a⟩
 have zc:=@zqp K S [(Pt6,"is_name.<locals>.<genexpr>"),(Pt8,"is_box.<locals>.<genexpr>"),(Pt13,"are_parts.<locals>.<genexpr>")]
 have TT6:TabF K mg base _ Pt6:=⟨q6,bm,ob,hcd6,hC6,hM⟩
 have TT8:TabF K mg base _ Pt8:=⟨q8,bm,ob,hcd8,hC8,hM⟩
 have TT13:TabF K mg base _ Pt13:=⟨q13,bm,ob,hcd13,hC13,hM⟩
 have C_placed_within:=CM F1 (zjl (P:=l.prog) (w:=w) (K:=K) (mg:=mg) (base:=base) (x:="placed_within") (ps:=["parts","outer_place"]) (b:=zbQ) (m:=zaI) (k:=0) (λ_=>rfl) (λ_=>rfl) b1 k1 m1 (zdt) (λ{n} {self} C=>by rw[wbl] at *;exact zdQ F1 B C G_PARTS) 8) k1 a1
 have C_placed_parts:=CM F2 (zez F2 B C_placed_within) k2 a2
 have C_parts_of:=CM F3 (zgQ F3 B C_placed_parts) k3 a3
 have C_names_of:=CM F4 (zgS F4 B C_parts_of G_NAME) k4 a4
 have C_part_of:=CM F5 (zh2 F5 B C_parts_of G_NAME) k5 a5
 have C_is_name:=CM F6 (zh4 F6 B zc TT6 (zg3 (t:=(Pt6,"is_name.<locals>.<genexpr>")) 0 rfl) K_str G_LONGEST_NAME G_LETTERS) k6 a6
 have C_is_whole:=CM F7 (zgU F7 B K_bool K_int) k7 a7
 have C_is_box:=CM F8 (zj2 F8 B zc TT8 (zg3 (t:=(Pt8,"is_box.<locals>.<genexpr>")) 1 rfl) C_is_whole K_tuple) k8 a8
 have C_is_word:=CM F9 (zh6 F9 B K_str G_WORDS) k9 a9
 have C_is_rank:=CM F10 (zh8 F10 B C_is_whole) k10 a10
 have C_is_head:=CM F11 (zia F11 B zc C_is_name) k11 a11
 have C_are_parts:=CM F13 (zkx (P:=l.prog) (w:=w) (K:=K) (mg:=mg) (base:=base) (x:="are_parts") (ps:=["thing","deep"]) (b:=zda) (m:=zaw) (c:=7) (k:=0) (λ_=>rfl) (λ_=>rfl) b13 k13 m13 (zeM) (λ{n} {self} C=>by
  have C_is_part:=CM F12 (zib F12 B zc C_is_word C_is_box C_is_name C C_is_head C_is_rank K_tuple) k12 a12
  exact zge F13 B zc TT13 (zg3 (t:=(Pt13,"are_parts.<locals>.<genexpr>")) 2 rfl) C_is_part K_tuple G_DEEPEST) 7) k13 a13
 have C_musts_of:=CM F14 (zgV F14 B C_parts_of G_PARTS G_NAME G_HEAD) k14 a14
 have C_refuse_twice:=CM F15 (zeA F15 B) k15 a15
 have C_are_nested:=CM F16 (zfp F16 B) k16 a16
 have C_refuse_heads:=CM F17 (zeB F17 B C_placed_parts C_are_nested G_NAME G_HEAD) k17 a17
 have C_tied_names:=CM F18 (zfq F18 B) k18 a18
 have C_ring_of:=CM F19 (zic F19 B C_tied_names) k19 a19
 have C_checked:=CM F20 (zid F20 B zc C_are_parts C_names_of C_refuse_twice C_refuse_heads C_ring_of C_musts_of G_MOST_PARTS) k20 a20
 have C_is_given:=CM F21 (zgX F21 B zc C_is_word C_is_box C_is_rank C_is_head) k21 a21
 have C_is_rest:=CM F22 (zif F22 B zc C_is_whole C_is_given) k22 a22
 have C_is_deed:=CM F23 (zig F23 B zc C_is_rest K_tuple K_str) k23 a23
 have C_with_thing:=CM F24 (zjl (P:=l.prog) (w:=w) (K:=K) (mg:=mg) (base:=base) (x:="with_thing") (ps:=["parts","name","at","thing"]) (b:=zcG) (m:=zax) (k:=0) (λ_=>rfl) (λ_=>rfl) b24 k24 m24 (zeF) (λ{n} {self} C=>by rw[wbl] at *;exact zfr F24 B C G_PARTS G_NAME) 7) k24 a24
 have C_with_put:=CM F25 (zhB (P:=l.prog) (w:=w) (K:=K) (mg:=mg) (base:=base) (k:=13) (ps:=["sheet","name","at","part"]) F25) k25 a25
 have C_without:=CM F26 (zhB (P:=l.prog) (w:=w) (K:=K) (mg:=mg) (base:=base) (k:=1) (ps:=["parts","gone"]) F26) k26 a26
 have C_done:=CM F27 (znW F27 B zc C_is_deed C_checked C_with_put C_part_of C_without C_names_of C_with_thing G_GIVEN) k27 a27
 have CLfeed:=CM F28 (zgh F28 B zc (S:=S) (λH h=>h.1)) k28 a28
 have CLnext:=CM F29 (zgi F29 B) k29 a29
 have CLnumber:=CM F30 (zeL F30 B CLnext) k30 a30
 have CLbox:=CM F31 (zgY F31 B CLnumber) k31 a31
 have CLrows:=CM F32 (zgj F32 B zc (S:=S) CLfeed CLnext CLbox) k32 a32
 have CLhung:=CM F33 (zgk F33 B) k33 a33
 have CLthing:=CM F34 (zft F34 B CLnext CLbox CLnumber) k34 a34
 exact zpV F35 B zc (S:=S) (λH h=>h.1) CLrows CLhung CLfeed CLnext CLthing C_done K_tuple
end Pg
open PySem PySem.W PyProof.Rows
set_option maxRecDepth 100000 in
set_option maxHeartbeats 0 in
theorem PySem.Challenge.cw_focuswalk_k71_word_box_and_rank_holds : PySem.Challenge.rw_focuswalk_k71_word_box_and_rank.Holds := by
 w_on;o_law;k_head;(case hw=>w_witness2)
 k_fill
 refine VD.walkM (l:=PySem.Challenge.rw_focuswalk_k71_word_box_and_rank) (k:=54) (x:="_law_script") (qs:=["is_name.<locals>.<genexpr>","is_box.<locals>.<genexpr>","are_parts.<locals>.<genexpr>"]) rfl rfl ⟨rfl,by decide,by decide,rfl⟩ (λw h Y=>PySem.W.kIn_of Y) ?F;case F=>
  intro w mg mb mean fa h KX T hmg;refine' Pg.all_mk KX T hmg ?lt6 ?dt6 ?v6 ?lt8 ?dt8 ?v8 ?lt13 ?dt13 ?v13 ?nd (Pg.fh_mk ?a1 ?l1 ?c1 ?k1) (Pg.fh_mk ?a2 ?l2 ?c2 ?k2) (Pg.fh_mk ?a3 ?l3 ?c3 ?k3) (Pg.fh_mk ?a4 ?l4 ?c4 ?k4) (Pg.fh_mk ?a5 ?l5 ?c5 ?k5) ?a6 ?l6 ?c6 ?k6 (Pg.fh_mk ?a7 ?l7 ?c7 ?k7) ?a8 ?l8 ?c8 ?k8 (Pg.fh_mk ?a9 ?l9 ?c9 ?k9) (Pg.fh_mk ?a10 ?l10 ?c10 ?k10) (Pg.fh_mk ?a11 ?l11 ?c11 ?k11) (Pg.fh_mk ?a12 ?l12 ?c12 ?k12) ?a13 ?l13 ?c13 ?k13 (Pg.fh_mk ?a14 ?l14 ?c14 ?k14) (Pg.fh_mk ?a15 ?l15 ?c15 ?k15) (Pg.fh_mk ?a16 ?l16 ?c16 ?k16) (Pg.fh_mk ?a17 ?l17 ?c17 ?k17) (Pg.fh_mk ?a18 ?l18 ?c18 ?k18) (Pg.fh_mk ?a19 ?l19 ?c19 ?k19) (Pg.fh_mk ?a20 ?l20 ?c20 ?k20) (Pg.fh_mk ?a21 ?l21 ?c21 ?k21) (Pg.fh_mk ?a22 ?l22 ?c22 ?k22) (Pg.fh_mk ?a23 ?l23 ?c23 ?k23) (Pg.fh_mk ?a24 ?l24 ?c24 ?k24) (Pg.fh_mk ?a25 ?l25 ?c25 ?k25) (Pg.fh_mk ?a26 ?l26 ?c26 ?k26) (Pg.fh_mk ?a27 ?l27 ?c27 ?k27) (Pg.fh_mk ?a28 ?l28 ?c28 ?k28) (Pg.fh_mk ?a29 ?l29 ?c29 ?k29) (Pg.fh_mk ?a30 ?l30 ?c30 ?k30) (Pg.fh_mk ?a31 ?l31 ?c31 ?k31) (Pg.fh_mk ?a32 ?l32 ?c32 ?k32) (Pg.fh_mk ?a33 ?l33 ?c33 ?k33) (Pg.fh_mk ?a34 ?l34 ?c34 ?k34) ?a35 ?l35 ?c35 ?k35 ?z0 ?z1 ?z2 ?z3 ?z4 ?z5 ?z6 ?z7 ?z8 ?z9 ?z10 ?z11 ?z12 ?z13 ?z14 ?z15 ?z16 ?z17 ?z18 ⟨?t_str_NoneType,?t_str_bool,?t_str_int,?t_str_str,?t_str_tuple,?t_str_list,?t_str_dict⟩ ⟨?t_bool_NoneType,?t_bool_bool,?t_bool_int,?t_bool_str,?t_bool_tuple,?t_bool_list,?t_bool_dict⟩ ⟨?t_int_NoneType,?t_int_bool,?t_int_int,?t_int_str,?t_int_tuple,?t_int_list,?t_int_dict⟩ ⟨?t_tuple_NoneType,?t_tuple_bool,?t_tuple_int,?t_tuple_str,?t_tuple_tuple,?t_tuple_list,?t_tuple_dict⟩ ?g_PARTS ?g_NAME ?g_LONGEST_NAME ?g_LETTERS ?g_WORDS ?l_WORDS ?g_DEEPEST ?g_HEAD ?g_MOST_PARTS ?g_GIVEN ?l_GIVEN ?e_GIVEN ?hK ?hf6 ?hf8 ?hf13
  (case hK=>first|(with_unfolding_all rfl)|rfl)
  (case hf6=>rfl)
  (case hf8=>rfl)
  (case hf13=>rfl)
  (case a6=>k_is)
  (case l6=>k_is)
  (case c6=>k_is)
  (case k6=>k_is)
  (case lt6=>k_is)
  (case dt6=>exact rfl)
  (case v6=>exact rfl)
  (case a8=>k_is)
  (case l8=>k_is)
  (case c8=>k_is)
  (case k8=>k_is)
  (case lt8=>k_is)
  (case dt8=>exact rfl)
  (case v8=>exact rfl)
  (case a13=>k_is)
  (case l13=>k_is)
  (case c13=>k_is)
  (case k13=>k_is)
  (case lt13=>k_is)
  (case dt13=>exact rfl)
  (case v13=>exact rfl)
  (case nd=>decide)
  all_goals try first|k_is|exact rfl|kit_is|exact .cons ⟨_,_,rfl,rfl,rfl⟩ (.cons ⟨_,_,rfl,rfl,rfl⟩ (.cons ⟨_,_,rfl,rfl,rfl⟩ (.cons ⟨_,_,rfl,rfl,rfl⟩ (.nil))))

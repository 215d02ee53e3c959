import PyProof.Rows.All
import Wide.All
import OpenK.AllK
import Wide.FinOn
import Lean
import PyProof.EqAt
import PyProof.EqKinds
import PyProof.TupleCall
import KE.KIntText
import Wide.Seal
import PyProof.Rows.SortStr
import KE.KDictList
import PyProof.StrBlockH
import KE.KSortedL
import KE.KSorted
import PyProof.Rows.SortWalk
import PyProof.TupleKey
import PyProof.Rows.SetFrom
import KE.KItemsList
import KE.KSortKey
import PySem.Challenge.RW_underfloor_k42_refused_changes
noncomputable section
set_option Elab.async false
set_option linter.all false
set_option maxRecDepth 100000
def df:=@List.getElem?_set_ne
def il:=@List.getElem?_eq_some_iff
def j1:=@List.length_map
def sa:=@PySem.Heap.get?_push_of_some
def tB:=@PySem.wpAny_bind
def xa:=@List.getElem?_map
def Ax:=@List.mem_cons_of_mem
def AC:=@List.mem_cons_self
def Da:=@List.size_toArray
def Do:=@List.mem_append_right
def DF:=@List.getElem?_eq_getElem
def DM:=@if_pos
def Fk:=@List.length_append
def FB:=@Bool.and_eq_true
def FM:=@PySem.wpAny_pure
def FS:=@List.mem_append
def Gc:=@if_neg
def GE:=@PySem.Heap.lt_size
def GM:=@List.mem_of_getElem?
def GT:=@Nat.ne_of_lt
def IR:=@Nat.le_refl
def JK:=@Nat.lt_of_lt_of_le
def JU:=@List.mem_append_left
def KB:=@List.nodup_append
def KF:=@PySem.Heap.get?_push_size
def KI:=@decide_eq_false
def KM:=@List.mem_cons
def Mk:=@List.getElem?_set_self
def MG:=@List.map_cons
def M0:=@decide_eq_true
def M1:=@List.getElem?_append_left
def On:=@List.append_nil
def Os:=@List.mem_singleton
def Pi:=@decide_eq_true_eq
def Pv:=@List.map_map
def PC:=@List.map_append
def PK:=@List.length_cons
def PP:=@List.nodup_cons
def P3:=@List.append_assoc
def Re:=@List.length_take
def SB:=@List.take_of_length_le
def SC:=@List.mem_map
def SL:=@PySem.wpAny_mono
def SZ:=@Option.some.inj
def S3:=@Nat.le_trans
def S4:=@List.length_set
def S5:=@List.lookup_cons
def S6:=@List.flatten_cons
def S7:=@PySem.W.mg_none_of
def S8:=@PyProof.Rows.callWith_type1
def UF:=@Int.emod_nonneg
def UV:=@List.getElem?_replicate
def Wp:=@PySem.wpAny_holding
def W1:=@Ne.symm
def XU:=@List.filterMap_cons
def ZN:=@List.getElem?_append_right
def Z5:=@List.getD_eq_getElem?_getD
def Z6:=@List.getElem?_of_mem
def Z7:=@Nat.ne_of_gt
def Z8:=@Nat.zero_add
def Z9:=@PySem.Heap.size_push
def aaa:=@PySem.Heap.get?_update_other
def aab:=@List.getElem?_zipWith
def aac:=@Int.emod_lt_of_pos
def aad:=@PySem.wpAny_Call_Name_kw
def aae:=@Nat.lt_irrefl
def aaf:=@List.getElem?_zip_eq_some
def aag:=@List.length_singleton
def aah:=@List.Perm.append_left
def aai:=@Bool.false_ne_true
def aaj:=@PySem.sizeLine_eq
def aak:=@List.getElem?_append
def aal:=@PySem.F.plainAttrs_list
def aam:=@List.length_zip
def aan:=@List.replicate_succ
def aao:=@List.zipWith_cons_cons
def aap:=@List.all_eq_true
def aaq:=@List.mem_or_eq_of_mem_set
def aar:=@List.Sublist.refl
def aas:=@List.all_cons
def aat:=@List.any_cons
def aau:=@List.length_zipWith
def aav:=@List.length_drop
def aaw:=@List.nodup_nil
def aax:=@PySem.wpAny_loadPart_at
def aay:=@Nat.zero_le
def aaz:=@List.find?_cons
def aaA:=@List.length_nil
def aaB:=@Bool.or_eq_true
def aaC:=@Nat.min_eq_left
def aaD:=@List.length_replicate
def aaE:=@List.take_add_one
def aaF:=@PySem.wpAny_passesOwn
def aaG:=@beq_iff_eq
def aaH:=@List.mem_range
def aaI:=@List.mem_of_mem_take
def aaJ:=@PySem.Heap.get?_update_self
def aaK:=@Nat.le_of_eq
def aaL:=@List.cons_append
def aaM:=@Nat.min_eq_right
def aaN:=@List.drop_eq_getElem_cons
def aaO:=@Array.length_toList
def aaP:=@PySem.mem_of_lookup
def aaQ:=@List.flatten_append
def aaR:=@PySem.wpAny_field
def aaS:=@List.forIn_cons
def aaT:=@Bool.false_eq_true
def aaU:=@of_decide_eq_true
def aaV:=@List.range_succ_eq_map
def aaW:=@Int.toNat_natCast
def aaX:=@PySem.wpAny_loadPart'
def aaY:=@PyProof.Rows.slot_tuple_getitem
def aaZ:=@PySem.call_meets
def aba:=@beq_self_eq_true
def abb:=@Nat.le_add_right
def abc:=@List.flatten_nil
def abd:=@List.mem_flatten
def abe:=@PySem.W.mg_of
def abf:=@PySem.wpAny_truthy_bool
def abg:=@PySem.wpAny_newObj_type
def abh:=@List.mem_of_mem_drop
def abi:=@List.mem_filter
def abj:=@List.getElem?_range
def abk:=@PySem.F.typeOf_object_class
def abl:=@Int.zero_add
def abm:=@List.filterMap_map
def abn:=@Array.getElem?_eq_some_iff
def abo:=@List.zip_cons_cons
def abp:=@PySem.Around.under_plainId
def abq:=@List.set_cons_zero
def abr:=@List.set_cons_succ
def abt:=@Nat.lt_of_le_of_lt
def abu:=@PySem.codeAny_builtin
def abv:=@List.getElem?_eq_none_iff
def abw:=@List.sublist_append_right
def abx:=@Array.getElem?_eq_getElem
def aby:=@PySem.F.plain_extend_loop
def abz:=@List.ext_getElem?
def abA:=@PySem.F.slot_list_append
def abB:=@PySem.F.type_list_append
def abC:=@List.map_drop
def abD:=@if_false
def abE:=@List.eraseIdx_cons_succ
def abF:=@List.map_snd_zip
def abG:=@List.getElem?_set_self'
def abH:=@List.drop_length
def abI:=@Option.bind_eq_some_iff
def abJ:=@Option.getD_some
def abK:=@List.getElem_mem
def abL:=@Nat.le_of_lt
def abM:=@Nat.lt_trans
def abN:=@Iff.rfl
def abO:=@List.drop_of_length_le
def abP:=@Array.getElem?_toList
def abQ:=@PySem.AutoSeq1.wpAny_loadPart'
def abR:=@PyProof.Rows.tail_any
def abS:=@PySem.F.slot_list_getattribute
def abT:=@List.getElem?_eq_none
def abU:=@PySem.wpAny_execs_cons
def abV:=@PySem.wpAny_callSpecial?_slot
def abW:=@List.getElem?_mapIdx
def abX:=@if_true
def abY:=@beq_eq_false_iff_ne
def abZ:=@PySem.wpAny_pyNext_list_item
def aca:=@PySem.codeAny_mono
def acb:=@PySem.F.slot_gs_get
def acd:=@List.map_congr_left
def ace:=@List.length_pos_iff
def acf:=@PySem.wpAny_execs_nil
def acg:=@Bool.true_and
def ach:=@PySem.F.slot_zip_next
def aci:=@PySem.wpAny_updateSeq
def acj:=@List.map_take
def ack:=@PySem.wpAny_pyNext_list_end
def acm:=@List.mem_filterMap
def acn:=@PySem.W.callWith_K
def aco:=@List.map_nil
def acp:=@Nat.lt_succ_of_lt
def acq:=@List.length_range
def acr:=@PySem.wpAny_seqItems
def acs:=@List.map_set
def acu:=@List.any_eq_false
def acv:=@List.eraseIdxIfInBounds_toArray
def acw:=@List.map_fst_zip
def acx:=@Sum.inl.inj
def acy:=@PySem.Paired.length
def acz:=@PySem.wpAny_standAt
def acA:=@PySem.plainId_quiet
def acB:=@Int.mul_le_mul_of_nonneg_left
def acC:=@Option.map_some
def acD:=@PySem.Calls.spliced_cons
def acE:=@List.of_mem_zip
def acF:=@Bool.eq_iff_iff
def acG:=@PySem.Calls.spliced_nil
def acH:=@PySem.wpAny_typeOf
def acI:=@Bool.and_false
def acJ:=@PySem.wpAny_pyIter_list
def acK:=@PySem.F.excBase_ValueError
def acL:=@List.drop_zero
def acM:=@Int.mul_nonneg
def acN:=@PySem.F.slot_dict_getitem
def acO:=@List.pairwise_iff_getElem
def acP:=@PySem.F.args_tuple_add_2
def acQ:=@PySem.wpAny_call_entry
def acR:=@PySem.F.entry_tuple_add
def acS:=@PySem.F.attr_ValueError
def acT:=@PyProof.Rows.boot_range
def acU:=@List.length_eq_zero_iff
def acV:=@PySem.W.cellsFrom_some
def acW:=@PySem.F.slot_tuple_add
def acX:=@Option.map_eq_some_iff
def acY:=@PySem.wpAny_specialOf
def acZ:=@Nat.add_zero
def ada:=@Nat.sub_self
def adb:=@List.Perm.append_right
def ade:=@PySem.W.looks_mroIn
def adf:=@PySem.F.slot_int_rmul
def adg:=@PySem.F.slot_list_pop
def adh:=@PySem.F.type_list_pop
def adi:=@List.perm_append_comm
def adj:=@List.take_append_drop
def adk:=@List.length_filter_le
def adl:=@PySem.Calls.Name_function_global
def adm:=@PySem.typeIs_str
def adn:=@Nat.le_succ
def ado:=@And.left
def adp:=@List.take_succ_cons
def adq:=@List.Sublist.append
def ads:=@PySem.wpAny_getItem_list_slice
def adt:=@Array.forIn_toList
def adu:=@List.take_sublist
def adv:=@List.getElem?_set
def adw:=@Bool.not_eq_true'
def adx:=@PySem.wpAny_pyNext_range_end
def ady:=@PySem.wpAny_pyIter_rangeiter
def adz:=@PySem.concat_meets
def adA:=@Option.getD_none
def adB:=@PySem.Calls.callWith_builtin
def adC:=@Nat.lt_succ_self
def adD:=@List.perm_middle
def adE:=@List.mem_flatMap
def adF:=@PySem.builtinLookup_eq_fast
def adG:=@Array.size_push
def adH:=@List.nil_append
def adI:=@PySem.Heap.get?_none_of_le
def adJ:=@PySem.IsRange.new
def adK:=@PySem.seqIndex_of
def adL:=@PySem.Calls.evalArgs_plain
def adM:=@or_assoc
def adN:=@PySem.codeAny_call_builtin
def adO:=@PySem.W.looks_findIn
def adP:=@Nat.mul_le_mul
def adQ:=@List.forIn_nil
def adR:=@List.take_left
abbrev gV(x:PySem.Str):Prop:=(x==("__debug__":PySem.Str))=false
abbrev js(x:PySem.Str):Prop:=(x==("__classdict__":PySem.Str))=false
noncomputable abbrev tx:=List Int
noncomputable abbrev P1:=List PySem.Addr
noncomputable abbrev P2:=List PySem.Expr
noncomputable abbrev S1:=List PySem.Value
noncomputable abbrev S2:=Option PySem.Value
noncomputable abbrev YK:=PySem.Addr->Prop
namespace L2
open PySem PySem.Spec PyProof.Rows
noncomputable abbrev Key:=Sum Int Str
noncomputable def j9:Key->Value->Bool
 |.inl k,v=>Value.isInt k v
 |.inr x,v=>Value.isStrOf x v
noncomputable def J6(w:World):Key->Int
 |.inl k=>hashInt k
 |.inr x=>hashStr w x
theorem iD:∀ {k:Key} {v:Value},j9 k v=true->(∃i t,k=Sum.inl i/\v=Value.int i t)\/(∃x t,k=Sum.inr x/\v=Value.str x t)
 | .inl i,v,h=>by
  obtain⟨t,e⟩:=Value.isInt_shape (k:=i) (v:=v) h;exact .inl ⟨i,t,rfl,e⟩
 | .inr x,v,h=>by
  obtain⟨t,e⟩:=Value.isStrOf_shape (x:=x) (v:=v) h;exact .inr ⟨x,t,rfl,e⟩
theorem Ki(i:Int)(t:Tok):j9 (.inl i) (.int i t)=true:=by simp[j9,Value.isInt]
theorem JZ(x:Str)(t:Tok):j9 (.inr x) (.str x t)=true:=by simp[j9,Value.isStrOf]
theorem G7(a b:Int):decide ((Sum.inl a:Key)=Sum.inl b)=(a==b):=by
 by_cases e:a=b
 ·subst e;simp
 ·have h:¬(Sum.inl a:Key)=Sum.inl b:=λq=>e (acx q)
  rw[KI h];exact(abY.mpr e).symm
theorem LN(a b:Str):decide ((Sum.inr a:Key)=Sum.inr b)=decide (a=b):=by
 by_cases e:a=b
 ·subst e;simp
 ·have h:¬(Sum.inr a:Key)=Sum.inr b:=λq=>e (Sum.inr.inj q)
  rw[KI h,KI e]
theorem Im(a:Int)(b:Str):decide ((Sum.inl a:Key)=Sum.inr b)=false:=KI (λq=>nomatch q)
theorem B9(a:Str)(b:Int):decide ((Sum.inr a:Key)=Sum.inl b)=false:=KI (λq=>nomatch q)
noncomputable def cV(prog:Program)(w:World):PySem.KeyKind prog w Key where
 is:=j9
 hash:=J6 w
 inj:=λv a b ha hb=>by
  rcases iD ha with⟨i,t,rfl,rfl⟩|⟨x,t,rfl,rfl⟩
  ·rcases iD hb with⟨j,u,rfl,e⟩|⟨y,u,rfl,e⟩
   ·injection e with e1 _;rw[e1]
   ·exact nomatch e
  ·rcases iD hb with⟨j,u,rfl,e⟩|⟨y,u,rfl,e⟩
   ·exact nomatch e
   ·injection e with e1 _;rw[e1]
 byValue:=λk v h=>by
  rcases iD h with⟨i,t,rfl,rfl⟩|⟨x,t,rfl,rfl⟩<;>rfl
 pyHash:=λhv h=>by
  rcases iD hv with⟨i,t,rfl,rfl⟩|⟨x,t,rfl,rfl⟩
  ·exact wpAny_pyHash_int h
  ·exact wpAny_pyHash_str h
 eqBool:=λhu hv h=>by
  rcases iD hu with⟨i,t,rfl,rfl⟩|⟨x,t,rfl,rfl⟩
  ·rcases iD hv with⟨j,u,rfl,rfl⟩|⟨y,u,rfl,rfl⟩
   ·rw[G7]at h;exact wpAny_eqBool_int h
   ·rw[Im]at h;exact SeqAt.EqAt.int_str i t y u _ _ _ _ h
  ·rcases iD hv with⟨j,u,rfl,rfl⟩|⟨y,u,rfl,rfl⟩
   ·rw[B9]at h;exact SeqAt.EqAt.str_int x t j u _ _ _ _ h
   ·rw[LN]at h;exact wpAny_eqBool_str h
 «strs»:=λk x t v h=>by
  rcases iD h with⟨i,u,rfl,e⟩|⟨y,u,rfl,e⟩
  ·exact nomatch e
  ·injection e with e1 _
   subst e1;cases v<;>rfl
theorem EV(prog:Program)(w:World)(i:Int)(t:Tok):(cV prog w).is (.inl i) (.int i t)=true:=Ki i t
theorem K2(prog:Program)(w:World)(x:Str)(t:Tok):(cV prog w).is (.inr x) (.str x t)=true:=JZ x t
inductive V where
 |aP|bl (b:Bool)|int (i:Int)|str (x:Str)|oG (b:Array UInt8)|uU (b:UInt64)|ref (a:Addr)|ty (n:String)
 deriving DecidableEq
def RelV:V->Value->Prop
 |.aP,u=>u=Value.none
 |.bl b,u=>u=Value.bool b
 |.int i,u=>∃t,u=Value.int i t
 |.str x,u=>∃t,u=Value.str x t
 |.oG b,u=>∃t,u=Value.bytes b t
 |.uU b,u=>∃t,u=Value.float b t
 |.ref a,u=>u=Value.ref a
 |.ty n,u=>u=Value.type n
abbrev Vals:List V->S1->Prop:=Paired RelV
theorem Vals.length{xs:List V}{us:S1}(r:Vals xs us):xs.length=us.length:=acy r
theorem Vals.get:∀ {xs:List V} {us:S1} {i:Nat} {x:V},Vals xs us->xs[i]? =some x->∃u,us[i]? =some u/\RelV x u
 |_,_,_,_,.nil,e=>by simp at e
 |_,_,0,_,.cons r _,e=>by simp at e;subst e;exact⟨_,rfl,r⟩
 | _,_,i+1,x,.cons _ t,e=>by
  obtain⟨u,h1,h2⟩:=Vals.get (i:=i) (x:=x) t (by simpa using e)
  exact⟨u,by simpa using h1,h2⟩
theorem Vals.set{x:V}{u:Value}(r:RelV x u):∀ {xs:List V} {us:S1} (i:Nat),Vals xs us->Vals (xs.set i x) (us.set i u)
 |_,_,_,.nil=>.nil
 |_,_,0,.cons _ t=>.cons r t
 |_,_,i+1,.cons q t=>.cons q (Vals.set r i t)
theorem Vals.append:∀ {xs ys:List V} {us ws:S1},Vals xs us->Vals ys ws->Vals (xs++ys) (us++ws)
 |_,_,_,_,.nil,s=>s
 |_,_,_,_,.cons r t,s=>.cons r (Vals.append t s)
theorem Vals.take:∀ {xs:List V} {us:S1} (n:Nat),Vals xs us->Vals (xs.take n) (us.take n)
 |_,_,0,_=>.nil
 |_,_,_+1,.nil=>.nil
 |_,_,n+1,.cons r t=>.cons r (Vals.take n t)
theorem Vals.drop:∀ {xs:List V} {us:S1} (n:Nat),Vals xs us->Vals (xs.drop n) (us.drop n)
 |_,_,0,r=>r
 |_,_,_+1,.nil=>.nil
 |_,_,n+1,.cons _ t=>Vals.drop n t
def gA:Option V->S2->Prop
 |some v,some u=>RelV v u
 |none,none=>True
 |_,_=>False
def KV{κ:Type}:List (κ×V)->List (κ×Value)->Prop:=Paired λ(p:κ×V) (q:κ×Value)=>p.1=q.1/\RelV p.2 q.2
noncomputable def kV:Key->V
 |.inl i=>.int i
 |.inr x=>.str x
inductive HO where
 |lst (xs:List V)
 |tup (xs:List V)
 |dK (kvs:List (Key×V))|dT (kvs:List (List Key×V))
 |set (S:Int->Bool) (n:Nat)
 |ins (C dx:Addr) (fs:List (Str×V))
 |own (x:Addr)
 |xd (fs:List (Str×V))
 |met (f x:Addr)
 |qQ (lo hi:Int)
 |frz (o:Obj) (u:HO)
 |cS (t:Option Obj)
 |ext (φ:Heap->Prop)
noncomputable abbrev Hp:=Addr->Option HO
noncomputable def upd(H:Hp)(a:Addr)(o:HO):Hp:=λb=>if b=a then some o else H b
theorem bX{H:Hp}{a:Addr}{o:HO}:upd H a o a=some o:=by unfold upd;rw[DM rfl]
theorem aJ{H:Hp}{a b:Addr}{o:HO}(h:b≠a):upd H a o b=H b:=by unfold upd;rw[Gc h]
theorem zx:upd (upd H a o) a u=upd H a u:=by
 funext b;unfold upd;split<;>rfl
theorem LD{H:Hp}{a b:Addr}{o u:HO}(h:H a=some o)(h':H b=some u)(d:o≠u):a≠b:=by
 intro e;subst e;rw[h]at h';exact d (SZ h')
theorem jd{H:Hp}{a b:Addr}{o:HO}(h:H a=some o)(h':H b=none):a≠b:=by
 intro e;subst e;rw[h]at h';cases h'
section
variable(P:Program)(w:World)
def cH(H:Hp)(h:Heap)(a:Addr):HO->Prop
 |.lst xs=>xs.length<=sizeLine/\∃(its:S1) (n:Nat),Vals xs its/\h.get? a=some {cls:=.type "list",data:=.seq its.toArray n}
 |.tup xs=>xs.length<=sizeLine/\∃its:S1,Vals xs its/\IsTup h a its.toArray
 |.dK kvs=>kvs.length<=sizeLine/\(a==sysModules)=false/\∃vs,KV kvs vs/\h.DictOf (cV P w) a vs
 |.dT kvs=>kvs.length<=sizeLine/\(a==sysModules)=false/\∃xs:List (List Key×Addr×Value),
   Paired (λ(p:List Key×V) (q:List Key×Addr×Value)=>p.1=q.1/\H q.2.1=some (.tup (p.1.map kV))/\RelV p.2 q.2.2) kvs xs/\
   ∃o es ep,h.get? a=some o/\o.ExactDict/\o.data=.dict es ep/\es.toList=xs.map (entryOfKey (tupleKind (cV P w)))/\(xs.map (·.1)).Nodup
 |.set S n=>h.SetOf (intKind P w) a S n
 |.ins C dx fs=>H dx=some (.own a)/\fs.length<=1000/\dx≠a/\h.get? a=some (PySem.W.instObj C dx)/\
   ∃mA,h.Ns1 dx mA/\(∀f,gA (fs.lookup f) (mA f))/\PySem.Within mA (fs.map (·.1))
 |.own _=>∃o,h.get? a=some o
 |.xd fs=>∃mA,h.Ns1 a mA/\∀f,gA (fs.lookup f) (mA f)
 |.qQ lo hi=>∃t u v,h.get? a=some {cls:=.type "range",data:=.fields #[.int lo t,.int hi u,.int 1 v]}
 |.frz o u=>h.get? a=some o/\cH H h a u
 |.cS none=>∃ps,h.get? a=some (PySem.W.tabObj ps)/\TriplesOk ps.toList/\∀pos cv,codeAmong pos ps.toList=some cv->∃c o vs q t,cv=.ref c/\H c=some (.cS (some o))/\o.data=.fields vs/\vs[1]? =some (.str q t)
 |.cS (some o)=>h.get? a=some o/\∀fd,o.data=.func fd->∃c oc vs q t,fd.code=.ref c/\H c=some (.cS (some oc))/\oc.data=.fields vs/\vs[1]? =some (.str q t)
 |.met f x=>h.get? a=some (PySem.W.methodObj (.ref f) (.ref x))
 |.ext φ=>φ h/\(∃o,h.get? a=some o)/\∀h1 h2:Heap,φ h1->(∀o,h1.get? a=some o->h2.get? a=some o)->φ h2
def bx(H:Hp)(h:Heap):Prop:=∀a o,H a=some o->cH P w H h a o
end
section
variable{P:Program}{w:World}{H H':Hp}{h h':Heap}{a:Addr}{o:HO}
theorem cH.lt(x:cH P w H h a o):a<h.objs.size:=by
 cases o with
 |lst xs=>obtain⟨_,_,_,_,e⟩:=x;exact GE e
 |tup xs=>obtain⟨_,_,_,p⟩:=x;exact p.lt
 |dK kvs=>obtain⟨_,_,_,_,o,_,_,e,_⟩:=x;exact GE e
 |dT kvs=>obtain⟨_,_,_,_,o,_,_,e,_⟩:=x;exact GE e
 |set S n=>obtain⟨o,_,_,_,e,_⟩:=x;exact GE e
 |ins C dx fs=>obtain⟨_,_,_,e,_⟩:=x;exact GE e
 |own y=>obtain⟨_,e⟩:=x;exact GE e
 |xd fs=>obtain⟨_,⟨_,_,_,e,_⟩,_⟩:=x;exact GE e
 |qQ lo hi=>obtain⟨_,_,_,e⟩:=x;exact GE e
 |frz ob u=>obtain⟨e,_⟩:=x;exact GE e
 | cS t=>
  cases t with
  |none=>obtain⟨_,e,_⟩:=x;exact GE e
  |some o=>exact GE x.1
 |met f y=>exact GE (show h.get? a=some _ from x)
 |ext φ=>obtain⟨_,⟨_,e⟩,_⟩:=x;exact GE e
theorem Paired.uC{α β:Type}{F G:α->β->Prop}:∀ {To:List α} {TU:List β},Paired F To TU->(∀a b,F a b->G a b)->Paired G To TU
 |_,_,.nil,_=>.nil
 |_,_,.cons r t,f=>.cons (f _ _ r) (Paired.uC t f)
theorem cH.Lh(x:cH P w H h a o)(k:∀b u,(b=a\/H b=some (.own a))->h.get? b=some u->h'.get? b=some u)
  (ho:∀b,H b=some (.own a)->H' b=some (.own a)) (ht:∀b xs,H b=some (.tup xs)->H' b=some (.tup xs)) (hb:∀b o vs,o.data=.fields vs->H b=some (.cS (some o))->H' b=some (.cS (some o))):cH P w H' h' a o:=by
 induction o with
 |lst xs=>obtain⟨z,its,n,r,e⟩:=x;exact⟨z,its,n,r,k _ _ (.inl rfl) e⟩
 |tup xs=>obtain⟨z,its,r,ob,e,c⟩:=x;exact⟨z,its,r,ob,k _ _ (.inl rfl) e,c⟩
 |dK kvs=>obtain⟨z,y,vs,r,ob,es,ep,e,c⟩:=x;exact⟨z,y,vs,r,ob,es,ep,k _ _ (.inl rfl) e,c⟩
 | dT kvs=>
  obtain⟨z,y,xs,r,ob,es,ep,e,c⟩:=x;exact⟨z,y,xs,Paired.uC r λp q z=>⟨z.1,ht _ _ z.2.1,z.2.2⟩,ob,es,ep,k _ _ (.inl rfl) e,c⟩
 |set S n=>obtain⟨ob,es,ep,t,e,c⟩:=x;exact⟨ob,es,ep,t,k _ _ (.inl rfl) e,c⟩
 | ins C dx fs=>
  obtain⟨d,z,ne,e,mA,⟨od,es,ep,e2,c⟩,r⟩:=x;exact⟨ho _ d,z,ne,k _ _ (.inl rfl) e,mA,⟨od,es,ep,k _ _ (.inr d) e2,c⟩,r⟩
 |own y=>obtain⟨ob,e⟩:=x;exact⟨ob,k _ _ (.inl rfl) e⟩
 |xd fs=>obtain⟨mA,⟨od,es,ep,e,c⟩,r⟩:=x;exact⟨mA,⟨od,es,ep,k _ _ (.inl rfl) e,c⟩,r⟩
 |qQ lo hi=>obtain⟨t,u,v,e⟩:=x;exact⟨t,u,v,k _ _ (.inl rfl) e⟩
 |frz ob u ih=>obtain⟨e,q⟩:=x;exact⟨k _ _ (.inl rfl) e,ih q⟩
 | cS t=>
  cases t with
  | none=>
   obtain⟨ps,e,z,q⟩:=x;exact⟨ps,k _ _ (.inl rfl) e,z,λpos cv hc=>let⟨c,o,vs,n,t,e1,e2,e3⟩:=q pos cv hc;⟨c,o,vs,n,t,e1,hb _ _ _ e3.1 e2,e3⟩⟩
  |some o=>exact⟨k a o (.inl rfl) x.1,λfd hf=>let⟨c,oc,vs,q,t,h1,h2,h3⟩:=x.2 fd hf;⟨c,oc,vs,q,t,h1,hb _ _ _ h3.1 h2,h3⟩⟩
 | met f y=>
  have e:h.get? a=some (PySem.W.methodObj (.ref f) (.ref y)):=x;show h'.get? a=some (PySem.W.methodObj (.ref f) (.ref y));exact k a _ (.inl rfl) e
 |ext φ=>obtain⟨p,⟨o,e⟩,st⟩:=x;exact⟨st _ _ p λo q=>k _ _ (.inl rfl) q,⟨o,k _ _ (.inl rfl) e⟩,st⟩
theorem cH.iW(x:cH P w H h a o)(k:∀b u,(b=a\/H b=some (.own a))->h.get? b=some u->h'.get? b=some u)
  (ho:∀b,H b=some (.own a)->H' b=some (.own a)) (ht:∀b xs,H b=some (.tup xs)->H' b=some (.tup xs)) (hb:∀b t,H b=some (.cS t)->H' b=some (.cS t)):cH P w H' h' a o:=x.Lh k ho ht λb _ _ _ q=>hb b _ q
theorem bx.lt(x:bx P w H h)(e:H a=some o):a<h.objs.size:=(x a o e).lt
theorem bx.fresh(x:bx P w H h)(e:h.objs.size<=a):H a=none:=by
 cases q:H a with
 |none=>rfl
 |some u=>exact absurd (JK (x.lt q) e) (aae _)
theorem bx.kept(x:bx P w H h)(k:∀b u,h.get? b=some u->h'.get? b=some u):bx P w H h':=λa o e=>
 (x a o e).iW (λb u _ q=>k b u q) (λ_ q=>q) (λ_ _ q=>q) λ_ _ q=>q
theorem bx.laid(x:bx P w H h)(k:∀b u,h.get? b=some u->h'.get? b=some u)(hp:h.objs.size<=a)(new:cH P w (upd H a o) h' a o):bx P w (upd H a o) h':=λb u e=>by
 have hn:=x.fresh hp;by_cases hb:b=a
 ·subst hb;rw[bX]at e;cases e;exact new
 ·rw[aJ hb]at e
  exact(x b u e).iW (λc v _ q=>k c v q) (λc q=>by rw[aJ (jd q hn)];exact q) (λc xs q=>by rw[aJ (jd q hn)];exact q) λc xs q=>by rw[aJ (jd q hn)];exact q
end
def Rd(H:Hp)(a:Addr)(u:HO):Prop:=H a=some u\/∃o,H a=some (.frz o u)
theorem Rd.ok{P:Program}{w:World}{H:Hp}{h:Heap}{a:Addr}{u:HO}(r:Rd H a u)(x:bx P w H h):cH P w H h a u:=by
 rcases r with r|⟨o,r⟩
 ·exact x a u r
 ·obtain⟨_,q⟩:=x a _ r
  exact q
def oR:Option HO->Prop
 |some (.lst _)=>True
 |some (.dK _)=>True
 |some (.dT _)=>True
 |some (.set _ _)=>True
 |some (.ins _ _ _)=>True
 |some (.ext _)=>True
 |_=>False
section
variable{P:Program}{w:World}{H:Hp}{h h':Heap}{x e:Addr}{o':HO}
theorem bx.write(ok:bx P w H h)(mu:oR (H x))(he:e=x\/H e=some (.own x))(k:∀b u,b≠e->h.get? b=some u->h'.get? b=some u)(Se:∃u,h'.get? e=some u)
  (new:cH P w (upd H x o') h' x o'):bx P w (upd H x o') h':=λb u q=>by
 have T1:∀c y,H c=some (.own y)->c≠x:=λc y r z=>by subst z;rw[r]at mu;exact mu
 have UA:∀c xs,H c=some (.tup xs)->c≠x:=λc xs r z=>by subst z;rw[r]at mu;exact mu
 have UT:∀c t,H c=some (.cS t)->c≠x:=λc xs r z=>by subst z;rw[r]at mu;exact mu
 by_cases hb:b=x
 ·subst hb;rw[bX]at q;cases q;exact new
 ·rw[aJ hb]at q
  by_cases hbe:b=e
  ·have q':H b=some (.own x):=by
    rcases he with z|z
    ·exact absurd (hbe.trans z) hb
    ·rw[hbe];exact z
   rw[q]at q';cases q';obtain⟨v,hv⟩:=Se;exact⟨v,by rw[hbe];exact hv⟩
  ·refine(ok b u q).iW (λc v hc r=>k c v ?_ r) (λc r=>by rw[aJ (T1 c b r)];exact r) (λc xs r=>by rw[aJ (UA c xs r)];exact r) λc xs r=>by rw[aJ (UT c xs r)];exact r
   rcases hc with rfl|hc
   ·exact hbe
   ·rintro rfl
    rcases he with z|z
    ·exact T1 c b hc z
    ·rw[hc]at z;cases z;exact hb rfl
noncomputable def lG:Obj:={cls:=.type "table",data:=.freed}
def nY(base:Heap)(b:Addr):Prop:=base.objs[b]? =some lG
structure Un(fs ex:P1)(H H':Hp)(h h':Heap):Prop where
 keep:∀b o,h.get? b=some o->H b=none->b∉fs->b∉ex->h'.get? b=some o
 slot:∀b o,h.get? b=some o->H b=none->b∈fs->b∉ex->∃sl,h'.get? b=some {o with slots:=sl}
 free:∀b o,h.get? b=some o->H b=none->b∉ex->H' b=none
 there:∀b o,h.get? b=some o->b∉ex->∃o',h'.get? b=some o'
 gz:∀b xs,H b=some (.tup xs)->H' b=some (.tup xs)
 fO:∀b o u,H b=some (.frz o u)->H' b=some (.frz o u)
 fV:∀b t,H b=some (.cS t)->H' b=some (.cS t)
variable{fs:P1}{PV:P1}{ex:P1}{UI:P1}{H1:Hp}{H2:Hp}{h1:Heap}{h2:Heap}{a:Addr}{o:HO}
theorem Un.any(u:Un fs ex H H1 h h1){b:Addr}{ob:Obj}(q:h.get? b=some ob)(n:H b=none)(hx:b∉ex):∃sl,h1.get? b=some {ob with slots:=sl}:=by
 by_cases hb:b∈fs
 ·exact u.slot b ob q n hb hx
 ·exact⟨ob.slots,u.keep b ob q n hb hx⟩
theorem Un.kept(k:∀b u,h.get? b=some u->h'.get? b=some u):Un fs ex H H h h':=
 ⟨λb ob q _ _ _=>k b ob q,λb ob q _ _ _=>⟨ob.slots,k b ob q⟩,λ_ _ _ n _=>n,λb ob q _=>⟨ob,k b ob q⟩,λ_ _ q=>q,λ_ _ _ q=>q,λ_ _ q=>q⟩
theorem Un.refl:Un fs ex H H h h:=Un.kept λ_ _ q=>q
theorem Un.laid(k:∀b u,h.get? b=some u->h'.get? b=some u)(hp:h.objs.size<=a)(hn:H a=none):Un fs ex H (upd H a o) h h' where
 keep:=λb u q _ _ _=>k b u q
 slot:=λb u q _ _ _=>⟨u.slots,k b u q⟩
 free:=λb u q n _=>by rw[aJ (GT (JK (GE q) hp))];exact n
 there:=λb u q _=>⟨u,k b u q⟩
 gz:=λb xs q=>by rw[aJ (jd q hn)];exact q
 fO:=λb u xs q=>by rw[aJ (jd q hn)];exact q
 fV:=λb ps q=>by rw[aJ (jd q hn)];exact q
theorem Un.write(mu:oR (H x))(he:e=x\/H e=some (.own x))(k:∀b u,b≠e->h.get? b=some u->h'.get? b=some u)(Se:∃u,h'.get? e=some u):Un fs ex H (upd H x o) h h':=by
 have hx:∀b,H b=none->b≠x:=λb n z=>by subst z;rw[n]at mu;exact mu
 have hb:∀b,H b=none->b≠e:=λb n z=>by
  subst z;rcases he with r|r
  ·exact hx b n r
  ·rw[n]at r;cases r
 have hm:∀b u,H b=some u->¬oR (some u)->b≠x:=λb u q nm z=>by subst z;rw[q]at mu;exact nm mu
 refine⟨λb u q n _ _=>k b u (hb b n) q,λb u q n _ _=>⟨u.slots,k b u (hb b n) q⟩,λb u q n _=>by rw[aJ (hx b n)];exact n,λb u q _=>?_,
  λb xs q=>by rw[aJ (hm b _ q λz=>z)];exact q,λb u xs q=>by rw[aJ (hm b _ q λz=>z)];exact q,λb ps q=>by rw[aJ (hm b _ q λz=>z)];exact q⟩
 by_cases hbe:b=e
 ·subst hbe;exact Se
 ·exact⟨u,k b u hbe q⟩
end
open Classical in
noncomputable def iP(H:Hp)(b:Addr)(o:Obj):Obj:=if H b=some (.cS none)then lG else if(H b).isSome\/o=lG then {cls:=.none,data:=.freed} else o
noncomputable def iM(h:Heap)(H:Hp):Heap:={h with objs:=h.objs.mapIdx (iP H)}
theorem HH(h:Heap)(H:Hp):(iM h H).objs.size=h.objs.size:=Array.size_mapIdx
theorem vR(h:Heap)(H:Hp)(b:Addr):(iM h H).objs[b]? =(h.objs[b]?).map (iP H b):=Array.getElem?_mapIdx
theorem CT(e:h.get? b=some o)(n:H b=none):(iM h H).get? b=some o:=by
 unfold Heap.get? at e ⊢;rw[vR];cases q:h.objs[b]? with
 |none=>rw[q]at e;cases e
 | some ob=>
  rw[q]at e;have nf:ob≠lG:=λz=>by rw[z]at e;cases e
  have z:iP H b ob=ob:=by unfold iP;rw[n,Gc (by simp),Gc (by simp[nf])]
  rw[acC,z];exact e
theorem Dl(e:(iM h H).get? b=some o):h.get? b=some o/\H b=none:=by
 unfold Heap.get? at e ⊢;rw[vR]at e;cases q:h.objs[b]? with
 |none=>rw[q]at e;cases e
 | some ob=>
  rw[q,acC]at e;by_cases h1:H b=some (.cS none)
  ·have z:iP H b ob=lG:=DM h1
   rw[z]at e;cases e
  ·by_cases h2:(H b).isSome=true\/ob=lG
   ·have z:iP H b ob={cls:=.none,data:=.freed}:=by unfold iP;rw[Gc h1,DM h2]
    rw[z]at e;cases e
   ·have z:iP H b ob=ob:=by unfold iP;rw[Gc h1,Gc h2]
    rw[z]at e;exact⟨e,by cases r:H b with|none=>rfl|some u=>exact absurd (.inl (by rw[r];rfl)) h2⟩
theorem E6(e:nY (iM h H) b):H b=some (.cS none):=by
 unfold nY at e;rw[vR]at e;cases q:h.objs[b]? with
 |none=>rw[q]at e;cases e
 | some ob=>
  rw[q,acC]at e;unfold iP at e;split at e
  ·assumption
  ·split at e
   ·cases e
   ·rename_i _ n
    exact absurd (.inr (SZ e)) n
noncomputable def K1(g h:Heap)(L:Addr):List (Addr×Obj):=(List.range h.objs.size).filterMap λa=>if a=L\/(g.get? a).isSome=true then none else(h.get? a).map λo=>(a,o)
noncomputable def rest(g h:Heap)(L d:Addr):List (Addr×Obj):=(K1 g h L).filter λp=>decide (p.1≠d)
structure Mod(K:PySem.W.Frag)(mg:Str->S2)(base:Heap):Prop where
 mq:K.In base
 glob:base.Ns mainGlobals mg
 blt:∃mb,base.Ns builtinsNs mb/\∀x:Str,x≠"__name__"->mb x=bootBuiltins x
 nolimit:base.NoLimit
structure Cx where
 prog:Program
 w:World
 K:PySem.W.Frag
 mg:Str->S2
 base:Heap
 A:Around
 N:List Str
 cW:Shared
 ju:Hp
 env:Env
 outer:List Env
 stack:List Env
 ex:P1
 fn:Str->Bool
 calm:Bool
 pn:List (Addr×Obj)
 xe:Value->Shared->Prop
noncomputable def cq(l:List Env):P1:=l.filterMap (·.frame)
noncomputable abbrev Cx.fs(X:Cx):P1:=cq X.outer
def d9(sc:Scope)(x:Str):Prop:=sc.names.lookup x=some .local\/sc.names.lookup x=some .cell\/sc.names.lookup x=some .free
def Loc(sc:Scope)(x:Str):Prop:=sc.names.lookup x=some .local\/sc.names.lookup x=some .cell
def Look(env:Env)(h:Heap)(m:Str->S2)(x:Str)(u:Value):Prop:=
 (env.kindOf x=some .local/\m x=some u)\/((env.kindOf x=some .cell\/env.kindOf x=some .free)/\∃c,env.cells.lookup x=some c/\h.IsCell c (some u))
structure Cx.Ok(X:Cx):Prop where
 mod:Mod X.K X.mg X.base
 kind:X.env.scope.kind=.function
 glob:X.env.globals=mainGlobals
 blt:X.env.builtins=builtinsNs
 above:X.cW.heap.objs.size<=X.env.locals
 inj:∀x y c,X.env.cells.lookup x=some c->X.env.cells.lookup y=some c->x=y
 has:∀x,(X.env.kindOf x=some .cell\/X.env.kindOf x=some .free)->∃c,X.env.cells.lookup x=some c
 lj:∀x c,X.fn x=true->X.env.cells.lookup x=some c->X.cW.heap.objs.size<=c
 hd:X.calm=true->X.A.handled=none
 frames:X.A.frames=some X.stack
 j2:X.stack=X.outer\/(X.stack=X.env::X.outer/\X.env.frame=some X.env.locals)
 ui:∀b∈X.ex,b≠X.env.locals/\∀x c,X.env.cells.lookup x=some c->c≠b
 bs:∀b o,X.base.get? b=some o->X.cW.heap.get? b=some o/\X.ju b=none
 i8:X.base.objs.size<=X.cW.heap.objs.size
 mI:∀b o,X.base.get? b=some o->b∉X.ex
 oh:∀b∈X.ex,b∉X.fs
 gP:X.cW.heap.FunFrames X.base X.outer
 kP:∀b∈X.fs,X.ju b=none
 tb:∀b,nY X.base b->X.ju b=some (.cS none)
structure Inv(X:Cx)(pins:List (Addr×Obj))(σ:List (Option V))(H:Hp)(s:Shared):Prop where
 ok:X.Ok
 os:s.os=X.cW.os
 bare:AllBare s.gens
 base:Un X.fs X.ex X.ju H X.cW.heap s.heap
 loc:∃m,s.heap.Ns X.env.locals m/\∀(i:Nat) (x:Str) (v:V),X.N[i]? =some x->σ[i]? =some (some v)->d9 X.env.scope x->∃u,RelV v u/\Look X.env s.heap m x u
 cell:∀x c,X.env.cells.lookup x=some c->∃v,s.heap.IsCell c v
 free:H X.env.locals=none
 fZ:∀x c,X.env.cells.lookup x=some c->H c=none
 pin:∀p∈X.pn++pins,s.heap.get? p.1=some p.2/\H p.1=none/\p.1≠X.env.locals/\p.1∉X.fs/\∀v,p.2.data≠.cell v
 aC:bx X.prog X.w H s.heap
 len:σ.length=X.N.length
section
variable{X:Cx}{pins:List (Addr×Obj)}{σ:List (Option V)}{H H':Hp}{s:Shared}{h':Heap}
theorem Cx.Ok.Dc(ok:X.Ok)(e:X.base.get? b=some o):b∉X.fs:=λhb=>by
 have:=(ok.gP.mem hb).1;rw[e]at this;cases this
theorem Inv.bs(I:Inv X pins σ H s):∀b o,X.base.get? b=some o->s.heap.get? b=some o/\H b=none:=λb o e=>
 ⟨I.base.keep b o (I.ok.bs b o e).1 (I.ok.bs b o e).2 (I.ok.Dc e) (I.ok.mI b o e),I.base.free b o (I.ok.bs b o e).1 (I.ok.bs b o e).2 (I.ok.mI b o e)⟩
theorem Inv.tb(I:Inv X pins σ H s):∀b,nY X.base b->H b=some (.cS none):=λb e=>I.base.fV b _ (I.ok.tb b e)
theorem Inv.bk(I:Inv X pins σ H s):∀b o,X.base.get? b=some o->s.heap.get? b=some o:=λb o e=>(I.bs b o e).1
theorem Inv.mod(I:Inv X pins σ H s):Mod X.K X.mg X.base:=I.ok.mod
theorem Inv.eU(I:Inv X pins σ H s):X.K.In s.heap:=I.ok.mod.mq.keeps I.bk
theorem Inv.lt(I:Inv X pins σ H s):X.env.locals<s.heap.objs.size:=let⟨_,hn,_⟩:=I.loc;hn.lt
theorem Inv.sz(I:Inv X pins σ H s):X.cW.heap.objs.size<=s.heap.objs.size:=S3 I.ok.above (abL I.lt)
theorem Inv.DB(I:Inv X pins σ H s)(h:s.heap.objs.size<=a):a∉X.fs:=λhb=>by
 obtain⟨_,o,ho,_⟩:=I.ok.gP.mem hb;exact absurd (JK (GE ho) (S3 I.sz h)) (aae _)
theorem Inv.fW(I:Inv X pins σ H s):∀x c,X.env.cells.lookup x=some c->c≠X.env.locals:=λx c e z=>by
 obtain⟨v,o,ho,hd⟩:=I.cell x c e;obtain⟨m,⟨o',es,ep,OH,QB,_⟩,_⟩:=I.loc;rw[z,OH]at ho;cases ho;rw[QB]at hd;cases hd
theorem Inv.gP(I:Inv X pins σ H s):s.heap.FunFrames X.base X.outer:=by
 have all:∀(l:List Env),(∀b∈cq l,b∈X.fs)->X.cW.heap.FunFrames X.base l->s.heap.FunFrames X.base l:=by
  intro l
  induction l with
  |nil=>intro _ _;trivial
  | cons env r ih=>
   intro hs hl;obtain⟨hk,⟨L,o,hf,hn,ho,hd⟩,hr⟩:=hl;have hL:L∈X.fs:=hs L (by unfold cq;rw[XU,hf];exact AC)
   obtain⟨sl,e⟩:=I.base.slot L o ho (I.ok.kP L hL) hL λz=>I.ok.oh L z hL;exact⟨hk,⟨L,_,hf,hn,e,hd⟩,ih (λb hb=>hs b (by unfold cq;rw[XU,hf];exact Ax _ hb)) hr⟩
 exact all X.outer (λ_ hb=>hb) I.ok.gP
theorem Inv.stack(I:Inv X pins σ H s):s.heap.FunFrames X.base X.stack:=by
 rcases I.ok.j2 with e|⟨e,hf⟩
 ·rw[e];exact I.gP
 ·rw[e]
  obtain⟨m,hn,_⟩:=I.loc;refine .cons (by rw[I.ok.kind];decide) hf hn ?_ I.gP
  exact adI (S3 I.ok.i8 I.ok.above)
theorem Inv.pT(I:Inv X pins σ H s):∀b∈cq X.stack,b∈X.env.locals::X.fs:=λb hb=>by
 rcases I.ok.j2 with e|⟨e,hf⟩
 ·rw[e]at hb;exact Ax _ hb
 ·rw[e]at hb
  unfold cq at hb;rw[XU,hf]at hb;exact hb
theorem Inv.vj(I:Inv X pins σ H s):∀b∈cq X.stack,H b=none:=λb hb=>by
 rcases KM.mp (I.pT b hb)with e|hb
 ·rw[e];exact I.free
 ·obtain⟨_,o,ho,_⟩:=I.ok.gP.mem hb
  exact I.base.free b o ho (I.ok.kP b hb) λz=>I.ok.oh b z hb
theorem Inv.step{g':Array GenState}{t':Nat}{d':Drawn}{ch:P1}(I:Inv X pins σ H s)
  (Qt:∀b∈ch,(b∈X.ex\/X.cW.heap.objs.size<=b)/\b≠X.env.locals/\(∀x c,X.env.cells.lookup x=some c->c≠b)/\∀p∈X.pn++pins,p.1≠b)
  (keep:∀b o,b≠X.env.locals->b∉X.fs->b∉ch->s.heap.get? b=some o->H b=none->h'.get? b=some o)
  (slot:∀b o,b≠X.env.locals->b∈X.fs->b∉ch->s.heap.get? b=some o->H b=none->∃sl,h'.get? b=some {o with slots:=sl}) (free:∀b o,b∉ch->s.heap.get? b=some o->H b=none->H' b=none)
  (there:∀b o,b∉ch->s.heap.get? b=some o->∃o',h'.get? b=some o')
  (gz:∀b xs,H b=some (.tup xs)->H' b=some (.tup xs)) (fO:∀b o u,H b=some (.frz o u)->H' b=some (.frz o u)) (fV:∀b t,H b=some (.cS t)->H' b=some (.cS t))
  (ns:∀m,s.heap.Ns X.env.locals m->h'.Ns X.env.locals m) (aC:bx X.prog X.w H' h') (hg:AllBare g'):
  Inv X pins σ H' {s with heap:=h',gens:=g',drawn:=d',toks:=t'}:=by
 have WO:∀b o,X.cW.heap.get? b=some o->b≠X.env.locals:=λb o e=>GT (JK (GE e) I.ok.above)
 have Ul:∀b o,X.cW.heap.get? b=some o->b∉X.ex->b∉ch:=λb o e hx hb=>by
  rcases(Qt b hb).1 with z|z
  ·exact hx z
  ·exact absurd (JK (GE e) z) (aae _)
 have cellK:∀x c,X.env.cells.lookup x=some c->∀v,s.heap.IsCell c v->h'.IsCell c v:=λx c e v=>by
  rintro⟨o,ho,hd⟩
  have SD:c∉ch:=λz=>(Qt c z).2.2.1 x c e rfl;by_cases hc:c∈X.fs
  ·obtain⟨sl,q⟩:=slot c o (I.fW x c e) hc SD ho (I.fZ x c e)
   exact⟨_,q,hd⟩
  ·exact⟨o,keep c o (I.fW x c e) hc SD ho (I.fZ x c e),hd⟩
 refine⟨I.ok,I.os,hg,⟨λb o e n hb hx=>?_,λb o e n hb hx=>?_,λb o e n hx=>?_,λb o e hx=>?_,λb xs e=>gz b xs (I.base.gz b xs e),λb o xs e=>fO b o xs (I.base.fO b o xs e),λb ps e=>?_⟩,?_,λx c e=>?_,?_,λx c e=>?_,λp hp=>?_,aC,I.len⟩
 ·exact keep b o (WO b o e) hb (Ul b o e hx) (I.base.keep b o e n hb hx) (I.base.free b o e n hx)
 ·obtain⟨sl,e1⟩:=I.base.slot b o e n hb hx
  obtain⟨UQ,e2⟩:=slot b _ (WO b o e) hb (Ul b o e hx) e1 (I.base.free b o e n hx);exact⟨UQ,e2⟩
 ·obtain⟨o',e1⟩:=I.base.there b o e hx
  exact free b o' (Ul b o e hx) e1 (I.base.free b o e n hx)
 ·obtain⟨o',e1⟩:=I.base.there b o e hx
  exact there b o' (Ul b o e hx) e1
 ·exact fV b _ (I.base.fV b ps e)
 ·obtain⟨m,hn,hl⟩:=I.loc
  refine⟨m,ns m hn,λi x v e1 e2 e3=>?_⟩;obtain⟨u,r,l⟩:=hl i x v e1 e2 e3;refine⟨u,r,?_⟩;rcases l with l|⟨k,c,e,z⟩
  ·exact .inl l
  ·exact .inr ⟨k,c,e,cellK x c e _ z⟩
 ·obtain⟨v,z⟩:=I.cell x c e
  exact⟨v,cellK x c e v z⟩
 ·obtain⟨m,⟨o,_,_,ho,_⟩,_⟩:=I.loc
  exact free _ o (λz=>(Qt _ z).2.1 rfl) ho I.free
 ·obtain⟨v,o,ho,hd⟩:=I.cell x c e
  exact free c o (λz=>(Qt c z).2.2.1 x c e rfl) ho (I.fZ x c e)
 ·obtain⟨e,n,ne,nf,d⟩:=I.pin p hp
  have SD:p.1∉ch:=λz=>(Qt p.1 z).2.2.2 p hp rfl;exact⟨keep p.1 p.2 ne nf SD e n,free p.1 p.2 SD e n,ne,nf,d⟩
theorem Inv.un{t':Nat}(I:Inv X pins σ H s)(u:Un X.fs [] H H' s.heap h')(aC:bx X.prog X.w H' h'):Inv X pins σ H' {s with heap:=h',toks:=t'}:=by
 obtain⟨m,⟨o,es,ep,ho,r⟩,_⟩:=id I.loc;obtain⟨sl,hL⟩:=u.any ho I.free (by simp)
 exact I.step (g':=s.gens) (d':=s.drawn) (ch:=[]) (λ_ z=>nomatch z) (λb o _ hb _ e n=>u.keep b o e n hb (by simp)) (λb o _ hb _ e n=>u.slot b o e n hb (by simp)) (λb o _ e n=>u.free b o e n (by simp)) (λb o _ e=>u.there b o e (by simp)) u.gz u.fO u.fV (λm' hm=>by
  obtain⟨o',QQ,SS,OH,r'⟩:=hm;rw[ho]at OH;cases OH;exact⟨_,QQ,SS,hL,r'⟩) aC I.bare
theorem Inv.call{g':Array GenState}{t':Nat}{d':Drawn}{ch:P1}(I:Inv X pins σ H s)(u:Un (cq X.stack) ch H H' s.heap h')(aC:bx X.prog X.w H' h')(hg:AllBare g')
  (Qt:∀b∈ch,(b∈X.ex\/X.cW.heap.objs.size<=b)/\b≠X.env.locals/\(∀x c,X.env.cells.lookup x=some c->c≠b)/\∀p∈X.pn++pins,p.1≠b):
  Inv X pins σ H' {s with heap:=h',gens:=g',drawn:=d',toks:=t'}:=by
 obtain⟨m,⟨o,es,ep,ho,r⟩,_⟩:=id I.loc;obtain⟨sl,hL⟩:=u.any ho I.free λz=>(Qt _ z).2.1 rfl
 exact I.step (ch:=ch) Qt (λb o hL hb hc e n=>u.keep b o e n (λz=>(KM.mp (I.pT b z)).elim hL hb) hc) (λb o _ _ hc e n=>u.any e n hc) (λb o hc e n=>u.free b o e n hc) (λb o hc e=>u.there b o e hc) u.gz u.fO u.fV (λm' hm=>by
  obtain⟨o',QQ,SS,OH,r'⟩:=hm;rw[ho]at OH;cases OH;exact⟨_,QQ,SS,hL,r'⟩) aC hg
theorem Inv.turned{t':Nat}{it:Addr}(I:Inv X pins σ H s)(k:∀b o,b≠it->s.heap.get? b=some o->h'.get? b=some o)(hn:H it=none)(hL:it≠X.env.locals)
  (h1:it∈X.ex\/X.cW.heap.objs.size<=it) (h2:∀x c,X.env.cells.lookup x=some c->c≠it) (h3:∀p∈X.pn++pins,p.1≠it):Inv X pins σ H {s with heap:=h',toks:=t'}:=by
 have Wl:∀b u,H b=some u->b≠it:=λb u e z=>by rw[z,hn]at e;cases e
 refine I.step (g':=s.gens) (d':=s.drawn) (ch:=[it]) (λb hb=>?_) (λb o _ _ hc e _=>k b o (λz=>hc (by simp[z])) e) (λb o _ _ hc e _=>⟨o.slots,k b o (λz=>hc (by simp[z])) e⟩) (λ_ _ _ _ n=>n)
  (λb o hc e=>⟨o,k b o (λz=>hc (by simp[z])) e⟩) (λ_ _ e=>e) (λ_ _ _ e=>e) (λ_ _ e=>e) (λm hm=>?_) (λb u e=>?_) I.bare
 ·have e:b=it:=by simpa using hb
  subst e;exact⟨h1,hL,h2,h3⟩
 ·obtain⟨o,es,ep,ho,r⟩:=hm
  exact⟨o,es,ep,k _ o (W1 hL) ho,r⟩
 ·refine(I.aC b u e).iW (λc v hc q=>k c v ?_ q) (λ_ q=>q) (λ_ _ q=>q) λ_ _ q=>q
  rcases hc with z|z
  ·rw[z];exact Wl b u e
  ·exact Wl c _ z
theorem Inv.tok(I:Inv X pins σ H s)(t:Nat):Inv X pins σ H {s with toks:=t}:=I.un (h':=s.heap) (t':=t) Un.refl I.aC
theorem Inv.kept(I:Inv X pins σ H s)(k:∀b u,s.heap.get? b=some u->h'.get? b=some u):Inv X pins σ H {s with heap:=h',toks:=t'}:=I.un (Un.kept k) (I.aC.kept k)
theorem Inv.laid{a:Addr}{o:HO}{t':Nat}(I:Inv X pins σ H s)(k:∀b u,s.heap.get? b=some u->h'.get? b=some u)(hp:s.heap.objs.size<=a)(new:cH X.prog X.w (upd H a o) h' a o):
  Inv X pins σ (upd H a o) {s with heap:=h',toks:=t'}:=I.un (Un.laid k hp (I.aC.fresh hp)) (I.aC.laid k hp new)
theorem Inv.write(I:Inv X pins σ H s)(mu:oR (H x))(he:e=x\/H e=some (.own x))(k:∀b u,b≠e->s.heap.get? b=some u->h'.get? b=some u)(Se:∃u,h'.get? e=some u)
  (new:cH X.prog X.w (upd H x o) h' x o):Inv X pins σ (upd H x o) {s with heap:=h',toks:=t'}:=I.un (Un.write mu he k Se) (I.aC.write mu he k Se new)
theorem Inv.BF(I:Inv X pins σ H s)(h:∀p∈pins',s.heap.get? p.1=some p.2/\H p.1=none/\p.1≠X.env.locals/\p.1∉X.fs/\∀v,p.2.data≠.cell v):Inv X pins' σ H s:=
 ⟨I.ok,I.os,I.bare,I.base,I.loc,I.cell,I.free,I.fZ,λp hp=>(FS.mp hp).elim (λz=>I.pin p (JU _ z)) (h p),I.aC,I.len⟩
theorem tU{N:List Str}(hN:N.Nodup){i j:Nat}{x:Str}(a:N[i]? =some x)(b:N[j]? =some x):i=j:=by
 obtain⟨h1,e1⟩:=il.mp a;obtain⟨h2,e2⟩:=il.mp b;exact(List.getElem_inj hN).mp (e1.trans e2.symm)
theorem zg{M:Model}{A:Around}{E:Value->Shared->Prop}{i:Nat}{x:Str}{v:V}{u:Value}{Q:Unit->Shared->Prop}(I:Inv X pins σ H s)(hN:X.N.Nodup)(hi:X.N[i]? =some x)(hx:Loc X.env.scope x)(r:RelV v u)
  (h:∀s',Inv X pins (σ.set i (some v)) H s'->(∃a,Heap.SameBut a s.heap s'.heap/\(a=X.env.locals\/X.env.cells.lookup x=some a))->Q () s') (hf:X.fn x=true\/X.env.scope.names.lookup x=some .local:=by first|exact .inl rfl|exact .inr rfl|assumption):wpAny M A (storeName X.env x u) Q E s:=by
 obtain⟨m,hn,hl⟩:=id I.loc;have P6:(X.env.scope.kind==.class||(X.env.scope.kind==.module&&X.env.locals != X.env.globals))=false:=by rw[I.ok.kind];rfl
 have QN:i<σ.length:=by rw[I.len];exact(il.mp hi).1
 have fW:=I.fW
 have tracked:∀ {a:Addr} {h':Heap},(∃o,s.heap.get? a=some o/\H a=none)->Heap.SameBut a s.heap h'->bx X.prog X.w H h':=λ{a h'} ha hs b ob e=>by
  obtain⟨_,_,QT⟩:=ha;refine(I.aC b ob e).iW (λc w' hc q=>(hs.2 c ?_).trans q) (λ_ q=>q) (λ_ _ q=>q) λ_ _ q=>q;rintro rfl;rcases hc with rfl|hc
  ·rw[QT]at e;cases e
  ·rw[QT]at hc;cases hc
 rcases hx with hk|hk
 ·refine wpAny_storeName_local hk hn (λh' Qj hs=>?_) P6
  obtain⟨oL,_,_,V6,_⟩:=id hn;refine h _ ⟨I.ok,I.os,I.bare,⟨λb o e n hb hx=>?_,λb o e n hb hx=>?_,I.base.free,λb o e hx=>?_,I.base.gz,I.base.fO,I.base.fV⟩,⟨_,Qj,λj y v' e1 e2 e3=>?_⟩,λy c e=>?_,I.free,I.fZ,λp hp=>?_,tracked ⟨oL,V6,I.free⟩ hs,by simpa using I.len⟩ ⟨_,hs,.inl rfl⟩
  ·exact(hs.2 b (GT (JK (GE e) I.ok.above))).trans (I.base.keep b o e n hb hx)
  ·obtain⟨sl,e1⟩:=I.base.slot b o e n hb hx
   exact⟨sl,(hs.2 b (GT (JK (GE e) I.ok.above))).trans e1⟩
  ·obtain⟨o',e1⟩:=I.base.there b o e hx
   exact⟨o',(hs.2 b (GT (JK (GE e) I.ok.above))).trans e1⟩
  ·by_cases hj:j=i
   ·subst hj
    rw[hi]at e1;cases e1;rw[Mk QN]at e2;cases e2;exact⟨u,r,.inl ⟨hk,by simp⟩⟩
   ·rw[df (W1 hj)]at e2
    obtain⟨u',r',q⟩:=hl j y v' e1 e2 e3;refine⟨u',r',?_⟩;rcases q with⟨k,e⟩|⟨k,c,e,z⟩
    ·refine .inl ⟨k,?_⟩
     have:y≠x:=λe=>hj (tU hN e1 (e▸hi));simp[this,e]
    ·exact .inr ⟨k,c,e,z.sameBut hs (fW y c e)⟩
  ·obtain⟨w',z⟩:=I.cell y c e
   exact⟨w',z.sameBut hs (fW y c e)⟩
  ·obtain⟨e,n,ne,nf,d⟩:=I.pin p hp
   exact⟨(hs.2 p.1 ne).trans e,n,ne,nf,d⟩
 ·have U0:X.fn x=true:=by
   rcases hf with z|z
   ·exact z
   ·rw[z]at hk;cases hk
  obtain⟨c,hc⟩:=I.ok.has x (.inl hk);obtain⟨w',z⟩:=I.cell x c hc;refine wpAny_storeName_cell I.ok.kind hk hc z (λh' QX hs=>?_);obtain⟨oc,WE,UK⟩:=id z;refine h {s with heap:=h'} ⟨I.ok,I.os,I.bare,⟨λb o e n hb hx=>?_,λb o e n hb hx=>?_,I.base.free,λb o e hx=>?_,I.base.gz,I.base.fO,I.base.fV⟩,⟨m,hn.sameBut hs (W1 (fW x c hc)),λj y v' e1 e2 e3=>?_⟩,λy c' e=>?_,I.free,I.fZ,λp hp=>?_,tracked ⟨oc,WE,I.fZ x c hc⟩ hs,by simpa using I.len⟩ ⟨c,hs,.inr hc⟩
  ·exact(hs.2 b (GT (JK (GE e) (I.ok.lj x c U0 hc)))).trans (I.base.keep b o e n hb hx)
  ·obtain⟨sl,e1⟩:=I.base.slot b o e n hb hx
   exact⟨sl,(hs.2 b (GT (JK (GE e) (I.ok.lj x c U0 hc)))).trans e1⟩
  ·obtain⟨o',e1⟩:=I.base.there b o e hx
   exact⟨o',(hs.2 b (GT (JK (GE e) (I.ok.lj x c U0 hc)))).trans e1⟩
  ·by_cases hj:j=i
   ·subst hj
    rw[hi]at e1;cases e1;rw[Mk QN]at e2;cases e2;exact⟨u,r,.inr ⟨.inl hk,c,hc,QX⟩⟩
   ·rw[df (W1 hj)]at e2
    obtain⟨u',r',q⟩:=hl j y v' e1 e2 e3;refine⟨u',r',?_⟩;rcases q with q|⟨k,c',e,z'⟩
    ·exact .inl q
    ·refine .inr ⟨k,c',e,z'.sameBut hs ?_⟩
     rintro rfl;exact hj (tU hN e1 (I.ok.inj _ _ _ e hc▸hi))
  ·by_cases Uv:c'=c
   ·subst Uv;exact⟨_,QX⟩
   ·obtain⟨w2,z2⟩:=I.cell y c' e
    exact⟨w2,z2.sameBut hs Uv⟩
  ·obtain⟨e,n,ne,nf,d⟩:=I.pin p hp
   refine⟨(hs.2 p.1 ?_).trans e,n,ne,nf,d⟩;intro q;rw[q,WE]at e;have q':oc=p.2:=SZ e;exact d w' (by rw[<-q'];exact UK)
theorem uZ(I:Inv X pins σ H s)(hN:X.N.Nodup)(hi:X.N[i]? =some x)(hx:Loc X.env.scope x)(r:RelV v u)
  (h:∀s',Inv X pins (σ.set i (some v)) H s'->Q () s') (hf:X.fn x=true\/X.env.scope.names.lookup x=some .local:=by first|exact .inl rfl|exact .inr rfl|assumption):wpAny M A (storeName X.env x u) Q E s:=
 zg I hN hi hx r (λs' I' _=>h s' I') hf
theorem Inv.pC{s':Shared}{ch:P1}(I:Inv X pins σ H s)(ho:s'.os=s.os)(u:Un (cq X.stack) ch H H' s.heap s'.heap)(aC:bx X.prog X.w H' s'.heap)(hg:AllBare s'.gens)
  (Qt:∀b∈ch,(b∈X.ex\/X.cW.heap.objs.size<=b)/\b≠X.env.locals/\(∀x c,X.env.cells.lookup x=some c->c≠b)/\∀p∈X.pn++pins,p.1≠b):Inv X pins σ H' s':=by
 obtain⟨h',g',d',t',o'⟩:=s';have e:o'=s.os:=ho;subst e;exact I.call (g':=g') (t':=t') (d':=d') u aC hg Qt
end
noncomputable abbrev XK:=Value->Option Addr->Hp->Prop
noncomputable abbrev St:=List (Option V)
noncomputable abbrev VK:=V->Hp->Prop
noncomputable abbrev TE:=St->Hp->VK->Prop
noncomputable abbrev TT:=St->Hp->(Bool->Hp->Prop)->Prop
noncomputable abbrev TA:=St->Hp->(List V->Hp->Prop)->Prop
structure Ends where
 nx:St->Hp->Prop
 rt:VK
 bk:St->Hp->Prop:=λ_ _=>False
 ct:St->Hp->Prop:=λ_ _=>False
noncomputable abbrev TS:=Ends->St->Hp->Prop
inductive EP(X:Cx)(pins:List (Addr×Obj))(σ:St)(Q:VK)(u:Value)(s':Shared):Prop
 |mk:∀v H',Inv X pins σ H' s'->RelV v u->Q v H'->EP X pins σ Q u s'
inductive TP(X:Cx)(pins:List (Addr×Obj))(σ:St)(Q:Bool->Hp->Prop)(b:Bool)(s':Shared):Prop
 |mk:∀H',Inv X pins σ H' s'->Q b H'->TP X pins σ Q b s'
inductive AP(X:Cx)(pins:List (Addr×Obj))(σ:St)(Q:List V->Hp->Prop)(us:S1)(s':Shared):Prop
 |mk:∀vs H',Inv X pins σ H' s'->Vals vs us->Q vs H'->AP X pins σ Q us s'
def SP(X:Cx)(pins:List (Addr×Obj))(D:Ends)(f:Flow)(s':Shared):Prop:=
 match f with
 |.next=>∃ME H',Inv X pins ME H' s'/\D.nx ME H'
 |.brk=>∃ME H',Inv X pins ME H' s'/\D.bk ME H'
 |.cont=>∃ME H',Inv X pins ME H' s'/\D.ct ME H'
 |.ret u=>∃v ME H',Inv X pins ME H' s'/\RelV v u/\D.rt v H'
def PE(X:Cx)(e:Expr)(t:TE):Prop:=
 ∀(pins:List (Addr×Obj)) (s:Shared) (σ:St) (H:Hp) (Q:VK),Inv X pins σ H s->t σ H Q->wpAny (model X.prog X.w) X.A (eval e X.env) (EP X pins σ Q) X.xe s
def PT(X:Cx)(e:Expr)(t:TT):Prop:=
 ∀(pins:List (Addr×Obj)) (s:Shared) (σ:St) (H:Hp) (Q:Bool->Hp->Prop),Inv X pins σ H s->t σ H Q->wpAny (model X.prog X.w) X.A (isTrue e X.env (eval e X.env)) (TP X pins σ Q) X.xe s
def PW(X:Cx)(e:Expr)(t:TT):Prop:=
 ∀(whole:Sem Value) (pins:List (Addr×Obj)) (s:Shared) (σ:St) (H:Hp) (Q:Bool->Hp->Prop),Inv X pins σ H s->t σ H Q->wpAny (model X.prog X.w) X.A (isTrue e X.env whole) (TP X pins σ Q) X.xe s
theorem PW.pt(h:PW X e t):PT X e t:=h _
def PA(X:Cx)(es:P2)(t:TA):Prop:=
 ∀(pos:Pos) (pins:List (Addr×Obj)) (s:Shared) (σ:St) (H:Hp) (Q:List V->Hp->Prop),Inv X pins σ H s->t σ H Q->wpAny (model X.prog X.w) X.A (spliced (backTo pos (starEach es X.env))) (AP X pins σ Q) X.xe s
def PS(X:Cx)(st:Stmt)(t:TS):Prop:=
 ∀(pins:List (Addr×Obj)) (s:Shared) (σ:St) (H:Hp) (D:Ends),Inv X pins σ H s->t D σ H->wpAny (model X.prog X.w) X.A (exec st X.env) (SP X pins D) X.xe s
def bC(X:Cx)(st:List Stmt)(t:TS):Prop:=
 ∀(pins:List (Addr×Obj)) (s:Shared) (σ:St) (H:Hp) (D:Ends),Inv X pins σ H s->t D σ H->wpAny (model X.prog X.w) X.A (execs st X.env) (SP X pins D) X.xe s
theorem aM{α:Type}{t:Sem α}{Q Q':α->Shared->Prop}{M:Model}{A:Around}{E:Value->Shared->Prop}{s:Shared}(h:wpAny M A t Q E s)(hQ:∀a s,Q a s->Q' a s):wpAny M A t Q' E s:=SL h hQ λ_ _ x=>x
section
variable{X:Cx}
theorem bin{a b:Expr}{ta tb:TE}(ha:PE X a ta)(hb:PE X b tb){pins:List (Addr×Obj)}{s:Shared}{σ:St}{H:Hp}{R:V->V->Hp->Prop}(I:Inv X pins σ H s)(h:ta σ H λx H1=>tb σ H1 λy H2=>R x y H2)
  {α:Type} {Q:α->Shared->Prop} {f:Value->Value->Sem α}
  (hf:∀v u s2 x y H2,Inv X pins σ H2 s2->RelV x v->RelV y u->R x y H2->wpAny (model X.prog X.w) X.A (f v u) Q X.xe s2):
  wpAny (model X.prog X.w) X.A (eval a X.env) (λv MO=>wpAny (model X.prog X.w) X.A (eval b X.env) (λu OR=>wpAny (model X.prog X.w) X.A (f v u) Q X.xe OR) X.xe MO) X.xe s:=by
 refine aM (ha pins s σ H _ I h) λv s1 ⟨x,H1,I1,r1,q1⟩=>?_;refine aM (hb pins s1 σ H1 _ I1 q1) λu s2 ⟨y,H2,I2,r2,q2⟩=>?_;exact hf v u s2 x y H2 I2 r1 r2 q2
def yy(i:Nat):TE:=λσ H Q=>∃v,σ[i]? =some (some v)/\Q v H
def tC(v:V):TE:=λ_ H Q=>Q v H
theorem Kb(hN:X.N[i]? =some x)(hv:d9 X.env.scope x)(hd:gV x:=by decide)(Nn:js x:=by decide):PE X (.Name x pos) (yy i):=by
 intro pins s σ H Q I h;obtain⟨v,e,h⟩:=h;obtain⟨m,hn,hl⟩:=I.loc;obtain⟨u,r,l⟩:=hl i x v hN e hv;have fin:EP X pins σ Q u s:=⟨v,H,I,r,h⟩;rcases l with⟨hk,hm⟩|⟨hk,c,hc,O0⟩
 ·exact wpAny_Name (wpAny_loadName_local I.ok.kind hk hn hm fin) hd
 ·rcases hk with hk|hk
  ·exact wpAny_Name (wpAny_loadName_cell I.ok.kind hk hc O0 fin) hd
  ·exact wpAny_Name (wpAny_loadName_free I.ok.kind hk hc O0 fin Nn) hd
theorem Ig{i j pos}:PE X (.Constant (.int i) j pos) (tC (.int i)):=λ_ _ _ H _ I h=>wpAny_Constant_int ⟨.int i,H,I.tok _,⟨_,rfl⟩,h⟩
theorem Dj{b j pos}:PE X (.Constant (.bool b) j pos) (tC (.bl b)):=λ_ _ _ H _ I h=>Constant_bool ⟨.bl b,H,I,rfl,h⟩
theorem zo{x j pos}:PE X (.Constant (.str x) j pos) (tC (.str x)):=λ_ _ _ H _ I h=>Calls.Constant_str ⟨.str x,H,I.tok _,⟨_,rfl⟩,h⟩
def Gl(X:Cx)(x:Str):Prop:=X.env.kindOf x=some .globalImplicit
theorem mF(I:Inv X pins σ H s)(hg:Gl X x)(hm:X.mg x=some u)(h:Q u s)
  (hd:gV x:=by decide):wpAny (model X.prog X.w) X.A (eval (.Name x pos) X.env) Q E s:=
 adl I.ok.kind hg (Calls.loadGlobal_global (by rw[I.ok.glob];exact I.mod.glob.keeps I.bk) hm h) hd
theorem iO(I:Inv X pins σ H s)(hg:Gl X x)(hm:X.mg x=none)(hv:bootBuiltins x=some u)(h:Q u s)
  (hn:x≠"__name__":=by decide) (hd:gV x:=by decide):wpAny (model X.prog X.w) X.A (eval (.Name x pos) X.env) Q E s:=by
 obtain⟨mb,h1,h2⟩:=I.mod.blt;exact adl I.ok.kind hg (Calls.loadGlobal_builtin (by rw[I.ok.glob];exact I.mod.glob.keeps I.bk) hm (by rw[I.ok.blt];exact h1.keeps I.bk) ((h2 x hn).trans hv) h) hd
theorem BL(hg:Gl X x)(hm:X.mg x=some u)(r:RelV v u)(hd:gV x:=by decide):PE X (.Name x pos) (tC v):=
 λ_ _ _ H _ I h=>mF I hg hm ⟨v,H,I,r,h⟩ hd
theorem yg(hg:Gl X x)(hm:X.mg x=none)(hv:bootBuiltins x=some u)(r:RelV v u)(hn:x≠"__name__":=by decide)(hd:gV x:=by decide):PE X (.Name x pos) (tC v):=
 λ_ _ _ H _ I h=>iO I hg hm hv ⟨v,H,I,r,h⟩ hn hd
variable{a b:Expr}{ta tb:TE}{pos:Pos}
variable{tA T3:TT}{rest:P2}
def eO(t u:TT):TT:=λσ H Q=>t σ H λc H1=>if c=true then u σ H1 Q else Q false H1
def ck(t u:TT):TT:=λσ H Q=>t σ H λc H1=>if c=true then Q true H1 else u σ H1 Q
def bD(t:TT):TT:=λσ H Q=>t σ H λc H1=>Q (!c) H1
theorem GS(ha:PT X a tA):PW X (.BoolOp .And [a] pos) tA:=by
 intro wh pins s σ H Q I h;refine isTrue_and (aM (ha pins s σ H Q I h) λc s1 e=>?_);cases c with
 |true=>exact isTrue_and_nil e
 |false=>exact e
theorem Eu(ha:PT X a tA):PW X (.BoolOp .Or [a] pos) tA:=by
 intro wh pins s σ H Q I h;refine isTrue_or (aM (ha pins s σ H Q I h) λc s1 e=>?_);cases c with
 |false=>exact isTrue_or_nil e
 |true=>exact e
theorem HX(ha:PT X a tA)(hb:PW X (.BoolOp .And (b::rest) pos) T3):PW X (.BoolOp .And (a::b::rest) pos) (eO tA T3):=by
 intro wh pins s σ H Q I h;refine isTrue_and (aM (ha pins s σ H _ I h) λc s1 ⟨H1,I1,q1⟩=>?_);cases c with
 |true=>exact hb wh pins s1 σ H1 Q I1 q1
 |false=>exact⟨H1,I1,q1⟩
theorem Gv(ha:PT X a tA)(hb:PW X (.BoolOp .Or (b::rest) pos) T3):PW X (.BoolOp .Or (a::b::rest) pos) (ck tA T3):=by
 intro wh pins s σ H Q I h;refine isTrue_or (aM (ha pins s σ H _ I h) λc s1 ⟨H1,I1,q1⟩=>?_);cases c with
 |true=>exact⟨H1,I1,q1⟩
 |false=>exact hb wh pins s1 σ H1 Q I1 q1
theorem IC(ha:PT X a tA):PT X (.UnaryOp .Not a pos) (bD tA):=by
 intro pins s σ H Q I h;exact isTrue_not (aM (ha pins s σ H (λc H1=>Q (!c) H1) I h) λ_ _=>by rintro⟨a,b,c⟩;exact ⟨a,b,c⟩)
def LO(ta tb:TE):TE:=λσ H Q=>ta σ H λx H1=>∃c,x=.bl c/\if c=true then tb σ H1 Q else Q (.bl false) H1
def Hl(ta:TE):TE:=λσ H Q=>ta σ H λx H1=>∃c,x=.bl c/\Q (.bl (!c)) H1
theorem BW{op}(h:PE X a t):PE X (.BoolOp op [a] pos) t:=λpins s σ H Q I hw=>BoolOp_one (h pins s σ H Q I hw)
theorem BQ(ha:PE X a ta)(hb:PE X (.BoolOp .And (b::rest) pos) tb):PE X (.BoolOp .And (a::b::rest) pos) (LO ta tb):=by
 intro pins s σ H Q I h;refine BoolOp_and (aM (ha pins s σ H _ I h) λv s1 ⟨x,H1,I1,r1,q1⟩=>?_);obtain⟨c,rfl,q1⟩:=q1;cases r1;refine abf ?_;cases c with
 |true=>exact hb pins s1 σ H1 Q I1 q1
 |false=>exact⟨.bl false,H1,I1,rfl,q1⟩
theorem Jj(ha:PE X a ta):PE X (.UnaryOp .Not a pos) (Hl ta):=by
 intro pins s σ H Q I h;refine UnaryOp_ (aM (ha pins s σ H _ I h) λv s1 ⟨x,H1,I1,r1,q1⟩=>?_);obtain⟨c,rfl,q1⟩:=q1;cases r1;exact not_of (abf ⟨.bl (!c),H1,I1,rfl,q1⟩)
def Fo(t:TT)(ta tb:TE):TE:=λσ H Q=>t σ H λc H1=>if c=true then ta σ H1 Q else tb σ H1 Q
theorem CV(hc:PT X c tA)(ha:PE X a ta)(hb:PE X b tb):PE X (.IfExp c a b pos) (Fo tA ta tb):=by
 intro pins s σ H Q I h;refine wpAny_IfExp (aM (hc pins s σ H _ I h) λd s1 ⟨H1,I1,q1⟩=>?_);cases d with
 |true=>exact ha pins s1 σ H1 Q I1 q1
 |false=>exact hb pins s1 σ H1 Q I1 q1
end
def aU(K:PySem.W.Frag)(H:Hp)(a:Addr)(xs:List V):Prop:=
 Rd H a (.lst xs)\/
  ∃(o:Obj) (its:Array Value) (n:Nat),K.lookup a=some o/\o.cls=.type "list"/\o.dict=none/\o.data=.seq its n/\its.size<=sizeLine/\Vals xs its.toList
def bj(K:PySem.W.Frag)(H:Hp)(a:Addr)(xs:List V):Prop:=
 Rd H a (.tup xs)\/
  ∃(o:Obj) (its:Array Value) (n:Nat),K.lookup a=some o/\o.cls=.type "tuple"/\o.data=.seq its n/\its.size<=sizeLine/\Vals xs its.toList
noncomputable def BP:Value->Option V
 |.none=>some .aP
 |.bool b=>some (.bl b)
 |.int i _=>some (.int i)
 |.str x _=>some (.str x)
 |.bytes b _=>some (.oG b)
 |.float b _=>some (.uU b)
 |.ref a=>some (.ref a)
 |.type n=>some (.ty n)
 |_=>none
theorem RelV.abs(r:RelV x u):BP u=some x:=by
 cases x with
 |aP=>cases r;rfl
 |bl _=>cases r;rfl
 |int _=>obtain⟨t,rfl⟩:=r;rfl
 |str _=>obtain⟨t,rfl⟩:=r;rfl
 |oG _=>obtain⟨t,rfl⟩:=r;rfl
 |uU _=>obtain⟨t,rfl⟩:=r;rfl
 |ref _=>cases r;rfl
 |ty _=>cases r;rfl
theorem RelV.inj{x y:V}{u:Value}(r:RelV x u)(q:RelV y u):x=y:=SZ (r.abs.symm.trans q.abs)
theorem Vals.inj:∀ {xs ys:List V} {us:S1},Vals xs us->Vals ys us->xs=ys
 |_,_,_,.nil,.nil=>rfl
 |_,_,_,.cons r t,.cons r' t'=>by rw[r.inj r',Vals.inj t t']
section
variable{X:Cx}{pins:List (Addr×Obj)}{σ:St}{H:Hp}{s:Shared}{a:Addr}{xs ys:List V}
theorem aU.of{K:PySem.W.Frag}(h:H a=some (.lst xs)):aU K H a xs:=.inl (.inl h)
theorem Inv.list(I:Inv X pins σ H s)(h:aU X.K H a xs):∃its:S1,Vals xs its/\PlainL s.heap a its.toArray/\xs.length<=sizeLine:=by
 rcases h with h|⟨o,its,n,hk,hc,hd,hs,hz,r⟩
 ·obtain⟨z,its,n,r,e⟩:=h.ok I.aC
  exact⟨its,r,⟨_,n,e,rfl,rfl,rfl⟩,z⟩
 ·refine⟨its.toList,r,⟨o,n,I.eU a o hk,hc,hd,by simpa using hs⟩,?_⟩
  have e:=r.length;simp only[aaO]at e;omega
theorem Inv.tuple(I:Inv X pins σ H s)(h:bj X.K H a xs):∃its:S1,Vals xs its/\IsTup s.heap a its.toArray/\xs.length<=sizeLine:=by
 rcases h with h|⟨o,its,n,hk,hc,hs,hz,r⟩
 ·obtain⟨z,its,r,p⟩:=h.ok I.aC
  exact⟨its,r,p,z⟩
 ·refine⟨its.toList,r,⟨o,I.eU a o hk,hc,n,by simpa using hs⟩,?_⟩
  have e:=r.length;simp only[aaO]at e;omega
theorem Inv.HD(I:Inv X pins σ H s)(h:aU X.K H a xs)(h':aU X.K H a ys):xs=ys:=by
 obtain⟨its,r,⟨o,n,e,_,_,d⟩,_⟩:=I.list h;obtain⟨its',r',⟨o',n',e',_,_,d'⟩,_⟩:=I.list h';rw[e]at e';cases e';rw[d]at d';injection d' with d1 _;have:its=its':=by simpa using congrArg Array.toList d1
 subst this;exact r.inj r'
theorem Inv.KJ(I:Inv X pins σ H s)(h:bj X.K H a xs)(h':bj X.K H a ys):xs=ys:=by
 obtain⟨its,r,⟨o,e,_,n,d⟩,_⟩:=I.tuple h;obtain⟨its',r',⟨o',e',_,n',d'⟩,_⟩:=I.tuple h';rw[e]at e';cases e';rw[d]at d';injection d' with d1 _;have:its=its':=by simpa using congrArg Array.toList d1
 subst this;exact r.inj r'
end
noncomputable abbrev Cx.fH(X:Cx)(E:Value->Shared->Prop):Cx:={X with xe:=E}
noncomputable abbrev Cx.dB(X:Cx):Cx:=X.fH λ_ _=>False
theorem Cx.Ok.fH{X:Cx}(ok:X.Ok)(E:Value->Shared->Prop):(X.fH E).Ok:=
 ⟨ok.mod,ok.kind,ok.glob,ok.blt,ok.above,ok.inj,ok.has,ok.lj,ok.hd,ok.frames,ok.j2,ok.ui,ok.bs,ok.i8,ok.mI,ok.oh,ok.gP,ok.kP,ok.tb⟩
theorem Cx.Ok.gH{X:Cx}{E:Value->Shared->Prop}(ok:(X.fH E).Ok):X.Ok:=
 ⟨ok.mod,ok.kind,ok.glob,ok.blt,ok.above,ok.inj,ok.has,ok.lj,ok.hd,ok.frames,ok.j2,ok.ui,ok.bs,ok.i8,ok.mI,ok.oh,ok.gP,ok.kP,ok.tb⟩
section
variable{X:Cx}{pins:List (Addr×Obj)}{σ:St}{H:Hp}{s:Shared}{E:Value->Shared->Prop}
theorem Inv.fH(I:Inv X pins σ H s)(E:Value->Shared->Prop):Inv (X.fH E) pins σ H s:=⟨I.ok.fH E,I.os,I.bare,I.base,I.loc,I.cell,I.free,I.fZ,I.pin,I.aC,I.len⟩
theorem Inv.gH(I:Inv (X.fH E) pins σ H s):Inv X pins σ H s:=⟨I.ok.gH,I.os,I.bare,I.base,I.loc,I.cell,I.free,I.fZ,I.pin,I.aC,I.len⟩
theorem SP.gH(h:SP (X.fH E) pins D f s'):SP X pins D f s':=by
 cases f with
 |next=>obtain⟨ME,H',I,q⟩:=h;exact⟨ME,H',I.gH,q⟩
 |brk=>obtain⟨ME,H',I,q⟩:=h;exact⟨ME,H',I.gH,q⟩
 |cont=>obtain⟨ME,H',I,q⟩:=h;exact⟨ME,H',I.gH,q⟩
 |ret u=>obtain⟨v,ME,H',I,r,q⟩:=h;exact⟨v,ME,H',I.gH,r,q⟩
theorem PT.dB(h:PT X.dB e t):PT X e t:=λpins s σ H Q I hw=>
 SL (h pins s σ H Q (I.fH _) hw) (λ_ _=>by rintro⟨H',I',q⟩;exact ⟨H',I'.gH,q⟩) λ_ _ z=>False.elim z
theorem bC.dB{st:List Stmt}{t:TS}(h:bC X.dB st t):bC X st t:=λpins s σ H D I hw=>
 SL (h pins s σ H D (I.fH _) hw) (λ_ _ q=>q.gH) λ_ _ z=>False.elim z
end
section
variable{X:Cx}{st:Stmt}{rest:List Stmt}{t u:TS}{e:Expr}{te:TE}{pos:Pos}
def LH:TS:=λD σ H=>D.nx σ H
def xh(t u:TS):TS:=λD σ H=>t {D with nx:=u D} σ H
theorem FQ:bC X [] LH:=λ_ _ σ H _ I h=>acf ⟨σ,H,I,h⟩
theorem kl(h1:PS X st t)(h2:bC X rest u):bC X (st::rest) (xh t u):=by
 intro pins s σ H D I h;refine abU (aM (h1 pins s σ H {D with nx:=u D} I h) λf s1 q=>?_);cases f with
 | next=>
  obtain⟨ME,H',I',q⟩:=q;exact h2 pins s1 ME H' D I' q
 |ret v=>exact q
 |brk=>exact q
 |cont=>exact q
theorem FZ(h1:PS X st t):bC X [st] t:=by
 intro pins s σ H D I h;refine abU (aM (h1 pins s σ H D I h) λf s1 q=>?_);cases f with
 |next=>exact acf q
 |ret v=>exact q
 |brk=>exact q
 |cont=>exact q
theorem Inv.quiet(I:Inv X pins σ H s):interactive X.env=false:=by simp[interactive,I.ok.kind]
def Kg(te:TE):TS:=λD σ H=>te σ H λ_ H1=>D.nx σ H1
theorem l6(he:PE X e te)(hs:swapsWith e none pos.line X.env=pure false:=by rfl):PS X (.Expr e pos) (Kg te):=by
 intro pins s σ H D I h;exact wpAny_Expr_any (aM (he pins s σ H _ I h) λv s1=>by rintro⟨x,H1,I1,r1,q1⟩;exact ⟨σ,H1,I1,q1⟩) I.quiet hs
def Et(te:TE):TS:=λD σ H=>te σ H D.rt
theorem mG(he:PE X e te):PS X (.Return (some e) pos) (Et te):=by
 intro pins s σ H D I h;exact wpAny_Return_some (aM (he pins s σ H _ I h) λv s1=>by rintro⟨x,H1,I1,r1,q1⟩;exact ⟨x,σ,H1,I1,r1,q1⟩)
def Gi(c:TT)(t u:TS):TS:=λD σ H=>c σ H λb H1=>if b=true then t D σ H1 else u D σ H1
theorem vd(hc:PT X c tc)(ha:bC X a t)(hb:bC X b u):PS X (.If c a b pos) (Gi tc t u):=by
 intro pins s σ H D I h;refine wpAny_If (aM (hc pins s σ H _ I h) λd s1 ⟨H1,I1,q1⟩=>?_);cases d with
 |true=>exact ha pins s1 σ H1 D I1 q1
 |false=>exact hb pins s1 σ H1 D I1 q1
def xB:TS:=λ_ _ _=>False
theorem JQ:PS X st xB:=λ_ _ _ _ _ _ h=>h.elim
theorem lT:bC X Uy xB:=λ_ _ _ _ _ _ h=>h.elim
end
noncomputable abbrev TG:=V->St->Hp->(St->Hp->Prop)->Prop
noncomputable abbrev oW:=List V->St->Hp->(St->Hp->Prop)->Prop
def PG(X:Cx)(target:Expr)(t:TG):Prop:=
 ∀(pins:List (Addr×Obj)) (s:Shared) (σ:St) (H:Hp) (v:V) (u:Value) (Q:St->Hp->Prop),Inv X pins σ H s->RelV v u->t v σ H Q->
  wpAny (model X.prog X.w) X.A (assign target X.env u) (λ_ s'=>∃ME H',Inv X pins ME H' s'/\Q ME H') X.xe s
def cb(X:Cx)(ts:P2)(t:oW):Prop:=
 ∀(pins:List (Addr×Obj)) (s:Shared) (σ:St) (H:Hp) (vs:List V) (us:S1) (Q:St->Hp->Prop),Inv X pins σ H s->Vals vs us->t vs σ H Q->
  wpAny (model X.prog X.w) X.A (assignInOrder ((assignEach ts X.env).map (·.2)) us) (λ_ s'=>∃ME H',Inv X pins ME H' s'/\Q ME H') X.xe s
noncomputable abbrev AN:=V->V->V->Hp->(Hp->Prop)->Prop
def zP(X:Cx)(t:AN):Prop:=
 ∀(pins:List (Addr×Obj)) (s:Shared) (σ:St) (H:Hp) (o i v:V) (ov iv u:Value) (Q:Hp->Prop),Inv X pins σ H s->RelV o ov->RelV i iv->RelV v u->t o i v H Q->
  wpAny (model X.prog X.w) X.A (setItem ov iv u) (λ_ s'=>∃H',Inv X pins σ H' s'/\Q H') X.xe s
section
variable{X:Cx}{pos:Pos}
def aA(i:Nat):TG:=λv σ H Q=>Q (σ.set i (some v)) H
theorem Ju(hN:X.N.Nodup)(hi:X.N[i]? =some x)(hx:Loc X.env.scope x)(hf:X.fn x=true\/X.env.scope.names.lookup x=some .local:=by first|exact .inl rfl|exact .inr rfl|assumption):PG X (.Name x pos) (aA i):=by
 intro pins s σ H v u Q I r h;exact wpAny_assign_Name (uZ I hN hi hx r (λs' I'=>⟨_,H,I',h⟩) hf)
noncomputable def DV:oW:=λvs σ H Q=>vs=[]/\Q σ H
noncomputable def Aq(t:TG)(u:oW):oW:=λvs σ H Q=>∃v r,vs=v::r/\t v σ H λME H'=>u r ME H' Q
theorem FW:cb X [] DV:=by
 intro pins s σ H vs us Q I r h;obtain⟨e,h⟩:=h;subst e;cases r;exact assignInOrder_nil ⟨σ,H,I,h⟩
theorem G6(h1:PG X e t)(h2:cb X es u)
  (hs:(assignEach (e::es) X.env).map (·.2)=assign e X.env::(assignEach es X.env).map (·.2):=by rfl):cb X (e::es) (Aq t u):=by
 intro pins s σ H vs us Q I r h;obtain⟨v,vr,e1,h⟩:=h;subst e1;cases r with
 | cons r rr=>
  rw[hs];refine assignInOrder_cons (aM (h1 pins s σ H _ _ _ I r h) λ_ s1 ⟨PM,H1,I1,q1⟩=>?_);exact h2 pins s1 PM H1 _ _ Q I1 rr q1
def hW(K:PySem.W.Frag)(n:Nat)(t:oW):TG:=λv σ H Q=>∃a xs,v=.ref a/\bj K H a xs/\xs.length=n/\t xs σ H Q
theorem Gd(hc:X.calm=true)(h:cb X es t)
  (hn:(assignEach es X.env).length=n:=by rfl) (O3:(assignEach es X.env).findIdx? (·.1)=none:=by rfl):PG X (.Tuple es k pos) (hW X.K n t):=by
 intro pins s σ H v u Q I r hw;obtain⟨a,xs,e1,hq,hl,hw⟩:=hw;subst e1;cases r;obtain⟨its,rv,ht,hz⟩:=I.tuple hq;refine assign_Tuple_tuple (I.ok.hd hc) ht (by simp[hn, <-hl,rv.length]) O3 λh' hx=>?_
 have I1:Inv X pins σ H {s with heap:=h'}:=I.kept (t':=s.toks) λb o e=>hx b o (GT (GE e)) e;exact h pins _ σ H xs _ Q I1 (by simpa using rv) hw
def Di(to ti:TE)(t:AN):TG:=λv σ H Q=>to σ H λo H1=>ti σ H1 λi H2=>t o i v H2 λH3=>Q σ H3
theorem Lz(ho:PE X o to)(hi:PE X i ti)(hs:zP X t)
  (ha:∀v,assign (.Subscript o i pos) X.env v=(do
   let ov <-holding [v] (eval o X.env)
   let iv <-holding [v,ov] (eval i X.env)
   standAt pos
   holding [v,ov,iv] (setItem ov iv v)
   release [v,ov,iv] []):=by intro _;rfl):PG X (.Subscript o i pos) (Di to ti t):=by
 intro pins s σ H v u Q I r h;rw[ha];refine tB (Wp (aM (ho pins s σ H _ I h) λov s1 ⟨x,H1,I1,r1,q1⟩=>?_));refine tB (Wp (aM (hi pins s1 σ H1 _ I1 q1) λiv s2 ⟨y,H2,I2,r2,q2⟩=>?_));refine tB (acz (tB (Wp (aM (hs pins s2 σ H2 x y v ov iv u _ I2 r1 r2 r q2) λ_ s3 ⟨H3,I3,q3⟩=>?_))));exact wpAny_release ⟨σ,H3,I3,q3⟩
def p6(te:TE)(g:TG):TS:=λD σ H=>te σ H λx H1=>g x σ H1 D.nx
theorem Br(he:PE X e te)(hg:PG X tg g)(hs:swapsWithSole [tg] e pos.line X.env=pure false:=by rfl)(hw:swappedStores [tg] e X.env=pure none:=by rfl)
  (h1:(assignEach [tg] X.env).map (·.2)=[assign tg X.env]:=by rfl):PS X (.Assign [tg] e pos) (p6 te g):=by
 intro pins s σ H D I h;refine wpAny_Assign_stores (aM (he pins s σ H _ I h) λv s1 ⟨x,H1,I1,r1,q1⟩=>?_) hs hw;rw[h1];exact aM (hg pins s1 σ H1 x v _ I1 r1 q1) λ_ s2 q=>q
theorem lq(hN:X.N.Nodup)(hi:X.N[i]? =some x)(hx:Loc X.env.scope x)(he:PE X e te)(hs:swapsWith e (some (.Name x pos')) pos.line X.env=pure false:=by rfl)(hf:X.fn x=true\/X.env.scope.names.lookup x=some .local:=by first|exact .inl rfl|exact .inr rfl|assumption):
  PS X (.Assign [.Name x pos'] e pos) (p6 te (aA i)):=by
 intro pins s σ H D I h;refine wpAny_Assign_Name (aM (he pins s σ H _ I h) λv s1 ⟨y,H1,I1,r1,q1⟩=>?_) hs;exact uZ I1 hN hi hx r1 (λs2 I2=>⟨_,H1,I2,q1⟩) hf
def Co(c:TT)(tb:TS):TS:=λD σ H=>∃W:Nat->St->Hp->Prop,(∃m,W m σ H)/\∀m σ H,W m σ H->
 c σ H λb H1=>if b=true then ∃N:St->Hp->Prop,(∀ME H',N ME H'->∃m',m'<m/\W m' ME H')/\tb {D with nx:=N,ct:=N,bk:=D.nx} σ H1 else D.nx σ H1
theorem D9(hp:PassesOwn (model X.prog X.w) X.A X.env X.xe)(hc:PT X c tc)(hb:bC X body tb):PS X (.While c body [] pos) (Co tc tb):=by
 intro pins s σ H D I h;obtain⟨W,⟨m0,w0⟩,turn⟩:=h;refine wpAny_While (codeAny_whileLoop (λn s'=>∃ME H',Inv X pins ME H' s'/\W n ME H') ?_ m0 ⟨σ,H,I,w0⟩);rintro n s1 ⟨PM,H1,I1,w1⟩;refine aaF hp (aM (hc pins s1 PM H1 _ I1 (turn n PM H1 w1)) λb s2 ⟨H2,I2,q2⟩=>?_);cases b with
 | true=>
  obtain⟨N,hN,q2⟩:=q2;rw[DM rfl];refine aaF hp (aM (hb pins s2 PM H2 _ I2 q2) λf s3 q3=>?_);cases f with
  | next=>
   obtain⟨OD,H3,I3,n3⟩:=q3;obtain⟨m',hm,w3⟩:=hN OD H3 n3;exact⟨m',hm,OD,H3,I3,w3⟩
  | cont=>
   obtain⟨OD,H3,I3,n3⟩:=q3;obtain⟨m',hm,w3⟩:=hN OD H3 n3;exact⟨m',hm,OD,H3,I3,w3⟩
  |brk=>exact q3
  |ret v=>exact q3
 | false=>
  rw[Gc aai];exact acf ⟨PM,H2,I2,q2⟩
end
structure It where
 go:Nat->Hp->Prop
 rK:Nat->Hp->V->Hp->Prop
 stop:Nat->Hp->Prop
def bS(X:Cx)(pins:List (Addr×Obj))(H:Hp)(b:Addr):Prop:=
 H b=none/\b≠X.env.locals/\b∉X.fs/\(b∈X.ex\/X.cW.heap.objs.size<=b)/\(∀x c,X.env.cells.lookup x=some c->c≠b)/\∀p∈X.pn++pins,p.1≠b
theorem Inv.m8{X:Cx}{pins:List (Addr×Obj)}{σ:St}{H H':Hp}{s:Shared}{b:Addr}(I:Inv X pins σ H s)(hb:s.heap.objs.size<=b)(hn:H' b=none):bS X pins H' b:=by
 refine⟨hn,Z7 (JK I.lt hb),I.DB hb,.inr (S3 I.sz hb),λx c e z=>?_,λp hp z=>?_⟩
 ·obtain⟨v,q⟩:=I.cell x c e
  exact absurd (JK q.lt (by rw[z];exact hb)) (aae _)
 ·exact absurd (JK (GE (I.pin p hp).1) (by rw[z];exact hb)) (aae _)
structure Turn(P:Program)(w:World)(K:PySem.W.Frag)(tg:Expr)(J:It)(fp:P1)(it:Addr)(tn:Nat->Heap->Prop):Prop where
 mem:it∈fp
 obj:∀i h,tn i h->∀b∈fp,∃o,h.get? b=some o/\∀v,o.data≠.cell v
 keep:∀i h h',tn i h->(∀b∈fp,∀o,h.get? b=some o->h'.get? b=some o)->tn i h'
 item:∀(X:Cx),X.prog=P->X.w=w->X.K=K->X.calm=true->∀(i:Nat) (pins:List (Addr×Obj)) (s:Shared) (σ:St) (H:Hp) (E:Value->Shared->Prop),Inv X pins σ H s->(∀b∈fp,bS X pins H b)->tn i s.heap->J.go i H->
  wpAny (model P w) X.A (pyNext (.ref it)) (λr s1=>∃u,r=some u/\
   wpAny (model P w) X.A (letOwnedTupleGo tg (.ref it) u) (λ_ s2=>∃x H',Inv X pins σ H' s2/\RelV x u/\J.rK i H x H'/\tn (i+1) s2.heap/\∀b∈fp,H' b=none) E s1) E s
 done:∀(X:Cx),X.prog=P->X.w=w->X.K=K->X.calm=true->∀(i:Nat) (pins:List (Addr×Obj)) (s:Shared) (σ:St) (H:Hp) (E:Value->Shared->Prop),Inv X pins σ H s->(∀b∈fp,bS X pins H b)->tn i s.heap->J.stop i H->
  wpAny (model P w) X.A (pyNext (.ref it)) (λr s1=>r=none/\Inv X pins σ H s1) E s
 self:∀(A:Around) (i:Nat) (s:Shared) (Q:Value->Shared->Prop) (E:Value->Shared->Prop),tn i s.heap->Q (.ref it) s->wpAny (model P w) A (pyIter (.ref it)) Q E s
noncomputable abbrev TI:=St->Hp->(It->Hp->Prop)->Prop
def wy(X:Cx)(pins:List (Addr×Obj))(σ:St)(tg:Expr)(R:It->Hp->Prop)(Vl:Value)(s2:Shared):Prop:=
 ∃(it:Addr) (fp:P1) (tn:Nat->Heap->Prop) (J:It) (H':Hp),Vl=.ref it/\Inv X pins σ H' s2/\Turn X.prog X.w X.K tg J fp it tn/\tn 0 s2.heap/\(∀b∈fp,bS X pins H' b)/\R J H'
def PI(X:Cx)(tg iter:Expr)(wi:TI):Prop:=
 ∀(pins:List (Addr×Obj)) (s:Shared) (σ:St) (H:Hp) (R:It->Hp->Prop),Inv X pins σ H s->wi σ H R->
  wpAny (model X.prog X.w) X.A (eval iter X.env) (λv s1=>wpAny (model X.prog X.w) X.A (pyIter v) (wy X pins σ tg R) X.xe s1) X.xe s
theorem j7(ho:s.heap.get? it=some o)(hc:o.cls=.type n)(hd:o.data=.fields vs)
  (hn:["enumerate","zip","dict_itemiterator","dict_reverseitemiterator","odict_iterator","itertools.zip_longest","itertools.pairwise"].contains n=false) (hQ:Q () s):wpAny M A (letOwnedTupleGo tg (.ref it) u) Q E s:=by
 unfold letOwnedTupleGo
 cases tg<;>first
  |exact FM hQ
  |(cases u<;>first
    |exact FM hQ
    | (refine tB (wpAny_load ho ?_)
       rw[hc,hd];show wpAny M A (if(["enumerate","zip","dict_itemiterator","dict_reverseitemiterator","odict_iterator","itertools.zip_longest","itertools.pairwise"].contains n&&vs[0]? ==some (rawInt _))=true then _ else _) Q E s
       rw[Gc (by intro h;rw[hn,Bool.false_and]at h;cases h)]
       exact FM hQ))
noncomputable def m6(K:PySem.W.Frag)(a:Addr):It:=
 ⟨λi H=>∃xs x,aU K H a xs/\xs[i]? =some x,λi H x H'=>H'=H/\∀xs,aU K H a xs->xs[i]? =some x,λi H=>∃xs,aU K H a xs/\xs.length<=i⟩
noncomputable def nH(K:PySem.W.Frag)(a:Addr):It:=
 ⟨λi H=>∃xs x,bj K H a xs/\xs[i]? =some x,λi H x H'=>H'=H/\∀xs,bj K H a xs->xs[i]? =some x,λi H=>∃xs,bj K H a xs/\xs.length<=i⟩
noncomputable def dW(lo:Int)(n:Nat):It:=⟨λi _=>i<n,λi H x H'=>H'=H/\x=.int (lo+i),λi _=>n<=i⟩
theorem Ep{P:Program}{w:World}{K:PySem.W.Frag}{tg:Expr}(a it:Addr):Turn P w K tg (m6 K a) [it] it (λi h=>h.IsListIter it a i) where
 mem:=by simp
 obj:=λi h st b hb=>by
  have e:b=it:=by simpa using hb
  subst e;obtain⟨o,e,c,d⟩:=st;exact⟨o,e,λv z=>by rw[d]at z;cases z⟩
 keep:=λi h h' st k=>st.at λo e=>k it (by simp) o e
 item:=by
  intro X hP hw hK hc i pins s σ H E I hf st hg;subst hP hw hK;obtain⟨xs,x,hq,hx⟩:=hg;obtain⟨its,rv,p,hz⟩:=I.list hq;obtain⟨u,hu,ru⟩:=rv.get hx;obtain⟨f0,f1,f2,f3,f4,f5⟩:=hf it (by simp)
  refine abZ st p.isList (x:=u) (by simpa using hu) λh' Ov sb=>?_
  have I1:Inv X pins σ H {s with heap:=h'}:=I.turned (t':=s.toks) (λb o hb e=>(sb.2 b hb).trans e) f0 f1 f3 f4 f5;obtain⟨o,e,c,d⟩:=id Ov;exact⟨u,rfl,j7 (s:={s with heap:=h'}) e c d (by decide) ⟨x,H,I1,ru,⟨rfl,λys hy=>by rw[I.HD hy hq];exact hx⟩,Ov,λb hb=>(hf b hb).1⟩⟩
 done:=by
  intro X hP hw hK hc i pins s σ H E I hf st hg;subst hP hw hK;obtain⟨xs,hq,hx⟩:=hg;obtain⟨its,rv,p,hz⟩:=I.list hq;obtain⟨f0,f1,f2,f3,f4,f5⟩:=hf it (by simp)
  have hl:=rv.length;exact ack (I.ok.hd hc) st p.isList (by simp;omega) λh' eb=>⟨rfl,I.turned (t':=s.toks) (λb o hb e=>eb b o hb e) f0 f1 f3 f4 f5⟩
 self:=λ_ _ _ _ _ st h=>wpAny_pyIter_listiter st h
theorem BS{P:Program}{w:World}{K:PySem.W.Frag}{tg:Expr}(a it:Addr):Turn P w K tg (nH K a) [it] it (λi h=>h.IsTupleIter it a i) where
 mem:=by simp
 obj:=λi h st b hb=>by
  have e:b=it:=by simpa using hb
  subst e;obtain⟨o,e,c,d⟩:=st;exact⟨o,e,λv z=>by rw[d]at z;cases z⟩
 keep:=λi h h' st k=>st.at λo e=>k it (by simp) o e
 item:=by
  intro X hP hw hK hc i pins s σ H E I hf st hg;subst hP hw hK;obtain⟨xs,x,hq,hx⟩:=hg;obtain⟨its,rv,p,hz⟩:=I.tuple hq;obtain⟨u,hu,ru⟩:=rv.get hx;obtain⟨f0,f1,f2,f3,f4,f5⟩:=hf it (by simp)
  refine wpAny_pyNext_tuple_item st (show s.heap.IsTuple a its.toArray from p) (x:=u) (by simpa using hu) λh' Ov sb=>?_
  have I1:Inv X pins σ H {s with heap:=h'}:=I.turned (t':=s.toks) (λb o hb e=>(sb.2 b hb).trans e) f0 f1 f3 f4 f5;obtain⟨o,e,c,d⟩:=id Ov;exact⟨u,rfl,j7 (s:={s with heap:=h'}) e c d (by decide) ⟨x,H,I1,ru,⟨rfl,λys hy=>by rw[I.KJ hy hq];exact hx⟩,Ov,λb hb=>(hf b hb).1⟩⟩
 done:=by
  intro X hP hw hK hc i pins s σ H E I hf st hg;subst hP hw hK;obtain⟨xs,hq,hx⟩:=hg;obtain⟨its,rv,p,hz⟩:=I.tuple hq;obtain⟨f0,f1,f2,f3,f4,f5⟩:=hf it (by simp)
  have hl:=rv.length;exact wpAny_pyNext_tuple_end (I.ok.hd hc) st (show s.heap.IsTuple a its.toArray from p) (by simp;omega) λh' eb=>⟨rfl,I.turned (t':=s.toks) (λb o hb e=>eb b o hb e) f0 f1 f3 f4 f5⟩
 self:=λ_ _ _ _ _ st h=>wpAny_pyIter_tupleiter st h
theorem LC{P:Program}{w:World}{K:PySem.W.Frag}{tg:Expr}(it:Addr)(lo:Int)(n:Nat):Turn P w K tg (dW lo n) [it] it (λi h=>IsRangeIter h it (lo+(i:Nat)*1) ((n:Int) - (i:Nat)) 1) where
 mem:=by simp
 obj:=λi h st b hb=>by
  have e:b=it:=by simpa using hb
  subst e
  exact⟨_,st,λv z=>by
   have z':Data.fields _=Data.cell v:=z;cases z'⟩
 keep:=λi h h' st k=>k it (by simp) _ st
 item:=by
  intro X hP hw hK hc i pins s σ H E I hf st hg;subst hP hw hK;obtain⟨f0,f1,f2,f3,f4,f5⟩:=hf it (by simp)
  have W:=Walks.range (prog:=X.prog) (w:=X.w) (I.ok.hd hc) it lo 1 n;refine W.item i s _ _ hg st λv h' tk hv Ov kk=>?_;obtain⟨t,rfl⟩:=hv;have I1:Inv X pins σ H {s with heap:=h',toks:=tk}:=I.turned (λb o hb e=>kk b o (by simpa using hb) e) f0 f1 f3 f4 f5
  refine⟨_,rfl,j7 (s:={s with heap:=h',toks:=tk}) (n:="range_iterator") Ov rfl rfl (by decide) ⟨.int (lo+i),H,I1,⟨t,?_⟩,⟨rfl,rfl⟩,Ov,λb hb=>(hf b hb).1⟩⟩
  rw[Int.mul_one]
 done:=by
  intro X hP hw hK hc i pins s σ H E I hf st hg;subst hP hw hK;obtain⟨f0,f1,f2,f3,f4,f5⟩:=hf it (by simp)
  exact adx (I.ok.hd hc) st (by have:n<=i:=hg;omega) λh' eb=>⟨rfl,I.turned (t':=s.toks) (λb o hb e=>eb b o hb e) f0 f1 f3 f4 f5⟩
 self:=λ_ _ _ _ _ st h=>ady st h
section
variable{X:Cx}{tg:Expr}
theorem xb{pins:List (Addr×Obj)}{σ:St}{H:Hp}{s:Shared}{R:It->Hp->Prop}{E:Value->Shared->Prop}{lo hi:Int}{t u v:Tok}{tk:Nat}(I:Inv X pins σ H s)(h1: -(2 ^ 62)<=lo)(h2:lo<2 ^ 62)(h3: -(2 ^ 62)<=hi)(h4:hi<2 ^ 62)
  (q:R (dW lo (hi - lo).toNat) H):wpAny (model X.prog X.w) X.A (pyIter (.ref s.heap.objs.size)) (wy X pins σ tg R) E {s with heap:=s.heap.push {cls:=.type "range",data:=.fields #[.int lo t,.int hi u,.int 1 v]},toks:=tk}:=by
 refine wpAny_pyIter_range (adJ ..) (small_one h1 h2 h3 h4) ?_;have I1:Inv X pins σ H {s with heap:=s.heap.push {cls:=.type "range",data:=.fields #[.int lo t,.int hi u,.int 1 v]},toks:=tk}:=I.kept λb o e=>sa _ e
 refine⟨(s.heap.push {cls:=.type "range",data:=.fields #[.int lo t,.int hi u,.int 1 v]}).objs.size,[(s.heap.push {cls:=.type "range",data:=.fields #[.int lo t,.int hi u,.int 1 v]}).objs.size],_,_,H,rfl,
  I1.kept (t':=tk) λb o e=>sa _ e,LC _ lo (hi - lo).toNat,?_,λb hb=>?_,q⟩
 ·have e1:lo+((0:Nat):Int)*1=lo:=by simp
  have e2:(((hi - lo).toNat:Nat):Int) - ((0:Nat):Int)=Builtin.Range.rangeSize lo hi 1:=by rw[rangeSize_one];split<;>omega
  show IsRangeIter _ _ (lo+((0:Nat):Int)*1) ((((hi - lo).toNat:Nat):Int) - ((0:Nat):Int)) 1;rw[e1,e2];exact KF _ rfl
 ·have e:b=(s.heap.push {cls:=.type "range",data:=.fields #[.int lo t,.int hi u,.int 1 v]}).objs.size:=by simpa using hb
  subst e;exact I1.m8 (IR _) (I1.aC.fresh (IR _))
def fI(ta:TA):TI:=λσ H R=>ta σ H λvs H1=>∃j:Int,vs=[.int j]/\ -(2 ^ 62)<=j/\j<2 ^ 62/\R (dW 0 j.toNat) H1
def oQ(ta:TA):TI:=λσ H R=>ta σ H λvs H1=>∃i j:Int,vs=[.int i,.int j]/\(-(2 ^ 62)<=i/\i<2 ^ 62/\ -(2 ^ 62)<=j/\j<2 ^ 62)/\R (dW i (j - i).toNat) H1
theorem Jw{a:Expr}{ta:TA}{p pos:Pos}(hg:Gl X "range")(hm:X.mg "range"=none)(ha:PA X [a] ta)(hs:starEach [a] X.env=[(false,eval a X.env)]:=by rfl):PI X tg (.Call (.Name "range" p) [a] [] pos) (fI ta):=by
 intro pins s σ H R I h;refine Call_ (iO I hg hm boot_range (S8 (aM (ha pos pins s σ H _ I h) λus s1 ⟨vs,H1,I1,r1,q1⟩=>?_) hs rfl));obtain⟨j,e,q1,q2,q⟩:=q1;subst e;cases r1 with
 | cons r rr=>
  cases rr;obtain⟨t,rfl⟩:=r;exact call_range_1 (xb I1 (by omega) (by omega) q1 q2 (by simpa using q))
theorem Cs(hg:Gl X "range")(hm:X.mg "range"=none)(ha:PA X [a,b] ta)(hs:starEach [a,b] X.env=[(false,eval a X.env),(false,eval b X.env)]:=by rfl)(NU:starEach [b] X.env=[(false,eval b X.env)]:=by rfl):
  PI X tg (.Call (.Name "range" p) [a,b] [] pos) (oQ ta):=by
 intro pins s σ H R I h;refine Call_ (iO I hg hm boot_range (S8 (aM (ha pos pins s σ H _ I h) λus s1 ⟨vs,H1,I1,r1,q1⟩=>?_) (by rw[hs,NU]) (by rw[NU];rfl)))
 obtain⟨i,j,e,⟨q1,q2,q3,q4⟩,q⟩:=q1;subst e;cases r1 with
 | cons r rr=>
  cases rr with
  | cons r' rr=>
   cases rr;obtain⟨t,rfl⟩:=r;obtain⟨t',rfl⟩:=r';exact call_range_2 (xb I1 q1 q2 q3 q4 q)
def CM(wi:TI)(g:TG)(tb:TS):TS:=λD σ H=>wi σ H λJ H1=>∃W:Nat->Nat->St->Hp->Prop,(∃m,W 0 m σ H1)/\∀i m σ H,W i m σ H->
 (J.stop i H/\D.nx σ H)\/(J.go i H/\∃N:St->Hp->Prop,(∀ME H',N ME H'->∃m',m'<m/\W (i+1) m' ME H')/\∀x H',J.rK i H x H'->g x σ H' λUu H2=>tb {D with nx:=N,ct:=N,bk:=D.nx} Uu H2)
noncomputable def mM(fp:P1)(h:Heap):List (Addr×Obj):=fp.filterMap λb=>(h.get? b).map λo=>(b,o)
theorem qk{fp:P1}{h:Heap}{b:Addr}{o:Obj}(hb:b∈fp)(e:h.get? b=some o):(b,o)∈mM fp h:=acm.mpr ⟨b,hb,by rw[e];rfl⟩
theorem Lw(hp:p∈mM fp h):p.1∈fp/\h.get? p.1=some p.2:=by
 obtain⟨b,hb,e⟩:=acm.mp hp;cases q:h.get? b with
 |none=>rw[q]at e;cases e
 | some o=>
  rw[q]at e;have e':(b,o)=p:=SZ e;subst e';exact⟨hb,q⟩
theorem Inv.pinned{pins:List (Addr×Obj)}{σ:St}{H:Hp}{s:Shared}{fp:P1}(I:Inv X pins σ H s)(hf:∀b∈fp,bS X pins H b)(ho:∀b∈fp,∃o,s.heap.get? b=some o/\∀v,o.data≠.cell v):Inv X (pins++mM fp s.heap) σ H s:=
 I.BF λp hp=>(FS.mp hp).elim (λz=>I.pin p (Do _ z)) λz=>by
  obtain⟨hb,e⟩:=Lw z;obtain⟨f0,f1,f2,_⟩:=hf p.1 hb;obtain⟨o,e',d⟩:=ho p.1 hb;rw[e]at e';cases e';exact⟨e,f0,f1,f2,d⟩
theorem Inv.rP{pins pl:List (Addr×Obj)}{σ:St}{H:Hp}{s:Shared}(I:Inv X (pins++pl) σ H s):Inv X pins σ H s:=I.BF λp hp=>I.pin p (Do _ (JU _ hp))
theorem DS(hp:PassesOwn (model X.prog X.w) X.A X.env X.xe)(hc:X.calm=true)(hi:PI X tg iter wi)(hg:PG X tg g)(hb:bC X body tb)
  (hs:∀x,foldedSetIterable iter X.env x=pure x:=by intro _;rfl):PS X (.For tg iter body [] pos) (CM wi g tb):=by
 intro pins s σ H D I h;refine wpAny_For (aM (hi pins s σ H _ I h) λv s1 h1=>aM h1 λVl s2 h2=>?_) hs;obtain⟨it,fp,tn,J,H2,e,I2,T,PX,f2,W,⟨m0,w0⟩,turn⟩:=h2;subst e;have RR:∀ {H':Hp},(∀b∈fp,H' b=none)->∀b∈fp,bS X pins H' b:=λhn b hb=>⟨hn b hb,(f2 b hb).2⟩;refine codeAny_forLoop_any (λn s'=>∃i ME H',Inv X pins ME H' s'/\tn i s'.heap/\(∀b∈fp,H' b=none)/\W i n ME H') ?_ m0 ⟨0,σ,H2,I2,PX,λb hb=>(f2 b hb).1,w0⟩;rintro n s3 ⟨i,OD,H3,I3,WG,T4,w3⟩;rcases turn i n OD H3 w3 with⟨stop,qn⟩|⟨go,N,hN,step⟩
 ·refine aaF hp (aM (T.done X rfl rfl rfl hc i pins s3 OD H3 X.xe I3 (RR T4) WG stop) λr s4 ⟨hr,I4⟩=>?_)
  subst hr;exact acf ⟨OD,H3,I4,qn⟩
 ·refine aaF hp (aM (T.item X rfl rfl rfl hc i pins s3 OD H3 X.xe I3 (RR T4) WG go) λr s4 ⟨u,hr,h4⟩=>?_)
  subst hr;refine aaF hp (aM h4 λ_ s5 ⟨x,H5,I5,r5,y5,RI,UM⟩=>?_);have Vw:=I5.pinned (RR UM) (T.obj _ _ RI);refine aaF hp (aM (hg _ s5 OD H5 x u _ Vw r5 (step x H5 y5)) λ_ s6 ⟨PF,H6,I6,q6⟩=>?_);refine aaF hp (aM (hb _ s6 PF H6 _ I6 q6) λf s7 q7=>?_)
  have again:∀ {Ql:St} {H7:Hp},Inv X (pins++mM fp s5.heap) Ql H7 s7->N Ql H7->∃m,m<n/\∃i ME H',Inv X pins ME H' s7/\tn i s7.heap/\(∀b∈fp,H' b=none)/\W i m ME H':=λ{Ql H7} I7 n7=>by
   obtain⟨m',hm,w7⟩:=hN Ql H7 n7;refine⟨m',hm,i+1,Ql,H7,I7.rP,T.keep _ _ _ RI λb hb o e=>(I7.pin (b,o) (Do _ (Do _ (qk hb e)))).1,λb hb=>?_,w7⟩;obtain⟨o,e,d⟩:=T.obj _ _ RI b hb;exact(I7.pin (b,o) (Do _ (Do _ (qk hb e)))).2.1
  cases f with
  |next=>obtain⟨Ql,H7,I7,n7⟩:=q7;exact again I7 n7
  |cont=>obtain⟨Ql,H7,I7,n7⟩:=q7;exact again I7 n7
  |brk=>obtain⟨Ql,H7,I7,q7⟩:=q7;exact⟨Ql,H7,I7.rP,q7⟩
  |ret v=>obtain⟨x7,Ql,H7,I7,r7,q7⟩:=q7;exact⟨x7,Ql,H7,I7.rP,r7,q7⟩
noncomputable abbrev R2:=V->V->Hp->VK->Prop
def aR(X:Cx)(f:Value->Value->Sem Value)(r:R2):Prop:=
 ∀(pins:List (Addr×Obj)) (s:Shared) (σ:St) (H:Hp) (x y:V) (v u:Value) (Q:VK),Inv X pins σ H s->RelV x v->RelV y u->r x y H Q->
  wpAny (model X.prog X.w) X.A (f v u) (EP X pins σ Q) X.xe s
def cB(X:Cx)(f:Value->Sem Value)(r:V->Hp->VK->Prop):Prop:=
 ∀(pins:List (Addr×Obj)) (s:Shared) (σ:St) (H:Hp) (x:V) (v:Value) (Q:VK),Inv X pins σ H s->RelV x v->r x H Q->
  wpAny (model X.prog X.w) X.A (f v) (EP X pins σ Q) X.xe s
def bq(X:Cx)(f:Value)(r:List V->Hp->VK->Prop):Prop:=
 ∀(pins:List (Addr×Obj)) (s:Shared) (σ:St) (H:Hp) (xs:List V) (us:S1) (Q:VK),Inv X pins σ H s->Vals xs us->r xs H Q->
  wpAny (model X.prog X.w) X.A (call f us) (EP X pins σ Q) X.xe s
def DR(X:Cx)(r:V->Hp->(Bool->Hp->Prop)->Prop):Prop:=
 ∀(pins:List (Addr×Obj)) (s:Shared) (σ:St) (H:Hp) (x:V) (v:Value) (Q:Bool->Hp->Prop),Inv X pins σ H s->RelV x v->r x H Q->
  wpAny (model X.prog X.w) X.A (truthy v) (TP X pins σ Q) X.xe s
def nz(r:R2)(ta tb:TE):TE:=λσ H Q=>ta σ H λx H1=>tb σ H1 λy H2=>r x y H2 Q
def za(r:V->Hp->VK->Prop)(ta:TE):TE:=λσ H Q=>ta σ H λx H1=>r x H1 Q
def rI(C:Int->Int->Prop)(g:Int->Int->V):R2:=λx y H Q=>∃i j,x=.int i/\y=.int j/\C i j/\Q (g i j) H
def gm(g:Int->Int->V):R2:=λx y H Q=>∃i j,x=.int i/\y=.int j/\Q (g i j) H
def rU(g:Int->V):V->Hp->VK->Prop:=λx H Q=>∃i,x=.int i/\Q (g i) H
variable{a:Expr}{b:Expr}{c:Expr}{ta:TE}{tb:TE}{tc:TE}{pos:Pos}
theorem uh(ha:PE X a ta)(hb:PE X b tb){pins:List (Addr×Obj)}{s:Shared}{σ:St}{H:Hp}{R:V->V->Hp->Prop}(I:Inv X pins σ H s)
  (h:ta σ H λx H1=>tb σ H1 λy H2=>R x y H2) {Q:Value->Shared->Prop} {f:Value->Value->Sem Value}
  (hf:∀v u s2 x y H2,Inv X pins σ H2 s2->RelV x v->RelV y u->R x y H2->wpAny (model X.prog X.w) X.A (f v u) Q X.xe s2):
  wpAny (model X.prog X.w) X.A (eval a X.env) (λv MO=>wpAny (model X.prog X.w) X.A (eval b X.env) (λu OR=>wpAny (model X.prog X.w) X.A (f v u) Q X.xe OR) X.xe MO) X.xe s:=by
 refine aM (ha pins s σ H _ I h) λv s1 ⟨x,H1,I1,r1,q1⟩=>?_;refine aM (hb pins s1 σ H1 _ I1 q1) λu s2 ⟨y,H2,I2,r2,q2⟩=>?_;exact hf v u s2 x y H2 I2 r1 r2 q2
theorem B8{op:Operator}{r:R2}(ho:aR X (binaryOp op) r)(ha:PE X a ta)(hb:PE X b tb):PE X (.BinOp a op b pos) (nz r ta tb):=by
 intro pins s σ H Q I h;exact wpAny_BinOp (uh ha hb I h λv u s2 x y H2 I2 rx ry q=>ho pins s2 σ H2 x y v u Q I2 rx ry q)
theorem Hx(ho:cB X (unaryOp op) r)(ha:PE X a ta):PE X (.UnaryOp op a pos) (za r ta):=by
 intro pins s σ H Q I h;exact UnaryOp_ (aM (ha pins s σ H _ I h) λv s1=>by rintro⟨x,H1,I1,r1,q1⟩;exact ho pins s1 σ H1 x v Q I1 r1 q1)
theorem qc{f:Value->Value->Sem Value}{C:Int->Int->Prop}{g:Int->Int->Int}
  (rule:∀(i j:Int) (t u:Tok) (s:Shared) (Q:Value->Shared->Prop) (E:Value->Shared->Prop),C i j->Q (.int (g i j) s.toks) {s with toks:=s.toks+1}->wpAny (model X.prog X.w) X.A (f (.int i t) (.int j u)) Q E s):
  aR X f (rI C λi j=>.int (g i j)):=by
 intro pins s σ H x y v u Q I rx ry h;obtain⟨i,j,rfl,rfl,hc,q⟩:=h;obtain⟨t,rfl⟩:=rx;obtain⟨t',rfl⟩:=ry;exact rule i j t t' s _ _ hc ⟨.int (g i j),H,I.tok _,⟨_,rfl⟩,q⟩
theorem Bs{f:Value->Value->Sem Value}{g:Int->Int->Int}
  (rule:∀(i j:Int) (t u:Tok) (s:Shared) (Q:Value->Shared->Prop) (E:Value->Shared->Prop),Q (.int (g i j) s.toks) {s with toks:=s.toks+1}->wpAny (model X.prog X.w) X.A (f (.int i t) (.int j u)) Q E s):
  aR X f (gm λi j=>.int (g i j)):=by
 intro pins s σ H x y v u Q I rx ry h;obtain⟨i,j,rfl,rfl,q⟩:=h;obtain⟨t,rfl⟩:=rx;obtain⟨t',rfl⟩:=ry;exact rule i j t t' s _ _ ⟨.int (g i j),H,I.tok _,⟨_,rfl⟩,q⟩
theorem rM{f:Value->Value->Sem Value}{g:Int->Int->Bool}
  (rule:∀(i j:Int) (t u:Tok) (s:Shared) (Q:Value->Shared->Prop) (E:Value->Shared->Prop),Q (.bool (g i j)) s->wpAny (model X.prog X.w) X.A (f (.int i t) (.int j u)) Q E s):
  aR X f (gm λi j=>.bl (g i j)):=by
 intro pins s σ H x y v u Q I rx ry h;obtain⟨i,j,rfl,rfl,q⟩:=h;obtain⟨t,rfl⟩:=rx;obtain⟨t',rfl⟩:=ry;exact rule i j t t' s _ _ ⟨.bl (g i j),H,I,rfl,q⟩
theorem bp:aR X (binaryOp .Add) (gm λi j=>.int (i+j)):=Bs λ_ _ _ _ _ _ _ q=>add_int q
theorem gc:aR X (binaryOp .Sub) (gm λi j=>.int (i - j)):=Bs λ_ _ _ _ _ _ _ q=>sub_int q
theorem bY:aR X (binaryOp .Mod) (rI (λ_ j=>0<j) λi j=>.int (i % j)):=qc λi j _ _ _ _ _ hc q=>by
 have h1:(0:Int)<j:=hc;exact mod_int' (by omega) (by rw[Int.fmod_eq_emod_of_nonneg i (by omega)];exact q)
theorem LV{f:Value->Sem Value}{g:Int->Int}
  (rule:∀(i:Int) (t:Tok) (s:Shared) (Q:Value->Shared->Prop) (E:Value->Shared->Prop),Q (.int (g i) s.toks) {s with toks:=s.toks+1}->wpAny (model X.prog X.w) X.A (f (.int i t)) Q E s):
  cB X f (rU λi=>.int (g i)):=by
 intro pins s σ H x v Q I rx h;obtain⟨i,rfl,q⟩:=h;obtain⟨t,rfl⟩:=rx;exact rule i t s _ _ ⟨.int (g i),H,I.tok _,⟨_,rfl⟩,q⟩
theorem Cb:cB X (unaryOp .USub) (rU λi=>.int (-i)):=LV λ_ _ _ _ _ q=>neg_int q
theorem qq:aR X (compareOp .Lt) (gm λi j=>.bl (decide (i<j))):=rM λ_ _ _ _ _ _ _ q=>lt_int q
theorem oF:aR X (compareOp .LtE) (gm λi j=>.bl (decide (i<=j))):=rM λ_ _ _ _ _ _ _ q=>le_int q
theorem sG:aR X (compareOp .Gt) (gm λi j=>.bl (decide (j<i))):=rM λ_ _ _ _ _ _ _ q=>gt_int q
theorem IT:aR X (compareOp .GtE) (gm λi j=>.bl (decide (j<=i))):=rM λ_ _ _ _ _ _ _ q=>ge_int q
theorem aR.or{f:Value->Value->Sem Value}{r r':R2}(h:aR X f r)(h':aR X f r'):aR X f (λx y H Q=>r x y H Q\/r' x y H Q):=by
 intro pins s σ H x y v u Q I rx ry q;rcases q with q|q
 ·exact h pins s σ H x y v u Q I rx ry q
 ·exact h' pins s σ H x y v u Q I rx ry q
theorem xl(b:Expr)(h:op≠.In:=by decide)(h2:op≠.NotIn:=by decide):behindInMarks op b=false:=by
 have e1:(op==CmpOp.In)=false:=by cases op<;>first|rfl|exact absurd rfl h
 have e2:(op==CmpOp.NotIn)=false:=by cases op<;>first|rfl|exact absurd rfl h2
 cases b<;>simp[behindInMarks,e1,e2]
theorem G2{op:CmpOp}{r:R2}(ho:aR X (compareOp op) r)(ha:PE X a ta)(hb:PE X b tb)(hm:behindInMarks op b=false):PE X (.Compare a [op] [b] pos) (nz r ta tb):=by
 intro pins s σ H Q I h;exact wpAny_Compare1 (uh ha hb I h λv u s2 x y H2 I2 rx ry q=>ho pins s2 σ H2 x y v u Q I2 rx ry q) hm
def DU(t:TE):TT:=λσ H Q=>t σ H λx H'=>∃k,x=.bl k/\Q k H'
theorem GV(ho:aR X (compareOp op) r)(ha:PE X a ta)(hb:PE X b tb)(hm:behindInMarks op b=false):PT X (.Compare a [op] [b] pos) (DU (nz r ta tb)):=by
 intro pins s σ H Q I h
 refine wpAny_isTrue_Compare1 (aM (ha pins s σ H _ I h) λv s1 ⟨x,H1,I1,r1,q1⟩=>aM (hb pins s1 σ H1 _ I1 q1) λu s2 ⟨y,H2,I2,r2,q2⟩=>
  aM (ho pins s2 σ H2 x y v u _ I2 r1 r2 q2) λc s3 ⟨z,H3,I3,r3,k,e,q3⟩=>?_) hm
 subst e;cases r3;exact abf ⟨H3,I3,q3⟩
def D0(r r':R2)(ta tb tc:TE):TE:=λσ H Q=>ta σ H λx H1=>tb σ H1 λy H2=>r x y H2 λz H3=>∃k,z=.bl k/\
 (if k=true then tc σ H3 λw' H4=>r' y w' H4 Q else Q (.bl false) H3)
theorem Ee(ho:aR X (compareOp op) r)(OH:aR X (compareOp op') r')(ha:PE X a ta)(hb:PE X b tb)(hc:PE X c tc)
  (hm:lastMarks [op,op'] [b,c]=false:=by with_unfolding_all rfl):PE X (.Compare a [op,op'] [b,c] pos) (D0 r r' ta tb tc):=by
 intro pins s σ H Q I h
 refine Compare_chain (aM (ha pins s σ H _ I h) λv s1 ⟨x,H1,I1,r1,q1⟩=>chain_link (aM (hb pins s1 σ H1 _ I1 q1) λu s2 ⟨y,H2,I2,r2,q2⟩=>
  aM (ho pins s2 σ H2 x y v u _ I2 r1 r2 q2) λd s3 ⟨z,H3,I3,r3,k,e,q3⟩=>?_)) hm
 subst e;cases r3;refine abf ?_;cases k with
 |false=>exact ite_ff ⟨.bl false,H3,I3,rfl,q3⟩
 |true=>exact ite_tt (chain_last (aM (hc pins s3 σ H3 _ I3 q3) λw' s4=>by rintro⟨z',H4,I4,r4,q4⟩;exact OH pins s4 σ H4 y z' u w' Q I4 r2 r4 q4))
def uH(K:PySem.W.Frag)(x:V)(H:Hp)(k:Bool):Prop:=
 match x with
 |.aP=>k=false
 |.bl b=>k=b
 |.int i=>k=(i != 0)
 |.str y=>y.length<=sizeLine/\k=((y.length:Int) != 0)
 |.oG y=>y.size<=sizeLine/\k=((y.size:Int) != 0)
 |.ref p=>(∃xs,aU K H p xs/\k= !xs.isEmpty)\/(∃xs,bj K H p xs/\k= !xs.isEmpty)\/∃kvs,H p=some (.dK kvs)/\k= !kvs.isEmpty
 |_=>False
theorem Gz{κ:Type}{kvs:List (κ×V)}{vs:List (κ×Value)}(r:KV kvs vs):(!vs.isEmpty)= !kvs.isEmpty:=by
 cases r<;>rfl
theorem AQ{xs:List V}{its:S1}(r:Vals xs its):(!its.toArray.isEmpty)= !xs.isEmpty:=by
 cases r<;>simp
theorem kc:(sizeLine:Nat)<2 ^ 63:=by rw[aaj];decide
theorem Jy:DR X (λx H Q=>∃k,uH X.K x H k/\Q k H):=by
 intro pins s σ H x v Q I rx h;obtain⟨k,e,q⟩:=h;have hl:=kc;have hs:sizeLine=16777216:=aaj;cases x with
 | aP=>
  cases rx;have e':k=false:=e;subst e';exact truthy_none ⟨H,I,q⟩
 | bl b=>
  cases rx;have e':k=b:=e;subst e';exact abf ⟨H,I,q⟩
 | int i=>
  obtain⟨t,rfl⟩:=rx;have e':k=(i != 0):=e;subst e';exact PySem.P.truthy_int ⟨H,I,q⟩
 | str y=>
  obtain⟨t,rfl⟩:=rx;obtain⟨hy,e'⟩:y.length<=sizeLine/\k=((y.length:Int) != 0):=e;subst e';exact PySem.P.truthy_str (by omega) ⟨H,I.tok _,q⟩
 | oG y=>
  obtain⟨t,rfl⟩:=rx;obtain⟨hy,e'⟩:y.size<=sizeLine/\k=((y.size:Int) != 0):=e;subst e';exact PySem.W.truthy_bytes (by omega) ⟨H,I.tok _,q⟩
 | ref p=>
  cases rx;have e':(∃xs,aU X.K H p xs/\k= !xs.isEmpty)\/(∃xs,bj X.K H p xs/\k= !xs.isEmpty)\/∃kvs,H p=some (.dK kvs)/\k= !kvs.isEmpty:=e;rcases e' with⟨xs,hx,e'⟩|⟨xs,hx,e'⟩|⟨kvs,hx,e'⟩
  ·subst e'
   obtain⟨its,r,pl,hz⟩:=I.list hx;have hlen:=r.length;exact wpAny_truthy_list pl.isList (by simp only[Da];omega) ⟨H,I.tok _,by rw[AQ r];exact q⟩
  ·subst e'
   obtain⟨its,r,pl,hz⟩:=I.tuple hx;have hlen:=r.length;exact truthy_tuple pl (by simp only[Da];omega) ⟨H,I.tok _,by rw[AQ r];exact q⟩
  ·subst e'
   obtain⟨hz,hS,vs,r,m⟩:kvs.length<=sizeLine/\(p==sysModules)=false/\∃vs,KV kvs vs/\s.heap.DictOf (cV X.prog X.w) p vs:=I.aC p _ hx;have hlen:kvs.length=vs.length:=acy r;exact wpAny_truthy_dict hS m (by omega) ⟨H,I.tok _,by rw[Gz r];exact q⟩
 |_=>exact(show False from e).elim
theorem IX(ha:PE X a ta)(he:∀whole,isTrue a X.env whole=(do let v <-whole;standAt a.pos;holding [v] (truthy v))):
  PT X a (λσ H Q=>ta σ H λx H'=>∃k,uH X.K x H' k/\Q k H'):=by
 intro pins s σ H Q I h;exact isTrue_plain (aM (ha pins s σ H _ I h) λv s1=>by rintro⟨x,H1,I1,r1,q1⟩;exact Jy pins s1 σ H1 x v Q I1 r1 q1) (he _)
theorem Jk:aR X (binaryOp .Add) (λx y H Q=>∃i j,x=.str i/\y=.str j/\i.length+j.length<=sizeLine/\Q (.str (i++j)) H):=by
 intro pins s σ H x y v u Q I rx ry h;obtain⟨i,j,rfl,rfl,hz,q⟩:=h;obtain⟨t,rfl⟩:=rx;obtain⟨t',rfl⟩:=ry;exact add_str (λt' tk=>⟨.str (i++j),H,I.tok _,⟨_,rfl⟩,q⟩) hz
theorem vals1(r:Vals [x] us):∃u,us=[u]/\RelV x u:=by
 cases r with
 |cons r1 r2=>cases r2;exact⟨_,rfl,r1⟩
theorem vals2(r:Vals [x,y] us):∃u w',us=[u,w']/\RelV x u/\RelV y w':=by
 cases r with
 | cons r1 r2=>
  cases r2 with
  |cons r3 r4=>cases r4;exact⟨_,_,rfl,r1,r3⟩
theorem DW(hc:X.calm=true):bq X (.builtin "min") (λxs H Q=>∃i j,xs=[.int i,.int j]/\Q (.int (if j<i then j else i)) H):=by
 intro pins s σ H xs us Q I r h;obtain⟨i,j,rfl,q⟩:=h;obtain⟨u,w',rfl,⟨t,rfl⟩,⟨t',rfl⟩⟩:=vals2 r;refine min_two_ints (I.ok.hd hc) λh' tk k=>⟨_,H,I.kept k,?_,q⟩;by_cases hj:j<i
 ·rw[DM hj,DM hj];exact⟨_,rfl⟩
 ·rw[Gc hj,Gc hj];exact⟨_,rfl⟩
theorem Bq:bq X (.type "int") (λxs H Q=>(∃i,xs=[.int i]/\Q (.int i) H)\/∃k,xs=[.bl k]/\Q (.int (if k then 1 else 0)) H):=by
 intro pins s σ H xs us Q I r h;rcases h with⟨i,rfl,q⟩|⟨k,rfl,q⟩
 ·obtain⟨u,rfl,t,rfl⟩:=vals1 r
  exact call_int_int ⟨.int i,H,I,⟨_,rfl⟩,q⟩
 ·obtain⟨u,rfl,r1⟩:=vals1 r
  cases r1;exact call_int_bool ⟨.int (if k then 1 else 0),H,I.tok _,⟨_,rfl⟩,q⟩
end
theorem gA.some_of(r:gA (some v) o):∃u,o=some u/\RelV v u:=by
 cases o with
 |none=>exact(show False from r).elim
 |some u=>exact⟨u,rfl,r⟩
theorem gA.none_of(r:gA none o):o=none:=by
 cases o with
 |none=>rfl
 |some u=>exact(show False from r).elim
structure bZ(k:Nat)(A:Around):Prop where
 hd:A.handled=none
 dp:A.depth+3*k+5<recursionLimit
 un:A.units+16*k+200<cLine
theorem bZ.mono(r:bZ k A)(h:j<=k):bZ j A:=⟨r.hd,by have:=r.dp;omega,by have:=r.un;omega⟩
theorem bZ.deeper(r:bZ (k+1) A)(env:Env):bZ k (A.deeper env):=
 ⟨r.hd,by have:=r.dp;show A.depth+1+3*k+5<_;omega,by have:=r.un;show A.units+3+16*k+200<_;omega⟩
theorem bZ.depth(r:bZ k A):A.depth<recursionLimit:=by have:=r.dp;omega
theorem bZ.units(r:bZ k A):A.units+64<cLine:=by have:=r.un;omega
def HA:TA:=λ_ H Q=>Q [] H
def zi(ta:TE)(tr:TA):TA:=λσ H Q=>ta σ H λx H1=>tr σ H1 λxs H2=>Q (x::xs) H2
section
variable{X:Cx}{e:Expr}{es:P2}{te:TE}{t:TA}{pos:Pos}
theorem hV:PA X [] HA:=λ_ _ _ _ H Q I h=>acG ⟨[],H,I,.nil,h⟩
theorem fz(ha:PE X e te)(hr:PA X es t)(hs:starEach (e::es) X.env=(false,eval e X.env)::starEach es X.env:=by rfl):PA X (e::es) (zi te t):=by
 intro pos pins s σ H Q I h;rw[hs];show wpAny _ _ (spliced ((false,eval e X.env)::backTo pos (starEach es X.env))) _ _ s;refine acD (aM (ha pins s σ H _ I h) λu s1 ⟨x,H1,I1,r1,q1⟩=>?_);exact aM (hr pos pins s1 σ H1 _ I1 q1) λus s2=>by rintro⟨xs,H2,I2,r2,q2⟩;exact ⟨x::xs,H2,I2,.cons r1 r2,q2⟩
def HI(t:TA):TE:=λσ H Q=>t σ H λxs H1=>xs.length<=sizeLine/\∀p,H1 p=none->Q (.ref p) (upd H1 p (.tup xs))
def BV(t:TA):TE:=λσ H Q=>t σ H λxs H1=>xs.length<=sizeLine/\∀p,H1 p=none->Q (.ref p) (upd H1 p (.lst xs))
theorem AB{x1}(h:PA X es t):PE X (.Tuple es x1 pos) (HI t):=by
 intro pins s σ H Q I hq;refine wpAny_Tuple_spliced (aM (h pos pins s σ H _ I hq) λus s1 ⟨xs,H1,I1,r,z,q⟩=>⟨by rw[<-r.length];exact z,?_⟩)
 have hf:H1 s1.heap.objs.size=none:=I1.aC.fresh (IR _);refine⟨.ref s1.heap.objs.size,upd H1 s1.heap.objs.size (.tup xs),I1.laid (t':=s1.toks) (λb u e=>sa _ e) (IR _) ?_,rfl,q _ hf⟩;exact⟨z,us,r,⟨_,KF _ rfl,rfl,_,rfl⟩⟩
theorem qE(h:PA X es t):PE X (.List es pos) (BV t):=by
 intro pins s σ H Q I hq;refine wpAny_List_spliced (aM (h pos pins s σ H _ I hq) λus s1 ⟨xs,H1,I1,r,z,q⟩=>⟨by rw[<-r.length];exact z,?_⟩)
 have hf:H1 s1.heap.objs.size=none:=I1.aC.fresh (IR _);refine⟨.ref s1.heap.objs.size,upd H1 s1.heap.objs.size (.lst xs),I1.laid (t':=s1.toks) (λb u e=>sa _ e) (IR _) ?_,rfl,q _ hf⟩;exact⟨z,us,0,r,KF _ rfl⟩
end
noncomputable abbrev Sp:=List V->Hp->VK->XK->Prop
noncomputable abbrev gW:=List Env->Hp->Shared->XK->Value->Shared->Prop
structure pK(P:Program)(w:World)(K:PySem.W.Frag)(mg:Str->S2)(base:Heap)(A:Around)(outer:List Env)(s:Shared)(H:Hp):Prop where
 frames:A.frames=some outer
 mod:Mod K mg base
 bs:∀b o,base.get? b=some o->s.heap.get? b=some o/\H b=none
 i8:base.objs.size<=s.heap.objs.size
 gP:s.heap.FunFrames base outer
 kP:∀b∈cq outer,H b=none
 aC:bx P w H s.heap
 bare:AllBare s.gens
 tb:∀b,nY base b->H b=some (.cS none)
def CE(outer:List Env)(P:Program)(w:World)(H:Hp)(s:Shared)(Q:VK)(u:Value)(s':Shared):Prop:=
 ∃v H',s'.os=s.os/\AllBare s'.gens/\Un (cq outer) [] H H' s.heap s'.heap/\bx P w H' s'.heap/\RelV v u/\Q v H'
def CR(CX:gW)(outer:List Env)(P:Program)(w:World)(H:Hp)(s:Shared)(Q:VK)(E:XK)(r:Result)(s':Shared):Prop:=
 match r with
 |.ok (.ret u)=>CE outer P w H s Q u s'
 |.ok _=>False
 |.error e=>CX outer H s E e s'
structure fj(P:Program)(w:World)(K:PySem.W.Frag)(mg:Str->S2)(base:Heap)(CX:gW)(k:Nat)(f:Addr)(fd:FuncData)(ps:List Str)(sp:Sp):Prop where
 len:∀vs H Q E,sp vs H Q E->vs.length=ps.length
 run:∀(A:Around) (outer:List Env) (s:Shared) (H:Hp) (args:Args) (us:S1) (vs:List V) (Q:VK) (E:XK),bZ k A->pK P w K mg base A outer s H->BindsTo s fd args (ps.zip us)->Vals vs us->sp vs H Q E->
  codeAny (model P w) A (.call (.ref f) args) (CR CX outer P w H s Q E) s
section
variable{X:Cx}{pins:List (Addr×Obj)}{σ:St}{H:Hp}{s s':Shared}
theorem Inv.tH(I:Inv X pins σ H s):pK X.prog X.w X.K X.mg X.base X.A X.stack s H:=
 ⟨I.ok.frames,I.ok.mod,I.bs,S3 I.ok.i8 I.sz,I.stack,I.vj,I.aC,I.bare,I.tb⟩
theorem Inv.after(I:Inv X pins σ H s)(h:CE X.stack X.prog X.w H s Q u s'):EP X pins σ Q u s':=by
 obtain⟨v,H',os,bare,un,aC,r,q⟩:=h;obtain⟨hh,g,d,t,Yy⟩:=s';obtain rfl:Yy=s.os:=os;exact⟨v,H',I.call (h':=hh) (g':=g) (d':=d) (t':=t) (ch:=[]) un aC bare (λb z=>absurd z (by simp)),r,q⟩
end
def pE(sp:Sp)(Ra:List V)(E:XK)(t:TA):TE:=λσ H Q=>t σ H λvs H1=>sp (vs++Ra) H1 Q E
def Binds(K:PySem.W.Frag)(fd:FuncData)(ps:List Str)(ds:S1):Prop:=
 ∀(s:Shared) (us:S1),K.In s.heap->(us++ds).length=ps.length->BindsTo s fd ⟨us,[]⟩ (ps.zip (us++ds))
theorem Binds.all{K:PySem.W.Frag}{fd:FuncData}{ps:List Str}(h:∀us:S1,us.length=ps.length->bindArgs fd ⟨us,[]⟩=pure (ps.zip us)):Binds K fd ps []:=λs us _ hl=>by
 rw[On]at hl ⊢;exact .of_eq (h us hl)
def Passes(CX:gW)(X:Cx)(E:XK):Prop:=∀(pins:List (Addr×Obj)) (σ:St) (H:Hp) (s:Shared) (e:Value) (s':Shared),Inv X pins σ H s->CX X.stack H s E e s'->X.xe e s'
section
variable{X:Cx}{CX:gW}{k:Nat}{f C:Addr}{fd:FuncData}{ps:List Str}{sp:Sp}{Ra:List V}{ds:S1}{E:XK}{x m:Str}{p pos apos:Pos}{e o:Expr}{es:P2}{ta:TE}{t:TA}
theorem J1(F:fj X.prog X.w X.K X.mg X.base CX k f fd ps sp)(hr:bZ k X.A)(hb:Binds X.K fd ps ds)(hd:Vals Ra ds)(hx:Passes CX X E)
  (I:Inv X pins σ H s) (r:Vals vs us) (h:sp (vs++Ra) H Q E):wpAny (model X.prog X.w) X.A (call (.ref f) us) (EP X pins σ Q) X.xe s:=by
 have r2:Vals (vs++Ra) (us++ds):=r.append hd;have hl:(us++ds).length=ps.length:=by rw[<-r2.length];exact F.len _ _ _ _ h
 refine wpAny_call (aca (F.run X.A X.stack s H ⟨us,[]⟩ (us++ds) (vs++Ra) Q E hr I.tH (hb s us I.eU hl) r2 h) λr s' hq=>?_);cases r with
 |error e=>exact hx pins σ H s e s' I hq
 | ok fl=>
  cases fl with
  |ret u=>exact I.after hq
  |next=>exact False.elim hq
  |brk=>exact False.elim hq
  |cont=>exact False.elim hq
theorem p8(F:fj X.prog X.w X.K X.mg X.base CX k f fd ps sp)(hr:bZ k X.A)(hg:Gl X x)(hm:X.mg x=some (.ref f))(hk:PySem.W.keepIn X.K (.ref f)=true)(hb:Binds X.K fd ps ds)(hd:Vals Ra ds)(hx:Passes CX X E)
  (ha:PA X (e::es) t) (Oz:gV x:=by decide) (he:starEach (e::es) X.env=(false,eval e X.env)::starEach es X.env:=by rfl) (Og:(backTo pos (starEach es X.env)).any (·.1)=false:=by rfl):
  PE X (.Call (.Name x p) (e::es) [] pos) (pE sp Ra E t):=by
 intro pins s σ H Q I h;refine aad (mF I hg hm ?_ Oz);refine acn (h₀:=X.base) I.ok.mod.mq hk (aM (ha pos pins s σ H _ I h) λus s1 ⟨vs,H1,I1,r,q⟩=>⟨I1.eU,?_⟩) he Og;exact J1 F hr hb hd hx I1 r q
end
structure aY(N P:List Str)(sc:Scope):Prop where
 kind:sc.kind=.function
 co:sc.isCoroutine=false
 gen:sc.isGenerator=false
 nd:N.Nodup
 pre:N.take P.length=P
 par:∀x∈P,sc.names.lookup x=some .local\/sc.names.lookup x=some .cell
 GQ:∀y∈sc.names,y.2≠.free
theorem Az{kindOf:Str->Option NameKind}{x:Str}:∀ {binds:List (Str×Value)} {m:Str->S2},(∀v,(x,v)∉binds)->bindL kindOf binds m x=m x
 |[],_,_=>rfl
 | (n,v)::r,m,h=>by
  unfold bindL;rw[Az λw hw=>h w (Ax _ hw)];split
  ·have:x≠n:=by rintro rfl;exact h v AC
   simp[this]
  ·rfl
theorem xi{kindOf:Str->Option NameKind}{x:Str}:∀ {binds:List (Str×Value)} {m:Str->S2},(∀v,(x,v)∉binds)->bindC kindOf binds m x=m x
 |[],_,_=>rfl
 | (n,v)::r,m,h=>by
  unfold bindC;rw[xi λw hw=>h w (Ax _ hw)];split
  ·rfl
  ·have:x≠n:=by rintro rfl;exact h v AC
   simp[this]
theorem Be{kindOf:Str->Option NameKind}{x:Str}{v:Value}:∀ {P:List Str} {vs:S1} {i:Nat} {m:Str->S2},P.Nodup->P[i]? =some x->vs[i]? =some v->kindOf x=some .local->
  bindL kindOf (P.zip vs) m x=some v
 |[],_,_,_,_,h,_,_=>by simp at h
 |_::_,[],_,_,_,_,h,_=>by simp at h
 | p::P,w::vs,0,m,nd,h1,h2,hk=>by
  simp at h1 h2;subst h1;subst h2;show bindL kindOf ((p,w)::P.zip vs) m p=_;unfold bindL;rw[Az λv hv=>(PP.mp nd).1 (acE hv).1,DM hk];simp
 | p::P,w::vs,i+1,m,nd,h1,h2,hk=>by
  show bindL kindOf ((p,w)::P.zip vs) m x=_;unfold bindL;exact Be (i:=i) (PP.mp nd).2 (by simpa using h1) (by simpa using h2) hk
theorem Al{kindOf:Str->Option NameKind}{x:Str}{v:Value}:∀ {P:List Str} {vs:S1} {i:Nat} {m:Str->S2},P.Nodup->P[i]? =some x->vs[i]? =some v->kindOf x≠some .local->
  bindC kindOf (P.zip vs) m x=some v
 |[],_,_,_,_,h,_,_=>by simp at h
 |_::_,[],_,_,_,_,h,_=>by simp at h
 | p::P,w::vs,0,m,nd,h1,h2,hk=>by
  simp at h1 h2;subst h1;subst h2;show bindC kindOf ((p,w)::P.zip vs) m p=_;unfold bindC;rw[xi λv hv=>(PP.mp nd).1 (acE hv).1,Gc hk];simp
 | p::P,w::vs,i+1,m,nd,h1,h2,hk=>by
  show bindC kindOf ((p,w)::P.zip vs) m x=_;unfold bindC;exact Al (i:=i) (PP.mp nd).2 (by simpa using h1) (by simpa using h2) hk
noncomputable def start(N:List Str)(vs:List V):St:=vs.map some++List.replicate (N.length - vs.length) none
noncomputable def bQ(CX:gW)(P:Program)(w:World)(K:PySem.W.Frag)(mg:Str->S2)(base:Heap)(N:List Str)(qual:Str)(scope:Scope)(f:Addr)(cd:Value)(A:Around)(outer:List Env)(s:Shared)(H:Hp)(E:XK):Cx where
 prog:=P
 w:=w
 K:=K
 mg:=mg
 base:=base
 A:=A.deeper (envOfC qual scope s.heap.objs.size f cd)
 N:=N
 cW:=s
 ju:=H
 env:=envOfC qual scope s.heap.objs.size f cd
 outer:=outer
 stack:=envOfC qual scope s.heap.objs.size f cd::outer
 ex:=[]
 calm:=true
 fn:=λ_=>true
 pn:=[]
 xe:=λe s'=>wpAny (model P w) (A.deeper (envOfC qual scope s.heap.objs.size f cd)) (leaving (envOfC qual scope s.heap.objs.size f cd) e) (λ_ UB=>CX outer H s E e UB) (λe' UB=>CX outer H s E e' UB) s'
theorem xO{sc:Scope}{n:Nat}{x:Str}(h:sc.names.lookup x=some .cell):∃c,(cellsFrom n sc.names []).lookup x=some c:=by
 have q:=acV sc.names n [] (.inl h);exact Option.isSome_iff_exists.mp q
theorem Fi{CX:gW}{P:Program}{w:World}{K:PySem.W.Frag}{mg:Str->S2}{base:Heap}{N ps:List Str}{qual:Str}{scope:Scope}{f:Addr}{cd:Value}{A:Around}{outer:List Env}{s s1:Shared}{H:Hp}{E:XK}{us:S1}{vs:List V}
  (S:aY N ps scope) (hd:A.handled=none) (e0:pK P w K mg base A outer s H) (hl:vs.length=ps.length) (r:Vals vs us)
  (x:InCallC s s.heap.objs.size (bindL (envOfC qual scope s.heap.objs.size f cd).kindOf (ps.zip us) λ_=>none) (cellsFrom (s.heap.objs.size+1) scope.names []) (bindC (envOfC qual scope s.heap.objs.size f cd).kindOf (ps.zip us) λ_=>none) s1):
  Inv (bQ CX P w K mg base N qual scope f cd A outer s H E) [] (start N vs) H s1:=by
 have Og:ps.length<=N.length:=by have:=congrArg List.length S.pre;rw[Re]at this;omega
 obtain⟨h1,tk,rfl,hk⟩:=x.done;have TV:∀b:Addr,b∉(bQ CX P w K mg base N qual scope f cd A outer s H E).ex:=λb z=>absurd (show b∈([]:P1)from z) (by simp)
 refine⟨⟨e0.mod,S.kind,rfl,rfl,IR _,λy z c h1 h2=>?_,λy hy=>?_,λy c _ h=>?_,λ_=>hd,Around.frames_deeper e0.frames,.inr ⟨rfl,rfl⟩,λb z=>absurd z (TV b),e0.bs,e0.i8,λb _ _=>TV b,λb z=>absurd z (TV b),e0.gP,e0.kP,e0.tb⟩,
  rfl,e0.bare,Un.kept hk,⟨_,x.toInCall.ns,λi y v h1 h2 h3=>?_⟩,λy c h=>⟨_,x.cell y c h⟩,e0.aC.fresh (IR _),λy c h=>?_,λp hp=>absurd (show p∈([]:List (Addr×Obj))from hp) (by simp),e0.aC.kept hk,?_⟩
 ·exact name_of_addr x.apart (aaP h1) (aaP h2)
 ·have hy:scope.names.lookup y=some .cell\/scope.names.lookup y=some .free:=hy
  rcases hy with hy|hy
  ·exact xO hy
  ·exact absurd rfl (S.GQ _ (aaP hy))
 ·exact abL (x.above y c (aaP h))
 ·have hi:i<vs.length:=by
   unfold start at h2;by_cases hi:i<vs.length
   ·exact hi
   ·rw[ZN (by simpa using hi)]at h2
    rw[UV]at h2;split at h2<;>cases h2
  have ha:vs[i]? =some v:=by
   unfold start at h2;rw[M1 (by simpa using hi),xa]at h2
   cases e:vs[i]? with
   |none=>rw[e]at h2;cases h2
   |some a=>rw[e]at h2;cases h2;rfl
  obtain⟨u,hu,rv⟩:=r.get ha
  have hp:ps[i]? =some y:=by
   rw[<-S.pre,List.getElem?_take_of_lt (by omega)];exact h1
  have W0:ps.Nodup:=by rw[<-S.pre];exact S.nd.sublist (adu _ _)
  refine⟨u,rv,?_⟩;rcases S.par y (GM hp)with k|k
  ·exact .inl ⟨k,Be W0 hp hu k⟩
  ·obtain⟨c,e⟩:=xO (n:=s.heap.objs.size+1) k
   refine .inr ⟨.inl k,c,e,?_⟩;have q:=x.cell y c e;rw[Al W0 hp hu (by show scope.names.lookup y≠_;rw[k];decide)]at q
   exact q
 ·exact e0.aC.fresh (abL (x.above y c (aaP h)))
 ·unfold start
  show _=N.length;rw[Fk,j1,aaD];omega
theorem xc{CX:gW}{P:Program}{w:World}{K:PySem.W.Frag}{mg:Str->S2}{base:Heap}{k:Nat}{f:Addr}{name qual:Str}{params:Arguments}{body:List Stmt}{scope:Scope}{dV kV doc pm MD ct oc:Value}{an od:Option Addr}
  {PJ:Array (S2)} {N ps:List Str} {sp:Sp} (lk:K.lookup f=some ⟨oc,od,.func (PySem.W.fnOf name qual params body scope dV kV doc pm an MD ct),PJ⟩) (Nn:PySem.W.codeIn K MD qual=true) (S:aY N ps scope)
  (len:∀vs H Q E,sp vs H Q E->vs.length=ps.length)
  (PY:∀(A:Around) (outer:List Env) (s:Shared) (H:Hp) (vs:List V) (Q:VK) (E:XK),bZ k (A.deeper (envOfC qual scope s.heap.objs.size f MD))->sp vs H Q E->
   ∃t,bC (bQ CX P w K mg base N qual scope f MD A outer s H E) body t/\t {nx:=λ_ H'=>Q .aP H',rt:=Q} (start N vs) H):
  fj P w K mg base CX (k+1) f (PySem.W.fnOf name qual params body scope dV kV doc pm an MD ct) ps sp:=by
 refine⟨len,λA outer s H args us vs Q E hr e0 hb r Ow=>?_⟩;have hl:=len _ _ _ _ Ow;have KX:K.In s.heap:=e0.mod.mq.keeps λb o e=>(e0.bs b o e).1;have lim:s.heap.NoLimit:=e0.mod.nolimit.keeps λb o e=>(e0.bs b o e).1
 have Sy:∀y∈ps.zip us,scope.names.lookup y.1=some .local\/(scope.names.lookup y.1=some .cell/\((cellsFrom (s.heap.objs.size+1) scope.names []).lookup y.1).isSome=true):=by
  rintro⟨n,v⟩ hy
  rcases S.par n (acE hy).1 with q|q
  ·exact .inl q
  ·exact .inr ⟨q,acV _ _ _ (.inl q)⟩
 refine codeAny_call_function hr.depth (KX _ _ lk) rfl S.co S.gen rfl (PySem.W.codeRec_of KX Nn) (hb _ _ _ _ ?_);refine wpAny_newFunctionEnv_cells S.kind Sy λenv he s1 x=>?_;subst he;refine⟨lim.keeps x.toInCall.keep,codeAny_func ?_⟩;obtain⟨t,ht,hq⟩:=PY A outer s H vs Q E (hr.deeper _) Ow;have I:Inv (bQ CX P w K mg base N qual scope f MD A outer s H E) [] (start N vs) H s1:=Fi S hr.hd e0 hl r x;refine SL (ht [] s1 (start N vs) H _ I hq) (λfl s' hs=>?_) λe s' hs=>hs
 have fin:∀ {ME:St} {H':Hp} {v:V} {u:Value},Inv (bQ CX P w K mg base N qual scope f MD A outer s H E) [] ME H' s'->RelV v u->Q v H'->CE outer P w H s Q u s':=
  λ{ME H' v u} J rv q=>⟨v,H',J.os,J.bare,J.base,J.aC,rv,q⟩
 cases fl with
 | ret u=>
  obtain⟨v,ME,H',J,rv,q⟩:=hs;exact fin J rv q
 | next=>
  obtain⟨ME,H',J,q⟩:=hs;exact fin (v:=V.aP) (u:=Value.none) J rfl q
 | brk=>
  obtain⟨_,_,_,q⟩:=hs;exact False.elim q
 | cont=>
  obtain⟨_,_,_,q⟩:=hs;exact False.elim q
section
variable{X:Cx}{x:Str}{p pos:Pos}{e:Expr}{es:P2}{t:TA}{id T:String}{r:List V->Hp->VK->Prop}
def uF(r:List V->Hp->VK->Prop)(t:TA):TE:=λσ H Q=>t σ H λvs H1=>r vs H1 Q
theorem mz(hc:bq X (.builtin id) r)(hg:Gl X x)(hm:X.mg x=none)(hv:bootBuiltins x=some (.builtin id))(ha:PA X (e::es) t)(hn:x≠"__name__":=by decide)(Oz:gV x:=by decide)
  (he:starEach (e::es) X.env=(false,eval e X.env)::starEach es X.env:=by rfl) (Og:(backTo pos (starEach es X.env)).any (·.1)=false:=by rfl):PE X (.Call (.Name x p) (e::es) [] pos) (uF r t):=by
 intro pins s σ H Q I h;refine aad (iO I hg hm hv ?_ hn Oz);exact PyProof.Rows.callWith_builtin1 (aM (ha pos pins s σ H _ I h) λus s1=>by rintro⟨vs,H1,I1,r1,q1⟩;exact hc pins s1 σ H1 vs us Q I1 r1 q1) he Og
theorem sV(hc:bq X (.type T) r)(hg:Gl X x)(hm:X.mg x=none)(hv:bootBuiltins x=some (.type T))(ha:PA X (e::es) t)(hn:x≠"__name__":=by decide)(Oz:gV x:=by decide)
  (he:starEach (e::es) X.env=(false,eval e X.env)::starEach es X.env:=by rfl) (Og:(backTo pos (starEach es X.env)).any (·.1)=false:=by rfl):PE X (.Call (.Name x p) (e::es) [] pos) (uF r t):=by
 intro pins s σ H Q I h;refine aad (iO I hg hm hv ?_ hn Oz);exact S8 (aM (ha pos pins s σ H _ I h) λus s1=>by rintro⟨vs,H1,I1,r1,q1⟩;exact hc pins s1 σ H1 vs us Q I1 r1 q1) he Og
end
end L2
namespace HT
open PySem PyProof.Rows
section
open PySem.SeqAt
open PySem.AutoSeq1 (wpAny_loadPart')
open PySem.MeetsSeq PySem.MeetsSeq2 PySem.MeetsSeq3
end
section
variable{prog:Program}{w:World}{A:Around}{E:Value->Shared->Prop}{s:Shared}
theorem JN(ht:IsTup s.heap t vs.toArray)(hb:IsTup s.heap b ws.toArray)(hv:vs≠[])
  (h1:ws=[]->Q (.ref t) s) (h2:ws≠[]->Q (.ref s.heap.objs.size) {s with heap:=s.heap.push {cls:=.type "tuple",data:=.seq (vs++ws).toArray} })
  (hsz:vs.length+ws.length<=sizeLine):wpAny (model prog w) A (binaryOp .Add (.ref t) (.ref b)) Q E s:=by
 obtain⟨⟨cls,dd,data,sl⟩,ho,hc,n,hd⟩:=id ht;obtain⟨⟨X3,WY,data2,Sk⟩,Qp,Qm,n2,hd2⟩:=id hb;simp only at hc hd Qm hd2;subst hc hd Qm hd2;have e:vs.toArray++ws.toArray=(vs++ws).toArray:=by simp
 by_cases hw:ws=[]
 ·exact adz ⟨_,ho,rfl⟩ ⟨_,Qp,rfl⟩ noFill_tuple_add seq_tuple_add acW acR (acP _ _)
   (tuple_addW1 t b vs.toArray ws.toArray n n2 dd WY sl Sk (by simpa using hv) (by simp[hw])) ⟨ho,Qp,h1 hw⟩
 ·refine adz ⟨_,ho,rfl⟩ ⟨_,Qp,rfl⟩ noFill_tuple_add seq_tuple_add acW acR (acP _ _)
   (tuple_addW2 t b vs.toArray ws.toArray n n2 dd WY sl Sk (by simpa using hv) (by simpa using hw) (by rw[Da,Da];exact hsz)) ⟨ho,Qp,?_⟩
  rw[e];exact h2 hw
noncomputable def aW(n d:Nat):Option Int->Nat
 |none=>d
 |some v=>if v<0 then(v+(n:Int)).toNat else min v.toNat n
theorem Cu(n d:Nat)(hd:d<=n)(o:Option Int):aW n d o<=n:=by
 cases o with
 |none=>exact hd
 | some v=>
  show(if v<0 then(v+(n:Int)).toNat else min v.toNat n)<=n
  by_cases hv:v<0
  ·rw[DM hv];omega
  ·rw[Gc hv];exact Nat.min_le_right _ _
theorem x6(v:Int)(n d:Nat):(if v<0 then max (v+(n:Int)) 0 else min v (n:Int))=((aW n d (some v):Nat):Int):=by
 show(if v<0 then max (v+(n:Int)) 0 else min v (n:Int))=(((if v<0 then(v+(n:Int)).toNat else min v.toNat n):Nat):Int)
 by_cases hv:v<0
 ·simp only[DM hv];omega
 ·simp only[Gc hv];omega
theorem Dn(lo hi:Option Int)(n:Nat):Builtin.Slice.sliceAdjust lo hi 1 (n:Int)=(((aW n 0 lo:Nat):Int),((aW n n hi:Nat):Int)):=by
 have h1:¬((1:Int)<0):=by omega
 unfold Builtin.Slice.sliceAdjust;simp only[h1,abD];refine Prod.ext ?_ ?_
 ·cases lo with
  |none=>rfl
  |some v=>exact x6 v n 0
 ·cases hi with
  |none=>rfl
  |some v=>exact x6 v n n
theorem BN(i j:Nat):Builtin.Slice.slicePlaces (i:Int) (j:Int) 1=j - i:=by
 unfold Builtin.Slice.slicePlaces;have h1:(1:Int)>0:=by omega
 simp only[h1,abX,Int.ediv_one];split<;>omega
theorem zc(p:IsPart v o)(h:Q o s):wpAny (model prog w) A (Builtin.Slice.slicePartIndex v) Q E s:=by
 cases p with
 |none=>exact slicePart_none h
 |int i t=>exact slicePart_int h
theorem Ci{sl:Addr}{vl vu:Value}{lo hi:Option Int}{n:Nat}{Q:Int×Int×Nat->Shared->Prop}(hs:s.heap.IsSliceOf sl vl vu .none)(pl:IsPart vl lo)(pu:IsPart vu hi)
  (h:Q (((aW n 0 lo:Nat):Int),1,aW n n hi - aW n 0 lo) s):wpAny (model prog w) A (Builtin.Slice.sliceApplied (.ref sl) (pure (n:Int))) Q E s:=by
 obtain⟨os,Sn,Ph,QS⟩:=id hs;unfold Builtin.Slice.sliceApplied Builtin.Slice.sliceFields;refine tB (tB (aaR Sn QS (x:=vl) rfl (tB (aaR Sn QS (x:=vu) rfl (tB (aaR Sn QS (x:=.none) rfl (FM ?_)))))));refine tB (slicePart_none ?_);show wpAny _ _ (if((1:Int)==0)=true then _ else _) _ _ s
 rw[Gc (by decide)]
 refine tB (zc pl (tB (zc pu (tB (FM ?_)))));show wpAny _ _ (match Builtin.Slice.sliceAdjust lo hi 1 (n:Int)with|(lo,hi)=>pure (lo,(1:Int),Builtin.Slice.slicePlaces lo hi 1)) _ _ s
 rw[Dn lo hi n];show wpAny _ _ (pure (((aW n 0 lo:Nat):Int),(1:Int),Builtin.Slice.slicePlaces ((aW n 0 lo:Nat):Int) ((aW n n hi:Nat):Int) 1)) _ _ s;rw[BN];exact FM h
theorem LW(xs:Array Value)(i k:Nat):((List.range k).filterMap λ(m:Nat)=>xs[((i:Int)+(m:Int)*1).toNat]?).toArray=((xs.toList.drop i).take k).toArray:=by
 have e:(λ(m:Nat)=>xs[((i:Int)+(m:Int)*1).toNat]?)=λm=>xs[i+m]? :=by
  funext m;have:((i:Int)+(m:Int)*1).toNat=i+m:=by omega
  rw[this]
 rw[e];have:=pick_run xs i k;rw[abm]at this;have e2:((λx=>xs[x]?)∘λx=>i+x)=λm=>xs[i+m]? :=rfl;rw[e2]at this;rw[this]
theorem L4{t sl:Addr}{items:Array Value}{vl vu:Value}{lo hi:Option Int}{Q:Value->Shared->Prop}(ht:IsTup s.heap t items)(hs:s.heap.IsSliceOf sl vl vu .none)(pl:IsPart vl lo)(pu:IsPart vu hi)
  (hw:¬(aW items.size 0 lo=0/\aW items.size items.size hi=items.size))
  (h:Q (.ref s.heap.objs.size) {s with heap:=s.heap.push {cls:=.type "tuple",data:=.seq ((items.toList.drop (aW items.size 0 lo)).take (aW items.size items.size hi - aW items.size 0 lo)).toArray} })
  (hsz:items.size<=sizeLine):wpAny (model prog w) A (getItem (.ref t) (.ref sl)) Q E s:=by
 have Po:sizeOk (.seq ((items.toList.drop (aW items.size 0 lo)).take (aW items.size items.size hi - aW items.size 0 lo)).toArray):=by
  show((items.toList.drop (aW items.size 0 lo)).take (aW items.size items.size hi - aW items.size 0 lo)).toArray.size<=sizeLine;rw[Da,Re,aav,aaO];omega
 have hj:aW items.size items.size hi<=items.size:=Cu _ _ (IR _) hi;obtain⟨os,Sn,Ph,QS⟩:=id hs;have Ya:s.TypeIs (.ref sl) "slice":=⟨os,Sn,Ph⟩;unfold getItem
 try with_reducible refine Wp ?_
 first|refine tB (FM ?_)|skip
 refine tB (wpAny_sequenceKey ht.typeIs (by decide) ?_)
 refine tB (abV (name:=Str.ofString "__getitem__") ht.typeIs aaY
  (acQ aaY ht.typeIs entry_tuple_getitem ?_ (args_tuple_getitem _ _)))
 show wpAny _ _ (Builtin.Tuple.tupleItemsOf (.ref t) >>= _) _ _ s;refine tB (tupleItemsOf_ ht ?_);refine tB (acH Ya ?_);rw[DM (by decide)]
 refine tB (Ci hs pl pu ?_)
 have Xb:¬((((aW items.size 0 lo:Nat):Int)==0&&(1:Int)==1&&(aW items.size items.size hi - aW items.size 0 lo)==items.size)=true):=by
  intro q;rw[FB,FB]at q;have q1:((aW items.size 0 lo:Nat):Int)=0:=eq_of_beq q.1.1;have q2:aW items.size items.size hi - aW items.size 0 lo=items.size:=eq_of_beq q.2;exact hw ⟨by omega,by omega⟩
 show wpAny _ _ (if(((aW items.size 0 lo:Nat):Int)==0&&(1:Int)==1&&(aW items.size items.size hi - aW items.size 0 lo)==items.size)=true then _ else _) _ _ s
 rw[Gc Xb,LW]
 first
  |exact tB (m:=Builtin.Tuple.tupleExact _) (abg (FM ⟨_,rfl,FM h⟩) Po)
  |exact tB (m:=Builtin.Tuple.tupleExact _) (abg (tB (FM (FM ⟨_,rfl,FM h⟩))) Po)
  |exact tB (tB (m:=Builtin.Tuple.tupleExact _) (abg (FM (FM ⟨_,rfl,FM h⟩)) Po))
  |exact tB (tB (m:=Builtin.Tuple.tupleExact _) (abg (FM ⟨_,rfl,FM h⟩) Po))
end
end HT
namespace L2
open PySem PySem.Spec PyProof.Rows
noncomputable abbrev TO:=St->Hp->(Option Int->Hp->Prop)->Prop
def PO(X:Cx)(e:Option Expr)(t:TO):Prop:=
 ∀(pins:List (Addr×Obj)) (s:Shared) (σ:St) (H:Hp) (Q:Option Int->Hp->Prop),Inv X pins σ H s->t σ H Q->
  wpAny (model X.prog X.w) X.A (evalPart e X.env) (λu s'=>∃o H',Inv X pins σ H' s'/\IsPart u o/\Q o H') X.xe s
noncomputable def Ke:TO:=λ_ H Q=>Q none H
noncomputable def E5(t:TE):TO:=λσ H Q=>t σ H λx H1=>∃i,x=.int i/\Q (some i) H1
section
variable{X:Cx}{e:Expr}{te:TE}{lo hi:Option Expr}{tl th:TO}{pos p2:Pos}
theorem IM:PO X none Ke:=by
 intro pins s σ H Q I h;rw[evalPart_none];exact FM ⟨none,H,I,.none,h⟩
theorem HB(h:PE X e te):PO X (some e) (E5 te):=by
 intro pins s σ H Q I hw;rw[evalPart_some];refine aM (h pins s σ H _ I hw) λu s1 ⟨x,H1,I1,r1,q1⟩=>?_;obtain⟨i,rfl,q⟩:=q1;obtain⟨t,rfl⟩:=r1;exact⟨some i,H1,I1,.int i t,q⟩
def iZ(X:Cx)(r:V->Option Int->Option Int->Hp->VK->Prop):Prop:=
 ∀(pins:List (Addr×Obj)) (s:Shared) (σ:St) (H:Hp) (x:V) (v vl vu:Value) (lo hi:Option Int) (sl:Addr) (Q:VK),Inv X pins σ H s->RelV x v->s.heap.IsSliceOf sl vl vu .none->IsPart vl lo->IsPart vu hi->r x lo hi H Q->
  ∃T id,typeLookup (.type T) "__getitem__"=pure (some (.builtin id))/\s.TypeIs v T/\wpAny (model X.prog X.w) X.A (getItem v (.ref sl)) (EP X pins σ Q) X.xe s
theorem iZ.or{r r':V->Option Int->Option Int->Hp->VK->Prop}(h:iZ X r)(h':iZ X r'):iZ X (λx lo hi H Q=>r x lo hi H Q\/r' x lo hi H Q):=by
 intro pins s σ H x v vl vu lo hi sl Q I rx hs pl pu q;rcases q with q|q
 ·exact h pins s σ H x v vl vu lo hi sl Q I rx hs pl pu q
 ·exact h' pins s σ H x v vl vu lo hi sl Q I rx hs pl pu q
def Li(r:V->Option Int->Option Int->Hp->VK->Prop)(te:TE)(tl th:TO):TE:=λσ H Q=>te σ H λx H1=>tl σ H1 λl H2=>th σ H2 λu H3=>r x l u H3 Q
theorem yV(hr:iZ X r)(he:PE X e te)(hl:PO X lo tl)(hu:PO X hi th):PE X (.Subscript e (.Slice lo hi none p2) pos) (Li r te tl th):=by
 intro pins s σ H Q I h;refine Subscript_ (aM (he pins s σ H _ I h) λv s1 ⟨x,H1,I1,r1,q1⟩=>?_);refine wpAny_Slice (aM (hl pins s1 σ H1 _ I1 q1) λvl s2 ⟨l,H2,I2,pl,q2⟩=>aM (hu pins s2 σ H2 _ I2 q2) λvu s3 ⟨u,H3,I3,pu,q3⟩=>?_);rw[evalPart_none];refine FM ?_;have I4:Inv X pins σ H3 {s3 with heap:=s3.heap.push {cls:=.type "slice",data:=.fields #[vl,vu,.none]} }:=I3.kept (t':=s3.toks) λb ob q=>sa _ q;obtain⟨T,id,hT,ht,hg⟩:=hr pins {s3 with heap:=s3.heap.push {cls:=.type "slice",data:=.fields #[vl,vu,.none]} } σ H3 x v vl vu l u s3.heap.objs.size Q I4 r1 (Heap.IsSliceOf.new ..) pl pu q3;show wpAny (model X.prog X.w) X.A (subscriptTail e (.Slice lo hi none p2) v (.ref s3.heap.objs.size)) (EP X pins σ Q) X.xe {s3 with heap:=s3.heap.push {cls:=.type "slice",data:=.fields #[vl,vu,.none]} };exact tail_any (ops:=[.ref s3.heap.objs.size,v]) ht hT hg (by with_unfolding_all rfl)
noncomputable def jf(xs:List V)(lo hi:Option Int):List V:=(xs.drop (HT.aW xs.length 0 lo)).take (HT.aW xs.length xs.length hi - HT.aW xs.length 0 lo)
theorem Am(xs:List V)(lo hi:Option Int):(jf xs lo hi).length<=xs.length:=by
 unfold jf;rw[Re,aav];omega
def Jz(K:PySem.W.Frag):V->Option Int->Option Int->Hp->VK->Prop:=λx lo hi H Q=>∃a xs,x=.ref a/\bj K H a xs/\
 ¬(HT.aW xs.length 0 lo=0/\HT.aW xs.length xs.length hi=xs.length)/\∀p,H p=none->Q (.ref p) (upd H p (.tup (jf xs lo hi)))
theorem qW:iZ X (Jz X.K):=by
 intro pins s σ H x v vl vu lo hi sl Q I rx hs pl pu h;obtain⟨a,xs,rfl,hx,hw,q⟩:=h;cases rx;obtain⟨its,r,ht,hz⟩:=I.tuple hx;have hlen:its.toArray.size=xs.length:=by rw[Da];exact r.length.symm
 refine⟨"tuple",_,aaY.lookup,ht.typeIs,?_⟩;refine HT.L4 ht hs pl pu (by rw[hlen];exact hw) ?_ (by rw[hlen];exact hz)
 rw[hlen];refine⟨.ref s.heap.objs.size,_,I.laid (t':=s.toks) (o:=.tup (jf xs lo hi)) (λb ob q=>sa _ q) (IR _) ?_,rfl,q _ (I.aC.fresh (IR _))⟩;exact⟨S3 (Am xs lo hi) hz,_,(r.drop (HT.aW xs.length 0 lo)).take (HT.aW xs.length xs.length hi - HT.aW xs.length 0 lo),IsTup.new _ _⟩
noncomputable def AU(K:PySem.W.Frag):R2:=λx y H Q=>∃a b xs ys,x=.ref a/\y=.ref b/\bj K H a xs/\bj K H b ys/\xs≠[]/\xs.length+ys.length<=sizeLine/\
 (ys=[]->Q (.ref a) H)/\(ys≠[]->∀p,H p=none->Q (.ref p) (upd H p (.tup (xs++ys))))
theorem Vals.u3(r:Vals xs us):us=[]↔xs=[]:=by
 cases r with
 |nil=>simp
 |cons _ _=>simp
theorem CG:aR X (binaryOp .Add) (AU X.K):=by
 intro pins s σ H x y v u Q I rx ry h;obtain⟨a,b,xs,ys,rfl,rfl,ha,hb,hx,hz,q1,q2⟩:=h;cases rx;cases ry;obtain⟨its,r1,p1,_⟩:=I.tuple ha;obtain⟨NV,r2,p2,_⟩:=I.tuple hb;refine HT.JN p1 p2 (λz=>hx (r1.u3.mp z)) (λz=>⟨.ref a,H,I,rfl,q1 (r2.u3.mp z)⟩) (λz=>?_) (by rw[<-r1.length, <-r2.length];exact hz)
 refine⟨.ref s.heap.objs.size,_,I.laid (t':=s.toks) (o:=.tup (xs++ys)) (λb ob q=>sa _ q) (IR _) ?_,rfl,q2 (λw=>z (r2.u3.mpr w)) _ (I.aC.fresh (IR _))⟩;exact⟨by rw[Fk];exact hz,_,r1.append r2,IsTup.new _ _⟩
end
noncomputable def cy(n:Nat)(i:Int):Option Nat:=if 0<=i then(if i<n then some i.toNat else none)else if -(n:Int)<=i then some (i+n).toNat else none
noncomputable def b0{α:Type}(xs:List α)(i:Int):Option α:=(cy xs.length i).bind λj=>xs[j]?
theorem vJ(h:cy n i=some j):seqIndex? i n=some j/\j<n/\ -(n:Int)<=i/\i<n:=by
 unfold cy at h;by_cases h0:0<=i
 ·rw[DM h0]at h
  by_cases h1:i<n
  ·rw[DM h1]at h
   have e:i.toNat=j:=SZ h;exact⟨by rw[adK h0 h1,e],by omega,by omega,h1⟩
  ·rw[Gc h1]at h;cases h
 ·rw[Gc h0]at h
  by_cases h1: -(n:Int)<=i
  ·rw[DM h1]at h
   have e:(i+n).toNat=j:=SZ h;exact⟨by rw[seqIndex_neg (by omega) h1,e],by omega,h1,by omega⟩
  ·rw[Gc h1]at h;cases h
theorem w6{α:Type}{xs:List α}{i:Int}{v:α}(h:b0 xs i=some v):∃j,seqIndex? i xs.length=some j/\xs[j]? =some v/\j<xs.length/\ -(xs.length:Int)<=i/\i<xs.length:=by
 unfold b0 at h;cases e:cy xs.length i with
 |none=>rw[e]at h;cases h
 | some j=>
  rw[e]at h;obtain⟨h1,h2,h3,h4⟩:=vJ e;exact⟨j,h1,h,h2,h3,h4⟩
def kN(b:Expr):Prop:=∀o i,subscripted b false o i=operate [o,i] (getItem o i)
def gr(X:Cx)(r:R2):Prop:=
 ∀(value slice:Expr) (pins:List (Addr×Obj)) (s:Shared) (σ:St) (H:Hp) (x y:V) (v u:Value) (Q:VK),Inv X pins σ H s->RelV x v->RelV y u->r x y H Q->
  subscripted slice false v u=operate [v,u] (getItem v u)->wpAny (model X.prog X.w) X.A (subscriptTail value slice v u) (EP X pins σ Q) X.xe s
def zT(X:Cx)(id:String)(r:V->List V->Hp->VK->Prop):Prop:=
 ∀(pins:List (Addr×Obj)) (s:Shared) (σ:St) (H:Hp) (x:V) (xs:List V) (v:Value) (us:S1) (Q:VK),Inv X pins σ H s->RelV x v->Vals xs us->r x xs H Q->
  wpAny (model X.prog X.w) X.A (call (.builtin id) (v::us)) (EP X pins σ Q) X.xe s
section
variable{X:Cx}{a b:Expr}{ta tb:TE}{pos:Pos}
theorem gr.or{r r':R2}(h:gr X r)(h':gr X r'):gr X (λx y H Q=>r x y H Q\/r' x y H Q):=by
 intro value slice pins s σ H x y v u Q I rx ry q hs;rcases q with q|q
 ·exact h value slice pins s σ H x y v u Q I rx ry q hs
 ·exact h' value slice pins s σ H x y v u Q I rx ry q hs
theorem nW{r:R2}(hr:gr X r)(ha:PE X a ta)(hb:PE X b tb)(hs:kN b):PE X (.Subscript a b pos) (nz r ta tb):=by
 intro pins s σ H Q I h;exact Subscript_ (uh ha hb I h λv u s2 x y H2 I2 rx ry q=>hr a b pins s2 σ H2 x y v u Q I2 rx ry q (hs _ _))
def xU(K:PySem.W.Frag):R2:=λx y H Q=>∃p xs i v,x=.ref p/\y=.int i/\aU K H p xs/\b0 xs i=some v/\Q v H
def Bw(K:PySem.W.Frag):R2:=λx y H Q=>∃p xs i v,x=.ref p/\y=.int i/\bj K H p xs/\b0 xs i=some v/\Q v H
def yN:R2:=λx y H Q=>∃z i c,x=.str z/\y=.int i/\z.length<=sizeLine/\b0 z.cps.toList i=some c/\Q (.str ⟨#[c]⟩) H
theorem Gm:gr X (xU X.K):=by
 intro value slice pins s σ H x y v u Q I rx ry h hs;obtain⟨p,xs,i,z,rfl,rfl,hq,he,q⟩:=h;cases rx;obtain⟨t,rfl⟩:=ry;obtain⟨its,r,pl,hz⟩:=I.list hq;obtain⟨j,h1,h2,h3,h4,h5⟩:=w6 he;obtain⟨w,ew,Ot⟩:=r.get h2;have hl:=r.length;have hn:=kc;have fin:EP X pins σ Q w s:=⟨z,H,I,Ot,q⟩;by_cases h0:0<=i
 ·have hj:i.toNat=j:=by
   rw[adK h0 h5]at h1;exact SZ h1
  exact item_listR pl.isList h0 (by omega) (by rw[hj];simpa using ew) fin hs
 ·have hj:(i+(its.toArray.size:Int)).toNat=j:=by
   rw[seqIndex_neg (by omega) h4]at h1
   rw[Da, <-hl];exact SZ h1
  exact subscriptTail_builtinR (x:=w) pl.isList.typeIs slot_list_getitem.lookup
   (wpAny_getItem_list_neg (Q:=λr s'=>r=w/\EP X pins σ Q r s') pl.isList (by omega) (by rw[Da]<;>omega) (by omega) (by rw[hj];simpa using ew) ⟨rfl,fin⟩) hs
theorem rT:gr X (Bw X.K):=by
 intro value slice pins s σ H x y v u Q I rx ry h hs;obtain⟨p,xs,i,z,rfl,rfl,hq,he,q⟩:=h;cases rx;obtain⟨t,rfl⟩:=ry;obtain⟨its,r,pl,hz⟩:=I.tuple hq;obtain⟨j,h1,h2,h3,h4,h5⟩:=w6 he;obtain⟨w,ew,Ot⟩:=r.get h2;have hl:=r.length;have hn:=kc;have fin:EP X pins σ Q w s:=⟨z,H,I,Ot,q⟩
 exact subscriptTail_builtinR (x:=w) pl.typeIs slot_tuple_getitem.lookup
  (getItem_tuple (j:=j) (Q:=λr s'=>r=w/\EP X pins σ Q r s') pl (by omega) (by omega) (by rw[Da, <-hl];exact h1) (by simpa using ew) ⟨rfl,fin⟩) hs
theorem Jq:gr X yN:=by
 intro value slice pins s σ H x y v u Q I rx ry h hs;obtain⟨z,i,c,rfl,rfl,hz,he,q⟩:=h;obtain⟨t,rfl⟩:=rx;obtain⟨t',rfl⟩:=ry;obtain⟨j,h1,h2,h3,h4,h5⟩:=w6 he;have hl:z.cps.toList.length=z.length:=by simp[Str.length]
 rw[hl]at h1 h4 h5;have hn:=kc
 exact tail_any (adm s z t) slot_str_getitem.lookup (getItem_str (c:=c) (by
  have e1:decide (i< -(2 ^ 63:Int))=false:=KI (by omega)
  have e2:decide (i>=2 ^ 63)=false:=KI (by omega)
  rw[e1,e2,Bool.or_false]) (by rw[h1];simpa using h2) ⟨.str ⟨#[c]⟩,H,I.tok _,⟨_,rfl⟩,q⟩) hs
def rh(K:PySem.W.Frag):R2:=λx y H Q=>xU K x y H Q\/Bw K x y H Q\/yN x y H Q
theorem oy:gr X (rh X.K):=Gm.or (rT.or Jq)
theorem K8(its:S1)(n j:Nat)(u:Value):Obj.mapSeq (·.setIfInBounds j u) {cls:=.type "list",data:=.seq its.toArray n}={cls:=.type "list",data:=.seq (its.set j u).toArray n}:=by
 simp[Obj.mapSeq]
theorem Inv.lst{pins:List (Addr×Obj)}{σ:St}{H:Hp}{s:Shared}{p:Addr}{xs:List V}(I:Inv X pins σ H s)(h:H p=some (.lst xs)):
  ∃(its:S1) (n:Nat),Vals xs its/\s.heap.get? p=some {cls:=.type "list",data:=.seq its.toArray n}/\xs.length<=sizeLine:=by
 obtain⟨z,its,n,r,e⟩:=I.aC p _ h;exact⟨its,n,r,e,z⟩
theorem Inv.Hu{pins:List (Addr×Obj)}{σ:St}{H:Hp}{s:Shared}{p:Addr}{xs ys:List V}{its its':S1}{n n':Nat}{f:Obj->Obj}(I:Inv X pins σ H s)(h:H p=some (.lst xs))
  (ho:s.heap.get? p=some {cls:=.type "list",data:=.seq its.toArray n}) (hf:f {cls:=.type "list",data:=.seq its.toArray n}={cls:=.type "list",data:=.seq its'.toArray n'}) (r:Vals ys its') (hz:ys.length<=sizeLine) (t:Nat):
  Inv X pins σ (upd H p (.lst ys)) {s with heap:=s.heap.update p f,toks:=t}:=by
 have e:(s.heap.update p f).get? p=some {cls:=.type "list",data:=.seq its'.toArray n'}:=by
  rw[aaJ f ho (by rw[hf]<;>rfl),hf]
 refine I.write (x:=p) (e:=p) (by rw[h];trivial) (.inl rfl) (λb u hb q=>(aaa _ _ (W1 hb)).trans q) ⟨_,e⟩ ?_
 exact⟨hz,its',n',r,e⟩
def JM:V->V->V->Hp->(Hp->Prop)->Prop:=λo i v H Q=>∃p xs k j,o=.ref p/\i=.int k/\H p=some (.lst xs)/\cy xs.length k=some j/\Q (upd H p (.lst (xs.set j v)))
theorem set_list:zP X JM:=by
 intro pins s σ H o i v ov iv u Q I ro ri rv h;obtain⟨p,xs,k,j,rfl,rfl,hp,hj,q⟩:=h;cases ro;obtain⟨t,rfl⟩:=ri;obtain⟨its,n,r,ho,hz⟩:=I.lst hp;obtain⟨h1,h2,h3,h4⟩:=vJ hj;have hl:=r.length;have hn:=kc
 have I':Inv X pins σ (upd H p (.lst (xs.set j v))) {s with heap:=s.heap.update p (Obj.mapSeq (·.setIfInBounds j u))}:=
  I.Hu hp ho (K8 its n j u) (r.set rv j) (by rw[S4];exact hz) s.toks
 by_cases h0:0<=k
 ·have hk:k.toNat=j:=by
   rw[adK h0 h4]at h1;exact SZ h1
  exact PySem.W.ki_setAt ho h0 (by omega) (by rw[Da, <-hl];exact h4) (by rw[hk];exact⟨_,I',q⟩)
 ·have hk:(k+(its.toArray.size:Int)).toNat=j:=by
   rw[seqIndex_neg (by omega) h3]at h1
   rw[Da, <-hl];exact SZ h1
  exact PySem.W.ki_setBack ho (by omega) (by rw[Da, <-hl];exact h3) (by omega) (by rw[hk];exact⟨_,I',q⟩)
theorem KQ(lo hi:Option Int)(n:Nat):(sliceBounds lo hi none n).1=((HT.aW n 0 lo:Nat):Int)/\(sliceBounds lo hi none n).2.1=((HT.aW n n hi:Nat):Int)/\(sliceBounds lo hi none n).2.2=1:=by
 refine⟨?_,?_,rfl⟩
 ·cases lo with
  |none=>simp[sliceBounds,HT.aW]
  | some i=>
   simp only[sliceBounds,HT.aW,adA,show(1:Int)>0 by decide,abX]
   by_cases h:i<0
   ·simp only[h,abX]<;>omega
   ·simp only[h,abD]<;>omega
 ·cases hi with
  |none=>simp[sliceBounds,HT.aW]
  | some i=>
   simp only[sliceBounds,HT.aW,adA,show(1:Int)>0 by decide,abX]
   by_cases h:i<0
   ·simp only[h,abX]<;>omega
   ·simp only[h,abD]<;>omega
theorem EE(its:S1)(lo hi:Option Int):slicePick its.toArray lo hi none=((its.drop (HT.aW its.length 0 lo)).take (HT.aW its.length its.length hi - HT.aW its.length 0 lo)).toArray:=by
 obtain⟨h1,h2,h3⟩:=KQ lo hi its.toArray.size;unfold slicePick;rw[h1,h2,h3];simp only[sliceRange_one,pick_run,Da]<;>rfl
def Hd(K:PySem.W.Frag):V->Option Int->Option Int->Hp->VK->Prop:=λx lo hi H Q=>∃a xs,x=.ref a/\aU K H a xs/\∀p,H p=none->Q (.ref p) (upd H p (.lst (jf xs lo hi)))
theorem yW:iZ X (Hd X.K):=by
 intro pins s σ H x v vl vu lo hi sl Q I rx hs pl pu h;obtain⟨a,xs,rfl,hx,q⟩:=h;cases rx;obtain⟨its,r,ht,hz⟩:=I.list hx;have hlen:=r.length;refine⟨"list",_,slot_list_getitem.lookup,ht.isList.typeIs,?_⟩;refine ads ht.isList hs pl pu .none (by simp) ?_ (by rw[Da]<;>omega)
 rw[EE, <-hlen];refine⟨.ref s.heap.objs.size,_,I.laid (t':=s.toks) (o:=.lst (jf xs lo hi)) (λb ob q=>sa _ q) (IR _) ?_,rfl,q _ (I.aC.fresh (IR _))⟩;exact⟨S3 (Am xs lo hi) hz,_,0,(r.drop (HT.aW xs.length 0 lo)).take (HT.aW xs.length xs.length hi - HT.aW xs.length 0 lo),KF _ rfl⟩
noncomputable def iz:V->Bool
 |.aP=>true
 |.bl _=>true
 |.int _=>true
 |.str _=>true
 |_=>false
noncomputable def gX:V->V->Bool
 |.aP,.aP=>true
 |.bl a,.bl b=>a==b
 |.bl a,.int b=>(if a then 1 else 0)==b
 |.int a,.bl b=>a==(if b then 1 else 0)
 |.int a,.int b=>a==b
 |.str a,.str b=>a==b
 |_,_=>false
theorem GC(ry:RelV y u)(rx:RelV x v)(fy:iz y=true)(fx:iz x=true):SeqAt.EqAt A s u v (gX y x):=by
 cases y with
 | aP=>
  cases ry;cases x with
  |aP=>cases rx;exact SeqAt.EqAt.same _
  |bl b=>cases rx;exact SeqAt.EqAt.none_bool b
  |int b=>obtain⟨t,rfl⟩:=rx;exact SeqAt.EqAt.none_int b t
  |str b=>obtain⟨t,rfl⟩:=rx;exact SeqAt.EqAt.none_str b t
  |_=>exact absurd (show false=true from fx) aai
 | bl a=>
  cases ry;cases x with
  |aP=>cases rx;exact SeqAt.EqAt.bool_none a
  |bl b=>cases rx;exact SeqAt.EqAt.bool_bool a b
  |int b=>obtain⟨t,rfl⟩:=rx;exact SeqAt.EqAt.bool_int a b t
  |str b=>obtain⟨t,rfl⟩:=rx;exact SeqAt.EqAt.bool_str a b t
  |_=>exact absurd (show false=true from fx) aai
 | int a=>
  obtain⟨t',rfl⟩:=ry;cases x with
  |aP=>cases rx;exact SeqAt.EqAt.int_none a t'
  |bl b=>cases rx;exact SeqAt.EqAt.int_bool a t' b
  |int b=>obtain⟨t,rfl⟩:=rx;exact SeqAt.EqAt.int_int a t' b t
  |str b=>obtain⟨t,rfl⟩:=rx;exact SeqAt.EqAt.int_str a t' b t
  |_=>exact absurd (show false=true from fx) aai
 | str a=>
  obtain⟨t',rfl⟩:=ry;cases x with
  |aP=>cases rx;exact SeqAt.EqAt.str_none a t'
  |bl b=>cases rx;exact SeqAt.EqAt.str_bool a t' b
  |int b=>obtain⟨t,rfl⟩:=rx;exact SeqAt.EqAt.str_int a t' b t
  |str b=>obtain⟨t,rfl⟩:=rx;exact SeqAt.EqAt.str_str a t' b t
  |_=>exact absurd (show false=true from fx) aai
 |_=>exact absurd (show false=true from fy) aai
noncomputable def fL(x:V)(u:Value):Bool:=match u with
 |.none=>gX .aP x
 |.bool b=>gX (.bl b) x
 |.int i _=>gX (.int i) x
 |.str z _=>gX (.str z) x
 |_=>false
theorem AY(r:RelV y u)(f:iz y=true):fL x u=gX y x:=by
 cases y with
 |aP=>cases r;rfl
 |bl b=>cases r;rfl
 |int i=>obtain⟨t,rfl⟩:=r;rfl
 |str z=>obtain⟨t,rfl⟩:=r;rfl
 |_=>exact absurd (show false=true from f) aai
theorem o4:∀ {xs:List V} {us:S1},Vals xs us->xs.all iz=true->us.any (fL x)=xs.any λy=>gX y x
 |_,_,.nil,_=>rfl
 | y::xs,u::us,.cons r t,f=>by
  rw[aas,FB]at f;rw[aat,aat,AY r f.1,o4 t f.2]
theorem nU(rx:RelV x v)(fx:iz x=true):∀ {xs:List V} {us:S1},Vals xs us->xs.all iz=true->∀u∈us,SeqAt.EqAt A s u v (fL x u)
 |_,_,.nil,_=>λu hu=>by cases hu
 | y::xs,u::us,.cons r t,f=>λu' hu=>by
  rw[aas,FB]at f;rcases KM.mp hu with rfl|hu
  ·rw[AY r f.1];exact GC r rx f.1 fx
  ·exact nU rx fx t f.2 u' hu
noncomputable def qP(x:V)(xs:List V):Bool:=xs.any λy=>gX y x
noncomputable def zl(K:PySem.W.Frag)(neg:Bool):R2:=λx y H Q=>∃p xs,y=.ref p/\(aU K H p xs\/bj K H p xs)/\iz x=true/\xs.all iz=true/\Q (.bl (if neg then !qP x xs else qP x xs)) H
theorem Hi:aR X (compareOp .In) (zl X.K false):=by
 intro pins s σ H x y v u Q I rx ry h;obtain⟨p,xs,rfl,hq,fx,fs,q⟩:=h;cases ry;rcases hq with hq|hq
 ·obtain⟨its,r,pl,hz⟩:=I.list hq
  refine SeqAt.in_listAt (fL x) pl.isList (λw hw=>nU rx fx r fs w (by simpa using hw)) ⟨.bl _,H,I,rfl,?_⟩
  rw[show its.toArray.any (fL x)=its.any (fL x) by simp,o4 r fs]
  exact q
 ·obtain⟨its,r,pl,hz⟩:=I.tuple hq
  refine SeqAt.in_tupleAt (fL x) pl (λw hw=>nU rx fx r fs w (by simpa using hw)) ⟨.bl _,H,I,rfl,?_⟩
  rw[show its.toArray.any (fL x)=its.any (fL x) by simp,o4 r fs]
  exact q
theorem KD:aR X (compareOp .NotIn) (zl X.K true):=by
 intro pins s σ H x y v u Q I rx ry h;obtain⟨p,xs,rfl,hq,fx,fs,q⟩:=h;cases ry;rcases hq with hq|hq
 ·obtain⟨its,r,pl,hz⟩:=I.list hq
  refine SeqAt.notIn_listAt (fL x) pl.isList (λw hw=>nU rx fx r fs w (by simpa using hw)) ⟨.bl _,H,I,rfl,?_⟩
  rw[show its.toArray.any (fL x)=its.any (fL x) by simp,o4 r fs]
  exact q
 ·obtain⟨its,r,pl,hz⟩:=I.tuple hq
  refine SeqAt.notIn_tupleAt (fL x) pl (λw hw=>nU rx fx r fs w (by simpa using hw)) ⟨.bl _,H,I,rfl,?_⟩
  rw[show its.toArray.any (fL x)=its.any (fL x) by simp,o4 r fs]
  exact q
theorem Ap:bq X (.builtin "len") (λxs H Q=>∃p ys,xs=[.ref p]/\(aU X.K H p ys\/bj X.K H p ys)/\Q (.int ys.length) H):=by
 intro pins s σ H xs us Q I r h;obtain⟨p,ys,rfl,hq,q⟩:=h;obtain⟨u,rfl,rx⟩:=vals1 r;cases rx;have hn:=kc;rcases hq with hq|hq
 ·obtain⟨its,r',pl,hz⟩:=I.list hq
  have hlen:=r'.length;exact Calls.call_len_list pl.isList (by simp only[Da]<;>omega) ⟨.int ys.length,H,I.tok _,⟨s.toks+1,by rw[Da,hlen]⟩,q⟩
 ·obtain⟨its,r',pl,hz⟩:=I.tuple hq
  have hlen:=r'.length;exact len_tuple pl (by simp only[Da]<;>omega) ⟨.int ys.length,H,I.tok _,⟨s.toks+1,by rw[Da,hlen]⟩,q⟩
theorem EG:bq X (.builtin "len") (λxs H Q=>∃z,xs=[.str z]/\z.length<=sizeLine/\Q (.int z.length) H):=by
 intro pins s σ H xs us Q I r h;obtain⟨z,rfl,hz,q⟩:=h;obtain⟨u,rfl,t,rfl⟩:=vals1 r;have hn:=kc;exact len_str (by omega) ⟨.int z.length,H,I.tok _,⟨_,rfl⟩,q⟩
theorem bq.or{f:Value}{r r':List V->Hp->VK->Prop}(h:bq X f r)(h':bq X f r'):bq X f (λxs H Q=>r xs H Q\/r' xs H Q):=by
 intro pins s σ H xs us Q I rs q;rcases q with q|q
 ·exact h pins s σ H xs us Q I rs q
 ·exact h' pins s σ H xs us Q I rs q
theorem pV:bq X (.type "list") (λxs H Q=>∃p ys,xs=[.ref p]/\(aU X.K H p ys\/bj X.K H p ys)/\∀l,H l=none->Q (.ref l) (upd H l (.lst ys))):=by
 intro pins s σ H xs us Q I r h;obtain⟨p,ys,rfl,hq,q⟩:=h;obtain⟨u,rfl,rx⟩:=vals1 r;cases rx
 have fin:∀(its:S1),Vals ys its->ys.length<=sizeLine->∀(h':Heap) (c':Nat),(∀b o',s.heap.get? b=some o'->h'.get? b=some o')->
   h'.get? s.heap.objs.size=some {cls:=.type "list",dict:=none,data:=.seq its.toArray c',slots:= #[]}->EP X pins σ Q (.ref s.heap.objs.size) {s with heap:=h'}:=λits r' hz h' c' kp e=>
  ⟨.ref s.heap.objs.size,_,I.laid (t':=s.toks) kp (IR _) (show cH X.prog X.w _ h' _ (.lst ys)from⟨hz,its,c',r',e⟩),rfl,q _ (I.aC.fresh (IR _))⟩
 rcases hq with hq|hq
 ·obtain⟨its,r',pl,hz⟩:=I.list hq
  have hlen:=r'.length;obtain⟨o,ho,hc,n,hd⟩:=pl.isList;exact call_list_seq p (.inl rfl) ho hc hd (λh' c' kp e=>fin its r' hz h' c' kp e) (by simp only[Da]<;>omega)
 ·obtain⟨its,r',pl,hz⟩:=I.tuple hq
  have hlen:=r'.length;obtain⟨o,ho,hc,n,hd⟩:=pl;exact call_list_seq p (.inr rfl) ho hc hd (λh' c' kp e=>fin its r' hz h' c' kp e) (by simp only[Da]<;>omega)
theorem AM:bq X (.type "tuple") (λxs H Q=>∃p ys,xs=[.ref p]/\((aU X.K H p ys/\∀l,H l=none->Q (.ref l) (upd H l (.tup ys)))\/(bj X.K H p ys/\Q (.ref p) H))):=by
 intro pins s σ H xs us Q I r h;obtain⟨p,ys,rfl,h⟩:=h;obtain⟨u,rfl,rx⟩:=vals1 r;cases rx;rcases h with⟨hq,q⟩|⟨hq,q⟩
 ·obtain⟨its,r',pl,hz⟩:=I.list hq
  have hlen:=r'.length;refine call_tuple_list pl.isList (λh' kp=>?_) (by simp only[Da]<;>omega)
  have I1:Inv X pins σ H {s with heap:=h'}:=I.kept (t':=s.toks) kp
  have I2:Inv X pins σ (upd H h'.objs.size (.tup ys)) {s with heap:=h'.push {cls:=.type "tuple",data:=.seq its.toArray} }:=
   I1.laid (t':=s.toks) (λb o e=>sa _ e) (IR _) (show cH X.prog X.w _ _ _ (.tup ys)from⟨hz,its,r',IsTup.new _ _⟩)
  exact⟨.ref h'.objs.size,_,I2,rfl,q _ (I1.aC.fresh (IR _))⟩
 ·obtain⟨its,r',pl,hz⟩:=I.tuple hq
  exact call_tuple_same pl ⟨.ref p,H,I,rfl,q⟩
def uu(K:PySem.W.Frag)(T:String)(x:V)(H:Hp):Prop:=match x with
 |.str _=>T="str"
 |.int _=>T="int"
 |.ref p=>(T="list"/\∃xs,aU K H p xs)\/(T="tuple"/\∃o,K.lookup p=some o/\o.cls=.type "tuple"/\o.dict=none)\/
   (T="dict"/\((∃kvs,H p=some (.dK kvs))\/∃kvs,H p=some (.dT kvs)))\/(T="set"/\∃S n,H p=some (.set S n))
 |_=>False
theorem xZ(I:Inv X pins σ H s)(r:RelV x v)(ty:uu X.K T x H):
  s.TypeIs v T/\∀a,v=.ref a->∃ob,s.heap.get? a=some ob/\ob.dict=none:=by
 cases x with
 | str z=>
  obtain⟨t,rfl⟩:=r;cases (show T="str" from ty)
  exact⟨adm s z t,λ_ e=>nomatch e⟩
 | int i=>
  obtain⟨t,rfl⟩:=r;cases (show T="int" from ty)
  exact⟨typeIs_int s i t,λ_ e=>nomatch e⟩
 | ref p=>
  cases r;rcases ty with⟨rfl,xs,hq⟩|⟨rfl,o,hk,hc,hd⟩|⟨rfl,hk⟩|⟨rfl,S,n,hk⟩
  ·obtain⟨its,_,pl,_⟩:=I.list hq
   refine⟨pl.isList.typeIs,λa e=>?_⟩;cases e;obtain⟨o,n,e,c,hd,_⟩:=pl;exact⟨o,e,hd⟩
  ·refine⟨⟨o,I.eU p o hk,hc⟩,λa e=>?_⟩
   cases e;exact⟨o,I.eU _ o hk,hd⟩
  ·have z:∃o,s.heap.get? p=some o/\o.ExactDict:=by
    rcases hk with⟨kvs,hk⟩|⟨kvs,hk⟩
    ·obtain⟨_,_,_,_,o,_,_,e,ex,_⟩:=I.aC p _ hk
     exact⟨o,e,ex⟩
    ·obtain⟨_,_,_,_,o,_,_,e,ex,_⟩:=I.aC p _ hk
     exact⟨o,e,ex⟩
   obtain⟨o,e,ex⟩:=z;refine⟨⟨o,e,ex.1⟩,λa e2=>?_⟩;cases e2;exact⟨o,e,ex.2.1⟩
  ·obtain⟨o,_,_,_,e,ex,_⟩:=I.aC p _ hk
   refine⟨⟨o,e,ex.1⟩,λa e2=>?_⟩;cases e2;exact⟨o,e,ex.2.1⟩
 |_=>exact False.elim ty
def GL(K:PySem.W.Frag)(T:String)(r:V->List V->Hp->VK->Prop)(to:TE):TE:=λσ H Q=>to σ H λx H1=>uu K T x H1/\r x [] H1 Q
def Hm(K:PySem.W.Frag)(T:String)(r:V->List V->Hp->VK->Prop)(to:TE)(t:TA):TE:=λσ H Q=>to σ H λx H1=>uu K T x H1/\t σ H1 λxs H2=>r x xs H2 Q
variable{o e:Expr}{es:P2}{to:TE}{t:TA}{name:Str}{apos MQ:Pos}{T id:String}{r:V->List V->Hp->VK->Prop}
theorem G8(pa:PlainAttrs T)(slot:Slot T name id)(VT:typeOf (.builtin id)=pure (.type "method_descriptor"))(hm:zT X id r)(ho:PE X o to)
  (Nv:attributeBase o name X.env (eval o X.env)=eval o X.env:=by rfl) (Nw:(apos.endLine==MQ.line)=true:=by rfl):PE X (.Call (.Attribute o name apos) [] [] MQ) (GL X.K T r to):=by
 intro pins s σ H Q I h;refine wpAny_Call_method0_late Nv Nw (aM (ho pins s σ H _ I h) λv s1 ⟨x,H1,I1,r1,ty,q1⟩=>?_);obtain⟨h1,h2⟩:=xZ I1 r1 ty;exact⟨T,id,pa,slot,VT,h1,h2,adB rfl (PySem.evalArgs_none (hm pins s1 σ H1 x [] v [] Q I1 r1 .nil q1))⟩
theorem ph(pa:PlainAttrs T)(slot:Slot T name id)(VT:typeOf (.builtin id)=pure (.type "method_descriptor"))(hm:zT X id r)(ho:PE X o to)(ha:PA X (e::es) t)
  (Nv:attributeBase o name X.env (eval o X.env)=eval o X.env:=by rfl)
  (OJ:((backTo MQ (starEach (e::es) X.env)).all (λx=> !x.1)&&(backToKw MQ (keywordEach [] X.env)).all (λx=>x.1.isSome)
   &&decide ((e::es).length+([]:List Keyword).length+(if([]:List Keyword).isEmpty then 0 else 1)<30))=true:=by rfl)
  (Nw:(apos.endLine==MQ.line)=true:=by rfl) (hs:starEach (e::es) X.env=(false,eval e X.env)::starEach es X.env:=by rfl) (Rl:(backTo MQ (starEach es X.env)).any (·.1)=false:=by rfl):
  PE X (.Call (.Attribute o name apos) (e::es) [] MQ) (Hm X.K T r to t):=by
 intro pins s σ H Q I h;refine wpAny_Call_method_late Nv OJ Nw rfl (aM (ho pins s σ H _ I h) λv s1 ⟨x,H1,I1,r1,ty,q1⟩=>?_);obtain⟨h1,h2⟩:=xZ I1 r1 ty;refine⟨T,id,pa,slot,VT,h1,h2,?_⟩;have hA:=ha MQ pins s1 σ H1 _ I1 q1;rw[hs]at hA ⊢;refine adB (by show(false||(backTo MQ (starEach es X.env)).any (·.1))=false;rw[Rl]<;>rfl) (adL ?_)
 exact aM hA λus s2=>by rintro⟨vs,H2,I2,r2,q2⟩;exact hm pins s2 σ H2 x vs v us Q I2 r1 r2 q2
end
def rR(X:Cx)(id:String)(r:V->List V->Hp->VK->Prop):Prop:=
 ∀(pins:List (Addr×Obj)) (s:Shared) (σ:St) (H:Hp) (x:V) (xs:List V) (v:Value) (us:S1) (Q:VK),Inv X pins σ H s->RelV x v->Vals xs us->r x xs H Q->
  wpAny (model X.prog X.w) X.A (call (.builtin id) (v::us)) (EP X pins σ Q) X.xe s
theorem Vals.one:∀ {x:V} {us:S1},Vals [x] us->∃u,us=[u]/\RelV x u
 |_,_,.cons r .nil=>⟨_,rfl,r⟩
theorem Vals.zero:∀ {us:S1},Vals [] us->us=[]
 |_,.nil=>rfl
theorem Vals.dropLast(h:Vals xs us):Vals xs.dropLast us.dropLast:=by
 induction h with
 |nil=>exact .nil
 | cons r t ih=>
  cases t with
  |nil=>exact .nil
  |cons q t'=>exact .cons r ih
theorem Vals.eraseIdx:∀ {xs:List V} {us:S1} (i:Nat),Vals xs us->Vals (xs.eraseIdx i) (us.eraseIdx i)
 |_,_,_,.nil=>.nil
 |_,_,0,.cons _ t=>t
 |_,_,i+1,.cons r t=>.cons r (Vals.eraseIdx i t)
theorem Vals.rep(h:Vals xs us):∀k:Nat,Vals (List.replicate k xs).flatten (List.replicate k us).flatten
 |0=>.nil
 | k+1=>by
  rw[aan,aan,S6,S6];exact Vals.append h (Vals.rep h k)
theorem L6{α:Type}(l:List α):l.eraseIdx (l.length - 1)=l.dropLast:=by
 induction l with
 |nil=>rfl
 | cons a r ih=>
  cases r with
  |nil=>rfl
  | cons b r=>
   have e:(a::b::r).length - 1=((b::r).length - 1)+1:=by
    have h1:(a::b::r).length=r.length+2:=rfl;have h2:(b::r).length=r.length+1:=rfl;omega
   rw[e,abE,ih]
   all_goals rfl
theorem xR{α:Type}:∀(l:List α) (i:Nat),(l.eraseIdx i).length<=l.length
 |[],_=>IR _
 |_::_,0=>adn _
 |_::r,i+1=>Nat.succ_le_succ (xR r i)
section
variable{X:Cx}{pins:List (Addr×Obj)}{σ:St}{H:Hp}{s:Shared}{l b:Addr}{xs ys zs:List V}
theorem Inv.qz{its its':S1}{n:Nat}{f:Array Value->Array Value}{t':Nat}(I:Inv X pins σ H s)(hH:H l=some (.lst xs))
  (e:s.heap.get? l=some {cls:=.type "list",data:=.seq its.toArray n}) (hf:f its.toArray=its'.toArray) (hv:Vals ys its') (hz:ys.length<=sizeLine):
  Inv X pins σ (upd H l (.lst ys)) {s with heap:=s.heap.update l (Obj.mapSeq f),toks:=t'}:=by
 have q:=PySem.IsL.update e f;rw[hf]at q;refine I.write (x:=l) (e:=l) (by rw[hH];exact trivial) (.inl rfl) (λb' u hb hu=>(aaa s.heap (Obj.mapSeq f) (W1 hb)).trans hu) ⟨_,q⟩ ?_
 exact⟨hz,its',_,hv,q⟩
theorem Inv.sZ(I:Inv X pins σ H s)(hv:Vals ys its)(hz:ys.length<=sizeLine):
  Inv X pins σ (upd H s.heap.objs.size (.lst ys)) {s with heap:=s.heap.push {cls:=.type "list",data:=.seq its.toArray},toks:=t'}:=
 I.laid (λ_ _ q=>sa _ q) (IR _) ⟨hz,its,0,hv,KF _ rfl⟩
theorem Inv.fresh(I:Inv X pins σ H s):H s.heap.objs.size=none:=I.aC.fresh (IR _)
theorem Inv.oq(I:Inv X pins σ H s)(hH:H l=some (.lst xs)):xs.length<=sizeLine/\∃(its:S1) (n:Nat),Vals xs its/\xs.length=its.length/\s.heap.get? l=some {cls:=.type "list",data:=.seq its.toArray n}:=by
 obtain⟨z,its,n,r,e⟩:=I.aC l _ hH;exact⟨z,its,n,r,r.length,e⟩
theorem Hr(h:n<=sizeLine):Builtin.List.listTooLong n=false:=by
 unfold Builtin.List.listTooLong;exact KI (by omega)
end
section
variable{X:Cx}
def HS:V->List V->Hp->VK->Prop:=λx vs H Q=>∃l xs y,x=.ref l/\vs=[y]/\H l=some (.lst xs)/\xs.length<sizeLine/\Q .aP (upd H l (.lst (xs++[y])))
theorem rJ:rR X "list.append" HS:=by
 intro pins s σ H x vs v us Q I rx rv h;obtain⟨l,xs,y,rfl,rfl,hH,hz,q⟩:=h;cases rx;obtain⟨u,rfl,ru⟩:=rv.one;obtain⟨z,its,n,r,hl,e⟩:=I.oq hH;refine aaZ F.slot_list_append ⟨_,e,rfl⟩ F.entry_list_append (F.args_list_append_2 _ _) (PySem.list_append l its.toArray n u (by rw[Da];omega)) ⟨e,?_⟩
 refine⟨.aP,_,I.qz (its':=its++[u]) hH e (by simp) (r.append (.cons ru .nil)) ?_,rfl,q⟩
 rw[Fk,aag];omega
def K0:V->List V->Hp->VK->Prop:=λx vs H Q=>∃l b xs zs,x=.ref l/\vs=[.ref b]/\H l=some (.lst xs)/\H b=some (.lst zs)/\xs.length+zs.length<=sizeLine/\Q .aP (upd H l (.lst (xs++zs)))
theorem Ik:rR X "list.extend" K0:=by
 intro pins s σ H x vs v us Q I rx rv h;obtain⟨l,b,xs,zs,rfl,rfl,hH,hB,hz,q⟩:=h;cases rx;obtain⟨u,rfl,ru⟩:=rv.one;cases ru;obtain⟨z,its,n,r,hl,e⟩:=I.oq hH;obtain⟨z2,NV,n2,r2,d6,e2⟩:=I.oq hB;have hsz:its.toArray.size+NV.toArray.size<=sizeLine:=by rw[Da,Da];omega
 have Tj:¬(!its.toArray.isEmpty&&Builtin.List.listTooLong (its.toArray.size+NV.toArray.size))=true:=by
  rw[Hr hsz,acI];exact aai
 refine aaZ F.slot_list_extend ⟨_,e,rfl⟩ F.entry_list_extend (F.args_list_extend_2 _ _)
  (AutoSeq1.list_extend_list_list_0 l its.toArray n b NV.toArray n2 Tj (by rw[Da];omega) (by omega)) ⟨e,e2,?_⟩
 refine⟨.aP,_,I.qz (its':=its++NV) hH e (by simp) (r.append r2) ?_,rfl,q⟩
 rw[Fk];omega
def Ga:V->List V->Hp->VK->Prop:=λx vs H Q=>∃l xs y,x=.ref l/\vs=[]/\H l=some (.lst xs)/\xs[xs.length - 1]? =some y/\Q y (upd H l (.lst xs.dropLast))
theorem IH:rR X "list.pop" Ga:=by
 intro pins s σ H x vs v us Q I rx rv h;obtain⟨l,xs,y,rfl,rfl,hH,hy,q⟩:=h;cases rx;have Y':=rv.zero;subst Y';obtain⟨z,its,n,r,hl,e⟩:=I.oq hH;obtain⟨u,hu,ru⟩:=r.get hy
 have X5:its.toArray[its.toArray.size - 1]? =some u:=by
  show its.toArray[its.length - 1]? =some u;rw[<-abP, <-hl];exact hu
 refine aaZ F.slot_list_pop ⟨_,e,rfl⟩ F.entry_list_pop (F.args_list_pop_1 _) (MeetsSeq.list_pop_last l its.toArray n u X5 (by rw[Da];omega)) ⟨e,?_⟩
 refine⟨y,_,I.qz (its':=its.dropLast) hH e ?_ r.dropLast ?_,ru,q⟩
 ·show its.toArray.eraseIdxIfInBounds (its.toArray.size - 1)=its.dropLast.toArray
  rw[Da,acv,L6]
 ·rw[List.length_dropLast]
  omega
def EK:V->List V->Hp->VK->Prop:=λx vs H Q=>∃l xs i k y,x=.ref l/\vs=[.int i]/\H l=some (.lst xs)/\ -(2 ^ 63)<=i/\i<2 ^ 63/\seqIndex? i xs.length=some k/\xs[k]? =some y/\Q y (upd H l (.lst (xs.eraseIdx k)))
theorem EH:rR X "list.pop" EK:=by
 intro pins s σ H x vs v us Q I rx rv h;obtain⟨l,xs,i,k,y,rfl,rfl,hH,h1,h2,hk,hy,q⟩:=h;cases rx;obtain⟨u,rfl,ru⟩:=rv.one;obtain⟨t,rfl⟩:=ru;obtain⟨z,its,n,r,hl,e⟩:=I.oq hH;obtain⟨w,hw,Ot⟩:=r.get hy
 refine aaZ F.slot_list_pop ⟨_,e,rfl⟩ F.entry_list_pop (F.args_list_pop_2 _ _)
  (MeetsSeq.list_pop_at l its.toArray n i t k w (fitsIndex_both h1 h2) (by rw[Da, <-hl];exact hk) (by rw[<-abP];exact hw) (by rw[Da];omega)) ⟨e,?_⟩
 refine⟨y,_,I.qz (its':=its.eraseIdx k) hH e ?_ (r.eraseIdx k) ?_,Ot,q⟩
 ·show its.toArray.eraseIdxIfInBounds k=(its.eraseIdx k).toArray
  rw[acv]
 ·have:=xR xs k
  omega
theorem len_rep{α:Type}(xs:List α)(k:Nat):(List.replicate k xs).flatten.length=k*xs.length:=by
 induction k with
 |zero=>simp
 |succ k ih=>rw[aan,S6,Fk,ih,Nat.succ_mul,Nat.add_comm]
end
section
variable{κ:Type} [DecidableEq κ]
noncomputable def d7(kvs:List (κ×V))(k:κ):Option V:=(kvs.find? λkv=>decide (kv.1=k)).map (·.2)
noncomputable def putK(kvs:List (κ×V))(k:κ)(v:V):List (κ×V):=
 if(kvs.any λkv=>decide (kv.1=k))=true then kvs.map (λkv=>if kv.1=k then(kv.1,v)else kv)else kvs++[(k,v)]
theorem uV{p:κ×V}{r:List (κ×V)}{k:κ}(e:p.1=k):d7 (p::r) k=some p.2:=by simp[d7,aaz,e]
theorem tm{p:κ×V}{r:List (κ×V)}{k:κ}(e:¬p.1=k):d7 (p::r) k=d7 r k:=by simp[d7,aaz,e]
theorem Aa(k:κ):∀kvs:List (κ×V),(kvs.any λkv=>decide (kv.1=k))=(d7 kvs k).isSome
 |[]=>rfl
 | p::r=>by
  rw[aat];by_cases e:p.1=k
  ·simp only[uV e,M0 e,Bool.true_or,Option.isSome_some]
  ·rw[tm e,KI e,Bool.false_or];exact Aa k r
theorem tS(kvs:List (κ×V))(k:κ)(v:V):(putK kvs k v).length<=kvs.length+1:=by
 unfold putK;split
 ·rw[j1];omega
 ·rw[Fk,PK,aaA];omega
theorem gA.Ir(r:gA o u):o.isSome=u.isSome:=by
 cases o with
 | none=>cases u with
  |none=>rfl
  |some _=>exact(show False from r).elim
 | some _=>cases u with
  |none=>exact(show False from r).elim
  |some _=>rfl
theorem KV.val{kvs:List (κ×V)}{vs:List (κ×Value)}(r:KV kvs vs)(k:κ):gA (d7 kvs k) (valueAt vs k):=by
 unfold KV at r
 induction r with
 |nil=>exact True.intro
 | @cons p q ps qs h t ih=>
  obtain⟨h1,h2⟩:=h;by_cases e:p.1=k
  ·have e':q.1=k:=h1.symm.trans e
   have b:valueAt (q::qs) k=some q.2:=by simp[valueAt,aaz,e']
   rw[uV e,b];exact h2
  ·have e':¬q.1=k:=λz=>e (h1.trans z)
   have b:valueAt (q::qs) k=valueAt qs k:=by simp[valueAt,aaz,e']
   rw[tm e,b];exact ih
theorem KV.any{kvs:List (κ×V)}{vs:List (κ×Value)}(r:KV kvs vs)(k:κ):(kvs.any λkv=>decide (kv.1=k))=vs.any λkv=>decide (kv.1=k):=by
 unfold KV at r
 induction r with
 |nil=>rfl
 |cons h t ih=>rw[aat,aat,ih,h.1]
theorem KV.u5(r:KV kvs vs)(k:κ)(ry:RelV y u):
  KV (kvs.map λkv=>if kv.1=k then(kv.1,y)else kv) (vs.map λkv=>if kv.1=k then(kv.1,u)else kv):=by
 unfold KV at r ⊢
 induction r with
 |nil=>exact .nil
 | @cons p q ps qs h t ih=>
  rw[MG,MG];refine .cons ?_ ih;obtain⟨h1,h2⟩:=h;by_cases e:p.1=k
  ·rw[DM e,DM (h1.symm.trans e)];exact⟨h1,ry⟩
  ·rw[Gc e,Gc (λz=>e (h1.trans z))];exact⟨h1,h2⟩
theorem KV.put{kvs:List (κ×V)}{vs:List (κ×Value)}(r:KV kvs vs)(k:κ){y:V}{u:Value}(ry:RelV y u):KV (putK kvs k y) (stored vs k u):=by
 unfold putK stored;rw[r.any k];by_cases e:(vs.any λkv=>decide (kv.1=k))=true
 ·rw[DM e,DM e];exact r.u5 k ry
 ·rw[Gc e,Gc e];exact Paired.snoc r ⟨rfl,ry⟩
theorem KV.length{kvs:List (κ×V)}{vs:List (κ×Value)}(r:KV kvs vs):kvs.length=vs.length:=acy r
end
theorem kW(r:RelV (kV k) u):(cV P w).is k u=true:=by
 cases k with
 |inl i=>obtain⟨t,e⟩:=(show ∃t,u=Value.int i t from r);subst e;exact EV P w i t
 |inr x=>obtain⟨t,e⟩:=(show ∃t,u=Value.str x t from r);subst e;exact K2 P w x t
theorem zW:∀ {ks:List Key} {us:S1},Vals (ks.map kV) us->ItemsAre (cV P w) ks us
 |[],_,r=>by rw[aco]at r;cases r;exact .nil
 | k::ks,_,r=>by
  rw[MG]at r;cases r with
  |cons h t=>exact .cons (kW h) (zW t)
abbrev KT(H:Hp):List (List Key×V)->List (List Key×Addr×Value)->Prop:=Paired λp q=>p.1=q.1/\H q.2.1=some (.tup (p.1.map kV))/\RelV p.2 q.2.2
theorem KT.val{H:Hp}{kvs:List (List Key×V)}{xs:List (List Key×Addr×Value)}(r:KT H kvs xs)(k:List Key):gA (d7 kvs k) ((atKey xs k).map (·.2)):=by
 induction r with
 |nil=>exact True.intro
 | @cons p q ps qs h t ih=>
  obtain⟨h1,_,h2⟩:=h;by_cases e:p.1=k
  ·have e':q.1=k:=h1.symm.trans e
   have b:atKey (q::qs) k=some q.2:=by simp[atKey,aaz,e']
   rw[uV e,b];exact h2
  ·have e':¬q.1=k:=λz=>e (h1.trans z)
   have b:atKey (q::qs) k=atKey qs k:=by simp[atKey,aaz,e']
   rw[tm e,b];exact ih
theorem KT.u5(r:KT H kvs xs)(k:List Key)(ry:RelV y u):
  KT H (kvs.map λkv=>if kv.1=k then(kv.1,y)else kv) (xs.map (putAt k u)):=by
 induction r with
 |nil=>exact .nil
 | @cons p q ps qs h t ih=>
  rw[MG,MG];refine .cons ?_ ih;obtain⟨h1,h2,h3⟩:=h;unfold putAt;by_cases e:p.1=k
  ·rw[DM e,DM (h1.symm.trans e)];exact⟨h1,h2,ry⟩
  ·rw[Gc e,Gc (λz=>e (h1.trans z))];exact⟨h1,h2,h3⟩
theorem KT.put{H:Hp}{kvs:List (List Key×V)}{xs:List (List Key×Addr×Value)}(r:KT H kvs xs)(k:List Key){b:Addr}{y:V}{u:Value}(hb:H b=some (.tup (k.map kV)))(ry:RelV y u):
  KT H (putK kvs k y) (storedH xs k b u):=by
 have e:(kvs.any λkv=>decide (kv.1=k))=(atKey xs k).isSome:=by
  rw[Aa,(r.val k).Ir,Option.isSome_map]
 unfold putK storedH;rw[e];by_cases q:(atKey xs k).isSome=true
 ·rw[DM q,DM q];exact r.u5 k ry
 ·rw[Gc q,Gc q];exact Paired.snoc r ⟨rfl,hb,ry⟩
theorem KT.keeps{H H':Hp}{kvs:List (List Key×V)}{xs:List (List Key×Addr×Value)}(r:KT H kvs xs)(ht:∀b ys,H b=some (.tup ys)->H' b=some (.tup ys)):KT H' kvs xs:=
 Paired.uC r λ_ _ z=>⟨z.1,ht _ _ z.2.1,z.2.2⟩
section
variable{P:Program}{w:World}{H:Hp}{h:Heap}{a:Addr}
theorem BB(ok:bx P w H h)(e:Rd H a u):cH P w H h a u:=e.ok ok
theorem wI(ok:bx P w H h)(e:Rd H a (.dK kvs)):kvs.length<=sizeLine/\(a==sysModules)=false/\∃vs,KV kvs vs/\h.DictOf (cV P w) a vs:=
 show cH P w H h a (.dK kvs)from BB ok e
theorem Gu(ok:bx P w H h)(e:H a=some (.dK kvs)):kvs.length<=sizeLine/\(a==sysModules)=false/\∃vs,KV kvs vs/\h.DictOf (cV P w) a vs:=wI ok (.inl e)
theorem Bg{ks:List Key}(ok:bx P w H h)(e:H a=some (.tup (ks.map kV))):(tupleKind (cV P w)).is h ks a:=by
 obtain⟨_,its,r,o,h1,h2,n,h3⟩:=(show cH P w H h a (.tup (ks.map kV))from ok a _ e)
 exact⟨o,its.toArray,n,h1,h2,h3,by simpa using zW r⟩
theorem Eb(ok:bx P w H h)(e:Rd H a (.dT kvs)):kvs.length<=sizeLine/\(a==sysModules)=false/\
  ∃xs,KT H kvs xs/\h.DictOfH (tupleKind (cV P w)) a xs:=by
 obtain⟨z,y,xs,r,o,es,ep,h1,h2,h3,h4,h5⟩:=(show cH P w H h a (.dT kvs)from BB ok e)
 refine⟨z,y,xs,r,o,es,ep,h1,h2,h3,h4,λx hx=>?_,h5⟩
 have all:∀ {l:List (List Key×V)} {m:List (List Key×Addr×Value)},KT H l m->∀x∈m,(tupleKind (cV P w)).is h x.1 x.2.1:=by
  intro l m q
  induction q with
  |nil=>intro x hx;exact nomatch hx
  | @cons p q ps qs hq t ih=>
   intro x hx;rcases KM.mp hx with e|hx
   ·subst e
    exact Bg ok (by rw[<-hq.1];exact hq.2.1)
   ·exact ih x hx
 exact all r x hx
theorem Ko(ok:bx P w H h)(e:H a=some (.dT kvs)):kvs.length<=sizeLine/\(a==sysModules)=false/\
  ∃xs,KT H kvs xs/\h.DictOfH (tupleKind (cV P w)) a xs:=Eb ok (.inl e)
end
def kB(H:Hp)(a:Addr)(y v:V)(H':Hp):Prop:=
 (∃kvs k,H a=some (.dK kvs)/\y=kV k/\kvs.length<sizeLine/\H'=upd H a (.dK (putK kvs k v)))\/
 ∃kvs k b,H a=some (.dT kvs)/\y=.ref b/\H b=some (.tup (k.map kV))/\kvs.length<sizeLine/\H'=upd H a (.dT (putK kvs k v))
theorem kB.k{H:Hp}{a:Addr}{kvs:List (Key×V)}{k:Key}{v:V}(e:H a=some (.dK kvs))(hl:kvs.length<sizeLine):kB H a (kV k) v (upd H a (.dK (putK kvs k v))):=.inl ⟨kvs,k,e,rfl,hl,rfl⟩
section
variable{X:Cx}{pins:List (Addr×Obj)}{σ:St}{H:Hp}{s:Shared}{a:Addr}{y v:V}{u r:Value}{o:Option V}{A:Around}{E:Value->Shared->Prop}
theorem Inv.big(I:Inv X pins σ H s):sysModules<s.heap.objs.size:=by
 have h:mainGlobals<s.heap.objs.size:=(I.mod.glob.keeps I.bk).lt;exact abM (by decide) h
theorem yP(I:Inv X pins σ H s)(mu:oR (H a))(hs:Heap.SameBut a s.heap h')(he:∃q,h'.get? a=some q)(new:cH X.prog X.w (upd H a ob) h' a ob):
  Inv X pins σ (upd H a ob) {s with heap:=h',toks:=t'}:=
 I.write (x:=a) (e:=a) mu (.inl rfl) (λb q hb z=>(hs.2 b hb).trans z) he new
theorem zk(z:kvs.length<=sizeLine)(hd:(a==sysModules)=false)(rel:KV kvs vs)(dd:h'.DictOf (cV P w) a vs):
  cH P w H' h' a (.dK kvs):=⟨z,hd,vs,rel,dd⟩
theorem LK{H':Hp}{Q:Unit->Shared->Prop}(hu:A.units+1<cLine)(I:Inv X pins σ H s)(g:kB H a y v H')(ry:RelV y u)(rv:RelV v r)(h:∀s',Inv X pins σ H' s'->Q () s'):
  wpAny (model X.prog X.w) A (setItem (.ref a) u r) Q E s:=by
 rcases g with⟨kvs,k,e,ey,l,eH⟩|⟨kvs,k,b,e,ey,eb,l,eH⟩
 ·subst ey eH
  obtain⟨z,hd,vs,rel,dd⟩:=Gu I.aC e;have hz:vs.length<=sizeLine:=by rw[<-rel.length];exact z
  have hl:(putK kvs k v).length<=sizeLine:=by have:=tS kvs k v;omega
  refine wpAny_setItem_pairs (hsz:=hz) (kW ry) dd λh' R5 hs=>h _ ?_;have he:∃q,h'.get? a=some q:=let⟨q,_,_,hq,_⟩:=R5;⟨q,hq⟩
  exact yP I (by rw[e];exact True.intro) hs he (zk hl hd (rel.put k rv) R5)
 ·subst ey eH
  cases (show u=Value.ref b from ry)
  obtain⟨z,hd,xs,rel,dd⟩:=Ko I.aC e;have hz:xs.length<=sizeLine:=by rw[<-acy rel];exact z
  have hl:(putK kvs k v).length<=sizeLine:=by have:=tS kvs k v;omega
  refine wpAny_setItem_heap (hsz:=hz) (tupleKind_room_in1 hu) (Bg I.aC eb) dd λh' R5 hs=>h _ ?_;obtain⟨q,es,ep,hq,h2,h3,h4,_,h5⟩:=R5;refine yP I (by rw[e];exact True.intro) hs ⟨q,hq⟩ ⟨hl,hd,_,(rel.put k eb rv).keeps λc ys ec=>?_,q,es,ep,hq,h2,h3,h4,h5⟩
  rw[aJ (LD ec e (λz=>nomatch z))]
  exact ec
end
def FV(td ty tv:TE):TS:=λD σ H=>tv σ H λv H1=>td σ H1 λx H2=>ty σ H2 λy H3=>∃a H4,x=.ref a/\kB H3 a y v H4/\D.nx σ H4
section
variable{X:Cx}{o i e value:Expr}{pos pos' UJ:Pos}{td ty tv:TE}
theorem vU(hu:X.A.units+1<cLine)(ho:PE X o td)(hi:PE X i ty)(hv:PE X value tv)(hs:swapsWith value (some (.Subscript o i pos')) pos.line X.env=pure false):
  PS X (.Assign [.Subscript o i pos'] value pos) (FV td ty tv):=by
 intro pins s σ H D I h;refine wpAny_Assign_Subscript (aM (hv pins s σ H _ I h) λr s1 ⟨v,H1,I1,rv,q1⟩=>aM (ho pins s1 σ H1 _ I1 q1) λu s2 ⟨x,H2,I2,rx,q2⟩=>aM (hi pins s2 σ H2 _ I2 q2) λiv s3 ⟨y,H3,I3,ry,a,H4,ex,g,q3⟩=>?_) hs;subst ex;obtain rfl:u=Value.ref a:=rx;exact LK hu I3 g ry rv λs4 I4=>⟨σ,H4,I4,q3⟩
end
theorem J4(h:Heap)(hb:sysModules<h.objs.size):cH P w H (h.push {cls:=.type "dict",data:=.dict #[]}) h.objs.size (.dK []):=
 ⟨aay _,abY.mpr (W1 (GT hb)),[],.nil,Heap.DictOf.new h⟩
def G9:TE:=λ_ H Q=>∀p,H p=none->Q (.ref p) (upd H p (.dK []))
section
variable{X:Cx}{pos:Pos}
theorem u0:PE X (.Dict [] [] pos) G9:=λpins s σ H Q I h=>
 wpAny_Dict_empty ⟨.ref s.heap.objs.size,_,I.laid (a:=s.heap.objs.size) (o:=.dK []) (t':=s.toks) (λ_ _ q=>sa _ q) (IR _) (J4 s.heap I.big),rfl,h _ (I.aC.fresh (IR _))⟩
end
def sN:List (TE×TE)->St->Hp->(List (V×V)->Hp->Prop)->Prop
 |[],_,H,Q=>Q [] H
 |(tk,tv)::r,σ,H,Q=>tk σ H λx H1=>tv σ H1 λy H2=>sN r σ H2 λps H3=>Q ((x,y)::ps) H3
abbrev VV:List (V×V)->List (Value×Value)->Prop:=Paired λp q=>RelV p.1 q.1/\RelV p.2 q.2
def DQ(X:Cx)(pos:Pos)(keys:List (Option Expr))(values:P2)(Nj:List (TE×TE)):Prop:=
 ∀(pins:List (Addr×Obj)) (s:Shared) (σ:St) (H:Hp) (Q:List (V×V)->Hp->Prop),Inv X pins σ H s->sN Nj σ H Q->
  wpAny (model X.prog X.w) X.A (evalPairs (pairTrees keys values X.env pos)) (λvs s'=>∃ps H',Inv X pins σ H' s'/\VV ps vs/\Q ps H') X.xe s
noncomputable def jn(kvs more:List (Key×V)):List (Key×V):=more.foldl (λacc kv=>putK acc kv.1 kv.2) kvs
theorem KV.merge:∀ {more:List (Key×V)} {rs:List (Key×Value)} {kvs:List (Key×V)} {vs:List (Key×Value)},KV more rs->KV kvs vs->KV (jn kvs more) (merged vs rs):=by
 intro more rs kvs vs r;unfold KV at r
 induction r generalizing kvs vs with
 |nil=>intro q;exact q
 | @cons p q ps qs h t ih=>
  intro r0
  have e:KV (putK kvs p.1 p.2) (stored vs q.1 q.2):=by
   have:=r0.put p.1 h.2;rw[<-h.1];exact this
  exact ih e
theorem zO:∀(more kvs:List (Key×V)),(jn kvs more).length<=kvs.length+more.length
 |[],kvs=>by show kvs.length<=kvs.length+0;omega
 | p::r,kvs=>by
  have h1:=zO r (putK kvs p.1 p.2);have h2:=tS kvs p.1 p.2;show(jn (putK kvs p.1 p.2) r).length<=_;rw[PK];omega
end L2
namespace Aw
open PySem PySem.W PySem.Calls PyProof.Rows
theorem BM:∀(ns:tx) (vs:S1),WellAll P h vs (ns.map WData.int)->IntsAre vs ns:=by
 intro ns
 induction ns with
 | nil=>
  intro vs w;rw[aco]at w;cases w;exact .nil
 | cons n ns ih=>
  intro vs w;rw[MG]at w;cases w with
  | cons a b=>
   cases a;exact .cons _ _ (ih _ b)
theorem FU{l:OpenLaw}{n:Nat}(hn:l.most=some n){P:Params}{h:Heap}{args:List WData}{vals:S1}
  (QK:l.row.toRowW.claim.pre args=true) (VG:WellAll P h vals args):
  ∃a vs ns,vals=[Value.ref a]/\args=[WData.list (ns.map WData.int)]/\h.get? a=some {cls:=.type "list",data:=.seq vs.toArray}/\IntsAre vs ns/\ns.length<=n:=by
 have Yh:WShape.hasAll [] args [.list .int]=true:=(pre_splitW QK).1;have hc:l.pre.holds [] {args:=args}=true:=(pre_splitW QK).2;obtain⟨d,r,rfl,h1,h2⟩:=hasAllW_cons Yh;obtain rfl:=hasAllW_nil h2;obtain⟨xs,rfl,h3⟩:=hasW_list h1;obtain⟨ns,rfl⟩:=items_int h3
 have hlen:ns.length<=n:=by
  unfold OpenLaw.pre at hc
  have h4:(WTm.not (.lt (.lit (.int (n:Int))) (.len (.arg 0)))).holds [] {args:=[.list (ns.map .int)]}=true:=by
   have h4:=(holds_andW hc).1;rw[hn]at h4;exact h4
  have h5:=condW_of h4 (w_not (w_lt w_lit (w_len_list (w_arg rfl))));rw[j1]at h5;refine Nat.le_of_not_lt λq=>?_;have q':(n:Int)<((ns.length:Nat):Int):=by omega
  first
   |(rw[M0 q']at h5;exact absurd h5 (by decide))
   |(simp at h5;omega)
 cases VG with
 | cons w1 w2=>
  cases w2;cases w1 with
  |list ho Pw=>exact⟨_,_,ns,rfl,rfl,ho,BM ns _ Pw,hlen⟩
theorem Ii(l:OpenLaw)(args:List WData):l.row.toRowW.claim.post args (.bool true) args=true:=
 postW_of (r:=l.row.toRowW) (X:=(true==true))
  (show WShape.has [] (.bool true) .bool=true by first|rfl|decide|simp[WShape.has,WShape.arms,WShape.armsAll])
  (show(WTm.eq .res (.lit (.bool true))).value [] {args:=args,res:=some (.bool true),after:=args}=some (.bool (true==true))from w_eq_bool (w_res rfl) w_lit) rfl
theorem Ha{l:OpenLaw}{n:Nat}{q:Program}{loose:List Str}{XP:(Str->S2)->Heap->Prop}{YP:World->Heap->Prop}{d:DefRec}
  (hn:l.most=some n) (S':d.params.defaults=[])
  (call:∀(w:World) (cW MO:Shared) (mg mb:Str->S2) (fa:Addr) (o:Obj) (pm cd doc:Value) (a:Addr) (vs:S1) (ns:tx),
   Ground q loose [] XP w cW mg mb MO.heap->YP w MO.heap->
   MO.heap.get? fa=some o->o.data=.func (docDef d.name d.params d.body d.scope pm cd doc)->MO.heap.CodeRec cd d.name->mg d.name=some (.ref fa)->
   MO.heap.get? a=some {cls:=.type "list",data:=.seq vs.toArray}->IntsAre vs ns->ns.length<=n->MO.gens= #[]->
   codeAny (model l.prog w) callerA (.call (.ref fa) ⟨[.ref a],[]⟩) (λr s'=>r=.ok (.ret (.bool true))/\OldK MO.heap s'.heap/\s'.os=MO.os/\AllBare s'.gens) MO):
  WalkO q loose XP YP l.row.toRowW d [] (λf vs=>PySem.call f vs):=by
 intro w cW MO mg mb G Y fa o pm cd doc dV kV ho hd Nn hD hmg hg args vals as QK YZ ZV VG ZW;obtain rfl:dV=.none:=Dflts.none hD S';obtain rfl:kV=.none:=Dflts.noKw hD;obtain⟨a,vs,ns,rfl,rfl,Rc,hints,hlen⟩:=FU hn QK VG;refine enter_call (aca (call w cW MO mg mb fa o pm cd doc a vs ns G Y ho (fd_plain hd) Nn hmg Rc hints hlen hg) λr s' hq=>?_);obtain⟨rfl,h2,h3,h4⟩:=hq;exact⟨.inl ⟨.bool true,.bool true,[],rfl,λ_=>rfl,.bool true,Ii l _,λ_=>⟨List.Pairwise.nil,λ_ hm=>(nomatch hm)⟩⟩,h2,h3,h4⟩
end Aw
namespace L2
open PySem PySem.Spec PyProof.Rows
theorem xS:∀ {vs:S1} {ns:tx},IntsAre vs ns->Vals (ns.map V.int) vs
 |_,_,.nil=>.nil
 |_,_,.cons n t h=>.cons ⟨t,rfl⟩ (xS h)
def eW(H:Hp):Prop:=∀b,H b=none\/∃o xs,H b=some (.frz o (.lst xs))
theorem Lg{P:Program}{w:World}{K:PySem.W.Frag}{mg mb:Str->S2}{CX:gW}{k:Nat}{fa a:Addr}{fd:FuncData}{x:Str}{sp:Sp}{MO:Shared}{vs:S1}{ns:tx}
  (KX:K.In MO.heap) (Sf:MO.heap.Ns mainGlobals mg) (hb:MO.heap.Ns builtinsNs mb) (Yc:∀x:Str,x≠"__name__"->mb x=bootBuiltins x) (VQ:MO.heap.NoLimit) (hg:MO.gens= #[])
  (ha:MO.heap.get? a=some {cls:=.type "list",data:=.seq vs.toArray}) (hi:IntsAre vs ns) (hl:ns.length<=sizeLine) (hr:bZ k callerA)
  (F:∀base:Heap,K.In base->base.Ns mainGlobals mg->fj P w K mg base CX k fa fd [x] sp) (Tr:∀(s:Shared) (u:Value),BindsTo s fd ⟨[u],[]⟩ [(x,u)])
  (Ow:∀H:Hp,eW H->aU K H a (ns.map V.int)->sp [.ref a] H (λv _=>v=.bl true) λ_ _ _=>False)
  (UZ:∀H e s',CX [] H MO (λ_ _ _=>False) e s'->False):
  codeAny (model P w) callerA (.call (.ref fa) ⟨[.ref a],[]⟩) (λr s'=>r=.ok (.ret (.bool true))/\OldK MO.heap s'.heap/\s'.os=MO.os/\AllBare s'.gens) MO:=by
 have rv:=xS hi;have UX:=hi.length
 have core:∀H:Hp,eW H->aU K H a (ns.map V.int)->bx P w H MO.heap->(∀b,H b≠none->b=a)->(H a≠none->K.lookup a=none)->
   codeAny (model P w) callerA (.call (.ref fa) ⟨[.ref a],[]⟩) (λr s'=>r=.ok (.ret (.bool true))/\OldK MO.heap s'.heap/\s'.os=MO.os/\AllBare s'.gens) MO:=by
  intro H hO hS aC hA hK;have Pm:∀ {b:Addr} {o:Obj},MO.heap.get? b=some o->H b=none->(iM MO.heap H).get? b=some o:=λe n=>CT e n
  have TV:∀ {b:Addr} {o:Obj} {es:Array DictEntry} {ep:Nat},MO.heap.get? b=some o->o.data=.dict es ep->H b=none:=λ{b o es ep} e d=>by
   cases q:H b with
   |none=>rfl
   | some u=>
    have e':b=a:=hA b (by rw[q];simp)
    subst e';rw[ha]at e;cases e;have d':Data.seq vs.toArray _=Data.dict es ep:=d;cases d'
  have Ua:∀ {b:Addr} {m:Str->S2},MO.heap.Ns b m->(iM MO.heap H).Ns b m:=λ{b m} ⟨o,es,ep,e,d,r⟩=>⟨o,es,ep,Pm e (TV e d),d,r⟩
  have Wj:K.In (iM MO.heap H):=λb o e=>Pm (KX b o e) (by
   cases q:H b with
   |none=>rfl
   | some u=>
    have e':b=a:=hA b (by rw[q];simp)
    subst e';rw[hK (by rw[q];simp)]at e;cases e)
  have hM:Mod K mg (iM MO.heap H):=⟨Wj,Ua Sf,⟨mb,Ua hb,Yc⟩,let⟨mc,h1,h2⟩:=VQ;⟨mc,Ua h1,h2⟩⟩
  have e0:pK P w K mg (iM MO.heap H) callerA [] MO H:=⟨rfl,hM,λb o e=>Dl e,aaK (HH _ _),trivial,λb hb=>absurd (show b∈([]:P1)from hb) (by simp),aC,.of_eq hg,λb e=>E6 e⟩
  refine aca ((F _ Wj (Ua Sf)).run callerA [] MO H ⟨[.ref a],[]⟩ [.ref a] [.ref a] _ _ hr e0 (Tr MO (.ref a)) (.cons rfl .nil) (Ow H hO hS)) λr s' h=>?_;cases r with
  |error e=>exact(UZ H e s' h).elim
  | ok fl=>
   cases fl with
   |next=>exact False.elim h
   |brk=>exact False.elim h
   |cont=>exact False.elim h
   | ret u=>
    obtain⟨v,H',os,bare,un,VI,r',q⟩:=h;have q':v=.bl true:=q;subst q';obtain rfl:u=Value.bool true:=r';refine⟨rfl,OldK.of_keep λb o e=>?_,os,bare⟩;cases q:H b with
    |none=>exact un.keep b o e q (by intro z;exact absurd (show b∈([]:P1)from z) (by simp)) (by simp)
    | some u=>
     rcases hO b with z|⟨ob,xs,z⟩
     ·rw[q]at z;cases z
     ·have z2:=un.fO b ob _ z
      obtain⟨e1,_⟩:=aC b _ z;obtain⟨e2,_⟩:=VI b _ z2;rw[e]at e1;cases e1;exact e2
 cases hk:K.lookup a with
 | some o=>
  have e:=KX a o hk;rw[ha]at e;cases e;refine core (λ_=>none) (λ_=>.inl rfl) (.inr ⟨_,vs.toArray,_,hk,rfl,rfl,rfl,by rw[Da,UX];exact hl,by simpa using rv⟩) (λb u z=>by have z':(none:Option HO)=some u:=z;cases z') (λb z=>absurd rfl z) λz=>absurd rfl z
 | none=>
  refine core (λb=>if b=a then some (.frz {cls:=.type "list",data:=.seq vs.toArray} (.lst (ns.map V.int)))else none) (λb=>?_) (.inl (.inr ⟨{cls:=.type "list",data:=.seq vs.toArray},DM rfl⟩)) (λb u z=>?_) (λb z=>?_) λ_=>hk
  ·by_cases hb:b=a
   ·exact .inr ⟨_,_,DM hb⟩
   ·exact .inl (Gc hb)
  ·by_cases hb:b=a
   ·have z':=(DM hb).symm.trans z
    cases z';subst hb;exact⟨ha,by rw[j1];exact hl,vs,_,rv,ha⟩
   ·have z':=(Gc hb).symm.trans z
    cases z'
  ·by_cases hb:b=a
   ·exact hb
   ·exact absurd (Gc hb) z
noncomputable abbrev Mb{K:PySem.W.Frag}{h:Heap}(_:K.In h):PySem.W.Frag:=K
theorem DP{l:PySem.W.OpenLaw}{n k:Nat}{q:Program}{loose:List Str}{XP:(Str->S2)->Heap->Prop}{YP:World->Heap->Prop}{d:DefRec}{K:Params->PySem.W.Frag}{CX:World->gW}{sp:World->Sp}{x:Str}
  (hn:l.most=some n) (Q1:n<=sizeLine) (S':d.params.defaults=[]) (hr:bZ k callerA)
  (hY:∀(w:World) (h:Heap),YP w h->(K w.params).In h)
  (F:∀(w:World) (mg:Str->S2) (fa:Addr) (h:Heap),(K w.params).In h->h.Ns mainGlobals mg->mg d.name=some (.ref fa)->
   ∃fd:FuncData,(∀(s:Shared) (u:Value),BindsTo s fd ⟨[u],[]⟩ [(x,u)])/\
    ∀base:Heap,(K w.params).In base->base.Ns mainGlobals mg->fj l.prog w (K w.params) mg base (CX w) k fa fd [x] (sp w))
  (Ow:∀(w:World) (H:Hp) (a:Addr) (ns:tx),ns.length<=n->eW H->aU (K w.params) H a (ns.map V.int)->sp w [.ref a] H (λv _=>v=.bl true) λ_ _ _=>False)
  (UZ:∀(w:World) (H:Hp) (s:Shared) (e:Value) (s':Shared),CX w [] H s (λ_ _ _=>False) e s'->False):
  PySem.W.WalkO q loose XP YP l.row.toRowW d [] (λf vs=>PySem.call f vs):=by
 refine Aw.Ha hn S' λw cW MO mg mb fa o pm cd doc a vs ns G Y ho hd Nn hmg Rc hints hlen hg=>?_;have KX:=hY w _ Y;obtain⟨fd,hb,hF⟩:=F w mg fa _ KX G.T.g hmg;exact Lg KX G.T.g G.T.b G.T.builtins G.T.nolimit hg Rc hints (S3 hlen Q1) hr hF hb (λH hO hS=>Ow w H a ns hlen hO hS) λH e s'=>UZ w H MO e s'
noncomputable def kM(s:Stmt):Arguments:=match s with
 |.FunctionDef _ a _ _ _ _ _ _ _ _=>a
 |_=>{posonlyargs:=[],args:=[],vararg:=none,kwonlyargs:=[],kw_defaults:=[],kwarg:=none,defaults:=[]}
noncomputable def fN(s:Stmt):List Stmt:=match s with
 |.FunctionDef _ _ b _ _ _ _ _ _ _=>b
 |_=>[]
noncomputable def aI(s:Stmt):Scope:=match s with
 |.FunctionDef _ _ _ _ _ _ sc _ _ _=>sc
 |_=>{kind:=.function,names:=[],isGenerator:=false,isCoroutine:=false}
noncomputable abbrev dY:gW:=λ_ _ _ _ _ _=>False
noncomputable abbrev E0:XK:=λ_ _ _=>False
theorem pY:Passes dY X E0:=λ_ _ _ _ _ _ _ h=>h.elim
structure d8(K:PySem.W.Frag)(x qual:Str)(st:Stmt)(f:Addr)(fd:FuncData):Prop where
 ex:∃(oc:Value) (od:Option Addr) (kV doc pm:Value) (an:Option Addr) (MD ct:Value) (PJ:Array (S2)),
  fd=PySem.W.fnOf x qual (kM st) (fN st) (aI st) .none kV doc pm an MD ct/\K.lookup f=some ⟨oc,od,.func fd,PJ⟩/\PySem.W.codeIn K MD qual=true
 kp:PySem.W.keepIn K (.ref f)=true
section
variable{P:Program}{w:World}{K:PySem.W.Frag}{mg:Str->S2}{base:Heap}
theorem d8.ok{x qual:Str}{st:Stmt}{f:Addr}{fd:FuncData}{N ps:List Str}{k:Nat}{sp:Sp}(F:d8 K x qual st f fd)(S:aY N ps (aI st))(len:∀vs H Q E,sp vs H Q E->vs.length=ps.length)
  (PY:∀(MD:Value) (A:Around) (outer:List Env) (s:Shared) (H:Hp) (vs:List V) (Q:VK) (E:XK),bZ k (A.deeper (envOfC qual (aI st) s.heap.objs.size f MD))->sp vs H Q E->
   ∃t,bC (bQ dY P w K mg base N qual (aI st) f MD A outer s H E).dB (fN st) t/\t {nx:=λ_ H'=>Q .aP H',rt:=Q} (start N vs) H):fj P w K mg base dY (k+1) f fd ps sp:=by
 obtain⟨oc,od,kV,doc,pm,an,MD,ct,PJ,rfl,lk,Nn⟩:=F.ex;refine xc lk Nn S len λA outer s H vs Q E hr Ow=>?_;obtain⟨t,h,q⟩:=PY MD A outer s H vs Q E hr Ow;exact⟨t,h.dB,q⟩
theorem d8.binds{x qual:Str}{st:Stmt}{f:Addr}{fd:FuncData}{ps:List Str}(F:d8 K x qual st f fd)
  (h:∀(kV doc pm:Value) (an:Option Addr) (MD ct:Value) (us:S1),us.length=ps.length->bindArgs (PySem.W.fnOf x qual (kM st) (fN st) (aI st) .none kV doc pm an MD ct) ⟨us,[]⟩=pure (ps.zip us)):Binds K fd ps []:=by
 obtain⟨oc,od,kV,doc,pm,an,MD,ct,PJ,rfl,lk,Nn⟩:=F.ex;exact .all (h kV doc pm an MD ct)
theorem Jb{x qual:Str}{st:Stmt}{f:Addr}{oc:Value}{od an:Option Addr}{PJ:Array (S2)}{kV doc pm MD ct:Value}(l:K.lookup f=some ⟨oc,od,.func (PySem.W.fnOf x qual (kM st) (fN st) (aI st) .none kV doc pm an MD ct),PJ⟩)
  (c:PySem.W.codeIn K MD qual=true) (k:PySem.W.keepIn K (.ref f)=true):d8 K x qual st f (PySem.W.fnOf x qual (kM st) (fN st) (aI st) .none kV doc pm an MD ct):=⟨⟨oc,od,kV,doc,pm,an,MD,ct,PJ,rfl,l,c⟩,k⟩
variable{X:Cx}
theorem pv(i:Nat)(hN:X.N[i]? =some x:=by rfl)(hv:d9 X.env.scope x:=by first|exact Or.inl rfl|exact Or.inr (Or.inl rfl)|exact Or.inr (Or.inr rfl))(hd:gV x:=by decide)
  (Nn:js x:=by decide):PE X (.Name x pos) (yy i):=Kb hN hv hd Nn
end
def aj(H H':Hp):Prop:=∀b o,H b=some o->H' b=some o
theorem aj.refl(H:Hp):aj H H:=λ_ _ h=>h
theorem aj.trans{H H1 H2:Hp}(a:aj H H1)(b:aj H1 H2):aj H H2:=λc o h=>b c o (a c o h)
theorem aj.free{H H':Hp}(e:aj H H'){l:Addr}(h:H' l=Option.none):H l=Option.none:=by
 cases q:H l with
 |none=>rfl
 | some o=>
  rw[e l o q]at h;cases h
end L2
namespace PL
open PySem
noncomputable abbrev Ky:=Sum Int Str
inductive D where
 |aP|bl (b:Bool)|int (i:Int)|str (x:Str)
 |tup (xs:List D)|lst (xs:List D)|aL (ks:List Ky) (vs:List D)|bN (c:Str) (ns:List Str) (vs:List D)
 deriving Inhabited
inductive R(α:Type) where
 |ok (a:α)|exc (x:D)|bad
namespace R
noncomputable def bind{α β:Type}:R α->(α->R β)->R β
 |.ok a,f=>f a
 |.exc x,_=>.exc x
 |.bad,_=>.bad
@[simp] theorem aH{α β:Type}(a:α)(f:α->R β):(R.ok a).bind f=f a:=rfl
@[simp] theorem Mm{α β:Type}(x:D)(f:α->R β):(R.exc x).bind f=.exc x:=rfl
@[simp] theorem Ml{α β:Type}(f:α->R β):(R.bad:R α).bind f=.bad:=rfl
end R
inductive Kd where
 |l|m (ks:List Ky)|u|x (ks:List (List Ky))
 deriving Inhabited
inductive T where
 |d (x:D)|n (k:Kd) (ts:List T)
 deriving Inhabited
noncomputable abbrev T.l(ts:List T):T:=.n .l ts
noncomputable abbrev T.m(ks:List Ky)(ts:List T):T:=.n (.m ks) ts
noncomputable abbrev T.tu(ts:List T):T:=.n .u ts
noncomputable abbrev T.mx(ks:List (List Ky))(ts:List T):T:=.n (.x ks) ts
noncomputable def Kd.own:Kd->Bool
 |.u=>false
 |_=>true
noncomputable def T.own:T->Bool
 |.d _=>false
 |.n k _=>k.own
inductive Sp where
 |tr (t:T)|al (i:Nat) (p:List Nat)
 deriving Inhabited
inductive Slot where
 |un|sh (d:D)|ol (xs:List D)|od (ks:List Ky) (vs:List D)|on (x:Sp)
 deriving Inhabited
noncomputable abbrev En:=List Slot
noncomputable abbrev Ex:=En->R D
noncomputable abbrev bg:=En->R Bool
noncomputable abbrev dI:Nat:=16777216
mutual
@[simp] noncomputable def bV:D->D->Bool
 |.aP,.aP=>true
 |.bl a,.bl b=>a==b
 |.bl a,.int b=>(if a then 1 else 0)==b
 |.int a,.bl b=>a==(if b then 1 else 0)
 |.int a,.int b=>a==b
 |.str a,.str b=>decide (a=b)
 |.tup a,.tup b=>ki a b
 |.lst a,.lst b=>ki a b
 |_,_=>false
@[simp] noncomputable def ki:List D->List D->Bool
 |[],[]=>true
 |a::as,b::bs=>bV a b&&ki as bs
 |_,_=>false
end
@[simp] noncomputable def flat:D->Bool
 |.aP=>true
 |.bl _=>true
 |.int _=>true
 |.str _=>true
 |_=>false
mutual
noncomputable def lay:D->Bool
 |.aP=>true
 |.bl _=>true
 |.int _=>true
 |.str x=>x.cps.all (· <0x110000)
 |.tup xs=>eB xs
 |.lst xs=>eB xs
 |_=>false
noncomputable def eB:List D->Bool
 |[]=>true
 |x::xs=>lay x&&eB xs
end
mutual
noncomputable def dep:D->Nat
 |.tup xs=>jh xs+1
 |.lst xs=>jh xs+1
 |_=>0
noncomputable def jh:List D->Nat
 |[]=>0
 |x::xs=>max (dep x) (jh xs)
end
@[simp] noncomputable def zm:D->D->Bool
 |.aL _ _,.str _=>true
 |_,_=>false
@[simp] noncomputable def vt:D->D->Bool
 |.tup _,.tup []=>true
 |_,_=>false
noncomputable def gj(a b:D):Bool:=(flat a&&flat b)||vt a b||(lay a&&lay b&&decide (min (dep a) (dep b)<=60))
noncomputable def eF(a b:D):Bool:=gj a b||zm a b
theorem qG(ha:flat a=true)(hb:flat b=true):gj a b=true:=by unfold gj;rw[ha,hb];rfl
theorem kR(ha:flat a=true)(hb:flat b=true):eF a b=true:=by unfold eF;rw[qG ha hb];rfl
@[simp] theorem Mg(a b:Bool):gj (.bl a) (.bl b)=true:=qG rfl rfl
@[simp] theorem Mp(a b:Int):gj (.int a) (.int b)=true:=qG rfl rfl
@[simp] theorem Mu(a b:Str):gj (.str a) (.str b)=true:=qG rfl rfl
@[simp] theorem My(a:List Ky)(c:List D)(b:Str):eF (.aL a c) (.str b)=true:=by unfold eF;simp
@[simp] theorem Mf:eF .aP .aP=true:=kR rfl rfl
@[simp] theorem Mc(a b:Bool):eF (.bl a) (.bl b)=true:=kR rfl rfl
@[simp] theorem LF(a b:Int):eF (.int a) (.int b)=true:=kR rfl rfl
@[simp] theorem Mj(a b:Str):eF (.str a) (.str b)=true:=kR rfl rfl
@[simp] theorem Mo(b:Str):eF .aP (.str b)=true:=kR rfl rfl
@[simp] theorem Me(a:Int)(b:Str):eF (.int a) (.str b)=true:=kR rfl rfl
@[simp] theorem MB(a:Bool)(b:Str):eF (.bl a) (.str b)=true:=kR rfl rfl
@[simp] theorem Mh(a:List D):eF (.tup a) (.tup [])=true:=by unfold eF gj;simp
@[simp] noncomputable def truth:D->R Bool
 |.aP=>.ok false
 |.bl b=>.ok b
 |.int i=>.ok (i != 0)
 |.str x=>if x.length<=dI then .ok (x.length != 0)else .bad
 |.tup xs=>.ok (!xs.isEmpty)
 |.lst xs=>.ok (!xs.isEmpty)
 |.aL _ _=>.bad
 |.bN _ _ _=>.bad
noncomputable def cy(n:Nat)(i:Int):Option Nat:=if 0<=i then(if i<n then some i.toNat else none)else if -(n:Int)<=i then some (i+n).toNat else none
noncomputable def b0{α:Type}(xs:List α)(i:Int):Option α:=(cy xs.length i).bind λj=>xs[j]?
noncomputable def aW(n d:Nat):Option Int->Nat
 |none=>d
 |some v=>if v<0 then(v+(n:Int)).toNat else min v.toNat n
noncomputable def cut{α:Type}(xs:List α)(lo hi:Option Int):List α:=(xs.drop (aW xs.length 0 lo)).take (aW xs.length xs.length hi - aW xs.length 0 lo)
noncomputable def inR(j:Int):Bool:=decide (-4611686018427387904<=j)&&decide (j<4611686018427387904)
noncomputable def small(i:Int):Bool:=decide (-18446744073709551616<i)&&decide (i<18446744073709551616)
@[simp] noncomputable def aQ:D->D->R D
 |.int i,.int j=>.ok (.int (i+j))
 |.str x,.str y=>if x.length+y.length<=dI then .ok (.str (x++y))else .bad
 |.lst x,.lst y=>if x.length+y.length<=dI then .ok (.lst (x++y))else .bad
 |.tup x,.tup y=>if x.isEmpty=false/\x.length+y.length<=dI then .ok (.tup (x++y))else .bad
 |_,_=>.bad
@[simp] noncomputable def cX:D->D->R D
 |.int i,.int j=>.ok (.int (i - j))
 |_,_=>.bad
@[simp] noncomputable def uT:D->D->R D
 |.lst x,.int j=>if 0<=j/\j<1000/\x.length<=1000 then .ok (.lst (List.replicate j.toNat x).flatten)else .bad
 |_,_=>.bad
@[simp] noncomputable def oMod:D->D->R D
 |.int i,.int j=>if 0<j then .ok (.int (i % j))else .bad
 |_,_=>.bad
@[simp] noncomputable def um:D->R D
 |.int i=>.ok (.int (-i))
 |_=>.bad
@[simp] noncomputable def oEq(x y:D):R D:=if eF x y=true then .ok (.bl (bV x y))else .bad
@[simp] noncomputable def iG(x y:D):R D:=if gj x y=true then .ok (.bl (!bV x y))else .bad
@[simp] noncomputable def oLt:D->D->R D
 |.int i,.int j=>.ok (.bl (decide (i<j)))
 |_,_=>.bad
@[simp] noncomputable def oLe:D->D->R D
 |.int i,.int j=>.ok (.bl (decide (i<=j)))
 |_,_=>.bad
@[simp] noncomputable def ia:D->D->R D
 |.int i,.int j=>.ok (.bl (decide (j<i)))
 |_,_=>.bad
@[simp] noncomputable def kH:D->D->R D
 |.int i,.int j=>.ok (.bl (decide (j<=i)))
 |_,_=>.bad
@[simp] noncomputable def MA(b:Bool):D->Bool
 |.bl c=>b==c
 |_=>false
noncomputable def keyOf:D->Option Ky
 |.int i=>some (.inl i)
 |.str x=>some (.inr x)
 |_=>none
noncomputable def cJ(k:Ky):List Ky->List D->Option D
 |a::ks,v::vs=>if a=k then some v else cJ k ks vs
 |_,_=>none
@[simp] noncomputable def g8:D->D->R D
 |.str _,.str _=>.bad
 |x,.lst ys=>if flat x=true/\ys.all flat=true then .ok (.bl (ys.any λy=>bV y x))else .bad
 |x,.tup ys=>if flat x=true/\ys.all flat=true then .ok (.bl (ys.any λy=>bV y x))else .bad
 | x,.aL ks vs=>match keyOf x with
  |some k=>.ok (.bl (cJ k ks vs).isSome)
  |none=>.bad
 |_,_=>.bad
@[simp] noncomputable def iK:D->R D
 |.bl b=>.ok (.bl (!b))
 |_=>.bad
@[simp] noncomputable def d4(x y:D):R D:=(g8 x y).bind iK
@[simp] noncomputable def jJ:D->D->R D
 | .lst xs,.int i=>match b0 xs i with
  |some v=>.ok v
  |none=>.bad
 | .tup xs,.int i=>match b0 xs i with
  |some v=>.ok v
  |none=>.bad
 | .str x,.int i=>if x.length<=dI then match b0 x.cps.toList i with
  |some c=>.ok (.str ⟨#[c]⟩)
  |none=>.bad else .bad
 |_,_=>.bad
@[simp] noncomputable def tM:D->D->R D
 | .aL ks vs,k=>match keyOf k with
  | some q=>match cJ q ks vs with
   |some v=>.ok v
   |none=>.bad
  |none=>.bad
 |_,_=>.bad
@[simp] noncomputable def aO:D->D->R D
 |.lst xs,k=>jJ (.lst xs) k
 |.tup xs,k=>jJ (.tup xs) k
 |.str x,k=>jJ (.str x) k
 |.aL ks vs,k=>tM (.aL ks vs) k
 |_,_=>.bad
@[simp] noncomputable def j0(lo hi:Option Int):D->R D
 |.lst xs=>.ok (.lst (cut xs lo hi))
 |.tup xs=>if aW xs.length 0 lo=0/\aW xs.length xs.length hi=xs.length then .bad else .ok (.tup (cut xs lo hi))
 |_=>.bad
@[simp] noncomputable def cC:D->R D
 |.lst xs=>.ok (.int xs.length)
 |.tup xs=>.ok (.int xs.length)
 |.str x=>if x.length<=dI then .ok (.int x.length)else .bad
 |_=>.bad
inductive Ty where
 |int|bool|str|tuple|list|dict
@[simp] noncomputable def lx:Ty->D->R D
 |.int,.int _=>.ok (.bl true)
 |.int,.bl _=>.ok (.bl true)
 |.bool,.bl _=>.ok (.bl true)
 |.str,.str _=>.ok (.bl true)
 |.tuple,.tup _=>.ok (.bl true)
 |.list,.lst _=>.ok (.bl true)
 |.dict,.aL _ _=>.ok (.bl true)
 |_,.bN _ _ _=>.bad
 |_,_=>.ok (.bl false)
@[simp] noncomputable def iQ:D->R D
 |.lst xs=>.ok (.lst xs)
 |.tup xs=>.ok (.lst xs)
 |_=>.bad
@[simp] noncomputable def qw:D->R D
 |.lst xs=>.ok (.tup xs)
 |.tup xs=>.ok (.tup xs)
 |_=>.bad
noncomputable def allB:List D->R D
 |[]=>.ok (.bl true)
 | .bl b::r=>(allB r).bind λz=>match z with
  |.bl k=>.ok (.bl (b&&k))
  |_=>.bad
 |_=>.bad
@[simp] noncomputable def Mn:D->R D
 |.lst xs=>allB xs
 |_=>.bad
@[simp] noncomputable def kF:D->R D
 |.int i=>.ok (.int i)
 |.bl b=>.ok (.int (if b then 1 else 0))
 |_=>.bad
@[simp] noncomputable def pU:D->D->R D
 |.int i,.int j=>.ok (.int (if j<i then j else i))
 |_,_=>.bad
@[simp] noncomputable def aa(i:Nat):Ex:=λρ=>match ρ[i]? with
 |some (.sh d)=>.ok d
 |_=>.bad
@[simp] noncomputable def eC(d:D):Ex:=λ_=>.ok d
@[simp] noncomputable def e1(g:D->R D)(a:Ex):Ex:=λρ=>(a ρ).bind g
@[simp] noncomputable def e2(g:D->D->R D)(a b:Ex):Ex:=λρ=>(a ρ).bind λx=>(b ρ).bind λy=>g x y
@[simp] noncomputable def gn(a b:Ex):Ex:=λρ=>(a ρ).bind λx=>match x with
 |.bl true=>b ρ
 |.bl false=>.ok (.bl false)
 |_=>.bad
@[simp] noncomputable def p9(c:bg)(a b:Ex):Ex:=λρ=>(c ρ).bind λt=>if t=true then a ρ else b ρ
@[simp] noncomputable def eList:List Ex->En->R (List D)
 |[],_=>.ok []
 |e::es,ρ=>(e ρ).bind λx=>(eList es ρ).bind λxs=>.ok (x::xs)
@[simp] noncomputable def jo(es:List Ex):Ex:=λρ=>(eList es ρ).bind λxs=>.ok (.tup xs)
@[simp] noncomputable def bA(es:List Ex):Ex:=λρ=>(eList es ρ).bind λxs=>.ok (.lst xs)
@[simp] noncomputable def aw(f:List D->R D)(es:List Ex):Ex:=λρ=>(eList es ρ).bind f
@[simp] noncomputable def nq(g h:D->D->R D)(a b c:Ex):Ex:=λρ=>(a ρ).bind λx=>(b ρ).bind λy=>(g x y).bind λz=>match z with
 |.bl true=>(c ρ).bind λw=>h y w
 |.bl false=>.ok (.bl false)
 |_=>.bad
@[simp] noncomputable def nt(ks:List Ky)(es:List Ex):Ex:=λρ=>(eList es ρ).bind λxs=>.ok (.aL ks xs)
@[simp] noncomputable def gR:Option Ex->En->R (Option Int)
 |none,_=>.ok none
 | some e,ρ=>(e ρ).bind λx=>match x with
  |.int i=>.ok (some i)
  |_=>.bad
@[simp] noncomputable def cA(a:Ex)(lo hi:Option Ex):Ex:=λρ=>(a ρ).bind λx=>(gR lo ρ).bind λl=>(gR hi ρ).bind λu=>j0 l u x
@[simp] noncomputable def tV(a:Ex):bg:=λρ=>(a ρ).bind truth
@[simp] noncomputable def eO(a b:bg):bg:=λρ=>(a ρ).bind λt=>if t=true then b ρ else .ok false
@[simp] noncomputable def ck(a b:bg):bg:=λρ=>(a ρ).bind λt=>if t=true then .ok true else b ρ
@[simp] noncomputable def bD(a:bg):bg:=λρ=>(a ρ).bind λt=>.ok (!t)
@[simp] noncomputable def Mi(i:Nat):Ex:=λρ=>match ρ[i]? with
 |some (.ol xs)=>.ok (.int xs.length)
 |some (.od ks _)=>.ok (.int ks.length)
 |_=>.bad
@[simp] noncomputable def d5(i:Nat):Ex:=λρ=>match ρ[i]? with
 |some (.ol xs)=>.ok (.int xs.length)
 |_=>.bad
@[simp] noncomputable def lP(i:Nat)(e:Ex):Ex:=λρ=>(e ρ).bind λx=>match ρ[i]? with
 |some (.ol xs)=>jJ (.lst xs) x
 |_=>.bad
noncomputable abbrev dW:=En->R (List D)
@[simp] noncomputable def items:D->R (List D)
 |.lst xs=>.ok xs
 |.tup xs=>.ok xs
 |.str x=>.ok (x.cps.toList.map λc=>.str ⟨#[c]⟩)
 |_=>.bad
@[simp] noncomputable def fm(a:Ex):dW:=λρ=>(a ρ).bind items
noncomputable def cI(i j:Int):List D:=(List.range (j - i).toNat).map λ(k:Nat)=>.int (i+(k:Int))
@[simp] noncomputable def fI(a:Ex):dW:=λρ=>(a ρ).bind λx=>match x with
 |.int j=>if inR j=true then .ok (cI 0 j)else .bad
 |_=>.bad
@[simp] noncomputable def oQ(a b:Ex):dW:=λρ=>(a ρ).bind λx=>(b ρ).bind λy=>match x,y with
 |.int i,.int j=>if(inR i&&inR j)=true then .ok (cI i j)else .bad
 |_,_=>.bad
@[simp] noncomputable def je:List D->List D->List D
 |x::xs,y::ys=>.tup [x,y]::je xs ys
 |_,_=>[]
noncomputable abbrev dZ:=D->En->R En
@[simp] noncomputable def aA(i:Nat):dZ:=λd ρ=>.ok (ρ.set i (.sh d))
@[simp] noncomputable def fk:List Nat->List D->En->R En
 |[],[],ρ=>.ok ρ
 |i::is,d::ds,ρ=>fk is ds (ρ.set i (.sh d))
 |_,_,_=>.bad
@[simp] noncomputable def hW(is:List Nat):dZ:=λd ρ=>match d with
 |.tup ds=>fk is ds ρ
 |_=>.bad
@[simp] noncomputable def sg:Option Slot->Slot
 |some (.sh d)=>.sh d
 |_=>.un
@[simp] noncomputable def frees(ρ:En)(fv:List Nat):En:=fv.map λi=>sg ρ[i]?
noncomputable def gh(tg:dZ)(cs:List bg)(el:Ex)(ρ:En):List D->R (List D)
 |[]=>.ok []
 | d::ds=>(tg d ρ).bind λNm=>(lV cs Nm).bind λt=>
  if t=true then(el Nm).bind λy=>(gh tg cs el ρ ds).bind λys=>.ok (y::ys)else gh tg cs el ρ ds
where lV:List bg->En->R Bool
 |[],_=>.ok true
 |c::cs,ρ=>(c ρ).bind λt=>if t=true then lV cs ρ else .ok false
@[simp] noncomputable def da(it:dW)(n:Nat)(fv:List Nat)(tg:dZ)(cs:List bg)(el:Ex):Ex:=λρ=>(it ρ).bind λds=>
 if ds.length<=dI then(gh tg cs el (List.replicate n .un++frees ρ fv) ds).bind λys=>.ok (.lst ys)else .bad
inductive Fl where
 |next (ρ:En)|ret (d:D)|brk (ρ:En)|cont (ρ:En)|dM (d:D)|ee (t:T)|gD (i:Nat) (ρ:En)|dS (d:D) (ρ:En)
noncomputable abbrev Sm:=En->R Fl
@[simp] noncomputable def bu:Sm:=λρ=>.ok (.next ρ)
@[simp] noncomputable def zS(a b:Sm):Sm:=λρ=>(a ρ).bind λf=>match f with
 |.next ρ'=>b ρ'
 |f=>.ok f
@[simp] noncomputable def aN:List Sm->Sm
 |[]=>bu
 |a::r=>zS a (aN r)
@[simp] noncomputable def bH(c:bg)(a b:Sm):Sm:=λρ=>(c ρ).bind λt=>if t=true then a ρ else b ρ
@[simp] noncomputable def aS(g:dZ)(e:Ex):Sm:=λρ=>(e ρ).bind λd=>(g d ρ).bind λρ'=>.ok (.next ρ')
@[simp] noncomputable def a8(e:Ex):Sm:=λρ=>(e ρ).bind λd=>.ok (.ret d)
@[simp] noncomputable def jx(e:Ex):Sm:=λρ=>(e ρ).bind λ_=>.ok (.next ρ)
@[simp] noncomputable def kU:Sm:=λ_=>.bad
@[simp] noncomputable def fT(i:Nat)(e:Ex):Sm:=λρ=>(e ρ).bind λd=>match d with
 |.lst xs=>.ok (.next (ρ.set i (.ol xs)))
 |_=>.bad
@[simp] noncomputable def AG(i:Nat)(e:Ex):Sm:=λρ=>(e ρ).bind λd=>match d with
 |.aL ks vs=>.ok (.next (ρ.set i (.od ks vs)))
 |_=>.bad
@[simp] noncomputable def jR(i:Nat):Sm:=λρ=>match ρ[i]? with
 |some (.ol xs)=>.ok (.next (ρ.set i (.sh (.lst xs))))
 |some (.od ks vs)=>.ok (.next (ρ.set i (.sh (.aL ks vs))))
 |_=>.bad
@[simp] noncomputable def mr(i:Nat)(e:Ex):Sm:=λρ=>(e ρ).bind λd=>match ρ[i]? with
 |some (.ol xs)=>if xs.length<dI then .ok (.next (ρ.set i (.ol (xs++[d]))))else .bad
 |_=>.bad
@[simp] noncomputable def iY(i:Nat)(k e:Ex):Sm:=λρ=>(e ρ).bind λd=>(k ρ).bind λq=>match ρ[i]?,q with
 | some (.ol xs),.int j=>match cy xs.length j with
  |some m=>.ok (.next (ρ.set i (.ol (xs.set m d))))
  |none=>.bad
 |_,_=>.bad
noncomputable def putK(k:Ky)(d:D):List Ky->List D->List Ky×List D
 |a::ks,v::vs=>if a=k then(a::ks,d::vs)else((a::(putK k d ks vs).1),(v::(putK k d ks vs).2))
 |_,_=>([k],[d])
noncomputable def forL(tg:dZ)(body:Sm):List D->En->R Fl
 |[],ρ=>.ok (.next ρ)
 | d::ds,ρ=>(tg d ρ).bind λNm=>(body Nm).bind λf=>match f with
  |.next Om=>forL tg body ds Om
  |.cont Om=>forL tg body ds Om
  |.brk Om=>.ok (.next Om)
  |.ret d=>.ok (.ret d)
  |.dM d=>.ok (.dM d)
  |.ee t=>.ok (.ee t)
  |.gD i ρ=>.ok (.gD i ρ)
  |.dS d ρ=>.ok (.dS d ρ)
@[simp] noncomputable def dh(it:dW)(tg:dZ)(body:Sm):Sm:=λρ=>(it ρ).bind λds=>forL tg body ds ρ
@[simp] noncomputable def fn(n:Nat)(body:Sm):List D->R D:=λds=>(body (ds.map .sh++List.replicate (n - ds.length) .un)).bind λf=>match f with
 |.ret d=>.ok d
 |.next _=>.ok .aP
 |_=>.bad
@[simp] noncomputable def ud(i:Nat):Sm:=λρ=>match ρ[i]? with
 |some (.ol xs)=>.ok (.dM (.lst xs))
 |_=>.bad
@[simp] noncomputable def g7(n:Nat)(body:Sm):List D->R D:=λds=>(body (ds.map .sh++List.replicate (n - ds.length) .un)).bind λf=>match f with
 |.dM (.lst xs)=>.ok (.lst xs)
 |_=>.bad
end PL
namespace PL
open PySem PySem.Spec
open L2 (V Hp HO Cx PE PT PW PA PS bC St VK TE TT TA TS TI Inv RelV Vals Rd aU bj upd aj Key XK Ends)
structure Md where
 K:PySem.W.Frag
 P:Program
 w:World
noncomputable abbrev aB(X:Cx):Md:=⟨X.K,X.prog,X.w⟩
def gk(M:Md)(H:Hp)(F:YK)(a:Addr)(xs:List V):Prop:=
 (¬F a/\Rd H a (.lst xs))\/∃(o:Obj) (its:Array Value) (n:Nat),M.K.lookup a=some o/\o.cls=.type "list"/\o.dict=none/\o.data=.seq its n/\its.size<=sizeLine/\Vals xs its.toList
def fK(M:Md)(H:Hp)(F:YK)(a:Addr)(xs:List V):Prop:=
 (¬F a/\Rd H a (.tup xs))\/∃(o:Obj) (its:Array Value) (n:Nat),M.K.lookup a=some o/\o.cls=.type "tuple"/\o.data=.seq its n/\its.size<=sizeLine/\Vals xs its.toList
def gp(M:Md)(H:Hp)(F:YK)(a:Addr)(kvs:List (Key×V)):Prop:=
 (¬F a/\∃ob,H a=some (.frz ob (.dK kvs)))\/∃(o:Obj) (es:Array DictEntry) (ep:Nat) (vs:List (Key×Value)),M.K.lookup a=some o/\o.ExactDict/\o.data=.dict es ep/\KeysOf (L2.cV M.P M.w) es/\Pairs (L2.cV M.P M.w) es.toList vs/\
  (vs.map (·.1)).Nodup/\L2.KV kvs vs/\kvs.length<=sizeLine/\(a==sysModules)=false
theorem gk.sq(h:gk M H F a xs):aU M.K H a xs:=h.elim (λh=>.inl h.2) .inr
theorem fK.sq(h:fK M H F a xs):bj M.K H a xs:=h.elim (λh=>.inl h.2) .inr
noncomputable def jA(a C:Addr):HO:=.ext λh=>∃o,h.get? a=some o/\o.cls=.ref C/\∃vs,o.data=.fields vs
def Dv(c:Str)(ds:List D)(u:HO):Prop:=c=⟨#[91]⟩->∃xs:List V,u=.lst xs/\xs.length=ds.length
noncomputable def nk(ns:List Str):Bool:=ns.length==3||ns.length==4
def KW(M:Md)(c:Str)(ns:List Str)(ds:List D)(a:Addr):Prop:=match ns with
 |[_,_,_,_]=>ds=[.int a]
 |_=>PySem.W.nsIn M.K mainGlobals c=some (some (.ref a))
structure lz where
 params:Arguments
 body:Expr
 scope:Scope
 pos:Pos
noncomputable def vg:P2->Option lz
 |[]=>none
 |[.Lambda a b s p]=>some ⟨a,b,s,p⟩
 |_::r=>vg r
noncomputable def CN:Stmt->Option lz
 |.Assign _ (.Call _ es _ _) _=>vg es
 |.Return (some (.Call _ _ [⟨_,e,_⟩] _)) _=>vg [e]
 |_=>none
noncomputable def G4:FuncBody->Option lz
 |.stmts b=>b.findSome? CN
 |_=>none
noncomputable def vX(sc:Scope):List Str:=(sc.names.filter λy=>y.2==.free).map (·.1)
inductive lC(M:Md)(H:Hp)(F:YK)(a:Addr)(c:Str)(xs:List V):Prop
 | mk (fa:Addr) (ob:Obj) (fd:FuncData) (l:lz) (qual:Str) (OT:List (Str×Addr)) (pm Uw:Value) (cc:Addr)
  (e1:PySem.W.nsIn M.K mainGlobals c=some (some (.ref fa))) (e2:M.K.lookup fa=some ob) (e3:ob.data=.func fd) (e4:G4 fd.body=some l)
  (ha:H a=some (.cS (some (PySem.W.kla_obj "<lambda>" qual l.params l.body l.scope OT pm cc Uw))))
  (len:xs.length=(vX l.scope).length) (has:∀x∈vX l.scope,∃c',OT.lookup x=some c') (inj:∀x y c',OT.lookup x=some c'->OT.lookup y=some c'->x=y)
  (cells:∀x c',OT.lookup x=some c'->∃(i:Nat) (o:Obj) (u:Value) (v:V),(vX l.scope)[i]? =some x/\¬F c'/\H c'=some (.cS (some o))/\o.data=.cell (some u)/\xs[i]? =some v/\RelV v u)
mutual
noncomputable def Rep(M:Md)(H:Hp)(F:YK):D->V->Prop
 |.aP,v=>v=.aP
 |.bl b,v=>v=.bl b
 |.int i,v=>v=.int i
 |.str x,v=>v=.str x
 |.tup ds,v=>∃a xs,v=.ref a/\fK M H F a xs/\ai M H F ds xs
 |.lst ds,v=>∃a xs,v=.ref a/\gk M H F a xs/\ai M H F ds xs
 |.aL ks ds,v=>∃a xs,v=.ref a/\gp M H F a (ks.zip xs)/\ks.length=xs.length/\ai M H F ds xs
 |.bN c ns ds,v=>∃(a:Addr) (_u:Unit),v=.ref a/\((nk ns=true/\KW M c ns ds a)\/(¬F a/\((ns=[]/\∃C,H a=some (jA a C)/\PySem.W.nsIn M.K mainGlobals c=some (some (.ref C)))\/(ns.length=1/\∃o xs,H a=some (.frz o (.tup xs))/\o.dict=none/\ai M H F ds xs)\/(ns.length=2/\∃u,H a=some u/\Dv c ds u)\/(ns.length=5/\∃xs,lC M H F a c xs/\ai M H F ds xs))))
noncomputable def ai(M:Md)(H:Hp)(F:YK):List D->List V->Prop
 |[],xs=>xs=[]
 |d::ds,xs=>∃x r,xs=x::r/\Rep M H F d x/\ai M H F ds r
end
def Mv(F:YK)(H:Hp)(F':YK)(H':Hp):Prop:=∀a o,¬F a->H a=some o->¬F' a/\H' a=some o
theorem Mv.same{F:YK}{H H':Hp}(h:aj H H'):Mv F H F H':=λa o n e=>⟨n,h a o e⟩
theorem Mv.trans{F F1 F2:YK}{H H1 H2:Hp}(a:Mv F H F1 H1)(b:Mv F1 H1 F2 H2):Mv F H F2 H2:=λc o n e=>b c o (a c o n e).1 (a c o n e).2
section
variable{M:Md}{H H':Hp}{F F':YK}{a:Addr}{xs:List V}
theorem zU(m:Mv F H F' H')(n:¬F a)(h:Rd H a u):¬F' a/\Rd H' a u:=by
 rcases h with h|⟨o,h⟩
 ·exact⟨(m _ _ n h).1,.inl (m _ _ n h).2⟩
 ·exact⟨(m _ _ n h).1,.inr ⟨o,(m _ _ n h).2⟩⟩
theorem gk.mv(m:Mv F H F' H')(h:gk M H F a xs):gk M H' F' a xs:=by
 rcases h with⟨n,h⟩|h
 ·exact .inl (zU m n h)
 ·exact .inr h
theorem fK.mv(m:Mv F H F' H')(h:fK M H F a xs):fK M H' F' a xs:=by
 rcases h with⟨n,h⟩|h
 ·exact .inl (zU m n h)
 ·exact .inr h
theorem lC.mv(m:Mv F H F' H')(n:¬F a)(h:lC M H F a c xs):lC M H' F' a c xs:=by
 obtain⟨fa,ob,fd,l,qual,OT,pm,Uw,cc,e1,e2,e3,e4,ha,len,has,inj,cells⟩:=h
 exact⟨fa,ob,fd,l,qual,OT,pm,Uw,cc,e1,e2,e3,e4,(m _ _ n ha).2,len,has,inj,λx c' e=>
  let⟨i,o,u,v,k1,k2,k3,k4⟩:=cells x c' e;⟨i,o,u,v,k1,(m _ _ k2 k3).1,(m _ _ k2 k3).2,k4⟩⟩
theorem lC.aV(h:lC M H F a c xs):∃o,H a=some o:=by
 obtain⟨fa,ob,fd,l,qual,OT,pm,Uw,cc,e1,e2,e3,e4,ha,_⟩:=h;exact⟨_,ha⟩
theorem gp.mv{kvs:List (Key×V)}(m:Mv F H F' H')(h:gp M H F a kvs):gp M H' F' a kvs:=by
 rcases h with⟨n,ob,h⟩|h
 ·exact .inl ⟨(m _ _ n h).1,ob,(m _ _ n h).2⟩
 ·exact .inr h
mutual
theorem Rep.mv(m:Mv F H F' H'):∀ {d:D} {v:V},Rep M H F d v->Rep M H' F' d v
 |.aP,_,h=>by simp only[Rep]at h ⊢;exact h
 |.bl _,_,h=>by simp only[Rep]at h ⊢;exact h
 |.int _,_,h=>by simp only[Rep]at h ⊢;exact h
 |.str _,_,h=>by simp only[Rep]at h ⊢;exact h
 | .tup ds,_,h=>by
  simp only[Rep]at h ⊢;obtain⟨a,xs,e,t,r⟩:=h;exact⟨a,xs,e,t.mv m,ai.mv m r⟩
 | .lst ds,_,h=>by
  simp only[Rep]at h ⊢;obtain⟨a,xs,e,t,r⟩:=h;exact⟨a,xs,e,t.mv m,ai.mv m r⟩
 | .aL ks ds,_,h=>by
  simp only[Rep]at h ⊢;obtain⟨a,xs,e,t,l,r⟩:=h;exact⟨a,xs,e,t.mv m,l,ai.mv m r⟩
 | .bN _ _ _,_,h=>by
  simp only[Rep]at h ⊢;obtain⟨a,_,e,h⟩:=h;rcases h with h|⟨n,⟨z,C,q,k⟩|⟨z,o,xs,q,hd,r⟩|⟨z,u,q,w⟩|⟨z,xs,w,r⟩⟩
  ·exact⟨a,(),e,.inl h⟩
  ·exact⟨a,(),e,.inr ⟨(m _ _ n q).1,.inl ⟨z,C,(m _ _ n q).2,k⟩⟩⟩
  ·exact⟨a,(),e,.inr ⟨(m _ _ n q).1,.inr (.inl ⟨z,o,xs,(m _ _ n q).2,hd,ai.mv m r⟩)⟩⟩
  ·exact⟨a,(),e,.inr ⟨(m _ _ n q).1,.inr (.inr (.inl ⟨z,u,(m _ _ n q).2,w⟩))⟩⟩
  ·obtain⟨o,q⟩:=w.aV
   exact⟨a,(),e,.inr ⟨(m _ _ n q).1,.inr (.inr (.inr ⟨z,xs,w.mv m n,ai.mv m r⟩))⟩⟩
theorem ai.mv(m:Mv F H F' H'):∀ {ds:List D} {xs:List V},ai M H F ds xs->ai M H' F' ds xs
 |[],_,h=>by simp only[ai]at h ⊢;exact h
 | d::ds,_,h=>by
  simp only[ai]at h ⊢;obtain⟨x,r,e,h1,h2⟩:=h;exact⟨x,r,e,Rep.mv m h1,ai.mv m h2⟩
end
theorem ai.length:∀ {ds:List D} {xs:List V},ai M H F ds xs->ds.length=xs.length
 |[],_,h=>by simp only[ai]at h;subst h;rfl
 | d::ds,_,h=>by
  simp only[ai]at h;obtain⟨x,r,rfl,_,h2⟩:=h;simp[ai.length h2]
theorem ai.get:∀ {ds:List D} {xs:List V} {i:Nat} {d:D},ai M H F ds xs->ds[i]? =some d->∃x,xs[i]? =some x/\Rep M H F d x
 |[],_,_,_,_,e=>by simp at e
 | d::ds,_,0,_,h,e=>by
  simp only[ai]at h;obtain⟨x,r,rfl,h1,_⟩:=h;simp at e;subst e;exact⟨x,rfl,h1⟩
 | d::ds,_,i+1,_,h,e=>by
  simp only[ai]at h;obtain⟨x,r,rfl,_,h2⟩:=h;obtain⟨y,e1,h3⟩:=ai.get h2 (by simpa using e)
  exact⟨y,by simpa using e1,h3⟩
theorem ai.append:∀ {ds es:List D} {xs ys:List V},ai M H F ds xs->ai M H F es ys->ai M H F (ds++es) (xs++ys)
 |[],_,_,_,h,g=>by simp only[ai]at h;subst h;exact g
 | d::ds,_,_,_,h,g=>by
  simp only[ai]at h;obtain⟨x,r,rfl,h1,h2⟩:=h;simp only[aaL,ai];exact⟨x,_,rfl,h1,ai.append h2 g⟩
theorem ai.take:∀ {ds:List D} {xs:List V} (n:Nat),ai M H F ds xs->ai M H F (ds.take n) (xs.take n)
 |_,_,0,_=>by simp[ai]
 |[],_,n+1,h=>by simp only[ai]at h;subst h;simp[ai]
 | d::ds,_,n+1,h=>by
  simp only[ai]at h;obtain⟨x,r,rfl,h1,h2⟩:=h;simp only[adp,ai];exact⟨x,_,rfl,h1,ai.take n h2⟩
theorem ai.drop:∀ {ds:List D} {xs:List V} (n:Nat),ai M H F ds xs->ai M H F (ds.drop n) (xs.drop n)
 |_,_,0,h=>h
 |[],_,n+1,h=>by simp only[ai]at h;subst h;simp[ai]
 | d::ds,_,n+1,h=>by
  simp only[ai]at h;obtain⟨x,r,rfl,h1,h2⟩:=h;exact ai.drop n h2
theorem ai.nil:ai M H F [] []:=by simp[ai]
theorem ai.cons{d:D}{x:V}{ds:List D}(h:Rep M H F d x)(t:ai M H F ds xs):ai M H F (d::ds) (x::xs):=by
 simp only[ai];exact⟨_,_,rfl,h,t⟩
theorem ai.set:∀ {ds:List D} {xs:List V} {d:D} {x:V} (i:Nat),Rep M H F d x->ai M H F ds xs->ai M H F (ds.set i d) (xs.set i x)
 |[],_,_,_,_,_,h=>by simp only[ai]at h;subst h;exact ai.nil
 | d::ds,_,_,_,0,g,h=>by
  simp only[ai]at h;obtain⟨y,r,rfl,_,h2⟩:=h;exact ai.cons g h2
 | d::ds,_,_,_,i+1,g,h=>by
  simp only[ai]at h;obtain⟨y,r,rfl,h1,h2⟩:=h;exact ai.cons h1 (ai.set i g h2)
end
def a0(ρ:En)(i:Nat):Prop:=(∃ds,ρ[i]? =some (.ol ds))\/∃ks ds,ρ[i]? =some (.od ks ds)
noncomputable def Kd.ho:Kd->List V->HO
 |.l,xs=>.lst xs
 |.m ks,xs=>.dK (ks.zip xs)
 |.u,xs=>.tup xs
 |.x ks,xs=>.dT (ks.zip xs)
def Kd.fit:Kd->List V->Prop
 |.m ks,xs=>ks.length=xs.length
 |.x ks,xs=>ks.length=xs.length
 |_,_=>True
noncomputable def Kd.fg(k:Kd)(a:Addr)(bs:P1):P1:=if k.own=true then a::bs else bs
theorem Kd.inj{k:Kd}{xs ys:List V}(e:k.ho xs=k.ho ys)(h:k.fit xs)(h':k.fit ys):xs=ys:=by
 cases k with
 |l=>injection e
 |u=>injection e
 | m ks=>
  injection e with e;have h1:=congrArg (List.map Prod.snd) e;rwa[abF (aaK h.symm),abF (aaK h'.symm)]at h1
 | x ks=>
  injection e with e;have h1:=congrArg (List.map Prod.snd) e;rwa[abF (aaK h.symm),abF (aaK h'.symm)]at h1
theorem Kd.sub{k:Kd}{a b:Addr}{bs:P1}(h:b∈bs):b∈k.fg a bs:=by
 unfold Kd.fg;split
 ·exact Ax _ h
 ·exact h
theorem Kd.top{k:Kd}{a:Addr}{bs:P1}(h:k.own=true):a∈k.fg a bs:=by
 unfold Kd.fg;rw[DM h];exact AC
theorem Kd.mem{k:Kd}{a b:Addr}{bs:P1}(h:b∈k.fg a bs):(k.own=true/\b=a)\/b∈bs:=by
 unfold Kd.fg at h;split at h
 ·rename_i o;exact(KM.mp h).imp (λz=>⟨o,z⟩) id
 ·exact .inr h
theorem Kd.nodup{k:Kd}{a:Addr}{bs:P1}:(k.fg a bs).Nodup↔(k.own=true->a∉bs)/\bs.Nodup:=by
 unfold Kd.fg;split
 ·rename_i o;rw[PP];exact⟨λh=>⟨λ_=>h.1,h.2⟩,λh=>⟨h.1 o,h.2⟩⟩
 ·rename_i o;exact⟨λh=>⟨λz=>absurd z o,h⟩,λh=>h.2⟩
theorem Kd.Dz{k:Kd}{a:Addr}{bs:P1}:bs.Sublist (k.fg a bs):=by
 unfold Kd.fg;split
 ·exact List.sublist_cons_self _ _
 ·exact aar _
theorem Kd.ne{k:Kd}{a c:Addr}{bs:P1}(h:(k.fg a bs).Nodup)(o:k.own=true)(hc:c∈bs):a≠c:=λz=>(Kd.nodup.mp h).1 o (z▸hc)
mutual
noncomputable def au(M:Md)(H:Hp)(F:YK):T->V->P1->Prop
 |.d x,v,as=>as=[]/\Rep M H F x v
 |.n k ts,v,as=>∃a xs bs,v=.ref a/\as=k.fg a bs/\(F a↔k.own=true)/\H a=some (k.ho xs)/\k.fit xs/\aq M H F ts xs bs
noncomputable def aq(M:Md)(H:Hp)(F:YK):List T->List V->P1->Prop
 |[],xs,as=>xs=[]/\as=[]
 |t::ts,xs,as=>∃x r bs cs,xs=x::r/\as=bs++cs/\au M H F t x bs/\aq M H F ts r cs
end
theorem eG:au M H F (.d x) v as↔as=[]/\Rep M H F x v:=by rw[au]
theorem eQ:au M H F (.l ts) v as↔∃a xs bs,v=.ref a/\as=a::bs/\F a/\H a=some (.lst xs)/\aq M H F ts xs bs:=by
 rw[au];exact⟨by rintro⟨a,xs,bs,h1,h2,h3,h4,_,h6⟩;exact ⟨a,xs,bs,h1,h2,h3.mpr rfl,h4,h6⟩,by rintro⟨a,xs,bs,h1,h2,h3,h4,h6⟩;exact ⟨a,xs,bs,h1,h2,⟨λ_=>rfl,λ_=>h3⟩,h4,trivial,h6⟩⟩
theorem eM:au M H F (.m ks ts) v as↔∃a xs bs,v=.ref a/\as=a::bs/\F a/\H a=some (.dK (ks.zip xs))/\ks.length=xs.length/\aq M H F ts xs bs:=by
 rw[au];exact⟨by rintro⟨a,xs,bs,h1,h2,h3,h4,h5,h6⟩;exact ⟨a,xs,bs,h1,h2,h3.mpr rfl,h4,h5,h6⟩,by rintro⟨a,xs,bs,h1,h2,h3,h4,h5,h6⟩;exact ⟨a,xs,bs,h1,h2,⟨λ_=>rfl,λ_=>h3⟩,h4,h5,h6⟩⟩
theorem eN:au M H F (.tu ts) v as↔∃a xs,v=.ref a/\¬F a/\H a=some (.tup xs)/\aq M H F ts xs as:=by
 rw[au];exact⟨by rintro⟨a,xs,bs,h1,h2,h3,h4,_,h6⟩;exact ⟨a,xs,h1,λf=>(nomatch h3.mp f),h4,(show as=bs from h2)▸h6⟩,by rintro⟨a,xs,h1,h3,h4,h6⟩;exact ⟨a,xs,as,h1,rfl,⟨λf=>absurd f h3,λz=>nomatch z⟩,h4,trivial,h6⟩⟩
mutual
theorem au.mv{M:Md}{H H':Hp}{F F':YK}(m:Mv F H F' H'):∀ {t:T} {v:V} {as:P1},(∀b∈as,∀u,F b->H b=some u->F' b/\H' b=some u)->au M H F t v as->au M H' F' t v as
 | .d x,v,as,_,h=>by
  simp only[au]at h ⊢;exact⟨h.1,h.2.mv m⟩
 | .n kd ts,v,as,k,h=>by
  simp only[au]at h ⊢;obtain⟨a,xs,bs,e1,rfl,f,e2,l,r⟩:=h
  have h9:(F' a↔kd.own=true)/\H' a=some (kd.ho xs):=by
   by_cases o:kd.own=true
   ·obtain⟨f',e'⟩:=k a (Kd.top o) _ (f.mpr o) e2
    exact⟨⟨λ_=>o,λ_=>f'⟩,e'⟩
   ·obtain⟨f',e'⟩:=m _ _ (λz=>o (f.mp z)) e2
    exact⟨⟨λz=>absurd z f',λz=>absurd z o⟩,e'⟩
  exact⟨a,xs,bs,e1,rfl,h9.1,h9.2,l,aq.mv m (λb hb=>k b (Kd.sub hb)) r⟩
theorem aq.mv{M:Md}{H H':Hp}{F F':YK}(m:Mv F H F' H'):∀ {ts:List T} {xs:List V} {as:P1},(∀b∈as,∀u,F b->H b=some u->F' b/\H' b=some u)->aq M H F ts xs as->aq M H' F' ts xs as
 |[],xs,as,_,h=>by simp only[aq]at h ⊢;exact h
 | t::ts,xs,as,k,h=>by
  simp only[aq]at h ⊢;obtain⟨x,r,bs,cs,e1,rfl,h1,h2⟩:=h;exact⟨x,r,bs,cs,e1,rfl,au.mv m (λb hb=>k b (JU _ hb)) h1,aq.mv m (λb hb=>k b (Do _ hb)) h2⟩
end
mutual
theorem au.det{M:Md}{H H':Hp}{F F':YK}(m:∀a o,¬F a->H a=some o->∀u,H' a=some u->o=u):∀ {t:T} {v:V} {as as':P1},au M H F t v as->au M H' F' t v as'->(∀b∈as,∀u,F b->H b=some u->H' b=some u)->as=as'
 | .d x,v,as,as',h,h',_=>by
  simp only[au]at h h';rw[h.1,h'.1]
 | .n kd ts,v,as,as',h,h',k=>by
  simp only[au]at h h';obtain⟨a,xs,bs,rfl,rfl,f,e2,l,r⟩:=h;obtain⟨a',R7,OC,e1,rfl,f',NW,l',r'⟩:=h';cases e1
  have e5:xs=R7:=Kd.inj (k:=kd) (by
   by_cases o:kd.own=true
   ·have e3:=k a (Kd.top o) _ (f.mpr o) e2
    rw[NW]at e3;injection e3 with e3;exact e3.symm
   ·exact m a _ (λz=>o (f.mp z)) e2 _ NW) l l'
  subst e5;rw[aq.det m r r' λb hb=>k b (Kd.sub hb)]
theorem aq.det(m:∀a o,¬F a->H a=some o->∀u,H' a=some u->o=u):∀ {ts:List T} {xs:List V} {as as':P1},aq M H F ts xs as->aq M H' F' ts xs as'->(∀b∈as,∀u,F b->H b=some u->H' b=some u)->as=as'
 | [],xs,as,as',h,h',_=>by
  simp only[aq]at h h';rw[h.2,h'.2]
 | t::ts,xs,as,as',h,h',k=>by
  simp only[aq]at h h';obtain⟨x,r,bs,cs,rfl,rfl,h1,h2⟩:=h;obtain⟨x',r',OC,N4,e1,rfl,U5,VU⟩:=h';cases e1;rw[au.det m h1 U5 λb hb=>k b (JU _ hb),aq.det m h2 VU λb hb=>k b (Do _ hb)]
end
theorem au.fu(h:au M H F t v as)(h':au M H F' t v as'):as=as':=
 au.det (λa o _ e u e'=>by rw[e]at e';injection e') h h' λ_ _ _ _ hu=>hu
mutual
theorem au.fs{M:Md}{H:Hp}{F:YK}:∀ {t:T} {v:V} {as:P1},au M H F t v as->∀b∈as,F b/\∃u,H b=some u
 | .d x,v,as,h,b,hb=>by
  simp only[au]at h;rw[h.1]at hb;cases hb
 | .n kd ts,v,as,h,b,hb=>by
  simp only[au]at h;obtain⟨a,xs,bs,rfl,rfl,f,e2,l,r⟩:=h;rcases Kd.mem hb with⟨o,rfl⟩|hb
  ·exact⟨f.mpr o,_,e2⟩
  ·exact aq.fs r b hb
theorem aq.fs{M:Md}{H:Hp}{F:YK}:∀ {ts:List T} {xs:List V} {as:P1},aq M H F ts xs as->∀b∈as,F b/\∃u,H b=some u
 | [],xs,as,h,b,hb=>by
  simp only[aq]at h;rw[h.2]at hb;cases hb
 | t::ts,xs,as,h,b,hb=>by
  simp only[aq]at h;obtain⟨x,r,bs,cs,rfl,rfl,h1,h2⟩:=h;rcases FS.mp hb with hb|hb
  ·exact au.fs h1 b hb
  ·exact aq.fs h2 b hb
end
def aD(H:Hp):T->V->List Nat->T->V->Prop
 |t,v,[],t',w=>t=t'/\v=w
 |.n kd ts,v,k::p,t',w=>∃a xs t1 x1,v=.ref a/\H a=some (kd.ho xs)/\kd.fit xs/\ts[k]? =some t1/\xs[k]? =some x1/\aD H t1 x1 p t' w
 |.d _,_,_::_,_,_=>False
theorem aq.get:∀ {ts:List T} {xs:List V} {as:P1} {k:Nat} {t:T} {x:V},aq M H F ts xs as->ts[k]? =some t->xs[k]? =some x->∃bs,au M H F t x bs/\∀b∈bs,b∈as
 |[],_,_,_,_,_,_,e,_=>by simp at e
 | t::ts,xs,as,0,_,_,h,e,e'=>by
  simp only[aq]at h;obtain⟨x,r,bs,cs,rfl,rfl,h1,h2⟩:=h;cases e;cases e';exact⟨bs,h1,λb hb=>JU _ hb⟩
 | t::ts,xs,as,k+1,_,_,h,e,e'=>by
  simp only[aq]at h;obtain⟨x,r,bs,cs,rfl,rfl,h1,h2⟩:=h;obtain⟨ds,h3,h4⟩:=aq.get h2 (by simpa using e) (by simpa using e')
  exact⟨ds,h3,λb hb=>Do _ (h4 b hb)⟩
theorem aD.mv{M:Md}{H H':Hp}{F:YK}(m:∀a o,¬F a->H a=some o->H' a=some o):∀ {p:List Nat} {t:T} {v:V} {t':T} {w:V} {as:P1},au M H F t v as->(∀b∈as,∀u,F b->H b=some u->H' b=some u)->aD H t v p t' w->aD H' t v p t' w
 | [],t,v,t',w,as,_,_,h=>by
  cases t<;>exact h
 | k::p,.n kd ts,v,t',w,as,r,hk,h=>by
  simp only[aD]at h ⊢;simp only[au]at r;obtain⟨a,xs,t1,x1,rfl,e,l,e1,e2,h⟩:=h;obtain⟨a',R7,bs,ea,rfl,f,e',l',rs⟩:=r;cases ea;have e9:xs=R7:=Kd.inj (k:=kd) (by rw[e']at e;injection e with e;exact e.symm) l l'
  subst e9;obtain⟨ds,r1,sub⟩:=rs.get e1 e2;refine⟨a,xs,t1,x1,rfl,?_,l,e1,e2,aD.mv m r1 (λb hb=>hk b (Kd.sub (sub b hb))) h⟩;by_cases o:kd.own=true
  ·exact hk a (Kd.top o) _ (f.mpr o) e'
  ·exact m _ _ (λz=>o (f.mp z)) e'
 |k::p,.d _,v,t',w,as,_,_,h=>h.elim
inductive aX(M:Md)(H:Hp)(F:YK)(σ:L2.St)(ρ:En)(i:Nat)(b:Addr):Prop
 |mk:∀t v as,ρ[i]? =some (.on (.tr t))->σ[i]? =some (some v)->au M H F t v as->b∈as->aX M H F σ ρ i b
noncomputable def T.fJ:T->Bool
 |.d _=>false
 |.n _ _=>true
theorem T.Bl:∀ {t:T},t.own=true->t.fJ=true
 |.n _ _,_=>rfl
def Kz(M:Md)(H:Hp)(F:YK)(σ:St)(ρ:En)(i:Nat):Sp->Prop
 |.tr t=>∃v as,σ[i]? =some (some v)/\au M H F t v as/\as.Nodup
 |.al k p=>∀t,ρ[k]? =some (.on (.tr t))->∃v w t',σ[k]? =some (some v)/\σ[i]? =some (some w)/\aD H t v p t' w/\t'.fJ=true
def fw(M:Md)(H:Hp)(F:YK)(σ:St)(ρ:En):Prop:=∀i x,ρ[i]? =some (.on x)->
 Kz M H F σ ρ i x/\(∀b,aX M H F σ ρ i b->∀j,a0 ρ j->σ[j]? ≠some (some (.ref b)))/\∀t,x=.tr t->∀j t',ρ[j]? =some (.on (.tr t'))->j≠i->∀b,aX M H F σ ρ i b->aX M H F σ ρ j b->False
theorem fw.no{M:Md}{H:Hp}{F:YK}{σ:St}{ρ:En}(h:∀(i:Nat) x,ρ[i]? ≠some (.on x)):fw M H F σ ρ:=λi x e=>absurd e (h i x)
theorem fw.back{M:Md}{H H':Hp}{F F':YK}{σ ME:St}{ρ ρ':En}{i:Nat}{b:Addr}(r:fw M H F σ ρ)(hr:∀x,ρ'[i]? =some (.on x)->ρ[i]? =some (.on x))(hs:ME[i]? =σ[i]?)
  (hk:∀a u,aX M H F σ ρ i a->F a->H a=some u->H' a=some u) (m:∀a o,¬F a->H a=some o->H' a=some o) (h:aX M H' F' ME ρ' i b):aX M H F σ ρ i b:=by
 obtain⟨t,v,as,e,ev,tr,hb⟩:=h;have e0:=hr _ e;obtain⟨⟨v',as',Tf,O8,nd⟩,_,_⟩:=r i _ e0;rw[hs,Tf]at ev;cases ev;have:=au.det (λa o n e u e'=>by rw[m a _ n e]at e';injection e') O8 tr λc hc u f hu=>hk c u ⟨t,v,as',e0,Tf,O8,hc⟩ f hu
 subst this;exact⟨t,v,as',e0,Tf,O8,hb⟩
theorem fw.mv{M:Md}{H H':Hp}{F F':YK}{σ ME:St}{ρ ρ':En}(r:fw M H F σ ρ)(m:Mv F H F' H')(PR:∀(j:Nat) x,ρ'[j]? =some (.on x)->ρ[j]? =some (.on x)/\ME[j]? =σ[j]?)
  (hk:∀(j:Nat) x b u,ρ'[j]? =some (.on x)->aX M H F σ ρ j b->F b->H b=some u->F' b/\H' b=some u)
  (ho:∀(j:Nat) x b,ρ'[j]? =some (.on x)->aX M H F σ ρ j b->∀k:Nat,a0 ρ' k->ME[k]? ≠some (some (.ref b))):fw M H' F' ME ρ':=λi x e=>by
 obtain⟨e0,es⟩:=PR i x e;obtain⟨h1,h2,h3⟩:=r i x e0;refine⟨?_,λb hb k ok=>?_,λt ht j t' ej Ti b hi hj=>h3 t ht j t' (PR j _ ej).1 Ti b (r.back (λy ey=>(PR i y ey).1) es (λc u hc f hu=>(hk i _ c u e hc f hu).2) (λa o n e=>(m a o n e).2) hi) (r.back (λy ey=>(PR j y ey).1) (PR j _ ej).2 (λc u hc f hu=>(hk j _ c u ej hc f hu).2) (λa o n e=>(m a o n e).2) hj)⟩
 ·cases x with
  | tr t=>
   obtain⟨v,as,ev,tr,nd⟩:=h1;exact⟨v,as,by rw[es];exact ev,tr.mv m λb hb u f hu=>hk i _ b u e ⟨t,v,as,e0,ev,tr,hb⟩ f hu,nd⟩
  | al k p=>
   intro t et;obtain⟨ek,Xd⟩:=PR k _ et;obtain⟨v,w,t',e1,e2,at',ow⟩:=h1 t ek;obtain⟨⟨v',as,Qh,tr,_⟩,_,_⟩:=r k _ ek;rw[e1]at Qh;cases Qh;exact⟨v,w,t',by rw[Xd];exact e1,by rw[es];exact e2,at'.mv (λa o n e=>(m a o n e).2) tr λb hb u f hu=>(hk k _ b u et ⟨t,v,as,ek,e1,tr,hb⟩ f hu).2,ow⟩
 ·refine ho i x b e (r.back (λy ey=>(PR i y ey).1) es (λc u hc f hu=>(hk i x c u e hc f hu).2) (λa o n e=>(m a o n e).2) hb) k ok
theorem fw.f{M:Md}{H:Hp}{F:YK}{σ:St}{ρ:En}{i:Nat}{b:Addr}(h:aX M H F σ ρ i b):F b/\∃u,H b=some u:=by
 obtain⟨t,v,as,e,ev,tr,hb⟩:=h;exact tr.fs b hb
structure bf(M:Md)(H:Hp)(F:YK)(σ:St)(ρ:En):Prop where
 len:ρ.length=σ.length
 aV:∀a,F a->∃o,H a=some o
 sh:∀(i:Nat) d,ρ[i]? =some (.sh d)->∃v,σ[i]? =some (some v)/\Rep M H F d v
 ol:∀(i:Nat) ds,ρ[i]? =some (.ol ds)->∃a xs,σ[i]? =some (some (.ref a))/\F a/\H a=some (.lst xs)/\ai M H F ds xs
 od:∀(i:Nat) ks ds,ρ[i]? =some (.od ks ds)->∃a xs,σ[i]? =some (some (.ref a))/\F a/\H a=some (.dK (ks.zip xs))/\ks.length=xs.length/\ai M H F ds xs
 cu:∀(i j:Nat) a,a0 ρ i->a0 ρ j->σ[i]? =some (some (.ref a))->σ[j]? =some (some (.ref a))->i=j
 on:fw M H F σ ρ
section
variable{M:Md}{H H':Hp}{F F':YK}{σ:St}{ρ:En}
theorem bf.same(r:bf M H F σ ρ)(h:aj H H'):bf M H' F σ ρ where
 len:=r.len
 aV a f:=let⟨o,e⟩:=r.aV a f;⟨o,h _ _ e⟩
 sh i d e:=let⟨v,e1,q⟩:=r.sh i d e;⟨v,e1,q.mv (.same h)⟩
 ol i ds e:=let⟨a,xs,e1,f,e2,q⟩:=r.ol i ds e;⟨a,xs,e1,f,h _ _ e2,q.mv (.same h)⟩
 od i ks ds e:=let⟨a,xs,e1,f,e2,l,q⟩:=r.od i ks ds e;⟨a,xs,e1,f,h _ _ e2,l,q.mv (.same h)⟩
 cu:=r.cu
 on:=r.on.mv (.same h) (λj MU e=>⟨e,rfl⟩) (λj MU b u e hb f hu=>⟨f,h _ _ hu⟩) λj MU b e hb k ok=>(r.on j MU e).2.1 b hb k ok
theorem get_set{α:Type}{l:List α}{i j:Nat}{x y:α}(h:(l.set i x)[j]? =some y):(i=j/\x=y/\i<l.length)\/(i≠j/\l[j]? =some y):=by
 by_cases e:i=j
 ·subst e
  rw[abG]at h;cases q:l[i]? with
  |none=>rw[q]at h;cases h
  | some z=>
   rw[q]at h;obtain⟨hl,_⟩:=il.mp q;simp at h;exact .inl ⟨rfl,h,hl⟩
 ·rw[df e]at h
  exact .inr ⟨e,h⟩
theorem bf.lI{i:Nat}{d:D}{v:V}(r:bf M H F σ ρ)(h:Rep M H F d v):bf M H F (σ.set i (some v)) (ρ.set i (.sh d)) where
 len:=by simp[r.len]
 aV:=r.aV
 sh j e q:=by
  rcases get_set q with⟨rfl,hx,hl⟩|⟨MJ,q⟩
  ·cases hx
   exact⟨v,by rw[Mk (by rw[<-r.len];exact hl)],h⟩
  ·obtain⟨w,e1,g⟩:=r.sh j e q
   exact⟨w,by rw[df MJ];exact e1,g⟩
 ol j e q:=by
  rcases get_set q with⟨rfl,x,hl⟩|⟨MJ,q⟩
  ·cases x
  ·obtain⟨a,xs,e1,g⟩:=r.ol j e q
   exact⟨a,xs,by rw[df MJ];exact e1,g⟩
 od j k e q:=by
  rcases get_set q with⟨rfl,x,hl⟩|⟨MJ,q⟩
  ·cases x
  ·obtain⟨a,xs,e1,g⟩:=r.od j k e q
   exact⟨a,xs,by rw[df MJ];exact e1,g⟩
 cu j k a oj ok ej ek:=by
  have nj:i≠j:=by
   rintro rfl;rcases oj with⟨ds,q⟩|⟨ks,ds,q⟩
   ·rcases get_set q with⟨_,x,_⟩|⟨MJ,_⟩
    ·cases x
    ·exact MJ rfl
   ·rcases get_set q with⟨_,x,_⟩|⟨MJ,_⟩
    ·cases x
    ·exact MJ rfl
  have nk:i≠k:=by
   rintro rfl;rcases ok with⟨ds,q⟩|⟨ks,ds,q⟩
   ·rcases get_set q with⟨_,x,_⟩|⟨MJ,_⟩
    ·cases x
    ·exact MJ rfl
   ·rcases get_set q with⟨_,x,_⟩|⟨MJ,_⟩
    ·cases x
    ·exact MJ rfl
  rw[df nj]at ej;rw[df nk]at ek;refine r.cu j k a ?_ ?_ ej ek
  ·unfold a0 at oj;simp only[df nj]at oj;exact oj
  ·unfold a0 at ok;simp only[df nk]at ok;exact ok
 on := r.on.mv (λ_ _ n e=>⟨n,e⟩) (λj MU e=>by
   rcases get_set e with⟨_,x,_⟩|⟨MJ,e⟩
   ·cases x
   ·exact⟨e,df MJ⟩) (λj MU b u e hb f hu=>⟨f,hu⟩) λj MU b e hb k ok=>by
  have e0:ρ[j]? =some (.on MU):=by
   rcases get_set e with⟨_,x,_⟩|⟨MJ,e⟩
   ·cases x
   ·exact e
  have nk:i≠k:=by
   rintro rfl;rcases ok with⟨ds,q⟩|⟨ks,ds,q⟩
   ·rcases get_set q with⟨_,x,_⟩|⟨MJ,_⟩
    ·cases x
    ·exact MJ rfl
   ·rcases get_set q with⟨_,x,_⟩|⟨MJ,_⟩
    ·cases x
    ·exact MJ rfl
  rw[df nk];refine(r.on j MU e0).2.1 b hb k ?_;unfold a0 at ok;simp only[df nk]at ok;exact ok
end
open L2 (aR cB bq R2 EP)
theorem ao{α β:Type}{x:R α}{f:α->R β}{b:β}:x.bind f=.ok b↔∃a,x=.ok a/\f a=.ok b:=by
 cases x with
 |ok a=>simp
 |exc y=>simp
 |bad=>simp
inductive tP(M:Md)(f:Ex)(σ:L2.St)(H:Hp)(Q:VK):Prop
 |mk:∀ρ F d,bf M H F σ ρ->f ρ=.ok d->(∀v H',aj H H'->Rep M H' F d v->Q v H')->tP M f σ H Q
inductive vh(M:Md)(c:bg)(σ:L2.St)(H:Hp)(Q:(Bool->Hp->Prop)):Prop
 |mk:∀ρ F b,bf M H F σ ρ->c ρ=.ok b->(∀H',aj H H'->Q b H')->vh M c σ H Q
inductive lR(M:Md)(f:En->R (List D))(σ:L2.St)(H:Hp)(Q:(List V->Hp->Prop)):Prop
 |mk:∀ρ F ds,bf M H F σ ρ->f ρ=.ok ds->(∀vs H',aj H H'->ai M H' F ds vs->Q vs H')->lR M f σ H Q
abbrev JE(X:Cx)(e:Expr)(f:Ex):Prop:=PE X e (tP (aB X) f)
structure XE(X:Cx)(e:Expr)(f:Ex):Prop where
 out:JE X e f
abbrev JT(X:Cx)(e:Expr)(c:bg):Prop:=PT X e (vh (aB X) c)
structure XT(X:Cx)(e:Expr)(f:bg):Prop where
 out:JT X e f
abbrev JA(X:Cx)(es:P2)(f:En->R (List D)):Prop:=PA X es (lR (aB X) f)
structure XA(X:Cx)(e:P2)(f:En->R (List D)):Prop where
 out:JA X e f
theorem bw(h:PE X e t')(hi:∀σ H Q,t σ H Q->t' σ H Q):PE X e t:=λpins s σ H Q I q=>h pins s σ H Q I (hi σ H Q q)
theorem sS(h:PT X e t')(hi:∀σ H Q,t σ H Q->t' σ H Q):PT X e t:=λpins s σ H Q I q=>h pins s σ H Q I (hi σ H Q q)
theorem kq(h:PA X e t')(hi:∀σ H Q,t σ H Q->t' σ H Q):PA X e t:=λpos pins s σ H Q I q=>h pos pins s σ H Q I (hi σ H Q q)
theorem yY(h:PW X e t')(hi:∀σ H Q,t σ H Q->t' σ H Q):PW X e t:=λwh pins s σ H Q I q=>h wh pins s σ H Q I (hi σ H Q q)
theorem aj.cN{H:Hp}{p:Addr}(h:H p=none)(o:HO):aj H (upd H p o):=λb u q=>by rw[L2.aJ (L2.jd q h)];exact q
section
variable{X:Cx}{M:Md}{H H':Hp}{F:YK}{σ:St}{ρ:En}{pos:Pos}
theorem IP(h:aa i ρ=.ok d):ρ[i]? =some (.sh d):=by
 unfold aa at h;split at h
 ·rename_i e;cases h;exact e
 ·cases h
theorem ae(i:Nat)(hN:X.N[i]? =some x:=by rfl)(hv:L2.d9 X.env.scope x:=by first|exact Or.inl rfl|exact Or.inr (Or.inl rfl)|exact Or.inr (Or.inr rfl))(hd:gV x:=by decide)(Nn:js x:=by decide):XE X (.Name x pos) (aa i):=⟨ bw (L2.pv i hN hv hd Nn) λσ H Q=>by
  rintro⟨ρ,F,d,r,e,q⟩
  obtain⟨v,e1,rv⟩:=r.sh i d (IP e);exact⟨v,e1,q v H (aj.refl H) rv⟩⟩
theorem ah:XE X (.Constant (.int i) j pos) (eC (.int i)):=⟨ bw L2.Ig λσ H Q ⟨ρ,F,d,r,e,q⟩=>by cases e;exact q _ H (aj.refl H) (by simp[Rep])⟩
theorem eR:XE X (.Constant (.bool b) j pos) (eC (.bl b)):=⟨ bw L2.Dj λσ H Q ⟨ρ,F,d,r,e,q⟩=>by cases e;exact q _ H (aj.refl H) (by simp[Rep])⟩
theorem yQ:XE X (.Constant (.str x) j pos) (eC (.str x)):=⟨ bw L2.zo λσ H Q ⟨ρ,F,d,r,e,q⟩=>by cases e;exact q _ H (aj.refl H) (by simp[Rep])⟩
theorem Gh(hg:L2.Gl X x)(hm:X.mg x=some u)(r:RelV v u)(hr:∀H F,Rep (aB X) H F d v)(hd:gV x:=by decide):JE X (.Name x pos) (eC d):=
 bw (L2.BL hg hm r hd) λσ H Q ⟨ρ,F,d',r,e,q⟩=>by cases e;exact q _ H (aj.refl H) (hr H F)
def cU(M:Md)(g:D->D->R D)(r:R2):Prop:=∀(F:YK) (H:Hp) (x y:V) (a b d:D) (Q:VK),(∀p,F p->∃o,H p=some o)->Rep M H F a x->Rep M H F b y->g a b=.ok d->
 (∀v H',aj H H'->Rep M H' F d v->Q v H')->r x y H Q
def uG(M:Md)(g:D->R D)(r:V->Hp->VK->Prop):Prop:=∀(F:YK) (H:Hp) (x:V) (a d:D) (Q:VK),(∀p,F p->∃o,H p=some o)->Rep M H F a x->g a=.ok d->
 (∀v H',aj H H'->Rep M H' F d v->Q v H')->r x H Q
def gF(M:Md)(g:List D->R D)(r:List V->Hp->VK->Prop):Prop:=∀(F:YK) (H:Hp) (xs:List V) (as:List D) (d:D) (Q:VK),(∀p,F p->∃o,H p=some o)->ai M H F as xs->g as=.ok d->
 (∀v H',aj H H'->Rep M H' F d v->Q v H')->r xs H Q
theorem qv{g:D->D->R D}{r:R2}(hg:cU M g r){fa fb:Ex}{Q:VK}(h:tP M (e2 g fa fb) σ H Q):L2.nz r (tP M fa) (tP M fb) σ H Q:=by
 obtain⟨ρ,F,d,hr,e,q⟩:=h;obtain⟨a,ea,e⟩:=ao.mp e;obtain⟨b,eb,e⟩:=ao.mp e;refine⟨ρ,F,a,hr,ea,λx H1 s1 rx=>⟨ρ,F,b,hr.same s1,eb,λy H2 s2 ry=>?_⟩⟩;exact hg F H2 x y a b d Q ((hr.same s1).same s2).aV (rx.mv (.same s2)) ry e λv H3 s3 rv=>q v H3 (s1.trans (s2.trans s3)) rv
theorem ak(ho:aR X (binaryOp op) r)(hg:cU (aB X) g r)(ha:XE X a fa)(hb:XE X b fb):XE X (.BinOp a op b pos) (e2 g fa fb):=⟨have ha:=ha.out;have hb:=hb.out;bw (L2.B8 ho ha hb) λσ H Q h=>qv hg h⟩
theorem uq(ho:aR X (compareOp op) r)(hg:cU (aB X) g r)(ha:XE X a fa)(hb:XE X b fb)(hm:behindInMarks op b=false:=by exact L2.xl _):XE X (.Compare a [op] [b] pos) (e2 g fa fb):=⟨have ha:=ha.out;have hb:=hb.out;bw (L2.G2 ho ha hb hm) λσ H Q h=>qv hg h⟩
theorem Fj(hg:uG M g r)(h:tP M (e1 g fa) σ H Q):L2.za r (tP M fa) σ H Q:=by
 obtain⟨ρ,F,d,hr,e,q⟩:=h;obtain⟨a,ea,e⟩:=ao.mp e;exact⟨ρ,F,a,hr,ea,λx H1 s1 rx=>hg F H1 x a d Q (hr.same s1).aV rx e λv H3 s3 rv=>q v H3 (s1.trans s3) rv⟩
theorem Ed(ho:cB X (unaryOp op) r)(hg:uG (aB X) g r)(ha:XE X a fa):XE X (.UnaryOp op a pos) (e1 g fa):=⟨have ha:=ha.out;bw (L2.Hx ho ha) λσ H Q h=>Fj hg h⟩
theorem bo(h:Rep M H F (.int i) v):v=.int i:=by simpa only[Rep] using h
theorem hZ(h:Rep M H F (.bl i) v):v=.bl i:=by simpa only[Rep] using h
theorem iT(h:Rep M H F (.str i) v):v=.str i:=by simpa only[Rep] using h
theorem wD(h:Rep M H F .aP v):v=.aP:=by simpa only[Rep] using h
theorem de:Rep M H F (.int i) (.int i):=by simp only[Rep]
theorem fq:Rep M H F (.bl i) (.bl i):=by simp only[Rep]
theorem oA:Rep M H F (.str i) (.str i):=by simp only[Rep]
theorem vm:Rep M H F .aP .aP:=by simp only[Rep]
theorem fY:cU M cX (L2.gm λi j=>.int (i - j)):=by
 intro F H x y a b d Q tr ra rb e q;unfold cX at e;split at e
 ·cases e
  exact⟨_,_,bo ra,bo rb,q _ _ (aj.refl _) de⟩
 ·cases e
theorem pQ:cU M oLt (L2.gm λi j=>.bl (decide (i<j))):=by
 intro F H x y a b d Q tr ra rb e q;unfold oLt at e;split at e
 ·cases e
  exact⟨_,_,bo ra,bo rb,q _ _ (aj.refl _) fq⟩
 ·cases e
theorem ou:cU M oLe (L2.gm λi j=>.bl (decide (i<=j))):=by
 intro F H x y a b d Q tr ra rb e q;unfold oLe at e;split at e
 ·cases e
  exact⟨_,_,bo ra,bo rb,q _ _ (aj.refl _) fq⟩
 ·cases e
theorem sU:cU M ia (L2.gm λi j=>.bl (decide (j<i))):=by
 intro F H x y a b d Q tr ra rb e q;unfold ia at e;split at e
 ·cases e
  exact⟨_,_,bo ra,bo rb,q _ _ (aj.refl _) fq⟩
 ·cases e
theorem KC:cU M kH (L2.gm λi j=>.bl (decide (j<=i))):=by
 intro F H x y a b d Q tr ra rb e q;unfold kH at e;split at e
 ·cases e
  exact⟨_,_,bo ra,bo rb,q _ _ (aj.refl _) fq⟩
 ·cases e
theorem bW:cU M oMod (L2.rI (λ_ j=>0<j) λi j=>.int (i % j)):=by
 intro F H x y a b d Q tr ra rb e q;unfold oMod at e;split at e
 ·split at e
  ·cases e
   exact⟨_,_,bo ra,bo rb,by assumption,q _ _ (aj.refl _) de⟩
  ·cases e
 ·cases e
theorem CC:uG M um (L2.rU λi=>.int (-i)):=by
 intro F H x a d Q tr ra e q;unfold um at e;split at e
 ·cases e
  exact⟨_,bo ra,q _ _ (aj.refl _) de⟩
 ·cases e
end
section
variable{X:Cx}{M:Md}{H H':Hp}{F:YK}{σ:L2.St}{ρ:En}{pos:Pos}{pins:List (Addr×Obj)}{s:Shared}
theorem j8(I:Inv X pins σ H s)(h:gk (aB X) H F a xs):∃(its:S1) (n:Nat) (sl:Array (S2)),Vals xs its/\s.heap.get? a=some {cls:=.type "list",data:=.seq its.toArray n,slots:=sl}/\xs.length<=sizeLine:=by
 rcases h with⟨_,h⟩|⟨o,its,n,hk,h1,h2,h3,hz,r⟩
 ·obtain⟨z,its,n,r,e⟩:=h.ok I.aC
  exact⟨its,n, #[],r,e,z⟩
 ·obtain⟨c,dd,dt,sl⟩:=o
  simp only at h1 h2 h3;subst h1 h2 h3;refine⟨its.toList,n,sl,r,by simpa using I.eU a _ hk,?_⟩
  have e:=r.length;simp only[aaO]at e;omega
theorem BX(l:Addr)(items:Array Value)(n:Nat)(sl:Array (S2))(b:Addr)(Pc:Array Value)(n2:Nat)(Sk:Array (S2))(UH:items.size+Pc.size<=sizeLine):
  Meets (Builtin.«list.__add__» ⟨[.ref l,.ref b],[]⟩) (λ_ R s=>s.heap.get? l=some {cls:=.type "list",dict:=none,data:=.seq items n,slots:=sl}/\s.heap.get? b=some {cls:=.type "list",dict:=none,data:=.seq Pc n2,slots:=Sk}/\R (.ok (.ret (Value.ref s.heap.objs.size))) {s with heap:=s.heap.push {cls:=Value.type "list",data:=Data.seq (items++Pc)},toks:=s.toks}):=
 .of_wp λprog w A R s h=>by obtain⟨hp,g,d,tk,os⟩:=s;obtain⟨hl,hb,h⟩:=h;have f1:=AutoSeq1.idx_int;have f2:=AutoSeq1.sub_tuple_tuple;have f3:=AutoSeq1.sub_list_list;have f4:=AutoSeq1.sub_tuple_list;have f5:=AutoSeq1.sub_list_tuple;wp_walk using abQ hl,abQ hb;exact⟨_,rfl,h⟩
theorem nO(I:Inv X pins σ H s)(h:fK (aB X) H F a xs):∃its:S1,Vals xs its/\PyProof.Rows.IsTup s.heap a its.toArray/\xs.length<=sizeLine:=I.tuple h.sq
noncomputable def AW(M:Md):R2:=λx y H Q=>∃F l b xs zs,x=.ref l/\y=.ref b/\gk M H F l xs/\gk M H F b zs/\xs.length+zs.length<=sizeLine/\∀p,H p=none->Q (.ref p) (upd H p (.lst (xs++zs)))
theorem BZ:aR X (binaryOp .Add) (AW (aB X)):=by
 intro pins s σ H x y v u Q I rx ry h;obtain⟨F,l,b,xs,zs,rfl,rfl,hH,hB,hz,q⟩:=h;cases rx;cases ry;obtain⟨its,n,sl,r,e,z⟩:=j8 I hH;obtain⟨NV,n2,Sk,r2,e2,z2⟩:=j8 I hB;have h1:=r.length;have h2:=r2.length;refine adz ⟨_,e,rfl⟩ ⟨_,e2,rfl⟩ noFill_list_add seq_list_add PySem.F.slot_list_add PySem.F.entry_list_add (PySem.F.args_list_add_2 _ _) (BX l its.toArray n sl b NV.toArray n2 Sk (by rw[Da,Da];omega)) ⟨e,e2,?_⟩
 have ea:its.toArray++NV.toArray=(its++NV).toArray:=by simp
 rw[ea];exact⟨.ref _,_,I.sZ (t':=s.toks) (r.append r2) (by rw[Fk];omega),rfl,q _ I.fresh⟩
noncomputable def xY(M:Md):R2:=λx y H Q=>(L2.gm λi j=>.int (i+j)) x y H Q\/(∃i j,x=.str i/\y=.str j/\i.length+j.length<=sizeLine/\Q (.str (i++j)) H)\/AW M x y H Q\/L2.AU M.K x y H Q
theorem bp:aR X (binaryOp .Add) (xY (aB X)):=L2.aR.or L2.bp (L2.aR.or L2.Jk (L2.aR.or BZ L2.CG))
theorem qL(tr:∀p,F p->∃o,H p=some o)(h:H p=none):¬F p:=λf=>by obtain⟨o,e⟩:=tr p f;rw[h]at e;cases e
theorem i4(tr:∀p,F p->∃o,H p=some o)(h:H p=none)(r:ai M H F ds xs):Rep M (upd H p (.lst xs)) F (.lst ds) (.ref p):=by
 simp only[Rep];exact⟨p,xs,rfl,.inl ⟨qL tr h,.inl L2.bX⟩,r.mv (.same (aj.cN h _))⟩
theorem q8(tr:∀p,F p->∃o,H p=some o)(h:H p=none)(r:ai M H F ds xs):Rep M (upd H p (.tup xs)) F (.tup ds) (.ref p):=by
 simp only[Rep];exact⟨p,xs,rfl,.inl ⟨qL tr h,.inl L2.bX⟩,r.mv (.same (aj.cN h _))⟩
theorem br:cU M aQ (xY M):=by
 intro F H x y a b d Q tr ra rb e q;unfold aQ at e;split at e
 ·cases e
  exact .inl ⟨_,_,bo ra,bo rb,q _ _ (aj.refl _) de⟩
 ·split at e
  ·cases e
   exact .inr (.inl ⟨_,_,iT ra,iT rb,by assumption,q _ _ (aj.refl _) oA⟩)
  ·cases e
 ·split at e
  ·rename_i hz
   cases e;simp only[Rep]at ra rb;obtain⟨l,xs,rfl,h1,r1⟩:=ra;obtain⟨m,zs,rfl,h2,r2⟩:=rb;refine .inr (.inr (.inl ⟨F,l,m,xs,zs,rfl,rfl,h1,h2,by rw[<-r1.length, <-r2.length];exact hz,λp hp=>q _ _ (aj.cN hp _) (i4 tr hp (r1.append r2))⟩))
  ·cases e
 ·split at e
  ·rename_i hz
   cases e;simp only[Rep]at ra rb;obtain⟨l,xs,rfl,h1,r1⟩:=ra;obtain⟨m,zs,rfl,h2,r2⟩:=rb;have l1:=r1.length;have l2:=r2.length;refine .inr (.inr (.inr ⟨l,m,xs,zs,rfl,rfl,h1.sq,h2.sq,?_,by rw[<-l1, <-l2];exact hz.2,λe0=>?_,λ_ p hp=>q _ _ (aj.cN hp _) (q8 tr hp (r1.append r2))⟩))
   ·intro e0
    subst e0;have:=hz.1;rename_i as bs;cases as with
    |nil=>cases this
    |cons _ _=>simp at l1
   ·subst e0
    rename_i as bs;cases bs with
    |cons _ _=>simp at l2
    | nil=>
     refine q _ _ (aj.refl _) ?_;rw[On];simp only[Rep];exact⟨l,xs,rfl,h1,r1⟩
  ·cases e
 ·cases e
theorem jW(h:XE X a fa):XE X (.BoolOp op [a] pos) fa:=⟨have h:=h.out;L2.BW h⟩
theorem i5(ha:XE X a fa)(hb:XE X (.BoolOp .And (b::rest) pos) fb):XE X (.BoolOp .And (a::b::rest) pos) (gn fa fb):=⟨have ha:=ha.out;have hb:=hb.out;bw (L2.BQ ha hb) λσ H Q=>by
  rintro⟨ρ,F,d,hr,e,q⟩
  obtain⟨a,ea,e⟩:=ao.mp e;refine⟨ρ,F,a,hr,ea,λx H1 s1 rx=>?_⟩;split at e
  ·exact⟨true,hZ rx,by rw[DM rfl];exact⟨ρ,F,d,hr.same s1,e,λv H2 s2 rv=>q v H2 (s1.trans s2) rv⟩⟩
  ·cases e
   exact⟨false,hZ rx,by rw[Gc (by decide)];exact q _ _ s1 fq⟩
  ·cases e⟩
theorem Ag(ho:aR X (compareOp op) r)(OH:aR X (compareOp op') r')(hg:cU (aB X) g r)(Xq:cU (aB X) g' r')(ha:XE X a fa)(hb:XE X b fb)(hc:XE X c fc)(hm:lastMarks [op,op'] [b,c]=false:=by with_unfolding_all rfl):XE X (.Compare a [op,op'] [b,c] pos) (nq g g' fa fb fc):=⟨have ha:=ha.out;have hb:=hb.out;have hc:=hc.out;bw (L2.Ee ho OH ha hb hc hm) λσ H Q=>by
  rintro⟨ρ,F,d,hr,e,q⟩
  obtain⟨a,ea,e⟩:=ao.mp e;obtain⟨b,eb,e⟩:=ao.mp e;obtain⟨z,ez,e⟩:=ao.mp e;refine⟨ρ,F,a,hr,ea,λx H1 s1 rx=>⟨ρ,F,b,hr.same s1,eb,λy H2 s2 ry=>?_⟩⟩;refine hg F H2 x y a b z _ ((hr.same s1).same s2).aV (rx.mv (.same s2)) ry ez λv H3 s3 rv=>?_;split at e
  ·obtain⟨w,ew,e⟩:=ao.mp e
   refine⟨true,hZ rv,?_⟩;rw[DM rfl];refine⟨ρ,F,w,((hr.same s1).same s2).same s3,ew,λu H4 s4 ru=>?_⟩;exact Xq F H4 y u b w d Q ((((hr.same s1).same s2).same s3).same s4).aV (ry.mv (.same (s3.trans s4))) ru e λv H5 s5 rv=>q v H5 (s1.trans (s2.trans (s3.trans (s4.trans s5)))) rv
  ·cases e
   exact⟨false,hZ rv,by rw[Gc (by decide)];exact q _ _ (s1.trans (s2.trans s3)) fq⟩
  ·cases e⟩
theorem KP(r:Rep M H F a x)(e:truth a=.ok t):L2.uH M.K x H t:=by
 cases a with
 |aP=>cases e;cases wD r;rfl
 |bl b=>cases e;cases hZ r;rfl
 |int i=>cases e;cases bo r;rfl
 | str z=>
  unfold truth at e;dsimp only at e;split at e
  ·rename_i hz
   cases e;cases iT r;refine⟨hz,?_⟩;rw[acF];simp
  ·cases e
 | tup ds=>
  cases e;simp only[Rep]at r;obtain⟨p,xs,rfl,h,rs⟩:=r;refine .inr (.inl ⟨xs,h.sq,?_⟩);have:=rs.length;cases ds<;>cases xs<;>simp at this ⊢
 | lst ds=>
  cases e;simp only[Rep]at r;obtain⟨p,xs,rfl,h,rs⟩:=r;refine .inl ⟨xs,h.sq,?_⟩;have:=rs.length;cases ds<;>cases xs<;>simp at this ⊢
 |aL ks ds=>cases e
 |bN _ _ _=>cases e
theorem cF(ha:XE X a fa)(he:∀whole,isTrue a X.env whole=(do let v <-whole;standAt a.pos;holding [v] (truthy v)):=by exact El (by rfl)):XT X a (tV fa):=⟨have ha:=ha.out;sS (L2.IX ha he) λσ H Q=>by
  rintro⟨ρ,F,b,hr,e,q⟩
  obtain⟨a,ea,e⟩:=ao.mp e;exact⟨ρ,F,a,hr,ea,λx H1 s1 rx=>⟨b,KP rx e,q H1 s1⟩⟩⟩
def iC(g:D->D->R D):Prop:=∀a b d,g a b=.ok d->∃k,d=.bl k
theorem bO(ho:aR X (compareOp op) r)(hg:cU (aB X) g r)(hB:iC g)(ha:XE X a fa)(hb:XE X b fb)(hm:behindInMarks op b=false:=by first|exact L2.xl _|rfl):XT X (.Compare a [op] [b] pos) (tV (e2 g fa fb)):=⟨have ha:=ha.out;have hb:=hb.out;sS (L2.GV ho ha hb hm) λσ H Q=>by
  rintro⟨ρ,F,t,hr,e,q⟩
  obtain⟨d,ed,e⟩:=ao.mp e;refine qv hg ⟨ρ,F,d,hr,ed,λv H1 s1 rv=>?_⟩;obtain⟨a,ea,ed⟩:=ao.mp ed;obtain⟨b,eb,ed⟩:=ao.mp ed;obtain⟨k,rfl⟩:=hB _ _ _ ed;cases e;exact⟨_,hZ rv,q H1 s1⟩⟩
theorem cE(ha:XT X a c):XT X (.UnaryOp .Not a pos) (bD c):=⟨have ha:=ha.out;sS (L2.IC ha) λσ H Q=>by
  rintro⟨ρ,F,t,hr,e,q⟩
  obtain⟨b,eb,e⟩:=ao.mp e;cases e;exact⟨ρ,F,b,hr,eb,λH1 s1=>q H1 s1⟩⟩
abbrev JW(X:Cx)(e:Expr)(c:bg):Prop:=PW X e (vh (aB X) c)
structure XW(X:Cx)(e:Expr)(f:bg):Prop where
 out:JW X e f
theorem oH(ha:XT X a c):XW X (.BoolOp .And [a] pos) c:=⟨have ha:=ha.out;L2.GS ha⟩
theorem gQ(ha:XT X a c):XW X (.BoolOp .Or [a] pos) c:=⟨have ha:=ha.out;L2.Eu ha⟩
theorem kK(ha:XT X a c)(hb:XW X (.BoolOp .And (b::rest) pos) c'):XW X (.BoolOp .And (a::b::rest) pos) (eO c c'):=⟨have ha:=ha.out;have hb:=hb.out;yY (L2.HX ha hb) λσ H Q=>by
  rintro⟨ρ,F,t,hr,e,q⟩
  obtain⟨b,eb,e⟩:=ao.mp e;refine⟨ρ,F,b,hr,eb,λH1 s1=>?_⟩;split at e
  ·rename_i h;rw[DM h];exact⟨ρ,F,t,hr.same s1,e,λH2 s2=>q H2 (s1.trans s2)⟩
  ·rename_i h;rw[Gc h];cases e;exact q H1 s1⟩
theorem eZ(ha:XT X a c)(hb:XW X (.BoolOp .Or (b::rest) pos) c'):XW X (.BoolOp .Or (a::b::rest) pos) (ck c c'):=⟨have ha:=ha.out;have hb:=hb.out;yY (L2.Gv ha hb) λσ H Q=>by
  rintro⟨ρ,F,t,hr,e,q⟩
  obtain⟨b,eb,e⟩:=ao.mp e;refine⟨ρ,F,b,hr,eb,λH1 s1=>?_⟩;split at e
  ·rename_i h;rw[DM h];cases e;exact q H1 s1
  ·rename_i h;rw[Gc h];exact⟨ρ,F,t,hr.same s1,e,λH2 s2=>q H2 (s1.trans s2)⟩⟩
theorem eJ(h:XW X e c):XT X e c:=⟨have h:=h.out;L2.PW.pt h⟩
theorem sI(ha:XE X a fa):XE X (.UnaryOp .Not a pos) (e1 iK fa):=⟨have ha:=ha.out;bw (L2.Jj ha) λσ H Q=>by
  rintro⟨ρ,F,d,hr,e,q⟩
  obtain⟨a,ea,e⟩:=ao.mp e;refine⟨ρ,F,a,hr,ea,λx H1 s1 rx=>?_⟩;unfold iK at e;split at e
  ·cases e;exact⟨_,hZ rx,q _ _ s1 fq⟩
  ·cases e⟩
theorem DH(hc:XT X c fc)(ha:XE X a fa)(hb:XE X b fb):XE X (.IfExp c a b pos) (p9 fc fa fb):=⟨have hc:=hc.out;have ha:=ha.out;have hb:=hb.out;bw (L2.CV hc ha hb) λσ H Q=>by
  rintro⟨ρ,F,d,hr,e,q⟩
  obtain⟨t,et,e⟩:=ao.mp e;refine⟨ρ,F,t,hr,et,λH1 s1=>?_⟩;split at e
  ·rename_i h;rw[DM h];exact⟨ρ,F,d,hr.same s1,e,λv H2 s2 rv=>q v H2 (s1.trans s2) rv⟩
  ·rename_i h;rw[Gc h];exact⟨ρ,F,d,hr.same s1,e,λv H2 s2 rv=>q v H2 (s1.trans s2) rv⟩⟩
theorem gE:JA X [] (eList []):=kq L2.hV λσ H Q ⟨ρ,F,ds,hr,e,q⟩=>by cases e;exact q [] H (aj.refl H) ai.nil
theorem dO(ha:JE X e f)(hr:JA X es (eList fs))(hs:starEach (e::es) X.env=(false,eval e X.env)::starEach es X.env:=by rfl):JA X (e::es) (eList (f::fs)):=
 kq (L2.fz ha hr hs) λσ H Q=>by
  rintro⟨ρ,F,ds,hr,e,q⟩
  obtain⟨a,ea,e⟩:=ao.mp e;obtain⟨as,Tg,e⟩:=ao.mp e;cases e;exact⟨ρ,F,a,hr,ea,λx H1 s1 rx=>⟨ρ,F,as,hr.same s1,Tg,λxs H2 s2 rs=>q _ H2 (s1.trans s2) (ai.cons (rx.mv (.same s2)) rs)⟩⟩
theorem ja:∀ {fs:List Ex} {ρ:En} {ds:List D},eList fs ρ=.ok ds->ds.length=fs.length
 |[],_,_,h=>by cases h;rfl
 | f::fs,_,_,h=>by
  obtain⟨a,_,h⟩:=ao.mp h;obtain⟨as,h2,h⟩:=ao.mp h;cases h;simp[ja h2]
theorem w4(h:XA X es (eList fs))(hl:fs.length<=1000:=by decide):XE X (.Tuple es k pos) (jo fs):=⟨have h:=h.out;bw (L2.AB h) λσ H Q=>by
  rintro⟨ρ,F,d,hr,e,q⟩
  obtain⟨as,ea,e⟩:=ao.mp e;cases e;refine⟨ρ,F,as,hr,ea,λxs H1 s1 rs=>⟨?_,λp hp=>q _ _ (s1.trans (aj.cN hp _)) (q8 (hr.same s1).aV hp rs)⟩⟩;rw[<-rs.length,ja ea];exact S3 hl (by decide)⟩
theorem dG(h:XA X es (eList fs))(hl:fs.length<=1000:=by decide):XE X (.List es pos) (bA fs):=⟨have h:=h.out;bw (L2.qE h) λσ H Q=>by
  rintro⟨ρ,F,d,hr,e,q⟩
  obtain⟨as,ea,e⟩:=ao.mp e;cases e;refine⟨ρ,F,as,hr,ea,λxs H1 s1 rs=>⟨?_,λp hp=>q _ _ (s1.trans (aj.cN hp _)) (i4 (hr.same s1).aV hp rs)⟩⟩;rw[<-rs.length,ja ea];exact S3 hl (by decide)⟩
theorem tG(I:Inv X pins σ H s)(e:H p=some (.dK kvs)):∃ob,Inv X pins σ (upd H p (.frz ob (.dK kvs))) s:=by
 obtain⟨z,y,vs,r,ob,es,ep,eo,c⟩:=I.aC p _ e;exact⟨ob,I.write (h':=s.heap) (t':=s.toks) (by rw[e];trivial) (.inl rfl) (λ_ _ _ q=>q) ⟨ob,eo⟩ ⟨eo,z,y,vs,r,ob,es,ep,eo,c⟩⟩
theorem xo(h:PE X e t')(hi:∀σ H Q,t σ H Q->t' σ H λv H'=>∃p kvs,v=.ref p/\H' p=some (.dK kvs)/\∀ob,Q v (upd H' p (.frz ob (.dK kvs)))):PE X e t:=by
 intro pins s σ H Q I q;refine L2.aM (h pins s σ H _ I (hi σ H Q q)) λu s1 ⟨x,H1,I1,rx,p,kvs,ex,e1,q1⟩=>?_;obtain⟨ob,I2⟩:=tG I1 e1;exact⟨x,_,I2,rx,q1 ob⟩
theorem Lf:XE X (.Dict [] [] pos) (nt [] []):=⟨ xo L2.u0 λσ H Q=>by
  rintro⟨ρ,F,d,hr,e,q⟩
  cases e;intro p hp;refine⟨p,[],rfl,L2.bX,λob=>?_⟩;rw[L2.zx];refine q _ _ (aj.cN hp _) ?_;simp only[Rep];exact⟨p,[],rfl,.inl ⟨qL hr.aV hp,ob,L2.bX⟩,rfl,ai.nil⟩⟩
theorem qS{α β:Type}{xs:List α}{ys:List β}{i:Int}{x:α}(hl:xs.length=ys.length)(h:b0 xs i=some x):∃j y,cy ys.length i=some j/\xs[j]? =some x/\ys[j]? =some y/\b0 ys i=some y:=by
 unfold b0 at h ⊢;rw[hl]at h;cases e:cy ys.length i with
 |none=>rw[e]at h;cases h
 | some j=>
  rw[e]at h;have hx:xs[j]? =some x:=h;obtain⟨hj,_⟩:=il.mp hx;have hy:j<ys.length:=by omega
  exact⟨j,ys[j],rfl,hx,DF hy,by simp[hy]⟩
theorem wm:cU M jJ (L2.rh M.K):=by
 intro F H x y a b d Q tr ra rb e q;unfold jJ at e;split at e
 ·split at e
  ·rename_i xs i _ v hv
   cases e;simp only[Rep]at ra;obtain⟨p,ys,rfl,h,rs⟩:=ra;obtain⟨j,y,_,h1,h2,h3⟩:=qS rs.length hv;obtain⟨z,hz,rz⟩:=rs.get h1;rw[h2]at hz;cases hz;exact .inl ⟨p,ys,_,y,rfl,bo rb,h.sq,h3,q _ _ (aj.refl _) rz⟩
  ·cases e
 ·split at e
  ·rename_i xs i _ v hv
   cases e;simp only[Rep]at ra;obtain⟨p,ys,rfl,h,rs⟩:=ra;obtain⟨j,y,_,h1,h2,h3⟩:=qS rs.length hv;obtain⟨z,hz,rz⟩:=rs.get h1;rw[h2]at hz;cases hz;exact .inr (.inl ⟨p,ys,_,y,rfl,bo rb,h.sq,h3,q _ _ (aj.refl _) rz⟩)
  ·cases e
 ·split at e
  ·split at e
   ·rename_i hz _ c hc
    cases e;exact .inr (.inr ⟨_,_,c,iT ra,bo rb,hz,hc,q _ _ (aj.refl _) oA⟩)
   ·cases e
  ·cases e
 ·cases e
theorem sx(n d:Nat)(o:Option Int):HT.aW n d o=aW n d o:=by cases o<;>rfl
theorem uB(xs:List V)(lo hi:Option Int):L2.jf xs lo hi=cut xs lo hi:=by unfold L2.jf cut;simp only[sx]
theorem ai.cut(lo hi:Option Int)(r:ai M H F ds xs):ai M H F (cut ds lo hi) (PL.cut xs lo hi):=by
 unfold PL.cut;rw[r.length];exact(r.drop _).take _
inductive Bz(M:Md)(f:En->R (Option Int))(σ:L2.St)(H:Hp)(Q:(Option Int->Hp->Prop)):Prop
 |mk:∀ρ F o,bf M H F σ ρ->f ρ=.ok o->(∀H',aj H H'->Q o H')->Bz M f σ H Q
abbrev JO(X:Cx)(e:Option Expr)(f:Option Ex):Prop:=L2.PO X e (Bz (aB X) (gR f))
structure XO(X:Cx)(e:Option Expr)(f:Option Ex):Prop where
 out:JO X e f
theorem iU:XO X none none:=⟨ λpins s σ H Q I=>by
 rintro⟨ρ,F,o,hr,e,q⟩
 cases e;exact L2.IM pins s σ H Q I (q H (aj.refl H))⟩
theorem c8(h:XE X e f):XO X (some e) (some f):=⟨have h:=h.out;λpins s σ H Q I=>by
 rintro⟨ρ,F,o,hr,e,q⟩
 obtain⟨a,ea,e⟩:=ao.mp e;refine L2.HB h pins s σ H Q I ⟨ρ,F,a,hr,ea,λx H1 s1 rx=>?_⟩;split at e
 ·cases e;exact⟨_,bo rx,q H1 s1⟩
 ·cases e⟩
theorem gJ(ha:XE X a fa)(hl:XO X lo fl)(hh:XO X hi fh):XE X (.Subscript a (.Slice lo hi none p2) pos) (cA fa fl fh):=⟨have ha:=ha.out;have hl:=hl.out;have hh:=hh.out;bw (L2.yV (L2.iZ.or L2.yW L2.qW) ha hl hh) λσ H Q=>by
  rintro⟨ρ,F,d,hr,e,q⟩
  obtain⟨a,ea,e⟩:=ao.mp e;obtain⟨l,el,e⟩:=ao.mp e;obtain⟨h,eh,e⟩:=ao.mp e;refine⟨ρ,F,a,hr,ea,λx H1 s1 rx=>⟨ρ,F,l,hr.same s1,el,λH2 s2=>⟨ρ,F,h,(hr.same s1).same s2,eh,λH3 s3=>?_⟩⟩⟩;have Rw:=rx.mv (.same (s2.trans s3));have tr:=(((hr.same s1).same s2).same s3).aV;have QJ:=s1.trans (s2.trans s3);unfold j0 at e;split at e
  ·cases e
   simp only[Rep]at Rw;obtain⟨p,xs,rfl,h1,rs⟩:=Rw;refine .inl ⟨p,xs,rfl,h1.sq,λb hb=>?_⟩;rw[uB];exact q _ _ (QJ.trans (aj.cN hb _)) (i4 tr hb (rs.cut _ _))
  ·split at e
   ·cases e
   ·rename_i hw
    cases e;simp only[Rep]at Rw;obtain⟨p,xs,rfl,h1,rs⟩:=Rw;refine .inr ⟨p,xs,rfl,h1.sq,?_,λb hb=>?_⟩
    ·rw[sx,sx, <-rs.length];exact hw
    ·rw[uB]
     exact q _ _ (QJ.trans (aj.cN hb _)) (q8 tr hb (rs.cut _ _))
  ·cases e⟩
theorem u6(hg:gF M g r)(h:tP M (aw g fs) σ H Q):L2.uF r (lR M (eList fs)) σ H Q:=by
 obtain⟨ρ,F,d,hr,e,q⟩:=h;obtain⟨as,ea,e⟩:=ao.mp e;exact⟨ρ,F,as,hr,ea,λxs H1 s1 rs=>hg F H1 xs as d Q (hr.same s1).aV rs e λv H2 s2 rv=>q v H2 (s1.trans s2) rv⟩
@[simp] noncomputable def g1(g:D->R D):List D->R D
 |[a]=>g a
 |_=>.bad
@[simp] noncomputable def g2(g:D->D->R D):List D->R D
 |[a,b]=>g a b
 |_=>.bad
theorem zE(g:D->R D)(f:Ex):e1 g f=aw (g1 g) [f]:=by
 funext ρ;show(f ρ).bind g=((f ρ).bind λx=>R.bind (R.ok []) λxs=>R.ok (x::xs)).bind (g1 g);cases f ρ<;>rfl
theorem Jf(g:D->D->R D)(f f':Ex):e2 g f f'=aw (g2 g) [f,f']:=by
 funext ρ;show(f ρ).bind _=((f ρ).bind λx=>((f' ρ).bind λy=>R.bind (R.ok []) λys=>R.ok (y::ys)).bind λxs=>R.ok (x::xs)).bind (g2 g);cases f ρ with
 |ok a=>cases f' ρ<;>rfl
 |_=>rfl
theorem ai.one(r:ai M H F [d] xs):∃x,xs=[x]/\Rep M H F d x:=by
 simp only[ai]at r;obtain⟨x,t,rfl,h,rfl⟩:=r;exact⟨x,rfl,h⟩
theorem ai.two(r:ai M H F [d,e] xs):∃x y,xs=[x,y]/\Rep M H F d x/\Rep M H F e y:=by
 simp only[ai]at r;obtain⟨x,t,rfl,h,y,u,rfl,h2,rfl⟩:=r;exact⟨x,y,rfl,h,h2⟩
theorem bT{X:L2.Cx}{pos:Pos}{g:D->R D}{r:List V->Hp->VK->Prop}{x:Str}{id:String}{a:Expr}{fa:Ex}{p:Pos}(hc:bq X (.builtin id) r)(hg:gF (aB X) (g1 g) r)(hm:X.mg x=none)(hv:bootBuiltins x=some (.builtin id))(ha:XE X a fa)(RP:L2.Gl X x:=by rfl)(hs:starEach [a] X.env=(false,eval a X.env)::starEach [] X.env:=by exact a9 (by rfl))(hn:x≠"__name__":=by decide)(Oz:gV x:=by decide):XE X (.Call (.Name x p) [a] [] pos) (e1 g fa):=⟨have ha:=ha.out;by
 rw[zE];exact bw (L2.mz hc RP hm hv (dO ha gE hs) hn Oz hs) λσ H Q h=>u6 hg h⟩
theorem IG{id:String}(hc:bq X (.builtin id) r)(hg:gF (aB X) (g2 g) r)(hm:X.mg x=none)(hv:bootBuiltins x=some (.builtin id))(ha:XE X a fa)(hb:XE X b fb)(RP:L2.Gl X x:=by rfl)(hs:starEach [a,b] X.env=(false,eval a X.env)::starEach [b] X.env:=by exact a9 (by rfl))(NU:starEach [b] X.env=(false,eval b X.env)::starEach [] X.env:=by exact a9 (by rfl))(hn:x≠"__name__":=by decide)(Oz:gV x:=by decide):XE X (.Call (.Name x p) [a,b] [] pos) (e2 g fa fb):=⟨have ha:=ha.out;have hb:=hb.out;by
 rw[Jf];exact bw (L2.mz hc RP hm hv (dO ha (dO hb gE NU) hs) hn Oz hs (by rw[NU];rfl)) λσ H Q h=>u6 hg h⟩
theorem kX{X:L2.Cx}{pos:Pos}{g:D->R D}{r:List V->Hp->VK->Prop}{x:Str}{T:String}{a:Expr}{fa:Ex}{p:Pos}(hc:bq X (.type T) r)(hg:gF (aB X) (g1 g) r)(hm:X.mg x=none)(hv:bootBuiltins x=some (.type T))(ha:XE X a fa)(RP:L2.Gl X x:=by rfl)(hs:starEach [a] X.env=(false,eval a X.env)::starEach [] X.env:=by exact a9 (by rfl))(hn:x≠"__name__":=by decide)(Oz:gV x:=by decide):XE X (.Call (.Name x p) [a] [] pos) (e1 g fa):=⟨have ha:=ha.out;by
 rw[zE];exact bw (L2.sV hc RP hm hv (dO ha gE hs) hn Oz hs) λσ H Q h=>u6 hg h⟩
def vv(M:Md):List V->Hp->VK->Prop:=λxs H Q=>(∃p ys,xs=[.ref p]/\(aU M.K H p ys\/bj M.K H p ys)/\Q (.int ys.length) H)\/(∃z,xs=[.str z]/\z.length<=sizeLine/\Q (.int z.length) H)
theorem fE:bq X (.builtin "len") (vv (aB X)):=L2.bq.or L2.Ap L2.EG
theorem fR:gF M (g1 cC) (vv M):=by
 intro F H xs as d Q tr rs e q;unfold g1 at e;split at e
 ·obtain⟨x,rfl,r⟩:=rs.one
  unfold cC at e;split at e
  ·cases e
   simp only[Rep]at r;obtain⟨p,ys,rfl,h,rs⟩:=r;exact .inl ⟨p,ys,rfl,.inl h.sq,q _ _ (aj.refl _) (by rw[<-rs.length];exact de)⟩
  ·cases e
   simp only[Rep]at r;obtain⟨p,ys,rfl,h,rs⟩:=r;exact .inl ⟨p,ys,rfl,.inr h.sq,q _ _ (aj.refl _) (by rw[<-rs.length];exact de)⟩
  ·split at e
   ·cases e
    exact .inr ⟨_,by rw[iT r],by assumption,q _ _ (aj.refl _) de⟩
   ·cases e
  ·cases e
 ·cases e
theorem zY:gF M (g1 kF) (λxs H Q=>(∃i,xs=[.int i]/\Q (.int i) H)\/∃k,xs=[.bl k]/\Q (.int (if k then 1 else 0)) H):=by
 intro F H xs as d Q tr rs e q;unfold g1 at e;split at e
 ·obtain⟨x,rfl,r⟩:=rs.one
  unfold kF at e;split at e
  ·cases e;exact .inl ⟨_,by rw[bo r],q _ _ (aj.refl _) de⟩
  ·cases e;exact .inr ⟨_,by rw[hZ r],q _ _ (aj.refl _) de⟩
  ·cases e
 ·cases e
theorem sX:gF M (g1 iQ) (λxs H Q=>∃p ys,xs=[.ref p]/\(aU M.K H p ys\/bj M.K H p ys)/\∀l,H l=none->Q (.ref l) (upd H l (.lst ys))):=by
 intro F H xs as d Q tr rs e q;unfold g1 at e;split at e
 ·obtain⟨x,rfl,r⟩:=rs.one
  unfold iQ at e;split at e
  ·cases e
   simp only[Rep]at r;obtain⟨p,ys,rfl,h,rs⟩:=r;exact⟨p,ys,rfl,.inl h.sq,λl hl=>q _ _ (aj.cN hl _) (i4 tr hl rs)⟩
  ·cases e
   simp only[Rep]at r;obtain⟨p,ys,rfl,h,rs⟩:=r;exact⟨p,ys,rfl,.inr h.sq,λl hl=>q _ _ (aj.cN hl _) (i4 tr hl rs)⟩
  ·cases e
 ·cases e
theorem y7:gF M (g1 qw) (λxs H Q=>∃p ys,xs=[.ref p]/\((aU M.K H p ys/\∀l,H l=none->Q (.ref l) (upd H l (.tup ys)))\/(bj M.K H p ys/\Q (.ref p) H))):=by
 intro F H xs as d Q tr rs e q;unfold g1 at e;split at e
 ·obtain⟨x,rfl,r⟩:=rs.one
  unfold qw at e;split at e
  ·cases e
   simp only[Rep]at r;obtain⟨p,ys,rfl,h,rs⟩:=r;exact⟨p,ys,rfl,.inl ⟨h.sq,λl hl=>q _ _ (aj.cN hl _) (q8 tr hl rs)⟩⟩
  ·cases e
   have r':=r;simp only[Rep]at r;obtain⟨p,ys,rfl,h,rs⟩:=r;exact⟨p,ys,rfl,.inr ⟨h.sq,q _ _ (aj.refl _) r'⟩⟩
  ·cases e
 ·cases e
theorem CW:gF M (g2 pU) (λxs H Q=>∃i j,xs=[.int i,.int j]/\Q (.int (if j<i then j else i)) H):=by
 intro F H xs as d Q tr rs e q;unfold g2 at e;split at e
 ·obtain⟨x,y,rfl,r,r2⟩:=rs.two
  unfold pU at e;split at e
  ·cases e;exact⟨_,_,by rw[bo r,bo r2],q _ _ (aj.refl _) de⟩
  ·cases e
 ·cases e
end
section
variable{X:Cx}{M:Md}{H H':Hp}{F:YK}{σ:L2.St}{ρ:En}{pos:Pos}{pins:List (Addr×Obj)}{s:Shared}
mutual
noncomputable def pyd:D->PyData
 |.aP=>.none
 |.bl b=>.bool b
 |.int i=>.int i
 |.str x=>.str x
 |.tup xs=>.tuple (gg xs)
 |.lst xs=>.list (gg xs)
 |.aL _ _=>.dict []
 |.bN _ _ _=>.dict []
noncomputable def gg:List D->List PyData
 |[]=>[]
 |x::xs=>pyd x::gg xs
end
mutual
theorem wQ:∀(a b:D),lay a=true->lay b=true->PyData.eqv (pyd a) (pyd b)=bV a b
 |.aP,b,_,hb=>by cases b<;>first|rfl|(simp[lay]at hb)
 |.bl _,b,_,hb=>by cases b<;>first|rfl|(simp[lay]at hb)
 |.int _,b,_,hb=>by cases b<;>first|rfl|(simp[lay]at hb)
 | .str x,b,_,hb=>by
  cases b with
  |str y=>show(x==y)=decide (x=y);rw[acF,aaG,Pi]
  |_=>first|rfl|(simp[lay]at hb)
 | .tup xs,b,ha,hb=>by
  cases b with
  |tup ys=>simp only[lay]at ha hb;exact vf xs ys ha hb
  |_=>first|rfl|(simp[lay]at hb)
 | .lst xs,b,ha,hb=>by
  cases b with
  |lst ys=>simp only[lay]at ha hb;exact vf xs ys ha hb
  |_=>first|rfl|(simp[lay]at hb)
 |.aL _ _,_,ha,_=>by simp[lay]at ha
 |.bN _ _ _,_,ha,_=>by simp[lay]at ha
theorem vf:∀(a b:List D),eB a=true->eB b=true->PyData.eqvAll (gg a) (gg b)=ki a b
 |[],[],_,_=>rfl
 |[],_::_,_,_=>rfl
 |_::_,[],_,_=>rfl
 | x::xs,y::ys,ha,hb=>by
  simp only[eB,FB]at ha hb;show(PyData.eqv (pyd x) (pyd y)&&PyData.eqvAll (gg xs) (gg ys))=(bV x y&&ki xs ys);rw[wQ x y ha.1 hb.1,vf xs ys ha.2 hb.2]
end
mutual
theorem nu:∀a:D,lay a=true->(pyd a).canLay0=true
 |.aP,_=>rfl
 |.bl _,_=>rfl
 |.int _,_=>rfl
 |.str x,h=>by simp only[lay]at h;exact h
 |.tup xs,h=>by simp only[lay]at h;exact sR xs h
 |.lst xs,h=>by simp only[lay]at h;exact sR xs h
 |.aL _ _,h=>by simp[lay]at h
 |.bN _ _ _,h=>by simp[lay]at h
theorem sR:∀a:List D,eB a=true->PyData.canLayAll0 (gg a)=true
 |[],_=>rfl
 | x::xs,h=>by
  simp only[eB,FB]at h;show((pyd x).canLay0&&PyData.canLayAll0 (gg xs))=true;rw[nu x h.1,sR xs h.2];rfl
end
mutual
theorem o5:∀a:D,lay a=true->(pyd a).depth=dep a
 |.aP,_=>rfl
 |.bl _,_=>rfl
 |.int _,_=>rfl
 |.str _,_=>rfl
 |.tup xs,h=>by simp only[lay]at h;show PyData.depthAll (gg xs)+1=_;rw[uo xs h];simp only[dep]
 |.lst xs,h=>by simp only[lay]at h;show PyData.depthAll (gg xs)+1=_;rw[uo xs h];simp only[dep]
 |.aL _ _,h=>by simp[lay]at h
 |.bN _ _ _,h=>by simp[lay]at h
theorem uo:∀a:List D,eB a=true->PyData.depthAll (gg a)=jh a
 |[],_=>rfl
 | x::xs,h=>by
  simp only[eB,FB]at h;show max (pyd x).depth (PyData.depthAll (gg xs))=_;rw[o5 x h.1,uo xs h.2];simp only[jh]
end
mutual
theorem oK(I:Inv X pins σ H s):∀ {a:D} {x:V} {u:Value},lay a=true->Rep (aB X) H F a x->RelV x u->∃as,Reads s.heap u (pyd a) as
 |.aP,_,_,_,r,rx=>by cases wD r;cases rx;exact⟨_,.none⟩
 |.bl b,_,_,_,r,rx=>by cases hZ r;cases rx;exact⟨_,.bool b⟩
 |.int i,_,_,_,r,rx=>by cases bo r;obtain⟨t,rfl⟩:=rx;exact⟨_,.int i t⟩
 |.str z,_,_,_,r,rx=>by cases iT r;obtain⟨t,rfl⟩:=rx;exact⟨_,.str z t⟩
 | .tup ds,_,_,h,r,rx=>by
  simp only[lay]at h;simp only[Rep]at r;obtain⟨p,xs,rfl,t,rs⟩:=r;cases rx;obtain⟨its,rv,⟨o,e,c,n,d⟩,_⟩:=nO I t;obtain⟨as,ra⟩:=uK I h rs rv;exact⟨_,.tuple e c d (by simpa using ra)⟩
 | .lst ds,_,_,h,r,rx=>by
  simp only[lay]at h;simp only[Rep]at r;obtain⟨p,xs,rfl,t,rs⟩:=r;cases rx;obtain⟨its,n,sl,rv,e,_⟩:=j8 I t;obtain⟨as,ra⟩:=uK I h rs rv;exact⟨_,.list e rfl rfl (by simpa using ra)⟩
 |.aL _ _,_,_,h,_,_=>by simp[lay]at h
 |.bN _ _ _,_,_,h,_,_=>by simp[lay]at h
theorem uK(I:Inv X pins σ H s):∀ {as:List D} {xs:List V} {us:S1},eB as=true->ai (aB X) H F as xs->Vals xs us->∃bs,ReadsAll s.heap us (gg as) bs
 |[],_,_,_,r,rv=>by simp only[ai]at r;subst r;cases rv;exact⟨_,.nil⟩
 | a::as,_,_,h,r,rv=>by
  simp only[eB,FB]at h;simp only[ai]at r;obtain⟨x,t,rfl,r1,r2⟩:=r;cases rv with
  | cons q w=>
   obtain⟨bs,h1⟩:=oK I h.1 r1 q;obtain⟨cs,h2⟩:=uK I h.2 r2 w;exact⟨_,.cons h1 h2⟩
end
theorem FO(l:Addr)(es:Array DictEntry)(n:Nat)(dd:Option Addr)(sl:Array (S2))(b:Str)(u:Tok):
  Meets (Builtin.«dict.__eq__» ⟨[.ref l,.str b u],[]⟩) (λ_ R s=>s.heap.get? l=some {cls:=.type "dict",dict:=dd,data:=.dict es n,slots:=sl}/\R (.ok (.ret .notImplemented)) s):=
 .of_wp λprog w A R s h=>by obtain⟨hp,g,d,tk,os⟩:=s;obtain⟨hl,h⟩:=h;have f1:=F.sub_str_dict;wp_walk;exact⟨_,rfl,h⟩
theorem FX(b:Str)(u:Tok)(l:Addr)(es:Array DictEntry)(n:Nat)(dd:Option Addr)(sl:Array (S2)):
  Meets (Builtin.«str.__eq__» ⟨[.str b u,.ref l],[]⟩) (λ_ R s=>s.heap.get? l=some {cls:=.type "dict",dict:=dd,data:=.dict es n,slots:=sl}/\R (.ok (.ret .notImplemented)) s):=
 .of_wp λprog w A R s h=>by obtain⟨hp,g,d,tk,os⟩:=s;obtain⟨hl,h⟩:=h;wp_walk using abQ hl,wpAny_load hl;exact⟨_,rfl,h⟩
theorem La(b:Str)(u:Tok)(ho:s.heap.get? l=some o)(hc:o.cls=.type "dict")(hd:o.data=.dict es n)(hu:A.units<cLine):SeqAt.RcAt A s (.ref l) (.str b u) false:=λprog w E Q h=>by
 obtain⟨cls,dd,data,sl⟩:=o;simp only at hc hd;subst hc hd
 exact SeqAt.rc_eq_decline_or (k:=false) ⟨_,ho,rfl⟩ (adm s b u) (by decide) F.sub_str_dict F.slot_dict_eq F.slot_str_eq_refl
  (λ_ hq=>aaZ F.slot_dict_eq ⟨_,ho,rfl⟩ F.entry_dict_eq (F.args_dict_eq_2 _ _) (FO l es n dd sl b u) ⟨ho,hq⟩)
  (λ_ hq=>aaZ F.slot_str_eq_refl (adm s b u) F.entry_str_eq (F.args_str_eq_2 _ _) (FX b u l es n dd sl) ⟨ho,hq⟩)
  (λ_ hq=>wpAny_of_eq (rfl:isSame (.ref l) (.str b u)=pure false) hq) (.inr hu) h
theorem kD(I:Inv X pins σ H s)(h:gp (aB X) H F a kvs):kvs.length<=sizeLine/\(a==sysModules)=false/\∃vs,L2.KV kvs vs/\s.heap.DictOf (L2.cV X.prog X.w) a vs:=by
 rcases h with⟨_,ob,h⟩|⟨o,es,ep,vs,h1,h2,h3,h4,h5,h6,h7,h8,h9⟩
 ·exact L2.wI I.aC (.inr ⟨ob,h⟩)
 ·exact⟨h8,h9,vs,h7,o,es,ep,I.eU a o h1,h2,h3,h4,h5,h6⟩
def xt(M:Md):R2:=λx y H Q=>∃F a b,Rep M H F a x/\Rep M H F b y/\eF a b=true/\Q (.bl (bV a b)) H
def AZ(M:Md):R2:=λx y H Q=>∃F a b,Rep M H F a x/\Rep M H F b y/\gj a b=true/\Q (.bl (!bV a b)) H
theorem str_beq(a b:Str):(a==b)=decide (a=b):=by rw[acF,aaG,Pi]
theorem Hg(fa:flat a=true)(fb:flat b=true)(ra:Rep M H F a x)(rb:Rep M H F b y)(rx:RelV x u)(ry:RelV y v):SeqAt.RcAt A s u v (bV a b):=by
 cases a<;>(try cases fa)<;>cases b<;>(try cases fb)<;>simp only[Rep]at ra rb<;>subst ra<;>subst rb
 ·cases rx;cases ry;exact SeqAt.RcAt.none_none
 ·cases rx;cases ry;exact SeqAt.RcAt.none_bool _
 ·cases rx;obtain⟨t,rfl⟩:=ry;exact SeqAt.RcAt.none_int _ _
 ·cases rx;obtain⟨t,rfl⟩:=ry;exact SeqAt.RcAt.none_str _ _
 ·cases rx;cases ry;exact SeqAt.RcAt.bool_none _
 ·cases rx;cases ry;exact SeqAt.RcAt.bool_bool _ _
 ·cases rx;obtain⟨t,rfl⟩:=ry;exact SeqAt.RcAt.bool_int _ _ _
 ·cases rx;obtain⟨t,rfl⟩:=ry;exact SeqAt.RcAt.bool_str _ _ _
 ·obtain⟨t,rfl⟩:=rx;cases ry;exact SeqAt.RcAt.int_none _ _
 ·obtain⟨t,rfl⟩:=rx;cases ry;exact SeqAt.RcAt.int_bool _ _ _
 ·obtain⟨t,rfl⟩:=rx;obtain⟨t,rfl⟩:=ry;exact SeqAt.RcAt.int_int _ _ _ _
 ·obtain⟨t,rfl⟩:=rx;obtain⟨t,rfl⟩:=ry;exact SeqAt.RcAt.int_str _ _ _ _
 ·obtain⟨t,rfl⟩:=rx;cases ry;exact SeqAt.RcAt.str_none _ _
 ·obtain⟨t,rfl⟩:=rx;cases ry;exact SeqAt.RcAt.str_bool _ _ _
 ·obtain⟨t,rfl⟩:=rx;obtain⟨t,rfl⟩:=ry;exact SeqAt.RcAt.str_int _ _ _ _
 ·obtain⟨t,rfl⟩:=rx;obtain⟨t,rfl⟩:=ry;simp only[bV];rw[<-str_beq];exact SeqAt.RcAt.str_str _ _ _ _
theorem HJ(fa:flat a=true)(fb:flat b=true)(ra:Rep M H F a x)(rb:Rep M H F b y)(rx:RelV x u)(ry:RelV y v):SeqAt.RcNeAt A s u v (!bV a b):=by
 cases a<;>(try cases fa)<;>cases b<;>(try cases fb)<;>simp only[Rep]at ra rb<;>subst ra<;>subst rb
 ·cases rx;cases ry;exact SeqAt.RcNeAt.none_none
 ·cases rx;cases ry;exact SeqAt.RcNeAt.none_bool _
 ·cases rx;obtain⟨t,rfl⟩:=ry;exact SeqAt.RcNeAt.none_int _ _
 ·cases rx;obtain⟨t,rfl⟩:=ry;exact SeqAt.RcNeAt.none_str _ _
 ·cases rx;cases ry;exact SeqAt.RcNeAt.bool_none _
 ·cases rx;cases ry;exact SeqAt.RcNeAt.bool_bool _ _
 ·cases rx;obtain⟨t,rfl⟩:=ry;exact SeqAt.RcNeAt.bool_int _ _ _
 ·cases rx;obtain⟨t,rfl⟩:=ry;exact SeqAt.RcNeAt.bool_str _ _ _
 ·obtain⟨t,rfl⟩:=rx;cases ry;exact SeqAt.RcNeAt.int_none _ _
 ·obtain⟨t,rfl⟩:=rx;cases ry;exact SeqAt.RcNeAt.int_bool _ _ _
 ·obtain⟨t,rfl⟩:=rx;obtain⟨t,rfl⟩:=ry;exact SeqAt.RcNeAt.int_int _ _ _ _
 ·obtain⟨t,rfl⟩:=rx;obtain⟨t,rfl⟩:=ry;exact SeqAt.RcNeAt.int_str _ _ _ _
 ·obtain⟨t,rfl⟩:=rx;cases ry;exact SeqAt.RcNeAt.str_none _ _
 ·obtain⟨t,rfl⟩:=rx;cases ry;exact SeqAt.RcNeAt.str_bool _ _ _
 ·obtain⟨t,rfl⟩:=rx;obtain⟨t,rfl⟩:=ry;exact SeqAt.RcNeAt.str_int _ _ _ _
 ·obtain⟨t,rfl⟩:=rx;obtain⟨t,rfl⟩:=ry;simp only[bV];rw[<-str_beq];exact SeqAt.RcNeAt.str_str _ _ _ _
theorem Gr(ds:List D):((List.range (min ds.length 0)).all (λ_=>true)&&(ds.length==0))=bV (.tup ds) (.tup []):=by
 cases ds<;>simp
theorem yS(I:Inv X pins σ H s)(hu:A.units<cLine)(ra:Rep (aB X) H F (.tup ds) x)(rb:Rep (aB X) H F (.tup []) y)(rx:RelV x u)(ry:RelV y v):
  SeqAt.RcAt A s u v (bV (.tup ds) (.tup []))/\SeqAt.RcNeAt A s u v (!bV (.tup ds) (.tup [])):=by
 simp only[Rep]at ra rb;obtain⟨p,xs,rfl,h,rs⟩:=ra;obtain⟨p2,ZK,rfl,h2,SV⟩:=rb;cases rx;cases ry;simp only[ai]at SV;subst SV;obtain⟨its,rv,⟨o,e,c,n,d⟩,_⟩:=nO I h;obtain⟨NV,Rb,⟨o2,e2,c2,n2,d2⟩,_⟩:=nO I h2;cases Rb;have hl:its.toArray.size=ds.length:=by rw[Da, <-rv.length, <-rs.length]
 have z1:=SeqAt.RcAt.tuples (A:=A) (s:=s) (e:=λ_=>true) (l:=p) (b:=p2) ⟨o,e,c,n,d⟩ ⟨o2,e2,c2,n2,d2⟩ hu (λj _ h2=>by simp at h2)
 have z2:=SeqAt.RcNeAt.tuples (A:=A) (s:=s) (e:=λ_=>true) (l:=p) (b:=p2) ⟨o,e,c,n,d⟩ ⟨o2,e2,c2,n2,d2⟩ hu (λj _ h2=>by simp at h2)
 rw[<-Gr];rw[hl]at z1 z2;exact⟨z1,z2⟩
theorem uO(hu:X.A.units+64<cLine):aR X (compareOp .NotEq) (AZ (aB X)):=by
 intro pins s σ H x y v u Q I rx ry h;obtain⟨F,a,b,ra,rb,ok,q⟩:=h;have fin:EP X pins σ Q (.bool (!bV a b)) s:=⟨.bl _,H,I,rfl,q⟩;unfold gj at ok;rw[aaB,aaB,FB]at ok;rcases ok with(⟨fa,fb⟩|t)|l
 ·exact HJ fa fb ra rb rx ry _ _ _ _ fin
 ·unfold vt at t
  split at t
  ·exact(yS I (by omega) ra rb rx ry).2 _ _ _ _ fin
  ·cases t
 ·rw[FB,FB,Pi]at l
  obtain⟨⟨la,lb⟩,hd⟩:=l;obtain⟨as,h1⟩:=oK I la ra rx;obtain⟨bs,h2⟩:=oK I lb rb ry;refine SeqAt.compareNe_reads h1 h2 (nu a la) (nu b lb) (by rw[o5 a la,o5 b lb];omega) ?_
  rw[wQ a b la lb];exact fin
theorem eS(hu:X.A.units+64<cLine):aR X (compareOp .Eq) (xt (aB X)):=by
 intro pins s σ H x y v u Q I rx ry h;obtain⟨F,a,b,ra,rb,ok,q⟩:=h;have fin:EP X pins σ Q (.bool (bV a b)) s:=⟨.bl _,H,I,rfl,q⟩;unfold eF at ok;rw[aaB]at ok;rcases ok with ok|dc
 ·unfold gj at ok
  rw[aaB,aaB,FB]at ok;rcases ok with(⟨fa,fb⟩|t)|l
  ·exact Hg fa fb ra rb rx ry _ _ _ _ fin
  ·unfold vt at t
   split at t
   ·exact(yS I (by omega) ra rb rx ry).1 _ _ _ _ fin
   ·cases t
  ·rw[FB,FB,Pi]at l
   obtain⟨⟨la,lb⟩,hd⟩:=l;obtain⟨as,h1⟩:=oK I la ra rx;obtain⟨bs,h2⟩:=oK I lb rb ry;refine SeqAt.compareEq_reads h1 h2 (nu a la) (nu b lb) (by rw[o5 a la,o5 b lb];omega) ?_
   rw[wQ a b la lb];exact fin
 ·unfold zm at dc
  split at dc
  ·cases iT rb
   obtain⟨t,rfl⟩:=ry;simp only[Rep]at ra;obtain⟨p,xs,rfl,h,_⟩:=ra;cases rx;obtain⟨_,_,vs,_,o,es,ep,e1,e2,e3,_⟩:=kD I h;exact La _ t e1 e2.1 e3 (by omega) _ _ _ _ fin
  ·cases dc
theorem eP:cU M oEq (xt M):=by
 intro F H x y a b d Q tr ra rb e q;unfold oEq at e;split at e
 ·cases e;exact⟨F,a,b,ra,rb,by assumption,q _ _ (aj.refl _) fq⟩
 ·cases e
theorem vA:cU M iG (AZ M):=by
 intro F H x y a b d Q tr ra rb e q;unfold iG at e;split at e
 ·cases e;exact⟨F,a,b,ra,rb,by assumption,q _ _ (aj.refl _) fq⟩
 ·cases e
theorem fM:iC oEq:=λa b d h=>by unfold oEq at h;split at h<;>cases h;exact⟨_,rfl⟩
theorem wW:iC iG:=λa b d h=>by unfold iG at h;split at h<;>cases h;exact⟨_,rfl⟩
theorem A5:iC oLt:=λa b d h=>by unfold oLt at h;split at h<;>cases h;exact⟨_,rfl⟩
theorem AV:iC oLe:=λa b d h=>by unfold oLe at h;split at h<;>cases h;exact⟨_,rfl⟩
theorem tK:iC ia:=λa b d h=>by unfold ia at h;split at h<;>cases h;exact⟨_,rfl⟩
theorem ES:iC kH:=λa b d h=>by unfold kH at h;split at h<;>cases h;exact⟨_,rfl⟩
theorem tX:bootBuiltins "isinstance"=some (.builtin "isinstance"):=by decide+kernel
theorem cj:bootBuiltins "len"=some (.builtin "len"):=by decide+kernel
theorem Gs:bootBuiltins "min"=some (.builtin "min"):=by decide+kernel
theorem uk:bootBuiltins "int"=some (.type "int"):=by decide+kernel
theorem HF:bootBuiltins "bool"=some (.type "bool"):=by decide+kernel
theorem mw:bootBuiltins "list"=some (.type "list"):=by decide+kernel
theorem AD:bootBuiltins "tuple"=some (.type "tuple"):=by decide+kernel
theorem Er:bootBuiltins "dict"=some (.type "dict"):=by decide+kernel
noncomputable def mC:Ty->String
 |.int=>"int"|.bool=>"bool"|.str=>"str"|.tuple=>"tuple"|.list=>"list"|.dict=>"dict"
theorem kT(h:R.ok (D.bl a)=R.ok (D.bl b)):some a=some b:=by cases h;rfl
theorem Dp:bq X (.builtin "isinstance") (λxs H Q=>∃F d x b ty,xs=[x,.ty (mC ty)]/\Rep (aB X) H F d x/\lx ty d=.ok (.bl b)/\(∀c ns vs,d≠.bN c ns vs)/\Q (.bl b) H):=by
 intro pins s σ H xs us Q I r h;obtain⟨F,d,x,b,ty,rfl,rd,e,ne,q⟩:=h;obtain⟨u,w,rfl,ru,Ot⟩:=L2.vals2 r;cases (show w=Value.type (mC ty)from Ot)
 have fin:∀tk,EP X pins σ Q (.bool b) {s with toks:=tk}:=λtk=>⟨.bl _,H,I.tok tk,rfl,q⟩;have go:∀ {u t:Value} {hp:Heap->Prop},PySem.W.KitX X.K u t hp->hp s.heap->PySem.W.kitOne X.K t (.type (mC ty))=some b->u≠.builtin "__main__.__loader__#opaque"->wpAny (model X.prog X.w) X.A (call (.builtin "isinstance") [u,.type (mC ty)]) (EP X pins σ Q) X.xe s:=λk a z n=>PySem.W.kia_one k I.eU a z n fin;cases d with
 |aP=>cases wD rd;cases ru;exact go PySem.W.kitx_none True.intro (by clear go fin;cases ty<;>exact kT e) (λz=>nomatch z)
 |bl y=>cases hZ rd;cases ru;exact go PySem.W.kitx_bool True.intro (by clear go fin;cases ty<;>exact kT e) (λz=>nomatch z)
 |int i=>cases bo rd;obtain⟨t,rfl⟩:=ru;exact go PySem.W.kitx_int True.intro (by clear go fin;cases ty<;>exact kT e) (λz=>nomatch z)
 |str z=>cases iT rd;obtain⟨t,rfl⟩:=ru;exact go PySem.W.kitx_str True.intro (by clear go fin;cases ty<;>exact kT e) (λz=>nomatch z)
 | tup ds=>
  simp only[Rep]at rd;obtain⟨p,xs,rfl,h,_⟩:=rd;cases ru;obtain⟨its,_,⟨o,h1,h2,_⟩,_⟩:=nO I h;exact go PySem.W.kitx_tuple ⟨o,h1,h2⟩ (by clear go fin;cases ty<;>exact kT e) (λz=>nomatch z)
 | lst ds=>
  simp only[Rep]at rd;obtain⟨p,xs,rfl,h,_⟩:=rd;cases ru;obtain⟨its,n,sl,_,h1,_⟩:=j8 I h;exact go PySem.W.kitx_list ⟨_,h1,rfl⟩ (by clear go fin;cases ty<;>exact kT e) (λz=>nomatch z)
 | aL ks ds=>
  simp only[Rep]at rd;obtain⟨p,xs,rfl,h,_⟩:=rd;cases ru;obtain⟨_,_,vs,_,o,es,ep,e1,e2,e3,_⟩:=kD I h;exact go PySem.W.kitx_dict ⟨o,e1,e2.1⟩ (by clear go fin;cases ty<;>exact kT e) (λz=>nomatch z)
 |bN c ns vs=>exact absurd rfl (ne _ _ _)
theorem Fe(h:lx ty d=.ok r):∃b,r=.bl b:=by
 unfold lx at h;split at h<;>cases h<;>exact⟨_,rfl⟩
theorem yh{X:L2.Cx}{pos:Pos}(ty:Ty){a:Expr}{fa:Ex}{p p2:Pos}{T:Str}(ha:XE X a fa)(hm:X.mg "isinstance"=none)(TX:X.mg T=none)(VN:bootBuiltins T=some (.type (mC ty)))(hg:L2.Gl X "isinstance":=by rfl)(TR:L2.Gl X T:=by rfl)(hs:starEach [a,.Name T p2] X.env=(false,eval a X.env)::starEach [.Name T p2] X.env:=by exact a9 (by rfl))(NU:starEach [.Name T p2] X.env=(false,eval (.Name T p2) X.env)::starEach [] X.env:=by exact a9 (by rfl))(U7:T≠"__name__":=by decide)(SM:gV T:=by decide):XE X (.Call (.Name "isinstance" p) [a,.Name T p2] [] pos) (e1 (lx ty) fa):=⟨have ha:=ha.out;bw (L2.mz Dp hg hm tX (L2.fz ha (L2.fz (L2.yg (v:=.ty (mC ty)) TR TX VN rfl U7 SM) L2.hV NU) hs) (by decide) (by decide) hs (by rw[NU];rfl)) λσ H Q=>by
  rintro⟨ρ,F,d,hr,e,q⟩
  obtain⟨a,ea,e⟩:=ao.mp e;obtain⟨b,rfl⟩:=Fe e;refine⟨ρ,F,a,hr,ea,λx H1 s1 rx=>⟨F,a,x,b,ty,rfl,rx,e,?_,q _ _ s1 fq⟩⟩;intro c ns vs h;subst h;cases ty<;>cases e⟩
end
open L2 (PG cb TG)
inductive P4 where
 |f|t|u|v
 deriving DecidableEq
noncomputable def P4.toNat:P4->Nat
 |.f=>0
 |.t=>1
 |.u=>2
 |.v=>3
theorem P4.toNat_lt(b:P4):b.toNat<4:=by cases b<;>decide
structure Gf where
 g:Hp
 f:YK
 p:P4->Option V
noncomputable instance:CoeFun Gf (λ_=>YK):=⟨Gf.f⟩
def Pin(F0:Gf)(σ:L2.St)(ρ:En):Prop:=∀y:P4×V,F0.p y.1=some y.2->∀t,ρ[y.1.toNat]? =some (.on (.tr t))->σ[y.1.toNat]? =some (some y.2)
theorem Pin.set{F0:Gf}{σ:L2.St}{ρ:En}{i:Nat}{s:Slot}{v:Option V}(h:Pin F0 σ ρ)(hs:∀t,s≠.on (.tr t)):Pin F0 (σ.set i v) (ρ.set i s):=λw hw t e=>by
 rcases get_set e with⟨_,x,_⟩|⟨MJ,e⟩
 ·exact absurd x (hs t)
 ·rw[df MJ];exact h w hw t e
theorem Pin.vF(h:Pin F0 σ ρ)(hs:∀t,s≠.on (.tr t)):Pin F0 σ (ρ.set i s):=λw hw t e=>by
 rcases get_set e with⟨_,x,_⟩|⟨MJ,e⟩
 ·exact absurd x (hs t)
 ·exact h w hw t e
structure aF(M:Md)(G:Hp)(F0:Gf)(H:Hp)(F:YK)(σ:L2.St)(ρ:En):Prop where
 rs:bf M H F σ ρ
 sm:aj G H
 sub:∀a,F0 a->F a
 c9:∀a,F0 a->∃o,G a=some o
 own:∀(i:Nat) a,a0 ρ i->σ[i]? =some (some (.ref a))->G a=none
 di:∀(i:Nat) MU b,ρ[i]? =some (.on MU)->aX M H F σ ρ i b->G b=none
 pin:Pin F0 σ ρ
def lA(M:Md)(G:Hp)(F0:Gf)(H:Hp)(F:YK)(D:Ends):Fl->Prop
 |.next ρ'=>∀ME H' F',Mv F H F' H'->aF M G F0 H' F' ME ρ'->D.nx ME H'
 |.brk ρ'=>∀ME H' F',Mv F H F' H'->aF M G F0 H' F' ME ρ'->D.bk ME H'
 |.cont ρ'=>∀ME H' F',Mv F H F' H'->aF M G F0 H' F' ME ρ'->D.ct ME H'
 |.ret d=>∀v H' F',Mv F H F' H'->aj G H'->(∀a,F0 a->F' a)->Rep M H' F' d v->D.rt v H'
 |.dM d=>∀p H' F' xs ds,d=.lst ds->Mv F H F' H'->aj G H'->(∀a,F0 a->F' a)->H' p=none->ai M H' F' ds xs->D.rt (.ref p) (upd H' p (.lst xs))
 |.ee t=>∀v H' F1 F2 as,Mv F H F1 H'->aj G H'->(∀a,F0 a->F1 a)->(∀b∈as,G b=none)->as.Nodup->(∀b,F2 b↔F1 b\/b∈as)->au M H' F2 t v as->D.rt v H'
 |.gD i ρ'=>∀ME H' F' v,Mv F H F' H'->aF M G F0 H' F' ME ρ'->ME[i]? =some (some v)->D.rt v H'
 |.dS d ρ'=>∀ME H' F' v,Mv F H F' H'->aF M G F0 H' F' ME ρ'->Rep M H' F' d v->D.rt v H'
inductive dQ(M:Md)(G:Hp)(F0:Gf)(f:Sm)(D:Ends)(σ:L2.St)(H:Hp):Prop
 |mk:∀ρ F fl,aF M G F0 H F σ ρ->f ρ=.ok fl->lA M G F0 H F D fl->dQ M G F0 f D σ H
abbrev JS(X:Cx)(st:Stmt)(f:Sm):Prop:=∀F0:Gf,PS X st (dQ (aB X) F0.g F0 f)
structure XS(X:Cx)(e:Stmt)(f:Sm):Prop where
 out:JS X e f
abbrev ik(X:Cx)(Uy:List Stmt)(f:Sm):Prop:=∀F0:Gf,bC X Uy (dQ (aB X) F0.g F0 f)
structure gq(X:Cx)(e:List Stmt)(f:Sm):Prop where
 out:ik X e f
theorem cx(h:PS X e t')(hi:∀D σ H,t D σ H->t' D σ H):PS X e t:=λpins s σ H Q I q=>h pins s σ H Q I (hi Q σ H q)
theorem nv(h:bC X e t')(hi:∀D σ H,t D σ H->t' D σ H):bC X e t:=λpins s σ H Q I q=>h pins s σ H Q I (hi Q σ H q)
theorem Mv.refl:Mv F H F H:=λ_ _ n e=>⟨n,e⟩
section
variable{X:Cx}{M:Md}{G H H':Hp}{F0:Gf}{F F':YK}{σ:L2.St}{ρ:En}{pos:Pos}{DE:Ends}
theorem aF.same(r:aF M G F0 H F σ ρ)(h:aj H H'):aF M G F0 H' F σ ρ:=⟨r.rs.same h,r.sm.trans h,r.sub,r.c9,r.own,λi MU b e hb=>r.di i MU b e (r.rs.on.back (λ_ e=>e) rfl (λa u _ _ hu=>h _ _ hu) (λa o _ e=>h _ _ e) hb),r.pin⟩
theorem lA.mv(m:Mv F H F' H'):∀ {fl:Fl},lA M G F0 H F DE fl->lA M G F0 H' F' DE fl
 |.next _,h=>λME H2 F2 m2 r=>h ME H2 F2 (m.trans m2) r
 |.brk _,h=>λME H2 F2 m2 r=>h ME H2 F2 (m.trans m2) r
 |.cont _,h=>λME H2 F2 m2 r=>h ME H2 F2 (m.trans m2) r
 |.ret _,h=>λME H2 F2 m2 a b r=>h ME H2 F2 (m.trans m2) a b r
 |.dM _,h=>λp H2 F2 xs ds e m2 a b c r=>h p H2 F2 xs ds e (m.trans m2) a b c r
 |.ee _,h=>λv H2 F1 F2 as m2 a b c d e r=>h v H2 F1 F2 as (m.trans m2) a b c d e r
 |.gD _ _,h=>λME H2 F' v m2=>h ME H2 F' v (m.trans m2)
 |.dS _ _,h=>λME H2 F' v m2=>h ME H2 F' v (m.trans m2)
theorem zI:ik X [] (aN []):=λF0=>nv L2.FQ λD σ H=>by
 rintro⟨ρ,F,fl,r,e,q⟩
 cases e;exact q σ H F Mv.refl r
theorem IA:ik X [] bu:=zI
theorem Ln(hf:∀D σ H,dQ M G F0 f D σ H->t D σ H)(hg:∀D σ H,dQ M G F0 g D σ H->u D σ H)(D:Ends)(σ:L2.St)(H:Hp)(h:dQ M G F0 (zS f g) D σ H):L2.xh t u D σ H:=by
 obtain⟨ρ,F,fl,r,e,q⟩:=h;obtain⟨f1,e1,e⟩:=ao.mp e;refine hf _ _ _ ⟨ρ,F,f1,r,e1,?_⟩;cases f1 with
 |next Nm=>exact λPM H1 F1 m1 r1=>hg D PM H1 ⟨Nm,F1,fl,r1,e,q.mv m1⟩
 |ret d=>cases e;exact q
 |brk d=>cases e;exact q
 |cont d=>cases e;exact q
 |dM d=>cases e;exact q
 |ee d=>cases e;exact q
 |gD i ρ=>cases e;exact q
 |dS d ρ=>cases e;exact q
theorem av(h1:XS X st f)(h2:gq X rest (aN fs)):gq X (st::rest) (aN (f::fs)):=⟨have h1:=h1.out;have h2:=h2.out;λF0=>
 nv (L2.kl (h1 F0) (h2 F0)) λD σ H h=>Ln (λ_ _ _ h=>h) (λ_ _ _ h=>h) D σ H h⟩
theorem bc(h:XS X st f):gq X [st] f:=⟨have h:=h.out;λF0=>L2.FZ (h F0)⟩
theorem cM(hc:XT X c fc)(ha:gq X a fa)(hb:gq X b fb):XS X (.If c a b pos) (bH fc fa fb):=⟨have hc:=hc.out;have ha:=ha.out;have hb:=hb.out;λF0=>
 cx (L2.vd hc (ha F0) (hb F0)) λD σ H=>by
  rintro⟨ρ,F,fl,r,e,q⟩
  obtain⟨t,et,e⟩:=ao.mp e;refine⟨ρ,F,t,r.rs,et,λH1 s1=>?_⟩;split at e
  ·rename_i h;rw[DM h];exact⟨ρ,F,fl,r.same s1,e,q.mv (.same s1)⟩
  ·rename_i h;rw[Gc h];exact⟨ρ,F,fl,r.same s1,e,q.mv (.same s1)⟩⟩
theorem bh(ha:XE X a fa):XS X (.Return (some a) pos) (a8 fa):=⟨have ha:=ha.out;λF0=>
 cx (L2.mG ha) λD σ H=>by
  rintro⟨ρ,F,fl,r,e,q⟩
  obtain⟨d,ed,e⟩:=ao.mp e;cases e;exact⟨ρ,F,d,r.rs,ed,λv H1 s1 rv=>q v H1 F (.same s1) (r.sm.trans s1) r.sub rv⟩⟩
theorem rX(ha:XE X a fa)(hs:swapsWith a none pos.line X.env=pure false:=by exact cY (by rfl)):XS X (.Expr a pos) (jx fa):=⟨have ha:=ha.out;λF0=>
 cx (L2.l6 ha hs) λD σ H=>by
  rintro⟨ρ,F,fl,r,e,q⟩
  obtain⟨d,ed,e⟩:=ao.mp e;cases e;exact⟨ρ,F,d,r.rs,ed,λv H1 s1 rv=>q σ H1 F (.same s1) (r.same s1)⟩⟩
theorem vw:XS X st kU:=⟨ λF0=>cx L2.JQ λD σ H ⟨ρ,F,fl,r,e,q⟩=>by cases e⟩
inductive pP(M:Md)(G:Hp)(F0:Gf)(g:dZ)(v:V)(σ:L2.St)(H:Hp)(Q:(L2.St->Hp->Prop)):Prop
 |mk:∀ρ F d ρ',aF M G F0 H F σ ρ->Rep M H F d v->g d ρ=.ok ρ'->(∀ME,aF M G F0 H F ME ρ'->Q ME H)->pP M G F0 g v σ H Q
inductive rN(M:Md)(G:Hp)(F0:Gf)(g:List D->En->R En)(vs:List V)(σ:L2.St)(H:Hp)(Q:(L2.St->Hp->Prop)):Prop
 |mk:∀ρ F ds ρ',aF M G F0 H F σ ρ->ai M H F ds vs->g ds ρ=.ok ρ'->(∀ME,aF M G F0 H F ME ρ'->Q ME H)->rN M G F0 g vs σ H Q
abbrev JG(X:Cx)(e:Expr)(g:dZ):Prop:=∀F0,PG X e (pP (aB X) F0.g F0 g)
structure XG(X:Cx)(e:Expr)(f:dZ):Prop where
 out:JG X e f
abbrev x5(X:Cx)(es:P2)(g:List D->En->R En):Prop:=∀F0,cb X es (rN (aB X) F0.g F0 g)
structure mU(X:Cx)(e:P2)(f:List D->En->R En):Prop where
 out:x5 X e f
theorem zr(h:PG X e t')(hi:∀v σ H Q,t v σ H Q->t' v σ H Q):PG X e t:=λpins s σ H x u Q I rx q=>h pins s σ H x u Q I rx (hi x σ H Q q)
theorem Bi(h:cb X e t')(hi:∀v σ H Q,t v σ H Q->t' v σ H Q):cb X e t:=λpins s σ H x u Q I rx q=>h pins s σ H x u Q I rx (hi x σ H Q q)
theorem a0.jq(h:a0 (ρ.set i (.sh d)) j):i≠j/\a0 ρ j:=by
 rcases h with⟨ds,q⟩|⟨ks,ds,q⟩
 ·rcases get_set q with⟨_,x,_⟩|⟨MJ,q⟩
  ·cases x
  ·exact⟨MJ,.inl ⟨ds,q⟩⟩
 ·rcases get_set q with⟨_,x,_⟩|⟨MJ,q⟩
  ·cases x
  ·exact⟨MJ,.inr ⟨ks,ds,q⟩⟩
theorem aF.lI(r:aF M G F0 H F σ ρ)(h:Rep M H F d v):aF M G F0 H F (σ.set i (some v)) (ρ.set i (.sh d)) where
 rs:=r.rs.lI h
 sm:=r.sm
 sub:=r.sub
 c9:=r.c9
 own j a o e:=by
  obtain⟨ne,o⟩:=o.jq;rw[df ne]at e;exact r.own j a o e
 di j MU b e hb:=by
  rcases get_set e with⟨_,x,_⟩|⟨MJ,e⟩
  ·cases x
  ·exact r.di j MU b e (r.rs.on.back (λy ey=>by rw[df MJ]at ey;exact ey) (df MJ) (λa u _ _ hu=>hu) (λ_ _ _ e=>e) hb)
 pin:=r.pin.set λ_ h=>nomatch h
theorem aE(i:Nat)(hN:X.N.Nodup)(hi:X.N[i]? =some x:=by rfl)(hx:L2.Loc X.env.scope x:=by first|exact Or.inl rfl|exact Or.inr rfl)(hf:X.fn x=true\/X.env.scope.names.lookup x=some .local:=by first|exact .inl rfl|exact .inr rfl):XG X (.Name x pos) (aA i):=⟨ λF0=>
 zr (L2.Ju hN hi hx hf) λv σ H Q=>by
  rintro⟨ρ,F,d,ρ',r,rv,e,q⟩
  cases e;exact q _ (r.lI rv)⟩
theorem rA:mU X [] (fk []):=⟨ λF0=>
 Bi L2.FW λvs σ H Q=>by
  rintro⟨ρ,F,ds,ρ',r,rv,e,q⟩
  cases ds with
  |nil=>cases e;simp only[ai]at rv;exact⟨rv,q _ r⟩
  |cons _ _=>cases e⟩
theorem GY(ht:∀v σ H Q,pP M G F0 (aA i) v σ H Q->t v σ H Q)(hu:∀v σ H Q,rN M G F0 (fk is) v σ H Q->u v σ H Q)(vs:List V)(σ:L2.St)(H:Hp)(Q:L2.St->Hp->Prop)
  (h:rN M G F0 (fk (i::is)) vs σ H Q):L2.Aq t u vs σ H Q:=by
 obtain⟨ρ,F,ds,ρ',r,rv,e,q⟩:=h;cases ds with
 |nil=>cases e
 | cons d ds=>
  simp only[ai]at rv;obtain⟨x,xs,rfl,rx,Yl⟩:=rv;refine⟨x,xs,rfl,ht _ _ _ _ ⟨ρ,F,d,_,r,rx,rfl,λPM r1=>hu _ _ _ _ ⟨_,F,ds,ρ',r1,Yl,e,q⟩⟩⟩
theorem jl(i:Nat)(h1:XG X e (aA i))(h2:mU X es (fk is))(hs:(assignEach (e::es) X.env).map (·.2)=assign e X.env::(assignEach es X.env).map (·.2):=by exact wX (by rfl)):mU X (e::es) (fk (i::is)):=⟨have h1:=h1.out;have h2:=h2.out;λF0=>
 Bi (L2.G6 (h1 F0) (h2 F0) hs) λvs σ H Q h=>GY (λ_ _ _ _ h=>h) (λ_ _ _ _ h=>h) vs σ H Q h⟩
theorem sJ:∀ {is:List Nat} {ds:List D} {ρ ρ':En},fk is ds ρ=.ok ρ'->ds.length=is.length
 |[],[],_,_,_=>rfl
 |_::_,_::_,_,_,h=>by simp only[fk]at h;simp[sJ h]
 |[],_::_,_,_,h=>by cases h
 |_::_,[],_,_,h=>by cases h
theorem BA(hc:X.calm=true)(h:x5 X es (fk is))(hn:(assignEach es X.env).length=is.length:=by rfl)(O3:(assignEach es X.env).findIdx? (·.1)=none:=by rfl):JG X (.Tuple es k pos) (hW is):=λF0=>
 zr (L2.Gd hc (h F0) hn O3) λv σ H Q=>by
  rintro⟨ρ,F,d,ρ',r,rv,e,q⟩
  unfold hW at e;split at e
  ·rename_i ds
   simp only[Rep]at rv;obtain⟨a,xs,rfl,h1,rs⟩:=rv;exact⟨a,xs,rfl,h1.sq,by rw[<-rs.length];exact sJ e,ρ,F,ds,ρ',r,rs,e,q⟩
  ·cases e
theorem aZ(ha:XE X e fa)(hg:XG X tg g)(hs:swapsWithSole [tg] e pos.line X.env=pure false:=by exact Bp (by rfl))(hw:swappedStores [tg] e X.env=pure none:=by first|exact Ja (by rfl)|exact AJ (by rfl))(h1:(assignEach [tg] X.env).map (·.2)=[assign tg X.env]:=by exact wX (by rfl)):XS X (.Assign [tg] e pos) (aS g fa):=⟨have ha:=ha.out;have hg:=hg.out;λF0=>
 cx (L2.Br ha (hg F0) hs hw h1) λD σ H=>by
  rintro⟨ρ,F,fl,r,e,q⟩
  obtain⟨d,ed,e⟩:=ao.mp e;obtain⟨ρ',eg,e⟩:=ao.mp e;cases e;exact⟨ρ,F,d,r.rs,ed,λv H1 s1 rv=>⟨ρ,F,d,ρ',r.same s1,rv,eg,λME r'=>q ME H1 F (.same s1) r'⟩⟩⟩
def Gives(M:Md)(J:L2.It)(H1:Hp)(F1:YK)(ds:List D):Prop:=∀H F,Mv F1 H1 F H->(∀p,F p->∃o,H p=some o)->
 (∀i d,ds[i]? =some d->J.go i H/\∀x H',J.rK i H x H'->aj H H'/\Rep M H' F d x)/\J.stop ds.length H
inductive BK(M:Md)(f:En->R (List D))(σ:L2.St)(H:Hp)(Rr:(L2.It->Hp->Prop)):Prop
 |mk:∀ρ F ds,bf M H F σ ρ->f ρ=.ok ds->(∀J H',aj H H'->Gives M J H' F ds->Rr J H')->BK M f σ H Rr
abbrev JI(X:Cx)(tg e:Expr)(f:dW):Prop:=L2.PI X tg e (BK (aB X) f)
structure XI(X:Cx)(tg e:Expr)(f:dW):Prop where
 out:JI X tg e f
theorem qN(h:L2.PI X tg e t')(hi:∀σ H Q,t σ H Q->t' σ H Q):L2.PI X tg e t:=λpins s σ H Q I q=>h pins s σ H Q I (hi σ H Q q)
theorem Kk{J:L2.It}{tg:dZ}{body:Sm}{g:TG}{tb:TS}(hg:∀v σ H Q,pP M G F0 tg v σ H Q->g v σ H Q)(hb:∀D σ H,dQ M G F0 body D σ H->tb D σ H)
  {H1:Hp} {F1:YK} {ds:List D} (gv:Gives M J H1 F1 ds) {ρ:En} (r:aF M G F0 H1 F1 σ ρ) {fl:Fl} (e:forL tg body ds ρ=.ok fl) (q:lA M G F0 H1 F1 DE fl):
  ∃W:Nat->Nat->L2.St->Hp->Prop,(∃m,W 0 m σ H1)/\∀i m σ H,W i m σ H->
   (J.stop i H/\DE.nx σ H)\/(J.go i H/\∃N:L2.St->Hp->Prop,(∀ME H',N ME H'->∃m',m'<m/\W (i+1) m' ME H')/\∀x H',J.rK i H x H'->g x σ H' λUu H2=>tb {DE with nx:=N,ct:=N,bk:=DE.nx} Uu H2):=by
 refine⟨λi m σ H=>m=ds.length - i/\i<=ds.length/\∃ρ F,Mv F1 H1 F H/\aF M G F0 H F σ ρ/\forL tg body (ds.drop i) ρ=.ok fl,⟨ds.length,by simp,aay _,ρ,F1,Mv.refl,r,e⟩,?_⟩
 rintro i m σ H ⟨rfl,hi,ρ,F,mv,r,e⟩;obtain⟨g1,g2⟩:=gv H F mv r.rs.aV;by_cases Nl:i<ds.length
 ·refine .inr ⟨(g1 i ds[i] (by simp[Nl])).1,λME H'=>i+1<=ds.length/\∃ρ F,Mv F1 H1 F H'/\aF M G F0 H' F ME ρ/\forL tg body (ds.drop (i+1)) ρ=.ok fl,λME H' p'=>⟨ds.length - (i+1),by omega,rfl,p'.1,p'.2⟩,λx H' y=>?_⟩
  obtain⟨s1,rx⟩:=(g1 i ds[i] (by simp[Nl])).2 x H' y
  rw[aaN Nl]at e;unfold forL at e;obtain⟨Nm,e1,e⟩:=ao.mp e;obtain⟨f,e2,e⟩:=ao.mp e;refine hg _ _ _ _ ⟨ρ,F,ds[i],Nm,r.same s1,rx,e1,λUu r2=>hb _ _ _ ⟨Nm,F,f,r2,e2,?_⟩⟩;have OL:Mv F1 H1 F H':=mv.trans (.same s1);cases f with
  |next Om=>exact λOD H3 F3 m3 r3=>⟨Nl,Om,F3,OL.trans m3,r3,e⟩
  |cont Om=>exact λOD H3 F3 m3 r3=>⟨Nl,Om,F3,OL.trans m3,r3,e⟩
  |brk Om=>cases e;exact λOD H3 F3 m3 r3=>q OD H3 F3 (OL.trans m3) r3
  |ret d=>cases e;exact λv H3 F3 m3 a b rv=>q v H3 F3 (OL.trans m3) a b rv
  |dM d=>cases e;exact λp H3 F3 xs ds e m3 a b c rv=>q p H3 F3 xs ds e (OL.trans m3) a b c rv
  |ee d=>cases e;exact λv H3 F3 F4 as m3 a b c d e rv=>q v H3 F3 F4 as (OL.trans m3) a b c d e rv
  |gD i ρ=>cases e;exact λME H' F' v m3=>q ME H' F' v (OL.trans m3)
  |dS d ρ=>cases e;exact λME H' F' v m3=>q ME H' F' v (OL.trans m3)
 ·have ei:i=ds.length:=by omega
  subst ei;rw[abH]at e;cases e;exact .inl ⟨g2,q σ H F mv r⟩
theorem dJ(hi:XI X tg iter it)(hg:XG X tg g)(hb:gq X body f)(hp:PassesOwn (model X.prog X.w) X.A X.env X.xe:=by exact PassesOwn.never)(hc:X.calm=true:=by exact rfl)(hs:∀x,foldedSetIterable iter X.env x=pure x:=by exact vB (by rfl)):XS X (.For tg iter body [] pos) (dh it g f):=⟨have hi:=hi.out;have hg:=hg.out;have hb:=hb.out;λF0=>
 cx (L2.DS hp hc hi (hg F0) (hb F0) hs) λD σ H=>by
  rintro⟨ρ,F,fl,r,e,q⟩
  obtain⟨ds,ed,e⟩:=ao.mp e;exact⟨ρ,F,ds,r.rs,ed,λJ H1 s1 gv=>Kk (λ_ _ _ _ h=>h) (λ_ _ _ h=>h) gv (r.same s1) e (q.mv (.same s1))⟩⟩
theorem B2(h:gk M H F a xs)(rs:ai M H F ds xs):Gives M (L2.m6 M.K a) H F ds:=by
 intro H' F' mv tr;have h':=h.mv mv;have V1:=rs.mv mv;refine⟨λi d hd=>?_,?_⟩
 ·obtain⟨x,hx,rx⟩:=V1.get hd
  refine⟨⟨xs,x,h'.sq,hx⟩,λy H2 hy=>?_⟩;obtain⟨rfl,hy⟩:=hy;have:=hy xs h'.sq;rw[hx]at this;cases this;exact⟨aj.refl _,rx⟩
 ·exact⟨xs,h'.sq,by rw[rs.length];exact IR _⟩
theorem ER(h:fK M H F a xs)(rs:ai M H F ds xs):Gives M (L2.nH M.K a) H F ds:=by
 intro H' F' mv tr;have h':=h.mv mv;have V1:=rs.mv mv;refine⟨λi d hd=>?_,?_⟩
 ·obtain⟨x,hx,rx⟩:=V1.get hd
  refine⟨⟨xs,x,h'.sq,hx⟩,λy H2 hy=>?_⟩;obtain⟨rfl,hy⟩:=hy;have:=hy xs h'.sq;rw[hx]at this;cases this;exact⟨aj.refl _,rx⟩
 ·exact⟨xs,h'.sq,by rw[rs.length];exact IR _⟩
theorem xA:Gives M (L2.dW lo (hi - lo).toNat) H F (cI lo hi):=by
 intro H' F' mv tr;refine⟨λi d hd=>?_,?_⟩
 ·unfold cI at hd
  rw[xa]at hd;cases e:(List.range (hi - lo).toNat)[i]? with
  |none=>rw[e]at hd;cases hd
  | some k=>
   rw[e]at hd;obtain⟨Nl,hk⟩:=il.mp e;simp at hk Nl hd;subst hk hd;refine⟨show i<(hi - lo).toNat by omega,λy H2 hy=>?_⟩
   obtain⟨rfl,rfl⟩:=hy;exact⟨aj.refl _,de⟩
 ·show(hi - lo).toNat<=(cI lo hi).length
  unfold cI;simp
theorem oC(h:inR j=true): -(2 ^ 62)<=j/\j<2 ^ 62:=by
 unfold inR at h;rw[FB,Pi,Pi]at h;exact⟨by omega,by omega⟩
theorem iR(hm:X.mg "range"=none)(ha:XE X a fa)(hg:L2.Gl X "range":=by rfl)(hs:starEach [a] X.env=(false,eval a X.env)::starEach [] X.env:=by exact a9 (by rfl)):XI X tg (.Call (.Name "range" p) [a] [] pos) (fI fa):=⟨have ha:=ha.out;qN (L2.Jw hg hm (dO ha gE hs) hs) λσ H Q=>by
  rintro⟨ρ,F,ds,r,e,q⟩
  obtain⟨d,ed,e⟩:=ao.mp e;refine⟨ρ,F,[d],r,by show(fa ρ).bind _=_;rw[ed];rfl,λvs H1 s1 rv=>?_⟩
  obtain⟨x,rfl,rx⟩:=rv.one;split at e
  ·split at e
   ·rename_i j hj
    cases e;have hj:=oC hj;have:=q (L2.dW 0 j.toNat) H1 s1 (by have:=xA (M:=aB X) (H:=H1) (F:=F) (lo:=0) (hi:=j);rwa[Int.sub_zero]at this)
    exact⟨j,by rw[bo rx],hj.1,hj.2,this⟩
   ·cases e
  ·cases e⟩
theorem FN(hm:X.mg "range"=none)(ha:XE X a fa)(hb:XE X b fb)(hg:L2.Gl X "range":=by rfl)(hs:starEach [a,b] X.env=(false,eval a X.env)::starEach [b] X.env:=by exact a9 (by rfl))(NU:starEach [b] X.env=(false,eval b X.env)::starEach [] X.env:=by exact a9 (by rfl)):XI X tg (.Call (.Name "range" p) [a,b] [] pos) (oQ fa fb):=⟨have ha:=ha.out;have hb:=hb.out;qN (L2.Cs hg hm (dO ha (dO hb gE NU) hs) (by rw[hs,NU];rfl) NU) λσ H Q=>by
  rintro⟨ρ,F,ds,r,e,q⟩
  obtain⟨d,ed,e⟩:=ao.mp e;obtain⟨d2,UR,e⟩:=ao.mp e;refine⟨ρ,F,[d,d2],r,by show(fa ρ).bind _=_;rw[ed];show((fb ρ).bind _).bind _=_;rw[UR];rfl,λvs H1 s1 rv=>?_⟩
  obtain⟨x,y,rfl,rx,ry⟩:=rv.two;split at e
  ·split at e
   ·rename_i i j _ hj
    cases e;rw[FB]at hj;have h1:=oC hj.1;have h2:=oC hj.2;exact⟨i,j,by rw[bo rx,bo ry],⟨h1.1,h1.2,h2.1,h2.2⟩,q _ H1 s1 xA⟩
   ·cases e
  ·cases e⟩
inductive iB(M:Md)(m:List D->R D)(n:Nat)(vs:List V)(H:Hp)(Q:VK)(_x3:XK):Prop
 |mk:∀F ds d,(∀p,F p->∃o,H p=some o)->ai M H F ds vs->ds.length=n->m ds=.ok d->(∀v H',aj H H'->Rep M H' F d v->Q v H')->iB M m n vs H Q _x3
theorem Rep.sub(hs:∀a,F a->F' a)(h:Rep M H F' d v):Rep M H F d v:=h.mv λa o n e=>⟨λf=>n (hs a f),e⟩
theorem rH(tr:∀p,F p->∃o,G p=some o)(rs:ai M G F ds vs)(hl:ds.length=n)(hn:n<=N.length):aF M G ⟨G,F,λ_=>none⟩ G F (L2.start N vs) (ds.map Slot.sh++List.replicate (N.length - ds.length) .un):=by
 have d6:=rs.length
 have no:∀i,¬a0 (ds.map Slot.sh++List.replicate (N.length - ds.length) .un) i:=by
  intro i hi
  have:∀s,(ds.map Slot.sh++List.replicate (N.length - ds.length) Slot.un)[i]? =some s->(∃d,s=.sh d)\/s=.un:=by
   intro s hs;rw[aak]at hs;split at hs
   ·rw[xa]at hs
    cases e1:ds[i]? with
    |none=>rw[e1]at hs;cases hs
    |some d'=>rw[e1]at hs;cases hs;exact .inl ⟨_,rfl⟩
   ·rw[UV]at hs
    split at hs<;>cases hs;exact .inr rfl
  rcases hi with⟨x,hx⟩|⟨k,x,hx⟩
  ·rcases this _ hx with⟨_,h⟩|h<;>cases h
  ·rcases this _ hx with⟨_,h⟩|h<;>cases h
 have aP:∀(i:Nat) MU,(ds.map Slot.sh++List.replicate (N.length - ds.length) Slot.un)[i]? ≠some (.on MU):=by
  intro i MU hs;rw[aak]at hs;split at hs
  ·rw[xa]at hs
   cases e1:ds[i]? with
   |none=>rw[e1]at hs;cases hs
   |some d'=>rw[e1]at hs;cases hs
  ·rw[UV]at hs
   split at hs<;>cases hs
 refine⟨⟨?_,tr,?_,?_,?_,?_,.no aP⟩,aj.refl _,λ_ h=>h,tr,?_,λi MU b e=>absurd e (aP i MU),λw hw=>nomatch hw⟩
 ·unfold L2.start;simp[d6]
 ·intro i d hd
  rw[aak]at hd;split at hd
  ·rw[xa]at hd
   cases e1:ds[i]? with
   |none=>rw[e1]at hd;cases hd
   | some d'=>
    rw[e1]at hd;cases hd;obtain⟨v,ev,rv⟩:=rs.get e1;refine⟨v,?_,rv⟩;unfold L2.start;rw[M1 (by obtain⟨h,_⟩:=il.mp ev;simpa using h),xa,ev];rfl
  ·rw[UV]at hd
   split at hd<;>cases hd
 ·intro i d hd
  rw[aak]at hd;split at hd
  ·rw[xa]at hd
   cases e1:ds[i]? with
   |none=>rw[e1]at hd;cases hd
   |some d'=>rw[e1]at hd;cases hd
  ·rw[UV]at hd
   split at hd<;>cases hd
 ·intro i k d hd
  rw[aak]at hd;split at hd
  ·rw[xa]at hd
   cases e1:ds[i]? with
   |none=>rw[e1]at hd;cases hd
   |some d'=>rw[e1]at hd;cases hd
  ·rw[UV]at hd
   split at hd<;>cases hd
 ·intro i j a oi
  exact absurd oi (no i)
 ·intro i a oi
  exact absurd oi (no i)
theorem LZ{N:List Str}{n:Nat}{body:Sm}{vs:List V}{Q:VK}{E:XK}{t:TS}(ht:∀(F0:Gf) D σ H,dQ M F0.g F0 body D σ H->t D σ H)(h:iB M (fn N.length body) n vs G Q E)(hn:n<=N.length):t {nx:=λ_ H'=>Q .aP H',rt:=Q} (L2.start N vs) G:=by
 obtain⟨F,ds,d,tr,rs,hl,e,q⟩:=h;obtain⟨f,ef,e⟩:=ao.mp e;refine ht ⟨G,F,λ_=>none⟩ _ _ _ ⟨_,F,f,rH tr rs hl hn,ef,?_⟩;cases f with
 |next ρ'=>cases e;exact λME H' F' mv r'=>q _ _ r'.sm vm
 |ret d'=>cases e;exact λv H' F' mv sm sub rv=>q _ _ sm (rv.sub sub)
 |brk _=>cases e
 |cont _=>cases e
 |dM _=>cases e
 |ee _=>cases e
 |gD _ _=>cases e
 |dS _ _=>cases e
inductive lW(M:Md)(m:List D->R D)(n:Nat)(vs:List V)(H:Hp)(Q:VK)(_x3:XK):Prop
 |mk:∀F ds d,(∀p,F p->∃o,H p=some o)->ai M H F ds vs->ds.length=n->m ds=.ok (.lst d)->(∀p H' xs,aj H H'->H' p=none->ai M H' F d xs->Q (.ref p) (upd H' p (.lst xs)))->lW M m n vs H Q _x3
theorem ai.sub(hs:∀a,F a->F' a)(h:ai M H F' d v):ai M H F d v:=h.mv λa o n e=>⟨λf=>n (hs a f),e⟩
theorem LI{N:List Str}{n:Nat}{body:Sm}{vs:List V}{Q:VK}{E:XK}{t:TS}(ht:∀(F0:Gf) D σ H,dQ M F0.g F0 body D σ H->t D σ H)(h:lW M (g7 N.length body) n vs G Q E)(hn:n<=N.length):t {nx:=λ_ H'=>Q .aP H',rt:=Q} (L2.start N vs) G:=by
 obtain⟨F,ds,d,tr,rs,hl,e,q⟩:=h;obtain⟨f,ef,e⟩:=ao.mp e;refine ht ⟨G,F,λ_=>none⟩ _ _ _ ⟨_,F,f,rH tr rs hl hn,ef,?_⟩;cases f with
 | dM d'=>
  cases d' with
  |lst xs=>cases e;exact λp H' F' ys ds e mv sm sub hp rv=>by cases e;exact q _ _ _ sm hp (rv.sub sub)
  |_=>cases e
 |_=>cases e
theorem HQ(i:Nat)(hN:X.N[i]? =some x:=by rfl)(hv:L2.d9 X.env.scope x:=by exact Or.inl rfl)(hd:gV x:=by decide)(Nn:js x:=by decide):XS X (.Return (some (.Name x p2)) pos) (ud i):=⟨ λF0=>
 cx (L2.mG (L2.pv i hN hv hd Nn)) λD σ H=>by
  rintro⟨ρ,F,fl,r,e,q⟩
  unfold ud at e;split at e
  ·rename_i xs q1
   cases e;obtain⟨a,ys,ea,fa,ha,rs⟩:=r.rs.ol i _ q1;have hG:=r.own i a (.inl ⟨_,q1⟩) ea;refine⟨_,ea,?_⟩
   have mv:Mv F H (λb=>F b/\b≠a) (λb=>if b=a then none else H b):=λb o n e=>⟨λh=>n h.1,by
    have hb:b≠a:=λz=>by subst z;exact n fa
    simp only[Gc hb];exact e⟩
   have key:=q a (λb=>if b=a then none else H b) (λb=>F b/\b≠a) ys xs rfl mv (λb o e=>by
    have hb:b≠a:=λz=>by subst z;rw[hG]at e;cases e
    simp only[Gc hb];exact r.sm b o e) (λb f=>⟨r.sub b f,λz=>by subst z;obtain⟨o,e⟩:=r.c9 _ f;rw[hG]at e;cases e⟩) (by simp) (rs.mv mv)
   have e2:upd (λb=>if b=a then none else H b) a (.lst ys)=H:=by
    funext b;unfold upd;by_cases hb:b=a
    ·simp only[DM hb];rw[hb];exact ha.symm
    ·simp only[Gc hb]
   rw[e2]at key;exact key
  ·cases e⟩
def Own(M:Md)(H:Hp)(F:YK)(s:Slot)(o:HO):Prop:=
 (∃ds xs,s=.ol ds/\o=.lst xs/\ai M H F ds xs)\/∃ks ds xs,s=.od ks ds/\o=.dK (ks.zip xs)/\ks.length=xs.length/\ai M H F ds xs
theorem Own.gi(h:Own M H F s o):∀t,s≠.on (.tr t):=λt e=>by
 rcases h with⟨ds,xs,rfl,_⟩|⟨ks,ds,xs,rfl,_⟩<;>cases e
theorem Own.mv{s:Slot}{o:HO}(m:Mv F H F' H')(h:Own M H F s o):Own M H' F' s o:=by
 rcases h with⟨ds,xs,e1,e2,r⟩|⟨ks,ds,xs,e1,e2,l,r⟩
 ·exact .inl ⟨ds,xs,e1,e2,r.mv m⟩
 ·exact .inr ⟨ks,ds,xs,e1,e2,l,r.mv m⟩
theorem bf.ownAt(r:bf M H F σ ρ)(o:a0 ρ i):∃a s u,ρ[i]? =some s/\σ[i]? =some (some (.ref a))/\F a/\H a=some u/\Own M H F s u:=by
 rcases o with⟨ds,q⟩|⟨ks,ds,q⟩
 ·obtain⟨a,xs,h1,h2,h3,h4⟩:=r.ol i ds q
  exact⟨a,_,_,q,h1,h2,h3,.inl ⟨ds,xs,rfl,rfl,h4⟩⟩
 ·obtain⟨a,xs,h1,h2,h3,h4,h5⟩:=r.od i ks ds q
  exact⟨a,_,_,q,h1,h2,h3,.inr ⟨ks,ds,xs,rfl,rfl,h4,h5⟩⟩
theorem lU(h:a0 (ρ.set i s) j):j=i\/(i≠j/\a0 ρ j):=by
 rcases h with⟨ds,q⟩|⟨ks,ds,q⟩
 ·rcases get_set q with⟨h,_,_⟩|⟨MJ,q⟩
  ·exact .inl h.symm
  ·exact .inr ⟨MJ,.inl ⟨ds,q⟩⟩
 ·rcases get_set q with⟨h,_,_⟩|⟨MJ,q⟩
  ·exact .inl h.symm
  ·exact .inr ⟨MJ,.inr ⟨ks,ds,q⟩⟩
theorem bf.put{i:Nat}{a:Addr}{s:Slot}{o:HO}(r:bf M H F σ ρ)(mv:Mv F H F' H')(hF:∀b,F b->F' b)(ha:F' a)(ho:H' a=some o)(hk:∀b u,F b->b≠a->H b=some u->H' b=some u)(Xj:∀b,F' b->F b\/b=a)
  (hn:∀j,j≠i->a0 ρ j->σ[j]? ≠some (some (.ref a))) (WL:∀(j:Nat) MU b,j≠i->ρ[j]? =some (.on MU)->aX M H F σ ρ j b->b≠a) (own:Own M H' F' s o):bf M H' F' (σ.set i (some (.ref a))) (ρ.set i s) where
 len:=by simp[r.len]
 aV b f:=by
  by_cases e:b=a
  ·subst e;exact⟨o,ho⟩
  ·rcases Xj b f with f|f
   ·obtain⟨u,hu⟩:=r.aV b f
    exact⟨u,hk b u f e hu⟩
   ·exact absurd f e
 sh j d q:=by
  rcases get_set q with⟨rfl,hx,hl⟩|⟨MJ,q⟩
  ·rcases own with⟨ds,xs,rfl,_⟩|⟨ks,ds,xs,rfl,_⟩<;>cases hx
  ·obtain⟨w,e1,g⟩:=r.sh j d q
   exact⟨w,by rw[df MJ];exact e1,g.mv mv⟩
 ol j d q:=by
  rcases get_set q with⟨rfl,x,hl⟩|⟨MJ,q⟩
  ·rcases own with⟨ds,xs,rfl,rfl,rs⟩|⟨ks,ds,xs,rfl,_⟩
   ·cases x
    exact⟨a,xs,by rw[Mk (by rw[<-r.len];exact hl)],ha,ho,rs⟩
   ·cases x
  ·obtain⟨b,xs,e1,f,e2,g⟩:=r.ol j d q
   refine⟨b,xs,by rw[df MJ];exact e1,hF _ f,hk _ _ f ?_ e2,g.mv mv⟩
   rintro rfl;exact hn j (W1 MJ) (.inl ⟨_,q⟩) e1
 od j k d q:=by
  rcases get_set q with⟨rfl,x,hl⟩|⟨MJ,q⟩
  ·rcases own with⟨ds,xs,rfl,_⟩|⟨ks,ds,xs,rfl,rfl,l,rs⟩
   ·cases x
   ·cases x
    exact⟨a,xs,by rw[Mk (by rw[<-r.len];exact hl)],ha,ho,l,rs⟩
  ·obtain⟨b,xs,e1,f,e2,l,g⟩:=r.od j k d q
   refine⟨b,xs,by rw[df MJ];exact e1,hF _ f,hk _ _ f ?_ e2,l,g.mv mv⟩
   rintro rfl;exact hn j (W1 MJ) (.inr ⟨_,_,q⟩) e1
 cu j k b oj ok ej ek:=by
  have self:∀c,(σ.set i (some (.ref a)))[i]? =some (some (.ref c))->c=a:=λc h=>by
   rw[abG]at h;cases hq:σ[i]? with
   |none=>rw[hq]at h;cases h
   |some z=>rw[hq]at h;cases h;rfl
  rcases lU oj with hj|⟨nj,oj⟩
  ·rcases lU ok with RE|⟨nk,ok⟩
   ·rw[hj,RE]
   ·rw[hj]at ej
    rw[df nk]at ek;cases self _ ej;exact absurd ek (hn k (W1 nk) ok)
  ·rw[df nj]at ej
   rcases lU ok with RE|⟨nk,ok⟩
   ·rw[RE]at ek
    cases self _ ek;exact absurd ej (hn j (W1 nj) oj)
   ·rw[df nk]at ek
    exact r.cu j k b oj ok ej ek
 on:=by
  have old:∀(j:Nat) MU,(ρ.set i s)[j]? =some (.on MU)->i≠j/\ρ[j]? =some (.on MU):=λj MU e=>by
   rcases get_set e with⟨_,x,_⟩|⟨MJ,e⟩
   ·rcases own with⟨ds,xs,rfl,_⟩|⟨ks,ds,xs,rfl,_⟩<;>cases x
   ·exact⟨MJ,e⟩
  refine r.on.mv mv (λj MU e=>⟨(old j MU e).2,df (old j MU e).1⟩) (λj MU b u e hb f hu=>⟨hF b f,hk b u f (WL j MU b (W1 (old j MU e).1) (old j MU e).2 hb) hu⟩) λj MU b e hb k ok=>?_;obtain⟨MJ,e0⟩:=old j MU e;rcases lU ok with rfl|⟨nk,ok⟩
  ·intro h
   rw[abG]at h;cases hq:σ[k]? with
   |none=>rw[hq]at h;cases h
   |some z=>rw[hq]at h;cases h;exact WL j MU _ (W1 MJ) e0 hb rfl
  ·rw[df nk]
   exact(r.on j MU e0).2.1 b hb k ok
theorem aF.new{i:Nat}{p:Addr}{s:Slot}{o:HO}(r:aF M G F0 H F σ ρ)(hp:H p=none)(own:Own M H F s o):
  Mv F H (λb=>F b\/b=p) (upd H p o)/\aF M G F0 (upd H p o) (λb=>F b\/b=p) (σ.set i (some (.ref p))) (ρ.set i s):=by
 have ne:∀b u,H b=some u->b≠p:=λb u e z=>by subst z;rw[hp]at e;cases e
 have mv:Mv F H (λb=>F b\/b=p) (upd H p o):=λb u n e=>⟨λh=>h.elim n (ne b u e),by rw[L2.aJ (ne b u e)];exact e⟩
 have hG:G p=none:=r.sm.free hp
 refine⟨mv,⟨r.rs.put mv (λ_ h=>.inl h) (.inr rfl) L2.bX (λb u _ n e=>by rw[L2.aJ n];exact e) (λ_ h=>h) (λj _ oj e=>?_) (λj MU b _ e hb z=>by
   obtain⟨_,xs,hx⟩:=fw.f hb;exact ne b _ hx z) (own.mv mv),λb u e=>by rw[L2.aJ (ne b u (r.sm b u e))];exact r.sm b u e,λb h=>.inl (r.sub b h),r.c9,λj a oj e=>?_,λj MU b e hb=>?_,r.pin.set own.gi⟩⟩
 ·obtain⟨a,_,u,_,e1,_,e2,_⟩:=r.rs.ownAt oj
  rw[e1]at e;cases e;exact ne _ _ e2 rfl
 ·rcases lU oj with rfl|⟨nj,oj⟩
  ·rw[adv]at e
   split at e
   ·split at e
    ·cases e;exact hG
    ·cases e
   ·rename_i h;exact absurd rfl h
  ·rw[df nj]at e
   exact r.own j a oj e
 ·rcases get_set e with⟨_,x,_⟩|⟨MJ,e⟩
  ·rcases own with⟨ds,xs,rfl,_⟩|⟨ks,ds,xs,rfl,_⟩<;>cases x
  ·exact r.di j MU b e (r.rs.on.back (λy ey=>by rw[df MJ]at ey;exact ey) (df MJ) (λa u _ _ hu=>by rw[L2.aJ (ne a u hu)];exact hu) (λa u _ hu=>by rw[L2.aJ (ne a u hu)];exact hu) hb)
theorem aF.chg(r:aF M G F0 H F σ ρ)(oi:a0 ρ i)(ei:σ[i]? =some (some (.ref a)))(own:Own M H F s o):
  Mv F H F (upd H a o)/\aF M G F0 (upd H a o) F σ (ρ.set i s):=by
 obtain⟨a',_,u,_,e1,fa,e2,_⟩:=r.rs.ownAt oi;rw[ei]at e1;cases e1;have mv:Mv F H F (upd H a o):=λb v n e=>⟨n,by rw[L2.aJ (λz=>by subst z;exact n fa)];exact e⟩
 have hG:=r.own i a oi ei
 have hs:σ.set i (some (.ref a))=σ:=by
  obtain⟨hl,h⟩:=il.mp ei;rw[<-h];exact List.set_getElem_self hl
 have key:=r.rs.put (i:=i) mv (λ_ h=>h) fa L2.bX (λb u _ n e=>by rw[L2.aJ n];exact e) (λ_ h=>.inl h) (λj nj oj e=>nj (r.rs.cu j i a oj oi e ei)) (λj MU b _ e hb z=>by subst z;exact(r.rs.on j MU e).2.1 _ hb i oi ei) (own.mv mv)
 rw[hs]at key;refine⟨mv,⟨key,λb u e=>by rw[L2.aJ (λz=>by subst z;rw[hG]at e;cases e)];exact r.sm b u e,r.sub,r.c9,λj b oj e=>?_,λj MU b e hb=>?_,r.pin.vF own.gi⟩⟩
 ·rcases lU oj with rfl|⟨nj,oj⟩
  ·rw[ei]at e;cases e;exact hG
  ·exact r.own j b oj e
 ·rcases get_set e with⟨_,x,_⟩|⟨MJ,e⟩
  ·rcases own with⟨ds,xs,rfl,_⟩|⟨ks,ds,xs,rfl,_⟩<;>cases x
  ·refine r.di j MU b e (r.rs.on.back (λy ey=>by rw[df MJ]at ey;exact ey) rfl (λc u hc _ hu=>?_) (λa' u n hu=>(mv a' u n hu).2) hb)
   rw[L2.aJ (λz=>by subst z;exact(r.rs.on j MU e).2.1 _ hc i oi ei)];exact hu
theorem BU(r:fw M H F σ ρ)(oi:a0 ρ i)(ei:σ[i]? =some (some (.ref a)))(mv:Mv F H F' H)(hF:∀b,F b->b≠a->F' b):fw M H F' σ (ρ.set i (.sh d)):=by
 have old:∀(j:Nat) MU,(ρ.set i (.sh d))[j]? =some (.on MU)->ρ[j]? =some (.on MU):=λj MU e=>by
  rcases get_set e with⟨_,x,_⟩|⟨MJ,e⟩
  ·cases x
  ·exact e
 refine r.mv mv (λj MU e=>⟨old j MU e,rfl⟩) (λj MU b u e hb f hu=>⟨hF b f λz=>?_,hu⟩) λj MU b e hb k ok=>(r j MU (old j MU e)).2.1 b hb k ok.jq.2;subst z;exact(r j MU (old j MU e)).2.1 _ hb i oi ei
theorem aF.Jt(r:aF M G F0 H F σ ρ)(oi:a0 ρ i)(es:ρ[i]? =some s)(ei:σ[i]? =some (some (.ref a)))(hd:∃ds,s=.ol ds/\d=.lst ds):
  ∃F',(F'=λb=>F b/\b≠a)/\Mv F H F' H/\aF M G F0 H F' σ (ρ.set i (.sh d)):=by
 obtain⟨a',s',u,QQ,e1,fa,e2,ow⟩:=r.rs.ownAt oi;rw[ei]at e1;cases e1;rw[es]at QQ;cases QQ;have hG:=r.own i a oi ei;have mv:Mv F H (λb=>F b/\b≠a) H:=λb v n e=>⟨λh=>n h.1,e⟩
 have US:Rep M H (λb=>F b/\b≠a) d (.ref a):=by
  obtain⟨ds,rfl,rfl⟩:=hd;rcases ow with⟨ON,xs,h1,rfl,rs⟩|⟨ks,ds,xs,h1,_⟩
  ·cases h1
   simp only[Rep];exact⟨a,xs,rfl,.inl ⟨λh=>h.2 rfl,.inl e2⟩,rs.mv mv⟩
  ·cases h1
 refine⟨λb=>F b/\b≠a,rfl,mv,⟨⟨by simp[r.rs.len],λb h=>r.rs.aV b h.1,?_,?_,?_,?_,?_⟩,r.sm,λb h=>⟨r.sub b h,λz=>by subst z;obtain⟨o,e⟩:=r.c9 _ h;rw[hG]at e;cases e⟩,r.c9,?_,?_,r.pin.vF λ_ h=>nomatch h⟩⟩
 ·intro j e q
  rcases get_set q with⟨rfl,hx,hl⟩|⟨MJ,q⟩
  ·cases hx
   exact⟨_,ei,US⟩
  ·obtain⟨w,e1,g⟩:=r.rs.sh j e q
   exact⟨w,e1,g.mv mv⟩
 ·intro j e q
  rcases get_set q with⟨rfl,x,hl⟩|⟨MJ,q⟩
  ·cases x
  ·obtain⟨b,xs,e1,f,e3,g⟩:=r.rs.ol j e q
   exact⟨b,xs,e1,⟨f,λz=>by subst z;exact MJ (r.rs.cu i j _ oi (.inl ⟨_,q⟩) ei e1)⟩,e3,g.mv mv⟩
 ·intro j k e q
  rcases get_set q with⟨rfl,x,hl⟩|⟨MJ,q⟩
  ·cases x
  ·obtain⟨b,xs,e1,f,e3,l,g⟩:=r.rs.od j k e q
   exact⟨b,xs,e1,⟨f,λz=>by subst z;exact MJ (r.rs.cu i j _ oi (.inr ⟨_,_,q⟩) ei e1)⟩,e3,l,g.mv mv⟩
 ·intro j k b oj ok ej ek
  exact r.rs.cu j k b oj.jq.2 ok.jq.2 ej ek
 ·exact BU r.rs.on oi ei mv (λb f n=>⟨f,n⟩)
 ·intro j b oj e
  exact r.own j b oj.jq.2 e
 ·intro j MU b e hb
  rcases get_set e with⟨_,x,_⟩|⟨MJ,e⟩
  ·cases x
  ·exact r.di j MU b e (r.rs.on.back (λy ey=>by rw[df MJ]at ey;exact ey) rfl (λc u _ _ hu=>hu) (λ_ _ _ e=>e) hb)
theorem aF.frz{u:HO}(r:aF M G F0 H F σ ρ)(oi:a0 ρ i)(es:ρ[i]? =some s)(ei:σ[i]? =some (some (.ref a)))(hd:∃ds,s=.ol ds/\d=.lst ds):
  ∃F',Mv F H F' H/\aF M G F0 H F' σ (ρ.set i (.sh d)):=let⟨F',_,m,h⟩:=r.Jt oi es ei hd;⟨F',m,h⟩
theorem aF.Lv(r:aF M G F0 H F σ ρ)(es:ρ[i]? =some (.od ks ds)):∃a kvs,H a=some (.dK kvs)/\∀ob,∃F',(F'=λb=>F b/\b≠a)/\Mv F H F' (upd H a (.frz ob (.dK kvs)))/\aF M G F0 (upd H a (.frz ob (.dK kvs))) F' σ (ρ.set i (.sh (.aL ks ds))):=by
 have oi:a0 ρ i:=.inr ⟨_,_,es⟩;obtain⟨a,xs,ei,fa,e2,hl,rs⟩:=r.rs.od i ks ds es;refine⟨a,ks.zip xs,e2,λob=>?_⟩;have hG:=r.own i a oi ei;have ne:∀b,¬F b->b≠a:=λb n z=>by subst z;exact n fa
 have mv:Mv F H (λb=>F b/\b≠a) (upd H a (.frz ob (.dK (ks.zip xs)))):=λb v n e=>⟨λh=>n h.1,by rw[L2.aJ (ne b n)];exact e⟩
 refine⟨λb=>F b/\b≠a,rfl,mv,⟨⟨by simp[r.rs.len],λb h=>?_,?_,?_,?_,?_,?_⟩,λb u e=>by rw[L2.aJ (λz=>by subst z;rw[hG]at e;cases e)];exact r.sm b u e,λb h=>⟨r.sub b h,λz=>by subst z;obtain⟨o,e⟩:=r.c9 _ h;rw[hG]at e;cases e⟩,r.c9,?_,?_,r.pin.vF λ_ h=>nomatch h⟩⟩
 ·obtain⟨o,e⟩:=r.rs.aV b h.1
  exact⟨o,by rw[L2.aJ h.2];exact e⟩
 ·intro j e q
  rcases get_set q with⟨rfl,hx,hl⟩|⟨MJ,q⟩
  ·cases hx
   refine⟨_,ei,?_⟩;simp only[Rep];exact⟨a,xs,rfl,.inl ⟨λh=>h.2 rfl,ob,L2.bX⟩,by assumption,rs.mv mv⟩
  ·obtain⟨w,e1,g⟩:=r.rs.sh j e q
   exact⟨w,e1,g.mv mv⟩
 ·intro j e q
  rcases get_set q with⟨rfl,x,hl⟩|⟨MJ,q⟩
  ·cases x
  ·obtain⟨b,ys,e1,f,e3,g⟩:=r.rs.ol j e q
   have hb:b≠a:=λz=>by subst z;exact MJ (r.rs.cu i j _ oi (.inl ⟨_,q⟩) ei e1)
   exact⟨b,ys,e1,⟨f,hb⟩,by rw[L2.aJ hb];exact e3,g.mv mv⟩
 ·intro j k e q
  rcases get_set q with⟨rfl,x,hl⟩|⟨MJ,q⟩
  ·cases x
  ·obtain⟨b,ys,e1,f,e3,l,g⟩:=r.rs.od j k e q
   have hb:b≠a:=λz=>by subst z;exact MJ (r.rs.cu i j _ oi (.inr ⟨_,_,q⟩) ei e1)
   exact⟨b,ys,e1,⟨f,hb⟩,by rw[L2.aJ hb];exact e3,l,g.mv mv⟩
 ·intro j k b oj ok ej ek
  exact r.rs.cu j k b oj.jq.2 ok.jq.2 ej ek
 ·have old:∀(j:Nat) MU,(ρ.set i (.sh (.aL ks ds)))[j]? =some (.on MU)->ρ[j]? =some (.on MU):=λj MU e=>by
   rcases get_set e with⟨_,x,_⟩|⟨MJ,e⟩
   ·cases x
   ·exact e
  refine r.rs.on.mv mv (λj MU e=>⟨old j MU e,rfl⟩) (λj MU b u e hb f hu=>?_) λj MU b e hb k ok=>(r.rs.on j MU (old j MU e)).2.1 b hb k ok.jq.2;have Q6:b≠a:=λz=>by subst z;exact(r.rs.on j MU (old j MU e)).2.1 _ hb i oi ei
  exact⟨⟨f,Q6⟩,by rw[L2.aJ Q6];exact hu⟩
 ·intro j b oj e
  exact r.own j b oj.jq.2 e
 ·intro j MU b e hb
  rcases get_set e with⟨_,x,_⟩|⟨MJ,e⟩
  ·cases x
  ·refine r.di j MU b e (r.rs.on.back (λy ey=>by rw[df MJ]at ey;exact ey) rfl (λc u hc _ hu=>?_) (λa' u n hu=>(mv a' u n hu).2) hb)
   rw[L2.aJ (λz=>by subst z;exact(r.rs.on j MU e).2.1 _ hc i oi ei)];exact hu
theorem lM(i:Nat)(h:gq X rest (aN fs)):gq X rest (aN (jR i::fs)):=⟨have h:=h.out;λF0 pins s σ H D I=>by
 rintro⟨ρ,F,fl,r,e,q⟩
 obtain⟨f1,e1,e⟩:=ao.mp e;unfold jR at e1;split at e1
 ·rename_i xs q1
  cases e1;have oi:a0 ρ i:=.inl ⟨_,q1⟩;obtain⟨a,_,_,_,ea,_⟩:=r.rs.ownAt oi;obtain⟨F',mv,r'⟩:=r.frz (u:=.lst []) oi q1 ea ⟨_,rfl,rfl⟩;exact h F0 pins s σ H D I ⟨_,F',fl,r',e,q.mv mv⟩
 ·rename_i ks vs q1
  cases e1;obtain⟨a,kvs,ha,k⟩:=r.Lv q1;obtain⟨ob,I'⟩:=tG I ha;obtain⟨F',_,mv,r'⟩:=k ob;exact h F0 pins s σ _ D I' ⟨_,F',fl,r',e,q.mv mv⟩
 ·cases e1⟩
inductive mS(M:Md)(f:Ex)(σ:L2.St)(H:Hp)(Q:VK):Prop
 |mk:∀ρ F ds,bf M H F σ ρ->f ρ=.ok (.lst ds)->(∀p H' xs,aj H H'->H' p=none->ai M H' F ds xs->Q (.ref p) (upd H' p (.lst xs)))->mS M f σ H Q
abbrev JF(X:Cx)(e:Expr)(f:Ex):Prop:=PE X e (mS (aB X) f)
structure XF(X:Cx)(e:Expr)(f:Ex):Prop where
 out:JF X e f
theorem mL(h:XA X es (eList fs))(hl:fs.length<=1000:=by decide):XF X (.List es pos) (bA fs):=⟨have h:=h.out;bw (L2.qE h) λσ H Q=>by
  rintro⟨ρ,F,d,hr,e,q⟩
  obtain⟨as,ea,e⟩:=ao.mp e;cases e;refine⟨ρ,F,_,hr,ea,λxs H1 s1 rs=>⟨?_,λp hp=>q p H1 xs s1 hp rs⟩⟩;rw[<-rs.length,ja ea];exact S3 hl (by decide)⟩
theorem jQ(i:Nat)(hN:X.N.Nodup)(he:XF X e f)(hi:X.N[i]? =some x:=by rfl)(hx:L2.Loc X.env.scope x:=by first|exact Or.inl rfl|exact Or.inr rfl)(hf:X.fn x=true\/X.env.scope.names.lookup x=some .local:=by exact .inl rfl)(hs:swapsWith e (some (.Name x p2)) pos.line X.env=pure false:=by exact cY (by rfl)):XS X (.Assign [.Name x p2] e pos) (fT i f):=⟨have he:=he.out;λF0=>
 cx (L2.lq hN hi hx he hs hf) λD σ H=>by
  rintro⟨ρ,F,fl,r,e,q⟩
  obtain⟨d,ed,e⟩:=ao.mp e;split at e
  ·cases e
   refine⟨ρ,F,_,r.rs,ed,λp H1 xs s1 hp rs=>?_⟩;obtain⟨mv,r'⟩:=(r.same s1).new (i:=i) (s:=.ol _) hp (.inl ⟨_,xs,rfl,rfl,rs⟩);exact q _ _ _ (Mv.trans (.same s1) mv) r'
  ·cases e⟩
theorem yc(i:Nat)(he:XE X e f)(hN:X.N[i]? =some x:=by rfl)(hv:L2.d9 X.env.scope x:=by exact Or.inl rfl)(hd:gV x:=by decide)(Nn:js x:=by decide)(Nv:attributeBase (.Name x p2) "append" X.env (eval (.Name x p2) X.env)=eval (.Name x p2) X.env:=by exact lh)(OJ:((backTo MQ (starEach [e] X.env)).all (λx=> !x.1)&&(backToKw MQ (keywordEach [] X.env)).all (λx=>x.1.isSome)&&decide (([e]:P2).length+([]:List Keyword).length+(if([]:List Keyword).isEmpty then 0 else 1)<30))=true:=by exact ny (by rfl) (by decide))(Nw:(apos.endLine==MQ.line)=true:=by rfl)(hs:starEach [e] X.env=(false,eval e X.env)::starEach [] X.env:=by exact a9 (by rfl))(O2:swapsWith (.Call (.Attribute (.Name x p2) "append" apos) [e] [] MQ) none pos.line X.env=pure false:=by exact cY (by rfl)):XS X (.Expr (.Call (.Attribute (.Name x p2) "append" apos) [e] [] MQ) pos) (mr i f):=⟨have he:=he.out;λF0=>
 cx (L2.l6 (L2.ph aal abA abB L2.rJ (L2.pv i hN hv hd Nn) (dO he gE hs) Nv OJ Nw hs) O2) λD σ H=>by
  rintro⟨ρ,F,fl,r,e,q⟩
  obtain⟨d,ed,e⟩:=ao.mp e;split at e
  ·rename_i xs q1
   split at e
   ·rename_i Nl
    cases e;have oi:a0 ρ i:=.inl ⟨_,q1⟩;obtain⟨a,ys,ea,fa,ha,rs⟩:=r.rs.ol i _ q1;refine⟨_,ea,.inl ⟨rfl,ys,aU.of ha⟩,ρ,F,[d],r.rs,by show(f ρ).bind _=_;rw[ed];rfl,λvs H1 s1 rv=>?_⟩
    obtain⟨y,rfl,ry⟩:=rv.one;have r1:=r.same s1;refine⟨a,ys,y,rfl,rfl,s1 _ _ ha,by rw[<-rs.length];exact Nl,?_⟩
    obtain⟨mv,r'⟩:=r1.chg (s:=.ol (xs++[d])) oi ea (.inl ⟨_,ys++[y],rfl,rfl,(rs.mv (.same s1)).append (ai.cons ry ai.nil)⟩);exact q _ _ _ (Mv.trans (.same s1) mv) r'
   ·cases e
  ·cases e⟩
theorem jb(i:Nat)(hm:X.mg "len"=none)(hg:L2.Gl X "len":=by rfl)(hN:X.N[i]? =some x:=by rfl)(hv:L2.d9 X.env.scope x:=by exact Or.inl rfl)(hd:gV x:=by decide)(Nn:js x:=by decide)(hs:starEach [.Name x p2] X.env=(false,eval (.Name x p2) X.env)::starEach [] X.env:=by exact a9 (by rfl)):XE X (.Call (.Name "len" p) [.Name x p2] [] pos) (d5 i):=⟨ bw (L2.mz L2.Ap hg hm cj (L2.fz (L2.pv i hN hv hd Nn) L2.hV hs) (by decide) (by decide) hs) λσ H Q=>by
  rintro⟨ρ,F,d,hr,e,q⟩
  unfold d5 at e;split at e
  ·rename_i xs q1
   cases e;obtain⟨a,ys,ea,fa,ha,rs⟩:=hr.ol i _ q1;refine⟨_,ea,a,ys,rfl,.inl (aU.of ha),q _ _ (aj.refl _) ?_⟩;rw[<-rs.length];exact de
  ·cases e⟩
theorem C2(i:Nat)(hb:XE X b fb)(hN:X.N[i]? =some x:=by rfl)(hv:L2.d9 X.env.scope x:=by exact Or.inl rfl)(hd:gV x:=by decide)(Nn:js x:=by decide)(hs:L2.kN b:=by exact pF (by rfl)):XE X (.Subscript (.Name x p2) b pos) (lP i fb):=⟨have hb:=hb.out;bw (L2.nW L2.oy (L2.pv i hN hv hd Nn) hb hs) λσ H Q=>by
  rintro⟨ρ,F,d,hr,e,q⟩
  obtain⟨y,ey,e⟩:=ao.mp e;split at e
  ·rename_i xs q1
   obtain⟨a,ys,ea,fa,ha,rs⟩:=hr.ol i _ q1;refine⟨_,ea,ρ,F,y,hr,ey,λz H1 s1 rz=>?_⟩;cases y with
   | int k=>
    simp only[jJ]at e;split at e
    ·rename_i v hv
     cases e;have Rv:=rs.mv (M:=aB X) (F':=F) (.same s1);obtain⟨j,w,_,h1,h2,h3⟩:=qS Rv.length hv;obtain⟨z',hz,Yv⟩:=Rv.get h1;rw[h2]at hz;cases hz;exact .inl ⟨a,ys,_,w,rfl,bo rz,aU.of (s1 _ _ ha),h3,q _ _ s1 Yv⟩
    ·cases e
   |_=>cases e
  ·cases e⟩
structure Df(P:Program)(w:World)(K:PySem.W.Frag)(mg:Str->S2)(base:Heap)(x:Str)(k n:Nat)(m:List D->R D):Prop where
 ex:∃f fd ps,L2.fj P w K mg base L2.dY k f fd ps (iB ⟨K,P,w⟩ m n)/\L2.Binds K fd ps []/\PySem.W.keepIn K (.ref f)=true/\mg x=some (.ref f)
theorem KO(hn:fs.length=n)(h:tP M (aw m fs) σ H Q):L2.pE (iB M m n) [] E (lR M (eList fs)) σ H Q:=by
 obtain⟨ρ,F,d,hr,e,q⟩:=h;obtain⟨ds,O7,e⟩:=ao.mp e;refine⟨ρ,F,ds,hr,O7,λvs H1 s1 rs=>?_⟩;show iB M m n (vs++[]) H1 Q E;rw[On];exact⟨F,ds,d,(hr.same s1).aV,rs,by rw[ja O7];exact hn,e,λv H2 s2 rv=>q v H2 (s1.trans s2) rv⟩
theorem aG(d:Df X.prog X.w X.K X.mg X.base x k n m)(hr:L2.bZ j X.A)(ha:XA X (e::es) (eList fs))(hg:L2.Gl X x:=by rfl)(hk:k<=j:=by decide)(hn:fs.length=n:=by rfl)(Oz:gV x:=by decide)(he:starEach (e::es) X.env=(false,eval e X.env)::starEach es X.env:=by exact a9 (by rfl))(Og:(backTo pos (starEach es X.env)).any (·.1)=false:=by exact fU (by rfl)):XE X (.Call (.Name x p) (e::es) [] pos) (aw m fs):=⟨have ha:=ha.out;by
 obtain⟨f,fd,ps,h1,h2,h3,h4⟩:=d.ex;exact bw (L2.p8 h1 (hr.mono hk) hg h4 h3 h2 .nil L2.pY ha Oz he Og) λσ H Q h=>KO hn h⟩
theorem yU(Fu:L2.d8 K x qual st f fd)(S:L2.aY N ps (L2.aI st))
  (h:∀(MD:Value) (A:Around) (outer:List Env) (s:Shared) (H:Hp) (E:XK),L2.bZ k (A.deeper (PyProof.Rows.envOfC qual (L2.aI st) s.heap.objs.size f MD))->ik (L2.bQ L2.dY P w K mg base N qual (L2.aI st) f MD A outer s H E).dB (L2.fN st) body)
  (hn:ps.length=n:=by rfl):L2.fj P w K mg base L2.dY (k+1) f fd ps (iB ⟨K,P,w⟩ (fn N.length body) n):=by
 refine Fu.ok S (λvs H Q E h=>?_) (λMD A outer s H vs Q E hr Ow=>?_)
 ·obtain⟨F,ds,d,_,rs,hl,_⟩:=h
  rw[<-rs.length,hl,hn]
 ·refine⟨λD σ H'=>∃F0:Gf,dQ ⟨K,P,w⟩ F0.g F0 body D σ H',λpins s' σ H' D I=>by rintro⟨F0,q⟩;exact h MD A outer s H E hr F0 pins s' σ H' D I q,?_⟩
  refine LZ (G:=H) (t:=λD σ H'=>∃F0:Gf,dQ ⟨K,P,w⟩ F0.g F0 body D σ H') (λF0 D σ H' h=>⟨F0,h⟩) Ow ?_;have:=congrArg List.length S.pre;rw[Re]at this;omega
theorem CL(Fu:L2.d8 K x qual st f fd)(hm:mg x=some (.ref f))(S:L2.aY N ps (L2.aI st))(hb:L2.Binds K fd ps [])
  (h:∀(MD:Value) (A:Around) (outer:List Env) (s:Shared) (H:Hp) (E:XK),L2.bZ k (A.deeper (PyProof.Rows.envOfC qual (L2.aI st) s.heap.objs.size f MD))->ik (L2.bQ L2.dY P w K mg base N qual (L2.aI st) f MD A outer s H E).dB (L2.fN st) body)
  (hn:ps.length=n:=by rfl):Df P w K mg base x (k+1) n (fn N.length body):=⟨f,fd,ps,yU Fu S h hn,hb,Fu.kp,hm⟩
end
open L2 (It Turn bS)
section
variable{X:Cx}{M:Md}{G H H':Hp}{F0:Gf}{F F':YK}{σ:L2.St}{ρ:En}{pos:Pos}{DE:Ends}
noncomputable def lg(x:Str):It:=⟨λi _=>i<x.cps.size,λi H v H'=>H'=H/\∃c,x.cps[i]? =some c/\v=.str ⟨#[c]⟩,λi _=>x.cps.size<=i⟩
theorem KU(x:Str)(t:Tok)(it:Addr):Turn P w K tg (lg x) [it] it (λi h=>h.IsStrIter it "str_ascii_iterator" x t i) where
 mem:=by simp
 obj:=λi h st b hb=>by
  have e:b=it:=by simpa using hb
  subst e;obtain⟨o,e,c,d⟩:=st;exact⟨o,e,λv z=>by rw[d]at z;cases z⟩
 keep:=λi h h' st k=>let⟨o,e,r⟩:=st;⟨o,k it (by simp) o e,r⟩
 item:=by
  intro X hP hw hK hc i pins s σ H E I hf st hg;subst hP hw hK;obtain⟨f0,f1,f2,f3,f4,f5⟩:=hf it (by simp)
  have hg:i<x.cps.size:=hg;refine wpAny_pyNext_ascii_item st (c:=x.cps[i]) (by simp[hg]) λh' Ov sb=>?_
  have I1:Inv X pins σ H {s with heap:=h',toks:=s.toks+1}:=I.turned (t':=s.toks+1) (λb o hb e=>(sb.2 b hb).trans e) f0 f1 f3 f4 f5;obtain⟨o,e,c,d⟩:=id Ov;exact⟨_,rfl,L2.j7 (s:={s with heap:=h',toks:=s.toks+1}) e c d (by decide) ⟨.str ⟨#[x.cps[i]]⟩,H,I1,⟨_,rfl⟩,⟨rfl,_,by simp[hg],rfl⟩,Ov,λb hb=>(hf b hb).1⟩⟩
 done:=by
  intro X hP hw hK hc i pins s σ H E I hf st hg;subst hP hw hK;have hg:x.cps.size<=i:=hg;obtain⟨f0,f1,f2,f3,f4,f5⟩:=hf it (by simp)
  exact wpAny_pyNext_ascii_end (I.ok.hd hc) st (by simp[hg]) λh' eb=>⟨rfl,I.turned (t':=s.toks) (λb o hb e=>eb b o hb e) f0 f1 f3 f4 f5⟩
 self:=λ_ _ _ _ _ st h=>wpAny_pyIter_striter_ascii st h
theorem CO(x:Str)(t:Tok)(it:Addr):Turn P w K tg (lg x) [it] it (λi h=>h.IsStrIter it "str_iterator" x t i) where
 mem:=by simp
 obj:=λi h st b hb=>by
  have e:b=it:=by simpa using hb
  subst e;obtain⟨o,e,c,d⟩:=st;exact⟨o,e,λv z=>by rw[d]at z;cases z⟩
 keep:=λi h h' st k=>let⟨o,e,r⟩:=st;⟨o,k it (by simp) o e,r⟩
 item:=by
  intro X hP hw hK hc i pins s σ H E I hf st hg;subst hP hw hK;obtain⟨f0,f1,f2,f3,f4,f5⟩:=hf it (by simp)
  have hg:i<x.cps.size:=hg;refine wpAny_pyNext_wide_item st (c:=x.cps[i]) (by simp[hg]) λh' Ov sb=>?_
  have I1:Inv X pins σ H {s with heap:=h',toks:=s.toks+1}:=I.turned (t':=s.toks+1) (λb o hb e=>(sb.2 b hb).trans e) f0 f1 f3 f4 f5;obtain⟨o,e,c,d⟩:=id Ov;exact⟨_,rfl,L2.j7 (s:={s with heap:=h',toks:=s.toks+1}) e c d (by decide) ⟨.str ⟨#[x.cps[i]]⟩,H,I1,⟨_,rfl⟩,⟨rfl,_,by simp[hg],rfl⟩,Ov,λb hb=>(hf b hb).1⟩⟩
 done:=by
  intro X hP hw hK hc i pins s σ H E I hf st hg;subst hP hw hK;have hg:x.cps.size<=i:=hg;obtain⟨f0,f1,f2,f3,f4,f5⟩:=hf it (by simp)
  exact wpAny_pyNext_wide_end (I.ok.hd hc) st (by simp[hg]) λh' eb=>⟨rfl,I.turned (t':=s.toks) (λb o hb e=>eb b o hb e) f0 f1 f3 f4 f5⟩
 self:=λ_ _ _ _ _ st h=>wpAny_pyIter_striter_wide st h
def GH(K:PySem.W.Frag)(tl:TE):TI:=λσ H R=>tl σ H λx H1=>(∃a,x=.ref a/\(∃xs,aU K H1 a xs)/\R (L2.m6 K a) H1)\/(∃a,x=.ref a/\(∃xs,bj K H1 a xs)/\R (L2.nH K a) H1)\/∃z,x=.str z/\R (lg z) H1
theorem IJ{tg:Expr}{pins:List (Addr×Obj)}{R:It->Hp->Prop}{s1:Shared}{x:V}{v:Value}(I1:Inv X pins σ H s1)(r1:RelV x v)
  (q1:(∃a,x=.ref a/\(∃xs,aU X.K H a xs)/\R (L2.m6 X.K a) H)\/(∃a,x=.ref a/\(∃xs,bj X.K H a xs)/\R (L2.nH X.K a) H)\/∃z,x=.str z/\R (lg z) H):
  wpAny (model X.prog X.w) X.A (pyIter v) (L2.wy X pins σ tg R) X.xe s1:=by
 have fp:∀b∈[s1.heap.objs.size],bS X pins H b:=λb hb=>by
  have e:b=s1.heap.objs.size:=by simpa using hb
  subst e;exact I1.m8 (IR _) (I1.aC.fresh (IR _))
 rcases q1 with⟨a,rfl,⟨xs,hq⟩,q⟩|⟨a,rfl,⟨xs,hq⟩,q⟩|⟨z,rfl,q⟩
 ·cases r1
  obtain⟨its,rv,p,hz⟩:=I1.list hq;refine acJ p.isList ?_;exact⟨s1.heap.objs.size,[s1.heap.objs.size],_,_,H,rfl,I1.kept (t':=s1.toks) λb o e=>sa _ e,L2.Ep a _,⟨_,KF _ rfl,rfl,rfl⟩,fp,q⟩
 ·cases r1
  obtain⟨its,rv,p,hz⟩:=I1.tuple hq;refine wpAny_pyIter_tuple (show s1.heap.IsTuple a its.toArray from p) ?_
  exact⟨s1.heap.objs.size,[s1.heap.objs.size],_,_,H,rfl,I1.kept (t':=s1.toks) λb o e=>sa _ e,L2.BS a _,⟨_,KF _ rfl,rfl,rfl⟩,fp,q⟩
 ·obtain⟨t,rfl⟩:=r1
  cases ha:z.cps.all (· <128)
  ·refine wpAny_pyIter_wide ha ?_
   exact⟨s1.heap.objs.size,[s1.heap.objs.size],_,_,H,rfl,I1.kept (t':=s1.toks) λb o e=>sa _ e,CO z t _,⟨_,KF _ rfl,rfl,rfl⟩,fp,q⟩
  ·refine wpAny_pyIter_ascii ha ?_
   exact⟨s1.heap.objs.size,[s1.heap.objs.size],_,_,H,rfl,I1.kept (t':=s1.toks) λb o e=>sa _ e,KU z t _,⟨_,KF _ rfl,rfl,rfl⟩,fp,q⟩
theorem K6(hl:PE X l tl):L2.PI X tg l (GH X.K tl):=λpins s σ H R I h=>
 L2.aM (hl pins s σ H _ I h) λv s1=>by rintro⟨x,H1,I1,r1,q1⟩;exact IJ I1 r1 q1
theorem Em:Gives M (lg x) H F (x.cps.toList.map λc=>.str ⟨#[c]⟩):=by
 intro H' F' mv tr;refine⟨λi d hd=>?_,?_⟩
 ·rw[xa]at hd
  cases e:x.cps.toList[i]? with
  |none=>rw[e]at hd;cases hd
  | some c=>
   rw[e]at hd;cases hd;have e':x.cps[i]? =some c:=by simpa using e
   refine⟨show i<x.cps.size from(abn.mp e').1,λy H2 hy=>?_⟩
   obtain⟨rfl,c',QX,rfl⟩:=hy;rw[e']at QX;cases QX;exact⟨aj.refl _,oA⟩
 ·show x.cps.size<=_
  simp
theorem Jn{K:PySem.W.Frag}{d:D}{ds:List D}{x:V}{R:It->Hp->Prop}(e:items d=.ok ds)(rv:Rep M H F d x)(q:∀J,Gives M J H F ds->R J H):
  (∃a,x=.ref a/\(∃xs,aU M.K H a xs)/\R (L2.m6 M.K a) H)\/(∃a,x=.ref a/\(∃xs,bj M.K H a xs)/\R (L2.nH M.K a) H)\/∃z,x=.str z/\R (lg z) H:=by
 unfold items at e;split at e
 ·cases e
  simp only[Rep]at rv;obtain⟨a,xs,rfl,h,rs⟩:=rv;exact .inl ⟨a,rfl,⟨xs,h.sq⟩,q _ (B2 h rs)⟩
 ·cases e
  simp only[Rep]at rv;obtain⟨a,xs,rfl,h,rs⟩:=rv;exact .inr (.inl ⟨a,rfl,⟨xs,h.sq⟩,q _ (ER h rs)⟩)
 ·cases e
  exact .inr (.inr ⟨_,iT rv,q _ Em⟩)
 ·cases e
theorem iJ(ha:XE X l fa):XI X tg l (fm fa):=⟨have ha:=ha.out;qN (K6 ha) λσ H Q=>by
  rintro⟨ρ,F,ds,r,e,q⟩
  obtain⟨d,ed,e⟩:=ao.mp e;exact⟨ρ,F,d,r,ed,λv H1 s1 rv=>Jn (K:=X.K) (M:=aB X) e rv λJ g=>q J H1 s1 g⟩⟩
end
structure cZ(P:Program)(w:World)(K:PySem.W.Frag)(mg:Str->S2)(x:Str)(d:D):Prop where
 ex:∃v u,mg x=some u/\RelV v u/\∀H F,Rep ⟨K,P,w⟩ H F d v
theorem cT(g:cZ X.prog X.w X.K X.mg x d)(hg:L2.Gl X x:=by rfl)(hd:gV x:=by decide):XE X (.Name x pos) (eC d):=⟨ by
 obtain⟨v,u,h1,h2,h3⟩:=g.ex;exact Gh hg h1 h2 h3 hd⟩
noncomputable def lN:Expr->Bool
 |.Starred .. =>false
 |_=>true
theorem a9(h:lN e=true):starEach (e::es) env=(false,eval e env)::starEach es env:=by cases e<;>first|rfl|cases h
theorem fU:∀ {es:P2},es.all lN=true->(backTo pos (starEach es env)).any (·.1)=false
 |[],_=>rfl
 | e::es,h=>by
  rw[aas,FB]at h;rw[a9 h.1];show(false||(backTo pos (starEach es env)).any (·.1))=false
  rw[Bool.false_or];exact fU h.2
theorem Bf:∀ {es:P2},es.all lN=true->(backTo pos (starEach es env)).all (λx=> !x.1)=true
 |[],_=>rfl
 | e::es,h=>by
  rw[aas,FB]at h;rw[a9 h.1];show(true&&(backTo pos (starEach es env)).all (λx=> !x.1))=true;rw[acg];exact Bf h.2
theorem ny(h:(e::es).all lN=true)(hl:(e::es).length<30):((backTo MQ (starEach (e::es) env)).all (λx=> !x.1)&&(backToKw MQ (keywordEach [] env)).all (λx=>x.1.isSome)
   &&decide ((e::es).length+([]:List Keyword).length+(if([]:List Keyword).isEmpty then 0 else 1)<30))=true:=by
 rw[Bf h,acg];show(true&&decide ((e::es).length+0+0<30))=true;rw[acg,Pi];exact hl
noncomputable def zq:Expr->Bool
 |.ListComp .. =>false
 |.SetComp .. =>false
 |.DictComp .. =>false
 |_=>true
theorem cY(h:zq e=true):swapsWith e t l env=pure false:=by cases e<;>first|rfl|cases h
theorem Bp(h:zq e=true):swapsWithSole [tg] e l env=pure false:=cY h
noncomputable def DG:Expr->Bool
 |.Tuple .. =>false
 |_=>true
theorem AJ(h:DG e=true):swappedStores [tg] e env=pure none:=by
 cases tg<;>first|rfl|(cases e<;>first|rfl|cases h)
noncomputable def Iv:Expr->Bool
 |.Tuple .. =>false
 |.List .. =>false
 |_=>true
theorem Ja(h:Iv tg=true):swappedStores [tg] e env=pure none:=by
 cases tg<;>first|rfl|cases h
theorem wX(h:lN e=true):(assignEach (e::es) env).map (·.2)=assign e env::(assignEach es env).map (·.2):=by cases e<;>first|rfl|cases h
theorem mY:∀ {es:P2},(assignEach es env).length=es.length
 |[]=>rfl
 | e::es=>by
  have:=mY (env:=env) (es:=es);cases e<;>(show(assignEach es env).length+1=_;rw[this];rfl)
theorem ue:∀ {es:P2},es.all lN=true->(assignEach es env).findIdx? (·.1)=none
 |[],_=>rfl
 | e::es,h=>by
  rw[aas,FB]at h;have ih:=ue (env:=env) h.2
  have:∃t,assignEach (e::es) env=(false,t)::assignEach es env:=by
   have h1:=h.1;cases e<;>first|exact⟨_,rfl⟩|cases h1
  obtain⟨t,e1⟩:=this;rw[e1,List.findIdx?_cons,ih];rfl
noncomputable def Gn:Expr->Bool
 |.Set .. =>false
 |_=>true
theorem vB(h:Gn e=true):∀x,foldedSetIterable e env x=pure x:=by intro x;cases e<;>first|rfl|cases h
noncomputable def plainT:Expr->Bool
 |.UnaryOp .Not _ _=>false
 |.BoolOp .. =>false
 |.IfExp .. =>false
 |.Compare .. =>false
 |_=>true
theorem El(h:plainT e=true):∀whole,isTrue e env whole=(do let v <-whole;standAt e.pos;holding [v] (truthy v)):=by
 intro w;cases e with
 |UnaryOp op _ _=>cases op<;>first|rfl|cases h
 |_=>first|rfl|cases h
theorem lh:attributeBase (.Name x p) a env w=w:=rfl
noncomputable def Kh:Expr->Bool
 |.Slice .. =>false
 |_=>true
theorem pF(h:Kh b=true):L2.kN b:=by intro o i;cases b<;>first|rfl|cases h
theorem walk{l:PySem.W.OpenLaw}{q:Program}{loose:List Str}{XP:(Str->S2)->Heap->Prop}{YP:World->Heap->Prop}{d:DefRec}{K:Params->PySem.W.Frag}{k:Nat}{x:Str}{m:List D->R D}(hn:l.most=some 63)(S':d.params.defaults=[])(hr:L2.bZ k PySem.callerA)
  (hY:∀(w:World) (h:Heap),YP w h->(K w.params).In h)
  (F:∀(w:World) (mg:Str->S2) (fa:Addr) (h:Heap),(K w.params).In h->h.Ns mainGlobals mg->mg d.name=some (.ref fa)->
   ∃fd:FuncData,(∀(s:Shared) (u:Value),BindsTo s fd ⟨[u],[]⟩ [(x,u)])/\∀base:Heap,(K w.params).In base->base.Ns mainGlobals mg->L2.fj l.prog w (K w.params) mg base L2.dY k fa fd [x] (iB ⟨K w.params,l.prog,w⟩ m 1))
  (hT:∀ns:tx,ns.length<=63->m [.lst (ns.map .int)]=.ok (.bl true)):
  PySem.W.WalkO q loose XP YP l.row.toRowW d [] (λf vs=>PySem.call f vs):=
 L2.DP (n:=63) (k:=k) (x:=x) (CX:=λ_=>L2.dY) (sp:=λw=>iB ⟨K w.params,l.prog,w⟩ m 1) hn (by decide) S' hr hY F (λw H a ns hl _ hS=>by
  refine⟨λ_=>False,[.lst (ns.map .int)],.bl true,λp h=>h.elim,ai.cons ?_ ai.nil,rfl,hT ns hl,λv H' _ rv=>hZ rv⟩
  have SA:∀(ns:tx) (M:Md) (H:Hp),ai M H (λ_=>False) (ns.map D.int) (ns.map V.int):=by
   intro ns M H
   induction ns with
   |nil=>exact ai.nil
   |cons n r ih=>exact ai.cons de ih
  simp only[Rep];refine⟨a,ns.map V.int,rfl,?_,SA ns _ H⟩;rcases hS with h|h
  ·exact .inl ⟨λh=>h,h⟩
  ·exact .inr h) λ_ _ _ _ _ z=>z
open L2 (Un)
section
variable{prog:Program}{w:World}{A:Around}{R:Result->Shared->Prop}{s:Shared}
theorem Ih{elt target iter:Expr}{ifs:P2}{scope:Scope}{pos:Pos}{it acc:Value}{env:Env}(I:Nat->Shared->Prop)
  (turn:∀n s,I n s->wpAny (model prog w) A (pyNext it) (λr MO=>match r with
   |none=>R (.ok .next) MO
   |some v=>wpAny (model prog w) A (letOwnedTupleGo target it v) (λ_ QU=>wpAny (model prog w) A (assign target env v) (λ_ OR=>
     wpAny (model prog w) A (forIn ifs true λc r=>if r=true then do let ok <-isTrue c env (eval c env);pure (ForInStep.yield ok)else pure (ForInStep.yield r)) (λok Qa=>
      if ok=true then wpAny (model prog w) A (eval elt env) (λx QH=>
       wpAny (model prog w) A (call (.builtin "list.append") [acc,x]) (λ_ QA=>∃m,m<n/\I m QA) (notedBy (model prog w) A env λe s'=>R (.error e) s') QH) (notedBy (model prog w) A env λe s'=>R (.error e) s') Qa
      else ∃m,m<n/\I m Qa) (notedBy (model prog w) A env λe s'=>R (.error e) s') OR) (notedBy (model prog w) A env λe s'=>R (.error e) s') QU) (notedBy (model prog w) A env λe s'=>R (.error e) s') MO) (notedBy (model prog w) A env λe s'=>R (.error e) s') s)
  (n:Nat) (h:I n s):codeAny (model prog w) A (.compLoop (.ListComp elt [⟨target,iter,ifs,0⟩] scope pos) 0 it acc env) R s:=by
 refine codeAny_loop rfl I (λn s hI=>?_) n h;show wpAny _ A ((compTurn (.ListComp elt [⟨target,iter,ifs,0⟩] scope pos) 0 it acc env).onRaise (λx=>do noteFrame x env;theTreesLotGoes x)) _ _ s
 refine wpAny_noted ?_;rw[compTurn_list];refine tB (acz (tB (SL (turn n s hI) (λr MO Oi=>?_) λ_ _ h'=>h')));cases r with
 |none=>exact FM Oi
 | some v=>
  refine tB (SL Oi (λ_ QU SQ=>?_) λ_ _ h'=>h');refine tB (SL SQ (λ_ OR Qb=>tB (SL Qb (λok Qa SI=>?_) λ_ _ h'=>h')) λ_ _ h'=>h');cases ok with
  |false=>exact FM ⟨rfl,SI⟩
  | true=>
   exact tB (tB (SL SI (λx QH Vn=>tB (SL Vn (λ_ QA Vy=>FM (FM ⟨rfl,Vy⟩)) λ_ _ h'=>h')) λ_ _ h'=>h'))
end
noncomputable def fe(X:Cx)(scope:Scope)(cl:List (Str×Addr))(C:Addr)(N:List Str)(s:Shared)(H:Hp)(fp:P1):Cx where
 prog:=X.prog
 w:=X.w
 K:=X.K
 mg:=X.mg
 base:=X.base
 A:=X.A
 N:=N
 cW:=s
 ju:=H
 env:=compEnvC scope cl C X.env
 outer:=X.stack
 stack:=X.stack
 ex:=fp
 fn:=λx=>decide ((x,NameKind.cell)∈scope.names)
 calm:=X.calm
 pn:=[]
 xe:=X.xe
abbrev oJ(X:Cx)(ifs:P2)(cs:List bg):Prop:=Paired (λe c=>JT X e c) ifs cs
structure pf(X:Cx)(e:P2)(f:List bg):Prop where
 out:oJ X e f
theorem A3{X:Cx}{M:Md}(hM:M=aB X){pins:List (Addr×Obj)}{σ:L2.St}{ρ:En}{F:YK}{E:Value->Shared->Prop}(hE:∀e s,X.xe e s->E e s):
  ∀ {ifs:P2} {cs:List bg},oJ X ifs cs->∀ {s:Shared} {H:Hp} {t:Bool} {Q:Bool->Hp->Prop},Inv X pins σ H s->bf M H F σ ρ->gh.lV cs ρ=.ok t->(∀H',aj H H'->Q t H')->
   wpAny (model X.prog X.w) X.A (forIn ifs true λc r=>if r=true then do let ok <-isTrue c X.env (eval c X.env);pure (ForInStep.yield ok)else pure (ForInStep.yield r)) (λok s'=>∃H',Inv X pins σ H' s'/\Q ok H') E s
 | [],_,.nil,s,H,t,Q,I,r,e,q=>by
  cases e;exact wpAny_tests_nil ⟨H,I,q H (aj.refl H)⟩
 | c::ifs,_,.cons h hs,s,H,t,Q,I,r,e,q=>by
  unfold gh.lV at e;obtain⟨b,eb,e⟩:=ao.mp e;rw[aaS];simp only[abX];refine tB (tB (SL (h pins s σ H (λb' H'=>b'=b/\aj H H') I ⟨ρ,F,b,hM▸r,eb,λH' s'=>⟨rfl,s'⟩⟩) (λb' s1 h1=>FM ?_) hE));obtain⟨H1,I1,rfl,Vd⟩:=h1;dsimp only;cases b' with
  | true=>
   rw[DM rfl]at e;exact A3 hM hE hs I1 (r.same Vd) e λH2 s2=>q H2 (Vd.trans s2)
  | false=>
   rw[Gc (by decide)]at e
   cases e
   have pass:∀(l:P2) (s:Shared),(∃H',Inv X pins σ H' s/\Q false H')->wpAny (model X.prog X.w) X.A (forIn l false λc r=>if r=true then do let ok <-isTrue c X.env (eval c X.env);pure (ForInStep.yield ok)else pure (ForInStep.yield r)) (λok s'=>∃H',Inv X pins σ H' s'/\Q ok H') E s:=by
    intro l
    induction l with
    |nil=>intro s h;exact FM h
    | cons a l ih=>
     intro s h;rw[aaS];exact tB (FM (ih s h))
   exact pass ifs _ ⟨H1,I1,q H1 Vd⟩
theorem tF:∀(names:List (Str×NameKind)) (cs:List (Str×Addr)),(∀y∈names,y.2=.free->∃c,env.cells.lookup y.1=some c)->(∀x c,cs.lookup x=some c->env.cells.lookup x=some c)->
  ∃cl,(forIn names cs λ(x:Str×NameKind) r=>(if(x.2==.free)=true then do let c <-cellOf env x.1;pure (ForInStep.yield ((x.1,c)::r))else pure (ForInStep.yield r):Sem (ForInStep (List (Str×Addr)))))=(pure cl:Sem _)/\
   (∀x c,cl.lookup x=some c->env.cells.lookup x=some c)/\(∀x,(∃c,cs.lookup x=some c)\/(x,NameKind.free)∈names->∃c,cl.lookup x=some c)
 |[],cs,_,hc=>⟨cs,rfl,hc,λx h=>h.elim (λh=>h) λh=>nomatch h⟩
 | (n,k)::names,cs,hn,hc=>by
  rw[aaS];by_cases hk:k=.free
  ·subst hk
   obtain⟨c,ec⟩:=hn _ AC rfl
   obtain⟨cl,e,h1,h2⟩:=tF names ((n,c)::cs) (λy hy=>hn y (Ax _ hy)) (λx d h=>by
    rw[S5]at h;cases hx:x==n with
    |true=>rw[hx]at h;cases h;rw[aaG.mp hx];exact ec
    |false=>rw[hx]at h;exact hc x d h)
   refine⟨cl,?_,h1,λx h=>h2 x ?_⟩
   ·have:cellOf env n=pure c:=by unfold cellOf;rw[show List.lookup n env.cells=some c from ec]
    simp only[aba,abX,this];exact e
   ·rcases h with⟨d,h⟩|h
    ·left
     rw[S5];cases x==n with
     |true=>exact⟨c,rfl⟩
     |false=>exact⟨d,h⟩
    ·rcases KM.mp h with h|h
     ·cases h
      left;rw[S5,aba];exact⟨c,rfl⟩
     ·exact .inr h
  ·obtain⟨cl,e,h1,h2⟩:=tF names cs (λy hy=>hn y (Ax _ hy)) hc
   refine⟨cl,?_,h1,λx h=>h2 x (h.imp (λh=>h) λh=>?_)⟩
   ·have:(k==NameKind.free)=false:=by cases k<;>first|rfl|exact absurd rfl hk
    simp only[this,aaT,abD];exact e
   ·rcases KM.mp h with h|h
    ·cases h;exact absurd rfl hk
    ·exact h
theorem HZ{scope:Scope}{env:Env}(hn:∀y∈scope.names,y.2=.free->∃c,env.cells.lookup y.1=some c):
  ∃cl,closureFor scope env=pure cl/\(∀x c,cl.lookup x=some c->env.cells.lookup x=some c)/\∀x,(x,NameKind.free)∈scope.names->∃c,cl.lookup x=some c:=by
 obtain⟨cl,e,h1,h2⟩:=tF scope.names [] hn (λx c h=>nomatch h)
 refine⟨cl,?_,h1,λx h=>h2 x (.inr h)⟩;unfold closureFor
 have:∀(l:List (Str×NameKind)) (cs:List (Str×Addr)),(forIn l cs λ(x:Str×NameKind) (r:List (Str×Addr))=>(match x with|(name,kind)=>do
   if(kind==.free)=true then
    let c <-cellOf env name
    pure (ForInStep.yield ((name,c)::r))
   else pure (ForInStep.yield r):Sem (ForInStep (List (Str×Addr)))))=forIn l cs λ(x:Str×NameKind) r=>(if(x.2==.free)=true then do let c <-cellOf env x.1;pure (ForInStep.yield ((x.1,c)::r))else pure (ForInStep.yield r):Sem (ForInStep (List (Str×Addr)))):=λ_ _=>rfl
 show(forIn scope.names [] _ >>= λr=>pure r)=_
 first
  |(rw[show(forIn scope.names ([]:List (Str×Addr)) _:Sem (List (Str×Addr)))=pure cl from e];rfl)
  |(erw [e];rfl)
theorem sP:∀(names:List (Str×NameKind)) {s:Shared} {cells:List (Str×Addr)},(∀x c,cells.lookup x=some c->c<s.heap.objs.size)->(∀x y c,cells.lookup x=some c->cells.lookup y=some c->x=y)->
  (∀(h':Heap) (MR:List (Str×Addr)),(∀b o,s.heap.get? b=some o->h'.get? b=some o)->(∀x y c,MR.lookup x=some c->MR.lookup y=some c->x=y)->
   (∀x c,MR.lookup x=some c->cells.lookup x=some c\/(s.heap.objs.size<=c/\h'.IsCell c none))->(∀x,(x,NameKind.cell)∈names->∃c,MR.lookup x=some c/\s.heap.objs.size<=c)->(∀x c,cells.lookup x=some c->(x,NameKind.cell)∉names->MR.lookup x=some c)->Q MR {s with heap:=h'})->
  wpAny M A (forIn names cells λ(x:Str×NameKind) (r:List (Str×Addr))=>(match x with|(name,kind)=>if(kind==NameKind.cell)=true then do let a <-alloc {cls:=Value.type "cell",data:=Data.cell none};pure (ForInStep.yield ((name,a)::r))else pure (ForInStep.yield r):Sem (ForInStep (List (Str×Addr))))) Q E s
 | [],s,cells,_,inj,k=>by
  exact FM (k s.heap cells (λ_ _ e=>e) inj (λ_ _ e=>.inl e) (λ_ h=>nomatch h) (λ_ _ e _=>e))
 | (n,kd)::names,s,cells,lt,inj,k=>by
  rw[aaS];by_cases hk:kd=.cell
  ·subst hk
   simp only[aba,abX];refine tB (tB (wpAny_alloc (FM ?_)));dsimp only;refine sP names (λx c h=>?_) (λx y c hx hy=>?_) λh' MR keep P8 h2 h3 h4=>?_
   ·rw[Z9]
    rw[S5]at h;cases hx:x==n with
    |true=>rw[hx]at h;cases h;exact adC _
    |false=>rw[hx]at h;exact acp (lt x c h)
   ·rw[S5]at hx hy
    cases ex:x==n with
    | true=>
     cases ey:y==n with
     |true=>rw[aaG.mp ex,aaG.mp ey]
     | false=>
      rw[ex]at hx;rw[ey]at hy;cases hx;exact absurd (lt y _ hy) (aae _)
    | false=>
     rw[ex]at hx;cases ey:y==n with
     |true=>rw[ey]at hy;cases hy;exact absurd (lt x _ hx) (aae _)
     |false=>rw[ey]at hy;exact inj x y c hx hy
   ·have old:∀b o,s.heap.get? b=some o->h'.get? b=some o:=λb o e=>keep b o (sa _ e)
    have new:h'.IsCell s.heap.objs.size none:=⟨_,keep _ _ (KF _ rfl),rfl⟩;refine k h' MR old P8 (λx c h=>?_) (λx hx=>?_) (λx c h hx=>?_)
    ·rcases h2 x c h with h|⟨h5,h6⟩
     ·rw[S5]at h
      cases ex:x==n with
      |true=>rw[ex]at h;cases h;exact .inr ⟨IR _,new⟩
      |false=>rw[ex]at h;exact .inl h
     ·rw[Z9]at h5
      exact .inr ⟨by omega,h6⟩
    ·by_cases hm:(x,NameKind.cell)∈names
     ·obtain⟨c,h5,h6⟩:=h3 x hm
      rw[Z9]at h6;exact⟨c,h5,by omega⟩
     ·have Y4:x=n:=by
       rcases KM.mp hx with e|e
       ·exact(Prod.mk.inj e).1
       ·exact absurd e hm
      subst Y4;exact⟨s.heap.objs.size,h4 x _ (by rw[S5,aba]) hm,IR _⟩
    ·refine h4 x c ?_ λhm=>hx (Ax _ hm)
     rw[S5];cases ex:x==n with
     |true=>exact absurd (by rw[aaG.mp ex];exact AC) hx
     |false=>exact h
  ·have Qo:(kd==NameKind.cell)=false:=by cases kd<;>first|rfl|exact absurd rfl hk
   simp only[Qo,aaT,abD];refine tB (FM ?_);dsimp only;refine sP names lt inj λh' MR keep P8 h2 h3 h4=>k h' MR keep P8 h2 (λx hx=>?_) (λx c h hx=>h4 x c h λhm=>hx (Ax _ hm));rcases KM.mp hx with e|e
   ·exact absurd (Prod.mk.inj e).2.symm hk
   ·exact h3 x e
theorem E4{M:Model}{A:Around}{E:Value->Shared->Prop}{Q:Env->Shared->Prop}{s:Shared}{scope:Scope}{cl:List (Str×Addr)}{env:Env}(lt:∀x c,cl.lookup x=some c->c<s.heap.objs.size)(inj:∀x y c,cl.lookup x=some c->cl.lookup y=some c->x=y)
  (k:∀(h':Heap) (MR:List (Str×Addr)),(∀b o,s.heap.get? b=some o->h'.get? b=some o)->(h'.Ns s.heap.objs.size λ_=>none)->(∀x y c,MR.lookup x=some c->MR.lookup y=some c->x=y)->
   (∀x c,MR.lookup x=some c->cl.lookup x=some c\/(s.heap.objs.size+1<=c/\h'.IsCell c none))->(∀x,(x,NameKind.cell)∈scope.names->∃c,MR.lookup x=some c/\s.heap.objs.size+1<=c)->(∀x c,cl.lookup x=some c->(x,NameKind.cell)∉scope.names->MR.lookup x=some c)->
   Q {scope:=scope,locals:=s.heap.objs.size,globals:=env.globals,cells:=MR,qual:=env.qual,func:=none,code:=env.code,frame:=env.frame,builtins:=env.builtins} {s with heap:=h'}):
  wpAny M A (newFunctionEnv scope env.globals cl [] env.qual none Value.none (some env)) Q E s:=by
 unfold newFunctionEnv;refine tB (wpAny_alloc ?_);dsimp only;refine tB (SL (sP (Q:=λMR s'=>Q {scope:=scope,locals:=s.heap.objs.size,globals:=env.globals,cells:=MR,qual:=env.qual,func:=none,code:=env.code,frame:=env.frame,builtins:=env.builtins} s') scope.names (λx c h=>by rw[Z9];exact acp (lt x c h)) inj λh' MR keep P8 h2 h3 h4=>?_) (λMR s' hq=>?_) λ_ _ h=>h)
 ·refine k h' MR (λb o e=>keep b o (sa _ e)) ?_ P8 (λx c h=>?_) (λx hx=>?_) h4
  ·obtain⟨o,es,ep,h1,h2,h3,h4⟩:=Heap.Ns.new s.heap (Value.type "dict")
   exact⟨o,es,ep,keep _ _ h1,h2,h3,h4⟩
  ·rcases h2 x c h with h|⟨h5,h6⟩
   ·exact .inl h
   ·rw[Z9]at h5;exact .inr ⟨h5,h6⟩
  ·obtain⟨c,h5,h6⟩:=h3 x hx
   rw[Z9]at h6;exact⟨c,h5,h6⟩
 ·exact FM hq
set_option maxHeartbeats 1000000
noncomputable abbrev Xt:=En->R T
noncomputable def xD(e:Ex):Xt:=λρ=>(e ρ).bind λd=>.ok (.d d)
inductive qY(M:Md)(f:Xt)(σ:L2.St)(H:Hp)(Q:VK):Prop
 |mk:∀ρ F t,bf M H F σ ρ->f ρ=.ok t->(∀v H' F' as,aj H H'->(∀b∈as,H b=none)->as.Nodup->(∀b,F' b↔F b\/b∈as)->au M H' F' t v as->Q v H')->qY M f σ H Q
abbrev JX(X:Cx)(e:Expr)(f:Xt):Prop:=PE X e (qY (aB X) f)
structure XX(X:Cx)(e:Expr)(f:Xt):Prop where
 out:JX X e f
noncomputable def jt(tg:dZ)(cs:List bg)(el:Xt)(ρ:En):List D->R (List T)
 |[]=>.ok []
 | d::ds=>(tg d ρ).bind λNm=>(gh.lV cs Nm).bind λt=>
  if t=true then(el Nm).bind λy=>(jt tg cs el ρ ds).bind λys=>.ok (y::ys)else jt tg cs el ρ ds
noncomputable def xx(it:dW)(n:Nat)(fv:List Nat)(tg:dZ)(cs:List bg)(el:Xt):En->R (List T):=λρ=>(it ρ).bind λds=>
 if ds.length<=dI then jt tg cs el (List.replicate n .un++frees ρ fv) ds else .bad
theorem wB:∀ {ds ys:List D},gh tg cs el ρ ds=.ok ys->jt tg cs (xD el) ρ ds=.ok (ys.map .d)
 |[],_,h=>by cases h;rfl
 | d::ds,ys,h=>by
  unfold gh at h;obtain⟨Nm,e1,h⟩:=ao.mp h;obtain⟨t,e2,h⟩:=ao.mp h;unfold jt;rw[e1,R.aH,e2,R.aH];cases t with
  | true=>
   rw[DM rfl]at h ⊢;obtain⟨y,e3,h⟩:=ao.mp h;obtain⟨zs,e4,h⟩:=ao.mp h;cases h;show((el Nm).bind λd=>R.ok (T.d d)).bind _=_;rw[e3,R.aH,R.aH,wB e4];rfl
  | false=>
   rw[Gc (by decide)]at h ⊢
   exact wB h
section
variable{M:Md}{H H':Hp}{F F':YK}{as:P1}{σ:L2.St}{ρ:En}
theorem bf.wide(r:bf M H F σ ρ)(s1:aj H H')(hn:∀b∈as,H b=none)(hF:∀b,F' b↔F b\/b∈as)(ht:∀b∈as,∃u,H' b=some u):Mv F H F' H'/\bf M H' F' σ ρ:=by
 have mv:Mv F H F' H':=λb o n e=>⟨λf=>((hF b).mp f).elim n (λhb=>by rw[hn b hb]at e;cases e),s1 _ _ e⟩
 refine⟨mv,⟨r.len,λa f=>?_,λi d e=>?_,λi ds e=>?_,λi ks ds e=>?_,r.cu,?_⟩⟩
 ·rcases(hF a).mp f with f|f
  ·obtain⟨o,e⟩:=r.aV a f;exact⟨o,s1 _ _ e⟩
  ·exact ht a f
 ·obtain⟨v,e1,q⟩:=r.sh i d e;exact⟨v,e1,q.mv mv⟩
 ·obtain⟨a,xs,e1,f,e2,q⟩:=r.ol i ds e;exact⟨a,xs,e1,(hF a).mpr (.inl f),s1 _ _ e2,q.mv mv⟩
 ·obtain⟨a,xs,e1,f,e2,l,q⟩:=r.od i ks ds e;exact⟨a,xs,e1,(hF a).mpr (.inl f),s1 _ _ e2,l,q.mv mv⟩
 ·exact r.on.mv mv (λj x e=>⟨e,rfl⟩) (λj x b u e hb f hu=>⟨(hF b).mpr (.inl f),s1 _ _ hu⟩) λj x b e hb k ok=>(r.on j x e).2.1 b hb k ok
theorem yG(h:JE X e f):JX X e (xD f):=
 bw h λσ H Q=>by
  rintro⟨ρ,F,t,hr,e,q⟩
  obtain⟨d,ed,e⟩:=ao.mp e;cases e;exact⟨ρ,F,d,hr,ed,λv H1 s1 rv=>q v H1 F [] s1 (λ_ hb=>nomatch hb) aaw (λb=>by simp) (by rw[au];exact⟨rfl,rv⟩)⟩
theorem lJ:∀ {vs:List D} {xs:List V} {as:P1},aq M H F (vs.map .d) xs as↔as=[]/\ai M H F vs xs
 |[],xs,as=>by simp only[aco,aq,ai];exact And.comm
 | v::vs,xs,as=>by
  simp only[MG,aq,ai,au];constructor
  ·rintro⟨x,r,bs,cs,rfl,rfl,⟨rfl,h1⟩,h2⟩
   obtain⟨rfl,h3⟩:=lJ.mp h2;exact⟨rfl,x,r,rfl,h1,h3⟩
  ·rintro⟨rfl,x,r,rfl,h1,h2⟩
   exact⟨x,r,[],[],rfl,rfl,⟨rfl,h1⟩,lJ.mpr ⟨rfl,h2⟩⟩
theorem aq.append:∀ {ts us:List T} {xs ys:List V} {as bs:P1},aq M H F ts xs as->aq M H F us ys bs->aq M H F (ts++us) (xs++ys) (as++bs)
 | [],_,_,_,_,_,h,g=>by
  simp only[aq]at h;obtain⟨rfl,rfl⟩:=h;exact g
 | t::ts,_,_,_,_,_,h,g=>by
  simp only[aq]at h;obtain⟨x,r,bs,cs,rfl,rfl,h1,h2⟩:=h;rw[aaL,aaL,P3];simp only[aq];exact⟨x,_,bs,_,rfl,rfl,h1,h2.append g⟩
theorem aq.len:∀ {ts:List T} {xs:List V} {as:P1},aq M H F ts xs as->ts.length=xs.length
 |[],xs,as,h=>by simp only[aq]at h;rw[h.1];rfl
 | t::ts,xs,as,h=>by
  simp only[aq]at h;obtain⟨x,r,bs,cs,rfl,rfl,h1,h2⟩:=h;simp[aq.len h2]
end
section
variable{X:Cx}{M:Md}{G H H':Hp}{F0:Gf}{F F':YK}{σ:L2.St}{ρ:En}{pos:Pos}
def kf(n:Nat)(tg:dZ):Prop:=∀d ρ ρ',tg d ρ=.ok ρ'->ρ'.length=ρ.length/\∀j:Nat,n<=j->ρ'[j]? =ρ[j]?
theorem zb(h:i<n):kf n (aA i):=λd ρ ρ' e=>by
 cases e;exact⟨by simp,λj hj=>df (by omega)⟩
theorem yr:∀ {is:List Nat} {ds:List D} {ρ ρ':En},is.all (· <n)=true->fk is ds ρ=.ok ρ'->ρ'.length=ρ.length/\∀j:Nat,n<=j->ρ'[j]? =ρ[j]?
 |[],[],_,_,_,e=>by cases e;exact⟨rfl,λ_ _=>rfl⟩
 | i::is,d::ds,ρ,ρ',h,e=>by
  rw[aas,FB,Pi]at h;simp only[fk]at e;obtain⟨h1,h2⟩:=yr h.2 e;exact⟨by rw[h1];simp,λj hj=>by rw[h2 j hj];exact df (by omega)⟩
 |[],_::_,_,_,_,e=>by cases e
 |_::_,[],_,_,_,e=>by cases e
theorem Fv(h:is.all (· <n)=true):kf n (hW is):=λd ρ ρ' e=>by
 unfold hW at e;split at e
 ·exact yr h e
 ·cases e
theorem bf.less{ρ':En}(r:bf M H F σ ρ)(hl:ρ'.length=ρ.length)(h:∀(j:Nat) s,ρ'[j]? =some s->s=.un\/((∃d,s=.sh d)/\ρ[j]? =some s)):bf M H F σ ρ' where
 len:=by rw[hl,r.len]
 aV:=r.aV
 sh i d e:=by
  rcases h i _ e with z|⟨_,z⟩
  ·cases z
  ·exact r.sh i d z
 ol i d e:=by
  rcases h i _ e with z|⟨⟨_,z⟩,_⟩<;>cases z
 od i k d e:=by
  rcases h i _ e with z|⟨⟨_,z⟩,_⟩<;>cases z
 cu i j a oi:=by
  rcases oi with⟨_,e⟩|⟨_,_,e⟩
  ·rcases h i _ e with z|⟨⟨_,z⟩,_⟩<;>cases z
  ·rcases h i _ e with z|⟨⟨_,z⟩,_⟩<;>cases z
 on:=.no λi MU e=>by rcases h i _ e with z|⟨⟨_,z⟩,_⟩<;>cases z
theorem jL{ρ:En}(h:∀(j:Nat) s,ρ[j]? =some s->s=.un\/∃d,s=.sh d){i:Nat}(o:a0 ρ i):False:=by
 rcases o with⟨_,e⟩|⟨_,_,e⟩
 ·rcases h i _ e with z|⟨_,z⟩<;>cases z
 ·rcases h i _ e with z|⟨_,z⟩<;>cases z
noncomputable def ent(n:Nat)(ρ:En)(fv:List Nat):En:=List.replicate n .un++frees ρ fv
theorem kn{n:Nat}{fv:List Nat}{j:Nat}{s:Slot}(h:(ent n ρ fv)[j]? =some s):s=.un\/((∃d,s=.sh d)/\n<=j/\∃i,fv[j - n]? =some i/\ρ[i]? =some s):=by
 unfold ent at h;rw[aak,aaD]at h;split at h
 ·rename_i hn
  rw[UV,DM hn]at h;cases h;exact .inl rfl
 ·rename_i hn
  unfold frees at h;rw[xa]at h;cases e:fv[j - n]? with
  |none=>rw[e]at h;cases h
  | some i=>
   rw[e]at h;have hs:sg ρ[i]? =s:=by simpa using h
   subst hs;cases PR:ρ[i]? with
   |none=>exact .inl rfl
   | some z=>
    cases z with
    |sh d=>exact .inr ⟨⟨d,rfl⟩,by omega,i,rfl,PR⟩
    |_=>exact .inl rfl
noncomputable def stC(n:Nat)(σ:L2.St)(fv:List Nat):L2.St:=List.replicate n none++fv.map λi=>(σ[i]?).getD none
theorem DI{n:Nat}{fv:List Nat}(r:bf M H F σ ρ):bf M H F (stC n σ fv) (ent n ρ fv) where
 len:=by unfold stC ent frees;simp
 aV:=r.aV
 sh j d e:=by
  rcases kn e with z|⟨_,hn,i,hi,z⟩
  ·cases z
  ·obtain⟨v,ev,rv⟩:=r.sh i d z
   refine⟨v,?_,rv⟩;unfold stC;rw[ZN (by simpa using hn),aaD,xa,hi]
   simp[ev]
 ol j d e:=by rcases kn e with z|⟨⟨_,z⟩,_⟩<;>cases z
 od j k d e:=by rcases kn e with z|⟨⟨_,z⟩,_⟩<;>cases z
 cu j k a oj:=by
  exact(jL (λj s e=>(kn e).imp (λh=>h) λh=>h.1) oj).elim
 on:=.no λj MU e=>by rcases kn e with z|⟨⟨_,z⟩,_⟩<;>cases z
theorem sv{scope:Scope}{env:Env}:∀ {names:List (Str×NameKind)} {x:Str} {k:NameKind},(names.map λ(n,k)=>if(k==NameKind.free&&env.scope.kind==.function&&env.kindOf n==some .cell)then(n,NameKind.cell)else(n,k)).lookup x=some k->
  (k=.cell\/k=.free)->(x,NameKind.free)∈names\/(x,NameKind.cell)∈names
 |[],_,_,h,_=>by simp at h
 | (n,q)::r,x,k,h,hk=>by
  have ih:=@sv scope env r x k;have h':List.lookup x ((if(q==NameKind.free&&env.scope.kind==.function&&env.kindOf n==some .cell)=true then(n,NameKind.cell)else(n,q))::r.map λ(n,k)=>if(k==NameKind.free&&env.scope.kind==.function&&env.kindOf n==some .cell)then(n,NameKind.cell)else(n,k))=some k:=h
  cases hx:x==n with
  | true=>
   have:=aaG.mp hx;subst this;by_cases hcnd:(q==NameKind.free&&env.scope.kind==.function&&env.kindOf x==some .cell)=true
   ·have:q=.free:=by
     rw[FB,FB]at hcnd;have:=hcnd.1.1;cases q<;>first|rfl|cases this
    subst this;exact .inl AC
   ·rw[Gc hcnd,S5,aba]at h'
    cases h';rcases hk with rfl|rfl
    ·exact .inr AC
    ·exact .inl AC
  | false=>
   refine(ih ?_ hk).imp (Ax _) (Ax _);by_cases hcnd:(q==NameKind.free&&env.scope.kind==.function&&env.kindOf n==some .cell)=true
   ·rw[DM hcnd,S5,hx]at h';exact h'
   ·rw[Gc hcnd,S5,hx]at h';exact h'
theorem sO{env:Env}:∀ {names:List (Str×NameKind)} {x:Str},names.lookup x=some .free->(names.map λ(n,k)=>if(k==NameKind.free&&env.scope.kind==.function&&env.kindOf n==some .cell)then(n,NameKind.cell)else(n,k)).lookup x=some .cell\/
  (names.map λ(n,k)=>if(k==NameKind.free&&env.scope.kind==.function&&env.kindOf n==some .cell)then(n,NameKind.cell)else(n,k)).lookup x=some .free
 |[],_,h=>by simp at h
 | (n,q)::r,x,h=>by
  show List.lookup x ((if(q==NameKind.free&&env.scope.kind==.function&&env.kindOf n==some .cell)=true then(n,NameKind.cell)else(n,q))::r.map λ(n,k)=>if(k==NameKind.free&&env.scope.kind==.function&&env.kindOf n==some .cell)then(n,NameKind.cell)else(n,k))=_\/
   List.lookup x ((if(q==NameKind.free&&env.scope.kind==.function&&env.kindOf n==some .cell)=true then(n,NameKind.cell)else(n,q))::r.map λ(n,k)=>if(k==NameKind.free&&env.scope.kind==.function&&env.kindOf n==some .cell)then(n,NameKind.cell)else(n,k))=_
  rw[S5]at h;by_cases hcnd:(q==NameKind.free&&env.scope.kind==.function&&env.kindOf n==some .cell)=true
  ·rw[DM hcnd,S5]
   cases hx:x==n with
   |true=>exact .inl rfl
   |false=>rw[hx]at h;exact sO h
  ·rw[Gc hcnd,S5]
   cases hx:x==n with
   |true=>rw[hx]at h;exact .inr h
   |false=>rw[hx]at h;exact sO h
structure mn(X:Cx)(scope:Scope)(tn fv:List Str)(Nu:List Nat):Prop where
 kind:scope.kind=.function
 cells:∀y∈scope.names,y.2=.cell->scope.names.lookup y.1=some .cell
 names:∀y∈scope.names,y.2=.local->scope.names.lookup y.1=some .local
 free:∀y∈scope.names,y.2=.free->X.env.scope.names.lookup y.1=some .cell
 Bt:∀y∈scope.names,y.2=.free->scope.names.lookup y.1=some .free
 Ma:∀(j:Nat) i,Nu[j]? =some i->∃x,fv[j]? =some x/\X.N[i]? =some x/\(x,NameKind.free)∈scope.names
 len:fv.length=Nu.length
inductive FG(X':Cx)(M:Md)(m:Nat)(Ub:Nat->Heap->Prop)(fp:P1)(H2:Hp)(F:YK)(D:Addr)(en:En)(cm:Nat->List T->Prop)(all:List T)(n:Nat)(s':Shared):Prop
 |mk (i:Nat) (ME:L2.St) (H':Hp) (vs:List V) (as:List T) (bs:P1) (F':YK) (_:n=m - i) (_:i<=m) (_:Inv X' [] ME H' s') (_:Ub i s'.heap) (_:∀b∈fp,H' b=none) (_:aj H2 H') (_:H' D=some (.lst vs)) (_:vs.length<=i)
   (_:(∀b,F' b↔F b\/b=D\/b∈bs)/\(∀b∈bs,H2 b=none/\b≠D)/\bs.Nodup) (_:aq M H' F' as vs bs) (_:bf M H' F' ME en) (rest:List T) (_:cm i rest) (_:as++rest=all)
theorem E2 (tn fv:List Str) (Nu:List Nat) {elt iter target:Expr} {ifs:P2} {scope:Scope} {it:dW} {tg:dZ} {cs:List bg} {el:Xt} (PQ:∀e s,¬X.xe e s) (hc:X.calm=true) (ok:mn X scope tn fv Nu) (hi:JI X target iter it) (low:kf tn.length tg)
  (ht:∀cl C s H fp,JG (fe X scope cl C (tn++fv) s H fp) target tg) (Ph:∀cl C s H fp,oJ (fe X scope cl C (tn++fv) s H fp) ifs cs) (P7:∀cl C s H fp,JX (fe X scope cl C (tn++fv) s H fp) elt el)
  (hs:∀x,foldedSetIterable iter X.env x=pure x) {use:Option (Value->Sem Unit)} {Qc:Value->Shared->Prop} {pins:List (Addr×Obj)} {s:Shared} {all:List T} {p1:Pos} (I:Inv X pins σ H s) (hr:bf (aB X) H F σ ρ) (e:xx it tn.length Nu tg cs el ρ=.ok all)
  (O9:∀D C s4 H' vs Hq bs F2 f,(∃m,s4.heap.Ns C m)->Inv X pins σ H' s4->bS X pins H' C->aj H Hq->Hq D=none->(∀b∈bs,H b=none)->bs.Nodup->(∀b,F2 b↔F b\/b∈bs)->aq (aB X) Hq F2 all vs bs->upd Hq D (.lst vs)=H'->compPost (model X.prog X.w) X.A X.xe use Qc (.ref D) C (.ok f) s4):
  wpAny (model X.prog X.w) X.A (comprehension (.ListComp elt [⟨target,iter,ifs,0⟩] scope pos) scope X.env p1 (newList []) false (eval iter X.env) use) Qc X.xe s:=by
 obtain⟨ds,ed,e⟩:=ao.mp e
 have hlen:ds.length<=sizeLine:=by
  by_cases h:ds.length<=dI
  ·exact h
  ·rw[Gc h]at e;cases e
 rw[DM (show ds.length<=dI from hlen)]at e
 have ey:jt tg cs el (ent tn.length ρ Nu) ds=.ok all:=e;obtain⟨cl,S9,OQ,Sw⟩:=HZ (scope:=scope) (env:=X.env) (λy hy hf=>I.ok.has y.1 (.inl (ok.free y hy hf)));refine wpAny_comprehension_free (gs:=[]) rfl hs S9 ok.kind ok.names ?_;refine L2.aM (hi pins s σ H _ I ⟨ρ,F,ds,hr,ed,λJ H' sm gv=>(⟨sm,gv⟩:aj H H'/\Gives (aB X) J H' F ds)⟩) λv s1 h1=>L2.aM h1 λVl s2 h2=>?_;obtain⟨YH,fp,Ub,J,H2,rfl,I2,T,PX,f2,Ou,gv⟩:=h2;have r2:=hr.same Ou;have YR:∀x c,cl.lookup x=some c->c<s2.heap.objs.size:=λx c h=>let⟨v,cc⟩:=I2.cell x c (OQ x c h);cc.lt
 refine abg (E4 (λx c h=>by show c<(Heap.push _ _).objs.size;rw[Z9];exact acp (YR x c h)) (λx y c hx hy=>I2.ok.inj x y c (OQ x c hx) (OQ y c hy)) λOi cells OW Oy U6 Pe PB Td=>?_)
 dsimp only at Oy OW Pe PB ⊢;generalize hD:s2.heap.objs.size=D at Oy OW Pe PB ⊢;generalize hP:s2.heap.push {cls:=.type "list",dict:=none,data:=.seq ([]:S1).toArray}=HP at Oy OW Pe PB ⊢;have hC:HP.objs.size=D+1:=by rw[<-hP,Z9,hD]
 generalize Zy:HP.objs.size=C at Oy Pe PB hC ⊢;have Rp:∀b,b<s2.heap.objs.size->b≠C/\b≠D:=λb hb=>by rw[hD]at hb;exact⟨by omega,by omega⟩
 have old:∀b o,s2.heap.get? b=some o->Oi.get? b=some o:=λb o e=>OW b o (hP▸sa _ e);have Ys:D≠C:=by omega
 have OV:Oi.get? D=some {cls:=.type "list",data:=.seq ([]:S1).toArray}:=OW _ _ (hP▸(by rw[<-hD];exact KF _ rfl))
 have nD:H2 D=none:=I2.aC.fresh (aaK hD);have nC:H2 C=none:=I2.aC.fresh (by omega)
 have jE:aj H2 (upd H2 D (.lst [])):=aj.cN nD _
 let X':Cx:=fe X scope cells C (tn++fv) s2 H2 fp
 have fW:∀x c,cells.lookup x=some c->∀b∈fp,c≠b:=λx c hx b hb=>by
  rcases Pe x c hx with h|⟨h,_⟩
  ·exact(f2 b hb).2.2.2.2.1 x c (OQ x c h)
  ·obtain⟨o,ho,_⟩:=T.obj _ _ PX b hb
   have:=GE ho;rw[hD]at this;exact Z7 (JK this (by omega))
 have XB:X'.Ok:=by
  have VE:=I2.ok.mod;refine⟨VE,ok.kind,I2.ok.glob,I2.ok.blt,(show s2.heap.objs.size<=C by rw[hD];omega),U6,λx hx=>?_,λx c hf hx=>?_,λh=>I2.ok.hd h,I2.ok.frames,.inl rfl,λb hb=>?_,λb o hb=>I2.bs b o hb,S3 I2.ok.i8 I2.sz,λb o hb hx=>?_,λb hb hf=>?_,I2.stack,I2.vj,I2.tb⟩
  ·have Oq:(relabel scope X.env).names.lookup x=some .cell\/(relabel scope X.env).names.lookup x=some .free:=hx
   have V3:(x,NameKind.free)∈scope.names\/(x,NameKind.cell)∈scope.names:=by
    rcases Oq with h|h
    ·exact sv (scope:=scope) h (.inl rfl)
    ·exact sv (scope:=scope) h (.inr rfl)
   by_cases hm:(x,NameKind.cell)∈scope.names
   ·obtain⟨c,h5,_⟩:=PB x hm
    exact⟨c,h5⟩
   ·obtain⟨c,h5⟩:=Sw x (V3.resolve_right hm)
    exact⟨c,Td x c h5 hm⟩
  ·have hf:decide ((x,NameKind.cell)∈scope.names)=true:=hf
   obtain⟨c',h5,h6⟩:=PB x (aaU hf);have hx:cells.lookup x=some c:=hx;rw[hx]at h5;cases h5;show s2.heap.objs.size<=c;rw[hD];omega
  ·obtain⟨o,ho,_⟩:=T.obj _ _ PX b hb
   exact⟨(Rp b (GE ho)).1,λx c hx=>fW x c hx b hb⟩
  ·obtain⟨_,_,_,h4,_⟩:=f2 b hx
   rcases h4 with h4|h4
   ·exact I2.ok.mI b o hb h4
   ·exact absurd (JK (GE hb) (S3 I2.ok.i8 h4)) (aae _)
  ·obtain⟨_,h1,h2,_⟩:=f2 b hb
   exact(KM.mp (I2.pT b hf)).elim h1 h2
 have Vc:∀ {H':Hp},(∀b∈fp,H' b=none)->∀b∈fp,bS X' [] H' b:=λhn b hb=>by
  obtain⟨o,ho,_⟩:=T.obj _ _ PX b hb;refine⟨hn b hb,(Rp b (GE ho)).1,λhf=>?_,.inl hb,λx c hx=>fW x c hx b hb,λp hp=>nomatch hp⟩
  obtain⟨_,h1,h2,_⟩:=f2 b hb;exact(KM.mp (I2.pT b hf)).elim h1 h2
 have I3:Inv X' [] (stC tn.length σ Nu) (upd H2 D (.lst [])) {s2 with heap:=Oi}:=by
  refine⟨XB,rfl,I2.bare,Un.laid old (aaK hD) nD,⟨_,Oy,λi x v hx hv Z1=>?_⟩,λx c hx=>?_,?_,λx c hx=>?_,λp hp=>(nomatch hp),I2.aC.laid old (aaK hD) ⟨aay _,[],0,.nil,OV⟩,?_⟩
  ·have hx:(tn++fv)[i]? =some x:=hx
   by_cases hn:i<tn.length
   ·unfold stC at hv
    rw[M1 (by simpa using hn),UV,DM hn]at hv
    cases hv
   ·have Qj:tn.length<=i:=by omega
    rw[ZN Qj]at hx;unfold stC at hv;rw[ZN (by simpa using Qj),aaD,xa]at hv
    cases ei:Nu[i - tn.length]? with
    |none=>rw[ei]at hv;cases hv
    | some k=>
     rw[ei]at hv;obtain⟨x',Oq,hN,hf⟩:=ok.Ma _ _ ei;rw[hx]at Oq;cases Oq
     have Tx:σ[k]? =some (some v):=by
      have Sj:(σ[k]?).getD none=some v:=by simpa using hv
      cases ek:σ[k]? with
      |none=>rw[ek]at Sj;cases Sj
      |some z=>rw[ek]at Sj;exact congrArg some Sj
     obtain⟨m,hm,hl⟩:=I2.loc;have O0:X.env.scope.names.lookup x=some .cell:=ok.free _ hf rfl;obtain⟨u,ru,lk⟩:=hl k x v hN Tx (.inr (.inl O0));refine⟨u,ru,.inr ⟨?_,?_⟩⟩
     ·exact sO (env:=X.env) (ok.Bt _ hf rfl)
     ·rcases lk with⟨h1,_⟩|⟨_,c,Uv,cc⟩
      ·rw[show X.env.kindOf x=X.env.scope.names.lookup x from rfl,O0]at h1;cases h1
      ·obtain⟨c',QX⟩:=Sw x hf
       have:=OQ x c' QX;rw[Uv]at this;cases this;refine⟨c,Td x c QX λhm=>?_,cc.keeps old⟩;have h1:=ok.cells _ hm rfl;have h2:=ok.Bt _ hf rfl;dsimp only at h1 h2;rw[h1]at h2;cases h2
  ·rcases Pe x c hx with hx|⟨_,cc⟩
   ·obtain⟨v,cc⟩:=I2.cell x c (OQ x c hx)
    exact⟨v,cc.keeps old⟩
   ·exact⟨_,cc⟩
  ·show upd H2 D (.lst []) C=none
   rw[L2.aJ (W1 Ys)];exact nC
  ·show upd H2 D (.lst []) c=none
   rcases Pe x c hx with hx|⟨UH,_⟩
   ·have h0:=I2.fZ x c (OQ x c hx)
    obtain⟨v,cc⟩:=I2.cell x c (OQ x c hx);rw[L2.aJ (Rp c cc.lt).2];exact h0
   ·rw[L2.aJ (Z7 (by omega))];exact I2.aC.fresh (by omega)
  ·show(stC tn.length σ Nu).length=(tn++fv).length
   unfold stC;simp[ok.len]
 have hM:aB X'=aB X:=rfl;have NQ:∀(j:Nat) z,(ent tn.length ρ Nu)[j]? =some z->z=.un\/∃d,z=.sh d:=λj z h=>(kn h).imp (λh=>h) λh=>h.1;have Pj:∀(j:Nat) MU,(ent tn.length ρ Nu)[j]? ≠some (.on MU):=λj MU e=>by rcases NQ j _ e with z|⟨_,z⟩<;>cases z
 have WC:∀ {SE:Hp} {F':YK} {bs:P1},(∀b,F' b↔F b\/b=D\/b∈bs)->(∀b∈bs,H2 b=none)->aj H2 SE->Mv F H2 F' SE:=λhF hb sm b o n e=>⟨λh=>((hF b).mp h).elim n (λz=>z.elim (λz=>by subst z;rw[nD]at e;cases e) λz=>by rw[hb b z]at e;cases e),sm b o e⟩
 have r3:bf (aB X) (upd H2 D (.lst [])) (λb=>F b\/b=D\/b∈([]:P1)) (stC tn.length σ Nu) (ent tn.length ρ Nu):=by
  have r0:=(DI (n:=tn.length) (fv:=Nu) r2)
  exact⟨r0.len,λb f=>by
    by_cases hb:b=D
    ·subst hb;exact⟨_,L2.bX⟩
    ·obtain⟨o,ho⟩:=r0.aV b (f.resolve_right λz=>z.elim hb λz=>nomatch z)
     exact⟨o,jE _ _ ho⟩,λi d e=>let⟨v,h1,h2⟩:=r0.sh i d e;⟨v,h1,h2.mv (WC (bs:=[]) (λ_=>abN) (λ_ z=>nomatch z) jE)⟩,λi d e=>(jL NQ (.inl ⟨_,e⟩)).elim,λi k d e=>(jL NQ (.inr ⟨_,_,e⟩)).elim,λi j a o=>(jL NQ o).elim,.no Pj⟩
 let R0:Result->Shared->Prop:=compPost (model X.prog X.w) X.A X.xe use Qc (.ref D) C
 have loop:codeAny (model X.prog X.w) X.A (.compLoop (.ListComp elt [⟨target,iter,ifs,0⟩] scope pos) 0 (.ref YH) (.ref D) X'.env) R0 {s2 with heap:=Oi}:=by
  refine Ih (FG X' (aB X) ds.length Ub fp H2 F D (ent tn.length ρ Nu) (λi r=>jt tg cs el (ent tn.length ρ Nu) (ds.drop i)=.ok r) all) ?_ ds.length
   ⟨0,_,_,[],[],[],_,rfl,aay _,I3,T.keep _ _ _ PX λb _ o e=>old b o e,λb hb=>?_,jE,L2.bX,aay _,⟨λ_=>abN,λ_ z=>(nomatch z),aaw⟩,by rw[aq];exact⟨rfl,rfl⟩,r3,all,ey,rfl⟩
  ·rintro n s' ⟨i,ME,H',vs,as,bs,F',rfl,Z3,I',Ov,P9,Q3,eD,ZX,⟨hF,QG,PD⟩,Ut,rS,rest,Ng,QD⟩
   obtain⟨g1,g2⟩:=gv H' F' (WC hF (λb hb=>(QG b hb).1) Q3) rS.aV;by_cases Nl:i<ds.length
   ·obtain ⟨go,gy⟩:=g1 i ds[i] (by simp[Nl])
    refine L2.aM (T.item X' rfl rfl rfl hc i [] s' ME H' _ I' (Vc P9) Ov go) λr s4 ⟨u,VB,h4⟩=>?_;subst VB;refine L2.aM h4 λ_ s5 ⟨x,H5,I5,r5,y5,RI,UM⟩=>?_;obtain⟨OF,rx⟩:=gy x H5 y5;rw[aaN Nl]at Ng;unfold jt at Ng;obtain⟨Nm,eg,Ng⟩:=ao.mp Ng;obtain⟨t,et,Ng⟩:=ao.mp Ng;have YV:=rS.same OF;have rG:aF (aB X) H2 ⟨H2,λ_=>False,λ_=>none⟩ H5 F' ME (ent tn.length ρ Nu):=⟨YV,Q3.trans OF,λ_ h=>h.elim,λ_ h=>h.elim,λj a o=>(jL NQ o).elim,λj MU _ e=>absurd e (Pj j MU),λw hw=>nomatch hw⟩
    have Vw:Inv X' ([]++L2.mM fp s5.heap) ME H5 s5:=I5.pinned (Vc UM) (T.obj _ _ RI);refine SL (ht cells C s2 H2 fp ⟨H2,λ_=>False,λ_=>none⟩ _ s5 ME H5 x u (λPF H6=>H6=H5/\aF (aB X) H2 ⟨H2,λ_=>False,λ_=>none⟩ H5 F' PF Nm) Vw r5 ⟨ent tn.length ρ Nu,F',ds[i],Nm,rG,rx,eg,λPF r6=>⟨rfl,r6⟩⟩) (λ_ s6 ⟨PF,H6,I6,h6,r6⟩=>?_) (λe s f=>(PQ e s f).elim);subst h6;refine SL (A3 (X:=X') (M:=aB X) (E:=X.xe) rfl (λ_ _ h=>h) (Ph cells C s2 H2 fp) (Q:=λb H7=>b=t/\aj H6 H7) I6 r6.rs et (λH7 s7=>⟨rfl,s7⟩)) (λb s7 ⟨H7,I7,hb,N9⟩=>?_) (λe s f=>(PQ e s f).elim);subst hb;have UE:aj H2 H7:=(Q3.trans OF).trans N9;have D7:H7 D=some (.lst vs):=N9 _ _ (OF _ _ eD);have TK:=low _ _ _ eg
    have back:∀ {SE:Hp} {WS:YK},bf (aB X) SE WS PF Nm->bf (aB X) SE WS PF (ent tn.length ρ Nu):=λr=>r.less TK.1.symm λj z hz=>by
     rcases kn hz with h|⟨h,hn,_⟩
     ·exact .inl h
     ·exact .inr ⟨h,by rw[TK.2 j hn];exact hz⟩
    have again:∀ {s8:Shared} {H8:Hp},Inv X' ([]++L2.mM fp s5.heap) PF H8 s8->Inv X' [] PF H8 s8/\Ub (i+1) s8.heap/\∀b∈fp,H8 b=none:=λ{s8 H8} I8=>by
     refine⟨I8.rP,T.keep _ _ _ RI λb hb o e=>(I8.pin (b,o) (Do _ (Do _ (L2.qk hb e)))).1,λb hb=>?_⟩;obtain⟨o,e,d⟩:=T.obj _ _ RI b hb;exact(I8.pin (b,o) (Do _ (Do _ (L2.qk hb e)))).2.1
    cases b with
    | false=>
     rw[Gc (by decide)]at Ng
     rw[Gc (by decide)]
     obtain⟨a1,a2,a3⟩:=again I7;exact⟨ds.length - (i+1),by omega,i+1,PF,H7,vs,as,bs,F',rfl,Nl,a1,a2,a3,UE,D7,by omega,⟨hF,QG,PD⟩,Ut.mv (.same (OF.trans N9)) (λb _ u f hu=>⟨f,N9 _ _ (OF _ _ hu)⟩),back (r6.rs.same N9),rest,Ng,QD⟩
    | true=>
     rw[DM rfl]at Ng;rw[DM rfl];obtain⟨y,Xi,Ng⟩:=ao.mp Ng;obtain⟨Y6,RJ,Ng⟩:=ao.mp Ng;cases Ng;refine SL (P7 cells C s2 H2 fp _ s7 PF H7 (λv H8=>∃F8 Pk,aj H7 H8/\(∀b∈Pk,H7 b=none)/\Pk.Nodup/\(∀b,F8 b↔F' b\/b∈Pk)/\au (aB X) H8 F8 y v Pk) I7 ⟨Nm,F',y,r6.rs.same N9,Xi,λv H8 F8 Pk s8 h1 h2 h3 h4=>⟨F8,Pk,s8,h1,h2,h3,h4⟩⟩) (λu2 s8 ⟨v,H8,I8,Xe,F8,Pk,OE,Tu,Ye,TH,SN⟩=>?_) (λe s f=>(PQ e s f).elim);have D8:H8 D=some (.lst vs):=OE _ _ D7;refine SL (L2.rJ (X:=X') _ s8 PF H8 (.ref D) [v] (.ref D) [u2] (λ_ H9=>H9=upd H8 D (.lst (vs++[v]))) I8 rfl (.cons Xe .nil) ⟨D,vs,v,rfl,rfl,D8,by omega,rfl⟩) (λ_ s9 ⟨_,H9,I9,_,h9⟩=>?_) (λe s f=>(PQ e s f).elim)
     subst h9;obtain⟨a1,a2,a3⟩:=again I9;have WV:D∉Pk:=λh=>by rw[Tu D h]at D7;cases D7
     have fD:F8 D:=(TH D).mpr (.inl ((hF D).mpr (.inr (.inl rfl))));have U1:Mv F8 H8 F8 (upd H8 D (.lst (vs++[v]))):=λb o n e=>⟨n,by rw[L2.aJ (λz=>by subst z;exact n fD)];exact e⟩
     have Zh:Mv F' H' F8 H8:=λb o n e=>by
      have e7:=N9 _ _ (OF _ _ e);exact⟨λf=>((TH b).mp f).elim n (λhb=>by rw[Tu b hb]at e7;cases e7),OE _ _ e7⟩
     have VD:Mv F' H' F8 (upd H8 D (.lst (vs++[v]))):=Mv.trans Zh U1
     have apart:∀a∈bs,∀b∈Pk,a≠b:=λa ha b hb z=>by
      subst z;obtain⟨_,u,hu⟩:=Ut.fs a ha;have:=N9 _ _ (OF _ _ hu);rw[Tu a hb]at this;cases this
     have Tv:∀b∈bs,∀u,F' b->H' b=some u->F8 b/\upd H8 D (.lst (vs++[v])) b=some u:=λb hb u f hu=>⟨(TH b).mpr (.inl f),by rw[L2.aJ (QG b hb).2];exact OE _ _ (N9 _ _ (OF _ _ hu))⟩
     have Tc:∀b∈Pk,∀u,F8 b->H8 b=some u->F8 b/\upd H8 D (.lst (vs++[v])) b=some u:=λb hb u f hu=>⟨f,by rw[L2.aJ (λz=>by subst z;exact WV hb)];exact hu⟩
     have r8:=back ((r6.rs.same N9).wide OE Tu TH (λb hb=>(SN.fs b hb).2)).2;refine⟨ds.length - (i+1),by omega,i+1,PF,_,vs++[v],as++[y],bs++Pk,F8,rfl,Nl,a1,a2,a3,λb o e=>?_,L2.bX,by simp;omega,⟨λb=>?_,λb hb=>?_,KB.mpr ⟨PD,Ye,apart⟩⟩,aq.append (Ut.mv VD Tv) ?_,?_,Y6,RJ,by rw[P3];exact QD⟩
     ·rw[L2.aJ (λz=>by subst z;rw[nD]at e;cases e)];exact OE _ _ (UE _ _ e)
     ·rw[TH b,hF b,FS,adM,adM]
     ·rcases FS.mp hb with hb|hb
      ·exact QG b hb
      ·exact⟨UE.free (Tu b hb),λz=>by subst z;exact WV hb⟩
     ·rw[show Pk=Pk++[] by simp]
      simp only[aq];exact⟨v,[],Pk,[],rfl,rfl,SN.mv U1 Tc,rfl,rfl⟩
     ·exact⟨r8.len,λb f=>by
       by_cases hb:b=D
       ·subst hb;exact⟨_,L2.bX⟩
       ·obtain⟨o,ho⟩:=r8.aV b f
        exact⟨o,by rw[L2.aJ hb];exact ho⟩,λi d e=>let⟨v,h1,h2⟩:=r8.sh i d e;⟨v,h1,h2.mv U1⟩,λi d e=>(jL NQ (.inl ⟨_,e⟩)).elim,λi k d e=>(jL NQ (.inr ⟨_,_,e⟩)).elim,λi j a o=>(jL NQ o).elim,.no Pj⟩
   ·have ei:i=ds.length:=by omega
    subst ei;rw[abH]at Ng;cases Ng;rw[On]at QD;subst QD;refine L2.aM (T.done X' rfl rfl rfl hc _ [] s' ME H' _ I' (Vc P9) Ov g2) λr s4 ⟨VB,I4⟩=>?_;subst VB;obtain⟨m,hm,_⟩:=I4.loc;have C4:H' C=none:=I4.free;have u4:Un (L2.cq X.stack) fp H2 H' s2.heap s4.heap:=I4.base
    have I5:Inv X pins σ H' s4:=I2.pC (s':=s4) (ch:=fp) I4.os u4 I4.aC I4.bare λb hb=>by
     obtain⟨_,a1,a2,a3,a4,a5⟩:=f2 b hb;exact⟨a3,a1,a4,a5⟩
    have fC:bS X pins H' C:=I2.m8 (by omega) C4
    have hH:∃Hq:Hp,aj H Hq/\Hq D=none/\aq (aB X) Hq (λb=>F b\/b∈bs) as vs bs/\upd Hq D (.lst vs)=H':=by
     refine⟨λb=>if b=D then none else H' b,λb o e=>?_,by simp,?_,?_⟩
     ·have hb:b≠D:=λz=>by subst z;have:=Ou _ _ e;rw[nD]at this;cases this
      simp only[Gc hb];exact Q3 _ _ (Ou _ _ e)
     ·refine Ut.mv (λb o n e=>⟨λf=>n ((hF b).mpr (f.imp id .inr)),?_⟩) λb hb u f hu=>⟨.inr hb,?_⟩
      ·have hb:b≠D:=λz=>n ((hF b).mpr (.inr (.inl z)))
       simp only[Gc hb];exact e
      ·simp only[Gc (QG b hb).2]
       exact hu
     ·funext b
      unfold upd;by_cases hb:b=D
      ·simp only[DM hb];rw[hb];exact eD.symm
      ·simp only[Gc hb]
    obtain⟨Hq,q1,q2,q3,q4⟩:=hH;exact O9 D C s4 H' vs Hq bs _ _ ⟨m,hm⟩ I5 fC q1 q2 (λb hb=>Ou.free (QG b hb).1) PD (λ_=>abN) q3 q4
  ·show upd H2 D (.lst []) b=none
   obtain⟨o,ho,_⟩:=T.obj _ _ PX b hb;rw[L2.aJ (Rp b (GE ho)).2];exact(f2 b hb).1
 exact codeAny_compStart_list loop (T.self _ 0 _ _ _ (T.keep _ _ _ PX λb _ o e=>old b o e) loop)
theorem BE(tn fv:List Str)(Nu:List Nat)(PQ:∀e s,¬X.xe e s)(hc:X.calm=true)(ok:mn X scope tn fv Nu)(hi:JI X target iter it)(low:kf tn.length tg)
  (ht:∀cl C s H fp,JG (fe X scope cl C (tn++fv) s H fp) target tg) (Ph:∀cl C s H fp,oJ (fe X scope cl C (tn++fv) s H fp) ifs cs) (P7:∀cl C s H fp,JE (fe X scope cl C (tn++fv) s H fp) elt el)
  (hs:∀x,foldedSetIterable iter X.env x=pure x) (I:Inv X pins σ H s) (hr:bf (aB X) H F σ ρ) (e:da it tn.length Nu tg cs el ρ=.ok (.lst all))
  (O9:∀D C s4 H' vs Hq f,(∃m,s4.heap.Ns C m)->Inv X pins σ H' s4->bS X pins H' C->aj H Hq->Hq D=none->ai (aB X) Hq F all vs->upd Hq D (.lst vs)=H'->compPost (model X.prog X.w) X.A X.xe use Qc (.ref D) C (.ok f) s4):
  wpAny (model X.prog X.w) X.A (comprehension (.ListComp elt [⟨target,iter,ifs,0⟩] scope pos) scope X.env p1 (newList []) false (eval iter X.env) use) Qc X.xe s:=by
 obtain⟨ds,ed,e⟩:=ao.mp e
 have hlen:ds.length<=dI:=by
  by_cases h:ds.length<=dI
  ·exact h
  ·rw[Gc h]at e;cases e
 rw[DM hlen]at e;obtain⟨ys,ey,e⟩:=ao.mp e;cases e;refine E2 (all:=all.map .d) (el:=xD el) tn fv Nu PQ hc ok hi low ht Ph (λcl C s H fp=>yG (P7 cl C s H fp)) hs I hr (by unfold xx;rw[ed,R.aH,DM hlen];exact wB ey) λD C s4 H' vs Hq bs F2 f hm I5 fC q1 q2 q3 q4 q5 q6 q7=>?_
 obtain⟨rfl,rs⟩:=lJ.mp q6;exact O9 D C s4 H' vs Hq f hm I5 fC q1 q2 (rs.mv λb o n e=>⟨λh=>n ((q5 b).mpr (.inl h)),e⟩) q7
theorem kb(tn:List Str)(fv:List Str)(Nu:List Nat)(ok:mn X scope tn fv Nu)(hi:XI X target iter it)(ht:∀cl C s H fp,XG (fe X scope cl C (tn++fv) s H fp) target tg)(Ph:∀cl C s H fp,pf (fe X scope cl C (tn++fv) s H fp) ifs cs)(P7:∀cl C s H fp,XE (fe X scope cl C (tn++fv) s H fp) elt el)(PQ:∀e s,¬X.xe e s:=by exact λ_ _ h=>h)(hc:X.calm=true:=by rfl)(low:kf tn.length tg:=by first|exact zb (by decide)|exact Fv (by decide))(hs:∀x,foldedSetIterable iter X.env x=pure x:=by exact vB (by rfl)):XF X (.ListComp elt [⟨target,iter,ifs,0⟩] scope pos) (da it tn.length Nu tg cs el):=⟨have hi:=hi.out;have ht:=(λcl C s H fp=>(ht cl C s H fp).out);have Ph:=(λcl C s H fp=>(Ph cl C s H fp).out);have P7:=(λcl C s H fp=>(P7 cl C s H fp).out);by
 intro pins s σ H Q I ⟨ρ,F,all,hr,e,q⟩;show wpAny _ _ (comprehension (.ListComp elt [⟨target,iter,ifs,0⟩] scope pos) scope X.env _ (newList []) false (eval iter X.env) none) _ _ s;refine BE tn fv Nu PQ hc ok hi low ht Ph P7 hs I hr e λD C s4 H' vs Hq f hm I5 fC q1 q2 q3 q4=>?_;obtain⟨m,hm⟩:=hm;refine⟨m,hm,λh' Pz=>⟨.ref D,H',I5.turned (t':=s4.toks) (λb o n e=>by rw[Pz.2 b n];exact e) fC.1 fC.2.1 fC.2.2.2.1 fC.2.2.2.2.1 fC.2.2.2.2.2,rfl,?_⟩⟩
 rw[<-q4];exact q D Hq vs q1 q2 q3⟩
theorem J7(i:Nat)(tn fv:List Str)(Nu:List Nat)(PQ:∀e s,¬X.xe e s)(hc:X.calm=true)(ok:mn X scope tn fv Nu)(hi:JI X target iter it)(low:kf tn.length tg)
  (ht:∀cl C s H fp,JG (fe X scope cl C (tn++fv) s H fp) target tg) (Ph:∀cl C s H fp,oJ (fe X scope cl C (tn++fv) s H fp) ifs cs) (P7:∀cl C s H fp,JE (fe X scope cl C (tn++fv) s H fp) elt el)
  (hs:∀x,foldedSetIterable iter X.env x=pure x) (hN:X.N.Nodup) (hy:X.N[i]? =some y) (hx:L2.Loc X.env.scope y) (hf:X.fn y=true\/X.env.scope.names.lookup y=some .local)
  (O2:swapsWith (.ListComp elt [⟨target,iter,ifs,0⟩] scope pos) (some (.Name y py)) spos.line X.env=pure true):PS X (.Assign [.Name y py] (.ListComp elt [⟨target,iter,ifs,0⟩] scope pos) spos) (L2.p6 (mS (aB X) (da it tn.length Nu tg cs el)) (L2.aA i)):=by
 intro pins s σ H D I ⟨ρ,F,all,hr,e,q⟩;rw[exec_Assign_Name_used _ _ _ _ O2];refine tB (acz (tB ?_));show wpAny _ _ (do let _ <-comprehension (.ListComp elt [⟨target,iter,ifs,0⟩] scope pos) scope X.env _ (newList []) false (eval iter X.env) (some (assign (.Name y py) X.env))) _ _ s
 refine tB (L2.aM (BE (Qc:=λ_ s'=>L2.SP X pins D .next s') tn fv Nu PQ hc ok hi low ht Ph P7 hs I hr e λD1 C s4 H' vs Hq f hm I5 fC q1 q2 q3 q4=>?_) λ_ s' hq=>FM (FM hq));obtain⟨m,hm⟩:=hm;show wpAny _ _ (assign (.Name y py) X.env (.ref D1)) _ _ _;refine wpAny_assign_Name (L2.zg (v:=.ref D1) I5 hN hy hx rfl (λs5 I6 Pz=>?_) hf);obtain⟨a,Pz,ha⟩:=Pz
 have Yk:C≠a:=by
  rcases ha with z|z
  ·rw[z];exact fC.2.1
  ·exact λe=>fC.2.2.2.2.1 _ _ z e.symm
 refine⟨m,hm.sameBut Pz Yk,λh' Va=>⟨_,H',I6.turned (t':=s5.toks) (λb o n e=>by rw[Va.2 b n];exact e) fC.1 fC.2.1 fC.2.2.2.1 fC.2.2.2.2.1 fC.2.2.2.2.2,?_⟩⟩
 rw[<-q4];exact q D1 Hq vs q1 q2 q3
end
end PL
set_option maxHeartbeats 1000000
namespace PL
open PySem PySem.Spec PySem.Calls PyProof.Rows
open L2 (V Hp HO Cx PE PT PW PA PS bC PG cb VK TE TT TA TS TI TG Inv RelV Vals Rd aU bj upd aj Key XK Ends aR cB bq R2 EP It Turn bS Un bx)
noncomputable def rel(C:P1)(H0 H:Hp):Hp:=λb=>if b∈C then H0 b else H b
end PL
namespace PL
open PySem PySem.Spec PySem.W
section
variable{prog:Program}{w:World}{A:Around}{E:Value->Shared->Prop}{h:Heap}{g:Array GenState}{d:Drawn}{t:Nat}{os:OsState}{a C:Addr}{o:Obj}{K:PySem.W.Frag}
structure jj(K:PySem.W.Frag)(C:Addr):Prop where
 ga:findIn K (.ref C) "__getattribute__"=some (some (.builtin "BaseException.__getattribute__"))
 gt:findIn K (.ref C) "__getattr__"=some none
 cl:findIn K (.ref C) "__class__"=some (some (.builtin "object.__class__"))
 mB:mroIn K C (.type "BaseException")=some true
 mO:mroIn K C (.type "object")=some true
theorem LL{R:Result->Shared->Prop}(X:K.In h)(Z:jj K C)(hx:h.get? a=some o)(hc:o.cls=.ref C)(hq:R (.ok (.ret (.ref C))) ⟨h,g,d,t,os⟩):
  codeAny (model prog w) A (.call (.builtin "getset_descriptor.__get__") ⟨[.builtin "object.__class__",.ref a,.ref C],[]⟩) R ⟨h,g,d,t,os⟩:=by
 have Ww:(⟨h,g,d,t,os⟩:Shared).TypeIs (.builtin "object.__class__") "getset_descriptor":=abk;have L:=ade (M:=model prog w) X Z.mO;refine adN acb.plain PySem.F.entry_gs_get (acb.check _ _ _ _ _ _ _ _ Ww (PySem.F.args_gs_get _ _ _) ?_)
 repeat (any_goals (first|assumption|(with_reducible refine aax hx ?_;rw[hc])|(rw[PySem.F.owner_object_class];with_reducible refine L.at ?_)|with_reducible refine L.at ?_|wp_step))
 refine⟨Code.quiet_builtin _ (by decide+kernel),abu PySem.F.entry_object_class ?_⟩
 repeat (any_goals (first|assumption|(with_reducible refine aax hx ?_;rw[hc])|wp_step))
theorem Ge(X:K.In h)(Z:jj K C)(hx:h.get? a=some o)(hc:o.cls=.ref C)(hq:Q (.done (.ret (.ref C))) ⟨h,g,d,t,os⟩):
  wpAny (model prog w) A (Builtin.«object.__getattribute__» ⟨[.ref a,.str "__class__" tk],[]⟩) Q E ⟨h,g,d,t,os⟩:=by
 have Ww:(⟨h,g,d,t,os⟩:Shared).TypeIs (.builtin "object.__class__") "getset_descriptor":=abk;have f5:=abk;have f6:=acb.lookup;have f7:=PySem.F.slot_gs_set.lookup;have L:=adO (M:=model prog w) X Z.cl
 repeat (any_goals (first|assumption|(with_reducible refine aax hx ?_;rw[hc])|with_reducible refine L.at ?_|wp_step))
 refine LL X Z hx hc ?_
 repeat (any_goals (first|assumption|wp_step))
theorem Hy(X:K.In h)(Z:jj K C)(hx:h.get? a=some o)(hc:o.cls=.ref C)(hq:Q () ⟨h,g,d,t,os⟩):wpAny M A (checkBuiltinCall "BaseException.__getattribute__" ⟨[.ref a,nameV],[]⟩) Q E ⟨h,g,d,t,os⟩:=by
 have hk:builtinKind "BaseException.__getattribute__"=some .slot:=by decide+kernel
 have Rj:splitId "BaseException.__getattribute__"=some ("BaseException","__getattribute__"):=by decide+kernel
 have L:=ade (M:=M) X Z.mB;have ha:=PySem.F.args_bexc_ga (.ref a) nameV;simp only[checkBuiltinCall,hk,Rj];refine tB ?_
 ·unfold isInstance
  repeat (first|(with_reducible refine aax hx ?_;rw[hc])|with_reducible refine L.at ?_|wp_step)
  exact hq
theorem KS{R:Result->Shared->Prop}(X:K.In h)(Z:jj K C)(hx:h.get? a=some o)(hc:o.cls=.ref C)(hq:R (.ok (.ret (.ref C))) ⟨h,g,d,t,os⟩):
  codeAny (model prog w) A (.call (.builtin "BaseException.__getattribute__") ⟨[.ref a,.str "__class__" tk],[]⟩) R ⟨h,g,d,t,os⟩:=
 adN acS.ga.plain PySem.F.entry_bexc_ga (Hy X Z hx hc (Ge X Z hx hc hq))
theorem Lu(X:K.In h)(Z:jj K C)(hx:h.get? a=some o)(hc:o.cls=.ref C)(hq:Q (.ref C) ⟨h,g,d,t,os⟩):wpAny (model prog w) A (getAttrBy (.ref a) (.str "__class__" tk) false) Q E ⟨h,g,d,t,os⟩:=by
 have f3:=acS.ga.bind (.ref a);have V3:(Value.builtin "BaseException.__getattribute__"==Value.builtin "object.__getattribute__")=false:=by decide+kernel
 have ZE:(onTheHeap (Value.ref C)&&Value.builtin "BaseException.__getattribute__"==Value.builtin "object.__getattribute__")=false:=by rw[V3];rfl
 have L1:=adO (M:=model prog w) X Z.ga;have L2:=adO (M:=model prog w) X Z.gt
 repeat (any_goals (first|assumption|(with_reducible refine aax hx ?_;rw[hc])|with_reducible refine L1.at ?_|with_reducible refine L2.at ?_|wp_step))
 refine KS X Z hx hc ?_
 repeat (any_goals (first|assumption|wp_step))
theorem KY(X:K.In h)(Z:jj K C)(hx:h.get? a=some o)(hc:o.cls=.ref C)(hq:Q (some (.ref C)) ⟨h,g,d,t+1,os⟩):wpAny (model prog w) A (getAttr? (.ref a) "__class__") Q E ⟨h,g,d,t,os⟩:=by
 unfold getAttr? getAttrBy?
 repeat (any_goals (first|assumption|with_reducible apply Lu X Z hx hc|wp_step))
def zL(a C:Addr)(h:Heap):Prop:=∃o,h.get? a=some o/\o.cls=.ref C/\∃vs,o.data=.fields vs
theorem B4(Z:jj K C):KitX K (.ref a) (.ref C) (zL a C) where
 ty:=λM h X ⟨o,h1,h2,_⟩=>h2▸(Looks.ld h1).andThen .now
 it:=λM h X _=>by
  have e:=Z.mB;unfold mroIn at e;obtain⟨cd,hc,_⟩:=abI.mp e;unfold clsIn at hc;split at hc
  ·rename_i c' d' cd' UQ ho
   intro A' Q' E' s' k q;unfold isType loadHead;exact tB (wpAny_loadPart (k _ _ (X _ _ ho)) (FM q))
  ·cases hc
 ne:=λh tp dd its n sl X X8=>by
  have e:=Z.mB;unfold mroIn at e;obtain⟨cd,hc,_⟩:=abI.mp e;refine Bool.eq_false_iff.mpr λq=>?_;have e:C=tp:=Value.ref.inj (aaG.mp q);subst e;unfold clsIn at hc;split at hc
  ·rename_i c' d' cd' UQ ho
   have z:=(X _ _ ho).symm.trans X8;cases z
  ·cases hc
 ca:=λ{prog w A E Q s} X ⟨o,h1,h2,_⟩ k=>by
  obtain⟨h,g,d,t,os⟩:=s;exact KY X Z h1 h2 k
end
end PL
namespace PL
open PySem PySem.Spec
open L2 (V Hp HO Cx PE PT PW PA PS bC PG cb VK TE TT TA TS TI TG Inv RelV Vals Rd aU bj upd aj Key XK Ends aR cB bq R2 EP It Turn bS Un)
section
variable{X:Cx}{M:Md}{G H H':Hp}{F0:Gf}{F F':YK}{σ:L2.St}{ρ:En}{pos:Pos}{pins:List (Addr×Obj)}{s:Shared}
theorem vq(h:JF X e f)(hl:∀ρ d,f ρ=.ok d->∃ds,d=.lst ds):JE X e f:=
 bw h λσ H Q=>by
  rintro⟨ρ,F,d,hr,e,q⟩
  obtain⟨ds,rfl⟩:=hl _ _ e;exact⟨ρ,F,ds,hr,e,λp H' xs sm hp rs=>q _ _ (sm.trans (aj.cN hp _)) (i4 (hr.same sm).aV hp rs)⟩
theorem KR(ρ:En)(d:D)(h:da it n fv tg cs el ρ=.ok d):∃ds,d=.lst ds:=by
 obtain⟨ds,_,h⟩:=ao.mp h;split at h
 ·obtain⟨ys,_,h⟩:=ao.mp h
  cases h;exact⟨_,rfl⟩
 ·cases h
noncomputable def A6(Ui:Scope)(N0:List Str)(scope:Scope)(fv:List Str)(Nu:List Nat):Bool:=
 decide (scope.kind=.function)&&scope.names.all (λy=>(decide (y.2≠.cell)||decide (scope.names.lookup y.1=some .cell))&&(decide (y.2≠.local)||decide (scope.names.lookup y.1=some .local))&&(decide (y.2≠.free)||(decide (Ui.names.lookup y.1=some .cell)&&decide (scope.names.lookup y.1=some .free))))
  &&decide (fv.length=Nu.length)&&(Nu.zip fv).all (λp=>decide (N0[p.1]? =some p.2)&&decide ((p.2,NameKind.free)∈scope.names))
theorem jB(Ui:Scope)(N0:List Str)(h1:X.env.scope=Ui)(h2:X.N=N0)(h:A6 Ui N0 scope fv Nu=true):mn X scope tn fv Nu:=by
 subst h1 h2;unfold A6 at h;rw[FB,FB,FB,Pi,Pi,aap,aap]at h;obtain⟨⟨⟨hk,hn⟩,hl⟩,hf⟩:=h
 have Qj:∀y∈scope.names,(y.2≠.cell\/scope.names.lookup y.1=some .cell)/\(y.2≠.local\/scope.names.lookup y.1=some .local)/\(y.2≠.free\/(X.env.scope.names.lookup y.1=some .cell/\scope.names.lookup y.1=some .free)):=λy hy=>by
  have:=hn y hy;simp only[FB,aaB,Pi]at this;exact⟨this.1.1,this.1.2,this.2⟩
 refine⟨hk,λy hy hl=>(Qj y hy).1.resolve_left (λh=>h hl),λy hy hl=>(Qj y hy).2.1.resolve_left (λh=>h hl),λy hy hl=>((Qj y hy).2.2.resolve_left (λh=>h hl)).1,λy hy hl=>((Qj y hy).2.2.resolve_left (λh=>h hl)).2,λj i hj=>?_,hl⟩;obtain⟨QV,_⟩:=il.mp hj;have hx:fv[j]? =some (fv[j]'(by omega)):=DF (by omega)
 have hm:(i,fv[j]'(by omega))∈Nu.zip fv:=by
  refine List.mem_iff_getElem?.mpr ⟨j,?_⟩;rw[aaf];exact⟨hj,hx⟩
 have:=hf _ hm;simp only[FB,Pi]at this;exact⟨_,hx,this.1,this.2⟩
theorem ua(f:flat d=true)(r:Rep M H F d v):L2.iz v=true:=by
 cases d<;>first|(simp only[Rep]at r;subst r;rfl)|(cases f)
theorem wO:∀ {ds:List D} {vs:List V},ds.all flat=true->ai M H F ds vs->vs.all L2.iz=true
 |[],_,_,r=>by simp only[ai]at r;subst r;rfl
 | d::ds,_,f,r=>by
  rw[aas,FB]at f;simp only[ai]at r;obtain⟨x,t,rfl,r1,r2⟩:=r;rw[aas,ua f.1 r1,wO f.2 r2];rfl
theorem Cd(fa:flat a=true)(fb:flat b=true)(ra:Rep M H F a x)(rb:Rep M H F b y):L2.gX x y=bV a b:=by
 cases a<;>(try cases fa)<;>cases b<;>(try cases fb)<;>simp only[Rep]at ra rb<;>subst ra<;>subst rb<;>first|rfl|(simp only[L2.gX,bV];exact str_beq _ _)
theorem wZ:∀ {ds:List D} {vs:List V} {b:D} {y:V},ds.all flat=true->flat b=true->ai M H F ds vs->Rep M H F b y->L2.qP y vs=ds.any λd=>bV d b
 |[],_,_,_,_,_,r,_=>by simp only[ai]at r;subst r;rfl
 | d::ds,_,b,y,f,fb,r,rb=>by
  rw[aas,FB]at f;simp only[ai]at r;obtain⟨x,t,rfl,r1,r2⟩:=r;show(L2.gX x y||L2.qP y t)=(bV d b||ds.any λd=>bV d b);rw[Cd f.1 fb r1 rb,wZ f.2 fb r2 rb]
theorem GI:∀(k:Ky),ks.length=xs.length->ai M H F ds xs->(cJ k ks ds=none->L2.d7 (ks.zip xs) k=none)/\∀d,cJ k ks ds=some d->∃v,L2.d7 (ks.zip xs) k=some v/\Rep M H F d v:=by
 induction ks generalizing xs ds with
 | nil=>
  intro k hl r;cases xs with
  |nil=>exact⟨λ_=>rfl,λd h=>by simp[cJ]at h⟩
  |cons _ _=>simp at hl
 | cons a ks ih=>
  intro k hl r;cases xs with
  |nil=>simp at hl
  | cons x xs=>
   cases ds with
   |nil=>simp only[ai]at r;cases r
   | cons d0 ds=>
    simp only[ai]at r;obtain⟨x',t,e,r1,r2⟩:=r;cases e;have ih:=ih (xs:=xs) (ds:=ds) k (by simpa using hl) r2
    have hz:(a::ks).zip (x::xs)=(a,x)::ks.zip xs:=rfl;rw[hz];by_cases hk:a=k
    ·subst hk
     have h1:L2.d7 ((a,x)::ks.zip xs) a=some x:=by simp[L2.d7]
     refine⟨λh=>by simp[cJ]at h,λd h=>⟨x,h1,?_⟩⟩
     simp[cJ]at h;subst h;exact r1
    ·have h1:L2.d7 ((a,x)::ks.zip xs) k=L2.d7 (ks.zip xs) k:=by simp[L2.d7,hk]
     rw[h1];refine⟨λh=>ih.1 (by simpa[cJ,hk] using h),λd h=>ih.2 d (by simpa[cJ,hk] using h)⟩
theorem jy(h:keyOf d=some k)(r:Rep M H F d v):v=L2.kV k:=by
 cases d with
 |int i=>cases h;exact bo r
 |str x=>cases h;exact iT r
 |_=>cases h
theorem wL(I:Inv X pins σ H s)(h:gp (aB X) H F a (ks.zip xs))(hl:ks.length=xs.length)(rs:ai (aB X) H F ds xs)(k:Ky):
  ∃vs,s.heap.DictOf (L2.cV X.prog X.w) a vs/\(a==sysModules)=false/\(cJ k ks ds=none->valueAt vs k=none)/\∀d,cJ k ks ds=some d->∃v u,valueAt vs k=some u/\RelV v u/\Rep (aB X) H F d v:=by
 obtain⟨z,hd,vs,rel,dd⟩:=kD I h;obtain⟨f1,f2⟩:=GI (M:=aB X) (H:=H) (F:=F) k hl rs;refine⟨vs,dd,hd,λhn=>?_,λd Yu=>?_⟩
 ·exact L2.gA.none_of (by rw[<-f1 hn];exact L2.KV.val rel k)
 ·obtain⟨v,hv,rv⟩:=f2 d Yu
  obtain⟨u,hu,ru⟩:=L2.gA.some_of (v:=v) (o:=valueAt vs k) (by rw[<-hv];exact L2.KV.val rel k)
  exact⟨v,u,hu,ru,rv⟩
def zR(M:Md):R2:=λx y H Q=>L2.rh M.K x y H Q\/∃F a b d,Rep M H F a x/\Rep M H F b y/\tM a b=.ok d/\∀v,Rep M H F d v->Q v H
theorem CF:L2.gr X (zR (aB X)):=by
 refine L2.gr.or L2.oy ?_;intro value slice pins s σ H x y v u Q I rx ry h hs;obtain⟨F,a,b,d,ra,rb,e,q⟩:=h;unfold tM at e;split at e
 ·rename_i ks vs
  split at e
  ·rename_i k hk
   split at e
   ·rename_i d' hf
    cases e;simp only[Rep]at ra;obtain⟨p,xs,rfl,h1,hl,rs⟩:=ra;cases rx;cases jy hk rb;obtain⟨ws,dd,hd,f1,f2⟩:=wL I h1 hl rs k;obtain⟨w,w',hw,Ot,rd⟩:=f2 _ hf;exact abR dd.typeIs acN.lookup (wpAny_getItem_of (L2.kW ry) dd.mapOf hw ⟨w,H,I.tok _,Ot,q w rd⟩) hs
   ·cases e
  ·cases e
 ·cases e
theorem Ks:cU M aO (zR M):=by
 intro F H x y a b d Q tr ra rb e q;cases a with
 |lst xs=>exact .inl (wm F H x y _ b d Q tr ra rb e q)
 |tup xs=>exact .inl (wm F H x y _ b d Q tr ra rb e q)
 |str z=>exact .inl (wm F H x y _ b d Q tr ra rb e q)
 |aL ks vs=>exact .inr ⟨F,_,b,d,ra,rb,e,λv rv=>q v H (aj.refl H) rv⟩
 |_=>cases e
theorem bE(ha:XE X a fa)(hb:XE X b fb)(hs:L2.kN b:=by exact pF (by rfl)):XE X (.Subscript a b pos) (e2 aO fa fb):=⟨have ha:=ha.out;have hb:=hb.out;bw (L2.nW CF ha hb hs) λσ H Q h=>qv Ks h⟩
def q0(M:Md)(neg:Bool):R2:=λx y H Q=>∃F a b k,Rep M H F a x/\Rep M H F b y/\g8 a b=.ok (.bl k)/\Q (.bl (if neg then !k else k)) H
theorem Af(h:g8 a b=.ok (.bl k)):(∃ys,(b=.lst ys\/b=.tup ys)/\flat a=true/\ys.all flat=true/\k=ys.any λy=>bV y a)\/∃ks vs q,b=.aL ks vs/\keyOf a=some q/\k=(cJ q ks vs).isSome:=by
 cases b with
 | lst ys=>
  have h':(if flat a=true/\ys.all flat=true then(R.ok (D.bl (ys.any λy=>bV y a)):R D)else .bad)=.ok (.bl k):=by cases a<;>exact h
  split at h'
  ·rename_i c;cases h';exact .inl ⟨ys,.inl rfl,c.1,c.2,rfl⟩
  ·cases h'
 | tup ys=>
  have h':(if flat a=true/\ys.all flat=true then(R.ok (D.bl (ys.any λy=>bV y a)):R D)else .bad)=.ok (.bl k):=by cases a<;>exact h
  split at h'
  ·rename_i c;cases h';exact .inl ⟨ys,.inr rfl,c.1,c.2,rfl⟩
  ·cases h'
 | aL ks vs=>
  cases hq:keyOf a with
  |none=>cases a<;>simp[hq]at h
  | some q=>
   refine .inr ⟨ks,vs,q,rfl,rfl,?_⟩;cases a<;>simp[hq]at h<;>exact h.symm
 |str y=>cases a<;>simp at h
 |_=>cases a<;>simp at h
theorem DD(hu:X.A.units+64<cLine):aR X (compareOp .In) (q0 (aB X) false):=by
 intro pins s σ H x y v u Q I rx ry h;obtain⟨F,a,b,k,ra,rb,e,q⟩:=h;rcases Af e with⟨ys,hb,fa,fs,rfl⟩|⟨ks,vs,q',rfl,hq,rfl⟩
 ·have:∃p xs,y=.ref p/\(aU X.K H p xs\/bj X.K H p xs)/\ai (aB X) H F ys xs:=by
   rcases hb with rfl|rfl
   ·simp only[Rep]at rb;obtain⟨p,xs,e,h1,h2⟩:=rb;exact⟨p,xs,e,.inl h1.sq,h2⟩
   ·simp only[Rep]at rb;obtain⟨p,xs,e,h1,h2⟩:=rb;exact⟨p,xs,e,.inr h1.sq,h2⟩
  obtain⟨p,xs,rfl,hs,rs⟩:=this;refine L2.Hi pins s σ H x (.ref p) v u Q I rx ry ⟨p,xs,rfl,hs,ua fa ra,wO fs rs,?_⟩;rw[wZ fs fa rs ra];exact q
 ·simp only[Rep]at rb
  obtain⟨p,xs,rfl,h1,hl,rs⟩:=rb;cases ry;cases jy hq ra;obtain⟨ws,dd,hd,f1,f2⟩:=wL I h1 hl rs q';refine wpAny_in_of (L2.kW rx) hd dd.mapOf ?_;cases hf:cJ q' ks vs with
  |none=>rw[f1 hf];rw[hf]at q;exact⟨.bl _,H,I.tok _,rfl,q⟩
  |some d=>obtain⟨_,w,hw,_⟩:=f2 d hf;rw[hw];rw[hf]at q;exact⟨.bl _,H,I.tok _,rfl,q⟩
theorem jU(hu:X.A.units+64<cLine):aR X (compareOp .NotIn) (q0 (aB X) true):=by
 intro pins s σ H x y v u Q I rx ry h;obtain⟨F,a,b,k,ra,rb,e,q⟩:=h;rcases Af e with⟨ys,hb,fa,fs,rfl⟩|⟨ks,vs,q',rfl,hq,rfl⟩
 ·have:∃p xs,y=.ref p/\(aU X.K H p xs\/bj X.K H p xs)/\ai (aB X) H F ys xs:=by
   rcases hb with rfl|rfl
   ·simp only[Rep]at rb;obtain⟨p,xs,e,h1,h2⟩:=rb;exact⟨p,xs,e,.inl h1.sq,h2⟩
   ·simp only[Rep]at rb;obtain⟨p,xs,e,h1,h2⟩:=rb;exact⟨p,xs,e,.inr h1.sq,h2⟩
  obtain⟨p,xs,rfl,hs,rs⟩:=this;refine L2.KD pins s σ H x (.ref p) v u Q I rx ry ⟨p,xs,rfl,hs,ua fa ra,wO fs rs,?_⟩;rw[wZ fs fa rs ra];exact q
 ·simp only[Rep]at rb
  obtain⟨p,xs,rfl,h1,hl,rs⟩:=rb;cases ry;cases jy hq ra;obtain⟨ws,dd,hd,f1,f2⟩:=wL I h1 hl rs q';refine wpAny_notIn_of (L2.kW rx) hd dd.mapOf ?_;cases hf:cJ q' ks vs with
  |none=>rw[f1 hf];rw[hf]at q;exact⟨.bl _,H,I.tok _,rfl,q⟩
  |some d=>obtain⟨_,w,hw,_⟩:=f2 d hf;rw[hw];rw[hf]at q;exact⟨.bl _,H,I.tok _,rfl,q⟩
theorem sf(h:g8 a b=.ok d):∃k,d=.bl k:=by
 cases b with
 | lst ys=>
  have h':(if flat a=true/\ys.all flat=true then(R.ok (D.bl (ys.any λy=>bV y a)):R D)else .bad)=.ok d:=by cases a<;>exact h
  split at h'<;>cases h';exact⟨_,rfl⟩
 | tup ys=>
  have h':(if flat a=true/\ys.all flat=true then(R.ok (D.bl (ys.any λy=>bV y a)):R D)else .bad)=.ok d:=by cases a<;>exact h
  split at h'<;>cases h';exact⟨_,rfl⟩
 | aL ks vs=>
  cases hq:keyOf a with
  |none=>cases a<;>simp[hq]at h
  |some q=>cases a<;>simp[hq]at h<;>exact⟨_,h.symm⟩
 |str y=>cases a<;>simp at h
 |_=>cases a<;>simp at h
theorem C5:iC g8:=λa b d h=>sf h
theorem CY:cU M g8 (q0 M false):=by
 intro F H x y a b d Q tr ra rb e q;obtain⟨k,rfl⟩:=sf e;exact⟨F,a,b,k,ra,rb,e,q _ _ (aj.refl _) fq⟩
theorem zZ(h:d4 a b=.ok d):∃k,g8 a b=.ok (.bl k)/\d=.bl (!k):=by
 obtain⟨r,hr,h⟩:=ao.mp h;obtain⟨k,rfl⟩:=sf hr;cases h;exact⟨k,hr,rfl⟩
theorem jw:iC d4:=λa b d h=>let⟨k,_,e⟩:=zZ h;⟨_,e⟩
theorem jH:cU M d4 (q0 M true):=by
 intro F H x y a b d Q tr ra rb e q;obtain⟨k,hk,rfl⟩:=zZ e;exact⟨F,a,b,k,ra,rb,hk,q _ _ (aj.refl _) fq⟩
inductive Sd where
 |l (a:Addr)|t (a:Addr)|s (z:Str)
theorem IL:bootBuiltins "zip"=some (.type "zip"):=by decide+kernel
end
def xI:D->Value->Prop
 |.aP,u=>u=.none
 |.bl b,u=>u=.bool b
 |.int i,u=>∃t,u=.int i t
 |.str x,u=>∃t,u=.str x t
 |_,_=>False
theorem DY(h:xI d u):∃v,RelV v u/\∀(M:Md) H F,Rep M H F d v:=by
 cases d with
 |aP=>exact⟨.aP,h,λ_ _ _=>vm⟩
 |bl b=>exact⟨.bl b,h,λ_ _ _=>fq⟩
 |int i=>exact⟨.int i,h,λ_ _ _=>de⟩
 |str x=>exact⟨.str x,h,λ_ _ _=>oA⟩
 |_=>exact h.elim
section
variable{P:Program}{w:World}{K:PySem.W.Frag}{h:Heap}{mg:Str->S2}{x:Str}
theorem kA(X:K.In h)(G:h.Ns mainGlobals mg)(e1:PySem.W.nsIn K mainGlobals x=some (some u))(hm:xI d u):cZ P w K mg x d:=by
 obtain⟨v,rv,hv⟩:=DY hm;exact⟨v,u,abe X G e1,rv,λH F=>hv _ H F⟩
end
end PL
namespace PL
open PySem
end PL
namespace PL
open PySem PySem.Spec
open L2 (V Hp HO Cx PE PT PW PA PS bC PG cb VK TE TT TA TS TI TG Inv RelV Vals Rd aU bj upd aj Key XK Ends aR cB bq R2 EP It Turn bS Un)
section
variable{X:Cx}{M:Md}{G H H':Hp}{F0:Gf}{F F':YK}{σ:L2.St}{ρ:En}{pos:Pos}{pins:List (Addr×Obj)}{s:Shared}
def JP(X:Cx)(pos:Pos)(keys:List (Option Expr))(values:P2)(ks:List Ky)(fs:List Ex):Prop:=
 ∃Nj,L2.DQ X pos keys values Nj/\∀(F:YK) (σ:L2.St) (H:Hp) (ρ:En) (ds:List D) (Q:List (V×V)->Hp->Prop),bf (aB X) H F σ ρ->eList fs ρ=.ok ds->
  (∀xs H',aj H H'->ai (aB X) H' F ds xs->Q ((ks.zip xs).map λkv=>(L2.kV kv.1,kv.2)) H')->L2.sN Nj σ H Q
structure XP(X:Cx)(pos:Pos)(keys:List (Option Expr))(values:P2)(ks:List Ky)(fs:List Ex):Prop where
 out:JP X pos keys values ks fs
theorem EM(i:Nat)(h:PS X st (L2.p6 (mS (aB X) f) (L2.aA i))):JS X st (fT i f):=λF0=>
 cx h λD σ H=>by
  rintro⟨ρ,F,fl,r,e,q⟩
  obtain⟨d,ed,e⟩:=ao.mp e;split at e
  ·cases e
   refine⟨ρ,F,_,r.rs,ed,λp H1 xs s1 hp rs=>?_⟩;obtain⟨mv,r'⟩:=(r.same s1).new (i:=i) (s:=.ol _) hp (.inl ⟨_,xs,rfl,rfl,rs⟩);exact q _ _ _ (Mv.trans (.same s1) mv) r'
  ·cases e
end
noncomputable def dn(i:Int):Bool:=decide (i.natAbs.log2<100000)
@[simp] noncomputable def dH:D->D->R D
 |.int i,.int j=>if(dn i&&dn j)=true then .ok (.int (i*j))else .bad
 |_,_=>.bad
@[simp] noncomputable def bz:D->D->R D
 |.int i,.int j=>if 0<j/\j.natAbs.log2<9000 then .ok (.int (i / j))else .bad
 |_,_=>.bad
@[simp] noncomputable def cL:D->D->R D
 |.int i,.int j=>if 0<=j/\j<=1000/\dn i=true then .ok (.int (i ^ j.toNat))else .bad
 |_,_=>.bad
noncomputable def frz(i:Nat)(ρ:En):En:=match ρ[i]? with
 |some (.ol xs)=>ρ.set i (.sh (.lst xs))
 |_=>ρ
mutual
noncomputable def jT:D->Bool
 |.aP=>true
 |.bl _=>true
 |.int _=>true
 |.str _=>true
 |.tup xs=>n9 xs
 |_=>false
noncomputable def n9:List D->Bool
 |[]=>true
 |x::xs=>jT x&&n9 xs
end
@[simp] noncomputable def Mr(i:Nat)(f:Ex):Ex:=λρ=>(f (frz i ρ)).bind λd=>match d with
 |.lst ds=>if n9 ds=true then .ok (.lst ds)else .bad
 |_=>.bad
@[simp] noncomputable def ma(i:Nat)(e:Ex):Sm:=λρ=>(e ρ).bind λd=>match d,ρ[i]? with
 |.lst ys,some (.ol xs)=>if xs.length+ys.length<=dI then .ok (.next (ρ.set i (.ol (xs++ys))))else .bad
 |_,_=>.bad
@[simp] noncomputable def Mx(j i:Nat)(e:Ex):Sm:=λρ=>(e ρ).bind λd=>match d,ρ[i]? with
 | .int k,some (.ol xs)=>match cy xs.length k with
  | some m=>match xs[m]? with
   |some y=>if inR k=true then .ok (.next ((ρ.set i (.ol (xs.eraseIdx m))).set j (.sh y)))else .bad
   |none=>.bad
  |none=>.bad
 |_,_=>.bad
@[simp] noncomputable def oX(j i:Nat)(e:Ex):Sm:=λρ=>(e ρ).bind λd=>match d,ρ[i]?,ρ[j]? with
 | .int k,some (.ol xs),some (.ol zs)=>match cy xs.length k with
  | some m=>match xs[m]? with
   |some y=>if inR k=true/\zs.length<dI/\i≠j then .ok (.next ((ρ.set i (.ol (xs.eraseIdx m))).set j (.ol (zs++[y]))))else .bad
   |none=>.bad
  |none=>.bad
 |_,_,_=>.bad
section
variable{X:Cx}{M:Md}{G H H':Hp}{F0:Gf}{F F':YK}{σ:L2.St}{ρ:En}{pos:Pos}{pins:List (Addr×Obj)}{s:Shared}
theorem vV(h:dn i=true):Builtin.Int.intBits i<=100000:=by
 unfold dn at h;rw[Pi]at h;unfold Builtin.Int.intBits;split<;>omega
theorem ft:aR X (binaryOp .Mult) (L2.rI (λi j=>dn i=true/\dn j=true) λi j=>.int (i*j)):=L2.qc λi j t u s Q E c q=>PyProof.Rows.mul_int q (IntMulOk.of_bits (S3 (vV c.1) (by decide)) (S3 (vV c.2) (by decide)))
theorem fA:cU M dH (L2.rI (λi j=>dn i=true/\dn j=true) λi j=>.int (i*j)):=by
 intro F H x y a b d Q tr ra rb e q;unfold dH at e;split at e
 ·split at e
  ·rename_i h
   cases e;rw[FB]at h;exact⟨_,_,bo ra,bo rb,h,q _ _ (aj.refl _) de⟩
  ·cases e
 ·cases e
theorem b9:aR X (binaryOp .FloorDiv) (L2.rI (λi j=>0<j/\j.natAbs.log2<9000) λi j=>.int (i / j)):=by
 refine L2.qc λi j t u s Q E c h=>?_;have e:i / j=i.fdiv j:=(Int.fdiv_eq_ediv_of_nonneg _ (Int.le_of_lt c.1)).symm;rw[e]at h;exact PyProof.Rows.floordiv_int (by have:=c.1;omega) h (Or.inl (PyProof.noPylong_of_log2 c.2))
theorem cn:cU M bz (L2.rI (λi j=>0<j/\j.natAbs.log2<9000) λi j=>.int (i / j)):=by
 intro F H x y a b d Q tr ra rb e q;unfold bz at e;split at e
 ·split at e
  ·rename_i h
   cases e;exact⟨_,_,bo ra,bo rb,h,q _ _ (aj.refl _) de⟩
  ·cases e
 ·cases e
theorem gb:aR X (binaryOp .Pow) (L2.rI (λi j=>0<=j/\j<=1000/\dn i=true) λi j=>.int (i ^ j.toNat)):=by
 refine L2.qc λi j t u s Q E c q=>PyProof.Rows.pow_int c.1 ?_ q;have h:=vV c.2.2;have h2:(Builtin.Int.intBits i:Int)*j<=100000*1000:=Int.mul_le_mul (by omega) c.2.1 c.1 (by omega)
 have h3:(2:Int) ^ 27=134217728:=by decide
 omega
theorem gd:cU M cL (L2.rI (λi j=>0<=j/\j<=1000/\dn i=true) λi j=>.int (i ^ j.toNat)):=by
 intro F H x y a b d Q tr ra rb e q;unfold cL at e;split at e
 ·split at e
  ·rename_i h
   cases e;exact⟨_,_,bo ra,bo rb,h,q _ _ (aj.refl _) de⟩
  ·cases e
 ·cases e
theorem ai.zu(h:ai M H F ds xs):∀k:Nat,ai M H F (List.replicate k ds).flatten (List.replicate k xs).flatten
 |0=>by simp[ai]
 | k+1=>by
  rw[aan,aan,S6,S6];exact h.append (ai.zu h k)
noncomputable def yt(M:Md):R2:=λx y H Q=>∃F l k xs,x=.ref l/\y=.int k/\gk M H F l xs/\0<=k/\k<1000/\xs.length<=1000/\∀p,H p=none->Q (.ref p) (upd H p (.lst (List.replicate k.toNat xs).flatten))
theorem Cn:aR X (binaryOp .Mult) (yt (aB X)):=by
 intro pins s σ H x y v u Q I rx ry h;obtain⟨F,l,k,xs,rfl,rfl,hH,h1,h2,hz,q⟩:=h;cases rx;obtain⟨t,rfl⟩:=ry;obtain⟨its,n,sl,r,e,z⟩:=j8 I hH;have hl:=r.length;have Qr:its.length*k.toNat<=1000*1000:=adP (by omega) (by omega)
 have hm:its.toArray.size*k.toNat<=1000*1000:=by rw[Da];exact Qr
 refine wpAny_binaryOp_repeat_ref (T:="list") (U:="int") (by decide) ⟨_,e,rfl⟩ (λs'=>typeIs_int s' k t) noFill_list_mul PySem.F.fills_int_mul adf repeat_list PySem.F.slot_int_index.lookup
  (aaZ adf (typeIs_int s k t) PySem.F.entry_int_rmul (PySem.F.args_int_rmul_2 _ _) (lm_int_rmul_list_any k t l its.toArray n none sl)
   ⟨e,rfl,⟨_,e,rfl⟩,aaZ PySem.F.slot_list_mul ⟨_,e,rfl⟩ PySem.F.entry_list_mul (PySem.F.args_list_mul_2 _ _)
    (lm_list_mul_any l its.toArray n none sl k t (by simp[Builtin.List.listFitsIndex];omega) (by omega) (by simp[Builtin.List.listTooLong,sizeLine];omega)) ⟨e,?_⟩⟩)
 rw[PyProof.Rows.listMul_foldl_if];refine⟨.ref _,_,I.sZ (t':=s.toks) (r.rep k.toNat) (by rw[L2.len_rep,Nat.mul_comm,hl];have:(sizeLine:Nat)=16777216:=aaj;omega),rfl,q _ I.fresh⟩
theorem E3:cU M uT (yt M):=by
 intro F H x y a b d Q tr ra rb e q;unfold uT at e;split at e
 ·split at e
  ·rename_i h
   cases e;simp only[Rep]at ra;obtain⟨l,xs,rfl,h1,r1⟩:=ra;exact⟨F,l,_,xs,rfl,bo rb,h1,h.1,h.2.1,by rw[<-r1.length];exact h.2.2,λp hp=>q _ _ (aj.cN hp _) (i4 tr hp (r1.zu _))⟩
  ·cases e
 ·cases e
def k6(env:Env)(o k:Expr)(p3:Pos):Prop:=∀v,assign (.Subscript o k p3) env v=(do
   let ov <-holding [v] (eval o env)
   let iv <-holding [v,ov] (eval k env)
   standAt p3
   holding [v,ov,iv] (setItem ov iv v)
   release [v,ov,iv] [])
theorem oS(i:Nat)(he:XE X e f)(hk:XE X k g)(ha:k6 X.env (.Name x p2) k p3)(hN:X.N[i]? =some x:=by rfl)(hv:L2.d9 X.env.scope x:=by exact Or.inl rfl)(hd:gV x:=by decide)(Nn:js x:=by decide)(hs:swapsWithSole [.Subscript (.Name x p2) k p3] e pos.line X.env=pure false:=by exact Bp (by rfl))(hw:swappedStores [.Subscript (.Name x p2) k p3] e X.env=pure none:=by exact AJ (by rfl))(h1:(assignEach [.Subscript (.Name x p2) k p3] X.env).map (·.2)=[assign (.Subscript (.Name x p2) k p3) X.env]:=by exact wX (by rfl)):XS X (.Assign [.Subscript (.Name x p2) k p3] e pos) (iY i g f):=⟨have he:=he.out;have hk:=hk.out;λF0=>
 cx (L2.Br he (L2.Lz (L2.pv i hN hv hd Nn) hk L2.set_list ha) hs hw h1) λD σ H=>by
  rintro⟨ρ,F,fl,r,e,q⟩
  obtain⟨d,ed,e⟩:=ao.mp e;obtain⟨y,ey,e⟩:=ao.mp e;split at e
  ·rename_i xs j q1
   split at e
   ·rename_i m hm
    cases e;have oi:a0 ρ i:=.inl ⟨_,q1⟩;obtain⟨a,ys,ea,fa,X2,rs⟩:=r.rs.ol i _ q1;refine⟨ρ,F,d,r.rs,ed,λv H1 s1 rv=>⟨_,ea,ρ,F,_,(r.same s1).rs,ey,λz H2 s2 rz=>?_⟩⟩;have r2:=(r.same s1).same s2;refine⟨a,ys,j,m,rfl,bo rz,s2 _ _ (s1 _ _ X2),by rw[<-rs.length];exact hm,?_⟩
    obtain⟨mv,r'⟩:=r2.chg (s:=.ol (xs.set m d)) oi ea (.inl ⟨_,ys.set m v,rfl,rfl,ai.set m (rv.mv (.same s2)) (rs.mv (.same (s1.trans s2)))⟩);exact q _ _ _ (Mv.trans (.same (s1.trans s2)) mv) r'
   ·cases e
  ·cases e⟩
theorem yA(i:Nat)(he:XF X e f)(hN:X.N[i]? =some x:=by rfl)(hv:L2.d9 X.env.scope x:=by exact Or.inl rfl)(hd:gV x:=by decide)(Nn:js x:=by decide)(Nv:attributeBase (.Name x p2) "extend" X.env (eval (.Name x p2) X.env)=eval (.Name x p2) X.env:=by exact lh)(OJ:((backTo MQ (starEach [e] X.env)).all (λx=> !x.1)&&(backToKw MQ (keywordEach [] X.env)).all (λx=>x.1.isSome)&&decide (([e]:P2).length+([]:List Keyword).length+(if([]:List Keyword).isEmpty then 0 else 1)<30))=true:=by exact ny (by rfl) (by decide))(Nw:(apos.endLine==MQ.line)=true:=by rfl)(hs:starEach [e] X.env=(false,eval e X.env)::starEach [] X.env:=by exact a9 (by rfl))(O2:swapsWith (.Call (.Attribute (.Name x p2) "extend" apos) [e] [] MQ) none pos.line X.env=pure false:=by exact cY (by rfl)):XS X (.Expr (.Call (.Attribute (.Name x p2) "extend" apos) [e] [] MQ) pos) (ma i f):=⟨have he:=he.out;λF0=>
 cx (L2.l6 (L2.ph aal PySem.F.slot_list_extend PySem.F.type_list_extend L2.Ik (L2.pv i hN hv hd Nn) (L2.fz he L2.hV hs) Nv OJ Nw hs) O2) λD σ H=>by
  rintro⟨ρ,F,fl,r,e,q⟩
  obtain⟨d,ed,e⟩:=ao.mp e;split at e
  ·rename_i ds xs q1
   split at e
   ·rename_i Nl
    cases e;have oi:a0 ρ i:=.inl ⟨_,q1⟩;obtain⟨a,ys,ea,fa,ha,rs⟩:=r.rs.ol i _ q1;refine⟨_,ea,.inl ⟨rfl,ys,aU.of ha⟩,ρ,F,ds,r.rs,ed,λp H1 zs s1 hp rz=>?_⟩;have s2:aj H1 (upd H1 p (.lst zs)):=aj.cN hp _;have r1:=(r.same s1).same s2;have VJ:=s2 _ _ (s1 _ _ ha);refine⟨a,p,ys,zs,rfl,rfl,VJ,L2.bX,by rw[<-rs.length, <-rz.length];exact Nl,?_⟩
    obtain⟨mv,r'⟩:=r1.chg (s:=.ol (xs++ds)) oi ea (.inl ⟨_,ys++zs,rfl,rfl,(rs.mv (.same (s1.trans s2))).append (rz.mv (.same s2))⟩);exact q _ _ _ (Mv.trans (.same (s1.trans s2)) mv) r'
   ·cases e
  ·cases e⟩
theorem xN(hm:X.mg "list"=none)(ha:XE X a fa)(RP:L2.Gl X "list":=by rfl)(hs:starEach [a] X.env=(false,eval a X.env)::starEach [] X.env:=by exact a9 (by rfl)):XF X (.Call (.Name "list" p) [a] [] pos) (e1 iQ fa):=⟨have ha:=ha.out;bw (L2.sV L2.pV RP hm mw (dO ha gE hs) (by decide) (by decide) hs) λσ H Q=>by
  rintro⟨ρ,F,ds,hr,e,q⟩
  obtain⟨d,ed,e⟩:=ao.mp e;refine⟨ρ,F,[d],hr,by show(fa ρ).bind _=_;rw[ed];rfl,λvs H1 s1 rv=>?_⟩
  obtain⟨y,rfl,ry⟩:=rv.one;unfold iQ at e;split at e
  ·cases e
   simp only[Rep]at ry;obtain⟨p,ys,rfl,h,rs⟩:=ry;exact⟨p,ys,rfl,.inl h.sq,λl hl=>q l H1 ys s1 hl rs⟩
  ·cases e
   simp only[Rep]at ry;obtain⟨p,ys,rfl,h,rs⟩:=ry;exact⟨p,ys,rfl,.inr h.sq,λl hl=>q l H1 ys s1 hl rs⟩
  ·cases e⟩
theorem He(ha:XE X a fa)(hl:XO X lo fl)(hh:XO X hi fh):XF X (.Subscript a (.Slice lo hi none p2) pos) (cA fa fl fh):=⟨have ha:=ha.out;have hl:=hl.out;have hh:=hh.out;bw (L2.yV (L2.iZ.or L2.yW L2.qW) ha hl hh) λσ H Q=>by
  rintro⟨ρ,F,ds,hr,e,q⟩
  obtain⟨a,ea,e⟩:=ao.mp e;obtain⟨l,el,e⟩:=ao.mp e;obtain⟨h,eh,e⟩:=ao.mp e;refine⟨ρ,F,a,hr,ea,λx H1 s1 rx=>⟨ρ,F,l,hr.same s1,el,λH2 s2=>⟨ρ,F,h,(hr.same s1).same s2,eh,λH3 s3=>?_⟩⟩⟩;have Rw:=rx.mv (M:=aB X) (F':=F) (.same (s2.trans s3));have QJ:=s1.trans (s2.trans s3);unfold j0 at e;split at e
  ·cases e
   simp only[Rep]at Rw;obtain⟨p,xs,rfl,h1,rs⟩:=Rw;refine .inl ⟨p,xs,rfl,h1.sq,λb hb=>?_⟩;rw[uB];exact q b H3 _ QJ hb (rs.cut _ _)
  ·split at e<;>cases e
  ·cases e⟩
structure iw(P:Program)(w:World)(K:PySem.W.Frag)(mg:Str->S2)(base:Heap)(x:Str)(k n:Nat)(m:List D->R D):Prop where
 ex:∃f fd ps,L2.fj P w K mg base L2.dY k f fd ps (lW ⟨K,P,w⟩ m n)/\L2.Binds K fd ps []/\PySem.W.keepIn K (.ref f)=true/\mg x=some (.ref f)
theorem GO(hn:fs.length=n)(h:mS M (aw m fs) σ H Q):L2.pE (lW M m n) [] E (lR M (eList fs)) σ H Q:=by
 obtain⟨ρ,F,d,hr,e,q⟩:=h;obtain⟨ds,O7,e⟩:=ao.mp e;refine⟨ρ,F,ds,hr,O7,λvs H1 s1 rs=>?_⟩;show lW M m n (vs++[]) H1 Q E;rw[On];exact⟨F,ds,d,(hr.same s1).aV,rs,by rw[ja O7];exact hn,e,λp H2 xs s2 hp rv=>q p H2 xs (s1.trans s2) hp rv⟩
theorem Ac(d:iw X.prog X.w X.K X.mg X.base x k n m)(hr:L2.bZ j X.A)(hg:L2.Gl X x)(ha:JA X (e::es) (eList fs))(hk:k<=j:=by decide)(hn:fs.length=n:=by rfl)
  (Oz:gV x:=by decide) (he:starEach (e::es) X.env=(false,eval e X.env)::starEach es X.env:=by rfl) (Og:(backTo pos (starEach es X.env)).any (·.1)=false:=by rfl):JF X (.Call (.Name x p) (e::es) [] pos) (aw m fs):=by
 obtain⟨f,fd,ps,h1,h2,h3,h4⟩:=d.ex;exact bw (L2.p8 h1 (hr.mono hk) hg h4 h3 h2 .nil L2.pY ha Oz he Og) λσ H Q h=>GO hn h
theorem yx(h:g7 n body ds=.ok d):∃xs,d=.lst xs:=by
 obtain⟨f,_,e⟩:=ao.mp h;split at e
 ·cases e;exact⟨_,rfl⟩
 ·cases e
theorem AO(d:iw X.prog X.w X.K X.mg X.base x k n m)(hr:L2.bZ j X.A)(ha:XA X (e::es) (eList fs))(hm:m=g7 N body:=by rfl)(hg:L2.Gl X x:=by rfl)(hk:k<=j:=by decide)(hn:fs.length=n:=by rfl)(Oz:gV x:=by decide)(he:starEach (e::es) X.env=(false,eval e X.env)::starEach es X.env:=by exact a9 (by rfl))(Og:(backTo pos (starEach es X.env)).any (·.1)=false:=by exact fU (by rfl)):XE X (.Call (.Name x p) (e::es) [] pos) (aw m fs):=⟨have ha:=ha.out;vq (Ac d hr hg ha hk hn Oz he Og) λρ d h=>by
  obtain⟨ds,_,e⟩:=ao.mp h;rw[hm]at e;exact yx e⟩
theorem Kw(Fu:L2.d8 K x qual st f fd)(S:L2.aY N ps (L2.aI st))
  (h:∀(MD:Value) (A:Around) (outer:List Env) (s:Shared) (H:Hp) (E:XK),L2.bZ k (A.deeper (PyProof.Rows.envOfC qual (L2.aI st) s.heap.objs.size f MD))->ik (L2.bQ L2.dY P w K mg base N qual (L2.aI st) f MD A outer s H E).dB (L2.fN st) body)
  (hn:ps.length=n:=by rfl):L2.fj P w K mg base L2.dY (k+1) f fd ps (lW ⟨K,P,w⟩ (g7 N.length body) n):=by
 refine Fu.ok S (λvs H Q E h=>?_) (λMD A outer s H vs Q E hr Ow=>?_)
 ·obtain⟨F,ds,d,_,rs,hl,_⟩:=h
  rw[<-rs.length,hl,hn]
 ·refine⟨λD σ H'=>∃F0:Gf,dQ ⟨K,P,w⟩ F0.g F0 body D σ H',λpins s' σ H' D I=>by rintro⟨F0,q⟩;exact h MD A outer s H E hr F0 pins s' σ H' D I q,?_⟩
  refine LI (G:=H) (t:=λD σ H'=>∃F0:Gf,dQ ⟨K,P,w⟩ F0.g F0 body D σ H') (λF0 D σ H' h=>⟨F0,h⟩) Ow ?_;have:=congrArg List.length S.pre;rw[Re]at this;omega
theorem Cg(Fu:L2.d8 K x qual st f fd)(hm:mg x=some (.ref f))(S:L2.aY N ps (L2.aI st))(hb:L2.Binds K fd ps [])
  (h:∀(MD:Value) (A:Around) (outer:List Env) (s:Shared) (H:Hp) (E:XK),L2.bZ k (A.deeper (PyProof.Rows.envOfC qual (L2.aI st) s.heap.objs.size f MD))->ik (L2.bQ L2.dY P w K mg base N qual (L2.aI st) f MD A outer s H E).dB (L2.fN st) body)
  (hn:ps.length=n:=by rfl):iw P w K mg base x (k+1) n (g7 N.length body):=⟨f,fd,ps,Kw Fu S h hn,hb,Fu.kp,hm⟩
noncomputable def intsOf:List D->Option (tx)
 |[]=>some []
 |.int i::r=>(intsOf r).map (i:: ·)
 |_=>none
noncomputable def unlike(ns:tx):Nat:=(PyProof.Rows.firstMet (λi=>ns.getD i 0) ns.length).length
@[simp] noncomputable def yR:D->D->R D
 |.int i,.int j=>if inR i=true/\inR j=true/\j - i<=16777216 then .ok (.lst (cI i j))else .bad
 |_,_=>.bad
theorem Ba:∀ {ds:List D} {ns:tx},intsOf ds=some ns->ds=ns.map D.int
 |[],_,h=>by cases h;rfl
 | d::ds,ns,h=>by
  cases d with
  | int i=>
   unfold intsOf at h;cases e:intsOf ds with
   |none=>rw[e]at h;cases h
   | some ms=>
    rw[e]at h;cases h;rw[Ba e];rfl
  |_=>cases h
theorem ye:∀ {ns:tx} {xs:List V},ai M H F (ns.map D.int) xs->xs=ns.map V.int
 |[],_,r=>by simpa[ai] using r
 | b::bs,_,r=>by
  simp only[MG,ai]at r;obtain⟨x,t,rfl,h1,h2⟩:=r;rw[ye h2,bo h1];rfl
@[simp] noncomputable def vN(e:Ex):Sm:=λρ=>(e ρ).bind λd=>.ok (.dM d)
theorem FJ(ha:XF X a fa)(hl:∀ρ d,fa ρ=.ok d->∃ds,d=.lst ds):XS X (.Return (some a) pos) (vN fa):=⟨have ha:=ha.out;λF0=>
 cx (L2.mG ha) λD σ H=>by
  rintro⟨ρ,F,fl,r,e,q⟩
  obtain⟨d,ed,e⟩:=ao.mp e;cases e;obtain⟨ds,rfl⟩:=hl _ _ ed;exact⟨ρ,F,ds,r.rs,ed,λp H1 xs s1 hp rv=>q p H1 F xs ds rfl (.same s1) (r.sm.trans s1) r.sub hp rv⟩⟩
theorem Cc(hm:m=g7 N body)(ρ:En)(d:D)(h:aw m fs ρ=.ok d):∃ds,d=.lst ds:=by
 obtain⟨ds,_,e⟩:=ao.mp h;rw[hm]at e;exact yx e
theorem Iq(h:ItemsOf (λk v=>∃t,v=.int (i+k*1) t) acc n):Vals ((List.range n).map λ(k:Nat)=>V.int (i+(k:Int))) acc.toList:=by
 obtain⟨hn,hg⟩:=h
 have key:∀(l:S1) (m:Nat) (j:Int),l.length=m->(∀(k:Nat) v,l[k]? =some v->∃t,v=.int (j+k) t)->Vals ((List.range m).map λ(k:Nat)=>V.int (j+(k:Int))) l:=by
  intro l
  induction l with
  |nil=>intro m j hm _;cases hm;exact .nil
  | cons v l ih=>
   intro m j hm hg;cases hm;rw[PK,aaV,MG,Pv];obtain⟨t,ht⟩:=hg 0 v rfl;refine .cons ⟨t,by rw[ht]⟩ ?_
   have:=ih l.length (j+1) rfl (λk w hk=>by
    obtain⟨t,e⟩:=hg (k+1) w (by simpa using hk)
    exact⟨t,by rw[e];congr 1;omega⟩)
   refine(Eq.mp (congrArg (λz=>Vals z l) ?_) this);apply acd;intro k _;show V.int (j+1+(k:Int))=V.int (j+((k+1:Nat):Int));congr 1;omega
 refine key acc.toList n i (by simpa using hn) λk v hk=>?_
 have Qo:acc[k]? =some v:=by simpa using hk
 obtain⟨t,e⟩:=hg k v Qo;exact⟨t,by rw[e];congr 1;omega⟩
theorem yX(i:Int):∀l:List Nat,ai M H F (l.map λ(k:Nat)=>D.int (i+(k:Int))) (l.map λ(k:Nat)=>V.int (i+(k:Int)))
 |[]=>ai.nil
 |k::l=>ai.cons de (yX i l)
theorem Jo(hm:X.mg "list"=none)(Qr:X.mg "range"=none)(ha:XE X a fa)(hb:XE X b fb)(hc:X.calm=true:=by rfl)(hg:L2.Gl X "list":=by rfl)(VM:L2.Gl X "range":=by rfl)(Tq:starEach [.Call (.Name "range" p2) [a,b] [] pos2] X.env=(false,eval (.Call (.Name "range" p2) [a,b] [] pos2) X.env)::starEach [] X.env:=by exact a9 (by rfl))(hs:starEach [a,b] X.env=(false,eval a X.env)::starEach [b] X.env:=by exact a9 (by rfl))(NU:starEach [b] X.env=(false,eval b X.env)::starEach [] X.env:=by exact a9 (by rfl)):XF X (.Call (.Name "list" p) [.Call (.Name "range" p2) [a,b] [] pos2] [] pos) (e2 yR fa fb):=⟨have ha:=ha.out;have hb:=hb.out;by
 intro pins s σ H Q I ⟨ρ,F,ds,hr,e,q⟩;obtain⟨x,ex,e⟩:=ao.mp e;obtain⟨y,ey,e⟩:=ao.mp e;cases x with
 | int i=>
  cases y with
  |int j=>
  replace e:(if inR i=true/\inR j=true/\j - i<=16777216 then R.ok (D.lst (cI i j))else R.bad)=R.ok (D.lst ds):=e
  by_cases h:inR i=true/\inR j=true/\j - i<=16777216
  ·rw[DM h]at e
   cases e;obtain⟨hi,hj,hd⟩:=h;unfold inR at hi hj;rw[FB,Pi,Pi]at hi hj;refine aad (L2.iO I hg hm mw ?_ (by decide) (by decide))
   refine S8 ?_ Tq (by rfl)
   rw[Tq];show wpAny _ _ (spliced ((false,eval (.Call (.Name "range" p2) [a,b] [] pos2) X.env)::backTo pos (starEach [] X.env))) _ _ s;refine acD (aad (L2.iO I VM Qr acT (S8 (L2.aM ((dO ha (dO hb gE NU) hs) pos2 pins s σ H _ I ⟨ρ,F,[.int i,.int j],hr,by show(fa ρ).bind _=_;rw[ex];show((fb ρ).bind _).bind _=_;rw[ey];rfl,λvs H1 s1 rv=>(⟨s1,rv⟩:aj H H1/\ai (aB X) H1 F [.int i,.int j] vs)⟩) λus s1 ⟨vs,H1,I1,r1,Oe,rv⟩=>?_) hs (by rw[NU];rfl)) (by decide) (by decide)))
   obtain⟨v1,v2,rfl,rx,ry⟩:=rv.two;cases bo rx;cases bo ry;obtain⟨u1,u2,rfl,SJ,TM⟩:=L2.vals2 r1;obtain⟨t1,rfl⟩:=SJ;obtain⟨t2,rfl⟩:=TM;refine call_range_2 (acG ?_);have hh:X.A.handled=none:=I.ok.hd hc;have hsz:Builtin.Range.rangeSize i j 1=(((j - i).toNat:Nat):Int):=by rw[PySem.rangeSize_one];split<;>omega
   have I2:Inv X pins σ H1 {s1 with heap:=s1.heap.push {cls:=.type "range",data:=.fields #[.int i t1,.int j t2,.int 1 s1.toks]},toks:=s1.toks+1}:=I1.kept (t':=s1.toks+1) λb o e=>sa _ e;refine call_list_range hh (adJ ..) (small_one (by omega) (by omega) (by omega) (by omega)) hsz (by omega) λh' tk acc c' hk T9 OV=>?_
   have hv:=Iq OV;have hlen:((List.range (j - i).toNat).map λ(k:Nat)=>V.int (i+(k:Int))).length<=sizeLine:=by rw[j1,acq,aaj];omega
   have I3:=I2.laid (o:=.lst ((List.range (j - i).toNat).map λ(k:Nat)=>V.int (i+(k:Int)))) (h':=h') (t':=tk) hk (IR _) ⟨hlen,acc.toList,c',hv,by simpa using T9⟩
   exact⟨.ref _,_,I3,rfl,q _ H1 _ Oe (I2.fresh) (yX i _)⟩
  ·rw[Gc h]at e;cases e
  |_=>cases e
 |_=>cases e⟩
theorem ai.erase:∀ {ds:List D} {xs:List V} (k:Nat),ai M H F ds xs->ai M H F (ds.eraseIdx k) (xs.eraseIdx k)
 |[],_,k,h=>by simp only[ai]at h;subst h;exact ai.nil
 | d::ds,_,0,h=>by
  simp only[ai]at h;obtain⟨y,r,rfl,_,h2⟩:=h;exact h2
 | d::ds,_,k+1,h=>by
  simp only[ai]at h;obtain⟨y,r,rfl,h1,h2⟩:=h;exact ai.cons h1 (ai.erase k h2)
theorem Eg(h:cy n k=some m):seqIndex? k n=some m:=(L2.vJ h).1
theorem xG (j:Nat) (i:Nat) (he:XE X e f) (hj:X.N[j]? =some y:=by rfl) (hN:X.N[i]? =some x:=by rfl) (Yw:L2.d9 X.env.scope y:=by first|exact Or.inr (Or.inl rfl)|exact Or.inl rfl) (hv:L2.d9 X.env.scope x:=by exact Or.inl rfl) (YG:gV y:=by decide) (VL:js y:=by decide) (hd:gV x:=by decide) (Nn:js x:=by decide) (Nv:attributeBase (.Name x p2) "pop" X.env (eval (.Name x p2) X.env)=eval (.Name x p2) X.env:=by exact lh) (OJ:((backTo MQ (starEach [e] X.env)).all (λx=> !x.1)&&(backToKw MQ (keywordEach [] X.env)).all (λx=>x.1.isSome)&&decide (([e]:P2).length+([]:List Keyword).length+(if([]:List Keyword).isEmpty then 0 else 1)<30))=true:=by exact ny (by rfl) (by decide)) (Nw:(apos.endLine==MQ.line)=true:=by rfl) (hs:starEach [e] X.env=(false,eval e X.env)::starEach [] X.env:=by exact a9 (by rfl)) (RN:attributeBase (.Name y p3) "append" X.env (eval (.Name y p3) X.env)=eval (.Name y p3) X.env:=by exact lh) (SH:((backTo dpos (starEach [.Call (.Attribute (.Name x p2) "pop" apos) [e] [] MQ] X.env)).all (λx=> !x.1)&&(backToKw dpos (keywordEach [] X.env)).all (λx=>x.1.isSome)&&decide (([.Call (.Attribute (.Name x p2) "pop" apos) [e] [] MQ]:P2).length+([]:List Keyword).length+(if([]:List Keyword).isEmpty then 0 else 1)<30))=true:=by exact ny (by rfl) (by decide)) (RD:(bpos.endLine==dpos.line)=true:=by rfl) (NU:starEach [.Call (.Attribute (.Name x p2) "pop" apos) [e] [] MQ] X.env=(false,eval (.Call (.Attribute (.Name x p2) "pop" apos) [e] [] MQ) X.env)::starEach [] X.env:=by exact a9 (by rfl)) (O2:swapsWith (.Call (.Attribute (.Name y p3) "append" bpos) [.Call (.Attribute (.Name x p2) "pop" apos) [e] [] MQ] [] dpos) none pos.line X.env=pure false:=by exact cY (by rfl)):XS X (.Expr (.Call (.Attribute (.Name y p3) "append" bpos) [.Call (.Attribute (.Name x p2) "pop" apos) [e] [] MQ] [] dpos) pos) (oX j i f):=⟨have he:=he.out;λF0=>
 cx (L2.l6 (L2.ph aal abA abB L2.rJ (L2.pv j hj Yw YG VL) (L2.fz (L2.ph aal adg adh L2.EH (L2.pv i hN hv hd Nn) (dO he gE hs) Nv OJ Nw hs) L2.hV NU) RN SH RD NU) O2) λD σ H=>by
  rintro⟨ρ,F,fl,r,e,q⟩
  obtain⟨d,ed,e⟩:=ao.mp e;split at e
  ·rename_i k xs zs q1 q2
   split at e
   ·rename_i m hm
    split at e
    ·rename_i y hy
     split at e
     ·rename_i hk
      cases e;obtain⟨hk,hz,PU⟩:=hk;have oi:a0 ρ i:=.inl ⟨_,q1⟩;have oj:a0 ρ j:=.inl ⟨_,q2⟩;obtain⟨a,ys,ea,fa,ha,rs⟩:=r.rs.ol i _ q1;obtain⟨b,ws,eb,fb,hb,Ot⟩:=r.rs.ol j _ q2;unfold inR at hk;rw[FB,Pi,Pi]at hk;refine⟨_,eb,.inl ⟨rfl,ws,aU.of hb⟩,_,ea,.inl ⟨rfl,ys,aU.of ha⟩,ρ,F,[.int k],r.rs,by show(f ρ).bind _=_;rw[ed];rfl,λvs H1 s1 rv=>?_⟩
      obtain⟨z,rfl,rz⟩:=rv.one;have r1:=r.same s1;have Rv:=rs.mv (M:=aB X) (F':=F) (.same s1);obtain⟨v,ev,Xg⟩:=Rv.get hy;refine⟨a,ys,k,m,v,rfl,by rw[bo rz],s1 _ _ ha,by omega,by omega,by rw[<-rs.length];exact Eg hm,ev,?_⟩
      obtain⟨mv,r'⟩:=r1.chg (s:=.ol (xs.eraseIdx m)) oi ea (.inl ⟨_,ys.eraseIdx m,rfl,rfl,Rv.erase m⟩);have Ss:b≠a:=λz=>by subst z;exact PU (r.rs.cu i j _ oi oj ea eb)
      have R8:upd H1 a (.lst (ys.eraseIdx m)) b=some (.lst ws):=by rw[L2.aJ Ss];exact s1 _ _ hb
      refine⟨b,ws,v,rfl,rfl,R8,by rw[<-Ot.length];exact hz,?_⟩
      have OL:=Mv.trans (.same s1) mv;have Yj:(ρ.set i (.ol (xs.eraseIdx m)))[j]? =some (.ol zs):=by rw[df PU];exact q2
      obtain⟨Vb,r2⟩:=r'.chg (i:=j) (s:=.ol (zs++[y])) (.inl ⟨_,Yj⟩) eb (.inl ⟨_,ws++[v],rfl,rfl,(Ot.mv OL).append (ai.cons (Xg.mv mv) ai.nil)⟩);exact q _ _ _ (Mv.trans OL Vb) r2
     ·cases e
    ·cases e
   ·cases e
  ·cases e⟩
end
end PL
namespace PL
open PySem PySem.Spec PySem.W
open L2 (V Hp HO Cx PE PT PW PA PS bC PG cb VK TE TT TA TS TI TG Inv RelV Vals Rd aU bj upd aj Key XK Ends aR cB bq R2 EP It Turn bS Un bx cH cq)
noncomputable def cK(P:Program)(w:World)(C:Addr):L2.gW:=λouter H s _ e s'=>
 ∃(a t:Addr) (B:Heap) (H':Hp),e=.ref a/\s'.os=s.os/\PyProof.Rows.AllBare s'.gens/\Un (cq outer) [] H H' s.heap s'.heap/\bx P w H' s'.heap/\aj H H'/\H' a=none/\s.heap.get? a=none/\
  Heap.FlyingW B outer a (.ref C) (.ref t) s'.heap/\∀b o,s'.heap.get? b=some o->(H' b≠none\/((∃o',s.heap.get? b=some o')/\b∉cq outer))->B.get? b=some o
theorem wH(x:cH P w H h a o):∃ob,h.get? a=some ob:=by
 cases o with
 |lst xs=>obtain⟨_,_,_,_,e⟩:=x;exact⟨_,e⟩
 |tup xs=>obtain⟨_,_,_,ob,e,_⟩:=x;exact⟨_,e⟩
 |dK kvs=>obtain⟨_,_,_,_,o,_,_,e,_⟩:=x;exact⟨_,e⟩
 |dT kvs=>obtain⟨_,_,_,_,o,_,_,e,_⟩:=x;exact⟨_,e⟩
 |set S n=>obtain⟨o,_,_,_,e,_⟩:=x;exact⟨_,e⟩
 |ins C dx fs=>obtain⟨_,_,_,e,_⟩:=x;exact⟨_,e⟩
 |own y=>obtain⟨_,e⟩:=x;exact⟨_,e⟩
 |xd fs=>obtain⟨_,⟨_,_,_,e,_⟩,_⟩:=x;exact⟨_,e⟩
 |qQ lo hi=>obtain⟨_,_,_,e⟩:=x;exact⟨_,e⟩
 |frz ob u=>obtain⟨e,_⟩:=x;exact⟨_,e⟩
 |cS t=>cases t with|none=>obtain⟨_,e,_⟩:=x;exact⟨_,e⟩|some o=>exact⟨_,x.1⟩
 |met f y=>exact⟨_,show h.get? a=some _ from x⟩
 |ext φ=>obtain⟨_,⟨_,e⟩,_⟩:=x;exact⟨_,e⟩
theorem xm(x:bx P w H h)(k:∀b o,H b≠none->h.get? b=some o->h'.get? b=some o):bx P w H h':=λa o e=>
 (x a o e).iW (λb u hb q=>k b u (by rcases hb with rfl|hb<;>simp_all) q) (λ_ q=>q) (λ_ _ q=>q) λ_ _ q=>q
section
variable{P:Program}{w:World}{K:PySem.W.Frag}{mg:Str->S2}{base:Heap}{N:List Str}{qual:Str}{scope:Scope}{f:Addr}{MD:Value}{A:Around}{outer:List Env}{s:Shared}{H:Hp}{E:XK}
theorem ID(I:Inv (L2.bQ (cK P w C) P w K mg base N qual scope f MD A outer s H E) pins σ H1 s1)(sm:aj H H1)
  (hx:Heap.MadeExcOf s1.heap h' e (.ref C) vs):(L2.bQ (cK P w C) P w K mg base N qual scope f MD A outer s H E).xe (.ref e) {s1 with heap:=h'}:=by
 have j2:=I.stack;have OI:∀env∈(PyProof.Rows.envOfC qual scope s.heap.objs.size f MD::outer),∀b,env.frame=some b->b∈(PyProof.Rows.envOfC qual scope s.heap.objs.size f MD::outer).filterMap (λx:Env=>x.frame):=λenv he b hb=>acm.mpr ⟨env,he,hb⟩;have hl:=funFrames_hide (as:=(PyProof.Rows.envOfC qual scope s.heap.objs.size f MD::outer).filterMap (λx:Env=>x.frame)) j2 OI;refine wpAny_leaves_madeW (base:=hideAll s1.heap ((PyProof.Rows.envOfC qual scope s.heap.objs.size f MD::outer).filterMap (λx:Env=>x.frame))) (L:=s.heap.objs.size) I.ok.frames rfl (λb o q=>of_hideAll _ q) hl hx λh2 t x1 x2 x3 x4=>?_
 have RH:∀b,b∈(PyProof.Rows.envOfC qual scope s.heap.objs.size f MD::outer).filterMap (λx:Env=>x.frame)↔b=s.heap.objs.size\/b∈cq outer:=λb=>by
  show b∈List.filterMap _ (_::_)↔_;rw[XU];exact KM
 have B1:∀b o,s1.heap.get? b=some o->b≠s.heap.objs.size->b∉cq outer->(hideAll s1.heap ((PyProof.Rows.envOfC qual scope s.heap.objs.size f MD::outer).filterMap (λx:Env=>x.frame))).get? b=some o:=λb o e n1 n2=>hideAll_get _ e λhm=>((RH b).mp hm).elim n1 n2;have kp:∀b o,s1.heap.get? b=some o->b≠s.heap.objs.size->b∉cq outer->h2.get? b=some o:=λb o e n1 n2=>x1.1 b o (B1 b o e n1 n2);have un:=I.base;have lt:∀ {b o},s.heap.get? b=some o->b≠s.heap.objs.size:=λe=>GT (GE e);have aV:∀ {b},H1 b≠none->b≠s.heap.objs.size/\b∉cq outer:=λ{b} hb=>⟨λz=>hb (by rw[z];exact I.free),λz=>hb (I.vj b (by show b∈cq (_::_);exact(RH b).mpr (.inr z)))⟩
 have sl:∀b o,s1.heap.get? b=some o->b∈cq outer->∃sl,h2.get? b=some {o with slots:=sl}:=λb o e hb=>by
  obtain⟨_,o',OH,Ux⟩:=j2.mem ((RH b).mpr (.inr hb));rw[e]at OH;cases OH;exact x4 b o (hx.keeps _ _ e) Ux
 refine⟨e,t,_,H1,rfl,I.os,I.bare,⟨λb o e n hb Oq=>?_,λb o e n hb Oq=>?_,un.free,λb o e Oq=>?_,un.gz,un.fO,un.fV⟩,?_,sm,?_,?_,x1,λb o eo hc=>?_⟩
 ·exact kp b o (un.keep b o e n hb Oq) (lt e) hb
 ·obtain⟨s2,e2⟩:=un.slot b o e n hb Oq
  obtain⟨s3,e3⟩:=sl b _ e2 hb;exact⟨s3,e3⟩
 ·obtain⟨o',e'⟩:=un.there b o e Oq
  by_cases hb:b∈cq outer
  ·obtain⟨s3,e3⟩:=sl b _ e' hb
   exact⟨_,e3⟩
  ·exact⟨o',kp b o' e' (lt e) hb⟩
 ·exact xm I.aC λb o hb q=>kp b o q (aV hb).1 (aV hb).2
 ·cases q:H1 e with
  |none=>rfl
  | some o=>
   obtain⟨ob,z⟩:=wH (I.aC _ _ q);rw[hx.new]at z;cases z
 ·cases q:s.heap.get? e with
  |none=>rfl
  | some o=>
   obtain⟨o',e'⟩:=un.there e o q (by intro z;cases z)
   rw[hx.new]at e';cases e'
 ·rcases hc with hb|⟨⟨o',e'⟩,hb⟩
  ·cases q:H1 b with
   |none=>exact absurd q hb
   | some u=>
    obtain⟨ob,z⟩:=wH (I.aC _ _ q);have z2:=kp b ob z (aV hb).1 (aV hb).2;rw[z2]at eo;cases eo;exact B1 b _ z (aV hb).1 (aV hb).2
  ·obtain⟨o2,e2⟩:=un.there b o' e' (by intro z;cases z)
   have z2:=kp b o2 e2 (lt e') hb;rw[z2]at eo;cases eo;exact B1 b _ e2 (lt e') hb
noncomputable def rz(n:Nat)(c:Str)(t:bg):List D->R D:=λds=>match t (ds.map Slot.sh++List.replicate (n - ds.length) .un)with
 |.ok true=>.exc (.bN c [] [])
 |_=>.bad
noncomputable def ub(M:Md)(m:List D->R D)(n:Nat)(c:Str):L2.Sp:=λvs H _ _=>∃F ds,(∀p,F p->∃o,H p=some o)/\ai M H F ds vs/\ds.length=n/\m ds=.exc (.bN c [] [])
structure dD(K:PySem.W.Frag)(c:Str)(C:Addr):Prop extends jj K C where
 name:nsIn K mainGlobals c=some (some (.ref C))
 exc:excIn K C [.type "ValueError",.type "Exception",.type "BaseException",.type "object"] "ValueError.__new__"=true
theorem LY(X:K.In h)(q:excIn K C bmB newId=true):
  ∃bm N nm q bs hdct sn sub ab col dd k0 k1 k2 k3 k5 mN,h.get? C=some (excClassObj nm q C N bs bm hdct sn sub ab col dd k0 k1 k2 k3 k5 newId)/\h.Ns N mN/\mN "__init__"=none/\OwnTail h bmB bm:=by
 unfold excIn at q;split at q
 ·rename_i dd cd sl ho
  split at q
  ·rename_i C' bm k0 k1 k2 k3 n k5 hm hs
   simp only[FB,aaG,adw]at q;obtain⟨⟨⟨⟨⟨rfl,rfl⟩,SW⟩,ht⟩,aC⟩,Uh⟩:=q;obtain⟨nm,bs,mro,ns,qn,hd,sn,sub,ab,col,del⟩:=cd;dsimp only at hm SW aC Uh;subst hm SW
   have VY:sl= #[k0,k1,k2,k3,some (.builtin n),k5]:=by
    obtain⟨l⟩:=sl;simp only at hs;rw[hs]
   subst VY;exact⟨bm,ns,nm,qn,bs,hd,sn,sub,ab,col,dd,k0,k1,k2,k3,k5,_,X _ _ ho,.of_isNs (isNs_of_in X aC),nsMap_none_of_in X aC Uh,tail_of_in X ht⟩
  ·cases q
 ·cases q
theorem zK{j}(Z:dD K c C)(hm:mg c=some (.ref C))(hg:L2.Gl (L2.bQ (cK P w C) P w K mg base N qual scope f MD A outer s H E) c)(hd:gV c):
  PS (L2.bQ (cK P w C) P w K mg base N qual scope f MD A outer s H E) (.Raise (some (.Call (.Name c np) [.Constant (.str msg) j kp] [] MQ)) none pos) (λ_ _ H1=>aj H H1):=by
 intro pins s1 σ H1 D I sm;obtain⟨bm,N',nm,q,bs,hdct,sn,sub,ab,col,dd,k0,k1,k2,k3,k5,mN,hC,hN,Uh,T⟩:=LY I.mod.mq Z.exc
 refine wpAny_Raise_call_subT (C:=C) (nm:=nm) (q:=q) (N:=N') (bs:=bs) (bm:=bm) (hdct:=hdct) (sn:=sn) (sub:=sub) (ab:=ab) (col:=col) (dd:=dd) (k0:=k0) (k1:=k1) (k2:=k2) (k3:=k3) (k5:=k5)
  acK (mN:=mN) (T.hasType acK.hasBase) (I.ok.hd rfl) rfl Uh (L2.mF I hg hm ⟨rfl,?_⟩ hd)
 refine adL ?_;refine SL (L2.fz L2.zo L2.hV rfl MQ pins s1 σ H1 (λxs H2=>xs.length<=sizeLine/\H2=H1) I ⟨by show 1<=sizeLine;decide,rfl⟩) (λvs s2 ⟨xs,H2,I2,r,hl,e⟩=>?_) λ_ _ y=>y
 subst e;refine⟨rfl,by rw[<-r.length];exact hl,I2.bk _ _ hC,hN.keeps I2.bk,T.keeps I2.bk,λh' e hx=>ID I2 sm hx⟩
end
structure Rf(P:Program)(w:World)(K:PySem.W.Frag)(mg:Str->S2)(base:Heap)(x:Str)(k n:Nat)(c:Str)(m:List D->R D):Prop where
 ex:∃f fd ps C,L2.fj P w K mg base (cK P w C) k f fd ps (ub ⟨K,P,w⟩ m n c)/\L2.Binds K fd ps []/\PySem.W.keepIn K (.ref f)=true/\mg x=some (.ref f)/\dD K c C
section
variable{M:Model}{A:Around}{E:Value->Shared->Prop}{K:PySem.W.Frag}{h:Heap}{g:Array GenState}{d:Drawn}{t:Nat}{os:OsState}{e C U:Addr}{oe:Obj}
structure kh(K:PySem.W.Frag)(C U:Addr):Prop where
 yf:typeIn K (.ref U)=some (.type "type")
 bU:mroIn K U (.type "BaseException")=some true
 sub:mroIn K C (.ref U)=some true
theorem L7(X:K.In h)(Z:kh K C U)(he:h.get? e=some oe)(P6:oe.cls=.ref C)(hq:Q true ⟨h,g,d,t,os⟩):wpAny M A (excMatches (.ref e) (.ref U)) Q E ⟨h,g,d,t,os⟩:=by
 have f:=tc_notTuple;have L0:=looks_typeIn (M:=M) X Z.yf;have L1:=ade (M:=M) X Z.bU;have L2:=ade (M:=M) X Z.sub
 obtain⟨oU,hU,YE⟩:∃o,h.get? U=some o/\∃cd,o.data=.cls cd:=by
  have e:=Z.bU;unfold mroIn at e;obtain⟨cd,hc,_⟩:=abI.mp e;unfold clsIn at hc;split at hc
  ·rename_i ho;exact⟨_,X _ _ ho,_,rfl⟩
  ·cases hc
 have Tw:oU.cls=.type "type":=by
  have e:=Z.yf;unfold typeIn at e;obtain⟨o,ho,e⟩:=acX.mp e;have:=X _ _ ho;rw[hU]at this;cases this;exact e
 obtain⟨oc,od,ZO,PJ⟩:=oU;obtain⟨cd,Nn⟩:=YE;simp only at Nn Tw;subst Nn Tw;unfold excMatches
 repeat (first|(with_reducible refine aax he ?_;rw[P6])|with_reducible refine aax hU ?_|with_reducible refine L1.at ?_|with_reducible refine L2.at ?_|wp_step)
 exact hq
end
section
variable{X:Cx}{pins:List (Addr×Obj)}{σ:L2.St}{H:Hp}{s:Shared}
theorem qD(I:Inv X pins σ H s)(hN:X.N.Nodup)(hi:X.N[i]? =some x)(hk:X.env.kindOf x=some .local)
  (h:∀s',Inv X pins (σ.set i none) H s'->Q () s'):wpAny M A (do bindName X.env x .none;unbindBehindTheSuite X.env x pos) Q E s:=by
 obtain⟨m,hn,hl⟩:=id I.loc;have P6:(X.env.scope.kind==.class||(X.env.scope.kind==.module&&X.env.locals != X.env.globals))=false:=by rw[I.ok.kind];rfl
 have QN:i<σ.length:=by rw[I.len];exact(il.mp hi).1
 have fW:=I.fW;refine wpAny_nameGoes_keeps hk hn P6 λh' v Qj hs=>?_;obtain⟨oL,_,_,V6,_⟩:=id hn
 have tracked:bx X.prog X.w H h':=λb ob e=>by
  refine(I.aC b ob e).iW (λc w' hc q=>(hs.2 c ?_).trans q) (λ_ q=>q) (λ_ _ q=>q) λ_ _ q=>q;rintro rfl;rcases hc with rfl|hc
  ·rw[I.free]at e;cases e
  ·rw[I.free]at hc;cases hc
 refine h _ ⟨I.ok,I.os,I.bare,⟨λb o e n hb hx=>?_,λb o e n hb hx=>?_,I.base.free,λb o e hx=>?_,I.base.gz,I.base.fO,I.base.fV⟩,⟨_,Qj,λj y v' e1 e2 e3=>?_⟩,λy c e=>?_,I.free,I.fZ,λp hp=>?_,tracked,by simpa using I.len⟩
 ·exact(hs.2 b (GT (JK (GE e) I.ok.above))).trans (I.base.keep b o e n hb hx)
 ·obtain⟨sl,e1⟩:=I.base.slot b o e n hb hx
  exact⟨sl,(hs.2 b (GT (JK (GE e) I.ok.above))).trans e1⟩
 ·obtain⟨o',e1⟩:=I.base.there b o e hx
  exact⟨o',(hs.2 b (GT (JK (GE e) I.ok.above))).trans e1⟩
 ·by_cases hj:j=i
  ·subst hj
   rw[Mk QN]at e2;cases e2
  ·rw[df (W1 hj)]at e2
   obtain⟨u',r',q⟩:=hl j y v' e1 e2 e3;refine⟨u',r',?_⟩;rcases q with⟨k,e⟩|⟨k,c,e,z⟩
   ·refine .inl ⟨k,?_⟩
    have:y≠x:=λe=>hj (L2.tU hN e1 (e▸hi));simp[this,e]
   ·exact .inr ⟨k,c,e,z.sameBut hs (fW y c e)⟩
 ·obtain⟨w',z⟩:=I.cell y c e
  exact⟨w',z.sameBut hs (fW y c e)⟩
 ·obtain⟨e,n,ne,nf,d⟩:=I.pin p hp
  exact⟨(hs.2 p.1 ne).trans e,n,ne,nf,d⟩
structure iA(P:Program)(w:World)(C:Addr)(l:List Env)(H1 H':Hp)(h1:Heap)(a t:Addr)(B:Heap)(h:Heap):Prop where
 un:Un (cq l) [] H1 H' h1 h
 aC:bx P w H' h
 fl:Heap.FlyingW B l a (.ref C) (.ref t) h
 i9:∀b o,h.get? b=some o->(H' b≠none\/((∃o',h1.get? b=some o')/\b∉cq l))->B.get? b=some o
variable{P:Program}{w:World}{C:Addr}{l:List Env}{H1:Hp}{H':Hp}{h1:Heap}{h:Heap}{h5:Heap}{a:Addr}{t:Addr}{B:Heap}
theorem iA.step(x:iA P w C l H1 H' h1 a t B h)(st:B.StaysIn h5)(sm:h.UpToSlots h5):Un (cq l) [] H1 H' h1 h5/\bx P w H' h5/\∀b o,h5.get? b=some o->(H' b≠none\/((∃o',h1.get? b=some o')/\b∉cq l))->B.get? b=some o:=by
 have sl:∀b o,h.get? b=some o->b∈cq l->∃sl,h5.get? b=some {o with slots:=sl}:=λb o e hb=>by
  obtain⟨_,o',OH,Ux⟩:=x.fl.2.2.1.mem hb;rw[e]at OH;cases OH;exact sm b o e Ux
 refine⟨⟨λb o e n hb Oq=>st _ _ (x.i9 b o (x.un.keep b o e n hb Oq) (.inr ⟨⟨o,e⟩,hb⟩)),λb o e n hb Oq=>?_,x.un.free,λb o e Oq=>?_,x.un.gz,x.un.fO,x.un.fV⟩,xm x.aC λb o hb q=>st _ _ (x.i9 b o q (.inl hb)),λb o eo hc=>?_⟩
 ·obtain⟨s2,e2⟩:=x.un.slot b o e n hb Oq
  obtain⟨s3,e3⟩:=sl b _ e2 hb;exact⟨s3,e3⟩
 ·obtain⟨o',e'⟩:=x.un.there b o e Oq
  by_cases hb:b∈cq l
  ·obtain⟨s3,e3⟩:=sl b _ e' hb
   exact⟨_,e3⟩
  ·exact⟨o',st _ _ (x.i9 b o' e' (.inr ⟨⟨o,e⟩,hb⟩))⟩
 ·rcases hc with hb|⟨⟨o',e'⟩,hb⟩
  ·cases q:H' b with
   |none=>exact absurd q hb
   | some u=>
    obtain⟨ob,z⟩:=wH (x.aC _ _ q);have z2:=x.i9 b ob z (.inl hb);have z3:=st _ _ z2;rw[z3]at eo;cases eo;exact z2
  ·obtain⟨o2,e2⟩:=x.un.there b o' e' (by intro z;cases z)
   have z2:=x.i9 b o2 e2 (.inr ⟨⟨o',e'⟩,hb⟩);have z3:=st _ _ z2;rw[z3]at eo;cases eo;exact z2
theorem iA.on(x:iA P w C l H1 H' h1 a t B h)(f5:Heap.FlyingW B l a (.ref C) (.ref t) h5)(sm:h.UpToSlots h5):iA P w C l H1 H' h1 a t B h5:=
 let⟨u,k,c⟩:=x.step f5.1 sm
 ⟨u,k,f5,c⟩
theorem iA.got(x:iA P w C l H1 H' h1 a t B h)(ha:H' a=none)(h0:h1.get? a=none):Un (cq l) [] H1 (upd H' a (jA a C)) h1 h/\bx P w (upd H' a (jA a C)) h:=by
 have ne:∀b u,H' b=some u->upd H' a (jA a C) b=some u:=λb u q=>by rw[L2.aJ (L2.jd q ha)];exact q
 refine⟨⟨x.un.keep,x.un.slot,λb o e n Oq=>?_,x.un.there,λb xs q=>ne _ _ (x.un.gz b xs q),λb o u q=>ne _ _ (x.un.fO b o u q),λb ps q=>?_⟩,λb u q=>?_⟩
 ·have:b≠a:=λz=>by rw[z,h0]at e;cases e
  rw[L2.aJ this];exact x.un.free b o e n Oq
 ·exact ne _ _ (x.un.fV b ps q)
 ·by_cases z:b=a
  ·subst z
   rw[L2.bX]at q;cases q;obtain⟨oe,ws,T6,Ry,Vf,_⟩:=x.fl.first;exact⟨⟨oe,T6,Ry,ws,Vf⟩,⟨oe,T6⟩,λg1 g2=>by rintro⟨o,q1,q2⟩ k;exact ⟨o,k _ q1,q2⟩⟩
  ·rw[L2.aJ z]at q
   exact(x.aC b u q).iW (λ_ _ _ k=>k) (λ_ k=>ne _ _ k) (λ_ _ k=>ne _ _ k) λ_ _ k=>ne _ _ k
end
noncomputable abbrev Xm(X:Cx)(a:Addr):Cx:={X with A:=X.A.mark (some (.ref a)),calm:=false}
section
variable{X:Cx}{pins:List (Addr×Obj)}{σ:L2.St}{H:Hp}{s:Shared}{a:Addr}
theorem Inv.mark(I:Inv X pins σ H s):Inv (Xm X a) pins σ H s:=
 ⟨⟨I.ok.mod,I.ok.kind,I.ok.glob,I.ok.blt,I.ok.above,I.ok.inj,I.ok.has,I.ok.lj,λh=>Bool.noConfusion h,I.ok.frames,I.ok.j2,I.ok.ui,I.ok.bs,I.ok.i8,I.ok.mI,I.ok.oh,I.ok.gP,I.ok.kP,I.ok.tb⟩,I.os,I.bare,I.base,I.loc,I.cell,I.free,I.fZ,I.pin,I.aC,I.len⟩
theorem Inv.unmark(ok:X.Ok)(I:Inv (Xm X a) pins σ H s):Inv X pins σ H s:=⟨ok,I.os,I.bare,I.base,I.loc,I.cell,I.free,I.fZ,I.pin,I.aC,I.len⟩
theorem Fs(I1:Inv X pins σ H1 s1)(hq:cK X.prog X.w C X.stack H1 s1 E1 e s')
  (O3:X.stack=X.env::X.outer) (hf:X.env.frame=some X.env.locals) (UC:L2.Gl X uc) (Vj:X.mg uc=some (.ref U)) (Z:kh X.K C U) (hN:X.N.Nodup) (hi:X.N[i]? =some n) (hk:X.env.kindOf n=some .local) (hd:gV uc)
  (k:∀a s2 H2,Inv (Xm X a) pins (σ.set i (some (.ref a))) H2 s2->aj H1 H2->H1 a=none->H2 a=some (jA a C)->wpAny (model X.prog X.w) (X.A.mark (some (.ref a))) (execs (Qz::Pr) X.env)
   (λf QH=>wpAny (model X.prog X.w) X.A (do bindName X.env n .none;unbindBehindTheSuite X.env n hp) (λ_ QA=>Q f QA) E QH) (λ_ _=>False) s2):
  wpAny (model X.prog X.w) X.A (noteFrame e X.env) (λ_ OR=>wpAny (model X.prog X.w) X.A (setFlight e none) (λ_ Qa=>wpAny (model X.prog X.w) X.A (handleBy e X.env [.ExceptHandler (some (.Name uc np)) (some n) (Qz::Pr) hp]) Q E Qa) E OR) E s':=by
 obtain⟨a,t,B,H',rfl,os,bare,un,aC,sm,Qv,QO,fl,i9⟩:=hq;have y:iA X.prog X.w C X.stack H1 H' s1.heap a t B s'.heap:=⟨un,aC,fl,i9⟩;have Sl:X.A.frames=some (X.env::X.outer):=by rw[<-O3];exact I1.ok.frames
 refine wpAny_looks_onW (L:=X.env.locals) Sl hf (by rw[<-O3];exact fl) λh4 Sz Ue=>?_
 refine wpAny_landsW Sz λh5 Zq Xz=>?_;have y5:iA X.prog X.w C X.stack H1 H' s1.heap a t B h5:=y.on (by rw[O3];exact Zq) (Ue.trans Xz)
 have I5:Inv X pins σ H' {s' with heap:=h5}:=L2.Inv.pC (s':={s' with heap:=h5}) I1 os y5.un y5.aC bare (λb z=>absurd z (by simp))
 obtain⟨oe,T6,Ry⟩:=y5.fl.there;refine wpAny_handleBy_cons (codeAny_handlers_test (L2.mF (X:=Xm X a) (Inv.mark I5) UC Vj ?_ hd)) (by intro q;cases q)
 refine L7 I5.eU Z T6 Ry ?_;refine codeAny_handlers_suite_as ?_;refine PyProof.Rows.lands_againW y5.fl λh6 Zg Xv=>?_;have y6:=y5.on Zg Xv;have I6:Inv X pins σ (upd H' a (jA a C)) {s' with heap:=h6}:=L2.Inv.pC (s':={s' with heap:=h6}) I1 os (y6.got Qv QO).1 (y6.got Qv QO).2 bare (λb z=>absurd z (by simp))
 refine L2.uZ (v:=.ref a) I6 hN hi (.inl hk) rfl (λs2 I2=>?_) (.inr hk)
 have UU:H1 a=none:=by
  cases q:H1 a with
  |none=>rfl
  |some u=>rw[sm _ _ q]at Qv;cases Qv
 exact SL (k a s2 _ (Inv.mark I2) (λb u q=>by rw[L2.aJ (L2.jd (sm _ _ q) Qv)];exact sm _ _ q) UU L2.bX) (λ_ _ z=>z) λ_ _ z=>z.elim
end
noncomputable def Fl.FP(i:Nat):Fl->Fl
 |.next ρ=>.next (ρ.set i .un)
 |.brk ρ=>.brk (ρ.set i .un)
 |.cont ρ=>.cont (ρ.set i .un)
 |.ret d=>.ret d
 |.dM d=>.dM d
 |.ee d=>.ee d
 |.gD i ρ=>.gD i ρ
 |.dS d ρ=>.dS d ρ
noncomputable def dm(m:List D->R D)(fs:List Ex):En->R D:=λρ=>match eList fs ρ with
 |.ok ds=>m ds
 |_=>.bad
noncomputable def qF(r:En->R D)(i:Nat)(f:Sm):Sm:=λρ=>match r ρ with
 |.exc x=>(f (ρ.set i (.sh x))).bind λfl=>.ok (fl.FP i)
 |_=>.bad
theorem aF.gone(r:aF M G F0 H F σ ρ):aF M G F0 H F (σ.set i none) (ρ.set i .un):=by
 have own:∀j,a0 (ρ.set i .un) j->i≠j/\a0 ρ j:=λj h=>by
  rcases h with⟨ds,h⟩|⟨ks,ds,h⟩
  ·rcases get_set h with⟨_,e,_⟩|⟨n,e⟩
   ·cases e
   ·exact⟨n,.inl ⟨ds,e⟩⟩
  ·rcases get_set h with⟨_,e,_⟩|⟨n,e⟩
   ·cases e
   ·exact⟨n,.inr ⟨ks,ds,e⟩⟩
 refine⟨⟨by simp[r.rs.len],r.rs.aV,λj d e=>?_,λj ds e=>?_,λj ks ds e=>?_,λj k a h1 h2 e1 e2=>?_,?_⟩,r.sm,r.sub,r.c9,λj a h e=>?_,λj MU b e hb=>?_,r.pin.set λ_ h=>nomatch h⟩
 ·rcases get_set e with⟨_,e,_⟩|⟨n,e⟩
  ·cases e
  ·rw[df n];exact r.rs.sh j d e
 ·rcases get_set e with⟨_,e,_⟩|⟨n,e⟩
  ·cases e
  ·rw[df n];exact r.rs.ol j ds e
 ·rcases get_set e with⟨_,e,_⟩|⟨n,e⟩
  ·cases e
  ·rw[df n];exact r.rs.od j ks ds e
 ·obtain⟨n1,o1⟩:=own j h1
  obtain⟨n2,o2⟩:=own k h2;rw[df n1]at e1;rw[df n2]at e2;exact r.rs.cu j k a o1 o2 e1 e2
 ·refine r.rs.on.mv Mv.refl (λj MU e=>?_) (λj MU b u e hb f hu=>⟨f,hu⟩) λj MU b e hb k ok=>?_
  ·rcases get_set e with⟨_,e,_⟩|⟨n,e⟩
   ·cases e
   ·exact⟨e,df n⟩
  ·obtain⟨nk,ok⟩:=own k ok
   rw[df nk];rcases get_set e with⟨_,e,_⟩|⟨n,e⟩
   ·cases e
   ·exact(r.rs.on j MU e).2.1 b hb k ok
 ·obtain⟨n1,o1⟩:=own j h
  rw[df n1]at e;exact r.own j a o1 e
 ·rcases get_set e with⟨_,e,_⟩|⟨n,e⟩
  ·cases e
  ·exact r.di j MU b e (r.rs.on.back (λy ey=>by rw[df n]at ey;exact ey) (df n) (λa u _ _ hu=>hu) (λ_ _ _ e=>e) hb)
@[simp] noncomputable def jO(c:Str)(b:Bool):D->R D
 |.bN c' [] _=>if c'=c then .ok (.bl b)else .bad
 |_=>.bad
theorem Ai(h:jO c b d=.ok r):r=.bl b/\∃vs,d=.bN c [] vs:=by
 unfold jO at h;split at h
 ·split at h
  ·rename_i e;subst e;cases h;exact⟨rfl,_,rfl⟩
  ·cases h
 ·cases h
section
variable{X:Cx}{pos:Pos}
theorem xK:bq X (.builtin "isinstance") (λxs H Q=>∃a C v b,xs=[.ref a,v]/\H a=some (jA a C)/\jj X.K C/\(∀u,RelV v u->PySem.W.kitOne X.K (.ref C) u=some b)/\Q (.bl b) H):=by
 intro pins s σ H xs us Q I r h;obtain⟨a,C,v,b,rfl,ha,Z,hk,q⟩:=h;obtain⟨u,w,rfl,ru,Ot⟩:=L2.vals2 r;cases (show u=Value.ref a from ru)
 have p:zL a C s.heap:=(I.aC _ _ ha).1;exact kia_one (B4 Z) I.eU p (hk _ Ot) (λz=>nomatch z) λtk=>⟨.bl _,H,I.tok tk,rfl,q⟩
theorem BC(Z:dD M.K c C)(h:Rep M H F (.bN c [] vs) v):∃a,v=.ref a/\H a=some (jA a C):=by
 simp only[Rep]at h;obtain⟨a,_,e,h⟩:=h;rcases h with⟨z,_⟩|⟨_,⟨_,C',h,n⟩|⟨z,_⟩|⟨z,_⟩|⟨z,_⟩⟩
 ·cases z
 ·rw[Z.name]at n;cases n
  exact⟨a,e,h⟩
 ·cases z
 ·cases z
 ·cases z
theorem vc{X:L2.Cx}{pos:Pos}{c T:Str}{b:Bool}{C V:Addr}{a:Expr}{fa:Ex}{p p2:Pos}(Z:dD X.K c C)(ha:XE X a fa)(hm:X.mg "isinstance"=none)(TX:X.mg T=some (.ref V))(hk:PySem.W.kitOne X.K (.ref C) (.ref V)=some b)(hg:L2.Gl X "isinstance":=by rfl)(TR:L2.Gl X T:=by rfl)(hs:starEach [a,.Name T p2] X.env=(false,eval a X.env)::starEach [.Name T p2] X.env:=by exact a9 (by rfl))(NU:starEach [.Name T p2] X.env=(false,eval (.Name T p2) X.env)::starEach [] X.env:=by exact a9 (by rfl))(SM:gV T:=by decide):XE X (.Call (.Name "isinstance" p) [a,.Name T p2] [] pos) (e1 (jO c b) fa):=⟨have ha:=ha.out;bw (L2.mz xK hg hm tX (L2.fz ha (L2.fz (L2.BL (v:=.ref V) TR TX rfl SM) L2.hV NU) hs) (by decide) (by decide) hs (by rw[NU];rfl)) λσ H Q=>by
  rintro⟨ρ,F,d,hr,e,q⟩
  obtain⟨d',ea,e⟩:=ao.mp e;obtain⟨rfl,vs,rfl⟩:=Ai e;refine⟨ρ,F,_,hr,ea,λx H1 s1 rx=>?_⟩;obtain⟨y,rfl,hy⟩:=BC (M:=aB X) Z rx;exact⟨y,C,.ref V,b,rfl,hy,Z.tojj,λu ru=>by cases (show u=Value.ref V from ru);exact hk,q _ _ s1 fq⟩⟩
theorem L9{X:L2.Cx}{pos:Pos}{c T:Str}{b:Bool}{C:Addr}{n:String}{a:Expr}{fa:Ex}{p p2:Pos}(Z:dD X.K c C)(ha:XE X a fa)(hm:X.mg "isinstance"=none)(TX:X.mg T=none)(VN:bootBuiltins T=some (.type n))(hk:PySem.W.kitOne X.K (.ref C) (.type n)=some b)(hg:L2.Gl X "isinstance":=by rfl)(TR:L2.Gl X T:=by rfl)(hs:starEach [a,.Name T p2] X.env=(false,eval a X.env)::starEach [.Name T p2] X.env:=by exact a9 (by rfl))(NU:starEach [.Name T p2] X.env=(false,eval (.Name T p2) X.env)::starEach [] X.env:=by exact a9 (by rfl))(U7:T≠"__name__":=by decide)(SM:gV T:=by decide):XE X (.Call (.Name "isinstance" p) [a,.Name T p2] [] pos) (e1 (jO c b) fa):=⟨have ha:=ha.out;bw (L2.mz xK hg hm tX (L2.fz ha (L2.fz (L2.yg (v:=.ty n) TR TX VN rfl U7 SM) L2.hV NU) hs) (by decide) (by decide) hs (by rw[NU];rfl)) λσ H Q=>by
  rintro⟨ρ,F,d,hr,e,q⟩
  obtain⟨d',ea,e⟩:=ao.mp e;obtain⟨rfl,vs,rfl⟩:=Ai e;refine⟨ρ,F,_,hr,ea,λx H1 s1 rx=>?_⟩;obtain⟨y,rfl,hy⟩:=BC (M:=aB X) Z rx;exact⟨y,C,.ty n,b,rfl,hy,Z.tojj,λu ru=>by cases (show u=Value.type n from ru);exact hk,q _ _ s1 fq⟩⟩
theorem Ec(z:dD K c C)(ct:kh K C U):∀C',dD K c C'->kh K C' U:=λC' h=>by
 have e:=h.name.symm.trans z.name;cases e;exact ct
end
end PL
namespace PL
open PySem PySem.Spec
open L2 (V Hp HO Cx PE PT PW PA PS bC PG cb VK TE TT TA TS TI TG Inv RelV Vals Rd aU bj upd aj Key XK Ends aR cB bq R2 EP It Turn bS Un jf)
noncomputable abbrev dT(xs:List D):D:=.bN ⟨#[]⟩ [⟨#[116]⟩] xs
end PL
set_option maxHeartbeats 2000000
namespace PL
open PySem PySem.Spec PySem.W
section
open L2 (V Hp HO Cx PE PT PW PA PS bC PG cb VK TE TT TA TS TI TG Inv RelV Vals Rd aU bj upd aj Key XK Ends aR cB bq R2 EP It Turn bS Un)
variable{X:Cx}{M:Md}{G H H':Hp}{F0:Gf}{F F':YK}{σ:L2.St}{ρ:En}{pos:Pos}{pins:List (Addr×Obj)}{s:Shared}
end
end PL
namespace PL
open PySem PySem.Spec
open PyProof.Rows (assign_Tuple)
open L2 (V Hp HO Cx PE PT PW PA PS bC PG cb VK TE TT TA TS TI TG Inv RelV Vals Rd aU bj upd aj Key XK Ends aR cB bq R2 EP)
section
variable{prog:Program}{w:World}{A:Around}{E:Value->Shared->Prop}{s:Shared}
theorem yz{it t:Addr}{items:Array Value}(MJ:t≠it):∀(n i:Nat) (s:Shared) (Q:S1->Shared->Prop),s.heap.IsListIter it t i->s.heap.IsList t items->i+n<=items.size->
  (∀h',h'.IsListIter it t (i+n)->Heap.SameBut it s.heap h'->Q ((items.toList.drop i).take n) {s with heap:=h'})->wpAny (model prog w) A (draw (.ref it) n) Q E s
 | 0,i,s,Q,hit,_,_,hQ=>by
  show wpAny _ _ (pure []) Q E s;exact FM (by simpa using hQ s.heap hit (Heap.SameBut.refl ..))
 | n+1,i,s,Q,hit,ht,hle,hQ=>by
  have Nl:i<items.size:=by omega
  show wpAny _ _ (pyNext (.ref it) >>= _) Q E s;refine tB (abZ hit ht (x:=items[i]) (by simp[Nl]) λOi Pa OX=>?_)
  refine tB (Wp (yz MJ n (i+1) _ _ Pa (ht.extBut OX.extBut MJ) (by omega) λQb Rq SF=>FM ?_))
  have hd:items.toList.drop i=items[i]::items.toList.drop (i+1):=by simp[aaN,Nl]
  have:=hQ Qb (by rw[show i+(n+1)=i+1+n by omega];exact Rq) (OX.trans SF)
  rw[hd,adp]at this;exact this
theorem Ie{t:Addr}{items:Array Value}{Q:S1->Shared->Prop}(hh:A.handled=none)(ht:s.heap.IsList t items)
  (hQ:∀h',Heap.ExtBut s.heap.objs.size s.heap h'->Q items.toList {s with heap:=h'}):wpAny (model prog w) A (unpackItems (.ref t) items.size none) Q E s:=by
 have Nl:t≠s.heap.objs.size:=by obtain⟨o,ho,_⟩:=ht;exact GT (GE ho)
 unfold unpackItems;refine tB ?_
 ·unfold notIterableAtAll
  refine tB (acY ht.typeIs slot_list_iter.lookup ?_);refine FM ?_;simp only[aaT,abD];refine tB (Wp (acJ ht ?_));refine tB (Wp (yz Nl items.size 0 _ _ ⟨_,KF _ rfl,rfl,rfl⟩ (ht.push _) (by omega) λOi Pa OX=>?_))
  have Pw:List.take items.size (List.drop 0 items.toList)=items.toList:=by
   rw[acL];exact SB (by simp)
  rw[Pw];rw[Gc (by simp)]
  have Sr:Oi.IsList t items:=(ht.push _).extBut OX.extBut Nl;refine tB (Wp (ack hh Pa Sr (by simp) λQb S0=>?_))
  simp only[Option.isSome_none,aaT,abD];refine FM (hQ Qb λb o hb e=>S0 b o hb (OX.extBut b o hb (sa _ e)))
theorem Lr{t:Addr}{items:Array Value}{targets:List (Bool×(Value->Sem Unit))}{Q:Unit->Shared->Prop}(hh:A.handled=none)(ht:s.heap.IsList t items)
  (hn:targets.length=items.size) (P5:targets.findIdx? (·.1)=none)
  (h:∀h',Heap.ExtBut s.heap.objs.size s.heap h'->wpAny (model prog w) A (assignInOrder (targets.map (·.2)) items.toList) Q E {s with heap:=h'}):
  wpAny (model prog w) A (unpack (.ref t) targets) Q E s:=by
 unfold unpack;rw[hn,P5];exact tB (Wp (Ie hh ht h))
theorem Fh{env:Env}{elts:P2}{x1}{pos:Pos}{t:Addr}{items:Array Value}{Q:Unit->Shared->Prop}(hh:A.handled=none)(ht:s.heap.IsList t items)
  (hn:(assignEach elts env).length=items.size) (P5:(assignEach elts env).findIdx? (·.1)=none)
  (h:∀h',Heap.ExtBut s.heap.objs.size s.heap h'->wpAny (model prog w) A (assignInOrder ((assignEach elts env).map (·.2)) items.toList) Q E {s with heap:=h'}):
  wpAny (model prog w) A (assign (.Tuple elts x1 pos) env (.ref t)) Q E s:=by
 rw[assign_Tuple];exact tB (acz (Lr hh ht hn P5 h))
end
noncomputable def qK(is:List Nat):dZ:=λd ρ=>match d with
 |.tup ds=>fk is ds ρ
 |.lst ds=>fk is ds ρ
 |_=>.bad
section
variable{X:Cx}{M:Md}{G H H':Hp}{F0:Gf}{F F':YK}{σ:L2.St}{ρ:En}{pos:Pos}{DE:Ends}
theorem uD(h:mU X es (fk is))(hn:(assignEach es X.env).length=is.length)(hc:X.calm=true:=by rfl)(O3:(assignEach es X.env).findIdx? (·.1)=none:=by exact ue (by rfl)):XG X (.Tuple es k pos) (qK is):=⟨have h:=h.out;by
 intro F0 pins s σ H v u Q I Wn ⟨ρ,F,d,ρ',r,rv,e,q⟩;cases d with
 |tup ds=>exact BA hc h hn O3 F0 pins s σ H v u Q I Wn ⟨ρ,F,.tup ds,ρ',r,rv,e,q⟩
 | lst ds=>
  simp only[Rep]at rv;obtain⟨a,xs,rfl,h1,rs⟩:=rv;cases Wn;obtain⟨its,Ot,⟨o,n,ho,Ug,V7,QW⟩,hz⟩:=I.list h1.sq;have hl:ds.length=is.length:=sJ e;refine Fh (I.ok.hd hc) (items:=its.toArray) ⟨o,ho,Ug,n,QW⟩ (by rw[hn, <-hl,rs.length];simp[Ot.length]) O3 λh' hx=>?_
  have I1:Inv X pins σ H {s with heap:=h'}:=I.kept (t':=s.toks) λb o e=>hx b o (GT (GE e)) e;exact h F0 pins _ σ H xs _ Q I1 (by simpa using Ot) ⟨ρ,F,ds,ρ',r,rs,e,q⟩
 |_=>cases e⟩
end
end PL
set_option maxHeartbeats 1000000
namespace PL
open PySem PySem.Spec
open L2 (V Hp HO Cx PE PT PW PA PS bC PG cb VK TE TT TA TS TI TG Inv RelV Vals Rd aU bj upd aj Key XK Ends aR cB bq R2 EP It Turn bS Un)
noncomputable def wo:Ky->D
 |.inl i=>.int i
 |.inr x=>.str x
def jZ(P:Program)(w:World)(K:PySem.W.Frag)(H:Hp)(a:Addr)(ob:Obj)(kvs:List (Key×V)):Prop:=
 H a=some (.frz ob (.dK kvs))\/(K.lookup a=some ob/\∃(es:Array DictEntry) (ep:Nat) (vs:List (Key×Value)),ob.ExactDict/\ob.data=.dict es ep/\KeysOf (L2.cV P w) es/\Pairs (L2.cV P w) es.toList vs/\
  (vs.map (·.1)).Nodup/\L2.KV kvs vs/\kvs.length<=sizeLine/\(a==sysModules)=false)
theorem Io(h:gp M H F a kvs):∃ob,((¬F a/\H a=some (.frz ob (.dK kvs)))\/jZ M.P M.w M.K (λ_=>none) a ob kvs)/\jZ M.P M.w M.K H a ob kvs:=by
 rcases h with⟨n,ob,h⟩|⟨o,es,ep,vs,h1,h2,h3,h4,h5,h6,h7,h8,h9⟩
 ·exact⟨ob,.inl ⟨n,h⟩,.inl h⟩
 ·exact⟨o,.inr (.inr ⟨h1,es,ep,vs,h2,h3,h4,h5,h6,h7,h8,h9⟩),.inr ⟨h1,es,ep,vs,h2,h3,h4,h5,h6,h7,h8,h9⟩⟩
section
variable{X:Cx}{M:Md}{G H H':Hp}{F0:Gf}{F F':YK}{σ:L2.St}{ρ:En}{pos:Pos}{pins:List (Addr×Obj)}{s:Shared}
theorem vK(I:Inv X pins σ H s)(h:jZ X.prog X.w X.K H a ob kvs):kvs.length<=sizeLine/\(a==sysModules)=false/\∃vs es ep,L2.KV kvs vs/\ob.data=.dict es ep/\s.heap.DictAt (L2.cV X.prog X.w) a vs ep:=by
 rcases h with h|⟨h1,es,ep,vs,h2,h3,h4,h5,h6,h7,h8,h9⟩
 ·obtain⟨e0,z,y,vs,r,ZP,es,ep,e1,c1,c2,c3,c4,c5⟩:=I.aC a _ h
  rw[e0]at e1;cases e1;exact⟨z,y,vs,es,ep,r,c2,ob,es,e0,c1,c2,c3,c4,c5⟩
 ·exact⟨h8,h9,vs,es,ep,h7,h3,ob,es,I.eU a ob h1,h2,h3,h4,h5,h6⟩
noncomputable def sC(P:Program)(w:World)(K:PySem.W.Frag)(a:Addr)(ob:Obj)(kvs:List (Key×V)):It:=
 ⟨λi H=>jZ P w K H a ob kvs/\i<kvs.length,λi H x H'=>H'=H/\∃kv,kvs[i]? =some kv/\x=L2.kV kv.1,λi H=>jZ P w K H a ob kvs/\i=kvs.length⟩
theorem ml(h:L2.KV kvs vs):kvs.length=vs.length:=by
 unfold L2.KV at h
 induction h with
 |nil=>rfl
 |cons _ _ ih=>simp[ih]
theorem yI(h:L2.KV kvs vs):∀ {i:Nat} {p:Key×Value},vs[i]? =some p->∃q,kvs[i]? =some q/\q.1=p.1:=by
 unfold L2.KV at h
 induction h with
 |nil=>intro i p e;simp at e
 | cons hd _ ih=>
  intro i p e;cases i with
  |zero=>simp at e;subst e;exact⟨_,rfl,hd.1⟩
  |succ i=>simpa using ih (i:=i) (by simpa using e)
theorem yj(h:L2.j9 k u=true):RelV (L2.kV k) u:=by
 rcases L2.iD h with⟨i,t,rfl,rfl⟩|⟨x,t,rfl,rfl⟩
 ·exact⟨t,rfl⟩
 ·exact⟨t,rfl⟩
theorem Ic(a it:Addr)(ob:Obj)(es:Array DictEntry)(ep:Nat)(QW:ob.data=.dict es ep)(kvs:List (Key×V)):Turn P w K tg (sC P w K a ob kvs) [it] it (λi h=>h.IsKeyIter it a i kvs.length ep) where
 mem:=by simp
 obj:=λi h st b hb=>by
  have e:b=it:=by simpa using hb
  subst e;obtain⟨o,e,c,d⟩:=st;exact⟨o,e,λv z=>by rw[d]at z;cases z⟩
 keep:=λi h h' st k=>st.at λo e=>k it (by simp) o e
 item:=by
  intro X hP hw hK hc i pins s σ H E I hf st hg;subst hP hw hK;obtain⟨dz,hi⟩:=hg;obtain⟨hz,hs,vs,QQ,SS,rel,PZ,dat⟩:=vK I dz;rw[QW]at PZ;cases PZ;have hl:=ml rel;have hx:vs[i]? =some vs[i]:=DF (by omega)
  obtain⟨q,hq,eq⟩:=yI rel hx;obtain⟨f0,f1,f2,f3,f4,f5⟩:=hf it (by simp)
  rw[hl]at st;refine wpAny_pyNext_dict_item (k:=vs[i].1) (v:=vs[i].2) st dat hx λkey h' RA Ov sb=>?_;have I1:Inv X pins σ H {s with heap:=h'}:=I.turned (t':=s.toks) (λb o hb e=>(sb.2 b hb).trans e) f0 f1 f3 f4 f5;obtain⟨o,e,c,d⟩:=id Ov;rw[<-hl]at Ov;exact⟨key,rfl,L2.j7 (s:={s with heap:=h'}) e c d (by decide) ⟨L2.kV q.1,H,I1,by rw[eq];exact yj RA,⟨rfl,q,hq,rfl⟩,Ov,λb hb=>(hf b hb).1⟩⟩
 done:=by
  intro X hP hw hK hc i pins s σ H E I hf st hg;subst hP hw hK;obtain⟨dz,hi⟩:=hg;obtain⟨hz,hs,vs,QQ,SS,rel,PZ,dat⟩:=vK I dz;rw[QW]at PZ;cases PZ;have hl:=ml rel;obtain⟨f0,f1,f2,f3,f4,f5⟩:=hf it (by simp)
  rw[hl]at st;exact wpAny_pyNext_dict_end (I.ok.hd hc) st dat (abv.mpr (by omega)) λh' eb=>⟨rfl,I.turned (t':=s.toks) (λb o hb e=>eb b o hb e) f0 f1 f3 f4 f5⟩
 self:=λ_ _ _ _ _ st h=>wpAny_pyIter_keyiter st h
def HE(P:Program)(w:World)(K:PySem.W.Frag)(tl:TE):TI:=λσ H R=>tl σ H λx H1=>∃a ob kvs,x=.ref a/\jZ P w K H1 a ob kvs/\R (sC P w K a ob kvs) H1
theorem GK(hl:PE X l tl):L2.PI X tg l (HE X.prog X.w X.K tl):=by
 intro pins s σ H R I h;refine L2.aM (hl pins s σ H _ I h) λv s1 ⟨x,H1,I1,r1,q1⟩=>?_;obtain⟨a,ob,kvs,e,dz,q⟩:=q1;subst e;cases r1;obtain⟨hz,hs,vs,es,ep,rel,QW,dat⟩:=vK I1 dz;have hlen:=ml rel;refine wpAny_pyIter_dict hs dat ?_;rw[<-hlen];refine⟨s1.heap.objs.size,[s1.heap.objs.size],_,_,H1,rfl,I1.kept (t':=s1.toks) λb o e=>sa _ e,Ic a _ ob es ep QW kvs,⟨_,KF _ rfl,rfl,rfl⟩,λb hb=>?_,q⟩;have e:b=s1.heap.objs.size:=by simpa using hb
 subst e;exact I1.m8 (IR _) (I1.aC.fresh (IR _))
noncomputable def gS(a:Ex):dW:=λρ=>(a ρ).bind λx=>match x with
 |.aL ks _=>.ok (ks.map wo)
 |_=>.bad
theorem JJ:Rep M H F (wo k) (L2.kV k):=by
 cases k with
 |inl i=>exact de
 |inr x=>exact oA
theorem Gx{a:Addr}{ob:Obj}{ks:List Ky}{xs:List V}(hd:(¬F a/\H a=some (.frz ob (.dK (ks.zip xs))))\/jZ M.P M.w M.K (λ_=>none) a ob (ks.zip xs))(hl:ks.length=xs.length):Gives M (sC M.P M.w M.K a ob (ks.zip xs)) H F (ks.map wo):=by
 intro H' F' mv tr;have RB:(ks.zip xs).length=ks.length:=by rw[aam];omega
 have dz:jZ M.P M.w M.K H' a ob (ks.zip xs):=by
  rcases hd with⟨n,h⟩|h
  ·exact .inl (mv _ _ n h).2
  ·rcases h with h|h
   ·cases h
   ·exact .inr h
 refine⟨λi d QB=>?_,?_⟩
 ·obtain⟨hi,_⟩:=il.mp QB
  rw[j1]at hi;rw[xa,DF hi]at QB;cases QB;refine⟨⟨dz,by omega⟩,λy H2 hy=>?_⟩
  obtain⟨rfl,kv,Xn,rfl⟩:=hy;obtain⟨hk,e⟩:=il.mp Xn;have:kv.1=ks[i]:=by rw[<-e,List.getElem_zip]
  rw[this];exact⟨aj.refl _,JJ⟩
 ·exact⟨dz,by rw[j1,RB]⟩
theorem l8(ha:XE X l fa):XI X tg l (gS fa):=⟨have ha:=ha.out;qN (GK ha) λσ H Q=>by
  rintro⟨ρ,F,ds,r,e,q⟩
  obtain⟨d,ed,e⟩:=ao.mp e;cases d with
  | aL ks vs=>
   cases e;refine⟨ρ,F,_,r,ed,λv H1 s1 rv=>?_⟩;simp only[Rep]at rv;obtain⟨a,xs,rfl,h,hl,rs⟩:=rv;obtain⟨ob,h1,h2⟩:=Io h;exact⟨a,ob,_,rfl,h2,q _ H1 s1 (Gx (M:=aB X) h1 hl)⟩
  |_=>cases e⟩
noncomputable def putL(k:Ky)(d:D)(ks:List Ky)(vs:List D):List Ky×List D:=if(ks.any λa=>decide (a=k))=true then(ks,List.zipWith (λa v=>if a=k then d else v) ks vs)else(ks++[k],vs++[d])
noncomputable def vS(i:Nat)(k e:Ex):Sm:=λρ=>(e ρ).bind λd=>(k ρ).bind λq=>match ρ[i]?,keyOf q with
 |some (.od ks vs),some y=>if ks.length<1000 then .ok (.next (ρ.set i (.od (putL y d ks vs).1 (putL y d ks vs).2)))else .bad
 |_,_=>.bad
theorem B0(i:Nat)(hN:X.N.Nodup)(hi:X.N[i]? =some x:=by rfl)(hx:L2.Loc X.env.scope x:=by exact Or.inl rfl)(hf:X.fn x=true\/X.env.scope.names.lookup x=some .local:=by exact .inl rfl)(hs:swapsWith (.Dict [] [] p1) (some (.Name x p2)) pos.line X.env=pure false:=by exact cY (by rfl)):XS X (.Assign [.Name x p2] (.Dict [] [] p1) pos) (AG i (nt [] [])):=⟨ λF0=>
 cx (L2.lq hN hi hx L2.u0 hs hf) λD σ H=>by
  rintro⟨ρ,F,fl,r,e,q⟩
  obtain⟨d,ed,e⟩:=ao.mp e;cases ed;cases e;intro p hp;obtain⟨mv,r'⟩:=r.new (i:=i) (s:=.od [] []) hp (.inr ⟨[],[],[],rfl,rfl,rfl,ai.nil⟩);exact q _ _ _ mv r'⟩
theorem pW(k:Ky)(v:V)(hl:ks.length=xs.length):
  L2.putK (ks.zip xs) k v=(if(ks.any λa=>decide (a=k))=true then ks.zip (List.zipWith (λa x=>if a=k then v else x) ks xs)else(ks++[k]).zip (xs++[v])):=by
 have OA:∀ {ks:List Ky} {xs:List V},ks.length=xs.length->((ks.zip xs).any λkv=>decide (kv.1=k))=(ks.any λa=>decide (a=k)):=by
  intro ks
  induction ks with
  |nil=>intro xs _;simp
  | cons a ks ih=>
   intro xs hl;cases xs with
   |nil=>simp at hl
   |cons x xs=>rw[abo,aat,aat,ih (by simpa using hl)]
 unfold L2.putK;rw[OA hl];by_cases h:(ks.any λa=>decide (a=k))=true
 ·rw[DM h,DM h]
  have e:∀ {ks:List Ky} {xs:List V},ks.length=xs.length->(ks.zip xs).map (λkv=>if kv.1=k then(kv.1,v)else kv)=ks.zip (List.zipWith (λa x=>if a=k then v else x) ks xs):=by
   intro ks
   induction ks with
   |nil=>intro xs _;simp
   | cons a ks ih=>
    intro xs hl;cases xs with
    |nil=>simp at hl
    | cons x xs=>
     rw[abo,MG,ih (by simpa using hl),aao,abo]
     by_cases h:a=k
     ·simp[h]
     ·simp[h]
  exact e hl
 ·rw[Gc h,Gc h,List.zip_append hl]
  rfl
theorem wN(rd:Rep M H F d v):∀ {ks:List Ky} {ds:List D} {xs:List V},ai M H F ds xs->ai M H F (List.zipWith (λa y=>if a=k then d else y) ks ds) (List.zipWith (λa x=>if a=k then v else x) ks xs)
 |[],_,_,_=>by simpa using ai.nil
 | a::ks,[],xs,r=>by
  simp only[ai]at r;subst r;simpa using ai.nil
 | a::ks,y::ds,xs,r=>by
  simp only[ai]at r;obtain⟨x,R7,rfl,r1,r2⟩:=r;rw[aao,aao];refine ai.cons ?_ (wN rd r2);by_cases h:a=k
  ·rw[DM h,DM h];exact rd
  ·rw[Gc h,Gc h];exact r1
theorem LS(i:Nat)(hu:X.A.units+64<cLine)(hk:XE X k g)(he:XE X e f)(hN:X.N[i]? =some x:=by rfl)(hv:L2.d9 X.env.scope x:=by exact Or.inl rfl)(hd:gV x:=by decide)(Nn:js x:=by decide)(hs:swapsWith e (some (.Subscript (.Name x p2) k p3)) pos.line X.env=pure false:=by exact cY (by rfl)):XS X (.Assign [.Subscript (.Name x p2) k p3] e pos) (vS i g f):=⟨have hk:=hk.out;have he:=he.out;λF0=>
 cx (L2.vU (by omega) (L2.pv i hN hv hd Nn) hk he hs) λD σ H=>by
  rintro⟨ρ,F,fl,r,e,q⟩
  obtain⟨d,ed,e⟩:=ao.mp e;obtain⟨y,ey,e⟩:=ao.mp e
  have ⟨ks,vs,z,q1,hk,e9⟩:∃ks vs z,ρ[i]? =some (.od ks vs)/\keyOf y=some z/\(if ks.length<1000 then R.ok (Fl.next (ρ.set i (.od (putL z d ks vs).1 (putL z d ks vs).2)))else .bad)=.ok fl:=by
   cases hq:ρ[i]? with
   |none=>rw[hq]at e;cases e
   | some s=>
    rw[hq]at e;cases s with
    | od ks vs=>
     cases hz:keyOf y with
     |none=>rw[hz]at e;cases e
     |some z=>rw[hz]at e;exact⟨ks,vs,z,rfl,rfl,e⟩
    |_=>cases e
  by_cases Nl:ks.length<1000
  ·rw[DM Nl]at e9
   cases e9;have oi:a0 ρ i:=.inr ⟨_,_,q1⟩;obtain⟨a,xs,ea,fa,ha,hl,rs⟩:=r.rs.od i _ _ q1;refine⟨ρ,F,d,r.rs,ed,λv H1 s1 rv=>⟨_,ea,ρ,F,y,(r.same s1).rs,ey,λw H2 s2 Ot=>?_⟩⟩;have r2:=(r.same s1).same s2;have VJ:=s2 _ _ (s1 _ _ ha);cases jy hk Ot;have Rb:=rv.mv (M:=aB X) (F':=F) (.same s2);have SV:=rs.mv (M:=aB X) (F':=F) (.same (s1.trans s2))
   have RB:(ks.zip xs).length<sizeLine:=by
    have:(sizeLine:Nat)=16777216:=aaj;rw[aam];omega
   refine⟨a,_,rfl,L2.kB.k VJ RB,?_⟩;rw[pW z v hl];unfold putL at q;by_cases hm:(ks.any λa=>decide (a=z))=true
   ·rw[DM hm]at q ⊢
    obtain⟨mv,r'⟩:=r2.chg (s:=.od ks (List.zipWith (λa y=>if a=z then d else y) ks vs)) oi ea (.inr ⟨_,_,_,rfl,rfl,by rw[aau];omega,wN Rb SV⟩)
    exact q _ _ _ (Mv.trans (.same (s1.trans s2)) mv) r'
   ·rw[Gc hm]at q ⊢
    obtain⟨mv,r'⟩:=r2.chg (s:=.od (ks++[z]) (vs++[d])) oi ea (.inr ⟨_,_,_,rfl,rfl,by rw[Fk,Fk,hl];rfl,SV.append (ai.cons Rb ai.nil)⟩)
    exact q _ _ _ (Mv.trans (.same (s1.trans s2)) mv) r'
  ·rw[Gc Nl]at e9;cases e9⟩
theorem Eh{P:Nat->Value->Prop}:∀ {l:S1},l.length=xs.length->(∀(j:Nat) v,l[j]? =some v->∃x,xs[j]? =some x/\RelV x v)->Vals xs l:=by
 intro l
 induction l generalizing xs with
 | nil=>intro hl _;cases xs with
  |nil=>exact .nil
  |cons _ _=>cases hl
 | cons v l ih=>
  intro hl h;cases xs with
  |nil=>cases hl
  | cons x xs=>
   obtain⟨y,e,r⟩:=h 0 v rfl;cases e;exact .cons r (ih (by simpa using hl) λj w hw=>by simpa using h (j+1) w (by simpa using hw))
end
theorem vE:bootBuiltins "sorted"=some (.builtin "sorted"):=by decide+kernel
noncomputable def jM(t:bg)(body:Sm):Nat->En->R Fl
 |0,_=>.bad
 | n+1,ρ=>(t ρ).bind λb=>if b=true then(body ρ).bind λf=>match f with
  |.next Om=>jM t body n Om
  |.cont Om=>jM t body n Om
  |.brk Om=>.ok (.next Om)
  |.ret d=>.ok (.ret d)
  |.dM d=>.ok (.dM d)
  |.ee d=>.ok (.ee d)
  |.gD i ρ=>.ok (.gD i ρ)
  |.dS d ρ=>.ok (.dS d ρ)else .ok (.next ρ)
noncomputable def sk(n:Nat)(t:bg)(body:Sm):Sm:=jM t body n
noncomputable def nX(j i:Nat):Sm:=λρ=>match ρ[i]? with
 | some (.ol xs)=>match xs[xs.length - 1]? with
  |some y=>.ok (.next ((ρ.set i (.ol xs.dropLast)).set j (.sh y)))
  |none=>.bad
 |_=>.bad
noncomputable def iy(i j c:Int):List D:=(List.range (Builtin.Range.rangeSize i j c).toNat).map λ(k:Nat)=>.int (i+(k:Int)*c)
noncomputable def wA(a b c:Ex):dW:=λρ=>(a ρ).bind λx=>(b ρ).bind λy=>(c ρ).bind λz=>match x,y,z with
 |.int i,.int j,.int k=>if(inR i&&inR j)=true/\0<k/\k<1000 then .ok (iy i j k)else .bad
 |_,_,_=>.bad
section
variable{X:Cx}{M:Md}{G H H':Hp}{F0:Gf}{F F':YK}{σ:L2.St}{ρ:En}{pos:Pos}{pins:List (Addr×Obj)}{s:Shared}
theorem Ej(n:Nat)(hc:XT X c t)(hb:gq X body f)(hp:PassesOwn (model X.prog X.w) X.A X.env X.xe:=by exact PassesOwn.never):XS X (.While c body [] pos) (sk n t f):=⟨have hc:=hc.out;have hb:=hb.out;λF0=>
 cx (L2.D9 hp hc (hb F0)) λD σ H=>by
  rintro⟨ρ,F,fl,r,e,q⟩
  refine⟨λm PM H1=>∃Nm F1,Mv F H F1 H1/\aF (aB X) F0.g F0 H1 F1 PM Nm/\jM t f m Nm=.ok fl,⟨n,ρ,F,Mv.refl,r,e⟩,?_⟩;rintro m PM H1 ⟨Nm,F1,m1,r1,e1⟩;cases m with
  |zero=>cases e1
  | succ m=>
   unfold jM at e1;obtain⟨b,eb,e1⟩:=ao.mp e1;refine⟨Nm,F1,b,r1.rs,eb,λH2 s2=>?_⟩;have m2:Mv F H F1 H2:=m1.trans (.same s2);have r2:=r1.same s2;cases b with
   | false=>
    cases e1;exact q _ _ _ m2 r2
   | true=>
    obtain⟨f1,ef,e1⟩:=ao.mp e1;refine⟨λOD H3=>∃Wb F3,Mv F H F3 H3/\aF (aB X) F0.g F0 H3 F3 OD Wb/\jM t f m Wb=.ok fl,λOD H3 h3=>⟨m,adC m,h3⟩,Nm,F1,f1,r2,ef,?_⟩;cases f1 with
    |next Om=>exact λOD H3 F3 m3 r3=>⟨Om,F3,m2.trans m3,r3,e1⟩
    |cont Om=>exact λOD H3 F3 m3 r3=>⟨Om,F3,m2.trans m3,r3,e1⟩
    |brk Om=>cases e1;exact λOD H3 F3 m3 r3=>q OD H3 F3 (m2.trans m3) r3
    |ret d=>cases e1;exact λv H3 F3 m3 a b rv=>q v H3 F3 (m2.trans m3) a b rv
    |dM d=>cases e1;exact λp H3 F3 xs ds e m3 a b c rv=>q p H3 F3 xs ds e (m2.trans m3) a b c rv
    |ee d=>cases e1;exact λv H3 F3 F4 as m3 a b c d e rv=>q v H3 F3 F4 as (m2.trans m3) a b c d e rv
    |gD i ρ=>cases e1;exact λME H' F' v m3=>q ME H' F' v (m2.trans m3)
    |dS d ρ=>cases e1;exact λME H' F' v m3=>q ME H' F' v (m2.trans m3)⟩
theorem ai.dropLast:∀ {ds:List D} {xs:List V},ai M H F ds xs->ai M H F ds.dropLast xs.dropLast
 |[],_,h=>by simp only[ai]at h;subst h;exact ai.nil
 | [d],_,h=>by
  simp only[ai]at h;obtain⟨x,r,rfl,_,rfl⟩:=h;exact ai.nil
 | d::d2::ds,_,h=>by
  have h0:=h;simp only[ai]at h;obtain⟨x,r,rfl,h1,x2,r2,rfl,h3⟩:=h;show ai M H F (d::(d2::ds).dropLast) (x::(x2::r2).dropLast);exact ai.cons h1 (ai.dropLast (ai.cons h3.1 h3.2))
theorem D5(j:Nat)(i:Nat)(nd:X.N.Nodup)(hj:X.N[j]? =some y:=by rfl)(hN:X.N[i]? =some x:=by rfl)(hx:L2.Loc X.env.scope y:=by exact Or.inl rfl)(hv:L2.d9 X.env.scope x:=by exact Or.inl rfl)(hf:X.fn y=true\/X.env.scope.names.lookup y=some .local:=by exact .inl rfl)(hd:gV x:=by decide)(Nn:js x:=by decide)(Nv:attributeBase (.Name x p2) "pop" X.env (eval (.Name x p2) X.env)=eval (.Name x p2) X.env:=by exact lh)(Nw:(apos.endLine==MQ.line)=true:=by rfl)(O2:swapsWith (.Call (.Attribute (.Name x p2) "pop" apos) [] [] MQ) (some (.Name y p3)) pos.line X.env=pure false:=by exact cY (by rfl)):XS X (.Assign [.Name y p3] (.Call (.Attribute (.Name x p2) "pop" apos) [] [] MQ) pos) (nX j i):=⟨ λF0=>
 cx (L2.lq nd hj hx (L2.G8 aal adg adh L2.IH (L2.pv i hN hv hd Nn) Nv Nw) O2 hf) λD σ H=>by
  rintro⟨ρ,F,fl,r,e,q⟩
  unfold nX at e;split at e
  ·rename_i xs q1
   split at e
   ·rename_i y hy
    cases e;have oi:a0 ρ i:=.inl ⟨_,q1⟩;obtain⟨a,ys,ea,fa,ha,rs⟩:=r.rs.ol i _ q1;obtain⟨v,ev,rv⟩:=rs.get hy;refine⟨_,ea,.inl ⟨rfl,ys,aU.of ha⟩,a,ys,v,rfl,rfl,ha,by rw[<-rs.length];exact ev,?_⟩
    obtain⟨mv,r'⟩:=r.chg (s:=.ol xs.dropLast) oi ea (.inl ⟨_,ys.dropLast,rfl,rfl,rs.dropLast⟩);exact q _ _ _ mv (r'.lI (rv.mv mv))
   ·cases e
  ·cases e⟩
noncomputable def C9(lo c:Int)(n:Nat):It:=⟨λi _=>i<n,λi H x H'=>H'=H/\x=.int (lo+i*c),λi _=>n<=i⟩
theorem J9(it:Addr)(lo c:Int)(n:Nat):Turn P w K tg (C9 lo c n) [it] it (λi h=>IsRangeIter h it (lo+(i:Nat)*c) ((n:Int) - (i:Nat)) c) where
 mem:=by simp
 obj:=λi h st b hb=>by
  have e:b=it:=by simpa using hb
  subst e
  exact⟨_,st,λv z=>by
   have z':Data.fields _=Data.cell v:=z;cases z'⟩
 keep:=λi h h' st k=>k it (by simp) _ st
 item:=by
  intro X hP hw hK hc i pins s σ H E I hf st hg;subst hP hw hK;obtain⟨f0,f1,f2,f3,f4,f5⟩:=hf it (by simp)
  have W:=Walks.range (prog:=X.prog) (w:=X.w) (I.ok.hd hc) it lo c n;refine W.item i s _ _ hg st λv h' tk hv Ov kk=>?_;obtain⟨t,rfl⟩:=hv;have I1:Inv X pins σ H {s with heap:=h',toks:=tk}:=I.turned (λb o hb e=>kk b o (by simpa using hb) e) f0 f1 f3 f4 f5
  exact⟨_,rfl,L2.j7 (s:={s with heap:=h',toks:=tk}) (n:="range_iterator") Ov rfl rfl (by decide) ⟨.int (lo+i*c),H,I1,⟨t,rfl⟩,⟨rfl,rfl⟩,Ov,λb hb=>(hf b hb).1⟩⟩
 done:=by
  intro X hP hw hK hc i pins s σ H E I hf st hg;subst hP hw hK;obtain⟨f0,f1,f2,f3,f4,f5⟩:=hf it (by simp)
  exact adx (I.ok.hd hc) st (by have:n<=i:=hg;omega) λh' eb=>⟨rfl,I.turned (t':=s.toks) (λb o hb e=>eb b o hb e) f0 f1 f3 f4 f5⟩
 self:=λ_ _ _ _ _ st h=>ady st h
theorem Kv(hc:0<c):0<=Builtin.Range.rangeSize i j c/\Builtin.Range.rangeSize i j c<=max (j - i) 0:=by
 unfold Builtin.Range.rangeSize;rw[DM hc];split
 ·have h0:0<=(j - i - 1) / c:=Int.ediv_nonneg (by omega) (by omega)
  have h1:(j - i - 1) / c<=j - i - 1:=Int.ediv_le_self _ (by omega)
  omega
 ·omega
theorem Gw(hm:X.mg "range"=none)(ha:XE X a fa)(hb:XE X b fb)(hc:XE X c fc)(hg:L2.Gl X "range":=by rfl)(hs:starEach [a,b,c] X.env=(false,eval a X.env)::starEach [b,c] X.env:=by exact a9 (by rfl))(NU:starEach [b,c] X.env=(false,eval b X.env)::starEach [c] X.env:=by exact a9 (by rfl))(Uz:starEach [c] X.env=(false,eval c X.env)::starEach [] X.env:=by exact a9 (by rfl)):XI X tg (.Call (.Name "range" p) [a,b,c] [] pos) (wA fa fb fc):=⟨have ha:=ha.out;have hb:=hb.out;have hc:=hc.out;by
 intro pins s σ H Rr I ⟨ρ,F,ds,r,e,q⟩;obtain⟨d,ed,e⟩:=ao.mp e;obtain⟨d2,UR,e⟩:=ao.mp e;obtain⟨d3,XZ,e⟩:=ao.mp e;refine PyProof.Rows.Call_ (L2.iO I hg hm acT (S8 (L2.aM ((dO ha (dO hb (dO hc gE Uz) NU) hs) pos pins s σ H _ I ⟨ρ,F,[d,d2,d3],r,by show(fa ρ).bind _=_;rw[ed];show((fb ρ).bind _).bind _=_;rw[UR];show(((fc ρ).bind _).bind _).bind _=_;rw[XZ];rfl,λvs H1 s1 rv=>(⟨s1,rv⟩:aj H H1/\ai (aB X) H1 F [d,d2,d3] vs)⟩) λus s1 ⟨vs,H1,I1,r1,Oe,rv⟩=>?_) hs (by rw[NU,Uz];rfl)))
 have⟨i,j,k,Za,Zp,Zm,hj,e9⟩:∃i j k,d=.int i/\d2=.int j/\d3=.int k/\((inR i&&inR j)=true/\0<k/\k<1000)/\ds=iy i j k:=by
  split at e
  ·split at e
   ·rename_i h;cases e;exact⟨_,_,_,rfl,rfl,rfl,h,rfl⟩
   ·cases e
  ·cases e
 subst Za Zp Zm e9;obtain⟨hj,Q4,V8⟩:=hj;rw[FB]at hj;have h1:=oC hj.1;have h2:=oC hj.2;simp only[ai]at rv;obtain⟨x,_,rfl,rx,y,_,rfl,ry,z,_,rfl,rz,rfl⟩:=rv;cases bo rx;cases bo ry;cases bo rz;cases r1 with
 |cons q1 r1=>
 cases r1 with
 |cons q2 r1=>
 cases r1 with
 |cons q3 r1=>
 cases r1;obtain⟨t,rfl⟩:=q1;obtain⟨t2,rfl⟩:=q2;obtain⟨t3,rfl⟩:=q3;obtain⟨z1,z2⟩:=Kv (i:=i) (j:=j) Q4;refine call_range_3 (by omega) ?_ (Or.inl (PyProof.noPylong_small (by omega)))
 have RF:Builtin.Range.small i j k=true:=by
  unfold Builtin.Range.small;simp only[Builtin.Range.rangeFitsLong,FB,aaB,Pi,aaG,DM (show k>0 from Q4)]
  omega
 refine wpAny_pyIter_range (adJ ..) RF ?_;have I2:Inv X pins σ H1 {s1 with heap:=s1.heap.push {cls:=.type "range",data:=.fields #[.int i t,.int j t2,.int k t3]},toks:=s1.toks}:=I1.kept λb o e=>sa _ e
 refine⟨(s1.heap.push {cls:=.type "range",data:=.fields #[.int i t,.int j t2,.int k t3]}).objs.size,[(s1.heap.push {cls:=.type "range",data:=.fields #[.int i t,.int j t2,.int k t3]}).objs.size],_,_,H1,rfl,
  I2.kept (t':=s1.toks) λb o e=>sa _ e,J9 _ i k (Builtin.Range.rangeSize i j k).toNat,?_,λb hb=>?_,q _ _ Oe ?_⟩
 ·have e1:i+((0:Nat):Int)*k=i:=by simp
  have e2:(((Builtin.Range.rangeSize i j k).toNat:Nat):Int) - ((0:Nat):Int)=Builtin.Range.rangeSize i j k:=by omega
  show IsRangeIter _ _ (i+((0:Nat):Int)*k) ((((Builtin.Range.rangeSize i j k).toNat:Nat):Int) - ((0:Nat):Int)) k;rw[e1,e2];exact KF _ rfl
 ·have e:b=(s1.heap.push {cls:=.type "range",data:=.fields #[.int i t,.int j t2,.int k t3]}).objs.size:=by simpa using hb
  subst e;exact I2.m8 (IR _) (I2.aC.fresh (IR _))
 ·intro H' F' mv tr
  refine⟨λn d hd=>?_,?_⟩
  ·unfold iy at hd
   rw[xa]at hd;cases e:(List.range (Builtin.Range.rangeSize i j k).toNat)[n]? with
   |none=>rw[e]at hd;cases hd
   | some m=>
    rw[e]at hd;obtain⟨Nl,hm⟩:=il.mp e;simp at hm Nl hd;subst hm hd;refine⟨show n<(Builtin.Range.rangeSize i j k).toNat by omega,λy H2 hy=>?_⟩
    obtain⟨rfl,rfl⟩:=hy;exact⟨aj.refl _,de⟩
  ·show(Builtin.Range.rangeSize i j k).toNat<=(iy i j k).length
   unfold iy;simp⟩
end
end PL
namespace PySem
theorem EX:typeLookup (.type "list") "keys"=pure none:=am_miss_of_fast (by decide+kernel)
theorem CU
  (hx:s.heap.get? a=some o) (hc:o.cls=.type "list") (Qk:o.data=.seq xs k) (hd:o.dict=none) (hA:A.handled=none)
  (h:∀h' tk,(∀b ob,s.heap.get? b=some ob->h'.get? b=some ob)->Q none {s with heap:=h',toks:=tk}):
  wpAny (model prog w) A (getAttr? (.ref a) "keys") Q E s:=by
 obtain⟨c,aL,dat,sl⟩:=o;simp only at hc Qk hd;subst hc Qk hd;obtain⟨hp,g,d,tk,os⟩:=s;have hT:∀Wo,(⟨hp,g,d,Wo,os⟩:Shared).TypeIs (.ref a) "list":=λ_=>⟨_,hx,rfl⟩;have f1:=sub_AttributeError;have f3:=abS.lookup;have f4:=abS.bind (.ref a);have f5:=am_list_getattr_none;unfold getAttr? getAttrBy? getAttrBy
 repeat (any_goals (first|assumption|exact hT _|((with_reducible show wpAny _ _ (call (Value.builtin "list.__getattribute__") _ _) _ _ _);refine aaZ abS (hT _) am_entry_list_getattribute (F.args_list_getattribute_2 _ _) (meets_getattribute_miss_list a xs k sl "keys" _ EX (by decide+kernel) (by size_fits)) ⟨hx,hA,λh' Wo e Oq=>?_⟩)|wp_step))
 obtain⟨t',u',he⟩:=Oq.there;show wpAny _ _ (getattributeRaised _ _ _ _ _ _ _) _ _ _;unfold getattributeRaised
 repeat (any_goals (first|assumption|wp_step))
 exact h _ _ Oq.keeps
theorem qo:plainId "dict.update.loop"=true:=by decide+kernel
theorem yq:entryFor table "dict.update.loop"=some Builtin.«dict.update.loop»:=entryFor_of_tree (by kernel_rfl)
section
variable{prog:Program}{w:World}{A:Around}{R:Result->Shared->Prop}{I ax:Addr}
def wd{K:Type} [DecidableEq K] (knd:KeyKind prog w K) (h:Heap) (v:Value) (p:K×Value):Prop:=∃a key,v=.ref a/\PyProof.Rows.IsTup h a #[key,p.2]/\knd.is p.1 key=true
theorem DK{K:Type} [DecidableEq K] {knd:KeyKind prog w K} (hh:A.in1.handled=none) {d:Addr} {items:Array Value} {res:Value} (MJ:ax≠I) (VH:d≠I) (So:d≠ax):∀(more:List (K×Value)) (i:Nat) (z:Int) (kvs:List (K×Value)) (s:Shared),items.size - i=more.length->i<=items.size->
  s.heap.IsListIter I ax i->s.heap.IsList ax items->s.heap.DictOf knd d kvs->kvs.length+more.length<=sizeLine->(∀(j:Nat) p,more[j]? =some p->∃v,items[i+j]? =some v/\wd knd s.heap v p)->
  (∀h' tk,(∀b o,b≠I->b≠d->s.heap.get? b=some o->h'.get? b=some o)->h'.DictOf knd d (merged kvs more)->R (.ok (.ret res)) {s with heap:=h',toks:=tk})->
  codeAny (model prog w) A (.builtin "dict.update.loop" ⟨[.ref d,.ref I,rawInt z,res],[]⟩) R s:=by
 intro more
 induction more with
 | nil=>
  intro i z kvs s hk hi hit hl hd hsz hp hR;have OI:i=items.size:=by simp at hk;omega
  subst OI;refine abu yq ?_;rw[abp qo _];show wpAny _ A.in1 (pyNext (.ref I) >>= _) _ _ s;refine tB (ack hh hit hl (by simp) λh' Wy=>?_)
  show wpAny _ _ (Builtin.Dict.addKeywords d [] >>= _) _ _ _;refine tB (FM (FM ?_));exact hR h' s.toks (λb o hb _ e=>Wy b o hb e) (hd.extBut Wy VH)
 | cons p more ih=>
  intro i z kvs s hk hi hit hl hd hsz hp hR;obtain⟨v,hv,Zf⟩:=hp 0 p rfl;rw[acZ]at hv;obtain⟨a,key,rfl,Wc,RA⟩:=Zf;refine abu yq ?_;rw[abp qo _];show wpAny _ A.in1 (pyNext (.ref I) >>= _) _ _ s;refine tB (abZ hit hl hv λh' VO Qs=>?_);refine tB (Wp ?_);have QB:h'.DictOf knd d kvs:=hd.extBut Qs.extBut VH;have Vt:h'.IsList ax items:=hl.extBut Qs.extBut MJ
  have qO:∀ {b xs},PyProof.Rows.IsTup s.heap b xs->b≠I/\b≠d:=λ{b xs} ht=>by
   obtain⟨o,ho,hc,_⟩:=ht;refine⟨λe=>?_,λe=>?_⟩
   ·obtain⟨o2,Qp,Qm,_⟩:=hit
    rw[<-e,ho]at Qp;cases Qp;rw[hc]at Qm;exact absurd Qm (by decide)
   ·obtain⟨o2,_,_,Qp,Qm,_⟩:=hd
    rw[<-e,ho]at Qp;cases Qp;exact absurd (hc.symm.trans Qm.1) (by decide)
  have Vq:PyProof.Rows.IsTup h' a #[key,p.2]:=Wc.extBut Qs.extBut (qO Wc).1;obtain⟨o,ho,hc,n,QW⟩:=id Vq;refine tB (wpAny_tryCatch ?_);unfold Builtin.Dict.pairItems;refine tB (acH (show Shared.TypeIs {s with heap:=h'} (.ref a) "tuple" from⟨o,ho,hc⟩) ?_)
  rw[DM (by decide)]
  refine tB (acr ho QW (FM ?_));show wpAny _ _ (holding [key,p.2] (dictSet d key p.2)) _ _ _;refine Wp (wpAny_dictSet_pairs RA QB (λZN UY QP=>?_) (by rw[PK]at hsz;omega))
  refine FM ⟨acA qo _,ih (i+1) (z+1) (stored kvs p.1 p.2) _ (by simp at hk ⊢;omega) (by simp at hk;omega) (VO.extBut QP.extBut (W1 VH)) (Vt.extBut QP.extBut (W1 So)) UY ?_ (λj q hq=>?_) λh3 XC k3 d3=>?_⟩
  ·have:=stored_length_le kvs p.1 p.2
   rw[PK]at hsz;omega
  ·obtain⟨v2,Sj,b,Vh,rfl,VS,RE⟩:=hp (j+1) q (by simpa using hq)
   refine⟨_,by rw[show i+1+j=i+(j+1) by omega];exact Sj,b,Vh,rfl,?_,RE⟩
   exact(VS.extBut Qs.extBut (qO VS).1).extBut QP.extBut (qO VS).2
  ·refine hR h3 XC (λb o hb WA e=>k3 b o hb WA ?_) d3
   rw[QP.2 b WA,Qs.2 b hb];exact e
theorem GJ{E:Value->Shared->Prop}{s:Shared}{K:Type} [DecidableEq K] {knd:KeyKind prog w K} {a:Addr} {o:Obj} {items:Array Value} {n:Nat} {more:List (K×Value)} {Q:Value->Shared->Prop} (hh:A.handled=none)
  (hx:s.heap.get? a=some o) (hc:o.cls=.type "list") (Qk:o.data=.seq items n) (V7:o.dict=none) (hlen:items.size=more.length) (hsz:more.length<=sizeLine) (hp:∀(j:Nat) p,more[j]? =some p->∃v,items[j]? =some v/\wd knd s.heap v p)
  (h:∀h' tk,(∀b ob,s.heap.get? b=some ob->h'.get? b=some ob)->h'.DictOf knd s.heap.objs.size (merged [] more)->Q (.ref s.heap.objs.size) {s with heap:=h',toks:=tk}):
  wpAny (model prog w) A (call (.type "dict") [.ref a]) Q E s:=by
 refine callType_codes (Q₁:=λobj MO=>obj=.ref s.heap.objs.size/\MO={s with heap:=s.heap.push {cls:=.type "dict",data:=.dict #[]} }) F.kt_called_dict (F.kt_typeCall_dict_1 _) F.entry_dict_init (kt_code_dict_new _ ⟨rfl,rfl⟩) ?_;rintro obj MO ⟨rfl,rfl⟩;have NY:(s.heap.push {cls:=.type "dict",data:=.dict #[]}).DictOf knd s.heap.objs.size []:=Heap.DictOf.new s.heap;have Oq:(s.heap.push {cls:=.type "dict",data:=.dict #[]}).get? a=some o:=sa _ hx;have Nl:a<s.heap.objs.size:=GE hx;have XH:Shared.TypeIs {s with heap:=s.heap.push {cls:=.type "dict",data:=.dict #[]} } (.ref a) "list":=⟨o,Oq,hc⟩;refine⟨NY.typeIs,F.args_dict_init_2 _ _,?_⟩;unfold Builtin.«dict.__init__»;refine tB ?_;unfold Builtin.Dict.selfAndRest;refine tB (wpAny_notOrdered_dict NY.typeIs ?_);show wpAny _ _ (pure (s.heap.objs.size,[Value.ref a])) _ _ _;refine FM ?_;show wpAny _ _ (Builtin.Dict.updateFrom "dict.__init__" s.heap.objs.size (.ref a) [] .none) _ _ _;unfold Builtin.Dict.updateFrom;refine tB (acH XH ?_);rw[DM (by decide)]
 refine tB (CU Oq hc Qk V7 hh λh1 Z0 k1=>?_);show wpAny _ _ (rule "dict.__init__.from-pairs" >>= _) _ _ _;refine tB (wpAny_rule ?_);have cg:h1.IsList a items:=⟨o,k1 _ _ Oq,hc,n,Qk⟩;refine tB (acJ cg ?_)
 have RS:s.heap.objs.size<h1.objs.size:=by
  obtain⟨o',_,_,OH,_⟩:=NY;exact GE (k1 _ _ OH)
 refine FM ⟨acA qo _,?_⟩;refine DK (knd:=knd) (prog:=prog) (w:=w) (A:=A.in1) (I:=h1.objs.size) (ax:=a) hh (GT (abM Nl RS)) (GT RS) (Z7 Nl) more 0 0 [] _ (by simpa using hlen) (aay _) ?_ ?_ ?_ (by simpa using hsz) (λj p hj=>?_) λh2 Xo k2 d2=>?_
 ·exact⟨_,KF _ rfl,rfl,rfl⟩
 ·exact cg.push _
 ·obtain⟨o',es,ep,OH,r⟩:=NY
  exact⟨o',es,ep,sa _ (k1 _ _ OH),r⟩
 ·obtain⟨v,hv,b,key,rfl,ht,hk⟩:=hp j p hj
  exact⟨_,by rw[Z8];exact hv,b,key,rfl,((ht.push _).keeps k1).push _,hk⟩
 ·refine⟨rfl,h h2 Xo (λb ob hb=>?_) d2⟩
  have V4:b<s.heap.objs.size:=GE hb;exact k2 b ob (GT (abM V4 RS)) (GT V4) (sa _ (k1 _ _ (sa _ hb)))
end
theorem IE:typeLookup (.type "zip") "__len__"=pure none:=by rw[typeLookup_type,adF];kernel_rfl
theorem G1:typeLookup (.type "zip") "__length_hint__"=pure none:=by rw[typeLookup_type,adF];kernel_rfl
end PySem
namespace PL
open PySem PySem.Spec
open L2 (V Hp HO Cx PE PT PW PA PS bC PG cb VK TE TT TA TS TI TG Inv RelV Vals Rd aU bj upd aj Key XK Ends aR cB bq R2 EP It Turn bS Un)
noncomputable def gI:List D->List Ky->List D->R D
 |[],ks,vs=>.ok (.aL ks vs)
 | .tup [k,v]::r,ks,vs=>match keyOf k with
  |some q=>gI r (putL q v ks vs).1 (putL q v ks vs).2
  |none=>.bad
 |_,_,_=>.bad
noncomputable def dw:D->R D
 |.lst ds=>if ds.length<=1000 then gI ds [] []else .bad
 |_=>.bad
section
variable{X:Cx}{M:Md}{G H H':Hp}{F0:Gf}{F F':YK}{σ:L2.St}{ρ:En}{pos:Pos}{pins:List (Addr×Obj)}{s:Shared}
theorem J8(hl:ks.length=xs.length)(rs:ai M H F vs xs)(rd:Rep M H F d v):
  ∃ys,L2.putK (ks.zip xs) k v=(putL k d ks vs).1.zip ys/\(putL k d ks vs).1.length=ys.length/\ai M H F (putL k d ks vs).2 ys:=by
 rw[pW k v hl];unfold putL;by_cases hm:(ks.any λa=>decide (a=k))=true
 ·rw[DM hm,DM hm]
  exact⟨_,rfl,by rw[aau];show ks.length=min ks.length xs.length;omega,wN rd rs⟩
 ·rw[Gc hm,Gc hm]
  exact⟨_,rfl,by rw[Fk,Fk,hl];rfl,rs.append (ai.cons rd ai.nil)⟩
def pL(M:Md)(H:Hp)(F:YK):List V->List (Key×V)->Prop
 |[],[]=>True
 |x::xs,p::ps=>(∃a,x=.ref a/\fK M H F a [L2.kV p.1,p.2])/\pL M H F xs ps
 |_,_=>False
theorem zh:∀ {ds:List D} {ks:List Ky} {vs:List D} {d:D} {ps:List V} {xs:List V},gI ds ks vs=.ok d->ai M H F ds ps->ks.length=xs.length->ai M H F vs xs->
  ∃more Oa Oo ys,pL M H F ps more/\more.length=ds.length/\d=.aL Oa Oo/\L2.jn (ks.zip xs) more=Oa.zip ys/\Oa.length=ys.length/\ai M H F Oo ys
 | [],ks,vs,d,ps,xs,e,r,hl,rs=>by
  simp only[ai]at r;subst r;cases e;exact⟨[],ks,vs,xs,True.intro,rfl,rfl,rfl,hl,rs⟩
 | c::ds,ks,vs,d,ps,xs,e,r,hl,rs=>by
  have⟨k,v,q,ec,ek,e9⟩:∃k v q,c=.tup [k,v]/\keyOf k=some q/\gI ds (putL q v ks vs).1 (putL q v ks vs).2=.ok d:=by
   unfold gI at e;split at e
   ·rename_i h;cases h
   ·rename_i h
    cases h;split at e
    ·rename_i hq;exact⟨_,_,_,rfl,hq,e⟩
    ·cases e
   ·cases e
  subst ec;simp only[ai]at r;obtain⟨x,ps,rfl,rx,rp⟩:=r;simp only[Rep]at rx;obtain⟨a,zs,rfl,ht,rz⟩:=rx;obtain⟨y1,y2,rfl,r1,r2⟩:=rz.two;cases jy ek r1;obtain⟨ys,e1,l1,Rv⟩:=J8 (k:=q) hl rs r2;obtain⟨more,Oa,Oo,YU,h1,h2,h3,h4,h5,h6⟩:=zh e9 rp l1 Rv;refine⟨(q,y2)::more,Oa,Oo,YU,⟨⟨a,rfl,ht⟩,h1⟩,by simp[h2],h3,?_,h5,h6⟩
  show L2.jn (L2.putK (ks.zip xs) q y2) more=_;rw[e1];exact h4
theorem yB(I:Inv X pins σ H s):∀ {ps:List V} {more:List (Key×V)} {its:S1},pL (aB X) H F ps more->Vals ps its->∃ms:List (Key×Value),L2.KV more ms/\ms.length=its.length/\∀(j:Nat) p,ms[j]? =some p->∃v,its[j]? =some v/\wd (L2.cV X.prog X.w) s.heap v p
 |[],[],its,_,hv=>by cases hv;exact⟨[],.nil,rfl,λj p h=>by simp at h⟩
 | x::ps,p::more,its,h,hv=>by
  obtain⟨⟨a,rfl,ht⟩,h⟩:=h;cases hv with
  | cons rv hv=>
   cases rv;obtain⟨ms,k1,k2,k3⟩:=yB I h hv;obtain⟨ts,tv,tt,_⟩:=nO I ht;obtain⟨u1,u2,rfl,SJ,TM⟩:=L2.vals2 tv;refine⟨(p.1,u2)::ms,.cons ⟨rfl,TM⟩ k1,by simp[k2],λj q hq=>?_⟩
   cases j with
   |zero=>cases hq;exact⟨_,rfl,a,u1,rfl,tt,L2.kW SJ⟩
   |succ j=>exact k3 j q hq
 |[],_::_,_,h,_=>h.elim
 |_::_,[],_,h,_=>h.elim
def Jc(M:Md):List V->Hp->VK->Prop:=λxs H Q=>∃F l ps more,xs=[.ref l]/\gk M H F l ps/\pL M H F ps more/\more.length<=1000/\∀p,H p=none->Q (.ref p) (upd H p (.dK (L2.jn [] more)))
theorem Lb(hc:X.calm=true):bq X (.type "dict") (Jc (aB X)):=by
 intro pins s σ H xs us Q I r h;obtain⟨F,l,ps,more,rfl,hl,hp,hz,q⟩:=h;obtain⟨u,rfl,ru⟩:=L2.vals1 r;cases ru;obtain⟨its,n,sl,hv,hg,_⟩:=j8 I hl;obtain⟨ms,k1,k2,k3⟩:=yB I hp hv;have hlen:=k1.length;have h3:(sizeLine:Nat)=16777216:=aaj;refine GJ (knd:=L2.cV X.prog X.w) (more:=ms) (I.ok.hd hc) hg rfl rfl rfl (by rw[Da];exact k2.symm) (by omega) (λj p hj=>by rw[List.getElem?_toArray];exact k3 j p hj) λh' tk hk dd=>?_
 have hm:(L2.jn [] more).length<=sizeLine:=by
  have:=L2.zO more [];rw[aaA]at this;omega
 exact⟨.ref _,_,I.laid (a:=s.heap.objs.size) (o:=.dK (L2.jn [] more)) (t':=tk) hk (IR _) (L2.zk hm (abY.mpr (W1 (GT I.big))) (k1.merge .nil) dd),rfl,q _ (I.aC.fresh (IR _))⟩
inductive BD(M:Md)(f:Ex)(σ:L2.St)(H:Hp)(Q:VK):Prop
 |mk:∀ρ F ks ds,bf M H F σ ρ->f ρ=.ok (.aL ks ds)->(∀p H' xs,aj H H'->H' p=none->ks.length=xs.length->ai M H' F ds xs->Q (.ref p) (upd H' p (.dK (ks.zip xs))))->BD M f σ H Q
abbrev JD(X:Cx)(e:Expr)(f:Ex):Prop:=PE X e (BD (aB X) f)
structure XD(X:Cx)(e:Expr)(f:Ex):Prop where
 out:JD X e f
theorem lu(hm:X.mg "dict"=none)(ha:XE X a fa)(hc:X.calm=true:=by rfl)(hg:L2.Gl X "dict":=by rfl)(hs:starEach [a] X.env=(false,eval a X.env)::starEach [] X.env:=by exact a9 (by rfl)):XD X (.Call (.Name "dict" p) [a] [] pos) (e1 dw fa):=⟨have ha:=ha.out;bw (L2.sV (Lb hc) hg hm Er (dO ha gE hs) (by decide) (by decide) hs) λσ H Q=>by
  rintro⟨ρ,F,ks,ds,hr,e,q⟩
  obtain⟨d1,ed,e⟩:=ao.mp e;refine⟨ρ,F,[d1],hr,by show(fa ρ).bind _=_;rw[ed];rfl,λvs H1 s1 rv=>?_⟩
  obtain⟨y,rfl,ry⟩:=rv.one;unfold dw at e;split at e
  ·rename_i es
   split at e
   ·rename_i hlen
    simp only[Rep]at ry;obtain⟨a,xs,rfl,h1,rs⟩:=ry;obtain⟨more,Oa,Oo,ys,g1,g2,g3,g4,g5,g6⟩:=zh e rs (xs:=[]) rfl ai.nil;cases g3;refine⟨F,a,xs,more,rfl,h1,g1,by omega,λp hp=>?_⟩
    have YT:L2.jn [] more=ks.zip ys:=g4;rw[YT];exact q p H1 ys s1 hp g5 g6
   ·cases e
  ·cases e⟩
theorem n6(he:XD X e f)(hl:∀ρ d,f ρ=.ok d->∃ks ds,d=.aL ks ds):XE X e f:=⟨have he:=he.out;xo he λσ H Q=>by
  rintro⟨ρ,F,d,hr,e,q⟩
  obtain⟨ks,ds,rfl⟩:=hl _ _ e;refine⟨ρ,F,ks,ds,hr,e,λp H1 xs s1 hp hl rs=>⟨p,ks.zip xs,rfl,L2.bX,λob=>?_⟩⟩;rw[L2.zx];refine q _ _ (s1.trans (aj.cN hp _)) ?_;simp only[Rep];exact⟨p,xs,rfl,.inl ⟨qL (hr.same s1).aV hp,ob,L2.bX⟩,hl,rs.mv (.same (aj.cN hp _))⟩⟩
theorem yv:∀ {ds:List D} {ks:List Ky} {vs:List D} {d:D},gI ds ks vs=.ok d->∃Oa Oo,d=.aL Oa Oo
 |[],_,_,_,e=>by cases e;exact⟨_,_,rfl⟩
 | c::ds,ks,vs,d,e=>by
  unfold gI at e;split at e
  ·rename_i h;cases h
  ·rename_i h
   cases h;split at e
   ·exact yv e
   ·cases e
  ·cases e
theorem n8(ρ:En)(d:D)(h:e1 dw fa ρ=.ok d):∃ks ds,d=.aL ks ds:=by
 obtain⟨x,ex,e⟩:=ao.mp h;unfold dw at e;split at e
 ·split at e
  ·exact yv e
  ·cases e
 ·cases e
theorem GZ(I0:Inv X pins σ H s)(e0:H a=some (.dK kvs))(I1:Inv X pins σ H1 s1)(e1:H1 a=some (.frz ob (.dK kvs))):Inv X pins σ (upd H1 a (.dK kvs)) s1:=by
 have nn:∀ {b},H1 b=none->upd H1 a (.dK kvs) b=none:=λ{b} h=>by rw[L2.aJ (λz=>by subst z;rw[e1]at h;cases h)];exact h
 refine⟨I1.ok,I1.os,I1.bare,⟨I1.base.keep,I1.base.slot,λb o h n x=>nn (I1.base.free b o h n x),I1.base.there,λb xs h=>?_,λb o u h=>?_,λb ps h=>?_⟩,I1.loc,I1.cell,nn I1.free,λx c h=>nn (I1.fZ x c h),λp hp=>?_,λb o h=>?_,I1.len⟩
 ·have h1:=I1.base.gz b xs h
  rw[L2.aJ (λz=>by subst z;rw[e1]at h1;cases h1)];exact h1
 ·have h0:=I0.base.fO b o u h
  rw[L2.aJ (λz=>by subst z;rw[e0]at h0;cases h0)];exact I1.base.fO b o u h
 ·have h1:=I1.base.fV b ps h
  rw[L2.aJ (λz=>by subst z;rw[e1]at h1;cases h1)];exact h1
 ·obtain⟨h1,h2,h3⟩:=I1.pin p hp
  exact⟨h1,nn h2,h3⟩
 ·by_cases hb:b=a
  ·subst hb
   rw[L2.bX]at h;cases h;obtain⟨_,z,y,vs,r,dd⟩:=I1.aC b _ e1;exact⟨z,y,vs,r,dd⟩
  ·rw[L2.aJ hb]at h
   refine(I1.aC b o h).iW (λc u _ q=>q) (λc q=>?_) (λc xs q=>?_) λc xs q=>?_
   ·rw[L2.aJ (λz=>by subst z;rw[e1]at q;cases q)];exact q
   ·rw[L2.aJ (λz=>by subst z;rw[e1]at q;cases q)];exact q
   ·rw[L2.aJ (λz=>by subst z;rw[e1]at q;cases q)];exact q
mutual
theorem Rep.m7(o:∀a xs,fK M H F a xs->fK M H2 F2 a xs):∀ {d:D} {v:V},jT d=true->Rep M H F d v->Rep M H2 F2 d v
 |.aP,_,_,h=>by simp only[Rep]at h ⊢;exact h
 |.bl _,_,_,h=>by simp only[Rep]at h ⊢;exact h
 |.int _,_,_,h=>by simp only[Rep]at h ⊢;exact h
 |.str _,_,_,h=>by simp only[Rep]at h ⊢;exact h
 | .tup ds,_,n,h=>by
  simp only[Rep]at h ⊢;obtain⟨a,xs,e,t,r⟩:=h;exact⟨a,xs,e,o _ _ t,ai.m7 o (by unfold PL.jT at n;exact n) r⟩
 |.lst _,_,n,_=>by unfold PL.jT at n;cases n
 |.aL _ _,_,n,_=>by unfold PL.jT at n;cases n
 |.bN _ _ _,_,n,_=>by unfold PL.jT at n;cases n
theorem ai.m7(o:∀a xs,fK M H F a xs->fK M H2 F2 a xs):∀ {ds:List D} {xs:List V},n9 ds=true->ai M H F ds xs->ai M H2 F2 ds xs
 |[],_,_,h=>by simp only[ai]at h ⊢;exact h
 | d::ds,_,n,h=>by
  unfold n9 at n;rw[FB]at n;simp only[ai]at h ⊢;obtain⟨x,r,e,h1,h2⟩:=h;exact⟨x,r,e,Rep.m7 o n.1 h1,ai.m7 o n.2 h2⟩
end
end
theorem T.cs{P:T->Prop}(d:∀x,P (.d x))(l:∀ts,P (.l ts))(m:∀ks ts,P (.m ks ts))(tu:∀ts,P (.tu ts))(mx:∀ks ts,P (.mx ks ts)):∀t,P t
 |.d y=>d y
 |.n .l ts=>l ts
 |.n (.m ks) ts=>m ks ts
 |.n .u ts=>tu ts
 |.n (.x ks) ts=>mx ks ts
noncomputable def Kd.toD:Kd->List D->D
 |.l,ds=>.lst ds
 |.m ks,ds=>.aL ks ds
 |.u,ds=>.tup ds
 |.x _,ds=>.bN ⟨#[]⟩ [⟨#[]⟩,⟨#[]⟩] ds
mutual
noncomputable def T.toD:T->D
 |.d x=>x
 |.n k ts=>k.toD (T.eE ts)
noncomputable def T.eE:List T->List D
 |[]=>[]
 |t::ts=>T.toD t::T.eE ts
end
noncomputable def T.at:T->List Nat->Option T
 |t,[]=>some t
 | .n _ ts,k::p=>match ts[k]? with
  |some t=>T.at t p
  |none=>none
 |.d _,_::_=>none
noncomputable def T.put(n:T):T->List Nat->T
 |_,[]=>n
 | .n kd ts,k::p=>match ts[k]? with
  |some t=>.n kd (ts.set k (T.put n t p))
  |none=>.n kd ts
 |.d x,_::_=>.d x
section
variable{X:Cx}{M:Md}{G H H':Hp}{F0:Gf}{F F':YK}{σ:L2.St}{ρ:En}{pos:Pos}{pins:List (Addr×Obj)}{s:Shared}
mutual
theorem au.less(hs:∀a,F' a->F a):∀ {t:T} {v:V} {as:P1},(∀b∈as,F' b)->au M H F t v as->au M H F' t v as
 | .d x,v,as,_,h=>by
  simp only[au]at h ⊢;exact⟨h.1,h.2.sub hs⟩
 | .n kd ts,v,as,k,h=>by
  simp only[au]at h ⊢;obtain⟨a,xs,bs,e1,rfl,f,e2,l,r⟩:=h;exact⟨a,xs,bs,e1,rfl,⟨λz=>f.mp (hs a z),λo=>k a (Kd.top o)⟩,e2,l,aq.less hs (λb hb=>k b (Kd.sub hb)) r⟩
theorem aq.less(hs:∀a,F' a->F a):∀ {ts:List T} {xs:List V} {as:P1},(∀b∈as,F' b)->aq M H F ts xs as->aq M H F' ts xs as
 |[],xs,as,_,h=>by simp only[aq]at h ⊢;exact h
 | t::ts,xs,as,k,h=>by
  simp only[aq]at h ⊢;obtain⟨x,r,bs,cs,e1,rfl,h1,h2⟩:=h;exact⟨x,r,bs,cs,e1,rfl,au.less hs (λb hb=>k b (JU _ hb)) h1,aq.less hs (λb hb=>k b (Do _ hb)) h2⟩
end
theorem aq.part:∀ {ts:List T} {xs:List V} {as:P1} {k:Nat} {t:T},aq M H F ts xs as->ts[k]? =some t->∃x bs,xs[k]? =some x/\au M H F t x bs/\bs.Sublist as
 |[],_,_,_,_,_,e=>by simp at e
 | t::ts,xs,as,0,_,h,e=>by
  simp only[aq]at h;obtain⟨x,r,bs,cs,rfl,rfl,h1,h2⟩:=h;cases e;exact⟨x,bs,rfl,h1,List.sublist_append_left _ _⟩
 | t::ts,xs,as,k+1,_,h,e=>by
  simp only[aq]at h;obtain⟨x,r,bs,cs,rfl,rfl,h1,h2⟩:=h;obtain⟨y,ds,h3,h4,h5⟩:=aq.part h2 (by simpa using e)
  exact⟨y,ds,by simpa using h3,h4,h5.trans (abw _ _)⟩
theorem aq.chg{H2:Hp}{F2:YK}{N:P1}{c:Addr}{t':T}{x:V}(m:Mv F H F2 H2)(hk:∀b u,b≠c->H b=some u->H2 b=some u)(Rk:∀b,F b->F2 b):∀ {j:Nat} {ts:List T} {xs:List V} {as:P1} {t:T},aq M H F ts xs as->as.Nodup->ts[j]? =some t->xs[j]? =some x->
  (∀bs,au M H F t x bs->bs.Nodup->c∈bs/\∃OC,au M H2 F2 t' x OC/\OC.Nodup/\(∀b∈OC,b∈bs\/(b∈N/\H b=none))/\∀b∈N,b∈OC)->
  c∈as/\∃as',aq M H2 F2 (ts.set j t') xs as'/\as'.Nodup/\(∀b∈as',b∈as\/(b∈N/\H b=none))/\∀b∈N,b∈as'
 |j,[],_,_,_,_,_,e,_,_=>by simp at e
 | 0,t::ts,xs,as,_,h,nd,e,ex,k=>by
  simp only[aq]at h;obtain⟨y,r,bs,cs,rfl,rfl,h1,h2⟩:=h;cases e;cases ex;have M5:=KB.mp nd;obtain⟨hc,OC,k1,k2,k3,k4⟩:=k bs h1 M5.1;refine⟨JU _ hc,OC++cs,?_,KB.mpr ⟨k2,M5.2.1,λa ha b hb z=>?_⟩,λb hb=>?_,λb hb=>JU _ (k4 b hb)⟩
  ·rw[abq]
   simp only[aq];refine⟨_,r,OC,cs,rfl,rfl,k1,h2.mv m λb hb u f hu=>⟨Rk b f,hk b u (λz=>?_) hu⟩⟩;subst z;exact M5.2.2 b hc b hb rfl
  ·subst z
   rcases k3 a ha with h|⟨_,h⟩
   ·exact M5.2.2 a h a hb rfl
   ·obtain⟨_,u,hu⟩:=h2.fs a hb
    rw[h]at hu;cases hu
  ·rcases FS.mp hb with hb|hb
   ·exact(k3 b hb).imp (JU _) id
   ·exact .inl (Do _ hb)
 | j+1,t::ts,xs,as,_,h,nd,e,ex,k=>by
  simp only[aq]at h;obtain⟨y,r,bs,cs,rfl,rfl,h1,h2⟩:=h;have M5:=KB.mp nd;obtain⟨hc,N4,k1,k2,k3,k4⟩:=aq.chg m hk Rk h2 M5.2.1 (by simpa using e) (by simpa using ex) k
  refine⟨Do _ hc,bs++N4,?_,KB.mpr ⟨M5.1,k2,λa ha b hb z=>?_⟩,λb hb=>?_,λb hb=>Do _ (k4 b hb)⟩
  ·rw[abr]
   simp only[aq];refine⟨y,r,bs,N4,rfl,rfl,h1.mv m λb hb u f hu=>⟨Rk b f,hk b u (λz=>?_) hu⟩,k1⟩;subst z;exact M5.2.2 b hb b hc rfl
  ·subst z
   rcases k3 a hb with h|⟨_,h⟩
   ·exact M5.2.2 a ha a h rfl
   ·obtain⟨_,u,hu⟩:=h1.fs a ha
    rw[h]at hu;cases hu
  ·rcases FS.mp hb with hb|hb
   ·exact .inl (JU _ hb)
   ·exact(k3 b hb).imp (Do _) id
structure gL(M:Md)(H H2:Hp)(F F2:YK)(c:Addr)(n0 n1:T)(N5 N6:P1):Prop where
 old:au M H F n0 (.ref c) N5
 mem:c∈N5
 new:au M H2 F2 n1 (.ref c) N6
 nd:N6.Nodup
 out:∀b u,b≠c->H b=some u->H2 b=some u
 fs:∀b,F2 b↔F b\/b∈N6
 j3:∀b∈N6,b∈N5\/H b=none
theorem gL.fc(C:gL M H H2 F F2 c n0 n1 N5 N6):F c:=(C.old.fs c C.mem).1
theorem gL.mv{H2:Hp}{F2:YK}{c:Addr}{n0 n1:T}{N5 N6:P1}(C:gL M H H2 F F2 c n0 n1 N5 N6):Mv F H F2 H2:=λb o n e=>
 ⟨λf=>((C.fs b).mp f).elim n λhb=>(C.j3 b hb).elim (λh=>n (C.old.fs b h).1) (λh=>by rw[h]at e;cases e),C.out b o (λz=>by subst z;exact n C.fc) e⟩
theorem au.put{H2:Hp}{F2:YK}{n0 n1:T}{c:Addr}{N5 N6:P1}(C:gL M H H2 F F2 c n0 n1 N5 N6):∀ {p:List Nat} {t:T} {v:V} {as:P1},au M H F t v as->as.Nodup->aD H t v p n0 (.ref c)->
  c∈as/\∃NT,au M H2 F2 (T.put n1 t p) v NT/\NT.Nodup/\(∀b∈NT,b∈as\/(b∈N6/\H b=none))/\∀b∈N6,b∈NT
 | [],t,v,as,h,nd,e=>by
  have e':t=n0/\v=.ref c:=by cases t<;>exact e
  obtain⟨rfl,rfl⟩:=e';have:=au.fu C.old h;subst this;have ep:T.put n1 t []=n1:=by cases t<;>rfl
  rw[ep];exact⟨C.mem,N6,C.new,C.nd,λb hb=>(C.j3 b hb).imp id λh=>⟨hb,h⟩,λb hb=>hb⟩
 | k::p,.n kd ts,v,as,h,nd,e=>by
  simp only[aD]at e;simp only[au]at h;obtain⟨a,xs,t1,x1,rfl,e2,l1,et,ex,e⟩:=e;obtain⟨a',ys,bs,ea,rfl,f,NW,l2,r⟩:=h;cases ea;have e9:xs=ys:=Kd.inj (k:=kd) (by rw[NW]at e2;injection e2 with z;exact z.symm) l1 l2
  subst e9;have M5:=Kd.nodup.mp nd;obtain⟨hc,as',k1,k2,k3,k4⟩:=aq.chg (t':=T.put n1 t1 p) C.mv C.out (λb f=>(C.fs b).mpr (.inl f)) r M5.2 et ex λOC Ol VX=>au.put C Ol VX e;refine⟨Kd.sub hc,kd.fg a as',?_,Kd.nodup.mpr ⟨λo ha=>?_,k2⟩,λb hb=>?_,λb hb=>Kd.sub (k4 b hb)⟩
  ·show au M _ _ (match ts[k]? with|some t=>T.n kd (ts.set k (T.put n1 t p))|none=>T.n kd ts) _ _
   rw[et];simp only[au];refine⟨a,xs,as',rfl,rfl,?_⟩;by_cases o:kd.own=true
   ·exact⟨⟨λ_=>o,λ_=>(C.fs a).mpr (.inl (f.mpr o))⟩,C.out a _ (Kd.ne nd o hc) NW,l1,k1⟩
   ·have:=C.mv _ _ (λz=>o (f.mp z)) NW
    exact⟨⟨λz=>absurd z this.1,λz=>absurd z o⟩,this.2,l1,k1⟩
  ·rcases k3 a ha with h|⟨_,h⟩
   ·exact M5.1 o h
   ·rw[h]at NW;cases NW
  ·rcases Kd.mem hb with⟨o,rfl⟩|hb
   ·exact .inl (Kd.top o)
   ·exact(k3 b hb).imp Kd.sub id
 |k::p,.d _,v,as,h,nd,e=>e.elim
end
section
variable{X:Cx}{M:Md}{G H H':Hp}{F0:Gf}{F F':YK}{σ:L2.St}{ρ:En}{pos:Pos}{pins:List (Addr×Obj)}{s:Shared}
theorem T.LA{n:T}(hn:n.fJ=true):∀ {t:T} {p:List Nat},t.fJ=true->(T.put n t p).fJ=true
 |t,[],_=>by cases t<;>exact hn
 |.n kd ts,k::p,h=>by unfold T.put;split<;>rfl
 |.d x,k::p,h=>by cases h
theorem aD.part:∀ {p:List Nat} {t:T} {v:V} {t1:T} {w:V} {as:P1},au M H F t v as->aD H t v p t1 w->∃bs,au M H F t1 w bs/\bs.Sublist as
 | [],t,v,t1,w,as,tr,h=>by
  have e':t=t1/\v=w:=by cases t<;>exact h
  obtain⟨rfl,rfl⟩:=e';exact⟨as,tr,aar _⟩
 | k::p,.n kd ts,v,t1,w,as,tr,h=>by
  simp only[aD]at h;simp only[au]at tr;obtain⟨a,xs,tp,xp,rfl,e2,l1,RM,exp,h⟩:=h;obtain⟨a2,ys,bs,UP,rfl,f,Sb,l2,r⟩:=tr;cases UP;have e9:xs=ys:=Kd.inj (k:=kd) (by rw[Sb]at e2;injection e2 with z;exact z.symm) l1 l2
  subst e9;obtain⟨YM,dp,P',rp,P0⟩:=r.part RM;rw[exp]at P';cases P';obtain⟨cs,h1,h2⟩:=aD.part rp h;exact⟨cs,h1,(h2.trans P0).trans Kd.Dz⟩
 |k::p,.d _,v,t1,w,as,tr,h=>h.elim
theorem aq.apart:∀ {ts:List T} {xs:List V} {as:P1} {j k:Nat} {tj tk:T} {xj xk:V} {bs cs:P1},aq M H F ts xs as->as.Nodup->j≠k->ts[j]? =some tj->ts[k]? =some tk->xs[j]? =some xj->xs[k]? =some xk->au M H F tj xj bs->au M H F tk xk cs->∀b∈bs,b∉cs
 |[],_,_,_,_,_,_,_,_,_,_,_,_,_,e,_,_,_,_,_=>by simp at e
 | t::ts,xs,as,j,k,tj,tk,xj,xk,bs,cs,h,nd,MJ,ej,ek,Vk,Vu,rj,rk=>by
  simp only[aq]at h;obtain⟨x,r,b1,c1,rfl,rfl,h1,h2⟩:=h;have M5:=KB.mp nd;cases j with
  | zero=>
   cases k with
   |zero=>exact absurd rfl MJ
   | succ k=>
    cases ej;cases Vk;have:=au.fu h1 rj;subst this;obtain⟨y,ds,ey,ry,sub⟩:=h2.part (k:=k) (by simpa using ek)
    have RJ:r[k]? =some xk:=by simpa using Vu
    rw[ey]at RJ;cases RJ;have:=au.fu ry rk;subst this;exact λb hb hc=>M5.2.2 b hb b (sub.subset hc) rfl
  | succ j=>
   cases k with
   | zero=>
    cases ek;cases Vu;have:=au.fu h1 rk;subst this;obtain⟨y,ds,ey,ry,sub⟩:=h2.part (k:=j) (by simpa using ej)
    have RJ:r[j]? =some xj:=by simpa using Vk
    rw[ey]at RJ;cases RJ;have:=au.fu ry rj;subst this;exact λb hb hc=>M5.2.2 b hc b (sub.subset hb) rfl
   |succ k=>exact aq.apart (j:=j) (k:=k) h2 M5.2.1 (by omega) (by simpa using ej) (by simpa using ek) (by simpa using Vk) (by simpa using Vu) rj rk
theorem DL{α:Type}{l:List α}{k:Nat}{a b:α}(h:l[k]? =some a):(l.set k b)[k]? =some b:=by
 rw[Mk (il.mp h).1]
noncomputable def below:List Nat->List Nat->Bool
 |[],_::_=>true
 |k::p,j::q=>decide (k=j)&&below p q
 |_,_=>false
theorem au.head(h:au M H F t (.ref c) as)(ho:t.own=true):c∈as:=by
 cases t with
 |d x=>cases ho
 |n kd ts=>simp only[au]at h;obtain⟨a,xs,bs,e,rfl,_⟩:=h;cases e;exact Kd.top ho
theorem aD.put{H2:Hp}{F2:YK}{n0 n1:T}{c:Addr}{N5 N6:P1}(C:gL M H H2 F F2 c n0 n1 N5 N6)(o1:n1.own=true):∀ {q:List Nat} {p:List Nat} {t:T} {v:V} {t1:T} {w:V} {as:P1},au M H F t v as->as.Nodup->aD H t v p n0 (.ref c)->aD H t v q t1 w->t1.fJ=true->below p q=false->
  ∃t2,t2.fJ=true/\aD H2 (T.put n1 t p) v q t2 w
 | [],p,t,v,t1,w,as,tr,nd,hp,hq,ho,_=>by
  have e':t=t1/\v=w:=by cases t<;>exact hq
  obtain⟨rfl,rfl⟩:=e';refine⟨T.put n1 t p,T.LA (T.Bl o1) ho,?_⟩;generalize T.put n1 t p=t2;cases t2<;>exact⟨rfl,rfl⟩
 |k'::q,[],t,v,t1,w,as,tr,nd,hp,hq,ho,hb=>by cases hb
 | k'::q,k::p,.n kd ts,v,t1,w,as,tr,nd,hp,hq,ho,hb=>by
  simp only[aD]at hp hq;simp only[au]at tr;obtain⟨a,xs,tp,xp,rfl,e2,l0,RM,exp,hp⟩:=hp;obtain⟨a1,Xl,tq,xq,Zc,W6,l1,Th,Tb,hq⟩:=hq;obtain⟨a2,ys,bs,UP,rfl,f,Sb,l2,r⟩:=tr;cases Zc;cases UP;have e8:Xl=ys:=Kd.inj (k:=kd) (by rw[Sb]at W6;injection W6 with z;exact z.symm) l1 l2
  have e9:xs=ys:=Kd.inj (k:=kd) (by rw[Sb]at e2;injection e2 with z;exact z.symm) l0 l2
  subst e8 e9;have M5:=Kd.nodup.mp nd;obtain⟨YM,dp,P',rp,P0⟩:=r.part RM;rw[exp]at P';cases P';obtain⟨hc,_⟩:=au.put C rp (M5.2.sublist P0) hp
  have ha:H2 a=some (kd.ho xs):=by
   by_cases o:kd.own=true
   ·exact C.out a _ (Kd.ne nd o (P0.subset hc)) Sb
   ·exact(C.mv _ _ (λz=>o (f.mp z)) Sb).2
  show ∃t2,t2.fJ=true/\aD _ (match ts[k]? with|some t=>T.n kd (ts.set k (T.put n1 t p))|none=>T.n kd ts) _ _ t2 w
  rw[RM];by_cases hkk:k=k'
  ·subst hkk
   rw[RM]at Th;cases Th;rw[exp]at Tb;cases Tb;obtain⟨t2,o2,h2⟩:=aD.put C o1 rp (M5.2.sublist P0) hp hq ho (by simpa[below] using hb)
   refine⟨t2,o2,?_⟩;simp only[aD];exact⟨a,_,_,_,rfl,ha,l2,DL RM,exp,h2⟩
  ·obtain⟨ZQ,dq,SR,rq,Xc⟩:=r.part Th
   rw[Tb]at SR;cases SR;refine⟨t1,ho,?_⟩;simp only[aD];refine⟨a,_,tq,xq,rfl,ha,l2,by rw[df hkk];exact Th,Tb,hq.mv (λa o n e=>(C.mv a o n e).2) rq λb hb u fb hu=>C.out b u (λz=>?_) hu⟩
   subst z;exact aq.apart r M5.2 hkk RM Th exp Tb rp rq _ hc hb
 |k'::q,k::p,.d _,v,t1,w,as,tr,nd,hp,hq,ho,_=>hp.elim
theorem aF.un{ρ':En}(r:aF M G F0 H F σ ρ)(hl:ρ'.length=ρ.length)(h:∀(j:Nat) s,ρ'[j]? =some s->s=.un\/ρ[j]? =some s):aF M G F0 H F σ ρ':=by
 have ow:∀j,a0 ρ' j->a0 ρ j:=λj o=>by
  rcases o with⟨ds,e⟩|⟨ks,ds,e⟩
  ·rcases h j _ e with z|z
   ·cases z
   ·exact .inl ⟨_,z⟩
  ·rcases h j _ e with z|z
   ·cases z
   ·exact .inr ⟨_,_,z⟩
 have on:∀(j:Nat) x,ρ'[j]? =some (.on x)->ρ[j]? =some (.on x):=λj x e=>(h j _ e).resolve_left λz=>nomatch z
 have at':∀(j:Nat) b,aX M H F σ ρ' j b->aX M H F σ ρ j b:=λj b ⟨t,v,as,e,z,z1,z2⟩=>⟨t,v,as,on j _ e,z,z1,z2⟩;refine⟨⟨by rw[hl,r.rs.len],r.rs.aV,λi d e=>?_,λi d e=>?_,λi k d e=>?_,λi j a oi oj=>r.rs.cu i j a (ow i oi) (ow j oj),λi x e=>?_⟩,r.sm,r.sub,r.c9,λi a o=>r.own i a (ow i o),λi x b e hb=>r.di i x b (on i x e) (at' i b hb),λw hw t e=>r.pin w hw t (on _ _ e)⟩
 ·exact r.rs.sh i d ((h i _ e).resolve_left λz=>nomatch z)
 ·exact r.rs.ol i d ((h i _ e).resolve_left λz=>nomatch z)
 ·exact r.rs.od i k d ((h i _ e).resolve_left λz=>nomatch z)
 ·obtain⟨h1,h2,h3⟩:=r.rs.on i x (on i x e)
  refine⟨?_,λb hb k ok=>h2 b (at' i b hb) k (ow k ok),λt ht j t' ej hj b h4 h5=>h3 t ht j t' (on j _ ej) hj b (at' i b h4) (at' j b h5)⟩;cases x with
  |tr t=>exact h1
  |al k p=>exact λt et=>h1 t (on k _ et)
noncomputable def ib(i:Nat)(p:List Nat)(ρ:En):En:=ρ.map λs=>match s with
 |.on (.al k q)=>if k=i/\below p q=true then .un else s
 |s=>s
noncomputable def qC(i:Nat)(p:List Nat)(s:Slot):Slot:=match s with
 |.on (.al k q)=>if k=i/\below p q=true then .un else s
 |s=>s
theorem Le:∀(z:Slot),qC i p z=.un\/(qC i p z=z/\∀q,z=.on (.al i q)->below p q=false)
 |.un=>.inl rfl
 |.sh _=>.inr ⟨rfl,λ_ h=>nomatch h⟩
 |.ol _=>.inr ⟨rfl,λ_ h=>nomatch h⟩
 |.od _ _=>.inr ⟨rfl,λ_ h=>nomatch h⟩
 |.on (.tr _)=>.inr ⟨rfl,λ_ h=>nomatch h⟩
 | .on (.al k q)=>by
  by_cases hc:k=i/\below p q=true
  ·exact .inl (DM hc)
  ·refine .inr ⟨Gc hc,λq' hq=>?_⟩
   injection hq with hq;injection hq with h1 h2;subst h1 h2;cases hb:below p q with
   |false=>rfl
   |true=>exact absurd ⟨rfl,hb⟩ hc
theorem yE{i:Nat}{p:List Nat}{j:Nat}{s:Slot}(h:(ib i p ρ)[j]? =some s):s=.un\/(ρ[j]? =some s/\∀q,s=.on (.al i q)->below p q=false):=by
 have h:(ρ.map (qC i p))[j]? =some s:=h;rw[xa]at h;cases e:ρ[j]? with
 |none=>rw[e]at h;cases h
 | some z=>
  rw[e]at h;have h:qC i p z=s:=SZ h;rcases Le (i:=i) (p:=p) z with h1|⟨h1,h2⟩
  ·exact .inl (h.symm.trans h1)
  ·rw[h1]at h;subst h;exact .inr ⟨rfl,h2⟩
theorem aF.drop(i:Nat)(p:List Nat)(r:aF M G F0 H F σ ρ):aF M G F0 H F σ (ib i p ρ):=r.un (by unfold ib;simp) λj s h=>(yE h).imp id ado
theorem bf.wt(r:bf M H F σ ρ)(e:ρ[i]? =some (.on (.tr t)))(ev:σ[i]? =some (some v))(tr:au M H F t v as)(NY:∀b∈as',b∈as\/H b=none)(mv:Mv F H F' H')(OY:∀b u,b∉as->F b->H b=some u->F' b/\H' b=some u)(aV:∀a,F' a->∃o,H' a=some o)
  (O8:au M H' F' t' v as') (nd:as'.Nodup) (Tz:∀(j:Nat) p,ρ[j]? =some (Slot.on (.al i p))->∀t1 w,aD H t v p t1 w->t1.fJ=true->∃t2,t2.fJ=true/\aD H' t' v p t2 w):
  bf M H' F' σ (ρ.set i (.on (.tr t')))/\∀j b,aX M H' F' σ (ρ.set i (.on (.tr t'))) j b->(j=i/\b∈as')\/(j≠i/\aX M H F σ ρ j b/\b∉as'):=by
 have OO:∀b∈as,aX M H F σ ρ i b:=λb hb=>⟨t,v,as,e,ev,tr,hb⟩;have fs:=tr.fs;have ro:=r.on i _ e;have hi:i<ρ.length:=(il.mp e).1;have old:∀(j:Nat) x,j≠i->(ρ.set i (.on (.tr t')))[j]? =some x->ρ[j]? =some x:=λj x hj h=>by rw[df (W1 hj)]at h;exact h
 have self:(ρ.set i (.on (.tr t')))[i]? =some (.on (.tr t')):=Mk hi
 have O4:∀(j:Nat) x,(∀y,x≠Slot.on y)->(ρ.set i (.on (.tr t')))[j]? =some x->ρ[j]? =some x:=λj x hx h=>by
  by_cases hj:j=i
  ·subst hj;rw[self]at h;cases h;exact absurd rfl (hx _)
  ·exact old j x hj h
 have Qf:∀j,a0 (ρ.set i (.on (.tr t'))) j->a0 ρ j:=λj h=>by
  rcases h with⟨ds,h⟩|⟨ks,ds,h⟩
  ·exact .inl ⟨ds,O4 j _ (λy z=>nomatch z) h⟩
  ·exact .inr ⟨ks,ds,O4 j _ (λy z=>nomatch z) h⟩
 have keep:∀(j:Nat) b u,a0 ρ j->σ[j]? =some (some (.ref b))->F b->H b=some u->F' b/\H' b=some u:=λj b u oj ej fb hu=>OY b u (λh=>ro.2.1 b (OO b h) j oj ej) fb hu
 have RT:∀(j:Nat) t1,j≠i->ρ[j]? =some (.on (.tr t1))->∃v1 NT,σ[j]? =some (some v1)/\au M H F t1 v1 NT/\NT.Nodup/\au M H' F' t1 v1 NT/\∀b∈NT,aX M H F σ ρ j b/\b∉as:=λj t1 hj e1=>by
  obtain⟨⟨v1,NT,O5,Oh,RK⟩,_,_⟩:=r.on j _ e1;have h1:∀b∈NT,aX M H F σ ρ j b/\b∉as:=λb hb=>⟨⟨t1,v1,NT,e1,O5,Oh,hb⟩,λh=>ro.2.2 t rfl j t1 e1 hj b (OO b h) ⟨t1,v1,NT,e1,O5,Oh,hb⟩⟩;exact⟨v1,NT,O5,Oh,RK,Oh.mv mv λb hb u f hu=>OY b u (h1 b hb).2 f hu,h1⟩
 have Nf:∀j b,aX M H' F' σ (ρ.set i (.on (.tr t'))) j b->(j=i/\b∈as')\/(j≠i/\aX M H F σ ρ j b/\b∉as'):=λj b=>by
  rintro⟨t1,v1,NT,e1,O5,Oh,hb⟩
  by_cases hj:j=i
  ·subst hj
   rw[self]at e1;cases e1;rw[ev]at O5;cases O5;have:=au.fu O8 Oh;subst this;exact .inl ⟨rfl,hb⟩
  ·obtain⟨v2,Qw,Si,vZ,_,Rn,h3⟩:=RT j t1 hj (old j _ hj e1)
   rw[Si]at O5;cases O5;have:=au.fu Rn Oh;subst this;refine .inr ⟨hj,(h3 b hb).1,λh=>(NY b h).elim (h3 b hb).2 λh=>?_⟩;obtain⟨_,u,hu⟩:=vZ.fs b hb;rw[h]at hu;cases hu
 refine⟨⟨by simp[r.len],aV,λj d h=>?_,λj ds h=>?_,λj ks ds h=>?_,λj k a oj ok ej ek=>r.cu j k a (Qf j oj) (Qf k ok) ej ek,λj x h=>⟨?_,λb hb k ok ek=>?_,λt1 ht k t2 hk Qx b h1 h2=>?_⟩⟩,Nf⟩
 ·obtain⟨w,e1,g⟩:=r.sh j d (O4 j _ (λy z=>nomatch z) h)
  exact⟨w,e1,g.mv mv⟩
 ·have h0:=O4 j (.ol ds) (λy z=>nomatch z) h
  obtain⟨a,xs,e1,f,e2,g⟩:=r.ol j ds h0;obtain⟨f',e3⟩:=keep j a _ (.inl ⟨_,h0⟩) e1 f e2;exact⟨a,xs,e1,f',e3,g.mv mv⟩
 ·have h0:=O4 j (.od ks ds) (λy z=>nomatch z) h
  obtain⟨a,xs,e1,f,e2,l,g⟩:=r.od j ks ds h0;obtain⟨f',e3⟩:=keep j a _ (.inr ⟨_,_,h0⟩) e1 f e2;exact⟨a,xs,e1,f',e3,l,g.mv mv⟩
 ·by_cases hj:j=i
  ·subst hj
   rw[self]at h;cases h;exact⟨v,as',ev,O8,nd⟩
  ·have h0:=old j _ hj h
   cases x with
   | tr t1=>
    obtain⟨v2,Qw,Si,_,M5,Rn,_⟩:=RT j t1 hj h0;exact⟨v2,Qw,Si,Rn,M5⟩
   | al k p=>
    intro t1 Rg;by_cases hk:k=i
    ·subst hk
     rw[self]at Rg;cases Rg;obtain⟨v1,w,t2,e1,e2,at2,o2⟩:=(r.on j _ h0).1 t e;rw[ev]at e1;cases e1;obtain⟨t3,o3,SO⟩:=Tz j p h0 t2 w at2 o2;exact⟨v,w,t3,ev,e2,SO,o3⟩
    ·have Q4:=old k _ hk Rg
     obtain⟨v2,Qw,Si,vZ,_,_,h3⟩:=RT k t1 hk Q4;obtain⟨v1,w,t2,e1,e2,at2,o2⟩:=(r.on j _ h0).1 t1 Q4;rw[Si]at e1;cases e1;exact⟨v2,w,t2,Si,e2,at2.mv (λa o n e=>(mv a o n e).2) vZ (λb hb u f hu=>(OY b u (h3 b hb).2 f hu).2),o2⟩
 ·rcases Nf j b hb with⟨rfl,Ol⟩|⟨_,Ol,_⟩
  ·rcases NY b Ol with h2|h2
   ·exact ro.2.1 b (OO b h2) k (Qf k ok) ek
   ·obtain⟨a,_,u,_,e1,_,e2,_⟩:=r.ownAt (Qf k ok)
    rw[ek]at e1;cases e1;rw[h2]at e2;cases e2
  ·obtain⟨t9,v9,Q9,e9,_⟩:=id Ol
   exact(r.on j _ e9).2.1 b Ol k (Qf k ok) ek
 ·rcases Nf j b h1 with⟨h3,h4⟩|⟨h3,h4,h6⟩
  ·rcases Nf k b h2 with⟨h5,_⟩|⟨_,_,h5⟩
   ·exact Qx (h5.trans h3.symm)
   ·exact h5 h4
  ·rcases Nf k b h2 with⟨_,h5⟩|⟨h5,h7,_⟩
   ·exact h6 h5
   ·exact(r.on j _ (old j _ h3 h)).2.2 t1 ht k t2 (old k _ h5 hk) Qx b h4 h7
theorem aF.wt(r:aF M G F0 H F σ ρ)(e:ρ[i]? =some (.on (.tr t)))(ev:σ[i]? =some (some v))(tr:au M H F t v as)(NY:∀b∈as',b∈as\/H b=none)(mv:Mv F H F' H')(OY:∀b u,b∉as->F b->H b=some u->F' b/\H' b=some u)(aV:∀a,F' a->∃o,H' a=some o)
  (O8:au M H' F' t' v as') (nd:as'.Nodup) (Tz:∀(j:Nat) p,ρ[j]? =some (Slot.on (.al i p))->∀t1 w,aD H t v p t1 w->t1.fJ=true->∃t2,t2.fJ=true/\aD H' t' v p t2 w) (sm:∀b u,b∉as->H b=some u->H' b=some u) (sub:∀b,F b->b∉as->F' b):
  Mv F H F' H'/\aF M G F0 H' F' σ (ρ.set i (.on (.tr t'))):=by
 have OO:∀b∈as,G b=none:=λb hb=>r.di i _ b e ⟨t,v,as,e,ev,tr,hb⟩;obtain⟨rs,Nf⟩:=r.rs.wt e ev tr NY mv OY aV O8 nd Tz;refine⟨mv,⟨rs,λb u hb=>sm b u (λh=>by rw[OO b h]at hb;cases hb) (r.sm b u hb),λb f=>sub b (r.sub b f) λh=>?_,r.c9,λj a oj ej=>r.own j a ?_ ej,λj x b h hb=>?_,λw hw t2 e2=>?_⟩⟩
 ·obtain⟨o,eo⟩:=r.c9 b f
  rw[OO b h]at eo;cases eo
 ·rcases oj with⟨ds,h⟩|⟨ks,ds,h⟩
  ·rcases get_set h with⟨_,z,_⟩|⟨_,h⟩
   ·cases z
   ·exact .inl ⟨_,h⟩
  ·rcases get_set h with⟨_,z,_⟩|⟨_,h⟩
   ·cases z
   ·exact .inr ⟨_,_,h⟩
 ·rcases Nf j b hb with⟨_,h1⟩|⟨_,h1,_⟩
  ·rcases NY b h1 with h2|h2
   ·exact OO b h2
   ·exact r.sm.free h2
  ·obtain⟨t9,v9,Q9,e9,_⟩:=id h1
   exact r.di j _ b e9 h1
 ·rcases get_set e2 with⟨z,_,_⟩|⟨_,e2⟩
  ·rw[<-z];have:=r.pin w hw t (by rw[<-z];exact e);rw[<-z]at this;exact this
  ·exact r.pin w hw t2 e2
theorem aF.zv(r:aF M G F0 H F σ ρ)(e:ρ[i]? =some (.on (.tr t)))(ev:σ[i]? =some (some v))(tr:au M H F t v as)(NY:∀b∈as',b∈as\/H b=none)(Qy:∀b u,b∉as'->H b=some u->H' b=some u)
  (hF:∀b,F' b↔F b\/b∈as') (O8:au M H' F' t' v as') (nd:as'.Nodup) (Tz:∀(j:Nat) p,ρ[j]? =some (Slot.on (.al i p))->∀t1 w,aD H t v p t1 w->t1.fJ=true->∃t2,t2.fJ=true/\aD H' t' v p t2 w):
  Mv F H F' H'/\aF M G F0 H' F' σ (ρ.set i (.on (.tr t'))):=by
 have fs:=tr.fs
 have nb:∀b u,b∉as->H b=some u->b∉as':=λb u n eo hb=>by
  rcases NY b hb with h|h
  ·exact n h
  ·rw[h]at eo;cases eo
 refine r.wt e ev tr NY (λb o n eo=>?_) (λb u n f hu=>⟨(hF b).mpr (.inl f),Qy b u (nb b u n hu) hu⟩) (λa fa=>?_) O8 nd Tz (λb u n hu=>Qy b u (nb b u n hu) hu) λb f _=>(hF b).mpr (.inl f)
 ·have h:=nb b o (λh=>n (fs b h).1) eo
  exact⟨λf=>((hF b).mp f).elim n h,Qy b _ h eo⟩
 ·by_cases ha:a∈as'
  ·exact(O8.fs a ha).2
  ·obtain⟨o,ho⟩:=r.rs.aV a (((hF a).mp fa).resolve_right ha)
   exact⟨o,Qy a _ ha ho⟩
theorem Jp{i j:Nat}{p:List Nat}{t:T}(h:ρ[j]? =some (.on (.tr t))):(ib i p ρ)[j]? =some (.on (.tr t)):=by
 unfold ib;rw[xa,h];rfl
theorem aF.uj{H2:Hp}{F2:YK}{i:Nat}{t n0 n1:T}{w:V}{p:List Nat}{c:Addr}{N5 N6:P1}(r:aF M G F0 H F σ ρ)(e1:ρ[i]? =some (.on (.tr t)))(e2:σ[i]? =some (some w))(NM:aD H t w p n0 (.ref c))(C:gL M H H2 F F2 c n0 n1 N5 N6)(o1:n1.own=true):
  Mv F H F2 H2/\aF M G F0 H2 F2 σ ((ib i p ρ).set i (.on (.tr (T.put n1 t p)))):=by
 obtain⟨⟨w',as,ew,tr,nd⟩,_,_⟩:=r.rs.on i _ e1;rw[e2]at ew;cases ew;obtain⟨hc,NT,O8,RK,k1,k2⟩:=au.put C tr nd NM;have Up:c∈NT:=k2 c (C.new.head o1)
 exact(r.drop i p).zv (Jp e1) e2 tr (λb hb=>(k1 b hb).imp id And.right) (λb u hb hu=>C.out b u (λz=>by subst z;exact hb Up) hu) (λb=>by
   rw[C.fs b];exact⟨λh=>h.imp id (k2 b),λh=>h.elim .inl λhb=>(k1 b hb).elim (λh=>.inl (tr.fs b h).1) λh=>.inr h.1⟩) O8 RK
  λj q hq t1 w1 Zn ho=>aD.put C o1 tr nd NM Zn ho (((yE hq).resolve_left λz=>nomatch z).2 q rfl)
noncomputable def kE(i:Nat)(ρ:En):Bool:=ρ.all λs=>match s with
 |.on (.al k _)=> !decide (k=i)
 |_=>true
noncomputable def xF(e:Ex):Xt:=λρ=>(e ρ).bind λd=>match d with
 |.lst ds=>.ok (.l (ds.map .d))
 |_=>.bad
noncomputable def dC:List Xt->En->R (List T)
 |[],_=>.ok []
 |f::fs,ρ=>(f ρ).bind λt=>(dC fs ρ).bind λts=>.ok (t::ts)
noncomputable def xL(fs:List Xt):Xt:=λρ=>(dC fs ρ).bind λts=>.ok (.l ts)
noncomputable def mP:Xt:=λ_=>.ok (.m [] [])
noncomputable def qr(fs:List Xt)(e:Ex):Xt:=λρ=>(dC fs ρ).bind λts=>(e ρ).bind λx=>match x with
 | .int i=>match b0 ts i with
  |some t=>.ok t
  |none=>.bad
 |_=>.bad
noncomputable def uX(i:Nat)(f:Xt):Sm:=λρ=>(f ρ).bind λt=>if kE i ρ=true/\4<=i then .ok (.next (ρ.set i (.on (.tr t))))else .bad
variable{as:P1}
inductive pS(M:Md)(f:En->R (List T))(σ:L2.St)(H:Hp)(Q:(List V->Hp->Prop)):Prop
 |mk:∀ρ F ts,bf M H F σ ρ->f ρ=.ok ts->(∀vs H' F' as,aj H H'->(∀b∈as,H b=none)->as.Nodup->(∀b,F' b↔F b\/b∈as)->aq M H' F' ts vs as->Q vs H')->pS M f σ H Q
abbrev KL(X:Cx)(es:P2)(f:En->R (List T)):Prop:=PA X es (pS (aB X) f)
structure mR(X:Cx)(e:P2)(f:En->R (List T)):Prop where
 out:KL X e f
theorem HW(h:XF X e f):XX X e (xF f):=⟨have h:=h.out;bw h λσ H Q=>by
  rintro⟨ρ,F,t,hr,e,q⟩
  obtain⟨d,ed,e⟩:=ao.mp e;cases d with
  | lst ds=>
   cases e;refine⟨ρ,F,ds,hr,ed,λp H1 xs s1 hp rs=>?_⟩;refine q (.ref p) _ (λb=>F b\/b=p) [p] (s1.trans (aj.cN hp _)) (λb hb=>by rw[Os.mp hb];exact s1.free hp) (by simp) (λb=>by simp) ?_
   simp only[eG,eQ,eM,eN];refine⟨p,xs,[],rfl,rfl,.inr rfl,L2.bX,lJ.mpr ⟨rfl,rs.mv λb o n e=>?_⟩⟩;have hb:b≠p:=λz=>by subst z;rw[hp]at e;cases e
   exact⟨λf=>f.elim n hb,by rw[L2.aJ hb];exact e⟩
  |_=>cases e⟩
theorem jX:mR X [] (dC []):=⟨ kq L2.hV λσ H Q=>by
  rintro⟨ρ,F,ts,hr,e,q⟩
  cases e;exact q [] H F [] (aj.refl _) (λ_ hb=>nomatch hb) aaw (λb=>by simp) (by rw[aq];exact⟨rfl,rfl⟩)⟩
theorem Hh(h1:∀σ H Q,qY M f σ H Q->te σ H Q)(h2:∀σ H Q,pS M (dC fs) σ H Q->ta σ H Q)(h:pS M (dC (f::fs)) σ H Q):L2.zi te ta σ H Q:=by
 obtain⟨ρ,F,ts,hr,e,q⟩:=h;obtain⟨t,et,e⟩:=ao.mp e;obtain⟨us,eu,e⟩:=ao.mp e;cases e;refine h1 _ _ _ ⟨ρ,F,t,hr,et,λv H1 F1 as s1 hn nd hF tr=>?_⟩;obtain⟨OL,r1⟩:=hr.wide s1 hn hF (λb hb=>(tr.fs b hb).2);refine h2 _ _ _ ⟨ρ,F1,us,r1,eu,λvs H2 F2 bs s2 Q1 M5 Rk Nj=>?_⟩
 have apart:∀a∈as,∀b∈bs,a≠b:=λa ha b hb z=>by
  subst z;obtain⟨_,u,hu⟩:=tr.fs a ha;rw[Q1 a hb]at hu;cases hu
 have Vb:Mv F1 H1 F2 H2:=λb o n e=>⟨λf=>((Rk b).mp f).elim n (λhb=>by rw[Q1 b hb]at e;cases e),s2 _ _ e⟩
 refine q (v::vs) H2 F2 (as++bs) (s1.trans s2) (λb hb=>?_) (KB.mpr ⟨nd,M5,apart⟩) (λb=>?_) ?_
 ·rcases FS.mp hb with hb|hb
  ·exact hn b hb
  ·exact s1.free (Q1 b hb)
 ·rw[Rk b,hF b,FS,adM]
 ·simp only[aq]
  exact⟨v,vs,as,bs,rfl,rfl,tr.mv Vb λb hb u f hu=>⟨(Rk b).mpr (.inl f),s2 _ _ hu⟩,Nj⟩
theorem fQ(h1:XX X e f)(h2:mR X es (dC fs))(hs:starEach (e::es) X.env=(false,eval e X.env)::starEach es X.env:=by exact a9 (by rfl)):mR X (e::es) (dC (f::fs)):=⟨have h1:=h1.out;have h2:=h2.out;kq (L2.fz h1 h2 hs) λσ H Q h=>Hh (λ_ _ _ h=>h) (λ_ _ _ h=>h) h⟩
theorem pZ:∀ {fs:List Xt} {ts:List T},dC fs ρ=.ok ts->ts.length=fs.length
 |[],ts,h=>by cases h;rfl
 | f::fs,ts,h=>by
  obtain⟨t,et,h⟩:=ao.mp h;obtain⟨us,eu,h⟩:=ao.mp h;cases h;simp[pZ eu]
theorem K7(s1:aj H H')(hn:∀b∈as,H b=none)(nd:as.Nodup)(hF:∀b,F' b↔F b\/b∈as)(tr:aq M H' F' ts vs as)(hp:H' p=none):
  aj H (upd H' p (.lst vs))/\(∀b∈p::as,H b=none)/\(p::as).Nodup/\au M (upd H' p (.lst vs)) (λb=>F b\/b∈p::as) (.l ts) (.ref p) (p::as):=by
 have WD:p∉as:=λhb=>by obtain⟨_,u,hu⟩:=tr.fs p hb;rw[hp]at hu;cases hu
 refine⟨s1.trans (aj.cN hp _),λb hb=>?_,PP.mpr ⟨WD,nd⟩,?_⟩
 ·rcases KM.mp hb with rfl|hb
  ·exact s1.free hp
  ·exact hn b hb
 ·simp only[eG,eQ,eM,eN]
  refine⟨p,vs,as,rfl,rfl,.inr AC,L2.bX,tr.mv (λb o n e=>?_) λb hb u f hu=>?_⟩
  ·have hb:b≠p:=λz=>by subst z;rw[hp]at e;cases e
   refine⟨λf=>?_,by rw[L2.aJ hb];exact e⟩
   rcases f with f|f
   ·exact n ((hF b).mpr (.inl f))
   ·rcases KM.mp f with f|f
    ·exact hb f
    ·exact n ((hF b).mpr (.inr f))
  ·have Ol:b≠p:=λz=>by subst z;exact WD hb
   exact⟨.inr (Ax _ hb),by rw[L2.aJ Ol];exact hu⟩
theorem nT(h:mR X es (dC fs))(hl:fs.length<=1000):XX X (.List es pos) (xL fs):=⟨have h:=h.out;bw (L2.qE h) λσ H Q=>by
  rintro⟨ρ,F,t,hr,e,q⟩
  obtain⟨ts,QY,e⟩:=ao.mp e;cases e;refine⟨ρ,F,ts,hr,QY,λvs H1 F1 as s1 hn nd hF tr=>⟨?_,λp hp=>?_⟩⟩
  ·rw[<-tr.len,pZ QY];exact S3 hl (by decide)
  ·obtain⟨a,b,c,d⟩:=K7 s1 hn nd hF tr hp
   exact q _ _ _ _ a b c (λ_=>abN) d⟩
theorem vi:XX X (.Dict [] [] pos) mP:=⟨ bw L2.u0 λσ H Q=>by
  rintro⟨ρ,F,t,hr,e,q⟩
  cases e;intro p hp;refine q (.ref p) _ (λb=>F b\/b∈[p]) [p] (aj.cN hp _) (λb hb=>by rw[Os.mp hb];exact hp) (by simp) (λ_=>abN) ?_
  simp only[eG,eQ,eM,eN,aq];exact⟨p,[],[],rfl,rfl,.inr AC,L2.bX,rfl,rfl,rfl⟩⟩
theorem HL(h:mR X es (dC fs))(hb:XE X b fb)(hl:fs.length<=1000:=by decide)(hs:L2.kN b:=by exact pF (by rfl)):XX X (.Subscript (.List es p2) b pos) (qr fs fb):=⟨have h:=h.out;have hb:=hb.out;bw (L2.nW L2.oy (L2.qE h) hb hs) λσ H Q=>by
  rintro⟨ρ,F,t,hr,e,q⟩
  obtain⟨ts,QY,e⟩:=ao.mp e;obtain⟨x,ex,e⟩:=ao.mp e;cases x with
  | int k=>
   have e:(match b0 ts k with|some t=>R.ok t|none=>.bad)=.ok t:=e
   cases NM:b0 ts k with
   |none=>rw[NM]at e;cases e
   | some t'=>
    rw[NM]at e;cases e;refine⟨ρ,F,ts,hr,QY,λvs H1 F1 as s1 hn nd hF tr=>⟨?_,λp hp=>?_⟩⟩
    ·rw[<-tr.len,pZ QY];exact S3 hl (by decide)
    ·obtain⟨OL,r1⟩:=hr.wide s1 hn hF (λb hb=>(tr.fs b hb).2)
     have su:aj H1 (upd H1 p (.lst vs)):=aj.cN hp _;refine⟨ρ,F1,.int k,r1.same su,ex,λy H2 s2 ry=>?_⟩;obtain⟨j,w,_,h1,h2,h3⟩:=qS tr.len NM;obtain⟨w',bs,e1,Oh,sub⟩:=tr.part h1;rw[h2]at e1;cases e1;refine .inl ⟨p,vs,k,w,rfl,bo ry,aU.of (s2 _ _ L2.bX),h3,?_⟩;refine q w H2 (λb=>F b\/b∈bs) bs (s1.trans (su.trans s2)) (λb hb=>hn b (sub.subset hb)) (nd.sublist sub) (λ_=>abN) ?_;refine au.less (F:=F1) (λb f=>(hF b).mpr (f.imp id λhb=>sub.subset hb)) (λb hb=>.inr hb) (Oh.mv (Mv.same (su.trans s2)) λb hb u f hu=>⟨f,s2 _ _ (su _ _ hu)⟩)
  |_=>cases e⟩
theorem jF(h:a0 (ρ.set i (.on x)) j):i≠j/\a0 ρ j:=by
 rcases h with⟨ds,q⟩|⟨ks,ds,q⟩
 ·rcases get_set q with⟨_,z,_⟩|⟨MJ,q⟩
  ·cases z
  ·exact⟨MJ,.inl ⟨ds,q⟩⟩
 ·rcases get_set q with⟨_,z,_⟩|⟨MJ,q⟩
  ·cases z
  ·exact⟨MJ,.inr ⟨ks,ds,q⟩⟩
theorem zX(h:kE i ρ=true)(j:Nat)(p:List Nat):ρ[j]? ≠some (.on (.al i p)):=λe=>by
 have:=aap.mp h _ (GM e);simp at this
theorem aF.DX(r:aF M G F0 H F σ ρ)(no:kE i ρ=true)(Z2:4<=i)(s1:aj H H')(hn:∀b∈as,H b=none)(nd:as.Nodup)(hF:∀b,F' b↔F b\/b∈as)(tr:au M H' F' t v as):
  Mv F H F' H'/\aF M G F0 H' F' (σ.set i (some v)) (ρ.set i (.on (.tr t))):=by
 obtain⟨mv,rs⟩:=r.rs.wide s1 hn hF (λb hb=>(tr.fs b hb).2)
 have get:∀(j:Nat) x,(ρ.set i (.on (.tr t)))[j]? =some (.on x)->(i=j/\x=.tr t/\i<ρ.length)\/(i≠j/\ρ[j]? =some (.on x)):=λj x h=>by
  rcases get_set h with⟨h1,h2,h3⟩|h
  ·injection h2 with h2;exact .inl ⟨h1,h2.symm,h3⟩
  ·exact .inr h
 have self:i<ρ.length->(σ.set i (some v))[i]? =some (some v):=λh=>Mk (by rw[<-r.rs.len];exact h)
 have Nf:∀(j:Nat) b,aX M H' F' (σ.set i (some v)) (ρ.set i (.on (.tr t))) j b->(i=j/\b∈as)\/(i≠j/\aX M H F σ ρ j b/\aX M H' F' σ ρ j b):=λj b hb=>by
  have Yn:=hb;obtain⟨t1,v1,NT,e1,O5,Oh,hb⟩:=hb;rcases get j _ e1 with⟨rfl,z,hl⟩|⟨MJ,e2⟩
  ·cases z
   rw[self hl]at O5;cases O5;have:=au.fu tr Oh;subst this;exact .inl ⟨rfl,hb⟩
  ·rw[df MJ]at O5
   exact .inr ⟨MJ,r.rs.on.back (λx hx=>((get j x hx).resolve_left λz=>MJ z.1).2) (df MJ) (λa u _ _ hu=>s1 _ _ hu) (λa o _ e=>s1 _ _ e) Yn,t1,v1,NT,e2,O5,Oh,hb⟩
 have new:∀(j:Nat) b,b∈as->¬aX M H F σ ρ j b:=λj b hb h=>by
  obtain⟨_,u,hu⟩:=fw.f h;rw[hn b hb]at hu;cases hu
 refine⟨mv,⟨⟨by simp[rs.len],rs.aV,λj d q=>?_,λj d q=>?_,λj k d q=>?_,λj k b oj ok ej ek=>?_,λj x h=>⟨?_,λb hb k ok ek=>?_,λt1 ht k t2 hk Qx b h1 h2=>?_⟩⟩,r.sm.trans s1,λb f=>(hF b).mpr (.inl (r.sub b f)),r.c9,λj a oj e=>?_,λj x b e hb=>?_,λw hw t2 e2=>?_⟩⟩
 ·rcases get_set q with⟨_,z,_⟩|⟨MJ,q⟩
  ·cases z
  ·obtain⟨w,e1,g⟩:=rs.sh j d q
   exact⟨w,by rw[df MJ];exact e1,g⟩
 ·rcases get_set q with⟨_,z,_⟩|⟨MJ,q⟩
  ·cases z
  ·obtain⟨a,xs,e1,g⟩:=rs.ol j d q
   exact⟨a,xs,by rw[df MJ];exact e1,g⟩
 ·rcases get_set q with⟨_,z,_⟩|⟨MJ,q⟩
  ·cases z
  ·obtain⟨a,xs,e1,g⟩:=rs.od j k d q
   exact⟨a,xs,by rw[df MJ];exact e1,g⟩
 ·obtain⟨nj,oj⟩:=jF oj
  obtain⟨nk,ok⟩:=jF ok;rw[df nj]at ej;rw[df nk]at ek;exact rs.cu j k b oj ok ej ek
 ·rcases get j x h with⟨rfl,rfl,hl⟩|⟨MJ,h0⟩
  ·exact⟨v,as,self hl,tr,nd⟩
  ·have h1:=(rs.on j x h0).1
   cases x with
   | tr t1=>
    obtain⟨v1,NT,e1,h2⟩:=h1;exact⟨v1,NT,by rw[df MJ];exact e1,h2⟩
   | al k p=>
    intro t1 e1;rcases get k _ e1 with⟨z,_,_⟩|⟨hk,e1⟩
    ·subst z;exact absurd h0 (zX no j p)
    ·obtain⟨v1,w,t2,a1,a2,a3⟩:=h1 t1 e1
     exact⟨v1,w,t2,by rw[df hk];exact a1,by rw[df MJ];exact a2,a3⟩
 ·obtain⟨nk,ok⟩:=jF ok
  rw[df nk]at ek;rcases Nf j b hb with⟨_,hb⟩|⟨_,hb,_⟩
  ·obtain⟨a,_,u,_,e1,_,e2,_⟩:=r.rs.ownAt ok
   rw[ek]at e1;cases e1;rw[hn _ hb]at e2;cases e2
  ·obtain⟨t9,v9,Q9,e9,_⟩:=id hb
   exact(r.rs.on j _ e9).2.1 b hb k ok ek
 ·rcases Nf j b h1 with⟨h3,h4⟩|⟨h3,h4,_⟩
  ·rcases Nf k b h2 with⟨h5,_⟩|⟨_,h5,_⟩
   ·exact Qx (h5.symm.trans h3)
   ·exact new k b h4 h5
  ·rcases Nf k b h2 with⟨_,h5⟩|⟨h5,h6,_⟩
   ·exact new j b h5 h4
   ·exact(r.rs.on j _ ((get j x h).resolve_left λz=>h3 z.1).2).2.2 t1 ht k t2 ((get k _ hk).resolve_left λz=>h5 z.1).2 Qx b h4 h6
 ·obtain⟨nj,oj⟩:=jF oj
  rw[df nj]at e;exact r.own j a oj e
 ·rcases Nf j b hb with⟨_,hb⟩|⟨_,hb,_⟩
  ·exact r.sm.free (hn b hb)
  ·obtain⟨t9,v9,Q9,e9,_⟩:=id hb
   exact r.di j _ b e9 hb
 ·have WU:i≠w.1.toNat:=λz=>by have:=P4.toNat_lt w.1;omega
  rcases get _ _ e2 with⟨z,_,_⟩|⟨_,e2⟩
  ·exact absurd z WU
  ·rw[df WU];exact r.pin w hw t2 e2
theorem Bj(i:Nat)(hN:X.N.Nodup)(he:XX X e f)(hi:X.N[i]? =some x:=by rfl)(hx:L2.Loc X.env.scope x:=by exact Or.inl rfl)(hf:X.fn x=true\/X.env.scope.names.lookup x=some .local:=by exact .inl rfl)(hs:swapsWith e (some (.Name x p2)) pos.line X.env=pure false:=by exact cY (by rfl)):XS X (.Assign [.Name x p2] e pos) (uX i f):=⟨have he:=he.out;λF0=>
 cx (L2.lq hN hi hx he hs hf) λD σ H=>by
  rintro⟨ρ,F,fl,r,e,q⟩
  obtain⟨t,et,e⟩:=ao.mp e;by_cases no:kE i ρ=true/\4<=i
  ·rw[DM no]at e
   cases e;refine⟨ρ,F,t,r.rs,et,λv H1 F1 as s1 hn nd hF tr=>?_⟩;obtain⟨mv,r'⟩:=r.DX (i:=i) no.1 no.2 s1 hn nd hF tr;exact q _ _ _ mv r'
  ·rw[Gc no]at e;cases e⟩
noncomputable abbrev Pt:=En->R (List Nat)
noncomputable def pN:Pt:=λ_=>.ok []
noncomputable def pI(i:Nat)(f:Pt)(e:Ex):Pt:=λρ=>(f ρ).bind λp=>(e ρ).bind λx=>match ρ[i]?,x with
 | some (.on (.tr t)),.int k=>match T.at t p with
  | some (.n .l ts)=>match cy ts.length k with
   |some m=>.ok (p++[m])
   |none=>.bad
  |_=>.bad
 |_,_=>.bad
noncomputable def m5(j i:Nat)(f:Pt):Sm:=λρ=>(f ρ).bind λp=>match ρ[i]? with
 | some (.on (.tr t))=>match T.at t p with
  |some t1=>if t1.own=true/\i≠j then .ok (.next (ρ.set j (.on (.al i p))))else .bad
  |none=>.bad
 |_=>.bad
noncomputable def ym:List T->Option (List D)
 |[]=>some []
 |.d x::r=>(ym r).map (x:: ·)
 |_::_=>none
noncomputable def Mq(i:Nat):Ex:=λρ=>match ρ[i]? with
 |some (.on (.tr (.n .l ts)))=>.ok (.int ts.length)
 |_=>.bad
noncomputable def ng(i:Nat)(f:Xt):Sm:=λρ=>(f ρ).bind λt=>match ρ[i]? with
 |some (.on (.tr (.n .l ts)))=>if ts.length<dI then .ok (.next (ρ.set i (.on (.tr (.l (ts++[t]))))))else .bad
 |_=>.bad
theorem aD.wG:∀ {p:List Nat} {t:T} {v:V} {t1:T} {w:V},aD H t v p t1 w->T.at t p=some t1
 | [],t,v,t1,w,h=>by
  have e':t=t1/\v=w:=by cases t<;>exact h
  rw[e'.1];cases t1<;>rfl
 | k::p,.n kd ts,v,t1,w,h=>by
  simp only[aD]at h;obtain⟨a,xs,t2,x2,_,_,_,e1,_,h⟩:=h;unfold T.at
  rw[e1];exact h.wG
 |k::p,.d _,v,t1,w,h=>h.elim
theorem aD.snoc(h1:aD H n0 x [m] t1 x1):∀ {p:List Nat} {t:T} {v:V},aD H t v p n0 x->aD H t v (p++[m]) t1 x1
 | [],t,v,h=>by
  have e':t=n0/\v=x:=by cases t<;>exact h
  obtain⟨rfl,rfl⟩:=e';exact h1
 | k::p,.n kd us,v,h=>by
  show aD H (.n kd us) v (k::(p++[m])) t1 x1;simp only[aD]at h ⊢;obtain⟨b,ys,t2,x2,U5,h2,h0,h3,h4,h⟩:=h;exact⟨b,ys,t2,x2,U5,h2,h0,h3,h4,aD.snoc h1 h⟩
 |k::p,.d _,v,h=>h.elim
theorem aD.here(t:T)(v:V):aD H t v [] t v:=by cases t<;>exact⟨rfl,rfl⟩
theorem aD.Ar(ha:H a=some (.lst xs))(h1:ts[m]? =some t1)(hx:xs[m]? =some x1):aD H (.l ts) (.ref a) [m] t1 x1:=by
 unfold aD;exact⟨a,xs,t1,x1,rfl,ha,trivial,h1,hx,aD.here _ _⟩
theorem aD.Lm(ha:H a=some (.tup xs))(h1:ts[m]? =some t1)(hx:xs[m]? =some x1):aD H (.tu ts) (.ref a) [m] t1 x1:=by
 unfold aD;exact⟨a,xs,t1,x1,rfl,ha,trivial,h1,hx,aD.here _ _⟩
theorem aD.Fy(ha:H a=some (.dK (ks.zip xs)))(hl:ks.length=xs.length)(h1:ts[m]? =some t1)(hx:xs[m]? =some x1):aD H (.m ks ts) (.ref a) [m] t1 x1:=by
 unfold aD;exact⟨a,xs,t1,x1,rfl,ha,hl,h1,hx,aD.here _ _⟩
theorem T.sy{n0:T}{m:Nat}:∀ {p:List Nat} {t:T},T.at t p=some n0->T.at t (p++[m])=T.at n0 [m]
 | [],t,h=>by
  have:t=n0:=by cases t<;>(injection h)
  subst this;rfl
 | k::p,.n kd us,h=>by
  have h:(match us[k]? with|some t=>T.at t p|none=>none)=some n0:=h
  show(match us[k]? with|some t=>T.at t (p++[m])|none=>none)=T.at n0 [m]
  cases e:us[k]? with
  |none=>rw[e]at h;cases h
  |some u=>rw[e]at h;exact T.sy h
 |k::p,.d _,h=>by cases h
theorem T.zd{ts:List T}{m:Nat}:T.at (.l ts) [m]=ts[m]? :=by
 unfold T.at
 cases e:ts[m]? with
 |none=>rfl
 |some u=>cases u<;>rfl
inductive Av(M:Md)(i:Nat)(f:Pt)(σ:L2.St)(H:Hp)(Q:VK):Prop
 |mk:∀ρ F t w p t1,bf M H F σ ρ->ρ[i]? =some (.on (.tr t))->σ[i]? =some (some w)->f ρ=.ok p->T.at t p=some t1->(∀v H',aj H H'->aD H' t w p t1 v->Q v H')->Av M i f σ H Q
abbrev JL(X:Cx)(i:Nat)(e:Expr)(f:Pt):Prop:=PE X e (Av (aB X) i f)
structure XL(X:Cx)(i:Nat)(e:Expr)(f:Pt):Prop where
 out:JL X i e f
theorem rl(i:Nat)(hN:X.N[i]? =some x:=by rfl)(hv:L2.d9 X.env.scope x:=by exact Or.inl rfl)(hd:gV x:=by decide)(Nn:js x:=by decide):XL X i (.Name x pos) pN:=⟨ bw (L2.pv i hN hv hd Nn) λσ H Q=>by
  rintro⟨ρ,F,t,w,p,t1,r,e1,e2,ef,Qq,q⟩
  cases ef;have:t1=t:=by cases t<;>(injection Qq with Qq;exact Qq.symm)
  subst this;exact⟨w,e2,q w H (aj.refl _) (by cases t1<;>exact⟨rfl,rfl⟩)⟩⟩
theorem Ms (ha:JL X i a f) (hb:JE X b fb) (hs:L2.kN b:=by exact λ_ _=>rfl):JL X i (.Subscript a b pos) (pI i f fb):=
 bw (L2.nW L2.oy ha hb hs) λσ H Q=>by
  rintro⟨ρ,F,t,w,p',t1,r,e1,e2,ef,Qq,q⟩
  obtain⟨p,ep,ef⟩:=ao.mp ef;obtain⟨x,ex,ef⟩:=ao.mp ef;rw[e1]at ef;cases x with
  | int k=>
   have ef:(match T.at t p with|some (.n .l ts)=>(match cy ts.length k with|some m=>R.ok (p++[m])|none=>.bad)|_=>.bad)=.ok p':=ef
   cases NM:T.at t p with
   |none=>rw[NM]at ef;cases ef
   | some t0=>
    rw[NM]at ef;cases t0 using T.cs with
    | l ts=>
     have ef:(match cy ts.length k with|some m=>R.ok (p++[m])|none=>.bad)=.ok p':=ef
     cases hm:cy ts.length k with
     |none=>rw[hm]at ef;cases ef
     | some m=>
      rw[hm]at ef;cases ef;refine⟨ρ,F,t,w,p,.l ts,r,e1,e2,ep,NM,λv H1 s1 Pq=>⟨ρ,F,.int k,r.same s1,ex,λy H2 s2 ry=>?_⟩⟩;have r2:=(r.same s1).same s2;obtain⟨⟨w',as,ew,tr,nd⟩,_,_⟩:=r2.on i _ e1;rw[e2]at ew;cases ew;have Oh:=((r.same s1).on i _ e1).1;obtain⟨w1,NT,W3,Oh,_⟩:=Oh;rw[e2]at W3;cases W3;have at2:=Pq.mv (λ_ _ _ e=>s2 _ _ e) Oh (H':=H2) λb hb u f hu=>s2 _ _ hu;obtain⟨bs,tp,_⟩:=aD.part tr at2;simp only[eG,eQ,eM,eN]at tp;obtain⟨a,xs,cs,rfl,rfl,fa,ha,Nj⟩:=tp;have h1:ts[m]? =some t1:=by rw[T.sy NM,T.zd]at Qq;exact Qq
      have hlen:=Nj.len
      have hx:∃x1,xs[m]? =some x1:=by
       obtain⟨hl,_⟩:=il.mp h1;exact⟨xs[m]'(by omega),DF (by omega)⟩
      obtain⟨x1,hx⟩:=hx;have h3:b0 xs k=some x1:=by unfold b0;rw[<-hlen,hm];exact hx
      exact .inl ⟨a,xs,k,x1,rfl,bo ry,aU.of ha,h3,q x1 H2 (s1.trans s2) (aD.snoc (aD.Ar ha h1 hx) at2)⟩
    |_=>cases ef
  |_=>cases ef
theorem aD.same{t:T}{v w:V}{p:List Nat}{t1:T}{i:Nat}(r:bf M H F σ ρ)(e1:ρ[i]? =some (.on (.tr t)))(e2:σ[i]? =some (some v))(s1:aj H H')(h:aD H t v p t1 w):aD H' t v p t1 w:=by
 obtain⟨⟨v',as,ev,tr,_⟩,_,_⟩:=r.on i _ e1;rw[e2]at ev;cases ev;exact h.mv (λ_ _ _ e=>s1 _ _ e) tr λb hb u f hu=>s1 _ _ hu
theorem aF.JB(r:aF M G F0 H F σ ρ)(e1:ρ[i]? =some (.on (.tr t)))(e2:σ[i]? =some (some w))(NM:aD H t w p t1 v)(ho:t1.fJ=true)(PU:i≠j):
  aF M G F0 H F (σ.set j (some v)) (ρ.set j (.on (.al i p))):=by
 have back:∀(k:Nat) b,aX M H F (σ.set j (some v)) (ρ.set j (.on (.al i p))) k b->j≠k/\aX M H F σ ρ k b:=λk b=>by
  rintro⟨t1,v1,NT,h1,Wd,Oh,hb⟩
  rcases get_set h1 with⟨_,z,_⟩|⟨MJ,h1⟩
  ·cases z
  ·rw[df MJ]at Wd
   exact⟨MJ,t1,v1,NT,h1,Wd,Oh,hb⟩
 refine⟨⟨by simp[r.rs.len],r.rs.aV,λk d q=>?_,λk d q=>?_,λk ks d q=>?_,λk l b ok ol ek el=>?_,λk x h=>?_⟩,r.sm,r.sub,r.c9,λk a ok e=>?_,λk x b e hb=>?_,r.pin.set λ_ h=>by cases h⟩
 ·rcases get_set q with⟨_,z,_⟩|⟨MJ,q⟩
  ·cases z
  ·obtain⟨w,e1,g⟩:=r.rs.sh k d q
   exact⟨w,by rw[df MJ];exact e1,g⟩
 ·rcases get_set q with⟨_,z,_⟩|⟨MJ,q⟩
  ·cases z
  ·obtain⟨a,xs,e1,g⟩:=r.rs.ol k d q
   exact⟨a,xs,by rw[df MJ];exact e1,g⟩
 ·rcases get_set q with⟨_,z,_⟩|⟨MJ,q⟩
  ·cases z
  ·obtain⟨a,xs,e1,g⟩:=r.rs.od k ks d q
   exact⟨a,xs,by rw[df MJ];exact e1,g⟩
 ·obtain⟨nk,ok⟩:=jF ok
  obtain⟨nl,ol⟩:=jF ol;rw[df nk]at ek;rw[df nl]at el;exact r.rs.cu k l b ok ol ek el
 ·rcases get_set h with⟨rfl,z,hl⟩|⟨MJ,h⟩
  ·injection z with z
   subst z;refine⟨λt' h'=>?_,λb hb=>absurd rfl (back _ b hb).1,λt' ht=>nomatch ht⟩
   rw[df (W1 PU),e1]at h';cases h';exact⟨w,v,t1,by rw[df (W1 PU)];exact e2,Mk (by rw[<-r.rs.len];exact hl),NM,ho⟩
  ·obtain⟨h1,h2,h3⟩:=r.rs.on k x h
   refine⟨?_,λb hb l ol el=>?_,λt' ht l t2 hl R3 b h4 h5=>?_⟩
   ·cases x with
    | tr t0=>
     obtain⟨v0,WT,XN,TL,Zo⟩:=h1;exact⟨v0,WT,by rw[df MJ];exact XN,TL,Zo⟩
    | al i0 p0=>
     intro t0 h0;rcases get_set h0 with⟨_,z,_⟩|⟨U',h0⟩
     ·cases z
     ·obtain⟨v0,w0,t2,a1,a2,a3,a4⟩:=h1 t0 h0
      exact⟨v0,w0,t2,by rw[df U'];exact a1,by rw[df MJ];exact a2,a3,a4⟩
   ·obtain⟨nl,ol⟩:=jF ol
    rw[df nl]at el;exact h2 b (back k b hb).2 l ol el
   ·rcases get_set hl with⟨_,z,_⟩|⟨_,hl⟩
    ·cases z
    ·exact h3 t' ht l t2 hl R3 b (back k b h4).2 (back l b h5).2
 ·obtain⟨nk,ok⟩:=jF ok
  rw[df nk]at e;exact r.own k a ok e
 ·obtain⟨MJ,hb⟩:=back k b hb
  rw[df MJ]at e;exact r.di k x b e hb
theorem zt (j:Nat) (i:Nat) (hN:X.N.Nodup) (he:XL X i e f) (hi:X.N[j]? =some x:=by rfl) (hx:L2.Loc X.env.scope x:=by exact Or.inl rfl) (hf:X.fn x=true\/X.env.scope.names.lookup x=some .local:=by exact .inl rfl) (hs:swapsWith e (some (.Name x p2)) pos.line X.env=pure false:=by exact cY (by rfl)):XS X (.Assign [.Name x p2] e pos) (m5 j i f):=⟨have he:=he.out;λF0=>
 cx (L2.lq hN hi hx he hs hf) λD σ H=>by
  rintro⟨ρ,F,fl,r,e,q⟩
  obtain⟨p,ep,e⟩:=ao.mp e;cases h1:ρ[i]? with
  |none=>rw[h1]at e;cases e
  | some s=>
   rw[h1]at e;cases s with
   | on x=>
    cases x with
    | tr t=>
     have e:(match T.at t p with|some t1=>if t1.own=true/\i≠j then R.ok (Fl.next (ρ.set j (.on (.al i p))))else .bad|none=>.bad)=.ok fl:=e
     cases NM:T.at t p with
     |none=>rw[NM]at e;cases e
     | some t1=>
      rw[NM]at e;have e:(if t1.own=true/\i≠j then R.ok (Fl.next (ρ.set j (.on (.al i p))))else .bad)=.ok fl:=e
      by_cases hc:t1.own=true/\i≠j
      ·rw[DM hc]at e
       cases e;obtain⟨⟨w,as,ew,tr,nd⟩,_,_⟩:=r.rs.on i _ h1;exact⟨ρ,F,t,w,p,t1,r.rs,h1,ew,ep,NM,λv H1 s1 Pq=>q _ _ F (.same s1) ((r.same s1).JB h1 ew Pq (T.Bl hc.1) hc.2)⟩
      ·rw[Gc hc]at e;cases e
    |al _ _=>cases e
   |_=>cases e⟩
theorem Bu (i:Nat) (he:XX X e f) (hN:X.N[i]? =some x:=by rfl) (hv:L2.d9 X.env.scope x:=by exact Or.inl rfl) (hd:gV x:=by decide) (Nn:js x:=by decide) (Nv:attributeBase (.Name x p2) "append" X.env (eval (.Name x p2) X.env)=eval (.Name x p2) X.env:=by exact lh) (OJ:((backTo MQ (starEach [e] X.env)).all (λx=> !x.1)&&(backToKw MQ (keywordEach [] X.env)).all (λx=>x.1.isSome)&&decide (([e]:P2).length+([]:List Keyword).length+(if([]:List Keyword).isEmpty then 0 else 1)<30))=true:=by exact ny (by rfl) (by decide)) (Nw:(apos.endLine==MQ.line)=true:=by rfl) (hs:starEach [e] X.env=(false,eval e X.env)::starEach [] X.env:=by exact a9 (by rfl)) (O2:swapsWith (.Call (.Attribute (.Name x p2) "append" apos) [e] [] MQ) none pos.line X.env=pure false:=by exact cY (by rfl)):XS X (.Expr (.Call (.Attribute (.Name x p2) "append" apos) [e] [] MQ) pos) (ng i f):=⟨have he:=he.out;λF0=>
 cx (L2.l6 (L2.ph aal abA abB L2.rJ (L2.pv i hN hv hd Nn) (L2.fz he L2.hV hs) Nv OJ Nw hs) O2) λD σ H=>by
  rintro⟨ρ,F,fl,r,e,q⟩
  obtain⟨t,et,e⟩:=ao.mp e;split at e
  ·rename_i ts q1
   split at e
   ·rename_i Nl
    cases e;obtain⟨⟨w,as,ew,tr,nd⟩,_,_⟩:=r.rs.on i _ q1;have TL:=tr;simp only[eG,eQ,eM,eN]at tr;obtain⟨a,xs,bs,rfl,rfl,fa,ha,Nj⟩:=tr;refine⟨_,ew,.inl ⟨rfl,xs,aU.of ha⟩,ρ,F,t,r.rs,et,λv H1 F1 cs s1 hn QM hF XY=>?_⟩;refine⟨a,xs,v,rfl,rfl,s1 _ _ ha,by rw[<-Nj.len];exact Nl,?_⟩
    have PD:=PP.mp nd;have We:a∉cs:=λh=>by rw[hn a h]at ha;cases ha
    have hold:∀b∈bs,b≠a:=λb hb z=>by subst z;exact PD.1 hb
    have Xy:∀b∈bs,∀c∈cs,b≠c:=λb hb c hc z=>by
     subst z;obtain⟨_,u,hu⟩:=Nj.fs b hb;rw[hn b hc]at hu;cases hu
    have OL:Mv F H F1 (upd H1 a (.lst (xs++[v]))):=λb o n eo=>⟨λfb=>((hF b).mp fb).elim n (λhb=>by rw[hn b hb]at eo;cases eo),by rw[L2.aJ (λz=>by subst z;exact n fa)];exact s1 _ _ eo⟩
    have keep:∀b∈bs,∀u,F b->H b=some u->F1 b/\upd H1 a (.lst (xs++[v])) b=some u:=λb hb u fb hu=>⟨(hF b).mpr (.inl fb),by rw[L2.aJ (hold b hb)];exact s1 _ _ hu⟩
    have RC:aq (aB X) (upd H1 a (.lst (xs++[v]))) F1 (ts++[t]) (xs++[v]) (bs++cs):=by
     refine aq.append (aq.mv OL keep Nj) ?_;rw[show cs=cs++[] by simp]
     simp only[aq];refine⟨v,[],cs,[],rfl,rfl,XY.mv (λb o n eo=>⟨n,by rw[L2.aJ (λz=>by subst z;exact n ((hF _).mpr (.inl fa)))];exact eo⟩) λb hb u fb hu=>⟨fb,?_⟩,rfl,rfl⟩
     rw[L2.aJ (λz=>by subst z;exact We hb)];exact hu
    obtain ⟨mv,r'⟩:=r.zv (H':=upd H1 a (.lst (xs++[v]))) (F':=F1) (as':=a::(bs++cs)) (t':=.l (ts++[t])) q1 ew TL
     (λb hb=>by
      rcases KM.mp hb with rfl|hb
      ·exact .inl AC
      ·rcases FS.mp hb with hb|hb
       ·exact .inl (Ax _ hb)
       ·exact .inr (hn b hb))
     (λb u hb hu=>by rw[L2.aJ (λz=>by subst z;exact hb AC)];exact s1 _ _ hu)
     (λb=>by
      rw[hF b];constructor
      ·rintro(h|h)
       ·exact .inl h
       ·exact .inr (Ax _ (Do _ h))
      ·rintro(h|h)
       ·exact .inl h
       ·rcases KM.mp h with rfl|h
        ·exact .inl fa
        ·rcases FS.mp h with h|h
         ·exact .inl (Nj.fs b h).1
         ·exact .inr h)
     (by simp only[eG,eQ,eM,eN];exact⟨a,_,_,rfl,rfl,(hF a).mpr (.inl fa),L2.bX,RC⟩)
     (PP.mpr ⟨λh=>by
      rcases FS.mp h with h|h
      ·exact PD.1 h
      ·exact We h,KB.mpr ⟨PD.2,QM,Xy⟩⟩)
     (λ_ p _ t1 w1 hp ho=>by
      cases p with
      | nil=>
       obtain⟨_,rfl⟩:T.l ts=t1/\V.ref a=w1:=hp;exact⟨.l (ts++[t]),rfl,rfl,rfl⟩
      | cons k p=>
       simp only[aD]at hp;obtain⟨a',ys,t2,x2,Zb,NW,_,e3,e4,hp⟩:=hp;cases Zb;have e9:ys=xs:=by rw[ha]at NW;injection NW with z;injection z with z;exact z.symm
       subst e9;refine⟨t1,ho,?_⟩;simp only[aD];obtain⟨V8,_⟩:=il.mp e3;obtain⟨RE,_⟩:=il.mp e4;obtain⟨ZH,ds,Wg,r2,sub⟩:=Nj.part e3;rw[e4]at Wg;cases Wg;exact⟨a,_,t2,x2,rfl,L2.bX,trivial,by rw[M1 V8];exact e3,by rw[M1 RE];exact e4,aD.mv (λa o n e=>(OL a o n e).2) r2 (λb hb u fb hu=>(keep b (sub.subset hb) u fb hu).2) hp⟩)
    exact q _ _ _ mv r'
   ·cases e
  ·cases e⟩
end
noncomputable def wM(i:Nat):Sm:=λρ=>match ρ[i]? with
 |some (.on (.tr t))=>.ok (.next (ρ.set i (.sh (T.toD t))))
 |_=>.bad
section
variable{X:Cx}{M:Md}{G H H':Hp}{F0:Gf}{F F':YK}{σ:L2.St}{ρ:En}{pos:Pos}{pins:List (Addr×Obj)}{s:Shared}{as:P1}
def vQ:HO->Prop
 |.lst _=>True
 |.dT _=>True
 |_=>False
def iV(H H':Hp)(b:Addr):Prop:=(H' b=H b/\∃u,H b=some u/\vQ u)\/∃ob kvs,H b=some (.dK kvs)/\H' b=some (.frz ob (.dK kvs))
mutual
theorem au.frz:∀ {t:T} {H:Hp} {v:V} {as:P1},Inv X pins σ H s->au M H F t v as->as.Nodup->∃H',Inv X pins σ H' s/\(∀b,b∉as->H' b=H b)/\∀b∈as,iV H H' b
 | .d x,H,v,as,I,h,_=>by
  simp only[au]at h;exact⟨H,I,λ_ _=>rfl,λb hb=>by rw[h.1]at hb;cases hb⟩
 | .n kd ts,H,v,as,I,h,nd=>by
  simp only[au]at h;obtain⟨a,xs,bs,rfl,rfl,f,e2,l,r⟩:=h;have M5:=Kd.nodup.mp nd;obtain⟨H1,I1,h1,k1⟩:=aq.frz I r M5.2
  have Ri:(kd.own=true->vQ (kd.ho xs))->∃H',Inv X pins σ H' s/\(∀b,b∉kd.fg a bs->H' b=H b)/\∀b∈kd.fg a bs,iV H H' b:=λhl=>by
   refine⟨H1,I1,λb hb=>h1 b λNX=>hb (Kd.sub NX),λb hb=>?_⟩;rcases Kd.mem hb with⟨o,rfl⟩|hb
   ·exact .inl ⟨h1 b (M5.1 o),_,e2,hl o⟩
   ·exact k1 b hb
  cases kd with
  |l=>exact Ri λ_=>trivial
  |u=>exact Ri λo=>nomatch o
  |x ks=>exact Ri λ_=>trivial
  | m ks=>
   have R6:a∉bs:=M5.1 rfl;have ha:H1 a=some (.dK (ks.zip xs)):=by rw[h1 a R6];exact e2
   obtain⟨ob,I2⟩:=tG I1 ha;refine⟨_,I2,λb hb=>?_,λb hb=>?_⟩
   ·have Ol:b≠a:=λz=>by subst z;exact hb AC
    rw[L2.aJ Ol];exact h1 b λNX=>hb (Ax _ NX)
   ·rcases KM.mp hb with h9|h9
    ·subst h9;exact .inr ⟨ob,_,e2,L2.bX⟩
    ·have Ol:b≠a:=λz=>R6 (z▸h9)
     unfold iV;rw[L2.aJ Ol];exact k1 b h9
theorem aq.frz:∀ {ts:List T} {H:Hp} {xs:List V} {as:P1},Inv X pins σ H s->aq M H F ts xs as->as.Nodup->∃H',Inv X pins σ H' s/\(∀b,b∉as->H' b=H b)/\∀b∈as,iV H H' b
 | [],H,xs,as,I,h,_=>by
  simp only[aq]at h;exact⟨H,I,λ_ _=>rfl,λb hb=>by rw[h.2]at hb;cases hb⟩
 | t::ts,H,xs,as,I,h,nd=>by
  simp only[aq]at h;obtain⟨x,r,bs,cs,rfl,rfl,h1,h2⟩:=h;have M5:=KB.mp nd;obtain⟨H1,I1,o1,k1⟩:=au.frz I h1 M5.1;have T5:=h1.fs;have OL:Mv F H F H1:=λb o n e=>⟨n,by rw[o1 b λhb=>n (T5 b hb).1];exact e⟩
  have VU:aq M H1 F ts r cs:=aq.mv OL (λb hb u f hu=>⟨f,by rw[o1 b λNX=>M5.2.2 b NX b hb rfl];exact hu⟩) h2
  obtain⟨H2,I2,o2,k2⟩:=aq.frz I1 VU M5.2.1;refine⟨H2,I2,λb hb=>?_,λb hb=>?_⟩
  ·rw[o2 b λNX=>hb (Do _ NX),o1 b λNX=>hb (JU _ NX)]
  ·rcases FS.mp hb with hb|hb
   ·have:=k1 b hb
    unfold iV at this ⊢;rw[o2 b λNX=>M5.2.2 b hb b NX rfl];exact this
   ·have:=k2 b hb
    unfold iV at this ⊢;rw[o1 b λNX=>M5.2.2 b NX b hb rfl]at this;exact this
end
mutual
theorem au.seen(m:Mv F H F' H'):∀ {t:T} {v:V} {as:P1},au M H F t v as->(∀b∈as,iV H H' b/\¬F' b)->Rep M H' F' (T.toD t) v
 | .d x,v,as,h,_=>by
  simp only[au]at h;exact h.2.mv m
 | .n kd ts,v,as,h,k=>by
  simp only[au]at h;obtain⟨a,xs,bs,rfl,rfl,f,e2,l,r⟩:=h;have rs:=aq.seen m r λb hb=>k b (Kd.sub hb);cases kd with
  | u=>
   have:=m _ _ (λz=>nomatch f.mp z) e2
   simp only[T.toD,Kd.toD,Rep];exact⟨a,xs,rfl,.inl ⟨this.1,.inl this.2⟩,rs⟩
  | l=>
   obtain⟨ka,na⟩:=k a (Kd.top rfl);simp only[T.toD,Kd.toD,Rep];refine⟨a,xs,rfl,.inl ⟨na,.inl ?_⟩,rs⟩;rcases ka with⟨z,_⟩|⟨ob,kvs,z,_⟩
   ·rw[z];exact e2
   ·rw[e2]at z;cases z
  | m ks=>
   obtain⟨ka,na⟩:=k a (Kd.top rfl);simp only[T.toD,Kd.toD,Rep];rcases ka with⟨_,ys,z,hl⟩|⟨ob,kvs,z,z2⟩
   ·rw[e2]at z;cases z;exact hl.elim
   ·rw[e2]at z;cases z
    exact⟨a,xs,rfl,.inl ⟨na,ob,z2⟩,l,rs⟩
  | x ks=>
   obtain⟨ka,na⟩:=k a (Kd.top rfl);simp only[T.toD,Kd.toD,Rep];refine⟨a,(),rfl,.inr ⟨na,.inr (.inr (.inl ⟨rfl,?_⟩))⟩⟩;rcases ka with⟨z,u,z2,_⟩|⟨ob,kvs,_,z⟩
   ·exact⟨u,z.trans z2,λh=>nomatch h⟩
   ·exact⟨_,z,λh=>nomatch h⟩
theorem aq.seen(m:Mv F H F' H'):∀ {ts:List T} {xs:List V} {as:P1},aq M H F ts xs as->(∀b∈as,iV H H' b/\¬F' b)->ai M H' F' (T.eE ts) xs
 | [],xs,as,h,_=>by
  simp only[aq]at h;rw[h.1];exact ai.nil
 | t::ts,xs,as,h,k=>by
  simp only[aq]at h;obtain⟨x,r,bs,cs,rfl,rfl,h1,h2⟩:=h;exact ai.cons (au.seen m h1 λb hb=>k b (JU _ hb)) (aq.seen m h2 λb hb=>k b (Do _ hb))
end
theorem bf.away(r:bf M H F σ ρ)(e1:ρ[i]? =some (.on (.tr t)))(e2:σ[i]? =some (some w))(tr:au M H F t w as)(hH:∀b,b∉as->H' b=H b)(hx:x=.un\/∃d,x=.sh d/\Rep M H' (λb=>F b/\b∉as) d w):
  Mv F H (λb=>F b/\b∉as) H'/\bf M H' (λb=>F b/\b∉as) σ (ρ.set i x):=by
 have fs:=tr.fs;have mv:Mv F H (λb=>F b/\b∉as) H':=λb o n e=>⟨λh=>n h.1,by rw[hH b λhb=>n (fs b hb).1];exact e⟩
 have ro:=r.on i _ e1;have OO:∀b∈as,aX M H F σ ρ i b:=λb hb=>⟨t,w,as,e1,e2,tr,hb⟩
 have keep:∀(j:Nat) b u,a0 ρ j->σ[j]? =some (some (.ref b))->F b->H b=some u->(F b/\b∉as)/\H' b=some u:=λj b u oj ej fb hu=>by
  have hb:b∉as:=λhb=>ro.2.1 b (OO b hb) j oj ej;exact⟨⟨fb,hb⟩,by rw[hH b hb];exact hu⟩
 have old:∀(j:Nat) s,(ρ.set i x)[j]? =some s->(∀d,s≠.sh d)->s≠.un->i≠j/\ρ[j]? =some s:=λj s e h1 h2=>by
  rcases get_set e with⟨_,z,_⟩|⟨MJ,e⟩
  ·subst z
   rcases hx with h|⟨d,h,_⟩
   ·exact absurd h h2
   ·exact absurd h (h1 d)
  ·exact⟨MJ,e⟩
 have own:∀j,a0 (ρ.set i x) j->a0 ρ j:=λj h=>h.imp (by rintro⟨ds,h⟩;exact ⟨ds,(old j _ h (λ_ z=>nomatch z) λz=>nomatch z).2⟩) λ⟨ks,ds,h⟩=>⟨ks,ds,(old j _ h (λ_ z=>nomatch z) λz=>nomatch z).2⟩
 refine⟨mv,⟨by simp[r.len],λb h=>?_,λj e q=>?_,λj ds q=>?_,λj ks ds q=>?_,λj k b oj ok ej ek=>r.cu j k b (own j oj) (own k ok) ej ek,?_⟩⟩
 ·obtain⟨o,e⟩:=r.aV b h.1
  exact⟨o,by rw[hH b h.2];exact e⟩
 ·rcases get_set q with⟨rfl,z,hl⟩|⟨MJ,q⟩
  ·subst z
   rcases hx with h|⟨d,h,hd⟩
   ·cases h
   ·cases h;exact⟨_,e2,hd⟩
  ·obtain⟨w,e1,g⟩:=r.sh j e q
   exact⟨w,e1,g.mv mv⟩
 ·obtain⟨_,q⟩:=old j _ q (λ_ z=>nomatch z) λz=>nomatch z
  obtain⟨b,ys,e1,f,e3,g⟩:=r.ol j ds q;obtain⟨f',e'⟩:=keep j b _ (.inl ⟨_,q⟩) e1 f e3;exact⟨b,ys,e1,f',e',g.mv mv⟩
 ·obtain⟨_,q⟩:=old j _ q (λ_ z=>nomatch z) λz=>nomatch z
  obtain⟨b,ys,e1,f,e3,l,g⟩:=r.od j ks ds q;obtain⟨f',e'⟩:=keep j b _ (.inr ⟨_,_,q⟩) e1 f e3;exact⟨b,ys,e1,f',e',l,g.mv mv⟩
 ·have RV:∀(j:Nat) y,(ρ.set i x)[j]? =some (.on y)->i≠j/\ρ[j]? =some (.on y):=λj y e=>old j _ e (λ_ z=>nomatch z) λz=>nomatch z
  refine r.on.mv mv (λj x e=>⟨(RV j x e).2,rfl⟩) (λj x b u e hb f hu=>?_) λj x b e hb k ok=>(r.on j x (RV j x e).2).2.1 b hb k (own k ok);obtain⟨t2,v2,Qw,h2,_⟩:=id hb;have Ol:b∉as:=λh=>ro.2.2 t rfl j t2 h2 (W1 (RV j x e).1) b (OO b h) hb;exact⟨⟨f,Ol⟩,by rw[hH b Ol];exact hu⟩
theorem aF.away(r:aF M G F0 H F σ ρ)(e1:ρ[i]? =some (.on (.tr t)))(e2:σ[i]? =some (some w))(tr:au M H F t w as)(hH:∀b,b∉as->H' b=H b)(hx:x=.un\/∃d,x=.sh d/\Rep M H' (λb=>F b/\b∉as) d w):
  Mv F H (λb=>F b/\b∉as) H'/\aF M G F0 H' (λb=>F b/\b∉as) σ (ρ.set i x):=by
 obtain⟨mv,rs⟩:=r.rs.away e1 e2 tr hH hx;have hG:∀b∈as,G b=none:=λb hb=>r.di i _ b e1 ⟨t,w,as,e1,e2,tr,hb⟩
 have old:∀(j:Nat) s,(ρ.set i x)[j]? =some s->(∀d,s≠.sh d)->s≠.un->i≠j/\ρ[j]? =some s:=λj s e h1 h2=>by
  rcases get_set e with⟨_,z,_⟩|⟨MJ,e⟩
  ·subst z
   rcases hx with h|⟨d,h,_⟩
   ·exact absurd h h2
   ·exact absurd h (h1 d)
  ·exact⟨MJ,e⟩
 refine⟨mv,rs,λb u hb=>?_,λb f=>⟨r.sub b f,λhb=>?_⟩,r.c9,λj b oj ej=>r.own j b (oj.imp (by rintro⟨ds,h⟩;exact ⟨ds,(old j _ h (λ_ z=>nomatch z) λz=>nomatch z).2⟩) λ⟨ks,ds,h⟩=>⟨ks,ds,(old j _ h (λ_ z=>nomatch z) λz=>nomatch z).2⟩) ej,λj y b ex hb=>?_,λw2 hw t2 e=>r.pin w2 hw t2 (old _ _ e (λ_ z=>nomatch z) λz=>nomatch z).2⟩
 ·rw[hH b λNX=>by rw[hG b NX]at hb;cases hb];exact r.sm b u hb
 ·obtain⟨o,eo⟩:=r.c9 b f
  rw[hG b hb]at eo;cases eo
 ·obtain⟨MJ,ex⟩:=old j _ ex (λ_ z=>nomatch z) λz=>nomatch z
  refine r.di j y b ex (r.rs.on.back (λy hy=>?_) rfl (λa u ha f hu=>?_) (λa o n e=>(mv a o n e).2) hb)
  ·rw[df MJ]at hy;exact hy
  ·obtain⟨t2,v2,Qw,h2,_⟩:=id ha
   rw[hH a λh=>(r.rs.on i _ e1).2.2 t rfl j t2 h2 (W1 MJ) a ⟨t,w,as,e1,e2,tr,h⟩ ha];exact hu
theorem IU(i:Nat)(h:gq X rest (aN fs)):gq X rest (aN (wM i::fs)):=⟨have h:=h.out;λF0 pins s σ H D I=>by
 rintro⟨ρ,F,fl,r,e,q⟩
 obtain⟨f1,e1,e⟩:=ao.mp e;unfold wM at e1;split at e1
 ·rename_i t q1
  cases e1;obtain⟨⟨w,as,ew,tr,nd⟩,_,_⟩:=r.rs.on i _ q1;obtain⟨H1,I1,o1,k1⟩:=au.frz I tr nd;have W9:Mv F H (λb=>F b/\b∉as) H1:=λb o n e=>⟨λh=>n h.1,by rw[o1 b λhb=>n (tr.fs b hb).1];exact e⟩
  obtain⟨mv,r'⟩:=r.away q1 ew tr o1 (.inr ⟨_,rfl,au.seen W9 tr λb hb=>⟨k1 b hb,λh=>h.2 hb⟩⟩);exact h F0 pins s σ H1 D I1 ⟨_,_,fl,r',e,q.mv mv⟩
 ·cases e1⟩
end
noncomputable def cw(ns:tx):tx:=ns.mergeSort λa b=>decide (a<=b)
theorem w8(ns:tx):(cw ns).Pairwise (· <= ·):=by
 have:=List.pairwise_mergeSort (le:=λa b:Int=>decide (a<=b)) (λa b c h1 h2=>by simp at*;omega) (λa b=>by simp;omega) ns
 exact this.imp (by simp)
theorem eI(ns:tx):(cw ns).Perm ns:=List.mergeSort_perm ns _
theorem yT(h1:l.Perm ns)(h2:l.Pairwise (· <= ·)):l=cw ns:=
 List.Perm.eq_of_pairwise (λa b _ _ h1 h2=>Int.le_antisymm h1 h2) h2 (w8 ns) (h1.trans (eI ns).symm)
noncomputable def jD:List Ky->Option (tx)
 |[]=>some []
 |.inl i::r=>(jD r).map (i:: ·)
 |.inr _::_=>none
theorem zH:∀ {ks:List Ky} {ns:tx},jD ks=some ns->ks=ns.map .inl
 |[],_,h=>by cases h;rfl
 | .inl i::r,ns,h=>by
  unfold jD at h;cases e:jD r with
  |none=>rw[e]at h;cases h
  |some us=>rw[e]at h;cases h;rw[zH e];rfl
 |.inr _::r,ns,h=>by cases h
theorem Bh:∀ns:tx,jD (ns.map .inl)=some ns
 |[]=>rfl
 |n::ns=>by show(jD (ns.map .inl)).map (n:: ·)=_;rw[Bh ns];rfl
noncomputable def oZ:D->R D
 | .aL ks _=>match jD ks with
  |some ns=>if ns.length<64 then .ok (.lst ((cw ns).map .int))else .bad
  |none=>.bad
 |_=>.bad
noncomputable def cz:D->R D
 |.aL ks _=>.ok (.int ks.length)
 |x=>cC x
section
variable{X:Cx}{M:Md}{G H H':Hp}{F0:Gf}{F F':YK}{σ:L2.St}{ρ:En}{pos:Pos}{pins:List (Addr×Obj)}{s:Shared}
theorem uY:∀ {vs:S1} {ns:tx},PyProof.Rows.IntsAre vs ns->Vals (ns.map V.int) vs
 |_,_,.nil=>.nil
 |_,_,.cons n t h=>.cons ⟨t,rfl⟩ (uY h)
theorem wg:∀ {ns:tx} {vs:S1},Vals (ns.map V.int) vs->PyProof.Rows.IntsAre vs ns
 |[],_,h=>by cases h;exact .nil
 | s::ss,_,h=>by
  cases h with
  | cons r t=>
   obtain⟨tk,rfl⟩:=r;exact .cons s tk (wg t)
theorem CJ(hb:b≠a)(e:h.get? b=some o):(PyProof.Rows.sortedHeap h a vs out).get? b=some o:=by
 unfold PyProof.Rows.sortedHeap;rw[aaa _ _ (W1 hb)];refine sa _ (sa _ ?_);rw[aaa _ _ (W1 hb)];exact e
theorem yd(hc:X.calm=true):bq X (.builtin "sorted") (λxs H Q=>∃F p kvs ns,xs=[.ref p]/\gp (aB X) H F p kvs/\kvs.map (·.1)=ns.map .inl/\ns.length<64/\∀l,H l=none->Q (.ref l) (upd H l (.lst ((cw ns).map V.int)))):=by
 intro pins s σ H xs us Q I r h;obtain⟨F,p,kvs,ns,rfl,hd,hk,TB,q⟩:=h;obtain⟨u,rfl,ru⟩:=L2.vals1 r;cases ru;obtain⟨z,QE,vs,rel,dd⟩:=kD I hd;obtain⟨ep,NM⟩:=dd.dictAt;have hl:=ml rel;refine PyProof.Rows.call_builtin_at PyProof.Rows.plain_sorted PyProof.Rows.entry_sorted (PyProof.Rows.args_sorted1 _) (PyProof.Rows.wpAt_of_any ?_);unfold Builtin.sorted;refine tB (FM ?_);refine tB (PySem.W.kdu_collect (PySem.W.kdl_dict (knd:=L2.cV X.prog X.w) (kvs:=vs) (ep:=ep) QE) (I.ok.hd hc) NM (by omega) λh1 tk acc keep OV=>?_)
 have hv:Vals (ns.map V.int) acc.toList:=by
  refine Eh (P:=λ_ _=>True) (by rw[j1];have:=congrArg List.length hk;simp only[j1]at this;have:=OV.1;simp;omega) λj v hj=>?_
  obtain⟨k,x,e1,e2⟩:=OV.2 j v (by simpa using hj)
  obtain⟨y,e3,e4⟩:=yI rel e1;have e5:(kvs.map (·.1))[j]? =some k:=by rw[xa,e3];show some y.1=_;rw[e4]
  rw[hk,xa]at e5;cases e6:ns[j]? with
  |none=>rw[e6]at e5;cases e5
  | some n=>
   rw[e6]at e5;cases e5;exact⟨.int n,by rw[xa,e6];rfl,yj (k:=(.inl n:Key)) (by exact e2)⟩
 have hints:=wg hv;have hlen:acc.toList.length<64:=by have:=hv.length;rw[j1]at this;omega
 have I1:Inv X pins σ H {s with heap:=h1,toks:=tk}:=I.kept keep;refine tB (wpAny_newList ?_ (by have:(sizeLine:Nat)=16777216:=aaj;omega))
 refine tB (Wp ?_);have Qg:(h1.push {cls:=Value.type "list",data:=Data.seq acc.toList.toArray}).get? h1.objs.size=some (PyProof.Rows.seqObj "list" acc.toList.toArray 0):=KF _ rfl;refine PyProof.Rows.wpAny_call_entry_kw PyProof.Rows.slot_list_sort ⟨_,Qg,rfl⟩ PyProof.Rows.entry_list_sort (PyProof.Rows.list_sort_tree Qg hints hlen λout Xp a1 a2 a3=>?_) (PyProof.Rows.args_list_sort _);rw[yT a2 a3]at a1;refine⟨_,rfl,FM ⟨_,rfl,?_⟩⟩
 have hz:((cw ns).map V.int).length<=sizeLine:=by
  have:(sizeLine:Nat)=16777216:=aaj;rw[j1,(eI ns).length_eq];omega
 have O9:∃e,(PyProof.Rows.sortedHeap (h1.push {cls:=Value.type "list",data:=Data.seq acc.toList.toArray}) h1.objs.size acc.toList out).get? h1.objs.size=some {cls:=Value.type "list",data:=Data.seq out e}:=PyProof.Rows.sortedHeap_at Qg;obtain⟨e,he⟩:=O9;have I3:=I1.laid (a:=h1.objs.size) (o:=.lst ((cw ns).map V.int)) (h':=PyProof.Rows.sortedHeap (h1.push {cls:=Value.type "list",data:=Data.seq acc.toList.toArray}) h1.objs.size acc.toList out) (t':=tk) (λb u hb=>CJ (λz=>by subst z;rw[adI (IR _)]at hb;cases hb) (sa _ hb)) (IR _) ⟨hz,out.toList,e,uY a1,by simpa using he⟩
 exact⟨.ref _,_,I3,rfl,q _ I1.fresh⟩
theorem sW:∀ns:tx,ai M H F (ns.map .int) (ns.map V.int)
 |[]=>ai.nil
 |n::ns=>ai.cons de (sW ns)
theorem yK:gF M (g1 oZ) (λxs H Q=>∃F p kvs ns,xs=[.ref p]/\gp M H F p kvs/\kvs.map (·.1)=ns.map .inl/\ns.length<64/\∀l,H l=none->Q (.ref l) (upd H l (.lst ((cw ns).map V.int)))):=by
 intro F H xs as d Q tr rs e q;unfold g1 at e;split at e
 ·rename_i a
  obtain⟨x,rfl,r⟩:=rs.one;unfold oZ at e;split at e
  ·rename_i ks vs
   split at e
   ·rename_i ns Sf
    split at e
    ·rename_i TB
     cases e;have O1:=zH Sf;simp only[Rep]at r;obtain⟨p,ys,rfl,h,hl,rs⟩:=r;refine⟨F,p,_,ns,rfl,h,by rw[acw (by omega)];exact O1,TB,λl hn=>q _ _ (aj.cN hn _) (i4 tr hn (sW _))⟩
    ·cases e
   ·cases e
  ·cases e
 ·cases e
def xu(M:Md):List V->Hp->VK->Prop:=λxs H Q=>vv M xs H Q\/∃F p kvs,xs=[.ref p]/\gp M H F p kvs/\Q (.int kvs.length) H
theorem eV:bq X (.builtin "len") (xu (aB X)):=by
 intro pins s σ H xs us Q I r h;rcases h with h|⟨F,p,kvs,rfl,hd,q⟩
 ·exact fE pins s σ H xs us Q I r h
 ·obtain⟨u,rfl,ru⟩:=L2.vals1 r
  cases ru;obtain⟨z,QE,vs,rel,dd⟩:=kD I hd;have hl:=ml rel;refine call_len_dict QE dd (by rw[<-hl];rw[aaj]at z;omega) ?_
  rw[<-hl];exact⟨.int _,H,I.tok _,⟨_,rfl⟩,q⟩
theorem eY:gF M (g1 cz) (xu M):=by
 intro F H xs as d Q tr rs e q;have e0:=e;unfold g1 at e;split at e
 ·rename_i a
  by_cases hd:∃ks vs,a=.aL ks vs
  ·obtain⟨ks,vs,rfl⟩:=hd
   cases e;obtain⟨x,rfl,r⟩:=rs.one;simp only[Rep]at r;obtain⟨p,ys,rfl,h1,hl,rs⟩:=r;refine .inr ⟨F,p,_,rfl,h1,?_⟩;rw[aam,show min ks.length ys.length=ks.length by omega]
   exact q _ _ (aj.refl _) de
  ·refine .inl (fR F H xs _ d Q tr rs ?_ q)
   show cC a=.ok d;cases a with
   |aL ks vs=>exact absurd ⟨ks,vs,rfl⟩ hd
   |_=>exact e
 ·cases e
end
end PL
namespace PL
open PySem PySem.Spec
theorem B5(ha:∀ρ d,a ρ=.ok d->∃ds,d=.lst ds)(ρ:En)(d:D)(h:cA a lo hi ρ=.ok d):∃ds,d=.lst ds:=by
 obtain⟨x,ex,h⟩:=ao.mp h;obtain⟨l,el,h⟩:=ao.mp h;obtain⟨u,eu,h⟩:=ao.mp h;obtain⟨ds,rfl⟩:=ha ρ x ex;cases h;exact⟨_,rfl⟩
open L2 (V Hp HO Cx PE PT PW PA PS bC PG cb VK TE TT TA TS TI TG Inv RelV Vals Rd aU bj upd aj Key XK Ends aR cB bq R2 EP It Turn bS Un)
noncomputable def o6(f:Xt):Sm:=λρ=>(f ρ).bind λt=>.ok (.ee t)
noncomputable def tw(i:Nat):Sm:=λρ=>match ρ[i]? with
 |some (.on (.tr t))=>.ok (.ee t)
 |_=>.bad
noncomputable def kS(n:Nat)(body:Sm):List D->R T:=λds=>(body (ds.map .sh++List.replicate (n - ds.length) .un)).bind λf=>match f with
 |.ee t=>.ok t
 |_=>.bad
inductive spT(M:Md)(m:List D->R T)(n:Nat)(vs:List V)(H:Hp)(Q:VK)(_x3:XK):Prop
 |mk:∀F ds t,(∀p,F p->∃o,H p=some o)->ai M H F ds vs->ds.length=n->m ds=.ok t->(∀v H' F' as,aj H H'->(∀b∈as,H b=none)->as.Nodup->(∀b,F' b↔F b\/b∈as)->au M H' F' t v as->Q v H')->spT M m n vs H Q _x3
noncomputable def iL(m:List D->R T)(fs:List Ex):Xt:=λρ=>(eList fs ρ).bind m
noncomputable def eX(f:Xt):Ex:=λρ=>(f ρ).bind λt=>.ok (T.toD t)
section
variable{X:Cx}{M:Md}{G H H':Hp}{F0:Gf}{F F':YK}{σ:L2.St}{ρ:En}{pos:Pos}{pins:List (Addr×Obj)}{s:Shared}{as:P1}
theorem yl(ha:XX X a f):XS X (.Return (some a) pos) (o6 f):=⟨have ha:=ha.out;λF0=>
 cx (L2.mG ha) λD σ H=>by
  rintro⟨ρ,F,fl,r,e,q⟩
  obtain⟨t,et,e⟩:=ao.mp e;cases e;exact⟨ρ,F,t,r.rs,et,λv H1 F1 as s1 hn nd hF tr=>q v H1 F F1 as (.same s1) (r.sm.trans s1) r.sub (λb hb=>r.sm.free (hn b hb)) nd hF tr⟩⟩
theorem B7(i:Nat)(hN:X.N[i]? =some x:=by rfl)(hv:L2.d9 X.env.scope x:=by exact Or.inl rfl)(hd:gV x:=by decide)(Nn:js x:=by decide):XS X (.Return (some (.Name x p2)) pos) (tw i):=⟨ λF0=>
 cx (L2.mG (L2.pv i hN hv hd Nn)) λD σ H=>by
  rintro⟨ρ,F,fl,r,e,q⟩
  unfold tw at e;split at e
  ·rename_i t q1
   cases e;obtain⟨⟨w,as,ew,tr,nd⟩,_,_⟩:=r.rs.on i _ q1;have hG:∀b∈as,F0.g b=none:=λb hb=>r.di i _ b q1 ⟨t,w,as,q1,ew,tr,hb⟩;have fs:=tr.fs;refine⟨w,ew,q w H (λb=>F b/\b∉as) F as (λb o n e=>⟨λh=>n h.1,e⟩) r.sm (λb f=>⟨r.sub b f,λhb=>?_⟩) hG nd (λb=>?_) tr⟩
   ·obtain⟨o,e⟩:=r.c9 b f
    rw[hG b hb]at e;cases e
   ·by_cases hb:b∈as
    ·exact⟨λ_=>.inr hb,λ_=>(fs b hb).1⟩
    ·exact⟨λf=>.inl ⟨f,hb⟩,λh=>h.elim ado λh=>absurd h hb⟩
  ·cases e⟩
theorem DT{N:List Str}{n:Nat}{body:Sm}{vs:List V}{Q:VK}{E:XK}{t:TS}(ht:∀(F0:Gf) D σ H,dQ M F0.g F0 body D σ H->t D σ H)(h:spT M (kS N.length body) n vs G Q E)(hn:n<=N.length):t {nx:=λ_ H'=>Q .aP H',rt:=Q} (L2.start N vs) G:=by
 obtain⟨F,ds,t',tr,rs,hl,e,q⟩:=h;obtain⟨f,ef,e⟩:=ao.mp e;refine ht ⟨G,F,λ_=>none⟩ _ _ _ ⟨_,F,f,rH tr rs hl hn,ef,?_⟩;cases f with
 | ee t1=>
  cases e;exact λv H' F1 F2 as mv sm sub hG nd hF tr=>q v H' (λb=>F b\/b∈as) as sm hG nd (λ_=>abN) (au.less (λb f=>(hF b).mpr (f.imp (sub b) id)) (λb hb=>.inr hb) tr)
 |_=>cases e
structure jN(P:Program)(w:World)(K:PySem.W.Frag)(mg:Str->S2)(base:Heap)(x:Str)(k n:Nat)(m:List D->R T):Prop where
 ex:∃f fd ps,L2.fj P w K mg base L2.dY k f fd ps (spT ⟨K,P,w⟩ m n)/\L2.Binds K fd ps []/\PySem.W.keepIn K (.ref f)=true/\mg x=some (.ref f)
theorem Cy{P:Program}{w:World}{K:PySem.W.Frag}{mg:Str->S2}{base:Heap}{x qual:Str}{st:Stmt}{f:Addr}{fd:FuncData}{N ps:List Str}{k n:Nat}{body:Sm}(Fu:L2.d8 K x qual st f fd)(hm:mg x=some (.ref f))(S:L2.aY N ps (L2.aI st))(hb:L2.Binds K fd ps [])
  (h:∀(MD:Value) (A:Around) (outer:List Env) (s:Shared) (H:Hp) (E:XK),L2.bZ k (A.deeper (PyProof.Rows.envOfC qual (L2.aI st) s.heap.objs.size f MD))->ik (L2.bQ L2.dY P w K mg base N qual (L2.aI st) f MD A outer s H E).dB (L2.fN st) body)
  (hn:ps.length=n:=by rfl):jN P w K mg base x (k+1) n (kS N.length body):=by
 refine⟨f,fd,ps,Fu.ok S (λvs H Q E h=>?_) (λMD A outer s H vs Q E hr Ow=>?_),hb,Fu.kp,hm⟩
 ·obtain⟨F,ds,d,_,rs,hl,_⟩:=h
  rw[<-rs.length,hl,hn]
 ·refine⟨λD σ H'=>∃F0:Gf,dQ ⟨K,P,w⟩ F0.g F0 body D σ H',λpins s' σ H' D I=>by rintro⟨F0,q⟩;exact h MD A outer s H E hr F0 pins s' σ H' D I q,?_⟩
  refine DT (G:=H) (t:=λD σ H'=>∃F0:Gf,dQ ⟨K,P,w⟩ F0.g F0 body D σ H') (λF0 D σ H' h=>⟨F0,h⟩) Ow ?_;have:=congrArg List.length S.pre;rw[Re]at this;omega
theorem Jh(hn:fs.length=n)(h:qY M (iL m fs) σ H Q):L2.pE (spT M m n) [] E (lR M (eList fs)) σ H Q:=by
 obtain⟨ρ,F,t,hr,e,q⟩:=h;obtain⟨ds,O7,e⟩:=ao.mp e;refine⟨ρ,F,ds,hr,O7,λvs H1 s1 rs=>?_⟩;show spT M m n (vs++[]) H1 Q E;rw[On];exact⟨F,ds,t,(hr.same s1).aV,rs,by rw[ja O7];exact hn,e,λv H2 F2 as s2 hn nd hF tr=>q v H2 F2 as (s1.trans s2) (λb hb=>s1.free (hn b hb)) nd hF tr⟩
theorem tY(d:jN X.prog X.w X.K X.mg X.base x k n m)(hr:L2.bZ j X.A)(ha:XA X (e::es) (eList fs))(hg:L2.Gl X x:=by rfl)(hk:k<=j:=by decide)(hn:fs.length=n:=by rfl)(Oz:gV x:=by decide)(he:starEach (e::es) X.env=(false,eval e X.env)::starEach es X.env:=by exact a9 (by rfl))(Og:(backTo pos (starEach es X.env)).any (·.1)=false:=by exact fU (by rfl)):XX X (.Call (.Name x p) (e::es) [] pos) (iL m fs):=⟨have ha:=ha.out;by
 obtain⟨f,fd,ps,h1,h2,h3,h4⟩:=d.ex;exact bw (L2.p8 h1 (hr.mono hk) hg h4 h3 h2 .nil L2.pY ha Oz he Og) λσ H Q h=>Jh hn h⟩
theorem Ah(h:XX X e f):XE X e (eX f):=⟨have h:=h.out;by
 intro pins s σ H Q I ⟨ρ,F,d,hr,e,q⟩;obtain⟨t,et,e⟩:=ao.mp e;cases e;refine L2.aM (h pins s σ H (λv H'=>∃F' as,aj H H'/\(∀b∈as,H b=none)/\as.Nodup/\(∀b,F' b↔F b\/b∈as)/\au (aB X) H' F' t v as) I ⟨ρ,F,t,hr,et,λv H' F' as a b c d e=>⟨F',as,a,b,c,d,e⟩⟩) λu s1 ⟨v,H1,I1,rv,F1,as,sm,hn,nd,hF,tr⟩=>?_;obtain⟨H2,I2,o2,k2⟩:=au.frz I1 tr nd;have fs:=tr.fs;have nF:∀b∈as,¬F b:=λb hb f=>by obtain⟨o,e⟩:=hr.aV b f;rw[hn b hb]at e;cases e
 refine⟨v,H2,I2,rv,q v H2 (λb o e=>?_) (au.seen (λb o n e=>⟨λf=>n ((hF b).mpr (.inl f)),?_⟩) tr λb hb=>⟨k2 b hb,nF b hb⟩)⟩
 ·rw[o2 b λhb=>by rw[hn b hb]at e;cases e];exact sm _ _ e
 ·rw[o2 b λhb=>n ((hF b).mpr (.inr hb))];exact e⟩
noncomputable def xT(fs:List Xt):Xt:=λρ=>(dC fs ρ).bind λts=>.ok (.tu ts)
theorem w9{k1}(h:mR X es (dC fs))(hl:fs.length<=1000):XX X (.Tuple es k1 pos) (xT fs):=⟨have h:=h.out;bw (L2.AB h) λσ H Q=>by
  rintro⟨ρ,F,t,hr,e,q⟩
  obtain⟨ts,QY,e⟩:=ao.mp e;cases e;refine⟨ρ,F,ts,hr,QY,λvs H1 F1 as s1 hn nd hF tr=>⟨?_,λp hp=>?_⟩⟩
  ·rw[<-tr.len,pZ QY];exact S3 hl (by decide)
  ·have XQ:¬F1 p:=λf=>by
    rcases(hF p).mp f with f|f
    ·obtain⟨o,eo⟩:=hr.aV p f
     rw[s1 _ _ eo]at hp;cases hp
    ·obtain⟨_,u,hu⟩:=tr.fs p f
     rw[hp]at hu;cases hu
   refine q _ _ F1 as (s1.trans (aj.cN hp _)) hn nd hF ?_;simp only[eG,eQ,eM,eN];have ne:∀b u,H1 b=some u->b≠p:=λb u e z=>by subst z;rw[hp]at e;cases e
   exact⟨p,vs,rfl,XQ,L2.bX,tr.mv (λb o n e=>⟨n,by rw[L2.aJ (ne b o e)];exact e⟩) λb hb u f hu=>⟨f,by rw[L2.aJ (ne b u hu)];exact hu⟩⟩⟩
noncomputable def jY(i:Nat)(t:T):Slot->Slot
 | .on (.al k p)=>if k=i then(match T.at t p with
  |some t1=>.sh (T.toD t1)
  |none=>.un)else .un
 |s=>s
noncomputable def fB(i:Nat)(t:T)(ρ:En):En:=(ρ.map (jY i t)).set i (.sh (T.toD t))
noncomputable def hJ(i:Nat)(f:Ex):Ex:=λρ=>match ρ[i]? with
 |some (.on (.tr t))=>(f (fB i t ρ)).bind λd=>if jT d=true then .ok d else .bad
 |_=>.bad
noncomputable def iI(i:Nat)(f:bg):bg:=λρ=>match ρ[i]? with
 |some (.on (.tr t))=>f (fB i t ρ)
 |_=>.bad
theorem yk(I0:Inv X pins σ H s):∀ {as:P1} {H1:Hp} {s1:Shared},Inv X pins σ H1 s1->(∀b∈as,H1 b=H b\/∃ob kvs,H b=some (.dK kvs)/\H1 b=some (.frz ob (.dK kvs)))->as.Nodup->∃H2,Inv X pins σ H2 s1/\(∀b∈as,H2 b=H b)/\∀b,b∉as->H2 b=H1 b
 |[],H1,s1,I1,_,_=>⟨H1,I1,(λ_ hb=>nomatch hb),λ_ _=>rfl⟩
 | a::as,H1,s1,I1,k,nd=>by
  have M5:=PP.mp nd;obtain⟨H2,I2,k2,o2⟩:=yk I0 I1 (λb hb=>k b (Ax _ hb)) M5.2;have ea:H2 a=H1 a:=o2 a M5.1;rcases k a AC with h|⟨ob,kvs,h1,h2⟩
  ·refine⟨H2,I2,λb hb=>?_,λb hb=>o2 b λNX=>hb (Ax _ NX)⟩
   rcases KM.mp hb with rfl|hb
   ·rw[ea];exact h
   ·exact k2 b hb
  ·refine⟨_,GZ I0 h1 I2 (by rw[ea];exact h2),λb hb=>?_,λb hb=>?_⟩
   ·by_cases Q6:b=a
    ·subst Q6;rw[L2.bX,h1]
    ·rw[L2.aJ Q6]
     exact k2 b ((KM.mp hb).resolve_left Q6)
   ·have Q6:b≠a:=λz=>by subst z;exact hb AC
    rw[L2.aJ Q6];exact o2 b λNX=>hb (Ax _ NX)
theorem bf.fB{i:Nat}{t:T}{w:V}(r:bf M H F σ ρ)(e1:ρ[i]? =some (.on (.tr t)))(e2:σ[i]? =some (some w))(tr:au M H F t w as)(hH:∀b,b∉as->H' b=H b)(hz:∀b∈as,iV H H' b):
  Mv F H (λb=>F b/\b∉as) H'/\bf M H' (λb=>F b/\b∉as) σ (PL.fB i t ρ):=by
 have fs:=tr.fs;have mv:Mv F H (λb=>F b/\b∉as) H':=λb o n e=>⟨λh=>n h.1,by rw[hH b λhb=>n (fs b hb).1];exact e⟩
 have ro:=r.on i _ e1;have OO:∀b∈as,aX M H F σ ρ i b:=λb hb=>⟨t,w,as,e1,e2,tr,hb⟩
 have keep:∀(j:Nat) b u,a0 ρ j->σ[j]? =some (some (.ref b))->F b->H b=some u->(F b/\b∉as)/\H' b=some u:=λj b u oj ej fb hu=>by
  have hb:b∉as:=λhb=>ro.2.1 b (OO b hb) j oj ej;exact⟨⟨fb,hb⟩,by rw[hH b hb];exact hu⟩
 have root:Rep M H' (λb=>F b/\b∉as) (T.toD t) w:=au.seen mv tr λb hb=>⟨hz b hb,λh=>h.2 hb⟩
 have get:∀(j:Nat) s,(PL.fB i t ρ)[j]? =some s->(j=i/\s=.sh (T.toD t))\/(j≠i/\∃z,ρ[j]? =some z/\jY i t z=s):=λj s h=>by
  unfold PL.fB at h;rcases get_set h with⟨h1,h2,_⟩|⟨MJ,h⟩
  ·exact .inl ⟨h1.symm,h2.symm⟩
  ·rw[xa]at h
   cases e:ρ[j]? with
   |none=>rw[e]at h;cases h
   |some z=>rw[e]at h;exact .inr ⟨W1 MJ,z,rfl,by simpa using h⟩
 have same:∀ {z s:Slot},jY i t z=s->(s=z/\∀k p,z≠.on (.al k p))\/s=.un\/∃p t1,z=.on (.al i p)/\T.at t p=some t1/\s=.sh (T.toD t1):=λ{z s} h=>by
  unfold jY at h;split at h
  ·rename_i k p
   by_cases hk:k=i
   ·subst hk
    rw[DM rfl]at h;split at h
    ·rename_i t1 h1
     exact .inr (.inr ⟨p,t1,rfl,h1,h.symm⟩)
    ·exact .inr (.inl h.symm)
   ·rw[Gc hk]at h;exact .inr (.inl h.symm)
  ·rename_i MJ
   exact .inl ⟨h.symm,λk p z=>MJ k p z⟩
 have owned:∀j,a0 (PL.fB i t ρ) j->a0 ρ j:=λj h=>by
  rcases h with⟨ds,h⟩|⟨ks,ds,h⟩
  ·rcases get j _ h with⟨_,z⟩|⟨_,z,Pp,O6⟩
   ·cases z
   ·rcases same O6 with⟨z1,_⟩|z1|⟨_,_,_,_,z1⟩
    ·subst z1;exact .inl ⟨_,Pp⟩
    ·cases z1
    ·cases z1
  ·rcases get j _ h with⟨_,z⟩|⟨_,z,Pp,O6⟩
   ·cases z
   ·rcases same O6 with⟨z1,_⟩|z1|⟨_,_,_,_,z1⟩
    ·subst z1;exact .inr ⟨_,_,Pp⟩
    ·cases z1
    ·cases z1
 have on:∀(j:Nat) x,(PL.fB i t ρ)[j]? =some (.on x)->j≠i/\ρ[j]? =some (.on x):=λj x h=>by
  rcases get j _ h with⟨_,z⟩|⟨hj,z,Pp,O6⟩
  ·cases z
  ·rcases same O6 with⟨z1,_⟩|z1|⟨_,_,_,_,z1⟩
   ·subst z1;exact⟨hj,Pp⟩
   ·cases z1
   ·cases z1
 refine⟨mv,⟨by unfold PL.fB;simp[r.len],λb h=>?_,λj d h=>?_,λj ds h=>?_,λj ks ds h=>?_,λj k b oj ok ej ek=>r.cu j k b (owned j oj) (owned k ok) ej ek,r.on.mv mv (λj x h=>⟨(on j x h).2,rfl⟩) (λj x b u h hb f hu=>?_) λj x b h hb k ok=>(r.on j x (on j x h).2).2.1 b hb k (owned k ok)⟩⟩
 ·obtain⟨o,e⟩:=r.aV b h.1
  exact⟨o,by rw[hH b h.2];exact e⟩
 ·rcases get j _ h with⟨rfl,z⟩|⟨_,z,Pp,O6⟩
  ·cases z;exact⟨w,e2,root⟩
  ·rcases same O6 with⟨z1,_⟩|z1|⟨p,t1,z1,NM,z2⟩
   ·subst z1
    obtain⟨v,ev,rv⟩:=r.sh j d Pp;exact⟨v,ev,rv.mv mv⟩
   ·cases z1
   ·subst z1
    cases z2;obtain⟨v0,w1,t2,a1,a2,a3,_⟩:=(r.on j _ Pp).1 t e1;rw[e2]at a1;cases a1;have:=a3.wG;rw[NM]at this;cases this;obtain⟨bs,tp,sub⟩:=aD.part tr a3;exact⟨w1,a2,au.seen mv tp λb hb=>⟨hz b (sub.subset hb),λh=>h.2 (sub.subset hb)⟩⟩
 ·rcases get j _ h with⟨_,z⟩|⟨_,z,Pp,O6⟩
  ·cases z
  ·rcases same O6 with⟨z1,_⟩|z1|⟨_,_,_,_,z1⟩
   ·subst z1
    obtain⟨b,ys,e3,f,e4,g⟩:=r.ol j ds Pp;obtain⟨f',e'⟩:=keep j b _ (.inl ⟨_,Pp⟩) e3 f e4;exact⟨b,ys,e3,f',e',g.mv mv⟩
   ·cases z1
   ·cases z1
 ·rcases get j _ h with⟨_,z⟩|⟨_,z,Pp,O6⟩
  ·cases z
  ·rcases same O6 with⟨z1,_⟩|z1|⟨_,_,_,_,z1⟩
   ·subst z1
    obtain⟨b,ys,e3,f,e4,l,g⟩:=r.od j ks ds Pp;obtain⟨f',e'⟩:=keep j b _ (.inr ⟨_,_,Pp⟩) e3 f e4;exact⟨b,ys,e3,f',e',l,g.mv mv⟩
   ·cases z1
   ·cases z1
 ·obtain⟨t2,v2,Qw,h2,_⟩:=id hb
  have Ol:b∉as:=λh9=>ro.2.2 t rfl j t2 h2 (on j x h).1 b (OO b h9) hb;exact⟨⟨f,Ol⟩,by rw[hH b Ol];exact hu⟩
theorem xV(I:Inv X pins σ H s)(nd:as.Nodup)(hH:∀b,b∉as->H' b=H b)(hz:∀b∈as,iV H H' b)(I1:Inv X pins σ H1 s1)(sm:aj H' H1):
  ∃H2,Inv X pins σ H2 s1/\aj H H2/\(∀b,b∉as->H2 b=H1 b)/\(∀b∈as,H2 b=H b)/\(∀b∈as,∃u,H1 b=some u)/\∀a xs,fK M H1 (λb=>F b/\b∉as) a xs->fK M H2 F a xs:=by
 have k1:∀b∈as,(H1 b=H b/\∃u,H b=some u/\vQ u)\/∃ob kvs,H b=some (.dK kvs)/\H1 b=some (.frz ob (.dK kvs)):=λb hb=>by
  rcases hz b hb with⟨h1,xs,h2,hl⟩|⟨ob,kvs,h1,h2⟩
  ·exact .inl ⟨by rw[h2]at h1 ⊢;exact sm _ _ h1,xs,h2,hl⟩
  ·exact .inr ⟨ob,kvs,h1,sm _ _ h2⟩
 obtain⟨H2,I2,a2,o2⟩:=yk I I1 (λb hb=>(k1 b hb).imp ado id) nd;refine⟨H2,I2,λb o e=>?_,o2,a2,λb hb=>?_,λa xs h=>?_⟩
 ·by_cases hb:b∈as
  ·rw[a2 b hb];exact e
  ·rw[o2 b hb];exact sm _ _ (by rw[hH b hb];exact e)
 ·rcases k1 b hb with⟨h1,xs,h2,_⟩|⟨ob,kvs,h1,h2⟩
  ·exact⟨_,h1.trans h2⟩
  ·exact⟨_,h2⟩
 ·rcases h with⟨n,h⟩|h
  ·have ha:a∉as:=λha=>by
    rcases k1 a ha with⟨h1,ys,h2,hl⟩|⟨ob,kvs,h1,h2⟩
    ·rcases h with h|⟨o,h⟩
     ·rw[h1,h2]at h;cases h;exact hl
     ·rw[h1,h2]at h;cases h;exact hl
    ·rcases h with h|⟨o,h⟩
     ·rw[h2]at h;cases h
     ·rw[h2]at h;cases h
   refine .inl ⟨λf=>n ⟨f,ha⟩,?_⟩;rcases h with h|⟨o,h⟩
   ·exact .inl (by rw[o2 a ha];exact h)
   ·exact .inr ⟨o,by rw[o2 a ha];exact h⟩
  ·exact .inr h
theorem oD(i:Nat)(h:XE X e f):XE X e (hJ i f):=⟨have h:=h.out;by
 intro pins s σ H Q I ⟨ρ,F,d,hr,e,q⟩;unfold hJ at e;split at e
 ·rename_i t q1
  obtain⟨d',ed,e⟩:=ao.mp e;by_cases hf:PL.jT d'=true
  ·rw[DM hf]at e
   cases e;obtain⟨⟨w,as,ew,tr,nd⟩,_,_⟩:=hr.on i _ q1;obtain⟨H',I',hH,hz⟩:=au.frz I tr nd;obtain⟨mv,rs⟩:=hr.fB q1 ew tr hH hz;refine L2.aM (h pins s σ _ _ I' ⟨_,_,_,rs,ed,λv H1 s1 rv=>(⟨s1,rv⟩:aj H' H1/\Rep (aB X) H1 (λb=>F b/\b∉as) d v)⟩) λu s1 ⟨x,H1,I1,rx,sm,rv⟩=>?_;obtain⟨H2,I2,s2,_,_,_,tp⟩:=xV (M:=aB X) (F:=F) I nd hH hz I1 sm;exact⟨x,H2,I2,rx,q _ _ s2 (Rep.m7 tp hf rv)⟩
  ·rw[Gc hf]at e;cases e
 ·cases e⟩
theorem As(i:Nat)(h:XT X e f):XT X e (iI i f):=⟨have h:=h.out;by
 intro pins s σ H Q I ⟨ρ,F,d,hr,e,q⟩;unfold iI at e;split at e
 ·rename_i t q1
  obtain⟨⟨w,as,ew,tr,nd⟩,_,_⟩:=hr.on i _ q1;obtain⟨H',I',hH,hz⟩:=au.frz I tr nd;obtain⟨mv,rs⟩:=hr.fB q1 ew tr hH hz;refine L2.aM (h pins s σ _ (λb H1=>b=d/\aj H' H1) I' ⟨_,_,_,rs,e,λH1 s1=>⟨rfl,s1⟩⟩) λb s1 ⟨H1,I1,hb,sm⟩=>?_;subst hb;obtain⟨H2,I2,s2,_,_,_,tp⟩:=xV (M:=aB X) (F:=F) I nd hH hz I1 sm;exact⟨H2,I2,q _ s2⟩
 ·cases e⟩
noncomputable def ko(z:Ky):List Ky->Option Nat
 |[]=>none
 |a::ks=>if a=z then some 0 else(ko z ks).map (· +1)
noncomputable def stepT:T->D->Option Nat
 |.n .l ts,.int k=>cy ts.length k
 |.n .u ts,.int k=>cy ts.length k
 | .n (.m ks) _,x=>match keyOf x with
  |some z=>ko z ks
  |none=>none
 |_,_=>none
noncomputable def pX(i:Nat)(f:Pt)(e:Ex):Pt:=λρ=>(f ρ).bind λp=>(e ρ).bind λx=>match ρ[i]? with
 | some (.on (.tr t))=>match T.at t p with
  | some n=>match stepT n x with
   |some m=>.ok (p++[m])
   |none=>.bad
  |none=>.bad
 |_=>.bad
noncomputable def pA(i j:Nat):Pt:=λρ=>match ρ[j]? with
 |some (.on (.al k p))=>if k=i then .ok p else .bad
 |_=>.bad
noncomputable def km(z:Ky)(u:T)(ks:List Ky)(ts:List T):List Ky×List T:=if(ks.any λa=>decide (a=z))=true then(ks,List.zipWith (λa t=>if a=z then u else t) ks ts)else(ks++[z],ts++[u])
noncomputable def nE(i:Nat)(f:Pt)(k e:Ex):Sm:=λρ=>(e ρ).bind λd=>(f ρ).bind λp=>(k ρ).bind λq=>match ρ[i]?,keyOf q with
 | some (.on (.tr t)),some z=>match T.at t p with
  |some (.n (.m ks) ts)=>if ks.length<1000 then .ok (.next ((ib i p ρ).set i (.on (.tr (T.put (.m (km z (.d d) ks ts).1 (km z (.d d) ks ts).2) t p)))))else .bad
  |_=>.bad
 |_,_=>.bad
def Iz:R2:=λx y H Q=>∃p kvs k v,x=.ref p/\y=L2.kV k/\Rd H p (.dK kvs)/\L2.d7 kvs k=some v/\Q v H
theorem Cv:L2.gr X (λx y H Q=>L2.rh X.K x y H Q\/Iz x y H Q):=by
 refine L2.gr.or L2.oy ?_;intro value slice pins s σ H x y v u Q I rx ry h hs;obtain⟨p,kvs,k,w,rfl,rfl,hd,hv,q⟩:=h;cases rx;obtain⟨z,QE,vs,rel,dd⟩:=L2.wI I.aC hd;have r:=L2.KV.val rel k;rw[hv]at r;obtain⟨w',hw,Ot⟩:=L2.gA.some_of r;exact abR dd.typeIs acN.lookup (wpAny_getItem_of (L2.kW ry) dd.mapOf hw ⟨w,H,I.tok _,Ot,q⟩) hs
theorem y0:∀ {ks:List Ky} {xs:List V} {m:Nat},ks.length=xs.length->ko z ks=some m->∃x,xs[m]? =some x/\L2.d7 (ks.zip xs) z=some x
 |[],_,_,_,h=>by cases h
 |a::ks,[],_,l,_=>by simp at l
 | a::ks,x::xs,m,l,h=>by
  unfold ko at h;unfold L2.d7;rw[abo,aaz];by_cases hz:a=z
  ·rw[DM hz]at h
   cases h;exact⟨x,rfl,by simp[hz]⟩
  ·rw[Gc hz]at h
   cases e:ko z ks with
   |none=>rw[e]at h;cases h
   | some j=>
    rw[e]at h;cases h;obtain⟨y,h1,h2⟩:=y0 (xs:=xs) (by simpa using l) e
    refine⟨y,by simpa using h1,?_⟩
    simp only[KI hz];exact h2
theorem xQ(i:Nat)(j:Nat)(hN:X.N[j]? =some x:=by rfl)(hv:L2.d9 X.env.scope x:=by exact Or.inl rfl)(hd:gV x:=by decide)(Nn:js x:=by decide):XL X i (.Name x pos) (pA i j):=⟨ bw (L2.pv j hN hv hd Nn) λσ H Q=>by
  rintro⟨ρ,F,t,w,p,t1,r,e1,e2,ef,Qq,q⟩
  unfold pA at ef;split at ef
  ·rename_i k p' h1
   by_cases hk:k=i
   ·rw[DM hk]at ef
    cases ef;subst hk;obtain⟨v,w1,t2,a1,a2,a3,_⟩:=(r.on j _ h1).1 t e1;rw[e2]at a1;cases a1;have:=a3.wG;rw[Qq]at this;cases this;exact⟨w1,a2,q w1 H (aj.refl _) a3⟩
   ·rw[Gc hk]at ef;cases ef
  ·cases ef⟩
theorem pG (ha:XL X i a f) (hb:XE X b fb) (hs:L2.kN b:=by exact pF (by rfl)):XL X i (.Subscript a b pos) (pX i f fb):=⟨have ha:=ha.out;have hb:=hb.out;bw (L2.nW Cv ha hb hs) λσ H Q=>by
  rintro⟨ρ,F,t,w,p',t1,r,e1,e2,ef,Qq,q⟩
  obtain⟨p,ep,ef⟩:=ao.mp ef;obtain⟨x,ex,ef⟩:=ao.mp ef;rw[e1]at ef;have ef:(match T.at t p with|some n=>(match stepT n x with|some m=>R.ok (p++[m])|none=>.bad)|none=>.bad)=.ok p':=ef
  cases NM:T.at t p with
  |none=>rw[NM]at ef;cases ef
  | some n=>
   rw[NM]at ef;have ef:(match stepT n x with|some m=>R.ok (p++[m])|none=>.bad)=.ok p':=ef
   cases hm:stepT n x with
   |none=>rw[hm]at ef;cases ef
   | some m=>
    rw[hm]at ef;cases ef;refine⟨ρ,F,t,w,p,n,r,e1,e2,ep,NM,λv H1 s1 Pq=>⟨ρ,F,x,r.same s1,ex,λy H2 s2 ry=>?_⟩⟩;have r2:=(r.same s1).same s2;obtain⟨⟨w',as,ew,tr,nd⟩,_,_⟩:=r2.on i _ e1;rw[e2]at ew;cases ew;have at2:=Pq.same (r.same s1) e1 e2 s2;obtain⟨bs,tp,_⟩:=aD.part tr at2;have h1:=Qq;rw[T.sy NM]at h1;cases n using T.cs with
    |d _=>cases x<;>cases hm
    |mx _ _=>cases x<;>cases hm
    | l ts=>
     cases x with
     | int k=>
      simp only[eG,eQ,eM,eN]at tp;obtain⟨a,xs,cs,rfl,rfl,fa,ha,Nj⟩:=tp;rw[T.zd]at h1;have hlen:=Nj.len
      have hx:∃x1,xs[m]? =some x1:=by
       obtain⟨hl,_⟩:=il.mp h1;exact⟨xs[m]'(by omega),DF (by omega)⟩
      obtain⟨x1,hx⟩:=hx;have hm:cy ts.length k=some m:=hm;have h3:b0 xs k=some x1:=by unfold b0;rw[<-hlen,hm];exact hx
      exact .inl (.inl ⟨a,xs,k,x1,rfl,bo ry,aU.of ha,h3,q x1 H2 (s1.trans s2) (aD.snoc (aD.Ar ha h1 hx) at2)⟩)
     |_=>cases hm
    | tu ts=>
     cases x with
     | int k=>
      simp only[eG,eQ,eM,eN]at tp;obtain⟨a,xs,rfl,fa,ha,Nj⟩:=tp
      have h1:ts[m]? =some t1:=by
       unfold T.at at h1;cases e:ts[m]? with
       |none=>rw[e]at h1;cases h1
       |some u=>rw[e]at h1;cases u<;>exact h1
      have hlen:=Nj.len
      have hx:∃x1,xs[m]? =some x1:=by
       obtain⟨hl,_⟩:=il.mp h1;exact⟨xs[m]'(by omega),DF (by omega)⟩
      obtain⟨x1,hx⟩:=hx;have hm:cy ts.length k=some m:=hm;have h3:b0 xs k=some x1:=by unfold b0;rw[<-hlen,hm];exact hx
      exact .inl (.inr (.inl ⟨a,xs,k,x1,rfl,bo ry,.inl (.inl ha),h3,q x1 H2 (s1.trans s2) (aD.snoc (aD.Lm ha h1 hx) at2)⟩))
     |_=>cases hm
    | m ks ts=>
     have hm:(match keyOf x with|some z=>ko z ks|none=>none)=some m:=by cases x<;>exact hm
     cases hz:keyOf x with
     |none=>rw[hz]at hm;cases hm
     | some z=>
      rw[hz]at hm;have hm:ko z ks=some m:=hm;simp only[eG,eQ,eM,eN]at tp;obtain⟨a,xs,cs,rfl,rfl,fa,ha,hl,Nj⟩:=tp
      have h1:ts[m]? =some t1:=by
       unfold T.at at h1;cases e:ts[m]? with
       |none=>rw[e]at h1;cases h1
       |some u=>rw[e]at h1;cases u<;>exact h1
      obtain⟨x1,hx,hv⟩:=y0 hl hm;exact .inr ⟨a,_,z,x1,rfl,jy hz ry,.inl ha,hv,q x1 H2 (s1.trans s2) (aD.snoc (aD.Fy ha hl h1 hx) at2)⟩⟩
theorem gL.of(h0:au M H F n0 (.ref c) (c::cs))(nd:(c::cs).Nodup)(sub:N4.Sublist cs)(h1:au M (upd H c o) F n1 (.ref c) (c::N4)):gL M H (upd H c o) F F c n0 n1 (c::cs) (c::N4):=
 have s2:(c::N4).Sublist (c::cs):=List.Sublist.cons₂ c sub
 ⟨h0,AC,h1,nd.sublist s2,λb u n e=>by rw[L2.aJ n];exact e,λb=>⟨.inl,λh=>h.elim id λhb=>(h0.fs b (s2.subset hb)).1⟩,λb hb=>.inl (s2.subset hb)⟩
theorem aq.yC(rd:Rep M H F d v):∀ {ks:List Ky} {ts:List T} {xs:List V} {as:P1},aq M H F ts xs as->∃as',aq M H F (List.zipWith (λa t=>if a=z then T.d d else t) ks ts) (List.zipWith (λa x=>if a=z then v else x) ks xs) as'/\as'.Sublist as
 |[],ts,xs,as,h=>⟨[],by simp[aq],List.nil_sublist _⟩
 | a::ks,[],xs,as,h=>by
  simp only[aq]at h;obtain⟨rfl,rfl⟩:=h;exact⟨[],by simp[aq],aar _⟩
 | a::ks,t::ts,xs,as,h=>by
  simp only[aq]at h;obtain⟨x,r,bs,cs,rfl,rfl,h1,h2⟩:=h;obtain⟨N4,k1,k2⟩:=aq.yC (z:=z) rd (ks:=ks) h2;rw[aao,aao];by_cases hz:a=z
  ·refine⟨N4,?_,k2.trans (abw _ _)⟩
   rw[DM hz,DM hz];simp only[aq,eG,eQ,eM,eN];exact⟨v,_,[],N4,rfl,rfl,⟨rfl,rd⟩,k1⟩
  ·refine⟨bs++N4,?_,adq (aar _) k2⟩
   rw[Gc hz,Gc hz];simp only[aq];exact⟨x,_,bs,N4,rfl,rfl,h1,k1⟩
theorem xE (i:Nat) (hu:X.A.units+64<cLine) (ho:XL X i o f) (hk:XE X k g) (he:XE X e h) (hs:swapsWith e (some (.Subscript o k p3)) pos.line X.env=pure false:=by exact cY (by rfl)):XS X (.Assign [.Subscript o k p3] e pos) (nE i f g h):=⟨have ho:=ho.out;have hk:=hk.out;have he:=he.out;λF0=>
 cx (L2.vU (by omega) ho hk he hs) λD σ H=>by
  rintro⟨ρ,F,fl,r,e,q⟩
  obtain⟨d,ed,e⟩:=ao.mp e;obtain⟨p,ep,e⟩:=ao.mp e;obtain⟨y,ey,e⟩:=ao.mp e;split at e
  ·rename_i t z q1 hz
   split at e
   ·rename_i ks ts NM
    split at e
    ·rename_i Nl
     cases e;obtain⟨⟨w,as,ew,tr,nd⟩,_,_⟩:=r.rs.on i _ q1;refine⟨ρ,F,d,r.rs,ed,λv H1 s1 rv=>⟨ρ,F,t,w,p,_,(r.same s1).rs,q1,ew,ep,NM,λv0 H2 s2 at2=>⟨ρ,F,y,((r.same s1).same s2).rs,ey,λw2 H3 s3 Ot=>?_⟩⟩⟩;have r2:=(r.same s1).same s2;have r3:=r2.same s3;have SO:=at2.same r2.rs q1 ew s3;obtain⟨⟨w',as',Q5,O8,mf⟩,_,_⟩:=r3.rs.on i _ q1;rw[ew]at Q5;cases Q5;obtain⟨bs,tp,sub⟩:=aD.part O8 SO;have Uo:=tp;simp only[eG,eQ,eM,eN]at tp;obtain⟨a,xs,cs,rfl,rfl,fa,ha,hl,Nj⟩:=tp;have PD:=mf.sublist sub;have QM:=PP.mp PD;cases jy hz Ot;have WK:=rv.mv (M:=aB X) (F':=F) (.same (s2.trans s3))
     have RB:(ks.zip xs).length<sizeLine:=by
      have:(sizeLine:Nat)=16777216:=aaj;rw[aam];omega
     refine⟨a,_,rfl,L2.kB.k ha RB,?_⟩;rw[pW z v hl];have U2:∀o:HO,Mv F H3 F (upd H3 a o):=λo b u n e=>⟨n,by rw[L2.aJ (λz=>by subst z;exact n fa)];exact e⟩
     have kp:∀(o:HO) {N4:P1},N4.Sublist cs->∀b∈N4,∀u,F b->H3 b=some u->F b/\upd H3 a o b=some u:=λo N4 hs b hb u f hu=>⟨f,by rw[L2.aJ (λz=>by subst z;exact QM.1 (hs.subset hb))];exact hu⟩
     unfold km at q;by_cases hm:(ks.any λa=>decide (a=z))=true
     ·rw[DM hm]at q ⊢
      obtain⟨N4,k1,k2⟩:=aq.yC (z:=z) WK (ks:=ks) Nj
      obtain⟨mv,r'⟩:=r3.uj (H2:=upd H3 a (.dK (ks.zip (List.zipWith (λa x=>if a=z then v else x) ks xs)))) (F2:=F) (n1:=.m ks (List.zipWith (λa t=>if a=z then T.d d else t) ks ts)) q1 ew SO (gL.of Uo PD k2 (by
       simp only[eG,eQ,eM,eN];exact⟨a,_,N4,rfl,rfl,fa,L2.bX,by rw[aau];omega,k1.mv (U2 _) (kp _ k2)⟩)) rfl
      exact q _ _ _ (Mv.trans (.same (s1.trans (s2.trans s3))) mv) r'
     ·rw[Gc hm]at q ⊢
      obtain⟨mv,r'⟩:=r3.uj (H2:=upd H3 a (.dK ((ks++[z]).zip (xs++[v])))) (F2:=F) (n1:=.m (ks++[z]) (ts++[T.d d])) q1 ew SO (gL.of Uo PD (aar _) (by
       simp only[eG,eQ,eM,eN];refine⟨a,_,cs,rfl,rfl,fa,L2.bX,by rw[Fk,Fk,hl];rfl,?_⟩
       have:=aq.append (Nj.mv (U2 (.dK ((ks++[z]).zip (xs++[v])))) (kp _ (aar _))) (lJ (vs:=[d]) (xs:=[v]) (as:=[]) |>.mpr ⟨rfl,ai.cons (WK.mv (U2 _)) ai.nil⟩);simpa using this)) rfl
      exact q _ _ _ (Mv.trans (.same (s1.trans (s2.trans s3))) mv) r'
    ·cases e
   ·cases e
  ·cases e⟩
noncomputable def lZ:D->D->R D
 |.aL ks _,.aL [] []=>.ok (.bl (!ks.isEmpty))
 |_,_=>.bad
noncomputable def xy(M:Md)(n:Bool):R2:=λx y H Q=>∃F p kvs p',x=.ref p/\y=.ref p'/\gp M H F p kvs/\gp M H F p' []/\Q (.bl (if n=true then !kvs.isEmpty else kvs.isEmpty)) H
theorem Ek(r:L2.KV kvs ws):(ws.length==0)=kvs.isEmpty:=by
 have:=ml r;cases kvs<;>cases ws<;>first|rfl|simp at this
theorem Ca(hu:X.A.units+64<cLine):aR X (compareOp .NotEq) (xy (aB X) true):=by
 intro pins s σ H x y v u Q I rx ry h;obtain⟨F,p,kvs,p',rfl,rfl,hp,YY,q⟩:=h;cases rx;cases ry;obtain⟨_,Y1,ws,rel,dd⟩:=kD I hp;obtain⟨_,NU,ZJ,Vz,R5⟩:=kD I YY;cases Vz;refine PySem.W.keq_ne (r:=true) Y1 NU dd R5 (abt (abb _ 64) hu) (λhl=>?_) ⟨.bl _,H,I,rfl,?_⟩
 ·have:ws=[]:=acU.mp hl
  subst this;exact .nil
 ·rw[aaA,Ek rel,Bool.and_true];exact q
theorem G0:iC lZ:=λa b d h=>by
 unfold lZ at h;split at h
 ·cases h;exact⟨_,rfl⟩
 ·cases h
theorem Ez(h:Rep M H F (.aL ks vs) x):∃p kvs,x=.ref p/\gp M H F p kvs/\kvs.isEmpty=ks.isEmpty:=by
 simp only[Rep]at h;obtain⟨p,xs,rfl,h1,hl,rs⟩:=h;refine⟨p,_,rfl,h1,?_⟩;cases ks with
 |nil=>rfl
 | cons a ks=>cases xs with
  |nil=>simp at hl
  |cons _ _=>rfl
theorem G3(h:Rep M H F (.aL [] []) x):∃p,x=.ref p/\gp M H F p []:=by
 simp only[Rep]at h;obtain⟨p,xs,rfl,h1,hl,rs⟩:=h;exact⟨p,rfl,h1⟩
theorem C7:cU M lZ (xy M true):=by
 intro F H x y a b d Q tr ra rb e q;unfold lZ at e;split at e
 ·cases e
  obtain⟨p,kvs,rfl,h1,h2⟩:=Ez ra;obtain⟨p',rfl,h3⟩:=G3 rb;exact⟨F,p,kvs,p',rfl,rfl,h1,h3,by rw[DM rfl,h2];exact q _ _ (aj.refl _) fq⟩
 ·cases e
noncomputable def without(H:Hp)(as:P1):Hp:=λb=>if b∈as then none else H b
noncomputable def xM(f:Ex):Xt:=λρ=>(f ρ).bind λd=>match d with
 |.aL ks vs=>.ok (.m ks (vs.map .d))
 |_=>.bad
theorem LM(he:XD X e f):XX X e (xM f):=⟨have he:=he.out;bw he λσ H Q=>by
  rintro⟨ρ,F,t,hr,e,q⟩
  obtain⟨d,ed,e⟩:=ao.mp e;cases d with
  | aL ks vs=>
   cases e;refine⟨ρ,F,ks,vs,hr,ed,λp H1 xs s1 hp hl rs=>?_⟩;have ne:∀b u,H1 b=some u->b≠p:=λb u e z=>by subst z;rw[hp]at e;cases e
   refine q (.ref p) _ (λb=>F b\/b∈[p]) [p] (s1.trans (aj.cN hp _)) (λb hb=>?_) (by simp) (λb=>abN) ?_
   ·rw[Os.mp hb];exact s1.free hp
   ·simp only[eG,eQ,eM,eN]
    exact⟨p,xs,[],rfl,rfl,.inr (Os.mpr rfl),L2.bX,hl,lJ.mpr ⟨rfl,rs.mv λb u n e=>⟨λh=>h.elim n λhb=>ne b u e (Os.mp hb),by rw[L2.aJ (ne b u e)];exact e⟩⟩⟩
  |_=>cases e⟩
end
end PL
namespace PL
open PySem PySem.Spec
set_option maxHeartbeats 3200000
open L2 (V Hp HO Cx PE PT PW PA PS bC PG cb VK TE TT TA TS TI TG Inv RelV Vals Rd aU bj upd aj Key XK Ends aR cB bq R2 EP It Turn bS Un)
noncomputable def qT(i:Nat)(f:Pt)(k:Ex)(x:Xt):Sm:=λρ=>(x ρ).bind λu=>(f ρ).bind λp=>(k ρ).bind λq=>match ρ[i]?,keyOf q with
 | some (.on (.tr t)),some z=>match T.at t p with
  |some (.n (.m ks) ts)=>if ks.length<1000/\¬(ks.any λa=>decide (a=z))=true then .ok (.next ((ib i p ρ).set i (.on (.tr (T.put (.m (ks++[z]) (ts++[u])) t p)))))else .bad
  |_=>.bad
 |_,_=>.bad
section
variable{X:Cx}{M:Md}{G H H':Hp}{F0:Gf}{F F':YK}{σ:L2.St}{ρ:En}{pos:Pos}{pins:List (Addr×Obj)}{s:Shared}{as:P1}
theorem aD.ex:∀ {p:List Nat} {t:T} {v:V} {as:P1} {n0:T},au M H F t v as->T.at t p=some n0->∃w,aD H t v p n0 w
 | [],t,v,as,n0,_,e=>by
  have:t=n0:=by cases t<;>(injection e)
  subst this;exact⟨v,aD.here _ _⟩
 | k::p,.n kd ts,v,as,n0,h,e=>by
  simp only[au]at h;obtain⟨a,xs,bs,rfl,rfl,f,ha,hl,r⟩:=h;have e:(match ts[k]? with|some t=>T.at t p|none=>none)=some n0:=e
  cases et:ts[k]? with
  |none=>rw[et]at e;cases e
  | some t1=>
   rw[et]at e;obtain⟨x,cs,ex,tr,_⟩:=r.part et;obtain⟨w,hw⟩:=aD.ex tr e;exact⟨w,by unfold aD;exact⟨a,xs,t1,x,rfl,ha,hl,et,ex,hw⟩⟩
 |k::p,.d _,v,as,n0,_,e=>by cases e
theorem aD.AI:∀ {p:List Nat} {t:T} {v:V} {n n':T} {w w':V},aD H t v p n w->aD H t v p n' w'->w=w'
 | [],t,v,n,n',w,w',h,h'=>by
  have e:t=n/\v=w:=by cases t<;>exact h
  have e':t=n'/\v=w':=by cases t<;>exact h'
  exact e.2.symm.trans e'.2
 | k::p,.n kd ts,v,n,n',w,w',h,h'=>by
  simp only[aD]at h h';obtain⟨a,xs,t1,x1,rfl,e2,hl,et,ex,h⟩:=h;obtain⟨a',R7,Z4,ZY,ea,NW,Vt,Wh,UI,h'⟩:=h';cases ea;have e9:xs=R7:=Kd.inj (k:=kd) (by rw[e2]at NW;injection NW) hl Vt
  subst e9;rw[et]at Wh;cases Wh;rw[ex]at UI;cases UI;exact aD.AI h h'
 |k::p,.d _,v,n,n',w,w',h,_=>h.elim
theorem Ly (i : Nat) (hu:X.A.units+64<cLine) (ho:XL X i o f) (hk:XE X k g) (he:XX X e h) (hs:swapsWith e (some (.Subscript o k p3)) pos.line X.env=pure false:=by exact cY (by rfl)):XS X (.Assign [.Subscript o k p3] e pos) (qT i f g h):=⟨have ho:=ho.out;have hk:=hk.out;have he:=he.out;λF0=>
 cx (L2.vU (by omega) ho hk he hs) λD σ H=>by
  rintro⟨ρ,F,fl,r,e,q⟩
  obtain⟨u,eu,e⟩:=ao.mp e;obtain⟨p,ep,e⟩:=ao.mp e;obtain⟨y,ey,e⟩:=ao.mp e;split at e
  ·rename_i t z q1 hz
   split at e
   ·rename_i ks ts NM
    split at e
    ·rename_i hc
     cases e;obtain⟨⟨w,WT,ew,tr,nd⟩,_,_⟩:=r.rs.on i _ q1;refine⟨ρ,F,u,r.rs,eu,λv H1 F1 as s1 hn Yz hF WJ=>?_⟩;obtain⟨OL,r1⟩:=r.rs.wide s1 hn hF (λb hb=>(WJ.fs b hb).2);refine⟨ρ,F1,t,w,p,_,r1,q1,ew,ep,NM,λv0 H2 s2 at2=>⟨ρ,F1,y,r1.same s2,ey,λw2 H3 s3 Ot=>?_⟩⟩;have TN:aj H H3:=s1.trans (s2.trans s3);obtain⟨v',Tx⟩:=aD.ex tr NM;have ev:v'=v0:=aD.AI (aD.same r.rs q1 ew TN Tx) (aD.same (r1.same s2) q1 ew s3 at2);subst ev;obtain⟨bs,tp,sub⟩:=aD.part tr Tx;have Uo:=tp;simp only[eG,eQ,eM,eN]at tp;obtain⟨a,xs,cs,rfl,rfl,fa,ha,hl,Nj⟩:=tp;have PD:=nd.sublist sub;have QM:=PP.mp PD;cases jy hz Ot
     have RB:(ks.zip xs).length<sizeLine:=by
      have:(sizeLine:Nat)=16777216:=aaj;rw[aam];omega
     refine⟨a,_,rfl,L2.kB.k (TN _ _ ha) RB,?_⟩;rw[pW z v hl,Gc hc.2];have Qv:a∉as:=λhb=>by rw[hn a hb]at ha;cases ha
     have Vx:∀b,F b->F1 b:=λb f=>(hF b).mpr (.inl f);have VD:Mv F H F1 (upd H3 a (.dK ((ks++[z]).zip (xs++[v])))):=λb o n e=>⟨λf=>((hF b).mp f).elim n λhb=>(by rw[hn b hb]at e;cases e),by rw[L2.aJ (λz=>by subst z;exact n fa)];exact TN _ _ e⟩
     have X0:Mv F1 H1 F1 (upd H3 a (.dK ((ks++[z]).zip (xs++[v])))):=λb o n e=>⟨n,by rw[L2.aJ (λz=>by subst z;exact n (Vx _ fa))];exact(s2.trans s3) _ _ e⟩
     have RC:aq (aB X) (upd H3 a (.dK ((ks++[z]).zip (xs++[v])))) F1 (ts++[u]) (xs++[v]) (cs++as):=by
      refine aq.append (aq.mv VD (λb hb o f e=>⟨Vx b f,by rw[L2.aJ (λz=>by subst z;exact QM.1 hb)];exact TN _ _ e⟩) Nj) ?_
      rw[show as=as++[] by simp]
      simp only[aq];exact⟨v,[],as,[],rfl,rfl,WJ.mv X0 λb hb o f e=>⟨f,by rw[L2.aJ (λz=>by subst z;exact Qv hb)];exact(s2.trans s3) _ _ e⟩,rfl,rfl⟩
     have C:gL (aB X) H (upd H3 a (.dK ((ks++[z]).zip (xs++[v])))) F F1 a (.m ks ts) (.m (ks++[z]) (ts++[u])) (a::cs) (a::(cs++as)):=
      {
       old:=Uo
       mem:=AC
       new:=by
        simp only[eG,eQ,eM,eN];exact⟨a,_,_,rfl,rfl,Vx a fa,L2.bX,by rw[Fk,Fk,hl];rfl,RC⟩
       nd:=PP.mpr ⟨λhb=>(FS.mp hb).elim QM.1 Qv,KB.mpr ⟨QM.2,Yz,λb hb b' Ol z=>by
        subst z;obtain⟨_,o,e⟩:=Nj.fs b hb;rw[hn b Ol]at e;cases e⟩⟩
       out:=λb o n e=>by rw[L2.aJ n];exact TN _ _ e
       fs := λb=>by
        rw[hF b];constructor
        ·rintro(f|hb)
         ·exact .inl f
         ·exact .inr (Ax _ (Do _ hb))
        ·rintro(f|hb)
         ·exact .inl f
         ·rcases KM.mp hb with rfl|hb
          ·exact .inl fa
          ·rcases FS.mp hb with hb|hb
           ·exact .inl (Nj.fs b hb).1
           ·exact .inr hb
       j3:=λb hb=>by
        rcases KM.mp hb with rfl|hb
        ·exact .inl AC
        ·rcases FS.mp hb with hb|hb
         ·exact .inl (Ax _ hb)
         ·exact .inr (hn b hb)}
     obtain⟨mv,r'⟩:=r.uj q1 ew Tx C rfl;exact q _ _ _ mv r'
    ·cases e
   ·cases e
  ·cases e⟩
noncomputable def gM{α:Type}(is:List Nat)(xs:List α):List α:=is.filterMap (xs[·]?)
noncomputable def iS(n:Nat)(lo hi st:Option Int):List Nat:=sliceRange (sliceBounds lo hi st n).1 (sliceBounds lo hi st n).2.1 (sliceBounds lo hi st n).2.2
noncomputable def iE(fa:Ex)(fl fh fs:Option Ex):Ex:=λρ=>(fa ρ).bind λx=>(gR fl ρ).bind λl=>(gR fh ρ).bind λu=>(gR fs ρ).bind λz=>match x,z with
 |.lst ds,some k=>if k=0 then .bad else .ok (.lst (gM (iS ds.length l u (some k)) ds))
 |_,_=>.bad
theorem sM(h:Vals xs us):∀ {i:Nat} {x:V},xs[i]? =some x->∃u,us[i]? =some u/\RelV x u:=by
 induction h with
 |nil=>intro i x e;simp at e
 | cons q w ih=>
  intro i x e;cases i with
  |zero=>simp at e;subst e;exact⟨_,rfl,q⟩
  |succ i=>simpa using ih (by simpa using e)
theorem jv(h:Vals xs us):xs.length=us.length:=by
 induction h with
 |nil=>rfl
 |cons _ _ ih=>simp[ih]
theorem yF(r:ai M H F ds xs):∀is:List Nat,ai M H F (gM is ds) (gM is xs)
 |[]=>ai.nil
 | i::is=>by
  have ih:=yF r is;unfold gM at ih ⊢;rw[XU,XU];cases e:ds[i]? with
  | none=>
   have:xs[i]? =none:=by rw[abv]at e ⊢;rw[<-r.length];exact e
   rw[this];exact ih
  | some d=>
   obtain⟨x,hx,rx⟩:=r.get e;rw[hx];exact ai.cons rx ih
theorem AF(h:Vals xs us):∀is:List Nat,Vals (gM is xs) (is.filterMap (us.toArray[·]?))
 |[]=>.nil
 | i::is=>by
  have ih:=AF h is;unfold gM at ih ⊢;rw[XU,XU];have eu:us.toArray[i]? =us[i]? :=by simp
  rw[eu];cases e:xs[i]? with
  | none=>
   have:us[i]? =none:=by rw[abv]at e ⊢;rw[<-jv h];exact e
   rw[this];exact ih
  | some x=>
   obtain⟨u,hu,ru⟩:=sM h e;rw[hu];exact .cons ru ih
theorem An(ha:XE X e fa)(hl:XO X lo fl)(hh:XO X hi fh)(hs:XO X (some st) fs):XF X (.Subscript e (.Slice lo hi (some st) p2) pos) (iE fa fl fh fs):=⟨have ha:=ha.out;have hl:=hl.out;have hh:=hh.out;have hs:=hs.out;by
 intro pins s σ H Q I ⟨ρ,F,ds,hr,e,q⟩;obtain⟨x,ex,e⟩:=ao.mp e;obtain⟨l,el,e⟩:=ao.mp e;obtain⟨u,eu,e⟩:=ao.mp e;obtain⟨z,ez,e⟩:=ao.mp e
 have⟨k,dx,h1,h2,h3,h4⟩:∃k dx,x=.lst dx/\z=some k/\k≠0/\ds=gM (iS dx.length l u (some k)) dx:=by
  split at e
  ·split at e
   ·cases e
   ·rename_i hk;cases e;exact⟨_,_,rfl,rfl,hk,rfl⟩
  ·cases e
 subst h1 h2 h4;refine PyProof.Rows.Subscript_ (L2.aM (ha pins s σ H _ I ⟨ρ,F,_,hr,ex,λv H1 s1 rv=>(⟨s1,rv⟩:aj H H1/\Rep (aB X) H1 F (.lst dx) v)⟩) λv s1 ⟨x,H1,I1,r1,Oe,rv⟩=>?_)
 refine wpAny_Slice (L2.aM (hl pins s1 σ H1 (λo' H'=>o'=l/\aj H1 H') I1 ⟨ρ,F,_,hr.same Oe,el,λH2 s2=>⟨rfl,s2⟩⟩) λvl s2 ⟨o1,H2,I2,pl,YO,Ou⟩=>L2.aM (hh pins s2 σ H2 (λo' H'=>o'=u/\aj H2 H') I2 ⟨ρ,F,_,(hr.same Oe).same Ou,eu,λH3 s3=>⟨rfl,s3⟩⟩) λvu s3 ⟨o2,H3,I3,pu,Y8,U4⟩=>
  L2.aM (hs pins s3 σ H3 (λo' H'=>o'=some k/\aj H3 H') I3 ⟨ρ,F,_,((hr.same Oe).same Ou).same U4,ez,λH4 s4=>⟨rfl,s4⟩⟩) λvs s4 ⟨o3,H4,I4,ps,YF,Ue⟩=>?_)
 subst YO Y8 YF;have WR:=rv.mv (M:=aB X) (F':=F) (.same ((Ou.trans U4).trans Ue));simp only[Rep]at WR;obtain⟨a,xs,rfl,h1,rs⟩:=WR;cases r1;have I5:Inv X pins σ H4 {s4 with heap:=s4.heap.push {cls:=.type "slice",data:=.fields #[vl,vu,vs]} }:=I4.kept (t':=s4.toks) λb ob q=>sa _ q;obtain⟨its,Um,Wx,hz⟩:=I5.list h1.sq;have hlen:its.length=dx.length:=by rw[<-jv Um,rs.length]
 have Sq:(slicePick its.toArray o1 o2 (some k)).toList=(iS dx.length o1 o2 (some k)).filterMap (its.toArray[·]?):=by
  unfold slicePick iS;rw[Da,hlen]
 have hsz:(slicePick its.toArray o1 o2 (some k)).size<=sizeLine:=S3 (slicePick_size_le _ _ _ _) (by rw[Da, <-jv Um];exact hz)
 refine abR (ops:=[.ref a,.ref s4.heap.objs.size]) Wx.isList.typeIs list_getitem_lookup (ads Wx.isList (Heap.IsSliceOf.new ..) pl pu ps (by simpa using h3) ?_ (by rw[Da, <-jv Um];exact hz)) (by with_unfolding_all rfl)
 have vp:=AF Um (iS dx.length o1 o2 (some k));rw[<-Sq]at vp;have I6:=I5.sZ (t':=s4.toks) (ys:=gM (iS dx.length o1 o2 (some k)) xs) (its:=(slicePick its.toArray o1 o2 (some k)).toList) vp (by rw[jv vp,aaO];exact hsz)
 rw[show(slicePick its.toArray o1 o2 (some k))=(slicePick its.toArray o1 o2 (some k)).toList.toArray by simp]
 exact⟨.ref _,_,I6,rfl,q _ H4 _ (((Oe.trans Ou).trans U4).trans Ue) I5.fresh (yF rs _)⟩⟩
theorem A1(ρ:En)(d:D)(h:iE fa fl fh fs ρ=.ok d):∃ds,d=.lst ds:=by
 obtain⟨x,ex,e⟩:=ao.mp h;obtain⟨l,el,e⟩:=ao.mp e;obtain⟨u,eu,e⟩:=ao.mp e;obtain⟨z,ez,e⟩:=ao.mp e;split at e
 ·split at e
  ·cases e
  ·cases e;exact⟨_,rfl⟩
 ·cases e
end
end PL
namespace PL
open PySem PySem.Spec
def kO(h:Heap)(z TI TO:Addr)(f0 f1:Value):Prop:=h.get? z=some {cls:=.type "zip",data:=.fields #[f0,f1,.bool false,.ref TI,.ref TO]}
section
variable{prog:Program}{w:World}{A:Around}{E:Value->Shared->Prop}{s:Shared}
theorem BH{z TI TO T:Addr}{oT:Obj}{f:Bool}(hz:kO s.heap z TI TO (rawInt T) (.bool f))(hT:s.heap.get? T=some oT):
  wpAny (model prog w) A (Builtin.SmallTypes.ownedTupleIsFree (.ref z)) (λb s'=>b=false/\∃h0,s'={s with heap:=h0}/\kO h0 z TI TO (rawInt T) (.bool true)/\Heap.SameBut z s.heap h0) E s:=by
 unfold Builtin.SmallTypes.ownedTupleIsFree;refine tB (aaR hz rfl (x:=rawInt T) rfl ?_);show wpAny _ _ (loadIfAlive ((T:Int).toNat) >>= _) _ _ _;rw[aaW];refine tB (PySem.W.kdx_alive hT ?_);rw[Gc (by simp)]
 refine tB (aaR hz rfl (x:=.bool f) rfl ?_);cases f with
 | true=>
  rw[Gc (by decide)]
  exact FM ⟨rfl,s.heap,rfl,hz,Heap.SameBut.refl _ _⟩
 | false=>
  rw[DM (by decide)]
  refine tB (wpAny_setField_rec hz (by simp) λh3 Y7 Uz=>?_)
  exact FM ⟨rfl,h3,rfl,Y7,Uz⟩
theorem Ea{z TI TO i1 i2 l1 l2 T:Addr}{oT:Obj}{f:Bool}{k:Nat}{xs ys:Array Value}{x y:Value}{Q:S2->Shared->Prop}(hh:A.handled=none)(D:ZipApart z TI TO i1 i2 l1 l2)
  (hz:kO s.heap z TI TO (rawInt T) (.bool f)) (hT:s.heap.get? T=some oT) (RY:IsPair s.heap TI (.ref i1) (.ref i2))
  (h1:s.heap.IsListIter i1 l1 k) (h2:s.heap.IsListIter i2 l2 k) (cg:s.heap.IsList l1 xs) (d6:s.heap.IsList l2 ys) (hx:xs[k]? =some x) (hy:ys[k]? =some y)
  (hQ:∀h' tk,kO h' z TI TO (rawInt T) (.bool true)->h'.IsListIter i1 l1 (k+1)->h'.IsListIter i2 l2 (k+1)->IsPair h' s.heap.objs.size x y->
   (∀c o,c≠z->c≠i1->c≠i2->s.heap.get? c=some o->h'.get? c=some o)->Q (some (.ref s.heap.objs.size)) {s with heap:=h',toks:=tk}):
  wpAny (model prog w) A (pyNext (.ref z)) Q E s:=by
 have TC:s.TypeIs (.ref z) "zip":=⟨_,hz,rfl⟩;have Ud:A.in1.handled=none:=by simp[hh]
 unfold pyNext;refine tB (wpAny_attempt (abV (name:=Str.ofString "__next__") TC ach (acQ ach TC F.entry_zip_next ?_ (F.args_zip_next_1 _))));show wpAny _ _ (PySem.field (.ref z) 2 >>= _) _ _ _;refine tB (aaR hz rfl (x:=.bool false) rfl ?_);show wpAny _ _ (PySem.field (.ref z) 3 >>= _) _ _ _;refine tB (aaR hz rfl (x:=.ref TI) rfl (tB (acr RY rfl ?_)));show wpAny _ _ (Builtin.SmallTypes.ownedTupleIsFree (.ref z) >>= _) _ _ _;refine tB (SL (BH hz hT) (λb s' hb=>?_) λ_ _ h=>h);obtain⟨rfl,h0,rfl,UO,Qn⟩:=hb;rw[Gc (by decide)]
 have a9:h0.IsListIter i1 l1 k/\h0.IsList l1 xs:=⟨h1.at λo e=>Qn.extBut _ _ D.i1z e,cg.at λo e=>Qn.extBut _ _ D.l1z e⟩;have PX:h0.IsListIter i2 l2 k/\h0.IsList l2 ys:=⟨h2.at λo e=>Qn.extBut _ _ D.i2z e,d6.at λo e=>Qn.extBut _ _ D.l2z e⟩;have D1:=Draws.list (prog:=prog) (w:=w) Ud i1 l1 D.l1i1 xs;have D2:=Draws.list (prog:=prog) (w:=w) Ud i2 l2 D.l2i2 ys;have k1:k<xs.size:=(abn.mp hx).1;have k2:k<ys.size:=(abn.mp hy).1;refine tB ?_;rw[<-adt];simp only[aaS,adQ];refine tB (tB (Wp ?_));show wpAny _ _ (Builtin.SmallTypes.nextOf (.ref i1) >>= _) _ _ _;refine tB (D1.item k _ _ _ k1 a9 λx' hb tb px YW Pz=>FM (FM ?_));rw[hx]at px;cases px;dsimp only;refine tB (tB (Wp ?_));show wpAny _ _ (Builtin.SmallTypes.nextOf (.ref i2) >>= _) _ _ _;have U3:hb.IsListIter i2 l2 k/\hb.IsList l2 ys:=⟨PX.1.at λo e=>Pz.extBut _ _ D.i12.symm e,PX.2.at λo e=>Pz.extBut _ _ D.l2i1 e⟩;refine tB (D2.item k _ _ _ k2 U3 λy' hc tc py Xk Uj=>FM (FM ?_));rw[hy]at py;cases py;dsimp only;refine FM ?_;dsimp only;refine tB (wpAny_newTuple ?_ (hsz:=by show 2<=sizeLine;rw[aaj];decide))
 have hsz:hc.objs.size=s.heap.objs.size:=by rw[Uj.1,Pz.1,Qn.1]
 refine FM ⟨_,rfl,FM ?_⟩;show Q (some (.ref hc.objs.size)) _;have up:∀c o,hc.get? c=some o->(hc.push {cls:=.type "tuple",data:=.seq #[x,y]}).get? c=some o:=λc o e=>sa _ e;rw[hsz]
 refine hQ _ _ (up _ _ (Uj.extBut _ _ D.i2z.symm (Pz.extBut _ _ D.i1z.symm UO))) (YW.1.at λo e=>up _ _ (Uj.extBut _ _ D.i12 e)) (Xk.1.at λo e=>up _ _ e) (by
  show(hc.push _).get? s.heap.objs.size=_;rw[<-hsz];exact KF _ rfl) λc o n1 n2 n3 e=>up _ _ (Uj.extBut _ _ n3 (Pz.extBut _ _ n2 (Qn.extBut _ _ n1 e)))
theorem GU{z TI TO i1 i2 l1 l2 T:Addr}{oT:Obj}{f:Bool}{xs:Array Value}{Q:S2->Shared->Prop}(hh:A.handled=none)(D:ZipApart z TI TO i1 i2 l1 l2)
  (hz:kO s.heap z TI TO (rawInt T) (.bool f)) (hT:s.heap.get? T=some oT) (RY:IsPair s.heap TI (.ref i1) (.ref i2)) (h1:s.heap.IsListIter i1 l1 xs.size) (cg:s.heap.IsList l1 xs)
  (hQ:∀h' tk,(∀c o,c≠z->c≠i1->s.heap.get? c=some o->h'.get? c=some o)->Q none {s with heap:=h',toks:=tk}):wpAny (model prog w) A (pyNext (.ref z)) Q E s:=by
 have TC:s.TypeIs (.ref z) "zip":=⟨_,hz,rfl⟩;have Ud:A.in1.handled=none:=by simp[hh]
 unfold pyNext;refine tB (wpAny_attempt (abV (name:=Str.ofString "__next__") TC ach (acQ ach TC F.entry_zip_next ?_ (F.args_zip_next_1 _))));show wpAny _ _ (PySem.field (.ref z) 2 >>= _) _ _ _;refine tB (aaR hz rfl (x:=.bool false) rfl ?_);show wpAny _ _ (PySem.field (.ref z) 3 >>= _) _ _ _;refine tB (aaR hz rfl (x:=.ref TI) rfl (tB (acr RY rfl ?_)));show wpAny _ _ (Builtin.SmallTypes.ownedTupleIsFree (.ref z) >>= _) _ _ _;refine tB (SL (BH hz hT) (λb s' hb=>?_) λ_ _ h=>h);obtain⟨rfl,h0,rfl,UO,Qn⟩:=hb;rw[Gc (by decide)]
 have a9:h0.IsListIter i1 l1 xs.size/\h0.IsList l1 xs:=⟨h1.at λo e=>Qn.extBut _ _ D.i1z e,cg.at λo e=>Qn.extBut _ _ D.l1z e⟩;have D1:=Draws.list (prog:=prog) (w:=w) Ud i1 l1 D.l1i1 xs;refine tB ?_;rw[<-adt];simp only[aaS,adQ];refine tB (tB (Wp ?_));show wpAny _ _ (Builtin.SmallTypes.nextOf (.ref i1) >>= _) _ _ _;refine tB (D1.done _ _ _ a9 λhb e Pz he=>?_);obtain⟨o,ho,hc⟩:=he;refine tB (wpAny_isInstance (T:="StopIteration") (b:=true) ⟨o,ho,hc⟩ isSubtype_stop ?_);exact FM (hQ _ _ λc o n1 n2 e=>Pz _ _ n2 (Qn.extBut _ _ n1 e))
structure ZL(h0 h:Heap)(z TI TO i1 i2 l1 l2 S:Addr)(xs ys:Array Value)(i:Nat)(acc:Array Value)(c:Nat):Prop where
 zs:(i=0/\IsZip h z TI TO .none/\∃a b,IsPair h TO a b)\/∃(T:Addr) (oT:Obj) (f:Bool),kO h z TI TO (rawInt T) (.bool f)/\h.get? T=some oT/\S<T
 ti:IsPair h TI (.ref i1) (.ref i2)
 h1:h.IsListIter i1 l1 i
 h2:h.IsListIter i2 l2 i
 cg:h.IsList l1 xs
 d6:h.IsList l2 ys
 lst:h.get? S=some {cls:=.type "list",dict:=none,data:=.seq acc c,slots:= #[]}
 sz:acc.size=i
 its:∀j,j<i->∃T x y,acc[j]? =some (.ref T)/\xs[j]? =some x/\ys[j]? =some y/\IsPair h T x y/\S<T
 old:∀c o,c≠z->c≠TO->c≠i1->c≠i2->c≠S->h0.get? c=some o->h.get? c=some o
theorem Kx(hh:A.handled=none)(D:ZipApart z TI TO i1 i2 l1 l2)(Z:ZL h0 s.heap z TI TO i1 i2 l1 l2 S xs ys i acc c)(hx:xs[i]? =some x)(hy:ys[i]? =some y):
  wpAny (model prog w) A (pyNext (.ref z)) (λr s'=>∃h' tk,r=some (.ref s.heap.objs.size)/\s'={s with heap:=h',toks:=tk}/\(∃(T:Addr) (oT:Obj) (f:Bool),kO h' z TI TO (rawInt T) (.bool f)/\h'.get? T=some oT/\S<T)/\
   h'.IsListIter i1 l1 (i+1)/\h'.IsListIter i2 l2 (i+1)/\IsPair h' s.heap.objs.size x y/\∀c o,c≠z->c≠TO->c≠i1->c≠i2->s.heap.get? c=some o->h'.get? c=some o) E s:=by
 have hS:S<s.heap.objs.size:=GE Z.lst;rcases Z.zs with⟨rfl,hz,a,b,Sh⟩|⟨T,oT,f,hz,hT,lt⟩
 ·refine wpAny_pyNext_zip_item D hz Z.ti Sh Z.h1 Z.h2 Z.cg Z.d6 hx hy λh' a1 a2 a3 a4 a5 a6 a7=>⟨h',s.toks,rfl,rfl,⟨s.heap.objs.size,_,false,a1,a5,hS⟩,a3,a4,a5,a7⟩
 ·have Tn:∀c,c<S->T≠c:=λc hc z=>by subst z;exact aae _ (abM hc lt)
  refine Ea hh D hz hT Z.ti Z.h1 Z.h2 Z.cg Z.d6 hx hy λh' tk a1 a2 a3 a4 a5=>⟨h',tk,rfl,rfl,?_,a2,a3,a4,λc o n1 _ n3 n4 e=>a5 c o n1 n3 n4 e⟩;by_cases t1:T=i1
  ·obtain⟨o,e,_⟩:=id a2
   exact⟨T,o,true,a1,by rw[t1];exact e,lt⟩
  ·by_cases t2:T=i2
   ·obtain⟨o,e,_⟩:=id a3
    exact⟨T,o,true,a1,by rw[t2];exact e,lt⟩
   ·by_cases t3:T=z
    ·exact⟨T,_,true,a1,by rw[t3];exact a1,lt⟩
    ·exact⟨T,oT,true,a1,a5 T oT t3 t1 t2 hT,lt⟩
variable{R:Result->Shared->Prop}
structure ZF(h0 h:Heap)(z TO i1 i2 S:Addr)(xs ys:Array Value)(acc:Array Value)(c:Nat):Prop where
 lst:h.get? S=some {cls:=.type "list",dict:=none,data:=.seq acc c,slots:= #[]}
 sz:acc.size=xs.size
 its:∀j,j<xs.size->∃T x y,acc[j]? =some (.ref T)/\xs[j]? =some x/\ys[j]? =some y/\IsPair h T x y/\S<T
 old:∀c o,c≠z->c≠TO->c≠i1->c≠i2->c≠S->h0.get? c=some o->h.get? c=some o
theorem Jg(hh:A.in1.handled=none)(D:ZipApart z TI TO i1 i2 l1 l2)(low:z<S/\TI<S/\TO<S/\i1<S/\i2<S/\l1<S/\l2<S)(hn:xs.size<=sizeLine)(WB:xs.size=ys.size):
  ∀(k i:Nat) (s:Shared) (acc:Array Value) (c:Nat),xs.size - i=k->i<=xs.size->ZL h0 s.heap z TI TO i1 i2 l1 l2 S xs ys i acc c->
   (∀h' tk RG c',ZF h0 h' z TO i1 i2 S xs ys RG c'->R (.ok (.ret .none)) {s with heap:=h',toks:=tk})->codeAny (model prog w) A (.builtin "list.extend.loop" ⟨[.ref S,.ref z,.none],[]⟩) R s:=by
 obtain⟨b1,b2,b3,b4,b5,b6,b7⟩:=low;have gt:∀ {T c:Addr},S<T->c<S->T≠c:=λh1 h2 z=>by subst z;exact aae _ (abM h1 h2)
 intro k
 induction k with
 | zero=>
  intro i s acc c hk hi Z hR;have e:i=xs.size:=by omega
  subst e;refine abu F.entry_extend_loop ?_;rw[abp aby _];show wpAny _ A.in1 (pyNext (.ref z) >>= _) _ _ s
  have fin:∀h',(∀c o,c≠z->c≠TO->c≠i1->c≠i2->s.heap.get? c=some o->h'.get? c=some o)->ZF h0 h' z TO i1 i2 S xs ys acc c:=λh' hk=>by
   refine⟨hk S _ (Z7 b1) (Z7 b3) (Z7 b4) (Z7 b5) Z.lst,Z.sz,λj hj=>?_,λc o n1 n2 n3 n4 n5 e=>hk c o n1 n2 n3 n4 (Z.old c o n1 n2 n3 n4 n5 e)⟩;obtain⟨T,x,y,a1,a2,a3,a4,a5⟩:=Z.its j hj;exact⟨T,x,y,a1,a2,a3,hk T _ (gt a5 b1) (gt a5 b3) (gt a5 b4) (gt a5 b5) a4,a5⟩
  rcases Z.zs with⟨ZT,hz,a,b,Sh⟩|⟨T,oT,f,hz,hT,lt⟩
  ·refine tB (wpAny_pyNext_zip_end hh D hz Z.ti Sh Z.h1 Z.h2 Z.cg Z.d6 (.inl (by simp)) λh' hk=>?_)
   exact FM (hR h' s.toks acc c (fin h' hk))
  ·refine tB (GU hh D hz hT Z.ti Z.h1 Z.cg λh' tk hk=>?_)
   exact FM (hR h' tk acc c (fin h' λc o n1 _ n3 _ e=>hk c o n1 n3 e))
 | succ k ih=>
  intro i s acc c hk hi Z hR;have Nl:i<xs.size:=by omega
  have hx:xs[i]? =some xs[i]:=abx Nl;have hy:ys[i]? =some (ys[i]'(by omega)):=abx (by omega)
  generalize xs[i]=x at hx;generalize ys[i]'(by omega)=y at hy
  have Tp:S<s.heap.objs.size:=GE Z.lst;refine abu F.entry_extend_loop ?_;rw[abp aby _];show wpAny _ A.in1 (pyNext (.ref z) >>= _) _ _ s;refine tB (SL (Kx hh D Z hx hy) (λr s' hr=>?_) λ_ _ h=>h);obtain⟨h',tk,rfl,rfl,Zl,a1,a2,a3,Qo⟩:=hr;have T9:=Qo S _ (Z7 b1) (Z7 b3) (Z7 b4) (Z7 b5) Z.lst;show wpAny _ A.in1 (updateSeq S (·.push (.ref s.heap.objs.size)) >>= _) _ _ _
  refine tB ?_;have up:∀c o,c≠S->h'.get? c=some o->(h'.update S (Obj.mapSeq (·.push (.ref s.heap.objs.size)))).get? c=some o:=λc o hc e=>(aaa _ _ (W1 hc)).trans e
  have Z':∃c',ZL h0 (h'.update S (Obj.mapSeq (·.push (.ref s.heap.objs.size)))) z TI TO i1 i2 l1 l2 S xs ys (i+1) (acc.push (.ref s.heap.objs.size)) c':=by
   refine⟨_,.inr ?_,up _ _ (GT b2) (Qo TI _ D.TIz D.TITO D.TIi1 D.TIi2 Z.ti),a1.at λo e=>up _ _ (GT b4) e,a2.at λo e=>up _ _ (GT b5) e,Z.cg.at λo e=>up _ _ (GT b6) (Qo _ _ D.l1z D.l1TO D.l1i1 D.l1i2 e),Z.d6.at λo e=>up _ _ (GT b7) (Qo _ _ D.l2z D.l2TO D.l2i1 D.l2i2 e),aaJ _ T9 rfl,by rw[adG,Z.sz],λj hj=>?_,λc o n1 n2 n3 n4 n5 e=>up c o n5 (Qo c o n1 n2 n3 n4 (Z.old c o n1 n2 n3 n4 n5 e))⟩
   ·obtain⟨T,oT,f,z1,z2,z3⟩:=Zl
    exact⟨T,oT,f,up _ _ (GT b1) z1,up _ _ (Z7 z3) z2,z3⟩
   ·by_cases Ti:j=i
    ·subst Ti
     exact⟨s.heap.objs.size,x,y,by rw[<-Z.sz];simp,hx,hy,up _ _ (Z7 Tp) a3,Tp⟩
    ·obtain⟨T,x',y',c1,c2,c3,c4,c5⟩:=Z.its j (by omega)
     refine⟨T,x',y',?_,c2,c3,up _ _ (Z7 c5) (Qo T _ (gt c5 b1) (gt c5 b3) (gt c5 b4) (gt c5 b5) c4),c5⟩;rw[Array.getElem?_push_lt (by rw[Z.sz];omega)]
     rw[abx (by rw[Z.sz];omega)]at c1
     exact c1
  obtain⟨c',Z'⟩:=Z';exact aci T9 rfl (FM ⟨acA aby _,ih (i+1) _ (acc.push (.ref s.heap.objs.size)) c' (by omega) Nl Z' hR⟩) (by rw[Z.sz];omega) (by show(acc.push _).size<=sizeLine+1;rw[adG,Z.sz];omega)
end
theorem Gj(hh:A.handled=none)(D:ZipApart z TI TO i1 i2 l1 l2)
  (hz:IsZip s.heap z TI TO .none) (RY:IsPair s.heap TI (.ref i1) (.ref i2)) (Sh:IsPair s.heap TO a b)
  (h1:s.heap.IsListIter i1 l1 0) (h2:s.heap.IsListIter i2 l2 0) (cg:s.heap.IsList l1 xs) (d6:s.heap.IsList l2 ys) (hn:xs.size<=sizeLine) (WB:xs.size=ys.size)
  (hQ:∀h' tk acc c,ZF s.heap h' z TO i1 i2 s.heap.objs.size xs ys acc c->Q (.ref s.heap.objs.size) {s with heap:=h',toks:=tk}):
  wpAny (model prog w) A (call (.type "list") [.ref z]) Q E s:=by
 refine callType_codes (Q₁:=λobj MO=>obj=.ref s.heap.objs.size/\MO={s with heap:=s.heap.push {cls:=.type "list",data:=.seq #[]} }) F.called_list (F.typeCall_list_1 _) F.entry_list_init
  (code_list_new _ ⟨rfl,rfl⟩) λobj MO Oi=>?_
 obtain⟨rfl,rfl⟩:=Oi;have hS:(s.heap.push {cls:=.type "list",data:=.seq #[]}).get? s.heap.objs.size=some {cls:=.type "list",data:=.seq #[]}:=KF _ rfl;refine⟨⟨_,hS,rfl⟩,F.args_list_init_2 _ _,?_⟩;have lo:∀ {b o},s.heap.get? b=some o->b<s.heap.objs.size:=λe=>GE e;have lt:∀ {b o},s.heap.get? b=some o->b≠s.heap.objs.size:=λe=>GT (lo e);have Wf:=lt hz
 have low:z<s.heap.objs.size/\TI<s.heap.objs.size/\TO<s.heap.objs.size/\i1<s.heap.objs.size/\i2<s.heap.objs.size/\l1<s.heap.objs.size/\l2<s.heap.objs.size:=
  ⟨lo hz,lo RY,lo Sh,let⟨_,e,_⟩:=h1;lo e,let⟨_,e,_⟩:=h2;lo e,let⟨_,e,_⟩:=cg;lo e,let⟨_,e,_⟩:=d6;lo e⟩
 generalize hp:s.heap.objs.size=S at*;show wpAny _ A.in1.in1 (do let old <-Builtin.List.listItems (.ref S);Builtin.List.listUpdate (.ref S) (λ_=> #[]);letGo old.toList.reverse;Builtin.List.listExtendWith (.ref S) (.ref z) .none) _ _ _
 refine tB ?_;unfold Builtin.List.listItems;refine tB (acr hS rfl (FM ?_));show wpAny _ A.in1.in1 (updateSeq S (λ_=> #[]) >>= λ_=>letGo (#[]:Array Value).toList.reverse >>= λ_=>Builtin.List.listExtendWith (.ref S) (.ref z) .none) _ _ _;refine tB (aci hS rfl ?_);have Q2:=aaJ (Obj.mapSeq (λ_=>(#[]:Array Value))) hS rfl;refine tB (wpAny_letGo ?_);unfold Builtin.List.listExtendWith;have k2:∀b o,b≠S->s.heap.get? b=some o->((s.heap.push {cls:=.type "list",data:=.seq #[]}).update S (Obj.mapSeq λ_=>(#[]:Array Value))).get? b=some o:=λb o hb e=>(aaa _ _ (W1 hb)).trans (sa _ e);have O6:=k2 _ _ Wf hz;refine tB (acH ⟨_,O6,rfl⟩ ?_);have e1:Builtin.List.listSameRef (.ref S) (.ref z)=false:=by simp[Builtin.List.listSameRef,W1 Wf]
 have e2:(Value.type "zip"==Value.type "list")=false:=by decide
 have e3:(Value.type "zip"==Value.type "tuple")=false:=by decide
 simp only[e1,e2,e3,Bool.or_false,aaT,abD];refine tB (wpAny_pyIter_zip O6 ?_);refine tB (Wp ?_);unfold Builtin.List.listLengthHint;refine tB (acY ⟨_,O6,rfl⟩ IE ?_);show wpAny _ _ (specialOf (Value.ref z) (Str.ofString "__length_hint__") >>= _) _ _ _;refine tB (acY ⟨_,O6,rfl⟩ G1 ?_);refine FM ?_
 show wpAny _ _ (rule "list.extend.makes-room" >>= λ_=>Builtin.List.listTouch (.ref S) >>= λ_=>
  again (.builtin "list.extend.loop" ⟨[.ref S,.ref z,.none],[]⟩)) _ _ _
 refine tB (wpAny_rule ?_);refine tB ?_;show wpAny _ _ (updateSeq S (·.push .none) >>= λ_=>updateSeq S (·.pop)) _ _ _
 refine tB (aci Q2 rfl ?_);have Q8:=aaJ (Obj.mapSeq (·.push Value.none)) Q2 rfl
 refine aci (hz:=by seq_fits) Q8 rfl ?_
 have TF:=aaJ (Obj.mapSeq (·.pop)) Q8 rfl
 refine FM ⟨acA aby _,?_⟩
 have k4:∀b o,b≠S->s.heap.get? b=some o->((((s.heap.push {cls:=.type "list",data:=.seq #[]}).update S (Obj.mapSeq λ_=>(#[]:Array Value))).update S (Obj.mapSeq (·.push Value.none))).update S (Obj.mapSeq (·.pop))).get? b=some o:=λb o hb e=>
  (aaa _ _ (W1 hb)).trans ((aaa _ _ (W1 hb)).trans (k2 b o hb e))
 obtain⟨b1,b2,b3,b4,b5,b6,b7⟩:=id low
 refine Jg (h0:=s.heap) (by simp[hh]) D low hn WB (xs.size - 0) 0 _ #[] _ (by omega) (aay _)
  ⟨.inl ⟨rfl,k4 _ _ (GT b1) hz,a,b,k4 _ _ (GT b3) Sh⟩,k4 _ _ (GT b2) RY,h1.at λo e=>k4 _ _ (GT b4) e,h2.at λo e=>k4 _ _ (GT b5) e,cg.at λo e=>k4 _ _ (GT b6) e,d6.at λo e=>k4 _ _ (GT b7) e,TF,rfl,λj hj=>by omega,λc o _ _ _ _ n5 e=>k4 c o n5 e⟩ λh' tk RG c' zf=>?_
 exact⟨rfl,hQ h' tk RG c' zf⟩
open L2 (V Hp HO Cx PE PT PW PA PS bC PG cb VK TE TT TA TS TI TG Inv RelV Vals Rd aU bj upd aj Key XK Ends aR cB bq R2 EP It Turn bS Un)
section
variable{X:Cx}{M:Md}{G H H':Hp}{F0:Gf}{F F':YK}{σ:L2.St}{ρ:En}{pos:Pos}{pins:List (Addr×Obj)}{s:Shared}{h':Heap}
theorem HV(I:Inv X pins σ H s)(k:∀b u,s.heap.get? b=some u->h'.get? b=some u)(low:∀b,b<s.heap.objs.size->H' b=H b)(aC:L2.bx X.prog X.w H' h'):Inv X pins σ H' {s with heap:=h',toks:=t'}:=
 I.un ⟨λb o q _ _ _=>k b o q,λb o q _ _ _=>⟨o.slots,k b o q⟩,λb o q n _=>by rw[low b (GE q)];exact n,λb o q _=>⟨o,k b o q⟩,
  λb xs q=>by rw[low b (I.aC.lt q)];exact q,λb o u q=>by rw[low b (I.aC.lt q)];exact q,λb ps q=>by rw[low b (I.aC.lt q)];exact q⟩ aC
theorem CK{t' n:Nat}{S:Addr}{ad:Nat->Addr}{vx vy:Nat->V}{ux uy:Nat->Value}{acc:S1}{c:Nat}(I:Inv X pins σ H s)(k:∀b u,s.heap.get? b=some u->h'.get? b=some u)(hS:s.heap.objs.size<=S)(Rm:∀j,j<n->S<ad j)
  (hp:∀j,j<n->IsPair h' (ad j) (ux j) (uy j)) (rx:∀j,j<n->RelV (vx j) (ux j)) (ry:∀j,j<n->RelV (vy j) (uy j)) (hn:n<=sizeLine) (hl:h'.get? S=some {cls:=.type "list",data:=.seq acc.toArray c}) (ha:acc=(List.range n).map λj=>.ref (ad j)):
  ∃H2,aj H H2/\H2 S=none/\(∀j,j<n->H2 (ad j)=some (.tup [vx j,vy j])/\H (ad j)=none)/\Inv X pins σ (upd H2 S (.lst ((List.range n).map λj=>.ref (ad j)))) {s with heap:=h',toks:=t'}:=by
 classical
 let H2:Hp:=λb=>if b<s.heap.objs.size then H b else if hb:∃j,j<n/\ad j=b then some (.tup [vx (Classical.choose hb),vy (Classical.choose hb)])else none
 have lo:∀b,b<s.heap.objs.size->H2 b=H b:=λb hb=>DM hb
 have Wr:∀j,j<n->H2 (ad j)=some (.tup [vx j,vy j]):=λj hj=>by
  have n1:¬ad j<s.heap.objs.size:=Nat.not_lt.mpr (abL (abt hS (Rm j hj)));have hb:∃i,i<n/\ad i=ad j:=⟨j,hj,rfl⟩
  have e0:H2 (ad j)=some (.tup [vx (Classical.choose hb),vy (Classical.choose hb)]):=by
   show(if ad j<s.heap.objs.size then H (ad j)else if hb:∃i,i<n/\ad i=ad j then some (HO.tup [vx (Classical.choose hb),vy (Classical.choose hb)])else none)=_
   rw[Gc n1,dif_pos hb]
  obtain⟨c1,c2⟩:=Classical.choose_spec hb;have p1:=hp _ c1;have p2:=hp j hj;rw[c2]at p1;have e1:=p1.symm.trans p2;injection e1 with e1;injection e1 with _ _ e1 _;injection e1 with e1 _;injection e1 with e1;injection e1 with ex e2;injection e2 with ey _;have gx:=rx _ c1;have gy:=ry _ c1;rw[ex]at gx;rw[ey]at gy;rw[e0,gx.inj (rx j hj),gy.inj (ry j hj)]
 have UD:H2 S=none:=by
  show(if S<s.heap.objs.size then H S else if hb:∃i,i<n/\ad i=S then some (HO.tup [vx (Classical.choose hb),vy (Classical.choose hb)])else none)=_
  rw[Gc (Nat.not_lt.mpr hS),dif_neg];rintro⟨j,hj,e⟩;have:=Rm j hj;rw[e]at this;exact aae _ this
 have sm:aj H H2:=λb o e=>by rw[lo b (I.aC.lt e)];exact e
 refine⟨H2,sm,UD,λj hj=>⟨Wr j hj,I.aC.fresh (abL (abt hS (Rm j hj)))⟩,HV I k (λb hb=>by rw[L2.aJ (GT (JK hb hS))];exact lo b hb) λb o e=>?_⟩
 have up:∀c u,H c=some u->upd H2 S (.lst ((List.range n).map λj=>.ref (ad j))) c=some u:=λc u q=>by rw[L2.aJ (GT (JK (I.aC.lt q) hS))];exact sm c u q
 by_cases hb:b=S
 ·subst hb
  rw[L2.bX]at e;cases e;refine⟨by simpa using hn,acc,c,?_,hl⟩
  subst ha
  have:∀l:List Nat,Vals (l.map λj=>V.ref (ad j)) (l.map λj=>Value.ref (ad j)):=λl=>by
   induction l with
   |nil=>exact .nil
   |cons a l ih=>exact .cons rfl ih
  exact this _
 ·rw[L2.aJ hb]at e
  by_cases Nl:b<s.heap.objs.size
  ·rw[lo b Nl]at e
   exact(I.aC b o e).iW (λc v _ q=>k c v q) (λc q=>up c _ q) (λc xs q=>up c _ q) λc xs q=>up c _ q
  ·have e:(if b<s.heap.objs.size then H b else if hb:∃i,i<n/\ad i=b then some (HO.tup [vx (Classical.choose hb),vy (Classical.choose hb)])else none)=some o:=e
   rw[Gc Nl]at e;by_cases NX:∃i,i<n/\ad i=b
   ·obtain⟨j,hj,rfl⟩:=NX
    have e2:=Wr j hj
    have e3:H2 (ad j)=some o:=by
     show(if ad j<s.heap.objs.size then H (ad j)else _)=_
     rw[Gc Nl];exact e
    rw[e2]at e3;cases e3;exact⟨by show 2<=sizeLine;rw[aaj];decide,[ux j,uy j],.cons (rx j hj) (.cons (ry j hj) .nil),⟨_,hp j hj,rfl,0,rfl⟩⟩
   ·rw[dif_neg NX]at e;cases e
end
noncomputable def k7:D->D->R D
 |.lst xs,.lst ys=>if xs.length=ys.length then .ok (.lst (je xs ys))else .bad
 |_,_=>.bad
theorem Ao:∀ {xs ys:List D},xs.length=ys.length->je xs ys=(List.range xs.length).map λj=>.tup [xs.getD j .aP,ys.getD j .aP]
 |[],[],_=>rfl
 |[],_::_,h=>by simp at h
 |_::_,[],h=>by simp at h
 | x::xs,y::ys,h=>by
  rw[PK,aaV,MG,Pv];show D.tup [x,y]::je xs ys=_;rw[Ao (by simpa using h)]
  rfl
section
variable{X:Cx}{M:Md}{G H H':Hp}{F0:Gf}{F F':YK}{σ:L2.St}{ρ:En}{pos:Pos}{pins:List (Addr×Obj)}{s:Shared}
theorem Dk(hm:X.mg "list"=none)(Qr:X.mg "zip"=none)(ha:XE X a fa)(hb:XE X b fb)(hc:X.calm=true:=by rfl)(hg:L2.Gl X "list":=by rfl)(VM:L2.Gl X "zip":=by rfl)(Tq:starEach [.Call (.Name "zip" p2) [a,b] [] pos2] X.env=(false,eval (.Call (.Name "zip" p2) [a,b] [] pos2) X.env)::starEach [] X.env:=by exact a9 (by rfl))(hs:starEach [a,b] X.env=(false,eval a X.env)::starEach [b] X.env:=by exact a9 (by rfl))(NU:starEach [b] X.env=(false,eval b X.env)::starEach [] X.env:=by exact a9 (by rfl)):XF X (.Call (.Name "list" p) [.Call (.Name "zip" p2) [a,b] [] pos2] [] pos) (e2 k7 fa fb):=⟨have ha:=ha.out;have hb:=hb.out;by
 intro pins s σ H Q I ⟨ρ,F,ds,hr,e,q⟩;obtain⟨x,ex,e⟩:=ao.mp e;obtain⟨y,ey,e⟩:=ao.mp e
 have⟨dx,dy,T2,h1,h2,h3⟩:∃dx dy,dx.length=dy.length/\x=.lst dx/\y=.lst dy/\ds=je dx dy:=by
  unfold k7 at e;split at e
  ·split at e
   ·rename_i hl;cases e;exact⟨_,_,hl,rfl,rfl,rfl⟩
   ·cases e
  ·cases e
 subst h1 h2 h3;refine aad (L2.iO I hg hm mw ?_ (by decide) (by decide))
 refine S8 ?_ Tq (by rfl)
 rw[Tq];show wpAny _ _ (spliced ((false,eval (.Call (.Name "zip" p2) [a,b] [] pos2) X.env)::backTo pos (starEach [] X.env))) _ _ s;refine acD (aad (L2.iO I VM Qr IL (S8 (L2.aM ((dO ha (dO hb gE NU) hs) pos2 pins s σ H _ I ⟨ρ,F,[.lst dx,.lst dy],hr,by show(fa ρ).bind _=_;rw[ex];show((fb ρ).bind _).bind _=_;rw[ey];rfl,λvs H1 s1 rv=>(⟨s1,rv⟩:aj H H1/\ai (aB X) H1 F [.lst dx,.lst dy] vs)⟩) λus s1 ⟨vs,H1,I1,r1,Oe,rv⟩=>?_) hs (by rw[NU];rfl)) (by decide) (by decide)))
 obtain⟨v1,v2,rfl,rx,ry⟩:=rv.two;simp only[Rep]at rx ry;obtain⟨l1,xs,rfl,g1,UN⟩:=rx;obtain⟨l2,ys,rfl,g2,V'⟩:=ry;obtain⟨u1,u2,rfl,SJ,TM⟩:=L2.vals2 r1;cases SJ;cases TM;obtain⟨Qd,VR,Xx,UL⟩:=I1.list g1.sq;obtain⟨NV,Rb,VW,_⟩:=I1.list g2.sq;have n1:Qd.length=dx.length:=by rw[<-jv VR,UN.length]
 have n2:NV.length=dx.length:=by rw[<-jv Rb, <-V'.length,T2]
 have cg:=Xx.isList;have d6:=VW.isList;refine callType_new PySem.F.called_zip (by decide) (PySem.F.typeCall_zip_2 _ _) (PySem.F.newCall_zip_2 _ _) (λobj=>PySem.F.args_object_init_3 obj _ _) PySem.F.entry_zip_new (meets_zip_new l1 l2 _ _) ⟨cg,d6,?_⟩
 have z1:(zipH1 s1.heap l1).objs.size=s1.heap.objs.size+1:=Z9 ..;have z2:(zipH2 s1.heap l1 l2).objs.size=s1.heap.objs.size+2:=by rw[Z9,z1]
 have z3:(zipH3 s1.heap l1 l2).objs.size=s1.heap.objs.size+3:=by rw[Z9,z2]
 have z4:(zipH4 s1.heap l1 l2).objs.size=s1.heap.objs.size+4:=by rw[Z9,z3]
 have z5:(zipH5 s1.heap l1 l2).objs.size=s1.heap.objs.size+5:=by rw[Z9,z4]
 have g5:(zipH5 s1.heap l1 l2).get? (zipH4 s1.heap l1 l2).objs.size=some _:=KF _ rfl;have g4:(zipH5 s1.heap l1 l2).get? (zipH3 s1.heap l1 l2).objs.size=some _:=sa _ (KF _ rfl);have g3:(zipH5 s1.heap l1 l2).get? (zipH2 s1.heap l1 l2).objs.size=some _:=sa _ (sa _ (KF _ rfl));have g2:(zipH5 s1.heap l1 l2).get? (zipH1 s1.heap l1).objs.size=some _:=sa _ (sa _ (sa _ (KF _ rfl)));have g1:(zipH5 s1.heap l1 l2).get? s1.heap.objs.size=some _:=sa _ (sa _ (sa _ (sa _ (KF _ rfl))));have old:∀c o,s1.heap.get? c=some o->(zipH5 s1.heap l1 l2).get? c=some o:=λc o x=>sa _ (sa _ (sa _ (sa _ (sa _ x))));have WH:l1<s1.heap.objs.size:=by obtain⟨o,e,_⟩:=id cg;exact GE e
 have Rp:l2<s1.heap.objs.size:=by obtain⟨o,e,_⟩:=id d6;exact GE e
 refine⟨⟨_,g5,rfl⟩,acG ?_⟩;have up:∀ {l:Addr} {xs:Array Value},s1.heap.IsList l xs->(zipH5 s1.heap l1 l2).IsList l xs:=λh=>let⟨o,e,r⟩:=h;⟨o,old _ _ e,r⟩
 have hh:X.A.handled=none:=I.ok.hd hc;rw[z2,z3,z4]at g5;rw[z1,z2]at g3;rw[z3]at g4;rw[z1]at g2;rw[z4];refine Gj hh ?_ g5 g3 g4 ⟨_,g1,rfl,rfl⟩ ⟨_,g2,rfl,rfl⟩ (up cg) (up d6) (by rw[Da, <-jv VR];exact UL) (by rw[Da,Da,n1,n2]) λh' tk acc c zf=>?_
 ·have a1:=GT WH
  have a2:=GT Rp;have b1:∀k,l1≠s1.heap.objs.size+k:=λk=>GT (JK WH (abb _ _));have b2:∀k,l2≠s1.heap.objs.size+k:=λk=>GT (JK Rp (abb _ _));constructor<;>first|exact a1|exact a2|exact b1 _|exact b2 _|(intro z;have z':(_:Nat)=_:=z;omega)
 ·have XM:Shared.heap {s1 with heap:=zipH5 s1.heap l1 l2}=zipH5 s1.heap l1 l2:=rfl
  rw[XM,z5]at zf;have hsz:Qd.toArray.size=dx.length:=by rw[Da,n1]
  have ch:∀j,∃T:Addr,j<dx.length->∃x y,acc[j]? =some (.ref T)/\Qd[j]? =some x/\NV[j]? =some y/\IsPair h' T x y/\s1.heap.objs.size+5<T:=λj=>by
   by_cases hj:j<dx.length
   ·obtain⟨T,x,y,e1,e2,e3,e4,e5⟩:=zf.its j (by rw[hsz];exact hj)
    exact⟨T,λ_=>⟨x,y,e1,by simpa using e2,by simpa using e3,e4,e5⟩⟩
   ·exact⟨0,λh=>absurd h hj⟩
  obtain⟨ad,Rm⟩:=Classical.axiomOfChoice ch
  have kk:∀b u,s1.heap.get? b=some u->h'.get? b=some u:=λb u hb=>by
   have Ol:b<s1.heap.objs.size:=GE hb;have nb:∀k,b≠s1.heap.objs.size+k:=λk=>GT (JK Ol (abb _ _));exact zf.old b u (nb 4) (nb 3) (GT Ol) (nb 1) (nb 5) (old b u hb)
  have OV:acc.toList=(List.range dx.length).map λj=>.ref (ad j):=by
   refine abz λj=>?_;rw[abP];by_cases hj:j<dx.length
   ·obtain⟨_,_,e1,_⟩:=Rm j hj
    rw[e1];simp[hj]
   ·rw[Array.getElem?_eq_none (by rw[zf.sz,hsz];omega)];simp[hj]
  have gx:∀j,j<dx.length->∃d v u,dx[j]? =some d/\xs[j]? =some v/\Qd[j]? =some u/\Rep (aB X) H1 F d v/\RelV v u:=λj hj=>by
   have e:dx[j]? =some dx[j]:=DF hj;obtain⟨v,hv,rv⟩:=UN.get e;obtain⟨u,hu,ru⟩:=sM VR hv;exact⟨_,v,u,e,hv,hu,rv,ru⟩
  have gy:∀j,j<dx.length->∃d v u,dy[j]? =some d/\ys[j]? =some v/\NV[j]? =some u/\Rep (aB X) H1 F d v/\RelV v u:=λj hj=>by
   have e:dy[j]? =some (dy[j]'(by omega)):=DF (by omega)
   obtain⟨v,hv,rv⟩:=V'.get e;obtain⟨u,hu,ru⟩:=sM Rb hv;exact⟨_,v,u,e,hv,hu,rv,ru⟩
  obtain⟨H2,Ou,UD,NM,I3⟩:=CK (t':=tk) (n:=dx.length) (S:=s1.heap.objs.size+5) (ad:=ad) (vx:=λj=>xs.getD j .aP) (vy:=λj=>ys.getD j .aP) (ux:=λj=>Qd.getD j .none) (uy:=λj=>NV.getD j .none) (acc:=acc.toList) (c:=c) I1 kk (abb _ _)
   (λj hj=>let⟨_,_,_,_,_,_,h⟩:=Rm j hj;h) (λj hj=>by
    obtain⟨x,y,_,e2,e3,e4,_⟩:=Rm j hj;simp only[Z5,e2,e3,abJ];exact e4) (λj hj=>by
    obtain⟨d,v,u,_,e2,e3,_,r⟩:=gx j hj;simp only[Z5,e2,e3,abJ];exact r) (λj hj=>by
    obtain⟨d,v,u,_,e2,e3,_,r⟩:=gy j hj;simp only[Z5,e2,e3,abJ];exact r) (by rw[<-UN.length]at UL;exact UL) (by simpa using zf.lst) OV
  show EP X pins σ Q (.ref (zipH5 s1.heap l1 l2).objs.size) _;rw[z5];refine⟨.ref _,_,I3,rfl,q _ H2 _ (Oe.trans Ou) UD ?_⟩
  have all:∀(l:List Nat),(∀j∈l,j<dx.length)->ai (aB X) H2 F (l.map λj=>.tup [dx.getD j .aP,dy.getD j .aP]) (l.map λj=>V.ref (ad j)):=λl=>by
   induction l with
   |nil=>intro _;exact ai.nil
   | cons j l ih=>
    intro hl;have hj:=hl j AC;obtain⟨d1,v1,_,a1,a2,_,a4,_⟩:=gx j hj;obtain⟨d2,v2,_,b1,b2,_,b4,_⟩:=gy j hj;refine ai.cons ?_ (ih λi hi=>hl i (Ax _ hi));simp only[Rep];refine⟨ad j,[xs.getD j .aP,ys.getD j .aP],rfl,.inl ⟨λf=>?_,.inl (NM j hj).1⟩,?_⟩
    ·obtain⟨o,e⟩:=(hr.same Oe).aV _ f
     rw[(NM j hj).2]at e;cases e
    ·simp only[Z5,a1,a2,b1,b2,abJ]
     exact ai.cons (a4.mv (M:=aB X) (F':=F) (.same Ou)) (ai.cons (b4.mv (M:=aB X) (F':=F) (.same Ou)) ai.nil)
  have ez:je dx dy=(List.range dx.length).map λj=>.tup [dx.getD j .aP,dy.getD j .aP]:=by
   exact Ao T2
  rw[ez];exact all _ λj hj=>aaH.mp hj⟩
theorem KZ(ρ:En)(d:D)(h:e2 k7 fa fb ρ=.ok d):∃ds,d=.lst ds:=by
 obtain⟨x,ex,e⟩:=ao.mp h;obtain⟨y,ey,e⟩:=ao.mp e;unfold k7 at e;split at e
 ·split at e
  ·cases e;exact⟨_,rfl⟩
  ·cases e
 ·cases e
end
def FK(K:PySem.W.Frag)(mg:Str->S2)(x:Str)(st:Stmt):Prop:=∃f fd,L2.d8 K x x st f fd/\mg x=some (.ref f)
def FH(P:Program)(w:World)(K:PySem.W.Frag)(mg:Str->S2)(base:Heap)(x:Str)(st:Stmt):Prop:=FK K mg x st
theorem FK.up{P:Program}{w:World}{K:PySem.W.Frag}{mg:Str->S2}{base:Heap}{x:Str}{st:Stmt}(h:FK K mg x st):FH P w K mg base x st:=h
theorem FK.mk(X:K.In h)(G:h.Ns mainGlobals mg)(a:PySem.W.nsIn K mainGlobals x=some (some (.ref f)))(l:K.lookup f=some ⟨oc,od,.func (PySem.W.fnOf x x (L2.kM st) (L2.fN st) (L2.aI st) .none kV doc pm an MD ct),PJ⟩)
  (c:PySem.W.codeIn K MD x=true) (k:PySem.W.keepIn K (.ref f)=true):FK K mg x st:=⟨f,_,L2.Jb l c k,abe X G a⟩
theorem bB(a:sc.kind=.function:=by rfl)(b:sc.isCoroutine=false:=by rfl)(c:sc.isGenerator=false:=by rfl)(d:N.Nodup:=by decide+kernel)(e:N.take P.length=P:=by rfl)(f:∀x∈P,sc.names.lookup x=some .local\/sc.names.lookup x=some .cell:=by decide+kernel)(g:∀y∈sc.names,y.2≠.free:=by decide+kernel):L2.aY N P sc:=⟨a,b,c,d,e,f,g⟩
section
variable{P:Program}{w:World}{K:PySem.W.Frag}{mg:Str->S2}{base:Heap}{x:Str}{st:Stmt}{N ps:List Str}{k n:Nat}{body:Sm}
abbrev Bd(x:Str)(st:Stmt)(ps:List Str):Prop:=∀(kV doc pm:Value) (an:Option Addr) (MD ct:Value) (us:S1),us.length=ps.length->bindArgs (PySem.W.fnOf x x (L2.kM st) (L2.fN st) (L2.aI st) .none kV doc pm an MD ct) ⟨us,[]⟩=pure (ps.zip us)
abbrev Jd(P:Program)(w:World)(K:PySem.W.Frag)(mg:Str->S2)(base:Heap)(x:Str)(st:Stmt)(N:List Str)(k:Nat)(body:Sm):Prop:=∀(f:Addr) (MD:Value) (A:Around) (outer:List Env) (s:Shared) (H:Hp) (E:XK),L2.bZ k (A.deeper (PyProof.Rows.envOfC x (L2.aI st) s.heap.objs.size f MD))->ik (L2.bQ L2.dY P w K mg base N x (L2.aI st) f MD A outer s H E).dB (L2.fN st) body
theorem lcQ{us:List Value}{n:Nat}(h:us.length=n+1):∃a r,us=a::r∧r.length=n:=by
 cases us with
 |nil=>cases h
 |cons a r=>exact⟨a,r,rfl,Nat.succ.inj h⟩
theorem lzQ{us:List Value}(h:us.length=0):us=[]:=List.eq_nil_of_length_eq_zero h
theorem dF(F:FH P w K mg base x st)(S:L2.aY N ps (L2.aI st))(h:Jd P w K mg base x st N k body)(b:Bd x st ps:=by intro _ _ _ _ _ _ us hl;(repeat(have h:=lcQ hl;clear hl;obtain⟨_,us,rfl,hl⟩:=h));cases lzQ hl;rfl)(hn:ps.length=n:=by rfl):Df P w K mg base x (k+1) n (fn N.length body):=by
 obtain⟨f,fd,Fu,hm⟩:=F;exact CL Fu hm S (Fu.binds b) (h f) hn
theorem xg(F:FH P w K mg base x st)(S:L2.aY N ps (L2.aI st))(h:Jd P w K mg base x st N k body)(b:Bd x st ps:=by intro _ _ _ _ _ _ us hl;(repeat(have h:=lcQ hl;clear hl;obtain⟨_,us,rfl,hl⟩:=h));cases lzQ hl;rfl)(hn:ps.length=n:=by rfl):iw P w K mg base x (k+1) n (g7 N.length body):=by
 obtain⟨f,fd,Fu,hm⟩:=F;exact Cg Fu hm S (Fu.binds b) (h f) hn
theorem zy(F:FH P w K mg base x st)(S:L2.aY N ps (L2.aI st))(h:Jd P w K mg base x st N k body)(b:Bd x st ps:=by intro _ _ _ _ _ _ us hl;(repeat(have h:=lcQ hl;clear hl;obtain⟨_,us,rfl,hl⟩:=h));cases lzQ hl;rfl)(hn:ps.length=n:=by rfl):jN P w K mg base x (k+1) n (kS N.length body):=by
 obtain⟨f,fd,Fu,hm⟩:=F;exact Cy Fu hm S (Fu.binds b) (h f) hn
variable{X:Cx}{M:Md}{G:Hp}{H:Hp}{H':Hp}{F:YK}{F':YK}{σ:L2.St}{ρ:En}{pos:Pos}{pins:List (Addr×Obj)}{s:Shared}
open PySem.AutoSeq1 (wpAny_loadPart') in
open PySem PySem.SeqAt PySem.MeetsSeq PySem.MeetsSeq2 PySem.MeetsSeq3 PySem.SeqRoads2 in
open PySem.AutoSeq1 (wpAny_loadPart') in
open PySem PySem.SeqAt PySem.MeetsSeq PySem.MeetsSeq2 PySem.MeetsSeq3 PySem.SeqRoads2 in
noncomputable def yO(f:Ex):Sm:=λρ=>(f ρ).bind λd=>.ok (.dS d ρ)
variable{F0:Gf}{as:P1}
theorem Hb(ha:XE X a f):XS X (.Return (some a) pos) (yO f):=⟨have ha:=ha.out;λF0=>
 cx (L2.mG ha) λD σ H=>by
  rintro⟨ρ,F,fl,r,e,q⟩
  obtain⟨d,ed,e⟩:=ao.mp e;cases e;exact⟨ρ,F,d,r.rs,ed,λv H1 s1 rv=>q σ H1 F v (.same s1) (r.same s1) rv⟩⟩
end
noncomputable def Mw(i:Nat)(f:Pt)(e:Ex):Sm:=λρ=>(f ρ).bind λp=>(e ρ).bind λd=>match ρ[i]?,d with
 | some (.on (.tr t)),.int k=>match T.at t p with
  | some (.n .l ts)=>match ym ts with
   | some vs=>match intsOf vs with
    |some ns=>if ns.length<1000/\k∈ns then .ok (.next (ρ.set i (.on (.tr (T.put (.l (((ns.erase k).map D.int).map .d)) t p)))))else .bad
    |none=>.bad
   |none=>.bad
  |_=>.bad
 |_,_=>.bad
noncomputable def v7:D->R D
 | .lst ds=>match intsOf ds with
  |some ns=>if ns.length<64 then .ok (.lst ((cw ns).map .int))else .bad
  |none=>.bad
 |_=>.bad
section
variable{X:Cx}{M:Md}{G H H':Hp}{F0:Gf}{F F':YK}{σ:L2.St}{ρ:En}{pos:Pos}{pins:List (Addr×Obj)}{s:Shared}{as:P1}
theorem HM:bq X (.builtin "sorted") (λxs H Q=>∃F p ns,xs=[.ref p]/\gk (aB X) H F p (ns.map V.int)/\ns.length<64/\∀l,H l=none->Q (.ref l) (upd H l (.lst ((cw ns).map V.int)))):=by
 intro pins s σ H xs us Q I r h;obtain⟨F,p,ns,rfl,hp,TB,q⟩:=h;obtain⟨u,rfl,ru⟩:=L2.vals1 r;cases ru;obtain⟨its,n,sl,hv,hg,_⟩:=j8 I hp;have Qg:s.heap.IsList p its.toArray:=⟨_,hg,rfl,n,rfl⟩;have hlen:its.length<64:=by have:=hv.length;rw[j1]at this;omega
 refine PyProof.Rows.sorted_ints Qg (wg hv) hlen λout Xp a1 a2 a3=>?_;rw[yT a2 a3]at a1;obtain⟨e,he⟩:=PyProof.Rows.sortedAll_at s.heap its out
 have hz:((cw ns).map V.int).length<=sizeLine:=by
  have:(sizeLine:Nat)=16777216:=aaj;rw[j1,(eI ns).length_eq];omega
 have I3:=I.laid (o:=.lst ((cw ns).map V.int)) (t':=s.toks) (λb u hb=>PyProof.Rows.sortedAll_old (vs:=its) (out:=out) hb) (adn _) ⟨hz,out.toList,e,uY a1,by simpa using he⟩
 exact⟨.ref _,_,I3,rfl,q _ (I.aC.fresh (adn _))⟩
theorem EJ:gF M (g1 v7) (λxs H Q=>∃F p ns,xs=[.ref p]/\gk M H F p (ns.map V.int)/\ns.length<64/\∀l,H l=none->Q (.ref l) (upd H l (.lst ((cw ns).map V.int)))):=by
 intro F H xs as d Q tr rs e q;unfold g1 at e;split at e
 ·rename_i a
  obtain⟨x,rfl,r⟩:=rs.one;unfold v7 at e;split at e
  ·rename_i ds
   split at e
   ·rename_i ns Sf
    split at e
    ·rename_i TB
     cases e;cases Ba Sf;simp only[Rep]at r;obtain⟨p,ys,rfl,h,rs⟩:=r;cases ye rs;exact⟨F,p,ns,rfl,h,TB,λl hl=>q _ _ (aj.cN hl _) (i4 tr hl (sW _))⟩
    ·cases e
   ·cases e
  ·cases e
 ·cases e
noncomputable abbrev Ox:=En->R (D×En)
noncomputable def uw(j:Nat)(f:Ox):Sm:=λρ=>(f ρ).bind λy=>.ok (.next (y.2.set j (.sh y.1)))
inductive xf(M:Md)(F0:Gf)(f:Ox)(σ:L2.St)(H:Hp)(Q:VK):Prop
 |mk:∀ρ F d ρ',aF M F0.g F0 H F σ ρ->f ρ=.ok (d,ρ')->(∀v H' F',Mv F H F' H'->aF M F0.g F0 H' F' σ ρ'->Rep M H' F' d v->Q v H')->xf M F0 f σ H Q
abbrev Fn(X:Cx)(e:Expr)(f:Ox):Prop:=∀F0:Gf,PE X e (xf (aB X) F0 f)
structure zw(X:Cx)(e:Expr)(f:Ox):Prop where
 out:Fn X e f
theorem Hs(j:Nat)(nd:X.N.Nodup)(he:zw X e f)(hj:X.N[j]? =some y:=by rfl)(hx:L2.Loc X.env.scope y:=by exact Or.inl rfl)(hf:X.fn y=true\/X.env.scope.names.lookup y=some .local:=by exact .inl rfl)(O2:swapsWith e (some (.Name y p3)) pos.line X.env=pure false:=by exact cY (by rfl)):XS X (.Assign [.Name y p3] e pos) (uw j f):=⟨have he:=he.out;λF0=>
 cx (L2.lq nd hj hx (he F0) O2 hf) λD σ H=>by
  rintro⟨ρ,F,fl,r,e,q⟩
  obtain⟨⟨d,ρ'⟩,ed,e⟩:=ao.mp e;cases e;exact⟨ρ,F,d,ρ',r,ed,λv H1 F1 mv r1 rv=>q _ _ _ mv (r1.lI rv)⟩⟩
open PySem.AutoSeq1 (wpAny_loadPart') in
open PySem PySem.SeqAt PySem.MeetsSeq PySem.MeetsSeq2 PySem.MeetsSeq3 PySem.SeqRoads2 in
open PySem.AutoSeq1 (wpAny_loadPart') in
open PySem PySem.SeqAt PySem.MeetsSeq PySem.MeetsSeq2 PySem.MeetsSeq3 PySem.SeqRoads2 in
open Classical in
open Classical in
end
end PL
namespace PL
open PySem PySem.Spec
open L2 (V Hp HO Cx PE PT PW PA PS bC PG cb VK TE TT TA TS TI TG Inv RelV Vals Rd aU bj upd aj Key XK Ends aR cB bq R2 EP It Turn bS Un)
section
variable{X:Cx}{M:Md}{G H H':Hp}{F0:Gf}{F F':YK}{σ:L2.St}{ρ:En}{pos:Pos}{pins:List (Addr×Obj)}{s:Shared}{as:P1}
open PySem.AutoSeq1 (wpAny_loadPart') in
open PySem PySem.SeqAt PySem.MeetsSeq PySem.MeetsSeq2 PySem.MeetsSeq3 PySem.SeqRoads2 in
end
end PL
namespace PL
open PySem PySem.Spec PySem.Calls PyProof.Rows
open L2 (V Hp HO Cx VK XK Inv RelV Vals Rd upd aj Un bx)
noncomputable instance:Inhabited lz:=⟨⟨default,default,default,default⟩⟩
end PL
namespace PL
open PySem PySem.Spec
open L2 (V Hp HO Cx PE PT PW PA PS bC PG cb VK TE TT TA TS TI TG Inv RelV Vals Rd aU bj upd aj Key XK Ends aR cB bq R2 EP It Turn bS Un)
inductive Arg where
 |d (x:D)|t (x:T)
noncomputable def Arg.slot:Arg->Slot
 |.d x=>.sh x
 |.t x=>.on (.tr x)
noncomputable def Arg.qR:Arg->Bool
 |.d _=>true
 |.t _=>false
noncomputable def ie:List Arg->Nat->En->R (List T)
 |[],_,_=>.ok []
 |.d _::as,i,ρ=>ie as (i+1) ρ
 | .t _::as,i,ρ=>match ρ[i]? with
  |some (.on (.tr u))=>(ie as (i+1) ρ).bind λus=>.ok (u::us)
  |_=>.bad
noncomputable def mj(n:Nat)(b:Sm):List Arg->R (D×List T):=λas=>if(as.drop 4).all Arg.qR=true then(b (as.map Arg.slot++List.replicate (n - as.length) .un)).bind λ(f:Fl)=>(match f with
 |.dS d ρ=>(ie as 0 ρ).bind λus=>.ok (d,us)
 |.next ρ=>(ie as 0 ρ).bind λus=>.ok (.aP,us)
 |_=>.bad)else .bad
inductive dX(M:Md)(H:Hp)(F:YK):List Arg->List V->List T->List V->Prop
 |nil:dX M H F [] [] [] []
 |d {x:D} {v:V} {as:List Arg} {vs:List V} {ts:List T} {ws:List V}:Rep M H F x v->dX M H F as vs ts ws->dX M H F (.d x::as) (v::vs) ts ws
 |t {x:T} {v:V} {as:List Arg} {vs:List V} {ts:List T} {ws:List V}:dX M H F as vs ts ws->dX M H F (.t x::as) (v::vs) (x::ts) (v::ws)
inductive qA(M:Md)(m:List Arg->R (D×List T))(n:Nat)(vs:List V)(H:Hp)(Q:VK)(_x3:XK):Prop
 |mk:∀F as ts ws cs d us,dX M H F as vs ts ws->(∀p,F p->∃o,H p=some o)->aq M H F ts ws cs->cs.Nodup->as.length=n->m as=.ok (d,us)->(∀v H' F' ds,(∀b u,b∉cs->H b=some u->H' b=some u)->(∀b∈ds,b∈cs\/H b=none)->ds.Nodup->(∀b,F' b↔(F b/\b∉cs)\/b∈ds)->aq M H' F' us ws ds->Rep M H' F' d v->Q v H')->qA M m n vs H Q _x3
structure rF(P:Program)(w:World)(K:PySem.W.Frag)(mg:Str->S2)(base:Heap)(x:Str)(k n:Nat)(m:List Arg->R (D×List T)):Prop where
 ex:∃f fd ps,L2.fj P w K mg base L2.dY k f fd ps (qA ⟨K,P,w⟩ m n)/\L2.Binds K fd ps []/\PySem.W.keepIn K (.ref f)=true/\mg x=some (.ref f)
noncomputable def gf:List Arg->Nat->Nat
 |[],_=>0
 |_::_,0=>0
 |.d _::as,i+1=>gf as i
 |.t _::as,i+1=>gf as i+1
section
variable{X:Cx}{M:Md}{G H H':Hp}{F0:Gf}{F F':YK}{σ:L2.St}{ρ:En}{pos:Pos}{as:List Arg}{vs:List V}{ts us:List T}{ws:List V}{cs:P1}
theorem dX.len(h:dX M H F as vs ts ws):as.length=vs.length:=by
 induction h with
 |nil=>rfl
 |d _ _ ih=>simp[ih]
 |t _ ih=>simp[ih]
theorem dX.getD(h:dX M H F as vs ts ws):∀ {i:Nat} {x:D},as[i]? =some (.d x)->∃v,vs[i]? =some v/\Rep M H F x v:=by
 induction h with
 |nil=>intro i x e;simp at e
 | d r _ ih=>
  intro i x e;cases i with
  |zero=>cases e;exact⟨_,rfl,r⟩
  |succ i=>exact ih (by simpa using e)
 | t _ ih=>
  intro i x e;cases i with
  |zero=>cases e
  |succ i=>exact ih (by simpa using e)
theorem dX.yM(h:dX M H F as vs ts ws):∀ {i:Nat} {x:T},as[i]? =some (.t x)->∃v,vs[i]? =some v/\ts[gf as i]? =some x/\ws[gf as i]? =some v:=by
 induction h with
 |nil=>intro i x e;simp at e
 | d r _ ih=>
  intro i x e;cases i with
  |zero=>cases e
  |succ i=>exact ih (by simpa using e)
 | t _ ih=>
  intro i x e;cases i with
  |zero=>cases e;exact⟨_,rfl,rfl,rfl⟩
  | succ i=>
   obtain⟨v,h1,h2,h3⟩:=ih (by simpa using e)
   exact⟨v,by simpa using h1,by simpa[gf] using h2,by simpa[gf] using h3⟩
theorem tN:∀ {as:List Arg} {i j:Nat} {x y:T},as[i]? =some (.t x)->as[j]? =some (.t y)->gf as i=gf as j->i=j
 |[],i,_,_,_,h,_,_=>by simp at h
 |a::as,0,0,_,_,_,_,_=>rfl
 |.d _::as,0,j+1,_,_,h,_,_=>by cases h
 |.t _::as,0,j+1,_,_,h,h2,e=>by simp[gf]at e
 |.d _::as,i+1,0,_,_,_,h,_=>by cases h
 |.t _::as,i+1,0,_,_,_,_,e=>by simp[gf]at e
 |.d _::as,i+1,j+1,_,_,h,h2,e=>congrArg (· +1) (tN (as:=as) (i:=i) (j:=j) (by simpa using h) (by simpa using h2) (by simpa[gf] using e))
 |.t _::as,i+1,j+1,_,_,h,h2,e=>congrArg (· +1) (tN (as:=as) (i:=i) (j:=j) (by simpa using h) (by simpa using h2) (by simpa[gf] using e))
theorem G5:∀ {as:List Arg} {i:Nat} {x:T},(as.drop 4).all Arg.qR=true->as[i]? =some (.t x)->i<4:=λ{as i x} h e=>by
 rcases Nat.lt_or_ge i 4 with c|c
 ·exact c
 ·have:(as.drop 4)[i - 4]? =some (.t x):=by rw[List.getElem?_drop,show 4+(i - 4)=i by omega];exact e
  have:=aap.mp h _ (GM this);cases this
theorem rQ{N:List Str}{i:Nat}{v:V}(h:vs[i]? =some v):(L2.start N vs)[i]? =some (some v):=by
 unfold L2.start;have hv:=(il.mp h).1;rw[M1 (by simpa using hv),xa,h];rfl
noncomputable def uA(as:List Arg)(vs:List V):P4->Option V:=λb=>match as[b.toNat]? with
 |some (.t _)=>vs[b.toNat]?
 |_=>none
noncomputable def p4:Nat->P4
 |0=>.f
 |1=>.t
 |2=>.u
 |_=>.v
theorem tJ:∀ {i:Nat},i<4->(p4 i).toNat=i
 |0,_=>rfl
 |1,_=>rfl
 |2,_=>rfl
 |3,_=>rfl
 |i+4,h=>by omega
theorem J2{N:List Str}(tk:∀p,F p->∃o,G p=some o)(ar:dX M G F as vs ts ws)(Nj:aq M G F ts ws cs)(nd:cs.Nodup)(hn:as.length<=N.length):
  aF M (without G cs) ⟨without G cs,λb=>F b/\b∉cs,uA as vs⟩ G F (L2.start N vs) (as.map Arg.slot++List.replicate (N.length - as.length) .un):=by
 have hl:=ar.len;generalize PR:(as.map Arg.slot++List.replicate (N.length - as.length) .un:En)=ρ
 have get:∀(i:Nat) s,ρ[i]? =some s->(∃a,as[i]? =some a/\s=a.slot)\/s=.un:=by
  intro i s hs;rw[<-PR,aak]at hs;split at hs
  ·rw[xa]at hs
   cases e1:as[i]? with
   |none=>rw[e1]at hs;cases hs
   |some d'=>rw[e1]at hs;cases hs;exact .inl ⟨d',rfl,rfl⟩
  ·rw[UV]at hs
   split at hs<;>cases hs;exact .inr rfl
 have no:∀i,¬a0 ρ i:=by
  intro i hi;rcases hi with⟨x,hx⟩|⟨k,x,hx⟩
  ·rcases get _ _ hx with⟨a,_,h⟩|h
   ·cases a<;>cases h
   ·cases h
  ·rcases get _ _ hx with⟨a,_,h⟩|h
   ·cases a<;>cases h
   ·cases h
 have RZ:∀(i:Nat) x,ρ[i]? =some (.on x)->∃t,as[i]? =some (.t t)/\x=.tr t:=by
  intro i x hx;rcases get _ _ hx with⟨a,ha,h⟩|h
  ·cases a with
   |d _=>cases h
   |t t=>cases h;exact⟨t,ha,rfl⟩
  ·cases h
 have OO:∀(i:Nat) b,aX M G F (L2.start N vs) ρ i b->∃t v bs,as[i]? =some (.t t)/\ts[gf as i]? =some t/\ws[gf as i]? =some v/\au M G F t v bs/\b∈bs/\b∈cs:=by
  intro i b ⟨t1,v1,NT,e1,ev,Oh,hb⟩;obtain⟨t,ht,h⟩:=RZ i _ e1;injection h with h;subst h;obtain⟨v,h1,h2,h3⟩:=ar.yM ht;rw[rQ h1]at ev;cases ev;obtain⟨bs,QG,OI⟩:=Nj.get h2 h3;have:=au.fu QG Oh;subst this;exact⟨_,_,_,ht,h2,h3,QG,hb,OI b hb⟩
 refine⟨⟨?_,tk,?_,?_,?_,?_,?_⟩,λb o e=>?_,λb h=>h.1,λb h=>?_,λi a oi=>absurd oi (no i),λi x b e hb=>?_,λv hv t1 e1=>?_⟩
 ·rw[<-PR];unfold L2.start;simp[<-hl]
 ·intro i d hd
  rcases get _ _ hd with⟨a,ha,h⟩|h
  ·cases a with
   | d x=>
    cases h;obtain⟨v,ev,rv⟩:=ar.getD ha;exact⟨v,rQ ev,rv⟩
   |t t=>cases h
  ·cases h
 ·intro i d hd;exact absurd (.inl ⟨_,hd⟩) (no i)
 ·intro i k d hd;exact absurd (.inr ⟨_,_,hd⟩) (no i)
 ·intro i j a oi;exact absurd oi (no i)
 ·intro i x hx
  obtain⟨t,ht,rfl⟩:=RZ i x hx;obtain⟨v,h1,h2,h3⟩:=ar.yM ht;obtain⟨x',bs,ex,tr,sub⟩:=Nj.part h2;rw[h3]at ex;cases ex;refine⟨⟨v,bs,rQ h1,tr,nd.sublist sub⟩,λb _ j oj=>absurd oj (no j),λt1 _ j t2 hj Ti b R8 NX=>?_⟩;obtain⟨ta,va,ba,k1,k2,k3,k4,k5,_⟩:=OO i b R8;obtain⟨tb,vb,bb,l1,l2,l3,l4,l5,_⟩:=OO j b NX;exact aq.apart Nj nd (λz=>Ti (tN l1 k1 z.symm)) k2 l2 k3 l3 k4 l4 b k5 l5
 ·unfold without at e
  split at e
  ·cases e
  ·exact e
 ·obtain⟨o,e⟩:=tk b h.1
  exact⟨o,by show(if b∈cs then none else G b)=_;rw[Gc h.2];exact e⟩
 ·obtain⟨_,_,_,_,_,_,_,_,h⟩:=OO i b hb
  exact DM h
 ·obtain⟨t,ht,_⟩:=RZ _ _ e1
  have hv:(match as[v.1.toNat]? with|some (.t _)=>vs[v.1.toNat]? |_=>none)=some v.2:=hv
  rw[ht]at hv;exact rQ hv
theorem collect{A0:YK}(r':aF M G F0 H' F' σ ρ):∀ {as:List Arg} {vs:List V} {ts:List T} {ws:List V} {us:List T} {i:Nat},dX M H F as vs ts ws->(∀(k:Nat) t v u,as[k]? =some (.t t)->vs[k]? =some v->ρ[i+k]? =some (.on (.tr u))->σ[i+k]? =some (some v))->ie as i ρ=.ok us->
  ∃ds,aq M H' F' us ws ds/\ds.Nodup/\∀b∈ds,∃j u,i<=j/\ρ[j]? =some (.on (.tr u))/\aX M H' F' σ ρ j b
 |[],_,_,_,us,i,.nil,_,e=>by cases e;exact⟨[],by rw[aq];exact⟨rfl,rfl⟩,aaw,λ_ h=>nomatch h⟩
 | .d _::as,_,_,_,us,i,.d _ h,hp,e=>by
  obtain⟨ds,h1,h2,h3⟩:=collect (A0:=A0) r' (i:=i+1) h (λk t v u ha hv hu=>by
   have:=hp (k+1) t v u (by simpa using ha) (by simpa using hv) (by rw[show i+(k+1)=i+1+k by omega];exact hu)
   rwa[show i+(k+1)=i+1+k by omega]at this) e
  exact⟨ds,h1,h2,λb hb=>by obtain⟨j,u,hj,r⟩:=h3 b hb;exact⟨j,u,by omega,r⟩⟩
 | .t _::as,_,_,_,us,i,.t h,hp,e=>by
  unfold ie at e;split at e
  ·rename_i u eu
   obtain⟨WM,e',e⟩:=ao.mp e;cases e
   obtain⟨ds,h1,h2,h3⟩:=collect (A0:=A0) r' (i:=i+1) h (λk t v u ha hv hu=>by
    have:=hp (k+1) t v u (by simpa using ha) (by simpa using hv) (by rw[show i+(k+1)=i+1+k by omega];exact hu)
    rwa[show i+(k+1)=i+1+k by omega]at this) e'
   obtain⟨⟨w',bs,ew,tr,nd⟩,_,dj⟩:=r'.rs.on i _ eu;have hw:=hp 0 _ _ u rfl rfl (by rw[acZ];exact eu)
   rw[acZ,ew]at hw;cases hw;have oi:∀b∈bs,aX M H' F' σ ρ i b:=λb hb=>⟨u,_,bs,eu,ew,tr,hb⟩;refine⟨bs++ds,?_,KB.mpr ⟨nd,h2,λa ha b hb z=>?_⟩,λb hb=>?_⟩
   ·simp only[aq]
    exact⟨_,_,bs,ds,rfl,rfl,tr,h1⟩
   ·subst z
    obtain⟨j,u2,hj,e2,o2⟩:=h3 a hb;exact dj u rfl j u2 e2 (by omega) a (oi a ha) o2
   ·rcases FS.mp hb with hb|hb
    ·exact⟨i,u,IR _,eu,oi b hb⟩
    ·obtain⟨j,u2,hj,r⟩:=h3 b hb
     exact⟨j,u2,by omega,r⟩
  ·cases e
theorem GD{N:List Str}{n:Nat}{body:Sm}{Q:VK}{E:XK}{t:TS}(ht:∀(F0:Gf) D σ H,dQ M F0.g F0 body D σ H->t D σ H)(h:qA M (mj N.length body) n vs G Q E)(hn:n<=N.length):t {nx:=λ_ H'=>Q .aP H',rt:=Q} (L2.start N vs) G:=by
 obtain⟨F,as,ts,ws,cs,d,us,ar,tk,Nj,nd,hl,e,q⟩:=h;unfold mj at e;split at e
 ·rename_i h4
  obtain⟨f,ef,e⟩:=ao.mp e;refine ht ⟨without G cs,λb=>F b/\b∉cs,uA as vs⟩ _ _ _ ⟨_,F,f,J2 tk ar Nj nd (by omega),ef,?_⟩
  have fin:∀ {ρ':En} {us:List T} {d:D} {ME:L2.St} {H':Hp} {F':YK} {v:V},ie as 0 ρ'=.ok us->aF M (without G cs) ⟨without G cs,λb=>F b/\b∉cs,uA as vs⟩ H' F' ME ρ'->Rep M H' F' d v->(∀v H' F' ds,(∀b u,b∉cs->G b=some u->H' b=some u)->(∀b∈ds,b∈cs\/G b=none)->ds.Nodup->(∀b,F' b↔(F b/\b∉cs)\/b∈ds)->aq M H' F' us ws ds->Rep M H' F' d v->Q v H')->Q v H':=λ{ρ' us d ME H' F' v} et r' rd q=>by
   obtain⟨ds,h1,h2,h3⟩:=collect (A0:=F) r' (i:=0) ar (λk t v u ha hv hu=>by
    rw[Z8]at hu ⊢;have hk:=G5 h4 ha;have:=r'.pin (p4 k,v) (by show(match as[(p4 k).toNat]? with|some (.t _)=>vs[(p4 k).toNat]? |_=>none)=some v;rw[tJ hk,ha];exact hv) u (by show ρ'[(p4 k).toNat]? =_;rw[tJ hk];exact hu)
    have this:ME[(p4 k).toNat]? =some (some v):=this;rwa[tJ hk]at this) et
   have less:∀b,(F b/\b∉cs)\/b∈ds->F' b:=λb hb=>hb.elim (λz=>r'.sub b z) λz=>(h1.fs b z).1;refine q v H' (λb=>(F b/\b∉cs)\/b∈ds) ds (λb u hb hu=>r'.sm b u (by show(if b∈cs then none else G b)=_;rw[Gc hb];exact hu)) (λb hb=>?_) h2 (λb=>abN) (aq.less (F:=F') less (λb hb=>.inr hb) h1) (rd.sub less)
   obtain⟨j,u,_,e0,o0⟩:=h3 b hb;have hg:(if b∈cs then none else G b)=none:=r'.di j _ b e0 o0
   by_cases NX:b∈cs
   ·exact .inl NX
   ·rw[Gc NX]at hg
    exact .inr hg
  cases f with
  | next ρ'=>
   obtain⟨WM,et,e⟩:=ao.mp e;cases e;intro ME H' F' mv r';exact fin et r' vm q
  | dS d' ρ'=>
   obtain⟨WM,et,e⟩:=ao.mp e;cases e;intro ME H' F' v mv r' rd;exact fin et r' rd q
  |_=>cases e
 ·cases e
theorem LR{P:Program}{w:World}{K:PySem.W.Frag}{mg:Str->S2}{base:Heap}{x:Str}{st:Stmt}{N ps:List Str}{k n:Nat}{body:Sm}(F:FH P w K mg base x st)(S:L2.aY N ps (L2.aI st))(h:Jd P w K mg base x st N k body)(b:Bd x st ps:=by intro _ _ _ _ _ _ us hl;(repeat(have h:=lcQ hl;clear hl;obtain⟨_,us,rfl,hl⟩:=h));cases lzQ hl;rfl)(hn:ps.length=n:=by rfl):rF P w K mg base x (k+1) n (mj N.length body):=by
 obtain⟨f,fd,Fu,hm⟩:=F;refine⟨f,fd,ps,Fu.ok S (λvs H Q E h=>?_) (λMD A outer s H vs Q E hr Ow=>?_),Fu.binds b,Fu.kp,hm⟩
 ·obtain⟨F,as,ts,ws,cs,d,us,ar,_,_,_,hl,_⟩:=h
  rw[<-ar.len,hl,hn]
 ·refine⟨λD σ H'=>∃F0:Gf,dQ ⟨K,P,w⟩ F0.g F0 body D σ H',λpins s' σ H' D I=>by rintro⟨F0,q⟩;exact h f MD A outer s H E hr F0 pins s' σ H' D I q,?_⟩
  refine GD (G:=H) (t:=λD σ H'=>∃F0:Gf,dQ ⟨K,P,w⟩ F0.g F0 body D σ H') (λF0 D σ H' h=>⟨F0,h⟩) Ow ?_;have:=congrArg List.length S.pre;rw[Re]at this;omega
end
structure gU(H H2:Hp)(F F2:YK)(cs ds:P1):Prop where
 cf:∀b∈cs,F b/\∃u,H b=some u
 out:∀b u,b∉cs->H b=some u->H2 b=some u
 fs:∀b,F2 b↔(F b/\b∉cs)\/b∈ds
 j3:∀b∈ds,b∈cs\/H b=none
section
variable{M:Md}{G H H2:Hp}{F0:Gf}{F F2:YK}{σ:L2.St}{ρ:En}{cs ds:P1}
theorem gU.mv(C:gU H H2 F F2 cs ds):Mv F H F2 H2:=λb o n e=>
 ⟨λf=>((C.fs b).mp f).elim (λz=>n z.1) λhb=>(C.j3 b hb).elim (λh=>n (C.cf b h).1) λh=>(by rw[h]at e;cases e),C.out b o (λh=>n (C.cf b h).1) e⟩
theorem gU.keep(C:gU H H2 F F2 cs ds)(n:b∉cs)(f:F b)(h:H b=some u):F2 b/\H2 b=some u:=⟨(C.fs b).mpr (.inl ⟨f,n⟩),C.out b u n h⟩
theorem gU.mf(C:gU H H2 F F2 cs ds)(n:b∉cs)(h:H b=some u):b∉ds:=λhb=>(C.j3 b hb).elim n λz=>by rw[z]at h;cases h
structure vW(M:Md)(H H2:Hp)(F F2:YK)(cs ds:P1)(w:V)(n0 n1:T)(N5 N6:P1):Prop where
 old:au M H F n0 w N5
 new:au M H2 F2 n1 w N6
 nd:N6.Nodup
 Mt:∀b∈N5,b∈cs
 jE:∀b∈N6,b∈ds
theorem aq.xX(C:gU H H2 F F2 cs ds)(Pn:vW M H H2 F F2 cs ds w n0 n1 N5 N6):∀ {j:Nat} {ts:List T} {xs:List V} {as:P1} {t:T},aq M H F ts xs as->as.Nodup->(∀b∈as,b∈cs->b∈N5)->ts[j]? =some t->xs[j]? =some x->
  (∀bs,au M H F t x bs->bs.Nodup->(∀b∈bs,b∈cs->b∈N5)->(∀b∈N5,b∈bs)/\∃OC,au M H2 F2 t' x OC/\OC.Nodup/\∀b,b∈OC↔(b∈bs/\b∉N5)\/b∈N6)->
  (∀b∈N5,b∈as)/\∃as',aq M H2 F2 (ts.set j t') xs as'/\as'.Nodup/\∀b,b∈as'↔(b∈as/\b∉N5)\/b∈N6
 |j,[],_,_,_,_,_,_,e,_,_=>by simp at e
 | 0,t::ts,xs,as,_,h,nd,sp,e,ex,k=>by
  simp only[aq]at h;obtain⟨y,r,bs,ON,rfl,rfl,h1,h2⟩:=h;cases e;cases ex;have M5:=KB.mp nd;obtain⟨hc,OC,k1,k2,k3⟩:=k bs h1 M5.1 λb hb=>sp b (JU _ hb);have nb:∀b∈ON,b∉N5:=λb hb h0=>M5.2.2 b (hc b h0) b hb rfl;have Sv:∀b∈ON,b∉cs:=λb hb h0=>nb b hb (sp b (Do _ hb) h0)
  have nc:∀b∈OC,b∉ON:=λb hb h0=>by
   rcases(k3 b).mp hb with h|h
   ·exact M5.2.2 b h.1 b h0 rfl
   ·obtain⟨_,u,hu⟩:=h2.fs b h0
    exact C.mf (Sv b h0) hu (Pn.jE b h)
  refine⟨λb hb=>JU _ (hc b hb),OC++ON,?_,KB.mpr ⟨k2,M5.2.1,λa ha b hb z=>nc a ha (z▸hb)⟩,λb=>?_⟩
  ·rw[abq]
   simp only[aq];exact⟨_,r,OC,ON,rfl,rfl,k1,h2.mv C.mv λb hb u f hu=>C.keep (Sv b hb) f hu⟩
  ·rw[FS,FS,k3 b]
   constructor
   ·rintro((h|h)|h)
    ·exact .inl ⟨.inl h.1,h.2⟩
    ·exact .inr h
    ·exact .inl ⟨.inr h,nb b h⟩
   ·rintro(⟨h|h,h0⟩|h)
    ·exact .inl (.inl ⟨h,h0⟩)
    ·exact .inr h
    ·exact .inl (.inr h)
 | j+1,t::ts,xs,as,_,h,nd,sp,e,ex,k=>by
  simp only[aq]at h;obtain⟨y,r,bs,ON,rfl,rfl,h1,h2⟩:=h;have M5:=KB.mp nd;obtain⟨hc,N4,k1,k2,k3⟩:=aq.xX C Pn h2 M5.2.1 (λb hb=>sp b (Do _ hb)) (by simpa using e) (by simpa using ex) k
  have nb:∀b∈bs,b∉N5:=λb hb h0=>M5.2.2 b hb b (hc b h0) rfl;have Sv:∀b∈bs,b∉cs:=λb hb h0=>nb b hb (sp b (JU _ hb) h0)
  have nc:∀b∈bs,b∉N4:=λb hb h0=>by
   rcases(k3 b).mp h0 with h|h
   ·exact M5.2.2 b hb b h.1 rfl
   ·obtain⟨_,u,hu⟩:=h1.fs b hb
    exact C.mf (Sv b hb) hu (Pn.jE b h)
  refine⟨λb hb=>Do _ (hc b hb),bs++N4,?_,KB.mpr ⟨M5.1,k2,λa ha b hb z=>nc a ha (z▸hb)⟩,λb=>?_⟩
  ·rw[abr]
   simp only[aq];exact⟨y,r,bs,N4,rfl,rfl,h1.mv C.mv λb hb u f hu=>C.keep (Sv b hb) f hu,k1⟩
  ·rw[FS,FS,k3 b]
   constructor
   ·rintro(h|h|h)
    ·exact .inl ⟨.inl h,nb b h⟩
    ·exact .inl ⟨.inr h.1,h.2⟩
    ·exact .inr h
   ·rintro(⟨h|h,h0⟩|h)
    ·exact .inl h
    ·exact .inr (.inl ⟨h,h0⟩)
    ·exact .inr (.inr h)
theorem au.putN(C:gU H H2 F F2 cs ds)(Pn:vW M H H2 F F2 cs ds w n0 n1 N5 N6):∀ {p:List Nat} {t:T} {v:V} {as:P1},au M H F t v as->as.Nodup->(∀b∈as,b∈cs->b∈N5)->aD H t v p n0 w->
  (∀b∈N5,b∈as)/\∃NT,au M H2 F2 (T.put n1 t p) v NT/\NT.Nodup/\∀b,b∈NT↔(b∈as/\b∉N5)\/b∈N6
 | [],t,v,as,h,nd,sp,e=>by
  have e':t=n0/\v=w:=by cases t<;>exact e
  obtain⟨rfl,rfl⟩:=e';have:=au.fu Pn.old h;subst this;have ep:T.put n1 t []=n1:=by cases t<;>rfl
  rw[ep];exact⟨λ_ h=>h,N6,Pn.new,Pn.nd,λb=>⟨.inr,λh=>h.elim (λz=>absurd z.1 z.2) id⟩⟩
 | k::p,.n kd ts,v,as,h,nd,sp,e=>by
  simp only[aD]at e;simp only[au]at h;obtain⟨a,xs,t1,x1,rfl,e2,l1,et,ex,e⟩:=e;obtain⟨a',ys,bs,ea,rfl,f,NW,l2,r⟩:=h;cases ea;have e9:xs=ys:=Kd.inj (k:=kd) (by rw[NW]at e2;injection e2 with z;exact z.symm) l1 l2
  subst e9;have M5:=Kd.nodup.mp nd;obtain⟨hc,as',k1,k2,k3⟩:=aq.xX C Pn (t':=T.put n1 t1 p) r M5.2 (λb hb=>sp b (Kd.sub hb)) et ex λOC Ol VX Y9=>au.putN C Pn Ol VX Y9 e;have na:kd.own=true->a∉N5:=λo h=>M5.1 o (hc a h);have Vm:kd.own=true->a∉cs:=λo h=>na o (sp a (Kd.top o) h);refine⟨λb hb=>Kd.sub (hc b hb),kd.fg a as',?_,Kd.nodup.mpr ⟨λo ha=>?_,k2⟩,λb=>⟨λhb=>?_,λhb=>?_⟩⟩
  ·show au M _ _ (match ts[k]? with|some t=>T.n kd (ts.set k (T.put n1 t p))|none=>T.n kd ts) _ _
   rw[et];simp only[au];refine⟨a,xs,as',rfl,rfl,?_⟩;by_cases o:kd.own=true
   ·exact⟨⟨λ_=>o,λ_=>(C.fs a).mpr (.inl ⟨f.mpr o,Vm o⟩)⟩,C.out a _ (Vm o) NW,l1,k1⟩
   ·have:=C.mv _ _ (λz=>o (f.mp z)) NW
    exact⟨⟨λz=>absurd z this.1,λz=>absurd z o⟩,this.2,l1,k1⟩
  ·rcases(k3 a).mp ha with h|h
   ·exact M5.1 o h.1
   ·exact C.mf (Vm o) NW (Pn.jE a h)
  ·rcases Kd.mem hb with⟨o,rfl⟩|hb
   ·exact .inl ⟨Kd.top o,na o⟩
   ·exact((k3 b).mp hb).imp (λz=>⟨Kd.sub z.1,z.2⟩) id
  ·rcases hb with⟨hb,h0⟩|hb
   ·rcases Kd.mem hb with⟨o,rfl⟩|hb
    ·exact Kd.top o
    ·exact Kd.sub ((k3 b).mpr (.inl ⟨hb,h0⟩))
   ·exact Kd.sub ((k3 b).mpr (.inr hb))
 |k::p,.d _,v,as,h,nd,sp,e=>e.elim
theorem aF.frame(r:aF M G F0 H F σ ρ)(C:gU H H2 F F2 cs ds)(hG:∀b∈cs,G b=none)(hO:∀b∈cs,∀k,a0 ρ k->σ[k]? ≠some (some (.ref b)))(hA:∀b∈cs,∀j,¬aX M H F σ ρ j b)(ht:∀b∈ds,∃u,H2 b=some u):aF M G F0 H2 F2 σ ρ/\∀k b,aX M H2 F2 σ ρ k b->aX M H F σ ρ k b:=by
 have mv:=C.mv
 have RT:∀(k:Nat) t,ρ[k]? =some (.on (.tr t))->∃v as,σ[k]? =some (some v)/\au M H F t v as/\as.Nodup/\au M H2 F2 t v as/\∀b∈as,aX M H F σ ρ k b:=λk t ek=>by
  obtain⟨⟨v,as,ev,tr,nd⟩,_,_⟩:=r.rs.on k _ ek;have h1:∀b∈as,aX M H F σ ρ k b:=λb hb=>⟨t,v,as,ek,ev,tr,hb⟩;exact⟨v,as,ev,tr,nd,tr.mv mv λb hb u f hu=>C.keep (λh=>hA b h k (h1 b hb)) f hu,h1⟩
 have Nf:∀k b,aX M H2 F2 σ ρ k b->aX M H F σ ρ k b:=λk b=>by
  rintro⟨t,v,as,ek,ev,tr,hb⟩
  obtain⟨v',as',Tf,_,_,Rn,h3⟩:=RT k t ek;rw[Tf]at ev;cases ev;have:=au.fu Rn tr;subst this;exact h3 b hb
 have keep:∀(k:Nat) b u,a0 ρ k->σ[k]? =some (some (.ref b))->F b->H b=some u->F2 b/\H2 b=some u:=λk b u ok ek fb hu=>C.keep (λh=>hO b h k ok ek) fb hu;refine⟨⟨⟨r.rs.len,λa fa=>?_,λk d h=>?_,λk ON h=>?_,λk ks ON h=>?_,r.rs.cu,λk x h=>⟨?_,λb hb l ol el=>(r.rs.on k _ h).2.1 b (Nf k b hb) l ol el,λt hx l t' hl R3 b h1 h2=>(r.rs.on k _ h).2.2 t hx l t' hl R3 b (Nf k b h1) (Nf l b h2)⟩⟩,λb u hb=>C.out b u (λh=>by rw[hG b h]at hb;cases hb) (r.sm b u hb),λb f=>(C.fs b).mpr (.inl ⟨r.sub b f,λh=>?_⟩),r.c9,λk a ok ek=>r.own k a ok ek,λk x b h hb=>r.di k x b h (Nf k b hb),r.pin⟩,Nf⟩
 ·rcases(C.fs a).mp fa with⟨f,n⟩|h
  ·obtain⟨o,ho⟩:=r.rs.aV a f
   exact⟨o,C.out a o n ho⟩
  ·exact ht a h
 ·obtain⟨w,f1,g⟩:=r.rs.sh k d h
  exact⟨w,f1,g.mv mv⟩
 ·obtain⟨a,xs,f1,f,f2,g⟩:=r.rs.ol k ON h
  obtain⟨f',f3⟩:=keep k a _ (.inl ⟨_,h⟩) f1 f f2;exact⟨a,xs,f1,f',f3,g.mv mv⟩
 ·obtain⟨a,xs,f1,f,f2,l,g⟩:=r.rs.od k ks ON h
  obtain⟨f',f3⟩:=keep k a _ (.inr ⟨_,_,h⟩) f1 f f2;exact⟨a,xs,f1,f',f3,l,g.mv mv⟩
 ·cases x with
  | tr t=>
   obtain⟨v,as,ev,_,nd,Rn,_⟩:=RT k t h;exact⟨v,as,ev,Rn,nd⟩
  | al l p=>
   intro t WW;obtain⟨v,as,ev,TL,_,_,h3⟩:=RT l t WW;obtain⟨v',w,t',f1,f2,at',o'⟩:=(r.rs.on k _ h).1 t WW;rw[ev]at f1;cases f1;exact⟨v,w,t',ev,f2,at'.mv (λa o n e=>(mv a o n e).2) TL (λb hb u f hu=>(C.keep (λz=>hA b z l (h3 b hb)) f hu).2),o'⟩
 ·obtain⟨o,ho⟩:=r.c9 b f
  rw[hG b h]at ho;cases ho
theorem aF.BO(r:aF M G F0 H F σ ρ)(hi:ρ[i]? =some .un)(ev:σ[i]? =some (some v))(no:kE i ρ=true)(tr:au M H F t v as)(nd:as.Nodup)(hG:∀b∈as,G b=none)(hO:∀b∈as,∀k,a0 ρ k->σ[k]? ≠some (some (.ref b)))(hA:∀b∈as,∀j,¬aX M H F σ ρ j b)(hp:∀y,F0.p y=some v\/F0.p y=none\/y.toNat≠i):aF M G F0 H F σ (ρ.set i (.on (.tr t))):=by
 have hlen:i<ρ.length:=(il.mp hi).1
 have get:∀(j:Nat) s,(ρ.set i (.on (.tr t)))[j]? =some s->(i=j/\s=.on (.tr t))\/(i≠j/\ρ[j]? =some s):=λj s h=>by
  rcases get_set h with⟨h1,h2,h3⟩|⟨h1,h⟩
  ·exact .inl ⟨h1,h2.symm⟩
  ·exact .inr ⟨h1,h⟩
 have own:∀k,a0 (ρ.set i (.on (.tr t))) k->a0 ρ k:=λk ok=>by
  rcases ok with⟨ds,e⟩|⟨ks,ds,e⟩
  ·exact .inl ⟨ds,((get k _ e).resolve_left λz=>by cases z.2).2⟩
  ·exact .inr ⟨ks,ds,((get k _ e).resolve_left λz=>by cases z.2).2⟩
 have Nf:∀k b,aX M H F σ (ρ.set i (.on (.tr t))) k b->(k=i/\b∈as)\/(k≠i/\aX M H F σ ρ k b):=λk b=>by
  rintro⟨t1,v1,NT,e1,O5,Oh,hb⟩
  rcases get k _ e1 with⟨rfl,z⟩|⟨MJ,e2⟩
  ·cases z
   rw[ev]at O5;cases O5;have:=au.fu tr Oh;subst this;exact .inl ⟨rfl,hb⟩
  ·exact .inr ⟨W1 MJ,t1,v1,NT,e2,O5,Oh,hb⟩
 refine⟨⟨by rw[S4];exact r.rs.len,r.rs.aV,λk d h=>r.rs.sh k d ((get k _ h).resolve_left λz=>by cases z.2).2,λk d h=>r.rs.ol k d ((get k _ h).resolve_left λz=>by cases z.2).2,λk ks d h=>r.rs.od k ks d ((get k _ h).resolve_left λz=>by cases z.2).2,λk l a ok ol=>r.rs.cu k l a (own k ok) (own l ol),λk x h=>⟨?_,λb hb l ol el=>?_,λt1 hx l t' hl R3 b h1 h2=>?_⟩⟩,r.sm,r.sub,r.c9,λk a ok ek=>r.own k a (own k ok) ek,λk x b h hb=>?_,λy hy t1 e1=>?_⟩
 ·rcases get k _ h with⟨rfl,z⟩|⟨MJ,h0⟩
  ·cases z;exact⟨v,as,ev,tr,nd⟩
  ·cases x with
   |tr t1=>exact(r.rs.on k _ h0).1
   | al l p=>
    intro t1 ht;rcases get l _ ht with⟨rfl,_⟩|⟨_,h9⟩
    ·exact absurd h0 (zX no k p)
    ·exact(r.rs.on k _ h0).1 t1 h9
 ·rcases Nf k b hb with⟨_,h1⟩|⟨_,h1⟩
  ·exact hO b h1 l (own l ol) el
  ·obtain⟨t9,v9,Q9,e9,_⟩:=id h1
   exact(r.rs.on k _ e9).2.1 b h1 l (own l ol) el
 ·rcases Nf k b h1 with⟨k1,k2⟩|⟨k1,k2⟩
  ·rcases Nf l b h2 with⟨l1,_⟩|⟨_,l2⟩
   ·exact R3 (l1.trans k1.symm)
   ·exact hA b k2 l l2
  ·rcases Nf l b h2 with⟨_,l2⟩|⟨l1,l2⟩
   ·exact hA b l2 k k2
   ·obtain⟨t9,v9,Q9,e9,_⟩:=id k2
    obtain⟨t8,v8,Pk,e8,_⟩:=id l2;exact(r.rs.on k _ e9).2.2 t9 rfl l t8 e8 R3 b k2 l2
 ·rcases Nf k b hb with⟨_,h1⟩|⟨_,h1⟩
  ·exact hG b h1
  ·obtain⟨t9,v9,Q9,e9,_⟩:=id h1
   exact r.di k _ b e9 h1
 ·rcases get _ _ e1 with⟨z,_⟩|⟨_,e2⟩
  ·rcases hp y.1 with h|h|h
   ·rw[hy]at h;cases h;rw[<-z];exact ev
   ·rw[hy]at h;cases h
   ·exact absurd z.symm h
  ·exact r.pin y hy t1 e2
end
inductive GA where
 |e (f:Ex)|p (i:Nat) (f:Pt)
noncomputable def iF:List GA->En->R (List Arg)
 |[],_=>.ok []
 |.e f::r,ρ=>(f ρ).bind λd=>(iF r ρ).bind λas=>.ok (.d d::as)
 | .p i f::r,ρ=>(f ρ).bind λp=>match ρ[i]? with
  | some (.on (.tr t))=>(match T.at t p with
   |some t1=>(iF r ρ).bind λas=>.ok (.t t1::as)
   |none=>.bad)
  |_=>.bad
noncomputable def cP:List GA->List Nat
 |[]=>[]
 |.e _::r=>cP r
 |.p i _::r=>i::cP r
noncomputable def k8(is:List Nat)(ρ:En):En:=is.foldl (λρ i=>ρ.set i .un) ρ
noncomputable def i7(is:List Nat)(ρ:En):En:=k8 is (ρ.map λs=>match s with
 |.on (.al k _)=>if k∈is then .un else s
 |s=>s)
noncomputable def kY:List GA->List T->En->En->R En
 |[],[],_,ρ'=>.ok ρ'
 |.e _::r,us,ρ,ρ'=>kY r us ρ ρ'
 | .p i f::r,u::us,ρ,ρ'=>(f ρ).bind λp=>match ρ[i]? with
  |some (.on (.tr t))=>kY r us ρ (ρ'.set i (.on (.tr (T.put u t p))))
  |_=>.bad
 |_,_,_,_=>.bad
noncomputable def wu(m:List Arg->R (D×List T))(gs:List GA):Ox:=λρ=>(iF gs ρ).bind λxs=>if(cP gs).Nodup then(m xs).bind λy=>(kY gs y.2 ρ (i7 (cP gs) ρ)).bind λρ'=>.ok (y.1,ρ')else .bad
inductive fX(M:Md)(H:Hp)(F:YK)(σ:L2.St)(ρ:En):List GA->List Arg->List V->Prop
 |nil:fX M H F σ ρ [] [] []
 |e {f:Ex} {d:D} {v:V} {gs:List GA} {xs:List Arg} {vs:List V}:Rep M H F d v->fX M H F σ ρ gs xs vs->fX M H F σ ρ (.e f::gs) (.d d::xs) (v::vs)
 |p {i:Nat} {f:Pt} {t t1:T} {w v:V} {p:List Nat} {gs:List GA} {xs:List Arg} {vs:List V}:ρ[i]? =some (.on (.tr t))->σ[i]? =some (some w)->f ρ=.ok p->aD H t w p t1 v->fX M H F σ ρ gs xs vs->fX M H F σ ρ (.p i f::gs) (.t t1::xs) (v::vs)
inductive A7(M:Md)(gs:List GA)(σ:L2.St)(H:Hp)(Q:List V->Hp->Prop):Prop
 |mk:∀ρ F xs,bf M H F σ ρ->iF gs ρ=.ok xs->(∀vs H',aj H H'->fX M H' F σ ρ gs xs vs->Q vs H')->A7 M gs σ H Q
abbrev IV(X:Cx)(es:P2)(gs:List GA):Prop:=PA X es (A7 (aB X) gs)
structure mi(X:Cx)(es:P2)(gs:List GA):Prop where
 out:IV X es gs
theorem y8:∀ {is:List Nat} {ρ:En},(k8 is ρ).length=ρ.length
 |[],_=>rfl
 |i::is,ρ=>by show(k8 is (ρ.set i .un)).length=_;rw[y8,S4]
theorem yp:∀ {is:List Nat} {ρ:En} {j:Nat} {s:Slot},(k8 is ρ)[j]? =some s->s=.un\/(ρ[j]? =some s/\j∉is)
 |[],_,_,_,h=>.inr ⟨h,λz=>nomatch z⟩
 | i::is,ρ,j,s,h=>by
  rcases yp (is:=is) (ρ:=ρ.set i .un) h with z|⟨z,n⟩
  ·exact .inl z
  ·rcases get_set z with⟨_,z2,_⟩|⟨MJ,z⟩
   ·exact .inl z2.symm
   ·exact .inr ⟨z,λh=>(KM.mp h).elim (λe=>MJ e.symm) n⟩
theorem y9:∀ {is:List Nat} {ρ:En} {j:Nat},ρ[j]? =some .un->(k8 is ρ)[j]? =some .un
 |[],_,_,h=>h
 | i::is,ρ,j,h=>by
  refine y9 (is:=is) (ρ:=ρ.set i .un) ?_;by_cases e:i=j
  ·subst e;rw[Mk (il.mp h).1]
  ·rw[df e];exact h
theorem z6:∀ {is:List Nat} {ρ:En} {j:Nat},j∈is->j<ρ.length->(k8 is ρ)[j]? =some .un
 | i::is,ρ,j,h,hl=>by
  by_cases e:i=j
  ·subst e
   exact y9 (is:=is) (ρ:=ρ.set i .un) (by rw[Mk hl])
  ·exact z6 (is:=is) (ρ:=ρ.set i .un) ((KM.mp h).resolve_left λz=>e z.symm) (by rw[S4];exact hl)
theorem KH:(i7 is ρ).length=ρ.length:=by unfold i7;rw[y8,j1]
theorem oB(h:(i7 is ρ)[j]? =some s):s=.un\/(ρ[j]? =some s/\j∉is/\∀k p,s=.on (.al k p)->k∉is):=by
 rcases yp h with z|⟨z,n⟩
 ·exact .inl z
 ·rw[xa]at z
  cases e:ρ[j]? with
  |none=>rw[e]at z;cases z
  | some s0=>
   rw[e]at z;injection z with z;cases s0 with
   | on x=>
    cases x with
    |tr t=>cases z;exact .inr ⟨rfl,n,λ_ _ h=>by injection h with h;cases h⟩
    | al k q=>
     have z:(if k∈is then Slot.un else .on (.al k q))=s:=z
     by_cases hk:k∈is
     ·rw[DM hk]at z;exact .inl z.symm
     ·rw[Gc hk]at z;cases z;exact .inr ⟨rfl,n,λ_ _ h=>by injection h with h;injection h with h _;rw[<-h];exact hk⟩
   |_=>cases z;exact .inr ⟨rfl,n,λ_ _ h=>nomatch h⟩
section
variable{X:Cx}{M:Md}{G H H2:Hp}{F0:Gf}{F F2:YK}{σ:L2.St}{ρ:En}{pos:Pos}{gs:List GA}{xs:List Arg}{vs:List V}{ts us:List T}{ws:List V}{cs ds:P1}
theorem IZ:mi X [] []:=⟨ kq L2.hV λσ H Q ⟨ρ,F,xs,hr,e,q⟩=>by cases e;exact q [] H (aj.refl H) .nil⟩
theorem wb(ha:XE X e f)(hr:mi X es gs)(hs:starEach (e::es) X.env=(false,eval e X.env)::starEach es X.env:=by exact a9 (by rfl)):mi X (e::es) (.e f::gs):=⟨have ha:=ha.out;have hr:=hr.out;kq (L2.fz ha hr hs) λσ H Q=>by
  rintro⟨ρ,F,xs,hr,e,q⟩
  obtain⟨a,ea,e⟩:=ao.mp e;obtain⟨as,Tg,e⟩:=ao.mp e;cases e;exact⟨ρ,F,a,hr,ea,λx H1 s1 rx=>⟨ρ,F,as,hr.same s1,Tg,λvs H2 s2 rs=>q _ H2 (s1.trans s2) (.e (rx.mv (.same s2)) rs)⟩⟩⟩
theorem Lq(i:Nat)(ha:XL X i e f)(hr:mi X es gs)(hs:starEach (e::es) X.env=(false,eval e X.env)::starEach es X.env:=by exact a9 (by rfl)):mi X (e::es) (.p i f::gs):=⟨have ha:=ha.out;have hr:=hr.out;kq (L2.fz ha hr hs) λσ H Q=>by
  rintro⟨ρ,F,xs,hr,e,q⟩
  obtain⟨p,ep,e⟩:=ao.mp e;split at e
  ·rename_i t q1
   split at e
   ·rename_i t1 NM
    obtain⟨as,Tg,e⟩:=ao.mp e;cases e;obtain⟨⟨w,cs,ew,tr,nd⟩,_,_⟩:=hr.on i _ q1;exact⟨ρ,F,t,w,p,t1,hr,q1,ew,ep,NM,λv H1 s1 Pq=>⟨ρ,F,as,hr.same s1,Tg,λvs H2 s2 rs=>q _ H2 (s1.trans s2) (.p q1 ew ep (Pq.same (hr.same s1) q1 ew s2) rs)⟩⟩
   ·cases e
  ·cases e⟩
theorem Ct(h:k∈is):kE k (i7 is ρ)=true:=aap.mpr λs hs=>by
 obtain⟨j,hj⟩:=Z6 hs;rcases oB hj with z|⟨_,_,z⟩
 ·rw[z]
 ·cases s with
  | on x=>
   cases x with
   |tr t=>rfl
   | al k' q=>
    show(!decide (k'=k))=true;rw[KI (λe:k'=k=>z k' q rfl (e▸h))];rfl
  |_=>rfl
theorem fX.parts(r:bf M H F σ ρ)(h:fX M H F σ ρ gs xs vs):(cP gs).Nodup->∃ts ws cs,dX M H F xs vs ts ws/\aq M H F ts ws cs/\cs.Nodup/\∀b∈cs,∃i∈cP gs,aX M H F σ ρ i b:=by
 induction h with
 |nil=>exact λ_=>⟨[],[],[],.nil,by rw[aq];exact⟨rfl,rfl⟩,aaw,λ_ h=>nomatch h⟩
 | e rd _ ih=>
  intro nd;obtain⟨ts,ws,cs,h1,h2,h3,h4⟩:=ih nd;exact⟨ts,ws,cs,.d rd h1,h2,h3,h4⟩
 | @p i f t t1 w v p gs xs vs q1 ew ep Pq _ ih=>
  intro nd;have M5:i∉cP gs/\(cP gs).Nodup:=PP.mp nd;obtain⟨ts,ws,cs,h1,h2,h3,h4⟩:=ih M5.2;obtain⟨⟨w',as,Q5,tr,R6⟩,_,dj⟩:=r.on i _ q1;rw[ew]at Q5;cases Q5;obtain⟨bs,tb,sub⟩:=aD.part tr Pq;have oi:∀b∈bs,aX M H F σ ρ i b:=λb hb=>⟨t,w,as,q1,ew,tr,sub.subset hb⟩;refine⟨t1::ts,v::ws,bs++cs,.t h1,?_,KB.mpr ⟨R6.sublist sub,h3,λa ha b hb z=>?_⟩,λb hb=>?_⟩
  ·simp only[aq];exact⟨v,ws,bs,cs,rfl,rfl,tb,h2⟩
  ·subst z
   obtain⟨j,hj,o2⟩:=h4 a hb;obtain⟨t2,v2,Qw,e2,_⟩:=id o2;exact dj t rfl j t2 e2 (λz=>M5.1 (z▸hj)) a (oi a ha) o2
  ·rcases FS.mp hb with hb|hb
   ·exact⟨i,AC,oi b hb⟩
   ·obtain⟨j,hj,o⟩:=h4 b hb
    exact⟨j,Ax _ hj,o⟩
theorem fX.back(r:aF M G F0 H F σ ρ)(C:gU H H2 F F2 cs ds)(Pw:∀b∈cs,∃j,aX M H F σ ρ j b)(h:fX M H F σ ρ gs xs vs):∀ {ts us:List T} {ws:List V} {N4 ON:P1} {Px ρ':En},(cP gs).Nodup->dX M H F xs vs ts ws->aq M H F ts ws N4->aq M H2 F2 us ws ON->(∀b∈N4,b∈cs)->(∀b∈ON,b∈ds)->ON.Nodup->(∀b∈N4,∃i∈cP gs,aX M H F σ ρ i b)->(∀b∈cs,∀i∈cP gs,aX M H F σ ρ i b->b∈N4)->
  aF M G F0 H2 F2 σ Px->(∀i∈cP gs,Px[i]? =some .un/\kE i Px=true)->(∀k,a0 Px k->a0 ρ k)->(∀k b,aX M H2 F2 σ Px k b->b∉ON/\∀i∈cP gs,aX M H F σ ρ i b->b∈cs)->kY gs us ρ Px=.ok ρ'->aF M G F0 H2 F2 σ ρ':=by
 induction h with
 | nil=>
  intro ts us ws N4 ON Px ρ' _ ar Nj Oj _ _ _ _ _ ra _ _ _ e;cases us with
  |nil=>cases e;exact ra
  |cons _ _=>cases e
 | e rd _ ih=>
  intro ts us ws N4 ON Px ρ' nd ar Nj Oj c1 c2 c3 c4 c5 ra a1 a2 a3 e;cases ar with
  |d _ ar=>exact ih nd ar Nj Oj c1 c2 c3 c4 c5 ra a1 a2 a3 (by cases us<;>exact e)
 | @p i f t t1 w v p gs xs vs q1 ew ep Pq hg ih=>
  intro ts us ws N4 ON Px ρ' nd ar Nj Oj c1 c2 c3 c4 c5 ra a1 a2 a3 e;have M5:i∉cP gs/\(cP gs).Nodup:=PP.mp nd;cases ar with
  | @t _ _ _ _ ts ws ar=>
   cases us with
   |nil=>cases e
   | cons u us=>
    unfold kY at e;rw[ep,R.aH,q1]at e;have e:kY gs us ρ (Px.set i (.on (.tr (T.put u t p))))=.ok ρ':=e;simp only[aq]at Nj Oj;obtain⟨_,_,N5,cr,z1,rfl,Yr,Nj⟩:=Nj;cases z1;obtain⟨_,_,N6,dr,z2,rfl,Yi,Oj⟩:=Oj;cases z2;obtain⟨⟨w',as,Q5,tr,R6⟩,oo,dj⟩:=r.rs.on i _ q1;rw[ew]at Q5;cases Q5;have oi:∀b∈as,aX M H F σ ρ i b:=λb hb=>⟨t,w,as,q1,ew,tr,hb⟩
    have apart:∀j∈cP gs,∀b,aX M H F σ ρ i b->¬aX M H F σ ρ j b:=λj hj b o1 o2=>by
     obtain⟨t2,v2,Qw,e2,_⟩:=id o2;exact dj t rfl j t2 e2 (λz=>M5.1 (z▸hj)) b o1 o2
    have VA:=KB.mp c3;obtain⟨OC,WZ,sub⟩:=aD.part tr Pq;have:=au.fu WZ Yr;subst this
    have OI:∀b∈cr,∃j∈cP gs,aX M H F σ ρ j b:=λb hb=>by
     obtain⟨Ta,SX,ZR,k1,k2,_,k4⟩:=hg.parts r.rs M5.2
     have same:∀ {xs:List Arg} {vs:List V} {ts Ta:List T} {ws SX:List V},dX M H F xs vs ts ws->dX M H F xs vs Ta SX->ts=Ta/\ws=SX:=λ{xs vs ts Ta ws SX} a b=>by
      induction a generalizing Ta SX with
      |nil=>cases b;exact⟨rfl,rfl⟩
      |d _ _ ih=>cases b with|d _ b=>exact ih b
      |t _ ih=>cases b with|t b=>obtain⟨z1,z2⟩:=ih b;rw[z1,z2];exact⟨rfl,rfl⟩
     obtain⟨z1,z2⟩:=same ar k1;subst z1 z2
     have det:∀ {ts:List T} {ws:List V} {a b:P1},aq M H F ts ws a->aq M H F ts ws b->a=b:=λ{ts ws a b} h1 h2=>by
      induction ts generalizing ws a b with
      |nil=>simp only[aq]at h1 h2;rw[h1.2,h2.2]
      | cons t ts ih9=>
       simp only[aq]at h1 h2;obtain⟨x,r1,b1,c1,e1,rfl,g1,g2⟩:=h1;obtain⟨x',Zz,ZI,ZZ,Qh,rfl,Yp,Xa⟩:=h2;rw[e1]at Qh;cases Qh;rw[au.fu g1 Yp,ih9 g2 Xa]
     rw[det Nj k2]at hb;exact k4 b hb
    have sep:∀b∈as,b∈cs->b∈OC:=λb hb hc=>by
     rcases FS.mp (c5 b hc i AC (oi b hb))with h|h
     ·exact h
     ·obtain⟨j,hj,o⟩:=OI b h
      exact absurd o (apart j hj b (oi b hb))
    have Pn:vW M H H2 F F2 cs ds v t1 u OC N6:=⟨WZ,Yi,VA.1,λb hb=>c1 b (JU _ hb),λb hb=>c2 b (JU _ hb)⟩;obtain⟨_,NT,Oh,RK,k3⟩:=au.putN C Pn tr R6 sep Pq;have RH:∀b∈N6,b∈cs\/H b=none:=λb hb=>C.j3 b (Pn.jE b hb);have Zi:∀ {j b},aX M H F σ ρ j b->H b≠none:=λ{j b} o z=>by obtain⟨_,u,hu⟩:=fw.f o;rw[z]at hu;cases hu
    have r1:aF M G F0 H2 F2 σ (Px.set i (.on (.tr (T.put u t p)))):=by
     refine ra.BO (a1 i AC).1 ew (a1 i AC).2 Oh RK (λb hb=>?_) (λb hb k ok ek=>?_) (λb hb j o=>?_) (λy=>?_)
     ·rcases(k3 b).mp hb with h|h
      ·exact r.di i _ b q1 (oi b h.1)
      ·rcases RH b h with hc|hc
       ·obtain⟨j,o⟩:=Pw b hc
        obtain⟨t2,v2,Qw,e2,_⟩:=id o;exact r.di j _ b e2 o
       ·cases hg9:G b with
        |none=>rfl
        |some o=>rw[r.sm b o hg9]at hc;cases hc
     ·rcases(k3 b).mp hb with h|h
      ·exact oo b (oi b h.1) k (a2 k ok) ek
      ·obtain⟨a,_,u,_,f1,_,f2,_⟩:=r.rs.ownAt (a2 k ok)
       rw[ek]at f1;cases f1;rcases RH b h with hc|hc
       ·obtain⟨j,o⟩:=Pw _ hc
        obtain⟨t2,v2,Qw,e2,_⟩:=id o;exact(r.rs.on j _ e2).2.1 _ o k (a2 k ok) ek
       ·rw[hc]at f2;cases f2
     ·obtain⟨n1,n2⟩:=a3 j b o
      rcases(k3 b).mp hb with h|h
      ·exact h.2 (sep b h.1 (n2 i AC (oi b h.1)))
      ·exact n1 (JU _ h)
     ·by_cases hy:y.toNat=i
      ·cases hpy:F0.p y with
       |none=>exact .inr (.inl rfl)
       | some x=>
        have:=r.pin (y,x) hpy t (by show ρ[y.toNat]? =_;rw[hy];exact q1)
        have this:σ[y.toNat]? =some (some x):=this;rw[hy,ew]at this;cases this;exact .inl rfl
      ·exact .inr (.inr hy)
    have RL:∀(k:Nat) s,(Px.set i (.on (.tr (T.put u t p))))[k]? =some s->(i=k/\s=.on (.tr (T.put u t p)))\/(i≠k/\Px[k]? =some s):=λk s h=>by
     rcases get_set h with⟨h1,h2,h3⟩|⟨h1,h⟩
     ·exact .inl ⟨h1,h2.symm⟩
     ·exact .inr ⟨h1,h⟩
    refine ih M5.2 ar Nj Oj (λb hb=>c1 b (Do _ hb)) (λb hb=>c2 b (Do _ hb)) VA.2.1 OI (λb hb j hj o=>?_) r1 (λj hj=>?_) (λk ok=>a2 k ?_) (λk b o=>?_) e
    ·rcases FS.mp (c5 b hb j (Ax _ hj) o)with h|h
     ·exact absurd o (apart j hj b (oi b (sub.subset h)))
     ·exact h
    ·have MJ:i≠j:=λz=>M5.1 (z▸hj)
     obtain⟨h1,h2⟩:=a1 j (Ax _ hj);refine⟨by rw[df MJ];exact h1,aap.mpr λs hs=>?_⟩
     rcases aaq hs with h|rfl
     ·exact aap.mp h2 s h
     ·rfl
    ·rcases ok with⟨ds,e⟩|⟨ks,ds,e⟩
     ·exact .inl ⟨ds,((RL k _ e).resolve_left λz=>by cases z.2).2⟩
     ·exact .inr ⟨ks,ds,((RL k _ e).resolve_left λz=>by cases z.2).2⟩
    ·obtain⟨t9,v9,Q9,e9,UW,V5,Wq⟩:=o
     rcases RL k _ e9 with⟨rfl,z⟩|⟨MJ,e8⟩
     ·cases z
      rw[ew]at UW;cases UW;have:=au.fu Oh V5;subst this;rcases(k3 b).mp Wq with h|h
      ·obtain⟨_,u9,Yq⟩:=tr.fs b h.1
       exact⟨λhd=>C.mf (λhc=>h.2 (sep b h.1 hc)) Yq (c2 b (Do _ hd)),λj hj oj=>absurd oj (apart j hj b (oi b h.1))⟩
      ·exact⟨λhd=>VA.2.2 b h b hd rfl,λj hj oj=>(RH b h).resolve_right (Zi oj)⟩
     ·obtain⟨n1,n2⟩:=a3 k b ⟨t9,v9,Q9,e8,UW,V5,Wq⟩
      exact⟨λhd=>n1 (Do _ hd),λj hj=>n2 j (Ax _ hj)⟩
theorem fX.tree(h:fX M H F σ ρ gs xs vs):∀i∈cP gs,∃t,ρ[i]? =some (.on (.tr t)):=by
 induction h with
 |nil=>exact λ_ h=>nomatch h
 |e _ _ ih=>exact ih
 |p q1 _ _ _ _ ih=>exact λj hj=>(KM.mp hj).elim (λz=>z▸⟨_,q1⟩) (ih j)
theorem aF.Ll(r:aF M G F0 H F σ ρ)(h:fX M H F σ ρ gs xs vs)(nd:(cP gs).Nodup)(ar:dX M H F xs vs ts ws)(Nj:aq M H F ts ws cs)(OI:∀b∈cs,∃i∈cP gs,aX M H F σ ρ i b)(C:gU H H2 F F2 cs ds)(Oj:aq M H2 F2 us ws ds)(Vi:ds.Nodup)(e:kY gs us ρ (i7 (cP gs) ρ)=.ok ρ'):aF M G F0 H2 F2 σ ρ':=by
 have r0:aF M G F0 H F σ (i7 (cP gs) ρ):=r.un KH λj s h=>(oB h).imp id ado
 have SY:∀k,a0 (i7 (cP gs) ρ) k->a0 ρ k:=λk ok=>by
  rcases ok with⟨ds,e⟩|⟨ks,ds,e⟩
  ·exact .inl ⟨ds,((oB e).resolve_left λz=>nomatch z).1⟩
  ·exact .inr ⟨ks,ds,((oB e).resolve_left λz=>nomatch z).1⟩
 have RZ:∀k b,aX M H F σ (i7 (cP gs) ρ) k b->aX M H F σ ρ k b/\k∉cP gs:=λk b=>by
  rintro⟨t,v,as,ek,ev,tr,hb⟩
  obtain⟨e1,n1,_⟩:=(oB ek).resolve_left λz=>nomatch z
  exact⟨⟨t,v,as,e1,ev,tr,hb⟩,n1⟩
 have cu:∀ {i j b},aX M H F σ ρ i b->aX M H F σ ρ j b->i=j:=λ{i j b} o1 o2=>by
  obtain⟨t1,_,_,e1,_⟩:=id o1;obtain⟨t2,_,_,e2,_⟩:=id o2;by_cases z:j=i
  ·exact z.symm
  ·exact((r.rs.on i _ e1).2.2 t1 rfl j t2 e2 z b o1 o2).elim
 obtain⟨rf,Xw⟩:=r0.frame C (λb hb=>by obtain⟨i,_,o⟩:=OI b hb;obtain⟨t,_,_,e1,_⟩:=id o;exact r.di i _ b e1 o) (λb hb k ok=>by obtain⟨i,_,o⟩:=OI b hb;obtain⟨t,_,_,e1,_⟩:=id o;exact(r.rs.on i _ e1).2.1 b o k (SY k ok))
  (λb hb j o=>by obtain⟨i,hi,oi⟩:=OI b hb;obtain⟨o1,n1⟩:=RZ j b o;exact n1 (cu oi o1▸hi)) (λb hb=>(Oj.fs b hb).2)
 refine h.back r C (λb hb=>by obtain⟨i,_,o⟩:=OI b hb;exact⟨i,o⟩) nd ar Nj Oj (λ_ h=>h) (λ_ h=>h) Vi OI (λb hb _ _ _=>hb) rf (λi hi=>?_) SY (λk b o=>?_) e
 ·obtain⟨t,ht⟩:=h.tree i hi
  exact⟨z6 hi (by rw[j1];exact(il.mp ht).1),Ct hi⟩
 ·obtain⟨o1,n1⟩:=RZ k b (Xw k b o)
  refine⟨λhd=>?_,λi hi oi=>absurd (cu oi o1▸hi) n1⟩;rcases C.j3 b hd with hc|hc
  ·obtain⟨i,hi,oi⟩:=OI b hc
   exact n1 (cu oi o1▸hi)
  ·obtain⟨_,u,hu⟩:=fw.f o1
   rw[hc]at hu;cases hu
theorem LQ(d:rF X.prog X.w X.K X.mg X.base y k n m)(hr:L2.bZ j X.A)(ha:mi X (e::es) gs)(hg:L2.Gl X y:=by rfl)(hk:k<=j:=by decide)(hn:gs.length=n:=by rfl)(Oz:gV y:=by decide)(he:starEach (e::es) X.env=(false,eval e X.env)::starEach es X.env:=by exact a9 (by rfl))(Og:(backTo MQ (starEach es X.env)).any (·.1)=false:=by exact fU (by rfl)):zw X (.Call (.Name y p) (e::es) [] MQ) (wu m gs):=⟨have ha:=ha.out;λF0=>by
 obtain⟨f,fd,ps,h1,h2,h3,h4⟩:=d.ex;refine bw (L2.p8 h1 (hr.mono hk) hg h4 h3 h2 .nil L2.pY ha Oz he Og) λσ H Q ⟨ρ,F,d,ρ',r,e,q⟩=>?_;obtain⟨xs,X4,e⟩:=ao.mp e;split at e
 ·rename_i nd
  obtain⟨⟨dd,us⟩,et,e⟩:=ao.mp e;obtain⟨Nm,ep,e⟩:=ao.mp e;cases e;refine⟨ρ,F,xs,r.rs,X4,λvs H1 s1 ag=>?_⟩;show qA _ m n (vs++[]) H1 _ _;rw[On];have r1:=r.same s1;obtain⟨ts,ws,cs,ar,Nj,QM,OI⟩:=ag.parts r1.rs nd
  have hlen:xs.length=gs.length:=by
   have:∀ {gs:List GA} {xs:List Arg} {vs:List V},fX (aB X) H1 F σ ρ gs xs vs->xs.length=gs.length:=λ{gs xs vs} h=>by
    induction h with
    |nil=>rfl
    |e _ _ ih=>simp[ih]
    |p _ _ _ _ _ ih=>simp[ih]
   exact this ag
  refine⟨F,xs,ts,ws,cs,dd,us,ar,r1.rs.aV,Nj,QM,by rw[hlen];exact hn,et,λv H' F' ds ho NY Vi hF Oj rd=>?_⟩
  have C:gU H1 H' F F' cs ds:=⟨Nj.fs,ho,hF,NY⟩;exact q _ _ _ (Mv.trans (.same s1) C.mv) (r1.Ll ag nd ar Nj OI C Oj Vi ep) rd
 ·cases e⟩
end
end PL
namespace PL
open PySem PySem.Spec PySem.Calls PyProof.Rows
open L2 (V Hp HO Cx PE PT PW PA PS bC PG cb VK TE TT TA TS TI TG Inv RelV Vals Rd aU bj upd aj Key XK Ends aR cB bq R2 EP It Turn bS Un bx)
end PL
namespace PL
open PySem PySem.Spec
open L2 (V Hp HO Cx PE PT PW PA PS bC PG cb VK TE TT TA TS TI TG Inv RelV Vals Rd aU bj upd aj Key XK Ends aR cB bq R2 EP It Turn bS Un)
open Classical in
open Classical in
section
variable{X:Cx}{M:Md}{G H H2:Hp}{F0:Gf}{F F2:YK}{σ:L2.St}{ρ:En}{pos:Pos}
open Classical in
end
end PL
namespace PL
open PySem PySem.Spec PySem.W
open L2 (V Hp HO Cx PE PT PW PA PS bC PG cb VK TE TT TA TS TI TG Inv RelV Vals Rd aU bj upd aj Key XK Ends aR cB bq R2 EP It Turn bS Un bx cH cq)
section
variable{P:Program}{w:World}{K:PySem.W.Frag}{mg:Str->S2}{base:Heap}{N:List Str}{qual:Str}{scope:Scope}{f:Addr}{MD:Value}{A:Around}{outer:List Env}{s:Shared}{H:Hp}{E:XK}
theorem C6(I:Inv (L2.bQ (cK P w C) P w K mg base N qual scope f MD A outer s H E) pins σ H1 s1)(sm:aj H H1)
  (hq:cK P w C (PyProof.Rows.envOfC qual scope s.heap.objs.size f MD::outer) H1 s1 E1 e s'):(L2.bQ (cK P w C) P w K mg base N qual scope f MD A outer s H E).xe e s':=by
 obtain⟨a,t,B,H',rfl,os,bare,un,aC,Oe,Qv,QO,fl,i9⟩:=hq;have y:iA P w C (PyProof.Rows.envOfC qual scope s.heap.objs.size f MD::outer) H1 H' s1.heap a t B s'.heap:=⟨un,aC,fl,i9⟩;refine wpAny_leaves_onW (L:=s.heap.objs.size) I.ok.frames rfl fl λh2 cQ Ou=>?_;obtain⟨u2,k2,c2⟩:=y.step cQ.1 Ou;have I2:Inv (L2.bQ (cK P w C) P w K mg base N qual scope f MD A outer s H E) pins σ H' {s' with heap:=h2}:=L2.Inv.pC (s':={s' with heap:=h2}) I os u2 k2 bare (λb z=>absurd z (by simp))
 have W5:=I.base;refine⟨a,t,B,H',rfl,os.trans I.os,bare,I2.base,k2,sm.trans Oe,Qv,?_,cQ,λb o eo hc=>c2 b o eo (hc.imp id λ⟨⟨o',e'⟩,hb⟩=>?_)⟩
 ·cases q:s.heap.get? a with
  |none=>rfl
  | some o=>
   obtain⟨o',e'⟩:=W5.there a o q (by intro z;cases z)
   rw[QO]at e';cases e'
 ·obtain⟨o2,e2⟩:=W5.there b o' e' (by intro z;cases z)
  refine⟨⟨o2,e2⟩,λhm=>?_⟩;have hm:b∈List.filterMap (λx:Env=>x.frame) (_::outer):=hm;rw[XU]at hm;rcases KM.mp hm with rfl|hm
  ·exact absurd (GE e') (aae _)
  ·exact hb hm
end
theorem PS.A8(h:PS X.dB st t):PS X st t:=λpins s σ H D I hw=>
 SL (h pins s σ H D (I.fH _) hw) (λ_ _ q=>q.gH) λ_ _ z=>False.elim z
def JR(X:Cx)(c:Str)(ss:List Stmt)(r:En->R D):Prop:=∀F0:Gf,F0.g=X.ju->bC X ss (λ_ σ H=>∃ρ F,aF (aB X) F0.g F0 H F σ ρ/\r ρ=.exc (.bN c [] []))
noncomputable def dA(c:Str)(t:bg):En->R D:=λρ=>match t ρ with
 |.ok true=>.exc (.bN c [] [])
 |_=>.bad
noncomputable def g9(f:Sm)(r:En->R D):En->R D:=λρ=>match f ρ with
 |.ok (.next ρ')=>r ρ'
 |_=>.bad
def eW(c:Str)(r:En->R D):Prop:=∀ρ y,r ρ=.exc y->y=.bN c [] []
theorem jg:eW c (dA c t):=λρ y h=>by
 unfold dA at h;split at h
 ·cases h;rfl
 ·cases h
theorem rL(hr:eW c r):eW c (g9 f r):=λρ y h=>by
 unfold g9 at h;split at h
 ·exact hr _ y h
 ·cases h
theorem gK(hm:∀ds y,m ds=.exc y->y=.bN c [] []):eW c (dm m fs):=λρ y h=>by
 unfold dm at h;split at h
 ·exact hm _ y h
 ·cases h
theorem qy(h:JS X.dB st f)(h2:JR X c ss r):JR X c (st::ss) (g9 f r):=λF0 hF=>nv (L2.kl (PS.A8 (h F0)) (h2 F0 hF)) λD σ H=>by
 rintro⟨ρ,F,rg,er⟩
 unfold g9 at er;split at er
 ·rename_i ρ' ef
  exact⟨ρ,F,_,rg,ef,λME H' F' mv QC=>⟨ρ',F',QC,er⟩⟩
 ·cases er
section
variable{P:Program}{w:World}{K:PySem.W.Frag}{mg:Str->S2}{base:Heap}{N:List Str}{qual:Str}{scope:Scope}{f C:Addr}{MD:Value}{A:Around}{outer:List Env}{s:Shared}{H:Hp}{E:XK}{c:Str}
theorem nV{j}(Z:dD K c C)(VP:mg c=some (.ref C))(hg:L2.Gl (L2.bQ (cK P w C) P w K mg base N qual scope f MD A outer s H E) c)
  (h:JT (L2.bQ (cK P w C) P w K mg base N qual scope f MD A outer s H E).dB test t) (hd:gV c:=by decide):
  JR (L2.bQ (cK P w C) P w K mg base N qual scope f MD A outer s H E) c (.If test [.Raise (some (.Call (.Name c np) [.Constant (.str msg) j kp] [] MQ)) none rp] Wa ip::rest) (dA c t):=λF0 hF=>
 nv (L2.kl (L2.vd h.dB (L2.kl (zK Z VP hg hd) L2.lT) L2.lT) L2.lT) λD σ H1=>by
  rintro⟨ρ,F,rg,er⟩
  unfold dA at er;split at er
  ·rename_i et
   have sm:aj H H1:=by have:=rg.sm;rw[hF]at this;exact this
   exact⟨_,F,true,rg.rs,et,λH' Q3=>sm.trans Q3⟩
  ·cases er
end
theorem oE
  (Fu:L2.d8 K x qual st f fd) (hm:mg x=some (.ref f)) (S:L2.aY N ps (L2.aI st)) (hb:L2.Binds K fd ps []) (Z:dD K c C)
  (h:∀(MD:Value) (A:Around) (outer:List Env) (s:Shared) (H:Hp) (E:XK),L2.bZ k (A.deeper (PyProof.Rows.envOfC qual (L2.aI st) s.heap.objs.size f MD))->JR (L2.bQ (cK P w C) P w K mg base N qual (L2.aI st) f MD A outer s H E) c (L2.fN st) r)
  (hn:ps.length=n:=by rfl):Rf P w K mg base x (k+1) n c (λds=>r (ds.map Slot.sh++List.replicate (N.length - ds.length) .un)):=by
 refine⟨f,fd,ps,C,?_,hb,Fu.kp,hm,Z⟩;obtain⟨oc,od,kV,doc,pm,an,MD,ct,PJ,rfl,lk,Nn⟩:=Fu.ex;refine L2.xc lk Nn S (λvs H Q E h=>?_) λA outer s H vs Q E hr Ow=>?_
 ·obtain⟨F,ds,_,rs,hl,_⟩:=h
  rw[<-rs.length,hl,hn]
 ·obtain⟨F,ds,tr,rs,hl,e⟩:=Ow
  have hle:n<=N.length:=by
   have:=congrArg List.length S.pre;rw[Re]at this;omega
  exact⟨_,h MD A outer s H E hr ⟨H,F,λ_=>none⟩ rfl,_,F,rH (N:=N) tr rs hl hle,e⟩
end PL
namespace PL
open PySem PySem.Spec
open L2 (V Hp HO Cx PE PT PW PA PS bC PG cb VK TE TT TA TS TI TG Inv RelV Vals Rd aU bj upd aj Key XK Ends aR cB bq R2 EP It Turn bS Un)
end PL
namespace PL
open PySem PySem.Spec PySem.W
open L2 (V Hp HO Cx PE PT PW PA PS bC PG cb VK TE TT TA TS TI TG Inv RelV Vals Rd aU bj upd aj Key XK Ends aR cB bq R2 EP It Turn bS Un bx cH cq)
def rO(X:Cx)(c:Str)(st:Stmt)(r:En->R D):Prop:=∀F0:Gf,F0.g=X.ju->PS X st (λ_ σ H=>∃ρ F,aF (aB X) F0.g F0 H F σ ρ/\r ρ=.exc (.bN c [] []))
noncomputable def dN(r1:En->R D)(f:Sm)(r2:En->R D):En->R D:=λρ=>match r1 ρ with
 |.exc y=>.exc y
 | _=>match f ρ with
  |.ok (.next ρ')=>r2 ρ'
  |_=>.bad
theorem lF{c:Str}{r1 r2:En->R D}{f:Sm}(h1:eW c r1)(h2:eW c r2):eW c (dN r1 f r2):=λρ y h=>by
 unfold dN at h;split at h
 ·rename_i z e;cases h;exact h1 ρ y e
 ·split at h
  ·exact h2 _ y h
  ·cases h
theorem Km{X:Cx}{c:Str}{st:Stmt}{ss:List Stmt}{r:En->R D}(h:rO X c st r):JR X c (st::ss) r:=λF0 hF=>nv (L2.kl (h F0 hF) L2.lT) λ_ _ _ q=>q
theorem mK{X:Cx}{c:Str}{st:Stmt}{ss:List Stmt}{f:Sm}{r1 r2:En->R D}(h1:rO X c st r1)(o1:eW c r1)(h:JS X.dB st f)(h2:JR X c ss r2):JR X c (st::ss) (dN r1 f r2):=λF0 hF pins s σ H D I=>by
 rintro⟨ρ,F,rg,er⟩
 unfold dN at er;split at er
 ·rename_i y e
  rw[o1 ρ y e]at e;exact Km h1 F0 hF pins s σ H D I ⟨ρ,F,rg,e⟩
 ·split at er
  ·rename_i ρ' ef
   exact L2.kl (PS.A8 (h F0)) (h2 F0 hF) pins s σ H D I ⟨ρ,F,_,rg,ef,λME H' F' mv QC=>⟨ρ',F',QC,er⟩⟩
  ·cases er
section
variable{P:Program}{w:World}{K:PySem.W.Frag}{mg:Str->S2}{base:Heap}{N:List Str}{qual:Str}{scope:Scope}{f C:Addr}{MD:Value}{A:Around}{outer:List Env}{s:Shared}{H:Hp}{E:XK}{c:Str}
theorem zB{test:Expr}{t:bg}{msg:Str}{Wa:List Stmt}{j}{np kp MQ rp ip:Pos}(Z:dD K c C)(VP:mg c=some (.ref C))(hg:L2.Gl (L2.bQ (cK P w C) P w K mg base N qual scope f MD A outer s H E) c)
  (h:JT (L2.bQ (cK P w C) P w K mg base N qual scope f MD A outer s H E).dB test t) (hd:gV c:=by decide):
  rO (L2.bQ (cK P w C) P w K mg base N qual scope f MD A outer s H E) c (.If test [.Raise (some (.Call (.Name c np) [.Constant (.str msg) j kp] [] MQ)) none rp] Wa ip) (dA c t):=λF0 hF=>
 cx (L2.vd h.dB (L2.kl (zK Z VP hg hd) L2.lT) L2.lT) λD σ H1=>by
  rintro⟨ρ,F,rg,er⟩
  unfold dA at er;split at er
  ·rename_i et
   have sm:aj H H1:=by have:=rg.sm;rw[hF]at this;exact this
   exact⟨_,F,true,rg.rs,et,λH' Q3=>sm.trans Q3⟩
  ·cases er
theorem qh{x:Str}{k j nn:Nat}{m:List D->R D}{e:Expr}{es:P2}{fs:List Ex}{p cp pos:Pos}(Z:dD K c C)
  (d:Rf P w K mg base x k nn c m) (hr:L2.bZ j (A.deeper (PyProof.Rows.envOfC qual scope s.heap.objs.size f MD))) (Uc:L2.Gl (L2.bQ (cK P w C) P w K mg base N qual scope f MD A outer s H E) x)
  (ha:JA (L2.bQ (cK P w C) P w K mg base N qual scope f MD A outer s H E).dB (e::es) (eList fs)) (Qx:k<=j:=by decide) (hn:fs.length=nn:=by rfl) (So:gV x:=by decide)
  (Ur:starEach (e::es) (L2.bQ (cK P w C) P w K mg base N qual scope f MD A outer s H E).env=(false,eval e (L2.bQ (cK P w C) P w K mg base N qual scope f MD A outer s H E).env)::starEach es (L2.bQ (cK P w C) P w K mg base N qual scope f MD A outer s H E).env:=by rfl)
  (Og:(backTo cp (starEach es (L2.bQ (cK P w C) P w K mg base N qual scope f MD A outer s H E).env)).any (·.1)=false:=by rfl)
  (hs:swapsWith (.Call (.Name x p) (e::es) [] cp) none pos.line (L2.bQ (cK P w C) P w K mg base N qual scope f MD A outer s H E).env=pure false:=by rfl):
  rO (L2.bQ (cK P w C) P w K mg base N qual scope f MD A outer s H E) c (.Expr (.Call (.Name x p) (e::es) [] cp) pos) (dm m fs):=λF0 hF=>by
 generalize hX:L2.bQ (cK P w C) P w K mg base N qual scope f MD A outer s H E=X at Uc ha Ur Og hs ⊢;refine cx (L2.l6 (te:=λσ H1 _=>∃ρ F,aF (aB X) F0.g F0 H1 F σ ρ/\dm m fs ρ=.exc (.bN c [] [])) ?_ hs) λD σ H1 z=>z;intro pins s1 σ H1 Q I ⟨ρ,F,rg,er⟩;subst hX;unfold dm at er;split at er
 case h_2=>cases er
 rename_i ds O7;obtain⟨fa,fd,ps,C',F1,hb,V0,U8,ZC⟩:=d.ex
 have eC:C'=C:=by
  have:=ZC.name.symm.trans Z.name;injection this with this;injection this with this;injection this
 subst eC;refine aad (L2.mF I Uc U8 ?_ So);refine acn (h₀:=base) I.ok.mod.mq V0 (SL (ha cp pins s1 σ H1 (λvs H2=>aj H1 H2/\ai _ H2 F ds vs) (I.fH _) ⟨ρ,F,ds,rg.rs,O7,λvs H2 s2 rs=>⟨s2,rs⟩⟩) (λus s2 ⟨vs,H2,I2,r,Ou,rs⟩=>⟨I2.gH.eU,?_⟩) λ_ _ z=>False.elim z) Ur Og;have I2:=I2.gH;have hlen:ds.length=nn:=by rw[ja O7];exact hn
 have Ow:ub ⟨K,P,w⟩ m nn c vs H2 (λ_ _=>False) L2.E0:=⟨F,ds,(rg.rs.same Ou).aV,rs,hlen,er⟩;have hl:(us++[]).length=ps.length:=by rw[On, <-r.length];exact F1.len _ _ _ _ Ow
 have Ts:=hb s2 us I2.eU hl;rw[On]at Ts;refine wpAny_call (aca (F1.run _ _ s2 H2 ⟨us,[]⟩ us vs (λ_ _=>False) L2.E0 (hr.mono Qx) I2.tH Ts r Ow) λr s' hq=>?_);cases r with
 | ok fl=>
  cases fl with
  |ret u=>obtain⟨_,_,_,_,_,_,_,q⟩:=hq;exact q.elim
  |next=>exact False.elim hq
  |brk=>exact False.elim hq
  |cont=>exact False.elim hq
 | error ev=>
  have sm:aj H H2:=by have:=rg.sm;rw[hF]at this;exact(show aj H H1 from this).trans Ou
  exact C6 (E1:=L2.E0) I2 sm hq
end
def oY(X:Cx)(c:Str)(Uy:List Stmt)(r:En->R D):Prop:=∀(pins:List (Addr×Obj)) (s:Shared) (σ:L2.St) (H:Hp) (ρ:En) (F:YK) (Ex:Value->Shared->Prop),Inv X pins σ H s->bf (aB X) H F σ ρ->r ρ=.exc (.bN c [] [])->
 (∀C e s1 H1 s',dD X.K c C->Inv X pins σ H1 s1->aj H H1->cK X.prog X.w C X.stack H1 s1 L2.E0 e s'->Ex e s')->wpAny (model X.prog X.w) X.A (execs Uy X.env) (λ_ _=>False) Ex s
noncomputable def fS(t:bg)(ra rb:En->R D):En->R D:=λρ=>match t ρ with
 |.ok true=>ra ρ
 |.ok false=>rb ρ
 |_=>.bad
theorem uJ{c:Str}{t:bg}{ra rb:En->R D}(ha:eW c ra)(hb:eW c rb):eW c (fS t ra rb):=λρ y h=>by
 unfold fS at h;split at h
 ·exact ha ρ y h
 ·exact hb ρ y h
 ·cases h
section
variable{X:Cx}{c:Str}
theorem rW{x:Str}{k j nn:Nat}{m:List D->R D}{e:Expr}{es:P2}{fs:List Ex}{p cp ep:Pos}(d:Rf X.prog X.w X.K X.mg X.base x k nn c m)(hr:L2.bZ j X.A)(Uc:L2.Gl X x)(ha:JA X (e::es) (eList fs))(Tt:X.xe=λ_ _=>False)
  (Qx:k<=j:=by decide) (hn:fs.length=nn:=by rfl) (So:gV x:=by decide)
  (Ur:starEach (e::es) X.env=(false,eval e X.env)::starEach es X.env:=by rfl) (Og:(backTo cp (starEach es X.env)).any (·.1)=false:=by rfl)
  (O2:swapsWith (.Call (.Name x p) (e::es) [] cp) none ep.line X.env=pure false:=by rfl):oY X c [.Expr (.Call (.Name x p) (e::es) [] cp) ep] (dm m fs):=by
 intro pins s σ H ρ F Ex I Sa er hE;unfold dm at er;split at er
 case h_2=>cases er
 rename_i ds O7;obtain⟨fa,fd,ps,C,F1,hb,V0,U8,ZC⟩:=d.ex;refine abU (SL (wpAny_Expr_any (Q:=λ_ _=>False) ?_ I.quiet O2) (λ_ _ z=>z.elim) λ_ _ z=>z);refine aad (L2.mF (X:=X.fH Ex) (I.fH Ex) Uc U8 ?_ So);refine acn (h₀:=X.base) I.ok.mod.mq V0 (SL (ha cp pins s σ H (λvs H1=>aj H H1/\ai (aB X) H1 F ds vs) I ⟨ρ,F,ds,Sa,O7,λvs H1 s1 rs=>⟨s1,rs⟩⟩) (λus s1 ⟨vs,H1,I1,r,Oe,rs⟩=>⟨I1.eU,?_⟩) λ_ _ z=>by rw[Tt]at z;exact z.elim) Ur Og
 have hlen:ds.length=nn:=by rw[ja O7];exact hn
 have Ow:ub ⟨X.K,X.prog,X.w⟩ m nn c vs H1 (λ_ _=>False) L2.E0:=⟨F,ds,(Sa.same Oe).aV,rs,hlen,er⟩;have hl:(us++[]).length=ps.length:=by rw[On, <-r.length];exact F1.len _ _ _ _ Ow
 have Ts:=hb s1 us I1.eU hl;rw[On]at Ts;refine wpAny_call (aca (F1.run X.A X.stack s1 H1 ⟨us,[]⟩ us vs (λ_ _=>False) L2.E0 (hr.mono Qx) I1.tH Ts r Ow) λr s' hq=>?_);cases r with
 | ok fl=>
  cases fl with
  |ret u=>obtain⟨_,_,_,_,_,_,_,q⟩:=hq;exact q.elim
  |next=>exact False.elim hq
  |brk=>exact False.elim hq
  |cont=>exact False.elim hq
 |error ev=>exact hE C ev s1 H1 s' ZC I1 Oe hq
theorem sA{test:Expr}{t:bg}{a b:List Stmt}{ra rb:En->R D}{pos:Pos}(ht:JT X test t)(ha:oY X c a ra)(hb:oY X c b rb)(Tt:X.xe=λ_ _=>False):oY X c [.If test a b pos] (fS t ra rb):=by
 intro pins s σ H ρ F Ex I Sa er hE;unfold fS at er
 have go:∀bb:Bool,t ρ=.ok bb->(∀s1 H1,Inv X pins σ H1 s1->aj H H1->wpAny (model X.prog X.w) X.A (execs (if bb=true then a else b) X.env) (λ_ _=>False) Ex s1)->wpAny (model X.prog X.w) X.A (execs [.If test a b pos] X.env) (λ_ _=>False) Ex s:=λbb et k=>by
  refine abU (SL (wpAny_If (Q:=λ_ _=>False) (SL (ht pins s σ H (λd H1=>aj H H1/\d=bb) I ⟨ρ,F,bb,Sa,et,λH' sm=>⟨sm,rfl⟩⟩) (λd s1 ⟨H1,I1,Oe,ed⟩=>?_) λ_ _ z=>by rw[Tt]at z;exact z.elim)) (λ_ _ z=>z.elim) λ_ _ z=>z)
  subst ed;have:=k s1 H1 I1 Oe;cases d with
  |true=>exact this
  |false=>exact this
 split at er
 ·rename_i et
  exact go true et λs1 H1 I1 Oe=>ha pins s1 σ H1 ρ F Ex I1 (Sa.same Oe) er λC e s2 H2 s' z I2 Ou q=>hE C e s2 H2 s' z I2 (Oe.trans Ou) q
 ·rename_i et
  exact go false et λs1 H1 I1 Oe=>hb pins s1 σ H1 ρ F Ex I1 (Sa.same Oe) er λC e s2 H2 s' z I2 Ou q=>hE C e s2 H2 s' z I2 (Oe.trans Ou) q
 ·cases er
theorem Kp{X:L2.Cx}{uc n:Str}{U:Addr}{i:Nat}{body:List Stmt}{r:En->R D}{Qz:Stmt}{Pr:List Stmt}{f:Sm}{np hp pos:Pos}(hb:oY X c body r)(ho:eW c r)(Vj:X.mg uc=some (.ref U))(Z:∀C,dD X.K c C->kh X.K C U)(hN:X.N.Nodup)(hs:∀a,ik (Xm X a) (Qz::Pr) f)(UC:L2.Gl X uc:=by rfl)(Tt:X.xe=λ_ _=>False:=by exact rfl)(O3:X.stack=X.env::X.outer:=by exact rfl)(hf:X.env.frame=some X.env.locals:=by exact rfl)(hi:X.N[i]? =some n:=by rfl)(hk:X.env.kindOf n=some .local:=by rfl)(hd:gV uc:=by decide):XS X (.Try body [.ExceptHandler (some (.Name uc np)) (some n) (Qz::Pr) hp] [] [] pos) (qF r i f):=⟨ by
 intro F0 pins s σ H D I ⟨ρ,F,fl,rg,ef,O9⟩;unfold qF at ef;split at ef
 case h_2=>cases ef
 rename_i y ey;obtain⟨Wv,Y5,ef⟩:=ao.mp ef;cases ef;cases ho ρ y ey;refine wpAny_Try_except (SL (hb pins s σ H ρ F _ I rg.rs ey λC e s1 H1 s' ZC I1 Oe hq=>?_) (λ_ _ z=>z.elim) λ_ _ z=>z);refine Fs (E1:=L2.E0) I1 hq O3 hf UC Vj (Z C ZC) hN hi hk hd λa s2 H2 I2 Ou UU XR=>?_;have sm:=Oe.trans Ou
 have YQ:aF (aB X) F0.g F0 H2 F (σ.set i (some (.ref a))) (ρ.set i (.sh (.bN c [] []))):=by
  have r1:=rg.same sm;refine r1.lI ?_;simp only[Rep];exact⟨a,(),rfl,.inr ⟨(λfa=>by obtain⟨o,ho⟩:=(rg.rs.same Oe).aV a fa;rw[UU]at ho;cases ho),.inl ⟨trivial,C,XR,ZC.name⟩⟩⟩
 refine SL (hs a F0 pins s2 _ H2 {nx:=λME H'=>D.nx (ME.set i none) H',bk:=λME H'=>D.bk (ME.set i none) H',ct:=λME H'=>D.ct (ME.set i none) H',rt:=D.rt} I2 ⟨_,F,Wv,YQ,Y5,?_⟩) (λfl s4 q=>?_) λ_ _ z=>by
   have z':X.xe _ _:=z;rw[Tt]at z';exact z'
 ·have he:=lA.mv (Mv.same sm) O9
  cases Wv with
  |next ρ'=>exact λME H' F' mv QC=>he _ H' F' mv QC.gone
  |brk ρ'=>exact λME H' F' mv QC=>he _ H' F' mv QC.gone
  |cont ρ'=>exact λME H' F' mv QC=>he _ H' F' mv QC.gone
  |ret d=>exact he
  |dM d=>exact he
  |ee d=>exact he
  |gD i ρ=>exact he
  |dS d ρ=>exact he
 ·cases fl with
  | next=>
   obtain⟨ME,H',I4,q⟩:=q;exact qD (Inv.unmark I.ok I4) hN hi hk λs' I'=>⟨_,H',I',q⟩
  | brk=>
   obtain⟨ME,H',I4,q⟩:=q;exact qD (Inv.unmark I.ok I4) hN hi hk λs' I'=>⟨_,H',I',q⟩
  | cont=>
   obtain⟨ME,H',I4,q⟩:=q;exact qD (Inv.unmark I.ok I4) hN hi hk λs' I'=>⟨_,H',I',q⟩
  | ret u=>
   obtain⟨v,ME,H',I4,rv,q⟩:=q;exact qD (Inv.unmark I.ok I4) hN hi hk λs' I'=>⟨v,_,H',I',rv,q⟩⟩
end
end PL
namespace PL
namespace iX
open PySem
noncomputable abbrev S(x:String):D:=.str (Str.ofString x)
noncomputable def kQ:D:=(.int 16)
noncomputable def uQ:D:=(.int 14)
noncomputable def fF:D:=(.int 1)
noncomputable def du:D:=(.int 2)
noncomputable def sL:D:=(.int 64)
noncomputable def rB:D:=(.int 32)
noncomputable def nG:D:=(.int 2)
noncomputable def gN:List D->R D:=fn 2 (aN [bH (tV (e2 oLt (aa 1) (e1 cC (aa 0)))) (a8 (e2 aO (aa 0) (aa 1))) (bu),a8 (eC (.int 0))])
noncomputable def eT:List D->R D:=fn 2 (a8 (e2 bz (e2 aQ (e2 dH (aa 0) (aa 1)) (eC (.int 15))) (eC (.int 16))))
noncomputable def lr:Sm:=aN [aS (aA 6) (hJ 0 (e2 cX (e2 aQ (eC (.int 1)) (aw eT [eC (.int 2),e2 aQ (e1 cz (aa 4)) (eC (.int 1))])) (aw eT [eC (.int 2),e1 cz (aa 4)]))),bH (tV (e2 oLe (aa 6) (aa 3))) (aN [aS (aA 3) (e2 cX (aa 3) (aa 6)),nE 0 (pA 0 4) (e2 aQ (eC (.int 1)) (e2 dH (aa 5) (aa 2))) (hJ 0 (e1 cz (aa 0))),ng 0 (xL [xD (eC (.int 1)),xD (bA [])])]) (bu)]
noncomputable def nB:List Arg->R (D×List T):=mj 7 (aN [m5 4 0 (pX 0 (pX 0 (pN) (eC (.int 0))) (eC (.int 1))),dh (fI (aa 1)) (aA 5) lr,yO (aa 3)])
noncomputable def fG:Sm:=aN [aS (aA 1) (e2 dH (aa 1) (aa 1)),aS (aA 2) (e2 dH (aa 2) (aa 2))]
noncomputable def jc:List D->R D:=fn 4 (aN [aS (aA 1) (e2 cL (eC (.int 10)) (eC (.int 50))),aS (aA 2) (e2 cL (eC (.int 10007)) (eC (.int 12))),dh (fI (eC (.int 4))) (aA 3) fG,a8 (e2 dH (e2 aQ (e2 aQ (e2 oMod (e2 bz (aa 0) (e2 cL (eC (.int 10)) (eC (.int 30)))) (aa 1)) (e2 oMod (aa 0) (e2 cL (eC (.int 10)) (eC (.int 30))))) (eC (.int 1))) (aa 2))])
noncomputable def kz:List D->R D:=fn 1 (a8 (e2 aO (bA [e2 aQ (eC (.int 1)) (e2 oMod (e2 bz (aa 0) (eC (.int 3))) (eC (.int 40))),e2 aQ (eC (.int 1)) (e2 oMod (e2 bz (aa 0) (eC (.int 3))) (e2 cX (e2 cL (eC (.int 2)) (eC (.int 32))) (eC (.int 1)))),e2 cX (e2 cX (e2 cL (eC (.int 2)) (eC (.int 32))) (eC (.int 1))) (e2 oMod (e2 bz (aa 0) (eC (.int 3))) (eC (.int 9)))]) (e2 oMod (aa 0) (eC (.int 3)))))
noncomputable def pd:Sm:=aN [mr 2 (e2 oMod (aa 0) (e2 cL (eC (.int 2)) (eC (.int 32)))),aS (aA 0) (e2 bz (aa 0) (e2 cL (eC (.int 2)) (eC (.int 32))))]
noncomputable def mT:List D->R D:=fn 4 (aN [fT 2 (bA []),dh (fI (aa 1)) (aA 3) pd,jR 2,a8 (aa 2)])
noncomputable def mV:Sm:=aN [aS (aA 7) (aw jc [aa 6]),m5 8 4 (pX 4 (pX 4 (pN) (lP 5 (e2 oMod (aa 7) (d5 5)))) (eC (.int 1))),aS (aA 7) (e2 bz (aa 7) (d5 5)),aS (aA 9) (aw kz [aa 7]),aS (aA 7) (e2 bz (aa 7) (e2 dH (eC (.int 3)) (e2 cL (eC (.int 2)) (eC (.int 32))))),aS (aA 10) (aw mT [e2 bz (aa 7) (e2 dH (eC (.int 3)) (eC (.int 65))),e2 oMod (e2 bz (aa 7) (eC (.int 3))) (eC (.int 65))]),aS (aA 11) (hJ 4 (e2 cX (e2 aQ (eC (.int 1)) (aw eT [eC (.int 2),e2 aQ (e1 cz (aa 8)) (eC (.int 1))])) (aw eT [eC (.int 2),e1 cz (aa 8)]))),bH (tV (e2 ia (e2 oMod (aa 7) (eC (.int 3))) (eC (.int 0)))) (aS (aA 11) (e2 aQ (aa 11) (aw eT [eC (.int 1),e1 cz (aa 10)]))) (bu),bH (eO (iI 4 (tV (e2 d4 (aa 9) (aa 8)))) (eO (iI 4 (tV (e2 oLt (e1 cz (aa 8)) (eC (.int 32))))) (tV (e2 oLe (aa 11) (aa 1))))) (aN [aS (aA 1) (e2 cX (aa 1) (aa 11)),nE 4 (pA 4 8) (aa 9) (hJ 4 (e1 cz (aa 4))),bH (tV (e2 oEq (e2 oMod (aa 7) (eC (.int 3))) (eC (.int 0)))) (mr 5 (hJ 4 (e1 cz (aa 4)))) (bu),ng 4 (qr [xL [xD (eC (.int 1)),xD (aa 10)],xL [xD (eC (.int 2)),mP]] (e1 kF (e2 oEq (e2 oMod (aa 7) (eC (.int 3))) (eC (.int 0)))))]) (bu)]
noncomputable def nr:List D->R D:=fn 12 (aN [uX 4 (xL [xL [xD (eC (.int 2)),mP]]),fT 5 (bA [eC (.int 0)]),uw 1 (wu nB [.p 4 (pN),.e (aa 2),.e (aa 3),.e (aa 1)]),dh (fm (aa 0)) (aA 6) mV,wM 4,a8 (aa 4)])
noncomputable def oP:Sm:=aN [oX 5 4 (e2 oMod (aa 2) (d5 4)),aS (aA 2) (e2 bz (aa 2) (e2 aQ (d5 4) (eC (.int 1))))]
noncomputable def ot:Sm:=aN [oX 10 4 (e2 oMod (aa 2) (d5 4)),aS (aA 2) (e2 bz (aa 2) (e2 aQ (d5 4) (eC (.int 1))))]
noncomputable def pj:Sm:=aN [aS (qK [8,9]) (e2 aO (aa 0) (aa 6)),fT 10 (bA []),dh (fI (aw eT [aa 8,e1 cz (aa 9)])) (aA 11) ot,bH (tV (e2 oEq (aa 8) (eC (.int 2)))) (aS (aA 9) (e1 dw (da (gS (aa 9)) 1 [5,9] (aA 0) [] (jo [aa 0,e2 aO (aa 1) (e2 aO (aa 2) (aa 0))])))) (bu),jR 10,vS 7 (e2 aO (aa 5) (aa 6)) (bA [aa 8,aa 9,aa 10])]
noncomputable def nP:List D->R D:=fn 12 (aN [aS (aA 3) (e2 aQ (eC (.int 14)) (e2 bz (e2 aQ (aa 1) (eC (.int 15))) (eC (.int 16)))),fT 4 (e2 yR (e2 aQ (aa 3) (eC (.int 1))) (aa 1)),fT 5 (bA [aa 3]),dh (oQ (eC (.int 1)) (e1 cz (aa 0))) (aA 6) oP,AG 7 (nt [] []),jR 5,dh (fI (e1 cz (aa 0))) (aA 6) pj,jR 7,a8 (aa 7)])
noncomputable def jC:List D->R D:=fn 1 (a8 (e1 qw (e2 aQ (e1 iQ (aa 0)) (e2 uT (bA [eC (.int 0)]) (e2 cX (eC (.int 16)) (e1 cC (aa 0)))))))
noncomputable def mQ:Sm:=iY 2 (aa 4) (eC (.int 1))
noncomputable def oN:Sm:=dh (fm (e2 aQ (bA [aa 3]) (e2 aO (e2 aO (aa 0) (aa 3)) (eC (.int 2))))) (aA 4) mQ
noncomputable def ku:List D->R D:=fn 5 (aN [fT 2 (da (fI (aa 1)) 1 [1] (aA 0) [] (e1 kF (e2 oLt (aa 0) (e2 aQ (eC (.int 14)) (e2 bz (e2 aQ (aa 1) (eC (.int 15))) (eC (.int 16))))))),dh (gS (aa 0)) (aA 3) oN,jR 2,a8 (aa 2)])
noncomputable def md:Sm:=aS (aA 2) (e2 aQ (aa 2) (bA [aa 3,e2 aO (aa 1) (aa 3)]))
noncomputable def mZ:List D->R D:=fn 4 (aN [bH (tV (e2 oEq (aa 0) (eC (.int 1)))) (a8 (aa 1)) (bu),aS (aA 2) (bA []),dh (fm (e1 oZ (aa 1))) (aA 3) md,a8 (aa 2)])
noncomputable def nN:Sm:=iY 2 (e2 aQ (eC (.int 14)) (e2 bz (aa 4) (eC (.int 16)))) (aw jC [cA (aa 3) (some (aa 4)) (some (e2 aQ (aa 4) (eC (.int 16))))])
noncomputable def pe:Sm:=iY 2 (e2 aO (aa 8) (aa 4)) (aw jC [cA (aa 9) (some (e2 dH (eC (.int 16)) (aa 4))) (some (e2 aQ (e2 dH (eC (.int 16)) (aa 4)) (eC (.int 16))))])
noncomputable def nA:Sm:=aN [aS (qK [6,7,8]) (e2 aO (aa 0) (aa 5)),aS (aA 9) (aw mZ [aa 6,aa 7]),iY 2 (aa 5) (aw jC [e2 aQ (bA [aa 6,e1 cz (aa 7)]) (aa 8)]),dh (fI (e1 cz (aa 8))) (aA 4) pe]
noncomputable def lE:List D->R D:=fn 10 (aN [fT 2 (e1 iQ (aa 1)),iY 2 (eC (.int 0)) (aw jC [bA []]),aS (aA 3) (aw ku [aa 0,d5 2]),dh (wA (eC (.int 0)) (d5 2) (eC (.int 16))) (aA 4) nN,dh (gS (aa 0)) (aA 5) nA,jR 2,a8 (aa 2)])
noncomputable def ll:List D->R D:=fn 3 (aN [aS (aA 2) (e2 aQ (e2 oMod (aa 0) (e2 cL (eC (.int 10)) (eC (.int 18)))) (eC (.int 1))),a8 (da (fI (aa 1)) 1 [2] (aA 0) [] (e1 qw (da (fI (eC (.int 16))) 1 [1,0] (aA 0) [] (e2 oMod (e2 dH (e2 dH (aa 1) (e2 aQ (e2 aQ (e2 dH (eC (.int 16)) (aa 2)) (aa 0)) (eC (.int 1)))) (eC (.int 40692))) (eC (.int 4294967291))))))])
noncomputable def nZ:List D->R D:=fn 8 (aN [aS (aA 1) (aw gN [aa 0,eC (.int 0)]),aS (aA 2) (e2 aQ (eC (.int 32)) (e2 oMod (e2 bz (aa 1) (eC (.int 4))) (e2 aO (bA [eC (.int 8),eC (.int 40),eC (.int 169),eC (.int 169)]) (e2 oMod (aa 1) (eC (.int 4)))))),aS (aA 3) (e2 aQ (eC (.int 14)) (e2 bz (e2 aQ (aa 2) (eC (.int 15))) (eC (.int 16)))),aS (aA 4) (e2 aO (bA [eC (.int 0),eC (.int 0),eC (.int 31),eC (.int 32)]) (e2 oMod (e2 bz (aa 1) (eC (.int 5600))) (eC (.int 4)))),aS (aA 5) (e2 bz (e2 dH (e2 cX (e2 cX (aa 2) (aa 3)) (eC (.int 1))) (e2 aO (bA [eC (.int 4),eC (.int 3),eC (.int 2),eC (.int 1)]) (e2 oMod (e2 bz (aa 1) (eC (.int 700))) (eC (.int 4))))) (eC (.int 4))),aS (aA 6) (aw nr [cA (aa 0) (some (eC (.int 3))) (some (eC (.int 33))),aa 5,aa 4,e2 aQ (eC (.int 1)) (e2 oMod (e2 bz (aa 1) (eC (.int 22400))) (e2 cL (eC (.int 10)) (eC (.int 8))))]),aS (aA 7) (aw nP [aa 6,aa 2,aw jc [aw gN [aa 0,eC (.int 1)]]]),a8 (bA [aa 7,aw lE [aa 7,aw ll [aw gN [aa 0,eC (.int 2)],aa 2]]])])
noncomputable def oV:List D->R D:=fn 2 (a8 (e2 aO (e1 v7 (aa 0)) (e2 oMod (aa 1) (e1 cC (aa 0)))))
noncomputable def eK:List D->R D:=fn 1 (a8 (gn (e1 (lx .int) (aa 0)) (e1 iK (e1 (lx .bool) (aa 0)))))
noncomputable def qZ:List D->R D:=fn 1 (a8 (e2 bz (e2 cX (e2 aQ (aa 0) (eC kQ)) (eC (.int 1))) (eC kQ)))
noncomputable def nK:List D->R D:=fn 1 (a8 (e2 aQ (eC uQ) (aw qZ [e1 cC (aa 0)])))
noncomputable def fP:List D->R D:=fn 2 (a8 (e2 aO (e2 aO (aa 0) (aa 1)) (eC (.int 0))))
noncomputable def mh:List D->R D:=fn 1 (a8 (e2 bz (e2 cX (e2 aQ (aa 0) (eC kQ)) (eC (.int 1))) (eC kQ)))
noncomputable def o8:List D->R D:=fn 2 (a8 (p9 (tV (e2 oEq (aa 0) (eC du))) (e2 dH (eC (.int 2)) (aa 1)) (aa 1)))
noncomputable def i3:List D->R D:=fn 2 (a8 (e2 aO (e2 aO (aa 0) (aa 1)) (eC (.int 1))))
noncomputable def jS:List D->R D:=fn 2 (a8 (aw o8 [aw fP [aa 0,aa 1],aw i3 [aa 0,aa 1]]))
noncomputable def mX:List D->R D:=fn 2 (a8 (e1 iQ (cA (e2 aO (aa 0) (aa 1)) (some (eC nG)) (some (e2 aQ (eC nG) (aw mh [aw jS [aa 0,aa 1]]))))))
noncomputable def kJ:Sm:=ma 2 (e1 iQ (e2 aO (aa 0) (aa 3)))
noncomputable def om:List D->R D:=g7 4 (aN [fT 2 (bA []),dh (fm (aw mX [aa 0,aa 1])) (aA 3) kJ,ud 2])
noncomputable def i6:List D->R D:=g7 2 (vN (cA (aw om [aa 0,aa 1]) none (some (aw jS [aa 0,aa 1]))))
noncomputable def dR:List D->R D:=fn 3 (aN [bH (tV (e2 iG (aw fP [aa 0,aa 1]) (eC du))) (a8 (bA [])) (bu),aS (aA 2) (aw i6 [aa 0,aa 1]),a8 (e2 k7 (iE (aa 2) (some (eC (.int 0))) none (some (eC (.int 2)))) (iE (aa 2) (some (eC (.int 1))) none (some (eC (.int 2)))))])
noncomputable def kx:List D->R T:=kS 2 (aN [bH (tV (e2 oEq (aw fP [aa 0,aa 1]) (eC du))) (o6 (xT [xD (eC (S "folder")),xM (e1 dw (aw dR [aa 0,aa 1]))])) (bu),o6 (xT [xD (eC (S "file")),xF (aw i6 [aa 0,aa 1])])])
noncomputable def lX:Sm:=aN [nX 6 5,qT 4 (pN) (aa 6) (iL kx [aa 0,aa 6]),ma 5 (da (fm (aw dR [aa 0,aa 6])) 2 [] (hW [0,1]) [] (aa 1))]
noncomputable def iN:List D->R T:=kS 7 (aN [uX 4 (mP),fT 5 (bA [aw nK [aa 0]]),sk 80 (tV (e2 ia (d5 5) (eC (.int 0)))) lX,tw 4])
noncomputable def gT:List D->R D:=fn 3 (bH (ck (bD (tV (aw eK [aa 1]))) (ck (tV (e2 d4 (aa 1) (eX (iL iN [aa 0])))) (tV (e2 iG (aw fP [aa 0,aa 1]) (aa 2))))) (kU) (bu))
noncomputable def dg:List D->R D:=λds=>(dA (Str.ofString "NoChange") (ck (bD (tV (aw eK [aa 1]))) (ck (tV (e2 d4 (aa 1) (eX (iL iN [aa 0])))) (tV (e2 iG (aw fP [aa 0,aa 1]) (aa 2)))))) (ds.map Slot.sh++List.replicate (3 - ds.length) .un)
noncomputable def ic:List D->R D:=fn 1 (a8 (gn (aw eK [aa 0]) (nq oLe oLt (eC (.int 0)) (aa 0) (e2 cL (eC (.int 2)) (eC (.int 32))))))
noncomputable def jI:List D->R D:=λds=>(dN (dm dg [aa 0,aa 1,eC du]) (jx (aw gT [aa 0,aa 1,eC du])) (g9 (aS (aA 4) (aw dR [aa 0,aa 1])) (dN (dA (Str.ofString "NoChange") (ck (bD (tV (aw eK [aa 3]))) (tV (e2 d4 (aa 3) (jo [eC fF,eC du]))))) (bH (ck (bD (tV (aw eK [aa 3]))) (tV (e2 d4 (aa 3) (jo [eC fF,eC du])))) (kU) (bu)) (dA (Str.ofString "NoChange") (ck (bD (tV (aw ic [aa 2]))) (ck (tV (e2 oEq (aa 2) (eC (.int 0)))) (ck (tV (e2 g8 (aa 2) (e1 dw (aa 4)))) (tV (e2 kH (e1 cC (aa 4)) (eC rB)))))))))) (ds.map Slot.sh++List.replicate (10 - ds.length) .un)
noncomputable def j5:List D->R D:=λds=>(dN (dm dg [aa 0,aa 1,eC du]) (jx (aw gT [aa 0,aa 1,eC du])) (g9 (aS (aA 3) (aw dR [aa 0,aa 1])) (dN (dA (Str.ofString "NoChange") (ck (bD (tV (aw ic [aa 2]))) (tV (e2 d4 (aa 2) (e1 dw (aa 3)))))) (bH (ck (bD (tV (aw ic [aa 2]))) (tV (e2 d4 (aa 2) (e1 dw (aa 3))))) (kU) (bu)) (g9 (aS (aA 4) (e2 aO (e1 dw (aa 3)) (aa 2))) (dA (Str.ofString "NoChange") (tV (e2 ia (e1 cC (aw dR [aa 0,aa 4])) (eC (.int 0))))))))) (ds.map Slot.sh++List.replicate (7 - ds.length) .un)
noncomputable def kg:List D->R D:=fn 3 (a8 (gn (aw eK [aa 0]) (nq oLe oLe (aa 1) (aa 0) (aa 2))))
noncomputable def kj:List D->R D:=λds=>(dN (dm dg [aa 0,aa 1,eC fF]) (jx (aw gT [aa 0,aa 1,eC fF])) (g9 (aS (aA 4) (aw i3 [aa 0,aa 1])) (dA (Str.ofString "NoChange") (ck (bD (tV (aw kg [aa 2,eC (.int 0),e2 pU (aa 4) (e2 cX (eC sL) (eC (.int 1)))]))) (bD (tV (aw ic [aa 3]))))))) (ds.map Slot.sh++List.replicate (8 - ds.length) .un)
noncomputable def kL:List D->R D:=λds=>(dN (dm dg [aa 0,aa 1,eC fF]) (jx (aw gT [aa 0,aa 1,eC fF])) (dA (Str.ofString "NoChange") (bD (tV (aw kg [aa 2,eC (.int 0),aw i3 [aa 0,aa 1]]))))) (ds.map Slot.sh++List.replicate (3 - ds.length) .un)
noncomputable def bG:List D->R D:=fn 8 (aN [aS (aA 5) (eC (.bl false)),aS (aA 6) (e1 iQ (aa 1)),qF (fS (tV (e2 oEq (aa 0) (eC (.int 0)))) (dm jI [aa 6,aa 2,aa 3,aa 4]) (fS (tV (e2 oEq (aa 0) (eC (.int 1)))) (dm j5 [aa 6,aa 2,aa 3]) (fS (tV (e2 oEq (aa 0) (eC (.int 2)))) (dm kj [aa 6,aa 2,aa 3,aa 4]) (dm kL [aa 6,aa 2,aa 3])))) 7 (aN [aS (aA 5) (gn (e1 (jO (Str.ofString "NoChange") true) (aa 7)) (e1 (jO (Str.ofString "NoChange") true) (aa 7))),aS (aA 5) (gn (aa 5) (gn (e1 iK (e1 (jO (Str.ofString "NoChange") false) (aa 7))) (e1 iK (e1 (jO (Str.ofString "NoChange") false) (aa 7)))))]),a8 (gn (aa 5) (e2 oEq (aa 6) (aa 1)))])
noncomputable def my:Sm:=aS (aA 3) (e2 aQ (aa 3) (e2 aO (e2 aO (aa 0) (aa 4)) (eC (.int 2))))
noncomputable def kI:Sm:=aN [bH (ck (bD (tV (aw bG [eC (.int 0),aa 1,aa 4,eC (.int 7),eC (.int 1)]))) (bD (tV (aw bG [eC (.int 1),aa 1,aa 4,eC (.int 7),eC (.int 0)])))) (a8 (eC (.bl false))) (bu),bH (ck (bD (tV (aw bG [eC (.int 2),aa 1,aa 4,eC (.int 0),eC (.int 7)]))) (bD (tV (aw bG [eC (.int 3),aa 1,aa 4,eC (.int 0),eC (.int 0)])))) (a8 (eC (.bl false))) (bu)]
noncomputable def m4:List D->R D:=fn 7 (aN [aS (aA 3) (bA []),dh (gS (aa 0)) (aA 4) my,aS (aA 5) (aw ku [aa 0,e1 cC (aa 1)]),aS (aA 6) (e2 aQ (bA [eC (.int 0),eC (.int 13),eC (.int 14),e1 cC (aa 1),e2 aQ (e1 cC (aa 1)) (e2 oMod (e2 bz (aa 2) (eC (.int 7))) (eC (.int 1000)))]) (cA (cA (aa 3) (some (e2 oMod (e2 bz (aa 2) (eC (.int 7))) (e2 aQ (e1 cC (aa 3)) (eC (.int 1))))) none) none (some (eC (.int 1))))),aS (aA 6) (e2 aQ (aa 6) (cA (da (fI (e1 cC (aa 1))) 1 [5] (aA 0) [tV (e2 oEq (e2 aO (aa 1) (aa 0)) (eC (.int 0)))] (aa 0)) none (some (eC (.int 1))))),dh (fm (bA [e2 aO (aa 6) (e2 oMod (aa 2) (e1 cC (aa 6))),e2 aO (aa 6) (e2 oMod (e2 bz (aa 2) (eC (.int 7))) (e1 cC (aa 6)))])) (aA 4) kI,a8 (eC (.bl true))])
noncomputable def nh:List D->R D:=fn 1 (a8 (da (gS (aa 0)) 1 [0] (aA 0) [tV (e2 oEq (e2 aO (e2 aO (aa 1) (aa 0)) (eC (.int 0))) (eC (.int 2)))] (aa 0)))
noncomputable def kG:Sm:=aN [bH (bD (tV (aw bG [eC (.int 0),aa 1,aa 2,aa 6,e2 aQ (eC (.int 1)) (e2 oMod (e2 bz (aa 3) (eC (.int 2))) (eC (.int 2)))]))) (a8 (eC (.bl false))) (bu),aS (aA 7) (e2 aO (aa 0) (e2 aO (aa 4) (aa 6))),bH (eO (tV (e2 oEq (e2 aO (aa 7) (eC (.int 0))) (eC (.int 2)))) (eO (tV (e2 lZ (e2 aO (aa 7) (eC (.int 1))) (nt [] []))) (bD (tV (aw bG [eC (.int 1),aa 1,aa 2,aa 6,eC (.int 0)]))))) (a8 (eC (.bl false))) (bu)]
noncomputable def oO:List D->R D:=fn 8 (aN [aS (aA 4) (e2 aO (e2 aO (aa 0) (aa 2)) (eC (.int 1))),aS (aA 5) (aw kz [aa 3]),bH (bD (tV (aw bG [eC (.int 0),aa 1,aa 2,eC (.int 0),e2 aQ (eC (.int 1)) (e2 oMod (aa 3) (eC (.int 2)))]))) (a8 (eC (.bl false))) (bu),bH (bD (tV (aw bG [eC (.int 0),aa 1,aa 2,aa 5,e2 dH (eC (.int 3)) (e2 oMod (aa 3) (eC (.int 2)))]))) (a8 (eC (.bl false))) (bu),bH (eO (tV (e2 d4 (aa 5) (aa 4))) (bD (tV (aw bG [eC (.int 1),aa 1,aa 2,aa 5,eC (.int 0)])))) (a8 (eC (.bl false))) (bu),bH (eO (tV (e2 oEq (e1 cz (aa 4)) (eC (.int 32)))) (bD (tV (aw bG [eC (.int 0),aa 1,aa 2,aa 5,eC (.int 1)])))) (a8 (eC (.bl false))) (bu),dh (fm (cA (cA (e1 oZ (aa 4)) (some (e2 oMod (aa 3) (e2 aQ (e1 cz (aa 4)) (eC (.int 1))))) none) none (some (eC (.int 2))))) (aA 6) kG,a8 (gn (aw bG [eC (.int 2),aa 1,aa 2,eC (.int 0),eC (.int 7)]) (aw bG [eC (.int 3),aa 1,aa 2,eC (.int 0),eC (.int 0)]))])
noncomputable def o7:List D->R D:=fn 1 (a8 (da (gS (aa 0)) 1 [0] (aA 0) [tV (e2 oEq (e2 aO (e2 aO (aa 1) (aa 0)) (eC (.int 0))) (eC (.int 1)))] (aa 0)))
noncomputable def ky:Sm:=bH (ck (bD (tV (aw bG [eC (.int 2),aa 1,aa 2,aa 6,eC (.int 7)]))) (bD (tV (aw bG [eC (.int 3),aa 1,aa 2,aa 6,eC (.int 0)])))) (a8 (eC (.bl false))) (bu)
noncomputable def nJ:List D->R D:=fn 7 (aN [aS (aA 4) (e1 cC (e2 aO (e2 aO (aa 0) (aa 2)) (eC (.int 1)))),aS (aA 5) (e2 aQ (e2 aQ (aa 4) (eC (.int 1))) (e2 oMod (aa 3) (e2 aO (bA [eC (.int 1),eC (.int 70),e2 cL (eC (.int 2)) (eC (.int 32))]) (e2 oMod (e2 bz (aa 3) (eC (.int 3))) (eC (.int 3)))))),bH (ck (bD (tV (aw bG [eC (.int 2),aa 1,aa 2,aa 5,eC (.int 7)]))) (bD (tV (aw bG [eC (.int 3),aa 1,aa 2,aa 5,eC (.int 0)])))) (a8 (eC (.bl false))) (bu),bH (eO (tV (e2 oEq (aa 4) (eC (.int 64)))) (bD (tV (aw bG [eC (.int 2),aa 1,aa 2,eC (.int 64),eC (.int 7)])))) (a8 (eC (.bl false))) (bu),dh (fm (bA [e1 um (eC (.int 1)),e2 cX (eC (.int 0)) (aa 5)])) (aA 6) ky,a8 (gn (aw bG [eC (.int 0),aa 1,aa 2,eC (.int 7),eC (.int 1)]) (aw bG [eC (.int 1),aa 1,aa 2,eC (.int 7),eC (.int 0)]))])
noncomputable def kr:Sm:=bH (bD (tV (aw nJ [aa 1,aa 2,aa 6,e2 bz (aa 4) (eC (.int 64))]))) (a8 (eC (.bl false))) (bu)
noncomputable def ke:Sm:=aN [aS (aA 4) (aw jc [aa 3]),bH (bD (tV (aw m4 [aa 1,aa 2,aa 4]))) (a8 (eC (.bl false))) (bu),aS (aA 4) (e2 bz (aa 4) (e2 cL (eC (.int 10)) (eC (.int 6)))),aS (aA 5) (aw oV [aw nh [aa 1],aa 4]),bH (bD (tV (aw oO [aa 1,aa 2,aa 5,e2 bz (aa 4) (eC (.int 64))]))) (a8 (eC (.bl false))) (bu),dh (fm (cA (cA (aw o7 [aa 1]) (some (e2 oMod (aa 4) (eC (.int 64)))) none) none (some (eC (.int 1))))) (aA 6) kr]
noncomputable def lH:List D->R D:=fn 7 (aN [aS (qK [1,2]) (aw nZ [aa 0]),dh (fm (e2 aQ (bA [aw gN [aa 0,eC (.int 1)]]) (cA (aa 0) (some (eC (.int 2))) (some (eC (.int 6)))))) (aA 3) ke,a8 (eC (.bl true))])
end iX
end PL
set_option maxRecDepth 1000
namespace PL
open PySem
theorem gO(P:Nat->En->Prop):∀ {ds:List D} (n:Nat),(∀i d,ds[i]? =some d->∀ρ,P (n+i) ρ->∃Nm,tg d ρ=.ok Nm/\∃Om,body Nm=.ok (.next Om)/\P (n+i+1) Om)->
  ∀ {ρ:En},P n ρ->∃ρ',forL tg body ds ρ=.ok (.next ρ')/\P (n+ds.length) ρ'
 |[],n,_,ρ,h=>⟨ρ,rfl,h⟩
 | d::ds,n,hs,ρ,h=>by
  obtain⟨Nm,e1,Om,e2,h2⟩:=hs 0 d rfl ρ h
  obtain⟨ρ',e,h'⟩:=gO (ds:=ds) P (n+1) (λi d hd ρ hp=>by
   have:=hs (i+1) d (by simpa using hd) ρ (by rw[show n+(i+1)=n+1+i by omega];exact hp)
   rw[show n+1+i+1=n+(i+1)+1 by omega];exact this) h2
  refine⟨ρ',by simp[forL,e1,e2,e],?_⟩
  rw[PK,show n+(ds.length+1)=n+1+ds.length by omega];exact h'
theorem oM{a b:Int}{i:Nat}{d:D}(h:(cI a b)[i]? =some d):d=.int (a+i)/\(i:Int)<b - a:=by
 unfold cI at h;rw[xa]at h;cases e:(List.range (b - a).toNat)[i]? with
 |none=>rw[e]at h;cases h
 | some k=>
  rw[e]at h;obtain⟨Nl,hk⟩:=il.mp e;simp at hk Nl h;subst hk;exact⟨h.symm,by omega⟩
theorem ji(a b:Int):(cI a b).length=(b - a).toNat:=by simp[cI]
theorem tT{α:Type}{xs:List α}{j:Nat}(h:j<xs.length):b0 xs (j:Int)=some xs[j]:=by
 unfold b0 cy;rw[DM (by omega),DM (by omega)]
 simp[h]
theorem qX{α:Type}{xs:List α}{i:Int}(h0:0<=i)(h:i<xs.length):b0 xs i=some (xs[i.toNat]'(by omega)):=by
 unfold b0 cy;rw[DM h0,DM h];have:i.toNat<xs.length:=by omega
 simp[this]
theorem p7{xs:tx}{i:Int}(h0:0<=i)(h:i<xs.length):∃x,x∈xs/\b0 (xs.map D.int) i=some (.int x):=by
 refine⟨xs[i.toNat]'(by omega),abK _,?_⟩
 rw[qX h0 (by simpa using h)]
 simp
theorem gC(h1: -1000000<i)(h2:i<1000000):inR i=true:=by
 unfold inR;rw[M0 (show -4611686018427387904<=i by omega),M0 (show i<4611686018427387904 by omega)];rfl
theorem jk{c:bg}{a b:Sm}{ρ:En}(h:c ρ=.ok true):bH c a b ρ=a ρ:=by simp[h]
theorem Fx(h:c ρ=.ok true):p9 c a b ρ=a ρ:=by simp[h]
theorem EY(h:c ρ=.ok false):p9 c a b ρ=b ρ:=by simp[h]
theorem az{a:Sm}{r:List Sm}{ρ ρ':En}(h:a ρ=.ok (.next ρ')):aN (a::r) ρ=aN r ρ':=by
 show(a ρ).bind _=_;rw[h];rfl
theorem dP{a:Sm}{r:List Sm}{ρ:En}{d:D}(h:a ρ=.ok (.ret d)):aN (a::r) ρ=.ok (.ret d):=by
 show(a ρ).bind _=_;rw[h];rfl
theorem dk{c:bg}{a:Sm}{ρ:En}(h:c ρ=.ok false):bH c a bu ρ=.ok (.next ρ):=by simp[h]
theorem bL{n:Nat}{b:Sm}{ds:List D}{d:D}(h:b (ds.map .sh++List.replicate (n - ds.length) .un)=.ok (.ret d)):fn n b ds=.ok d:=by
 unfold fn;rw[h];rfl
theorem ir(h:a ρ=.ok (.int L))(h2:inR L=true):fI a ρ=.ok (cI 0 L):=by
 simp[h,h2]
theorem Ka(h:a ρ=.ok (.int I))(h':b ρ=.ok (.int L))(h1:inR I=true)(h2:inR L=true):oQ a b ρ=.ok (cI I L):=by
 simp[h,h',h1,h2]
set_option maxRecDepth 2000
namespace G
theorem cR{o:D->R D}{a:Ex}{ρ:En}{x d:D}(ha:a ρ=.ok x)(h:o x=.ok d):e1 o a ρ=.ok d:=by
 show(a ρ).bind _=_;rw[ha,R.aH,h]
theorem aK{o:D->D->R D}{a b:Ex}{ρ:En}{x y d:D}(ha:a ρ=.ok x)(hb:b ρ=.ok y)(h:o x y=.ok d):e2 o a b ρ=.ok d:=by
 show(a ρ).bind _=_;rw[ha,R.aH];show(b ρ).bind _=_;rw[hb,R.aH,h]
theorem c6(ha:a ρ=.ok x)(h:f [x]=.ok d):aw f [a] ρ=.ok d:=by
 simp only[aw,eList,ha,R.aH];exact h
theorem bJ{f:List D->R D}{a b:Ex}{ρ:En}{x y d:D}(ha:a ρ=.ok x)(hb:b ρ=.ok y)(h:f [x,y]=.ok d):aw f [a,b] ρ=.ok d:=by
 simp only[aw,eList,ha,hb,R.aH];exact h
theorem nS{f:List D->R D}{a b c:Ex}{ρ:En}{x y z d:D}(ha:a ρ=.ok x)(hb:b ρ=.ok y)(hc:c ρ=.ok z)(h:f [x,y,z]=.ok d):aw f [a,b,c] ρ=.ok d:=by
 simp only[aw,eList,ha,hb,hc,R.aH];exact h
theorem bK{a b:Ex}{ρ:En}{i u:Int}(ha:a ρ=.ok (.int i))(hb:b ρ=.ok (.int u)):e2 aQ a b ρ=.ok (.int (i+u)):=aK ha hb rfl
theorem gG(ha:a ρ=.ok (.int i))(hb:b ρ=.ok (.int u)):e2 cX a b ρ=.ok (.int (i - u)):=aK ha hb rfl
theorem bM{a b:Ex}{ρ:En}{i u:Int}(ha:a ρ=.ok (.int i))(hb:b ρ=.ok (.int u))(h:0<u):e2 oMod a b ρ=.ok (.int (i % u)):=aK ha hb (DM h)
theorem b8(ha:a ρ=.ok (.int i))(hb:b ρ=.ok (.int u))(h:0<u/\u.natAbs.log2<9000):e2 bz a b ρ=.ok (.int (i / u)):=aK ha hb (DM h)
theorem Hj(h:a ρ=.ok x):bA [a] ρ=.ok (.lst [x]):=by
 simp only[bA,eList,h,R.aH]
theorem JV{a b:Ex}{ρ:En}{x y:D}(h:a ρ=.ok x)(h2:b ρ=.ok y):jo [a,b] ρ=.ok (.tup [x,y]):=by
 simp only[jo,eList,h,h2,R.aH]
theorem aT{a:Ex}{ρ:En}{b:Bool}(ha:a ρ=.ok (.bl b)):tV a ρ=.ok b:=by
 simp only[tV,ha,R.aH,truth]
theorem gu{t:bg}{ρ:En}{b:Bool}(h:t ρ=.ok b):bD t ρ=.ok (!b):=by
 simp only[bD,h,R.aH]
theorem iu{t u:bg}{ρ:En}{b c:Bool}(h:t ρ=.ok b)(h':u ρ=.ok c):ck t u ρ=.ok (b||c):=by
 simp only[ck,h,R.aH];cases b
 ·rw[Gc (by decide),h'];rfl
 ·rfl
theorem Ay(h:t ρ=.ok true):ck t u ρ=.ok true:=by
 simp only[ck,h,R.aH];rfl
theorem jm{t u:bg}{ρ:En}{b c:Bool}(h:t ρ=.ok b)(h':u ρ=.ok c):eO t u ρ=.ok (b&&c):=by
 simp only[eO,h,R.aH];cases b
 ·rfl
 ·rw[DM rfl,h'];rfl
theorem nR(h:t ρ=.ok false):eO t u ρ=.ok false:=by
 simp only[eO,h,R.aH];rfl
theorem pM{x:Bool}(ha:a ρ=.ok (.bl true))(hb:b ρ=.ok d):gn a b ρ=.ok d:=by
 simp only[gn,ha,R.aH];exact hb
theorem KN(ha:a ρ=.ok (.bl x))(hb:x=true->b ρ=.ok (.bl y)):gn a b ρ=.ok (.bl (x&&y)):=by
 simp only[gn,ha,R.aH];cases x
 ·rfl
 ·exact hb rfl
theorem bI{a:Ex}{ρ:En}{d:D}(h:a ρ=.ok d):a8 a ρ=.ok (.ret d):=by
 simp only[a8,h,R.aH]
theorem bt{i:Nat}{a:Ex}{ρ:En}{d:D}(h:a ρ=.ok d):aS (aA i) a ρ=.ok (.next (ρ.set i (.sh d))):=by
 simp only[aS,h,R.aH,aA]
theorem y4(h:a ρ=.ok d)(hi:ρ[i]? =some (.ol xs))(hl:xs.length<16777216):mr i a ρ=.ok (.next (ρ.set i (.ol (xs++[d])))):=by
 simp only[mr,h,R.aH,hi];exact DM hl
theorem sE(h:a ρ=.ok (.lst xs)):fT i a ρ=.ok (.next (ρ.set i (.ol xs))):=by
 simp only[fT,h,R.aH]
theorem zA(h:a ρ=.ok d)(hk:k ρ=.ok (.int j))(hi:ρ[i]? =some (.ol xs))(hm:cy xs.length j=some m):iY i k a ρ=.ok (.next (ρ.set i (.ol (xs.set m d)))):=by
 simp only[iY,h,hk,R.aH,hi,hm]
theorem rZ{n:Nat}{j:Int}(h0:0<=j)(h1:j<n):cy n j=some j.toNat:=by
 unfold cy;rw[DM h0,DM h1]
theorem iq{xs:List D}{i:Int}{d:D}(h:b0 xs i=some d):aO (.lst xs) (.int i)=.ok d:=by simp[h]
theorem rT(h:b0 xs i=some d):aO (.tup xs) (.int i)=.ok d:=by simp[h]
theorem eq_int(i j:Int):oEq (.int i) (.int j)=.ok (.bl (decide (i=j))):=by
 unfold oEq;rw[LF,DM rfl];show R.ok (D.bl (i==j))=_;rfl
theorem lt_int(i j:Int):oLt (.int i) (.int j)=.ok (.bl (decide (i<j))):=rfl
theorem ig(h:0<=v):aW n d (some v)=min v.toNat n:=Gc (by omega)
theorem Hf{α:Type}(xs:List α)(h:0<=v):cut xs none (some v)=xs.take v.toNat:=by
 unfold cut;rw[ig h];show((xs.drop 0).take _)=_;rw[acL];show xs.take (min v.toNat xs.length - 0)=_;rw[Nat.sub_zero];by_cases hl:v.toNat<=xs.length
 ·rw[aaC hl]
 ·rw[aaM (by omega),List.take_length,SB (by omega)]
theorem Dg{α:Type}(xs:List α)(h:0<=v):cut xs (some v) none=xs.drop v.toNat:=by
 unfold cut;rw[ig h];show(xs.drop (min v.toNat xs.length)).take (xs.length - min v.toNat xs.length)=_;by_cases hl:v.toNat<=xs.length
 ·rw[aaC hl]
  exact SB (by rw[aav];omega)
 ·rw[aaM (by omega),abH,abO (by omega),List.take_nil]
theorem ET(ha:a ρ=.ok (.lst xs))(hb:b ρ=.ok (.int v))(h:0<=v):cA a none (some b) ρ=.ok (.lst (xs.take v.toNat)):=by
 simp only[cA,ha,R.aH,gR,hb,j0];rw[Hf _ h]
theorem lS(h:xs.length+ys.length<=16777216):aQ (.lst xs) (.lst ys)=.ok (.lst (xs++ys)):=DM h
mutual
theorem yJ:∀d:D,lay d=true->bV d d=true
 |.aP,_=>rfl
 |.bl b,_=>by simp
 |.int i,_=>by simp
 |.str x,_=>by simp
 |.tup xs,h=>by unfold bV;exact vO xs (by unfold lay at h;exact h)
 |.lst xs,h=>by unfold bV;exact vO xs (by unfold lay at h;exact h)
 |.aL _ _,h=>by unfold lay at h;cases h
 |.bN _ _ _,h=>by unfold lay at h;cases h
theorem vO:∀ds:List D,eB ds=true->ki ds ds=true
 |[],_=>rfl
 | d::ds,h=>by
  unfold eB at h;rw[FB]at h;unfold ki;rw[yJ d h.1,vO ds h.2];rfl
end
theorem C8(h:lay d=true)(h2:dep d<=60):gj d d=true:=by
 unfold gj;rw[h,M0 (show min (dep d) (dep d)<=60 by omega)];simp
theorem eq_self(h:lay d=true)(h2:dep d<=60):oEq d d=.ok (.bl true):=by
 unfold oEq eF;rw[C8 h h2,yJ d h];rfl
theorem yw(h:∀d∈ds,lay d=true):eB ds=true:=by
 induction ds with
 |nil=>rfl
 | cons d ds ih=>
  unfold eB;rw[h d AC,ih λx hx=>h x (Ax _ hx)];rfl
theorem xr(h:∀d∈ds,dep d<=n):jh ds<=n:=by
 induction ds with
 |nil=>exact aay _
 | cons d ds ih=>
  unfold jh;have h1:=h d AC;have h2:=ih λx hx=>h x (Ax _ hx);omega
theorem pR(h:i.natAbs<2 ^ n)(hn:n<=100000):dn i=true:=by
 unfold dn;rw[Pi];by_cases h0:i.natAbs=0
 ·rw[h0];decide
 ·exact JK ((Nat.log2_lt h0).mpr h) hn
theorem lY{α:Type}{tg:dZ}{el:Ex}{ρ:En}(u:α->D)(v:α->D):∀ {xs:List α},(∀x∈xs,∃Nm,tg (u x) ρ=.ok Nm/\el Nm=.ok (v x))->gh tg [] el ρ (xs.map u)=.ok (xs.map v)
 |[],_=>rfl
 | x::xs,h=>by
  obtain⟨Nm,e1,e2⟩:=h x AC;rw[MG,gh,e1,R.aH];show(R.ok true).bind _=_;rw[R.aH,DM rfl,e2,R.aH,lY u v (λy hy=>h y (Ax _ hy))];rfl
theorem rm{α:Type}{tg:dZ}{cs:List bg}{el:Ex}{ρ:En}(u:α->D)(p:α->Bool)(v:α->D):∀ {xs:List α},(∀x∈xs,∃Nm,tg (u x) ρ=.ok Nm/\gh.lV cs Nm=.ok (p x)/\(p x=true->el Nm=.ok (v x)))->gh tg cs el ρ (xs.map u)=.ok ((xs.filter p).map v)
 |[],_=>rfl
 | x::xs,h=>by
  obtain⟨Nm,e1,e2,e3⟩:=h x AC;have ih:=rm (cs:=cs) (el:=el) (ρ:=ρ) u p v (xs:=xs) (λy hy=>h y (Ax _ hy));rw[MG,gh,e1,R.aH,e2,R.aH];cases hp:p x with
  |true=>rw[DM rfl,e3 hp,R.aH,ih,List.filter_cons_of_pos hp];rfl
  |false=>rw[Gc (by decide),ih,List.filter_cons_of_neg (by rw[hp];decide)]
theorem jP{it:dW}{n:Nat}{fv:List Nat}{tg:dZ}{cs:List bg}{el:Ex}{ρ:En}{ds ys:List D}(hi:it ρ=.ok ds)(hl:ds.length<=16777216)(hc:gh tg cs el (List.replicate n .un++frees ρ fv) ds=.ok ys):da it n fv tg cs el ρ=.ok (.lst ys):=by
 show(it ρ).bind _=_;rw[hi,R.aH,DM hl,hc];rfl
theorem dE(hi:it ρ=.ok ds)(h:forL tg body ds ρ=r):dh it tg body ρ=r:=by
 show(it ρ).bind _=_;rw[hi,R.aH,h]
theorem zM(ha:a ρ=.ok x)(hb:b ρ=.ok y)(hg:g x y=.ok (.bl p))(hc:c ρ=.ok z)(hh:h y z=.ok (.bl q)):nq g h a b c ρ=.ok (.bl (p&&q)):=by
 simp only[nq,ha,hb,hg,R.aH];cases p
 ·rfl
 ·simp only[hc,R.aH,hh,acg]
theorem le_int(i j:Int):oLe (.int i) (.int j)=.ok (.bl (decide (i<=j))):=rfl
theorem AX(h:b (ds.map .sh++List.replicate (n - ds.length) .un)=.ok (.dM (.lst xs))):g7 n b ds=.ok (.lst xs):=by
 unfold g7;rw[h];rfl
theorem FC(h:a ρ=.ok (.dM d)):aN (a::r) ρ=.ok (.dM d):=by
 show(a ρ).bind _=_;rw[h];rfl
theorem zj(hi:ρ[i]? =some (.ol xs)):d5 i ρ=.ok (.int xs.length):=by
 simp only[d5,hi]
theorem zF:∀ns:tx,intsOf (ns.map D.int)=some ns
 |[]=>rfl
 |n::ns=>by rw[MG,intsOf,zF ns];rfl
end G
end PL
set_option maxRecDepth 4000
set_option maxHeartbeats 400000
namespace PL
namespace iX
open PySem G
noncomputable abbrev L(xs:tx):D:=.lst (xs.map .int)
noncomputable abbrev B(xs:tx):D:=.tup (xs.map .int)
theorem vT(h:0<=j/\j<=1000/\dn i=true):cL (.int i) (.int j)=.ok (.int (i ^ j.toNat)):=DM h
theorem f9(ha:a ρ=.ok (.int i))(hb:b ρ=.ok (.int u))(h1:dn i=true)(h2:dn u=true):e2 dH a b ρ=.ok (.int (i*u)):=aK ha hb (DM (by rw[h1,h2];rfl))
theorem lL(ρ:En):(e2 cL (eC (.int 2)) (eC (.int 32))) ρ=.ok (.int 4294967296):=rfl
theorem ff(h1: -1000000000000<i)(h2:i<1000000000000):dn i=true:=pR (n:=40) (by omega) (by decide)
theorem dv{j:Int}(h1:0<j)(h2:j<1000000000000):0<j/\j.natAbs.log2<9000:=⟨h1,by
 have:j.natAbs≠0:=by omega
 exact JK ((Nat.log2_lt this).mpr (show j.natAbs<2 ^ 40 by omega)) (by decide)⟩
theorem kC(h:a ρ=.ok (.lst xs)):e1 cC a ρ=.ok (.int xs.length):=cR h rfl
theorem FT{a b:Ex}{ρ:En}{i u:Int}(ha:a ρ=.ok (.int i))(hb:b ρ=.ok (.int u)):e2 kH a b ρ=.ok (.bl (decide (u<=i))):=aK ha hb rfl
theorem rD{a b:Ex}{ρ:En}{i u:Int}(ha:a ρ=.ok (.int i))(hb:b ρ=.ok (.int u)):e2 ia a b ρ=.ok (.bl (decide (u<i))):=aK ha hb rfl
theorem ya{a b:Ex}{ρ:En}{i u:Int}(ha:a ρ=.ok (.int i))(hb:b ρ=.ok (.int u)):e2 oLt a b ρ=.ok (.bl (decide (i<u))):=aK ha hb rfl
theorem qM(ha:a ρ=.ok (.int i))(hb:b ρ=.ok (.int u)):e2 oLe a b ρ=.ok (.bl (decide (i<=u))):=aK ha hb rfl
theorem cG{a b:Ex}{ρ:En}{i u:Int}(ha:a ρ=.ok (.int i))(hb:b ρ=.ok (.int u)):e2 oEq a b ρ=.ok (.bl (decide (i=u))):=aK ha hb (G.eq_int i u)
theorem pB{ns:tx}{k:Int}(hk:0<=k):∃c:Int,gN [L ns,.int k]=.ok (.int c):=by
 rw[gN];by_cases hl:k<ns.length
 ·obtain⟨c,_,hc⟩:=p7 hk hl
  refine⟨c,bL (dP ?_)⟩;rw[jk (aT (aK rfl (by rw[kC rfl,j1]) (by rw[lt_int,M0 hl])))]
  exact bI (aK rfl rfl (iq hc))
 ·refine⟨0,bL ?_⟩
  rw[az (dk (aT (aK rfl (by rw[kC rfl,j1]) (by rw[lt_int,KI hl]))))]
  exact dP (bI rfl)
noncomputable def MS:Nat->Int
 |0=>(10:Int) ^ (50:Int).toNat
 |k+1=>MS k*MS k
noncomputable def BY:Nat->Int
 |0=>(10007:Int) ^ (12:Int).toNat
 |k+1=>BY k*BY k
theorem rV(ha:dn a=true)(hb:dn b=true):fG [.sh c,.sh (.int a),.sh (.int b),s]=.ok (.next [.sh c,.sh (.int (a*a)),.sh (.int (b*b)),s]):=by
 rw[fG,az (bt (f9 rfl rfl ha ha))];rw[az (bt (f9 rfl rfl hb hb))];rfl
theorem E9:0<MS 4:=by decide+kernel
theorem Dy:0<BY 4:=by decide+kernel
theorem EI:(MS 4).natAbs<2 ^ 3000:=by decide+kernel
theorem Hw(c:D):forL (aA 3) fG (cI 0 4) [.sh c,.sh (.int (MS 0)),.sh (.int (BY 0)),.un]=.ok (.next [.sh c,.sh (.int (MS 4)),.sh (.int (BY 4)),.sh (.int 3)]):=by
 have h0:fG [.sh c,.sh (.int (MS 0)),.sh (.int (BY 0)),.sh (.int 0)]=.ok (.next [.sh c,.sh (.int (MS 1)),.sh (.int (BY 1)),.sh (.int 0)]):=rV (by decide+kernel) (by decide+kernel)
 have h1:fG [.sh c,.sh (.int (MS 1)),.sh (.int (BY 1)),.sh (.int 1)]=.ok (.next [.sh c,.sh (.int (MS 2)),.sh (.int (BY 2)),.sh (.int 1)]):=rV (by decide+kernel) (by decide+kernel)
 have h2:fG [.sh c,.sh (.int (MS 2)),.sh (.int (BY 2)),.sh (.int 2)]=.ok (.next [.sh c,.sh (.int (MS 3)),.sh (.int (BY 3)),.sh (.int 2)]):=rV (by decide+kernel) (by decide+kernel)
 have h3:fG [.sh c,.sh (.int (MS 3)),.sh (.int (BY 3)),.sh (.int 3)]=.ok (.next [.sh c,.sh (.int (MS 4)),.sh (.int (BY 4)),.sh (.int 3)]):=rV (by decide+kernel) (by decide+kernel)
 have st:∀ {d:D} {ds:List D} {a b:Int} {s:Slot} {ρ:En},fG [.sh c,.sh (.int a),.sh (.int b),.sh d]=.ok (.next ρ)->forL (aA 3) fG (d::ds) [.sh c,.sh (.int a),.sh (.int b),s]=forL (aA 3) fG ds ρ:=λ{d ds a b s ρ} h=>by
  rw[forL];show(fG [.sh c,.sh (.int a),.sh (.int b),.sh d]).bind _=_;rw[h];rfl
 show forL (aA 3) fG [.int 0,.int 1,.int 2,.int 3] _=_;rw[st h0,st h1,st h2,st h3];rfl
theorem uR(c:Int):∃z:Int,0<=z/\jc [.int c]=.ok (.int z):=by
 have hp:∀ρ,(e2 cL (eC (.int 10)) (eC (.int 30))) ρ=.ok (.int (10 ^ (30:Int).toNat)):=λρ=>aK rfl rfl (vT (by decide+kernel))
 generalize hP:((10:Int) ^ (30:Int).toNat)=P at hp;have WX:0<P:=by rw[<-hP];decide+kernel
 have Yg:P.natAbs<2 ^ 200:=by rw[<-hP];decide+kernel
 have Xf:0<P/\P.natAbs.log2<9000:=by rw[<-hP];decide+kernel
 have m0:=E9;have m1:=EI;have a1:=UF (c / P) (show MS 4≠0 by omega)
 have a2:=aac (c / P) m0;have b1:=UF c (show P≠0 by omega)
 have b2:=aac c WX;refine⟨(c / P % MS 4+c % P+1)*BY 4,acM (by omega) (Int.le_of_lt Dy),?_⟩
 rw[jc];refine bL ?_;refine(az (bt (aK rfl rfl (vT (by decide+kernel))))).trans ?_
 rw[az (bt (aK rfl rfl (vT (by decide+kernel))))]
 show aN _ [.sh (.int c),.sh (.int (MS 0)),.sh (.int (BY 0)),.un]=_;rw[az (dE (ir rfl (by decide)) (Hw _))]
 refine dP (bI (f9 (bK (bK (bM (b8 rfl (hp _) Xf) rfl m0) (bM rfl (hp _) WX)) rfl) rfl ?_ (by decide+kernel)))
 refine pR (n:=4000) ?_ (by decide)
 have key:∀A Bn C:Nat,(MS 4).natAbs<A->P.natAbs<Bn->A+Bn<C->(c / P % MS 4+c % P+1).natAbs<C:=λA Bn C q1 q2 q3=>by omega
 exact key _ _ _ m1 Yg (by decide+kernel)
theorem kZ(hk:dn k=true)(hm:dn m=true):eT [.int k,.int m]=.ok (.int ((k*m+15) / 16)):=by
 rw[eT];exact bL (bI (b8 (bK (f9 rfl rfl hk hm) rfl) rfl (by decide)))
theorem Aj(z:Int):∃w:Int,(1<=w/\w<4294967296)/\kz [.int z]=.ok (.int w):=by
 have h3:z % 3=0\/z % 3=1\/z % 3=2:=by omega
 have q:(bA [e2 aQ (eC (.int 1)) (e2 oMod (e2 bz (aa 0) (eC (.int 3))) (eC (.int 40))),e2 aQ (eC (.int 1)) (e2 oMod (e2 bz (aa 0) (eC (.int 3))) (e2 cX (e2 cL (eC (.int 2)) (eC (.int 32))) (eC (.int 1)))),e2 cX (e2 cX (e2 cL (eC (.int 2)) (eC (.int 32))) (eC (.int 1))) (e2 oMod (e2 bz (aa 0) (eC (.int 3))) (eC (.int 9)))]) [.sh (.int z)]=.ok (.lst [.int (1+z / 3 % 40),.int (1+z / 3 % (4294967296 - 1)),.int (4294967296 - 1 - z / 3 % 9)]):=by
  have a1:(e2 aQ (eC (.int 1)) (e2 oMod (e2 bz (aa 0) (eC (.int 3))) (eC (.int 40)))) [.sh (.int z)]=.ok (.int (1+z / 3 % 40)):=bK rfl (bM (b8 rfl rfl (by decide)) rfl (by decide))
  have a2:(e2 aQ (eC (.int 1)) (e2 oMod (e2 bz (aa 0) (eC (.int 3))) (e2 cX (e2 cL (eC (.int 2)) (eC (.int 32))) (eC (.int 1))))) [.sh (.int z)]=.ok (.int (1+z / 3 % (4294967296 - 1))):=bK rfl (bM (b8 rfl rfl (by decide)) (gG (lL _) rfl) (by decide))
  have a3:(e2 cX (e2 cX (e2 cL (eC (.int 2)) (eC (.int 32))) (eC (.int 1))) (e2 oMod (e2 bz (aa 0) (eC (.int 3))) (eC (.int 9)))) [.sh (.int z)]=.ok (.int (4294967296 - 1 - z / 3 % 9)):=gG (gG (lL _) rfl) (bM (b8 rfl rfl (by decide)) rfl (by decide))
  simp only[bA,eList,a1,a2,a3,R.aH]
 rw[kz];rcases h3 with h|h|h
 ·exact⟨1+z / 3 % 40,⟨by omega,by omega⟩,bL (bI (aK q (bM rfl rfl (by decide)) (by rw[h];rfl)))⟩
 ·exact⟨1+z / 3 % (4294967296 - 1),⟨by omega,by omega⟩,bL (bI (aK q (bM rfl rfl (by decide)) (by rw[h];rfl)))⟩
 ·exact⟨4294967296 - 1 - z / 3 % 9,⟨by omega,by omega⟩,bL (bI (aK q (bM rfl rfl (by decide)) (by rw[h];rfl)))⟩
theorem Cw{a b:Int}(h0:0<=b)(h1:b<1000):∃ws:tx,(ws.length:Int)=b/\(∀w∈ws,0<=w/\w<4294967296)/\mT [.int a,.int b]=.ok (L ws):=by
 obtain⟨ρ',eL,ws,M,s3,rfl,hl,hw⟩:=gO (tg:=aA 3) (λi ρ=>∃(ws:tx) (M:Int) (s3:Slot),ρ=[.sh (.int M),.sh (.int b),.ol (ws.map .int),s3]/\ws.length=i/\∀w∈ws,0<=w/\w<4294967296) (ds:=cI 0 b) 0 (by
  rintro i d hd ρ ⟨ws,M,s3,rfl,hl,hw⟩;obtain⟨rfl,hi⟩:=oM hd;refine⟨_,rfl,_,?_,ws++[M % 4294967296],M / 4294967296,.sh (.int (0+(i:Int))),rfl,by rw[Fk];simp[hl],λw X6=>(FS.mp X6).elim (hw w) λh=>by rw[Os.mp h];omega⟩
  show pd [.sh (.int M),.sh (.int b),.ol (ws.map .int),.sh (.int (0+(i:Int)))]=_;rw[pd,az (y4 (bM rfl (lL _) (by decide)) rfl (by rw[j1];omega))]
  rw[az (bt (b8 rfl (lL _) (by decide))),PC]
  rfl) (ρ:=[.sh (.int a),.sh (.int b),.ol [],.un]) ⟨[],a,.un,rfl,rfl,λw h=>nomatch h⟩
 rw[ji]at hl;refine⟨ws,by omega,hw,?_⟩
 rw[mT];refine bL ?_;rw[az (ρ':=[.sh (.int a),.sh (.int b),.ol [],.un]) rfl];rw[az (dE (ir rfl (gC (by omega) (by omega))) eL)]
 rw[az rfl];exact dP (bI rfl)
theorem Gb(n:Nat):(List.replicate n [D.int 0]).flatten=(List.replicate n (0:Int)).map .int:=by
 induction n with
 |zero=>rfl
 |succ n ih=>rw[aan,S6,ih,aan,MG];rfl
noncomputable def pad(xs:tx):tx:=xs++List.replicate (16 - xs.length) 0
theorem qU(h:xs.length<=16):jC [L xs]=.ok (B (pad xs)):=by
 rw[jC];refine bL (bI (cR (aK (y:=.lst ((List.replicate (16 - xs.length) (0:Int)).map .int)) rfl ?_ (G.lS ?_)) ?_))
 ·refine aK rfl (gG rfl (by rw[kC rfl,j1])) ?_
  show(if _ then _ else _)=_
  rw[DM ⟨by omega,by omega,by decide⟩,Gb,show((16:Int) - (xs.length:Int)).toNat=16 - xs.length by omega]
 ·rw[j1,j1,aaD];omega
 ·show R.ok (D.tup (xs.map .int++_))=_
  rw[<-PC];rfl
theorem we(h:xs.length<=16):(pad xs).length=16:=by
 unfold pad;simp;omega
theorem LJ(h0:0<=many)(h1:many<1000):∃bs:List (tx),(bs.length:Int)=many/\(∀b∈bs,b.length=16/\∀w∈b,0<=w/\w<4294967296)/\ll [.int c,.int many]=.ok (.lst (bs.map B)):=by
 have hp:∀ρ,(e2 cL (eC (.int 10)) (eC (.int 18))) ρ=.ok (.int 1000000000000000000):=λρ=>rfl;generalize hs:c % 1000000000000000000+1=sd;have s0:0<=sd/\sd<=1000000000000000000:=by omega
 let g:Nat->tx:=λk=>(List.range 16).map λ(j:Nat)=>sd*(16*(k:Int)+(j:Int)+1)*40692 % 4294967291
 refine⟨(List.range many.toNat).map g,by simp;omega,λb hb=>?_,?_⟩
 ·obtain⟨k,_,rfl⟩:=SC.mp hb
  refine⟨by simp[g],λw hw=>?_⟩
  obtain⟨j,_,rfl⟩:=SC.mp hw;have a1:=UF (sd*(16*(k:Int)+(j:Int)+1)*40692) (show(4294967291:Int)≠0 by decide)
  have a2:=aac (sd*(16*(k:Int)+(j:Int)+1)*40692) (show(0:Int)<4294967291 by decide)
  exact⟨a1,by show _<_;exact Int.lt_trans a2 (by decide)⟩
 rw[ll];refine bL ?_;refine(az (bt (d:=.int sd) (by rw[<-hs];exact bK (bM rfl (hp _) (by decide)) rfl))).trans ?_
 refine dP (bI ?_);refine jP (ir rfl (gC (by omega) (by omega))) (by rw[ji];omega) ?_
 rw[Pv];unfold cI;rw[show(many - 0).toNat=many.toNat by omega]
 refine lY (u:=λk:Nat=>D.int (0+(k:Int))) (v:=B∘g) λk hk=>⟨_,rfl,?_⟩;have hk:=aaH.mp hk;refine cR (x:=.lst ((g k).map .int)) ?_ rfl;refine jP (ir rfl (by decide)) (by rw[ji];decide) ?_
 rw[Pv];refine lY (u:=λj:Nat=>D.int (0+(j:Int))) (v:=D.int∘_) λj hj=>⟨_,rfl,?_⟩;have hj:=aaH.mp hj;have hb:0<=16*(k:Int)+(j:Int)+1/\16*(k:Int)+(j:Int)+1<100000:=by omega
 rw[abl,abl];refine bM (f9 (f9 rfl (bK (bK (f9 rfl rfl (by decide) (ff (by omega) (by omega))) rfl) rfl) (pR (n:=100) (by omega) (by decide)) (ff (by omega) (by omega))) rfl ?_ (by decide)) rfl (by decide)
 generalize 16*(k:Int)+(j:Int)+1=q at hb;refine pR (n:=200) ?_ (by decide)
 rw[Int.natAbs_mul];have h5:sd.natAbs<=1000000000000000000:=by omega
 have h6:q.natAbs<=100000:=by omega
 exact abt (adP h5 h6) (by decide)
noncomputable def nI(k:Nat):D:=.int (k:Int)
inductive Nd where
 |fi (ws:tx)|fo (ks vs:tx)
noncomputable def lv(vs:tx):List T:=(vs.map D.int).map T.d
noncomputable def Nd.t:Nd->T
 |.fi ws=>.l [.d (.int 1),.d (L ws)]
 |.fo ks vs=>.l [.d (.int 2),.m (ks.map .inl) (lv vs)]
noncomputable def Nd.ct:Nd->D
 |.fi ws=>L ws
 |.fo ks vs=>.aL (ks.map .inl) (vs.map .int)
noncomputable def Nd.kd:Nd->Int
 |.fi _=>1
 |.fo _ _=>2
noncomputable def Nd.d(x:Nd):D:=.lst [.int x.kd,x.ct]
noncomputable def Nd.len:Nd->Nat
 |.fi ws=>ws.length
 |.fo ks _=>ks.length
noncomputable def Nd.want:Nd->Nat
 |.fi ws=>(ws.length+15) / 16
 |.fo ks _=>(2*ks.length+15) / 16
noncomputable def Nd.iH:Nd->tx
 |.fi _=>[]
 |.fo _ vs=>vs
def Nd.ok(n:Nat):Nd->Prop
 |.fi ws=>ws.length<=64/\∀w∈ws,0<=w/\w<4294967296
 |.fo ks vs=>ks.length=vs.length/\ks.length<=32/\(∀v∈vs,0<=v/\v<(n:Int))/\ks.Nodup/\∀k∈ks,1<=k/\k<4294967296
theorem Nd.nQ{n:Nat}{x:Nd}(h:x.ok n):x.want<=4:=by
 cases x with
 |fi ws=>have h:=h.1;show(ws.length+15) / 16<=4;omega
 |fo ks vs=>have h:=h.2.1;show(2*ks.length+15) / 16<=4;omega
theorem Nd.up{n:Nat}{x:Nd}(h:x.ok n):x.ok (n+1):=by
 cases x with
 |fi ws=>exact h
 |fo ks vs=>exact⟨h.1,h.2.1,λv hv=>by have:=h.2.2.1 v hv;omega,h.2.2.2⟩
noncomputable def kids:List Nd->tx
 |[]=>[]
 |x::xs=>x.iH++kids xs
theorem Bv:∀(xs ys:List Nd),kids (xs++ys)=kids xs++kids ys
 |[],ys=>rfl
 |x::xs,ys=>by simp only[aaL,kids];rw[Bv xs ys,P3]
theorem AR:∀ {xs:List Nd} {k:Nat} {x y:Nd},xs[k]? =some x->y.iH=x.iH++[v]->(kids (xs.set k y)).Perm (v::kids xs)
 |[],_,_,_,h,_=>by simp at h
 | a::xs,0,x,y,h,e=>by
  simp at h;subst h;simp only[abq,kids];rw[e,P3];exact adD
 | a::xs,k+1,x,y,h,e=>by
  have:=AR (by simpa using h) e
  simp only[abr,kids];exact(aah _ this).trans adD
structure NI(nds:List Nd):Prop where
 ok:∀x∈nds,x.ok nds.length
 nd:(kids nds).Nodup
 mem:∀v:Int,v∈kids nds↔1<=v/\v<(nds.length:Int)
 gt:∀(k:Nat) x,nds[k]? =some x->∀v∈x.iH,(k:Int)<v
 z:∃ks vs,nds[0]? =some (.fo ks vs)
theorem NI.one:NI [.fo [] []] where
 ok x hx:=by rw[Os.mp hx];exact⟨rfl,by simp,(λv hv=>nomatch hv),aaw,(λv hv=>nomatch hv)⟩
 nd:=aaw
 mem v:=⟨(λh=>nomatch h),λh=>by have h2:v<1:=h.2;omega⟩
 gt k x hx v hv:=by
  have:=Os.mp (GM hx);subst this;exact nomatch hv
 z:=⟨_,_,rfl⟩
theorem NI.add{nds:List Nd}{k:Nat}{ks vs:tx}{w:Int}{nn:Nd}(h:NI nds)(hk:nds[k]? =some (.fo ks vs))(hw:w∉ks)(Vv:1<=w/\w<4294967296)(hl:ks.length<32)(hn:∀n,nn.ok n)(Wi:nn.iH=[]):NI (nds.set k (.fo (ks++[w]) (vs++[(nds.length:Int)]))++[nn]):=by
 have QI:k<nds.length:=(il.mp hk).1;have QZ:=h.ok _ (GM hk);have hlen:(nds.set k (.fo (ks++[w]) (vs++[(nds.length:Int)]))++[nn]).length=nds.length+1:=by simp
 have pm:(kids (nds.set k (.fo (ks++[w]) (vs++[(nds.length:Int)]))++[nn])).Perm ((nds.length:Int)::kids nds):=by
  rw[Bv];have e0:kids [nn]=[]:=by simp[kids,Wi]
  rw[e0,On];exact AR hk rfl
 refine⟨λx hx=>?_,pm.nodup_iff.mpr (PP.mpr ⟨λhm=>by have:=(h.mem _).mp hm;omega,h.nd⟩),λv=>?_,λq x hx v hv=>?_,?_⟩
 ·rw[hlen]
  rcases FS.mp hx with hx|hx
  ·rcases aaq hx with hx|rfl
   ·exact Nd.up (h.ok x hx)
   ·refine⟨by simp[QZ.1],by simp;omega,λv hv=>?_,?_,λq hq=>?_⟩
    ·rcases FS.mp hv with hv|hv
     ·have:=QZ.2.2.1 v hv;omega
     ·rw[Os.mp hv];omega
    ·rw[KB]
     exact⟨QZ.2.2.2.1,by simp,λa ha b hb=>by rw[Os.mp hb];exact λe=>hw (e▸ha)⟩
    ·rcases FS.mp hq with hq|hq
     ·exact QZ.2.2.2.2 q hq
     ·rw[Os.mp hq];exact Vv
  ·rw[Os.mp hx];exact hn _
 ·rw[pm.mem_iff,hlen,KM,h.mem v]
  omega
 ·by_cases hq:q<nds.length
  ·rw[M1 (by rw[S4];exact hq)]at hx
   by_cases hqk:k=q
   ·subst hqk
    rw[Mk QI]at hx;cases hx;rcases FS.mp hv with hv|hv
    ·exact h.gt k _ hk v hv
    ·rw[Os.mp hv];omega
   ·rw[df hqk]at hx
    exact h.gt q x hx v hv
  ·rw[ZN (by rw[S4];omega)]at hx
   have:=Os.mp (GM hx);subst this;rw[Wi]at hv;exact nomatch hv
 ·obtain⟨Us,Uk,h0⟩:=h.z
  by_cases Q4:k=0
  ·subst Q4
   exact⟨ks++[w],_,by rw[M1 (by rw[S4];exact QI),Mk QI]⟩
  ·exact⟨Us,Uk,by rw[M1 (by rw[S4];omega),df Q4];exact h0⟩
theorem qp:∀ds:List D,T.eE (ds.map T.d)=ds
 |[]=>rfl
 |d::ds=>by show T.toD (.d d)::T.eE (ds.map T.d)=_;rw[qp ds];rfl
theorem Nd.toD(x:Nd):T.toD x.t=x.d:=by
 cases x with
 |fi ws=>rfl
 | fo ks vs=>
  show D.lst [.int 2,.aL (ks.map .inl) (T.eE (lv vs))]=_;unfold lv;rw[qp];rfl
theorem l7:∀xs:List Nd,T.eE (xs.map Nd.t)=xs.map Nd.d
 |[]=>rfl
 |x::xs=>by show T.toD x.t::T.eE (xs.map Nd.t)=_;rw[l7 xs,x.toD];rfl
noncomputable def cost:List Nd->Nat
 |[]=>0
 |x::xs=>x.want+1+cost xs
theorem vC:∀(xs ys:List Nd),cost (xs++ys)=cost xs+cost ys
 |[],ys=>by simp[cost]
 |x::xs,ys=>by simp only[aaL,cost];rw[vC xs ys];omega
theorem tf:∀ {xs:List Nd} {k:Nat} {x y:Nd},xs[k]? =some x->cost (xs.set k y)+x.want=cost xs+y.want
 |[],_,_,_,h=>by simp at h
 | a::xs,0,x,y,h=>by
  simp at h;subst h;simp only[abq,cost];omega
 | a::xs,k+1,x,y,h=>by
  have:=tf (y:=y) (by simpa using h)
  simp only[abr,cost];omega
theorem Jr{j i:Nat}{f:Pt}{ρ:En}{p:List Nat}{t t1:T}(h1:f ρ=.ok p)(h2:ρ[i]? =some (.on (.tr t)))(h3:T.at t p=some t1)(h4:t1.own=true)(h5:i≠j):m5 j i f ρ=.ok (.next (ρ.set j (.on (.al i p)))):=by
 unfold m5;simp only[h1,R.aH,h2,h3];exact DM ⟨h4,h5⟩
theorem A4{i:Nat}{f:Pt}{e:Ex}{ρ:En}{p:List Nat}{t n:T}{x:D}{m:Nat}(h1:f ρ=.ok p)(h2:e ρ=.ok x)(h3:ρ[i]? =some (.on (.tr t)))(h4:T.at t p=some n)(h5:stepT n x=some m):pX i f e ρ=.ok (p++[m]):=by
 unfold pX;simp only[h1,h2,R.aH,h3,h4,h5]
theorem Bk{i:Nat}{f:bg}{ρ:En}{t:T}{b:Bool}(ht:ρ[i]? =some (.on (.tr t)))(h:f (fB i t ρ)=.ok b):iI i f ρ=.ok b:=by
 unfold iI;simp only[ht,h]
theorem qe{i:Nat}{f:Ex}{ρ:En}{t:T}{n:Int}(ht:ρ[i]? =some (.on (.tr t)))(h:f (fB i t ρ)=.ok (.int n)):hJ i f ρ=.ok (.int n):=by
 unfold hJ;simp only[ht,h,R.aH];rfl
theorem By{ρ:En}{i:Nat}{f:Pt}{p:List Nat}{t:T}{ks:List Ky}{ts:List T}{k e:Ex}{d q:D}{z:Ky}(ht:ρ[i]? =some (.on (.tr t)))(hf:f ρ=.ok p)(NM:T.at t p=some (.m ks ts))(he:e ρ=.ok d)(hk:k ρ=.ok q)(hz:keyOf q=some z)(hn:ks.length<1000):
  nE i f k e ρ=.ok (.next ((ib i p ρ).set i (.on (.tr (T.put (.m (km z (.d d) ks ts).1 (km z (.d d) ks ts).2) t p))))):=by
 unfold nE;simp only[he,hf,hk,R.aH,ht,hz,NM];exact DM hn
theorem xC{z:Ky}{u:T}{ks:List Ky}{ts:List T}(h:(ks.any λa=>decide (a=z))=false):km z u ks ts=(ks++[z],ts++[u]):=by
 unfold km;rw[Gc (by rw[h];decide)]
theorem AL{ρ:En}{i:Nat}{f:Xt}{t:T}{ts:List T}(hf:f ρ=.ok t)(h:ρ[i]? =some (.on (.tr (.l ts))))(hn:ts.length<16777216):ng i f ρ=.ok (.next (ρ.set i (.on (.tr (.l (ts++[t])))))):=by
 unfold ng;simp only[hf,R.aH,h];exact DM hn
theorem putL_new{z:Ky}{d:D}{ks:List Ky}{vs:List D}(h:(ks.any λa=>decide (a=z))=false):putL z d ks vs=(ks++[z],vs++[d]):=by
 unfold putL;rw[Gc (by rw[h];decide)]
theorem o9{q:Ky}:∀ {ks:List Ky} {vs:List D},ks.length=vs.length->(cJ q ks vs).isSome=ks.any λa=>decide (a=q)
 |[],vs,_=>by simp[cJ]
 |k::ks,[],h=>by simp at h
 | k::ks,v::vs,h=>by
  rw[cJ,aat];by_cases hk:k=q
  ·simp[hk]
  ·rw[Gc hk,o9 (by simpa using h)];simp[hk]
theorem j6{i:Nat}{ρ:En}{xs:List D}{n:Nat}(h:ρ[i]? =some (.ol xs))(hn:xs.length=n):d5 i ρ=.ok (.int n):=by rw[zj h,hn]
theorem D6{i:Nat}{e:Ex}{ρ:En}{xs:List D}{k:Int}{d:D}(h1:e ρ=.ok (.int k))(h2:ρ[i]? =some (.ol xs))(h3:b0 xs k=some d):lP i e ρ=.ok d:=by
 simp only[lP,h1,R.aH,h2,jJ,h3]
theorem Dh{cells:D}{c r room q2 q3:Int}{nds:List Nd}{fs:List Nat}{s5 s6 s7 s8 s9:Slot}(hr:0<=r)(hc:(cost nds:Int)+r=room+1)(ni:NI nds)(hf:fs≠[])(Qu:∀k∈fs,∃ks vs,nds[k]? =some (.fo ks vs))(hn:nds.length<1000)(Ux:fs.length<1000):
  ∃r' NH PV OF Of N9 OE Pd,mV [.sh cells,.sh (.int r),.sh (.int q2),.sh (.int q3),.on (.tr (.l (nds.map Nd.t))),.ol (fs.map nI),.sh (.int c),s5,s6,s7,s8,s9]=.ok (.next [.sh cells,.sh (.int r'),.sh (.int q2),.sh (.int q3),.on (.tr (.l (NH.map Nd.t))),.ol (PV.map nI),.sh (.int c),OF,Of,N9,OE,Pd])/\
   0<=r'/\(cost NH:Int)+r'=room+1/\NI NH/\PV≠[]/\(∀k∈PV,∃ks vs,NH[k]? =some (.fo ks vs))/\NH.length<=nds.length+1/\PV.length<=fs.length+1:=by
 obtain⟨z,hz,ez⟩:=uR c;have hlen:0<fs.length:=ace.mpr hf
 obtain⟨k,Y3,hk⟩:∃k,k∈fs/\b0 (fs.map nI) (z % (fs.length:Int))=some (nI k):=by
  have h1:=UF z (show(fs.length:Int)≠0 by omega)
  have h2:=aac z (show(0:Int)<fs.length by omega)
  refine⟨fs[(z % (fs.length:Int)).toNat]'(by omega),abK _,?_⟩
  rw[qX h1 (by rw[j1];exact h2)]
  simp
 obtain⟨ks,vs,O1⟩:=Qu k Y3;have QZ:=ni.ok _ (GM O1);have QI:k<nds.length:=(il.mp O1).1;have R1:(nds.map Nd.t)[k]? =some (.l [.d (.int 2),.m (ks.map .inl) (lv vs)]):=by rw[xa,O1];rfl
 have OO:T.at (.l (nds.map Nd.t)) []=some (.l (nds.map Nd.t)):=rfl;have Pq:T.at (.l (nds.map Nd.t)) [k]=some (.l [.d (.int 2),.m (ks.map .inl) (lv vs)]):=by unfold T.at;rw[R1];rfl
 have at2:T.at (.l (nds.map Nd.t)) [k,1]=some (.m (ks.map .inl) (lv vs)):=by unfold T.at;rw[R1];rfl
 have TY:∀(r:Int) (nds:List Nd) (fs:List Nat) (s6:Slot) (tl:List Slot),(hJ 4 (e1 cz (aa 4))) (.sh cells::.sh (.int r)::.sh (.int q2)::.sh (.int q3)::.on (.tr (.l (nds.map Nd.t)))::.ol (fs.map nI)::s6::tl)=.ok (.int (nds.length:Int)):=λr nds fs s6 tl=>qe rfl (cR rfl (by
  show R.ok (D.int ((T.eE (nds.map Nd.t)).length:Int))=_;rw[l7,j1]))
 rw[mV];rw[az (bt (c6 rfl ez))];show ∃r' NH PV OF Of N9 OE Pd,aN _ [.sh cells,.sh (.int r),.sh (.int q2),.sh (.int q3),.on (.tr (.l (nds.map Nd.t))),.ol (fs.map nI),.sh (.int c),.sh (.int z),s6,s7,s8,s9]=_/\_;have Vg:(lP 5 (e2 oMod (aa 7) (d5 5))) [.sh cells,.sh (.int r),.sh (.int q2),.sh (.int q3),.on (.tr (.l (nds.map Nd.t))),.ol (fs.map nI),.sh (.int c),.sh (.int z),s6,s7,s8,s9]=.ok (.int (k:Int)):=D6 (bM rfl (j6 rfl (j1 _)) (by omega)) rfl hk
 have hp:(pX 4 (pX 4 (pN) (lP 5 (e2 oMod (aa 7) (d5 5)))) (eC (.int 1))) [.sh cells,.sh (.int r),.sh (.int q2),.sh (.int q3),.on (.tr (.l (nds.map Nd.t))),.ol (fs.map nI),.sh (.int c),.sh (.int z),s6,s7,s8,s9]=.ok [k,1]:=
  A4 (A4 rfl Vg rfl OO (by show cy (nds.map Nd.t).length (k:Int)=some k;rw[j1,rZ (by omega) (by omega)];simp)) rfl rfl Pq rfl
 rw[az (Jr hp rfl at2 rfl (by decide))]
 rw[az (bt (b8 rfl (j6 rfl (j1 _)) (dv (by omega) (by omega))))]
 generalize z / (fs.length:Int)=z1;obtain⟨w,Vv,ew⟩:=Aj z1;rw[az (bt (c6 rfl ew))];rw[az (bt (b8 rfl (f9 rfl (lL _) (by decide) (by decide)) (by decide)))]
 generalize z1 / (3*4294967296)=z2;obtain⟨ws,Zw,Ve,Yb⟩:=Cw (b:=z2 / 3 % 65) (by omega) (by omega)
 rw[az (bt (bJ (b8 rfl (f9 rfl rfl (by decide) (by decide)) (by decide)) (bM (b8 rfl rfl (by decide)) rfl (by decide)) Yb))]
 have TJ:ws.length<=64:=by omega
 show ∃r' NH PV OF Of N9 OE Pd,aN _ [.sh cells,.sh (.int r),.sh (.int q2),.sh (.int q3),.on (.tr (.l (nds.map Nd.t))),.ol (fs.map nI),.sh (.int c),.sh (.int z2),.on (.al 4 [k,1]),.sh (.int w),.sh (L ws),s9]=_/\_
 have nL:∀s9,fB 4 (.l (nds.map Nd.t)) [.sh cells,.sh (.int r),.sh (.int q2),.sh (.int q3),.on (.tr (.l (nds.map Nd.t))),.ol (fs.map nI),.sh (.int c),.sh (.int z2),.on (.al 4 [k,1]),.sh (.int w),.sh (L ws),s9]=[.sh cells,.sh (.int r),.sh (.int q2),.sh (.int q3),.sh (.lst (nds.map Nd.d)),.ol (fs.map nI),.sh (.int c),.sh (.int z2),.sh (.aL (ks.map .inl) (vs.map .int)),.sh (.int w),.sh (L ws),jY 4 (.l (nds.map Nd.t)) s9]:=λs9=>by
  show [_,_,_,_,Slot.sh (.lst (T.eE (nds.map Nd.t))),_,_,_,(match T.at (.l (nds.map Nd.t)) [k,1]with|some t1=>Slot.sh (T.toD t1)|none=>.un),_,_,_]=_
  rw[at2,l7];show [_,_,_,_,_,_,_,_,Slot.sh (.aL (ks.map .inl) (T.eE (lv vs))),_,_,_]=_;unfold lv;rw[qp];rfl
 have RW:∀s9,(e1 cz (aa 8)) [.sh cells,.sh (.int r),.sh (.int q2),.sh (.int q3),.sh (.lst (nds.map Nd.d)),.ol (fs.map nI),.sh (.int c),.sh (.int z2),.sh (.aL (ks.map .inl) (vs.map .int)),.sh (.int w),.sh (L ws),s9]=.ok (.int ks.length):=λs9=>cR rfl (by show R.ok (D.int ((ks.map (Sum.inl:Int->Ky)).length:Int))=_;rw[j1])
 have RU:=QZ.2.1;rw[az (bt (qe rfl (by rw[nL];exact gG (bK rfl (bJ rfl (bK (RW _) rfl) (kZ (by decide) (ff (by omega) (by omega))))) (bJ rfl (RW _) (kZ (by decide) (ff (by omega) (by omega)))))))]
 generalize W8:(1+(2*((ks.length:Int)+1)+15) / 16 - (2*(ks.length:Int)+15) / 16)=m0;show ∃r' NH PV OF Of N9 OE Pd,aN _ [.sh cells,.sh (.int r),.sh (.int q2),.sh (.int q3),.on (.tr (.l (nds.map Nd.t))),.ol (fs.map nI),.sh (.int c),.sh (.int z2),.on (.al 4 [k,1]),.sh (.int w),.sh (L ws),.sh (.int m0)]=_/\_
 obtain⟨m1,Sg,YB⟩:∃m1:Int,m1=m0+(if z2 % 3=0 then 0 else((ws.length:Int)+15) / 16)/\bH (tV (e2 ia (e2 oMod (aa 7) (eC (.int 3))) (eC (.int 0)))) (aS (aA 11) (e2 aQ (aa 11) (aw eT [eC (.int 1),e1 cz (aa 10)]))) (bu) [.sh cells,.sh (.int r),.sh (.int q2),.sh (.int q3),.on (.tr (.l (nds.map Nd.t))),.ol (fs.map nI),.sh (.int c),.sh (.int z2),.on (.al 4 [k,1]),.sh (.int w),.sh (L ws),.sh (.int m0)]=.ok (.next [.sh cells,.sh (.int r),.sh (.int q2),.sh (.int q3),.on (.tr (.l (nds.map Nd.t))),.ol (fs.map nI),.sh (.int c),.sh (.int z2),.on (.al 4 [k,1]),.sh (.int w),.sh (L ws),.sh (.int m1)]):=by
  by_cases h3:z2 % 3=0
  ·refine⟨m0,by rw[DM h3];omega,dk (aT ?_)⟩
   rw[rD (bM rfl rfl (by decide)) rfl,KI (by omega)]
  ·refine⟨_,rfl,?_⟩
   rw[jk (aT (by rw[rD (bM rfl rfl (by decide)) rfl,M0 (by omega)]))]
   rw[bt (bK rfl (bJ rfl (cR rfl (by show R.ok (D.int ((ws.map D.int).length:Int))=_;rw[j1])) (kZ (by decide) (ff (by omega) (by omega)))))]
   rw[Gc h3,Int.one_mul];rfl
 rw[az YB]
 have Vo:(e2 d4 (aa 9) (aa 8)) [.sh cells,.sh (.int r),.sh (.int q2),.sh (.int q3),.sh (.lst (nds.map Nd.d)),.ol (fs.map nI),.sh (.int c),.sh (.int z2),.sh (.aL (ks.map .inl) (vs.map .int)),.sh (.int w),.sh (L ws),.sh (.int m1)]=.ok (.bl (!((ks.map (Sum.inl:Int->Ky)).any λa=>decide (a=.inl w)))):=aK rfl rfl (by
  show(R.ok (D.bl (cJ (.inl w) (ks.map .inl) (vs.map .int)).isSome)).bind iK=_;rw[o9 (by simp[QZ.1])];rfl)
 have Q7:iI 4 (tV (e2 d4 (aa 9) (aa 8))) [.sh cells,.sh (.int r),.sh (.int q2),.sh (.int q3),.on (.tr (.l (nds.map Nd.t))),.ol (fs.map nI),.sh (.int c),.sh (.int z2),.on (.al 4 [k,1]),.sh (.int w),.sh (L ws),.sh (.int m1)]=.ok (!((ks.map (Sum.inl:Int->Ky)).any λa=>decide (a=.inl w))):=Bk rfl (by rw[nL,show jY 4 (.l (nds.map Nd.t)) (.sh (.int m1))=.sh (.int m1)from rfl];exact aT Vo)
 have R9:iI 4 (tV (e2 oLt (e1 cz (aa 8)) (eC (.int 32)))) [.sh cells,.sh (.int r),.sh (.int q2),.sh (.int q3),.on (.tr (.l (nds.map Nd.t))),.ol (fs.map nI),.sh (.int c),.sh (.int z2),.on (.al 4 [k,1]),.sh (.int w),.sh (L ws),.sh (.int m1)]=.ok (decide ((ks.length:Int)<32)):=Bk rfl (by rw[nL,show jY 4 (.l (nds.map Nd.t)) (.sh (.int m1))=.sh (.int m1)from rfl];exact aT (ya (RW _) rfl))
 cases OA:((ks.map (Sum.inl:Int->Ky)).any λa=>decide (a=.inl w))with
 | true=>
  refine⟨r,nds,fs,.sh (.int z2),.on (.al 4 [k,1]),.sh (.int w),.sh (L ws),.sh (.int m1),?_,hr,hc,ni,hf,Qu,by omega,by omega⟩
  rw[OA]at Q7;rw[az (dk (nR Q7))];rfl
 | false=>
  by_cases hl:ks.length<32
  ·by_cases R4:m1<=r
   ·have SK:eO (iI 4 (tV (e2 d4 (aa 9) (aa 8)))) (eO (iI 4 (tV (e2 oLt (e1 cz (aa 8)) (eC (.int 32))))) (tV (e2 oLe (aa 11) (aa 1)))) [.sh cells,.sh (.int r),.sh (.int q2),.sh (.int q3),.on (.tr (.l (nds.map Nd.t))),.ol (fs.map nI),.sh (.int c),.sh (.int z2),.on (.al 4 [k,1]),.sh (.int w),.sh (L ws),.sh (.int m1)]=.ok true:=by
     rw[OA]at Q7;rw[M0 (by omega)]at R9
     rw[jm (b:=true) Q7 (jm (b:=true) R9 (aT (by rw[qM rfl rfl,M0 R4])))];rfl
    obtain⟨nn,Uq,YN⟩:∃nn:Nd,nn=(if z2 % 3=0 then Nd.fo [] []else .fi ws)/\∀(r':Int) t f,(qr [xL [xD (eC (.int 1)),xD (aa 10)],xL [xD (eC (.int 2)),mP]] (e1 kF (e2 oEq (e2 oMod (aa 7) (eC (.int 3))) (eC (.int 0))))) [.sh cells,.sh (.int r'),.sh (.int q2),.sh (.int q3),t,f,.sh (.int c),.sh (.int z2),.on (.al 4 [k,1]),.sh (.int w),.sh (L ws),.sh (.int m1)]=.ok nn.t:=by
     refine⟨_,rfl,λr' t f=>?_⟩;have hx:(dC [xL [xD (eC (.int 1)),xD (aa 10)],xL [xD (eC (.int 2)),mP]]) [.sh cells,.sh (.int r'),.sh (.int q2),.sh (.int q3),t,f,.sh (.int c),.sh (.int z2),.on (.al 4 [k,1]),.sh (.int w),.sh (L ws),.sh (.int m1)]=.ok [.l [.d (.int 1),.d (L ws)],.l [.d (.int 2),.m [] []]]:=rfl
     have hi:(e1 kF (e2 oEq (e2 oMod (aa 7) (eC (.int 3))) (eC (.int 0)))) [.sh cells,.sh (.int r'),.sh (.int q2),.sh (.int q3),t,f,.sh (.int c),.sh (.int z2),.on (.al 4 [k,1]),.sh (.int w),.sh (L ws),.sh (.int m1)]=.ok (.int (if z2 % 3=0 then 1 else 0)):=by
      refine cR (cG (bM rfl rfl (by decide)) rfl) ?_
      by_cases h3:z2 % 3=0
      ·rw[M0 h3,DM h3];rfl
      ·rw[KI h3,Gc h3];rfl
     unfold qr;rw[hx,R.aH,hi,R.aH];by_cases h3:z2 % 3=0
     ·rw[DM h3,DM h3];rfl
     ·rw[Gc h3,Gc h3];rfl
    let nds1:List Nd:=nds.set k (.fo (ks++[w]) (vs++[(nds.length:Int)]))
    have Rg:T.put (.m (ks.map .inl++[.inl w]) (lv vs++[.d (.int (nds.length:Int))])) (.l (nds.map Nd.t)) [k,1]=.l (nds1.map Nd.t):=by
     unfold T.put;rw[R1];rw[acs];show _=T.l ((nds.map Nd.t).set k (.l [.d (.int 2),.m ((ks++[w]).map .inl) (lv (vs++[(nds.length:Int)]))]));unfold lv;simp only[PC];rfl
    have cg:nds1.length=nds.length:=S4
    have Rh:cost nds1+(2*ks.length+15) / 16=cost nds+(2*(ks.length+1)+15) / 16:=by
     have:=tf (y:=.fo (ks++[w]) (vs++[(nds.length:Int)])) O1;simp only[Nd.want,Fk,aag]at this;exact this
    have Vs:(nn.want:Int)=if z2 % 3=0 then 0 else((ws.length:Int)+15) / 16:=by
     rw[Uq];by_cases h3:z2 % 3=0
     ·rw[DM h3,DM h3];rfl
     ·rw[Gc h3,Gc h3];show(((ws.length+15) / 16:Nat):Int)=_;omega
    let T5:List Nat:=if z2 % 3=0 then fs++[nds.length]else fs
    refine⟨r - m1,nds1++[nn],T5,.sh (.int z2),.on (.al 4 [k,1]),.sh (.int w),.sh (L ws),.sh (.int m1),?_,by omega,?_,?_,?_,?_,?_,?_⟩
    ·rw[az ?_]
     ·rfl
     rw[jk SK,az (bt (gG rfl rfl))];show aN _ [.sh cells,.sh (.int (r - m1)),.sh (.int q2),.sh (.int q3),.on (.tr (.l (nds.map Nd.t))),.ol (fs.map nI),.sh (.int c),.sh (.int z2),.on (.al 4 [k,1]),.sh (.int w),.sh (L ws),.sh (.int m1)]=_;rw[az (By rfl rfl at2 (TY (r - m1) nds fs _ _) rfl rfl (by rw[j1];omega)),xC OA,Rg]
     have UG:∀(x2:Slot),((ib 4 [k,1] [.sh cells,.sh (.int (r - m1)),.sh (.int q2),.sh (.int q3),.on (.tr (.l (nds.map Nd.t))),.ol (fs.map nI),.sh (.int c),.sh (.int z2),.on (.al 4 [k,1]),.sh (.int w),.sh (L ws),.sh (.int m1)]).set 4 x2)=[.sh cells,.sh (.int (r - m1)),.sh (.int q2),.sh (.int q3),x2,.ol (fs.map nI),.sh (.int c),.sh (.int z2),.on (.al 4 [k,1]),.sh (.int w),.sh (L ws),.sh (.int m1)]:=λx2=>by
      show [Slot.sh cells,.sh (.int (r - m1)),.sh (.int q2),.sh (.int q3),x2,.ol (fs.map nI),.sh (.int c),.sh (.int z2),(if 4=4/\below [k,1] [k,1]=true then .un else .on (.al 4 [k,1])),.sh (.int w),.sh (L ws),.sh (.int m1)]=_
      rw[Gc (by simp[below])]
     rw[UG]
     have NW:bH (tV (e2 oEq (e2 oMod (aa 7) (eC (.int 3))) (eC (.int 0)))) (mr 5 (hJ 4 (e1 cz (aa 4)))) (bu) [.sh cells,.sh (.int (r - m1)),.sh (.int q2),.sh (.int q3),.on (.tr (.l (nds1.map Nd.t))),.ol (fs.map nI),.sh (.int c),.sh (.int z2),.on (.al 4 [k,1]),.sh (.int w),.sh (L ws),.sh (.int m1)]=.ok (.next [.sh cells,.sh (.int (r - m1)),.sh (.int q2),.sh (.int q3),.on (.tr (.l (nds1.map Nd.t))),.ol (T5.map nI),.sh (.int c),.sh (.int z2),.on (.al 4 [k,1]),.sh (.int w),.sh (L ws),.sh (.int m1)]):=by
      by_cases h3:z2 % 3=0
      ·rw[jk (aT (by rw[cG (bM rfl rfl (by decide)) rfl,M0 h3]))]
       rw[y4 (d:=.int (nds.length:Int)) (by rw[<-cg];exact TY (r - m1) nds1 fs _ _) rfl (by rw[j1];omega)]
       show _=R.ok (Fl.next [_,_,_,_,_,.ol ((if z2 % 3=0 then fs++[nds.length]else fs).map _),_,_,_,_,_,_])
       rw[DM h3,PC];rfl
      ·rw[dk (aT (by rw[cG (bM rfl rfl (by decide)) rfl,KI h3]))]
       show _=R.ok (Fl.next [_,_,_,_,_,.ol ((if z2 % 3=0 then fs++[nds.length]else fs).map _),_,_,_,_,_,_])
       rw[Gc h3]
     rw[az NW,az (AL (YN _ _ _) rfl (by rw[j1,cg];omega)),PC]
     rfl
    ·rw[vC]
     simp only[cost];have h7:=Sg;rw[<-Vs]at h7;omega
    ·refine ni.add O1 (λhm=>?_) Vv hl (λn=>?_) ?_
     ·rw[acu]at OA
      exact OA (.inl w) (SC.mpr ⟨w,hm,rfl⟩) (by simp)
     ·rw[Uq]
      by_cases h3:z2 % 3=0
      ·rw[DM h3];exact⟨rfl,by simp,(λv hv=>nomatch hv),aaw,λv hv=>nomatch hv⟩
      ·rw[Gc h3];exact⟨TJ,Ve⟩
     ·rw[Uq]
      by_cases h3:z2 % 3=0
      ·rw[DM h3];rfl
      ·rw[Gc h3];rfl
    ·show(if z2 % 3=0 then fs++[nds.length]else fs)≠[]
     by_cases h3:z2 % 3=0
     ·rw[DM h3];simp
     ·rw[Gc h3];exact hf
    ·intro q hq
     have old:∀q∈fs,∃ks vs,(nds1++[nn])[q]? =some (.fo ks vs):=λq hq=>by
      obtain⟨Oa,Oo,h5⟩:=Qu q hq;have Y0:q<nds.length:=(il.mp h5).1;rw[M1 (by rw[cg];exact Y0)]
      by_cases hqk:k=q
      ·subst hqk
       exact⟨_,_,Mk QI⟩
      ·exact⟨Oa,Oo,by rw[df hqk];exact h5⟩
     have hq:q∈(if z2 % 3=0 then fs++[nds.length]else fs):=hq
     by_cases h3:z2 % 3=0
     ·rw[DM h3]at hq
      rcases FS.mp hq with hq|hq
      ·exact old q hq
      ·rw[Os.mp hq,ZN (by rw[cg];exact IR _),cg,ada,Uq,DM h3]
       exact⟨_,_,rfl⟩
     ·rw[Gc h3]at hq;exact old q hq
    ·rw[Fk,aag,cg];exact IR _
    ·show(if z2 % 3=0 then fs++[nds.length]else fs).length<=_
     by_cases h3:z2 % 3=0
     ·rw[DM h3];simp
     ·rw[Gc h3];omega
   ·refine⟨r,nds,fs,.sh (.int z2),.on (.al 4 [k,1]),.sh (.int w),.sh (L ws),.sh (.int m1),?_,hr,hc,ni,hf,Qu,by omega,by omega⟩
    rw[OA]at Q7;rw[M0 (by omega)]at R9
    rw[az (dk ((jm (b:=true) (c:=false) Q7 (jm (b:=true) (c:=false) R9 (aT (by rw[qM rfl rfl,KI R4])))).trans rfl))]
    rfl
  ·refine⟨r,nds,fs,.sh (.int z2),.on (.al 4 [k,1]),.sh (.int w),.sh (L ws),.sh (.int m1),?_,hr,hc,ni,hf,Qu,by omega,by omega⟩
   rw[OA]at Q7;rw[KI (by omega)]at R9
   rw[az (dk ((jm (b:=true) (c:=false) Q7 (nR R9)).trans rfl))];rfl
theorem KA(ds:List D):(ds.map Arg.d).map Arg.slot=ds.map .sh:=by rw[Pv];rfl
theorem AS{ρ:En}:∀(ds:List D) (i:Nat),ie (ds.map .d) i ρ=.ok []
 |[],_=>rfl
 |d::ds,i=>AS ds (i+1)
theorem EW(k:Nat)(ds:List D):((ds.map Arg.d).drop k).all Arg.qR=true:=by rw[<-abC,List.all_map];exact aap.mpr λ_ _=>rfl
theorem Cj{n:Nat}{b:Sm}{t1 u1:T}{ds:List D}{d:D}{ρ:En}(h:b (.on (.tr t1)::(ds.map Slot.sh++List.replicate (n - (ds.length+1)) .un))=.ok (.dS d ρ))(h0:ρ[0]? =some (.on (.tr u1))):mj n b (.t t1::ds.map .d)=.ok (d,[u1]):=by
 unfold mj;rw[DM (show((Arg.t t1::ds.map .d).drop 4).all Arg.qR=true from EW 3 ds)]
 have e:((Arg.t t1::ds.map Arg.d).map Arg.slot++List.replicate (n - (Arg.t t1::ds.map Arg.d).length) Slot.un)=.on (.tr t1)::(ds.map Slot.sh++List.replicate (n - (ds.length+1)) .un):=by
  rw[MG,KA,PK,j1];rfl
 have et:ie (.t t1::ds.map .d) 0 ρ=.ok [u1]:=by simp only[ie,h0,AS,R.aH]
 rw[e,h,R.aH];show(ie _ 0 ρ).bind _=_;rw[et];rfl
theorem GX{i:Nat}{f:Pt}{r:List GA}{ρ:En}{p:List Nat}{t t1:T}{as:List Arg}(hf:f ρ=.ok p)(hi:ρ[i]? =some (.on (.tr t)))(ha:T.at t p=some t1)(hr:iF r ρ=.ok as):iF (.p i f::r) ρ=.ok (.t t1::as):=by
 simp only[iF,hf,R.aH,hi,ha,hr]
theorem wc{f:Ex}{r:List GA}{ρ:En}{d:D}{as:List Arg}(hf:f ρ=.ok d)(hr:iF r ρ=.ok as):iF (.e f::r) ρ=.ok (.d d::as):=by
 simp only[iF,hf,R.aH,hr]
theorem K3{a:Sm}{r:List Sm}{ρ ρ':En}{d:D}(h:a ρ=.ok (.dS d ρ')):aN (a::r) ρ=.ok (.dS d ρ'):=by
 show(a ρ).bind _=_;rw[h];rfl
theorem Iy(t:T):T.at t []=some t:=by cases t<;>rfl
theorem HY{many step r room:Int}{k:Nat}{nds:List Nd}{ks vs:tx}{s6:Slot}(hr:0<=r)(hc:(cost nds:Int)+r=room+1)(ni:NI nds)(O1:nds[0]? =some (.fo ks vs))(hk:ks.length<=k)(RU:k<32)(RO:∀q∈ks,q<1+(k:Int)*step)(hs:1<=step/\step<=100000000)(hn:nds.length<=k+1):
  ∃r' NH Oa Oo Of,lr [.on (.tr (.l (nds.map Nd.t))),.sh (.int many),.sh (.int step),.sh (.int r),.on (.al 0 [0,1]),.sh (.int (k:Int)),s6]=.ok (.next [.on (.tr (.l (NH.map Nd.t))),.sh (.int many),.sh (.int step),.sh (.int r'),.on (.al 0 [0,1]),.sh (.int (k:Int)),Of])/\
   0<=r'/\(cost NH:Int)+r'=room+1/\NI NH/\NH[0]? =some (.fo Oa Oo)/\Oa.length<=k+1/\(∀q∈Oa,q<1+((k+1:Nat):Int)*step)/\NH.length<=k+2:=by
 have QZ:=ni.ok _ (GM O1);have QI:0<nds.length:=(il.mp O1).1;have Zk:0<=(k:Int)*step:=acM (by omega) (by omega)
 have Zd:(k:Int)*step<=31*100000000:=Int.le_trans (Int.mul_le_mul_of_nonneg_right (show(k:Int)<=31 by omega) (by omega)) (acB hs.2 (by decide))
 have O3:((k+1:Nat):Int)*step=(k:Int)*step+step:=by rw[Int.natCast_add,Int.add_mul];simp
 have R1:(nds.map Nd.t)[0]? =some (.l [.d (.int 2),.m (ks.map .inl) (lv vs)]):=by rw[xa,O1];rfl
 have at2:T.at (.l (nds.map Nd.t)) [0,1]=some (.m (ks.map .inl) (lv vs)):=by unfold T.at;rw[R1];rfl
 have nL:∀s6,fB 0 (.l (nds.map Nd.t)) [.on (.tr (.l (nds.map Nd.t))),.sh (.int many),.sh (.int step),.sh (.int r),.on (.al 0 [0,1]),.sh (.int (k:Int)),s6]=[.sh (.lst (nds.map Nd.d)),.sh (.int many),.sh (.int step),.sh (.int r),.sh (.aL (ks.map .inl) (vs.map .int)),.sh (.int (k:Int)),jY 0 (.l (nds.map Nd.t)) s6]:=λs6=>by
  show [Slot.sh (.lst (T.eE (nds.map Nd.t))),_,_,_,(match T.at (.l (nds.map Nd.t)) [0,1]with|some t1=>Slot.sh (T.toD t1)|none=>.un),_,_]=_
  rw[at2,l7];show [_,_,_,_,Slot.sh (.aL (ks.map .inl) (T.eE (lv vs))),_,_]=_;unfold lv;rw[qp];rfl
 have RW:∀s6,(e1 cz (aa 4)) [.sh (.lst (nds.map Nd.d)),.sh (.int many),.sh (.int step),.sh (.int r),.sh (.aL (ks.map .inl) (vs.map .int)),.sh (.int (k:Int)),s6]=.ok (.int ks.length):=λs6=>cR rfl (by show R.ok (D.int ((ks.map (Sum.inl:Int->Ky)).length:Int))=_;rw[j1])
 rw[lr];rw[az (bt (qe rfl (by rw[nL];exact gG (bK rfl (bJ rfl (bK (RW _) rfl) (kZ (by decide) (ff (by omega) (by omega))))) (bJ rfl (RW _) (kZ (by decide) (ff (by omega) (by omega)))))))]
 generalize W8:(1+(2*((ks.length:Int)+1)+15) / 16 - (2*(ks.length:Int)+15) / 16)=m0;show ∃r' NH Oa Oo Of,aN _ [.on (.tr (.l (nds.map Nd.t))),.sh (.int many),.sh (.int step),.sh (.int r),.on (.al 0 [0,1]),.sh (.int (k:Int)),.sh (.int m0)]=_/\_;by_cases R4:m0<=r
 ·generalize hw:1+(k:Int)*step=w at RO
  have W4:w∉ks:=λh=>by have:=RO w h;omega
  have OA:((ks.map (Sum.inl:Int->Ky)).any λa=>decide (a=.inl w))=false:=by
   rw[acu];intro a ha;obtain⟨q,hq,rfl⟩:=SC.mp ha;have:q≠w:=λe=>W4 (e▸hq);simpa using this
  let nds1:List Nd:=nds.set 0 (.fo (ks++[w]) (vs++[(nds.length:Int)]))
  have Rg:T.put (.m (ks.map .inl++[.inl w]) (lv vs++[.d (.int (nds.length:Int))])) (.l (nds.map Nd.t)) [0,1]=.l (nds1.map Nd.t):=by
   unfold T.put;rw[R1];rw[acs];show _=T.l ((nds.map Nd.t).set 0 (.l [.d (.int 2),.m ((ks++[w]).map .inl) (lv (vs++[(nds.length:Int)]))]));unfold lv;simp only[PC];rfl
  have cg:nds1.length=nds.length:=S4
  have Rh:cost nds1+(2*ks.length+15) / 16=cost nds+(2*(ks.length+1)+15) / 16:=by
   have:=tf (y:=.fo (ks++[w]) (vs++[(nds.length:Int)])) O1;simp only[Nd.want,Fk,aag]at this;exact this
  refine⟨r - m0,nds1++[.fi []],ks++[w],vs++[(nds.length:Int)],.sh (.int m0),?_,by omega,?_,?_,?_,?_,?_,?_⟩
  ·rw[az ?_]
   ·rfl
   rw[jk (aT (by rw[qM rfl rfl,M0 R4])),az (bt (gG rfl rfl))]
   show aN _ [.on (.tr (.l (nds.map Nd.t))),.sh (.int many),.sh (.int step),.sh (.int (r - m0)),.on (.al 0 [0,1]),.sh (.int (k:Int)),.sh (.int m0)]=_
   rw[az (By (d:=.int (nds.length:Int)) (q:=.int w) rfl rfl at2 (qe rfl (cR rfl (by
    show R.ok (D.int ((T.eE (nds.map Nd.t)).length:Int))=_;rw[l7,j1]))) (by rw[<-hw];exact bK rfl (f9 rfl rfl (ff (by omega) (by omega)) (ff (by omega) (by omega)))) rfl (by rw[j1];omega)),xC OA,Rg]
   have UG:∀(x2:Slot),((ib 0 [0,1] [.on (.tr (.l (nds.map Nd.t))),.sh (.int many),.sh (.int step),.sh (.int (r - m0)),.on (.al 0 [0,1]),.sh (.int (k:Int)),.sh (.int m0)]).set 0 x2)=[x2,.sh (.int many),.sh (.int step),.sh (.int (r - m0)),.on (.al 0 [0,1]),.sh (.int (k:Int)),.sh (.int m0)]:=λx2=>by
    show [x2,_,_,_,(if 0=0/\below [0,1] [0,1]=true then Slot.un else .on (.al 0 [0,1])),_,_]=_
    rw[Gc (by simp[below])]
   rw[UG];rw[az (AL (t:=Nd.t (.fi [])) rfl rfl (by rw[j1,cg];omega)),PC]
   rfl
  ·rw[vC]
   simp only[cost,Nd.want,aaA];omega
  ·exact ni.add O1 W4 (by omega) (by omega) (λn=>⟨by simp,(λv hv=>nomatch hv)⟩) rfl
  ·rw[M1 (by rw[cg];exact QI)]
   exact Mk QI
  ·rw[Fk,aag];omega
  ·intro q hq
   rw[O3];rcases FS.mp hq with hq|hq
   ·have:=RO q hq;omega
   ·rw[Os.mp hq];omega
  ·rw[Fk,aag,cg];omega
 ·refine⟨r,nds,ks,vs,.sh (.int m0),?_,hr,hc,ni,O1,by omega,λq hq=>?_,by omega⟩
  ·rw[az (dk (aT (by rw[qM rfl rfl,KI R4])))]
   rfl
  ·have:=RO q hq;rw[O3];omega
theorem Bx{b:Int}:cI 0 b=(List.range b.toNat).map λ(k:Nat)=>D.int (k:Int):=by
 have e:cI 0 b=((List.range (b - 0).toNat).map λ(k:Nat)=>D.int (0+(k:Int))):=rfl;rw[e,Int.sub_zero];simp only[abl]
theorem Jx{many step room:Int}(h0:0<=room)(hm:0<=many/\many<=32)(hs:1<=step/\step<=100000000):
  ∃r nds,nB [.t (.l [Nd.t (.fo [] [])]),.d (.int many),.d (.int step),.d (.int room)]=.ok (.int r,[.l (nds.map Nd.t)])/\0<=r/\(cost nds:Int)+r=room+1/\NI nds/\nds.length<=33:=by
 obtain⟨ρ',eL,r,nds,ks,vs,s5,s6,rfl,hr,hc,ni,O1,_,_,hn⟩:=gO (tg:=aA 5) (body:=lr) (λi ρ=>∃r nds ks vs s5 s6,ρ=[.on (.tr (.l (nds.map Nd.t))),.sh (.int many),.sh (.int step),.sh (.int r),.on (.al 0 [0,1]),s5,s6]/\0<=r/\(cost nds:Int)+r=room+1/\NI nds/\nds[0]? =some (.fo ks vs)/\ks.length<=i/\(∀q∈ks,q<1+(i:Int)*step)/\nds.length<=i+1) (ds:=cI 0 many) 0 (by
  rintro i d hd ρ ⟨r,nds,ks,vs,s5,s6,rfl,hr,hc,ni,O1,hk,RO,hn⟩;rw[Bx]at hd;have hi:i<many.toNat:=by have:=(il.mp hd).1;simpa using this
  rw[xa,abj hi]at hd;cases hd;rw[Z8]at hk RO hn ⊢;obtain⟨r',NH,Oa,Oo,Of,e,a1,a2,a3,a4,a5,a6,a7⟩:=HY (many:=many) (s6:=s6) hr hc ni O1 hk (by omega) RO hs hn
  exact⟨_,rfl,_,e,r',NH,Oa,Oo,_,_,rfl,a1,a2,a3,a4,a5,a6,a7⟩) (ρ:=[.on (.tr (.l [Nd.t (.fo [] [])])),.sh (.int many),.sh (.int step),.sh (.int room),.on (.al 0 [0,1]),.un,.un]) ⟨room,[.fo [] []],[],[],.un,.un,rfl,h0,by simp[cost,Nd.want];omega,NI.one,rfl,by simp,(λq hq=>nomatch hq),by simp⟩
 rw[Bx,j1,acq]at hn;refine⟨r,nds,?_,hr,hc,ni,by omega⟩
 rw[nB];refine Cj (ds:=[.int many,.int step,.int room]) (ρ:=[.on (.tr (.l (nds.map Nd.t))),.sh (.int many),.sh (.int step),.sh (.int r),.on (.al 0 [0,1]),s5,s6]) ?_ rfl;rw[az (ρ':=[.on (.tr (.l [Nd.t (.fo [] [])])),.sh (.int many),.sh (.int step),.sh (.int room),.on (.al 0 [0,1]),.un,.un]) rfl];rw[az (dE (ir rfl (gC (by omega) (by omega))) eL)]
 exact K3 rfl
theorem JH{cs:tx}{room many step:Int}(h0:0<=room)(hl:cs.length<=100)(hm:0<=many/\many<=32)(hs:1<=step/\step<=100000000):∃nds:List Nd,(cost nds:Int)<=room+1/\NI nds/\nds.length<=cs.length+33/\nr [L cs,.int room,.int many,.int step]=.ok (.lst (nds.map Nd.d)):=by
 obtain⟨r0,RQ,ec,WN,UH,Ws,QO⟩:=Jx h0 hm hs;obtain⟨Us,Uk,hz⟩:=Ws.z
 obtain⟨ρ',eL,r,nds,fs,s4,s5,s6,s7,s8,s9,rfl,hr,hc,aC,hf,Qu,Q1,YC⟩:=gO (tg:=aA 6) (λi ρ=>∃r nds fs s4 s5 s6 s7 s8 s9,ρ=[.sh (L cs),.sh (.int r),.sh (.int many),.sh (.int step),.on (.tr (.l (nds.map Nd.t))),.ol (fs.map nI),s4,s5,s6,s7,s8,s9]/\0<=r/\(cost nds:Int)+r=room+1/\NI nds/\fs≠[]/\(∀k∈fs,∃ks vs,nds[k]? =some (.fo ks vs))/\nds.length<=i+33/\fs.length<=i+1) (ds:=cs.map .int) 0 (by
  rintro i d hd ρ ⟨r,nds,fs,s4,s5,s6,s7,s8,s9,rfl,hr,hc,aC,hf,Qu,Q1,YC⟩;have hi:i<cs.length:=by have:=(il.mp hd).1;simpa using this
  rw[xa,DF hi]at hd;cases hd;obtain⟨r',NH,PV,OF,Of,N9,OE,Pd,e,a1,a2,a3,a4,a5,a6,a7⟩:=Dh (q2:=many) (q3:=step) hr hc aC hf Qu (by omega) (by omega)
  exact⟨_,rfl,_,e,r',NH,PV,_,_,_,_,_,_,rfl,a1,a2,a3,a4,a5,by omega,by omega⟩) (ρ:=[.sh (L cs),.sh (.int r0),.sh (.int many),.sh (.int step),.on (.tr (.l (RQ.map Nd.t))),.ol [.int 0],.un,.un,.un,.un,.un,.un]) ⟨r0,RQ,[0],.un,.un,.un,.un,.un,.un,rfl,WN,UH,Ws,by simp,(λk hk=>by rw[Os.mp hk];exact⟨Us,Uk,hz⟩),by omega,by simp⟩
 rw[j1]at Q1;refine⟨nds,by omega,aC,by omega,?_⟩
 rw[nr];refine bL ?_;rw[az rfl];rw[az (ρ':=[.sh (L cs),.sh (.int room),.sh (.int many),.sh (.int step),.on (.tr (.l [Nd.t (.fo [] [])])),.ol [.int 0],.un,.un,.un,.un,.un,.un]) rfl]
 rw[az (ρ':=[.sh (L cs),.sh (.int r0),.sh (.int many),.sh (.int step),.on (.tr (.l (RQ.map Nd.t))),.ol [.int 0],.un,.un,.un,.un,.un,.un]) (by
  unfold uw wu;rw[GX (p:=[]) (t1:=.l [Nd.t (.fo [] [])]) rfl rfl (Iy _) (wc (d:=.int many) rfl (wc (d:=.int step) rfl (wc (d:=.int room) rfl rfl))),R.aH,DM (by show([4]:List Nat).Nodup;decide),ec]
  rfl)]
 rw[az (dE (by rfl) eL)]
 rw[az (by
  show R.ok (Fl.next [_,_,_,_,.sh (D.lst (T.eE (nds.map Nd.t))),_,_,_,_,_,_,_])=_;rw[l7])]
 exact dP (bI rfl)
noncomputable def bP{α:Type}(a:Int):tx->List α->Option α
 |k::ks,v::vs=>if k=a then some v else bP a ks vs
 |_,_=>none
theorem xJ{α:Type}(f:α->D)(a:Int):∀ {ks:tx} {vs:List α},cJ (.inl a) (ks.map .inl) (vs.map f)=(bP a ks vs).map f
 |[],vs=>by simp[cJ,bP]
 |k::ks,[]=>by simp[cJ,bP]
 | k::ks,v::vs=>by
  rw[MG,MG,cJ,bP];by_cases hk:k=a
  ·rw[DM hk,DM (by rw[hk])];rfl
  ·rw[Gc hk,Gc (λz=>hk (acx z))];exact xJ f a
theorem mW{α:Type}{a:Int}{e:α}:∀ {ks:tx} {es:List α} {i:Nat},ks.Nodup->ks[i]? =some a->es[i]? =some e->bP a ks es=some e
 |[],_,_,_,h,_=>by simp at h
 |_::_,[],_,_,_,h=>by simp at h
 | k::ks,x::es,0,_,h,h2=>by
  simp at h h2;subst h h2;rw[bP,DM rfl]
 | k::ks,x::es,i+1,nd,h,h2=>by
  have M5:=PP.mp nd;have h':ks[i]? =some a:=by simpa using h
  rw[bP,Gc (λ(z:k=a)=>M5.1 (z▸GM h'))];exact mW M5.2 h' (by simpa using h2)
theorem m9{α:Type}{a:Int}{ks:tx}{es:List α}(hl:ks.length=es.length)(nd:ks.Nodup)(h:a∈ks):∃(i:Nat) (e:α),ks[i]? =some a/\es[i]? =some e/\bP a ks es=some e:=by
 obtain⟨i,hi⟩:=Z6 h;have Nl:=(il.mp hi).1;have he:es[i]? =some es[i]:=DF (by omega)
 exact⟨i,_,hi,he,mW nd hi he⟩
theorem og{α:Type}(f:α->D){a:Int}{ks:tx}{vs:List α}{e:α}(h:bP a ks vs=some e):aO (.aL (ks.map .inl) (vs.map f)) (.int a)=.ok (f e):=by
 show(match cJ (.inl a) (ks.map .inl) (vs.map f)with|some v=>R.ok v|none=>.bad)=_
 rw[xJ,h];rfl
theorem rn(q:Int)(ks:tx):((ks.map (Sum.inl:Int->Ky)).any λa=>decide (a=.inl q))=decide (q∈ks):=by
 induction ks with
 |nil=>simp
 | cons k ks ih=>
  rw[MG,aat,ih];by_cases h:k=q
  ·subst h;simp
  ·have h':¬q=k:=λz=>h z.symm
   have h2:¬((Sum.inl k:Ky)=.inl q):=λz=>h (acx z);simp[h2,h']
theorem xP(h:q∉ks):putL (.inl q) d (ks.map .inl) vs=((ks++[q]).map .inl,vs++[d]):=by
 rw[putL_new (by rw[rn,KI h]),PC];rfl
noncomputable def pD(p:Int×Int):D:=.tup [.int p.1,.int p.2]
theorem Ab(hf:∀p,f p=.tup [.int p.1,g p.2]):∀(ps:List (Int×Int)) {ks vs:tx},(ks++ps.map (·.1)).Nodup->gI (ps.map f) (ks.map .inl) (vs.map g)=.ok (.aL ((ks++ps.map (·.1)).map .inl) ((vs++ps.map (·.2)).map g))
 |[],ks,vs,h=>by simp[gI]
 | p::ps,ks,vs,h=>by
  have hp:p.1∉ks:=λhm=>(KB.mp h).2.2 _ hm p.1 (by simp) rfl
  rw[MG,hf p,gI];show gI (ps.map f) (putL (.inl p.1) (g p.2) (ks.map .inl) (vs.map g)).1 (putL (.inl p.1) (g p.2) (ks.map .inl) (vs.map g)).2=_;rw[xP hp];have:=Ab hf ps (ks:=ks++[p.1]) (vs:=vs++[p.2]) (by simpa using h)
  rw[PC]at this;simpa using this
theorem tW{ps:List (Int×Int)}(h:(ps.map (·.1)).Nodup)(hl:ps.length<=1000):dw (.lst (ps.map pD))=.ok (.aL ((ps.map (·.1)).map .inl) ((ps.map (·.2)).map .int)):=by
 show(if(ps.map pD).length<=1000 then gI (ps.map pD) [] []else .bad)=_
 rw[DM (by rw[j1];exact hl)]
 have:=Ab (f:=pD) (λp=>rfl) ps (ks:=[]) (vs:=[]) (by simpa using h)
 simpa using this
theorem z0(h:a ρ=.ok (.int k))(hi:ρ[i]? =some (.ol xs))(hj:ρ[j]? =some (.ol ys))(hm:cy xs.length k=some m)(hy:xs[m]? =some y)(hk:inR k=true)(hl:ys.length<16777216)(PU:i≠j):oX j i a ρ=.ok (.next ((ρ.set i (.ol (xs.eraseIdx m))).set j (.ol (ys++[y])))):=by
 simp only[oX,h,R.aH,hi,hj,hm,hy]
 first
  |exact DM ⟨hk,hl,PU⟩
  |exact DM ⟨PU,hk,hl⟩
  |exact DM ⟨hk,hl⟩
  |simp[hk,hl,PU]
theorem A2:∀(fr:tx) (m:Nat),(fr.map D.int).eraseIdx m=(fr.eraseIdx m).map .int
 |[],m=>by simp
 |x::fr,0=>rfl
 |x::fr,m+1=>by simp only[MG,abE];rw[A2 fr m]
theorem BG:∀ {fr:tx} {m:Nat} {y:Int},fr[m]? =some y->(y::fr.eraseIdx m).Perm fr
 |[],_,_,h=>by simp at h
 |x::fr,0,y,h=>by simp at h;subst h;exact .refl _
 | x::fr,m+1,y,h=>by
  rw[abE];exact(List.Perm.swap _ _ _).trans ((BG (by simpa using h)).cons _)
theorem pop_at(h0:0<fr.length)(h1:fr.length<1000):∃(m:Nat) (y:Int),cy (fr.map D.int).length (z % (fr.length:Int))=some m/\(fr.map D.int)[m]? =some (.int y)/\inR (z % (fr.length:Int))=true/\(fr.map D.int).eraseIdx m=(fr.eraseIdx m).map .int/\(y::fr.eraseIdx m).Perm fr:=by
 have a1:=UF z (show(fr.length:Int)≠0 by omega)
 have a2:=aac z (show(0:Int)<fr.length by omega)
 have hm:(z % (fr.length:Int)).toNat<fr.length:=by omega
 exact⟨(z % (fr.length:Int)).toNat,fr[(z % (fr.length:Int)).toNat],by rw[j1];exact rZ a1 a2,by rw[xa,DF hm];rfl,gC (by omega) (by omega),A2 _ _,BG (DF hm)⟩
theorem Cr(h0:0<fr.length)(h1:fr.length<1000)(h2:hs.length<1000):∃(z' y:Int) (P9:tx),oP [s0,s1,.sh (.int z),s3,.ol (fr.map .int),.ol (hs.map .int),s6,s7,s8,s9,Ro,PN]=.ok (.next [s0,s1,.sh (.int z'),s3,.ol (P9.map .int),.ol ((hs++[y]).map .int),s6,s7,s8,s9,Ro,PN])/\(y::P9).Perm fr:=by
 obtain⟨m,y,e1,e2,e3,e4,e5⟩:=pop_at h0 h1;have e6:(fr.eraseIdx m).length+1=fr.length:=e5.length_eq;refine⟨z / (((fr.eraseIdx m).length:Int)+1),y,fr.eraseIdx m,?_,e5⟩;rw[oP,az (z0 (bM rfl (j6 rfl (j1 _)) (by omega)) rfl rfl e1 e2 e3 (by rw[j1];omega) (by decide)),e4]
 rw[az (bt (b8 rfl (bK (j6 rfl (j1 _)) rfl) (dv (by omega) (by omega)))),PC]
 rfl
theorem Du(h0:0<fr.length)(h1:fr.length<1000)(h2:hs.length<1000):∃(z' y:Int) (P9:tx),ot [s0,s1,.sh (.int z),s3,.ol (fr.map .int),s5,s6,s7,s8,s9,.ol (hs.map .int),PN]=.ok (.next [s0,s1,.sh (.int z'),s3,.ol (P9.map .int),s5,s6,s7,s8,s9,.ol ((hs++[y]).map .int),PN])/\(y::P9).Perm fr:=by
 obtain⟨m,y,e1,e2,e3,e4,e5⟩:=pop_at h0 h1;have e6:(fr.eraseIdx m).length+1=fr.length:=e5.length_eq;refine⟨z / (((fr.eraseIdx m).length:Int)+1),y,fr.eraseIdx m,?_,e5⟩;rw[ot,az (z0 (bM rfl (j6 rfl (j1 _)) (by omega)) rfl rfl e1 e2 e3 (by rw[j1];omega) (by decide)),e4]
 rw[az (bt (b8 rfl (bK (j6 rfl (j1 _)) rfl) (dv (by omega) (by omega)))),PC]
 rfl
noncomputable def me:List Nd->Nat
 |[]=>0
 |x::xs=>x.want+me xs
theorem zp:∀xs:List Nd,cost xs=me xs+xs.length
 |[]=>rfl
 |x::xs=>by simp only[cost,me,PK];rw[zp xs];omega
noncomputable abbrev nM:=Nd×tx
noncomputable def eD(e:nM):D:=.lst [.int e.1.kd,e.1.ct,L e.2]
noncomputable def hd(hs:tx)(v:Int):Int:=hs.getD v.toNat 0
noncomputable def Nd.mp(hs:tx):Nd->Nd
 |.fi ws=>.fi ws
 |.fo ks vs=>.fo ks (vs.map (hd hs))
noncomputable def ent(hs:tx)(x:Nd)(ps:tx):nM:=(x.mp hs,ps)
theorem u7(h1:e ρ=.ok d)(h2:g d ρ=.ok ρ'):aS g e ρ=.ok (.next ρ'):=by
 simp only[aS,h1,R.aH,h2]
theorem Ip{x:Nd}{n:Nat}(h:x.ok n):eT [.int x.kd,.int (x.len:Int)]=.ok (.int (x.want:Int)):=by
 cases x with
 | fi ws=>
  have h:=h.1;show eT [.int 1,.int (ws.length:Int)]=.ok (.int (((ws.length+15) / 16:Nat):Int));rw[kZ (by decide) (ff (by omega) (by omega))]
  congr 2<;>omega
 | fo ks vs=>
  have h:=h.2.1;show eT [.int 2,.int (ks.length:Int)]=.ok (.int (((2*ks.length+15) / 16:Nat):Int));rw[kZ (by decide) (ff (by omega) (by omega))]
  congr 2<;>omega
theorem yn(x:Nd):cz x.ct=.ok (.int (x.len:Int)):=by
 cases x with
 |fi ws=>show R.ok (D.int ((ws.map D.int).length:Int))=_;rw[j1];rfl
 |fo ks vs=>show R.ok (D.int ((ks.map (Sum.inl:Int->Ky)).length:Int))=_;rw[j1];rfl
theorem yi{α:Type}{ks:tx}{vs:List α}(d:α)(hl:ks.length=vs.length)(nd:ks.Nodup):ks.map (λa=>(bP a ks vs).getD d)=vs:=by
 refine abz λi=>?_;rw[xa];by_cases hi:i<ks.length
 ·have h2:vs[i]? =some vs[i]:=DF (by omega)
  rw[DF hi,h2];show some ((bP ks[i] ks vs).getD d)=_;rw[mW nd (DF hi) h2];rfl
 ·rw[abT (by omega),abT (by omega)];rfl
theorem IQ{ks vs hs:tx}{ρ:En}(h5:ρ[5]? =some (.sh (L hs)))(h9:ρ[9]? =some (.sh (.aL (ks.map .inl) (vs.map .int))))(hl:ks.length=vs.length)(Su:ks.length<=32)(nd:ks.Nodup)(hv:∀v∈vs,0<=v/\v<(hs.length:Int)):
  (e1 dw (da (gS (aa 9)) 1 [5,9] (aA 0) [] (jo [aa 0,e2 aO (aa 1) (e2 aO (aa 2) (aa 0))]))) ρ=.ok (.aL (ks.map .inl) ((vs.map (hd hs)).map .int)):=by
 have hf:(ks.map λa=>(a,hd hs ((bP a ks vs).getD 0))).map (·.1)=ks:=by rw[Pv];exact List.map_id' ks
 have YL:(ks.map λa=>(a,hd hs ((bP a ks vs).getD 0))).map (·.2)=vs.map (hd hs):=by
  rw[Pv]
  conv=>rhs;rw[<-yi 0 hl nd,Pv]
  rfl
 have:=tW (by rw[hf];exact nd) (by rw[j1];omega)
 rw[hf,YL]at this;refine cR (jP (ds:=ks.map D.int) ?_ (by rw[j1];omega) ?_) this
 ·unfold gS
  simp only[aa,h9,R.aH];rw[Pv];rfl
 ·rw[Pv]
  refine lY (u:=D.int) (v:=pD∘λa=>(a,hd hs ((bP a ks vs).getD 0))) λa ha=>⟨_,rfl,?_⟩;simp only[frees,MG,aco,h5,h9,sg];obtain⟨i,v,_,X9,ev⟩:=m9 hl nd ha;have TQ:=hv v (GM X9);refine JV rfl (aK rfl (aK rfl rfl (og D.int ev)) (iq ?_));show b0 (hs.map D.int) v=some (.int (hd hs ((bP a ks vs).getD 0)));rw[ev];rw[qX TQ.1 (by rw[j1];exact TQ.2)]
  have:v.toNat<hs.length:=by omega
  simp[hd,this]
theorem EC{nds:List Nd}{hs fr:tx}{D':List (tx)}{s1 s3 s8 s9 Ro PN:Slot}{z:Int}{i:Nat}{x:Nd}(hx:nds[i]? =some x)(aC:x.ok nds.length)(T7:hs.length=nds.length)(T8:hs.Nodup)(hn:nds.length<900)(hw:x.want<=fr.length)(hf:fr.length<1000)(Og:D'.length=i):
  ∃(z':Int) (P9 ps:tx) (OE Pd Rt Ob:Slot),pj [.sh (.lst (nds.map Nd.d)),s1,.sh (.int z),s3,.ol (fr.map .int),.sh (L hs),.sh (.int (i:Int)),.od ((hs.take i).map .inl) ((List.zipWith (ent hs) (nds.take i) D').map eD),s8,s9,Ro,PN]=.ok (.next [.sh (.lst (nds.map Nd.d)),s1,.sh (.int z'),s3,.ol (P9.map .int),.sh (L hs),.sh (.int (i:Int)),.od ((hs.take (i+1)).map .inl) ((List.zipWith (ent hs) (nds.take (i+1)) (D'++[ps])).map eD),OE,Pd,Rt,Ob])/\
   ps.length=x.want/\(ps++P9).Perm fr:=by
 have hi:i<nds.length:=(il.mp hx).1
 have Sx:aO (.lst (nds.map Nd.d)) (.int (i:Int))=.ok x.d:=by
  refine iq ?_;rw[tT (by rw[j1];exact hi)]
  have:=(il.mp hx).2;simp[this]
 generalize Ze:Slot.od ((hs.take i).map .inl) ((List.zipWith (ent hs) (nds.take i) D').map eD)=od;rw[pj];rw[az (u7 (aK rfl rfl Sx) rfl)];rw[az (ρ':=[.sh (.lst (nds.map Nd.d)),s1,.sh (.int z),s3,.ol (fr.map .int),.sh (L hs),.sh (.int (i:Int)),od,.sh (.int x.kd),.sh x.ct,.ol [],PN]) rfl];have Y2:=Nd.nQ aC
 obtain⟨ρ',eL,z1,OG,ps,Ob,rfl,p3,p4⟩:=gO (tg:=aA 11) (λj ρ=>∃(z1:Int) (OG ps:tx) (Ob:Slot),ρ=[.sh (.lst (nds.map Nd.d)),s1,.sh (.int z1),s3,.ol (OG.map .int),.sh (L hs),.sh (.int (i:Int)),od,.sh (.int x.kd),.sh x.ct,.ol (ps.map .int),Ob]/\ps.length=j/\(ps++OG).Perm fr) (ds:=cI 0 (x.want:Int)) 0 (by
  rintro j d hd ρ ⟨z1,OG,ps,Ob,rfl,p3,p4⟩;obtain⟨rfl,hj⟩:=oM hd;have pl:=p4.length_eq;rw[Fk]at pl;obtain⟨z2,y,Qe,e,q1⟩:=Du (fr:=OG) (hs:=ps) (by omega) (by omega) (by omega)
  refine⟨_,rfl,_,e,z2,Qe,ps++[y],_,rfl,by simp[p3],?_⟩
  rw[P3];exact(aah ps q1).trans p4) (ρ:=[.sh (.lst (nds.map Nd.d)),s1,.sh (.int z),s3,.ol (fr.map .int),.sh (L hs),.sh (.int (i:Int)),od,.sh (.int x.kd),.sh x.ct,.ol [],PN]) ⟨z,fr,[],PN,rfl,rfl,.refl _⟩
 rw[ji]at p3;rw[az (dE (ir (bJ rfl (cR rfl (yn x)) (Ip aC)) (gC (by omega) (by omega))) eL)]
 have e3:bH (tV (e2 oEq (aa 8) (eC (.int 2)))) (aS (aA 9) (e1 dw (da (gS (aa 9)) 1 [5,9] (aA 0) [] (jo [aa 0,e2 aO (aa 1) (e2 aO (aa 2) (aa 0))])))) (bu) [.sh (.lst (nds.map Nd.d)),s1,.sh (.int z1),s3,.ol (OG.map .int),.sh (L hs),.sh (.int (i:Int)),od,.sh (.int x.kd),.sh x.ct,.ol (ps.map .int),Ob]=.ok (.next [.sh (.lst (nds.map Nd.d)),s1,.sh (.int z1),s3,.ol (OG.map .int),.sh (L hs),.sh (.int (i:Int)),od,.sh (.int x.kd),.sh (x.mp hs).ct,.ol (ps.map .int),Ob]):=by
  cases x with
  |fi ws=>exact dk (aT (by rw[cG rfl rfl];rfl))
  | fo Us Uk=>
   rw[jk (aT (by rw[cG rfl rfl];rfl)),bt (IQ rfl rfl aC.1 aC.2.1 aC.2.2.2.1 (by rw[T7];exact aC.2.2.1))]
   rfl
 rw[az e3];rw[az (ρ':=[.sh (.lst (nds.map Nd.d)),s1,.sh (.int z1),s3,.ol (OG.map .int),.sh (L hs),.sh (.int (i:Int)),od,.sh (.int x.kd),.sh (x.mp hs).ct,.sh (L ps),Ob]) rfl];have V9:i<hs.length:=by omega
 have tk:hs.take (i+1)=hs.take i++[hs[i]]:=by rw[aaE,DF V9];rfl
 have tn:nds.take (i+1)=nds.take i++[x]:=by rw[aaE,hx];rfl
 have Zj:hs[i]∉hs.take i:=λhm=>by
  have h8:(hs.take i++[hs[i]]).Nodup:=by rw[<-tk];exact T8.sublist (adu ..)
  exact(KB.mp h8).2.2 _ hm hs[i] (by simp) rfl
 refine⟨z1,OG,ps,.sh (.int x.kd),.sh (x.mp hs).ct,.sh (L ps),Ob,?_,by omega,p4⟩
 subst Ze;have g2:(e2 aO (aa 5) (aa 6)) [.sh (.lst (nds.map Nd.d)),s1,.sh (.int z1),s3,.ol (OG.map .int),.sh (L hs),.sh (.int (i:Int)),.od ((hs.take i).map .inl) ((List.zipWith (ent hs) (nds.take i) D').map eD),.sh (.int x.kd),.sh (x.mp hs).ct,.sh (L ps),Ob]=.ok (.int hs[i]):=aK rfl rfl (iq (by rw[tT (by rw[j1];exact V9)];simp))
 have g1:(bA [aa 8,aa 9,aa 10]) [.sh (.lst (nds.map Nd.d)),s1,.sh (.int z1),s3,.ol (OG.map .int),.sh (L hs),.sh (.int (i:Int)),.od ((hs.take i).map .inl) ((List.zipWith (ent hs) (nds.take i) D').map eD),.sh (.int x.kd),.sh (x.mp hs).ct,.sh (L ps),Ob]=.ok (eD (ent hs x ps)):=by
  cases x<;>rfl
 rw[az ?_]
 ·rfl
 ·unfold vS
  rw[g1,R.aH,g2,R.aH];show(if((hs.take i).map (Sum.inl:Int->Ky)).length<1000 then R.ok (Fl.next [_,_,_,_,_,_,_,.od (putL (.inl hs[i]) (eD (ent hs x ps)) ((hs.take i).map .inl) ((List.zipWith (ent hs) (nds.take i) D').map eD)).1 (putL (.inl hs[i]) (eD (ent hs x ps)) ((hs.take i).map .inl) ((List.zipWith (ent hs) (nds.take i) D').map eD)).2,_,_,_,_])else .bad)=_
  rw[DM (by rw[j1,Re];omega),xP Zj,tk,tn,List.zipWith_append (by rw[Re,Og];omega),PC (f:=eD)]
  rfl
theorem J0{nds:List Nd}{i:Nat}{x:Nd}(h:nds[i]? =some x):me (nds.drop i)=x.want+me (nds.drop (i+1)):=by
 obtain⟨hi,e⟩:=il.mp h;rw[aaN hi,e];rfl
theorem HN:(cI a b)=((List.range (b - a).toNat).map λ(k:Nat)=>a+(k:Int)).map .int:=by
 unfold cI;rw[Pv];rfl
structure MI(nds:List Nd)(hs:tx)(D':List (tx))(root many:Int):Prop where
 hl:hs.length=nds.length
 pl:D'.length=nds.length
 nd:(hs++D'.flatten).Nodup
 rg:∀q∈hs++D'.flatten,root<=q/\q<many
 h0:hs[0]? =some root
 pw:∀(i:Nat) x ps,nds[i]? =some x->D'[i]? =some ps->ps.length=x.want
theorem DJ{nds:List Nd}{many z:Int}(ni:NI nds)(h2:nds.length<=101)(hm:32<=many)(Qr:many<500)(hc:(cost nds:Int)<=many - (14+(many+15) / 16) - 1+1):
  ∃(hs:tx) (D':List (tx)),nP [.lst (nds.map Nd.d),.int many,.int z]=.ok (.aL (hs.map .inl) ((List.zipWith (ent hs) nds D').map eD))/\MI nds hs D' (14+(many+15) / 16) many:=by
 generalize hr:14+(many+15) / 16=root;have WN:16<=root/\root<many:=by omega
 have h1:0<nds.length:=by obtain⟨_,_,h⟩:=ni.z;exact(il.mp h).1
 have Ph:=zp nds
 let QR:tx:=(List.range (many - (root+1)).toNat).map λ(k:Nat)=>root+1+(k:Int)
 have VC:QR.length=(many - (root+1)).toNat:=by simp[QR]
 have VZ:∀q∈root::QR,root<=q/\q<many:=λq hq=>by
  rcases KM.mp hq with rfl|hq
  ·omega
  ·obtain⟨k,hk,rfl⟩:=SC.mp hq
   have:=aaH.mp hk;omega
 have Te:(root::QR).Nodup:=by
  refine PP.mpr ⟨λhq=>?_,?_⟩
  ·obtain⟨k,hk,e⟩:=SC.mp hq
   omega
  ·refine List.pairwise_map.mpr (List.Pairwise.imp (λ{a b} Ss e=>Ss (by omega)) List.nodup_range)
 rw[hr]at hc
 obtain⟨ρ',eL,z1,OG,hs,s6,rfl,p3,p4,p5⟩:=gO (tg:=aA 6) (λj ρ=>∃(z1:Int) (OG hs:tx) (s6:Slot),ρ=[.sh (.lst (nds.map Nd.d)),.sh (.int many),.sh (.int z1),.sh (.int root),.ol (OG.map .int),.ol (hs.map .int),s6,.un,.un,.un,.un,.un]/\hs.length=j+1/\(hs++OG).Perm (root::QR)/\hs[0]? =some root) (ds:=cI 1 (nds.length:Int)) 0 (by
  rintro j d hd ρ ⟨z1,OG,hs,s6,rfl,p3,p4,p5⟩;obtain⟨rfl,hj⟩:=oM hd;have pl:=p4.length_eq;rw[Fk,PK]at pl;obtain⟨z2,y,Qe,e,q1⟩:=Cr (fr:=OG) (hs:=hs) (by omega) (by omega) (by omega)
  refine⟨_,rfl,_,e,z2,Qe,hs++[y],_,rfl,by simp[p3],?_,by rw[M1 (by omega)];exact p5⟩
  rw[P3];exact(aah hs q1).trans p4) ⟨z,QR,[root],.un,rfl,rfl,.refl _,rfl⟩
 rw[ji]at p3;have T7:hs.length=nds.length:=by omega
 have pl:=p4.length_eq;rw[Fk,PK]at pl;have RK:=p4.nodup_iff.mpr Te;have Vp:hs.Nodup:=(KB.mp RK).1
 obtain⟨Vr,R',z2,Qe,D',Of,s8,s9,Ro,PN,rfl,q2,q3,q4,q5⟩:=gO (tg:=aA 6) (λj ρ=>∃(z2:Int) (Qe:tx) (D':List (tx)) (s6 s8 s9 Ro PN:Slot),ρ=[.sh (.lst (nds.map Nd.d)),.sh (.int many),.sh (.int z2),.sh (.int root),.ol (Qe.map .int),.sh (L hs),s6,.od ((hs.take j).map .inl) ((List.zipWith (ent hs) (nds.take j) D').map eD),s8,s9,Ro,PN]/\me (nds.drop j)<=Qe.length/\(D'.flatten++Qe).Perm OG/\D'.length=j/\∀(i:Nat) x ps,nds[i]? =some x->D'[i]? =some ps->ps.length=x.want) (ds:=cI 0 (nds.length:Int)) 0 (by
  rintro j d hd ρ ⟨z2,Qe,D',s6,s8,s9,Ro,PN,rfl,q2,q3,q4,q5⟩;obtain⟨rfl,hj⟩:=oM hd;rw[Z8]at q2 q4 ⊢;have T':j<nds.length:=by omega
  have hx:nds[j]? =some nds[j]:=DF T';rw[J0 hx]at q2;have VW:=q3.length_eq;rw[Fk]at VW;obtain⟨z3,T4,ps,OE,Pd,Rt,Ob,e,a1,a2⟩:=EC (fr:=Qe) hx (ni.ok _ (abK _)) T7 Vp (by omega) (by omega) (by omega) q4
  have X7:=a2.length_eq;rw[Fk]at X7;refine⟨_,rfl,_,?_,z3,T4,D'++[ps],.sh (.int (j:Int)),OE,Pd,Rt,Ob,rfl,by omega,?_,by simp[q4],λi x U9 h5 h6=>?_⟩
  ·rw[abl];exact e
  ·rw[aaQ,P3]
   simp only[S6,abc,On];exact(aah _ a2).trans q3
  ·by_cases hi:i<j
   ·rw[M1 (by omega)]at h6
    exact q5 i x U9 h5 h6
   ·rw[ZN (by omega)]at h6
    have h7:=(il.mp h6).1;have:i=j:=by simp at h7;omega
    subst this;rw[q4,ada]at h6;simp at h6;subst h6;rw[hx]at h5;cases h5;exact a1) (ρ:=[.sh (.lst (nds.map Nd.d)),.sh (.int many),.sh (.int z1),.sh (.int root),.ol (OG.map .int),.sh (L hs),s6,.od [] [],.un,.un,.un,.un]) ⟨z1,OG,[],s6,.un,.un,.un,.un,rfl,by rw[acL];omega,by simp,rfl,λi x ps _ h=>by simp at h⟩
 rw[ji,Z8,show((nds.length:Int) - 0).toNat=nds.length by omega]at q2 q4
 rw[ji,Z8,show((nds.length:Int) - 0).toNat=nds.length by omega,SB (IR _),SB (by omega)]at R'
 have pm:((hs++D'.flatten)++Qe).Perm (root::QR):=by rw[P3];exact(aah hs q3).trans p4
 refine⟨hs,D',?_,T7,q4,(KB.mp (pm.nodup_iff.mpr Te)).1,λq hq=>VZ q (pm.mem_iff.mp (JU _ hq)),p5,q5⟩;rw[nP];refine bL ?_;refine(az (bt (d:=.int root) (by rw[<-hr];exact bK rfl (b8 (bK rfl rfl) rfl (by decide))))).trans ?_
 rw[az (sE (by
  have g:(e2 aQ (aa 3) (eC (.int 1))) [.sh (.lst (nds.map Nd.d)),.sh (.int many),.sh (.int z),.sh (.int root),.un,.un,.un,.un,.un,.un,.un,.un]=.ok (.int (root+1)):=bK rfl rfl;refine aK g rfl ?_;show(if _ then _ else _)=_
  rw[DM ⟨gC (by omega) (by omega),gC (by omega) (by omega),by omega⟩,HN]))]
 rw[az (ρ':=[.sh (.lst (nds.map Nd.d)),.sh (.int many),.sh (.int z),.sh (.int root),.ol (QR.map .int),.ol ([root].map .int),.un,.un,.un,.un,.un,.un]) rfl];have Qi:∀(ρ:En),ρ[0]? =some (.sh (.lst (nds.map Nd.d)))->(e1 cz (aa 0)) ρ=.ok (.int (nds.length:Int)):=λρ h=>cR (x:=.lst (nds.map Nd.d)) (by simp only[aa,h]) (by show R.ok (D.int ((nds.map Nd.d).length:Int))=_;rw[j1])
 rw[az (dE (Ka rfl (Qi _ rfl) (by decide) (gC (by omega) (by omega))) eL)]
 rw[az rfl];rw[az (ρ':=[.sh (.lst (nds.map Nd.d)),.sh (.int many),.sh (.int z1),.sh (.int root),.ol (OG.map .int),.sh (L hs),s6,.od [] [],.un,.un,.un,.un]) rfl];rw[az (dE (ir (Qi _ rfl) (gC (by omega) (by omega))) R')]
 exact(az rfl).trans (dP (bI rfl))
noncomputable def nums(hs:tx)(D':List (tx)):tx:=(List.zipWith List.cons hs D').flatten
theorem qm:∀ {hs:tx} {D':List (tx)},hs.length=D'.length->(nums hs D').Perm (hs++D'.flatten)
 |[],[],_=>.refl _
 |[],_::_,h=>by simp at h
 |_::_,[],h=>by simp at h
 | h::hs,ps::D',e=>by
  show((h::ps)++nums hs D').Perm (h::(hs++(ps++D'.flatten)));refine List.Perm.cons _ ((aah ps (qm (by simpa using e))).trans ?_)
  rw[<-P3, <-P3];exact adb _ adi
noncomputable abbrev mD(hs:tx)(nds:List Nd)(D':List (tx)):D:=.aL (hs.map .inl) ((List.zipWith (ent hs) nds D').map eD)
section
variable{nds:List Nd}{hs:tx}{D':List (tx)}{root many:Int}
theorem MI.hn(m:MI nds hs D' root many):hs.Nodup:=(KB.mp m.nd).1
theorem MI.hr(m:MI nds hs D' root many){i:Nat}{h:Int}(e:hs[i]? =some h):root<=h/\h<many:=m.rg h (JU _ (GM e))
theorem MI.pr(m:MI nds hs D' root many){i:Nat}{ps:tx}{p:Int}(e:D'[i]? =some ps)(hp:p∈ps):root<=p/\p<many:=m.rg p (Do _ (abd.mpr ⟨ps,GM e,hp⟩))
theorem MI.nn(m:MI nds hs D' root many):(nums hs D').Nodup:=(qm (by rw[m.hl,m.pl])).nodup_iff.mpr m.nd
theorem MI.all(m:MI nds hs D' root many)(hi:i<nds.length):∃x h ps,nds[i]? =some x/\hs[i]? =some h/\D'[i]? =some ps:=
 ⟨_,_,_,DF hi,DF (by rw[m.hl];exact hi),DF (by rw[m.pl];exact hi)⟩
theorem MI.ix(m:MI nds hs D' root many){i:Nat}{x:Nd}{h:Int}{ps:tx}(e1:nds[i]? =some x)(e2:hs[i]? =some h)(e3:D'[i]? =some ps):aO (mD hs nds D') (.int h)=.ok (eD (ent hs x ps)):=
 og eD (mW m.hn e2 (by rw[aab,e1,e3]))
noncomputable def mk(root:Int)(n:Nat)(S:tx):tx:=(List.range n).map λ(k:Nat)=>if(k:Int)<root\/(k:Int)∈S then 1 else 0
theorem HK{n:Nat}{S:tx}:(mk root n S).length=n:=by simp[mk]
theorem EB{n:Nat}{S:tx}{q:Int}(h0:0<=q):(mk root n S).set q.toNat 1=mk root n (S++[q]):=by
 refine abz λi=>?_;rw[adv];unfold mk;rw[xa,xa,j1,acq];by_cases hi:i<n
 ·rw[abj hi]
  by_cases hq:q.toNat=i
  ·have:q=(i:Int):=by omega
   subst this;simp[hi]
  ·have:¬(i:Int)=q:=by omega
   simp[hq,this]
 ·rw[abT (by simpa using hi)]
  by_cases hq:q.toNat=i
  ·rw[DM hq,Gc (by omega)];rfl
  ·rw[Gc hq];rfl
theorem xv{s0 s1 s3:Slot}{n:Nat}:∀ {qs S:tx} {s4:Slot},(∀q∈qs,0<=q/\q<(n:Int))->∃OB,forL (aA 4) mQ (qs.map .int) [s0,s1,.ol ((mk root n S).map .int),s3,s4]=.ok (.next [s0,s1,.ol ((mk root n (S++qs)).map .int),s3,OB])
 |[],S,s4,_=>⟨s4,by rw[On];rfl⟩
 | q::qs,S,s4,h=>by
  obtain⟨OB,e⟩:=xv λq hq=>h q (Ax _ hq);have hq:=h q AC;refine⟨OB,?_⟩;rw[MG,forL];show(mQ [s0,s1,.ol ((mk root n S).map .int),s3,.sh (.int q)]).bind _=_;rw[mQ,zA rfl rfl rfl (rZ hq.1 (by rw[j1,HK];exact hq.2)), <-acs,EB hq.1]
  rw[P3]at e;exact e
theorem oI(h:ρ[j]? =some (.sh (.aL (hs.map .inl) vs))):gS (aa j) ρ=.ok (hs.map .int):=by
 unfold gS;simp only[aa,h,R.aH];rw[Pv];rfl
theorem Ew(e2:hs[i]? =some h)(e3:D'[i]? =some ps):(List.zipWith List.cons hs D').take (i+1)=(List.zipWith List.cons hs D').take i++[h::ps]:=by
 rw[aaE,aab,e2,e3];rfl
theorem Bm(m:MI nds hs D' root many)(hr:root=14+(many+15) / 16)(hm:32<=many)(Qr:many<500)(ni:NI nds):
  ku [mD hs nds D',.int many]=.ok (L (mk root many.toNat (nums hs D'))):=by
 obtain⟨ρ',eL,s3,s4,rfl⟩:=gO (tg:=aA 3) (λi ρ=>∃(s3 s4:Slot),ρ=[.sh (mD hs nds D'),.sh (.int many),.ol ((mk root many.toNat ((List.zipWith List.cons hs D').take i).flatten).map .int),s3,s4]) 0 (by
  rintro i d hd ρ ⟨s3,s4,rfl⟩;have hi:i<nds.length:=by have:=(il.mp hd).1;rw[j1,m.hl]at this;exact this
  obtain⟨x,h,ps,x1,x2,x3⟩:=m.all hi;rw[xa,x2]at hd;cases hd;have ZA:=m.pw i x ps x1 x3;have Y2:=Nd.nQ (ni.ok x (GM x1));have hb:=m.hr x2
  obtain⟨OB,e⟩:=xv (n:=many.toNat) (qs:=h::ps) (λq hq=>by
   rcases KM.mp hq with rfl|hq
   ·omega
   ·have:=m.pr x3 hq;omega)
  rw[Z8,Ew x2 x3,aaQ];refine⟨_,rfl,_,?_,.sh (.int h),OB,rfl⟩;show oN [.sh (mD hs nds D'),.sh (.int many),.ol ((mk root many.toNat ((List.zipWith List.cons hs D').take i).flatten).map .int),.sh (.int h),s4]=_;rw[oN];refine(dE ?_ e).trans (by simp)
  have g:(e2 aQ (bA [aa 3]) (e2 aO (e2 aO (aa 0) (aa 3)) (eC (.int 2)))) [.sh (mD hs nds D'),.sh (.int many),.ol ((mk root many.toNat ((List.zipWith List.cons hs D').take i).flatten).map .int),.sh (.int h),s4]=.ok (.lst ((h::ps).map .int)):=by
   refine aK (y:=.lst (ps.map .int)) rfl (aK (aK rfl rfl (m.ix x1 x2 x3)) rfl rfl) ?_;rw[G.lS (by simp;omega)];rfl
  show(R.bind _ _)=_;rw[g];rfl) (ρ:=[.sh (mD hs nds D'),.sh (.int many),.ol ((mk root many.toNat []).map .int),.un,.un]) ⟨.un,.un,rfl⟩
 rw[Z8,j1,SB (by rw[aau];omega)]at eL
 rw[ku];refine bL ?_
 rw[az (sE (xs:=(mk root many.toNat []).map .int) (by
  refine jP (ir rfl (gC (by omega) (by omega))) (by rw[ji];omega) ?_
  unfold mk;rw[Pv];unfold cI;rw[show(many - 0).toNat=many.toNat by omega]
  refine lY (u:=λk:Nat=>D.int (0+(k:Int))) (v:=D.int∘λ(k:Nat)=>if(k:Int)<root\/(k:Int)∈[]then 1 else 0) λk hk=>⟨_,rfl,?_⟩
  show(e1 kF (e2 oLt (aa 0) (e2 aQ (eC (.int 14)) (e2 bz (e2 aQ (aa 1) (eC (.int 15))) (eC (.int 16)))))) [.sh (.int (0+(k:Int))),.sh (.int many)]=.ok (.int (if(k:Int)<root\/(k:Int)∈[]then 1 else 0))
  rw[abl];refine cR (ya rfl (bK rfl (b8 (bK rfl rfl) rfl (by decide)))) ?_
  rw[<-hr];by_cases h:(k:Int)<root
  ·rw[DM (.inl h),M0 h];rfl
  ·rw[Gc (by simp[h]),KI h];rfl))]
 show aN _ [.sh (mD hs nds D'),.sh (.int many),.ol ((mk root many.toNat []).map .int),.un,.un]=_;rw[az (dE (oI rfl) eL)];exact(az rfl).trans (dP (bI rfl))
end
noncomputable def cD(ks vs:tx):List (Int×Int):=(cw ks).map λk=>(k,(bP k ks vs).getD 0)
noncomputable def cQ:List (Int×Int)->tx
 |[]=>[]
 |p::ps=>p.1::p.2::cQ ps
theorem tO:∀ps:List (Int×Int),(cQ ps).length=2*ps.length
 |[]=>rfl
 |p::ps=>by simp only[cQ,PK,tO ps];omega
noncomputable def dat:Nd->tx
 |.fi ws=>ws
 |.fo ks vs=>cQ (cD ks vs)
def uz:Nd->Prop
 |.fi ws=>ws.length<=64
 |.fo ks vs=>ks.length=vs.length/\ks.length<=32/\ks.Nodup
theorem IK{x:Nd}{n:Nat}{hs:tx}(h:x.ok n):uz (x.mp hs):=by
 cases x with
 |fi ws=>exact h.1
 |fo ks vs=>exact⟨by rw[j1];exact h.1,h.2.1,h.2.2.2.1⟩
theorem Ad(ks:tx):(cw ks).length=ks.length:=(eI ks).length_eq
theorem ly(ks vs:tx):(cD ks vs).length=ks.length:=by unfold cD;rw[j1,Ad]
theorem xw(h:ρ[j]? =some (.sh (.aL (ks.map .inl) vs)))(Su:ks.length<=32):(e1 oZ (aa j)) ρ=.ok (L (cw ks)):=by
 refine cR (x:=.aL (ks.map .inl) vs) (by simp only[aa,h]) ?_
 show(match jD (ks.map .inl)with|some ns=>if ns.length<64 then R.ok (D.lst ((cw ns).map .int))else .bad|none=>.bad)=_
 rw[Bh];exact DM (by omega)
theorem Ae(hl:ks.length=vs.length)(nd:ks.Nodup):∀ {qs ds:tx} {s3:Slot},(∀q∈qs,q∈ks)->ds.length+2*qs.length<=1000->∃PH,forL (aA 3) md (qs.map .int) [.sh (.int 2),.sh (.aL (ks.map .inl) (vs.map .int)),.sh (L ds),s3]=.ok (.next [.sh (.int 2),.sh (.aL (ks.map .inl) (vs.map .int)),.sh (L (ds++cQ (qs.map λk=>(k,(bP k ks vs).getD 0)))),PH])
 |[],ds,s3,_,_=>⟨s3,by show _=R.ok (Fl.next [_,_,.sh (L (ds++[])),_]);rw[On];rfl⟩
 | q::qs,ds,s3,h,hb=>by
  rw[PK]at hb;obtain⟨i,v,_,_,ev⟩:=m9 hl nd (h q AC);obtain⟨PH,e⟩:=Ae hl nd (ds:=ds++[q,v]) (λq hq=>h q (Ax _ hq)) (by simp;omega)
  refine⟨PH,?_⟩;rw[MG,forL];show(md [.sh (.int 2),.sh (.aL (ks.map .inl) (vs.map .int)),.sh (L ds),.sh (.int q)]).bind _=_
  have g:(bA [aa 3,e2 aO (aa 1) (aa 3)]) [.sh (.int 2),.sh (.aL (ks.map .inl) (vs.map .int)),.sh (L ds),.sh (.int q)]=.ok (.lst [.int q,.int v]):=by
   have g1:(e2 aO (aa 1) (aa 3)) [.sh (.int 2),.sh (.aL (ks.map .inl) (vs.map .int)),.sh (L ds),.sh (.int q)]=.ok (.int v):=aK rfl rfl (og D.int ev);have g0:(aa 3) [.sh (.int 2),.sh (.aL (ks.map .inl) (vs.map .int)),.sh (L ds),.sh (.int q)]=.ok (.int q):=rfl;simp only[bA,eList,g0,g1,R.aH]
  rw[md,bt (aK rfl g (G.lS (by simp;omega)))]
  rw[show ds.map D.int++[.int q,.int v]=(ds++[q,v]).map .int by rw[PC];rfl]
  refine(show _=_ from e).trans ?_
  simp[cQ,ev]
theorem Dr(h:uz x):mZ [.int x.kd,x.ct]=.ok (L (dat x)):=by
 rw[mZ];cases x with
 | fi ws=>
  refine bL (dP ?_);rw[jk (aT (by rw[cG rfl rfl];rfl))]
  exact bI rfl
 | fo ks vs=>
  obtain⟨hl,Su,nd⟩:=h;obtain⟨s3,eL⟩:=Ae hl nd (ds:=[]) (λq hq=>(eI ks).mem_iff.mp hq) (by rw[Ad];simp;omega)
  refine bL ?_;rw[az (dk (aT (by rw[cG rfl rfl];rfl)))]
  rw[az (ρ':=[.sh (.int 2),.sh (.aL (ks.map .inl) (vs.map .int)),.sh (L []),.un]) rfl]
  rw[az (dE (by
   show(R.bind _ _)=_;rw[xw rfl Su];rfl) eL)]
  exact dP (bI rfl)
theorem Ib{α:Type}(xs:List α)(h:0<=a):cut xs (some a) (some (a+16))=(xs.drop a.toNat).take 16:=by
 unfold cut;rw[ig h,ig (by omega)]
 by_cases hl:a.toNat<=xs.length
 ·rw[aaC hl]
  by_cases d6:(a+16).toNat<=xs.length
  ·rw[aaC d6,show(a+16).toNat - a.toNat=16 by omega]
  ·rw[aaM (by omega),SB (by rw[aav];omega),SB (by rw[aav];omega)]
 ·rw[aaM (show xs.length<=(a+16).toNat by omega),aaM (show xs.length<=a.toNat by omega),abH,abO (show xs.length<=a.toNat by omega)];simp
noncomputable def c7(ms:tx)(i:Nat):tx:=(ms.drop (16*i)).take 16
theorem pO(ms:tx)(i:Nat):(c7 ms i).length<=16:=by unfold c7;rw[Re];omega
theorem x8{a b:Ex}{ρ:En}{ms:tx}{k:Int}{i:Nat}(ha:a ρ=.ok (L ms))(hb:b ρ=.ok (.int k))(hk:k=16*(i:Int)):cA a (some b) (some (e2 aQ b (eC (.int 16)))) ρ=.ok (L (c7 ms i)):=by
 have NX:(e2 aQ b (eC (.int 16))) ρ=.ok (.int (k+16)):=bK hb rfl;simp only[cA,ha,R.aH,gR,hb,NX,j0];rw[Ib _ (by omega), <-abC, <-acj,show k.toNat=16*i by omega];rfl
theorem Hk(ha:a ρ=.ok (L ms))(hb:b ρ=.ok (.int (i:Int)))(hi:i<1000):cA a (some (e2 dH (eC (.int 16)) b)) (some (e2 aQ (e2 dH (eC (.int 16)) b) (eC (.int 16)))) ρ=.ok (L (c7 ms i)):=
 x8 ha (f9 rfl hb (by decide) (ff (by omega) (by omega))) rfl
theorem z9:∀(m:Nat) (ms:tx),ms.length<=16*m->(((List.range m).map λi=>pad (c7 ms i)).flatten)=ms++List.replicate (16*m - ms.length) 0
 | 0,ms,h=>by
  have:ms=[]:=acU.mp (by omega)
  subst this;rfl
 | m+1,ms,h=>by
  rw[aaV,MG,Pv,S6]
  have e:((List.range m).map ((λi=>pad (c7 ms i))∘Nat.succ))=(List.range m).map λi=>pad (c7 (ms.drop 16) i):=by
   apply acd;intro i _;show pad (c7 ms (i+1))=_;unfold c7;rw[List.drop_drop,show 16+16*i=16*(i+1) by omega]
  have w0:c7 ms 0=ms.take 16:=by unfold c7;rfl
  rw[e,w0,z9 m (ms.drop 16) (by rw[aav];omega),aav]
  unfold pad;rw[Re];by_cases hl:16<=ms.length
  ·rw[aaC hl,ada,List.replicate_zero,On, <-P3,adj]
   congr 2;omega
  ·rw[aaM (by omega),SB (by omega),abO (by omega),adH,P3,List.replicate_append_replicate]
   congr 2;omega
noncomputable abbrev bF:=List (tx)
noncomputable abbrev FD(fl:bF):D:=.lst (fl.map B)
noncomputable def eA(fl:bF)(as:List (Int×tx)):bF:=as.foldl (λf a=>f.set a.1.toNat a.2) fl
theorem q9:∀(as:List (Int×tx)) (fl:bF),(eA fl as).length=fl.length
 |[],fl=>rfl
 |a::as,fl=>by show(eA (fl.set a.1.toNat a.2) as).length=_;rw[q9 as,S4]
theorem yb(as bs:List (Int×tx))(fl:bF):eA fl (as++bs)=eA (eA fl as) bs:=List.foldl_append ..
theorem pq:∀ {as:List (Int×tx)} {fl:bF},(∀a∈as,a.1.toNat≠q)->(eA fl as)[q]? =fl[q]?
 |[],fl,_=>rfl
 | a::as,fl,h=>by
  show(eA (fl.set a.1.toNat a.2) as)[q]? =_;rw[pq λb hb=>h b (Ax _ hb),df (h a AC)]
theorem xH:∀ {as:List (Int×tx)} {fl:bF},(as.map (·.1)).Nodup->(∀b∈as,0<=b.1/\b.1<(fl.length:Int))->a∈as->(eA fl as)[a.1.toNat]? =some a.2
 |[],_,_,_,h=>nomatch h
 | b::as,fl,nd,rg,h=>by
  have M5:=PP.mp nd;have hb:=rg b AC;show(eA (fl.set b.1.toNat b.2) as)[a.1.toNat]? =_;rcases KM.mp h with rfl|h
  ·rw[pq λc hc z=>?_,Mk (by omega)]
   have Qm:=rg c (Ax _ hc);exact M5.1 (SC.mpr ⟨c,hc,by show c.1=a.1;omega⟩)
  ·exact xH M5.2 (λc hc=>by rw[S4];exact rg c (Ax _ hc)) h
def Pg(b:tx):Prop:=b.length=16/\∀w∈b,0<=w/\w<4294967296
theorem wz(h:xs.length<=16)(h2:∀w∈xs,0<=w/\w<4294967296):Pg (pad xs):=⟨we h,λw hw=>by
 unfold pad at hw;rcases FS.mp hw with hw|hw
 ·exact h2 w hw
 ·rw[List.eq_of_mem_replicate hw];omega⟩
theorem zV(h2:∀w∈xs,0<=w/\w<4294967296):Pg (pad (c7 xs j)):=wz (pO xs j) λw hw=>h2 w (by unfold c7 at hw;exact abh (aaI hw))
theorem Au:∀ {as:List (Int×tx)} {fl:bF},(∀b∈fl,Pg b)->(∀a∈as,Pg a.2)->∀b∈eA fl as,Pg b
 |[],fl,h,_=>h
 |a::as,fl,h,h2=>Au (fl:=fl.set a.1.toNat a.2) (λb hb=>(aaq hb).elim (h b) λe=>by rw[e];exact h2 a AC) λb hb=>h2 b (Ax _ hb)
theorem qB{i:Nat}{k a:Ex}{ρ:En}{y:tx}{j:Int}{fl:bF}(h:a ρ=.ok (B y))(hk:k ρ=.ok (.int j))(hi:ρ[i]? =some (.ol (fl.map B)))(h0:0<=j)(h1:j<fl.length):iY i k a ρ=.ok (.next (ρ.set i (.ol ((fl.set j.toNat y).map B)))):=by
 rw[zA h hk hi (rZ h0 (by rw[j1];exact h1)), <-acs]
theorem Fg{s0 s1 s5 s6 s7 s8 s9:Slot}{fl:bF}{ms:tx}{t:Nat}(ht:14+t<fl.length):nN [s0,s1,.ol (fl.map B),.sh (L ms),.sh (.int (0+(t:Int)*16)),s5,s6,s7,s8,s9]=.ok (.next [s0,s1,.ol ((fl.set (14+t) (pad (c7 ms t))).map B),.sh (L ms),.sh (.int (0+(t:Int)*16)),s5,s6,s7,s8,s9]):=by
 rw[nN];rw[qB (c6 (x8 rfl rfl (by omega)) (qU (pO ms t))) (bK rfl (b8 rfl rfl (by decide))) rfl (by omega) (by omega)]
 rw[show(14+(0+(t:Int)*16) / 16).toNat=14+t by omega]
 rfl
theorem qV{xs:tx}{j:Nat}{p:Int}(hj:xs[j]? =some p):b0 (xs.map D.int) (j:Int)=some (.int p):=by
 obtain⟨hl,e⟩:=il.mp hj;rw[tT (by rw[j1];exact hl)]
 simp[e]
theorem Fd{s0 s1 s3 s5 s6 s7:Slot}{fl:bF}{ps ds:tx}{j:Nat}{p:Int}(hj:ps[j]? =some p)(YS:j<1000)(h0:0<=p)(h1:p<fl.length):pe [s0,s1,.ol (fl.map B),s3,.sh (.int (j:Int)),s5,s6,s7,.sh (L ps),.sh (L ds)]=.ok (.next [s0,s1,.ol ((fl.set p.toNat (pad (c7 ds j))).map B),s3,.sh (.int (j:Int)),s5,s6,s7,.sh (L ps),.sh (L ds)]):=by
 rw[pe];rw[qB (c6 (Hk rfl rfl YS) (qU (pO ds j))) (aK rfl rfl (iq (qV hj))) rfl h0 h1];rfl
noncomputable def gY(e:nM):List (Int×tx):=e.2.mapIdx λj p=>(p,pad (c7 (dat e.1) j))
noncomputable def asg(h:Int)(e:nM):List (Int×tx):=(h,pad ([e.1.kd,(e.1.len:Int)]++e.2))::gY e
section
variable{nds:List Nd}{hs:tx}{D':List (tx)}{root many:Int}
theorem Gg(m:MI nds hs D' root many)(ni:NI nds){s1 s4 s6 s7 s8 s9:Slot}{fl:bF}{ms:tx}{i:Nat}{x:Nd}{h:Int}{ps:tx}(x1:nds[i]? =some x)(x2:hs[i]? =some h)(x3:D'[i]? =some ps)(hr:0<=root)(VC:(fl.length:Int)=many):
  ∃(OB Of N9 OE Pd:Slot),nA [.sh (mD hs nds D'),s1,.ol (fl.map B),.sh (L ms),s4,.sh (.int h),s6,s7,s8,s9]=.ok (.next [.sh (mD hs nds D'),s1,.ol ((eA fl (asg h (ent hs x ps))).map B),.sh (L ms),OB,.sh (.int h),Of,N9,OE,Pd]):=by
 have hx:=ni.ok x (GM x1);have h4:ps.length<=4:=by rw[m.pw i x ps x1 x3];exact Nd.nQ hx
 have ZS:=m.hr x2;generalize hy:x.mp hs=y;have Yd:uz y:=by rw[<-hy];exact IK hx
 have Sx:=m.ix x1 x2 x3;unfold ent at Sx ⊢;rw[hy]at Sx ⊢;rw[nA];rw[az (u7 (aK rfl rfl Sx) rfl)];rw[az (bt (bJ rfl rfl (Dr Yd)))];generalize QS:dat y=ds;show ∃(OB Of N9 OE Pd:Slot),aN _ [.sh (mD hs nds D'),s1,.ol (fl.map B),.sh (L ms),s4,.sh (.int h),.sh (.int y.kd),.sh y.ct,.sh (L ps),.sh (L ds)]=_
 have hb:(e2 aQ (bA [aa 6,e1 cz (aa 7)]) (aa 8)) [.sh (mD hs nds D'),s1,.ol (fl.map B),.sh (L ms),s4,.sh (.int h),.sh (.int y.kd),.sh y.ct,.sh (L ps),.sh (L ds)]=.ok (L ([y.kd,(y.len:Int)]++ps)):=by
  have g1:(e1 cz (aa 7)) [.sh (mD hs nds D'),s1,.ol (fl.map B),.sh (L ms),s4,.sh (.int h),.sh (.int y.kd),.sh y.ct,.sh (L ps),.sh (L ds)]=.ok (.int (y.len:Int)):=cR rfl (yn y);have g0:(aa 6) [.sh (mD hs nds D'),s1,.ol (fl.map B),.sh (L ms),s4,.sh (.int h),.sh (.int y.kd),.sh y.ct,.sh (L ps),.sh (L ds)]=.ok (.int y.kd):=rfl;refine aK (x:=.lst [.int y.kd,.int (y.len:Int)]) (by simp only[bA,eList,g0,g1,R.aH]) rfl ?_
  rw[G.lS (by simp;omega),L,PC]
  rfl
 rw[az (qB (c6 hb (qU (by simp;omega))) rfl rfl (by omega) (by omega))]
 have Xh:eA fl (asg h (y,ps))=eA (fl.set h.toNat (pad ([y.kd,(y.len:Int)]++ps))) (gY (y,ps)):=rfl;rw[Xh];generalize VF:fl.set h.toNat (pad ([y.kd,(y.len:Int)]++ps))=OM;have cg:(OM.length:Int)=many:=by rw[<-VF,S4];exact VC
 show ∃(OB Of N9 OE Pd:Slot),aN _ [.sh (mD hs nds D'),s1,.ol (OM.map B),.sh (L ms),s4,.sh (.int h),.sh (.int y.kd),.sh y.ct,.sh (L ps),.sh (L ds)]=_
 obtain⟨ρ',eL,OB,rfl⟩:=gO (tg:=aA 4) (λj ρ=>∃(OB:Slot),ρ=[.sh (mD hs nds D'),s1,.ol ((eA OM ((gY (y,ps)).take j)).map B),.sh (L ms),OB,.sh (.int h),.sh (.int y.kd),.sh y.ct,.sh (L ps),.sh (L ds)]) (ds:=cI 0 (ps.length:Int)) 0 (by
  rintro j d hd ρ ⟨OB,rfl⟩;obtain⟨rfl,hj⟩:=oM hd;have T':j<ps.length:=by omega
  have W2:ps[j]? =some ps[j]:=DF T';have Zu:=m.pr x3 (abK T')
  have tk:(gY (y,ps)).take (0+j+1)=(gY (y,ps)).take (0+j)++[(ps[j],pad (c7 ds j))]:=by
   rw[Z8,aaE,gY,abW,W2, <-QS];rfl
  rw[tk,yb];refine⟨_,rfl,_,?_,.sh (.int (j:Int)),rfl⟩;rw[abl];exact Fd W2 (by omega) (by omega) (by rw[q9];omega)) (ρ:=[.sh (mD hs nds D'),s1,.ol (OM.map B),.sh (L ms),s4,.sh (.int h),.sh (.int y.kd),.sh y.ct,.sh (L ps),.sh (L ds)]) ⟨s4,rfl⟩
 rw[Z8,ji,SB (by rw[gY,List.length_mapIdx];show ps.length<=_;omega)]at eL
 refine⟨OB,.sh (.int y.kd),.sh y.ct,.sh (L ps),.sh (L ds),?_⟩;rw[az (dE (ir (cR rfl (by show R.ok (D.int ((ps.map D.int).length:Int))=_;rw[j1])) (gC (by omega) (by omega))) eL)]
 rfl
structure FI(nds:List Nd)(hs:tx)(D':List (tx))(root many:Int)(fl:bF):Prop where
 len:(fl.length:Int)=many
 pg:∀b∈fl,Pg b
 z:fl[0]? =some (pad [])
 mp:∀t:Nat,14+(t:Int)<root->fl[14+t]? =some (pad (c7 (mk root many.toNat (nums hs D')) t))
 hd:∀(i:Nat) x h ps,nds[i]? =some x->hs[i]? =some h->D'[i]? =some ps->fl[h.toNat]? =some (pad ([x.kd,(x.len:Int)]++ps))/\∀(j:Nat) p,ps[j]? =some p->fl[p.toNat]? =some (pad (c7 (dat (x.mp hs)) j))
theorem D4(x1:nds[i]? =some x)(x2:hs[i]? =some h)(x3:D'[i]? =some ps):(List.zipWith asg hs (List.zipWith (ent hs) nds D')).take (i+1)=(List.zipWith asg hs (List.zipWith (ent hs) nds D')).take i++[asg h (ent hs x ps)]:=by
 rw[aaE,aab,aab,x1,x2,x3];rfl
theorem Eo(h:Int)(e:nM):(asg h e).map (·.1)=h::e.2:=by
 show h::(gY e).map (·.1)=_
 congr 1;refine abz λi=>?_;rw[gY,xa,abW];cases e.2[i]? <;>rfl
theorem yH:∀ {nds:List Nd} {Qs:tx} {D':List (tx)},Qs.length=nds.length->D'.length=nds.length->((List.zipWith asg Qs (List.zipWith (ent hs) nds D')).flatten).map (·.1)=nums Qs D'
 |[],[],[],_,_=>rfl
 | x::nds,h::Qs,ps::D',e1,e2=>by
  simp only[aao,S6,PC,nums];rw[Eo,yH (by simpa using e1) (by simpa using e2)];rfl
 |[],_::_,_,h,_=>by simp at h
 |[],[],_::_,_,h=>by simp at h
 |_::_,[],_,h,_=>by simp at h
 |_::_,_::_,[],_,h=>by simp at h
theorem tD(x:Nd):(x.mp hs).kd=x.kd:=by cases x<;>rfl
theorem AA(x:Nd):(x.mp hs).len=x.len:=by cases x<;>rfl
theorem zJ:∀ {ps:List (Int×Int)},w∈cQ ps->∃p∈ps,w=p.1\/w=p.2
 |[],h=>nomatch h
 | p::ps,h=>by
  simp only[cQ,KM]at h;rcases h with h|h|h
  ·exact⟨p,AC,.inl h⟩
  ·exact⟨p,AC,.inr h⟩
  ·obtain⟨q,hq,e⟩:=zJ h;exact⟨q,Ax _ hq,e⟩
theorem jr(m:MI nds hs D' root many)(h0:0<=v)(h1:v<(nds.length:Int)):hs[v.toNat]? =some (hd hs v):=by
 have:v.toNat<hs.length:=by rw[m.hl];omega
 rw[hd,DF this,Z5,DF this];rfl
theorem Ku{ks vs:tx}(hl:ks.length=vs.length)(nd:ks.Nodup){p:Int×Int}(h:p∈cD ks vs):p.1∈ks/\p.2∈vs/\bP p.1 ks vs=some p.2:=by
 obtain⟨k,hk,rfl⟩:=SC.mp h;have hk:=(eI ks).mem_iff.mp hk;obtain⟨i,v,_,hv,ev⟩:=m9 hl nd hk;refine⟨hk,?_,?_⟩
 ·show(bP k ks vs).getD 0∈vs;rw[ev];exact GM hv
 ·show bP k ks vs=some ((bP k ks vs).getD 0);rw[ev];rfl
theorem LP(m:MI nds hs D' root many)(hr:0<=root)(hm:many<500){x:Nd}(h:x.ok nds.length):∀w∈dat (x.mp hs),0<=w/\w<4294967296:=by
 cases x with
 |fi ws=>exact h.2
 | fo ks vs=>
  intro w hw;obtain⟨p,hp,e⟩:=zJ hw;obtain⟨q1,q2,_⟩:=Ku (by rw[j1];exact h.1) h.2.2.2.1 hp
  rcases e with rfl|rfl
  ·have:=h.2.2.2.2 _ q1;omega
  ·obtain⟨v,hv,e⟩:=SC.mp q2
   have TQ:=h.2.2.1 v hv;have:=m.hr (jr m TQ.1 TQ.2);omega
theorem De(m:MI nds hs D' root many)(ni:NI nds)(hr:root=14+(many+15) / 16){bs:bF}(hm:32<=many)(Qr:many<500)(hb:(bs.length:Int)=many)(V2:∀b∈bs,Pg b):∃fl,lE [mD hs nds D',FD bs]=.ok (FD fl)/\FI nds hs D' root many fl/\∀q:Nat,q≠0->¬(14<=q/\(q:Int)<root)->(q:Int)∉nums hs D'->fl[q]? =bs[q]? :=by
 have em:=Bm m hr hm Qr ni;generalize Wm:mk root many.toNat (nums hs D')=ms at em
 have Xs:∀w∈ms,0<=w/\w<4294967296:=λw hw=>by
  rw[<-Wm]at hw;obtain⟨k,_,rfl⟩:=SC.mp hw;split<;>omega
 generalize ZD:(many.toNat+15) / 16=mm;have OU:(14+mm:Int)=root:=by omega
 have R4:14+(mm:Int)<many:=by omega
 let SG:bF:=bs.set 0 (pad [])
 have TZ:(SG.length:Int)=many:=by show((bs.set 0 (pad [])).length:Int)=many;rw[S4];exact hb
 have Wt:iy 0 many 16=(List.range mm).map λ(k:Nat)=>D.int (0+(k:Int)*16):=by
  unfold iy
  have:(Builtin.Range.rangeSize 0 many 16).toNat=mm:=by
   unfold Builtin.Range.rangeSize;rw[DM (by decide),DM (by omega)];omega
  rw[this]
 obtain ⟨ρ',eL,OM,s4,rfl,q1,q2,q3,q4,q5⟩:=gO (tg:=aA 4) (λj ρ=>∃(OM:bF) (s4:Slot),ρ=[.sh (mD hs nds D'),.sh (FD bs),.ol (OM.map B),.sh (L ms),s4,.un,.un,.un,.un,.un]/\(OM.length:Int)=many/\(∀t,t<j->OM[14+t]? =some (pad (c7 ms t)))/\(∀b∈OM,Pg b)/\OM[0]? =some (pad [])/\∀q:Nat,q≠0->¬(14<=q/\q<14+j)->OM[q]? =bs[q]?) (ds:=iy 0 many 16) 0 (by
  rintro j d hd ρ ⟨OM,s4,rfl,q1,q2,q3,q4,q5⟩;rw[Wt,xa]at hd;cases e:(List.range mm)[j]? with
  |none=>rw[e]at hd;cases hd
  | some k=>
   rw[e]at hd;obtain⟨Nl,hk⟩:=il.mp e;simp at hk Nl;subst hk;cases hd;refine⟨_,rfl,_,Fg (by omega),OM.set (14+j) (pad (c7 ms j)),_,rfl,by rw[S4];exact q1,λt ht=>?_,λb hb=>?_,by rw[df (by omega)];exact q4,λq h0 hq=>by rw[df (by omega)];exact q5 q h0 (by omega)⟩
   ·by_cases htj:t=j
    ·subst htj
     rw[Mk (by omega)]
    ·rw[df (by omega)]
     exact q2 t (by omega)
   ·exact(aaq hb).elim (q3 b) λe=>by rw[e];exact zV Xs) ⟨SG,.un,rfl,TZ,λt ht=>absurd ht (by omega),(λb hb=>(aaq hb).elim (V2 b) λe=>by rw[e];exact wz (by simp) λw hw=>nomatch hw),Mk (by omega),λq h0 _=>df (by omega)⟩
 have Yo:(iy 0 many 16).length=mm:=by rw[Wt];simp
 rw[Yo,Z8]at q2 q5
 obtain⟨Vr,R',OB,s5,s6,s7,s8,s9,rfl⟩:=gO (tg:=aA 5) (λi ρ=>∃(s4 s5 s6 s7 s8 s9:Slot),ρ=[.sh (mD hs nds D'),.sh (FD bs),.ol ((eA OM ((List.zipWith asg hs (List.zipWith (ent hs) nds D')).take i).flatten).map B),.sh (L ms),s4,s5,s6,s7,s8,s9]) 0 (by
  rintro i d hd ρ ⟨s4,s5,s6,s7,s8,s9,rfl⟩;have hi:i<nds.length:=by have:=(il.mp hd).1;rw[j1,m.hl]at this;exact this
  obtain⟨x,h,ps,x1,x2,x3⟩:=m.all hi;rw[xa,x2]at hd;cases hd;rw[Z8,D4 x1 x2 x3,aaQ,yb];obtain⟨OB,Of,N9,OE,Pd,e⟩:=Gg m ni (fl:=eA OM ((List.zipWith asg hs (List.zipWith (ent hs) nds D')).take i).flatten) x1 x2 x3 (by omega) (by rw[q9];exact q1)
  refine⟨_,rfl,_,e.trans ?_,OB,.sh (.int h),Of,N9,OE,Pd,rfl⟩;rw[S6,abc,On]) (ρ:=[.sh (mD hs nds D'),.sh (FD bs),.ol (OM.map B),.sh (L ms),s4,.un,.un,.un,.un,.un]) ⟨s4,.un,.un,.un,.un,.un,rfl⟩
 rw[Z8,j1,SB (by rw[aau];omega)]at R'
 generalize has:(List.zipWith asg hs (List.zipWith (ent hs) nds D')).flatten=as at R';have Ru:as.map (·.1)=nums hs D':=by rw[<-has];exact yH m.hl m.pl
 have Sl:=λa ha=>m.rg _ ((qm (by rw[m.hl,m.pl])).mem_iff.mp (by rw[<-Ru];exact SC.mpr ⟨a,ha,rfl⟩))
 have OI:∀ {i:Nat} {x h ps},nds[i]? =some x->hs[i]? =some h->D'[i]? =some ps->∀a∈asg h (ent hs x ps),(eA OM as)[a.1.toNat]? =some a.2:=λ{i x h ps} x1 x2 x3 a ha=>by
  refine xH (by rw[Ru];exact m.nn) (λb hb=>by have:=Sl b hb;omega) ?_
  rw[<-has];refine abd.mpr ⟨_,GM (i:=i) ?_,ha⟩;rw[aab,aab,x1,x2,x3]
 refine⟨eA OM as,?_,⟨by rw[q9];exact q1,?_,?_,λt ht=>?_,λi x h ps x1 x2 x3=>⟨?_,λj p hp=>?_⟩⟩,λq h0 hq hn=>?_⟩
 ·rw[lE]
  refine bL ?_;rw[az rfl];refine(az (qB (c6 (x:=L []) rfl (qU (by simp))) rfl rfl (by omega) (by omega))).trans ?_
  have Qi:∀(ρ:En),ρ[2]? =some (.ol (SG.map B))->d5 2 ρ=.ok (.int many):=λρ h=>by
   rw[zj h,j1,TZ]
  rw[az (bt (bJ rfl (Qi _ rfl) em))];show aN _ [.sh (mD hs nds D'),.sh (FD bs),.ol (SG.map B),.sh (L ms),.un,.un,.un,.un,.un,.un]=_
  rw[az (dE (by
   unfold wA;rw[show(eC (.int 0)) [.sh (mD hs nds D'),.sh (FD bs),.ol (SG.map B),.sh (L ms),.un,.un,.un,.un,.un,.un]=.ok (.int 0)from rfl,R.aH,Qi _ rfl,R.aH]
   show(if(inR 0&&inR many)=true/\(0:Int)<16/\(16:Int)<1000 then R.ok (iy 0 many 16)else .bad)=_
   rw[DM ⟨by rw[gC (i:=many) (by omega) (by omega)];rfl,by decide,by decide⟩]) eL)]
  rw[az (dE (oI rfl) R')];exact(az rfl).trans (dP (bI rfl))
 ·refine Au q3 λa ha=>?_
  rw[<-has]at ha;obtain⟨l,hl,ha⟩:=abd.mp ha;obtain⟨i,hi⟩:=Z6 hl;have Ym:i<nds.length:=by have:=(il.mp hi).1;rw[aau,m.hl]at this;omega
  obtain⟨x,h,ps,x1,x2,x3⟩:=m.all Ym;rw[aab,aab,x1,x2,x3]at hi;cases hi;have hx:=ni.ok x (GM x1);have hw:=Nd.nQ hx;have Og:=m.pw i x ps x1 x3;rcases KM.mp ha with rfl|ha
  ·refine wz (by show(_::_::ps).length<=16;simp;omega) λw hw=>?_
   rcases KM.mp hw with rfl|hw
   ·show 0<=(x.mp hs).kd/\(x.mp hs).kd<_
    cases x
    ·exact⟨show(0:Int)<=1 by decide,show(1:Int)<4294967296 by decide⟩
    ·exact⟨show(0:Int)<=2 by decide,show(2:Int)<4294967296 by decide⟩
   ·rcases KM.mp hw with rfl|hw
    ·show 0<=((x.mp hs).len:Int)/\((x.mp hs).len:Int)<_
     have:x.len<=64:=by cases x with|fi ws=>exact hx.1|fo ks vs=>have:=hx.2.1;show ks.length<=64;omega
     rw[AA];omega
    ·have:=m.pr x3 hw;omega
  ·obtain⟨j,hj,e⟩:=List.mem_iff_getElem.mp ha
   rw[<-e];simp only[gY,List.getElem_mapIdx];exact zV (LP m (by omega) Qr hx)
 ·rw[pq λa ha=>by have:=Sl a ha;omega];exact q4
 ·rw[pq λa ha=>by have:=Sl a ha;omega,Wm];exact q2 t (by omega)
 ·have:=OI x1 x2 x3 _ AC
  rw[show(ent hs x ps).1=x.mp hs from rfl,tD,AA]at this
  exact this
 ·refine OI x1 x2 x3 (p,pad (c7 (dat (x.mp hs)) j)) (Ax _ (GM (i:=j) ?_))
  rw[gY,abW];show(ps[j]?).map _=_;rw[hp];rfl
 ·rw[pq λa ha e=>hn ?_]
  ·exact q5 q h0 (by omega)
  ·have h1:=Sl a ha
   have h2:a.1∈nums hs D':=by rw[<-Ru];exact SC.mpr ⟨a,ha,rfl⟩
   rw[show(q:Int)=a.1 by omega];exact h2
end
theorem yZ(h0:0<=q)(h:fl[q.toNat]? =some b):aO (FD fl) (.int q)=.ok (B b):=by
 obtain⟨hl,e⟩:=il.mp h;refine iq ?_;rw[qX h0 (by rw[j1];omega)]
 simp[e]
noncomputable def nc:Nd->Nat
 |.fi ws=>ws.length
 |.fo ks _=>2*ks.length
theorem uv(x:Nd):(dat (x.mp hs)).length=nc x:=by
 cases x with
 |fi ws=>rfl
 |fo ks vs=>show(cQ (cD ks _)).length=_;rw[tO,ly];rfl
theorem AE(x:Nd):x.want=(nc x+15) / 16:=by cases x<;>rfl
theorem C3(h:x.ok n):nc x<=64:=by
 cases x with
 |fi ws=>exact h.1
 |fo ks vs=>have:=h.2.1;show 2*ks.length<=64;omega
theorem Ia{α:Type}(xs:List α)(h:a<=b)(h2:b<=xs.length):cut xs (some (a:Int)) (some (b:Int))=(xs.drop a).take (b - a):=by
 unfold cut;rw[ig (by omega),ig (by omega)]
 simp only[aaW];rw[aaC h2,aaC (S3 h h2)]
theorem qW{xs:List D}{a b:Nat}(h0:0<a)(h:a<=b)(h2:b<=xs.length):j0 (some (a:Int)) (some (b:Int)) (.tup xs)=.ok (.tup ((xs.drop a).take (b - a))):=by
 show(if _ then _ else _)=_
 rw[Gc (λz=>?_),Ia _ h h2];have:=z.1;rw[ig (by omega)]at this
 omega
theorem ED{c:Nat}(h:c<1000):mh [.int (c:Int)]=.ok (.int (((c+15) / 16:Nat):Int)):=by
 rw[mh];refine bL (bI ((b8 (gG (bK rfl rfl) rfl) rfl (by decide)).trans ?_))
 congr 2;omega
theorem L8(h:x.ok n):o8 [.int x.kd,.int (x.len:Int)]=.ok (.int (nc x:Int)):=by
 rw[o8];refine bL (bI ?_);cases x with
 |fi ws=>rw[EY (aT (by rw[cG rfl rfl];rfl))];rfl
 | fo ks vs=>
  have:=h.2.1;rw[Fx (aT (by rw[cG rfl rfl];rfl)),f9 rfl rfl (by decide) (ff (by show _<((ks.length:Nat):Int);omega) (by show((ks.length:Nat):Int)<_;omega))];rfl
theorem oz{a b:Ex}{ρ:En}{xs:tx}{v:Nat}(ha:a ρ=.ok (L xs))(hb:b ρ=.ok (.int (v:Int))):cA a none (some b) ρ=.ok (L (xs.take v)):=by
 rw[ET ha hb (by omega)];simp[L,acj]
theorem zC:∀ {ps:tx} {bs:bF} {acc:tx} {s3:Slot},(∀(j:Nat) (p:Int),ps[j]? =some p->0<=p/\∃b:tx,bs[j]? =some b/\fl[p.toNat]? =some b/\b.length=16)->ps.length=bs.length->acc.length+16*ps.length<=1000->∃PH,forL (aA 3) kJ (ps.map .int) [.sh (FD fl),s1,.ol (acc.map .int),s3]=.ok (.next [.sh (FD fl),s1,.ol ((acc++bs.flatten).map .int),PH])
 |[],[],acc,s3,_,_,_=>⟨s3,by rw[abc,On];rfl⟩
 |[],_::_,_,_,_,h,_=>by simp at h
 |_::_,[],_,_,_,h,_=>by simp at h
 | p::ps,b::bs,acc,s3,h,hl,hb=>by
  rw[PK]at hb;obtain⟨h0,b',R8,NX,YD⟩:=h 0 p rfl;simp at R8;subst R8;obtain⟨PH,e⟩:=zC (acc:=acc++b) (λj q hq=>h (j+1) q (by simpa using hq)) (by simpa using hl) (by rw[Fk];omega)
  refine⟨PH,?_⟩;rw[MG,forL];show(kJ [.sh (FD fl),s1,.ol (acc.map .int),.sh (.int p)]).bind _=_;have g:(e1 iQ (e2 aO (aa 0) (aa 3))) [.sh (FD fl),s1,.ol (acc.map .int),.sh (.int p)]=.ok (.lst (b.map .int)):=cR (aK rfl rfl (yZ h0 NX)) rfl
  have st:kJ [.sh (FD fl),s1,.ol (acc.map .int),.sh (.int p)]=.ok (.next [.sh (FD fl),s1,.ol ((acc++b).map .int),.sh (.int p)]):=by
   rw[kJ,ma,g];show(if(acc.map D.int).length+(b.map D.int).length<=dI then R.ok (Fl.next [_,_,Slot.ol (acc.map .int++b.map .int),_])else .bad)=_
   rw[DM (by rw[j1,j1,YD];unfold dI;omega),PC]
  rw[st,S6, <-P3];exact e
theorem wj:∀(ps:List (Int×Int)) (k:Nat),(cQ ps)[2*k]? =(ps[k]?).map (·.1)/\(cQ ps)[2*k+1]? =(ps[k]?).map (·.2)
 |[],k=>by simp[cQ]
 |p::ps,0=>⟨rfl,rfl⟩
 | p::ps,k+1=>by
  have:=wj ps k;rw[show 2*(k+1)=2*k+1+1 by omega]
  simpa[cQ] using this
theorem FL:∀n,n<33->iS (2*n) (some 0) none (some 2)=(List.range n).map (2* ·):=by decide+kernel
theorem JY:∀n,n<33->iS (2*n) (some 1) none (some 2)=(List.range n).map (2* · +1):=by decide+kernel
theorem ug{α:Type}:∀(l:List α) (g:Nat->Option α),(∀k,k<l.length->g k=l[k]?)->(List.range l.length).filterMap g=l
 |[],_,_=>rfl
 | a::l,g,h=>by
  rw[PK,aaV,XU,h 0 (by simp),abm]
  show a::_=_;rw[ug l (g∘Nat.succ) λk hk=>by simpa using h (k+1) (by simpa using hk)]
theorem Bb:∀ps:List (Int×Int),je ((ps.map (·.1)).map .int) ((ps.map (·.2)).map .int)=ps.map pD
 |[]=>rfl
 |p::ps=>by rw[MG,MG,MG,MG,je,Bb ps];rfl
theorem IS(h:ρ[2]? =some (.sh (L (cQ ps))))(hn:ps.length<=32):(e2 k7 (iE (aa 2) (some (eC (.int 0))) none (some (eC (.int 2)))) (iE (aa 2) (some (eC (.int 1))) none (some (eC (.int 2))))) ρ=.ok (.lst (ps.map pD)):=by
 have hl:((cQ ps).map D.int).length=2*ps.length:=by rw[j1,tO]
 have hv:aa 2 ρ=.ok (L (cQ ps)):=by simp only[aa,h]
 have g0:(iE (aa 2) (some (eC (.int 0))) none (some (eC (.int 2)))) ρ=.ok (.lst ((ps.map (·.1)).map .int)):=by
  unfold iE;rw[hv,R.aH];show(if(2:Int)=0 then R.bad else R.ok (D.lst (gM (iS ((cQ ps).map D.int).length (some 0) none (some 2)) ((cQ ps).map .int))))=_
  rw[Gc (by decide),hl,FL _ (by omega)]
  congr 2;unfold gM;rw[abm];have:=ug ((ps.map (·.1)).map D.int) (λk=>((cQ ps).map D.int)[2*k]?) (λk hk=>by rw[xa,(wj ps k).1,xa,xa])
  rw[j1,j1]at this;exact this
 have g1:(iE (aa 2) (some (eC (.int 1))) none (some (eC (.int 2)))) ρ=.ok (.lst ((ps.map (·.2)).map .int)):=by
  unfold iE;rw[hv,R.aH];show(if(2:Int)=0 then R.bad else R.ok (D.lst (gM (iS ((cQ ps).map D.int).length (some 1) none (some 2)) ((cQ ps).map .int))))=_
  rw[Gc (by decide),hl,JY _ (by omega)]
  congr 2;unfold gM;rw[abm];have:=ug ((ps.map (·.2)).map D.int) (λk=>((cQ ps).map D.int)[2*k+1]?) (λk hk=>by rw[xa,(wj ps k).2,xa,xa])
  rw[j1,j1]at this;exact this
 refine aK g0 g1 ?_;show(if((ps.map (·.1)).map D.int).length=((ps.map (·.2)).map D.int).length then R.ok (D.lst (je _ _))else .bad)=_
 rw[DM (by simp),Bb]
noncomputable def ij(hs:tx):Nd->List (Int×Int)
 |.fi _=>[]
 |.fo ks vs=>cD ks (vs.map (hd hs))
noncomputable def gi(hs:tx):Nd->T
 |.fi ws=>.tu [.d (S "file"),.l ((ws.map D.int).map .d)]
 |.fo ks vs=>.tu [.d (S "folder"),.m ((cw ks).map .inl) ((((cD ks (vs.map (hd hs))).map (·.2)).map D.int).map .d)]
structure At(hs:tx)(n:Nat)(fl:bF)(x:Nd)(h:Int)(ps:tx):Prop where
 ok:x.ok n
 h0:0<=h
 pl:ps.length=x.want
 hb:fl[h.toNat]? =some (pad ([x.kd,(x.len:Int)]++ps))
 pb:∀(j:Nat) p,ps[j]? =some p->0<=p/\fl[p.toNat]? =some (pad (c7 (dat (x.mp hs)) j))
section
variable{hs:tx}{n:Nat}{fl:bF}{x:Nd}{h:Int}{ps:tx}
theorem At.p4(a:At hs n fl x h ps):ps.length<=4:=by rw[a.pl];exact Nd.nQ a.ok
theorem At.ix(a:At hs n fl x h ps):aO (FD fl) (.int h)=.ok (B (pad ([x.kd,(x.len:Int)]++ps))):=yZ a.h0 a.hb
theorem At.kind(a:At hs n fl x h ps):fP [FD fl,.int h]=.ok (.int x.kd):=by
 rw[fP];exact bL (bI (aK (aK rfl rfl a.ix) rfl (rT (qV rfl))))
theorem At.size(a:At hs n fl x h ps):i3 [FD fl,.int h]=.ok (.int (x.len:Int)):=by
 rw[i3];exact bL (bI (aK (aK rfl rfl a.ix) rfl (rT (qV rfl))))
theorem At.cells(a:At hs n fl x h ps):jS [FD fl,.int h]=.ok (.int (nc x:Int)):=by
 rw[jS];exact bL (bI (bJ (bJ rfl rfl a.kind) (bJ rfl rfl a.size) (L8 a.ok)))
theorem At.blocks(a:At hs n fl x h ps):mX [FD fl,.int h]=.ok (L ps):=by
 rw[mX];have h4:=a.p4;have Zx:=C3 a.ok;have YX:((pad ([x.kd,(x.len:Int)]++ps)).map D.int).length=16:=by rw[j1,we (by simp;omega)]
 have g:(e2 aQ (eC nG) (aw mh [aw jS [aa 0,aa 1]])) [.sh (FD fl),.sh (.int h)]=.ok (.int ((2+ps.length:Nat):Int)):=by
  refine(bK rfl (c6 (bJ rfl rfl a.cells) (ED (by omega)))).trans ?_
  rw[a.pl,AE];congr 2
 refine bL (bI (cR (x:=.tup (ps.map .int)) ?_ rfl));have g2:(e2 aO (aa 0) (aa 1)) [.sh (FD fl),.sh (.int h)]=.ok (B (pad ([x.kd,(x.len:Int)]++ps))):=aK rfl rfl a.ix;show cA _ _ _ [.sh (FD fl),.sh (.int h)]=_;simp only[cA,g2,R.aH,gR,g];refine(qW (a:=2) (b:=2+ps.length) (by decide) (by omega) (by rw[YX];omega)).trans ?_
 rw[<-abC, <-acj];show R.ok (D.tup (((ps++_).take (2+ps.length - 2)).map .int))=_;rw[Nat.add_sub_cancel_left,adR]
theorem At.words(a:At hs n fl x h ps):om [FD fl,.int h]=.ok (L (dat (x.mp hs)++List.replicate (16*ps.length - nc x) 0)):=by
 have h4:=a.p4
 obtain⟨s3,e⟩:=zC (acc:=[]) (λj p hp=>by
  have hj:=(il.mp hp).1;have:=a.pb j p hp;exact⟨this.1,_,by rw[xa,abj hj];rfl,this.2,we (pO _ _)⟩) (by simp) (by simp;omega)
 rw[z9 _ _ (by rw[uv,a.pl,AE];omega),uv,adH]at e
 rw[om];refine AX ?_;rw[az (ρ':=[.sh (FD fl),.sh (.int h),.ol (([]:tx).map .int),.un]) rfl]
 rw[az (dE (by
  show(R.bind _ _)=_;rw[bJ rfl rfl a.blocks];rfl) e)]
 exact FC rfl
theorem At.cellsOf(a:At hs n fl x h ps):i6 [FD fl,.int h]=.ok (L (dat (x.mp hs))):=by
 rw[i6];refine AX ?_;rw[vN,oz (bJ rfl rfl a.words) (bJ rfl rfl a.cells), <-uv,adR];rfl
theorem At.pairs(a:At hs n fl x h ps):dR [FD fl,.int h]=.ok (.lst ((ij hs x).map pD)):=by
 rw[dR];refine bL ?_;cases x with
 | fi ws=>
  refine dP ?_;rw[jk (aT (aK (bJ rfl rfl a.kind) rfl rfl))];exact bI rfl
 | fo ks vs=>
  rw[az (dk (aT (aK (bJ rfl rfl a.kind) rfl rfl)))];rw[az (bt (bJ rfl rfl a.cellsOf))];exact dP (bI (IS rfl (by show(cD ks _).length<=32;rw[ly];exact a.ok.2.1)))
theorem qu(ks vs:tx):(cD ks vs).map (·.1)=cw ks:=by
 unfold cD;rw[Pv];exact List.map_id' _
theorem ze(h:ks.Nodup):((cD ks vs).map (·.1)).Nodup:=by rw[qu];exact(eI ks).nodup_iff.mpr h
theorem At.dict(a:At hs n fl (.fo ks vs) h ps)(h0:aa 0 ρ=.ok (FD fl))(h1:aa 1 ρ=.ok (.int h)):(e1 dw (aw dR [aa 0,aa 1])) ρ=.ok (.aL ((cw ks).map .inl) (((cD ks (vs.map (hd hs))).map (·.2)).map .int)):=by
 have:=cR (bJ h0 h1 a.pairs) (tW (ps:=cD ks (vs.map (hd hs))) (ze a.ok.2.2.2.1) (by rw[ly];have:=a.ok.2.1;omega))
 rw[qu]at this;exact this
theorem At.node(a:At hs n fl x h ps):kx [FD fl,.int h]=.ok (gi hs x):=by
 rw[kx];unfold kS;show R.bind (aN _ [.sh (FD fl),.sh (.int h)]) _=_;cases x with
 | fi ws=>
  rw[az (dk (aT (by rw[cG (bJ rfl rfl a.kind) rfl];rfl)))]
  have g:(xT [xD (eC (S "file")),xF (aw i6 [aa 0,aa 1])]) [.sh (FD fl),.sh (.int h)]=.ok (gi hs (.fi ws)):=by
   have g1:(xF (aw i6 [aa 0,aa 1])) [.sh (FD fl),.sh (.int h)]=.ok (.l ((ws.map D.int).map .d)):=by
    unfold xF;rw[bJ rfl rfl a.cellsOf];rfl
   unfold xT dC dC dC;rw[g1];rfl
  show R.bind (R.bind (R.bind _ _) _) _=_;rw[g];rfl
 | fo ks vs=>
  have g:(xT [xD (eC (S "folder")),xM (e1 dw (aw dR [aa 0,aa 1]))]) [.sh (FD fl),.sh (.int h)]=.ok (gi hs (.fo ks vs)):=by
   have g1:(xM (e1 dw (aw dR [aa 0,aa 1]))) [.sh (FD fl),.sh (.int h)]=.ok (.m ((cw ks).map .inl) ((((cD ks (vs.map (hd hs))).map (·.2)).map D.int).map .d)):=by
    unfold xM;rw[a.dict rfl rfl];rfl
   unfold xT dC dC dC;rw[g1];rfl
  have g2:bH (tV (e2 oEq (aw fP [aa 0,aa 1]) (eC du))) (o6 (xT [xD (eC (S "folder")),xM (e1 dw (aw dR [aa 0,aa 1]))])) (bu) [.sh (FD fl),.sh (.int h)]=.ok (.ee (gi hs (.fo ks vs))):=by
   rw[jk (aT (by rw[cG (bJ rfl rfl a.kind) rfl];rfl))]
   unfold o6;rw[g];rfl
  show R.bind (R.bind _ _) _=_;rw[g2];rfl
end
theorem mE(h:a ρ=.ok (.lst xs)):fm a ρ=.ok xs:=by show R.bind _ _=_;rw[h];rfl
theorem z8(h0:0<=i)(h1:i<4294967296):ic [.int i]=.ok (.bl true):=by
 have hw:eK [.int i]=.ok (.bl true):=rfl;refine bL (bI (KN (c6 rfl hw) λ_=>?_));exact zM (p:=true) rfl rfl (by rw[le_int,M0 h0]) (lL _) (by rw[lt_int,M0 h1])
section
variable{hs:tx}{n:Nat}{fl:bF}{x:Nd}{h:Int}{ps:tx}
theorem Ff(hs:tx)(x:Nd):(ij hs x).map (·.1)=(match x with|.fi _=>[]|.fo ks _=>cw ks):=by
 cases x with
 |fi ws=>rfl
 |fo ks vs=>exact qu ks _
theorem At.up(a:At hs n fl x h ps):(0::(ij hs x).map (·.1)).Pairwise (· < ·)/\(ij hs x).length<=32:=by
 rw[Ff];cases x with
 |fi ws=>exact⟨by simp,aay _⟩
 | fo ks vs=>
  obtain⟨_,Su,_,nd,rg⟩:=a.ok;refine⟨List.pairwise_cons.mpr ⟨λk hk=>?_,?_⟩,by show(cD ks _).length<=32;rw[ly];exact Su⟩
  ·have:=rg k ((eI ks).mem_iff.mp hk);omega
  ·exact((w8 ks).and ((eI ks).nodup_iff.mpr nd)).imp λ{a b} h=>by have:=h.1;have:=h.2;omega
theorem FE{ρ:En}{j:Nat}{d:D}{q:List (Int×Int)}{s:Ex}(k:Nat)(hp:s ρ=.ok (.lst (q.map pD)))(hl:q.length<=100)(hk:k<2):(da (fm s) 2 [] (hW [0,1]) [] (aa k)) ρ=.ok (L (q.map λp=>if k=0 then p.1 else p.2)):=by
 refine jP (mE hp) (by rw[j1];omega) ?_
 rw[Pv];refine lY pD (D.int∘λp=>if k=0 then p.1 else p.2) λp _=>⟨[.sh (.int p.1),.sh (.int p.2)],rfl,?_⟩
 match k,hk with
 |0,_=>rfl
 |1,_=>rfl
end
theorem dj{Ls:List (tx)}(h:Ls.flatten.Nodup):(∀ {i:Nat} {a},Ls[i]? =some a->a.Nodup)/\∀ {i j:Nat} {a b},Ls[i]? =some a->Ls[j]? =some b->i≠j->∀q∈a,q∉b:=by
 obtain⟨h1,h2⟩:=List.pairwise_flatten.mp h;refine⟨λe=>h1 _ (GM e),λ{i j a b} ea eb PU q qa qb=>?_⟩;obtain⟨hi,rfl⟩:=il.mp ea;obtain⟨hj,rfl⟩:=il.mp eb;rcases Nat.lt_or_gt_of_ne PU with h|h
 ·exact acO.mp h2 i j hi hj h q qa q qb rfl
 ·exact acO.mp h2 j i hj hi h q qb q qa rfl
theorem ql:∀(N:Nat) {l:tx},l.Nodup->(∀x∈l,0<=x/\x<(N:Int))->l.length<=N
 | 0,l,_,h=>by
  cases l with
  |nil=>exact IR _
  |cons a l=>have:=h a AC;omega
 | N+1,l,nd,h=>by
  by_cases hm:(N:Int)∈l
  ·have:=ql N (nd.erase _) (λx hx=>by
    have h1:=h x (List.mem_of_mem_erase hx);have h2:x≠(N:Int):=λe=>by subst e;exact nd.not_mem_erase hx
    omega)
   rw[List.length_erase_of_mem hm]at this;omega
  ·exact Nat.le_succ_of_le (ql N nd λx hx=>by
    have h1:=h x hx;have h2:x≠(N:Int):=λe=>hm (e▸hx);omega)
structure Wk(N:Nat)(ch:Int->tx):Prop where
 nd:∀i,0<=i->i<(N:Int)->(ch i).Nodup
 dj:∀i j,0<=i->i<(N:Int)->0<=j->j<(N:Int)->i≠j->∀q∈ch i,q∉ch j
 rg:∀i,0<=i->i<(N:Int)->∀c∈ch i,0<c/\c<(N:Int)
 ex:∀v,0<v->v<(N:Int)->∃i,0<=i/\i<v/\v∈ch i
structure WI(N:Nat)(ch:Int->tx)(vs td:tx):Prop where
 pm:(vs++td).Perm (0::vs.flatMap ch)
 nd:(vs++td).Nodup
 rg:∀i∈vs++td,0<=i/\i<(N:Int)
section
variable{N:Nat}{ch:Int->tx}{vs td:tx}
theorem WI.start(h:0<N):WI N ch [] [0]:=⟨.refl _,by simp,λi hi=>by rw[Os.mp hi];omega⟩
theorem WI.step(w:Wk N ch)(h:WI N ch vs (td++[i])):WI N ch (vs++[i]) (td++ch i):=by
 have hi:=h.rg i (by simp)
 have pm:((vs++[i])++(td++ch i)).Perm (0::(vs++[i]).flatMap ch):=by
  have p1:((vs++[i])++td).Perm (vs++(td++[i])):=by rw[P3];exact aah _ adi
  rw[<-P3 (vs++[i]),List.flatMap_append, <-aaL];simp only[List.flatMap_cons,List.flatMap_nil,On];exact adb _ (p1.trans h.pm)
 have vn:(vs++[i]).Nodup:=h.nd.sublist (adq (aar _) (abw _ _));have vr:∀j∈vs++[i],0<=j/\j<(N:Int):=λj hj=>h.rg j (by rcases FS.mp hj with h|h<;>simp[h])
 refine⟨pm,pm.nodup_iff.mpr (PP.mpr ⟨λh0=>?_,?_⟩),λj hj=>?_⟩
 ·obtain⟨j,hj,h2⟩:=adE.mp h0
  have:=w.rg j (vr j hj).1 (vr j hj).2 0 h2;omega
 ·refine List.pairwise_flatMap.mpr ⟨λj hj=>w.nd j (vr j hj).1 (vr j hj).2,?_⟩
  exact vn.imp_of_mem λ{a b} ha hb Ss q qa r rb e=>w.dj a b (vr a ha).1 (vr a ha).2 (vr b hb).1 (vr b hb).2 Ss q qa (e▸rb)
 ·rcases FS.mp hj with hj|hj
  ·exact vr j hj
  ·rcases FS.mp hj with hj|hj
   ·exact h.rg j (by simp[hj])
   ·have:=w.rg i hi.1 hi.2 j hj;omega
theorem WI.len(h:WI N ch vs td):vs.length+td.length<=N:=by
 have:=ql N h.nd h.rg;rwa[Fk]at this
theorem WI.all(w:Wk N ch)(h:WI N ch vs []):∀(k:Nat) (v:Int),v.toNat=k->0<=v->v<(N:Int)->v∈vs:=by
 intro k
 induction k using Nat.strongRecOn with
 | _ k ih=>
  intro v hk h0 h1;have pm:=h.pm;rw[On]at pm;by_cases hv:v=0
  ·rw[hv];exact pm.mem_iff.mpr AC
  ·obtain⟨i,a,b,c⟩:=w.ex v (by omega) h1
   exact pm.mem_iff.mpr (Ax _ (adE.mpr ⟨i,ih i.toNat (by omega) i rfl a (by omega),c⟩))
end
noncomputable def xn(nds:List Nd)(i:Int):Nd:=nds.getD i.toNat (.fi [])
noncomputable def pp(D':List (tx))(i:Int):tx:=D'.getD i.toNat []
noncomputable def lK:Nd->tx
 |.fi _=>[]
 |.fo ks vs=>(cD ks vs).map (·.2)
theorem DA(h:x.ok n):(lK x).Perm x.iH:=by
 cases x with
 |fi ws=>exact .refl _
 | fo ks vs=>
  show((cD ks vs).map (·.2)).Perm vs
  unfold cD;rw[Pv];have:=(eI ks).map λk=>(bP k ks vs).getD 0;rw[yi 0 h.1 h.2.2.2.1]at this;exact this
theorem wC{α β:Type}(f:α->β)(a:Int):∀ {ks:tx} {vs:List α},bP a ks (vs.map f)=(bP a ks vs).map f
 |[],_=>by simp[bP]
 |_::_,[]=>by simp[bP]
 | k::ks,v::vs=>by
  rw[MG,bP,bP];by_cases h:k=a
  ·rw[DM h,DM h];rfl
  ·rw[Gc h,Gc h];exact wC f a
theorem Iw(h:x.ok n):(ij hs x).map (·.2)=(lK x).map (hd hs):=by
 cases x with
 |fi ws=>rfl
 | fo ks vs=>
  show(cD ks _).map _=((cD ks vs).map _).map _;unfold cD;rw[Pv,Pv,Pv];refine acd λk hk=>?_;obtain⟨_,v,_,_,ev⟩:=m9 h.1 h.2.2.2.1 ((eI ks).mem_iff.mp hk);show(bP k ks (vs.map (hd hs))).getD 0=hd hs ((bP k ks vs).getD 0);rw[wC,ev];rfl
section
variable{nds:List Nd}{hs:tx}{D':List (tx)}{root many:Int}{fl:bF}
theorem lO(h0:0<=i)(h1:i<(nds.length:Int)):nds[i.toNat]? =some (xn nds i):=by
 have:i.toNat<nds.length:=by omega
 rw[xn,Z5,DF this];rfl
theorem sD(m:MI nds hs D' root many)(h0:0<=i)(h1:i<(nds.length:Int)):D'[i.toNat]? =some (pp D' i):=by
 have:i.toNat<D'.length:=by rw[m.pl];omega
 rw[pp,Z5,DF this];rfl
theorem rE:∀nds:List Nd,kids nds=(nds.map Nd.iH).flatten
 |[]=>rfl
 |x::nds=>by rw[kids,rE nds];rfl
theorem NI.wk(ni:NI nds):Wk nds.length λi=>lK (xn nds i):=by
 have T8:=ni.nd;rw[rE]at T8;obtain⟨d1,d2⟩:=dj T8;have kd:∀ {i:Int},0<=i->i<(nds.length:Int)->(nds.map Nd.iH)[i.toNat]? =some (xn nds i).iH:=λh0 h1=>by rw[xa,lO h0 h1];rfl
 have pm:∀ {i:Int},0<=i->i<(nds.length:Int)->(lK (xn nds i)).Perm (xn nds i).iH:=λh0 h1=>DA (ni.ok _ (GM (lO h0 h1)));refine⟨λi h0 h1=>(pm h0 h1).nodup_iff.mpr (d1 (kd h0 h1)),λi j a b c d PU q qi qj=>?_,λi h0 h1 c hc=>?_,λv h0 h1=>?_⟩
 ·exact d2 (kd a b) (kd c d) (by omega) q ((pm a b).mem_iff.mp qi) ((pm c d).mem_iff.mp qj)
 ·have hc:=(pm h0 h1).mem_iff.mp hc
  have:=(ni.mem c).mp (by rw[rE];exact abd.mpr ⟨_,GM (kd h0 h1),hc⟩)
  omega
 ·have hv:=(ni.mem v).mpr (by omega)
  rw[rE]at hv;obtain⟨l,hl,hv⟩:=abd.mp hv;obtain⟨k,hk⟩:=Z6 hl;rw[xa]at hk;obtain⟨x,hx,rfl⟩:=acX.mp hk;have QI:=(il.mp hx).1;have hg:=ni.gt k x hx v hv;refine⟨(k:Int),by omega,hg,(pm (by omega) (by omega)).mem_iff.mpr ?_⟩
  have:=lO (nds:=nds) (i:=(k:Int)) (by omega) (by omega)
  rw[aaW,hx]at this;cases this;exact hv
theorem xW(f:FI nds hs D' root many fl)(m:MI nds hs D' root many)(ni:NI nds)(hr:0<=root)(h0:0<=i)(h1:i<(nds.length:Int)):At hs nds.length fl (xn nds i) (hd hs i) (pp D' i):=by
 have a:=lO h0 h1;have b:=jr m h0 h1;have c:=sD m h0 h1;obtain⟨q1,q2⟩:=f.hd _ _ _ _ a b c;exact⟨ni.ok _ (GM a),by have:=m.hr b;omega,m.pw _ _ _ a c,q1,λj p hp=>⟨by have:=m.pr c (GM hp);omega,q2 j p hp⟩⟩
end
theorem CP(h:ρ[i]? =some (.ol (ys++[y]))):nX j i ρ=.ok (.next ((ρ.set i (.ol ys)).set j (.sh y))):=by
 unfold nX;simp[h]
section
variable{nds:List Nd}{hs:tx}{D':List (tx)}{root many:Int}{fl:bF}
structure GF(nds:List Nd)(hs:tx)(D':List (tx))(root many:Int)(fl:bF):Prop where
 ni:NI nds
 m:MI nds hs D' root many
 f:FI nds hs D' root many fl
 hr:root=14+(many+15) / 16
 h1:32<=many
 h2:many<=200
 jz:nds.length<=63
noncomputable abbrev gZ(nds:List Nd):Int->tx:=λi=>lK (xn nds i)
theorem HR(g:GF nds hs D' root many fl):nK [FD fl]=.ok (.int root):=by
 rw[nK,qZ];refine bL (bI ((bK rfl (c6 (by rw[kC rfl,j1]) (bL (bI (b8 (gG (bK rfl rfl) rfl) rfl (by decide)))))).trans ?_))
 have:=g.f.len;have:=g.hr;congr 2;omega
noncomputable def ve(hs:tx)(x:Nd):D:=T.toD (gi hs x)
theorem EO(m:MI nds hs D' root many)(a:0<=i)(b:i<(nds.length:Int))(c:0<=j)(d:j<(nds.length:Int))(e:hd hs i=hd hs j):i=j:=by
 have h1:=jr m a b;have h2:=jr m c d;rw[e, <-h2]at h1;have:=(List.getElem?_inj (by rw[m.hl];omega) m.hn).mp h1
 omega
noncomputable abbrev gB(nds:List Nd)(fl:bF)(hs vs td:tx)(s3:Slot):En:=[.sh (FD fl),.un,.un,.un,.on (.tr (.m (vs.map λi=>.inl (hd hs i)) (vs.map λi=>gi hs (xn nds i)))),.ol ((td.map (hd hs)).map .int),s3]
theorem LU(g:GF nds hs D' root many fl)(w:WI nds.length (gZ nds) vs (td++[i])):lX (gB nds fl hs vs (td++[i]) s3)=.ok (.next (gB nds fl hs (vs++[i]) (td++gZ nds i) (.sh (.int (hd hs i))))):=by
 have hi:=w.rg i (by simp)
 have hr:=g.hr;have h1:=g.h1;have jz:=g.jz;have a:=xW g.f g.m g.ni (by omega) hi.1 hi.2
 have w2:=w.step g.ni.wk;have wl:=w2.len;simp only[Fk]at wl;have Ug:(gZ nds i).length=(lK (xn nds i)).length:=rfl;have vn:(vs++[i]).Nodup:=(KB.mp w2.nd).1;rw[lX];have e0:((td++[i]).map (hd hs)).map D.int=(td.map (hd hs)).map .int++[.int (hd hs i)]:=by simp
 rw[az (CP (by show some (Slot.ol _)=_;rw[e0]))]
 show aN _ (gB nds fl hs vs td (.sh (.int (hd hs i))))=_
 have hk:((vs.map λi=>(Sum.inl (hd hs i):Ky)).any λa=>decide (a=.inl (hd hs i)))=false:=by
  rw[acu];intro b hb QB;obtain⟨j,hj,rfl⟩:=SC.mp hb;have Wu:=w.rg j (JU _ hj);have:=EO g.m Wu.1 Wu.2 hi.1 hi.2 (acx (aaU QB));subst this;exact(KB.mp vn).2.2 j hj j (by simp) rfl
 have Qh:qT 4 (pN) (aa 6) (iL kx [aa 0,aa 6]) (gB nds fl hs vs td (.sh (.int (hd hs i))))=.ok (.next (gB nds fl hs (vs++[i]) td (.sh (.int (hd hs i))))):=by
  have hx:(iL kx [aa 0,aa 6]) (gB nds fl hs vs td (.sh (.int (hd hs i))))=.ok (gi hs (xn nds i)):=by
   exact a.node
  unfold qT;rw[hx];show(if(vs.map λi=>(Sum.inl (hd hs i):Ky)).length<1000/\¬((vs.map λi=>(Sum.inl (hd hs i):Ky)).any λa=>decide (a=.inl (hd hs i)))=true then R.ok (Fl.next [_,_,_,_,.on (.tr (.m ((vs.map λi=>(Sum.inl (hd hs i):Ky))++[.inl (hd hs i)]) ((vs.map λi=>gi hs (xn nds i))++[gi hs (xn nds i)]))),_,_])else .bad)=_
  rw[DM ⟨by rw[j1];omega,by rw[hk];decide⟩]
  simp[gB]
 rw[az Qh]
 have e3:(da (fm (aw dR [aa 0,aa 6])) 2 [] (hW [0,1]) [] (aa 1)) (gB nds fl hs (vs++[i]) td (.sh (.int (hd hs i))))=.ok (L ((gZ nds i).map (hd hs))):=by
  rw[<-Iw a.ok];exact FE (j:=0) (d:=.aP) 1 (bJ rfl rfl a.pairs) (by have:=a.up.2;omega) (by decide)
 have e4:ma 5 (da (fm (aw dR [aa 0,aa 6])) 2 [] (hW [0,1]) [] (aa 1)) (gB nds fl hs (vs++[i]) td (.sh (.int (hd hs i))))=.ok (.next (gB nds fl hs (vs++[i]) (td++gZ nds i) (.sh (.int (hd hs i))))):=by
  rw[ma,e3,R.aH];show(if((td.map (hd hs)).map D.int).length+(((gZ nds i).map (hd hs)).map D.int).length<=dI then R.ok (Fl.next [_,_,_,_,_,.ol ((td.map (hd hs)).map .int++((gZ nds i).map (hd hs)).map .int),_])else .bad)=_
  rw[DM (by simp only[j1];unfold dI;omega), <-PC, <-PC]
 rw[az e4];rfl
theorem zQ(g:GF nds hs D' root many fl):∀(f:Nat) {vs td:tx} {s3:Slot},WI nds.length (gZ nds) vs td->nds.length<vs.length+f->∃Oo PH,WI nds.length (gZ nds) Oo []/\jM (tV (e2 ia (d5 5) (eC (.int 0)))) lX f (gB nds fl hs vs td s3)=.ok (.next (gB nds fl hs Oo [] PH))
 |0,vs,td,s3,w,h=>by have:=w.len;omega
 | f+1,vs,td,s3,w,h=>by
  rcases List.eq_nil_or_concat td with rfl|⟨Yf,i,rfl⟩
  ·exact⟨vs,s3,w,rfl⟩
  ·rw[List.concat_eq_append]at w ⊢
   obtain⟨Oo,PH,w',e⟩:=zQ g f (w.step g.ni.wk) (by rw[Fk,aag];omega)
   refine⟨Oo,PH,w',?_⟩;rw[jM,aT (by rw[rD (j6 (n:=Yf.length+1) rfl (by simp)) rfl,M0 (by omega)]),R.aH,DM rfl,LU g w]
   exact e
theorem GF.h0(g:GF nds hs D' root many fl):hd hs 0=root/\0<nds.length:=by
 obtain⟨k0,v0,hz⟩:=g.ni.z;have QO:0<nds.length:=(il.mp hz).1;have:=jr g.m (v:=0) (by omega) (by omega)
 rw[show(0:Int).toNat=0 from rfl,g.m.h0]at this
 exact⟨(SZ this).symm,QO⟩
noncomputable abbrev vP(nds:List Nd)(hs vs:tx):T:=.m (vs.map λi=>.inl (hd hs i)) (vs.map λi=>gi hs (xn nds i))
theorem DZ(g:GF nds hs D' root many fl):∃vs,WI nds.length (gZ nds) vs []/\iN [FD fl]=.ok (vP nds hs vs):=by
 obtain⟨W',QO⟩:=g.h0;have jz:=g.jz;obtain⟨vs,s3,w,e⟩:=zQ g 80 (WI.start QO) (by simp;omega)
 refine⟨vs,w,?_⟩;rw[iN];unfold kS;rw[az rfl];rw[az (sE (Hj (c6 rfl (HR g))))];rw[<-W'];show R.bind (aN _ (gB nds fl hs [] [0] .un)) _=_;rw[az (a:=sk _ _ _) e];rfl
theorem Bc:∀vs:tx,T.eE (vs.map λi=>gi hs (xn nds i))=(vs.map (xn nds)).map (ve hs)
 |[]=>rfl
 |v::vs=>by show T.toD _::T.eE _=_;rw[Bc vs];rfl
noncomputable abbrev qd(nds:List Nd)(hs vs:tx):D:=.aL ((vs.map (hd hs)).map .inl) ((vs.map (xn nds)).map (ve hs))
theorem Ef(vs:tx):T.toD (vP nds hs vs)=qd nds hs vs:=by
 show D.aL _ (T.eE _)=_;rw[Bc,qd,Pv (f:=hd hs)];rfl
end
theorem zz{lo hi:Option Int}(ns:tx):cut (ns.map D.int) lo hi=(cut ns lo hi).map .int:=by
 unfold cut;rw[j1, <-abC, <-acj]
theorem w5{f:List D->R D}{a b c d:Ex}{ρ:En}{x y z w r:D}(ha:a ρ=.ok x)(hb:b ρ=.ok y)(hc:c ρ=.ok z)(hd:d ρ=.ok w)(h:f [x,y,z,w]=.ok r):aw f [a,b,c,d] ρ=.ok r:=by
 simp only[aw,eList,ha,hb,hc,hd,R.aH];exact h
theorem CA(ns:tx):∃nds hs D' root many fl,GF nds hs D' root many fl/\nZ [L ns]=.ok (.lst [mD hs nds D',FD fl]):=by
 obtain⟨f,ef⟩:=pB (k:=0) (by decide)
 obtain⟨f1,Xr⟩:=pB (k:=1) (by decide)
 obtain⟨f2,Xu⟩:=pB (k:=2) (by decide)
 obtain⟨z,_,ez⟩:=uR f1
 obtain⟨c1,Up,Qh⟩:∃c:Int,(0<c/\c<=169)/\aO (.lst [.int 8,.int 40,.int 169,.int 169]) (.int (f % 4))=.ok (.int c):=by
  have h4:f % 4=0\/f % 4=1\/f % 4=2\/f % 4=3:=by omega
  rcases h4 with h|h|h|h<;>rw[h]
  ·exact⟨8,by decide,rfl⟩
  ·exact⟨40,by decide,rfl⟩
  ·exact⟨169,by decide,rfl⟩
  ·exact⟨169,by decide,rfl⟩
 obtain⟨c2,Qm,NW⟩:∃c:Int,(0<c/\c<=4)/\aO (.lst [.int 4,.int 3,.int 2,.int 1]) (.int (f / 700 % 4))=.ok (.int c):=by
  have h4:f / 700 % 4=0\/f / 700 % 4=1\/f / 700 % 4=2\/f / 700 % 4=3:=by omega
  rcases h4 with h|h|h|h<;>rw[h]
  ·exact⟨4,by decide,rfl⟩
  ·exact⟨3,by decide,rfl⟩
  ·exact⟨2,by decide,rfl⟩
  ·exact⟨1,by decide,rfl⟩
 generalize SU:32+f / 4 % c1=many
 have Sg:32<=many/\many<=200:=by
  have h1:=UF (f / 4) (show c1≠0 by omega)
  have h2:=aac (f / 4) Up.1;omega
 obtain⟨c3,X1,W7⟩:∃c:Int,(0<=c/\c<=32)/\aO (.lst [.int 0,.int 0,.int 31,.int 32]) (.int (f / 5600 % 4))=.ok (.int c):=by
  have h4:f / 5600 % 4=0\/f / 5600 % 4=1\/f / 5600 % 4=2\/f / 5600 % 4=3:=by omega
  rcases h4 with h|h|h|h<;>rw[h]
  ·exact⟨0,by decide,rfl⟩
  ·exact⟨0,by decide,rfl⟩
  ·exact⟨31,by decide,rfl⟩
  ·exact⟨32,by decide,rfl⟩
 generalize OU:14+(many+15) / 16=root;generalize Q0:(many - root - 1)*c2 / 4=room
 have Rz:0<=room/\room<=many - root - 1:=by
  rw[<-Q0];have h0:0<=many - root - 1:=by omega
  generalize many - root - 1=q at h0;have h1:0<=q*c2:=acM h0 (by omega)
  have h2:q*c2<=q*4:=acB Qm.2 h0;omega
 have Ug:(cut ns (some 3) (some 33)).length<=30:=by
  unfold cut;rw[ig (by decide),ig (by decide),Re]
  omega
 obtain⟨nds,Zs,ni,Zv,en⟩:=JH (cs:=cut ns (some 3) (some 33)) Rz.1 (by omega) X1 (step:=1+f / 22400 % 100000000) (by omega)
 obtain⟨hs,D',em,m⟩:=DJ ni (by omega) Sg.1 (by omega) (by omega)
 obtain⟨bs,hb,V2,eb⟩:=LJ (many:=many) (by omega) (by omega)
 rw[OU]at m;obtain⟨fl,l4,fi,_⟩:=De m ni OU.symm Sg.1 (by omega) hb V2
 refine⟨nds,hs,D',root,many,fl,⟨ni,m,fi,OU.symm,Sg.1,Sg.2,by omega⟩,?_⟩
 rw[nZ];refine bL ?_;refine(az (bt (bJ rfl rfl ef))).trans ?_
 rw[az (bt (d:=.int many) (by
  rw[<-SU];exact bK rfl (bM (b8 rfl rfl (by decide)) (aK rfl (bM rfl rfl (by decide)) Qh) Up.1)))]
 rw[az (bt (d:=.int root) (by rw[<-OU];exact bK rfl (b8 (bK rfl rfl) rfl (by decide))))]
 show aN _ [.sh (L ns),.sh (.int f),.sh (.int many),.sh (.int root),.un,.un,.un,.un]=_;rw[az (bt (aK rfl (bM (b8 rfl rfl (by decide)) rfl (by decide)) W7))]
 rw[az (bt (d:=.int room) (by
  rw[<-Q0];exact b8 (f9 (gG (gG rfl rfl) rfl) (aK rfl (bM (b8 rfl rfl (by decide)) rfl (by decide)) NW) (ff (by omega) (by omega)) (ff (by omega) (by omega))) rfl (by decide)))]
 show aN _ [.sh (L ns),.sh (.int f),.sh (.int many),.sh (.int root),.sh (.int c3),.sh (.int room),.un,.un]=_
 rw[az (bt (w5 (by
  have g0:(aa 0) [.sh (L ns),.sh (.int f),.sh (.int many),.sh (.int root),.sh (.int c3),.sh (.int room),.un,.un]=.ok (.lst (ns.map .int)):=rfl;simp only[cA,g0,R.aH,gR,eC,j0];rw[zz]) rfl rfl (bK rfl (bM (b8 rfl rfl (by decide)) (u:=100000000) (show(e2 cL (eC (.int 10)) (eC (.int 8))) _=_ from rfl) (by decide))) en))]
 rw[az (bt (nS rfl rfl (c6 (bJ rfl rfl Xr) ez) em))];show aN _ [.sh (L ns),.sh (.int f),.sh (.int many),.sh (.int root),.sh (.int c3),.sh (.int room),.sh (.lst (nds.map Nd.d)),.sh (mD hs nds D')]=_;refine dP (bI ?_);have g1:(aa 7) [.sh (L ns),.sh (.int f),.sh (.int many),.sh (.int root),.sh (.int c3),.sh (.int room),.sh (.lst (nds.map Nd.d)),.sh (mD hs nds D')]=.ok (mD hs nds D'):=rfl;have g2:(aw lE [aa 7,aw ll [aw gN [aa 0,eC (.int 2)],aa 2]]) [.sh (L ns),.sh (.int f),.sh (.int many),.sh (.int root),.sh (.int c3),.sh (.int room),.sh (.lst (nds.map Nd.d)),.sh (mD hs nds D')]=.ok (FD fl):=bJ rfl (bJ (bJ rfl rfl Xu) rfl eb) l4;simp only[bA,eList,g1,g2,R.aH]
noncomputable def pk(root:Int)(n:Nat)(S:tx):tx:=((List.range n).filter λk:Nat=> !decide ((k:Int)<root\/(k:Int)∈S)).map λk:Nat=>(k:Int)
theorem DN{root:Int}{n:Nat}{S:tx}{q:Int}:q∈pk root n S↔(0<=q/\q<(n:Int))/\root<=q/\q∉S:=by
 unfold pk;rw[SC];constructor
 ·rintro⟨k,hk,rfl⟩
  obtain⟨h1,h2⟩:=abi.mp hk;have h1:=aaH.mp h1;simp only[adw,decide_eq_false_iff_not,not_or]at h2;exact⟨by omega,by omega,h2.2⟩
 ·rintro⟨h1,h2,h3⟩
  refine⟨q.toNat,abi.mpr ⟨aaH.mpr (by omega),?_⟩,by omega⟩
  rw[show((q.toNat:Nat):Int)=q by omega,KI (by rintro(h|h);omega;exact h3 h)];rfl
theorem Dt{root:Int}{n:Nat}{S:tx}{k:Nat}(h:k<n):(mk root n S)[k]? =some (if(k:Int)<root\/(k:Int)∈S then 1 else 0):=by
 unfold mk;rw[xa,abj h];rfl
section
variable{nds:List Nd}{hs:tx}{D':List (tx)}{root many:Int}{fl:bF}
theorem C1(g:GF nds hs D' root many fl){s0 s1 s2 s3 s4 s6:Slot}{e:Ex}(he:e [s0,s1,s2,s3,s4,.sh (L (mk root many.toNat (nums hs D'))),s6]=.ok (.int many)):da (fI e) 1 [5] (aA 0) [tV (e2 oEq (e2 aO (aa 1) (aa 0)) (eC (.int 0)))] (aa 0) [s0,s1,s2,s3,s4,.sh (L (mk root many.toNat (nums hs D'))),s6]=.ok (L (pk root many.toNat (nums hs D'))):=by
 have h1:=g.h1;have h2:=g.h2;refine jP (ds:=(List.range many.toNat).map λk:Nat=>.int (k:Int)) ?_ (by simp;omega) ?_
 ·rw[ir (L:=many) he (gC (by omega) (by omega))]
  unfold cI;congr 1;simp
 ·unfold pk
  rw[Pv];refine rm (u:=λk:Nat=>.int (k:Int)) (p:=λk:Nat=> !decide ((k:Int)<root\/(k:Int)∈nums hs D')) (v:=λk:Nat=>.int (k:Int)) λk hk=>⟨[.sh (.int (k:Int)),.sh (L (mk root many.toNat (nums hs D')))],rfl,?_,λ_=>rfl⟩;have hk:=aaH.mp hk;have e:aO (L (mk root many.toNat (nums hs D'))) (.int (k:Int))=.ok (.int (if(k:Int)<root\/(k:Int)∈nums hs D' then 1 else 0)):=iq (qV (Dt hk))
  show(tV _ _).bind _=_;rw[aT (cG (aK rfl rfl e) rfl),R.aH];by_cases c:(k:Int)<root\/(k:Int)∈nums hs D'
  ·rw[DM c,M0 c];rfl
  ·rw[Gc c,KI c];rfl
end
set_option maxRecDepth 100000
theorem yD(b:tx):lay (B b)=true/\dep (B b)<=3:=by
 constructor
 ·show eB (b.map D.int)=true
  exact yw λd hd=>by obtain⟨i,_,rfl⟩:=SC.mp hd;rfl
 ·show jh (b.map D.int)+1<=3
  have:=xr (ds:=b.map D.int) (n:=1) λd hd=>by obtain⟨i,_,rfl⟩:=SC.mp hd;exact aay _
  omega
theorem Ce(fl:bF):lay (FD fl)=true/\dep (FD fl)<=60:=by
 constructor
 ·show eB (fl.map B)=true
  exact yw λd hd=>by obtain⟨i,_,rfl⟩:=SC.mp hd;exact(yD i).1
 ·show jh (fl.map B)+1<=60
  have:=xr (ds:=fl.map B) λd hd=>by obtain⟨i,_,rfl⟩:=SC.mp hd;exact(yD i).2
  omega
noncomputable abbrev NC:D:=.bN (Str.ofString "NoChange") [] []
theorem lD{r1 r2:En->R D}{f:Sm}{ρ:En}{y:D}(h:r1 ρ=.exc y):dN r1 f r2 ρ=.exc y:=by unfold dN;rw[h]
theorem mJ{r1 r2:En->R D}{f:Sm}{ρ ρ':En}(h:r1 ρ=.bad)(hf:f ρ=.ok (.next ρ')):dN r1 f r2 ρ=r2 ρ':=by unfold dN;rw[h,hf]
theorem qx{r:En->R D}{f:Sm}{ρ ρ':En}(hf:f ρ=.ok (.next ρ')):g9 f r ρ=r ρ':=by unfold g9;rw[hf]
theorem jG{c:Str}{t:bg}{ρ:En}(h:t ρ=.ok true):dA c t ρ=.exc (.bN c [] []):=by unfold dA;rw[h]
theorem wJ{c:Str}{t:bg}{ρ:En}(h:t ρ=.ok false):dA c t ρ=.bad:=by unfold dA;rw[h]
theorem wV{t:bg}{a b:En->R D}{ρ:En}(h:t ρ=.ok true):fS t a b ρ=a ρ:=by unfold fS;rw[h]
theorem lQ{t:bg}{a b:En->R D}{ρ:En}(h:t ρ=.ok false):fS t a b ρ=b ρ:=by unfold fS;rw[h]
theorem ne_int(a b:Int):iG (.int a) (.int b)=.ok (.bl (!decide (a=b))):=by
 unfold iG;rw[DM (by unfold gj;simp[lay,dep])]
 by_cases h:a=b
 ·subst h;simp[bV]
 ·simp[bV,h]
theorem Gp{e:Ex}{ρ:En}{d:D}(h:e ρ=.ok d):jx e ρ=.ok (.next ρ):=by unfold jx;rw[h];rfl
noncomputable abbrev E8(fl:bF)(d a b c:Int)(s5 s6 s7:Slot):En:=[.sh (.int d),.sh (FD fl),.sh (.int a),.sh (.int b),.sh (.int c),s5,s6,s7]
theorem r9{fl:bF}{d a b c:Int}(h:fS (tV (e2 oEq (aa 0) (eC (.int 0)))) (dm jI [aa 6,aa 2,aa 3,aa 4]) (fS (tV (e2 oEq (aa 0) (eC (.int 1)))) (dm j5 [aa 6,aa 2,aa 3]) (fS (tV (e2 oEq (aa 0) (eC (.int 2)))) (dm kj [aa 6,aa 2,aa 3,aa 4]) (dm kL [aa 6,aa 2,aa 3]))) (E8 fl d a b c (.sh (.bl false)) (.sh (FD fl)) .un)=.exc NC):bG [.int d,FD fl,.int a,.int b,.int c]=.ok (.bl true):=by
 have lf:=Ce fl;rw[bG];refine bL ?_;show aN _ (E8 fl d a b c .un .un .un)=_;rw[az (ρ':=E8 fl d a b c (.sh (.bl false)) .un .un) rfl];rw[az (ρ':=E8 fl d a b c (.sh (.bl false)) (.sh (FD fl)) .un) rfl]
 rw[az (ρ':=E8 fl d a b c (.sh (.bl true)) (.sh (FD fl)) .un) (by
  unfold qF;rw[h];show(aN _ (E8 fl d a b c (.sh (.bl false)) (.sh (FD fl)) (.sh NC))).bind _=_;rw[az (ρ':=E8 fl d a b c (.sh (.bl true)) (.sh (FD fl)) (.sh NC)) (by kernel_rfl),az (ρ':=E8 fl d a b c (.sh (.bl true)) (.sh (FD fl)) (.sh NC)) (by kernel_rfl)]
  rfl)]
 exact dP (bI (pM (x:=true) rfl (aK rfl rfl (eq_self lf.1 lf.2))))
theorem si{fl:bF}{a b c:Int}(h:jI [FD fl,.int a,.int b,.int c]=.exc NC):bG [.int 0,FD fl,.int a,.int b,.int c]=.ok (.bl true):=r9 ((wV (aT ((cG (i:=0) (u:=0) rfl rfl).trans rfl))).trans h)
theorem wR{fl:bF}{a b c:Int}(h:j5 [FD fl,.int a,.int b]=.exc NC):bG [.int 1,FD fl,.int a,.int b,.int c]=.ok (.bl true):=r9 ((lQ (aT ((cG (i:=1) (u:=0) rfl rfl).trans rfl))).trans ((wV (aT ((cG (i:=1) (u:=1) rfl rfl).trans rfl))).trans h))
theorem BI{fl:bF}{a b c:Int}(h:kj [FD fl,.int a,.int b,.int c]=.exc NC):bG [.int 2,FD fl,.int a,.int b,.int c]=.ok (.bl true):=r9 ((lQ (aT ((cG (i:=2) (u:=0) rfl rfl).trans rfl))).trans ((lQ (aT ((cG (i:=2) (u:=1) rfl rfl).trans rfl))).trans ((wV (aT ((cG (i:=2) (u:=2) rfl rfl).trans rfl))).trans h)))
theorem AH{fl:bF}{a b c:Int}(h:kL [FD fl,.int a,.int b]=.exc NC):bG [.int 3,FD fl,.int a,.int b,.int c]=.ok (.bl true):=r9 ((lQ (aT ((cG (i:=3) (u:=0) rfl rfl).trans rfl))).trans ((lQ (aT ((cG (i:=3) (u:=1) rfl rfl).trans rfl))).trans ((lQ (aT ((cG (i:=3) (u:=2) rfl rfl).trans rfl))).trans h)))
section
variable{nds:List Nd}{hs:tx}{D':List (tx)}{root many:Int}{fl:bF}
theorem oa(i:Int):eK [.int i]=.ok (.bl true):=by
 rw[eK];exact bL (bI rfl)
theorem x9{i a b:Int}:kg [.int i,.int a,.int b]=.ok (.bl (decide (a<=i)&&decide (i<=b))):=by
 rw[kg];refine bL (bI (pM (x:=true) (c6 rfl (oa i)) ?_));rw[zM (x:=.int a) (y:=.int i) (z:=.int b) rfl rfl rfl rfl rfl]
structure Nx(nds:List Nd)(hs:tx)(D':List (tx))(root many:Int)(fl:bF)(i:Nat)(h:Int)(x:Nd)(ps:tx):Prop where
 g:GF nds hs D' root many fl
 x1:nds[i]? =some x
 x2:hs[i]? =some h
 x3:D'[i]? =some ps
variable{i:Nat}{h:Int}{x:Nd}{ps:tx}
theorem Nx.at'(f:Nx nds hs D' root many fl i h x ps):At hs nds.length fl x h ps:=by
 have g:=f.g;have hi:=(il.mp f.x1).1;have hr:=g.hr;have h1:=g.h1;have a:=xW g.f g.m g.ni (by omega) (i:=(i:Int)) (by omega) (by omega)
 have y1:=lO (nds:=nds) (i:=(i:Int)) (by omega) (by omega)
 have y2:=jr g.m (v:=(i:Int)) (by omega) (by omega)
 have y3:=sD g.m (i:=(i:Int)) (by omega) (by omega)
 rw[aaW]at y1 y2 y3;rw[f.x1]at y1;rw[f.x2]at y2;rw[f.x3]at y3;rw[<-SZ y1, <-SZ y2, <-SZ y3]at a;exact a
theorem yo(g:GF nds hs D' root many fl):∃vs,WI nds.length (gZ nds) vs []/\∀ {k:Int} {h:Int},eX (iL iN [aa 0]) [.sh (FD fl),.sh (.int h),.sh (.int k)]=.ok (qd nds hs vs):=by
 obtain⟨vs,w,et⟩:=DZ g;refine⟨vs,w,λ{k h}=>?_⟩;unfold eX iL;show((iN [FD fl]).bind _)=_;rw[et];show R.ok (T.toD (vP nds hs vs))=_;rw[Ef]
theorem z7{vs:tx}{h:Int}:d4 (.int h) (qd nds hs vs)=.ok (.bl (!decide (h∈vs.map (hd hs)))):=by
 show(R.ok (D.bl (cJ (.inl h) ((vs.map (hd hs)).map .inl) ((vs.map (xn nds)).map (ve hs))).isSome)).bind iK=_;rw[o9 (by simp),rn];rfl
noncomputable abbrev tI:bg:=ck (bD (tV (aw eK [aa 1]))) (ck (tV (e2 d4 (aa 1) (eX (iL iN [aa 0])))) (tV (e2 iG (aw fP [aa 0,aa 1]) (aa 2))))
theorem Nx.test(f:Nx nds hs D' root many fl i h x ps)(k:Int):tI [.sh (FD fl),.sh (.int h),.sh (.int k)]=.ok (!decide (x.kd=k)):=by
 obtain⟨vs,w,ex⟩:=yo f.g;have hi:=(il.mp f.x1).1;have hv:(i:Int)∈vs:=w.all f.g.ni.wk i (i:Int) (by omega) (by omega) (by omega)
 have hh:h=hd hs (i:Int):=by
  have:=jr f.g.m (v:=(i:Int)) (by omega) (by omega)
  rw[aaW,f.x2]at this;exact SZ this
 have hm:h∈vs.map (hd hs):=by rw[hh];exact SC.mpr ⟨_,hv,rfl⟩
 refine(iu (b:=false) (gu (b:=true) (aT (c6 rfl (oa h)))) (iu (b:=false) (aT (aK rfl ex (by rw[z7,M0 hm];rfl))) (aT (aK (bJ rfl rfl f.at'.kind) rfl (ne_int _ _))))).trans ?_
 simp
theorem Ey(g:GF nds hs D' root many fl){h k:Int}(hn:h∉hs):tI [.sh (FD fl),.sh (.int h),.sh (.int k)]=.ok true:=by
 obtain⟨vs,w,ex⟩:=yo g
 have hm:h∉vs.map (hd hs):=λhm=>by
  obtain⟨v,hv,rfl⟩:=SC.mp hm;have:=w.rg v (by simpa using hv)
  exact hn (GM (jr g.m (v:=v) this.1 this.2))
 exact(iu (b:=false) (c:=true) (gu (b:=true) (aT (c6 rfl (oa h)))) (Ay (aT (aK rfl ex (by rw[z7,KI hm];rfl))))).trans rfl
theorem qf(g:GF nds hs D' root many fl){h k:Int}(hn:h∉hs):dg [FD fl,.int h,.int k]=.exc NC:=jG (Ey g hn)
theorem Nx.rr(f:Nx nds hs D' root many fl i h x ps){k:Int}(hk:x.kd≠k):dg [FD fl,.int h,.int k]=.exc NC:=jG ((f.test k).trans (by rw[KI hk];rfl))
theorem Nx.r0(f:Nx nds hs D' root many fl i h x ps):dg [FD fl,.int h,.int x.kd]=.bad:=wJ ((f.test _).trans (by rw[M0 rfl];rfl))
theorem Nx.m0(f:Nx nds hs D' root many fl i h x ps):gT [FD fl,.int h,.int x.kd]=.ok .aP:=by
 rw[gT];have e:=dk (a:=kU) (ρ:=[.sh (FD fl),.sh (.int h),.sh (.int x.kd)]) ((f.test _).trans (by rw[M0 rfl];rfl))
 show(bH tI _ _ [.sh (FD fl),.sh (.int h),.sh (.int x.kd)]).bind _=_;rw[e];rfl
theorem zG{a b c:Int}(h:dg [FD fl,.int a,.int 2]=.exc NC):bG [.int 0,FD fl,.int a,.int b,.int c]=.ok (.bl true):=si (lD h)
theorem yL{a b c:Int}(h:dg [FD fl,.int a,.int 2]=.exc NC):bG [.int 1,FD fl,.int a,.int b,.int c]=.ok (.bl true):=wR (lD h)
theorem BJ{a b c:Int}(h:dg [FD fl,.int a,.int 1]=.exc NC):bG [.int 2,FD fl,.int a,.int b,.int c]=.ok (.bl true):=BI (lD h)
theorem AK{a b c:Int}(h:dg [FD fl,.int a,.int 1]=.exc NC):bG [.int 3,FD fl,.int a,.int b,.int c]=.ok (.bl true):=AH (lD h)
end
theorem Kl{a b:Ex}{ρ:En}{x y:Nat}(ha:a ρ=.ok (.int (x:Int)))(hb:b ρ=.ok (.int (y:Int))):e2 pU a b ρ=.ok (.int ((min x y:Nat):Int)):=aK ha hb (by
 show R.ok (D.int (if(y:Int)<(x:Int)then(y:Int)else(x:Int)))=_
 congr 2;split<;>omega)
theorem Jl{ks ws:tx}{b w:Int}(nd:ks.Nodup)(hb:bP b ks ws=some w)(hm:b∈ks):bP b (cw ks) ((cD ks ws).map (·.2))=some w:=by
 obtain⟨t,ht⟩:=Z6 ((eI ks).mem_iff.mpr hm);refine mW ((eI ks).nodup_iff.mpr nd) ht ?_;unfold cD;rw[Pv,xa,ht];show some ((bP b ks ws).getD 0)=_;rw[hb];rfl
section
variable{nds:List Nd}{hs:tx}{D':List (tx)}{root many:Int}{fl:bF}{i:Nat}{h:Int}{ks vs ws ps:tx}
theorem Nx.ref{x:Nd}(f:Nx nds hs D' root many fl i h x ps){ρ:En}{k:Ex}(h0:aa 0 ρ=.ok (FD fl))(h1:aa 1 ρ=.ok (.int h))(hk:k ρ=.ok (.int x.kd)):dm dg [aa 0,aa 1,k] ρ=.bad/\jx (aw gT [aa 0,aa 1,k]) ρ=.ok (.next ρ):=by
 refine⟨?_,Gp (nS h0 h1 hk f.m0)⟩;unfold dm;simp only[eList,h0,h1,hk,R.aH];exact f.r0
theorem Nx.put(f:Nx nds hs D' root many fl i h (.fi ws) ps){p v:Int}(hp:p<0\/((min ws.length 63:Nat):Int)<p):bG [.int 2,FD fl,.int h,.int p,.int v]=.ok (.bl true):=by
 refine BI ?_;unfold kj;show dN _ _ _ [.sh (FD fl),.sh (.int h),.sh (.int p),.sh (.int v),.un,.un,.un,.un]=_;refine(mJ (ρ:=[.sh (FD fl),.sh (.int h),.sh (.int p),.sh (.int v),.un,.un,.un,.un]) (f.ref (k:=eC fF) rfl rfl rfl).1 (f.ref (k:=eC fF) rfl rfl rfl).2).trans ?_;refine(qx (bt (bJ rfl rfl f.at'.size))).trans ?_;refine jG (Ay ((gu (b:=false) (aT ((nS rfl rfl (Kl (x:=ws.length) (y:=63) rfl rfl) x9).trans ?_))).trans rfl));rcases hp with hp|hp
 ·rw[KI (show ¬ 0<=p by omega)];rfl
 ·rw[KI (show ¬p<=((min ws.length 63:Nat):Int) by omega),acI]
theorem Nx.cut(f:Nx nds hs D' root many fl i h (.fi ws) ps){n v:Int}(hp:n<0\/(ws.length:Int)<n):bG [.int 3,FD fl,.int h,.int n,.int v]=.ok (.bl true):=by
 refine AH ?_;unfold kL;show dN _ _ _ [.sh (FD fl),.sh (.int h),.sh (.int n)]=_;refine(mJ (ρ:=[.sh (FD fl),.sh (.int h),.sh (.int n)]) (f.ref (k:=eC fF) rfl rfl rfl).1 (f.ref (k:=eC fF) rfl rfl rfl).2).trans ?_;refine jG ((gu (b:=false) (aT ((nS rfl rfl (bJ rfl rfl f.at'.size) x9).trans ?_))).trans rfl);rcases hp with hp|hp
 ·rw[KI (show ¬ 0<=n by omega)];rfl
 ·rw[KI (show ¬n<=(((Nd.fi ws).len:Nat):Int) by show ¬n<=(ws.length:Int);omega),acI]
noncomputable abbrev qg(hs ks vs:tx):D:=.aL ((cw ks).map .inl) (((cD ks (vs.map (hd hs))).map (·.2)).map .int)
theorem Nx.dict(f:Nx nds hs D' root many fl i h (.fo ks vs) ps):dw (.lst ((ij hs (.fo ks vs)).map pD))=.ok (qg hs ks vs):=by
 have a:=f.at';have:=tW (ps:=cD ks (vs.map (hd hs))) (ze a.ok.2.2.2.1) (by rw[ly];have:=a.ok.2.1;omega)
 rw[qu]at this;exact this
theorem Nx.inD(f:Nx nds hs D' root many fl i h (.fo ks vs) ps)(b:Int):g8 (.int b) (qg hs ks vs)=.ok (.bl (decide (b∈ks))):=by
 show R.ok (D.bl (cJ (.inl b) ((cw ks).map .inl) (((cD ks (vs.map (hd hs))).map (·.2)).map .int)).isSome)=_
 rw[o9 (by simp[cD]),rn]
 simp only[(eI ks).mem_iff]
theorem Nx.zD(f:Nx nds hs D' root many fl i h (.fo ks vs) ps){ρ:En}{e:Ex}(he:e ρ=.ok (.lst ((ij hs (.fo ks vs)).map pD))):e1 cC e ρ=.ok (.int (ks.length:Int)):=by
 rw[kC he,j1];show R.ok (D.int ((cD ks (vs.map (hd hs))).length:Int))=_;rw[ly]
noncomputable abbrev vz:bg:=ck (bD (tV (aw eK [aa 3]))) (tV (e2 d4 (aa 3) (jo [eC fF,eC du])))
noncomputable abbrev Gq:bg:=ck (bD (tV (aw ic [aa 2]))) (ck (tV (e2 oEq (aa 2) (eC (.int 0)))) (ck (tV (e2 g8 (aa 2) (e1 dw (aa 4)))) (tV (e2 kH (e1 cC (aa 4)) (eC rB)))))
noncomputable abbrev qt(fl:bF)(h b c:Int)(s4:Slot):En:=[.sh (FD fl),.sh (.int h),.sh (.int b),.sh (.int c),s4,.un,.un,.un,.un,.un]
theorem Nx.A9(f:Nx nds hs D' root many fl i h (.fo ks vs) ps){b c:Int}:jI [FD fl,.int h,.int b,.int c]=dN (dA (Str.ofString "NoChange") vz) (bH vz kU bu) (dA (Str.ofString "NoChange") Gq) (qt fl h b c (.sh (.lst ((ij hs (.fo ks vs)).map pD)))):=by
 unfold jI;show dN _ _ _ (qt fl h b c .un)=_;refine(mJ (ρ:=qt fl h b c .un) (f.ref (k:=eC du) rfl rfl rfl).1 (f.ref (k:=eC du) rfl rfl rfl).2).trans ?_;exact(qx (bt (bJ rfl rfl f.at'.pairs))).trans rfl
theorem Nx.Kc(f:Nx nds hs D' root many fl i h (.fo ks vs) ps){b c:Int}(hc:c=0\/c=3):bG [.int 0,FD fl,.int h,.int b,.int c]=.ok (.bl true):=by
 refine si (f.A9.trans (lD (jG ((iu (b:=false) (c:=true) (gu (b:=true) (aT (c6 rfl (oa c)))) (aT (aK rfl rfl ?_))).trans rfl))));rcases hc with rfl|rfl<;>kernel_rfl
theorem Nx.v5(f:Nx nds hs D' root many fl i h (.fo ks vs) ps){b c:Int}(hc:c=1\/c=2)(hb:0<=b/\b<4294967296)(hn:b=0\/b∈ks\/32<=ks.length):bG [.int 0,FD fl,.int h,.int b,.int c]=.ok (.bl true):=by
 have hk:vz (qt fl h b c (.sh (.lst ((ij hs (.fo ks vs)).map pD))))=.ok false:=(iu (b:=false) (c:=false) (gu (b:=true) (aT (c6 rfl (oa c)))) (aT (aK rfl rfl (by rcases hc with rfl|rfl<;>kernel_rfl)))).trans rfl
 refine si (f.A9.trans ((mJ (wJ hk) (dk hk)).trans (jG ?_)));refine(iu (b:=false) (gu (b:=true) (aT (c6 rfl (z8 hb.1 hb.2)))) (iu (aT (cG rfl rfl)) (iu (aT (aK rfl (cR rfl f.dict) (f.inD b))) (aT (FT (f.zD rfl) rfl))))).trans ?_;congr 1;rcases hn with hn|hn|hn
 ·rw[M0 hn];rfl
 ·rw[M0 hn];simp
 ·rw[M0 (show(32:Int)<=(ks.length:Int) by omega)];simp
noncomputable abbrev E7(fl:bF)(h b:Int)(s3 s4:Slot):En:=[.sh (FD fl),.sh (.int h),.sh (.int b),s3,s4,.un,.un]
noncomputable abbrev wF:bg:=ck (bD (tV (aw ic [aa 2]))) (tV (e2 d4 (aa 2) (e1 dw (aa 3))))
theorem Nx.zN(f:Nx nds hs D' root many fl i h (.fo ks vs) ps){b:Int}:j5 [FD fl,.int h,.int b]=dN (dA (Str.ofString "NoChange") wF) (bH wF kU bu) (g9 (aS (aA 4) (e2 aO (e1 dw (aa 3)) (aa 2))) (dA (Str.ofString "NoChange") (tV (e2 ia (e1 cC (aw dR [aa 0,aa 4])) (eC (.int 0)))))) (E7 fl h b (.sh (.lst ((ij hs (.fo ks vs)).map pD))) .un):=by
 unfold j5;show dN _ _ _ (E7 fl h b .un .un)=_;refine(mJ (ρ:=E7 fl h b .un .un) (f.ref (k:=eC du) rfl rfl rfl).1 (f.ref (k:=eC du) rfl rfl rfl).2).trans ?_;exact(qx (bt (bJ rfl rfl f.at'.pairs))).trans rfl
theorem Nx.gone(f:Nx nds hs D' root many fl i h (.fo ks vs) ps){b:Int}(hb:0<=b/\b<4294967296):wF (E7 fl h b (.sh (.lst ((ij hs (.fo ks vs)).map pD))) .un)=.ok (!decide (b∈ks)):=
 (iu (b:=false) (gu (b:=true) (aT (c6 rfl (z8 hb.1 hb.2)))) (aT (aK rfl (cR rfl f.dict) (show(g8 (.int b) (qg hs ks vs)).bind iK=_ from by rw[f.inD b];rfl)))).trans rfl
theorem Nx.noName(f:Nx nds hs D' root many fl i h (.fo ks vs) ps){b c:Int}(hb:0<=b/\b<4294967296)(hn:b∉ks):bG [.int 1,FD fl,.int h,.int b,.int c]=.ok (.bl true):=by
 have:=f.gone hb;rw[KI hn]at this;exact wR (f.zN.trans (lD (jG this)))
theorem Nx.full(f:Nx nds hs D' root many fl i h (.fo ks vs) ps){b c v:Int}{j:Nat}{Oa Oo U9:tx}(hb:0<=b/\b<4294967296)(hn:b∈ks)(hv:bP b ks (vs.map (hd hs))=some v)(f':Nx nds hs D' root many fl j v (.fo Oa Oo) U9)(h0:Oa≠[]):bG [.int 1,FD fl,.int h,.int b,.int c]=.ok (.bl true):=by
 have hg:=f.gone hb;rw[M0 hn]at hg;have hp:0<Oa.length:=ace.mpr h0;have hx:aO (qg hs ks vs) (.int b)=.ok (.int v):=og D.int (Jl f.at'.ok.2.2.2.1 hv hn);refine wR (f.zN.trans ((mJ (wJ hg) (dk hg)).trans ?_));refine(qx (bt (aK (cR rfl f.dict) rfl hx))).trans ?_;refine jG (aT ((rD (f'.zD (bJ rfl rfl f'.at'.pairs)) rfl).trans ?_));rw[M0 (by omega)]
end
theorem dU{f:List D->R D}{a b c d e:Ex}{ρ:En}{x y z w v r:D}(ha:a ρ=.ok x)(hb:b ρ=.ok y)(hc:c ρ=.ok z)(hd:d ρ=.ok w)(he:e ρ=.ok v)(h:f [x,y,z,w,v]=.ok r):aw f [a,b,c,d,e] ρ=.ok r:=by
 simp only[aw,eList,ha,hb,hc,hd,he,R.aH];exact h
theorem ox{a:Ex}{ρ:En}{xs:tx}(h:a ρ=.ok (L xs)):e1 cC a ρ=.ok (.int xs.length):=by rw[kC h,j1]
theorem wa{a b:Ex}{ρ:En}{xs:tx}{v:Int}(ha:a ρ=.ok (L xs))(hb:b ρ=.ok (.int v))(h:0<=v):cA a (some b) none ρ=.ok (L (xs.drop v.toNat)):=by
 simp only[cA,ha,hb,gR,R.aH];show R.ok (D.lst (cut (xs.map .int) (some v) none))=_;rw[Dg _ h, <-abC]
theorem tR{a b:Ex}{ρ:En}{xs ys:tx}(ha:a ρ=.ok (L xs))(hb:b ρ=.ok (L ys))(h:xs.length+ys.length<=1000):e2 aQ a b ρ=.ok (L (xs++ys)):=aK ha hb (by rw[G.lS (by simp only[j1];omega),L,PC])
theorem mH{ρ:En}{e:Ex}{a b:Sm}(h:e ρ=.ok (.bl true)):bH (bD (tV e)) a bu ρ=.ok (.next ρ):=dk ((gu (b:=true) (aT h)).trans rfl)
theorem pz{ρ:En}{e e':Ex}{a:Sm}(h:e ρ=.ok (.bl true))(h':e' ρ=.ok (.bl true)):bH (ck (bD (tV e)) (bD (tV e'))) a bu ρ=.ok (.next ρ):=dk ((iu (gu (b:=true) (aT h)) (gu (b:=true) (aT h'))).trans rfl)
theorem tQ{ρ:En}{t:bg}{e:Ex}{a:Sm}{b:Bool}(ht:t ρ=.ok b)(h:b=true->e ρ=.ok (.bl true)):bH (eO t (bD (tV e))) a bu ρ=.ok (.next ρ):=by
 cases b with
 |true=>exact dk ((jm ht (gu (b:=true) (aT (h rfl)))).trans rfl)
 |false=>exact dk (nR ht)
section
variable{nds:List Nd}{hs:tx}{D':List (tx)}{root many:Int}{fl:bF}
theorem yu(g:GF nds hs D' root many fl):D'.flatten.length<=200:=by
 have h2:=g.h2;have h1:=g.h1;have hr:=g.hr;have:=ql 200 (KB.mp g.m.nd).2.1 λq hq=>by have:=g.m.rg q (Do _ hq);omega
 exact this
theorem Lk(g:GF nds hs D' root many fl){z:D}:∃s4,forL (aA 4) my (hs.map .int) [.sh (mD hs nds D'),.sh (FD fl),.sh z,.sh (L []),.un,.un,.un]=.ok (.next [.sh (mD hs nds D'),.sh (FD fl),.sh z,.sh (L D'.flatten),s4,.un,.un]):=by
 obtain⟨ρ',eL,s4,rfl⟩:=gO (tg:=aA 4) (body:=my) (λi ρ=>∃s4,ρ=[.sh (mD hs nds D'),.sh (FD fl),.sh z,.sh (L (D'.take i).flatten),s4,.un,.un]) (ds:=hs.map .int) 0 (by
  rintro i d hd ρ ⟨s4,rfl⟩;rw[Z8];have hi:i<hs.length:=by have:=(il.mp hd).1;simpa using this
  obtain⟨x,h,ps,x1,x2,x3⟩:=g.m.all (i:=i) (by rw[<-g.m.hl];exact hi)
  rw[xa,x2]at hd;cases hd;have ht:D'.take (i+1)=D'.take i++[ps]:=by rw[aaE,x3];rfl
  have hb:(D'.take i).flatten.length+ps.length<=200:=by
   have e:=congrArg (λl=>l.flatten.length) (adj (i+1) D');have:=yu g;rw[ht]at e;simp only[aaQ,Fk,S6,abc,On]at e;omega
  refine⟨_,rfl,_,?_,.sh (.int h),rfl⟩;rw[my,ht,aaQ,S6,abc,On];exact bt (tR rfl (aK (aK rfl rfl (g.m.ix x1 x2 x3)) rfl rfl) (by omega))) (ρ:=[.sh (mD hs nds D'),.sh (FD fl),.sh z,.sh (L []),.un,.un,.un]) ⟨.un,rfl⟩
 refine⟨s4,eL.trans ?_⟩;rw[Z8,j1,SB (by rw[g.m.hl,g.m.pl];exact IR _)]
theorem Bo(g:GF nds hs D' root many fl){s0 s2 s3 s5 s6:Slot}{q:Int}(hq:q∉hs):kI [s0,.sh (FD fl),s2,s3,.sh (.int q),s5,s6]=.ok (.next [s0,.sh (FD fl),s2,s3,.sh (.int q),s5,s6]):=by
 rw[kI];rw[az (pz (dU rfl rfl rfl rfl rfl (zG (qf g hq))) (dU rfl rfl rfl rfl rfl (yL (qf g hq))))];rw[az (pz (dU rfl rfl rfl rfl rfl (BJ (qf g hq))) (dU rfl rfl rfl rfl rfl (AK (qf g hq))))];rfl
theorem Ft(g:GF nds hs D' root many fl)(z:Int):m4 [mD hs nds D',FD fl,.int z]=.ok (.bl true):=by
 have h1:=g.h1;have h2:=g.h2;have hr:=g.hr;have hlen:=g.f.len;have VC:=yu g;obtain⟨s4,eL⟩:=Lk g (z:=.int z);have hk:=UF (z / 7) (show((D'.flatten.length:Int)+1)≠0 by omega)
 generalize hS:[0,13,14,many,many+z / 7 % 1000]++(D'.flatten.drop (z / 7 % ((D'.flatten.length:Int)+1)).toNat).take 1++(pk root many.toNat (nums hs D')).take 1=S
 have ZU:5<=S.length/\S.length<=7:=by
  rw[<-hS];simp only[Fk,Re,PK,aaA];omega
 have Wz:∀q∈S,q∉hs:=λq hq hh=>by
  have r:=g.m.rg q (JU _ hh);rw[<-hS]at hq;rcases FS.mp hq with hq|hq
  ·rcases FS.mp hq with hq|hq
   ·have:=UF (z / 7) (show(1000:Int)≠0 by decide)
    simp only[KM,List.not_mem_nil,or_false]at hq;omega
   ·have hf:q∈D'.flatten:=abh (aaI hq)
    exact(KB.mp g.m.nd).2.2 q hh q hf rfl
  ·have:=(DN.mp (aaI hq)).2.2
   exact this ((qm (by rw[g.m.hl,g.m.pl])).mem_iff.mpr (JU _ hh))
 obtain⟨q1,m1,Qh⟩:=p7 (xs:=S) (i:=z % (S.length:Int)) (UF _ (by omega)) (aac _ (by omega))
 obtain⟨q2,m2,NW⟩:=p7 (xs:=S) (i:=z / 7 % (S.length:Int)) (UF _ (by omega)) (aac _ (by omega))
 rw[m4];refine bL ?_;rw[az (ρ':=[.sh (mD hs nds D'),.sh (FD fl),.sh (.int z),.sh (L []),.un,.un,.un]) rfl];rw[az (dE (oI (hs:=hs) rfl) eL)];have Rx:∀ {ρ:En},aa 1 ρ=.ok (FD fl)->e1 cC (aa 1) ρ=.ok (.int many):=λh=>by rw[kC h,j1,hlen]
 rw[az (bt (bJ rfl (Rx rfl) (Bm g.m hr h1 (by omega) g.ni)))]
 show aN _ [.sh (mD hs nds D'),.sh (FD fl),.sh (.int z),.sh (L D'.flatten),s4,.sh (L (mk root many.toNat (nums hs D'))),.un]=_
 rw[az (bt (d:=L ([0,13,14,many,many+z / 7 % 1000]++(D'.flatten.drop (z / 7 % ((D'.flatten.length:Int)+1)).toNat).take 1)) (tR (by
  have g1:e1 cC (aa 1) [.sh (mD hs nds D'),.sh (FD fl),.sh (.int z),.sh (L D'.flatten),s4,.sh (L (mk root many.toNat (nums hs D'))),.un]=.ok (.int many):=Rx rfl;have g2:e2 aQ (e1 cC (aa 1)) (e2 oMod (e2 bz (aa 2) (eC (.int 7))) (eC (.int 1000))) [.sh (mD hs nds D'),.sh (FD fl),.sh (.int z),.sh (L D'.flatten),s4,.sh (L (mk root many.toNat (nums hs D'))),.un]=.ok (.int (many+z / 7 % 1000)):=bK g1 (bM (b8 rfl rfl (by decide)) rfl (by decide))
  simp only[bA,eList,g1,g2,R.aH,eC];rfl) (oz (v:=1) (wa rfl (bM (b8 rfl rfl (by decide)) (bK (ox rfl) rfl) (by omega)) hk) rfl) (by simp only[Re,PK,aaA];omega)))]
 rw[az (bt (d:=L S) (by
  rw[<-hS];exact tR rfl (oz (v:=1) (C1 g (Rx rfl)) rfl) (by simp only[Fk,Re,PK,aaA];omega)))]
 show aN _ [.sh (mD hs nds D'),.sh (FD fl),.sh (.int z),.sh (L D'.flatten),s4,.sh (L (mk root many.toNat (nums hs D'))),.sh (L S)]=_
 rw[az (dE (ds:=[.int q1,.int q2]) (mE (by
  have g1:e2 aO (aa 6) (e2 oMod (aa 2) (e1 cC (aa 6))) [.sh (mD hs nds D'),.sh (FD fl),.sh (.int z),.sh (L D'.flatten),s4,.sh (L (mk root many.toNat (nums hs D'))),.sh (L S)]=.ok (.int q1):=aK rfl (bM rfl (ox rfl) (by omega)) (iq Qh)
  have g2:e2 aO (aa 6) (e2 oMod (e2 bz (aa 2) (eC (.int 7))) (e1 cC (aa 6))) [.sh (mD hs nds D'),.sh (FD fl),.sh (.int z),.sh (L D'.flatten),s4,.sh (L (mk root many.toNat (nums hs D'))),.sh (L S)]=.ok (.int q2):=aK rfl (bM (b8 rfl rfl (by decide)) (ox rfl) (by omega)) (iq NW)
  simp only[bA,eList,g1,g2,R.aH])) (r:=.ok (.next [.sh (mD hs nds D'),.sh (FD fl),.sh (.int z),.sh (L D'.flatten),.sh (.int q2),.sh (L (mk root many.toNat (nums hs D'))),.sh (L S)])) (by
  show(kI [.sh (mD hs nds D'),.sh (FD fl),.sh (.int z),.sh (L D'.flatten),.sh (.int q1),.sh (L (mk root many.toNat (nums hs D'))),.sh (L S)]).bind _=_;rw[Bo g (Wz q1 m1)];show(kI [.sh (mD hs nds D'),.sh (FD fl),.sh (.int z),.sh (L D'.flatten),.sh (.int q2),.sh (L (mk root many.toNat (nums hs D'))),.sh (L S)]).bind _=_;rw[Bo g (Wz q2 m2)];rfl))]
 exact dP (bI rfl)
variable{i:Nat}{h:Int}{ks vs ws ps:tx}
theorem Nx.file(f:Nx nds hs D' root many fl i h (.fi ws) ps)(z:Int):nJ [mD hs nds D',FD fl,.int h,.int z]=.ok (.bl true):=by
 obtain⟨c,hc,ec⟩:∃c:Int,(0<c/\c<1000000000000)/\aO (.lst [.int 1,.int 70,.int 4294967296]) (.int (z / 3 % 3))=.ok (.int c):=by
  have h4:z / 3 % 3=0\/z / 3 % 3=1\/z / 3 % 3=2:=by omega
  rcases h4 with h|h|h<;>rw[h]
  ·exact⟨1,by decide,rfl⟩
  ·exact⟨70,by decide,rfl⟩
  ·exact⟨4294967296,by decide,rfl⟩
 have hz:=UF z (show c≠0 by omega)
 rw[nJ];refine bL ?_;show aN _ [.sh (mD hs nds D'),.sh (FD fl),.sh (.int h),.sh (.int z),.un,.un,.un]=_;rw[az (bt (d:=.int (ws.length:Int)) (ox (aK (aK rfl rfl (f.g.m.ix f.x1 f.x2 f.x3)) rfl rfl)))];show aN _ [.sh (mD hs nds D'),.sh (FD fl),.sh (.int h),.sh (.int z),.sh (.int (ws.length:Int)),.un,.un]=_;rw[az (bt (bK (bK rfl rfl) (bM rfl (aK (x:=.lst [.int 1,.int 70,.int 4294967296]) rfl (bM (b8 rfl rfl (by decide)) rfl (by decide)) ec) hc.1)))]
 generalize YA:(ws.length:Int)+1+z % c=far;show aN _ [.sh (mD hs nds D'),.sh (FD fl),.sh (.int h),.sh (.int z),.sh (.int (ws.length:Int)),.sh (.int far),.un]=_;rw[az (pz (dU rfl rfl rfl rfl rfl (f.put (.inr (by omega)))) (dU rfl rfl rfl rfl rfl (f.cut (.inr (by omega)))))]
 rw[az (tQ (aT (cG rfl rfl)) λhb=>dU rfl rfl rfl rfl rfl (f.put (.inr (by omega))))]
 have turn:∀ {q:Int} {s3 s4 s5:Slot},q<0->ky [.sh (mD hs nds D'),.sh (FD fl),.sh (.int h),s3,s4,s5,.sh (.int q)]=.ok (.next [.sh (mD hs nds D'),.sh (FD fl),.sh (.int h),s3,s4,s5,.sh (.int q)]):=λ{q s3 s4 s5} hq=>by
  rw[ky];exact pz (dU rfl rfl rfl rfl rfl (f.put (.inl hq))) (dU rfl rfl rfl rfl rfl (f.cut (.inl hq)))
 rw[az (dE (ds:=[.int (-1),.int (0 - far)]) (mE rfl) (r:=.ok (.next [.sh (mD hs nds D'),.sh (FD fl),.sh (.int h),.sh (.int z),.sh (.int (ws.length:Int)),.sh (.int far),.sh (.int (0 - far))])) (by
  show(ky [.sh (mD hs nds D'),.sh (FD fl),.sh (.int h),.sh (.int z),.sh (.int (ws.length:Int)),.sh (.int far),.sh (.int (-1))]).bind _=_;rw[turn (by decide)]
  show(ky [.sh (mD hs nds D'),.sh (FD fl),.sh (.int h),.sh (.int z),.sh (.int (ws.length:Int)),.sh (.int far),.sh (.int (0 - far))]).bind _=_;rw[turn (by omega)]
  rfl))]
 exact dP (bI (pM (x:=true) (dU rfl rfl rfl rfl rfl (zG (f.rr (show(1:Int)≠2 by decide)))) (dU rfl rfl rfl rfl rfl (yL (f.rr (show(1:Int)≠2 by decide))))))
noncomputable abbrev gw(hs ks vs:tx):D:=.aL (ks.map .inl) ((vs.map (hd hs)).map .int)
theorem Nx.turn(f:Nx nds hs D' root many fl i h (.fo ks vs) ps){z b:Int}{s5 s7:Slot}(hb:b∈ks):∃N9,kG [.sh (mD hs nds D'),.sh (FD fl),.sh (.int h),.sh (.int z),.sh (gw hs ks vs),s5,.sh (.int b),s7]=.ok (.next [.sh (mD hs nds D'),.sh (FD fl),.sh (.int h),.sh (.int z),.sh (gw hs ks vs),s5,.sh (.int b),N9]):=by
 have ok:=f.at'.ok;have ZG:=ok.2.2.2.2 b hb;obtain⟨t,v,_,hv,hf⟩:=m9 ok.1 ok.2.2.2.1 hb;have RX:=ok.2.2.1 v (GM hv);have f':Nx nds hs D' root many fl v.toNat (hd hs v) (xn nds v) (pp D' v):=⟨f.g,lO RX.1 RX.2,jr f.g.m RX.1 RX.2,sD f.g.m RX.1 RX.2⟩;have WQ:bP b ks (vs.map (hd hs))=some (hd hs v):=by rw[wC,hf];rfl
 have en:e2 aO (aa 0) (e2 aO (aa 4) (aa 6)) [.sh (mD hs nds D'),.sh (FD fl),.sh (.int h),.sh (.int z),.sh (gw hs ks vs),s5,.sh (.int b),s7]=.ok (eD (ent hs (xn nds v) (pp D' v))):=aK rfl (aK rfl rfl (og D.int WQ)) (f.g.m.ix f'.x1 f'.x2 f'.x3);refine⟨.sh (eD (ent hs (xn nds v) (pp D' v))),?_⟩;rw[kG];rw[az (mH (b:=bu) (dU rfl rfl rfl rfl (bK rfl (bM (b8 rfl rfl (by decide)) rfl (by decide))) (f.v5 (by omega) (by omega) (.inr (.inl hb)))))]
 rw[az (bt en)];show aN _ [.sh (mD hs nds D'),.sh (FD fl),.sh (.int h),.sh (.int z),.sh (gw hs ks vs),s5,.sh (.int b),.sh (eD (ent hs (xn nds v) (pp D' v)))]=_;generalize xn nds v=x at f' ⊢;refine(az (r:=[]) (ρ':=[.sh (mD hs nds D'),.sh (FD fl),.sh (.int h),.sh (.int z),.sh (gw hs ks vs),s5,.sh (.int b),.sh (eD (ent hs x (pp D' v)))]) ?_).trans rfl;cases x with
 |fi ws=>exact dk (nR (aT ((cG (i:=1) (u:=2) (aK rfl rfl rfl) rfl).trans rfl)))
 | fo Oa Oo=>
  have t1:tV (e2 oEq (e2 aO (aa 7) (eC (.int 0))) (eC (.int 2))) [.sh (mD hs nds D'),.sh (FD fl),.sh (.int h),.sh (.int z),.sh (gw hs ks vs),s5,.sh (.int b),.sh (eD (ent hs (.fo Oa Oo) (pp D' v)))]=.ok true:=aT ((cG (i:=2) (u:=2) (aK rfl rfl rfl) rfl).trans rfl);have t2:tV (e2 lZ (e2 aO (aa 7) (eC (.int 1))) (nt [] [])) [.sh (mD hs nds D'),.sh (FD fl),.sh (.int h),.sh (.int z),.sh (gw hs ks vs),s5,.sh (.int b),.sh (eD (ent hs (.fo Oa Oo) (pp D' v)))]=.ok (!(Oa.map (Sum.inl:Int->Ky)).isEmpty):=aT (aK (x:=.aL (Oa.map .inl) ((Oo.map (hd hs)).map .int)) (aK rfl rfl rfl) rfl rfl);cases Oa with
  |nil=>exact dk ((jm (c:=false) t1 (nR t2)).trans rfl)
  |cons k1 Oa=>exact dk ((jm (c:=false) t1 ((jm t2 (gu (b:=true) (aT (dU rfl rfl rfl rfl rfl (f.full (by omega) hb WQ f' (by simp)))))).trans rfl)).trans rfl)
theorem Nx.folder(f:Nx nds hs D' root many fl i h (.fo ks vs) ps)(z:Int):oO [mD hs nds D',FD fl,.int h,.int z]=.ok (.bl true):=by
 have ok:=f.at'.ok;have RU:=ok.2.1;obtain⟨w,hw,ew⟩:=Aj z;have hz:=UF z (show((ks.length:Int)+1)≠0 by omega)
 rw[oO];refine bL ?_;show aN _ [.sh (mD hs nds D'),.sh (FD fl),.sh (.int h),.sh (.int z),.un,.un,.un,.un]=_;rw[az (bt (d:=gw hs ks vs) (aK (aK rfl rfl (f.g.m.ix f.x1 f.x2 f.x3)) rfl rfl))];rw[az (bt (c6 rfl ew))];show aN _ [.sh (mD hs nds D'),.sh (FD fl),.sh (.int h),.sh (.int z),.sh (gw hs ks vs),.sh (.int w),.un,.un]=_;rw[az (mH (b:=bu) (dU rfl rfl rfl rfl (bK rfl (bM rfl rfl (by decide))) (f.v5 (by omega) (by decide) (.inl rfl))))]
 rw[az (mH (b:=bu) (dU rfl rfl rfl rfl (f9 rfl (bM rfl rfl (by decide)) (by decide) (ff (by omega) (by omega))) (f.Kc (by omega))))]
 rw[az (tQ (b:= !decide (w∈ks)) (aT (aK rfl rfl (by
  show(R.ok (D.bl (cJ (.inl w) (ks.map .inl) ((vs.map (hd hs)).map .int)).isSome)).bind iK=_;rw[o9 (by simp[ok.1]),rn];rfl))) λhb=>dU rfl rfl rfl rfl rfl (f.noName (by omega) (by simpa using hb)))]
 have lB:∀ {s6 s7:Slot},e1 cz (aa 4) [.sh (mD hs nds D'),.sh (FD fl),.sh (.int h),.sh (.int z),.sh (gw hs ks vs),.sh (.int w),s6,s7]=.ok (.int (ks.length:Int)):=λ{s6 s7}=>cR rfl (by show R.ok (D.int ((ks.map (Sum.inl:Int->Ky)).length:Int))=_;rw[j1])
 rw[az (tQ (aT (cG lB rfl)) λhb=>dU rfl rfl rfl rfl rfl (f.v5 (.inl rfl) (by omega) (.inr (.inr (by have:=aaU hb;omega)))))]
 have lp:∀(bs:tx) (s6 s7:Slot),(∀b∈bs,b∈ks)->∃Of N9,forL (aA 6) kG (bs.map .int) [.sh (mD hs nds D'),.sh (FD fl),.sh (.int h),.sh (.int z),.sh (gw hs ks vs),.sh (.int w),s6,s7]=.ok (.next [.sh (mD hs nds D'),.sh (FD fl),.sh (.int h),.sh (.int z),.sh (gw hs ks vs),.sh (.int w),Of,N9]):=λbs=>by
  induction bs with
  |nil=>exact λs6 s7 _=>⟨s6,s7,rfl⟩
  | cons b bs ih=>
   intro s6 s7 hb;obtain⟨N9,e⟩:=f.turn (z:=z) (s5:=.sh (.int w)) (s7:=s7) (hb b AC);obtain⟨t6,t7,NW⟩:=ih (.sh (.int b)) N9 λq hq=>hb q (Ax _ hq);refine⟨t6,t7,?_⟩;show((R.ok [.sh (mD hs nds D'),.sh (FD fl),.sh (.int h),.sh (.int z),.sh (gw hs ks vs),.sh (.int w),.sh (.int b),s7]).bind λNm=>(kG Nm).bind _)=_;rw[R.aH,e,R.aH];exact NW
 obtain⟨t6,t7,e⟩:=lp (((cw ks).drop (z % ((ks.length:Int)+1)).toNat).take 2) .un .un λb hb=>(eI ks).mem_iff.mp (abh (aaI hb));rw[az (dE (mE (oz (v:=2) (wa (xw (ks:=ks) rfl RU) (bM rfl (bK lB rfl) (by omega)) hz) rfl)) e)]
 exact dP (bI (pM (x:=true) (dU rfl rfl rfl rfl rfl (BJ (f.rr (show(2:Int)≠1 by decide)))) (dU rfl rfl rfl rfl rfl (AK (f.rr (show(2:Int)≠1 by decide))))))
end
section
variable{nds:List Nd}{hs:tx}{D':List (tx)}{root many:Int}{fl:bF}
theorem CD(g:GF nds hs D' root many fl):∃fs:tx,o7 [mD hs nds D']=.ok (L fs)/\fs.length<=63/\∀h∈fs,∃i ws ps,Nx nds hs D' root many fl i h (.fi ws) ps:=by
 let isF:Int×Nd->Bool:=λp=>decide (p.2.kd=1)
 refine⟨((hs.zip nds).filter isF).map (·.1),?_,?_,?_⟩
 ·rw[o7]
  refine bL (bI ?_);show _=R.ok (D.lst ((((hs.zip nds).filter isF).map (·.1)).map .int))
  rw[Pv];refine jP (ds:=(hs.zip nds).map λp=>.int p.1) ?_ (by rw[j1,aam,g.m.hl];have:=g.jz;omega) ?_
  ·rw[oI (hs:=hs) rfl,show(hs.zip nds).map (λp:Int×Nd=>D.int p.1)=((hs.zip nds).map (·.1)).map .int by rw[Pv];rfl,acw (by rw[g.m.hl];exact IR _)]
  ·refine rm (u:=λp:Int×Nd=>.int p.1) (p:=isF) (v:=λp=>.int p.1) λp hp=>⟨[.sh (.int p.1),.sh (mD hs nds D')],rfl,?_,λ_=>rfl⟩
   obtain⟨j,hj⟩:=Z6 hp;rw[aaf]at hj;have QV:=(il.mp hj.2).1;obtain⟨x,h,ps,x1,x2,x3⟩:=g.m.all QV;rw[hj.2]at x1;rw[hj.1]at x2;cases x1;cases x2;show(tV _ _).bind _=_
   rw[aT (cG (i:=p.2.kd) (aK (aK rfl rfl (g.m.ix hj.2 hj.1 x3)) rfl (by
    show R.ok (D.int (p.2.mp hs).kd)=_;rw[tD])) rfl),R.aH]
   show _=R.ok (decide (p.2.kd=1));cases decide (p.2.kd=1)<;>rfl
 ·rw[j1]
  have:=adk isF (hs.zip nds);rw[aam,g.m.hl]at this;have:=g.jz;omega
 ·intro h hh
  obtain⟨p,hp,rfl⟩:=SC.mp hh;obtain⟨h1,h2⟩:=abi.mp hp;obtain⟨j,hj⟩:=Z6 h1;rw[aaf]at hj;have QV:=(il.mp hj.2).1;obtain⟨x,h,ps,x1,x2,x3⟩:=g.m.all QV;have hk:p.2.kd=1:=aaU h2;cases hx:p.2 with
  |fi ws=>rw[hx]at hj;exact⟨j,ws,ps,g,hj.2,hj.1,x3⟩
  |fo ks vs=>rw[hx]at hk;cases hk
theorem GN(g:GF nds hs D' root many fl):∃fs:tx,nh [mD hs nds D']=.ok (L fs)/\fs≠[]/\fs.length<=63/\∀h∈fs,∃i ks vs ps,Nx nds hs D' root many fl i h (.fo ks vs) ps:=by
 let isF:Int×Nd->Bool:=λp=>decide (p.2.kd=2)
 refine⟨((hs.zip nds).filter isF).map (·.1),?_,?_,?_,?_⟩
 ·rw[nh]
  refine bL (bI ?_);show _=R.ok (D.lst ((((hs.zip nds).filter isF).map (·.1)).map .int))
  rw[Pv];refine jP (ds:=(hs.zip nds).map λp=>.int p.1) ?_ (by rw[j1,aam,g.m.hl];have:=g.jz;omega) ?_
  ·rw[oI (hs:=hs) rfl,show(hs.zip nds).map (λp:Int×Nd=>D.int p.1)=((hs.zip nds).map (·.1)).map .int by rw[Pv];rfl,acw (by rw[g.m.hl];exact IR _)]
  ·refine rm (u:=λp:Int×Nd=>.int p.1) (p:=isF) (v:=λp=>.int p.1) λp hp=>⟨[.sh (.int p.1),.sh (mD hs nds D')],rfl,?_,λ_=>rfl⟩
   obtain⟨j,hj⟩:=Z6 hp;rw[aaf]at hj;have QV:=(il.mp hj.2).1;obtain⟨x,h,ps,x1,x2,x3⟩:=g.m.all QV;rw[hj.2]at x1;rw[hj.1]at x2;cases x1;cases x2;show(tV _ _).bind _=_
   rw[aT (cG (i:=p.2.kd) (aK (aK rfl rfl (g.m.ix hj.2 hj.1 x3)) rfl (by
    show R.ok (D.int (p.2.mp hs).kd)=_;rw[tD])) rfl),R.aH]
   show _=R.ok (decide (p.2.kd=2));cases decide (p.2.kd=2)<;>rfl
 ·obtain⟨k0,v0,hz⟩:=g.ni.z
  intro e;have hm:(root,Nd.fo k0 v0)∈(hs.zip nds).filter isF:=abi.mpr ⟨GM (aaf.mpr ⟨g.m.h0,hz⟩),rfl⟩;have:=(SC (f:=λp:Int×Nd=>p.1)).mpr ⟨_,hm,rfl⟩;rw[e]at this;exact nomatch this
 ·rw[j1]
  have:=adk isF (hs.zip nds);rw[aam,g.m.hl]at this;have:=g.jz;omega
 ·intro h hh
  obtain⟨p,hp,rfl⟩:=SC.mp hh;obtain⟨h1,h2⟩:=abi.mp hp;obtain⟨j,hj⟩:=Z6 h1;rw[aaf]at hj;have QV:=(il.mp hj.2).1;obtain⟨x,h,ps,x1,x2,x3⟩:=g.m.all QV;have hk:p.2.kd=2:=aaU h2;cases hx:p.2 with
  |fi ws=>rw[hx]at hk;cases hk
  |fo ks vs=>rw[hx]at hj;exact⟨j,ks,vs,ps,g,hj.2,hj.1,x3⟩
end
theorem CI{fs:tx}{z:Int}(h0:fs≠[])(hl:fs.length<=63):∃h∈fs,oV [L fs,.int z]=.ok (.int h):=by
 have hp:0<fs.length:=ace.mpr h0;have VY:(cw fs).length=fs.length:=(eI fs).length_eq;obtain⟨h,hm,e⟩:=p7 (xs:=cw fs) (i:=z % (fs.length:Int)) (UF _ (by omega)) (by rw[VY];exact aac _ (by omega))
 refine⟨h,(eI fs).mem_iff.mp hm,?_⟩;rw[oV];refine bL (bI (aK (x:=L (cw fs)) (cR rfl ?_) (bM rfl (ox rfl) (by omega)) (iq e)))
 show(match intsOf (fs.map D.int)with|some ns=>if ns.length<64 then R.ok (D.lst ((cw ns).map .int))else .bad|none=>.bad)=_
 rw[zF];exact DM (by omega)
theorem B6(ns:tx):lH [L ns]=.ok (.bl true):=by
 obtain⟨nds,hs,D',root,many,fl,g,ed⟩:=CA ns;obtain⟨fs,Yx,_,Qu⟩:=CD g;obtain⟨ds,O7,d0,Yt,QS⟩:=GN g;obtain⟨c1,YI⟩:=pB (ns:=ns) (k:=1) (by decide)
 have YJ:∀(qs:tx) (z:Int) (s3 s5 s6:Slot),(∀q∈qs,q∈fs)->∃Of,forL (aA 6) kr (qs.map .int) [.sh (L ns),.sh (mD hs nds D'),.sh (FD fl),s3,.sh (.int z),s5,s6]=.ok (.next [.sh (L ns),.sh (mD hs nds D'),.sh (FD fl),s3,.sh (.int z),s5,Of]):=λqs z s3 s5=>by
  induction qs with
  |nil=>exact λs6 _=>⟨s6,rfl⟩
  | cons q qs ih=>
   intro s6 hq;obtain⟨i,ws,ps,f⟩:=Qu q (hq q AC);obtain⟨t6,NW⟩:=ih (.sh (.int q)) λu hu=>hq u (Ax _ hu);refine⟨t6,?_⟩
   have e:kr [.sh (L ns),.sh (mD hs nds D'),.sh (FD fl),s3,.sh (.int z),s5,.sh (.int q)]=.ok (.next [.sh (L ns),.sh (mD hs nds D'),.sh (FD fl),s3,.sh (.int z),s5,.sh (.int q)]):=by
    rw[kr];exact mH (b:=bu) (w5 rfl rfl rfl (b8 rfl rfl (by decide)) (f.file _))
   show((R.ok [.sh (L ns),.sh (mD hs nds D'),.sh (FD fl),s3,.sh (.int z),s5,.sh (.int q)]).bind λNm=>(kr Nm).bind _)=_;rw[R.aH,e,R.aH];exact NW
 have turn:∀(c:Int) (s4 s5 s6:Slot),∃OB OF Of,ke [.sh (L ns),.sh (mD hs nds D'),.sh (FD fl),.sh (.int c),s4,s5,s6]=.ok (.next [.sh (L ns),.sh (mD hs nds D'),.sh (FD fl),.sh (.int c),OB,OF,Of]):=λc s4 s5 s6=>by
  obtain⟨z,UO,ez⟩:=uR c;obtain⟨h,hm,eh⟩:=CI (z:=z / 1000000) d0 Yt;obtain⟨i,ks,vs,ps,f⟩:=QS h hm;obtain⟨t6,e6⟩:=YJ ((fs.drop (z / 1000000 % 64).toNat).take 1) (z / 1000000) (.sh (.int c)) (.sh (.int h)) s6 λq hq=>abh (aaI hq);refine⟨.sh (.int (z / 1000000)),.sh (.int h),t6,?_⟩;rw[ke];rw[az (bt (c6 rfl ez))];rw[az (mH (b:=bu) (nS rfl rfl rfl (Ft g z)))];rw[az (bt (b8 rfl (u:=1000000) (show(e2 cL (eC (.int 10)) (eC (.int 6))) _=_ from rfl) (by decide)))]
  show aN _ [.sh (L ns),.sh (mD hs nds D'),.sh (FD fl),.sh (.int c),.sh (.int (z / 1000000)),s5,s6]=_;rw[az (bt (bJ (c6 rfl O7) rfl eh))];show aN _ [.sh (L ns),.sh (mD hs nds D'),.sh (FD fl),.sh (.int c),.sh (.int (z / 1000000)),.sh (.int h),s6]=_;rw[az (mH (b:=bu) (w5 rfl rfl rfl (b8 rfl rfl (by decide)) (f.folder _)))]
  rw[az (dE (mE (oz (v:=1) (wa (c6 rfl Yx) (bM rfl rfl (by decide)) (UF _ (by decide))) rfl)) e6)]
  rfl
 have lp:∀(cs:tx) (s3 s4 s5 s6:Slot),∃PH OB OF Of,forL (aA 3) ke (cs.map .int) [.sh (L ns),.sh (mD hs nds D'),.sh (FD fl),s3,s4,s5,s6]=.ok (.next [.sh (L ns),.sh (mD hs nds D'),.sh (FD fl),PH,OB,OF,Of]):=λcs=>by
  induction cs with
  |nil=>exact λs3 s4 s5 s6=>⟨s3,s4,s5,s6,rfl⟩
  | cons c cs ih=>
   intro s3 s4 s5 s6;obtain⟨OB,OF,Of,e⟩:=turn c s4 s5 s6;obtain⟨t3,t4,t5,t6,NW⟩:=ih (.sh (.int c)) OB OF Of;refine⟨t3,t4,t5,t6,?_⟩;show((R.ok [.sh (L ns),.sh (mD hs nds D'),.sh (FD fl),.sh (.int c),s4,s5,s6]).bind λNm=>(ke Nm).bind _)=_;rw[R.aH,e,R.aH];exact NW
 rw[lH];refine bL ?_;show aN _ [.sh (L ns),.un,.un,.un,.un,.un,.un]=_;rw[az (u7 (ρ':=[.sh (L ns),.sh (mD hs nds D'),.sh (FD fl),.un,.un,.un,.un]) (c6 rfl ed) rfl)];obtain⟨t3,t4,t5,t6,e⟩:=lp ([c1]++cut ns (some 2) (some 6)) .un .un .un .un
 have Ug:(cut ns (some 2) (some 6)).length<=4:=by
  unfold cut;rw[ig (by decide),ig (by decide),Re]
  omega
 have ei:fm (e2 aQ (bA [aw gN [aa 0,eC (.int 1)]]) (cA (aa 0) (some (eC (.int 2))) (some (eC (.int 6))))) [.sh (L ns),.sh (mD hs nds D'),.sh (FD fl),.un,.un,.un,.un]=.ok (([c1]++cut ns (some 2) (some 6)).map .int):=by
  refine mE ?_;have ec:aw gN [aa 0,eC (.int 1)] [.sh (L ns),.sh (mD hs nds D'),.sh (FD fl),.un,.un,.un,.un]=.ok (.int c1):=bJ rfl rfl YI;refine aK (x:=.lst [.int c1]) (y:=L (cut ns (some 2) (some 6))) (by unfold bA;simp only[eList,ec,R.aH]) ?_ ?_
  ·have g0:(aa 0) [.sh (L ns),.sh (mD hs nds D'),.sh (FD fl),.un,.un,.un,.un]=.ok (.lst (ns.map .int)):=rfl
   simp only[cA,g0,R.aH,gR,eC,j0];rw[zz]
  ·rw[G.lS (by rw[j1];show 1+_<=_;omega),PC];rfl
 rw[az (dE ei e)];exact dP (bI rfl)
end iX
end PL
set_option maxRecDepth 100000
namespace PL
open PySem PySem.Spec
open L2 (V Hp HO Cx PE PT PW PA PS bC PG cb VK TE TT TA TS TI TG Inv RelV Vals Rd aU bj upd aj Key XK Ends aR cB bq R2 EP It Turn bS)
theorem ay:XA X [] (eList []):=⟨gE ⟩
theorem af(ha:XE X e f)(hr:XA X es (eList fs))(hs:starEach (e::es) X.env=(false,eval e X.env)::starEach es X.env:=by exact a9 (by rfl)):XA X (e::es) (eList (f::fs)):=⟨dO ha.out hr.out hs⟩
theorem bR:gq X [] (aN []):=⟨zI ⟩
theorem cO:gq X [] bu:=⟨IA ⟩
theorem Ho(h:mU X es (fk is))(hn:(assignEach es X.env).length=is.length)(hc:X.calm=true:=by rfl)(O3:(assignEach es X.env).findIdx? (·.1)=none:=by exact ue (by rfl)):XG X (.Tuple es k pos) (hW is):=⟨BA hc h.out hn O3⟩
theorem jV(h:XE X e f):XX X e (xD f):=⟨yG h.out⟩
theorem Fb(d:iw X.prog X.w X.K X.mg X.base x k n m)(hr:L2.bZ j X.A)(ha:XA X (e::es) (eList fs))(hg:L2.Gl X x:=by rfl)(hk:k<=j:=by decide)(hn:fs.length=n:=by rfl)(Oz:gV x:=by decide)(he:starEach (e::es) X.env=(false,eval e X.env)::starEach es X.env:=by exact a9 (by rfl))(Og:(backTo pos (starEach es X.env)).any (·.1)=false:=by exact fU (by rfl)):XF X (.Call (.Name x p) (e::es) [] pos) (aw m fs):=⟨Ac d hr hg ha.out hk hn Oz he Og⟩
theorem k9(h:XF X e (da it n fv tg cs el)):XE X e (da it n fv tg cs el):=⟨vq h.out KR⟩
theorem Js(i:Nat)(tn:List Str)(fv:List Str)(Nu:List Nat)(ok:mn X scope tn fv Nu)(hi:XI X target iter it)(ht:∀cl C s H fp,XG (fe X scope cl C (tn++fv) s H fp) target tg)(Ph:∀cl C s H fp,pf (fe X scope cl C (tn++fv) s H fp) ifs cs)(P7:∀cl C s H fp,XE (fe X scope cl C (tn++fv) s H fp) elt el)(hN:X.N.Nodup)(PQ:∀e s,¬X.xe e s:=by exact λ_ _ h=>h)(hc:X.calm=true:=by rfl)(low:kf tn.length tg:=by exact zb (by decide))(hs:∀x,foldedSetIterable iter X.env x=pure x:=by exact vB (by rfl))(hy:X.N[i]? =some y:=by rfl)(hx:L2.Loc X.env.scope y:=by exact Or.inl rfl)(hf:X.fn y=true\/X.env.scope.names.lookup y=some .local:=by exact .inl rfl)(O2:swapsWith (.ListComp elt [⟨target,iter,ifs,0⟩] scope pos) (some (.Name y py)) spos.line X.env=pure true:=by rfl):XS X (.Assign [.Name y py] (.ListComp elt [⟨target,iter,ifs,0⟩] scope pos) spos) (fT i (da it tn.length Nu tg cs el)):=
 ⟨EM i (J7 i tn fv Nu PQ hc ok hi.out low (λcl C s H fp=>(ht cl C s H fp).out) (λcl C s H fp=>(Ph cl C s H fp).out) (λcl C s H fp=>(P7 cl C s H fp).out) hs hN hy hx hf O2)⟩
theorem uE(h:XF X e f)(hl:∀ρ d,f ρ=.ok d->∃ds,d=.lst ds):XE X e f:=⟨vq h.out hl⟩
theorem jK:pf X [] []:=⟨.nil⟩
theorem uI(h:XT X e c)(r:pf X es cs):pf X (e::es) (c::cs):=⟨.cons h.out r.out⟩
end PL
namespace PL
namespace iX
open PySem PySem.Spec
open L2 (Hp XK)
section
variable{P:Program}{w:World}{K:PySem.W.Frag}{mg:Str->S2}{base:Heap}{f:Addr}{fd:FuncData}
noncomputable def top(i:Nat):Stmt:=PySem.Challenge.pw_underfloor_k42_refused_changes.main.body.getD i (.Pass ⟨0,0,0,0⟩)
noncomputable abbrev uf:Stmt:=top 50
theorem Ld:L2.aY ["_law_script","_law_k"] ["_law_script","_law_k"] (L2.aI uf):=bB
theorem CS(F:FH P w K mg base "_law_cell_at" uf)(G':mg "len"=none):Df P w K mg base "_law_cell_at" 1 2 gN:=by
 have sc:=Ld;refine dF F sc (λ_ MD A outer s H E hr=>?_);exact((av (cM (bO L2.qq pQ A5 (ae 1) (bT fE fR G' cj (ae 0))) (bc (bh (bE (ae 0) (ae 1)))) cO) (av (bh ah) bR))).out
noncomputable abbrev vG:Stmt:=top 55
theorem EN:L2.aY ["_law_kind","_law_many"] ["_law_kind","_law_many"] (L2.aI vG):=bB
theorem Cq(F:FH P w K mg base "_law_wants" vG):Df P w K mg base "_law_wants" 1 2 eT:=by
 have sc:=EN;refine dF F sc (λ_ MD A outer s H E hr=>?_);exact((bc (bh (ak b9 cn (ak bp br (ak ft fA (ae 0) (ae 1)) ah) ah)))).out
noncomputable abbrev tZ:Stmt:=top 56
theorem Je:L2.aY ["_law_nodes_here","_law_many","_law_step","_law_room","_law_folder","_law_k","_law_more"] ["_law_nodes_here","_law_many","_law_step","_law_room"] (L2.aI tZ):=bB
theorem HU(F:FH P w K mg base "_law_crowd" tZ)(G':mg "len"=none)(L':mg "range"=none)(MF:Df P w K mg base "_law_wants" 1 2 eT):rF P w K mg base "_law_crowd" 2 4 nB:=by
 have sc:=Je;refine LR F sc (λ_ MD A outer s H E hr=>?_)
 exact((av (zt 4 0 sc.nd (pG (pG (rl 0) ah) ah)) (av (dJ (f:=lr) (iR L' (ae 1)) (aE 5 sc.nd) (by delta lr;exact(av (aZ (oD 0 (ak L2.gc fY (ak bp br ah (aG MF hr (af ah (af (ak bp br (bT eV eY G' cj (ae 4)) ah) ay)))) (aG MF hr (af ah (af (bT eV eY G' cj (ae 4)) ay))))) (aE 6 sc.nd)) (av (cM (bO L2.oF ou AV (ae 6) (ae 3)) (av (aZ (ak L2.gc fY (ae 3) (ae 6)) (aE 3 sc.nd)) (av (xE 0 hr.units (xQ 0 4) (ak bp br ah (ak ft fA (ae 5) (ae 2))) (oD 0 (bT eV eY G' cj (ae 0)))) (av (Bu 0 (nT (fQ (jV ah) (fQ (jV (dG ay)) jX)) (show 2<=1000 from by decide))) bR))) cO) bR)))) (av (Hb (ae 3)) bR)))).out
noncomputable abbrev so:Stmt:=top 51
theorem FA:L2.aY ["_law_cell","_law_most","_law_by","_law_k"] ["_law_cell"] (L2.aI so):=bB
theorem GP(F:FH P w K mg base "_law_digits" so)(L':mg "range"=none):Df P w K mg base "_law_digits" 1 1 jc:=by
 have sc:=FA;refine dF F sc (λ_ MD A outer s H E hr=>?_);exact((av (aZ (ak gb gd ah ah) (aE 1 sc.nd)) (av (aZ (ak gb gd ah ah) (aE 2 sc.nd)) (av (dJ (f:=fG) (iR L' ah) (aE 3 sc.nd) (by delta fG;exact(av (aZ (ak ft fA (ae 1) (ae 1)) (aE 1 sc.nd)) (av (aZ (ak ft fA (ae 2) (ae 2)) (aE 2 sc.nd)) bR)))) (av (bh (ak ft fA (ak bp br (ak bp br (ak L2.bY bW (ak b9 cn (ae 0) (ak gb gd ah ah)) (ae 1)) (ak L2.bY bW (ae 0) (ak gb gd ah ah))) ah) (ae 2))) bR))))).out
noncomputable abbrev sT:Stmt:=top 54
theorem Jv:L2.aY ["_law_number"] ["_law_number"] (L2.aI sT):=bB
theorem GR(F:FH P w K mg base "_law_name" sT):Df P w K mg base "_law_name" 1 1 kz:=by
 have sc:=Jv;refine dF F sc (λ_ MD A outer s H E hr=>?_);exact((bc (bh (bE (dG (af (ak bp br ah (ak L2.bY bW (ak b9 cn (ae 0) ah) ah)) (af (ak bp br ah (ak L2.bY bW (ak b9 cn (ae 0) ah) (ak L2.gc fY (ak gb gd ah ah) ah))) (af (ak L2.gc fY (ak L2.gc fY (ak gb gd ah ah) ah) (ak L2.bY bW (ak b9 cn (ae 0) ah) ah)) ay)))) (ak L2.bY bW (ae 0) ah))))).out
noncomputable abbrev wK:Stmt:=top 53
theorem Gk:L2.aY ["_law_number","_law_many","_law_words_here","_law_k"] ["_law_number","_law_many"] (L2.aI wK):=bB
theorem K5(F:FH P w K mg base "_law_words" wK)(L':mg "range"=none):Df P w K mg base "_law_words" 1 2 mT:=by
 have sc:=Gk;refine dF F sc (λ_ MD A outer s H E hr=>?_);exact((av (jQ 2 sc.nd (mL ay)) (av (dJ (f:=pd) (iR L' (ae 1)) (aE 3 sc.nd) (by delta pd;exact(av (yc 2 (ak L2.bY bW (ae 0) (ak gb gd ah ah))) (av (aZ (ak b9 cn (ae 0) (ak gb gd ah ah)) (aE 0 sc.nd)) bR)))) (lM 2 (av (bh (ae 2)) bR))))).out
noncomputable abbrev tL:Stmt:=top 57
theorem Dw:L2.aY ["_law_cells","_law_room","_law_many","_law_step","_law_nodes_here","_law_folders_here","_law_cell","_law_number","_law_folder","_law_name_here","_law_words_here","_law_more"] ["_law_cells","_law_room","_law_many","_law_step"] (L2.aI tL):=bB
theorem B3(F:FH P w K mg base "_law_nodes" tL)(NJ:mg "int"=none)(G':mg "len"=none)(NK:rF P w K mg base "_law_crowd" 2 4 nB)(MN:Df P w K mg base "_law_digits" 1 1 jc)(M7:Df P w K mg base "_law_name" 1 1 kz)(NG:Df P w K mg base "_law_words" 1 2 mT)(MF:Df P w K mg base "_law_wants" 1 2 eT):Df P w K mg base "_law_nodes" 3 4 nr:=by
 have sc:=Dw;refine dF F sc (λ_ MD A outer s H E hr=>?_)
 exact((av (Bj 4 sc.nd (nT (fQ (nT (fQ (jV ah) (fQ vi jX)) (by decide)) jX) (by decide))) (av (jQ 5 sc.nd (mL (af ah ay))) (av (Hs 1 sc.nd (LQ NK hr (Lq 4 (rl 4) (wb (ae 2) (wb (ae 3) (wb (ae 1) IZ)))))) (av (dJ (f:=mV) (iJ (ae 0)) (aE 6 sc.nd) (by delta mV;exact(av (aZ (aG MN hr (af (ae 6) ay)) (aE 7 sc.nd)) (av (zt 8 4 sc.nd (pG (pG (rl 4) (C2 5 (ak L2.bY bW (ae 7) (jb 5 G')))) ah)) (av (aZ (ak b9 cn (ae 7) (jb 5 G')) (aE 7 sc.nd)) (av (aZ (aG M7 hr (af (ae 7) ay)) (aE 9 sc.nd)) (av (aZ (ak b9 cn (ae 7) (ak ft fA ah (ak gb gd ah ah))) (aE 7 sc.nd)) (av (aZ (aG NG hr (af (ak b9 cn (ae 7) (ak ft fA ah ah)) (af (ak L2.bY bW (ak b9 cn (ae 7) ah) ah) ay))) (aE 10 sc.nd)) (av (aZ (oD 4 (ak L2.gc fY (ak bp br ah (aG MF hr (af ah (af (ak bp br (bT eV eY G' cj (ae 8)) ah) ay)))) (aG MF hr (af ah (af (bT eV eY G' cj (ae 8)) ay))))) (aE 11 sc.nd)) (av (cM (bO L2.sG sU tK (ak L2.bY bW (ae 7) ah) ah) (bc (aZ (ak bp br (ae 11) (aG MF hr (af ah (af (bT eV eY G' cj (ae 10)) ay)))) (aE 11 sc.nd))) cO) (av (cM (eJ (kK (As 4 (bO (jU hr.units) jH jw (ae 9) (ae 8))) (kK (As 4 (bO L2.qq pQ A5 (bT eV eY G' cj (ae 8)) ah)) (oH (bO L2.oF ou AV (ae 11) (ae 1)))))) (av (aZ (ak L2.gc fY (ae 1) (ae 11)) (aE 1 sc.nd)) (av (xE 4 hr.units (xQ 4 8) (ae 9) (oD 4 (bT eV eY G' cj (ae 4)))) (av (cM (bO (eS hr.units) eP fM (ak L2.bY bW (ae 7) ah) ah) (bc (yc 5 (oD 4 (bT eV eY G' cj (ae 4))))) cO) (av (Bu 4 (HL (fQ (nT (fQ (jV ah) (fQ (jV (ae 10)) jX)) (by decide)) (fQ (nT (fQ (jV ah) (fQ vi jX)) (by decide)) jX)) (kX L2.Bq zY NJ uk (uq (eS hr.units) eP (ak L2.bY bW (ae 7) ah) ah)))) bR)))) cO) bR))))))))))) (IU 4 (av (bh (ae 4)) bR))))))).out
noncomputable abbrev se:Stmt:=top 58
theorem FR:L2.aY ["_law_nodes_here","_law_many","_law_number","_law_root","_law_free","_law_heads","_law_k","_law_model_here","_law_kind","_law_content","_law_parts","_law_j"] ["_law_nodes_here","_law_many","_law_number"] (L2.aI se):=bB
theorem LB(F:FH P w K mg base "_law_model" se)(MY:mg "dict"=none)(G':mg "len"=none)(MM:mg "list"=none)(L':mg "range"=none)(MF:Df P w K mg base "_law_wants" 1 2 eT):Df P w K mg base "_law_model" 2 3 nP:=by
 have sc:=FR;refine dF F sc (λ_ MD A outer s H E hr=>?_)
 exact((av (aZ (ak bp br ah (ak b9 cn (ak bp br (ae 1) ah) ah)) (aE 3 sc.nd)) (av (jQ 4 sc.nd (Jo MM L' (ak bp br (ae 3) ah) (ae 1))) (av (jQ 5 sc.nd (mL (af (ae 3) ay))) (av (dJ (f:=oP) (FN L' ah (bT eV eY G' cj (ae 0))) (aE 6 sc.nd) (by delta oP;exact(av (xG 5 4 (ak L2.bY bW (ae 2) (jb 4 G'))) (av (aZ (ak b9 cn (ae 2) (ak bp br (jb 4 G') ah)) (aE 2 sc.nd)) bR)))) (av (B0 7 sc.nd) (lM 5 (av (dJ (f:=pj) (iR L' (bT eV eY G' cj (ae 0))) (aE 6 sc.nd) (by delta pj;exact(av (aZ (bE (ae 0) (ae 6)) (uD (jl 8 (aE 8 sc.nd) (jl 9 (aE 9 sc.nd) rA)) mY)) (av (jQ 10 sc.nd (mL ay)) (av (dJ (f:=ot) (iR L' (aG MF hr (af (ae 8) (af (bT eV eY G' cj (ae 9)) ay)))) (aE 11 sc.nd) (by delta ot;exact(av (xG 10 4 (ak L2.bY bW (ae 2) (jb 4 G'))) (av (aZ (ak b9 cn (ae 2) (ak bp br (jb 4 G') ah)) (aE 2 sc.nd)) bR)))) (av (cM (bO (eS hr.units) eP fM (ae 8) ah) (bc (aZ (n6 (lu MY (k9 (kb ["_law_name_here"] ["_law_heads","_law_content"] [5,9] (jB (L2.aI se) ["_law_nodes_here","_law_many","_law_number","_law_root","_law_free","_law_heads","_law_k","_law_model_here","_law_kind","_law_content","_law_parts","_law_j"] (by rfl) (by rfl) (by decide+kernel)) (l8 (ae 9)) (λcl C s H fp=>by exact(aE 0 (show List.Nodup (["_law_name_here","_law_heads","_law_content"]:List Str)from by decide+kernel))) (λcl C s H fp=>by exact jK) (λcl C s H fp=>by exact(w4 (af (ae 0) (af (bE (ae 1) (bE (ae 2) (ae 0))) ay))))))) n8) (aE 9 sc.nd))) cO) (lM 10 (av (LS 7 hr.units (bE (ae 5) (ae 6)) (dG (af (ae 8) (af (ae 9) (af (ae 10) ay))))) bR)))))))) (lM 7 (av (bh (ae 7)) bR)))))))))).out
noncomputable abbrev tE:Stmt:=top 52
theorem Lc:L2.aY ["_law_words_here"] ["_law_words_here"] (L2.aI tE):=bB
theorem DC(F:FH P w K mg base "_law_block" tE)(G':mg "len"=none)(MM:mg "list"=none)(Ny:mg "tuple"=none):Df P w K mg base "_law_block" 1 1 jC:=by
 have sc:=Lc;refine dF F sc (λ_ MD A outer s H E hr=>?_);exact((bc (bh (kX L2.AM y7 Ny AD (ak bp br (kX L2.pV sX MM mw (ae 0)) (ak Cn E3 (dG (af ah ay)) (ak L2.gc fY ah (bT fE fR G' cj (ae 0))))))))).out
noncomputable abbrev qJ:Stmt:=top 60
theorem D3:L2.aY ["_law_model_here","_law_many","_law_marks_here","_law_head","_law_block_here"] ["_law_model_here","_law_many"] (L2.aI qJ):=bB
theorem GB(F:FH P w K mg base "_law_marks" qJ)(NJ:mg "int"=none)(L':mg "range"=none):Df P w K mg base "_law_marks" 1 2 ku:=by
 have sc:=D3;refine dF F sc (λ_ MD A outer s H E hr=>?_);exact((av (Js 2 ["_law_k"] ["_law_many"] [1] (jB (L2.aI qJ) ["_law_model_here","_law_many","_law_marks_here","_law_head","_law_block_here"] (by rfl) (by rfl) (by decide+kernel)) (iR L' (ae 1)) (λcl C s H fp=>by exact(aE 0 (show List.Nodup (["_law_k","_law_many"]:List Str)from by decide+kernel))) (λcl C s H fp=>by exact jK) (λcl C s H fp=>by exact(kX L2.Bq zY NJ uk (uq L2.qq pQ (ae 0) (ak bp br ah (ak b9 cn (ak bp br (ae 1) ah) ah))))) sc.nd) (av (dJ (f:=oN) (l8 (ae 0)) (aE 3 sc.nd) (by delta oN;exact(bc (dJ (f:=mQ) (iJ (ak bp br (dG (af (ae 3) ay)) (bE (bE (ae 0) (ae 3)) ah))) (aE 4 sc.nd) (by delta mQ;exact(bc (oS 2 ah (ae 4) (by delta k6;intro _;rfl)))))))) (lM 2 (av (bh (ae 2)) bR))))).out
noncomputable abbrev uS:Stmt:=top 59
theorem II:L2.aY ["_law_kind","_law_content","_law_data_here","_law_name_here"] ["_law_kind","_law_content"] (L2.aI uS):=bB
theorem IB(F:FH P w K mg base "_law_data" uS)(MZ:mg "sorted"=none):Df P w K mg base "_law_data" 1 2 mZ:=by
 have sc:=II;refine dF F sc (λ_ MD A outer s H E hr=>?_);exact((av (cM (bO (eS hr.units) eP fM (ae 0) ah) (bc (bh (ae 1))) cO) (av (aZ (dG ay) (aE 2 sc.nd)) (av (dJ (f:=md) (iJ (bT (yd rfl) yK MZ vE (ae 1))) (aE 3 sc.nd) (by delta md;exact(bc (aZ (ak bp br (ae 2) (dG (af (ae 3) (af (bE (ae 1) (ae 3)) ay)))) (aE 2 sc.nd))))) (av (bh (ae 2)) bR))))).out
noncomputable abbrev uM:Stmt:=top 61
theorem Il:L2.aY ["_law_model_here","_law_base_here","_law_floor","_law_marks_here","_law_k","_law_head","_law_kind","_law_content","_law_parts","_law_data_here"] ["_law_model_here","_law_base_here"] (L2.aI uM):=bB
theorem Ji(F:FH P w K mg base "_law_laid" uM)(G':mg "len"=none)(MM:mg "list"=none)(L':mg "range"=none)(M3:Df P w K mg base "_law_block" 1 1 jC)(M4:Df P w K mg base "_law_marks" 1 2 ku)(NO:Df P w K mg base "_law_data" 1 2 mZ):Df P w K mg base "_law_laid" 2 2 lE:=by
 have sc:=Il;refine dF F sc (λ_ MD A outer s H E hr=>?_);exact((av (jQ 2 sc.nd (xN MM (ae 1))) (av (oS 2 (aG M3 hr (af (dG ay) ay)) ah (by delta k6;intro _;rfl)) (av (aZ (aG M4 hr (af (ae 0) (af (jb 2 G') ay))) (aE 3 sc.nd)) (av (dJ (f:=nN) (Gw L' ah (jb 2 G') ah) (aE 4 sc.nd) (by delta nN;exact(bc (oS 2 (aG M3 hr (af (gJ (ae 3) (c8 (ae 4)) (c8 (ak bp br (ae 4) ah))) ay)) (ak bp br ah (ak b9 cn (ae 4) ah)) (by delta k6;intro _;rfl))))) (av (dJ (f:=nA) (l8 (ae 0)) (aE 5 sc.nd) (by delta nA;exact(av (aZ (bE (ae 0) (ae 5)) (uD (jl 6 (aE 6 sc.nd) (jl 7 (aE 7 sc.nd) (jl 8 (aE 8 sc.nd) rA))) mY)) (av (aZ (aG NO hr (af (ae 6) (af (ae 7) ay))) (aE 9 sc.nd)) (av (oS 2 (aG M3 hr (af (ak bp br (dG (af (ae 6) (af (bT eV eY G' cj (ae 7)) ay))) (ae 8)) ay)) (ae 5) (by delta k6;intro _;rfl)) (av (dJ (f:=pe) (iR L' (bT eV eY G' cj (ae 8))) (aE 4 sc.nd) (by delta pe;exact(bc (oS 2 (aG M3 hr (af (gJ (ae 9) (c8 (ak ft fA ah (ae 4))) (c8 (ak bp br (ak ft fA ah (ae 4)) ah))) ay)) (bE (ae 8) (ae 4)) (by delta k6;intro _;rfl))))) bR)))))) (lM 2 (av (bh (ae 2)) bR)))))))).out
noncomputable abbrev rY:Stmt:=top 62
theorem IY:L2.aY ["_law_cell","_law_many","_law_seed"] ["_law_cell","_law_many"] (L2.aI rY):=bB
theorem FY(F:FH P w K mg base "_law_base" rY)(L':mg "range"=none)(Ny:mg "tuple"=none):Df P w K mg base "_law_base" 1 2 ll:=by
 have sc:=IY;refine dF F sc (λ_ MD A outer s H E hr=>?_);exact((av (aZ (ak bp br (ak L2.bY bW (ae 0) (ak gb gd ah ah)) ah) (aE 2 sc.nd)) (av (bh (k9 (kb ["_law_k"] ["_law_seed"] [2] (jB (L2.aI rY) ["_law_cell","_law_many","_law_seed"] (by rfl) (by rfl) (by decide+kernel)) (iR L' (ae 1)) (λcl C s H fp=>by exact(aE 0 (show List.Nodup (["_law_k","_law_seed"]:List Str)from by decide+kernel))) (λcl C s H fp=>by exact jK) (λcl C s H fp=>by exact(kX L2.AM y7 Ny AD (k9 (kb ["_law_j"] ["_law_seed","_law_k"] [1,0] (jB (({kind:=.function,names:=[(".0",.local),("_law_k",.cell),("tuple",.globalImplicit),("range",.globalImplicit),("_law_seed",.cell)],isGenerator:=false,isCoroutine:=false}:Scope)) ["_law_k","_law_seed"] (by rfl) (by rfl) (by decide+kernel)) (iR L' ah) (λcl C s H fp=>by exact(aE 0 (show List.Nodup (["_law_j","_law_seed","_law_k"]:List Str)from by decide+kernel))) (λcl C s H fp=>by exact jK) (λcl C s H fp=>by exact(ak L2.bY bW (ak ft fA (ak ft fA (ae 1) (ak bp br (ak bp br (ak ft fA ah (ae 2)) (ae 0)) ah)) ah) ah))))))))) bR))).out
noncomputable abbrev sj:Stmt:=top 63
theorem Cp:L2.aY ["_law_script","_law_first","_law_many","_law_root","_law_crowd_here","_law_room","_law_nodes_here","_law_model_here"] ["_law_script"] (L2.aI sj):=bB
theorem Dm(F:FH P w K mg base "_law_drawn" sj)(MP:Df P w K mg base "_law_cell_at" 1 2 gN)(NL:Df P w K mg base "_law_nodes" 3 4 nr)(MN:Df P w K mg base "_law_digits" 1 1 jc)(NA:Df P w K mg base "_law_model" 2 3 nP)(NR:Df P w K mg base "_law_base" 1 2 ll)(NN:Df P w K mg base "_law_laid" 2 2 lE):Df P w K mg base "_law_drawn" 4 1 nZ:=by
 have sc:=Cp;refine dF F sc (λ_ MD A outer s H E hr=>?_);exact((av (aZ (aG MP hr (af (ae 0) (af ah ay))) (aE 1 sc.nd)) (av (aZ (ak bp br ah (ak L2.bY bW (ak b9 cn (ae 1) ah) (bE (dG (af ah (af ah (af ah (af ah ay))))) (ak L2.bY bW (ae 1) ah)))) (aE 2 sc.nd)) (av (aZ (ak bp br ah (ak b9 cn (ak bp br (ae 2) ah) ah)) (aE 3 sc.nd)) (av (aZ (bE (dG (af ah (af ah (af ah (af ah ay))))) (ak L2.bY bW (ak b9 cn (ae 1) ah) ah)) (aE 4 sc.nd)) (av (aZ (ak b9 cn (ak ft fA (ak L2.gc fY (ak L2.gc fY (ae 2) (ae 3)) ah) (bE (dG (af ah (af ah (af ah (af ah ay))))) (ak L2.bY bW (ak b9 cn (ae 1) ah) ah))) ah) (aE 5 sc.nd)) (av (aZ (aG NL hr (af (gJ (ae 0) (c8 ah) (c8 ah)) (af (ae 5) (af (ae 4) (af (ak bp br ah (ak L2.bY bW (ak b9 cn (ae 1) ah) (ak gb gd ah ah))) ay))))) (aE 6 sc.nd)) (av (aZ (aG NA hr (af (ae 6) (af (ae 2) (af (aG MN hr (af (aG MP hr (af (ae 0) (af ah ay))) ay)) ay)))) (aE 7 sc.nd)) (av (bh (dG (af (ae 7) (af (aG NN hr (af (ae 7) (af (aG NR hr (af (aG MP hr (af (ae 0) (af ah ay))) (af (ae 2) ay))) ay))) ay)))) bR))))))))).out
noncomputable abbrev sr:Stmt:=top 64
theorem Lj:L2.aY ["_law_some","_law_number"] ["_law_some","_law_number"] (L2.aI sr):=bB
theorem IF(F:FH P w K mg base "_law_picked" sr)(G':mg "len"=none)(MZ:mg "sorted"=none):Df P w K mg base "_law_picked" 1 2 oV:=by
 have sc:=Lj;refine dF F sc (λ_ MD A outer s H E hr=>?_);exact((bc (bh (bE (bT HM EJ MZ vE (ae 0)) (ak L2.bY bW (ae 1) (bT fE fR G' cj (ae 0))))))).out
noncomputable abbrev vH:Stmt:=top 6
theorem EU:L2.aY ["thing"] ["thing"] (L2.aI vH):=bB
theorem Kj(F:FH P w K mg base "is_whole" vH)(OK:mg "bool"=none)(NJ:mg "int"=none)(ML:mg "isinstance"=none):Df P w K mg base "is_whole" 1 1 eK:=by
 have sc:=EU;refine dF F sc (λ_ MD A outer s H E hr=>?_);exact((bc (bh (i5 (yh .int (ae 0) ML NJ uk) (jW (sI (yh .bool (ae 0) ML OK HF))))))).out
noncomputable abbrev uW:Stmt:=top 13
theorem Iu:L2.aY ["many"] ["many"] (L2.aI uW):=bB
theorem EF(F:FH P w K mg base "map_blocks" uW)(gl_PAGE_WORDS:cZ P w K mg "PAGE_WORDS" kQ):Df P w K mg base "map_blocks" 1 1 qZ:=by
 have sc:=Iu;refine dF F sc (λ_ MD A outer s H E hr=>?_);exact((bc (bh (ak b9 cn (ak L2.gc fY (ak bp br (ae 0) (cT gl_PAGE_WORDS)) ah) (cT gl_PAGE_WORDS))))).out
noncomputable abbrev ur:Stmt:=top 14
theorem BR:L2.aY ["floor"] ["floor"] (L2.aI ur):=bB
theorem Es(F:FH P w K mg base "root_of" ur)(G':mg "len"=none)(gl_FIRST_BLOCK:cZ P w K mg "FIRST_BLOCK" uQ)(Nr:Df P w K mg base "map_blocks" 1 1 qZ):Df P w K mg base "root_of" 2 1 nK:=by
 have sc:=BR;refine dF F sc (λ_ MD A outer s H E hr=>?_);exact((bc (bh (ak bp br (cT gl_FIRST_BLOCK) (aG Nr hr (af (bT fE fR G' cj (ae 0)) ay)))))).out
noncomputable abbrev sF:Stmt:=top 26
theorem CZ:L2.aY ["floor","head"] ["floor","head"] (L2.aI sF):=bB
theorem Cm(F:FH P w K mg base "kind_of" sF):Df P w K mg base "kind_of" 1 2 fP:=by
 have sc:=CZ;refine dF F sc (λ_ MD A outer s H E hr=>?_);exact((bc (bh (bE (bE (ae 0) (ae 1)) ah)))).out
noncomputable abbrev uP:Stmt:=top 29
theorem Kr:L2.aY ["cells"] ["cells"] (L2.aI uP):=bB
theorem Dx(F:FH P w K mg base "blocks_wanted" uP)(gl_PAGE_WORDS:cZ P w K mg "PAGE_WORDS" kQ):Df P w K mg base "blocks_wanted" 1 1 mh:=by
 have sc:=Kr;refine dF F sc (λ_ MD A outer s H E hr=>?_);exact((bc (bh (ak b9 cn (ak L2.gc fY (ak bp br (ae 0) (cT gl_PAGE_WORDS)) ah) (cT gl_PAGE_WORDS))))).out
noncomputable abbrev uN:Stmt:=top 28
theorem Fw:L2.aY ["kind","many"] ["kind","many"] (L2.aI uN):=bB
theorem Hn(F:FH P w K mg base "cells_wanted" uN)(gl_FOLDER:cZ P w K mg "FOLDER" du):Df P w K mg base "cells_wanted" 1 2 o8:=by
 have sc:=Fw;refine dF F sc (λ_ MD A outer s H E hr=>?_);exact((bc (bh (DH (bO (eS hr.units) eP fM (ae 0) (cT gl_FOLDER)) (ak ft fA ah (ae 1)) (ae 1))))).out
noncomputable abbrev wx:Stmt:=top 27
theorem Dq:L2.aY ["floor","head"] ["floor","head"] (L2.aI wx):=bB
theorem Kt(F:FH P w K mg base "size_of" wx):Df P w K mg base "size_of" 1 2 i3:=by
 have sc:=Dq;refine dF F sc (λ_ MD A outer s H E hr=>?_);exact((bc (bh (bE (bE (ae 0) (ae 1)) ah)))).out
noncomputable abbrev v3:Stmt:=top 30
theorem Dd:L2.aY ["floor","head"] ["floor","head"] (L2.aI v3):=bB
theorem CQ(F:FH P w K mg base "many_cells" v3)(MH:Df P w K mg base "kind_of" 1 2 fP)(MV:Df P w K mg base "size_of" 1 2 i3)(Nb:Df P w K mg base "cells_wanted" 1 2 o8):Df P w K mg base "many_cells" 2 2 jS:=by
 have sc:=Dd;refine dF F sc (λ_ MD A outer s H E hr=>?_);exact((bc (bh (aG Nb hr (af (aG MH hr (af (ae 0) (af (ae 1) ay))) (af (aG MV hr (af (ae 0) (af (ae 1) ay))) ay)))))).out
noncomputable abbrev vL:Stmt:=top 31
theorem Lo:L2.aY ["floor","head"] ["floor","head"] (L2.aI vL):=bB
theorem CH(F:FH P w K mg base "blocks_of" vL)(MM:mg "list"=none)(gl_HEAD_WORDS:cZ P w K mg "HEAD_WORDS" nG)(MW:Df P w K mg base "many_cells" 2 2 jS)(M9:Df P w K mg base "blocks_wanted" 1 1 mh):Df P w K mg base "blocks_of" 3 2 mX:=by
 have sc:=Lo;refine dF F sc (λ_ MD A outer s H E hr=>?_);exact((bc (bh (kX L2.pV sX MM mw (gJ (bE (ae 0) (ae 1)) (c8 (cT gl_HEAD_WORDS)) (c8 (ak bp br (cT gl_HEAD_WORDS) (aG M9 hr (af (aG MW hr (af (ae 0) (af (ae 1) ay))) ay))))))))).out
noncomputable abbrev wY:Stmt:=top 32
theorem Jm:L2.aY ["floor","head","words","number"] ["floor","head"] (L2.aI wY):=bB
theorem CB(F:FH P w K mg base "block_words" wY)(MM:mg "list"=none)(ND:Df P w K mg base "blocks_of" 3 2 mX):iw P w K mg base "block_words" 4 2 om:=by
 have sc:=Jm;refine xg F sc (λ_ MD A outer s H E hr=>?_);exact((av (jQ 2 sc.nd (mL ay)) (av (dJ (f:=kJ) (iJ (aG ND hr (af (ae 0) (af (ae 1) ay)))) (aE 3 sc.nd) (by delta kJ;exact(bc (yA 2 (xN MM (bE (ae 0) (ae 3))))))) (av (HQ 2) bR)))).out
noncomputable abbrev vD:Stmt:=top 33
theorem Hv:L2.aY ["floor","head"] ["floor","head"] (L2.aI vD):=bB
theorem HG(F:FH P w K mg base "cells_of" vD)(Nh:iw P w K mg base "block_words" 4 2 om)(MW:Df P w K mg base "many_cells" 2 2 jS):iw P w K mg base "cells_of" 5 2 i6:=by
 have sc:=Hv;refine xg F sc (λ_ MD A outer s H E hr=>?_);exact((bc (FJ (He (AO Nh hr (af (ae 0) (af (ae 1) ay))) iU (c8 (aG MW hr (af (ae 0) (af (ae 1) ay))))) (B5 (Cc (by rfl)))))).out
noncomputable abbrev sY:Stmt:=top 34
theorem EL:L2.aY ["floor","head","cells"] ["floor","head"] (L2.aI sY):=bB
theorem Gy(F:FH P w K mg base "pairs_of" sY)(MM:mg "list"=none)(Pl:mg "zip"=none)(gl_FOLDER:cZ P w K mg "FOLDER" du)(MH:Df P w K mg base "kind_of" 1 2 fP)(M6:iw P w K mg base "cells_of" 5 2 i6):Df P w K mg base "pairs_of" 6 2 dR:=by
 have sc:=EL;refine dF F sc (λ_ MD A outer s H E hr=>?_);exact((av (cM (bO (uO hr.units) vA wW (aG MH hr (af (ae 0) (af (ae 1) ay))) (cT gl_FOLDER)) (bc (bh (dG ay))) cO) (av (aZ (AO M6 hr (af (ae 0) (af (ae 1) ay))) (aE 2 sc.nd)) (av (bh (uE (Dk MM Pl (uE (An (ae 2) (c8 ah) iU (c8 ah)) A1) (uE (An (ae 2) (c8 ah) iU (c8 ah)) A1)) KZ)) bR)))).out
noncomputable abbrev vY:Stmt:=top 35
theorem K9:L2.aY ["floor","head"] ["floor","head"] (L2.aI vY):=bB
theorem Cz(F:FH P w K mg base "node_at" vY)(MY:mg "dict"=none)(gl_FOLDER:cZ P w K mg "FOLDER" du)(MH:Df P w K mg base "kind_of" 1 2 fP)(MK:Df P w K mg base "pairs_of" 6 2 dR)(M6:iw P w K mg base "cells_of" 5 2 i6):jN P w K mg base "node_at" 7 2 kx:=by
 have sc:=K9;refine zy F sc (λ_ MD A outer s H E hr=>?_);exact((av (cM (bO (eS hr.units) eP fM (aG MH hr (af (ae 0) (af (ae 1) ay))) (cT gl_FOLDER)) (bc (yl (w9 (fQ (jV yQ) (fQ (LM (lu MY (aG MK hr (af (ae 0) (af (ae 1) ay))))) jX)) (show 2<=1000 from by decide)))) cO) (av (yl (w9 (fQ (jV yQ) (fQ (HW (Fb M6 hr (af (ae 0) (af (ae 1) ay)))) jX)) (show 2<=1000 from by decide))) bR))).out
noncomputable abbrev qI:Stmt:=top 36
theorem Ht:L2.aY ["floor","-2","-1","-0","tree","todo","head"] ["floor"] (L2.aI qI):=bB
theorem L3(F:FH P w K mg base "tree_of" qI)(G':mg "len"=none)(N1:Df P w K mg base "root_of" 2 1 nK)(N2:jN P w K mg base "node_at" 7 2 kx)(MK:Df P w K mg base "pairs_of" 6 2 dR):jN P w K mg base "tree_of" 8 1 iN:=by
 have sc:=Ht;refine zy F sc (λ_ MD A outer s H E hr=>?_);exact((av (Bj 4 sc.nd vi) (av (jQ 5 sc.nd (mL (af (aG N1 hr (af (ae 0) ay)) ay))) (av (Ej 80 (f:=lX) (bO L2.sG sU tK (jb 5 G') ah) (by delta lX;exact(av (D5 6 5 sc.nd) (av (Ly 4 hr.units (rl 4) (ae 6) (tY N2 hr (af (ae 0) (af (ae 6) ay)))) (av (yA 5 (kb ["name","inner"] [] [] (jB (L2.aI qI) ["floor","-2","-1","-0","tree","todo","head"] (by rfl) (by rfl) (by decide+kernel)) (iJ (aG MK hr (af (ae 0) (af (ae 6) ay)))) (λcl C s H fp=>by exact(Ho (jl 0 (aE 0 (show List.Nodup (["name","inner"]:List Str)from by decide+kernel)) (jl 1 (aE 1 (show List.Nodup (["name","inner"]:List Str)from by decide+kernel)) rA)) mY)) (λcl C s H fp=>by exact jK) (λcl C s H fp=>by exact(ae 1)))) bR))))) (av (B7 4) bR))))).out
noncomputable abbrev pH:Stmt:=top 42
theorem Ak:L2.aY ["floor","head","kind"] ["floor","head","kind"] (L2.aI pH):=bB
theorem HC(F:FH P w K mg base "refuse_no_node" pH)(MC:Df P w K mg base "is_whole" 1 1 eK)(M':jN P w K mg base "tree_of" 8 1 iN)(MH:Df P w K mg base "kind_of" 1 2 fP):Df P w K mg base "refuse_no_node" 9 3 gT:=by
 have sc:=Ak;refine dF F sc (λ_ MD A outer s H E hr=>?_);exact((bc (cM (eJ (eZ (cE (cF (aG MC hr (af (ae 1) ay)))) (eZ (bO (jU hr.units) jH jw (ae 1) (Ah (tY M' hr (af (ae 0) ay)))) (gQ (bO (uO hr.units) vA wW (aG MH hr (af (ae 0) (af (ae 1) ay))) (ae 2)))))) (bc vw) cO))).out
theorem j4:∀ds y,dg ds=.exc y->y=.bN (Str.ofString "NoChange") [] []:=λds y h=>jg _ y h
theorem FF(Fu:L2.d8 K "refuse_no_node" "refuse_no_node" pH f fd)(hm:mg "refuse_no_node"=some (.ref f)){B':Addr}(zc_NoChange:dD K "NoChange" B')(K':mg "NoChange"=some (.ref B'))(MC:Df P w K mg base "is_whole" 1 1 eK)(M':jN P w K mg base "tree_of" 8 1 iN)(MH:Df P w K mg base "kind_of" 1 2 fP):Rf P w K mg base "refuse_no_node" 9 3 "NoChange" dg:=by
 have sc:=Ak;refine oE (k:=8) Fu hm sc (Fu.binds (ps:=["floor","head","kind"]) λ_ _ _ _ _ _ us hl=>match us,hl with|[_,_,_],_=>rfl) zc_NoChange (λMD A outer s H E hr=>?_)
 exact(nV zc_NoChange K' (by rfl) (eJ (eZ (cE (cF (aG MC hr (af (ae 1) ay)))) (eZ (bO (jU hr.units) jH jw (ae 1) (Ah (tY M' hr (af (ae 0) ay)))) (gQ (bO (uO hr.units) vA wW (aG MH hr (af (ae 0) (af (ae 1) ay))) (ae 2)))))).out)
noncomputable abbrev wq:Stmt:=top 7
theorem Ij:L2.aY ["thing"] ["thing"] (L2.aI wq):=bB
theorem Kf(F:FH P w K mg base "is_word" wq)(MC:Df P w K mg base "is_whole" 1 1 eK):Df P w K mg base "is_word" 2 1 ic:=by
 have sc:=Ij;refine dF F sc (λ_ MD A outer s H E hr=>?_);exact((bc (bh (i5 (aG MC hr (af (ae 0) ay)) (jW (Ag L2.oF L2.qq ou pQ ah (ae 0) (ak gb gd ah ah))))))).out
noncomputable abbrev sQ:Stmt:=top 45
theorem Ei:L2.aY ["floor","folder","name","kind","pairs","more","fresh","head","cells","behind"] ["floor","folder","name","kind"] (L2.aI sQ):=bB
theorem LG:∀ds y,jI ds=.exc y->y=.bN (Str.ofString "NoChange") [] []:=λds y h=>(lF (gK j4) (rL (lF jg jg))) _ y h
theorem Ck(Fu:L2.d8 K "made" "made" sQ f fd)(hm:mg "made"=some (.ref f)){B':Addr}(zc_NoChange:dD K "NoChange" B')(K':mg "NoChange"=some (.ref B'))(MY:mg "dict"=none)(G':mg "len"=none)(gl_FOLDER:cZ P w K mg "FOLDER" du)(gl_FILE:cZ P w K mg "FILE" fF)(gl_MOST_FOLDER_NAMES:cZ P w K mg "MOST_FOLDER_NAMES" rB)(J':Df P w K mg base "refuse_no_node" 9 3 gT)(MK:Df P w K mg base "pairs_of" 6 2 dR)(MC:Df P w K mg base "is_whole" 1 1 eK)(MT:Df P w K mg base "is_word" 2 1 ic)(i':Rf P w K mg base "refuse_no_node" 9 3 "NoChange" dg)(i':Rf P w K mg base "refuse_no_node" 9 3 "NoChange" dg):Rf P w K mg base "made" 10 4 "NoChange" jI:=by
 have sc:=Ei;refine oE (k:=9) Fu hm sc (Fu.binds (ps:=["floor","folder","name","kind"]) λ_ _ _ _ _ _ us hl=>match us,hl with|[_,_,_,_],_=>rfl) zc_NoChange (λMD A outer s H E hr=>?_)
 exact(mK (qh zc_NoChange i' hr (by rfl) (af (ae 0) (af (ae 1) (af (cT gl_FOLDER) ay))).out (by decide) (by rfl) (by decide) (a9 (by rfl)) (fU (by rfl)) (cY (by rfl))) (gK j4) (rX (aG J' hr (af (ae 0) (af (ae 1) (af (cT gl_FOLDER) ay))))).out (qy (aZ (aG MK hr (af (ae 0) (af (ae 1) ay))) (aE 4 sc.nd)).out (mK (zB zc_NoChange K' (by rfl) (eJ (eZ (cE (cF (aG MC hr (af (ae 3) ay)))) (gQ (bO (jU hr.units) jH jw (ae 3) (w4 (af (cT gl_FILE) (af (cT gl_FOLDER) ay))))))).out) jg (cM (eJ (eZ (cE (cF (aG MC hr (af (ae 3) ay)))) (gQ (bO (jU hr.units) jH jw (ae 3) (w4 (af (cT gl_FILE) (af (cT gl_FOLDER) ay))))))) (bc vw) cO).out (nV zc_NoChange K' (by rfl) (eJ (eZ (cE (cF (aG MT hr (af (ae 2) ay)))) (eZ (bO (eS hr.units) eP fM (ae 2) ah) (eZ (bO (DD hr.units) CY C5 (ae 2) (n6 (lu MY (ae 4)) n8)) (gQ (bO L2.IT KC ES (bT fE fR G' cj (ae 4)) (cT gl_MOST_FOLDER_NAMES))))))).out))))
noncomputable abbrev sH:Stmt:=top 46
theorem KG:L2.aY ["floor","folder","name","pairs","head","left","behind"] ["floor","folder","name"] (L2.aI sH):=bB
theorem Hc:∀ds y,j5 ds=.exc y->y=.bN (Str.ofString "NoChange") [] []:=λds y h=>(lF (gK j4) (rL (lF jg (rL jg)))) _ y h
theorem EA(Fu:L2.d8 K "dropped" "dropped" sH f fd)(hm:mg "dropped"=some (.ref f)){B':Addr}(zc_NoChange:dD K "NoChange" B')(K':mg "NoChange"=some (.ref B'))(MY:mg "dict"=none)(G':mg "len"=none)(gl_FOLDER:cZ P w K mg "FOLDER" du)(J':Df P w K mg base "refuse_no_node" 9 3 gT)(MK:Df P w K mg base "pairs_of" 6 2 dR)(MT:Df P w K mg base "is_word" 2 1 ic)(i':Rf P w K mg base "refuse_no_node" 9 3 "NoChange" dg)(i':Rf P w K mg base "refuse_no_node" 9 3 "NoChange" dg):Rf P w K mg base "dropped" 10 3 "NoChange" j5:=by
 have sc:=KG;refine oE (k:=9) Fu hm sc (Fu.binds (ps:=["floor","folder","name"]) λ_ _ _ _ _ _ us hl=>match us,hl with|[_,_,_],_=>rfl) zc_NoChange (λMD A outer s H E hr=>?_)
 exact(mK (qh zc_NoChange i' hr (by rfl) (af (ae 0) (af (ae 1) (af (cT gl_FOLDER) ay))).out (by decide) (by rfl) (by decide) (a9 (by rfl)) (fU (by rfl)) (cY (by rfl))) (gK j4) (rX (aG J' hr (af (ae 0) (af (ae 1) (af (cT gl_FOLDER) ay))))).out (qy (aZ (aG MK hr (af (ae 0) (af (ae 1) ay))) (aE 3 sc.nd)).out (mK (zB zc_NoChange K' (by rfl) (eJ (eZ (cE (cF (aG MT hr (af (ae 2) ay)))) (gQ (bO (jU hr.units) jH jw (ae 2) (n6 (lu MY (ae 3)) n8))))).out) jg (cM (eJ (eZ (cE (cF (aG MT hr (af (ae 2) ay)))) (gQ (bO (jU hr.units) jH jw (ae 2) (n6 (lu MY (ae 3)) n8))))) (bc vw) cO).out (qy (aZ (bE (n6 (lu MY (ae 3)) n8) (ae 2)) (aE 4 sc.nd)).out (nV zc_NoChange K' (by rfl) (bO L2.sG sU tK (bT fE fR G' cj (aG MK hr (af (ae 0) (af (ae 4) ay)))) ah).out)))))
noncomputable abbrev vk:Stmt:=top 10
theorem GG:L2.aY ["thing","low","high"] ["thing","low","high"] (L2.aI vk):=bB
theorem Ds(F:FH P w K mg base "is_between" vk)(MC:Df P w K mg base "is_whole" 1 1 eK):Df P w K mg base "is_between" 2 3 kg:=by
 have sc:=GG;refine dF F sc (λ_ MD A outer s H E hr=>?_);exact((bc (bh (i5 (aG MC hr (af (ae 0) ay)) (jW (Ag L2.oF L2.oF ou ou (ae 1) (ae 0) (ae 2))))))).out
noncomputable abbrev uL:Stmt:=top 47
theorem JC:L2.aY ["floor","head","place","word","size","words","cells","fresh"] ["floor","head","place","word"] (L2.aI uL):=bB
theorem K4:∀ds y,kj ds=.exc y->y=.bN (Str.ofString "NoChange") [] []:=λds y h=>(lF (gK j4) (rL jg)) _ y h
theorem Kq(Fu:L2.d8 K "put_word" "put_word" uL f fd)(hm:mg "put_word"=some (.ref f)){B':Addr}(zc_NoChange:dD K "NoChange" B')(K':mg "NoChange"=some (.ref B'))(O':mg "min"=none)(gl_FILE:cZ P w K mg "FILE" fF)(gl_MOST_FILE_WORDS:cZ P w K mg "MOST_FILE_WORDS" sL)(J':Df P w K mg base "refuse_no_node" 9 3 gT)(MV:Df P w K mg base "size_of" 1 2 i3)(MX:Df P w K mg base "is_between" 2 3 kg)(MT:Df P w K mg base "is_word" 2 1 ic)(i':Rf P w K mg base "refuse_no_node" 9 3 "NoChange" dg)(i':Rf P w K mg base "refuse_no_node" 9 3 "NoChange" dg):Rf P w K mg base "put_word" 10 4 "NoChange" kj:=by
 have sc:=JC;refine oE (k:=9) Fu hm sc (Fu.binds (ps:=["floor","head","place","word"]) λ_ _ _ _ _ _ us hl=>match us,hl with|[_,_,_,_],_=>rfl) zc_NoChange (λMD A outer s H E hr=>?_)
 exact(mK (qh zc_NoChange i' hr (by rfl) (af (ae 0) (af (ae 1) (af (cT gl_FILE) ay))).out (by decide) (by rfl) (by decide) (a9 (by rfl)) (fU (by rfl)) (cY (by rfl))) (gK j4) (rX (aG J' hr (af (ae 0) (af (ae 1) (af (cT gl_FILE) ay))))).out (qy (aZ (aG MV hr (af (ae 0) (af (ae 1) ay))) (aE 4 sc.nd)).out (nV zc_NoChange K' (by rfl) (eJ (eZ (cE (cF (aG MX hr (af (ae 2) (af ah (af (IG (L2.DW rfl) CW O' Gs (ae 4) (ak L2.gc fY (cT gl_MOST_FILE_WORDS) ah)) ay)))))) (gQ (cE (cF (aG MT hr (af (ae 3) ay))))))).out)))
noncomputable abbrev wU:Stmt:=top 48
theorem Fp:L2.aY ["floor","head","many"] ["floor","head","many"] (L2.aI wU):=bB
theorem DO:∀ds y,kL ds=.exc y->y=.bN (Str.ofString "NoChange") [] []:=λds y h=>(lF (gK j4) jg) _ y h
theorem Lx(Fu:L2.d8 K "cut_to" "cut_to" wU f fd)(hm:mg "cut_to"=some (.ref f)){B':Addr}(zc_NoChange:dD K "NoChange" B')(K':mg "NoChange"=some (.ref B'))(gl_FILE:cZ P w K mg "FILE" fF)(J':Df P w K mg base "refuse_no_node" 9 3 gT)(MV:Df P w K mg base "size_of" 1 2 i3)(MX:Df P w K mg base "is_between" 2 3 kg)(i':Rf P w K mg base "refuse_no_node" 9 3 "NoChange" dg)(i':Rf P w K mg base "refuse_no_node" 9 3 "NoChange" dg):Rf P w K mg base "cut_to" 10 3 "NoChange" kL:=by
 have sc:=Fp;refine oE (k:=9) Fu hm sc (Fu.binds (ps:=["floor","head","many"]) λ_ _ _ _ _ _ us hl=>match us,hl with|[_,_,_],_=>rfl) zc_NoChange (λMD A outer s H E hr=>?_)
 exact(mK (qh zc_NoChange i' hr (by rfl) (af (ae 0) (af (ae 1) (af (cT gl_FILE) ay))).out (by decide) (by rfl) (by decide) (a9 (by rfl)) (fU (by rfl)) (cY (by rfl))) (gK j4) (rX (aG J' hr (af (ae 0) (af (ae 1) (af (cT gl_FILE) ay))))).out (nV zc_NoChange K' (by rfl) (cE (cF (aG MX hr (af (ae 2) (af ah (af (aG MV hr (af (ae 0) (af (ae 1) ay))) ay)))))).out))
noncomputable abbrev vM:Stmt:=top 67
theorem Fc:L2.aY ["_law_deed","_law_floor","_law_one","_law_other","_law_more","_law_good","_law_handed","e"] ["_law_deed","_law_floor","_law_one","_law_other","_law_more"] (L2.aI vM):=bB
theorem J5(F:FH P w K mg base "_law_refused" vM)(zc_NoChange:dD K "NoChange" B')(ct_NoChange_UnderError:kh K B' Na)(Np:mg "UnderError"=some (.ref Na))(ki_NoChange_NoChange:PySem.W.kitOne K (.ref B') (.ref B')=some true)(K':mg "NoChange"=some (.ref B'))(ki_NoChange_ValueError:PySem.W.kitOne K (.ref B') (.type "ValueError")=some true)(ki_NoChange_NoRoom:PySem.W.kitOne K (.ref B') (.ref NS)=some false)(Oc:mg "NoRoom"=some (.ref NS))(ki_NoChange_NoState:PySem.W.kitOne K (.ref B') (.ref Nz)=some false)(N3:mg "NoState"=some (.ref Nz))(Nt:mg "ValueError"=none)(ML:mg "isinstance"=none)(MM:mg "list"=none)(OP:Rf P w K mg base "made" 10 4 "NoChange" jI)(NZ:Rf P w K mg base "dropped" 10 3 "NoChange" j5)(NP:Rf P w K mg base "put_word" 10 4 "NoChange" kj)(Od:Rf P w K mg base "cut_to" 10 3 "NoChange" kL):Df P w K mg base "_law_refused" 11 5 bG:=by
 have sc:=Fc;refine dF F sc (λ_ MD A outer s H E hr=>?_)
 exact((av (aZ eR (aE 5 sc.nd)) (av (aZ (kX L2.pV sX MM mw (ae 1)) (aE 6 sc.nd)) (av (Kp (sA (bO (eS hr.units) eP fM (ae 0) ah).out (rW OP hr (by rfl) (af (ae 6) (af (ae 2) (af (ae 3) (af (ae 4) ay)))).out rfl (by decide) (by rfl) (by decide) (a9 (by rfl)) (fU (by rfl)) (cY (by rfl))) (sA (bO (eS hr.units) eP fM (ae 0) ah).out (rW NZ hr (by rfl) (af (ae 6) (af (ae 2) (af (ae 3) ay))).out rfl (by decide) (by rfl) (by decide) (a9 (by rfl)) (fU (by rfl)) (cY (by rfl))) (sA (bO (eS hr.units) eP fM (ae 0) ah).out (rW NP hr (by rfl) (af (ae 6) (af (ae 2) (af (ae 3) (af (ae 4) ay)))).out rfl (by decide) (by rfl) (by decide) (a9 (by rfl)) (fU (by rfl)) (cY (by rfl))) (rW Od hr (by rfl) (af (ae 6) (af (ae 2) (af (ae 3) ay))).out rfl (by decide) (by rfl) (by decide) (a9 (by rfl)) (fU (by rfl)) (cY (by rfl))) rfl) rfl) rfl) (uJ (gK LG) (uJ (gK Hc) (uJ (gK K4) (gK DO)))) Np (Ec zc_NoChange ct_NoChange_UnderError) sc.nd (λxa=>gq.out (by exact(av (aZ (i5 (vc zc_NoChange (ae 7) ML K' ki_NoChange_NoChange) (jW (L9 zc_NoChange (ae 7) ML Nt PyProof.Rows.Boot.«ValueError» ki_NoChange_ValueError))) (aE 5 sc.nd)) (av (aZ (i5 (ae 5) (i5 (sI (vc zc_NoChange (ae 7) ML Oc ki_NoChange_NoRoom)) (jW (sI (vc zc_NoChange (ae 7) ML N3 ki_NoChange_NoState))))) (aE 5 sc.nd)) bR))))) (av (bh (i5 (ae 5) (jW (uq (eS hr.units) eP (ae 6) (ae 1))))) bR))))).out
noncomputable abbrev qH:Stmt:=top 68
theorem Fm:L2.aY ["_law_model_here","_law_floor","_law_number","_law_parts","_law_head","_law_marks_here","_law_some"] ["_law_model_here","_law_floor","_law_number"] (L2.aI qH):=bB
theorem C0(F:FH P w K mg base "_law_no_heads" qH)(G':mg "len"=none)(L':mg "range"=none)(M4:Df P w K mg base "_law_marks" 1 2 ku)(j':Df P w K mg base "_law_refused" 11 5 bG):Df P w K mg base "_law_no_heads" 12 3 m4:=by
 have sc:=Fm;refine dF F sc (λ_ MD A outer s H E hr=>?_)
 exact((av (aZ (dG ay) (aE 3 sc.nd)) (av (dJ (f:=my) (l8 (ae 0)) (aE 4 sc.nd) (by delta my;exact(bc (aZ (ak bp br (ae 3) (bE (bE (ae 0) (ae 4)) ah)) (aE 3 sc.nd))))) (av (aZ (aG M4 hr (af (ae 0) (af (bT fE fR G' cj (ae 1)) ay))) (aE 5 sc.nd)) (av (aZ (ak bp br (dG (af ah (af ah (af ah (af (bT fE fR G' cj (ae 1)) (af (ak bp br (bT fE fR G' cj (ae 1)) (ak L2.bY bW (ak b9 cn (ae 2) ah) ah)) ay)))))) (gJ (gJ (ae 3) (c8 (ak L2.bY bW (ak b9 cn (ae 2) ah) (ak bp br (bT fE fR G' cj (ae 3)) ah))) iU) iU (c8 ah))) (aE 6 sc.nd)) (av (aZ (ak bp br (ae 6) (gJ (k9 (kb ["_law_k"] ["_law_marks_here"] [5] (jB (L2.aI qH) ["_law_model_here","_law_floor","_law_number","_law_parts","_law_head","_law_marks_here","_law_some"] (by rfl) (by rfl) (by decide+kernel)) (iR L' (bT fE fR G' cj (ae 1))) (λcl C s H fp=>by exact(aE 0 (show List.Nodup (["_law_k","_law_marks_here"]:List Str)from by decide+kernel))) (λcl C s H fp=>by exact(uI (bO (eS hr.units) eP fM (bE (ae 1) (ae 0)) ah) jK)) (λcl C s H fp=>by exact(ae 0)))) iU (c8 ah))) (aE 6 sc.nd)) (av (dJ (f:=kI) (iJ (dG (af (bE (ae 6) (ak L2.bY bW (ae 2) (bT fE fR G' cj (ae 6)))) (af (bE (ae 6) (ak L2.bY bW (ak b9 cn (ae 2) ah) (bT fE fR G' cj (ae 6)))) ay)))) (aE 4 sc.nd) (by delta kI;exact(av (cM (eJ (eZ (cE (cF (aG j' hr (af ah (af (ae 1) (af (ae 4) (af ah (af ah ay)))))))) (gQ (cE (cF (aG j' hr (af ah (af (ae 1) (af (ae 4) (af ah (af ah ay))))))))))) (bc (bh eR)) cO) (av (cM (eJ (eZ (cE (cF (aG j' hr (af ah (af (ae 1) (af (ae 4) (af ah (af ah ay)))))))) (gQ (cE (cF (aG j' hr (af ah (af (ae 1) (af (ae 4) (af ah (af ah ay))))))))))) (bc (bh eR)) cO) bR)))) (av (bh eR) bR)))))))).out
noncomputable abbrev pJ:Stmt:=top 65
theorem IW:L2.aY ["_law_model_here"] ["_law_model_here"] (L2.aI pJ):=bB
theorem Fz(F:FH P w K mg base "_law_folders" pJ):Df P w K mg base "_law_folders" 1 1 nh:=by
 have sc:=IW;refine dF F sc (λ_ MD A outer s H E hr=>?_);exact((bc (bh (k9 (kb ["_law_head"] ["_law_model_here"] [0] (jB (L2.aI pJ) ["_law_model_here"] (by rfl) (by rfl) (by decide+kernel)) (l8 (ae 0)) (λcl C s H fp=>by exact(aE 0 (show List.Nodup (["_law_head","_law_model_here"]:List Str)from by decide+kernel))) (λcl C s H fp=>by exact(uI (bO (eS hr.units) eP fM (bE (bE (ae 1) (ae 0)) ah) ah) jK)) (λcl C s H fp=>by exact(ae 0))))))).out
noncomputable abbrev vI:Stmt:=top 69
theorem LX:L2.aY ["_law_model_here","_law_floor","_law_folder","_law_number","_law_names","_law_other","_law_name_here","_law_node"] ["_law_model_here","_law_floor","_law_folder","_law_number"] (L2.aI vI):=bB
theorem J3(F:FH P w K mg base "_law_in_folder" vI)(G':mg "len"=none)(MZ:mg "sorted"=none)(M7:Df P w K mg base "_law_name" 1 1 kz)(j':Df P w K mg base "_law_refused" 11 5 bG):Df P w K mg base "_law_in_folder" 12 4 oO:=by
 have sc:=LX;refine dF F sc (λ_ MD A outer s H E hr=>?_)
 exact((av (aZ (bE (bE (ae 0) (ae 2)) ah) (aE 4 sc.nd)) (av (aZ (aG M7 hr (af (ae 3) ay)) (aE 5 sc.nd)) (av (cM (cE (cF (aG j' hr (af ah (af (ae 1) (af (ae 2) (af ah (af (ak bp br ah (ak L2.bY bW (ae 3) ah)) ay)))))))) (bc (bh eR)) cO) (av (cM (cE (cF (aG j' hr (af ah (af (ae 1) (af (ae 2) (af (ae 5) (af (ak ft fA ah (ak L2.bY bW (ae 3) ah)) ay)))))))) (bc (bh eR)) cO) (av (cM (eJ (kK (bO (jU hr.units) jH jw (ae 5) (ae 4)) (oH (cE (cF (aG j' hr (af ah (af (ae 1) (af (ae 2) (af (ae 5) (af ah ay))))))))))) (bc (bh eR)) cO) (av (cM (eJ (kK (bO (eS hr.units) eP fM (bT eV eY G' cj (ae 4)) ah) (oH (cE (cF (aG j' hr (af ah (af (ae 1) (af (ae 2) (af (ae 5) (af ah ay))))))))))) (bc (bh eR)) cO) (av (dJ (f:=kG) (iJ (gJ (gJ (bT (yd rfl) yK MZ vE (ae 4)) (c8 (ak L2.bY bW (ae 3) (ak bp br (bT eV eY G' cj (ae 4)) ah))) iU) iU (c8 ah))) (aE 6 sc.nd) (by delta kG;exact(av (cM (cE (cF (aG j' hr (af ah (af (ae 1) (af (ae 2) (af (ae 6) (af (ak bp br ah (ak L2.bY bW (ak b9 cn (ae 3) ah) ah)) ay)))))))) (bc (bh eR)) cO) (av (aZ (bE (ae 0) (bE (ae 4) (ae 6))) (aE 7 sc.nd)) (av (cM (eJ (kK (bO (eS hr.units) eP fM (bE (ae 7) ah) ah) (kK (bO (Ca hr.units) C7 G0 (bE (ae 7) ah) Lf) (oH (cE (cF (aG j' hr (af ah (af (ae 1) (af (ae 2) (af (ae 6) (af ah ay)))))))))))) (bc (bh eR)) cO) bR))))) (av (bh (i5 (aG j' hr (af ah (af (ae 1) (af (ae 2) (af ah (af ah ay)))))) (jW (aG j' hr (af ah (af (ae 1) (af (ae 2) (af ah (af ah ay))))))))) bR))))))))).out
noncomputable abbrev rC:Stmt:=top 66
theorem EZ:L2.aY ["_law_model_here"] ["_law_model_here"] (L2.aI rC):=bB
theorem Fq(F:FH P w K mg base "_law_files" rC):Df P w K mg base "_law_files" 1 1 o7:=by
 have sc:=EZ;refine dF F sc (λ_ MD A outer s H E hr=>?_);exact((bc (bh (k9 (kb ["_law_head"] ["_law_model_here"] [0] (jB (L2.aI rC) ["_law_model_here"] (by rfl) (by rfl) (by decide+kernel)) (l8 (ae 0)) (λcl C s H fp=>by exact(aE 0 (show List.Nodup (["_law_head","_law_model_here"]:List Str)from by decide+kernel))) (λcl C s H fp=>by exact(uI (bO (eS hr.units) eP fM (bE (bE (ae 1) (ae 0)) ah) ah) jK)) (λcl C s H fp=>by exact(ae 0))))))).out
noncomputable abbrev vo:Stmt:=top 70
theorem Lp:L2.aY ["_law_model_here","_law_floor","_law_head","_law_number","_law_many","_law_far","_law_low"] ["_law_model_here","_law_floor","_law_head","_law_number"] (L2.aI vo):=bB
theorem L5(F:FH P w K mg base "_law_in_file" vo)(G':mg "len"=none)(j':Df P w K mg base "_law_refused" 11 5 bG):Df P w K mg base "_law_in_file" 12 4 nJ:=by
 have sc:=Lp;refine dF F sc (λ_ MD A outer s H E hr=>?_);exact((av (aZ (bT fE fR G' cj (bE (bE (ae 0) (ae 2)) ah)) (aE 4 sc.nd)) (av (aZ (ak bp br (ak bp br (ae 4) ah) (ak L2.bY bW (ae 3) (bE (dG (af ah (af ah (af (ak gb gd ah ah) ay)))) (ak L2.bY bW (ak b9 cn (ae 3) ah) ah)))) (aE 5 sc.nd)) (av (cM (eJ (eZ (cE (cF (aG j' hr (af ah (af (ae 1) (af (ae 2) (af (ae 5) (af ah ay)))))))) (gQ (cE (cF (aG j' hr (af ah (af (ae 1) (af (ae 2) (af (ae 5) (af ah ay))))))))))) (bc (bh eR)) cO) (av (cM (eJ (kK (bO (eS hr.units) eP fM (ae 4) ah) (oH (cE (cF (aG j' hr (af ah (af (ae 1) (af (ae 2) (af ah (af ah ay))))))))))) (bc (bh eR)) cO) (av (dJ (f:=ky) (iJ (dG (af (Ed L2.Cb CC ah) (af (ak L2.gc fY ah (ae 5)) ay)))) (aE 6 sc.nd) (by delta ky;exact(bc (cM (eJ (eZ (cE (cF (aG j' hr (af ah (af (ae 1) (af (ae 2) (af (ae 6) (af ah ay)))))))) (gQ (cE (cF (aG j' hr (af ah (af (ae 1) (af (ae 2) (af (ae 6) (af ah ay))))))))))) (bc (bh eR)) cO)))) (av (bh (i5 (aG j' hr (af ah (af (ae 1) (af (ae 2) (af ah (af ah ay)))))) (jW (aG j' hr (af ah (af (ae 1) (af (ae 2) (af ah (af ah ay))))))))) bR))))))).out
noncomputable abbrev l9:Stmt:=top 71
theorem Kn:L2.aY ["_law_script","_law_model_here","_law_floor","_law_cell","_law_number","_law_folder","_law_head"] ["_law_script"] (L2.aI l9):=bB
theorem GW(Fu:L2.d8 K "law" "law" l9 f fd)(hm:mg "law"=some (.ref f))(NB:Df P w K mg base "_law_drawn" 4 1 nZ)(MP:Df P w K mg base "_law_cell_at" 1 2 gN)(MN:Df P w K mg base "_law_digits" 1 1 jc)(Nc:Df P w K mg base "_law_no_heads" 12 3 m4)(Nk:Df P w K mg base "_law_folders" 1 1 nh)(Nq:Df P w K mg base "_law_picked" 1 2 oV)(M8:Df P w K mg base "_law_in_folder" 12 4 oO)(NF:Df P w K mg base "_law_files" 1 1 o7)(Ni:Df P w K mg base "_law_in_file" 12 4 nJ):L2.fj P w K mg base L2.dY 13 f fd ["_law_script"] (iB ⟨K,P,w⟩ lH 1):=by
 have sc:=Kn;refine yU (k:=12) Fu sc (λMD A outer s H E hr=>?_);exact((av (aZ (aG NB hr (af (ae 0) ay)) (uD (jl 1 (aE 1 sc.nd) (jl 2 (aE 2 sc.nd) rA)) mY)) (av (dJ (f:=ke) (iJ (ak bp br (dG (af (aG MP hr (af (ae 0) (af ah ay))) ay)) (gJ (ae 0) (c8 ah) (c8 ah)))) (aE 3 sc.nd) (by delta ke;exact(av (aZ (aG MN hr (af (ae 3) ay)) (aE 4 sc.nd)) (av (cM (cE (cF (aG Nc hr (af (ae 1) (af (ae 2) (af (ae 4) ay)))))) (bc (bh eR)) cO) (av (aZ (ak b9 cn (ae 4) (ak gb gd ah ah)) (aE 4 sc.nd)) (av (aZ (aG Nq hr (af (aG Nk hr (af (ae 1) ay)) (af (ae 4) ay))) (aE 5 sc.nd)) (av (cM (cE (cF (aG M8 hr (af (ae 1) (af (ae 2) (af (ae 5) (af (ak b9 cn (ae 4) ah) ay))))))) (bc (bh eR)) cO) (av (dJ (f:=kr) (iJ (gJ (gJ (aG NF hr (af (ae 1) ay)) (c8 (ak L2.bY bW (ae 4) ah)) iU) iU (c8 ah))) (aE 6 sc.nd) (by delta kr;exact(bc (cM (cE (cF (aG Ni hr (af (ae 1) (af (ae 2) (af (ae 6) (af (ak b9 cn (ae 4) ah) ay))))))) (bc (bh eR)) cO)))) bR)))))))) (av (bh eR) bR)))).out
end
theorem all_mk{w:World}{K:PySem.W.Frag}{h:Heap}{mg:Str->S2}{fa B' Na NS Nz:Addr}(X:K.In h)(G:h.Ns mainGlobals mg)(XJ:mg "law"=some (.ref fa))
  (F0:FK K mg "_law_cell_at" uf)
  (F1:FK K mg "_law_wants" vG)
  (F2:FK K mg "_law_crowd" tZ)
  (F3:FK K mg "_law_digits" so)
  (F4:FK K mg "_law_name" sT)
  (F5:FK K mg "_law_words" wK)
  (F6:FK K mg "_law_nodes" tL)
  (F7:FK K mg "_law_model" se)
  (F8:FK K mg "_law_block" tE)
  (F9:FK K mg "_law_marks" qJ)
  (F10:FK K mg "_law_data" uS)
  (F11:FK K mg "_law_laid" uM)
  (F12:FK K mg "_law_base" rY)
  (F13:FK K mg "_law_drawn" sj)
  (F14:FK K mg "_law_picked" sr)
  (F15:FK K mg "is_whole" vH)
  (F16:FK K mg "map_blocks" uW)
  (F17:FK K mg "root_of" ur)
  (F18:FK K mg "kind_of" sF)
  (F19:FK K mg "blocks_wanted" uP)
  (F20:FK K mg "cells_wanted" uN)
  (F21:FK K mg "size_of" wx)
  (F22:FK K mg "many_cells" v3)
  (F23:FK K mg "blocks_of" vL)
  (F24:FK K mg "block_words" wY)
  (F25:FK K mg "cells_of" vD)
  (F26:FK K mg "pairs_of" sY)
  (F27:FK K mg "node_at" vY)
  (F28:FK K mg "tree_of" qI)
  (F29:FK K mg "refuse_no_node" pH)
  (F30:FK K mg "is_word" wq)
  (F31:FK K mg "made" sQ)
  (F32:FK K mg "dropped" sH)
  (F33:FK K mg "is_between" vk)
  (F34:FK K mg "put_word" uL)
  (F35:FK K mg "cut_to" wU)
  (F36:FK K mg "_law_refused" vM)
  (F37:FK K mg "_law_no_heads" qH)
  (F38:FK K mg "_law_folders" pJ)
  (F39:FK K mg "_law_in_folder" vI)
  (F40:FK K mg "_law_files" rC)
  (F41:FK K mg "_law_in_file" vo)
  (F42:FK K mg "law" l9)
  (z_ValueError:PySem.W.nsIn K mainGlobals "ValueError"=some none)
  (z_bool:PySem.W.nsIn K mainGlobals "bool"=some none)
  (z_dict:PySem.W.nsIn K mainGlobals "dict"=some none)
  (z_int:PySem.W.nsIn K mainGlobals "int"=some none)
  (z_isinstance:PySem.W.nsIn K mainGlobals "isinstance"=some none)
  (z_len:PySem.W.nsIn K mainGlobals "len"=some none)
  (z_list:PySem.W.nsIn K mainGlobals "list"=some none)
  (z_min:PySem.W.nsIn K mainGlobals "min"=some none)
  (z_range:PySem.W.nsIn K mainGlobals "range"=some none)
  (z_sorted:PySem.W.nsIn K mainGlobals "sorted"=some none)
  (z_tuple:PySem.W.nsIn K mainGlobals "tuple"=some none)
  (z_zip:PySem.W.nsIn K mainGlobals "zip"=some none)
  (y_NoChange:PySem.W.nsIn K mainGlobals "NoChange"=some (some (.ref B')))
  (y_UnderError:PySem.W.nsIn K mainGlobals "UnderError"=some (some (.ref Na)))
  (y_NoRoom:PySem.W.nsIn K mainGlobals "NoRoom"=some (some (.ref NS)))
  (y_NoState:PySem.W.nsIn K mainGlobals "NoState"=some (some (.ref Nz)))
  (zc_NoChange:dD K "NoChange" B')
  (ct_NoChange_UnderError:kh K B' Na)
  (ki_NoChange_NoChange:PySem.W.kitOne K (.ref B') (.ref B')=some true)
  (ki_NoChange_ValueError:PySem.W.kitOne K (.ref B') (.type "ValueError")=some true)
  (ki_NoChange_NoRoom:PySem.W.kitOne K (.ref B') (.ref NS)=some false)
  (ki_NoChange_NoState:PySem.W.kitOne K (.ref B') (.ref Nz)=some false)
  (gl_PAGE_WORDS:cZ PySem.Challenge.pw_underfloor_k42_refused_changes w K mg "PAGE_WORDS" kQ)
  (gl_FIRST_BLOCK:cZ PySem.Challenge.pw_underfloor_k42_refused_changes w K mg "FIRST_BLOCK" uQ)
  (gl_FOLDER:cZ PySem.Challenge.pw_underfloor_k42_refused_changes w K mg "FOLDER" du)
  (gl_HEAD_WORDS:cZ PySem.Challenge.pw_underfloor_k42_refused_changes w K mg "HEAD_WORDS" nG)
  (gl_MOST_FOLDER_NAMES:cZ PySem.Challenge.pw_underfloor_k42_refused_changes w K mg "MOST_FOLDER_NAMES" rB)
  (gl_FILE:cZ PySem.Challenge.pw_underfloor_k42_refused_changes w K mg "FILE" fF)
  (gl_MOST_FILE_WORDS:cZ PySem.Challenge.pw_underfloor_k42_refused_changes w K mg "MOST_FILE_WORDS" sL):
  ∃fd:FuncData,(∀(s:Shared) (v:Value),BindsTo s fd ⟨[v],[]⟩ [("_law_script",v)])/\∀base:Heap,K.In base->base.Ns mainGlobals mg->L2.fj PySem.Challenge.pw_underfloor_k42_refused_changes w K mg base L2.dY 13 fa fd ["_law_script"] (iB ⟨K,PySem.Challenge.pw_underfloor_k42_refused_changes,w⟩ lH 1):=by
 obtain⟨f,fd,Fu,hm⟩:=F42;cases XJ.symm.trans hm;obtain⟨oc,od,kV,doc,pm,an,MD,ct,PJ,rfl,lk,Nn⟩:=Fu.ex;have Nt:=S7 X G z_ValueError;have OK:=S7 X G z_bool;have MY:=S7 X G z_dict;have NJ:=S7 X G z_int;have ML:=S7 X G z_isinstance;have G':=S7 X G z_len;have MM:=S7 X G z_list;have O':=S7 X G z_min;have L':=S7 X G z_range;have MZ:=S7 X G z_sorted;have Ny:=S7 X G z_tuple;have Pl:=S7 X G z_zip;have K':=abe X G y_NoChange;have Np:=abe X G y_UnderError;have Oc:=abe X G y_NoRoom;have N3:=abe X G y_NoState;refine⟨PySem.W.fnOf "law" "law" (L2.kM l9) (L2.fN l9) (L2.aI l9) .none kV doc pm an MD ct,λs v=>.of_eq rfl,λbase _ _=>?_⟩;have U:=@FK.up PySem.Challenge.pw_underfloor_k42_refused_changes w K mg base;have MP:=CS (U F0) G';have MF:=Cq (U F1);have NK:=HU (U F2) G' L' MF;have MN:=GP (U F3) L';have M7:=GR (U F4);have NG:=K5 (U F5) L';have NL:=B3 (U F6) NJ G' NK MN M7 NG MF;have NA:=LB (U F7) MY G' MM L' MF;have M3:=DC (U F8) G' MM Ny;have M4:=GB (U F9) NJ L';have NO:=IB (U F10) MZ;have NN:=Ji (U F11) G' MM L' M3 M4 NO;have NR:=FY (U F12) L' Ny;have NB:=Dm (U F13) MP NL MN NA NR NN;have Nq:=IF (U F14) G' MZ;have MC:=Kj (U F15) OK NJ ML;have Nr:=EF (U F16) gl_PAGE_WORDS;have N1:=Es (U F17) G' gl_FIRST_BLOCK Nr;have MH:=Cm (U F18)
 have M9:=Dx (U F19) gl_PAGE_WORDS;have Nb:=Hn (U F20) gl_FOLDER;have MV:=Kt (U F21);have MW:=CQ (U F22) MH MV Nb;have ND:=CH (U F23) MM gl_HEAD_WORDS MW M9;have Nh:=CB (U F24) MM ND;have M6:=HG (U F25) Nh MW;have MK:=Gy (U F26) MM Pl gl_FOLDER MH M6;have N2:=Cz (U F27) MY gl_FOLDER MH MK M6;have M':=L3 (U F28) G' N1 N2 MK;have J':=HC (U F29) MC M' MH;obtain⟨_,_,N8,N7⟩:=F29;have i':=FF N8 N7 zc_NoChange K' MC M' MH;have MT:=Kf (U F30) MC;obtain⟨_,_,QF,QL⟩:=F31;have OP:=Ck QF QL zc_NoChange K' MY G' gl_FOLDER gl_FILE gl_MOST_FOLDER_NAMES J' MK MC MT i' i';obtain⟨_,_,Pb,Pf⟩:=F32;have NZ:=EA Pb Pf zc_NoChange K' MY G' gl_FOLDER J' MK MT i' i';have MX:=Ds (U F33) MC;obtain⟨_,_,OZ,OS⟩:=F34;have NP:=Kq OZ OS zc_NoChange K' O' gl_FILE gl_MOST_FILE_WORDS J' MV MX MT i' i';obtain⟨_,_,Pu,Py⟩:=F35;have Od:=Lx Pu Py zc_NoChange K' gl_FILE J' MV MX i' i';have j':=J5 (U F36) zc_NoChange ct_NoChange_UnderError Np ki_NoChange_NoChange K' ki_NoChange_ValueError ki_NoChange_NoRoom Oc ki_NoChange_NoState N3 Nt ML MM OP NZ NP Od;have Nc:=C0 (U F37) G' L' M4 j';have Nk:=Fz (U F38);have M8:=J3 (U F39) G' MZ M7 j';have NF:=Fq (U F40);have Ni:=L5 (U F41) G' j';exact GW Fu hm NB MP MN Nc Nk Nq M8 NF Ni
end iX
namespace iX
theorem Cf(ns:tx)(h:ns.length<=63):lH [.lst (ns.map .int)]=.ok (.bl true):=B6 ns
end iX
end PL
namespace PySem.W.Fast
def tw14939533686899890171:=0
def tw4765159766632816177:=0
def tw9216642996719263520:=0
def tw6288636497796980380:=0
def tw11107309808046116940:=0
def tw4420369785573838369:=0
def tw6426462486931565284:=0
def tw1978725550163580993:=0
def tw12402287316245207191:=0
def tw17662166126857628265:=0
def tw6218889341962760198:=0
def tw8525782171968904231:=0
def tw10993657332355194320:=0
def tw1062868115413274874:=0
def tw1238776237802919232:=0
def tw280729798280055970:=0
def tw5014169309233531292:=0
def tw2759553858837458450:=0
def tw18380460282837172497:=0
def tw9149855009420260182:=0
def tw16582782297500394812:=0
def tw12699736892206112715:=0
def tw2039536669283972537:=0
def tw17268263062137248349:=0
def tw11636138493241790058:=0
def tw7196852145653769330:=0
def tw11220867481865550919:=0
def tw17384950574404872376:=0
def tw4494886251774310669:=0
def tw3992046864039711315:=0
def tw3240090393166267469:=0
def tw14889005965467364684:=0
def tw1604151762087309145:=0
def tw14539164827295677558:=0
def tw1232210025443200043:=0
def tw4636435309598331019:=0
def tw5652092890713999744:=0
def tw6177691179559644834:=0
def tw7172175142585549651:=0
def tw11640403091237613254:=0
def tw13233518283852495109:=0
def tw17316270670159341806:=0
def tw17681929475151716780:=0
def tw1910522216411340612:=0
def tw4128335018031265788:=0
def tw3060812246126530862:=0
def tw11389155803163910064:=0
def tw11619002050085221575:=0
def tw2802510727840823707:=0
def tw33995431481629044:=0
def tw10063796646548776946:=0
def tw886861732553340417:=0
def tw10827642361926186376:=0
def tw13333204198582148353:=0
def tw3655185806711924673:=0
def tw14404596204657060450:=0
def tw14500708172859034282:=0
def tw14614555341891446948:=0
def tw14243109476434269326:=0
def tw6278349649781564612:=0
def tw15710789777954110898:=0
def tw11739207143882206670:=0
def tw5189609702277096122:=0
def tw6071547353356359695:=0
def tw1466452137850282300:=0
def tw1954409183079175751:=0
def tw2314423788154825628:=0
def tw8505893400800047772:=0
def tw14182973311186828253:=0
def tw2606314236143423646:=0
def tw13919283272403071518:=0
def tw7995420567357912860:=0
def tw11845787719846506393:=0
def tw17934872526491985678:=0
def tw402154014215169125:=0
def tw3257798092744855233:=0
def tw17555044326758931970:=0
def tw2626895266982948505:=0
def tw2055732273399686676:=0
def tw754346023609578822:=0
def tw14003475760500941664:=0
def tw2246313241545174:=0
def tw5989333763488771458:=0
def tw8467384211045857454:=0
def tw1690461527794166738:=0
def tw13151180993065508149:=0
def tw9827195585246858876:=0
def tw17074172079885432710:=0
def tw4334767124980648621:=0
def tw12170420391764276297:=0
def tw10868167593055096258:=0
def tw485008395532388721:=0
def tw4201411560748692044:=0
def tw615009612591933817:=0
def tw11288822331219064190:=0
def tw16419475194479161919:=0
def tw8519087234952575648:=0
def tw2023095217425289358:=0
def tw8289424948360343441:=0
def tw3254808974892773000:=0
def tw8024518945643209633:=0
def tw3516111100402684615:=0
def tw1003463329011165447:=0
def tw5993216739809700604:=0
def tw13050581074253363194:=0
def tw17411097937101079393:=0
def tw18322413406420661378:=0
def tw13219658795056608388:=0
def tw14518764507024058981:=0
def tw10276119076246312654:=0
def tw16926125873296378333:=0
def tw6326521051178419252:=0
def tw459313386631197537:=0
def tw14675218331569497599:=0
def tw10434026068785256601:=0
def tw9822338388282814553:=0
def tw14505967071154814963:=0
def tw8893329279916112109:=0
def tw6886015859721901528:=0
def tw15541640482657435230:=0
def tw3627751177275399836:=0
def tw2966711778704687952:=0
def tw12777755732438951478:=0
def tw7425096346851065324:=0
def tw1464409979867116900:=0
def tw12907675872823781605:=0
def tw8249182082034953661:=0
def tw6607147953827346249:=0
def tw7796160460402146959:=0
def tw2996930985043359516:=0
def tw16440740943046299820:=0
def tw1838963052770812201:=0
def tw1865785613915206430:=0
def tw781216472508531872:=0
def tw4974312572811220626:=0
def tw3184932520257800549:=0
def tw4281516063743047339:=0
def tw14457018312802247455:=0
def tw10971071543313506561:=0
def tw15205907979186870517:=0
def tw5643047103514299544:=0
def tw8008262928155717605:=0
def tw18257683912788128948:=0
def tw16397744192548945980:=0
def tw11526103206453146980:=0
def tw11865066433309965511:=0
def tw11081104212795969373:=0
def tw2531842941598611103:=0
def tw5627006066917624815:=0
def tw4023378572210576673:=0
def tw9726283833397860858:=0
def tw2514711426765646287:=0
def tw835784312698453958:=0
def tw13558631888608467890:=0
def tw3836963855451737460:=0
def tw5146500986629099253:=0
def tw10799178437380859640:=0
def tw4334076199886792736:=0
def tw6344147831227646256:=0
def tw8120836513245724597:=0
def tw17233070722135472906:=0
def tw1988640302466633474:=0
def tw15388325330455147074:=0
def tw923847214219484219:=0
def tw820325164759168730:=0
def tw7614509728430294731:=0
def tw7820308991116928668:=0
def tw10930563962777263044:=0
def tw13615666042802315261:=0
def tw17742743748207675080:=0
def tw12682515554191413996:=0
def tw17566465145642598942:=0
def tw5879349652538316079:=0
def tw2648815593051961777:=0
def tw7920689844964523434:=0
def tw2624307003101955387:=0
def tw9591231017957532185:=0
def tw10167036016520149530:=0
def tw2158963193455934369:=0
def tw338524080900027987:=0
def tw11508635193580877128:=0
def tw11541173451359706940:=0
def tw6418252382881202965:=0
def tw2594090904435353678:=0
def tw11289535567719935417:=0
def tw15340029516108844720:=0
def tw7554324752725183853:=0
def tw15313462028672838847:=0
def tw2272825035821562501:=0
def tw11267489938337247437:=0
def tw8026150896211556080:=0
def tw16393078153303128741:=0
def tw16604446445902066958:=0
def tw7410941853742751351:=0
def tw13546291982385246167:=0
def tw8887733032148846142:=0
def tw13279846399045992246:=0
def tw1727342783586724940:=0
def tw2113567358404148503:=0
def tw13995581634954705212:=0
end PySem.W.Fast
open PySem PySem.W PyProof.Rows
set_option maxRecDepth 100000 in
set_option maxHeartbeats 0 in
theorem PySem.Challenge.cw_underfloor_k42_refused_changes_holds : PySem.Challenge.rw_underfloor_k42_refused_changes.Holds := by
  w_on; o_law; k_head; (case hw => w_witness2)
  k_fill
  refine PL.walk (l := PySem.Challenge.rw_underfloor_k42_refused_changes) (k := 13) (x := "_law_script") (m := PL.iX.lH) rfl rfl ⟨rfl, by decide, by decide⟩ (fun w h Y => PySem.W.kIn_of Y) ?F PL.iX.Cf
  case F =>
    intro w mg fa h KX G hmg
    refine' PL.iX.all_mk KX G hmg ?F0 ?F1 ?F2 ?F3 ?F4 ?F5 ?F6 ?F7 ?F8 ?F9 ?F10 ?F11 ?F12 ?F13 ?F14 ?F15 ?F16 ?F17 ?F18 ?F19 ?F20 ?F21 ?F22 ?F23 ?F24 ?F25 ?F26 ?F27 ?F28 ?F29 ?F30 ?F31 ?F32 ?F33 ?F34 ?F35 ?F36 ?F37 ?F38 ?F39 ?F40 ?F41 ?F42 ?z_ValueError ?z_bool ?z_dict ?z_int ?z_isinstance ?z_len ?z_list ?z_min ?z_range ?z_sorted ?z_tuple ?z_zip ?y_NoChange ?y_UnderError ?y_NoRoom ?y_NoState ?zc_NoChange ?ct_NoChange_UnderError ?ki_NoChange_NoChange ?ki_NoChange_ValueError ?ki_NoChange_NoRoom ?ki_NoChange_NoState ?gl_PAGE_WORDS ?gl_FIRST_BLOCK ?gl_FOLDER ?gl_HEAD_WORDS ?gl_MOST_FOLDER_NAMES ?gl_FILE ?gl_MOST_FILE_WORDS
    (case z_ValueError => k_is)
    (case z_bool => k_is)
    (case z_dict => k_is)
    (case z_int => k_is)
    (case z_isinstance => k_is)
    (case z_len => k_is)
    (case z_list => k_is)
    (case z_min => k_is)
    (case z_range => k_is)
    (case z_sorted => k_is)
    (case z_tuple => k_is)
    (case z_zip => k_is)
    (case y_NoChange => k_is)
    (case y_UnderError => k_is)
    (case y_NoRoom => k_is)
    (case y_NoState => k_is)
    (case zc_NoChange => refine' ⟨⟨?q1_zc_NoChange, ?q2_zc_NoChange, ?q3_zc_NoChange, ?q4_zc_NoChange, ?q5_zc_NoChange⟩, ?q6_zc_NoChange, ?q7_zc_NoChange⟩; (case q1_zc_NoChange => k_is); (case q2_zc_NoChange => k_is); (case q3_zc_NoChange => k_is); (case q4_zc_NoChange => k_is); (case q5_zc_NoChange => k_is); (case q6_zc_NoChange => k_is); (case q7_zc_NoChange => first | k_exc | k_is))
    (case ct_NoChange_UnderError => refine' ⟨?q1_ct_NoChange_UnderError, ?q2_ct_NoChange_UnderError, ?q3_ct_NoChange_UnderError⟩; (case q1_ct_NoChange_UnderError => k_is); (case q2_ct_NoChange_UnderError => k_is); (case q3_ct_NoChange_UnderError => k_is))
    (case ki_NoChange_NoChange => kit_is)
    (case ki_NoChange_ValueError => kit_is)
    (case ki_NoChange_NoRoom => kit_is)
    (case ki_NoChange_NoState => kit_is)
    (case gl_PAGE_WORDS => refine' PL.kA KX G ?x1_PAGE_WORDS ?x2_PAGE_WORDS; (case x1_PAGE_WORDS => k_is); (case x2_PAGE_WORDS => exact ⟨_, rfl⟩))
    (case gl_FIRST_BLOCK => refine' PL.kA KX G ?x1_FIRST_BLOCK ?x2_FIRST_BLOCK; (case x1_FIRST_BLOCK => k_is); (case x2_FIRST_BLOCK => exact ⟨_, rfl⟩))
    (case gl_FOLDER => refine' PL.kA KX G ?x1_FOLDER ?x2_FOLDER; (case x1_FOLDER => k_is); (case x2_FOLDER => exact ⟨_, rfl⟩))
    (case gl_HEAD_WORDS => refine' PL.kA KX G ?x1_HEAD_WORDS ?x2_HEAD_WORDS; (case x1_HEAD_WORDS => k_is); (case x2_HEAD_WORDS => exact ⟨_, rfl⟩))
    (case gl_MOST_FOLDER_NAMES => refine' PL.kA KX G ?x1_MOST_FOLDER_NAMES ?x2_MOST_FOLDER_NAMES; (case x1_MOST_FOLDER_NAMES => k_is); (case x2_MOST_FOLDER_NAMES => exact ⟨_, rfl⟩))
    (case gl_FILE => refine' PL.kA KX G ?x1_FILE ?x2_FILE; (case x1_FILE => k_is); (case x2_FILE => exact ⟨_, rfl⟩))
    (case gl_MOST_FILE_WORDS => refine' PL.kA KX G ?x1_MOST_FILE_WORDS ?x2_MOST_FILE_WORDS; (case x1_MOST_FILE_WORDS => k_is); (case x2_MOST_FILE_WORDS => exact ⟨_, rfl⟩))
    all_goals exact PL.FK.mk KX G (by k_is) (by k_is) (by k_is) (by k_is)

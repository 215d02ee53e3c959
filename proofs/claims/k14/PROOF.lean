import PyProof.Rows.All
import Wide.All
import OpenK.AllK
import Wide.FinOn
import Lean
import PyProof.EqAt
import PyProof.EqKinds
import PyProof.TupleCall
import KE.KIntText
import Wide.Seal
import PyProof.Rows.SortStr
import KE.KDictList
import PyProof.StrBlockH
import KE.KSortedL
import KE.KSorted
import PyProof.Rows.SortWalk
import PyProof.TupleKey
import PyProof.Rows.SetFrom
import KE.KItemsList
import PySem.Challenge.RW_underfloor_k14_one_row_done
noncomputable section
set_option Elab.async false
set_option linter.all false
set_option maxRecDepth 100000
def bU:=@List.getElem?_set_ne
def cp:=@PySem.wpAny_bind
def mB:=@PySem.Heap.get?_push_of_some
def mO:=@Bool.and_eq_true
def xM:=@List.getElem?_eq_some_iff
def AC:=@if_pos
def Da:=@List.mem_cons
def Do:=@List.mem_cons_of_mem
def DF:=@if_neg
def Fk:=@List.getElem?_eq_getElem
def FB:=@List.mem_cons_self
def FM:=@PySem.wpAny_pure
def FS:=@decide_eq_true
def Gc:=@Nat.le_refl
def GE:=@List.length_map
def GM:=@PySem.Heap.lt_size
def GT:=@List.mem_append_right
def IR:=@List.size_toArray
def JK:=@decide_eq_true_eq
def JU:=@PySem.Heap.get?_push_size
def KB:=@decide_eq_false
def KF:=@Nat.lt_of_lt_of_le
def KM:=@List.length_append
def Mk:=@List.getElem?_set_self
def MC:=@List.getElem?_map
def MG:=@List.nodup_cons
def M0:=@List.mem_append
def On:=@List.not_mem_nil
def Os:=@Eq.trans
def Ox:=@List.mem_append_left
def Pi:=@List.map_cons
def Pv:=@Nat.ne_of_lt
def PK:=@List.lookup_cons
def PP:=@List.mem_singleton
def P3:=@Ne.symm
def Re:=@Nat.le_trans
def Rf:=@Option.some.inj
def SB:=@List.length_zip
def SL:=@List.mem_of_getElem?
def SZ:=@List.nodup_append
def S3:=@PySem.W.mg_none_of
def S4:=@List.mem_map
def S5:=@List.map_map
def S6:=@List.getElem?_replicate
def S7:=@List.Sublist.refl
def S8:=@PySem.wpAny_mono
def UF:=@PySem.wpAny_field
def UV:=@PySem.Heap.size_push
def Wp:=@List.all_cons
def W1:=@List.getD_eq_getElem?_getD
def Xm:=@Nat.zero_le
def XU:=@or_false
def Zt:=@List.mem_filterMap
def ZF:=@List.length_take
def ZL:=@Bool.false_ne_true
def ZN:=@Nat.lt_irrefl
def ZO:=@List.map_nil
def ZP:=@List.length_set
def ZQ:=@List.map_append
def ZR:=@PySem.mem_of_lookup
def ZS:=@List.map_congr_left
def ZT:=@List.getElem?_append_left
def ZU:=@List.append_nil
def ZV:=@List.getElem?_append
def ZW:=@PySem.F.slot_tuple_iterator_next
def ZX:=@PySem.wpAny_seqItems
def ZY:=@beq_eq_false_iff_ne
def ZZ:=@PySem.wpAny_truthy_bool
def Z0:=@PySem.wpAny_newObj_type
def Z1:=@List.length_cons
def Z2:=@beq_self_eq_true
def Z3:=@List.nodup_nil
def Z4:=@List.map_fst_zip
def Z5:=@Nat.le_of_eq
def Z6:=@List.zipWith_cons_cons
def Z7:=@PySem.wpAny_callSpecial?_slot
def Z8:=@List.find?_cons
def Z9:=@Bool.or_eq_true
def aaa:=@List.forIn_cons
def aab:=@PySem.W.kia_tup
def aac:=@PyProof.Rows.callWith_type1
def aad:=@PySem.sizeLine_eq
def aae:=@PySem.wpAny_Call_Name_kw
def aaf:=@PySem.Calls.callWith_builtin
def aag:=@PySem.wpAny_setField_rec
def aah:=@List.getElem?_append_right
def aai:=@List.all_eq_true
def aaj:=@List.length_zipWith
def aak:=@List.any_cons
def aal:=@PySem.Calls.evalArgs_plain
def aam:=@List.of_mem_zip
def aan:=@List.mem_filter
def aao:=@Int.emod_nonneg
def aap:=@List.zip_cons_cons
def aaq:=@List.set_cons_zero
def aar:=@Int.eq_ofNat_of_zero_le
def aas:=@Nat.ne_of_gt
def aat:=@if_true
def aau:=@PySem.wpAny_loadPart'
def aav:=@PySem.Calls.spliced_cons
def aaw:=@PyProof.Rows.slot_tuple_getitem
def aax:=@List.length_replicate
def aay:=@PySem.F.slot_zip_next
def aaz:=@List.cons_append
def aaA:=@List.map_snd_zip
def aaB:=@beq_iff_eq
def aaC:=@PySem.W.mg_of
def aaD:=@PySem.Calls.spliced_nil
def aaE:=@Option.map_some
def aaF:=@List.nil_append
def aaG:=@Array.length_toList
def aaH:=@PySem.wpAny_call_entry
def aaI:=@PySem.wpAny_holding
def aaJ:=@List.set_cons_succ
def aaK:=@Int.emod_lt_of_pos
def aaL:=@PySem.wpAny_passesOwn
def aaM:=@List.sublist_append_right
def aaN:=@List.append_assoc
def aaO:=@Bool.eq_false_iff
def aaP:=@PySem.codeAny_mono
def aaQ:=@PySem.F.args_tuple_add_2
def aaR:=@PySem.F.entry_tuple_add
def aaS:=@if_false
def aaT:=@List.length_drop
def aaU:=@List.getElem?_set_self'
def aaV:=@PySem.F.slot_tuple_add
def aaW:=@Iff.rfl
def aaX:=@Nat.zero_add
def aaY:=@List.take_of_length_le
def aaZ:=@List.map_set
def aba:=@PySem.wpAny_pyIter_list
def abb:=@PySem.wpAny_Call_method
def abd:=@PySem.AutoSeq1.wpAny_loadPart'
def abe:=@PySem.F.slot_list_getattribute
def abf:=@or_assoc
def abg:=@List.filterMap_cons
def abh:=@Bool.true_and
def abi:=@Bool.false_eq_true
def abj:=@PySem.F.args_tuple_iterator_next_1
def abk:=@PySem.F.entry_tuple_iterator_next
def abl:=@Nat.le_of_lt
def abm:=@Nat.lt_trans
def abo:=@Nat.lt_succ_of_lt
def abp:=@PySem.wpAny_updateSeq_pair
def abq:=@And.left
def abr:=@List.drop_length
def abt:=@List.getElem_mem
def abu:=@PySem.Paired.length
def abv:=@PySem.wpAny_onRaise
def abw:=@PySem.typeIs_str
def abx:=@List.length_nil
def aby:=@Bool.eq_iff_iff
def abz:=@PySem.concat_meets
def abA:=@PySem.call_meetsIn
def abB:=@Array.getElem?_eq_getElem
def abC:=@List.drop_eq_getElem_cons
def abD:=@List.getElem?_zip_eq_some
def abE:=@PySem.F.slot_dict_getitem
def abF:=@PySem.noFill_tuple_add
def abG:=@PySem.F.slot_tuple_index
def abH:=@PySem.F.slot_dict_update
def abI:=@PySem.F.plainAttrs_list
def abJ:=@PySem.F.plainAttrs_dict
def abK:=@PySem.F.args_zip_next_1
def abL:=@PySem.F.slot_list_index
def abM:=@List.getElem?_cons_zero
def abN:=@PySem.wpAny_execs_nil
def abO:=@PySem.W.cellsFrom_some
def abP:=@Int.ediv_one
def abQ:=@PySem.F.entry_zip_next
def abR:=@PyProof.Rows.tail_any
def abS:=@List.getElem?_toArray
def abT:=@PySem.F.slot_dict_get
def abU:=@List.getElem?_zipWith
def abV:=@PySem.Calls.Name_function_global
def abW:=@PySem.call_meets
def abX:=@PySem.wpAny_rule
def abY:=@List.map_id
def abZ:=@PySem.W.codeHd_of_K
def aca:=@List.Sublist.append
def acb:=@PySem.W.callWith_K
def acd:=@PySem.seq_tuple_add
def ace:=@PySem.W.kitx_tuple
def acf:=@PySem.plainId_quiet
def acg:=@Option.isSome_map
def ach:=@PySem.W.kitx_none
def aci:=@PySem.W.kitx_bool
def acj:=@PySem.W.kitx_list
def ack:=@PySem.W.kitx_dict
def acm:=@of_decide_eq_true
def acn:=@Int.toNat_natCast
def aco:=@not_false_eq_true
def acp:=@PySem.wpAny_pyNext_list_item
def acq:=@Nat.min_le_right
def acr:=@PySem.wpAny_typeOf
def acs:=@PySem.Heap.get?_update_other
def acu:=@Option.getD_none
def acv:=@PySem.W.kitx_int
def acw:=@PySem.W.kitx_str
def acx:=@PySem.W.kla_eval
def acy:=@List.zipIdx_cons
def acz:=@Nat.min_eq_right
def acA:=@Option.bind_some
def acB:=@PySem.wpAny_isTrue_Compare1
def acC:=@PySem.wpAny_pyNext_list_end
def acD:=@PySem.Heap.get?_update_self
def acE:=@List.zipIdx_nil
def acF:=@Nat.min_eq_left
def acG:=@Nat.not_lt_zero
def acH:=@PySem.Around.frames_deeper
def acI:=@PySem.seqIndex_of
def acJ:=@List.drop_zero
def acK:=@List.forIn_nil
def acL:=@PySem.wpAny_letGo
def acM:=@not_or
def acN:=@PySem.Around.under_plainId
def acO:=@Bool.and_false
abbrev gV(x:PySem.Str):Prop:=(x==("__debug__":PySem.Str))=false
abbrev tx(x:PySem.Str):Prop:=(x==("__classdict__":PySem.Str))=false
noncomputable abbrev Xj:=List Int
noncomputable abbrev Zx:=List PySem.Addr
noncomputable abbrev acP:=List PySem.Expr
noncomputable abbrev acQ:=List PySem.Value
noncomputable abbrev acR:=Option PySem.Value
noncomputable abbrev acS:=PySem.Addr->Prop
namespace L2
open PySem PySem.Spec PyProof.Rows
noncomputable abbrev Key:=Sum Int Str
noncomputable def lE:Key->Value->Bool
 |.inl k,v=>Value.isInt k v
 |.inr x,v=>Value.isStrOf x v
noncomputable def L5(w:World):Key->Int
 |.inl k=>hashInt k
 |.inr x=>hashStr w x
theorem iO:∀ {k:Key} {v:Value},lE k v=true->(∃i t,k=Sum.inl i/\v=Value.int i t)\/(∃x t,k=Sum.inr x/\v=Value.str x t)
 | .inl i,v,h=>by
  obtain⟨t,e⟩:=Value.isInt_shape (k:=i) (v:=v) h;exact .inl ⟨i,t,rfl,e⟩
 | .inr x,v,h=>by
  obtain⟨t,e⟩:=Value.isStrOf_shape (x:=x) (v:=v) h;exact .inr ⟨x,t,rfl,e⟩
theorem G4(i:Int)(t:Tok):lE (.inl i) (.int i t)=true:=by simp[lE,Value.isInt]
theorem EN(x:Str)(t:Tok):lE (.inr x) (.str x t)=true:=by simp[lE,Value.isStrOf]
theorem Iw(a b:Int):decide ((Sum.inl a:Key)=Sum.inl b)=(a==b):=by
 by_cases e:a=b
 ·subst e;simp
 ·have h:¬(Sum.inl a:Key)=Sum.inl b:=λq=>e (Sum.inl.inj q)
  rw[KB h];exact(ZY.mpr e).symm
theorem Gr(a b:Str):decide ((Sum.inr a:Key)=Sum.inr b)=decide (a=b):=by
 by_cases e:a=b
 ·subst e;simp
 ·have h:¬(Sum.inr a:Key)=Sum.inr b:=λq=>e (Sum.inr.inj q)
  rw[KB h,KB e]
theorem Kt(a:Int)(b:Str):decide ((Sum.inl a:Key)=Sum.inr b)=false:=KB (λq=>nomatch q)
theorem FZ(a:Str)(b:Int):decide ((Sum.inr a:Key)=Sum.inl b)=false:=KB (λq=>nomatch q)
noncomputable def cK(prog:Program)(w:World):PySem.KeyKind prog w Key where
 is:=lE
 hash:=L5 w
 inj:=λv a b ha hb=>by
  rcases iO ha with⟨i,t,rfl,rfl⟩|⟨x,t,rfl,rfl⟩
  ·rcases iO hb with⟨j,u,rfl,e⟩|⟨y,u,rfl,e⟩
   ·injection e with e1 _;rw[e1]
   ·exact nomatch e
  ·rcases iO hb with⟨j,u,rfl,e⟩|⟨y,u,rfl,e⟩
   ·exact nomatch e
   ·injection e with e1 _;rw[e1]
 byValue:=λk v h=>by
  rcases iO h with⟨i,t,rfl,rfl⟩|⟨x,t,rfl,rfl⟩<;>rfl
 pyHash:=λhv h=>by
  rcases iO hv with⟨i,t,rfl,rfl⟩|⟨x,t,rfl,rfl⟩
  ·exact wpAny_pyHash_int h
  ·exact wpAny_pyHash_str h
 eqBool:=λhu hv h=>by
  rcases iO hu with⟨i,t,rfl,rfl⟩|⟨x,t,rfl,rfl⟩
  ·rcases iO hv with⟨j,u,rfl,rfl⟩|⟨y,u,rfl,rfl⟩
   ·rw[Iw]at h;exact wpAny_eqBool_int h
   ·rw[Kt]at h;exact SeqAt.EqAt.int_str i t y u _ _ _ _ h
  ·rcases iO hv with⟨j,u,rfl,rfl⟩|⟨y,u,rfl,rfl⟩
   ·rw[FZ]at h;exact SeqAt.EqAt.str_int x t j u _ _ _ _ h
   ·rw[Gr]at h;exact wpAny_eqBool_str h
 «strs»:=λk x t v h=>by
  rcases iO h with⟨i,u,rfl,e⟩|⟨y,u,rfl,e⟩
  ·exact nomatch e
  ·injection e with e1 _
   subst e1;cases v<;>rfl
theorem Ka(prog:Program)(w:World)(i:Int)(t:Tok):(cK prog w).is (.inl i) (.int i t)=true:=G4 i t
theorem uM(prog:Program)(w:World)(x:Str)(t:Tok):(cK prog w).is (.inr x) (.str x t)=true:=EN x t
inductive V where
 |aE|bl (b:Bool)|int (i:Int)|str (x:Str)|lW (b:Array UInt8)|cP (b:UInt64)|ref (a:Addr)|ty (n:String)
 deriving DecidableEq
def RelV:V->Value->Prop
 |.aE,u=>u=Value.none
 |.bl b,u=>u=Value.bool b
 |.int i,u=>∃t,u=Value.int i t
 |.str x,u=>∃t,u=Value.str x t
 |.lW b,u=>∃t,u=Value.bytes b t
 |.cP b,u=>∃t,u=Value.float b t
 |.ref a,u=>u=Value.ref a
 |.ty n,u=>u=Value.type n
abbrev Vals:List V->acQ->Prop:=Paired RelV
theorem Vals.length{xs:List V}{us:acQ}(r:Vals xs us):xs.length=us.length:=abu r
theorem Vals.get:∀ {xs:List V} {us:acQ} {i:Nat} {x:V},Vals xs us->xs[i]? =some x->∃u,us[i]? =some u/\RelV x u
 |_,_,_,_,.nil,e=>by simp at e
 |_,_,0,_,.cons r _,e=>by simp at e;subst e;exact⟨_,rfl,r⟩
 | _,_,i+1,x,.cons _ t,e=>by
  obtain⟨u,h1,h2⟩:=Vals.get (i:=i) (x:=x) t (by simpa using e)
  exact⟨u,by simpa using h1,h2⟩
theorem Vals.set(r:RelV x u):∀ {xs:List V} {us:acQ} (i:Nat),Vals xs us->Vals (xs.set i x) (us.set i u)
 |_,_,_,.nil=>.nil
 |_,_,0,.cons _ t=>.cons r t
 |_,_,i+1,.cons q t=>.cons q (Vals.set r i t)
theorem Vals.append:∀ {xs ys:List V} {us ws:acQ},Vals xs us->Vals ys ws->Vals (xs++ys) (us++ws)
 |_,_,_,_,.nil,s=>s
 |_,_,_,_,.cons r t,s=>.cons r (Vals.append t s)
theorem Vals.take:∀ {xs:List V} {us:acQ} (n:Nat),Vals xs us->Vals (xs.take n) (us.take n)
 |_,_,0,_=>.nil
 |_,_,_+1,.nil=>.nil
 |_,_,n+1,.cons r t=>.cons r (Vals.take n t)
theorem Vals.drop:∀ {xs:List V} {us:acQ} (n:Nat),Vals xs us->Vals (xs.drop n) (us.drop n)
 |_,_,0,r=>r
 |_,_,_+1,.nil=>.nil
 |_,_,n+1,.cons _ t=>Vals.drop n t
def gA:Option V->acR->Prop
 |some v,some u=>RelV v u
 |none,none=>True
 |_,_=>False
def KV{κ:Type}:List (κ×V)->List (κ×Value)->Prop:=Paired λ(p:κ×V) (q:κ×Value)=>p.1=q.1/\RelV p.2 q.2
noncomputable def kV:Key->V
 |.inl i=>.int i
 |.inr x=>.str x
inductive HO where
 |lst (xs:List V)
 |tup (xs:List V)
 |dK (j':List (Key×V))|dT (j':List (List Key×V))
 |set (S:Int->Bool) (n:Nat)
 |ins (C dx:Addr) (fs:List (Str×V))
 |own (x:Addr)
 |xd (fs:List (Str×V))
 |met (f x:Addr)
 |um (lo hi:Int)
 |frz (o:Obj) (u:HO)
 |bM (t:Option Obj)
 |ext (φ:Heap->Prop)
noncomputable abbrev Hp:=Addr->Option HO
noncomputable def upd(H:Hp)(a:Addr)(o:HO):Hp:=λb=>if b=a then some o else H b
theorem bO{H:Hp}{a:Addr}{o:HO}:upd H a o a=some o:=by unfold upd;rw[AC rfl]
theorem aN{H:Hp}{a b:Addr}{o:HO}(h:b≠a):upd H a o b=H b:=by unfold upd;rw[DF h]
theorem uH:upd (upd H a o) a u=upd H a u:=by
 funext b;unfold upd;split<;>rfl
theorem Ii{H:Hp}{a b:Addr}{o u:HO}(h:H a=some o)(h':H b=some u)(d:o≠u):a≠b:=by
 intro e;subst e;rw[h]at h';exact d (Rf h')
theorem fq{H:Hp}{a b:Addr}{o:HO}(h:H a=some o)(h':H b=none):a≠b:=by
 intro e;subst e;rw[h]at h';cases h'
section
variable(P:Program)(w:World)
def cL(H:Hp)(h:Heap)(a:Addr):HO->Prop
 |.lst xs=>xs.length<=sizeLine/\∃(aq:acQ) (n:Nat),Vals xs aq/\h.get? a=some {cls:=.type "list",data:=.seq aq.toArray n}
 |.tup xs=>xs.length<=sizeLine/\∃aq:acQ,Vals xs aq/\IsTup h a aq.toArray
 |.dK j'=>j'.length<=sizeLine/\(a==sysModules)=false/\∃vs,KV j' vs/\h.DictOf (cK P w) a vs
 |.dT j'=>j'.length<=sizeLine/\(a==sysModules)=false/\∃xs:List (List Key×Addr×Value),
   Paired (λ(p:List Key×V) (q:List Key×Addr×Value)=>p.1=q.1/\H q.2.1=some (.tup (p.1.map kV))/\RelV p.2 q.2.2) j' xs/\
   ∃o es ep,h.get? a=some o/\o.ExactDict/\o.data=.dict es ep/\es.toList=xs.map (entryOfKey (tupleKind (cK P w)))/\(xs.map (·.1)).Nodup
 |.set S n=>h.SetOf (intKind P w) a S n
 |.ins C dx fs=>H dx=some (.own a)/\fs.length<=1000/\dx≠a/\h.get? a=some (PySem.W.instObj C dx)/\
   ∃mA,h.Ns1 dx mA/\(∀f,gA (fs.lookup f) (mA f))/\PySem.Within mA (fs.map (·.1))
 |.own _=>∃o,h.get? a=some o
 |.xd fs=>∃mA,h.Ns1 a mA/\∀f,gA (fs.lookup f) (mA f)
 |.um lo hi=>∃t u v,h.get? a=some {cls:=.type "range",data:=.fields #[.int lo t,.int hi u,.int 1 v]}
 |.frz o u=>h.get? a=some o/\cL H h a u
 |.bM none=>∃ps,h.get? a=some (PySem.W.tabObj ps)/\TriplesOk ps.toList/\∀pos cv,codeAmong pos ps.toList=some cv->∃c o vs q t,cv=.ref c/\H c=some (.bM (some o))/\o.data=.fields vs/\vs[1]? =some (.str q t)
 |.bM (some o)=>h.get? a=some o/\∀fd,o.data=.func fd->∃c oc vs q t,fd.code=.ref c/\H c=some (.bM (some oc))/\oc.data=.fields vs/\vs[1]? =some (.str q t)
 |.met f x=>h.get? a=some (PySem.W.methodObj (.ref f) (.ref x))
 |.ext φ=>φ h/\(∃o,h.get? a=some o)/\∀h1 h2:Heap,φ h1->(∀o,h1.get? a=some o->h2.get? a=some o)->φ h2
def cg(H:Hp)(h:Heap):Prop:=∀a o,H a=some o->cL P w H h a o
end
section
variable{P:Program}{w:World}{H H':Hp}{h h':Heap}{a:Addr}{o:HO}
theorem cL.lt(x:cL P w H h a o):a<h.objs.size:=by
 cases o with
 |lst xs=>obtain⟨_,_,_,_,e⟩:=x;exact GM e
 |tup xs=>obtain⟨_,_,_,p⟩:=x;exact p.lt
 |dK j'=>obtain⟨_,_,_,_,o,_,_,e,_⟩:=x;exact GM e
 |dT j'=>obtain⟨_,_,_,_,o,_,_,e,_⟩:=x;exact GM e
 |set S n=>obtain⟨o,_,_,_,e,_⟩:=x;exact GM e
 |ins C dx fs=>obtain⟨_,_,_,e,_⟩:=x;exact GM e
 |own y=>obtain⟨_,e⟩:=x;exact GM e
 |xd fs=>obtain⟨_,⟨_,_,_,e,_⟩,_⟩:=x;exact GM e
 |um lo hi=>obtain⟨_,_,_,e⟩:=x;exact GM e
 |frz ob u=>obtain⟨e,_⟩:=x;exact GM e
 | bM t=>
  cases t with
  |none=>obtain⟨_,e,_⟩:=x;exact GM e
  |some o=>exact GM x.1
 |met f y=>exact GM (show h.get? a=some _ from x)
 |ext φ=>obtain⟨_,⟨_,e⟩,_⟩:=x;exact GM e
theorem Paired.wj{α β:Type}{F G:α->β->Prop}:∀ {SR:List α} {Tu:List β},Paired F SR Tu->(∀a b,F a b->G a b)->Paired G SR Tu
 |_,_,.nil,_=>.nil
 |_,_,.cons r t,f=>.cons (f _ _ r) (Paired.wj t f)
theorem cL.BK(x:cL P w H h a o)(k:∀b u,(b=a\/H b=some (.own a))->h.get? b=some u->h'.get? b=some u)
  (ho:∀b,H b=some (.own a)->H' b=some (.own a)) (ht:∀b xs,H b=some (.tup xs)->H' b=some (.tup xs)) (hb:∀b o vs,o.data=.fields vs->H b=some (.bM (some o))->H' b=some (.bM (some o))):cL P w H' h' a o:=by
 induction o with
 |lst xs=>obtain⟨z,aq,n,r,e⟩:=x;exact⟨z,aq,n,r,k _ _ (.inl rfl) e⟩
 |tup xs=>obtain⟨z,aq,r,ob,e,c⟩:=x;exact⟨z,aq,r,ob,k _ _ (.inl rfl) e,c⟩
 |dK j'=>obtain⟨z,y,vs,r,ob,es,ep,e,c⟩:=x;exact⟨z,y,vs,r,ob,es,ep,k _ _ (.inl rfl) e,c⟩
 | dT j'=>
  obtain⟨z,y,xs,r,ob,es,ep,e,c⟩:=x;exact⟨z,y,xs,Paired.wj r λp q z=>⟨z.1,ht _ _ z.2.1,z.2.2⟩,ob,es,ep,k _ _ (.inl rfl) e,c⟩
 |set S n=>obtain⟨ob,es,ep,t,e,c⟩:=x;exact⟨ob,es,ep,t,k _ _ (.inl rfl) e,c⟩
 | ins C dx fs=>
  obtain⟨d,z,ne,e,mA,⟨od,es,ep,e2,c⟩,r⟩:=x;exact⟨ho _ d,z,ne,k _ _ (.inl rfl) e,mA,⟨od,es,ep,k _ _ (.inr d) e2,c⟩,r⟩
 |own y=>obtain⟨ob,e⟩:=x;exact⟨ob,k _ _ (.inl rfl) e⟩
 |xd fs=>obtain⟨mA,⟨od,es,ep,e,c⟩,r⟩:=x;exact⟨mA,⟨od,es,ep,k _ _ (.inl rfl) e,c⟩,r⟩
 |um lo hi=>obtain⟨t,u,v,e⟩:=x;exact⟨t,u,v,k _ _ (.inl rfl) e⟩
 |frz ob u ih=>obtain⟨e,q⟩:=x;exact⟨k _ _ (.inl rfl) e,ih q⟩
 | bM t=>
  cases t with
  | none=>
   obtain⟨ps,e,z,q⟩:=x;exact⟨ps,k _ _ (.inl rfl) e,z,λpos cv hc=>let⟨c,o,vs,n,t,e1,e2,e3⟩:=q pos cv hc;⟨c,o,vs,n,t,e1,hb _ _ _ e3.1 e2,e3⟩⟩
  |some o=>exact⟨k a o (.inl rfl) x.1,λfd hf=>let⟨c,oc,vs,q,t,h1,h2,h3⟩:=x.2 fd hf;⟨c,oc,vs,q,t,h1,hb _ _ _ h3.1 h2,h3⟩⟩
 | met f y=>
  have e:h.get? a=some (PySem.W.methodObj (.ref f) (.ref y)):=x;show h'.get? a=some (PySem.W.methodObj (.ref f) (.ref y));exact k a _ (.inl rfl) e
 |ext φ=>obtain⟨p,⟨o,e⟩,st⟩:=x;exact⟨st _ _ p λo q=>k _ _ (.inl rfl) q,⟨o,k _ _ (.inl rfl) e⟩,st⟩
theorem cL.iA(x:cL P w H h a o)(k:∀b u,(b=a\/H b=some (.own a))->h.get? b=some u->h'.get? b=some u)
  (ho:∀b,H b=some (.own a)->H' b=some (.own a)) (ht:∀b xs,H b=some (.tup xs)->H' b=some (.tup xs)) (hb:∀b t,H b=some (.bM t)->H' b=some (.bM t)):cL P w H' h' a o:=x.BK k ho ht λb _ _ _ q=>hb b _ q
theorem cg.lt(x:cg P w H h)(e:H a=some o):a<h.objs.size:=(x a o e).lt
theorem cg.fresh(x:cg P w H h)(e:h.objs.size<=a):H a=none:=by
 cases q:H a with
 |none=>rfl
 |some u=>exact absurd (KF (x.lt q) e) (ZN _)
theorem cg.kept(x:cg P w H h)(k:∀b u,h.get? b=some u->h'.get? b=some u):cg P w H h':=λa o e=>
 (x a o e).iA (λb u _ q=>k b u q) (λ_ q=>q) (λ_ _ q=>q) λ_ _ q=>q
theorem cg.laid(x:cg P w H h)(k:∀b u,h.get? b=some u->h'.get? b=some u)(hp:h.objs.size<=a)(new:cL P w (upd H a o) h' a o):cg P w (upd H a o) h':=λb u e=>by
 have hn:=x.fresh hp;by_cases hb:b=a
 ·subst hb;rw[bO]at e;cases e;exact new
 ·rw[aN hb]at e
  exact(x b u e).iA (λc v _ q=>k c v q) (λc q=>by rw[aN (fq q hn)];exact q) (λc xs q=>by rw[aN (fq q hn)];exact q) λc xs q=>by rw[aN (fq q hn)];exact q
end
def Rd(H:Hp)(a:Addr)(u:HO):Prop:=H a=some u\/∃o,H a=some (.frz o u)
theorem Rd.ok{P:Program}{w:World}{H:Hp}{h:Heap}{a:Addr}{u:HO}(r:Rd H a u)(x:cg P w H h):cL P w H h a u:=by
 rcases r with r|⟨o,r⟩
 ·exact x a u r
 ·obtain⟨_,q⟩:=x a _ r
  exact q
def pB:Option HO->Prop
 |some (.lst _)=>True
 |some (.dK _)=>True
 |some (.dT _)=>True
 |some (.set _ _)=>True
 |some (.ins _ _ _)=>True
 |some (.ext _)=>True
 |_=>False
section
variable{P:Program}{w:World}{H:Hp}{h h':Heap}{x e:Addr}{o':HO}
theorem cg.write(ok:cg P w H h)(mu:pB (H x))(he:e=x\/H e=some (.own x))(k:∀b u,b≠e->h.get? b=some u->h'.get? b=some u)(Sv:∃u,h'.get? e=some u)
  (new:cL P w (upd H x o') h' x o'):cg P w (upd H x o') h':=λb u q=>by
 have S9:∀c y,H c=some (.own y)->c≠x:=λc y r z=>by subst z;rw[r]at mu;exact mu
 have UX:∀c xs,H c=some (.tup xs)->c≠x:=λc xs r z=>by subst z;rw[r]at mu;exact mu
 have U9:∀c t,H c=some (.bM t)->c≠x:=λc xs r z=>by subst z;rw[r]at mu;exact mu
 by_cases hb:b=x
 ·subst hb;rw[bO]at q;cases q;exact new
 ·rw[aN hb]at q
  by_cases hbe:b=e
  ·have q':H b=some (.own x):=by
    rcases he with z|z
    ·exact absurd (hbe.trans z) hb
    ·rw[hbe];exact z
   rw[q]at q';cases q';obtain⟨v,hv⟩:=Sv;exact⟨v,by rw[hbe];exact hv⟩
  ·refine(ok b u q).iA (λc v hc r=>k c v ?_ r) (λc r=>by rw[aN (S9 c b r)];exact r) (λc xs r=>by rw[aN (UX c xs r)];exact r) λc xs r=>by rw[aN (U9 c xs r)];exact r
   rcases hc with rfl|hc
   ·exact hbe
   ·rintro rfl
    rcases he with z|z
    ·exact S9 c b hc z
    ·rw[hc]at z;cases z;exact hb rfl
noncomputable def mY:Obj:={cls:=.type "table",data:=.freed}
def ff(base:Heap)(b:Addr):Prop:=base.objs[b]? =some mY
structure Un(fs ex:Zx)(H H':Hp)(h h':Heap):Prop where
 keep:∀b o,h.get? b=some o->H b=none->b∉fs->b∉ex->h'.get? b=some o
 slot:∀b o,h.get? b=some o->H b=none->b∈fs->b∉ex->∃sl,h'.get? b=some {o with slots:=sl}
 free:∀b o,h.get? b=some o->H b=none->b∉ex->H' b=none
 there:∀b o,h.get? b=some o->b∉ex->∃o',h'.get? b=some o'
 ik:∀b xs,H b=some (.tup xs)->H' b=some (.tup xs)
 gj:∀b o u,H b=some (.frz o u)->H' b=some (.frz o u)
 fY:∀b t,H b=some (.bM t)->H' b=some (.bM t)
variable{fs:Zx}{Xu:Zx}{ex:Zx}{Vj:Zx}{H1:Hp}{H2:Hp}{h1:Heap}{h2:Heap}{a:Addr}{o:HO}
theorem Un.any(u:Un fs ex H H1 h h1){b:Addr}{ob:Obj}(q:h.get? b=some ob)(n:H b=none)(hx:b∉ex):∃sl,h1.get? b=some {ob with slots:=sl}:=by
 by_cases hb:b∈fs
 ·exact u.slot b ob q n hb hx
 ·exact⟨ob.slots,u.keep b ob q n hb hx⟩
theorem Un.kept(k:∀b u,h.get? b=some u->h'.get? b=some u):Un fs ex H H h h':=
 ⟨λb ob q _ _ _=>k b ob q,λb ob q _ _ _=>⟨ob.slots,k b ob q⟩,λ_ _ _ n _=>n,λb ob q _=>⟨ob,k b ob q⟩,λ_ _ q=>q,λ_ _ _ q=>q,λ_ _ q=>q⟩
theorem Un.refl:Un fs ex H H h h:=Un.kept λ_ _ q=>q
theorem Un.laid(k:∀b u,h.get? b=some u->h'.get? b=some u)(hp:h.objs.size<=a)(hn:H a=none):Un fs ex H (upd H a o) h h' where
 keep:=λb u q _ _ _=>k b u q
 slot:=λb u q _ _ _=>⟨u.slots,k b u q⟩
 free:=λb u q n _=>by rw[aN (Pv (KF (GM q) hp))];exact n
 there:=λb u q _=>⟨u,k b u q⟩
 ik:=λb xs q=>by rw[aN (fq q hn)];exact q
 gj:=λb u xs q=>by rw[aN (fq q hn)];exact q
 fY:=λb ps q=>by rw[aN (fq q hn)];exact q
theorem Un.write(mu:pB (H x))(he:e=x\/H e=some (.own x))(k:∀b u,b≠e->h.get? b=some u->h'.get? b=some u)(Sv:∃u,h'.get? e=some u):Un fs ex H (upd H x o) h h':=by
 have hx:∀b,H b=none->b≠x:=λb n z=>by subst z;rw[n]at mu;exact mu
 have hb:∀b,H b=none->b≠e:=λb n z=>by
  subst z;rcases he with r|r
  ·exact hx b n r
  ·rw[n]at r;cases r
 have hm:∀b u,H b=some u->¬pB (some u)->b≠x:=λb u q nm z=>by subst z;rw[q]at mu;exact nm mu
 refine⟨λb u q n _ _=>k b u (hb b n) q,λb u q n _ _=>⟨u.slots,k b u (hb b n) q⟩,λb u q n _=>by rw[aN (hx b n)];exact n,λb u q _=>?_,
  λb xs q=>by rw[aN (hm b _ q λz=>z)];exact q,λb u xs q=>by rw[aN (hm b _ q λz=>z)];exact q,λb ps q=>by rw[aN (hm b _ q λz=>z)];exact q⟩
 by_cases hbe:b=e
 ·subst hbe;exact Sv
 ·exact⟨u,k b u hbe q⟩
end
open Classical in
noncomputable def hX(H:Hp)(b:Addr)(o:Obj):Obj:=if H b=some (.bM none)then mY else if(H b).isSome\/o=mY then {cls:=.none,data:=.freed} else o
noncomputable def eJ(h:Heap)(H:Hp):Heap:={h with objs:=h.objs.mapIdx (hX H)}
theorem yN(h:Heap)(H:Hp):(eJ h H).objs.size=h.objs.size:=Array.size_mapIdx
theorem qp(h:Heap)(H:Hp)(b:Addr):(eJ h H).objs[b]? =(h.objs[b]?).map (hX H b):=Array.getElem?_mapIdx
theorem Ap(e:h.get? b=some o)(n:H b=none):(eJ h H).get? b=some o:=by
 unfold Heap.get? at e ⊢;rw[qp];cases q:h.objs[b]? with
 |none=>rw[q]at e;cases e
 | some ob=>
  rw[q]at e;have nf:ob≠mY:=λz=>by rw[z]at e;cases e
  have z:hX H b ob=ob:=by unfold hX;rw[n,DF (by simp),DF (by simp[nf])]
  rw[aaE,z];exact e
theorem zN(e:(eJ h H).get? b=some o):h.get? b=some o/\H b=none:=by
 unfold Heap.get? at e ⊢;rw[qp]at e;cases q:h.objs[b]? with
 |none=>rw[q]at e;cases e
 | some ob=>
  rw[q,aaE]at e;by_cases h1:H b=some (.bM none)
  ·have z:hX H b ob=mY:=AC h1
   rw[z]at e;cases e
  ·by_cases h2:(H b).isSome=true\/ob=mY
   ·have z:hX H b ob={cls:=.none,data:=.freed}:=by unfold hX;rw[DF h1,AC h2]
    rw[z]at e;cases e
   ·have z:hX H b ob=ob:=by unfold hX;rw[DF h1,DF h2]
    rw[z]at e;exact⟨e,by cases r:H b with|none=>rfl|some u=>exact absurd (.inl (by rw[r];rfl)) h2⟩
theorem yE(e:ff (eJ h H) b):H b=some (.bM none):=by
 unfold ff at e;rw[qp]at e;cases q:h.objs[b]? with
 |none=>rw[q]at e;cases e
 | some ob=>
  rw[q,aaE]at e;unfold hX at e;split at e
  ·assumption
  ·split at e
   ·cases e
   ·rename_i _ n
    exact absurd (.inr (Rf e)) n
theorem J1(hb:b<h.objs.size)(e:H b=some (.bM none)):ff (eJ h H) b:=by
 unfold ff;rw[qp,abB hb,aaE];unfold hX;rw[AC e]
noncomputable def LJ(g h:Heap)(L:Addr):List (Addr×Obj):=(List.range h.objs.size).filterMap λa=>if a=L\/(g.get? a).isSome=true then none else(h.get? a).map λo=>(a,o)
noncomputable def rest(g h:Heap)(L d:Addr):List (Addr×Obj):=(LJ g h L).filter λp=>decide (p.1≠d)
structure Mod(K:PySem.W.Frag)(mg:Str->acR)(base:Heap):Prop where
 mJ:K.In base
 glob:base.Ns mainGlobals mg
 blt:∃mb,base.Ns builtinsNs mb/\∀x:Str,x≠"__name__"->mb x=bootBuiltins x
 nolimit:base.NoLimit
structure Cx where
 prog:Program
 w:World
 K:PySem.W.Frag
 mg:Str->acR
 base:Heap
 A:Around
 N:List Str
 cY:Shared
 kr:Hp
 env:Env
 outer:List Env
 stack:List Env
 ex:Zx
 fn:Str->Bool
 calm:Bool
 pn:List (Addr×Obj)
 xe:Value->Shared->Prop
noncomputable def eZ(l:List Env):Zx:=l.filterMap (·.frame)
noncomputable abbrev Cx.fs(X:Cx):Zx:=eZ X.outer
def fi(sc:Scope)(x:Str):Prop:=sc.names.lookup x=some .local\/sc.names.lookup x=some .cell\/sc.names.lookup x=some .free
def Loc(sc:Scope)(x:Str):Prop:=sc.names.lookup x=some .local\/sc.names.lookup x=some .cell
def Look(env:Env)(h:Heap)(m:Str->acR)(x:Str)(u:Value):Prop:=
 (env.kindOf x=some .local/\m x=some u)\/((env.kindOf x=some .cell\/env.kindOf x=some .free)/\∃c,env.cells.lookup x=some c/\h.IsCell c (some u))
structure Cx.Ok(X:Cx):Prop where
 mod:Mod X.K X.mg X.base
 kind:X.env.scope.kind=.function
 glob:X.env.globals=mainGlobals
 blt:X.env.builtins=builtinsNs
 above:X.cY.heap.objs.size<=X.env.locals
 inj:∀x y c,X.env.cells.lookup x=some c->X.env.cells.lookup y=some c->x=y
 has:∀x,(X.env.kindOf x=some .cell\/X.env.kindOf x=some .free)->∃c,X.env.cells.lookup x=some c
 mF:∀x c,X.fn x=true->X.env.cells.lookup x=some c->X.cY.heap.objs.size<=c
 hd:X.calm=true->X.A.handled=none
 frames:X.A.frames=some X.stack
 tm:X.stack=X.outer\/(X.stack=X.env::X.outer/\X.env.frame=some X.env.locals)
 CA:∀b∈X.ex,b≠X.env.locals/\∀x c,X.env.cells.lookup x=some c->c≠b
 bs:∀b o,X.base.get? b=some o->X.cY.heap.get? b=some o/\X.kr b=none
 gN:X.base.objs.size<=X.cY.heap.objs.size
 pq:∀b o,X.base.get? b=some o->b∉X.ex
 rZ:∀b∈X.ex,b∉X.fs
 fS:X.cY.heap.FunFrames X.base X.outer
 iF:∀b∈X.fs,X.kr b=none
 tb:∀b,ff X.base b->X.kr b=some (.bM none)
structure Inv(X:Cx)(pins:List (Addr×Obj))(σ:List (Option V))(H:Hp)(s:Shared):Prop where
 ok:X.Ok
 os:s.os=X.cY.os
 bare:AllBare s.gens
 base:Un X.fs X.ex X.kr H X.cY.heap s.heap
 loc:∃m,s.heap.Ns X.env.locals m/\∀(i:Nat) (x:Str) (v:V),X.N[i]? =some x->σ[i]? =some (some v)->fi X.env.scope x->∃u,RelV v u/\Look X.env s.heap m x u
 cell:∀x c,X.env.cells.lookup x=some c->∃v,s.heap.IsCell c v
 free:H X.env.locals=none
 gH:∀x c,X.env.cells.lookup x=some c->H c=none
 pin:∀p∈X.pn++pins,s.heap.get? p.1=some p.2/\H p.1=none/\p.1≠X.env.locals/\p.1∉X.fs/\∀v,p.2.data≠.cell v
 aQ:cg X.prog X.w H s.heap
 len:σ.length=X.N.length
section
variable{X:Cx}{pins:List (Addr×Obj)}{σ:List (Option V)}{H H':Hp}{s:Shared}{h':Heap}
theorem Cx.Ok.HI(ok:X.Ok)(e:X.base.get? b=some o):b∉X.fs:=λhb=>by
 have:=(ok.fS.mem hb).1;rw[e]at this;cases this
theorem Inv.bs(I:Inv X pins σ H s):∀b o,X.base.get? b=some o->s.heap.get? b=some o/\H b=none:=λb o e=>
 ⟨I.base.keep b o (I.ok.bs b o e).1 (I.ok.bs b o e).2 (I.ok.HI e) (I.ok.pq b o e),I.base.free b o (I.ok.bs b o e).1 (I.ok.bs b o e).2 (I.ok.pq b o e)⟩
theorem Inv.tb(I:Inv X pins σ H s):∀b,ff X.base b->H b=some (.bM none):=λb e=>I.base.fY b _ (I.ok.tb b e)
theorem Inv.bk(I:Inv X pins σ H s):∀b o,X.base.get? b=some o->s.heap.get? b=some o:=λb o e=>(I.bs b o e).1
theorem Inv.mod(I:Inv X pins σ H s):Mod X.K X.mg X.base:=I.ok.mod
theorem Inv.da(I:Inv X pins σ H s):X.K.In s.heap:=I.ok.mod.mJ.keeps I.bk
theorem Inv.lt(I:Inv X pins σ H s):X.env.locals<s.heap.objs.size:=let⟨_,hn,_⟩:=I.loc;hn.lt
theorem Inv.sz(I:Inv X pins σ H s):X.cY.heap.objs.size<=s.heap.objs.size:=Re I.ok.above (abl I.lt)
theorem Inv.Mc(I:Inv X pins σ H s)(h:s.heap.objs.size<=a):a∉X.fs:=λhb=>by
 obtain⟨_,o,ho,_⟩:=I.ok.fS.mem hb;exact absurd (KF (GM ho) (Re I.sz h)) (ZN _)
theorem Inv.ir(I:Inv X pins σ H s):∀x c,X.env.cells.lookup x=some c->c≠X.env.locals:=λx c e z=>by
 obtain⟨v,o,ho,hd⟩:=I.cell x c e;obtain⟨m,⟨o',es,ep,Pz,Q9,_⟩,_⟩:=I.loc;rw[z,Pz]at ho;cases ho;rw[Q9]at hd;cases hd
theorem Inv.fS(I:Inv X pins σ H s):s.heap.FunFrames X.base X.outer:=by
 have all:∀(l:List Env),(∀b∈eZ l,b∈X.fs)->X.cY.heap.FunFrames X.base l->s.heap.FunFrames X.base l:=by
  intro l
  induction l with
  |nil=>intro _ _;trivial
  | cons env r ih=>
   intro hs hl;obtain⟨hk,⟨L,o,hf,hn,ho,hd⟩,hr⟩:=hl;have hL:L∈X.fs:=hs L (by unfold eZ;rw[abg,hf];exact FB)
   obtain⟨sl,e⟩:=I.base.slot L o ho (I.ok.iF L hL) hL λz=>I.ok.rZ L z hL;exact⟨hk,⟨L,_,hf,hn,e,hd⟩,ih (λb hb=>hs b (by unfold eZ;rw[abg,hf];exact Do _ hb)) hr⟩
 exact all X.outer (λ_ hb=>hb) I.ok.fS
theorem Inv.stack(I:Inv X pins σ H s):s.heap.FunFrames X.base X.stack:=by
 rcases I.ok.tm with e|⟨e,hf⟩
 ·rw[e];exact I.fS
 ·rw[e]
  obtain⟨m,hn,_⟩:=I.loc;refine .cons (by rw[I.ok.kind];decide) hf hn ?_ I.fS
  exact Heap.get?_none_of_le (Re I.ok.gN I.ok.above)
theorem Inv.pk(I:Inv X pins σ H s):∀b∈eZ X.stack,b∈X.env.locals::X.fs:=λb hb=>by
 rcases I.ok.tm with e|⟨e,hf⟩
 ·rw[e]at hb;exact Do _ hb
 ·rw[e]at hb
  unfold eZ at hb;rw[abg,hf]at hb;exact hb
theorem Inv.AJ(I:Inv X pins σ H s):∀b∈eZ X.stack,H b=none:=λb hb=>by
 rcases Da.mp (I.pk b hb)with e|hb
 ·rw[e];exact I.free
 ·obtain⟨_,o,ho,_⟩:=I.ok.fS.mem hb
  exact I.base.free b o ho (I.ok.iF b hb) λz=>I.ok.rZ b z hb
theorem Inv.step{g':Array GenState}{t':Nat}{d':Drawn}{ch:Zx}(I:Inv X pins σ H s)
  (QX:∀b∈ch,(b∈X.ex\/X.cY.heap.objs.size<=b)/\b≠X.env.locals/\(∀x c,X.env.cells.lookup x=some c->c≠b)/\∀p∈X.pn++pins,p.1≠b)
  (keep:∀b o,b≠X.env.locals->b∉X.fs->b∉ch->s.heap.get? b=some o->H b=none->h'.get? b=some o)
  (slot:∀b o,b≠X.env.locals->b∈X.fs->b∉ch->s.heap.get? b=some o->H b=none->∃sl,h'.get? b=some {o with slots:=sl}) (free:∀b o,b∉ch->s.heap.get? b=some o->H b=none->H' b=none)
  (there:∀b o,b∉ch->s.heap.get? b=some o->∃o',h'.get? b=some o')
  (ik:∀b xs,H b=some (.tup xs)->H' b=some (.tup xs)) (gj:∀b o u,H b=some (.frz o u)->H' b=some (.frz o u)) (fY:∀b t,H b=some (.bM t)->H' b=some (.bM t))
  (ns:∀m,s.heap.Ns X.env.locals m->h'.Ns X.env.locals m) (aQ:cg X.prog X.w H' h') (hg:AllBare g'):
  Inv X pins σ H' {s with heap:=h',gens:=g',drawn:=d',toks:=t'}:=by
 have Wu:∀b o,X.cY.heap.get? b=some o->b≠X.env.locals:=λb o e=>Pv (KF (GM e) I.ok.above)
 have Ud:∀b o,X.cY.heap.get? b=some o->b∉X.ex->b∉ch:=λb o e hx hb=>by
  rcases(QX b hb).1 with z|z
  ·exact hx z
  ·exact absurd (KF (GM e) z) (ZN _)
 have cellK:∀x c,X.env.cells.lookup x=some c->∀v,s.heap.IsCell c v->h'.IsCell c v:=λx c e v=>by
  rintro⟨o,ho,hd⟩
  have Qu:c∉ch:=λz=>(QX c z).2.2.1 x c e rfl;by_cases hc:c∈X.fs
  ·obtain⟨sl,q⟩:=slot c o (I.ir x c e) hc Qu ho (I.gH x c e)
   exact⟨_,q,hd⟩
  ·exact⟨o,keep c o (I.ir x c e) hc Qu ho (I.gH x c e),hd⟩
 refine⟨I.ok,I.os,hg,⟨λb o e n hb hx=>?_,λb o e n hb hx=>?_,λb o e n hx=>?_,λb o e hx=>?_,λb xs e=>ik b xs (I.base.ik b xs e),λb o xs e=>gj b o xs (I.base.gj b o xs e),λb ps e=>?_⟩,?_,λx c e=>?_,?_,λx c e=>?_,λp hp=>?_,aQ,I.len⟩
 ·exact keep b o (Wu b o e) hb (Ud b o e hx) (I.base.keep b o e n hb hx) (I.base.free b o e n hx)
 ·obtain⟨sl,e1⟩:=I.base.slot b o e n hb hx
  obtain⟨W7,e2⟩:=slot b _ (Wu b o e) hb (Ud b o e hx) e1 (I.base.free b o e n hx);exact⟨W7,e2⟩
 ·obtain⟨o',e1⟩:=I.base.there b o e hx
  exact free b o' (Ud b o e hx) e1 (I.base.free b o e n hx)
 ·obtain⟨o',e1⟩:=I.base.there b o e hx
  exact there b o' (Ud b o e hx) e1
 ·exact fY b _ (I.base.fY b ps e)
 ·obtain⟨m,hn,hl⟩:=I.loc
  refine⟨m,ns m hn,λi x v e1 e2 e3=>?_⟩;obtain⟨u,r,l⟩:=hl i x v e1 e2 e3;refine⟨u,r,?_⟩;rcases l with l|⟨k,c,e,z⟩
  ·exact .inl l
  ·exact .inr ⟨k,c,e,cellK x c e _ z⟩
 ·obtain⟨v,z⟩:=I.cell x c e
  exact⟨v,cellK x c e v z⟩
 ·obtain⟨m,⟨o,_,_,ho,_⟩,_⟩:=I.loc
  exact free _ o (λz=>(QX _ z).2.1 rfl) ho I.free
 ·obtain⟨v,o,ho,hd⟩:=I.cell x c e
  exact free c o (λz=>(QX c z).2.2.1 x c e rfl) ho (I.gH x c e)
 ·obtain⟨e,n,ne,nf,d⟩:=I.pin p hp
  have Qu:p.1∉ch:=λz=>(QX p.1 z).2.2.2 p hp rfl;exact⟨keep p.1 p.2 ne nf Qu e n,free p.1 p.2 Qu e n,ne,nf,d⟩
theorem Inv.un{t':Nat}(I:Inv X pins σ H s)(u:Un X.fs [] H H' s.heap h')(aQ:cg X.prog X.w H' h'):Inv X pins σ H' {s with heap:=h',toks:=t'}:=by
 obtain⟨m,⟨o,es,ep,ho,r⟩,_⟩:=id I.loc;obtain⟨sl,hL⟩:=u.any ho I.free (by simp)
 exact I.step (g':=s.gens) (d':=s.drawn) (ch:=[]) (λ_ z=>nomatch z) (λb o _ hb _ e n=>u.keep b o e n hb (by simp)) (λb o _ hb _ e n=>u.slot b o e n hb (by simp)) (λb o _ e n=>u.free b o e n (by simp)) (λb o _ e=>u.there b o e (by simp)) u.ik u.gj u.fY (λm' hm=>by
  obtain⟨o',RA,Tx,Pz,r'⟩:=hm;rw[ho]at Pz;cases Pz;exact⟨_,RA,Tx,hL,r'⟩) aQ I.bare
theorem Inv.call{g':Array GenState}{t':Nat}{d':Drawn}{ch:Zx}(I:Inv X pins σ H s)(u:Un (eZ X.stack) ch H H' s.heap h')(aQ:cg X.prog X.w H' h')(hg:AllBare g')
  (QX:∀b∈ch,(b∈X.ex\/X.cY.heap.objs.size<=b)/\b≠X.env.locals/\(∀x c,X.env.cells.lookup x=some c->c≠b)/\∀p∈X.pn++pins,p.1≠b):
  Inv X pins σ H' {s with heap:=h',gens:=g',drawn:=d',toks:=t'}:=by
 obtain⟨m,⟨o,es,ep,ho,r⟩,_⟩:=id I.loc;obtain⟨sl,hL⟩:=u.any ho I.free λz=>(QX _ z).2.1 rfl
 exact I.step (ch:=ch) QX (λb o hL hb hc e n=>u.keep b o e n (λz=>(Da.mp (I.pk b z)).elim hL hb) hc) (λb o _ _ hc e n=>u.any e n hc) (λb o hc e n=>u.free b o e n hc) (λb o hc e=>u.there b o e hc) u.ik u.gj u.fY (λm' hm=>by
  obtain⟨o',RA,Tx,Pz,r'⟩:=hm;rw[ho]at Pz;cases Pz;exact⟨_,RA,Tx,hL,r'⟩) aQ hg
theorem Inv.turned{t':Nat}{it:Addr}(I:Inv X pins σ H s)(k:∀b o,b≠it->s.heap.get? b=some o->h'.get? b=some o)(hn:H it=none)(hL:it≠X.env.locals)
  (h1:it∈X.ex\/X.cY.heap.objs.size<=it) (h2:∀x c,X.env.cells.lookup x=some c->c≠it) (h3:∀p∈X.pn++pins,p.1≠it):Inv X pins σ H {s with heap:=h',toks:=t'}:=by
 have V5:∀b u,H b=some u->b≠it:=λb u e z=>by rw[z,hn]at e;cases e
 refine I.step (g':=s.gens) (d':=s.drawn) (ch:=[it]) (λb hb=>?_) (λb o _ _ hc e _=>k b o (λz=>hc (by simp[z])) e) (λb o _ _ hc e _=>⟨o.slots,k b o (λz=>hc (by simp[z])) e⟩) (λ_ _ _ _ n=>n)
  (λb o hc e=>⟨o,k b o (λz=>hc (by simp[z])) e⟩) (λ_ _ e=>e) (λ_ _ _ e=>e) (λ_ _ e=>e) (λm hm=>?_) (λb u e=>?_) I.bare
 ·have e:b=it:=by simpa using hb
  subst e;exact⟨h1,hL,h2,h3⟩
 ·obtain⟨o,es,ep,ho,r⟩:=hm
  exact⟨o,es,ep,k _ o (P3 hL) ho,r⟩
 ·refine(I.aQ b u e).iA (λc v hc q=>k c v ?_ q) (λ_ q=>q) (λ_ _ q=>q) λ_ _ q=>q
  rcases hc with z|z
  ·rw[z];exact V5 b u e
  ·exact V5 c _ z
theorem Inv.tok(I:Inv X pins σ H s)(t:Nat):Inv X pins σ H {s with toks:=t}:=I.un (h':=s.heap) (t':=t) Un.refl I.aQ
theorem Inv.kept(I:Inv X pins σ H s)(k:∀b u,s.heap.get? b=some u->h'.get? b=some u):Inv X pins σ H {s with heap:=h',toks:=t'}:=I.un (Un.kept k) (I.aQ.kept k)
theorem Inv.laid{a:Addr}{o:HO}{t':Nat}(I:Inv X pins σ H s)(k:∀b u,s.heap.get? b=some u->h'.get? b=some u)(hp:s.heap.objs.size<=a)(new:cL X.prog X.w (upd H a o) h' a o):
  Inv X pins σ (upd H a o) {s with heap:=h',toks:=t'}:=I.un (Un.laid k hp (I.aQ.fresh hp)) (I.aQ.laid k hp new)
theorem Inv.write(I:Inv X pins σ H s)(mu:pB (H x))(he:e=x\/H e=some (.own x))(k:∀b u,b≠e->s.heap.get? b=some u->h'.get? b=some u)(Sv:∃u,h'.get? e=some u)
  (new:cL X.prog X.w (upd H x o) h' x o):Inv X pins σ (upd H x o) {s with heap:=h',toks:=t'}:=I.un (Un.write mu he k Sv) (I.aQ.write mu he k Sv new)
theorem Inv.Bq(I:Inv X pins σ H s)(h:∀p∈pins',s.heap.get? p.1=some p.2/\H p.1=none/\p.1≠X.env.locals/\p.1∉X.fs/\∀v,p.2.data≠.cell v):Inv X pins' σ H s:=
 ⟨I.ok,I.os,I.bare,I.base,I.loc,I.cell,I.free,I.gH,λp hp=>(M0.mp hp).elim (λz=>I.pin p (Ox _ z)) (h p),I.aQ,I.len⟩
theorem xZ{N:List Str}(hN:N.Nodup){i j:Nat}{x:Str}(a:N[i]? =some x)(b:N[j]? =some x):i=j:=by
 obtain⟨h1,e1⟩:=xM.mp a;obtain⟨h2,e2⟩:=xM.mp b;exact(List.getElem_inj hN).mp (e1.trans e2.symm)
theorem KZ{M:Model}{A:Around}{E:Value->Shared->Prop}{i:Nat}{x:Str}{v:V}{u:Value}{Q:Unit->Shared->Prop}(I:Inv X pins σ H s)(hN:X.N.Nodup)(hi:X.N[i]? =some x)(hx:Loc X.env.scope x)(r:RelV v u)
  (h:∀s',Inv X pins (σ.set i (some v)) H s'->(∃a,Heap.SameBut a s.heap s'.heap/\(a=X.env.locals\/X.env.cells.lookup x=some a))->Q () s') (hf:X.fn x=true\/X.env.scope.names.lookup x=some .local:=by first|exact .inl rfl|exact .inr rfl|assumption):wpAny M A (storeName X.env x u) Q E s:=by
 obtain⟨m,hn,hl⟩:=id I.loc;have UP:(X.env.scope.kind==.class||(X.env.scope.kind==.module&&X.env.locals != X.env.globals))=false:=by rw[I.ok.kind];rfl
 have Tf:i<σ.length:=by rw[I.len];exact(xM.mp hi).1
 have ir:=I.ir
 have tracked:∀ {a:Addr} {h':Heap},(∃o,s.heap.get? a=some o/\H a=none)->Heap.SameBut a s.heap h'->cg X.prog X.w H h':=λ{a h'} ha hs b ob e=>by
  obtain⟨_,_,RI⟩:=ha;refine(I.aQ b ob e).iA (λc w' hc q=>(hs.2 c ?_).trans q) (λ_ q=>q) (λ_ _ q=>q) λ_ _ q=>q;rintro rfl;rcases hc with rfl|hc
  ·rw[RI]at e;cases e
  ·rw[RI]at hc;cases hc
 rcases hx with hk|hk
 ·refine wpAny_storeName_local hk hn (λh' Qn hs=>?_) UP
  obtain⟨oL,_,_,W8,_⟩:=id hn;refine h _ ⟨I.ok,I.os,I.bare,⟨λb o e n hb hx=>?_,λb o e n hb hx=>?_,I.base.free,λb o e hx=>?_,I.base.ik,I.base.gj,I.base.fY⟩,⟨_,Qn,λj y v' e1 e2 e3=>?_⟩,λy c e=>?_,I.free,I.gH,λp hp=>?_,tracked ⟨oL,W8,I.free⟩ hs,by simpa using I.len⟩ ⟨_,hs,.inl rfl⟩
  ·exact(hs.2 b (Pv (KF (GM e) I.ok.above))).trans (I.base.keep b o e n hb hx)
  ·obtain⟨sl,e1⟩:=I.base.slot b o e n hb hx
   exact⟨sl,(hs.2 b (Pv (KF (GM e) I.ok.above))).trans e1⟩
  ·obtain⟨o',e1⟩:=I.base.there b o e hx
   exact⟨o',(hs.2 b (Pv (KF (GM e) I.ok.above))).trans e1⟩
  ·by_cases hj:j=i
   ·subst hj
    rw[hi]at e1;cases e1;rw[Mk Tf]at e2;cases e2;exact⟨u,r,.inl ⟨hk,by simp⟩⟩
   ·rw[bU (P3 hj)]at e2
    obtain⟨u',r',q⟩:=hl j y v' e1 e2 e3;refine⟨u',r',?_⟩;rcases q with⟨k,e⟩|⟨k,c,e,z⟩
    ·refine .inl ⟨k,?_⟩
     have:y≠x:=λe=>hj (xZ hN e1 (e▸hi));simp[this,e]
    ·exact .inr ⟨k,c,e,z.sameBut hs (ir y c e)⟩
  ·obtain⟨w',z⟩:=I.cell y c e
   exact⟨w',z.sameBut hs (ir y c e)⟩
  ·obtain⟨e,n,ne,nf,d⟩:=I.pin p hp
   exact⟨(hs.2 p.1 ne).trans e,n,ne,nf,d⟩
 ·have Se:X.fn x=true:=by
   rcases hf with z|z
   ·exact z
   ·rw[z]at hk;cases hk
  obtain⟨c,hc⟩:=I.ok.has x (.inl hk);obtain⟨w',z⟩:=I.cell x c hc;refine wpAny_storeName_cell I.ok.kind hk hc z (λh' Pm hs=>?_);obtain⟨oc,RB,Ut⟩:=id z;refine h {s with heap:=h'} ⟨I.ok,I.os,I.bare,⟨λb o e n hb hx=>?_,λb o e n hb hx=>?_,I.base.free,λb o e hx=>?_,I.base.ik,I.base.gj,I.base.fY⟩,⟨m,hn.sameBut hs (P3 (ir x c hc)),λj y v' e1 e2 e3=>?_⟩,λy c' e=>?_,I.free,I.gH,λp hp=>?_,tracked ⟨oc,RB,I.gH x c hc⟩ hs,by simpa using I.len⟩ ⟨c,hs,.inr hc⟩
  ·exact(hs.2 b (Pv (KF (GM e) (I.ok.mF x c Se hc)))).trans (I.base.keep b o e n hb hx)
  ·obtain⟨sl,e1⟩:=I.base.slot b o e n hb hx
   exact⟨sl,(hs.2 b (Pv (KF (GM e) (I.ok.mF x c Se hc)))).trans e1⟩
  ·obtain⟨o',e1⟩:=I.base.there b o e hx
   exact⟨o',(hs.2 b (Pv (KF (GM e) (I.ok.mF x c Se hc)))).trans e1⟩
  ·by_cases hj:j=i
   ·subst hj
    rw[hi]at e1;cases e1;rw[Mk Tf]at e2;cases e2;exact⟨u,r,.inr ⟨.inl hk,c,hc,Pm⟩⟩
   ·rw[bU (P3 hj)]at e2
    obtain⟨u',r',q⟩:=hl j y v' e1 e2 e3;refine⟨u',r',?_⟩;rcases q with q|⟨k,c',e,z'⟩
    ·exact .inl q
    ·refine .inr ⟨k,c',e,z'.sameBut hs ?_⟩
     rintro rfl;exact hj (xZ hN e1 (I.ok.inj _ _ _ e hc▸hi))
  ·by_cases Sq:c'=c
   ·subst Sq;exact⟨_,Pm⟩
   ·obtain⟨w2,z2⟩:=I.cell y c' e
    exact⟨w2,z2.sameBut hs Sq⟩
  ·obtain⟨e,n,ne,nf,d⟩:=I.pin p hp
   refine⟨(hs.2 p.1 ?_).trans e,n,ne,nf,d⟩;intro q;rw[q,RB]at e;have q':oc=p.2:=Rf e;exact d w' (by rw[<-q'];exact Ut)
theorem zq(I:Inv X pins σ H s)(hN:X.N.Nodup)(hi:X.N[i]? =some x)(hx:Loc X.env.scope x)(r:RelV v u)
  (h:∀s',Inv X pins (σ.set i (some v)) H s'->Q () s') (hf:X.fn x=true\/X.env.scope.names.lookup x=some .local:=by first|exact .inl rfl|exact .inr rfl|assumption):wpAny M A (storeName X.env x u) Q E s:=
 KZ I hN hi hx r (λs' I' _=>h s' I') hf
theorem Inv.xN{s':Shared}{ch:Zx}(I:Inv X pins σ H s)(ho:s'.os=s.os)(u:Un (eZ X.stack) ch H H' s.heap s'.heap)(aQ:cg X.prog X.w H' s'.heap)(hg:AllBare s'.gens)
  (QX:∀b∈ch,(b∈X.ex\/X.cY.heap.objs.size<=b)/\b≠X.env.locals/\(∀x c,X.env.cells.lookup x=some c->c≠b)/\∀p∈X.pn++pins,p.1≠b):Inv X pins σ H' s':=by
 obtain⟨h',g',d',t',o'⟩:=s';have e:o'=s.os:=ho;subst e;exact I.call (g':=g') (t':=t') (d':=d') u aQ hg QX
end
noncomputable abbrev XK:=Value->Option Addr->Hp->Prop
noncomputable abbrev St:=List (Option V)
noncomputable abbrev VK:=V->Hp->Prop
noncomputable abbrev TE:=St->Hp->VK->Prop
noncomputable abbrev TT:=St->Hp->(Bool->Hp->Prop)->Prop
noncomputable abbrev TA:=St->Hp->(List V->Hp->Prop)->Prop
structure Ends where
 nx:St->Hp->Prop
 rt:VK
 bk:St->Hp->Prop:=λ_ _=>False
 ct:St->Hp->Prop:=λ_ _=>False
noncomputable abbrev TS:=Ends->St->Hp->Prop
inductive EP(X:Cx)(pins:List (Addr×Obj))(σ:St)(Q:VK)(u:Value)(s':Shared):Prop
 |mk:∀v H',Inv X pins σ H' s'->RelV v u->Q v H'->EP X pins σ Q u s'
inductive TP(X:Cx)(pins:List (Addr×Obj))(σ:St)(Q:Bool->Hp->Prop)(b:Bool)(s':Shared):Prop
 |mk:∀H',Inv X pins σ H' s'->Q b H'->TP X pins σ Q b s'
inductive AP(X:Cx)(pins:List (Addr×Obj))(σ:St)(Q:List V->Hp->Prop)(us:acQ)(s':Shared):Prop
 |mk:∀vs H',Inv X pins σ H' s'->Vals vs us->Q vs H'->AP X pins σ Q us s'
def SP(X:Cx)(pins:List (Addr×Obj))(D:Ends)(f:Flow)(s':Shared):Prop:=
 match f with
 |.next=>∃NF H',Inv X pins NF H' s'/\D.nx NF H'
 |.brk=>∃NF H',Inv X pins NF H' s'/\D.bk NF H'
 |.cont=>∃NF H',Inv X pins NF H' s'/\D.ct NF H'
 |.ret u=>∃v NF H',Inv X pins NF H' s'/\RelV v u/\D.rt v H'
def PE(X:Cx)(e:Expr)(t:TE):Prop:=
 ∀(pins:List (Addr×Obj)) (s:Shared) (σ:St) (H:Hp) (Q:VK),Inv X pins σ H s->t σ H Q->wpAny (model X.prog X.w) X.A (eval e X.env) (EP X pins σ Q) X.xe s
def PT(X:Cx)(e:Expr)(t:TT):Prop:=
 ∀(pins:List (Addr×Obj)) (s:Shared) (σ:St) (H:Hp) (Q:Bool->Hp->Prop),Inv X pins σ H s->t σ H Q->wpAny (model X.prog X.w) X.A (isTrue e X.env (eval e X.env)) (TP X pins σ Q) X.xe s
def PW(X:Cx)(e:Expr)(t:TT):Prop:=
 ∀(whole:Sem Value) (pins:List (Addr×Obj)) (s:Shared) (σ:St) (H:Hp) (Q:Bool->Hp->Prop),Inv X pins σ H s->t σ H Q->wpAny (model X.prog X.w) X.A (isTrue e X.env whole) (TP X pins σ Q) X.xe s
theorem PW.pt(h:PW X e t):PT X e t:=h _
def PA(X:Cx)(es:acP)(t:TA):Prop:=
 ∀(pos:Pos) (pins:List (Addr×Obj)) (s:Shared) (σ:St) (H:Hp) (Q:List V->Hp->Prop),Inv X pins σ H s->t σ H Q->wpAny (model X.prog X.w) X.A (spliced (backTo pos (starEach es X.env))) (AP X pins σ Q) X.xe s
def PS(X:Cx)(st:Stmt)(t:TS):Prop:=
 ∀(pins:List (Addr×Obj)) (s:Shared) (σ:St) (H:Hp) (D:Ends),Inv X pins σ H s->t D σ H->wpAny (model X.prog X.w) X.A (exec st X.env) (SP X pins D) X.xe s
def cH(X:Cx)(st:List Stmt)(t:TS):Prop:=
 ∀(pins:List (Addr×Obj)) (s:Shared) (σ:St) (H:Hp) (D:Ends),Inv X pins σ H s->t D σ H->wpAny (model X.prog X.w) X.A (execs st X.env) (SP X pins D) X.xe s
theorem aW{α:Type}{t:Sem α}{Q Q':α->Shared->Prop}{M:Model}{A:Around}{E:Value->Shared->Prop}{s:Shared}(h:wpAny M A t Q E s)(hQ:∀a s,Q a s->Q' a s):wpAny M A t Q' E s:=S8 h hQ λ_ _ x=>x
section
variable{X:Cx}
theorem bin{a b:Expr}{ta tb:TE}(ha:PE X a ta)(hb:PE X b tb){pins:List (Addr×Obj)}{s:Shared}{σ:St}{H:Hp}{R:V->V->Hp->Prop}(I:Inv X pins σ H s)(h:ta σ H λx H1=>tb σ H1 λy H2=>R x y H2)
  {α:Type} {Q:α->Shared->Prop} {f:Value->Value->Sem α}
  (hf:∀v u s2 x y H2,Inv X pins σ H2 s2->RelV x v->RelV y u->R x y H2->wpAny (model X.prog X.w) X.A (f v u) Q X.xe s2):
  wpAny (model X.prog X.w) X.A (eval a X.env) (λv B'=>wpAny (model X.prog X.w) X.A (eval b X.env) (λu O6=>wpAny (model X.prog X.w) X.A (f v u) Q X.xe O6) X.xe B') X.xe s:=by
 refine aW (ha pins s σ H _ I h) λv s1 ⟨x,H1,I1,r1,q1⟩=>?_;refine aW (hb pins s1 σ H1 _ I1 q1) λu s2 ⟨y,H2,I2,r2,q2⟩=>?_;exact hf v u s2 x y H2 I2 r1 r2 q2
def Bw(i:Nat):TE:=λσ H Q=>∃v,σ[i]? =some (some v)/\Q v H
def tC(v:V):TE:=λ_ H Q=>Q v H
theorem Ma(hN:X.N[i]? =some x)(hv:fi X.env.scope x)(hd:gV x:=by decide)(Oh:tx x:=by decide):PE X (.Name x pos) (Bw i):=by
 intro pins s σ H Q I h;obtain⟨v,e,h⟩:=h;obtain⟨m,hn,hl⟩:=I.loc;obtain⟨u,r,l⟩:=hl i x v hN e hv;have fin:EP X pins σ Q u s:=⟨v,H,I,r,h⟩;rcases l with⟨hk,hm⟩|⟨hk,c,hc,Pq⟩
 ·exact wpAny_Name (wpAny_loadName_local I.ok.kind hk hn hm fin) hd
 ·rcases hk with hk|hk
  ·exact wpAny_Name (wpAny_loadName_cell I.ok.kind hk hc Pq fin) hd
  ·exact wpAny_Name (wpAny_loadName_free I.ok.kind hk hc Pq fin Oh) hd
theorem DD{i j pos}:PE X (.Constant (.int i) j pos) (tC (.int i)):=λ_ _ _ H _ I h=>wpAny_Constant_int ⟨.int i,H,I.tok _,⟨_,rfl⟩,h⟩
theorem Jm{b j pos}:PE X (.Constant (.bool b) j pos) (tC (.bl b)):=λ_ _ _ H _ I h=>Constant_bool ⟨.bl b,H,I,rfl,h⟩
theorem LG{j pos}:PE X (.Constant .none j pos) (tC .aE):=λ_ _ _ H _ I h=>Constant_none ⟨.aE,H,I,rfl,h⟩
theorem FP{x j pos}:PE X (.Constant (.str x) j pos) (tC (.str x)):=λ_ _ _ H _ I h=>Calls.Constant_str ⟨.str x,H,I.tok _,⟨_,rfl⟩,h⟩
def Gl(X:Cx)(x:Str):Prop:=X.env.kindOf x=some .globalImplicit
theorem se(I:Inv X pins σ H s)(hg:Gl X x)(hm:X.mg x=some u)(h:Q u s)
  (hd:gV x:=by decide):wpAny (model X.prog X.w) X.A (eval (.Name x pos) X.env) Q E s:=
 abV I.ok.kind hg (Calls.loadGlobal_global (by rw[I.ok.glob];exact I.mod.glob.keeps I.bk) hm h) hd
theorem mQ(I:Inv X pins σ H s)(hg:Gl X x)(hm:X.mg x=none)(hv:bootBuiltins x=some u)(h:Q u s)
  (hn:x≠"__name__":=by decide) (hd:gV x:=by decide):wpAny (model X.prog X.w) X.A (eval (.Name x pos) X.env) Q E s:=by
 obtain⟨mb,h1,h2⟩:=I.mod.blt;exact abV I.ok.kind hg (Calls.loadGlobal_builtin (by rw[I.ok.glob];exact I.mod.glob.keeps I.bk) hm (by rw[I.ok.blt];exact h1.keeps I.bk) ((h2 x hn).trans hv) h) hd
theorem zF(hg:Gl X x)(hm:X.mg x=some u)(r:RelV v u)(hd:gV x:=by decide):PE X (.Name x pos) (tC v):=
 λ_ _ _ H _ I h=>se I hg hm ⟨v,H,I,r,h⟩ hd
theorem xx(hg:Gl X x)(hm:X.mg x=none)(hv:bootBuiltins x=some u)(r:RelV v u)(hn:x≠"__name__":=by decide)(hd:gV x:=by decide):PE X (.Name x pos) (tC v):=
 λ_ _ _ H _ I h=>mQ I hg hm hv ⟨v,H,I,r,h⟩ hn hd
variable{a b:Expr}{ta tb:TE}{pos:Pos}
def PC(X:Cx)(op:CmpOp)(a b:Expr)(t:TE):Prop:=
 ∀(pins:List (Addr×Obj)) (s:Shared) (σ:St) (H:Hp) (Q:VK),Inv X pins σ H s->t σ H Q->
  wpAny (model X.prog X.w) X.A (eval a X.env) (λv B'=>wpAny (model X.prog X.w) X.A (eval b X.env) (λu O6=>wpAny (model X.prog X.w) X.A (compareOp op v u) (EP X pins σ Q) X.xe O6) X.xe B') X.xe s
theorem Me(b:Expr)(h:op≠.In)(h2:op≠.NotIn):behindInMarks op b=false:=by
 have e1:(op==CmpOp.In)=false:=by cases op<;>first|rfl|exact absurd rfl h
 have e2:(op==CmpOp.NotIn)=false:=by cases op<;>first|rfl|exact absurd rfl h2
 cases b<;>simp[behindInMarks,e1,e2]
def Lk(ta:TE):TE:=λσ H Q=>ta σ H λx H1=>Q (.bl (decide (x=.aE))) H1
theorem RelV.Ks(r:RelV x v):(v==Value.none)=decide (x=.aE):=by
 cases x with
 |aE=>cases r;rfl
 |bl _=>cases r;rfl
 |int _=>obtain⟨t,rfl⟩:=r;rfl
 |str _=>obtain⟨t,rfl⟩:=r;rfl
 |lW _=>obtain⟨t,rfl⟩:=r;rfl
 |cP _=>obtain⟨t,rfl⟩:=r;rfl
 |ref _=>cases r;rfl
 |ty _=>cases r;rfl
theorem IH{j pos'}(ha:PE X a ta):PC X .Is a (.Constant .none j pos') (Lk ta):=by
 intro pins s σ H Q I h;refine aW (ha pins s σ H _ I h) λv s1 ⟨x,H1,I1,r1,q1⟩=>?_;exact Constant_none (is_none_gen ⟨.bl _,H1,I1,by rw[r1.Ks];rfl,q1⟩)
def tB(t:TE):TT:=λσ H Q=>t σ H λx H1=>∃c,x=.bl c/\Q c H1
theorem M7(h:PC X op a b t)(h1:behindInMarks op b=false:=by first|exact Me _ (by decide) (by decide)|rfl):PT X (.Compare a [op] [b] pos) (tB t):=by
 intro pins s σ H Q I hw;refine acB (aW (h pins s σ H _ I hw) λv s1 h1=>aW h1 λu s2 h2=>aW h2 λc s3 ⟨x,H1,I1,r1,q1⟩=>?_) h1;obtain⟨d,rfl,q⟩:=q1;cases r1;exact ZZ ⟨H1,I1,q⟩
variable{tA T1:TT}{rest:acP}
def jh(t u:TT):TT:=λσ H Q=>t σ H λc H1=>if c=true then u σ H1 Q else Q false H1
def dS(t u:TT):TT:=λσ H Q=>t σ H λc H1=>if c=true then Q true H1 else u σ H1 Q
def eG(t:TT):TT:=λσ H Q=>t σ H λc H1=>Q (!c) H1
theorem HU(ha:PT X a tA):PW X (.BoolOp .And [a] pos) tA:=by
 intro wh pins s σ H Q I h;refine isTrue_and (aW (ha pins s σ H Q I h) λc s1 e=>?_);cases c with
 |true=>exact isTrue_and_nil e
 |false=>exact e
theorem Hf(ha:PT X a tA):PW X (.BoolOp .Or [a] pos) tA:=by
 intro wh pins s σ H Q I h;refine isTrue_or (aW (ha pins s σ H Q I h) λc s1 e=>?_);cases c with
 |false=>exact isTrue_or_nil e
 |true=>exact e
theorem Hd(ha:PT X a tA)(hb:PW X (.BoolOp .And (b::rest) pos) T1):PW X (.BoolOp .And (a::b::rest) pos) (jh tA T1):=by
 intro wh pins s σ H Q I h;refine isTrue_and (aW (ha pins s σ H _ I h) λc s1 ⟨H1,I1,q1⟩=>?_);cases c with
 |true=>exact hb wh pins s1 σ H1 Q I1 q1
 |false=>exact⟨H1,I1,q1⟩
theorem IE(ha:PT X a tA)(hb:PW X (.BoolOp .Or (b::rest) pos) T1):PW X (.BoolOp .Or (a::b::rest) pos) (dS tA T1):=by
 intro wh pins s σ H Q I h;refine isTrue_or (aW (ha pins s σ H _ I h) λc s1 ⟨H1,I1,q1⟩=>?_);cases c with
 |true=>exact⟨H1,I1,q1⟩
 |false=>exact hb wh pins s1 σ H1 Q I1 q1
theorem L4(ha:PT X a tA):PT X (.UnaryOp .Not a pos) (eG tA):=by
 intro pins s σ H Q I h;exact isTrue_not (aW (ha pins s σ H (λc H1=>Q (!c) H1) I h) λ_ _=>by rintro⟨a,b,c⟩;exact ⟨a,b,c⟩)
def Ew(ta tb:TE):TE:=λσ H Q=>ta σ H λx H1=>∃c,x=.bl c/\if c=true then tb σ H1 Q else Q (.bl false) H1
def HE(ta:TE):TE:=λσ H Q=>ta σ H λx H1=>∃c,x=.bl c/\Q (.bl (!c)) H1
theorem ET{op}(h:PE X a t):PE X (.BoolOp op [a] pos) t:=λpins s σ H Q I hw=>BoolOp_one (h pins s σ H Q I hw)
theorem J8(ha:PE X a ta)(hb:PE X (.BoolOp .And (b::rest) pos) tb):PE X (.BoolOp .And (a::b::rest) pos) (Ew ta tb):=by
 intro pins s σ H Q I h;refine BoolOp_and (aW (ha pins s σ H _ I h) λv s1 ⟨x,H1,I1,r1,q1⟩=>?_);obtain⟨c,rfl,q1⟩:=q1;cases r1;refine ZZ ?_;cases c with
 |true=>exact hb pins s1 σ H1 Q I1 q1
 |false=>exact⟨.bl false,H1,I1,rfl,q1⟩
theorem L3(ha:PE X a ta):PE X (.UnaryOp .Not a pos) (HE ta):=by
 intro pins s σ H Q I h;refine UnaryOp_ (aW (ha pins s σ H _ I h) λv s1 ⟨x,H1,I1,r1,q1⟩=>?_);obtain⟨c,rfl,q1⟩:=q1;cases r1;exact not_of (ZZ ⟨.bl (!c),H1,I1,rfl,q1⟩)
def GZ(t:TT)(ta tb:TE):TE:=λσ H Q=>t σ H λc H1=>if c=true then ta σ H1 Q else tb σ H1 Q
theorem Lu(hc:PT X c tA)(ha:PE X a ta)(hb:PE X b tb):PE X (.IfExp c a b pos) (GZ tA ta tb):=by
 intro pins s σ H Q I h;refine wpAny_IfExp (aW (hc pins s σ H _ I h) λd s1 ⟨H1,I1,q1⟩=>?_);cases d with
 |true=>exact ha pins s1 σ H1 Q I1 q1
 |false=>exact hb pins s1 σ H1 Q I1 q1
end
def bP(K:PySem.W.Frag)(H:Hp)(a:Addr)(xs:List V):Prop:=
 Rd H a (.lst xs)\/
  ∃(o:Obj) (aq:Array Value) (n:Nat),K.lookup a=some o/\o.cls=.type "list"/\o.dict=none/\o.data=.seq aq n/\aq.size<=sizeLine/\Vals xs aq.toList
def bW(K:PySem.W.Frag)(H:Hp)(a:Addr)(xs:List V):Prop:=
 Rd H a (.tup xs)\/
  ∃(o:Obj) (aq:Array Value) (n:Nat),K.lookup a=some o/\o.cls=.type "tuple"/\o.data=.seq aq n/\aq.size<=sizeLine/\Vals xs aq.toList
noncomputable def M8:Value->Option V
 |.none=>some .aE
 |.bool b=>some (.bl b)
 |.int i _=>some (.int i)
 |.str x _=>some (.str x)
 |.bytes b _=>some (.lW b)
 |.float b _=>some (.cP b)
 |.ref a=>some (.ref a)
 |.type n=>some (.ty n)
 |_=>none
theorem RelV.abs(r:RelV x u):M8 u=some x:=by
 cases x with
 |aE=>cases r;rfl
 |bl _=>cases r;rfl
 |int _=>obtain⟨t,rfl⟩:=r;rfl
 |str _=>obtain⟨t,rfl⟩:=r;rfl
 |lW _=>obtain⟨t,rfl⟩:=r;rfl
 |cP _=>obtain⟨t,rfl⟩:=r;rfl
 |ref _=>cases r;rfl
 |ty _=>cases r;rfl
theorem RelV.inj{x y:V}{u:Value}(r:RelV x u)(q:RelV y u):x=y:=Rf (r.abs.symm.trans q.abs)
theorem Vals.inj:∀ {xs ys:List V} {us:acQ},Vals xs us->Vals ys us->xs=ys
 |_,_,_,.nil,.nil=>rfl
 |_,_,_,.cons r t,.cons r' t'=>by rw[r.inj r',Vals.inj t t']
section
variable{X:Cx}{pins:List (Addr×Obj)}{σ:St}{H:Hp}{s:Shared}{a:Addr}{xs ys:List V}
theorem bP.of{K:PySem.W.Frag}(h:H a=some (.lst xs)):bP K H a xs:=.inl (.inl h)
theorem Inv.list(I:Inv X pins σ H s)(h:bP X.K H a xs):∃aq:acQ,Vals xs aq/\PlainL s.heap a aq.toArray/\xs.length<=sizeLine:=by
 rcases h with h|⟨o,aq,n,hk,hc,hd,hs,hz,r⟩
 ·obtain⟨z,aq,n,r,e⟩:=h.ok I.aQ
  exact⟨aq,r,⟨_,n,e,rfl,rfl,rfl⟩,z⟩
 ·refine⟨aq.toList,r,⟨o,n,I.da a o hk,hc,hd,by simpa using hs⟩,?_⟩
  have e:=r.length;simp only[aaG]at e;omega
theorem Inv.tuple(I:Inv X pins σ H s)(h:bW X.K H a xs):∃aq:acQ,Vals xs aq/\IsTup s.heap a aq.toArray/\xs.length<=sizeLine:=by
 rcases h with h|⟨o,aq,n,hk,hc,hs,hz,r⟩
 ·obtain⟨z,aq,r,p⟩:=h.ok I.aQ
  exact⟨aq,r,p,z⟩
 ·refine⟨aq.toList,r,⟨o,I.da a o hk,hc,n,by simpa using hs⟩,?_⟩
  have e:=r.length;simp only[aaG]at e;omega
theorem Inv.yJ(I:Inv X pins σ H s)(h:bP X.K H a xs)(h':bP X.K H a ys):xs=ys:=by
 obtain⟨aq,r,⟨o,n,e,_,_,d⟩,_⟩:=I.list h;obtain⟨its',r',⟨o',n',e',_,_,d'⟩,_⟩:=I.list h';rw[e]at e';cases e';rw[d]at d';injection d' with d1 _;have:aq=its':=by simpa using congrArg Array.toList d1
 subst this;exact r.inj r'
theorem Inv.z9(I:Inv X pins σ H s)(h:bW X.K H a xs)(h':bW X.K H a ys):xs=ys:=by
 obtain⟨aq,r,⟨o,e,_,n,d⟩,_⟩:=I.tuple h;obtain⟨its',r',⟨o',e',_,n',d'⟩,_⟩:=I.tuple h';rw[e]at e';cases e';rw[d]at d';injection d' with d1 _;have:aq=its':=by simpa using congrArg Array.toList d1
 subst this;exact r.inj r'
end
noncomputable abbrev Cx.iE(X:Cx)(E:Value->Shared->Prop):Cx:={X with xe:=E}
noncomputable abbrev Cx.gw(X:Cx):Cx:=X.iE λ_ _=>False
theorem Cx.Ok.iE{X:Cx}(ok:X.Ok)(E:Value->Shared->Prop):(X.iE E).Ok:=
 ⟨ok.mod,ok.kind,ok.glob,ok.blt,ok.above,ok.inj,ok.has,ok.mF,ok.hd,ok.frames,ok.tm,ok.CA,ok.bs,ok.gN,ok.pq,ok.rZ,ok.fS,ok.iF,ok.tb⟩
theorem Cx.Ok.jY{X:Cx}{E:Value->Shared->Prop}(ok:(X.iE E).Ok):X.Ok:=
 ⟨ok.mod,ok.kind,ok.glob,ok.blt,ok.above,ok.inj,ok.has,ok.mF,ok.hd,ok.frames,ok.tm,ok.CA,ok.bs,ok.gN,ok.pq,ok.rZ,ok.fS,ok.iF,ok.tb⟩
section
variable{X:Cx}{pins:List (Addr×Obj)}{σ:St}{H:Hp}{s:Shared}{E:Value->Shared->Prop}
theorem Inv.iE(I:Inv X pins σ H s)(E:Value->Shared->Prop):Inv (X.iE E) pins σ H s:=⟨I.ok.iE E,I.os,I.bare,I.base,I.loc,I.cell,I.free,I.gH,I.pin,I.aQ,I.len⟩
theorem Inv.jY(I:Inv (X.iE E) pins σ H s):Inv X pins σ H s:=⟨I.ok.jY,I.os,I.bare,I.base,I.loc,I.cell,I.free,I.gH,I.pin,I.aQ,I.len⟩
theorem SP.jY(h:SP (X.iE E) pins D f s'):SP X pins D f s':=by
 cases f with
 |next=>obtain⟨NF,H',I,q⟩:=h;exact⟨NF,H',I.jY,q⟩
 |brk=>obtain⟨NF,H',I,q⟩:=h;exact⟨NF,H',I.jY,q⟩
 |cont=>obtain⟨NF,H',I,q⟩:=h;exact⟨NF,H',I.jY,q⟩
 |ret u=>obtain⟨v,NF,H',I,r,q⟩:=h;exact⟨v,NF,H',I.jY,r,q⟩
theorem cH.gw{st:List Stmt}{t:TS}(h:cH X.gw st t):cH X st t:=λpins s σ H D I hw=>
 S8 (h pins s σ H D (I.iE _) hw) (λ_ _ q=>q.jY) λ_ _ z=>False.elim z
end
section
variable{X:Cx}{st:Stmt}{rest:List Stmt}{t u:TS}{e:Expr}{te:TE}{pos:Pos}
def KO:TS:=λD σ H=>D.nx σ H
def Ak(t u:TS):TS:=λD σ H=>t {D with nx:=u D} σ H
theorem Hc:cH X [] KO:=λ_ _ σ H _ I h=>abN ⟨σ,H,I,h⟩
theorem Jh(h1:PS X st t)(h2:cH X rest u):cH X (st::rest) (Ak t u):=by
 intro pins s σ H D I h;refine wpAny_execs_cons (aW (h1 pins s σ H {D with nx:=u D} I h) λf s1 q=>?_);cases f with
 | next=>
  obtain⟨NF,H',I',q⟩:=q;exact h2 pins s1 NF H' D I' q
 |ret v=>exact q
 |brk=>exact q
 |cont=>exact q
theorem IU(h1:PS X st t):cH X [st] t:=by
 intro pins s σ H D I h;refine wpAny_execs_cons (aW (h1 pins s σ H D I h) λf s1 q=>?_);cases f with
 |next=>exact abN q
 |ret v=>exact q
 |brk=>exact q
 |cont=>exact q
theorem Inv.quiet(I:Inv X pins σ H s):interactive X.env=false:=by simp[interactive,I.ok.kind]
def E5(te:TE):TS:=λD σ H=>te σ H λ_ H1=>D.nx σ H1
theorem Au(he:PE X e te)(hs:swapsWith e none pos.line X.env=pure false:=by rfl):PS X (.Expr e pos) (E5 te):=by
 intro pins s σ H D I h;exact wpAny_Expr_any (aW (he pins s σ H _ I h) λv s1=>by rintro⟨x,H1,I1,r1,q1⟩;exact ⟨σ,H1,I1,q1⟩) I.quiet hs
def Gz(te:TE):TS:=λD σ H=>te σ H D.rt
theorem oZ(he:PE X e te):PS X (.Return (some e) pos) (Gz te):=by
 intro pins s σ H D I h;exact wpAny_Return_some (aW (he pins s σ H _ I h) λv s1=>by rintro⟨x,H1,I1,r1,q1⟩;exact ⟨x,σ,H1,I1,r1,q1⟩)
def Ip(c:TT)(t u:TS):TS:=λD σ H=>c σ H λb H1=>if b=true then t D σ H1 else u D σ H1
theorem EE(hc:PT X c tc)(ha:cH X a t)(hb:cH X b u):PS X (.If c a b pos) (Ip tc t u):=by
 intro pins s σ H D I h;refine wpAny_If (aW (hc pins s σ H _ I h) λd s1 ⟨H1,I1,q1⟩=>?_);cases d with
 |true=>exact ha pins s1 σ H1 D I1 q1
 |false=>exact hb pins s1 σ H1 D I1 q1
def D9:TS:=λ_ _ _=>False
theorem DR:PS X st D9:=λ_ _ _ _ _ _ h=>h.elim
end
noncomputable abbrev TG:=V->St->Hp->(St->Hp->Prop)->Prop
noncomputable abbrev pW:=List V->St->Hp->(St->Hp->Prop)->Prop
def PG(X:Cx)(target:Expr)(t:TG):Prop:=
 ∀(pins:List (Addr×Obj)) (s:Shared) (σ:St) (H:Hp) (v:V) (u:Value) (Q:St->Hp->Prop),Inv X pins σ H s->RelV v u->t v σ H Q->
  wpAny (model X.prog X.w) X.A (assign target X.env u) (λ_ s'=>∃NF H',Inv X pins NF H' s'/\Q NF H') X.xe s
def dk(X:Cx)(ts:acP)(t:pW):Prop:=
 ∀(pins:List (Addr×Obj)) (s:Shared) (σ:St) (H:Hp) (vs:List V) (us:acQ) (Q:St->Hp->Prop),Inv X pins σ H s->Vals vs us->t vs σ H Q->
  wpAny (model X.prog X.w) X.A (assignInOrder ((assignEach ts X.env).map (·.2)) us) (λ_ s'=>∃NF H',Inv X pins NF H' s'/\Q NF H') X.xe s
noncomputable abbrev A0:=V->V->V->Hp->(Hp->Prop)->Prop
def A6(X:Cx)(t:A0):Prop:=
 ∀(pins:List (Addr×Obj)) (s:Shared) (σ:St) (H:Hp) (o i v:V) (ov iv u:Value) (Q:Hp->Prop),Inv X pins σ H s->RelV o ov->RelV i iv->RelV v u->t o i v H Q->
  wpAny (model X.prog X.w) X.A (setItem ov iv u) (λ_ s'=>∃H',Inv X pins σ H' s'/\Q H') X.xe s
section
variable{X:Cx}{pos:Pos}
def aG(i:Nat):TG:=λv σ H Q=>Q (σ.set i (some v)) H
theorem Ea(hN:X.N.Nodup)(hi:X.N[i]? =some x)(hx:Loc X.env.scope x)(hf:X.fn x=true\/X.env.scope.names.lookup x=some .local:=by first|exact .inl rfl|exact .inr rfl|assumption):PG X (.Name x pos) (aG i):=by
 intro pins s σ H v u Q I r h;exact wpAny_assign_Name (zq I hN hi hx r (λs' I'=>⟨_,H,I',h⟩) hf)
noncomputable def K2:pW:=λvs σ H Q=>vs=[]/\Q σ H
noncomputable def yG(t:TG)(u:pW):pW:=λvs σ H Q=>∃v r,vs=v::r/\t v σ H λNF H'=>u r NF H' Q
theorem Iq:dk X [] K2:=by
 intro pins s σ H vs us Q I r h;obtain⟨e,h⟩:=h;subst e;cases r;exact assignInOrder_nil ⟨σ,H,I,h⟩
theorem IB(h1:PG X e t)(h2:dk X es u)
  (hs:(assignEach (e::es) X.env).map (·.2)=assign e X.env::(assignEach es X.env).map (·.2):=by rfl):dk X (e::es) (yG t u):=by
 intro pins s σ H vs us Q I r h;obtain⟨v,vr,e1,h⟩:=h;subst e1;cases r with
 | cons r rr=>
  rw[hs];refine assignInOrder_cons (aW (h1 pins s σ H _ _ _ I r h) λ_ s1 ⟨Um,H1,I1,q1⟩=>?_);exact h2 pins s1 Um H1 _ _ Q I1 rr q1
def gW(K:PySem.W.Frag)(n:Nat)(t:pW):TG:=λv σ H Q=>∃a xs,v=.ref a/\bW K H a xs/\xs.length=n/\t xs σ H Q
theorem Gm(hc:X.calm=true)(h:dk X es t)
  (hn:(assignEach es X.env).length=n:=by rfl) (Sr:(assignEach es X.env).findIdx? (·.1)=none:=by rfl):PG X (.Tuple es k pos) (gW X.K n t):=by
 intro pins s σ H v u Q I r hw;obtain⟨a,xs,e1,hq,hl,hw⟩:=hw;subst e1;cases r;obtain⟨aq,rv,ht,hz⟩:=I.tuple hq;refine assign_Tuple_tuple (I.ok.hd hc) ht (by simp[hn, <-hl,rv.length]) Sr λh' hx=>?_
 have I1:Inv X pins σ H {s with heap:=h'}:=I.kept (t':=s.toks) λb o e=>hx b o (Pv (GM e)) e;exact h pins _ σ H xs _ Q I1 (by simpa using rv) hw
def J9(to ti:TE)(t:A0):TG:=λv σ H Q=>to σ H λo H1=>ti σ H1 λi H2=>t o i v H2 λH3=>Q σ H3
theorem zy(ho:PE X o to)(hi:PE X i ti)(hs:A6 X t)
  (ha:∀v,assign (.Subscript o i pos) X.env v=(do
   let ov <-holding [v] (eval o X.env)
   let iv <-holding [v,ov] (eval i X.env)
   standAt pos
   holding [v,ov,iv] (setItem ov iv v)
   release [v,ov,iv] []):=by intro _;rfl):PG X (.Subscript o i pos) (J9 to ti t):=by
 intro pins s σ H v u Q I r h;rw[ha];refine cp (aaI (aW (ho pins s σ H _ I h) λov s1 ⟨x,H1,I1,r1,q1⟩=>?_));refine cp (aaI (aW (hi pins s1 σ H1 _ I1 q1) λiv s2 ⟨y,H2,I2,r2,q2⟩=>?_));refine cp (wpAny_standAt (cp (aaI (aW (hs pins s2 σ H2 x y v ov iv u _ I2 r1 r2 r q2) λ_ s3 ⟨H3,I3,q3⟩=>?_))));exact wpAny_release ⟨σ,H3,I3,q3⟩
def AB(te:TE)(g:TG):TS:=λD σ H=>te σ H λx H1=>g x σ H1 D.nx
theorem u3(he:PE X e te)(hg:PG X tg g)(hs:swapsWithSole [tg] e pos.line X.env=pure false:=by rfl)(hw:swappedStores [tg] e X.env=pure none:=by rfl)
  (h1:(assignEach [tg] X.env).map (·.2)=[assign tg X.env]:=by rfl):PS X (.Assign [tg] e pos) (AB te g):=by
 intro pins s σ H D I h;refine wpAny_Assign_stores (aW (he pins s σ H _ I h) λv s1 ⟨x,H1,I1,r1,q1⟩=>?_) hs hw;rw[h1];exact aW (hg pins s1 σ H1 x v _ I1 r1 q1) λ_ s2 q=>q
theorem kW(hN:X.N.Nodup)(hi:X.N[i]? =some x)(hx:Loc X.env.scope x)(he:PE X e te)(hs:swapsWith e (some (.Name x pos')) pos.line X.env=pure false:=by rfl)(hf:X.fn x=true\/X.env.scope.names.lookup x=some .local:=by first|exact .inl rfl|exact .inr rfl|assumption):
  PS X (.Assign [.Name x pos'] e pos) (AB te (aG i)):=by
 intro pins s σ H D I h;refine wpAny_Assign_Name (aW (he pins s σ H _ I h) λv s1 ⟨y,H1,I1,r1,q1⟩=>?_) hs;exact zq I1 hN hi hx r1 (λs2 I2=>⟨_,H1,I2,q1⟩) hf
end
structure It where
 go:Nat->Hp->Prop
 pQ:Nat->Hp->V->Hp->Prop
 stop:Nat->Hp->Prop
def cX(X:Cx)(pins:List (Addr×Obj))(H:Hp)(b:Addr):Prop:=
 H b=none/\b≠X.env.locals/\b∉X.fs/\(b∈X.ex\/X.cY.heap.objs.size<=b)/\(∀x c,X.env.cells.lookup x=some c->c≠b)/\∀p∈X.pn++pins,p.1≠b
theorem Inv.mq{X:Cx}{pins:List (Addr×Obj)}{σ:St}{H H':Hp}{s:Shared}{b:Addr}(I:Inv X pins σ H s)(hb:s.heap.objs.size<=b)(hn:H' b=none):cX X pins H' b:=by
 refine⟨hn,aas (KF I.lt hb),I.Mc hb,.inr (Re I.sz hb),λx c e z=>?_,λp hp z=>?_⟩
 ·obtain⟨v,q⟩:=I.cell x c e
  exact absurd (KF q.lt (by rw[z];exact hb)) (ZN _)
 ·exact absurd (KF (GM (I.pin p hp).1) (by rw[z];exact hb)) (ZN _)
structure Turn(P:Program)(w:World)(K:PySem.W.Frag)(tg:Expr)(J:It)(fp:Zx)(it:Addr)(tn:Nat->Heap->Prop):Prop where
 mem:it∈fp
 obj:∀i h,tn i h->∀b∈fp,∃o,h.get? b=some o/\∀v,o.data≠.cell v
 keep:∀i h h',tn i h->(∀b∈fp,∀o,h.get? b=some o->h'.get? b=some o)->tn i h'
 item:∀(X:Cx),X.prog=P->X.w=w->X.K=K->X.calm=true->∀(i:Nat) (pins:List (Addr×Obj)) (s:Shared) (σ:St) (H:Hp) (E:Value->Shared->Prop),Inv X pins σ H s->(∀b∈fp,cX X pins H b)->tn i s.heap->J.go i H->
  wpAny (model P w) X.A (pyNext (.ref it)) (λr s1=>∃u,r=some u/\
   wpAny (model P w) X.A (letOwnedTupleGo tg (.ref it) u) (λ_ s2=>∃x H',Inv X pins σ H' s2/\RelV x u/\J.pQ i H x H'/\tn (i+1) s2.heap/\∀b∈fp,H' b=none) E s1) E s
 done:∀(X:Cx),X.prog=P->X.w=w->X.K=K->X.calm=true->∀(i:Nat) (pins:List (Addr×Obj)) (s:Shared) (σ:St) (H:Hp) (E:Value->Shared->Prop),Inv X pins σ H s->(∀b∈fp,cX X pins H b)->tn i s.heap->J.stop i H->
  wpAny (model P w) X.A (pyNext (.ref it)) (λr s1=>r=none/\Inv X pins σ H s1) E s
 self:∀(A:Around) (i:Nat) (s:Shared) (Q:Value->Shared->Prop) (E:Value->Shared->Prop),tn i s.heap->Q (.ref it) s->wpAny (model P w) A (pyIter (.ref it)) Q E s
noncomputable abbrev TI:=St->Hp->(It->Hp->Prop)->Prop
def xS(X:Cx)(pins:List (Addr×Obj))(σ:St)(tg:Expr)(R:It->Hp->Prop)(Vu:Value)(s2:Shared):Prop:=
 ∃(it:Addr) (fp:Zx) (tn:Nat->Heap->Prop) (J:It) (H':Hp),Vu=.ref it/\Inv X pins σ H' s2/\Turn X.prog X.w X.K tg J fp it tn/\tn 0 s2.heap/\(∀b∈fp,cX X pins H' b)/\R J H'
def PI(X:Cx)(tg iter:Expr)(wi:TI):Prop:=
 ∀(pins:List (Addr×Obj)) (s:Shared) (σ:St) (H:Hp) (R:It->Hp->Prop),Inv X pins σ H s->wi σ H R->
  wpAny (model X.prog X.w) X.A (eval iter X.env) (λv s1=>wpAny (model X.prog X.w) X.A (pyIter v) (xS X pins σ tg R) X.xe s1) X.xe s
theorem lL(ho:s.heap.get? it=some o)(hc:o.cls=.type n)(hd:o.data=.fields vs)
  (hn:["enumerate","zip","dict_itemiterator","dict_reverseitemiterator","odict_iterator","itertools.zip_longest","itertools.pairwise"].contains n=false) (hQ:Q () s):wpAny M A (letOwnedTupleGo tg (.ref it) u) Q E s:=by
 unfold letOwnedTupleGo
 cases tg<;>first
  |exact FM hQ
  |(cases u<;>first
    |exact FM hQ
    | (refine cp (wpAny_load ho ?_)
       rw[hc,hd];show wpAny M A (if(["enumerate","zip","dict_itemiterator","dict_reverseitemiterator","odict_iterator","itertools.zip_longest","itertools.pairwise"].contains n&&vs[0]? ==some (rawInt _))=true then _ else _) Q E s
       rw[DF (by intro h;rw[hn,Bool.false_and]at h;cases h)]
       exact FM hQ))
noncomputable def oo(K:PySem.W.Frag)(a:Addr):It:=
 ⟨λi H=>∃xs x,bP K H a xs/\xs[i]? =some x,λi H x H'=>H'=H/\∀xs,bP K H a xs->xs[i]? =some x,λi H=>∃xs,bP K H a xs/\xs.length<=i⟩
noncomputable def oQ(K:PySem.W.Frag)(a:Addr):It:=
 ⟨λi H=>∃xs x,bW K H a xs/\xs[i]? =some x,λi H x H'=>H'=H/\∀xs,bW K H a xs->xs[i]? =some x,λi H=>∃xs,bW K H a xs/\xs.length<=i⟩
noncomputable def dD(lo:Int)(n:Nat):It:=⟨λi _=>i<n,λi H x H'=>H'=H/\x=.int (lo+i),λi _=>n<=i⟩
theorem EY{P:Program}{w:World}{K:PySem.W.Frag}{tg:Expr}(a it:Addr):Turn P w K tg (oo K a) [it] it (λi h=>h.IsListIter it a i) where
 mem:=by simp
 obj:=λi h st b hb=>by
  have e:b=it:=by simpa using hb
  subst e;obtain⟨o,e,c,d⟩:=st;exact⟨o,e,λv z=>by rw[d]at z;cases z⟩
 keep:=λi h h' st k=>st.at λo e=>k it (by simp) o e
 item:=by
  intro X hP hw hK hc i pins s σ H E I hf st hg;subst hP hw hK;obtain⟨xs,x,hq,hx⟩:=hg;obtain⟨aq,rv,p,hz⟩:=I.list hq;obtain⟨u,hu,ru⟩:=rv.get hx;obtain⟨f0,f1,f2,f3,f4,f5⟩:=hf it (by simp)
  refine acp st p.isList (x:=u) (by simpa using hu) λh' Pc sb=>?_
  have I1:Inv X pins σ H {s with heap:=h'}:=I.turned (t':=s.toks) (λb o hb e=>(sb.2 b hb).trans e) f0 f1 f3 f4 f5;obtain⟨o,e,c,d⟩:=id Pc;exact⟨u,rfl,lL (s:={s with heap:=h'}) e c d (by decide) ⟨x,H,I1,ru,⟨rfl,λys hy=>by rw[I.yJ hy hq];exact hx⟩,Pc,λb hb=>(hf b hb).1⟩⟩
 done:=by
  intro X hP hw hK hc i pins s σ H E I hf st hg;subst hP hw hK;obtain⟨xs,hq,hx⟩:=hg;obtain⟨aq,rv,p,hz⟩:=I.list hq;obtain⟨f0,f1,f2,f3,f4,f5⟩:=hf it (by simp)
  have hl:=rv.length;exact acC (I.ok.hd hc) st p.isList (by simp;omega) λh' eb=>⟨rfl,I.turned (t':=s.toks) (λb o hb e=>eb b o hb e) f0 f1 f3 f4 f5⟩
 self:=λ_ _ _ _ _ st h=>wpAny_pyIter_listiter st h
theorem Gj{P:Program}{w:World}{K:PySem.W.Frag}{tg:Expr}(a it:Addr):Turn P w K tg (oQ K a) [it] it (λi h=>h.IsTupleIter it a i) where
 mem:=by simp
 obj:=λi h st b hb=>by
  have e:b=it:=by simpa using hb
  subst e;obtain⟨o,e,c,d⟩:=st;exact⟨o,e,λv z=>by rw[d]at z;cases z⟩
 keep:=λi h h' st k=>st.at λo e=>k it (by simp) o e
 item:=by
  intro X hP hw hK hc i pins s σ H E I hf st hg;subst hP hw hK;obtain⟨xs,x,hq,hx⟩:=hg;obtain⟨aq,rv,p,hz⟩:=I.tuple hq;obtain⟨u,hu,ru⟩:=rv.get hx;obtain⟨f0,f1,f2,f3,f4,f5⟩:=hf it (by simp)
  refine wpAny_pyNext_tuple_item st (show s.heap.IsTuple a aq.toArray from p) (x:=u) (by simpa using hu) λh' Pc sb=>?_
  have I1:Inv X pins σ H {s with heap:=h'}:=I.turned (t':=s.toks) (λb o hb e=>(sb.2 b hb).trans e) f0 f1 f3 f4 f5;obtain⟨o,e,c,d⟩:=id Pc;exact⟨u,rfl,lL (s:={s with heap:=h'}) e c d (by decide) ⟨x,H,I1,ru,⟨rfl,λys hy=>by rw[I.z9 hy hq];exact hx⟩,Pc,λb hb=>(hf b hb).1⟩⟩
 done:=by
  intro X hP hw hK hc i pins s σ H E I hf st hg;subst hP hw hK;obtain⟨xs,hq,hx⟩:=hg;obtain⟨aq,rv,p,hz⟩:=I.tuple hq;obtain⟨f0,f1,f2,f3,f4,f5⟩:=hf it (by simp)
  have hl:=rv.length;exact wpAny_pyNext_tuple_end (I.ok.hd hc) st (show s.heap.IsTuple a aq.toArray from p) (by simp;omega) λh' eb=>⟨rfl,I.turned (t':=s.toks) (λb o hb e=>eb b o hb e) f0 f1 f3 f4 f5⟩
 self:=λ_ _ _ _ _ st h=>wpAny_pyIter_tupleiter st h
theorem LD{P:Program}{w:World}{K:PySem.W.Frag}{tg:Expr}(it:Addr)(lo:Int)(n:Nat):Turn P w K tg (dD lo n) [it] it (λi h=>IsRangeIter h it (lo+(i:Nat)*1) ((n:Int) - (i:Nat)) 1) where
 mem:=by simp
 obj:=λi h st b hb=>by
  have e:b=it:=by simpa using hb
  subst e
  exact⟨_,st,λv z=>by
   have z':Data.fields _=Data.cell v:=z;cases z'⟩
 keep:=λi h h' st k=>k it (by simp) _ st
 item:=by
  intro X hP hw hK hc i pins s σ H E I hf st hg;subst hP hw hK;obtain⟨f0,f1,f2,f3,f4,f5⟩:=hf it (by simp)
  have W:=Walks.range (prog:=X.prog) (w:=X.w) (I.ok.hd hc) it lo 1 n;refine W.item i s _ _ hg st λv h' tk hv Pc kk=>?_;obtain⟨t,rfl⟩:=hv;have I1:Inv X pins σ H {s with heap:=h',toks:=tk}:=I.turned (λb o hb e=>kk b o (by simpa using hb) e) f0 f1 f3 f4 f5
  refine⟨_,rfl,lL (s:={s with heap:=h',toks:=tk}) (n:="range_iterator") Pc rfl rfl (by decide) ⟨.int (lo+i),H,I1,⟨t,?_⟩,⟨rfl,rfl⟩,Pc,λb hb=>(hf b hb).1⟩⟩
  rw[Int.mul_one]
 done:=by
  intro X hP hw hK hc i pins s σ H E I hf st hg;subst hP hw hK;obtain⟨f0,f1,f2,f3,f4,f5⟩:=hf it (by simp)
  exact wpAny_pyNext_range_end (I.ok.hd hc) st (by have:n<=i:=hg;omega) λh' eb=>⟨rfl,I.turned (t':=s.toks) (λb o hb e=>eb b o hb e) f0 f1 f3 f4 f5⟩
 self:=λ_ _ _ _ _ st h=>wpAny_pyIter_rangeiter st h
section
variable{X:Cx}{tg:Expr}
theorem B0{pins:List (Addr×Obj)}{σ:St}{H:Hp}{s:Shared}{R:It->Hp->Prop}{E:Value->Shared->Prop}{lo hi:Int}{t u v:Tok}{tk:Nat}(I:Inv X pins σ H s)(h1: -(2 ^ 62)<=lo)(h2:lo<2 ^ 62)(h3: -(2 ^ 62)<=hi)(h4:hi<2 ^ 62)
  (q:R (dD lo (hi - lo).toNat) H):wpAny (model X.prog X.w) X.A (pyIter (.ref s.heap.objs.size)) (xS X pins σ tg R) E {s with heap:=s.heap.push {cls:=.type "range",data:=.fields #[.int lo t,.int hi u,.int 1 v]},toks:=tk}:=by
 refine wpAny_pyIter_range (IsRange.new ..) (small_one h1 h2 h3 h4) ?_;have I1:Inv X pins σ H {s with heap:=s.heap.push {cls:=.type "range",data:=.fields #[.int lo t,.int hi u,.int 1 v]},toks:=tk}:=I.kept λb o e=>mB _ e
 refine⟨(s.heap.push {cls:=.type "range",data:=.fields #[.int lo t,.int hi u,.int 1 v]}).objs.size,[(s.heap.push {cls:=.type "range",data:=.fields #[.int lo t,.int hi u,.int 1 v]}).objs.size],_,_,H,rfl,
  I1.kept (t':=tk) λb o e=>mB _ e,LD _ lo (hi - lo).toNat,?_,λb hb=>?_,q⟩
 ·have e1:lo+((0:Nat):Int)*1=lo:=by simp
  have e2:(((hi - lo).toNat:Nat):Int) - ((0:Nat):Int)=Builtin.Range.rangeSize lo hi 1:=by rw[rangeSize_one];split<;>omega
  show IsRangeIter _ _ (lo+((0:Nat):Int)*1) ((((hi - lo).toNat:Nat):Int) - ((0:Nat):Int)) 1;rw[e1,e2];exact JU _ rfl
 ·have e:b=(s.heap.push {cls:=.type "range",data:=.fields #[.int lo t,.int hi u,.int 1 v]}).objs.size:=by simpa using hb
  subst e;exact I1.mq (Gc _) (I1.aQ.fresh (Gc _))
def j8(ta:TA):TI:=λσ H R=>ta σ H λvs H1=>∃j:Int,vs=[.int j]/\ -(2 ^ 62)<=j/\j<2 ^ 62/\R (dD 0 j.toNat) H1
def lP(ta:TA):TI:=λσ H R=>ta σ H λvs H1=>∃i j:Int,vs=[.int i,.int j]/\(-(2 ^ 62)<=i/\i<2 ^ 62/\ -(2 ^ 62)<=j/\j<2 ^ 62)/\R (dD i (j - i).toNat) H1
theorem IL{a:Expr}{ta:TA}{p pos:Pos}(hg:Gl X "range")(hm:X.mg "range"=none)(ha:PA X [a] ta)(hs:starEach [a] X.env=[(false,eval a X.env)]:=by rfl):PI X tg (.Call (.Name "range" p) [a] [] pos) (j8 ta):=by
 intro pins s σ H R I h;refine Call_ (mQ I hg hm boot_range (aac (aW (ha pos pins s σ H _ I h) λus s1 ⟨vs,H1,I1,r1,q1⟩=>?_) hs rfl));obtain⟨j,e,q1,q2,q⟩:=q1;subst e;cases r1 with
 | cons r rr=>
  cases rr;obtain⟨t,rfl⟩:=r;exact call_range_1 (B0 I1 (by omega) (by omega) q1 q2 (by simpa using q))
theorem FU(hg:Gl X "range")(hm:X.mg "range"=none)(ha:PA X [a,b] ta)(hs:starEach [a,b] X.env=[(false,eval a X.env),(false,eval b X.env)]:=by rfl)(OH:starEach [b] X.env=[(false,eval b X.env)]:=by rfl):
  PI X tg (.Call (.Name "range" p) [a,b] [] pos) (lP ta):=by
 intro pins s σ H R I h;refine Call_ (mQ I hg hm boot_range (aac (aW (ha pos pins s σ H _ I h) λus s1 ⟨vs,H1,I1,r1,q1⟩=>?_) (by rw[hs,OH]) (by rw[OH];rfl)))
 obtain⟨i,j,e,⟨q1,q2,q3,q4⟩,q⟩:=q1;subst e;cases r1 with
 | cons r rr=>
  cases rr with
  | cons r' rr=>
   cases rr;obtain⟨t,rfl⟩:=r;obtain⟨t',rfl⟩:=r';exact call_range_2 (B0 I1 q1 q2 q3 q4 q)
def Li(wi:TI)(g:TG)(tb:TS):TS:=λD σ H=>wi σ H λJ H1=>∃W:Nat->Nat->St->Hp->Prop,(∃m,W 0 m σ H1)/\∀i m σ H,W i m σ H->
 (J.stop i H/\D.nx σ H)\/(J.go i H/\∃N:St->Hp->Prop,(∀NF H',N NF H'->∃m',m'<m/\W (i+1) m' NF H')/\∀x H',J.pQ i H x H'->g x σ H' λUk H2=>tb {D with nx:=N,ct:=N,bk:=D.nx} Uk H2)
noncomputable def mH(fp:Zx)(h:Heap):List (Addr×Obj):=fp.filterMap λb=>(h.get? b).map λo=>(b,o)
theorem sY{fp:Zx}{h:Heap}{b:Addr}{o:Obj}(hb:b∈fp)(e:h.get? b=some o):(b,o)∈mH fp h:=Zt.mpr ⟨b,hb,by rw[e];rfl⟩
theorem Dv(hp:p∈mH fp h):p.1∈fp/\h.get? p.1=some p.2:=by
 obtain⟨b,hb,e⟩:=Zt.mp hp;cases q:h.get? b with
 |none=>rw[q]at e;cases e
 | some o=>
  rw[q]at e;have e':(b,o)=p:=Rf e;subst e';exact⟨hb,q⟩
theorem Inv.pinned{pins:List (Addr×Obj)}{σ:St}{H:Hp}{s:Shared}{fp:Zx}(I:Inv X pins σ H s)(hf:∀b∈fp,cX X pins H b)(ho:∀b∈fp,∃o,s.heap.get? b=some o/\∀v,o.data≠.cell v):Inv X (pins++mH fp s.heap) σ H s:=
 I.Bq λp hp=>(M0.mp hp).elim (λz=>I.pin p (GT _ z)) λz=>by
  obtain⟨hb,e⟩:=Dv z;obtain⟨f0,f1,f2,_⟩:=hf p.1 hb;obtain⟨o,e',d⟩:=ho p.1 hb;rw[e]at e';cases e';exact⟨e,f0,f1,f2,d⟩
theorem Inv.sR{pins pl:List (Addr×Obj)}{σ:St}{H:Hp}{s:Shared}(I:Inv X (pins++pl) σ H s):Inv X pins σ H s:=I.Bq λp hp=>I.pin p (GT _ (Ox _ hp))
theorem Fq(hp:PassesOwn (model X.prog X.w) X.A X.env X.xe)(hc:X.calm=true)(hi:PI X tg iter wi)(hg:PG X tg g)(hb:cH X body tb)
  (hs:∀x,foldedSetIterable iter X.env x=pure x:=by intro _;rfl):PS X (.For tg iter body [] pos) (Li wi g tb):=by
 intro pins s σ H D I h;refine wpAny_For (aW (hi pins s σ H _ I h) λv s1 h1=>aW h1 λVu s2 h2=>?_) hs;obtain⟨it,fp,tn,J,H2,e,I2,T,Qg,f2,W,⟨m0,w0⟩,turn⟩:=h2;subst e;have RR:∀ {H':Hp},(∀b∈fp,H' b=none)->∀b∈fp,cX X pins H' b:=λhn b hb=>⟨hn b hb,(f2 b hb).2⟩;refine codeAny_forLoop_any (λn s'=>∃i NF H',Inv X pins NF H' s'/\tn i s'.heap/\(∀b∈fp,H' b=none)/\W i n NF H') ?_ m0 ⟨0,σ,H2,I2,Qg,λb hb=>(f2 b hb).1,w0⟩;rintro n s3 ⟨i,Rn,H3,I3,VE,Wc,w3⟩;rcases turn i n Rn H3 w3 with⟨stop,qn⟩|⟨go,N,hN,step⟩
 ·refine aaL hp (aW (T.done X rfl rfl rfl hc i pins s3 Rn H3 X.xe I3 (RR Wc) VE stop) λr s4 ⟨hr,I4⟩=>?_)
  subst hr;exact abN ⟨Rn,H3,I4,qn⟩
 ·refine aaL hp (aW (T.item X rfl rfl rfl hc i pins s3 Rn H3 X.xe I3 (RR Wc) VE go) λr s4 ⟨u,hr,h4⟩=>?_)
  subst hr;refine aaL hp (aW h4 λ_ s5 ⟨x,H5,I5,r5,y5,Sg,UL⟩=>?_);have U':=I5.pinned (RR UL) (T.obj _ _ Sg);refine aaL hp (aW (hg _ s5 Rn H5 x u _ U' r5 (step x H5 y5)) λ_ s6 ⟨Qr,H6,I6,q6⟩=>?_);refine aaL hp (aW (hb _ s6 Qr H6 _ I6 q6) λf s7 q7=>?_)
  have again:∀ {QI:St} {H7:Hp},Inv X (pins++mH fp s5.heap) QI H7 s7->N QI H7->∃m,m<n/\∃i NF H',Inv X pins NF H' s7/\tn i s7.heap/\(∀b∈fp,H' b=none)/\W i m NF H':=λ{QI H7} I7 n7=>by
   obtain⟨m',hm,w7⟩:=hN QI H7 n7;refine⟨m',hm,i+1,QI,H7,I7.sR,T.keep _ _ _ Sg λb hb o e=>(I7.pin (b,o) (GT _ (GT _ (sY hb e)))).1,λb hb=>?_,w7⟩;obtain⟨o,e,d⟩:=T.obj _ _ Sg b hb;exact(I7.pin (b,o) (GT _ (GT _ (sY hb e)))).2.1
  cases f with
  |next=>obtain⟨QI,H7,I7,n7⟩:=q7;exact again I7 n7
  |cont=>obtain⟨QI,H7,I7,n7⟩:=q7;exact again I7 n7
  |brk=>obtain⟨QI,H7,I7,q7⟩:=q7;exact⟨QI,H7,I7.sR,q7⟩
  |ret v=>obtain⟨x7,QI,H7,I7,r7,q7⟩:=q7;exact⟨x7,QI,H7,I7.sR,r7,q7⟩
noncomputable abbrev R2:=V->V->Hp->VK->Prop
def bA(X:Cx)(f:Value->Value->Sem Value)(r:R2):Prop:=
 ∀(pins:List (Addr×Obj)) (s:Shared) (σ:St) (H:Hp) (x y:V) (v u:Value) (Q:VK),Inv X pins σ H s->RelV x v->RelV y u->r x y H Q->
  wpAny (model X.prog X.w) X.A (f v u) (EP X pins σ Q) X.xe s
def dJ(X:Cx)(f:Value->Sem Value)(r:V->Hp->VK->Prop):Prop:=
 ∀(pins:List (Addr×Obj)) (s:Shared) (σ:St) (H:Hp) (x:V) (v:Value) (Q:VK),Inv X pins σ H s->RelV x v->r x H Q->
  wpAny (model X.prog X.w) X.A (f v) (EP X pins σ Q) X.xe s
def cj(X:Cx)(f:Value)(r:List V->Hp->VK->Prop):Prop:=
 ∀(pins:List (Addr×Obj)) (s:Shared) (σ:St) (H:Hp) (xs:List V) (us:acQ) (Q:VK),Inv X pins σ H s->Vals xs us->r xs H Q->
  wpAny (model X.prog X.w) X.A (call f us) (EP X pins σ Q) X.xe s
def LK(X:Cx)(r:V->Hp->(Bool->Hp->Prop)->Prop):Prop:=
 ∀(pins:List (Addr×Obj)) (s:Shared) (σ:St) (H:Hp) (x:V) (v:Value) (Q:Bool->Hp->Prop),Inv X pins σ H s->RelV x v->r x H Q->
  wpAny (model X.prog X.w) X.A (truthy v) (TP X pins σ Q) X.xe s
def nh(r:R2)(ta tb:TE):TE:=λσ H Q=>ta σ H λx H1=>tb σ H1 λy H2=>r x y H2 Q
def Ai(r:V->Hp->VK->Prop)(ta:TE):TE:=λσ H Q=>ta σ H λx H1=>r x H1 Q
def rI(C:Int->Int->Prop)(g:Int->Int->V):R2:=λx y H Q=>∃i j,x=.int i/\y=.int j/\C i j/\Q (g i j) H
def gc(g:Int->Int->V):R2:=λx y H Q=>∃i j,x=.int i/\y=.int j/\Q (g i j) H
def rU(g:Int->V):V->Hp->VK->Prop:=λx H Q=>∃i,x=.int i/\Q (g i) H
variable{a:Expr}{b:Expr}{c:Expr}{ta:TE}{tb:TE}{tc:TE}{pos:Pos}
theorem vw(ha:PE X a ta)(hb:PE X b tb){pins:List (Addr×Obj)}{s:Shared}{σ:St}{H:Hp}{R:V->V->Hp->Prop}(I:Inv X pins σ H s)
  (h:ta σ H λx H1=>tb σ H1 λy H2=>R x y H2) {Q:Value->Shared->Prop} {f:Value->Value->Sem Value}
  (hf:∀v u s2 x y H2,Inv X pins σ H2 s2->RelV x v->RelV y u->R x y H2->wpAny (model X.prog X.w) X.A (f v u) Q X.xe s2):
  wpAny (model X.prog X.w) X.A (eval a X.env) (λv B'=>wpAny (model X.prog X.w) X.A (eval b X.env) (λu O6=>wpAny (model X.prog X.w) X.A (f v u) Q X.xe O6) X.xe B') X.xe s:=by
 refine aW (ha pins s σ H _ I h) λv s1 ⟨x,H1,I1,r1,q1⟩=>?_;refine aW (hb pins s1 σ H1 _ I1 q1) λu s2 ⟨y,H2,I2,r2,q2⟩=>?_;exact hf v u s2 x y H2 I2 r1 r2 q2
theorem EC{op:Operator}{r:R2}(ho:bA X (binaryOp op) r)(ha:PE X a ta)(hb:PE X b tb):PE X (.BinOp a op b pos) (nh r ta tb):=by
 intro pins s σ H Q I h;exact wpAny_BinOp (vw ha hb I h λv u s2 x y H2 I2 rx ry q=>ho pins s2 σ H2 x y v u Q I2 rx ry q)
theorem JV(ho:dJ X (unaryOp op) r)(ha:PE X a ta):PE X (.UnaryOp op a pos) (Ai r ta):=by
 intro pins s σ H Q I h;exact UnaryOp_ (aW (ha pins s σ H _ I h) λv s1=>by rintro⟨x,H1,I1,r1,q1⟩;exact ho pins s1 σ H1 x v Q I1 r1 q1)
theorem rA{f:Value->Value->Sem Value}{C:Int->Int->Prop}{g:Int->Int->Int}
  (rule:∀(i j:Int) (t u:Tok) (s:Shared) (Q:Value->Shared->Prop) (E:Value->Shared->Prop),C i j->Q (.int (g i j) s.toks) {s with toks:=s.toks+1}->wpAny (model X.prog X.w) X.A (f (.int i t) (.int j u)) Q E s):
  bA X f (rI C λi j=>.int (g i j)):=by
 intro pins s σ H x y v u Q I rx ry h;obtain⟨i,j,rfl,rfl,hc,q⟩:=h;obtain⟨t,rfl⟩:=rx;obtain⟨t',rfl⟩:=ry;exact rule i j t t' s _ _ hc ⟨.int (g i j),H,I.tok _,⟨_,rfl⟩,q⟩
theorem C7{f:Value->Value->Sem Value}{g:Int->Int->Int}
  (rule:∀(i j:Int) (t u:Tok) (s:Shared) (Q:Value->Shared->Prop) (E:Value->Shared->Prop),Q (.int (g i j) s.toks) {s with toks:=s.toks+1}->wpAny (model X.prog X.w) X.A (f (.int i t) (.int j u)) Q E s):
  bA X f (gc λi j=>.int (g i j)):=by
 intro pins s σ H x y v u Q I rx ry h;obtain⟨i,j,rfl,rfl,q⟩:=h;obtain⟨t,rfl⟩:=rx;obtain⟨t',rfl⟩:=ry;exact rule i j t t' s _ _ ⟨.int (g i j),H,I.tok _,⟨_,rfl⟩,q⟩
theorem sI{f:Value->Value->Sem Value}{g:Int->Int->Bool}
  (rule:∀(i j:Int) (t u:Tok) (s:Shared) (Q:Value->Shared->Prop) (E:Value->Shared->Prop),Q (.bool (g i j)) s->wpAny (model X.prog X.w) X.A (f (.int i t) (.int j u)) Q E s):
  bA X f (gc λi j=>.bl (g i j)):=by
 intro pins s σ H x y v u Q I rx ry h;obtain⟨i,j,rfl,rfl,q⟩:=h;obtain⟨t,rfl⟩:=rx;obtain⟨t',rfl⟩:=ry;exact rule i j t t' s _ _ ⟨.bl (g i j),H,I,rfl,q⟩
def CO(i j:Int):Prop:=0<=j/\j<=1000000/\i.natAbs<2 ^ 64
def sT(i j:Int):Prop:=(-(2 ^ 64)<i/\i<2 ^ 64)\/(-(2 ^ 64)<j/\j<2 ^ 64)
theorem sT.ok{i j:Int}(h:sT i j):IntMulOk i j:=by
 rcases h with⟨h1,h2⟩|⟨h1,h2⟩
 ·exact .of_left (intBits_le_64 h1 h2)
 ·exact .of_right (intBits_le_64 h1 h2)
theorem bI:bA X (binaryOp .Add) (gc λi j=>.int (i+j)):=C7 λ_ _ _ _ _ _ _ q=>add_int q
theorem sW:bA X (binaryOp .Sub) (gc λi j=>.int (i - j)):=C7 λ_ _ _ _ _ _ _ q=>sub_int q
theorem cI:bA X (binaryOp .Mult) (rI sT λi j=>.int (i*j)):=rA λ_ _ _ _ _ _ _ hc q=>mul_int q hc.ok
theorem bF:bA X (binaryOp .Mod) (rI (λ_ j=>0<j) λi j=>.int (i % j)):=rA λi j _ _ _ _ _ hc q=>by
 have h1:(0:Int)<j:=hc;exact mod_int' (by omega) (by rw[Int.fmod_eq_emod_of_nonneg i (by omega)];exact q)
theorem de:bA X (binaryOp .Pow) (rI CO λi j=>.int (i ^ j.toNat)):=rA λ_ _ _ _ _ _ _ hc q=>pow_int_small hc.1 hc.2.1 hc.2.2 q
theorem Kv{f:Value->Sem Value}{g:Int->Int}
  (rule:∀(i:Int) (t:Tok) (s:Shared) (Q:Value->Shared->Prop) (E:Value->Shared->Prop),Q (.int (g i) s.toks) {s with toks:=s.toks+1}->wpAny (model X.prog X.w) X.A (f (.int i t)) Q E s):
  dJ X f (rU λi=>.int (g i)):=by
 intro pins s σ H x v Q I rx h;obtain⟨i,rfl,q⟩:=h;obtain⟨t,rfl⟩:=rx;exact rule i t s _ _ ⟨.int (g i),H,I.tok _,⟨_,rfl⟩,q⟩
theorem FW:dJ X (unaryOp .USub) (rU λi=>.int (-i)):=Kv λ_ _ _ _ _ q=>neg_int q
theorem nB:bA X (compareOp .Lt) (gc λi j=>.bl (decide (i<j))):=sI λ_ _ _ _ _ _ _ q=>lt_int q
theorem Cd:bA X (compareOp .LtE) (gc λi j=>.bl (decide (i<=j))):=sI λ_ _ _ _ _ _ _ q=>le_int q
theorem uh:bA X (compareOp .Gt) (gc λi j=>.bl (decide (j<i))):=sI λ_ _ _ _ _ _ _ q=>gt_int q
theorem C2:bA X (compareOp .GtE) (gc λi j=>.bl (decide (j<=i))):=sI λ_ _ _ _ _ _ _ q=>ge_int q
theorem bA.or(h:bA X f r)(h':bA X f r'):bA X f (λx y H Q=>r x y H Q\/r' x y H Q):=by
 intro pins s σ H x y v u Q I rx ry q;rcases q with q|q
 ·exact h pins s σ H x y v u Q I rx ry q
 ·exact h' pins s σ H x y v u Q I rx ry q
theorem yP(b:Expr)(h:op≠.In:=by decide)(h2:op≠.NotIn:=by decide):behindInMarks op b=false:=by
 have e1:(op==CmpOp.In)=false:=by cases op<;>first|rfl|exact absurd rfl h
 have e2:(op==CmpOp.NotIn)=false:=by cases op<;>first|rfl|exact absurd rfl h2
 cases b<;>simp[behindInMarks,e1,e2]
theorem L1{op:CmpOp}{r:R2}(ho:bA X (compareOp op) r)(ha:PE X a ta)(hb:PE X b tb)(hm:behindInMarks op b=false):PE X (.Compare a [op] [b] pos) (nh r ta tb):=by
 intro pins s σ H Q I h;exact wpAny_Compare1 (vw ha hb I h λv u s2 x y H2 I2 rx ry q=>ho pins s2 σ H2 x y v u Q I2 rx ry q) hm
def GD(t:TE):TT:=λσ H Q=>t σ H λx H'=>∃k,x=.bl k/\Q k H'
theorem Km(ho:bA X (compareOp op) r)(ha:PE X a ta)(hb:PE X b tb)(hm:behindInMarks op b=false):PT X (.Compare a [op] [b] pos) (GD (nh r ta tb)):=by
 intro pins s σ H Q I h
 refine acB (aW (ha pins s σ H _ I h) λv s1 ⟨x,H1,I1,r1,q1⟩=>aW (hb pins s1 σ H1 _ I1 q1) λu s2 ⟨y,H2,I2,r2,q2⟩=>
  aW (ho pins s2 σ H2 x y v u _ I2 r1 r2 q2) λc s3 ⟨z,H3,I3,r3,k,e,q3⟩=>?_) hm
 subst e;cases r3;exact ZZ ⟨H3,I3,q3⟩
def HJ(r r':R2)(ta tb tc:TE):TE:=λσ H Q=>ta σ H λx H1=>tb σ H1 λy H2=>r x y H2 λz H3=>∃k,z=.bl k/\
 (if k=true then tc σ H3 λw' H4=>r' y w' H4 Q else Q (.bl false) H3)
theorem Eo(ho:bA X (compareOp op) r)(Pz:bA X (compareOp op') r')(ha:PE X a ta)(hb:PE X b tb)(hc:PE X c tc)
  (hm:lastMarks [op,op'] [b,c]=false:=by with_unfolding_all rfl):PE X (.Compare a [op,op'] [b,c] pos) (HJ r r' ta tb tc):=by
 intro pins s σ H Q I h
 refine Compare_chain (aW (ha pins s σ H _ I h) λv s1 ⟨x,H1,I1,r1,q1⟩=>chain_link (aW (hb pins s1 σ H1 _ I1 q1) λu s2 ⟨y,H2,I2,r2,q2⟩=>
  aW (ho pins s2 σ H2 x y v u _ I2 r1 r2 q2) λd s3 ⟨z,H3,I3,r3,k,e,q3⟩=>?_)) hm
 subst e;cases r3;refine ZZ ?_;cases k with
 |false=>exact ite_ff ⟨.bl false,H3,I3,rfl,q3⟩
 |true=>exact ite_tt (chain_last (aW (hc pins s3 σ H3 _ I3 q3) λw' s4=>by rintro⟨z',H4,I4,r4,q4⟩;exact Pz pins s4 σ H4 y z' u w' Q I4 r2 r4 q4))
def t8(K:PySem.W.Frag)(x:V)(H:Hp)(k:Bool):Prop:=
 match x with
 |.aE=>k=false
 |.bl b=>k=b
 |.int i=>k=(i != 0)
 |.str y=>y.length<=sizeLine/\k=((y.length:Int) != 0)
 |.lW y=>y.size<=sizeLine/\k=((y.size:Int) != 0)
 |.ref p=>(∃xs,bP K H p xs/\k= !xs.isEmpty)\/(∃xs,bW K H p xs/\k= !xs.isEmpty)\/∃j',H p=some (.dK j')/\k= !j'.isEmpty
 |_=>False
theorem Ht{κ:Type}{j':List (κ×V)}{vs:List (κ×Value)}(r:KV j' vs):(!vs.isEmpty)= !j'.isEmpty:=by
 cases r<;>rfl
theorem z7{xs:List V}{aq:acQ}(r:Vals xs aq):(!aq.toArray.isEmpty)= !xs.isEmpty:=by
 cases r<;>simp
theorem ko:(sizeLine:Nat)<2 ^ 63:=by rw[aad];decide
theorem Mn:LK X (λx H Q=>∃k,t8 X.K x H k/\Q k H):=by
 intro pins s σ H x v Q I rx h;obtain⟨k,e,q⟩:=h;have hl:=ko;have hs:sizeLine=16777216:=aad;cases x with
 | aE=>
  cases rx;have e':k=false:=e;subst e';exact truthy_none ⟨H,I,q⟩
 | bl b=>
  cases rx;have e':k=b:=e;subst e';exact ZZ ⟨H,I,q⟩
 | int i=>
  obtain⟨t,rfl⟩:=rx;have e':k=(i != 0):=e;subst e';exact PySem.P.truthy_int ⟨H,I,q⟩
 | str y=>
  obtain⟨t,rfl⟩:=rx;obtain⟨hy,e'⟩:y.length<=sizeLine/\k=((y.length:Int) != 0):=e;subst e';exact PySem.P.truthy_str (by omega) ⟨H,I.tok _,q⟩
 | lW y=>
  obtain⟨t,rfl⟩:=rx;obtain⟨hy,e'⟩:y.size<=sizeLine/\k=((y.size:Int) != 0):=e;subst e';exact PySem.W.truthy_bytes (by omega) ⟨H,I.tok _,q⟩
 | ref p=>
  cases rx;have e':(∃xs,bP X.K H p xs/\k= !xs.isEmpty)\/(∃xs,bW X.K H p xs/\k= !xs.isEmpty)\/∃j',H p=some (.dK j')/\k= !j'.isEmpty:=e;rcases e' with⟨xs,hx,e'⟩|⟨xs,hx,e'⟩|⟨j',hx,e'⟩
  ·subst e'
   obtain⟨aq,r,pl,hz⟩:=I.list hx;have hlen:=r.length;exact wpAny_truthy_list pl.isList (by simp only[IR];omega) ⟨H,I.tok _,by rw[z7 r];exact q⟩
  ·subst e'
   obtain⟨aq,r,pl,hz⟩:=I.tuple hx;have hlen:=r.length;exact truthy_tuple pl (by simp only[IR];omega) ⟨H,I.tok _,by rw[z7 r];exact q⟩
  ·subst e'
   obtain⟨hz,hS,vs,r,m⟩:j'.length<=sizeLine/\(p==sysModules)=false/\∃vs,KV j' vs/\s.heap.DictOf (cK X.prog X.w) p vs:=I.aQ p _ hx;have hlen:j'.length=vs.length:=abu r;exact wpAny_truthy_dict hS m (by omega) ⟨H,I.tok _,by rw[Ht r];exact q⟩
 |_=>exact(show False from e).elim
theorem JZ(ha:PE X a ta)(he:∀whole,isTrue a X.env whole=(do let v <-whole;standAt a.pos;holding [v] (truthy v))):
  PT X a (λσ H Q=>ta σ H λx H'=>∃k,t8 X.K x H' k/\Q k H'):=by
 intro pins s σ H Q I h;exact isTrue_plain (aW (ha pins s σ H _ I h) λv s1=>by rintro⟨x,H1,I1,r1,q1⟩;exact Mn pins s1 σ H1 x v Q I1 r1 q1) (he _)
theorem Hz:bA X (binaryOp .Add) (λx y H Q=>∃i j,x=.str i/\y=.str j/\i.length+j.length<=sizeLine/\Q (.str (i++j)) H):=by
 intro pins s σ H x y v u Q I rx ry h;obtain⟨i,j,rfl,rfl,hz,q⟩:=h;obtain⟨t,rfl⟩:=rx;obtain⟨t',rfl⟩:=ry;exact add_str (λt' tk=>⟨.str (i++j),H,I.tok _,⟨_,rfl⟩,q⟩) hz
theorem vals1(r:Vals [x] us):∃u,us=[u]/\RelV x u:=by
 cases r with
 |cons r1 r2=>cases r2;exact⟨_,rfl,r1⟩
theorem vals2(r:Vals [x,y] us):∃u w',us=[u,w']/\RelV x u/\RelV y w':=by
 cases r with
 | cons r1 r2=>
  cases r2 with
  |cons r3 r4=>cases r4;exact⟨_,_,rfl,r1,r3⟩
theorem Hi(hc:X.calm=true):cj X (.builtin "min") (λxs H Q=>∃i j,xs=[.int i,.int j]/\Q (.int (if j<i then j else i)) H):=by
 intro pins s σ H xs us Q I r h;obtain⟨i,j,rfl,q⟩:=h;obtain⟨u,w',rfl,⟨t,rfl⟩,⟨t',rfl⟩⟩:=vals2 r;refine min_two_ints (I.ok.hd hc) λh' tk k=>⟨_,H,I.kept k,?_,q⟩;by_cases hj:j<i
 ·rw[AC hj,AC hj];exact⟨_,rfl⟩
 ·rw[DF hj,DF hj];exact⟨_,rfl⟩
theorem mf:cj X (.type "int") (λxs H Q=>(∃i,xs=[.int i]/\Q (.int i) H)\/∃k,xs=[.bl k]/\Q (.int (if k then 1 else 0)) H):=by
 intro pins s σ H xs us Q I r h;rcases h with⟨i,rfl,q⟩|⟨k,rfl,q⟩
 ·obtain⟨u,rfl,t,rfl⟩:=vals1 r
  exact call_int_int ⟨.int i,H,I,⟨_,rfl⟩,q⟩
 ·obtain⟨u,rfl,r1⟩:=vals1 r
  cases r1;exact call_int_bool ⟨.int (if k then 1 else 0),H,I.tok _,⟨_,rfl⟩,q⟩
end
theorem gA.some_of(r:gA (some v) o):∃u,o=some u/\RelV v u:=by
 cases o with
 |none=>exact(show False from r).elim
 |some u=>exact⟨u,rfl,r⟩
theorem gA.none_of(r:gA none o):o=none:=by
 cases o with
 |none=>rfl
 |some u=>exact(show False from r).elim
structure cz(k:Nat)(A:Around):Prop where
 hd:A.handled=none
 dp:A.depth+3*k+5<recursionLimit
 un:A.units+16*k+200<cLine
theorem cz.mono(r:cz k A)(h:j<=k):cz j A:=⟨r.hd,by have:=r.dp;omega,by have:=r.un;omega⟩
theorem cz.deeper(r:cz (k+1) A)(env:Env):cz k (A.deeper env):=
 ⟨r.hd,by have:=r.dp;show A.depth+1+3*k+5<_;omega,by have:=r.un;show A.units+3+16*k+200<_;omega⟩
theorem cz.depth(r:cz k A):A.depth<recursionLimit:=by have:=r.dp;omega
theorem cz.units(r:cz k A):A.units+64<cLine:=by have:=r.un;omega
def C5:TA:=λ_ H Q=>Q [] H
def Af(ta:TE)(tr:TA):TA:=λσ H Q=>ta σ H λx H1=>tr σ H1 λxs H2=>Q (x::xs) H2
section
variable{X:Cx}{e:Expr}{es:acP}{te:TE}{t:TA}{pos:Pos}
theorem jj:PA X [] C5:=λ_ _ _ _ H Q I h=>aaD ⟨[],H,I,.nil,h⟩
theorem gp(ha:PE X e te)(hr:PA X es t)(hs:starEach (e::es) X.env=(false,eval e X.env)::starEach es X.env:=by rfl):PA X (e::es) (Af te t):=by
 intro pos pins s σ H Q I h;rw[hs];show wpAny _ _ (spliced ((false,eval e X.env)::backTo pos (starEach es X.env))) _ _ s;refine aav (aW (ha pins s σ H _ I h) λu s1 ⟨x,H1,I1,r1,q1⟩=>?_);exact aW (hr pos pins s1 σ H1 _ I1 q1) λus s2=>by rintro⟨xs,H2,I2,r2,q2⟩;exact ⟨x::xs,H2,I2,.cons r1 r2,q2⟩
def Lj(t:TA):TE:=λσ H Q=>t σ H λxs H1=>xs.length<=sizeLine/\∀p,H1 p=none->Q (.ref p) (upd H1 p (.tup xs))
def Di(t:TA):TE:=λσ H Q=>t σ H λxs H1=>xs.length<=sizeLine/\∀p,H1 p=none->Q (.ref p) (upd H1 p (.lst xs))
theorem u7{x1}(h:PA X es t):PE X (.Tuple es x1 pos) (Lj t):=by
 intro pins s σ H Q I hq;refine wpAny_Tuple_spliced (aW (h pos pins s σ H _ I hq) λus s1 ⟨xs,H1,I1,r,z,q⟩=>⟨by rw[<-r.length];exact z,?_⟩)
 have hf:H1 s1.heap.objs.size=none:=I1.aQ.fresh (Gc _);refine⟨.ref s1.heap.objs.size,upd H1 s1.heap.objs.size (.tup xs),I1.laid (t':=s1.toks) (λb u e=>mB _ e) (Gc _) ?_,rfl,q _ hf⟩;exact⟨z,us,r,⟨_,JU _ rfl,rfl,_,rfl⟩⟩
theorem u5(h:PA X es t):PE X (.List es pos) (Di t):=by
 intro pins s σ H Q I hq;refine wpAny_List_spliced (aW (h pos pins s σ H _ I hq) λus s1 ⟨xs,H1,I1,r,z,q⟩=>⟨by rw[<-r.length];exact z,?_⟩)
 have hf:H1 s1.heap.objs.size=none:=I1.aQ.fresh (Gc _);refine⟨.ref s1.heap.objs.size,upd H1 s1.heap.objs.size (.lst xs),I1.laid (t':=s1.toks) (λb u e=>mB _ e) (Gc _) ?_,rfl,q _ hf⟩;exact⟨z,us,0,r,JU _ rfl⟩
end
noncomputable abbrev Sp:=List V->Hp->VK->XK->Prop
noncomputable abbrev ij:=List Env->Hp->Shared->XK->Value->Shared->Prop
structure jA(P:Program)(w:World)(K:PySem.W.Frag)(mg:Str->acR)(base:Heap)(A:Around)(outer:List Env)(s:Shared)(H:Hp):Prop where
 frames:A.frames=some outer
 mod:Mod K mg base
 bs:∀b o,base.get? b=some o->s.heap.get? b=some o/\H b=none
 gN:base.objs.size<=s.heap.objs.size
 fS:s.heap.FunFrames base outer
 iF:∀b∈eZ outer,H b=none
 aQ:cg P w H s.heap
 bare:AllBare s.gens
 tb:∀b,ff base b->H b=some (.bM none)
def CE(outer:List Env)(P:Program)(w:World)(H:Hp)(s:Shared)(Q:VK)(u:Value)(s':Shared):Prop:=
 ∃v H',s'.os=s.os/\AllBare s'.gens/\Un (eZ outer) [] H H' s.heap s'.heap/\cg P w H' s'.heap/\RelV v u/\Q v H'
def CR(CX:ij)(outer:List Env)(P:Program)(w:World)(H:Hp)(s:Shared)(Q:VK)(E:XK)(r:Result)(s':Shared):Prop:=
 match r with
 |.ok (.ret u)=>CE outer P w H s Q u s'
 |.ok _=>False
 |.error e=>CX outer H s E e s'
structure fE(P:Program)(w:World)(K:PySem.W.Frag)(mg:Str->acR)(base:Heap)(CX:ij)(k:Nat)(f:Addr)(fd:FuncData)(ps:List Str)(sp:Sp):Prop where
 len:∀vs H Q E,sp vs H Q E->vs.length=ps.length
 run:∀(A:Around) (outer:List Env) (s:Shared) (H:Hp) (args:Args) (us:acQ) (vs:List V) (Q:VK) (E:XK),cz k A->jA P w K mg base A outer s H->BindsTo s fd args (ps.zip us)->Vals vs us->sp vs H Q E->
  codeAny (model P w) A (.call (.ref f) args) (CR CX outer P w H s Q E) s
section
variable{X:Cx}{pins:List (Addr×Obj)}{σ:St}{H:Hp}{s s':Shared}
theorem Inv.xW(I:Inv X pins σ H s):jA X.prog X.w X.K X.mg X.base X.A X.stack s H:=
 ⟨I.ok.frames,I.ok.mod,I.bs,Re I.ok.gN I.sz,I.stack,I.AJ,I.aQ,I.bare,I.tb⟩
theorem Inv.after(I:Inv X pins σ H s)(h:CE X.stack X.prog X.w H s Q u s'):EP X pins σ Q u s':=by
 obtain⟨v,H',os,bare,un,aQ,r,q⟩:=h;obtain⟨hh,g,d,t,YJ⟩:=s';obtain rfl:YJ=s.os:=os;exact⟨v,H',I.call (h':=hh) (g':=g) (d':=d) (t':=t) (ch:=[]) un aQ bare (λb z=>absurd z (by simp)),r,q⟩
end
def qd(sp:Sp)(QY:List V)(E:XK)(t:TA):TE:=λσ H Q=>t σ H λvs H1=>sp (vs++QY) H1 Q E
def Binds(K:PySem.W.Frag)(fd:FuncData)(ps:List Str)(ds:acQ):Prop:=
 ∀(s:Shared) (us:acQ),K.In s.heap->(us++ds).length=ps.length->BindsTo s fd ⟨us,[]⟩ (ps.zip (us++ds))
theorem Binds.all{K:PySem.W.Frag}{fd:FuncData}{ps:List Str}(h:∀us:acQ,us.length=ps.length->bindArgs fd ⟨us,[]⟩=pure (ps.zip us)):Binds K fd ps []:=λs us _ hl=>by
 rw[ZU]at hl ⊢;exact .of_eq (h us hl)
def Passes(CX:ij)(X:Cx)(E:XK):Prop:=∀(pins:List (Addr×Obj)) (σ:St) (H:Hp) (s:Shared) (e:Value) (s':Shared),Inv X pins σ H s->CX X.stack H s E e s'->X.xe e s'
section
variable{X:Cx}{CX:ij}{k:Nat}{f C:Addr}{fd:FuncData}{ps:List Str}{sp:Sp}{QY:List V}{ds:acQ}{E:XK}{x m:Str}{p pos apos:Pos}{e o:Expr}{es:acP}{ta:TE}{t:TA}
theorem yq(F:fE X.prog X.w X.K X.mg X.base CX k f fd ps sp)(hr:cz k X.A)(hb:Binds X.K fd ps ds)(hd:Vals QY ds)(hx:Passes CX X E)
  (I:Inv X pins σ H s) (r:Vals vs us) (h:sp (vs++QY) H Q E):wpAny (model X.prog X.w) X.A (call (.ref f) us) (EP X pins σ Q) X.xe s:=by
 have r2:Vals (vs++QY) (us++ds):=r.append hd;have hl:(us++ds).length=ps.length:=by rw[<-r2.length];exact F.len _ _ _ _ h
 refine wpAny_call (aaP (F.run X.A X.stack s H ⟨us,[]⟩ (us++ds) (vs++QY) Q E hr I.xW (hb s us I.da hl) r2 h) λr s' hq=>?_);cases r with
 |error e=>exact hx pins σ H s e s' I hq
 | ok fl=>
  cases fl with
  |ret u=>exact I.after hq
  |next=>exact False.elim hq
  |brk=>exact False.elim hq
  |cont=>exact False.elim hq
theorem B4(F:fE X.prog X.w X.K X.mg X.base CX k f fd ps sp)(hr:cz k X.A)(hg:Gl X x)(hm:X.mg x=some (.ref f))(hk:PySem.W.keepIn X.K (.ref f)=true)(hb:Binds X.K fd ps ds)(hd:Vals QY ds)(hx:Passes CX X E)
  (ha:PA X (e::es) t) (O8:gV x:=by decide) (he:starEach (e::es) X.env=(false,eval e X.env)::starEach es X.env:=by rfl) (QD:(backTo pos (starEach es X.env)).any (·.1)=false:=by rfl):
  PE X (.Call (.Name x p) (e::es) [] pos) (qd sp QY E t):=by
 intro pins s σ H Q I h;refine aae (se I hg hm ?_ O8);refine acb (h₀:=X.base) I.ok.mod.mJ hk (aW (ha pos pins s σ H _ I h) λus s1 ⟨vs,H1,I1,r,q⟩=>⟨I1.da,?_⟩) he QD;exact yq F hr hb hd hx I1 r q
theorem K5(F:fE X.prog X.w X.K X.mg X.base CX k f fd ps sp)(hr:cz k X.A)(hg:Gl X x)(hm:X.mg x=some (.ref f))(hk:PySem.W.keepIn X.K (.ref f)=true)(hb:Binds X.K fd ps ds)(hd:Vals QY ds)(hx:Passes CX X E)
  (O8:gV x:=by decide):PE X (.Call (.Name x p) [] [] pos) (qd sp QY E C5):=by
 intro pins s σ H Q I h;refine aae (se I hg hm ?_ O8);exact PySem.W.callWith_K0 I.da hk (yq (us:=[]) F hr hb hd hx I .nil h)
end
structure bD(N P:List Str)(sc:Scope):Prop where
 kind:sc.kind=.function
 co:sc.isCoroutine=false
 gen:sc.isGenerator=false
 nd:N.Nodup
 pre:N.take P.length=P
 par:∀x∈P,sc.names.lookup x=some .local\/sc.names.lookup x=some .cell
 G5:∀y∈sc.names,y.2≠.free
theorem zu{kindOf:Str->Option NameKind}{x:Str}:∀ {binds:List (Str×Value)} {m:Str->acR},(∀v,(x,v)∉binds)->bindL kindOf binds m x=m x
 |[],_,_=>rfl
 | (n,v)::r,m,h=>by
  unfold bindL;rw[zu λw hw=>h w (Do _ hw)];split
  ·have:x≠n:=by rintro rfl;exact h v FB
   simp[this]
  ·rfl
theorem CM{kindOf:Str->Option NameKind}{x:Str}:∀ {binds:List (Str×Value)} {m:Str->acR},(∀v,(x,v)∉binds)->bindC kindOf binds m x=m x
 |[],_,_=>rfl
 | (n,v)::r,m,h=>by
  unfold bindC;rw[CM λw hw=>h w (Do _ hw)];split
  ·rfl
  ·have:x≠n:=by rintro rfl;exact h v FB
   simp[this]
theorem BA{kindOf:Str->Option NameKind}{x:Str}{v:Value}:∀ {P:List Str} {vs:acQ} {i:Nat} {m:Str->acR},P.Nodup->P[i]? =some x->vs[i]? =some v->kindOf x=some .local->
  bindL kindOf (P.zip vs) m x=some v
 |[],_,_,_,_,h,_,_=>by simp at h
 |_::_,[],_,_,_,_,h,_=>by simp at h
 | p::P,w::vs,0,m,nd,h1,h2,hk=>by
  simp at h1 h2;subst h1;subst h2;show bindL kindOf ((p,w)::P.zip vs) m p=_;unfold bindL;rw[zu λv hv=>(MG.mp nd).1 (aam hv).1,AC hk];simp
 | p::P,w::vs,i+1,m,nd,h1,h2,hk=>by
  show bindL kindOf ((p,w)::P.zip vs) m x=_;unfold bindL;exact BA (i:=i) (MG.mp nd).2 (by simpa using h1) (by simpa using h2) hk
theorem z5{kindOf:Str->Option NameKind}{x:Str}{v:Value}:∀ {P:List Str} {vs:acQ} {i:Nat} {m:Str->acR},P.Nodup->P[i]? =some x->vs[i]? =some v->kindOf x≠some .local->
  bindC kindOf (P.zip vs) m x=some v
 |[],_,_,_,_,h,_,_=>by simp at h
 |_::_,[],_,_,_,_,h,_=>by simp at h
 | p::P,w::vs,0,m,nd,h1,h2,hk=>by
  simp at h1 h2;subst h1;subst h2;show bindC kindOf ((p,w)::P.zip vs) m p=_;unfold bindC;rw[CM λv hv=>(MG.mp nd).1 (aam hv).1,DF hk];simp
 | p::P,w::vs,i+1,m,nd,h1,h2,hk=>by
  show bindC kindOf ((p,w)::P.zip vs) m x=_;unfold bindC;exact z5 (i:=i) (MG.mp nd).2 (by simpa using h1) (by simpa using h2) hk
noncomputable def start(N:List Str)(vs:List V):St:=vs.map some++List.replicate (N.length - vs.length) none
noncomputable def gh(CX:ij)(P:Program)(w:World)(K:PySem.W.Frag)(mg:Str->acR)(base:Heap)(N:List Str)(qual:Str)(scope:Scope)(f:Addr)(cd:Value)(A:Around)(outer:List Env)(s:Shared)(H:Hp)(E:XK):Cx where
 prog:=P
 w:=w
 K:=K
 mg:=mg
 base:=base
 A:=A.deeper (envOfC qual scope s.heap.objs.size f cd)
 N:=N
 cY:=s
 kr:=H
 env:=envOfC qual scope s.heap.objs.size f cd
 outer:=outer
 stack:=envOfC qual scope s.heap.objs.size f cd::outer
 ex:=[]
 calm:=true
 fn:=λ_=>true
 pn:=[]
 xe:=λe s'=>wpAny (model P w) (A.deeper (envOfC qual scope s.heap.objs.size f cd)) (leaving (envOfC qual scope s.heap.objs.size f cd) e) (λ_ Ux=>CX outer H s E e Ux) (λe' Ux=>CX outer H s E e' Ux) s'
theorem C8{sc:Scope}{n:Nat}{x:Str}(h:sc.names.lookup x=some .cell):∃c,(cellsFrom n sc.names []).lookup x=some c:=by
 have q:=abO sc.names n [] (.inl h);exact Option.isSome_iff_exists.mp q
theorem ED{CX:ij}{P:Program}{w:World}{K:PySem.W.Frag}{mg:Str->acR}{base:Heap}{N ps:List Str}{qual:Str}{scope:Scope}{f:Addr}{cd:Value}{A:Around}{outer:List Env}{s s1:Shared}{H:Hp}{E:XK}{us:acQ}{vs:List V}
  (S:bD N ps scope) (hd:A.handled=none) (e0:jA P w K mg base A outer s H) (hl:vs.length=ps.length) (r:Vals vs us)
  (x:InCallC s s.heap.objs.size (bindL (envOfC qual scope s.heap.objs.size f cd).kindOf (ps.zip us) λ_=>none) (cellsFrom (s.heap.objs.size+1) scope.names []) (bindC (envOfC qual scope s.heap.objs.size f cd).kindOf (ps.zip us) λ_=>none) s1):
  Inv (gh CX P w K mg base N qual scope f cd A outer s H E) [] (start N vs) H s1:=by
 have QD:ps.length<=N.length:=by have:=congrArg List.length S.pre;rw[ZF]at this;omega
 obtain⟨h1,tk,rfl,hk⟩:=x.done;have Rg:∀b:Addr,b∉(gh CX P w K mg base N qual scope f cd A outer s H E).ex:=λb z=>absurd (show b∈([]:Zx)from z) (by simp)
 refine⟨⟨e0.mod,S.kind,rfl,rfl,Gc _,λy z c h1 h2=>?_,λy hy=>?_,λy c _ h=>?_,λ_=>hd,acH e0.frames,.inr ⟨rfl,rfl⟩,λb z=>absurd z (Rg b),e0.bs,e0.gN,λb _ _=>Rg b,λb z=>absurd z (Rg b),e0.fS,e0.iF,e0.tb⟩,
  rfl,e0.bare,Un.kept hk,⟨_,x.toInCall.ns,λi y v h1 h2 h3=>?_⟩,λy c h=>⟨_,x.cell y c h⟩,e0.aQ.fresh (Gc _),λy c h=>?_,λp hp=>absurd (show p∈([]:List (Addr×Obj))from hp) (by simp),e0.aQ.kept hk,?_⟩
 ·exact name_of_addr x.apart (ZR h1) (ZR h2)
 ·have hy:scope.names.lookup y=some .cell\/scope.names.lookup y=some .free:=hy
  rcases hy with hy|hy
  ·exact C8 hy
  ·exact absurd rfl (S.G5 _ (ZR hy))
 ·exact abl (x.above y c (ZR h))
 ·have hi:i<vs.length:=by
   unfold start at h2;by_cases hi:i<vs.length
   ·exact hi
   ·rw[aah (by simpa using hi)]at h2
    rw[S6]at h2;split at h2<;>cases h2
  have ha:vs[i]? =some v:=by
   unfold start at h2;rw[ZT (by simpa using hi),MC]at h2
   cases e:vs[i]? with
   |none=>rw[e]at h2;cases h2
   |some a=>rw[e]at h2;cases h2;rfl
  obtain⟨u,hu,rv⟩:=r.get ha
  have hp:ps[i]? =some y:=by
   rw[<-S.pre,List.getElem?_take_of_lt (by omega)];exact h1
  have V4:ps.Nodup:=by rw[<-S.pre];exact S.nd.sublist (List.take_sublist _ _)
  refine⟨u,rv,?_⟩;rcases S.par y (SL hp)with k|k
  ·exact .inl ⟨k,BA V4 hp hu k⟩
  ·obtain⟨c,e⟩:=C8 (n:=s.heap.objs.size+1) k
   refine .inr ⟨.inl k,c,e,?_⟩;have q:=x.cell y c e;rw[z5 V4 hp hu (by show scope.names.lookup y≠_;rw[k];decide)]at q
   exact q
 ·exact e0.aQ.fresh (abl (x.above y c (ZR h)))
 ·unfold start
  show _=N.length;rw[KM,GE,aax];omega
theorem AZ{CX:ij}{P:Program}{w:World}{K:PySem.W.Frag}{mg:Str->acR}{base:Heap}{k:Nat}{f:Addr}{name qual:Str}{params:Arguments}{body:List Stmt}{scope:Scope}{dV kV doc pm M' ct oc:Value}{an od:Option Addr}
  {Pk:Array (acR)} {N ps:List Str} {sp:Sp} (lk:K.lookup f=some ⟨oc,od,.func (PySem.W.fnOf name qual params body scope dV kV doc pm an M' ct),Pk⟩) (Oh:PySem.W.codeIn K M' qual=true) (S:bD N ps scope)
  (len:∀vs H Q E,sp vs H Q E->vs.length=ps.length)
  (PD:∀(A:Around) (outer:List Env) (s:Shared) (H:Hp) (vs:List V) (Q:VK) (E:XK),cz k (A.deeper (envOfC qual scope s.heap.objs.size f M'))->sp vs H Q E->
   ∃t,cH (gh CX P w K mg base N qual scope f M' A outer s H E) body t/\t {nx:=λ_ H'=>Q .aE H',rt:=Q} (start N vs) H):
  fE P w K mg base CX (k+1) f (PySem.W.fnOf name qual params body scope dV kV doc pm an M' ct) ps sp:=by
 refine⟨len,λA outer s H args us vs Q E hr e0 hb r PH=>?_⟩;have hl:=len _ _ _ _ PH;have KX:K.In s.heap:=e0.mod.mJ.keeps λb o e=>(e0.bs b o e).1;have lim:s.heap.NoLimit:=e0.mod.nolimit.keeps λb o e=>(e0.bs b o e).1
 have TB:∀y∈ps.zip us,scope.names.lookup y.1=some .local\/(scope.names.lookup y.1=some .cell/\((cellsFrom (s.heap.objs.size+1) scope.names []).lookup y.1).isSome=true):=by
  rintro⟨n,v⟩ hy
  rcases S.par n (aam hy).1 with q|q
  ·exact .inl q
  ·exact .inr ⟨q,abO _ _ _ (.inl q)⟩
 refine codeAny_call_function hr.depth (KX _ _ lk) rfl S.co S.gen rfl (PySem.W.codeRec_of KX Oh) (hb _ _ _ _ ?_);refine wpAny_newFunctionEnv_cells S.kind TB λenv he s1 x=>?_;subst he;refine⟨lim.keeps x.toInCall.keep,codeAny_func ?_⟩;obtain⟨t,ht,hq⟩:=PD A outer s H vs Q E (hr.deeper _) PH;have I:Inv (gh CX P w K mg base N qual scope f M' A outer s H E) [] (start N vs) H s1:=ED S hr.hd e0 hl r x;refine S8 (ht [] s1 (start N vs) H _ I hq) (λfl s' hs=>?_) λe s' hs=>hs
 have fin:∀ {NF:St} {H':Hp} {v:V} {u:Value},Inv (gh CX P w K mg base N qual scope f M' A outer s H E) [] NF H' s'->RelV v u->Q v H'->CE outer P w H s Q u s':=
  λ{NF H' v u} J rv q=>⟨v,H',J.os,J.bare,J.base,J.aQ,rv,q⟩
 cases fl with
 | ret u=>
  obtain⟨v,NF,H',J,rv,q⟩:=hs;exact fin J rv q
 | next=>
  obtain⟨NF,H',J,q⟩:=hs;exact fin (v:=V.aE) (u:=Value.none) J rfl q
 | brk=>
  obtain⟨_,_,_,q⟩:=hs;exact False.elim q
 | cont=>
  obtain⟨_,_,_,q⟩:=hs;exact False.elim q
section
variable{X:Cx}{x:Str}{p pos:Pos}{e:Expr}{es:acP}{t:TA}{id T:String}{r:List V->Hp->VK->Prop}
def ur(r:List V->Hp->VK->Prop)(t:TA):TE:=λσ H Q=>t σ H λvs H1=>r vs H1 Q
theorem q8(hc:cj X (.builtin id) r)(hg:Gl X x)(hm:X.mg x=none)(hv:bootBuiltins x=some (.builtin id))(ha:PA X (e::es) t)(hn:x≠"__name__":=by decide)(O8:gV x:=by decide)
  (he:starEach (e::es) X.env=(false,eval e X.env)::starEach es X.env:=by rfl) (QD:(backTo pos (starEach es X.env)).any (·.1)=false:=by rfl):PE X (.Call (.Name x p) (e::es) [] pos) (ur r t):=by
 intro pins s σ H Q I h;refine aae (mQ I hg hm hv ?_ hn O8);exact PyProof.Rows.callWith_builtin1 (aW (ha pos pins s σ H _ I h) λus s1=>by rintro⟨vs,H1,I1,r1,q1⟩;exact hc pins s1 σ H1 vs us Q I1 r1 q1) he QD
theorem ox(hc:cj X (.type T) r)(hg:Gl X x)(hm:X.mg x=none)(hv:bootBuiltins x=some (.type T))(ha:PA X (e::es) t)(hn:x≠"__name__":=by decide)(O8:gV x:=by decide)
  (he:starEach (e::es) X.env=(false,eval e X.env)::starEach es X.env:=by rfl) (QD:(backTo pos (starEach es X.env)).any (·.1)=false:=by rfl):PE X (.Call (.Name x p) (e::es) [] pos) (ur r t):=by
 intro pins s σ H Q I h;refine aae (mQ I hg hm hv ?_ hn O8);exact aac (aW (ha pos pins s σ H _ I h) λus s1=>by rintro⟨vs,H1,I1,r1,q1⟩;exact hc pins s1 σ H1 vs us Q I1 r1 q1) he QD
end
end L2
namespace HT
open PySem PyProof.Rows
section
open PySem.SeqAt
open PySem.AutoSeq1 (wpAny_loadPart')
open PySem.MeetsSeq PySem.MeetsSeq2 PySem.MeetsSeq3
end
section
variable{prog:Program}{w:World}{A:Around}{E:Value->Shared->Prop}{s:Shared}
theorem FT(ht:IsTup s.heap t vs.toArray)(hb:IsTup s.heap b ws.toArray)(hv:vs≠[])
  (h1:ws=[]->Q (.ref t) s) (h2:ws≠[]->Q (.ref s.heap.objs.size) {s with heap:=s.heap.push {cls:=.type "tuple",data:=.seq (vs++ws).toArray} })
  (hsz:vs.length+ws.length<=sizeLine):wpAny (model prog w) A (binaryOp .Add (.ref t) (.ref b)) Q E s:=by
 obtain⟨⟨cls,dd,data,sl⟩,ho,hc,n,hd⟩:=id ht;obtain⟨⟨UA,Sw,data2,Q2⟩,Qq,Q3,n2,hd2⟩:=id hb;simp only at hc hd Q3 hd2;subst hc hd Q3 hd2;have e:vs.toArray++ws.toArray=(vs++ws).toArray:=by simp
 by_cases hw:ws=[]
 ·exact abz ⟨_,ho,rfl⟩ ⟨_,Qq,rfl⟩ abF acd aaV aaR (aaQ _ _)
   (tuple_addW1 t b vs.toArray ws.toArray n n2 dd Sw sl Q2 (by simpa using hv) (by simp[hw])) ⟨ho,Qq,h1 hw⟩
 ·refine abz ⟨_,ho,rfl⟩ ⟨_,Qq,rfl⟩ abF acd aaV aaR (aaQ _ _)
   (tuple_addW2 t b vs.toArray ws.toArray n n2 dd Sw sl Q2 (by simpa using hv) (by simpa using hw) (by rw[IR,IR];exact hsz)) ⟨ho,Qq,?_⟩
  rw[e];exact h2 hw
noncomputable def bp(n d:Nat):Option Int->Nat
 |none=>d
 |some v=>if v<0 then(v+(n:Int)).toNat else min v.toNat n
theorem Ls(n d:Nat)(hd:d<=n)(o:Option Int):bp n d o<=n:=by
 cases o with
 |none=>exact hd
 | some v=>
  show(if v<0 then(v+(n:Int)).toNat else min v.toNat n)<=n
  by_cases hv:v<0
  ·rw[AC hv];omega
  ·rw[DF hv];exact acq _ _
theorem zL(v:Int)(n d:Nat):(if v<0 then max (v+(n:Int)) 0 else min v (n:Int))=((bp n d (some v):Nat):Int):=by
 show(if v<0 then max (v+(n:Int)) 0 else min v (n:Int))=(((if v<0 then(v+(n:Int)).toNat else min v.toNat n):Nat):Int)
 by_cases hv:v<0
 ·simp only[AC hv];omega
 ·simp only[DF hv];omega
theorem DA(lo hi:Option Int)(n:Nat):Builtin.Slice.sliceAdjust lo hi 1 (n:Int)=(((bp n 0 lo:Nat):Int),((bp n n hi:Nat):Int)):=by
 have h1:¬((1:Int)<0):=by omega
 unfold Builtin.Slice.sliceAdjust;simp only[h1,aaS];refine Prod.ext ?_ ?_
 ·cases lo with
  |none=>rfl
  |some v=>exact zL v n 0
 ·cases hi with
  |none=>rfl
  |some v=>exact zL v n n
theorem LU(i j:Nat):Builtin.Slice.slicePlaces (i:Int) (j:Int) 1=j - i:=by
 unfold Builtin.Slice.slicePlaces;have h1:(1:Int)>0:=by omega
 simp only[h1,aat,abP];split<;>omega
theorem Bt(p:IsPart v o)(h:Q o s):wpAny (model prog w) A (Builtin.Slice.slicePartIndex v) Q E s:=by
 cases p with
 |none=>exact slicePart_none h
 |int i t=>exact slicePart_int h
theorem IV{sl:Addr}{vl vu:Value}{lo hi:Option Int}{n:Nat}{Q:Int×Int×Nat->Shared->Prop}(hs:s.heap.IsSliceOf sl vl vu .none)(pl:IsPart vl lo)(pu:IsPart vu hi)
  (h:Q (((bp n 0 lo:Nat):Int),1,bp n n hi - bp n 0 lo) s):wpAny (model prog w) A (Builtin.Slice.sliceApplied (.ref sl) (pure (n:Int))) Q E s:=by
 obtain⟨os,Ta,PR,Uh⟩:=id hs;unfold Builtin.Slice.sliceApplied Builtin.Slice.sliceFields;refine cp (cp (UF Ta Uh (x:=vl) rfl (cp (UF Ta Uh (x:=vu) rfl (cp (UF Ta Uh (x:=.none) rfl (FM ?_)))))));refine cp (slicePart_none ?_);show wpAny _ _ (if((1:Int)==0)=true then _ else _) _ _ s
 rw[DF (by decide)]
 refine cp (Bt pl (cp (Bt pu (cp (FM ?_)))));show wpAny _ _ (match Builtin.Slice.sliceAdjust lo hi 1 (n:Int)with|(lo,hi)=>pure (lo,(1:Int),Builtin.Slice.slicePlaces lo hi 1)) _ _ s
 rw[DA lo hi n];show wpAny _ _ (pure (((bp n 0 lo:Nat):Int),(1:Int),Builtin.Slice.slicePlaces ((bp n 0 lo:Nat):Int) ((bp n n hi:Nat):Int) 1)) _ _ s;rw[LU];exact FM h
theorem Gu(xs:Array Value)(i k:Nat):((List.range k).filterMap λ(m:Nat)=>xs[((i:Int)+(m:Int)*1).toNat]?).toArray=((xs.toList.drop i).take k).toArray:=by
 have e:(λ(m:Nat)=>xs[((i:Int)+(m:Int)*1).toNat]?)=λm=>xs[i+m]? :=by
  funext m;have:((i:Int)+(m:Int)*1).toNat=i+m:=by omega
  rw[this]
 rw[e];have:=pick_run xs i k;rw[List.filterMap_map]at this;have e2:((λx=>xs[x]?)∘λx=>i+x)=λm=>xs[i+m]? :=rfl;rw[e2]at this;rw[this]
theorem IW{t sl:Addr}{items:Array Value}{vl vu:Value}{lo hi:Option Int}{Q:Value->Shared->Prop}(ht:IsTup s.heap t items)(hs:s.heap.IsSliceOf sl vl vu .none)(pl:IsPart vl lo)(pu:IsPart vu hi)
  (hw:¬(bp items.size 0 lo=0/\bp items.size items.size hi=items.size))
  (h:Q (.ref s.heap.objs.size) {s with heap:=s.heap.push {cls:=.type "tuple",data:=.seq ((items.toList.drop (bp items.size 0 lo)).take (bp items.size items.size hi - bp items.size 0 lo)).toArray} })
  (hsz:items.size<=sizeLine):wpAny (model prog w) A (getItem (.ref t) (.ref sl)) Q E s:=by
 have Qi:sizeOk (.seq ((items.toList.drop (bp items.size 0 lo)).take (bp items.size items.size hi - bp items.size 0 lo)).toArray):=by
  show((items.toList.drop (bp items.size 0 lo)).take (bp items.size items.size hi - bp items.size 0 lo)).toArray.size<=sizeLine;rw[IR,ZF,aaT,aaG];omega
 have hj:bp items.size items.size hi<=items.size:=Ls _ _ (Gc _) hi;obtain⟨os,Ta,PR,Uh⟩:=id hs;have Y5:s.TypeIs (.ref sl) "slice":=⟨os,Ta,PR⟩;unfold getItem
 try with_reducible refine aaI ?_
 first|refine cp (FM ?_)|skip
 refine cp (wpAny_sequenceKey ht.typeIs (by decide) ?_)
 refine cp (Z7 (name:=Str.ofString "__getitem__") ht.typeIs aaw
  (aaH aaw ht.typeIs entry_tuple_getitem ?_ (args_tuple_getitem _ _)))
 show wpAny _ _ (Builtin.Tuple.tupleItemsOf (.ref t) >>= _) _ _ s;refine cp (tupleItemsOf_ ht ?_);refine cp (acr Y5 ?_);rw[AC (by decide)]
 refine cp (IV hs pl pu ?_)
 have Ss:¬((((bp items.size 0 lo:Nat):Int)==0&&(1:Int)==1&&(bp items.size items.size hi - bp items.size 0 lo)==items.size)=true):=by
  intro q;rw[mO,mO]at q;have q1:((bp items.size 0 lo:Nat):Int)=0:=eq_of_beq q.1.1;have q2:bp items.size items.size hi - bp items.size 0 lo=items.size:=eq_of_beq q.2;exact hw ⟨by omega,by omega⟩
 show wpAny _ _ (if(((bp items.size 0 lo:Nat):Int)==0&&(1:Int)==1&&(bp items.size items.size hi - bp items.size 0 lo)==items.size)=true then _ else _) _ _ s
 rw[DF Ss,Gu]
 first
  |exact cp (m:=Builtin.Tuple.tupleExact _) (Z0 (FM ⟨_,rfl,FM h⟩) Qi)
  |exact cp (m:=Builtin.Tuple.tupleExact _) (Z0 (cp (FM (FM ⟨_,rfl,FM h⟩))) Qi)
  |exact cp (cp (m:=Builtin.Tuple.tupleExact _) (Z0 (FM (FM ⟨_,rfl,FM h⟩)) Qi))
  |exact cp (cp (m:=Builtin.Tuple.tupleExact _) (Z0 (FM ⟨_,rfl,FM h⟩) Qi))
end
end HT
namespace L2
open PySem PySem.Spec PyProof.Rows
noncomputable abbrev TO:=St->Hp->(Option Int->Hp->Prop)->Prop
def PO(X:Cx)(e:Option Expr)(t:TO):Prop:=
 ∀(pins:List (Addr×Obj)) (s:Shared) (σ:St) (H:Hp) (Q:Option Int->Hp->Prop),Inv X pins σ H s->t σ H Q->
  wpAny (model X.prog X.w) X.A (evalPart e X.env) (λu s'=>∃o H',Inv X pins σ H' s'/\IsPart u o/\Q o H') X.xe s
noncomputable def Fp:TO:=λ_ H Q=>Q none H
noncomputable def Lr(t:TE):TO:=λσ H Q=>t σ H λx H1=>∃i,x=.int i/\Q (some i) H1
section
variable{X:Cx}{e:Expr}{te:TE}{lo hi:Option Expr}{tl th:TO}{pos p2:Pos}
theorem Iu:PO X none Fp:=by
 intro pins s σ H Q I h;rw[evalPart_none];exact FM ⟨none,H,I,.none,h⟩
theorem Hu(h:PE X e te):PO X (some e) (Lr te):=by
 intro pins s σ H Q I hw;rw[evalPart_some];refine aW (h pins s σ H _ I hw) λu s1 ⟨x,H1,I1,r1,q1⟩=>?_;obtain⟨i,rfl,q⟩:=q1;obtain⟨t,rfl⟩:=r1;exact⟨some i,H1,I1,.int i t,q⟩
def jQ(X:Cx)(r:V->Option Int->Option Int->Hp->VK->Prop):Prop:=
 ∀(pins:List (Addr×Obj)) (s:Shared) (σ:St) (H:Hp) (x:V) (v vl vu:Value) (lo hi:Option Int) (sl:Addr) (Q:VK),Inv X pins σ H s->RelV x v->s.heap.IsSliceOf sl vl vu .none->IsPart vl lo->IsPart vu hi->r x lo hi H Q->
  ∃T id,typeLookup (.type T) "__getitem__"=pure (some (.builtin id))/\s.TypeIs v T/\wpAny (model X.prog X.w) X.A (getItem v (.ref sl)) (EP X pins σ Q) X.xe s
theorem jQ.or(h:jQ X r)(h':jQ X r'):jQ X (λx lo hi H Q=>r x lo hi H Q\/r' x lo hi H Q):=by
 intro pins s σ H x v vl vu lo hi sl Q I rx hs pl pu q;rcases q with q|q
 ·exact h pins s σ H x v vl vu lo hi sl Q I rx hs pl pu q
 ·exact h' pins s σ H x v vl vu lo hi sl Q I rx hs pl pu q
def EU(r:V->Option Int->Option Int->Hp->VK->Prop)(te:TE)(tl th:TO):TE:=λσ H Q=>te σ H λx H1=>tl σ H1 λl H2=>th σ H2 λu H3=>r x l u H3 Q
theorem KW(hr:jQ X r)(he:PE X e te)(hl:PO X lo tl)(hu:PO X hi th):PE X (.Subscript e (.Slice lo hi none p2) pos) (EU r te tl th):=by
 intro pins s σ H Q I h;refine Subscript_ (aW (he pins s σ H _ I h) λv s1 ⟨x,H1,I1,r1,q1⟩=>?_);refine wpAny_Slice (aW (hl pins s1 σ H1 _ I1 q1) λvl s2 ⟨l,H2,I2,pl,q2⟩=>aW (hu pins s2 σ H2 _ I2 q2) λvu s3 ⟨u,H3,I3,pu,q3⟩=>?_);rw[evalPart_none];refine FM ?_;have I4:Inv X pins σ H3 {s3 with heap:=s3.heap.push {cls:=.type "slice",data:=.fields #[vl,vu,.none]} }:=I3.kept (t':=s3.toks) λb ob q=>mB _ q;obtain⟨T,id,hT,ht,hg⟩:=hr pins {s3 with heap:=s3.heap.push {cls:=.type "slice",data:=.fields #[vl,vu,.none]} } σ H3 x v vl vu l u s3.heap.objs.size Q I4 r1 (Heap.IsSliceOf.new ..) pl pu q3;show wpAny (model X.prog X.w) X.A (subscriptTail e (.Slice lo hi none p2) v (.ref s3.heap.objs.size)) (EP X pins σ Q) X.xe {s3 with heap:=s3.heap.push {cls:=.type "slice",data:=.fields #[vl,vu,.none]} };exact tail_any (ops:=[.ref s3.heap.objs.size,v]) ht hT hg (by with_unfolding_all rfl)
noncomputable def jf(xs:List V)(lo hi:Option Int):List V:=(xs.drop (HT.bp xs.length 0 lo)).take (HT.bp xs.length xs.length hi - HT.bp xs.length 0 lo)
theorem Br(xs:List V)(lo hi:Option Int):(jf xs lo hi).length<=xs.length:=by
 unfold jf;rw[ZF,aaT];omega
def DT(K:PySem.W.Frag):V->Option Int->Option Int->Hp->VK->Prop:=λx lo hi H Q=>∃a xs,x=.ref a/\bW K H a xs/\
 ¬(HT.bp xs.length 0 lo=0/\HT.bp xs.length xs.length hi=xs.length)/\∀p,H p=none->Q (.ref p) (upd H p (.tup (jf xs lo hi)))
theorem L8:jQ X (DT X.K):=by
 intro pins s σ H x v vl vu lo hi sl Q I rx hs pl pu h;obtain⟨a,xs,rfl,hx,hw,q⟩:=h;cases rx;obtain⟨aq,r,ht,hz⟩:=I.tuple hx;have hlen:aq.toArray.size=xs.length:=by rw[IR];exact r.length.symm
 refine⟨"tuple",_,aaw.lookup,ht.typeIs,?_⟩;refine HT.IW ht hs pl pu (by rw[hlen];exact hw) ?_ (by rw[hlen];exact hz)
 rw[hlen];refine⟨.ref s.heap.objs.size,_,I.laid (t':=s.toks) (o:=.tup (jf xs lo hi)) (λb ob q=>mB _ q) (Gc _) ?_,rfl,q _ (I.aQ.fresh (Gc _))⟩;exact⟨Re (Br xs lo hi) hz,_,(r.drop (HT.bp xs.length 0 lo)).take (HT.bp xs.length xs.length hi - HT.bp xs.length 0 lo),IsTup.new _ _⟩
noncomputable def Bm(K:PySem.W.Frag):R2:=λx y H Q=>∃a b xs ys,x=.ref a/\y=.ref b/\bW K H a xs/\bW K H b ys/\xs≠[]/\xs.length+ys.length<=sizeLine/\
 (ys=[]->Q (.ref a) H)/\(ys≠[]->∀p,H p=none->Q (.ref p) (upd H p (.tup (xs++ys))))
theorem Vals.uI(r:Vals xs us):us=[]↔xs=[]:=by
 cases r with
 |nil=>simp
 |cons _ _=>simp
theorem EM:bA X (binaryOp .Add) (Bm X.K):=by
 intro pins s σ H x y v u Q I rx ry h;obtain⟨a,b,xs,ys,rfl,rfl,ha,hb,hx,hz,q1,q2⟩:=h;cases rx;cases ry;obtain⟨aq,r1,p1,_⟩:=I.tuple ha;obtain⟨Pb,r2,p2,_⟩:=I.tuple hb;refine HT.FT p1 p2 (λz=>hx (r1.uI.mp z)) (λz=>⟨.ref a,H,I,rfl,q1 (r2.uI.mp z)⟩) (λz=>?_) (by rw[<-r1.length, <-r2.length];exact hz)
 refine⟨.ref s.heap.objs.size,_,I.laid (t':=s.toks) (o:=.tup (xs++ys)) (λb ob q=>mB _ q) (Gc _) ?_,rfl,q2 (λw=>z (r2.uI.mpr w)) _ (I.aQ.fresh (Gc _))⟩;exact⟨by rw[KM];exact hz,_,r1.append r2,IsTup.new _ _⟩
end
noncomputable def dw(n:Nat)(i:Int):Option Nat:=if 0<=i then(if i<n then some i.toNat else none)else if -(n:Int)<=i then some (i+n).toNat else none
noncomputable def cT{α:Type}(xs:List α)(i:Int):Option α:=(dw xs.length i).bind λj=>xs[j]?
theorem Cr(h:dw n i=some j):seqIndex? i n=some j/\j<n/\ -(n:Int)<=i/\i<n:=by
 unfold dw at h;by_cases h0:0<=i
 ·rw[AC h0]at h
  by_cases h1:i<n
  ·rw[AC h1]at h
   have e:i.toNat=j:=Rf h;exact⟨by rw[acI h0 h1,e],by omega,by omega,h1⟩
  ·rw[DF h1]at h;cases h
 ·rw[DF h0]at h
  by_cases h1: -(n:Int)<=i
  ·rw[AC h1]at h
   have e:(i+n).toNat=j:=Rf h;exact⟨by rw[seqIndex_neg (by omega) h1,e],by omega,h1,by omega⟩
  ·rw[DF h1]at h;cases h
theorem xX{α:Type}{xs:List α}{i:Int}{v:α}(h:cT xs i=some v):∃j,seqIndex? i xs.length=some j/\xs[j]? =some v/\j<xs.length/\ -(xs.length:Int)<=i/\i<xs.length:=by
 unfold cT at h;cases e:dw xs.length i with
 |none=>rw[e]at h;cases h
 | some j=>
  rw[e]at h;obtain⟨h1,h2,h3,h4⟩:=Cr e;exact⟨j,h1,h,h2,h3,h4⟩
def o8(b:Expr):Prop:=∀o i,subscripted b false o i=operate [o,i] (getItem o i)
def gz(X:Cx)(r:R2):Prop:=
 ∀(value slice:Expr) (pins:List (Addr×Obj)) (s:Shared) (σ:St) (H:Hp) (x y:V) (v u:Value) (Q:VK),Inv X pins σ H s->RelV x v->RelV y u->r x y H Q->
  subscripted slice false v u=operate [v,u] (getItem v u)->wpAny (model X.prog X.w) X.A (subscriptTail value slice v u) (EP X pins σ Q) X.xe s
def E6(X:Cx)(id:String)(r:V->List V->Hp->VK->Prop):Prop:=
 ∀(pins:List (Addr×Obj)) (s:Shared) (σ:St) (H:Hp) (x:V) (xs:List V) (v:Value) (us:acQ) (Q:VK),Inv X pins σ H s->RelV x v->Vals xs us->r x xs H Q->
  wpAny (model X.prog X.w) X.A (call (.builtin id) (v::us)) (EP X pins σ Q) X.xe s
section
variable{X:Cx}{a b:Expr}{ta tb:TE}{pos:Pos}
theorem gz.or(h:gz X r)(h':gz X r'):gz X (λx y H Q=>r x y H Q\/r' x y H Q):=by
 intro value slice pins s σ H x y v u Q I rx ry q hs;rcases q with q|q
 ·exact h value slice pins s σ H x y v u Q I rx ry q hs
 ·exact h' value slice pins s σ H x y v u Q I rx ry q hs
theorem tR{r:R2}(hr:gz X r)(ha:PE X a ta)(hb:PE X b tb)(hs:o8 b):PE X (.Subscript a b pos) (nh r ta tb):=by
 intro pins s σ H Q I h;exact Subscript_ (vw ha hb I h λv u s2 x y H2 I2 rx ry q=>hr a b pins s2 σ H2 x y v u Q I2 rx ry q (hs _ _))
def Az(K:PySem.W.Frag):R2:=λx y H Q=>∃p xs i v,x=.ref p/\y=.int i/\bP K H p xs/\cT xs i=some v/\Q v H
def BL(K:PySem.W.Frag):R2:=λx y H Q=>∃p xs i v,x=.ref p/\y=.int i/\bW K H p xs/\cT xs i=some v/\Q v H
def CK:R2:=λx y H Q=>∃z i c,x=.str z/\y=.int i/\z.length<=sizeLine/\cT z.cps.toList i=some c/\Q (.str ⟨#[c]⟩) H
theorem J6:gz X (Az X.K):=by
 intro value slice pins s σ H x y v u Q I rx ry h hs;obtain⟨p,xs,i,z,rfl,rfl,hq,he,q⟩:=h;cases rx;obtain⟨t,rfl⟩:=ry;obtain⟨aq,r,pl,hz⟩:=I.list hq;obtain⟨j,h1,h2,h3,h4,h5⟩:=xX he;obtain⟨w,ew,O0⟩:=r.get h2;have hl:=r.length;have hn:=ko;have fin:EP X pins σ Q w s:=⟨z,H,I,O0,q⟩;by_cases h0:0<=i
 ·have hj:i.toNat=j:=by
   rw[acI h0 h5]at h1;exact Rf h1
  exact item_listR pl.isList h0 (by omega) (by rw[hj];simpa using ew) fin hs
 ·have hj:(i+(aq.toArray.size:Int)).toNat=j:=by
   rw[seqIndex_neg (by omega) h4]at h1
   rw[IR, <-hl];exact Rf h1
  exact subscriptTail_builtinR (x:=w) pl.isList.typeIs slot_list_getitem.lookup
   (wpAny_getItem_list_neg (Q:=λr s'=>r=w/\EP X pins σ Q r s') pl.isList (by omega) (by rw[IR]<;>omega) (by omega) (by rw[hj];simpa using ew) ⟨rfl,fin⟩) hs
theorem iI:gz X (BL X.K):=by
 intro value slice pins s σ H x y v u Q I rx ry h hs;obtain⟨p,xs,i,z,rfl,rfl,hq,he,q⟩:=h;cases rx;obtain⟨t,rfl⟩:=ry;obtain⟨aq,r,pl,hz⟩:=I.tuple hq;obtain⟨j,h1,h2,h3,h4,h5⟩:=xX he;obtain⟨w,ew,O0⟩:=r.get h2;have hl:=r.length;have hn:=ko;have fin:EP X pins σ Q w s:=⟨z,H,I,O0,q⟩
 exact subscriptTail_builtinR (x:=w) pl.typeIs slot_tuple_getitem.lookup
  (getItem_tuple (j:=j) (Q:=λr s'=>r=w/\EP X pins σ Q r s') pl (by omega) (by omega) (by rw[IR, <-hl];exact h1) (by simpa using ew) ⟨rfl,fin⟩) hs
theorem LZ:gz X CK:=by
 intro value slice pins s σ H x y v u Q I rx ry h hs;obtain⟨z,i,c,rfl,rfl,hz,he,q⟩:=h;obtain⟨t,rfl⟩:=rx;obtain⟨t',rfl⟩:=ry;obtain⟨j,h1,h2,h3,h4,h5⟩:=xX he;have hl:z.cps.toList.length=z.length:=by simp[Str.length]
 rw[hl]at h1 h4 h5;have hn:=ko
 exact tail_any (abw s z t) slot_str_getitem.lookup (getItem_str (c:=c) (by
  have e1:decide (i< -(2 ^ 63:Int))=false:=KB (by omega)
  have e2:decide (i>=2 ^ 63)=false:=KB (by omega)
  rw[e1,e2,Bool.or_false]) (by rw[h1];simpa using h2) ⟨.str ⟨#[c]⟩,H,I.tok _,⟨_,rfl⟩,q⟩) hs
def sC(K:PySem.W.Frag):R2:=λx y H Q=>Az K x y H Q\/BL K x y H Q\/CK x y H Q
theorem Bh:gz X (sC X.K):=J6.or (iI.or LZ)
theorem EI(aq:acQ)(n j:Nat)(u:Value):Obj.mapSeq (·.setIfInBounds j u) {cls:=.type "list",data:=.seq aq.toArray n}={cls:=.type "list",data:=.seq (aq.set j u).toArray n}:=by
 simp[Obj.mapSeq]
theorem Inv.lst{pins:List (Addr×Obj)}{σ:St}{H:Hp}{s:Shared}{p:Addr}{xs:List V}(I:Inv X pins σ H s)(h:H p=some (.lst xs)):
  ∃(aq:acQ) (n:Nat),Vals xs aq/\s.heap.get? p=some {cls:=.type "list",data:=.seq aq.toArray n}/\xs.length<=sizeLine:=by
 obtain⟨z,aq,n,r,e⟩:=I.aQ p _ h;exact⟨aq,n,r,e,z⟩
theorem Inv.Jw{pins:List (Addr×Obj)}{σ:St}{H:Hp}{s:Shared}{p:Addr}{xs ys:List V}{aq its':acQ}{n n':Nat}{f:Obj->Obj}(I:Inv X pins σ H s)(h:H p=some (.lst xs))
  (ho:s.heap.get? p=some {cls:=.type "list",data:=.seq aq.toArray n}) (hf:f {cls:=.type "list",data:=.seq aq.toArray n}={cls:=.type "list",data:=.seq its'.toArray n'}) (r:Vals ys its') (hz:ys.length<=sizeLine) (t:Nat):
  Inv X pins σ (upd H p (.lst ys)) {s with heap:=s.heap.update p f,toks:=t}:=by
 have e:(s.heap.update p f).get? p=some {cls:=.type "list",data:=.seq its'.toArray n'}:=by
  rw[acD f ho (by rw[hf]<;>rfl),hf]
 refine I.write (x:=p) (e:=p) (by rw[h];trivial) (.inl rfl) (λb u hb q=>(acs _ _ (P3 hb)).trans q) ⟨_,e⟩ ?_
 exact⟨hz,its',n',r,e⟩
def Et:V->V->V->Hp->(Hp->Prop)->Prop:=λo i v H Q=>∃p xs k j,o=.ref p/\i=.int k/\H p=some (.lst xs)/\dw xs.length k=some j/\Q (upd H p (.lst (xs.set j v)))
theorem set_list:A6 X Et:=by
 intro pins s σ H o i v ov iv u Q I ro ri rv h;obtain⟨p,xs,k,j,rfl,rfl,hp,hj,q⟩:=h;cases ro;obtain⟨t,rfl⟩:=ri;obtain⟨aq,n,r,ho,hz⟩:=I.lst hp;obtain⟨h1,h2,h3,h4⟩:=Cr hj;have hl:=r.length;have hn:=ko
 have I':Inv X pins σ (upd H p (.lst (xs.set j v))) {s with heap:=s.heap.update p (Obj.mapSeq (·.setIfInBounds j u))}:=
  I.Jw hp ho (EI aq n j u) (r.set rv j) (by rw[ZP];exact hz) s.toks
 by_cases h0:0<=k
 ·have hk:k.toNat=j:=by
   rw[acI h0 h4]at h1;exact Rf h1
  exact PySem.W.ki_setAt ho h0 (by omega) (by rw[IR, <-hl];exact h4) (by rw[hk];exact⟨_,I',q⟩)
 ·have hk:(k+(aq.toArray.size:Int)).toNat=j:=by
   rw[seqIndex_neg (by omega) h3]at h1
   rw[IR, <-hl];exact Rf h1
  exact PySem.W.ki_setBack ho (by omega) (by rw[IR, <-hl];exact h3) (by omega) (by rw[hk];exact⟨_,I',q⟩)
theorem Le(lo hi:Option Int)(n:Nat):(sliceBounds lo hi none n).1=((HT.bp n 0 lo:Nat):Int)/\(sliceBounds lo hi none n).2.1=((HT.bp n n hi:Nat):Int)/\(sliceBounds lo hi none n).2.2=1:=by
 refine⟨?_,?_,rfl⟩
 ·cases lo with
  |none=>simp[sliceBounds,HT.bp]
  | some i=>
   simp only[sliceBounds,HT.bp,acu,show(1:Int)>0 by decide,aat]
   by_cases h:i<0
   ·simp only[h,aat]<;>omega
   ·simp only[h,aaS]<;>omega
 ·cases hi with
  |none=>simp[sliceBounds,HT.bp]
  | some i=>
   simp only[sliceBounds,HT.bp,acu,show(1:Int)>0 by decide,aat]
   by_cases h:i<0
   ·simp only[h,aat]<;>omega
   ·simp only[h,aaS]<;>omega
theorem Fg(aq:acQ)(lo hi:Option Int):slicePick aq.toArray lo hi none=((aq.drop (HT.bp aq.length 0 lo)).take (HT.bp aq.length aq.length hi - HT.bp aq.length 0 lo)).toArray:=by
 obtain⟨h1,h2,h3⟩:=Le lo hi aq.toArray.size;unfold slicePick;rw[h1,h2,h3];simp only[sliceRange_one,pick_run,IR]<;>rfl
def GG(K:PySem.W.Frag):V->Option Int->Option Int->Hp->VK->Prop:=λx lo hi H Q=>∃a xs,x=.ref a/\bP K H a xs/\∀p,H p=none->Q (.ref p) (upd H p (.lst (jf xs lo hi)))
theorem HL:jQ X (GG X.K):=by
 intro pins s σ H x v vl vu lo hi sl Q I rx hs pl pu h;obtain⟨a,xs,rfl,hx,q⟩:=h;cases rx;obtain⟨aq,r,ht,hz⟩:=I.list hx;have hlen:=r.length;refine⟨"list",_,slot_list_getitem.lookup,ht.isList.typeIs,?_⟩;refine wpAny_getItem_list_slice ht.isList hs pl pu .none (by simp) ?_ (by rw[IR]<;>omega)
 rw[Fg, <-hlen];refine⟨.ref s.heap.objs.size,_,I.laid (t':=s.toks) (o:=.lst (jf xs lo hi)) (λb ob q=>mB _ q) (Gc _) ?_,rfl,q _ (I.aQ.fresh (Gc _))⟩;exact⟨Re (Br xs lo hi) hz,_,0,(r.drop (HT.bp xs.length 0 lo)).take (HT.bp xs.length xs.length hi - HT.bp xs.length 0 lo),JU _ rfl⟩
noncomputable def iz:V->Bool
 |.aE=>true
 |.bl _=>true
 |.int _=>true
 |.str _=>true
 |_=>false
noncomputable def hJ:V->V->Bool
 |.aE,.aE=>true
 |.bl a,.bl b=>a==b
 |.bl a,.int b=>(if a then 1 else 0)==b
 |.int a,.bl b=>a==(if b then 1 else 0)
 |.int a,.int b=>a==b
 |.str a,.str b=>a==b
 |_,_=>false
theorem IQ(ry:RelV y u)(rx:RelV x v)(fy:iz y=true)(fx:iz x=true):SeqAt.EqAt A s u v (hJ y x):=by
 cases y with
 | aE=>
  cases ry;cases x with
  |aE=>cases rx;exact SeqAt.EqAt.same _
  |bl b=>cases rx;exact SeqAt.EqAt.none_bool b
  |int b=>obtain⟨t,rfl⟩:=rx;exact SeqAt.EqAt.none_int b t
  |str b=>obtain⟨t,rfl⟩:=rx;exact SeqAt.EqAt.none_str b t
  |_=>exact absurd (show false=true from fx) ZL
 | bl a=>
  cases ry;cases x with
  |aE=>cases rx;exact SeqAt.EqAt.bool_none a
  |bl b=>cases rx;exact SeqAt.EqAt.bool_bool a b
  |int b=>obtain⟨t,rfl⟩:=rx;exact SeqAt.EqAt.bool_int a b t
  |str b=>obtain⟨t,rfl⟩:=rx;exact SeqAt.EqAt.bool_str a b t
  |_=>exact absurd (show false=true from fx) ZL
 | int a=>
  obtain⟨t',rfl⟩:=ry;cases x with
  |aE=>cases rx;exact SeqAt.EqAt.int_none a t'
  |bl b=>cases rx;exact SeqAt.EqAt.int_bool a t' b
  |int b=>obtain⟨t,rfl⟩:=rx;exact SeqAt.EqAt.int_int a t' b t
  |str b=>obtain⟨t,rfl⟩:=rx;exact SeqAt.EqAt.int_str a t' b t
  |_=>exact absurd (show false=true from fx) ZL
 | str a=>
  obtain⟨t',rfl⟩:=ry;cases x with
  |aE=>cases rx;exact SeqAt.EqAt.str_none a t'
  |bl b=>cases rx;exact SeqAt.EqAt.str_bool a t' b
  |int b=>obtain⟨t,rfl⟩:=rx;exact SeqAt.EqAt.str_int a t' b t
  |str b=>obtain⟨t,rfl⟩:=rx;exact SeqAt.EqAt.str_str a t' b t
  |_=>exact absurd (show false=true from fx) ZL
 |_=>exact absurd (show false=true from fy) ZL
noncomputable def d6(x:V)(u:Value):Bool:=match u with
 |.none=>hJ .aE x
 |.bool b=>hJ (.bl b) x
 |.int i _=>hJ (.int i) x
 |.str z _=>hJ (.str z) x
 |_=>false
theorem xg(r:RelV y u)(f:iz y=true):d6 x u=hJ y x:=by
 cases y with
 |aE=>cases r;rfl
 |bl b=>cases r;rfl
 |int i=>obtain⟨t,rfl⟩:=r;rfl
 |str z=>obtain⟨t,rfl⟩:=r;rfl
 |_=>exact absurd (show false=true from f) ZL
theorem o5:∀ {xs:List V} {us:acQ},Vals xs us->xs.all iz=true->us.any (d6 x)=xs.any λy=>hJ y x
 |_,_,.nil,_=>rfl
 | y::xs,u::us,.cons r t,f=>by
  rw[Wp,mO]at f;rw[aak,aak,xg r f.1,o5 t f.2]
theorem lA(rx:RelV x v)(fx:iz x=true):∀ {xs:List V} {us:acQ},Vals xs us->xs.all iz=true->∀u∈us,SeqAt.EqAt A s u v (d6 x u)
 |_,_,.nil,_=>λu hu=>by cases hu
 | y::xs,u::us,.cons r t,f=>λu' hu=>by
  rw[Wp,mO]at f;rcases Da.mp hu with rfl|hu
  ·rw[xg r f.1];exact IQ r rx f.1 fx
  ·exact lA rx fx t f.2 u' hu
noncomputable def qH(x:V)(xs:List V):Bool:=xs.any λy=>hJ y x
noncomputable def zP(K:PySem.W.Frag)(neg:Bool):R2:=λx y H Q=>∃p xs,y=.ref p/\(bP K H p xs\/bW K H p xs)/\iz x=true/\xs.all iz=true/\Q (.bl (if neg then !qH x xs else qH x xs)) H
theorem Hx:bA X (compareOp .In) (zP X.K false):=by
 intro pins s σ H x y v u Q I rx ry h;obtain⟨p,xs,rfl,hq,fx,fs,q⟩:=h;cases ry;rcases hq with hq|hq
 ·obtain⟨aq,r,pl,hz⟩:=I.list hq
  refine SeqAt.in_listAt (d6 x) pl.isList (λw hw=>lA rx fx r fs w (by simpa using hw)) ⟨.bl _,H,I,rfl,?_⟩
  rw[show aq.toArray.any (d6 x)=aq.any (d6 x) by simp,o5 r fs]
  exact q
 ·obtain⟨aq,r,pl,hz⟩:=I.tuple hq
  refine SeqAt.in_tupleAt (d6 x) pl (λw hw=>lA rx fx r fs w (by simpa using hw)) ⟨.bl _,H,I,rfl,?_⟩
  rw[show aq.toArray.any (d6 x)=aq.any (d6 x) by simp,o5 r fs]
  exact q
theorem KC:bA X (compareOp .NotIn) (zP X.K true):=by
 intro pins s σ H x y v u Q I rx ry h;obtain⟨p,xs,rfl,hq,fx,fs,q⟩:=h;cases ry;rcases hq with hq|hq
 ·obtain⟨aq,r,pl,hz⟩:=I.list hq
  refine SeqAt.notIn_listAt (d6 x) pl.isList (λw hw=>lA rx fx r fs w (by simpa using hw)) ⟨.bl _,H,I,rfl,?_⟩
  rw[show aq.toArray.any (d6 x)=aq.any (d6 x) by simp,o5 r fs]
  exact q
 ·obtain⟨aq,r,pl,hz⟩:=I.tuple hq
  refine SeqAt.notIn_tupleAt (d6 x) pl (λw hw=>lA rx fx r fs w (by simpa using hw)) ⟨.bl _,H,I,rfl,?_⟩
  rw[show aq.toArray.any (d6 x)=aq.any (d6 x) by simp,o5 r fs]
  exact q
theorem Mj:cj X (.builtin "len") (λxs H Q=>∃p ys,xs=[.ref p]/\(bP X.K H p ys\/bW X.K H p ys)/\Q (.int ys.length) H):=by
 intro pins s σ H xs us Q I r h;obtain⟨p,ys,rfl,hq,q⟩:=h;obtain⟨u,rfl,rx⟩:=vals1 r;cases rx;have hn:=ko;rcases hq with hq|hq
 ·obtain⟨aq,r',pl,hz⟩:=I.list hq
  have hlen:=r'.length;exact Calls.call_len_list pl.isList (by simp only[IR]<;>omega) ⟨.int ys.length,H,I.tok _,⟨s.toks+1,by rw[IR,hlen]⟩,q⟩
 ·obtain⟨aq,r',pl,hz⟩:=I.tuple hq
  have hlen:=r'.length;exact len_tuple pl (by simp only[IR]<;>omega) ⟨.int ys.length,H,I.tok _,⟨s.toks+1,by rw[IR,hlen]⟩,q⟩
theorem Ib:cj X (.builtin "len") (λxs H Q=>∃z,xs=[.str z]/\z.length<=sizeLine/\Q (.int z.length) H):=by
 intro pins s σ H xs us Q I r h;obtain⟨z,rfl,hz,q⟩:=h;obtain⟨u,rfl,t,rfl⟩:=vals1 r;have hn:=ko;exact len_str (by omega) ⟨.int z.length,H,I.tok _,⟨_,rfl⟩,q⟩
theorem cj.or(h:cj X f r)(h':cj X f r'):cj X f (λxs H Q=>r xs H Q\/r' xs H Q):=by
 intro pins s σ H xs us Q I rs q;rcases q with q|q
 ·exact h pins s σ H xs us Q I rs q
 ·exact h' pins s σ H xs us Q I rs q
theorem EB:cj X (.type "list") (λxs H Q=>∃p ys,xs=[.ref p]/\(bP X.K H p ys\/bW X.K H p ys)/\∀l,H l=none->Q (.ref l) (upd H l (.lst ys))):=by
 intro pins s σ H xs us Q I r h;obtain⟨p,ys,rfl,hq,q⟩:=h;obtain⟨u,rfl,rx⟩:=vals1 r;cases rx
 have fin:∀(aq:acQ),Vals ys aq->ys.length<=sizeLine->∀(h':Heap) (c':Nat),(∀b o',s.heap.get? b=some o'->h'.get? b=some o')->
   h'.get? s.heap.objs.size=some {cls:=.type "list",dict:=none,data:=.seq aq.toArray c',slots:= #[]}->EP X pins σ Q (.ref s.heap.objs.size) {s with heap:=h'}:=λaq r' hz h' c' kp e=>
  ⟨.ref s.heap.objs.size,_,I.laid (t':=s.toks) kp (Gc _) (show cL X.prog X.w _ h' _ (.lst ys)from⟨hz,aq,c',r',e⟩),rfl,q _ (I.aQ.fresh (Gc _))⟩
 rcases hq with hq|hq
 ·obtain⟨aq,r',pl,hz⟩:=I.list hq
  have hlen:=r'.length;obtain⟨o,ho,hc,n,hd⟩:=pl.isList;exact call_list_seq p (.inl rfl) ho hc hd (λh' c' kp e=>fin aq r' hz h' c' kp e) (by simp only[IR]<;>omega)
 ·obtain⟨aq,r',pl,hz⟩:=I.tuple hq
  have hlen:=r'.length;obtain⟨o,ho,hc,n,hd⟩:=pl;exact call_list_seq p (.inr rfl) ho hc hd (λh' c' kp e=>fin aq r' hz h' c' kp e) (by simp only[IR]<;>omega)
theorem mG:cj X (.type "tuple") (λxs H Q=>∃p ys,xs=[.ref p]/\((bP X.K H p ys/\∀l,H l=none->Q (.ref l) (upd H l (.tup ys)))\/(bW X.K H p ys/\Q (.ref p) H))):=by
 intro pins s σ H xs us Q I r h;obtain⟨p,ys,rfl,h⟩:=h;obtain⟨u,rfl,rx⟩:=vals1 r;cases rx;rcases h with⟨hq,q⟩|⟨hq,q⟩
 ·obtain⟨aq,r',pl,hz⟩:=I.list hq
  have hlen:=r'.length;refine call_tuple_list pl.isList (λh' kp=>?_) (by simp only[IR]<;>omega)
  have I1:Inv X pins σ H {s with heap:=h'}:=I.kept (t':=s.toks) kp
  have I2:Inv X pins σ (upd H h'.objs.size (.tup ys)) {s with heap:=h'.push {cls:=.type "tuple",data:=.seq aq.toArray} }:=
   I1.laid (t':=s.toks) (λb o e=>mB _ e) (Gc _) (show cL X.prog X.w _ _ _ (.tup ys)from⟨hz,aq,r',IsTup.new _ _⟩)
  exact⟨.ref h'.objs.size,_,I2,rfl,q _ (I1.aQ.fresh (Gc _))⟩
 ·obtain⟨aq,r',pl,hz⟩:=I.tuple hq
  exact call_tuple_same pl ⟨.ref p,H,I,rfl,q⟩
def zx(K:PySem.W.Frag)(T:String)(x:V)(H:Hp):Prop:=match x with
 |.str _=>T="str"
 |.int _=>T="int"
 |.ref p=>(T="list"/\∃xs,bP K H p xs)\/(T="tuple"/\∃o,K.lookup p=some o/\o.cls=.type "tuple"/\o.dict=none)\/
   (T="dict"/\((∃j',H p=some (.dK j'))\/∃j',H p=some (.dT j')))\/(T="set"/\∃S n,H p=some (.set S n))
 |_=>False
theorem He(I:Inv X pins σ H s)(r:RelV x v)(ty:zx X.K T x H):
  s.TypeIs v T/\∀a,v=.ref a->∃ob,s.heap.get? a=some ob/\ob.dict=none:=by
 cases x with
 | str z=>
  obtain⟨t,rfl⟩:=r;cases (show T="str" from ty)
  exact⟨abw s z t,λ_ e=>nomatch e⟩
 | int i=>
  obtain⟨t,rfl⟩:=r;cases (show T="int" from ty)
  exact⟨typeIs_int s i t,λ_ e=>nomatch e⟩
 | ref p=>
  cases r;rcases ty with⟨rfl,xs,hq⟩|⟨rfl,o,hk,hc,hd⟩|⟨rfl,hk⟩|⟨rfl,S,n,hk⟩
  ·obtain⟨aq,_,pl,_⟩:=I.list hq
   refine⟨pl.isList.typeIs,λa e=>?_⟩;cases e;obtain⟨o,n,e,c,hd,_⟩:=pl;exact⟨o,e,hd⟩
  ·refine⟨⟨o,I.da p o hk,hc⟩,λa e=>?_⟩
   cases e;exact⟨o,I.da _ o hk,hd⟩
  ·have z:∃o,s.heap.get? p=some o/\o.ExactDict:=by
    rcases hk with⟨j',hk⟩|⟨j',hk⟩
    ·obtain⟨_,_,_,_,o,_,_,e,ex,_⟩:=I.aQ p _ hk
     exact⟨o,e,ex⟩
    ·obtain⟨_,_,_,_,o,_,_,e,ex,_⟩:=I.aQ p _ hk
     exact⟨o,e,ex⟩
   obtain⟨o,e,ex⟩:=z;refine⟨⟨o,e,ex.1⟩,λa e2=>?_⟩;cases e2;exact⟨o,e,ex.2.1⟩
  ·obtain⟨o,_,_,_,e,ex,_⟩:=I.aQ p _ hk
   refine⟨⟨o,e,ex.1⟩,λa e2=>?_⟩;cases e2;exact⟨o,e,ex.2.1⟩
 |_=>exact False.elim ty
def Mp(K:PySem.W.Frag)(T:String)(r:V->List V->Hp->VK->Prop)(to:TE)(t:TA):TE:=λσ H Q=>to σ H λx H1=>zx K T x H1/\t σ H1 λxs H2=>r x xs H2 Q
variable{o e:Expr}{es:acP}{to:TE}{t:TA}{name:Str}{apos NW:Pos}{T id:String}{r:V->List V->Hp->VK->Prop}
theorem BP(pa:PlainAttrs T)(slot:Slot T name id)(YO:typeOf (.builtin id)=pure (.type "method_descriptor"))(hm:E6 X id r)(ho:PE X o to)(ha:PA X (e::es) t)
  (Pw:attributeBase o name X.env (eval o X.env)=eval o X.env:=by rfl)
  (QS:((backTo NW (starEach (e::es) X.env)).all (λx=> !x.1)&&(backToKw NW (keywordEach [] X.env)).all (λx=>x.1.isSome)
   &&decide ((e::es).length+([]:List Keyword).length+(if([]:List Keyword).isEmpty then 0 else 1)<30))=true:=by rfl)
  (Px:(apos.endLine==NW.line)=true:=by rfl) (hs:starEach (e::es) X.env=(false,eval e X.env)::starEach es X.env:=by rfl) (P8:(backTo NW (starEach es X.env)).any (·.1)=false:=by rfl):
  PE X (.Call (.Attribute o name apos) (e::es) [] NW) (Mp X.K T r to t):=by
 intro pins s σ H Q I h;refine wpAny_Call_method_late Pw QS Px rfl (aW (ho pins s σ H _ I h) λv s1 ⟨x,H1,I1,r1,ty,q1⟩=>?_);obtain⟨h1,h2⟩:=He I1 r1 ty;refine⟨T,id,pa,slot,YO,h1,h2,?_⟩;have hA:=ha NW pins s1 σ H1 _ I1 q1;rw[hs]at hA ⊢;refine aaf (by show(false||(backTo NW (starEach es X.env)).any (·.1))=false;rw[P8]<;>rfl) (aal ?_)
 exact aW hA λus s2=>by rintro⟨vs,H2,I2,r2,q2⟩;exact hm pins s2 σ H2 x vs v us Q I2 r1 r2 q2
end
def zK(X:Cx)(id:String)(r:V->List V->Hp->VK->Prop):Prop:=
 ∀(pins:List (Addr×Obj)) (s:Shared) (σ:St) (H:Hp) (x:V) (xs:List V) (v:Value) (us:acQ) (Q:VK),Inv X pins σ H s->RelV x v->Vals xs us->r x xs H Q->
  wpAny (model X.prog X.w) X.A (call (.builtin id) (v::us)) (EP X pins σ Q) X.xe s
theorem Vals.one:∀ {x:V} {us:acQ},Vals [x] us->∃u,us=[u]/\RelV x u
 |_,_,.cons r .nil=>⟨_,rfl,r⟩
section
variable{X:Cx}{pins:List (Addr×Obj)}{σ:St}{H:Hp}{s:Shared}{l b:Addr}{xs ys zs:List V}
theorem Inv.Mo{aq its':acQ}{n:Nat}{f:Array Value->Array Value}{t':Nat}(I:Inv X pins σ H s)(hH:H l=some (.lst xs))
  (e:s.heap.get? l=some {cls:=.type "list",data:=.seq aq.toArray n}) (hf:f aq.toArray=its'.toArray) (hv:Vals ys its') (hz:ys.length<=sizeLine):
  Inv X pins σ (upd H l (.lst ys)) {s with heap:=s.heap.update l (Obj.mapSeq f),toks:=t'}:=by
 have q:=PySem.IsL.update e f;rw[hf]at q;refine I.write (x:=l) (e:=l) (by rw[hH];exact trivial) (.inl rfl) (λb' u hb hu=>(acs s.heap (Obj.mapSeq f) (P3 hb)).trans hu) ⟨_,q⟩ ?_
 exact⟨hz,its',_,hv,q⟩
theorem Inv.IG(I:Inv X pins σ H s)(hv:Vals ys aq)(hz:ys.length<=sizeLine):
  Inv X pins σ (upd H s.heap.objs.size (.lst ys)) {s with heap:=s.heap.push {cls:=.type "list",data:=.seq aq.toArray},toks:=t'}:=
 I.laid (λ_ _ q=>mB _ q) (Gc _) ⟨hz,aq,0,hv,JU _ rfl⟩
theorem Inv.fresh(I:Inv X pins σ H s):H s.heap.objs.size=none:=I.aQ.fresh (Gc _)
theorem Inv.K1(I:Inv X pins σ H s)(hH:H l=some (.lst xs)):xs.length<=sizeLine/\∃(aq:acQ) (n:Nat),Vals xs aq/\xs.length=aq.length/\s.heap.get? l=some {cls:=.type "list",data:=.seq aq.toArray n}:=by
 obtain⟨z,aq,n,r,e⟩:=I.aQ l _ hH;exact⟨z,aq,n,r,r.length,e⟩
end
section
variable{X:Cx}
def Ff:V->List V->Hp->VK->Prop:=λx vs H Q=>∃l xs y,x=.ref l/\vs=[y]/\H l=some (.lst xs)/\xs.length<sizeLine/\Q .aE (upd H l (.lst (xs++[y])))
theorem Cz:zK X "list.append" Ff:=by
 intro pins s σ H x vs v us Q I rx rv h;obtain⟨l,xs,y,rfl,rfl,hH,hz,q⟩:=h;cases rx;obtain⟨u,rfl,ru⟩:=rv.one;obtain⟨z,aq,n,r,hl,e⟩:=I.K1 hH;refine abW F.slot_list_append ⟨_,e,rfl⟩ F.entry_list_append (F.args_list_append_2 _ _) (PySem.list_append l aq.toArray n u (by rw[IR];omega)) ⟨e,?_⟩
 refine⟨.aE,_,I.Mo (its':=aq++[u]) hH e (by simp) (r.append (.cons ru .nil)) ?_,rfl,q⟩
 rw[KM,List.length_singleton];omega
end
section
variable{κ:Type} [DecidableEq κ]
noncomputable def eI(j':List (κ×V))(k:κ):Option V:=(j'.find? λkv=>decide (kv.1=k)).map (·.2)
noncomputable def putK(j':List (κ×V))(k:κ)(v:V):List (κ×V):=
 if(j'.any λkv=>decide (kv.1=k))=true then j'.map (λkv=>if kv.1=k then(kv.1,v)else kv)else j'++[(k,v)]
theorem tU{p:κ×V}{r:List (κ×V)}{k:κ}(e:p.1=k):eI (p::r) k=some p.2:=by simp[eI,Z8,e]
theorem vB{p:κ×V}{r:List (κ×V)}{k:κ}(e:¬p.1=k):eI (p::r) k=eI r k:=by simp[eI,Z8,e]
theorem Bn(k:κ):∀j':List (κ×V),(j'.any λkv=>decide (kv.1=k))=(eI j' k).isSome
 |[]=>rfl
 | p::r=>by
  rw[aak];by_cases e:p.1=k
  ·simp only[tU e,FS e,Bool.true_or,Option.isSome_some]
  ·rw[vB e,KB e,Bool.false_or];exact Bn k r
theorem uP(j':List (κ×V))(k:κ)(v:V):(putK j' k v).length<=j'.length+1:=by
 unfold putK;split
 ·rw[GE];omega
 ·rw[KM,Z1,abx];omega
theorem gA.Kr(r:gA o u):o.isSome=u.isSome:=by
 cases o with
 | none=>cases u with
  |none=>rfl
  |some _=>exact(show False from r).elim
 | some _=>cases u with
  |none=>exact(show False from r).elim
  |some _=>rfl
theorem KV.val{j':List (κ×V)}{vs:List (κ×Value)}(r:KV j' vs)(k:κ):gA (eI j' k) (valueAt vs k):=by
 unfold KV at r
 induction r with
 |nil=>exact True.intro
 | @cons p q ps qs h t ih=>
  obtain⟨h1,h2⟩:=h;by_cases e:p.1=k
  ·have e':q.1=k:=h1.symm.trans e
   have b:valueAt (q::qs) k=some q.2:=by simp[valueAt,Z8,e']
   rw[tU e,b];exact h2
  ·have e':¬q.1=k:=λz=>e (h1.trans z)
   have b:valueAt (q::qs) k=valueAt qs k:=by simp[valueAt,Z8,e']
   rw[vB e,b];exact ih
theorem KV.any{j':List (κ×V)}{vs:List (κ×Value)}(r:KV j' vs)(k:κ):(j'.any λkv=>decide (kv.1=k))=vs.any λkv=>decide (kv.1=k):=by
 unfold KV at r
 induction r with
 |nil=>rfl
 |cons h t ih=>rw[aak,aak,ih,h.1]
theorem KV.wA(r:KV j' vs)(k:κ)(ry:RelV y u):
  KV (j'.map λkv=>if kv.1=k then(kv.1,y)else kv) (vs.map λkv=>if kv.1=k then(kv.1,u)else kv):=by
 unfold KV at r ⊢
 induction r with
 |nil=>exact .nil
 | @cons p q ps qs h t ih=>
  rw[Pi,Pi];refine .cons ?_ ih;obtain⟨h1,h2⟩:=h;by_cases e:p.1=k
  ·rw[AC e,AC (h1.symm.trans e)];exact⟨h1,ry⟩
  ·rw[DF e,DF (λz=>e (h1.trans z))];exact⟨h1,h2⟩
theorem KV.put(r:KV j' vs)(k:κ)(ry:RelV y u):KV (putK j' k y) (stored vs k u):=by
 unfold putK stored;rw[r.any k];by_cases e:(vs.any λkv=>decide (kv.1=k))=true
 ·rw[AC e,AC e];exact r.wA k ry
 ·rw[DF e,DF e];exact Paired.snoc r ⟨rfl,ry⟩
theorem KV.length{j':List (κ×V)}{vs:List (κ×Value)}(r:KV j' vs):j'.length=vs.length:=abu r
end
theorem iX(r:RelV (kV k) u):(cK P w).is k u=true:=by
 cases k with
 |inl i=>obtain⟨t,e⟩:=(show ∃t,u=Value.int i t from r);subst e;exact Ka P w i t
 |inr x=>obtain⟨t,e⟩:=(show ∃t,u=Value.str x t from r);subst e;exact uM P w x t
theorem yO:∀ {ks:List Key} {us:acQ},Vals (ks.map kV) us->ItemsAre (cK P w) ks us
 |[],_,r=>by rw[ZO]at r;cases r;exact .nil
 | k::ks,_,r=>by
  rw[Pi]at r;cases r with
  |cons h t=>exact .cons (iX h) (yO t)
abbrev KT(H:Hp):List (List Key×V)->List (List Key×Addr×Value)->Prop:=Paired λp q=>p.1=q.1/\H q.2.1=some (.tup (p.1.map kV))/\RelV p.2 q.2.2
theorem KT.val{H:Hp}{j':List (List Key×V)}{xs:List (List Key×Addr×Value)}(r:KT H j' xs)(k:List Key):gA (eI j' k) ((atKey xs k).map (·.2)):=by
 induction r with
 |nil=>exact True.intro
 | @cons p q ps qs h t ih=>
  obtain⟨h1,_,h2⟩:=h;by_cases e:p.1=k
  ·have e':q.1=k:=h1.symm.trans e
   have b:atKey (q::qs) k=some q.2:=by simp[atKey,Z8,e']
   rw[tU e,b];exact h2
  ·have e':¬q.1=k:=λz=>e (h1.trans z)
   have b:atKey (q::qs) k=atKey qs k:=by simp[atKey,Z8,e']
   rw[vB e,b];exact ih
theorem KT.wA(r:KT H j' xs)(k:List Key)(ry:RelV y u):
  KT H (j'.map λkv=>if kv.1=k then(kv.1,y)else kv) (xs.map (putAt k u)):=by
 induction r with
 |nil=>exact .nil
 | @cons p q ps qs h t ih=>
  rw[Pi,Pi];refine .cons ?_ ih;obtain⟨h1,h2,h3⟩:=h;unfold putAt;by_cases e:p.1=k
  ·rw[AC e,AC (h1.symm.trans e)];exact⟨h1,h2,ry⟩
  ·rw[DF e,DF (λz=>e (h1.trans z))];exact⟨h1,h2,h3⟩
theorem KT.put(r:KT H j' xs)(k:List Key)(hb:H b=some (.tup (k.map kV)))(ry:RelV y u):
  KT H (putK j' k y) (storedH xs k b u):=by
 have e:(j'.any λkv=>decide (kv.1=k))=(atKey xs k).isSome:=by
  rw[Bn,(r.val k).Kr,acg]
 unfold putK storedH;rw[e];by_cases q:(atKey xs k).isSome=true
 ·rw[AC q,AC q];exact r.wA k ry
 ·rw[DF q,DF q];exact Paired.snoc r ⟨rfl,hb,ry⟩
theorem KT.keeps{H H':Hp}{j':List (List Key×V)}{xs:List (List Key×Addr×Value)}(r:KT H j' xs)(ht:∀b ys,H b=some (.tup ys)->H' b=some (.tup ys)):KT H' j' xs:=
 Paired.wj r λ_ _ z=>⟨z.1,ht _ _ z.2.1,z.2.2⟩
section
variable{P:Program}{w:World}{H:Hp}{h:Heap}{a:Addr}
theorem Ab(ok:cg P w H h)(e:Rd H a u):cL P w H h a u:=e.ok ok
theorem xK(ok:cg P w H h)(e:Rd H a (.dK j')):j'.length<=sizeLine/\(a==sysModules)=false/\∃vs,KV j' vs/\h.DictOf (cK P w) a vs:=
 show cL P w H h a (.dK j')from Ab ok e
theorem uD(ok:cg P w H h)(e:H a=some (.dK j')):j'.length<=sizeLine/\(a==sysModules)=false/\∃vs,KV j' vs/\h.DictOf (cK P w) a vs:=xK ok (.inl e)
theorem yD{ks:List Key}(ok:cg P w H h)(e:H a=some (.tup (ks.map kV))):(tupleKind (cK P w)).is h ks a:=by
 obtain⟨_,aq,r,o,h1,h2,n,h3⟩:=(show cL P w H h a (.tup (ks.map kV))from ok a _ e)
 exact⟨o,aq.toArray,n,h1,h2,h3,by simpa using yO r⟩
theorem Il(ok:cg P w H h)(e:Rd H a (.dT j')):j'.length<=sizeLine/\(a==sysModules)=false/\
  ∃xs,KT H j' xs/\h.DictOfH (tupleKind (cK P w)) a xs:=by
 obtain⟨z,y,xs,r,o,es,ep,h1,h2,h3,h4,h5⟩:=(show cL P w H h a (.dT j')from Ab ok e)
 refine⟨z,y,xs,r,o,es,ep,h1,h2,h3,h4,λx hx=>?_,h5⟩
 have all:∀ {l:List (List Key×V)} {m:List (List Key×Addr×Value)},KT H l m->∀x∈m,(tupleKind (cK P w)).is h x.1 x.2.1:=by
  intro l m q
  induction q with
  |nil=>intro x hx;exact nomatch hx
  | @cons p q ps qs hq t ih=>
   intro x hx;rcases Da.mp hx with e|hx
   ·subst e
    exact yD ok (by rw[<-hq.1];exact hq.2.1)
   ·exact ih x hx
 exact all r x hx
theorem ER(ok:cg P w H h)(e:H a=some (.dT j')):j'.length<=sizeLine/\(a==sysModules)=false/\
  ∃xs,KT H j' xs/\h.DictOfH (tupleKind (cK P w)) a xs:=Il ok (.inl e)
end
def j6(H:Hp)(a:Addr)(y v:V)(H':Hp):Prop:=
 (∃j' k,H a=some (.dK j')/\y=kV k/\j'.length<sizeLine/\H'=upd H a (.dK (putK j' k v)))\/
 ∃j' k b,H a=some (.dT j')/\y=.ref b/\H b=some (.tup (k.map kV))/\j'.length<sizeLine/\H'=upd H a (.dT (putK j' k v))
theorem j6.k{H:Hp}{a:Addr}{j':List (Key×V)}{k:Key}{v:V}(e:H a=some (.dK j'))(hl:j'.length<sizeLine):j6 H a (kV k) v (upd H a (.dK (putK j' k v))):=.inl ⟨j',k,e,rfl,hl,rfl⟩
section
variable{X:Cx}{pins:List (Addr×Obj)}{σ:St}{H:Hp}{s:Shared}{a:Addr}{y v:V}{u r:Value}{o:Option V}{A:Around}{E:Value->Shared->Prop}
theorem Inv.big(I:Inv X pins σ H s):sysModules<s.heap.objs.size:=by
 have h:mainGlobals<s.heap.objs.size:=(I.mod.glob.keeps I.bk).lt;exact abm (by decide) h
theorem sG(I:Inv X pins σ H s)(mu:pB (H a))(hs:Heap.SameBut a s.heap h')(he:∃q,h'.get? a=some q)(new:cL X.prog X.w (upd H a ob) h' a ob):
  Inv X pins σ (upd H a ob) {s with heap:=h',toks:=t'}:=
 I.write (x:=a) (e:=a) mu (.inl rfl) (λb q hb z=>(hs.2 b hb).trans z) he new
theorem oG(z:j'.length<=sizeLine)(hd:(a==sysModules)=false)(rel:KV j' vs)(dd:h'.DictOf (cK P w) a vs):
  cL P w H' h' a (.dK j'):=⟨z,hd,vs,rel,dd⟩
theorem Ej{H':Hp}{Q:Unit->Shared->Prop}(hu:A.units+1<cLine)(I:Inv X pins σ H s)(g:j6 H a y v H')(ry:RelV y u)(rv:RelV v r)(h:∀s',Inv X pins σ H' s'->Q () s'):
  wpAny (model X.prog X.w) A (setItem (.ref a) u r) Q E s:=by
 rcases g with⟨j',k,e,ey,l,eH⟩|⟨j',k,b,e,ey,eb,l,eH⟩
 ·subst ey eH
  obtain⟨z,hd,vs,rel,dd⟩:=uD I.aQ e;have hz:vs.length<=sizeLine:=by rw[<-rel.length];exact z
  have hl:(putK j' k v).length<=sizeLine:=by have:=uP j' k v;omega
  refine wpAny_setItem_pairs (hsz:=hz) (iX ry) dd λh' Sf hs=>h _ ?_;have he:∃q,h'.get? a=some q:=let⟨q,_,_,hq,_⟩:=Sf;⟨q,hq⟩
  exact sG I (by rw[e];exact True.intro) hs he (oG hl hd (rel.put k rv) Sf)
 ·subst ey eH
  cases (show u=Value.ref b from ry)
  obtain⟨z,hd,xs,rel,dd⟩:=ER I.aQ e;have hz:xs.length<=sizeLine:=by rw[<-abu rel];exact z
  have hl:(putK j' k v).length<=sizeLine:=by have:=uP j' k v;omega
  refine wpAny_setItem_heap (hsz:=hz) (tupleKind_room_in1 hu) (yD I.aQ eb) dd λh' Sf hs=>h _ ?_;obtain⟨q,es,ep,hq,h2,h3,h4,_,h5⟩:=Sf;refine sG I (by rw[e];exact True.intro) hs ⟨q,hq⟩ ⟨hl,hd,_,(rel.put k eb rv).keeps λc ys ec=>?_,q,es,ep,hq,h2,h3,h4,h5⟩
  rw[aN (Ii ec e (λz=>nomatch z))]
  exact ec
end
def Jj(td ty tv:TE):TS:=λD σ H=>tv σ H λv H1=>td σ H1 λx H2=>ty σ H2 λy H3=>∃a H4,x=.ref a/\j6 H3 a y v H4/\D.nx σ H4
section
variable{X:Cx}{o i e value:Expr}{pos pos' Uu:Pos}{td ty tv:TE}
theorem rO(hu:X.A.units+1<cLine)(ho:PE X o td)(hi:PE X i ty)(hv:PE X value tv)(hs:swapsWith value (some (.Subscript o i pos')) pos.line X.env=pure false):
  PS X (.Assign [.Subscript o i pos'] value pos) (Jj td ty tv):=by
 intro pins s σ H D I h;refine wpAny_Assign_Subscript (aW (hv pins s σ H _ I h) λr s1 ⟨v,H1,I1,rv,q1⟩=>aW (ho pins s1 σ H1 _ I1 q1) λu s2 ⟨x,H2,I2,rx,q2⟩=>aW (hi pins s2 σ H2 _ I2 q2) λiv s3 ⟨y,H3,I3,ry,a,H4,ex,g,q3⟩=>?_) hs;subst ex;obtain rfl:u=Value.ref a:=rx;exact Ej hu I3 g ry rv λs4 I4=>⟨σ,H4,I4,q3⟩
end
theorem yU(h:Heap)(hb:sysModules<h.objs.size):cL P w H (h.push {cls:=.type "dict",data:=.dict #[]}) h.objs.size (.dK []):=
 ⟨Xm _,ZY.mpr (P3 (Pv hb)),[],.nil,Heap.DictOf.new h⟩
def L6:TE:=λ_ H Q=>∀p,H p=none->Q (.ref p) (upd H p (.dK []))
section
variable{X:Cx}{pos:Pos}
theorem AM:PE X (.Dict [] [] pos) L6:=λpins s σ H Q I h=>
 wpAny_Dict_empty ⟨.ref s.heap.objs.size,_,I.laid (a:=s.heap.objs.size) (o:=.dK []) (t':=s.toks) (λ_ _ q=>mB _ q) (Gc _) (yU s.heap I.big),rfl,h _ (I.aQ.fresh (Gc _))⟩
end
def m4:List (TE×TE)->St->Hp->(List (V×V)->Hp->Prop)->Prop
 |[],_,H,Q=>Q [] H
 |(tk,tv)::r,σ,H,Q=>tk σ H λx H1=>tv σ H1 λy H2=>m4 r σ H2 λps H3=>Q ((x,y)::ps) H3
abbrev VV:List (V×V)->List (Value×Value)->Prop:=Paired λp q=>RelV p.1 q.1/\RelV p.2 q.2
def kA(X:Cx)(pos:Pos)(keys:List (Option Expr))(values:acP)(N4:List (TE×TE)):Prop:=
 ∀(pins:List (Addr×Obj)) (s:Shared) (σ:St) (H:Hp) (Q:List (V×V)->Hp->Prop),Inv X pins σ H s->m4 N4 σ H Q->
  wpAny (model X.prog X.w) X.A (evalPairs (pairTrees keys values X.env pos)) (λvs s'=>∃ps H',Inv X pins σ H' s'/\VV ps vs/\Q ps H') X.xe s
theorem qN:kA X pos [] [] []:=λpins s σ H Q I h=>pairTrees_nil_walk ⟨[],H,I,.nil,h⟩
theorem pZ(hk:PE X k tk)(hv:PE X v tv)(hr:kA X pos ks vs N4):
  kA X pos (some k::ks) (v::vs) ((tk,tv)::N4):=λpins s σ H Q I h=>
 pairTrees_cons_walk (aW (hk pins s σ H _ I h) λu s1 ⟨x,H1,I1,rx,q1⟩=>aW (hv pins s1 σ H1 _ I1 q1) λw2 s2 ⟨y,H2,I2,ry,q2⟩=>
  aW (hr pins s2 σ H2 _ I2 q2) λws s3=>by rintro⟨ps,H3,I3,rel,q3⟩;exact ⟨(x,y)::ps,H3,I3,.cons ⟨rx,ry⟩ rel,q3⟩)
noncomputable def eO(j' more:List (Key×V)):List (Key×V):=more.foldl (λacc kv=>putK acc kv.1 kv.2) j'
theorem KV.merge:∀ {more:List (Key×V)} {rs:List (Key×Value)} {j':List (Key×V)} {vs:List (Key×Value)},KV more rs->KV j' vs->KV (eO j' more) (merged vs rs):=by
 intro more rs j' vs r;unfold KV at r
 induction r generalizing j' vs with
 |nil=>intro q;exact q
 | @cons p q ps qs h t ih=>
  intro r0
  have e:KV (putK j' p.1 p.2) (stored vs q.1 q.2):=by
   have:=r0.put p.1 h.2;rw[<-h.1];exact this
  exact ih e
theorem sy:∀(more j':List (Key×V)),(eO j' more).length<=j'.length+more.length
 |[],j'=>by show j'.length<=j'.length+0;omega
 | p::r,j'=>by
  have h1:=sy r (putK j' p.1 p.2);have h2:=uP j' p.1 p.2;show(eO (putK j' p.1 p.2) r).length<=_;rw[Z1];omega
theorem Cg:∀ {j':List (Key×V)} {ws:List (Value×Value)},VV (j'.map λkv=>(kV kv.1,kv.2)) ws->∃rs,Carries (cK P w) ws rs/\KV j' rs
 |[],_,r=>by rw[ZO]at r;cases r;exact⟨[],True.intro,.nil⟩
 | p::j',_,r=>by
  rw[Pi]at r;cases r with
  | @cons a b as bs h t=>
   obtain⟨rs,c,q⟩:=Cg (P:=P) (w:=w) t;obtain⟨b1,b2⟩:=b;exact⟨(p.1,b2)::rs,⟨iX h.1,rfl,c⟩,.cons ⟨rfl,h.2⟩ q⟩
def HN(N4:List (TE×TE)):TE:=λσ H Q=>∀p,H p=none->m4 N4 σ (upd H p (.dK [])) λps H2=>H2 p=some (.dK [])/\∃j':List (Key×V),ps=j'.map (λkv=>(kV kv.1,kv.2))/\j'.length<=15/\Q (.ref p) (upd H2 p (.dK (eO [] j')))
theorem sJ(h:kA X pos keys values N4)(O9:keys.all (·.isSome)=true)(hl:keys.length=values.length)(h0:keys≠[])
  (PZ:keys.length<=15):PE X (.Dict keys values pos) (HN N4):=by
 intro pins s σ H Q I q;have hn:=I.aQ.fresh (Gc s.heap.objs.size);have I1:=I.laid (a:=s.heap.objs.size) (o:=.dK []) (h':=s.heap.push {cls:=.type "dict",data:=.dict #[]}) (t':=s.toks) (λ_ _ q=>mB _ q) (Gc _) (yU s.heap I.big);refine wpAny_Dict_walk (knd:=cK X.prog X.w) O9 hl h0 PZ (aW (h pins _ σ _ _ I1 (q _ hn)) λws s2 ⟨ps,H2,I2,rel,e,j',ep,lk,q2⟩=>?_);subst ep;obtain⟨rs,c,rk⟩:=Cg (P:=X.prog) (w:=X.w) rel;obtain⟨z,hd,Zs,r0,dd⟩:=uD I2.aQ e;cases r0;refine⟨rs,c,dd,λh' Sf hs=>⟨.ref s.heap.objs.size,_,?_,rfl,q2⟩⟩
 have hz:(eO [] j').length<=sizeLine:=by
  have h1:=sy j' [];rw[abx]at h1;rw[aad];omega
 have he:∃q,h'.get? s.heap.objs.size=some q:=let⟨q,_,_,hq,_⟩:=Sf;⟨q,hq⟩
 exact sG I2 (by rw[e];exact True.intro) hs he (oG hz hd (rk.merge .nil) Sf)
structure M1(X:Cx)(o:Expr)(m:Str)(apos:Pos)(e:Expr)(NW:Pos):Prop where
 base:attributeBase o m X.env (eval o X.env)=eval o X.env
 sH:((backTo NW (starEach [e] X.env)).all (λx=> !x.1)&&(backToKw NW (keywordEach [] X.env)).all (λx=>x.1.isSome)
  &&decide (([e]:acP).length+([]:List Keyword).length+(if([]:List Keyword).isEmpty then 0 else 1)<30))=true
 line:(apos.endLine==NW.line)=true
 trees:backTo NW (starEach [e] X.env)=[(false,eval e X.env)]
end L2
namespace tT
open PySem PySem.W PySem.Calls PyProof.Rows
theorem Gs:∀(ns:Xj) (vs:acQ),WellAll P h vs (ns.map WData.int)->IntsAre vs ns:=by
 intro ns
 induction ns with
 | nil=>
  intro vs w;rw[ZO]at w;cases w;exact .nil
 | cons n ns ih=>
  intro vs w;rw[Pi]at w;cases w with
  | cons a b=>
   cases a;exact .cons _ _ (ih _ b)
theorem GW{l:OpenLaw}{n:Nat}(hn:l.most=some n){P:Params}{h:Heap}{args:List WData}{vals:acQ}
  (Rl:l.row.toRowW.claim.pre args=true) (UB:WellAll P h vals args):
  ∃a vs ns,vals=[Value.ref a]/\args=[WData.list (ns.map WData.int)]/\h.get? a=some {cls:=.type "list",data:=.seq vs.toArray}/\IntsAre vs ns/\ns.length<=n:=by
 have Zd:WShape.hasAll [] args [.list .int]=true:=(pre_splitW Rl).1;have hc:l.pre.holds [] {args:=args}=true:=(pre_splitW Rl).2;obtain⟨d,r,rfl,h1,h2⟩:=hasAllW_cons Zd;obtain rfl:=hasAllW_nil h2;obtain⟨xs,rfl,h3⟩:=hasW_list h1;obtain⟨ns,rfl⟩:=items_int h3
 have hlen:ns.length<=n:=by
  unfold OpenLaw.pre at hc
  have h4:(WTm.not (.lt (.lit (.int (n:Int))) (.len (.arg 0)))).holds [] {args:=[.list (ns.map .int)]}=true:=by
   have h4:=(holds_andW hc).1;rw[hn]at h4;exact h4
  have h5:=condW_of h4 (w_not (w_lt w_lit (w_len_list (w_arg rfl))));rw[GE]at h5;refine Nat.le_of_not_lt λq=>?_;have q':(n:Int)<((ns.length:Nat):Int):=by omega
  first
   |(rw[FS q']at h5;exact absurd h5 (by decide))
   |(simp at h5;omega)
 cases UB with
 | cons w1 w2=>
  cases w2;cases w1 with
  |list ho O9=>exact⟨_,_,ns,rfl,rfl,ho,Gs ns _ O9,hlen⟩
theorem M4(l:OpenLaw)(args:List WData):l.row.toRowW.claim.post args (.bool true) args=true:=
 postW_of (r:=l.row.toRowW) (X:=(true==true))
  (show WShape.has [] (.bool true) .bool=true by first|rfl|decide|simp[WShape.has,WShape.arms,WShape.armsAll])
  (show(WTm.eq .res (.lit (.bool true))).value [] {args:=args,res:=some (.bool true),after:=args}=some (.bool (true==true))from w_eq_bool (w_res rfl) w_lit) rfl
theorem CJ{l:OpenLaw}{n:Nat}{q:Program}{loose:List Str}{XP:(Str->acR)->Heap->Prop}{YP:World->Heap->Prop}{d:DefRec}
  (hn:l.most=some n) (TJ:d.params.defaults=[])
  (call:∀(w:World) (cY B':Shared) (mg mb:Str->acR) (fa:Addr) (o:Obj) (pm cd doc:Value) (a:Addr) (vs:acQ) (ns:Xj),
   Ground q loose [] XP w cY mg mb B'.heap->YP w B'.heap->
   B'.heap.get? fa=some o->o.data=.func (docDef d.name d.params d.body d.scope pm cd doc)->B'.heap.CodeRec cd d.name->mg d.name=some (.ref fa)->
   B'.heap.get? a=some {cls:=.type "list",data:=.seq vs.toArray}->IntsAre vs ns->ns.length<=n->B'.gens= #[]->
   codeAny (model l.prog w) callerA (.call (.ref fa) ⟨[.ref a],[]⟩) (λr s'=>r=.ok (.ret (.bool true))/\OldK B'.heap s'.heap/\s'.os=B'.os/\AllBare s'.gens) B'):
  WalkO q loose XP YP l.row.toRowW d [] (λf vs=>PySem.call f vs):=by
 intro w cY B' mg mb G Y fa o pm cd doc dV kV ho hd Oh hD hmg hg args vals as Rl Xy Zy UB VD;obtain rfl:dV=.none:=Dflts.none hD TJ;obtain rfl:kV=.none:=Dflts.noKw hD;obtain⟨a,vs,ns,rfl,rfl,QL,hints,hlen⟩:=GW hn Rl UB;refine enter_call (aaP (call w cY B' mg mb fa o pm cd doc a vs ns G Y ho (fd_plain hd) Oh hmg QL hints hlen hg) λr s' hq=>?_);obtain⟨rfl,h2,h3,h4⟩:=hq;exact⟨.inl ⟨.bool true,.bool true,[],rfl,λ_=>rfl,.bool true,M4 l _,λ_=>⟨List.Pairwise.nil,λ_ hm=>(nomatch hm)⟩⟩,h2,h3,h4⟩
end tT
namespace L2
open PySem PySem.Spec PyProof.Rows
theorem uA:∀ {vs:acQ} {ns:Xj},IntsAre vs ns->Vals (ns.map V.int) vs
 |_,_,.nil=>.nil
 |_,_,.cons n t h=>.cons ⟨t,rfl⟩ (uA h)
def xH(H:Hp):Prop:=∀b,H b=none\/∃o xs,H b=some (.frz o (.lst xs))
theorem Jo{P:Program}{w:World}{K:PySem.W.Frag}{mg mb:Str->acR}{CX:ij}{k:Nat}{fa a:Addr}{fd:FuncData}{x:Str}{sp:Sp}{B':Shared}{vs:acQ}{ns:Xj}
  (KX:K.In B'.heap) (PF:B'.heap.Ns mainGlobals mg) (hb:B'.heap.Ns builtinsNs mb) (Vr:∀x:Str,x≠"__name__"->mb x=bootBuiltins x) (Sb:B'.heap.NoLimit) (hg:B'.gens= #[])
  (ha:B'.heap.get? a=some {cls:=.type "list",data:=.seq vs.toArray}) (hi:IntsAre vs ns) (hl:ns.length<=sizeLine) (hr:cz k callerA)
  (F:∀base:Heap,K.In base->base.Ns mainGlobals mg->fE P w K mg base CX k fa fd [x] sp) (QH:∀(s:Shared) (u:Value),BindsTo s fd ⟨[u],[]⟩ [(x,u)])
  (PH:∀H:Hp,xH H->bP K H a (ns.map V.int)->sp [.ref a] H (λv _=>v=.bl true) λ_ _ _=>False)
  (Vn:∀H e s',CX [] H B' (λ_ _ _=>False) e s'->False):
  codeAny (model P w) callerA (.call (.ref fa) ⟨[.ref a],[]⟩) (λr s'=>r=.ok (.ret (.bool true))/\OldK B'.heap s'.heap/\s'.os=B'.os/\AllBare s'.gens) B':=by
 have rv:=uA hi;have Sj:=hi.length
 have core:∀H:Hp,xH H->bP K H a (ns.map V.int)->cg P w H B'.heap->(∀b,H b≠none->b=a)->(H a≠none->K.lookup a=none)->
   codeAny (model P w) callerA (.call (.ref fa) ⟨[.ref a],[]⟩) (λr s'=>r=.ok (.ret (.bool true))/\OldK B'.heap s'.heap/\s'.os=B'.os/\AllBare s'.gens) B':=by
  intro H hO hS aQ hA hK;have OG:∀ {b:Addr} {o:Obj},B'.heap.get? b=some o->H b=none->(eJ B'.heap H).get? b=some o:=λe n=>Ap e n
  have Rg:∀ {b:Addr} {o:Obj} {es:Array DictEntry} {ep:Nat},B'.heap.get? b=some o->o.data=.dict es ep->H b=none:=λ{b o es ep} e d=>by
   cases q:H b with
   |none=>rfl
   | some u=>
    have e':b=a:=hA b (by rw[q];simp)
    subst e';rw[ha]at e;cases e;have d':Data.seq vs.toArray _=Data.dict es ep:=d;cases d'
  have Rh:∀ {b:Addr} {m:Str->acR},B'.heap.Ns b m->(eJ B'.heap H).Ns b m:=λ{b m} ⟨o,es,ep,e,d,r⟩=>⟨o,es,ep,OG e (Rg e d),d,r⟩
  have SE:K.In (eJ B'.heap H):=λb o e=>OG (KX b o e) (by
   cases q:H b with
   |none=>rfl
   | some u=>
    have e':b=a:=hA b (by rw[q];simp)
    subst e';rw[hK (by rw[q];simp)]at e;cases e)
  have hM:Mod K mg (eJ B'.heap H):=⟨SE,Rh PF,⟨mb,Rh hb,Vr⟩,let⟨mc,h1,h2⟩:=Sb;⟨mc,Rh h1,h2⟩⟩
  have e0:jA P w K mg (eJ B'.heap H) callerA [] B' H:=⟨rfl,hM,λb o e=>zN e,Z5 (yN _ _),trivial,λb hb=>absurd (show b∈([]:Zx)from hb) (by simp),aQ,.of_eq hg,λb e=>yE e⟩
  refine aaP ((F _ SE (Rh PF)).run callerA [] B' H ⟨[.ref a],[]⟩ [.ref a] [.ref a] _ _ hr e0 (QH B' (.ref a)) (.cons rfl .nil) (PH H hO hS)) λr s' h=>?_;cases r with
  |error e=>exact(Vn H e s' h).elim
  | ok fl=>
   cases fl with
   |next=>exact False.elim h
   |brk=>exact False.elim h
   |cont=>exact False.elim h
   | ret u=>
    obtain⟨v,H',os,bare,un,P7,r',q⟩:=h;have q':v=.bl true:=q;subst q';obtain rfl:u=Value.bool true:=r';refine⟨rfl,OldK.of_keep λb o e=>?_,os,bare⟩;cases q:H b with
    |none=>exact un.keep b o e q (by intro z;exact absurd (show b∈([]:Zx)from z) (by simp)) (by simp)
    | some u=>
     rcases hO b with z|⟨ob,xs,z⟩
     ·rw[q]at z;cases z
     ·have z2:=un.gj b ob _ z
      obtain⟨e1,_⟩:=aQ b _ z;obtain⟨e2,_⟩:=P7 b _ z2;rw[e]at e1;cases e1;exact e2
 cases hk:K.lookup a with
 | some o=>
  have e:=KX a o hk;rw[ha]at e;cases e;refine core (λ_=>none) (λ_=>.inl rfl) (.inr ⟨_,vs.toArray,_,hk,rfl,rfl,rfl,by rw[IR,Sj];exact hl,by simpa using rv⟩) (λb u z=>by have z':(none:Option HO)=some u:=z;cases z') (λb z=>absurd rfl z) λz=>absurd rfl z
 | none=>
  refine core (λb=>if b=a then some (.frz {cls:=.type "list",data:=.seq vs.toArray} (.lst (ns.map V.int)))else none) (λb=>?_) (.inl (.inr ⟨{cls:=.type "list",data:=.seq vs.toArray},AC rfl⟩)) (λb u z=>?_) (λb z=>?_) λ_=>hk
  ·by_cases hb:b=a
   ·exact .inr ⟨_,_,AC hb⟩
   ·exact .inl (DF hb)
  ·by_cases hb:b=a
   ·have z':=(AC hb).symm.trans z
    cases z';subst hb;exact⟨ha,by rw[GE];exact hl,vs,_,rv,ha⟩
   ·have z':=(DF hb).symm.trans z
    cases z'
  ·by_cases hb:b=a
   ·exact hb
   ·exact absurd (DF hb) z
noncomputable abbrev Nw{K:PySem.W.Frag}{h:Heap}(_:K.In h):PySem.W.Frag:=K
theorem Nz{l:PySem.W.OpenLaw}{n k:Nat}{q:Program}{loose:List Str}{XP:(Str->acR)->Heap->Prop}{YP:World->Heap->Prop}{d:DefRec}{K:Params->PySem.W.Frag}{CX:World->ij}{sp:World->Sp}{x:Str}
  (hn:l.most=some n) (Th:n<=sizeLine) (TJ:d.params.defaults=[]) (hr:cz k callerA)
  (hY:∀(w:World) (h:Heap),YP w h->(K w.params).In h)
  (F:∀(w:World) (mg:Str->acR) (fa:Addr) (h:Heap),(K w.params).In h->h.Ns mainGlobals mg->mg d.name=some (.ref fa)->
   ∃fd:FuncData,(∀(s:Shared) (u:Value),BindsTo s fd ⟨[u],[]⟩ [(x,u)])/\
    ∀base:Heap,(K w.params).In base->base.Ns mainGlobals mg->fE l.prog w (K w.params) mg base (CX w) k fa fd [x] (sp w))
  (PH:∀(w:World) (H:Hp) (a:Addr) (ns:Xj),ns.length<=n->xH H->bP (K w.params) H a (ns.map V.int)->sp w [.ref a] H (λv _=>v=.bl true) λ_ _ _=>False)
  (Vn:∀(w:World) (H:Hp) (s:Shared) (e:Value) (s':Shared),CX w [] H s (λ_ _ _=>False) e s'->False):
  PySem.W.WalkO q loose XP YP l.row.toRowW d [] (λf vs=>PySem.call f vs):=by
 refine tT.CJ hn TJ λw cY B' mg mb fa o pm cd doc a vs ns G Y ho hd Oh hmg QL hints hlen hg=>?_;have KX:=hY w _ Y;obtain⟨fd,hb,hF⟩:=F w mg fa _ KX G.T.g hmg;exact Jo KX G.T.g G.T.b G.T.builtins G.T.nolimit hg QL hints (Re hlen Th) hr hF hb (λH hO hS=>PH w H a ns hlen hO hS) λH e s'=>Vn w H B' e s'
noncomputable def jr(s:Stmt):Arguments:=match s with
 |.FunctionDef _ a _ _ _ _ _ _ _ _=>a
 |_=>{posonlyargs:=[],args:=[],vararg:=none,kwonlyargs:=[],kw_defaults:=[],kwarg:=none,defaults:=[]}
noncomputable def dE(s:Stmt):List Stmt:=match s with
 |.FunctionDef _ _ b _ _ _ _ _ _ _=>b
 |_=>[]
noncomputable def aX(s:Stmt):Scope:=match s with
 |.FunctionDef _ _ _ _ _ _ sc _ _ _=>sc
 |_=>{kind:=.function,names:=[],isGenerator:=false,isCoroutine:=false}
noncomputable abbrev dP:ij:=λ_ _ _ _ _ _=>False
noncomputable abbrev E0:XK:=λ_ _ _=>False
theorem ve:Passes dP X E0:=λ_ _ _ _ _ _ _ h=>h.elim
structure gY(K:PySem.W.Frag)(x qual:Str)(st:Stmt)(f:Addr)(fd:FuncData):Prop where
 ex:∃(oc:Value) (od:Option Addr) (kV doc pm:Value) (an:Option Addr) (M' ct:Value) (Pk:Array (acR)),
  fd=PySem.W.fnOf x qual (jr st) (dE st) (aX st) .none kV doc pm an M' ct/\K.lookup f=some ⟨oc,od,.func fd,Pk⟩/\PySem.W.codeIn K M' qual=true
 kp:PySem.W.keepIn K (.ref f)=true
section
variable{P:Program}{w:World}{K:PySem.W.Frag}{mg:Str->acR}{base:Heap}
theorem gY.ok{x qual:Str}{st:Stmt}{f:Addr}{fd:FuncData}{N ps:List Str}{k:Nat}{sp:Sp}(F:gY K x qual st f fd)(S:bD N ps (aX st))(len:∀vs H Q E,sp vs H Q E->vs.length=ps.length)
  (PD:∀(M':Value) (A:Around) (outer:List Env) (s:Shared) (H:Hp) (vs:List V) (Q:VK) (E:XK),cz k (A.deeper (envOfC qual (aX st) s.heap.objs.size f M'))->sp vs H Q E->
   ∃t,cH (gh dP P w K mg base N qual (aX st) f M' A outer s H E).gw (dE st) t/\t {nx:=λ_ H'=>Q .aE H',rt:=Q} (start N vs) H):fE P w K mg base dP (k+1) f fd ps sp:=by
 obtain⟨oc,od,kV,doc,pm,an,M',ct,Pk,rfl,lk,Oh⟩:=F.ex;refine AZ lk Oh S len λA outer s H vs Q E hr PH=>?_;obtain⟨t,h,q⟩:=PD M' A outer s H vs Q E hr PH;exact⟨t,h.gw,q⟩
theorem gY.binds{x qual:Str}{st:Stmt}{f:Addr}{fd:FuncData}{ps:List Str}(F:gY K x qual st f fd)
  (h:∀(kV doc pm:Value) (an:Option Addr) (M' ct:Value) (us:acQ),us.length=ps.length->bindArgs (PySem.W.fnOf x qual (jr st) (dE st) (aX st) .none kV doc pm an M' ct) ⟨us,[]⟩=pure (ps.zip us)):Binds K fd ps []:=by
 obtain⟨oc,od,kV,doc,pm,an,M',ct,Pk,rfl,lk,Oh⟩:=F.ex;exact .all (h kV doc pm an M' ct)
theorem CI{x qual:Str}{st:Stmt}{f:Addr}{oc:Value}{od an:Option Addr}{Pk:Array (acR)}{kV doc pm M' ct:Value}(l:K.lookup f=some ⟨oc,od,.func (PySem.W.fnOf x qual (jr st) (dE st) (aX st) .none kV doc pm an M' ct),Pk⟩)
  (c:PySem.W.codeIn K M' qual=true) (k:PySem.W.keepIn K (.ref f)=true):gY K x qual st f (PySem.W.fnOf x qual (jr st) (dE st) (aX st) .none kV doc pm an M' ct):=⟨⟨oc,od,kV,doc,pm,an,M',ct,Pk,rfl,l,c⟩,k⟩
variable{X:Cx}
theorem pv(i:Nat)(hN:X.N[i]? =some x:=by rfl)(hv:fi X.env.scope x:=by first|exact Or.inl rfl|exact Or.inr (Or.inl rfl)|exact Or.inr (Or.inr rfl))(hd:gV x:=by decide)
  (Oh:tx x:=by decide):PE X (.Name x pos) (Bw i):=Ma hN hv hd Oh
end
def ar(H H':Hp):Prop:=∀b o,H b=some o->H' b=some o
theorem ar.refl(H:Hp):ar H H:=λ_ _ h=>h
theorem ar.trans{H H1 H2:Hp}(a:ar H H1)(b:ar H1 H2):ar H H2:=λc o h=>b c o (a c o h)
theorem ar.free{H H':Hp}(e:ar H H'){l:Addr}(h:H' l=Option.none):H l=Option.none:=by
 cases q:H l with
 |none=>rfl
 | some o=>
  rw[e l o q]at h;cases h
end L2
namespace PL
open PySem
noncomputable abbrev Ky:=Sum Int Str
inductive D where
 |aE|bl (b:Bool)|int (i:Int)|str (x:Str)
 |tup (xs:List D)|lst (xs:List D)|aA (ks:List Ky) (vs:List D)|cE (c:Str) (ns:List Str) (vs:List D)
 deriving Inhabited
inductive R(α:Type) where
 |ok (a:α)|exc (x:D)|bad
namespace R
noncomputable def bind{α β:Type}:R α->(α->R β)->R β
 |.ok a,f=>f a
 |.exc x,_=>.exc x
 |.bad,_=>.bad
@[simp] theorem bo{α β:Type}(a:α)(f:α->R β):(R.ok a).bind f=f a:=rfl
@[simp] theorem Nt{α β:Type}(x:D)(f:α->R β):(R.exc x).bind f=.exc x:=rfl
@[simp] theorem Nf{α β:Type}(f:α->R β):(R.bad:R α).bind f=.bad:=rfl
end R
inductive Kd where
 |l|m (ks:List Ky)|u|x (ks:List (List Ky))
 deriving Inhabited
inductive T where
 |d (x:D)|n (k:Kd) (ts:List T)
 deriving Inhabited
noncomputable abbrev T.l(ts:List T):T:=.n .l ts
noncomputable abbrev T.m(ks:List Ky)(ts:List T):T:=.n (.m ks) ts
noncomputable abbrev T.tu(ts:List T):T:=.n .u ts
noncomputable abbrev T.mx(ks:List (List Ky))(ts:List T):T:=.n (.x ks) ts
noncomputable def Kd.own:Kd->Bool
 |.u=>false
 |_=>true
noncomputable def T.own:T->Bool
 |.d _=>false
 |.n k _=>k.own
inductive Sp where
 |tr (t:T)|al (i:Nat) (p:List Nat)
 deriving Inhabited
inductive Slot where
 |un|sh (d:D)|ol (xs:List D)|od (ks:List Ky) (vs:List D)|on (x:Sp)
 deriving Inhabited
noncomputable abbrev En:=List Slot
noncomputable abbrev Ex:=En->R D
noncomputable abbrev cC:=En->R Bool
noncomputable abbrev d4:Nat:=16777216
mutual
@[simp] noncomputable def cw:D->D->Bool
 |.aE,.aE=>true
 |.bl a,.bl b=>a==b
 |.bl a,.int b=>(if a then 1 else 0)==b
 |.int a,.bl b=>a==(if b then 1 else 0)
 |.int a,.int b=>a==b
 |.str a,.str b=>decide (a=b)
 |.tup a,.tup b=>ki a b
 |.lst a,.lst b=>ki a b
 |_,_=>false
@[simp] noncomputable def ki:List D->List D->Bool
 |[],[]=>true
 |a::as,b::bs=>cw a b&&ki as bs
 |_,_=>false
end
@[simp] noncomputable def flat:D->Bool
 |.aE=>true
 |.bl _=>true
 |.int _=>true
 |.str _=>true
 |_=>false
mutual
noncomputable def lay:D->Bool
 |.aE=>true
 |.bl _=>true
 |.int _=>true
 |.str x=>x.cps.all (· <0x110000)
 |.tup xs=>fW xs
 |.lst xs=>fW xs
 |_=>false
noncomputable def fW:List D->Bool
 |[]=>true
 |x::xs=>lay x&&fW xs
end
mutual
noncomputable def dep:D->Nat
 |.tup xs=>oF xs+1
 |.lst xs=>oF xs+1
 |_=>0
noncomputable def oF:List D->Nat
 |[]=>0
 |x::xs=>max (dep x) (oF xs)
end
@[simp] noncomputable def BS:D->D->Bool
 |.aA _ _,.str _=>true
 |_,_=>false
@[simp] noncomputable def tJ:D->D->Bool
 |.tup _,.tup []=>true
 |_,_=>false
noncomputable def gC(a b:D):Bool:=(flat a&&flat b)||tJ a b||(lay a&&lay b&&decide (min (dep a) (dep b)<=60))
noncomputable def eT(a b:D):Bool:=gC a b||BS a b
theorem q9(ha:flat a=true)(hb:flat b=true):gC a b=true:=by unfold gC;rw[ha,hb];rfl
theorem kY(ha:flat a=true)(hb:flat b=true):eT a b=true:=by unfold eT;rw[q9 ha hb];rfl
@[simp] theorem Ni(a b:Bool):gC (.bl a) (.bl b)=true:=q9 rfl rfl
@[simp] theorem Kx(a b:Int):gC (.int a) (.int b)=true:=q9 rfl rfl
@[simp] theorem Nd(a b:Str):gC (.str a) (.str b)=true:=q9 rfl rfl
@[simp] theorem Nv(a:List Ky)(c:List D)(b:Str):eT (.aA a c) (.str b)=true:=by unfold eT;simp
@[simp] theorem Nn:eT .aE .aE=true:=kY rfl rfl
@[simp] theorem Nu(a b:Bool):eT (.bl a) (.bl b)=true:=kY rfl rfl
@[simp] theorem zQ(a b:Int):eT (.int a) (.int b)=true:=kY rfl rfl
@[simp] theorem NA(a b:Str):eT (.str a) (.str b)=true:=kY rfl rfl
@[simp] theorem Nq(b:Str):eT .aE (.str b)=true:=kY rfl rfl
@[simp] theorem Ny(a:Int)(b:Str):eT (.int a) (.str b)=true:=kY rfl rfl
@[simp] theorem Nj(a:Bool)(b:Str):eT (.bl a) (.str b)=true:=kY rfl rfl
@[simp] theorem Nr(a:List D):eT (.tup a) (.tup [])=true:=by unfold eT gC;simp
@[simp] noncomputable def truth:D->R Bool
 |.aE=>.ok false
 |.bl b=>.ok b
 |.int i=>.ok (i != 0)
 |.str x=>if x.length<=d4 then .ok (x.length != 0)else .bad
 |.tup xs=>.ok (!xs.isEmpty)
 |.lst xs=>.ok (!xs.isEmpty)
 |.aA _ _=>.bad
 |.cE _ _ _=>.bad
noncomputable def dw(n:Nat)(i:Int):Option Nat:=if 0<=i then(if i<n then some i.toNat else none)else if -(n:Int)<=i then some (i+n).toNat else none
noncomputable def cT{α:Type}(xs:List α)(i:Int):Option α:=(dw xs.length i).bind λj=>xs[j]?
noncomputable def bp(n d:Nat):Option Int->Nat
 |none=>d
 |some v=>if v<0 then(v+(n:Int)).toNat else min v.toNat n
noncomputable def cut{α:Type}(xs:List α)(lo hi:Option Int):List α:=(xs.drop (bp xs.length 0 lo)).take (bp xs.length xs.length hi - bp xs.length 0 lo)
noncomputable def inR(j:Int):Bool:=decide (-4611686018427387904<=j)&&decide (j<4611686018427387904)
noncomputable def pC(j:Int):Bool:=decide (0<j)&&decide (j<340282366920938463463374607431768211456)
noncomputable def rm(j:Int):Bool:=decide (0<=j)&&decide (j<=1000)
noncomputable def small(i:Int):Bool:=decide (-18446744073709551616<i)&&decide (i<18446744073709551616)
@[simp] noncomputable def bb:D->D->R D
 |.int i,.int j=>.ok (.int (i+j))
 |.str x,.str y=>if x.length+y.length<=d4 then .ok (.str (x++y))else .bad
 |.lst x,.lst y=>if x.length+y.length<=d4 then .ok (.lst (x++y))else .bad
 |.tup x,.tup y=>if x.isEmpty=false/\x.length+y.length<=d4 then .ok (.tup (x++y))else .bad
 |_,_=>.bad
@[simp] noncomputable def ji:D->D->R D
 |.int i,.int j=>.ok (.int (i - j))
 |_,_=>.bad
@[simp] noncomputable def bZ:D->D->R D
 |.int i,.int j=>if(small i||small j)=true then .ok (.int (i*j))else .bad
 |_,_=>.bad
@[simp] noncomputable def oDiv:D->D->R D
 |.int i,.int j=>if pC j=true then .ok (.int (i / j))else .bad
 |_,_=>.bad
@[simp] noncomputable def oMod:D->D->R D
 |.int i,.int j=>if 0<j then .ok (.int (i % j))else .bad
 |_,_=>.bad
@[simp] noncomputable def b7:D->D->R D
 |.int i,.int j=>if(rm j&&small i)=true then .ok (.int (i ^ j.toNat))else .bad
 |_,_=>.bad
@[simp] noncomputable def tY:D->R D
 |.int i=>.ok (.int (-i))
 |_=>.bad
@[simp] noncomputable def oEq(x y:D):R D:=if eT x y=true then .ok (.bl (cw x y))else .bad
@[simp] noncomputable def dH(x y:D):R D:=if gC x y=true then .ok (.bl (!cw x y))else .bad
@[simp] noncomputable def oLt:D->D->R D
 |.int i,.int j=>.ok (.bl (decide (i<j)))
 |_,_=>.bad
@[simp] noncomputable def oLe:D->D->R D
 |.int i,.int j=>.ok (.bl (decide (i<=j)))
 |_,_=>.bad
@[simp] noncomputable def jk:D->D->R D
 |.int i,.int j=>.ok (.bl (decide (j<i)))
 |_,_=>.bad
@[simp] noncomputable def jm:D->D->R D
 |.int i,.int j=>.ok (.bl (decide (j<=i)))
 |_,_=>.bad
@[simp] noncomputable def Dh:D->Bool
 |.aE=>true
 |_=>false
@[simp] noncomputable def Nx(b:Bool):D->Bool
 |.bl c=>b==c
 |_=>false
@[simp] noncomputable def eK(d:D):R D:=.ok (.bl (Dh d))
noncomputable def keyOf:D->Option Ky
 |.int i=>some (.inl i)
 |.str x=>some (.inr x)
 |_=>none
noncomputable def cx(k:Ky):List Ky->List D->Option D
 |a::ks,v::vs=>if a=k then some v else cx k ks vs
 |_,_=>none
@[simp] noncomputable def ck:D->D->R D
 |.str _,.str _=>.bad
 |x,.lst ys=>if flat x=true/\ys.all flat=true then .ok (.bl (ys.any λy=>cw y x))else .bad
 |x,.tup ys=>if flat x=true/\ys.all flat=true then .ok (.bl (ys.any λy=>cw y x))else .bad
 | x,.aA ks vs=>match keyOf x with
  |some k=>.ok (.bl (cx k ks vs).isSome)
  |none=>.bad
 |_,_=>.bad
@[simp] noncomputable def ql:D->R D
 |.bl b=>.ok (.bl (!b))
 |_=>.bad
@[simp] noncomputable def nN(x y:D):R D:=(ck x y).bind ql
@[simp] noncomputable def pH:D->D->R D
 | .lst xs,.int i=>match cT xs i with
  |some v=>.ok v
  |none=>.bad
 | .tup xs,.int i=>match cT xs i with
  |some v=>.ok v
  |none=>.bad
 | .str x,.int i=>if x.length<=d4 then match cT x.cps.toList i with
  |some c=>.ok (.str ⟨#[c]⟩)
  |none=>.bad else .bad
 |_,_=>.bad
@[simp] noncomputable def oy:D->D->R D
 | .aA ks vs,k=>match keyOf k with
  | some q=>match cx q ks vs with
   |some v=>.ok v
   |none=>.bad
  |none=>.bad
 |_,_=>.bad
@[simp] noncomputable def ag:D->D->R D
 |.lst xs,k=>pH (.lst xs) k
 |.tup xs,k=>pH (.tup xs) k
 |.str x,k=>pH (.str x) k
 |.aA ks vs,k=>oy (.aA ks vs) k
 |_,_=>.bad
@[simp] noncomputable def uT(lo hi:Option Int):D->R D
 |.lst xs=>.ok (.lst (cut xs lo hi))
 |.tup xs=>if bp xs.length 0 lo=0/\bp xs.length xs.length hi=xs.length then .bad else .ok (.tup (cut xs lo hi))
 |_=>.bad
@[simp] noncomputable def eQ:D->R D
 |.lst xs=>.ok (.int xs.length)
 |.tup xs=>.ok (.int xs.length)
 |.str x=>if x.length<=d4 then .ok (.int x.length)else .bad
 |_=>.bad
inductive Ty where
 |int|bool|str|tuple|list|dict
@[simp] noncomputable def cb:Ty->D->R D
 |.int,.int _=>.ok (.bl true)
 |.int,.bl _=>.ok (.bl true)
 |.bool,.bl _=>.ok (.bl true)
 |.str,.str _=>.ok (.bl true)
 |.tuple,.tup _=>.ok (.bl true)
 |.list,.lst _=>.ok (.bl true)
 |.dict,.aA _ _=>.ok (.bl true)
 |_,.cE _ _ _=>.bad
 |_,_=>.ok (.bl false)
@[simp] noncomputable def sj:D->R D
 |.lst xs=>.ok (.lst xs)
 |.tup xs=>.ok (.lst xs)
 |_=>.bad
@[simp] noncomputable def iV:D->R D
 |.lst xs=>.ok (.tup xs)
 |.tup xs=>.ok (.tup xs)
 |_=>.bad
noncomputable def allB:List D->R D
 |[]=>.ok (.bl true)
 | .bl b::r=>(allB r).bind λz=>match z with
  |.bl k=>.ok (.bl (b&&k))
  |_=>.bad
 |_=>.bad
@[simp] noncomputable def jt:D->R D
 |.lst xs=>allB xs
 |_=>.bad
@[simp] noncomputable def ib:D->R D
 |.int i=>.ok (.int i)
 |.bl b=>.ok (.int (if b then 1 else 0))
 |_=>.bad
@[simp] noncomputable def qW:D->D->R D
 |.int i,.int j=>.ok (.int (if j<i then j else i))
 |_,_=>.bad
noncomputable def g6(x:D):Nat->List D->R D
 |_,[]=>.bad
 |k,y::r=>if cw y x=true then .ok (.int k)else g6 x (k+1) r
@[simp] noncomputable def jZ(e:D):D->D->R D
 | .aA ks vs,k=>match keyOf k with
  |some q=>.ok ((cx q ks vs).getD e)
  |none=>.bad
 |_,_=>.bad
@[simp] noncomputable def aa(i:Nat):Ex:=λρ=>match ρ[i]? with
 |some (.sh d)=>.ok d
 |_=>.bad
@[simp] noncomputable def eC(d:D):Ex:=λ_=>.ok d
@[simp] noncomputable def e1(g:D->R D)(a:Ex):Ex:=λρ=>(a ρ).bind g
@[simp] noncomputable def e2(g:D->D->R D)(a b:Ex):Ex:=λρ=>(a ρ).bind λx=>(b ρ).bind λy=>g x y
@[simp] noncomputable def fF(a b:Ex):Ex:=λρ=>(a ρ).bind λx=>match x with
 |.bl true=>b ρ
 |.bl false=>.ok (.bl false)
 |_=>.bad
@[simp] noncomputable def fj(c:cC)(a b:Ex):Ex:=λρ=>(c ρ).bind λt=>if t=true then a ρ else b ρ
@[simp] noncomputable def eList:List Ex->En->R (List D)
 |[],_=>.ok []
 |e::es,ρ=>(e ρ).bind λx=>(eList es ρ).bind λxs=>.ok (x::xs)
@[simp] noncomputable def aP(es:List Ex):Ex:=λρ=>(eList es ρ).bind λxs=>.ok (.tup xs)
@[simp] noncomputable def cn(es:List Ex):Ex:=λρ=>(eList es ρ).bind λxs=>.ok (.lst xs)
@[simp] noncomputable def aI(f:List D->R D)(es:List Ex):Ex:=λρ=>(eList es ρ).bind f
@[simp] noncomputable def wB(g h:D->D->R D)(a b c:Ex):Ex:=λρ=>(a ρ).bind λx=>(b ρ).bind λy=>(g x y).bind λz=>match z with
 |.bl true=>(c ρ).bind λw=>h y w
 |.bl false=>.ok (.bl false)
 |_=>.bad
@[simp] noncomputable def eW(ks:List Ky)(es:List Ex):Ex:=λρ=>(eList es ρ).bind λxs=>.ok (.aA ks xs)
@[simp] noncomputable def sg:Option Ex->En->R (Option Int)
 |none,_=>.ok none
 | some e,ρ=>(e ρ).bind λx=>match x with
  |.int i=>.ok (some i)
  |_=>.bad
@[simp] noncomputable def jP(a:Ex)(lo hi:Option Ex):Ex:=λρ=>(a ρ).bind λx=>(sg lo ρ).bind λl=>(sg hi ρ).bind λu=>uT l u x
@[simp] noncomputable def tV(a:Ex):cC:=λρ=>(a ρ).bind truth
@[simp] noncomputable def jh(a b:cC):cC:=λρ=>(a ρ).bind λt=>if t=true then b ρ else .ok false
@[simp] noncomputable def dS(a b:cC):cC:=λρ=>(a ρ).bind λt=>if t=true then .ok true else b ρ
@[simp] noncomputable def eG(a:cC):cC:=λρ=>(a ρ).bind λt=>.ok (!t)
@[simp] noncomputable def Nl(i:Nat):Ex:=λρ=>match ρ[i]? with
 |some (.ol xs)=>.ok (.int xs.length)
 |some (.od ks _)=>.ok (.int ks.length)
 |_=>.bad
@[simp] noncomputable def Nm(i:Nat):Ex:=λρ=>match ρ[i]? with
 |some (.ol xs)=>.ok (.int xs.length)
 |_=>.bad
noncomputable abbrev dD:=En->R (List D)
@[simp] noncomputable def items:D->R (List D)
 |.lst xs=>.ok xs
 |.tup xs=>.ok xs
 |.str x=>.ok (x.cps.toList.map λc=>.str ⟨#[c]⟩)
 |_=>.bad
@[simp] noncomputable def jo(a:Ex):dD:=λρ=>(a ρ).bind items
noncomputable def dG(i j:Int):List D:=(List.range (j - i).toNat).map λ(k:Nat)=>.int (i+(k:Int))
@[simp] noncomputable def j8(a:Ex):dD:=λρ=>(a ρ).bind λx=>match x with
 |.int j=>if inR j=true then .ok (dG 0 j)else .bad
 |_=>.bad
@[simp] noncomputable def lP(a b:Ex):dD:=λρ=>(a ρ).bind λx=>(b ρ).bind λy=>match x,y with
 |.int i,.int j=>if(inR i&&inR j)=true then .ok (dG i j)else .bad
 |_,_=>.bad
@[simp] noncomputable def gK:List D->List D->List D
 |x::xs,y::ys=>.tup [x,y]::gK xs ys
 |_,_=>[]
@[simp] noncomputable def mE(a b:Ex):dD:=λρ=>(a ρ).bind λx=>(b ρ).bind λy=>(items x).bind λxs=>(items y).bind λys=>.ok (gK xs ys)
noncomputable abbrev dQ:=D->En->R En
@[simp] noncomputable def aG(i:Nat):dQ:=λd ρ=>.ok (ρ.set i (.sh d))
@[simp] noncomputable def gQ:List Nat->List D->En->R En
 |[],[],ρ=>.ok ρ
 |i::is,d::ds,ρ=>gQ is ds (ρ.set i (.sh d))
 |_,_,_=>.bad
@[simp] noncomputable def gW(is:List Nat):dQ:=λd ρ=>match d with
 |.tup ds=>gQ is ds ρ
 |_=>.bad
@[simp] noncomputable def Cc:Option Slot->Slot
 |some (.sh d)=>.sh d
 |_=>.un
@[simp] noncomputable def frees(ρ:En)(fv:List Nat):En:=fv.map λi=>Cc ρ[i]?
noncomputable def eR(tg:dQ)(cs:List cC)(el:Ex)(ρ:En):List D->R (List D)
 |[]=>.ok []
 | d::ds=>(tg d ρ).bind λOv=>(ku cs Ov).bind λt=>
  if t=true then(el Ov).bind λy=>(eR tg cs el ρ ds).bind λys=>.ok (y::ys)else eR tg cs el ρ ds
where ku:List cC->En->R Bool
 |[],_=>.ok true
 |c::cs,ρ=>(c ρ).bind λt=>if t=true then ku cs ρ else .ok false
@[simp] noncomputable def eU(it:dD)(n:Nat)(fv:List Nat)(tg:dQ)(cs:List cC)(el:Ex):Ex:=λρ=>(it ρ).bind λds=>
 if ds.length<=d4 then(eR tg cs el (List.replicate n .un++frees ρ fv) ds).bind λys=>.ok (.lst ys)else .bad
inductive Fl where
 |next (ρ:En)|ret (d:D)|brk (ρ:En)|cont (ρ:En)|k7 (d:D)|fw (t:T)|lq (i:Nat) (ρ:En)|kG (d:D) (ρ:En)
noncomputable abbrev Sm:=En->R Fl
@[simp] noncomputable def aV:Sm:=λρ=>.ok (.next ρ)
@[simp] noncomputable def Bx(a b:Sm):Sm:=λρ=>(a ρ).bind λf=>match f with
 |.next ρ'=>b ρ'
 |f=>.ok f
@[simp] noncomputable def az:List Sm->Sm
 |[]=>aV
 |a::r=>Bx a (az r)
@[simp] noncomputable def aO(c:cC)(a b:Sm):Sm:=λρ=>(c ρ).bind λt=>if t=true then a ρ else b ρ
@[simp] noncomputable def aS(g:dQ)(e:Ex):Sm:=λρ=>(e ρ).bind λd=>(g d ρ).bind λρ'=>.ok (.next ρ')
@[simp] noncomputable def aM(e:Ex):Sm:=λρ=>(e ρ).bind λd=>.ok (.ret d)
@[simp] noncomputable def AK:Sm:=λ_=>.bad
@[simp] noncomputable def kz(i:Nat)(e:Ex):Sm:=λρ=>(e ρ).bind λd=>match d with
 |.lst xs=>.ok (.next (ρ.set i (.ol xs)))
 |_=>.bad
@[simp] noncomputable def yb(i:Nat)(e:Ex):Sm:=λρ=>(e ρ).bind λd=>match d with
 |.aA ks vs=>.ok (.next (ρ.set i (.od ks vs)))
 |_=>.bad
@[simp] noncomputable def iL(i:Nat):Sm:=λρ=>match ρ[i]? with
 |some (.ol xs)=>.ok (.next (ρ.set i (.sh (.lst xs))))
 |some (.od ks vs)=>.ok (.next (ρ.set i (.sh (.aA ks vs))))
 |_=>.bad
@[simp] noncomputable def pS(i:Nat)(e:Ex):Sm:=λρ=>(e ρ).bind λd=>match ρ[i]? with
 |some (.ol xs)=>if xs.length<d4 then .ok (.next (ρ.set i (.ol (xs++[d]))))else .bad
 |_=>.bad
@[simp] noncomputable def oX(i:Nat)(k e:Ex):Sm:=λρ=>(e ρ).bind λd=>(k ρ).bind λq=>match ρ[i]?,q with
 | some (.ol xs),.int j=>match dw xs.length j with
  |some m=>.ok (.next (ρ.set i (.ol (xs.set m d))))
  |none=>.bad
 |_,_=>.bad
noncomputable def putK(k:Ky)(d:D):List Ky->List D->List Ky×List D
 |a::ks,v::vs=>if a=k then(a::ks,d::vs)else((a::(putK k d ks vs).1),(v::(putK k d ks vs).2))
 |_,_=>([k],[d])
noncomputable def forL(tg:dQ)(body:Sm):List D->En->R Fl
 |[],ρ=>.ok (.next ρ)
 | d::ds,ρ=>(tg d ρ).bind λOv=>(body Ov).bind λf=>match f with
  |.next Ph=>forL tg body ds Ph
  |.cont Ph=>forL tg body ds Ph
  |.brk Ph=>.ok (.next Ph)
  |.ret d=>.ok (.ret d)
  |.k7 d=>.ok (.k7 d)
  |.fw t=>.ok (.fw t)
  |.lq i ρ=>.ok (.lq i ρ)
  |.kG d ρ=>.ok (.kG d ρ)
@[simp] noncomputable def jL(it:dD)(tg:dQ)(body:Sm):Sm:=λρ=>(it ρ).bind λds=>forL tg body ds ρ
@[simp] noncomputable def fn(n:Nat)(body:Sm):List D->R D:=λds=>(body (ds.map .sh++List.replicate (n - ds.length) .un)).bind λf=>match f with
 |.ret d=>.ok d
 |.next _=>.ok .aE
 |_=>.bad
end PL
namespace PL
open PySem PySem.Spec
open L2 (V Hp HO Cx PE PT PW PA PS cH St VK TE TT TA TS TI Inv RelV Vals Rd bP bW upd ar Key XK Ends)
structure Md where
 K:PySem.W.Frag
 P:Program
 w:World
noncomputable abbrev aJ(X:Cx):Md:=⟨X.K,X.prog,X.w⟩
def g8(M:Md)(H:Hp)(F:acS)(a:Addr)(xs:List V):Prop:=
 (¬F a/\Rd H a (.lst xs))\/∃(o:Obj) (aq:Array Value) (n:Nat),M.K.lookup a=some o/\o.cls=.type "list"/\o.dict=none/\o.data=.seq aq n/\aq.size<=sizeLine/\Vals xs aq.toList
def fG(M:Md)(H:Hp)(F:acS)(a:Addr)(xs:List V):Prop:=
 (¬F a/\Rd H a (.tup xs))\/∃(o:Obj) (aq:Array Value) (n:Nat),M.K.lookup a=some o/\o.cls=.type "tuple"/\o.data=.seq aq n/\aq.size<=sizeLine/\Vals xs aq.toList
def gr(M:Md)(H:Hp)(F:acS)(a:Addr)(j':List (Key×V)):Prop:=
 (¬F a/\∃ob,H a=some (.frz ob (.dK j')))\/∃(o:Obj) (es:Array DictEntry) (ep:Nat) (vs:List (Key×Value)),M.K.lookup a=some o/\o.ExactDict/\o.data=.dict es ep/\KeysOf (L2.cK M.P M.w) es/\Pairs (L2.cK M.P M.w) es.toList vs/\
  (vs.map (·.1)).Nodup/\L2.KV j' vs/\j'.length<=sizeLine/\(a==sysModules)=false
theorem g8.sq(h:g8 M H F a xs):bP M.K H a xs:=h.elim (λh=>.inl h.2) .inr
theorem fG.sq(h:fG M H F a xs):bW M.K H a xs:=h.elim (λh=>.inl h.2) .inr
noncomputable def Dr(a C:Addr):HO:=.ext λh=>∃o,h.get? a=some o/\o.cls=.ref C/\∃vs,o.data=.fields vs
def Kb(c:Str)(ds:List D)(u:HO):Prop:=c=⟨#[91]⟩->∃xs:List V,u=.lst xs/\xs.length=ds.length
structure fU where
 params:Arguments
 body:Expr
 scope:Scope
 pos:Pos
noncomputable def Al:acP->Option fU
 |[]=>none
 |[.Lambda a b s p]=>some ⟨a,b,s,p⟩
 |_::r=>Al r
noncomputable def G8:Stmt->Option fU
 |.Assign _ (.Call _ es _ _) _=>Al es
 |_=>none
noncomputable def jw:FuncBody->Option fU
 |.stmts b=>b.findSome? G8
 |_=>none
noncomputable def cN(sc:Scope):List Str:=(sc.names.filter λy=>y.2==.free).map (·.1)
inductive jl(M:Md)(H:Hp)(F:acS)(a:Addr)(c:Str)(xs:List V):Prop
 | mk (fa:Addr) (ob:Obj) (fd:FuncData) (l:fU) (qual:Str) (NP:List (Str×Addr)) (pm Pp:Value) (cc:Addr)
  (e1:PySem.W.nsIn M.K mainGlobals c=some (some (.ref fa))) (e2:M.K.lookup fa=some ob) (e3:ob.data=.func fd) (e4:jw fd.body=some l)
  (ha:H a=some (.bM (some (PySem.W.kla_obj "<lambda>" qual l.params l.body l.scope NP pm cc Pp))))
  (len:xs.length=(cN l.scope).length) (has:∀x∈cN l.scope,∃c',NP.lookup x=some c') (inj:∀x y c',NP.lookup x=some c'->NP.lookup y=some c'->x=y)
  (cells:∀x c',NP.lookup x=some c'->∃(i:Nat) (o:Obj) (u:Value) (v:V),(cN l.scope)[i]? =some x/\¬F c'/\H c'=some (.bM (some o))/\o.data=.cell (some u)/\xs[i]? =some v/\RelV v u)
mutual
noncomputable def Rep(M:Md)(H:Hp)(F:acS):D->V->Prop
 |.aE,v=>v=.aE
 |.bl b,v=>v=.bl b
 |.int i,v=>v=.int i
 |.str x,v=>v=.str x
 |.tup ds,v=>∃a xs,v=.ref a/\fG M H F a xs/\aj M H F ds xs
 |.lst ds,v=>∃a xs,v=.ref a/\g8 M H F a xs/\aj M H F ds xs
 |.aA ks ds,v=>∃a xs,v=.ref a/\gr M H F a (ks.zip xs)/\ks.length=xs.length/\aj M H F ds xs
 |.cE c ns ds,v=>∃(a:Addr) (_u:Unit),v=.ref a/\((ns.length=3/\PySem.W.nsIn M.K mainGlobals c=some (some (.ref a)))\/(¬F a/\((ns=[]/\∃C,H a=some (Dr a C)/\PySem.W.nsIn M.K mainGlobals c=some (some (.ref C)))\/(ns.length=1/\∃o xs,H a=some (.frz o (.tup xs))/\o.dict=none/\aj M H F ds xs)\/(ns.length=2/\∃u,H a=some u/\Kb c ds u)\/(ns.length=5/\∃xs,jl M H F a c xs/\aj M H F ds xs))))
noncomputable def aj(M:Md)(H:Hp)(F:acS):List D->List V->Prop
 |[],xs=>xs=[]
 |d::ds,xs=>∃x r,xs=x::r/\Rep M H F d x/\aj M H F ds r
end
def Mv(F:acS)(H:Hp)(F':acS)(H':Hp):Prop:=∀a o,¬F a->H a=some o->¬F' a/\H' a=some o
theorem Mv.same{F:acS}{H H':Hp}(h:ar H H'):Mv F H F H':=λa o n e=>⟨n,h a o e⟩
theorem Mv.trans{F F1 F2:acS}{H H1 H2:Hp}(a:Mv F H F1 H1)(b:Mv F1 H1 F2 H2):Mv F H F2 H2:=λc o n e=>b c o (a c o n e).1 (a c o n e).2
section
variable{M:Md}{H H':Hp}{F F':acS}{a:Addr}{xs:List V}
theorem Bv(m:Mv F H F' H')(n:¬F a)(h:Rd H a u):¬F' a/\Rd H' a u:=by
 rcases h with h|⟨o,h⟩
 ·exact⟨(m _ _ n h).1,.inl (m _ _ n h).2⟩
 ·exact⟨(m _ _ n h).1,.inr ⟨o,(m _ _ n h).2⟩⟩
theorem g8.mv(m:Mv F H F' H')(h:g8 M H F a xs):g8 M H' F' a xs:=by
 rcases h with⟨n,h⟩|h
 ·exact .inl (Bv m n h)
 ·exact .inr h
theorem fG.mv(m:Mv F H F' H')(h:fG M H F a xs):fG M H' F' a xs:=by
 rcases h with⟨n,h⟩|h
 ·exact .inl (Bv m n h)
 ·exact .inr h
theorem jl.mv(m:Mv F H F' H')(n:¬F a)(h:jl M H F a c xs):jl M H' F' a c xs:=by
 obtain⟨fa,ob,fd,l,qual,NP,pm,Pp,cc,e1,e2,e3,e4,ha,len,has,inj,cells⟩:=h
 exact⟨fa,ob,fd,l,qual,NP,pm,Pp,cc,e1,e2,e3,e4,(m _ _ n ha).2,len,has,inj,λx c' e=>
  let⟨i,o,u,v,k1,k2,k3,k4⟩:=cells x c' e;⟨i,o,u,v,k1,(m _ _ k2 k3).1,(m _ _ k2 k3).2,k4⟩⟩
theorem jl.bw(h:jl M H F a c xs):∃o,H a=some o:=by
 obtain⟨fa,ob,fd,l,qual,NP,pm,Pp,cc,e1,e2,e3,e4,ha,_⟩:=h;exact⟨_,ha⟩
theorem gr.mv{j':List (Key×V)}(m:Mv F H F' H')(h:gr M H F a j'):gr M H' F' a j':=by
 rcases h with⟨n,ob,h⟩|h
 ·exact .inl ⟨(m _ _ n h).1,ob,(m _ _ n h).2⟩
 ·exact .inr h
mutual
theorem Rep.mv(m:Mv F H F' H'):∀ {d:D} {v:V},Rep M H F d v->Rep M H' F' d v
 |.aE,_,h=>by simp only[Rep]at h ⊢;exact h
 |.bl _,_,h=>by simp only[Rep]at h ⊢;exact h
 |.int _,_,h=>by simp only[Rep]at h ⊢;exact h
 |.str _,_,h=>by simp only[Rep]at h ⊢;exact h
 | .tup ds,_,h=>by
  simp only[Rep]at h ⊢;obtain⟨a,xs,e,t,r⟩:=h;exact⟨a,xs,e,t.mv m,aj.mv m r⟩
 | .lst ds,_,h=>by
  simp only[Rep]at h ⊢;obtain⟨a,xs,e,t,r⟩:=h;exact⟨a,xs,e,t.mv m,aj.mv m r⟩
 | .aA ks ds,_,h=>by
  simp only[Rep]at h ⊢;obtain⟨a,xs,e,t,l,r⟩:=h;exact⟨a,xs,e,t.mv m,l,aj.mv m r⟩
 | .cE _ _ _,_,h=>by
  simp only[Rep]at h ⊢;obtain⟨a,_,e,h⟩:=h;rcases h with h|⟨n,⟨z,C,q,k⟩|⟨z,o,xs,q,hd,r⟩|⟨z,u,q,w⟩|⟨z,xs,w,r⟩⟩
  ·exact⟨a,(),e,.inl h⟩
  ·exact⟨a,(),e,.inr ⟨(m _ _ n q).1,.inl ⟨z,C,(m _ _ n q).2,k⟩⟩⟩
  ·exact⟨a,(),e,.inr ⟨(m _ _ n q).1,.inr (.inl ⟨z,o,xs,(m _ _ n q).2,hd,aj.mv m r⟩)⟩⟩
  ·exact⟨a,(),e,.inr ⟨(m _ _ n q).1,.inr (.inr (.inl ⟨z,u,(m _ _ n q).2,w⟩))⟩⟩
  ·obtain⟨o,q⟩:=w.bw
   exact⟨a,(),e,.inr ⟨(m _ _ n q).1,.inr (.inr (.inr ⟨z,xs,w.mv m n,aj.mv m r⟩))⟩⟩
theorem aj.mv(m:Mv F H F' H'):∀ {ds:List D} {xs:List V},aj M H F ds xs->aj M H' F' ds xs
 |[],_,h=>by simp only[aj]at h ⊢;exact h
 | d::ds,_,h=>by
  simp only[aj]at h ⊢;obtain⟨x,r,e,h1,h2⟩:=h;exact⟨x,r,e,Rep.mv m h1,aj.mv m h2⟩
end
theorem aj.length:∀ {ds:List D} {xs:List V},aj M H F ds xs->ds.length=xs.length
 |[],_,h=>by simp only[aj]at h;subst h;rfl
 | d::ds,_,h=>by
  simp only[aj]at h;obtain⟨x,r,rfl,_,h2⟩:=h;simp[aj.length h2]
theorem aj.get:∀ {ds:List D} {xs:List V} {i:Nat} {d:D},aj M H F ds xs->ds[i]? =some d->∃x,xs[i]? =some x/\Rep M H F d x
 |[],_,_,_,_,e=>by simp at e
 | d::ds,_,0,_,h,e=>by
  simp only[aj]at h;obtain⟨x,r,rfl,h1,_⟩:=h;simp at e;subst e;exact⟨x,rfl,h1⟩
 | d::ds,_,i+1,_,h,e=>by
  simp only[aj]at h;obtain⟨x,r,rfl,_,h2⟩:=h;obtain⟨y,e1,h3⟩:=aj.get h2 (by simpa using e)
  exact⟨y,by simpa using e1,h3⟩
theorem aj.append:∀ {ds es:List D} {xs ys:List V},aj M H F ds xs->aj M H F es ys->aj M H F (ds++es) (xs++ys)
 |[],_,_,_,h,g=>by simp only[aj]at h;subst h;exact g
 | d::ds,_,_,_,h,g=>by
  simp only[aj]at h;obtain⟨x,r,rfl,h1,h2⟩:=h;simp only[aaz,aj];exact⟨x,_,rfl,h1,aj.append h2 g⟩
theorem aj.take:∀ {ds:List D} {xs:List V} (n:Nat),aj M H F ds xs->aj M H F (ds.take n) (xs.take n)
 |_,_,0,_=>by simp[aj]
 |[],_,n+1,h=>by simp only[aj]at h;subst h;simp[aj]
 | d::ds,_,n+1,h=>by
  simp only[aj]at h;obtain⟨x,r,rfl,h1,h2⟩:=h;simp only[List.take_succ_cons,aj];exact⟨x,_,rfl,h1,aj.take n h2⟩
theorem aj.drop:∀ {ds:List D} {xs:List V} (n:Nat),aj M H F ds xs->aj M H F (ds.drop n) (xs.drop n)
 |_,_,0,h=>h
 |[],_,n+1,h=>by simp only[aj]at h;subst h;simp[aj]
 | d::ds,_,n+1,h=>by
  simp only[aj]at h;obtain⟨x,r,rfl,h1,h2⟩:=h;exact aj.drop n h2
theorem aj.nil:aj M H F [] []:=by simp[aj]
theorem aj.cons{d:D}{x:V}{ds:List D}(h:Rep M H F d x)(t:aj M H F ds xs):aj M H F (d::ds) (x::xs):=by
 simp only[aj];exact⟨_,_,rfl,h,t⟩
theorem aj.set:∀ {ds:List D} {xs:List V} {d:D} {x:V} (i:Nat),Rep M H F d x->aj M H F ds xs->aj M H F (ds.set i d) (xs.set i x)
 |[],_,_,_,_,_,h=>by simp only[aj]at h;subst h;exact aj.nil
 | d::ds,_,_,_,0,g,h=>by
  simp only[aj]at h;obtain⟨y,r,rfl,_,h2⟩:=h;exact aj.cons g h2
 | d::ds,_,_,_,i+1,g,h=>by
  simp only[aj]at h;obtain⟨y,r,rfl,h1,h2⟩:=h;exact aj.cons h1 (aj.set i g h2)
end
def bY(ρ:En)(i:Nat):Prop:=(∃ds,ρ[i]? =some (.ol ds))\/∃ks ds,ρ[i]? =some (.od ks ds)
noncomputable def Kd.ho:Kd->List V->HO
 |.l,xs=>.lst xs
 |.m ks,xs=>.dK (ks.zip xs)
 |.u,xs=>.tup xs
 |.x ks,xs=>.dT (ks.zip xs)
def Kd.fit:Kd->List V->Prop
 |.m ks,xs=>ks.length=xs.length
 |.x ks,xs=>ks.length=xs.length
 |_,_=>True
noncomputable def Kd.fQ(k:Kd)(a:Addr)(bs:Zx):Zx:=if k.own=true then a::bs else bs
theorem Kd.inj{k:Kd}{xs ys:List V}(e:k.ho xs=k.ho ys)(h:k.fit xs)(h':k.fit ys):xs=ys:=by
 cases k with
 |l=>injection e
 |u=>injection e
 | m ks=>
  injection e with e;have h1:=congrArg (List.map Prod.snd) e;rwa[aaA (Z5 h.symm),aaA (Z5 h'.symm)]at h1
 | x ks=>
  injection e with e;have h1:=congrArg (List.map Prod.snd) e;rwa[aaA (Z5 h.symm),aaA (Z5 h'.symm)]at h1
theorem Kd.sub{k:Kd}{a b:Addr}{bs:Zx}(h:b∈bs):b∈k.fQ a bs:=by
 unfold Kd.fQ;split
 ·exact Do _ h
 ·exact h
theorem Kd.top{k:Kd}{a:Addr}{bs:Zx}(h:k.own=true):a∈k.fQ a bs:=by
 unfold Kd.fQ;rw[AC h];exact FB
theorem Kd.mem{k:Kd}{a b:Addr}{bs:Zx}(h:b∈k.fQ a bs):(k.own=true/\b=a)\/b∈bs:=by
 unfold Kd.fQ at h;split at h
 ·rename_i o;exact(Da.mp h).imp (λz=>⟨o,z⟩) id
 ·exact .inr h
theorem Kd.nodup{k:Kd}{a:Addr}{bs:Zx}:(k.fQ a bs).Nodup↔(k.own=true->a∉bs)/\bs.Nodup:=by
 unfold Kd.fQ;split
 ·rename_i o;rw[MG];exact⟨λh=>⟨λ_=>h.1,h.2⟩,λh=>⟨h.1 o,h.2⟩⟩
 ·rename_i o;exact⟨λh=>⟨λz=>absurd z o,h⟩,λh=>h.2⟩
theorem Kd.Lx{k:Kd}{a:Addr}{bs:Zx}:bs.Sublist (k.fQ a bs):=by
 unfold Kd.fQ;split
 ·exact List.sublist_cons_self _ _
 ·exact S7 _
theorem Kd.ne{k:Kd}{a c:Addr}{bs:Zx}(h:(k.fQ a bs).Nodup)(o:k.own=true)(hc:c∈bs):a≠c:=λz=>(Kd.nodup.mp h).1 o (z▸hc)
mutual
noncomputable def aL(M:Md)(H:Hp)(F:acS):T->V->Zx->Prop
 |.d x,v,as=>as=[]/\Rep M H F x v
 |.n k ts,v,as=>∃a xs bs,v=.ref a/\as=k.fQ a bs/\(F a↔k.own=true)/\H a=some (k.ho xs)/\k.fit xs/\aD M H F ts xs bs
noncomputable def aD(M:Md)(H:Hp)(F:acS):List T->List V->Zx->Prop
 |[],xs,as=>xs=[]/\as=[]
 |t::ts,xs,as=>∃x r bs cs,xs=x::r/\as=bs++cs/\aL M H F t x bs/\aD M H F ts r cs
end
theorem cU:aL M H F (.d x) v as↔as=[]/\Rep M H F x v:=by rw[aL]
theorem cW:aL M H F (.l ts) v as↔∃a xs bs,v=.ref a/\as=a::bs/\F a/\H a=some (.lst xs)/\aD M H F ts xs bs:=by
 rw[aL];exact⟨by rintro⟨a,xs,bs,h1,h2,h3,h4,_,h6⟩;exact ⟨a,xs,bs,h1,h2,h3.mpr rfl,h4,h6⟩,by rintro⟨a,xs,bs,h1,h2,h3,h4,h6⟩;exact ⟨a,xs,bs,h1,h2,⟨λ_=>rfl,λ_=>h3⟩,h4,trivial,h6⟩⟩
theorem cR:aL M H F (.m ks ts) v as↔∃a xs bs,v=.ref a/\as=a::bs/\F a/\H a=some (.dK (ks.zip xs))/\ks.length=xs.length/\aD M H F ts xs bs:=by
 rw[aL];exact⟨by rintro⟨a,xs,bs,h1,h2,h3,h4,h5,h6⟩;exact ⟨a,xs,bs,h1,h2,h3.mpr rfl,h4,h5,h6⟩,by rintro⟨a,xs,bs,h1,h2,h3,h4,h5,h6⟩;exact ⟨a,xs,bs,h1,h2,⟨λ_=>rfl,λ_=>h3⟩,h4,h5,h6⟩⟩
theorem cS:aL M H F (.tu ts) v as↔∃a xs,v=.ref a/\¬F a/\H a=some (.tup xs)/\aD M H F ts xs as:=by
 rw[aL];exact⟨by rintro⟨a,xs,bs,h1,h2,h3,h4,_,h6⟩;exact ⟨a,xs,h1,λf=>(nomatch h3.mp f),h4,(show as=bs from h2)▸h6⟩,by rintro⟨a,xs,h1,h3,h4,h6⟩;exact ⟨a,xs,as,h1,rfl,⟨λf=>absurd f h3,λz=>nomatch z⟩,h4,trivial,h6⟩⟩
mutual
theorem aL.mv{M:Md}{H H':Hp}{F F':acS}(m:Mv F H F' H'):∀ {t:T} {v:V} {as:Zx},(∀b∈as,∀u,F b->H b=some u->F' b/\H' b=some u)->aL M H F t v as->aL M H' F' t v as
 | .d x,v,as,_,h=>by
  simp only[aL]at h ⊢;exact⟨h.1,h.2.mv m⟩
 | .n kd ts,v,as,k,h=>by
  simp only[aL]at h ⊢;obtain⟨a,xs,bs,e1,rfl,f,e2,l,r⟩:=h
  have h9:(F' a↔kd.own=true)/\H' a=some (kd.ho xs):=by
   by_cases o:kd.own=true
   ·obtain⟨f',e'⟩:=k a (Kd.top o) _ (f.mpr o) e2
    exact⟨⟨λ_=>o,λ_=>f'⟩,e'⟩
   ·obtain⟨f',e'⟩:=m _ _ (λz=>o (f.mp z)) e2
    exact⟨⟨λz=>absurd z f',λz=>absurd z o⟩,e'⟩
  exact⟨a,xs,bs,e1,rfl,h9.1,h9.2,l,aD.mv m (λb hb=>k b (Kd.sub hb)) r⟩
theorem aD.mv{M:Md}{H H':Hp}{F F':acS}(m:Mv F H F' H'):∀ {ts:List T} {xs:List V} {as:Zx},(∀b∈as,∀u,F b->H b=some u->F' b/\H' b=some u)->aD M H F ts xs as->aD M H' F' ts xs as
 |[],xs,as,_,h=>by simp only[aD]at h ⊢;exact h
 | t::ts,xs,as,k,h=>by
  simp only[aD]at h ⊢;obtain⟨x,r,bs,cs,e1,rfl,h1,h2⟩:=h;exact⟨x,r,bs,cs,e1,rfl,aL.mv m (λb hb=>k b (Ox _ hb)) h1,aD.mv m (λb hb=>k b (GT _ hb)) h2⟩
end
mutual
theorem aL.det{M:Md}{H H':Hp}{F F':acS}(m:∀a o,¬F a->H a=some o->∀u,H' a=some u->o=u):∀ {t:T} {v:V} {as as':Zx},aL M H F t v as->aL M H' F' t v as'->(∀b∈as,∀u,F b->H b=some u->H' b=some u)->as=as'
 | .d x,v,as,as',h,h',_=>by
  simp only[aL]at h h';rw[h.1,h'.1]
 | .n kd ts,v,as,as',h,h',k=>by
  simp only[aL]at h h';obtain⟨a,xs,bs,rfl,rfl,f,e2,l,r⟩:=h;obtain⟨a',QW,bs',e1,rfl,f',PX,l',r'⟩:=h';cases e1
  have e5:xs=QW:=Kd.inj (k:=kd) (by
   by_cases o:kd.own=true
   ·have e3:=k a (Kd.top o) _ (f.mpr o) e2
    rw[PX]at e3;injection e3 with e3;exact e3.symm
   ·exact m a _ (λz=>o (f.mp z)) e2 _ PX) l l'
  subst e5;rw[aD.det m r r' λb hb=>k b (Kd.sub hb)]
theorem aD.det(m:∀a o,¬F a->H a=some o->∀u,H' a=some u->o=u):∀ {ts:List T} {xs:List V} {as as':Zx},aD M H F ts xs as->aD M H' F' ts xs as'->(∀b∈as,∀u,F b->H b=some u->H' b=some u)->as=as'
 | [],xs,as,as',h,h',_=>by
  simp only[aD]at h h';rw[h.2,h'.2]
 | t::ts,xs,as,as',h,h',k=>by
  simp only[aD]at h h';obtain⟨x,r,bs,cs,rfl,rfl,h1,h2⟩:=h;obtain⟨x',r',bs',OU,e1,rfl,To,Qo⟩:=h';cases e1;rw[aL.det m h1 To λb hb=>k b (Ox _ hb),aD.det m h2 Qo λb hb=>k b (GT _ hb)]
end
theorem aL.je(h:aL M H F t v as)(h':aL M H F' t v as'):as=as':=
 aL.det (λa o _ e u e'=>by rw[e]at e';injection e') h h' λ_ _ _ _ hu=>hu
mutual
theorem aL.fs{M:Md}{H:Hp}{F:acS}:∀ {t:T} {v:V} {as:Zx},aL M H F t v as->∀b∈as,F b/\∃u,H b=some u
 | .d x,v,as,h,b,hb=>by
  simp only[aL]at h;rw[h.1]at hb;cases hb
 | .n kd ts,v,as,h,b,hb=>by
  simp only[aL]at h;obtain⟨a,xs,bs,rfl,rfl,f,e2,l,r⟩:=h;rcases Kd.mem hb with⟨o,rfl⟩|hb
  ·exact⟨f.mpr o,_,e2⟩
  ·exact aD.fs r b hb
theorem aD.fs{M:Md}{H:Hp}{F:acS}:∀ {ts:List T} {xs:List V} {as:Zx},aD M H F ts xs as->∀b∈as,F b/\∃u,H b=some u
 | [],xs,as,h,b,hb=>by
  simp only[aD]at h;rw[h.2]at hb;cases hb
 | t::ts,xs,as,h,b,hb=>by
  simp only[aD]at h;obtain⟨x,r,bs,cs,rfl,rfl,h1,h2⟩:=h;rcases M0.mp hb with hb|hb
  ·exact aL.fs h1 b hb
  ·exact aD.fs h2 b hb
end
def aK(H:Hp):T->V->List Nat->T->V->Prop
 |t,v,[],t',w=>t=t'/\v=w
 |.n kd ts,v,k::p,t',w=>∃a xs t1 x1,v=.ref a/\H a=some (kd.ho xs)/\kd.fit xs/\ts[k]? =some t1/\xs[k]? =some x1/\aK H t1 x1 p t' w
 |.d _,_,_::_,_,_=>False
theorem aD.get:∀ {ts:List T} {xs:List V} {as:Zx} {k:Nat} {t:T} {x:V},aD M H F ts xs as->ts[k]? =some t->xs[k]? =some x->∃bs,aL M H F t x bs/\∀b∈bs,b∈as
 |[],_,_,_,_,_,_,e,_=>by simp at e
 | t::ts,xs,as,0,_,_,h,e,e'=>by
  simp only[aD]at h;obtain⟨x,r,bs,cs,rfl,rfl,h1,h2⟩:=h;cases e;cases e';exact⟨bs,h1,λb hb=>Ox _ hb⟩
 | t::ts,xs,as,k+1,_,_,h,e,e'=>by
  simp only[aD]at h;obtain⟨x,r,bs,cs,rfl,rfl,h1,h2⟩:=h;obtain⟨ds,h3,h4⟩:=aD.get h2 (by simpa using e) (by simpa using e')
  exact⟨ds,h3,λb hb=>GT _ (h4 b hb)⟩
theorem aK.mv{M:Md}{H H':Hp}{F:acS}(m:∀a o,¬F a->H a=some o->H' a=some o):∀ {p:List Nat} {t:T} {v:V} {t':T} {w:V} {as:Zx},aL M H F t v as->(∀b∈as,∀u,F b->H b=some u->H' b=some u)->aK H t v p t' w->aK H' t v p t' w
 | [],t,v,t',w,as,_,_,h=>by
  cases t<;>exact h
 | k::p,.n kd ts,v,t',w,as,r,hk,h=>by
  simp only[aK]at h ⊢;simp only[aL]at r;obtain⟨a,xs,t1,x1,rfl,e,l,e1,e2,h⟩:=h;obtain⟨a',QW,bs,ea,rfl,f,e',l',rs⟩:=r;cases ea;have e9:xs=QW:=Kd.inj (k:=kd) (by rw[e']at e;injection e with e;exact e.symm) l l'
  subst e9;obtain⟨ds,r1,sub⟩:=rs.get e1 e2;refine⟨a,xs,t1,x1,rfl,?_,l,e1,e2,aK.mv m r1 (λb hb=>hk b (Kd.sub (sub b hb))) h⟩;by_cases o:kd.own=true
  ·exact hk a (Kd.top o) _ (f.mpr o) e'
  ·exact m _ _ (λz=>o (f.mp z)) e'
 |k::p,.d _,v,t',w,as,_,_,h=>h.elim
inductive cy(M:Md)(H:Hp)(F:acS)(σ:L2.St)(ρ:En)(i:Nat)(b:Addr):Prop
 |mk:∀t v as,ρ[i]? =some (.on (.tr t))->σ[i]? =some (some v)->aL M H F t v as->b∈as->cy M H F σ ρ i b
noncomputable def T.cZ:T->Bool
 |.d _=>false
 |.n _ _=>true
theorem T.Bl:∀ {t:T},t.own=true->t.cZ=true
 |.n _ _,_=>rfl
def LV(M:Md)(H:Hp)(F:acS)(σ:St)(ρ:En)(i:Nat):Sp->Prop
 |.tr t=>∃v as,σ[i]? =some (some v)/\aL M H F t v as/\as.Nodup
 |.al k p=>∀t,ρ[k]? =some (.on (.tr t))->∃v w t',σ[k]? =some (some v)/\σ[i]? =some (some w)/\aK H t v p t' w/\t'.cZ=true
def gg(M:Md)(H:Hp)(F:acS)(σ:St)(ρ:En):Prop:=∀i x,ρ[i]? =some (.on x)->
 LV M H F σ ρ i x/\(∀b,cy M H F σ ρ i b->∀j,bY ρ j->σ[j]? ≠some (some (.ref b)))/\∀t,x=.tr t->∀j t',ρ[j]? =some (.on (.tr t'))->j≠i->∀b,cy M H F σ ρ i b->cy M H F σ ρ j b->False
theorem gg.no{M:Md}{H:Hp}{F:acS}{σ:St}{ρ:En}(h:∀(i:Nat) x,ρ[i]? ≠some (.on x)):gg M H F σ ρ:=λi x e=>absurd e (h i x)
theorem gg.back{M:Md}{H H':Hp}{F F':acS}{σ NF:St}{ρ ρ':En}{i:Nat}{b:Addr}(r:gg M H F σ ρ)(hr:∀x,ρ'[i]? =some (.on x)->ρ[i]? =some (.on x))(hs:NF[i]? =σ[i]?)
  (hk:∀a u,cy M H F σ ρ i a->F a->H a=some u->H' a=some u) (m:∀a o,¬F a->H a=some o->H' a=some o) (h:cy M H' F' NF ρ' i b):cy M H F σ ρ i b:=by
 obtain⟨t,v,as,e,ev,tr,hb⟩:=h;have e0:=hr _ e;obtain⟨⟨v',as',Vw,Pd,nd⟩,_,_⟩:=r i _ e0;rw[hs,Vw]at ev;cases ev;have:=aL.det (λa o n e u e'=>by rw[m a _ n e]at e';injection e') Pd tr λc hc u f hu=>hk c u ⟨t,v,as',e0,Vw,Pd,hc⟩ f hu
 subst this;exact⟨t,v,as',e0,Vw,Pd,hb⟩
theorem gg.mv{M:Md}{H H':Hp}{F F':acS}{σ NF:St}{ρ ρ':En}(r:gg M H F σ ρ)(m:Mv F H F' H')(Pa:∀(j:Nat) x,ρ'[j]? =some (.on x)->ρ[j]? =some (.on x)/\NF[j]? =σ[j]?)
  (hk:∀(j:Nat) x b u,ρ'[j]? =some (.on x)->cy M H F σ ρ j b->F b->H b=some u->F' b/\H' b=some u)
  (ho:∀(j:Nat) x b,ρ'[j]? =some (.on x)->cy M H F σ ρ j b->∀k:Nat,bY ρ' k->NF[k]? ≠some (some (.ref b))):gg M H' F' NF ρ':=λi x e=>by
 obtain⟨e0,es⟩:=Pa i x e;obtain⟨h1,h2,h3⟩:=r i x e0;refine⟨?_,λb hb k ok=>?_,λt ht j t' ej W9 b hi hj=>h3 t ht j t' (Pa j _ ej).1 W9 b (r.back (λy ey=>(Pa i y ey).1) es (λc u hc f hu=>(hk i _ c u e hc f hu).2) (λa o n e=>(m a o n e).2) hi) (r.back (λy ey=>(Pa j y ey).1) (Pa j _ ej).2 (λc u hc f hu=>(hk j _ c u ej hc f hu).2) (λa o n e=>(m a o n e).2) hj)⟩
 ·cases x with
  | tr t=>
   obtain⟨v,as,ev,tr,nd⟩:=h1;exact⟨v,as,by rw[es];exact ev,tr.mv m λb hb u f hu=>hk i _ b u e ⟨t,v,as,e0,ev,tr,hb⟩ f hu,nd⟩
  | al k p=>
   intro t et;obtain⟨ek,WL⟩:=Pa k _ et;obtain⟨v,w,t',e1,e2,at',ow⟩:=h1 t ek;obtain⟨⟨v',as,P9,tr,_⟩,_,_⟩:=r k _ ek;rw[e1]at P9;cases P9;exact⟨v,w,t',by rw[WL];exact e1,by rw[es];exact e2,at'.mv (λa o n e=>(m a o n e).2) tr λb hb u f hu=>(hk k _ b u et ⟨t,v,as,ek,e1,tr,hb⟩ f hu).2,ow⟩
 ·refine ho i x b e (r.back (λy ey=>(Pa i y ey).1) es (λc u hc f hu=>(hk i x c u e hc f hu).2) (λa o n e=>(m a o n e).2) hb) k ok
theorem gg.f{M:Md}{H:Hp}{F:acS}{σ:St}{ρ:En}{i:Nat}{b:Addr}(h:cy M H F σ ρ i b):F b/\∃u,H b=some u:=by
 obtain⟨t,v,as,e,ev,tr,hb⟩:=h;exact tr.fs b hb
structure bC(M:Md)(H:Hp)(F:acS)(σ:St)(ρ:En):Prop where
 len:ρ.length=σ.length
 bw:∀a,F a->∃o,H a=some o
 sh:∀(i:Nat) d,ρ[i]? =some (.sh d)->∃v,σ[i]? =some (some v)/\Rep M H F d v
 ol:∀(i:Nat) ds,ρ[i]? =some (.ol ds)->∃a xs,σ[i]? =some (some (.ref a))/\F a/\H a=some (.lst xs)/\aj M H F ds xs
 od:∀(i:Nat) ks ds,ρ[i]? =some (.od ks ds)->∃a xs,σ[i]? =some (some (.ref a))/\F a/\H a=some (.dK (ks.zip xs))/\ks.length=xs.length/\aj M H F ds xs
 dg:∀(i j:Nat) a,bY ρ i->bY ρ j->σ[i]? =some (some (.ref a))->σ[j]? =some (some (.ref a))->i=j
 on:gg M H F σ ρ
section
variable{M:Md}{H H':Hp}{F F':acS}{σ:St}{ρ:En}
theorem bC.same(r:bC M H F σ ρ)(h:ar H H'):bC M H' F σ ρ where
 len:=r.len
 bw a f:=let⟨o,e⟩:=r.bw a f;⟨o,h _ _ e⟩
 sh i d e:=let⟨v,e1,q⟩:=r.sh i d e;⟨v,e1,q.mv (.same h)⟩
 ol i ds e:=let⟨a,xs,e1,f,e2,q⟩:=r.ol i ds e;⟨a,xs,e1,f,h _ _ e2,q.mv (.same h)⟩
 od i ks ds e:=let⟨a,xs,e1,f,e2,l,q⟩:=r.od i ks ds e;⟨a,xs,e1,f,h _ _ e2,l,q.mv (.same h)⟩
 dg:=r.dg
 on:=r.on.mv (.same h) (λj NR e=>⟨e,rfl⟩) (λj NR b u e hb f hu=>⟨f,h _ _ hu⟩) λj NR b e hb k ok=>(r.on j NR e).2.1 b hb k ok
theorem get_set{α:Type}{l:List α}{i j:Nat}{x y:α}(h:(l.set i x)[j]? =some y):(i=j/\x=y/\i<l.length)\/(i≠j/\l[j]? =some y):=by
 by_cases e:i=j
 ·subst e
  rw[aaU]at h;cases q:l[i]? with
  |none=>rw[q]at h;cases h
  | some z=>
   rw[q]at h;obtain⟨hl,_⟩:=xM.mp q;simp at h;exact .inl ⟨rfl,h,hl⟩
 ·rw[bU e]at h
  exact .inr ⟨e,h⟩
theorem bC.yc{i:Nat}{d:D}{v:V}(r:bC M H F σ ρ)(h:Rep M H F d v):bC M H F (σ.set i (some v)) (ρ.set i (.sh d)) where
 len:=by simp[r.len]
 bw:=r.bw
 sh j e q:=by
  rcases get_set q with⟨rfl,hx,hl⟩|⟨G',q⟩
  ·cases hx
   exact⟨v,by rw[Mk (by rw[<-r.len];exact hl)],h⟩
  ·obtain⟨w,e1,g⟩:=r.sh j e q
   exact⟨w,by rw[bU G'];exact e1,g⟩
 ol j e q:=by
  rcases get_set q with⟨rfl,x,hl⟩|⟨G',q⟩
  ·cases x
  ·obtain⟨a,xs,e1,g⟩:=r.ol j e q
   exact⟨a,xs,by rw[bU G'];exact e1,g⟩
 od j k e q:=by
  rcases get_set q with⟨rfl,x,hl⟩|⟨G',q⟩
  ·cases x
  ·obtain⟨a,xs,e1,g⟩:=r.od j k e q
   exact⟨a,xs,by rw[bU G'];exact e1,g⟩
 dg j k a oj ok ej ek:=by
  have nj:i≠j:=by
   rintro rfl;rcases oj with⟨ds,q⟩|⟨ks,ds,q⟩
   ·rcases get_set q with⟨_,x,_⟩|⟨G',_⟩
    ·cases x
    ·exact G' rfl
   ·rcases get_set q with⟨_,x,_⟩|⟨G',_⟩
    ·cases x
    ·exact G' rfl
  have nk:i≠k:=by
   rintro rfl;rcases ok with⟨ds,q⟩|⟨ks,ds,q⟩
   ·rcases get_set q with⟨_,x,_⟩|⟨G',_⟩
    ·cases x
    ·exact G' rfl
   ·rcases get_set q with⟨_,x,_⟩|⟨G',_⟩
    ·cases x
    ·exact G' rfl
  rw[bU nj]at ej;rw[bU nk]at ek;refine r.dg j k a ?_ ?_ ej ek
  ·unfold bY at oj;simp only[bU nj]at oj;exact oj
  ·unfold bY at ok;simp only[bU nk]at ok;exact ok
 on := r.on.mv (λ_ _ n e=>⟨n,e⟩) (λj NR e=>by
   rcases get_set e with⟨_,x,_⟩|⟨G',e⟩
   ·cases x
   ·exact⟨e,bU G'⟩) (λj NR b u e hb f hu=>⟨f,hu⟩) λj NR b e hb k ok=>by
  have e0:ρ[j]? =some (.on NR):=by
   rcases get_set e with⟨_,x,_⟩|⟨G',e⟩
   ·cases x
   ·exact e
  have nk:i≠k:=by
   rintro rfl;rcases ok with⟨ds,q⟩|⟨ks,ds,q⟩
   ·rcases get_set q with⟨_,x,_⟩|⟨G',_⟩
    ·cases x
    ·exact G' rfl
   ·rcases get_set q with⟨_,x,_⟩|⟨G',_⟩
    ·cases x
    ·exact G' rfl
  rw[bU nk];refine(r.on j NR e0).2.1 b hb k ?_;unfold bY at ok;simp only[bU nk]at ok;exact ok
end
open L2 (bA dJ cj R2 EP)
theorem aC{α β:Type}{x:R α}{f:α->R β}{b:β}:x.bind f=.ok b↔∃a,x=.ok a/\f a=.ok b:=by
 cases x with
 |ok a=>simp
 |exc y=>simp
 |bad=>simp
inductive tP(M:Md)(f:Ex)(σ:L2.St)(H:Hp)(Q:VK):Prop
 |mk:∀ρ F d,bC M H F σ ρ->f ρ=.ok d->(∀v H',ar H H'->Rep M H' F d v->Q v H')->tP M f σ H Q
inductive uc(M:Md)(c:cC)(σ:L2.St)(H:Hp)(Q:(Bool->Hp->Prop)):Prop
 |mk:∀ρ F b,bC M H F σ ρ->c ρ=.ok b->(∀H',ar H H'->Q b H')->uc M c σ H Q
inductive pM(M:Md)(f:En->R (List D))(σ:L2.St)(H:Hp)(Q:(List V->Hp->Prop)):Prop
 |mk:∀ρ F ds,bC M H F σ ρ->f ρ=.ok ds->(∀vs H',ar H H'->aj M H' F ds vs->Q vs H')->pM M f σ H Q
abbrev JE(X:Cx)(e:Expr)(f:Ex):Prop:=PE X e (tP (aJ X) f)
structure XE(X:Cx)(e:Expr)(f:Ex):Prop where
 out:JE X e f
abbrev JT(X:Cx)(e:Expr)(c:cC):Prop:=PT X e (uc (aJ X) c)
structure XT(X:Cx)(e:Expr)(f:cC):Prop where
 out:JT X e f
abbrev JA(X:Cx)(es:acP)(f:En->R (List D)):Prop:=PA X es (pM (aJ X) f)
structure XA(X:Cx)(e:acP)(f:En->R (List D)):Prop where
 out:JA X e f
theorem b9(h:PE X e t')(hi:∀σ H Q,t σ H Q->t' σ H Q):PE X e t:=λpins s σ H Q I q=>h pins s σ H Q I (hi σ H Q q)
theorem sS(h:PT X e t')(hi:∀σ H Q,t σ H Q->t' σ H Q):PT X e t:=λpins s σ H Q I q=>h pins s σ H Q I (hi σ H Q q)
theorem su(h:PA X e t')(hi:∀σ H Q,t σ H Q->t' σ H Q):PA X e t:=λpos pins s σ H Q I q=>h pos pins s σ H Q I (hi σ H Q q)
theorem AR(h:PW X e t')(hi:∀σ H Q,t σ H Q->t' σ H Q):PW X e t:=λwh pins s σ H Q I q=>h wh pins s σ H Q I (hi σ H Q q)
theorem ar.dy{H:Hp}{p:Addr}(h:H p=none)(o:HO):ar H (upd H p o):=λb u q=>by rw[L2.aN (L2.fq q h)];exact q
section
variable{X:Cx}{M:Md}{H H':Hp}{F:acS}{σ:St}{ρ:En}{pos:Pos}
theorem LM(h:aa i ρ=.ok d):ρ[i]? =some (.sh d):=by
 unfold aa at h;split at h
 ·rename_i e;cases h;exact e
 ·cases h
theorem ab(i:Nat)(hN:X.N[i]? =some x:=by rfl)(hv:L2.fi X.env.scope x:=by first|exact Or.inl rfl|exact Or.inr (Or.inl rfl)|exact Or.inr (Or.inr rfl))(hd:gV x:=by decide)(Oh:tx x:=by decide):XE X (.Name x pos) (aa i):=⟨ b9 (L2.pv i hN hv hd Oh) λσ H Q=>by
  rintro⟨ρ,F,d,r,e,q⟩
  obtain⟨v,e1,rv⟩:=r.sh i d (LM e);exact⟨v,e1,q v H (ar.refl H) rv⟩⟩
theorem af:XE X (.Constant (.int i) j pos) (eC (.int i)):=⟨ b9 L2.DD λσ H Q ⟨ρ,F,d,r,e,q⟩=>by cases e;exact q _ H (ar.refl H) (by simp[Rep])⟩
theorem lC:XE X (.Constant (.bool b) j pos) (eC (.bl b)):=⟨ b9 L2.Jm λσ H Q ⟨ρ,F,d,r,e,q⟩=>by cases e;exact q _ H (ar.refl H) (by simp[Rep])⟩
theorem fA:XE X (.Constant .none j pos) (eC .aE):=⟨ b9 L2.LG λσ H Q ⟨ρ,F,d,r,e,q⟩=>by cases e;exact q _ H (ar.refl H) (by simp[Rep])⟩
theorem aw:XE X (.Constant (.str x) j pos) (eC (.str x)):=⟨ b9 L2.FP λσ H Q ⟨ρ,F,d,r,e,q⟩=>by cases e;exact q _ H (ar.refl H) (by simp[Rep])⟩
theorem HM(hg:L2.Gl X x)(hm:X.mg x=some u)(r:RelV v u)(hr:∀H F,Rep (aJ X) H F d v)(hd:gV x:=by decide):JE X (.Name x pos) (eC d):=
 b9 (L2.zF hg hm r hd) λσ H Q ⟨ρ,F,d',r,e,q⟩=>by cases e;exact q _ H (ar.refl H) (hr H F)
def dn(M:Md)(g:D->D->R D)(r:R2):Prop:=∀(F:acS) (H:Hp) (x y:V) (a b d:D) (Q:VK),(∀p,F p->∃o,H p=some o)->Rep M H F a x->Rep M H F b y->g a b=.ok d->
 (∀v H',ar H H'->Rep M H' F d v->Q v H')->r x y H Q
def wG(M:Md)(g:D->R D)(r:V->Hp->VK->Prop):Prop:=∀(F:acS) (H:Hp) (x:V) (a d:D) (Q:VK),(∀p,F p->∃o,H p=some o)->Rep M H F a x->g a=.ok d->
 (∀v H',ar H H'->Rep M H' F d v->Q v H')->r x H Q
def iT(M:Md)(g:List D->R D)(r:List V->Hp->VK->Prop):Prop:=∀(F:acS) (H:Hp) (xs:List V) (as:List D) (d:D) (Q:VK),(∀p,F p->∃o,H p=some o)->aj M H F as xs->g as=.ok d->
 (∀v H',ar H H'->Rep M H' F d v->Q v H')->r xs H Q
theorem sL{g:D->D->R D}{r:R2}(hg:dn M g r){fa fb:Ex}{Q:VK}(h:tP M (e2 g fa fb) σ H Q):L2.nh r (tP M fa) (tP M fb) σ H Q:=by
 obtain⟨ρ,F,d,hr,e,q⟩:=h;obtain⟨a,ea,e⟩:=aC.mp e;obtain⟨b,eb,e⟩:=aC.mp e;refine⟨ρ,F,a,hr,ea,λx H1 s1 rx=>⟨ρ,F,b,hr.same s1,eb,λy H2 s2 ry=>?_⟩⟩;exact hg F H2 x y a b d Q ((hr.same s1).same s2).bw (rx.mv (.same s2)) ry e λv H3 s3 rv=>q v H3 (s1.trans (s2.trans s3)) rv
theorem ao(ho:bA X (binaryOp op) r)(hg:dn (aJ X) g r)(ha:XE X a fa)(hb:XE X b fb):XE X (.BinOp a op b pos) (e2 g fa fb):=⟨have ha:=ha.out;have hb:=hb.out;b9 (L2.EC ho ha hb) λσ H Q h=>sL hg h⟩
theorem gZ(ho:bA X (compareOp op) r)(hg:dn (aJ X) g r)(ha:XE X a fa)(hb:XE X b fb)(hm:behindInMarks op b=false:=by first|exact L2.yP _|rfl):XE X (.Compare a [op] [b] pos) (e2 g fa fb):=⟨have ha:=ha.out;have hb:=hb.out;b9 (L2.L1 ho ha hb hm) λσ H Q h=>sL hg h⟩
theorem Ms(hg:wG M g r)(h:tP M (e1 g fa) σ H Q):L2.Ai r (tP M fa) σ H Q:=by
 obtain⟨ρ,F,d,hr,e,q⟩:=h;obtain⟨a,ea,e⟩:=aC.mp e;exact⟨ρ,F,a,hr,ea,λx H1 s1 rx=>hg F H1 x a d Q (hr.same s1).bw rx e λv H3 s3 rv=>q v H3 (s1.trans s3) rv⟩
theorem La(ho:dJ X (unaryOp op) r)(hg:wG (aJ X) g r)(ha:XE X a fa):XE X (.UnaryOp op a pos) (e1 g fa):=⟨have ha:=ha.out;b9 (L2.JV ho ha) λσ H Q h=>Ms hg h⟩
theorem b8(h:Rep M H F (.int i) v):v=.int i:=by simpa only[Rep] using h
theorem gB(h:Rep M H F (.bl i) v):v=.bl i:=by simpa only[Rep] using h
theorem fB(h:Rep M H F (.str i) v):v=.str i:=by simpa only[Rep] using h
theorem rY(h:Rep M H F .aE v):v=.aE:=by simpa only[Rep] using h
theorem dM:Rep M H F (.int i) (.int i):=by simp only[Rep]
theorem fO:Rep M H F (.bl i) (.bl i):=by simp only[Rep]
theorem me:Rep M H F (.str i) (.str i):=by simp only[Rep]
theorem xU:Rep M H F .aE .aE:=by simp only[Rep]
theorem vU(h:small i=true): -(2 ^ 64)<i/\i<2 ^ 64:=by
 unfold small at h;rw[mO,JK,JK]at h;exact⟨h.1,h.2⟩
theorem sF:dn M ji (L2.gc λi j=>.int (i - j)):=by
 intro F H x y a b d Q tr ra rb e q;unfold ji at e;split at e
 ·cases e
  exact⟨_,_,b8 ra,b8 rb,q _ _ (ar.refl _) dM⟩
 ·cases e
theorem oM:dn M oLt (L2.gc λi j=>.bl (decide (i<j))):=by
 intro F H x y a b d Q tr ra rb e q;unfold oLt at e;split at e
 ·cases e
  exact⟨_,_,b8 ra,b8 rb,q _ _ (ar.refl _) fO⟩
 ·cases e
theorem Ac:dn M oLe (L2.gc λi j=>.bl (decide (i<=j))):=by
 intro F H x y a b d Q tr ra rb e q;unfold oLe at e;split at e
 ·cases e
  exact⟨_,_,b8 ra,b8 rb,q _ _ (ar.refl _) fO⟩
 ·cases e
theorem xf:dn M jk (L2.gc λi j=>.bl (decide (j<i))):=by
 intro F H x y a b d Q tr ra rb e q;unfold jk at e;split at e
 ·cases e
  exact⟨_,_,b8 ra,b8 rb,q _ _ (ar.refl _) fO⟩
 ·cases e
theorem AA:dn M jm (L2.gc λi j=>.bl (decide (j<=i))):=by
 intro F H x y a b d Q tr ra rb e q;unfold jm at e;split at e
 ·cases e
  exact⟨_,_,b8 ra,b8 rb,q _ _ (ar.refl _) fO⟩
 ·cases e
theorem bH:dn M oMod (L2.rI (λ_ j=>0<j) λi j=>.int (i % j)):=by
 intro F H x y a b d Q tr ra rb e q;unfold oMod at e;split at e
 ·split at e
  ·cases e
   exact⟨_,_,b8 ra,b8 rb,by assumption,q _ _ (ar.refl _) dM⟩
  ·cases e
 ·cases e
theorem c9:dn M b7 (L2.rI L2.CO λi j=>.int (i ^ j.toNat)):=by
 intro F H x y a b d Q tr ra rb e q;unfold b7 at e;split at e
 ·split at e
  ·rename_i i j h
   cases e;rw[mO]at h;have h3:=vU h.2;have h4:=h.1;unfold rm at h4;rw[mO,JK,JK]at h4;exact⟨_,_,b8 ra,b8 rb,⟨h4.1,by omega,by omega⟩,q _ _ (ar.refl _) dM⟩
  ·cases e
 ·cases e
theorem E8:wG M tY (L2.rU λi=>.int (-i)):=by
 intro F H x a d Q tr ra e q;unfold tY at e;split at e
 ·cases e
  exact⟨_,b8 ra,q _ _ (ar.refl _) dM⟩
 ·cases e
def AQ(i j:Int):Prop:=0<j/\j<340282366920938463463374607431768211456
theorem cB:bA X (binaryOp .FloorDiv) (L2.rI AQ λi j=>.int (i / j)):=by
 refine L2.rA λi j t u s Q E c h=>?_;have e:i / j=i.fdiv j:=(Int.fdiv_eq_ediv_of_nonneg _ (Int.le_of_lt c.1)).symm;rw[e]at h;refine PyProof.Rows.floordiv_int (by have:=c.1;omega) h (Or.inl ?_)
 refine PyProof.noPylong_of_log2 ?_;have h0:j.natAbs≠0:=by have:=c.1;omega
 have h1:j.natAbs.log2<128:=(Nat.log2_lt h0).mpr (by have:=c.2;have h2:(340282366920938463463374607431768211456:Nat)=2 ^ 128:=(by decide);have:=c.1;omega)
 omega
theorem cA:dn M oDiv (L2.rI AQ λi j=>.int (i / j)):=by
 intro F H x y a b d Q tr ra rb e q;unfold oDiv at e;split at e
 ·split at e
  ·rename_i h
   cases e;unfold pC at h;rw[mO,JK,JK]at h;exact⟨_,_,b8 ra,b8 rb,h,q _ _ (ar.refl _) dM⟩
  ·cases e
 ·cases e
end
section
variable{X:Cx}{M:Md}{H H':Hp}{F:acS}{σ:L2.St}{ρ:En}{pos:Pos}{pins:List (Addr×Obj)}{s:Shared}
theorem jX(I:Inv X pins σ H s)(h:g8 (aJ X) H F a xs):∃(aq:acQ) (n:Nat) (sl:Array (acR)),Vals xs aq/\s.heap.get? a=some {cls:=.type "list",data:=.seq aq.toArray n,slots:=sl}/\xs.length<=sizeLine:=by
 rcases h with⟨_,h⟩|⟨o,aq,n,hk,h1,h2,h3,hz,r⟩
 ·obtain⟨z,aq,n,r,e⟩:=h.ok I.aQ
  exact⟨aq,n, #[],r,e,z⟩
 ·obtain⟨c,dd,dt,sl⟩:=o
  simp only at h1 h2 h3;subst h1 h2 h3;refine⟨aq.toList,n,sl,r,by simpa using I.da a _ hk,?_⟩
  have e:=r.length;simp only[aaG]at e;omega
theorem Dx(l:Addr)(items:Array Value)(n:Nat)(sl:Array (acR))(b:Addr)(PV:Array Value)(n2:Nat)(Q2:Array (acR))(Tr:items.size+PV.size<=sizeLine):
  Meets (Builtin.«list.__add__» ⟨[.ref l,.ref b],[]⟩) (λ_ R s=>s.heap.get? l=some {cls:=.type "list",dict:=none,data:=.seq items n,slots:=sl}/\s.heap.get? b=some {cls:=.type "list",dict:=none,data:=.seq PV n2,slots:=Q2}/\R (.ok (.ret (Value.ref s.heap.objs.size))) {s with heap:=s.heap.push {cls:=Value.type "list",data:=Data.seq (items++PV)},toks:=s.toks}):=
 .of_wp λprog w A R s h=>by obtain⟨hp,g,d,tk,os⟩:=s;obtain⟨hl,hb,h⟩:=h;have f1:=AutoSeq1.idx_int;have f2:=AutoSeq1.sub_tuple_tuple;have f3:=AutoSeq1.sub_list_list;have f4:=AutoSeq1.sub_tuple_list;have f5:=AutoSeq1.sub_list_tuple;wp_walk using abd hl,abd hb;exact⟨_,rfl,h⟩
theorem mN(I:Inv X pins σ H s)(h:fG (aJ X) H F a xs):∃aq:acQ,Vals xs aq/\PyProof.Rows.IsTup s.heap a aq.toArray/\xs.length<=sizeLine:=I.tuple h.sq
noncomputable def zE(M:Md):R2:=λx y H Q=>∃F l b xs zs,x=.ref l/\y=.ref b/\g8 M H F l xs/\g8 M H F b zs/\xs.length+zs.length<=sizeLine/\∀p,H p=none->Q (.ref p) (upd H p (.lst (xs++zs)))
theorem MV:bA X (binaryOp .Add) (zE (aJ X)):=by
 intro pins s σ H x y v u Q I rx ry h;obtain⟨F,l,b,xs,zs,rfl,rfl,hH,hB,hz,q⟩:=h;cases rx;cases ry;obtain⟨aq,n,sl,r,e,z⟩:=jX I hH;obtain⟨Pb,n2,Q2,r2,e2,z2⟩:=jX I hB;have h1:=r.length;have h2:=r2.length;refine abz ⟨_,e,rfl⟩ ⟨_,e2,rfl⟩ noFill_list_add seq_list_add PySem.F.slot_list_add PySem.F.entry_list_add (PySem.F.args_list_add_2 _ _) (Dx l aq.toArray n sl b Pb.toArray n2 Q2 (by rw[IR,IR];omega)) ⟨e,e2,?_⟩
 have ea:aq.toArray++Pb.toArray=(aq++Pb).toArray:=by simp
 rw[ea];exact⟨.ref _,_,I.IG (t':=s.toks) (r.append r2) (by rw[KM];omega),rfl,q _ I.fresh⟩
noncomputable def wR(M:Md):R2:=λx y H Q=>(L2.gc λi j=>.int (i+j)) x y H Q\/(∃i j,x=.str i/\y=.str j/\i.length+j.length<=sizeLine/\Q (.str (i++j)) H)\/zE M x y H Q\/L2.Bm M.K x y H Q
theorem bI:bA X (binaryOp .Add) (wR (aJ X)):=L2.bA.or L2.bI (L2.bA.or L2.Hz (L2.bA.or MV L2.EM))
theorem oV(tr:∀p,F p->∃o,H p=some o)(h:H p=none):¬F p:=λf=>by obtain⟨o,e⟩:=tr p f;rw[h]at e;cases e
theorem sM(tr:∀p,F p->∃o,H p=some o)(h:H p=none)(r:aj M H F ds xs):Rep M (upd H p (.lst xs)) F (.lst ds) (.ref p):=by
 simp only[Rep];exact⟨p,xs,rfl,.inl ⟨oV tr h,.inl L2.bO⟩,r.mv (.same (ar.dy h _))⟩
theorem nH(tr:∀p,F p->∃o,H p=some o)(h:H p=none)(r:aj M H F ds xs):Rep M (upd H p (.tup xs)) F (.tup ds) (.ref p):=by
 simp only[Rep];exact⟨p,xs,rfl,.inl ⟨oV tr h,.inl L2.bO⟩,r.mv (.same (ar.dy h _))⟩
theorem bN:dn M bb (wR M):=by
 intro F H x y a b d Q tr ra rb e q;unfold bb at e;split at e
 ·cases e
  exact .inl ⟨_,_,b8 ra,b8 rb,q _ _ (ar.refl _) dM⟩
 ·split at e
  ·cases e
   exact .inr (.inl ⟨_,_,fB ra,fB rb,by assumption,q _ _ (ar.refl _) me⟩)
  ·cases e
 ·split at e
  ·rename_i hz
   cases e;simp only[Rep]at ra rb;obtain⟨l,xs,rfl,h1,r1⟩:=ra;obtain⟨m,zs,rfl,h2,r2⟩:=rb;refine .inr (.inr (.inl ⟨F,l,m,xs,zs,rfl,rfl,h1,h2,by rw[<-r1.length, <-r2.length];exact hz,λp hp=>q _ _ (ar.dy hp _) (sM tr hp (r1.append r2))⟩))
  ·cases e
 ·split at e
  ·rename_i hz
   cases e;simp only[Rep]at ra rb;obtain⟨l,xs,rfl,h1,r1⟩:=ra;obtain⟨m,zs,rfl,h2,r2⟩:=rb;have l1:=r1.length;have l2:=r2.length;refine .inr (.inr (.inr ⟨l,m,xs,zs,rfl,rfl,h1.sq,h2.sq,?_,by rw[<-l1, <-l2];exact hz.2,λe0=>?_,λ_ p hp=>q _ _ (ar.dy hp _) (nH tr hp (r1.append r2))⟩))
   ·intro e0
    subst e0;have:=hz.1;rename_i as bs;cases as with
    |nil=>cases this
    |cons _ _=>simp at l1
   ·subst e0
    rename_i as bs;cases bs with
    |cons _ _=>simp at l2
    | nil=>
     refine q _ _ (ar.refl _) ?_;rw[ZU];simp only[Rep];exact⟨l,xs,rfl,h1,r1⟩
  ·cases e
 ·cases e
theorem l7(h:XE X a fa):XE X (.BoolOp op [a] pos) fa:=⟨have h:=h.out;L2.ET h⟩
theorem lU(ha:XE X a fa)(hb:XE X (.BoolOp .And (b::rest) pos) fb):XE X (.BoolOp .And (a::b::rest) pos) (fF fa fb):=⟨have ha:=ha.out;have hb:=hb.out;b9 (L2.J8 ha hb) λσ H Q=>by
  rintro⟨ρ,F,d,hr,e,q⟩
  obtain⟨a,ea,e⟩:=aC.mp e;refine⟨ρ,F,a,hr,ea,λx H1 s1 rx=>?_⟩;split at e
  ·exact⟨true,gB rx,by rw[AC rfl];exact⟨ρ,F,d,hr.same s1,e,λv H2 s2 rv=>q v H2 (s1.trans s2) rv⟩⟩
  ·cases e
   exact⟨false,gB rx,by rw[DF (by decide)];exact q _ _ s1 fO⟩
  ·cases e⟩
theorem yT(ho:bA X (compareOp op) r)(Pz:bA X (compareOp op') r')(hg:dn (aJ X) g r)(Ye:dn (aJ X) g' r')(ha:XE X a fa)(hb:XE X b fb)(hc:XE X c fc)(hm:lastMarks [op,op'] [b,c]=false:=by with_unfolding_all rfl):XE X (.Compare a [op,op'] [b,c] pos) (wB g g' fa fb fc):=⟨have ha:=ha.out;have hb:=hb.out;have hc:=hc.out;b9 (L2.Eo ho Pz ha hb hc hm) λσ H Q=>by
  rintro⟨ρ,F,d,hr,e,q⟩
  obtain⟨a,ea,e⟩:=aC.mp e;obtain⟨b,eb,e⟩:=aC.mp e;obtain⟨z,ez,e⟩:=aC.mp e;refine⟨ρ,F,a,hr,ea,λx H1 s1 rx=>⟨ρ,F,b,hr.same s1,eb,λy H2 s2 ry=>?_⟩⟩;refine hg F H2 x y a b z _ ((hr.same s1).same s2).bw (rx.mv (.same s2)) ry ez λv H3 s3 rv=>?_;split at e
  ·obtain⟨w,ew,e⟩:=aC.mp e
   refine⟨true,gB rv,?_⟩;rw[AC rfl];refine⟨ρ,F,w,((hr.same s1).same s2).same s3,ew,λu H4 s4 ru=>?_⟩;exact Ye F H4 y u b w d Q ((((hr.same s1).same s2).same s3).same s4).bw (ry.mv (.same (s3.trans s4))) ru e λv H5 s5 rv=>q v H5 (s1.trans (s2.trans (s3.trans (s4.trans s5)))) rv
  ·cases e
   exact⟨false,gB rv,by rw[DF (by decide)];exact q _ _ (s1.trans (s2.trans s3)) fO⟩
  ·cases e⟩
theorem KY(r:Rep M H F a x)(e:truth a=.ok t):L2.t8 M.K x H t:=by
 cases a with
 |aE=>cases e;cases rY r;rfl
 |bl b=>cases e;cases gB r;rfl
 |int i=>cases e;cases b8 r;rfl
 | str z=>
  unfold truth at e;dsimp only at e;split at e
  ·rename_i hz
   cases e;cases fB r;refine⟨hz,?_⟩;rw[aby];simp
  ·cases e
 | tup ds=>
  cases e;simp only[Rep]at r;obtain⟨p,xs,rfl,h,rs⟩:=r;refine .inr (.inl ⟨xs,h.sq,?_⟩);have:=rs.length;cases ds<;>cases xs<;>simp at this ⊢
 | lst ds=>
  cases e;simp only[Rep]at r;obtain⟨p,xs,rfl,h,rs⟩:=r;refine .inl ⟨xs,h.sq,?_⟩;have:=rs.length;cases ds<;>cases xs<;>simp at this ⊢
 |aA ks ds=>cases e
 |cE _ _ _=>cases e
theorem fK(ha:XE X a fa)(he:∀whole,isTrue a X.env whole=(do let v <-whole;standAt a.pos;holding [v] (truthy v)):=by exact Jr (by rfl)):XT X a (tV fa):=⟨have ha:=ha.out;sS (L2.JZ ha he) λσ H Q=>by
  rintro⟨ρ,F,b,hr,e,q⟩
  obtain⟨a,ea,e⟩:=aC.mp e;exact⟨ρ,F,a,hr,ea,λx H1 s1 rx=>⟨b,KY rx e,q H1 s1⟩⟩⟩
def jN(g:D->D->R D):Prop:=∀a b d,g a b=.ok d->∃k,d=.bl k
theorem br(ho:bA X (compareOp op) r)(hg:dn (aJ X) g r)(hB:jN g)(ha:XE X a fa)(hb:XE X b fb)(hm:behindInMarks op b=false:=by first|exact L2.yP _|rfl):XT X (.Compare a [op] [b] pos) (tV (e2 g fa fb)):=⟨have ha:=ha.out;have hb:=hb.out;sS (L2.Km ho ha hb hm) λσ H Q=>by
  rintro⟨ρ,F,t,hr,e,q⟩
  obtain⟨d,ed,e⟩:=aC.mp e;refine sL hg ⟨ρ,F,d,hr,ed,λv H1 s1 rv=>?_⟩;obtain⟨a,ea,ed⟩:=aC.mp ed;obtain⟨b,eb,ed⟩:=aC.mp ed;obtain⟨k,rfl⟩:=hB _ _ _ ed;cases e;exact⟨_,gB rv,q H1 s1⟩⟩
theorem gD(ha:XE X a fa):XT X (.Compare a [.Is] [.Constant .none j p2] pos) (tV (e1 eK fa)):=⟨have ha:=ha.out;sS (L2.M7 (L2.IH ha)) λσ H Q=>by
  rintro⟨ρ,F,t,hr,e,q⟩
  obtain⟨d,ed,e⟩:=aC.mp e;obtain⟨a,ea,ed⟩:=aC.mp ed;refine⟨ρ,F,a,hr,ea,λx H1 s1 rx=>⟨t,?_,q H1 s1⟩⟩;cases ed;cases e;cases a<;>simp only[Rep]at rx
  all_goals first
   |(subst rx;rfl)
   |(obtain⟨p,xs,rfl,_⟩:=rx;rfl)⟩
theorem jB(ha:XT X a c):XT X (.UnaryOp .Not a pos) (eG c):=⟨have ha:=ha.out;sS (L2.L4 ha) λσ H Q=>by
  rintro⟨ρ,F,t,hr,e,q⟩
  obtain⟨b,eb,e⟩:=aC.mp e;cases e;exact⟨ρ,F,b,hr,eb,λH1 s1=>q H1 s1⟩⟩
abbrev JW(X:Cx)(e:Expr)(c:cC):Prop:=PW X e (uc (aJ X) c)
structure XW(X:Cx)(e:Expr)(f:cC):Prop where
 out:JW X e f
theorem CB(ha:XT X a c):XW X (.BoolOp .And [a] pos) c:=⟨have ha:=ha.out;L2.HU ha⟩
theorem l6(ha:XT X a c):XW X (.BoolOp .Or [a] pos) c:=⟨have ha:=ha.out;L2.Hf ha⟩
theorem C9(ha:XT X a c)(hb:XW X (.BoolOp .And (b::rest) pos) c'):XW X (.BoolOp .And (a::b::rest) pos) (jh c c'):=⟨have ha:=ha.out;have hb:=hb.out;AR (L2.Hd ha hb) λσ H Q=>by
  rintro⟨ρ,F,t,hr,e,q⟩
  obtain⟨b,eb,e⟩:=aC.mp e;refine⟨ρ,F,b,hr,eb,λH1 s1=>?_⟩;split at e
  ·rename_i h;rw[AC h];exact⟨ρ,F,t,hr.same s1,e,λH2 s2=>q H2 (s1.trans s2)⟩
  ·rename_i h;rw[DF h];cases e;exact q H1 s1⟩
theorem j7(ha:XT X a c)(hb:XW X (.BoolOp .Or (b::rest) pos) c'):XW X (.BoolOp .Or (a::b::rest) pos) (dS c c'):=⟨have ha:=ha.out;have hb:=hb.out;AR (L2.IE ha hb) λσ H Q=>by
  rintro⟨ρ,F,t,hr,e,q⟩
  obtain⟨b,eb,e⟩:=aC.mp e;refine⟨ρ,F,b,hr,eb,λH1 s1=>?_⟩;split at e
  ·rename_i h;rw[AC h];cases e;exact q H1 s1
  ·rename_i h;rw[DF h];exact⟨ρ,F,t,hr.same s1,e,λH2 s2=>q H2 (s1.trans s2)⟩⟩
theorem jC(h:XW X e c):XT X e c:=⟨have h:=h.out;L2.PW.pt h⟩
theorem IP(ha:XE X a fa):XE X (.UnaryOp .Not a pos) (e1 ql fa):=⟨have ha:=ha.out;b9 (L2.L3 ha) λσ H Q=>by
  rintro⟨ρ,F,d,hr,e,q⟩
  obtain⟨a,ea,e⟩:=aC.mp e;refine⟨ρ,F,a,hr,ea,λx H1 s1 rx=>?_⟩;unfold ql at e;split at e
  ·cases e;exact⟨_,gB rx,q _ _ s1 fO⟩
  ·cases e⟩
theorem iC(hc:XT X c fc)(ha:XE X a fa)(hb:XE X b fb):XE X (.IfExp c a b pos) (fj fc fa fb):=⟨have hc:=hc.out;have ha:=ha.out;have hb:=hb.out;b9 (L2.Lu hc ha hb) λσ H Q=>by
  rintro⟨ρ,F,d,hr,e,q⟩
  obtain⟨t,et,e⟩:=aC.mp e;refine⟨ρ,F,t,hr,et,λH1 s1=>?_⟩;split at e
  ·rename_i h;rw[AC h];exact⟨ρ,F,d,hr.same s1,e,λv H2 s2 rv=>q v H2 (s1.trans s2) rv⟩
  ·rename_i h;rw[DF h];exact⟨ρ,F,d,hr.same s1,e,λv H2 s2 rv=>q v H2 (s1.trans s2) rv⟩⟩
theorem hZ:JA X [] (eList []):=su L2.jj λσ H Q ⟨ρ,F,ds,hr,e,q⟩=>by cases e;exact q [] H (ar.refl H) aj.nil
theorem gk(ha:JE X e f)(hr:JA X es (eList fs))(hs:starEach (e::es) X.env=(false,eval e X.env)::starEach es X.env:=by rfl):JA X (e::es) (eList (f::fs)):=
 su (L2.gp ha hr hs) λσ H Q=>by
  rintro⟨ρ,F,ds,hr,e,q⟩
  obtain⟨a,ea,e⟩:=aC.mp e;obtain⟨as,Sy,e⟩:=aC.mp e;cases e;exact⟨ρ,F,a,hr,ea,λx H1 s1 rx=>⟨ρ,F,as,hr.same s1,Sy,λxs H2 s2 rs=>q _ H2 (s1.trans s2) (aj.cons (rx.mv (.same s2)) rs)⟩⟩
theorem kn:∀ {fs:List Ex} {ρ:En} {ds:List D},eList fs ρ=.ok ds->ds.length=fs.length
 |[],_,_,h=>by cases h;rfl
 | f::fs,_,_,h=>by
  obtain⟨a,_,h⟩:=aC.mp h;obtain⟨as,h2,h⟩:=aC.mp h;cases h;simp[kn h2]
theorem bu(h:XA X es (eList fs))(hl:fs.length<=1000:=by decide):XE X (.Tuple es k pos) (aP fs):=⟨have h:=h.out;b9 (L2.u7 h) λσ H Q=>by
  rintro⟨ρ,F,d,hr,e,q⟩
  obtain⟨as,ea,e⟩:=aC.mp e;cases e;refine⟨ρ,F,as,hr,ea,λxs H1 s1 rs=>⟨?_,λp hp=>q _ _ (s1.trans (ar.dy hp _)) (nH (hr.same s1).bw hp rs)⟩⟩;rw[<-rs.length,kn ea];exact Re hl (by decide)⟩
theorem dR(h:XA X es (eList fs))(hl:fs.length<=1000:=by decide):XE X (.List es pos) (cn fs):=⟨have h:=h.out;b9 (L2.u5 h) λσ H Q=>by
  rintro⟨ρ,F,d,hr,e,q⟩
  obtain⟨as,ea,e⟩:=aC.mp e;cases e;refine⟨ρ,F,as,hr,ea,λxs H1 s1 rs=>⟨?_,λp hp=>q _ _ (s1.trans (ar.dy hp _)) (sM (hr.same s1).bw hp rs)⟩⟩;rw[<-rs.length,kn ea];exact Re hl (by decide)⟩
theorem yd(I:Inv X pins σ H s)(e:H p=some (.dK j')):∃ob,Inv X pins σ (upd H p (.frz ob (.dK j'))) s:=by
 obtain⟨z,y,vs,r,ob,es,ep,eo,c⟩:=I.aQ p _ e;exact⟨ob,I.write (h':=s.heap) (t':=s.toks) (by rw[e];trivial) (.inl rfl) (λ_ _ _ q=>q) ⟨ob,eo⟩ ⟨eo,z,y,vs,r,ob,es,ep,eo,c⟩⟩
theorem vF(h:PE X e t')(hi:∀σ H Q,t σ H Q->t' σ H λv H'=>∃p j',v=.ref p/\H' p=some (.dK j')/\∀ob,Q v (upd H' p (.frz ob (.dK j')))):PE X e t:=by
 intro pins s σ H Q I q;refine L2.aW (h pins s σ H _ I (hi σ H Q q)) λu s1 ⟨x,H1,I1,rx,p,j',ex,e1,q1⟩=>?_;obtain⟨ob,I2⟩:=yd I1 e1;exact⟨x,_,I2,rx,q1 ob⟩
theorem FO:XE X (.Dict [] [] pos) (eW [] []):=⟨ vF L2.AM λσ H Q=>by
  rintro⟨ρ,F,d,hr,e,q⟩
  cases e;intro p hp;refine⟨p,[],rfl,L2.bO,λob=>?_⟩;rw[L2.uH];refine q _ _ (ar.dy hp _) ?_;simp only[Rep];exact⟨p,[],rfl,.inl ⟨oV hr.bw hp,ob,L2.bO⟩,rfl,aj.nil⟩⟩
theorem y8{α β:Type}{xs:List α}{ys:List β}{i:Int}{x:α}(hl:xs.length=ys.length)(h:cT xs i=some x):∃j y,dw ys.length i=some j/\xs[j]? =some x/\ys[j]? =some y/\cT ys i=some y:=by
 unfold cT at h ⊢;rw[hl]at h;cases e:dw ys.length i with
 |none=>rw[e]at h;cases h
 | some j=>
  rw[e]at h;have hx:xs[j]? =some x:=h;obtain⟨hj,_⟩:=xM.mp hx;have hy:j<ys.length:=by omega
  exact⟨j,ys[j],rfl,hx,Fk hy,by simp[hy]⟩
theorem tL:dn M pH (L2.sC M.K):=by
 intro F H x y a b d Q tr ra rb e q;unfold pH at e;split at e
 ·split at e
  ·rename_i xs i _ v hv
   cases e;simp only[Rep]at ra;obtain⟨p,ys,rfl,h,rs⟩:=ra;obtain⟨j,y,_,h1,h2,h3⟩:=y8 rs.length hv;obtain⟨z,hz,rz⟩:=rs.get h1;rw[h2]at hz;cases hz;exact .inl ⟨p,ys,_,y,rfl,b8 rb,h.sq,h3,q _ _ (ar.refl _) rz⟩
  ·cases e
 ·split at e
  ·rename_i xs i _ v hv
   cases e;simp only[Rep]at ra;obtain⟨p,ys,rfl,h,rs⟩:=ra;obtain⟨j,y,_,h1,h2,h3⟩:=y8 rs.length hv;obtain⟨z,hz,rz⟩:=rs.get h1;rw[h2]at hz;cases hz;exact .inr (.inl ⟨p,ys,_,y,rfl,b8 rb,h.sq,h3,q _ _ (ar.refl _) rz⟩)
  ·cases e
 ·split at e
  ·split at e
   ·rename_i hz _ c hc
    cases e;exact .inr (.inr ⟨_,_,c,fB ra,b8 rb,hz,hc,q _ _ (ar.refl _) me⟩)
   ·cases e
  ·cases e
 ·cases e
theorem xh(n d:Nat)(o:Option Int):HT.bp n d o=bp n d o:=by cases o<;>rfl
theorem B3(xs:List V)(lo hi:Option Int):L2.jf xs lo hi=cut xs lo hi:=by unfold L2.jf cut;simp only[xh]
theorem aj.cut(lo hi:Option Int)(r:aj M H F ds xs):aj M H F (cut ds lo hi) (PL.cut xs lo hi):=by
 unfold PL.cut;rw[r.length];exact(r.drop _).take _
inductive Bs(M:Md)(f:En->R (Option Int))(σ:L2.St)(H:Hp)(Q:(Option Int->Hp->Prop)):Prop
 |mk:∀ρ F o,bC M H F σ ρ->f ρ=.ok o->(∀H',ar H H'->Q o H')->Bs M f σ H Q
abbrev JO(X:Cx)(e:Option Expr)(f:Option Ex):Prop:=L2.PO X e (Bs (aJ X) (sg f))
structure XO(X:Cx)(e:Option Expr)(f:Option Ex):Prop where
 out:JO X e f
theorem wM:XO X none none:=⟨ λpins s σ H Q I=>by
 rintro⟨ρ,F,o,hr,e,q⟩
 cases e;exact L2.Iu pins s σ H Q I (q H (ar.refl H))⟩
theorem vR(h:XE X e f):XO X (some e) (some f):=⟨have h:=h.out;λpins s σ H Q I=>by
 rintro⟨ρ,F,o,hr,e,q⟩
 obtain⟨a,ea,e⟩:=aC.mp e;refine L2.Hu h pins s σ H Q I ⟨ρ,F,a,hr,ea,λx H1 s1 rx=>?_⟩;split at e
 ·cases e;exact⟨_,b8 rx,q H1 s1⟩
 ·cases e⟩
theorem vY(ha:XE X a fa)(hl:XO X lo fl)(hh:XO X hi fh):XE X (.Subscript a (.Slice lo hi none p2) pos) (jP fa fl fh):=⟨have ha:=ha.out;have hl:=hl.out;have hh:=hh.out;b9 (L2.KW (L2.jQ.or L2.HL L2.L8) ha hl hh) λσ H Q=>by
  rintro⟨ρ,F,d,hr,e,q⟩
  obtain⟨a,ea,e⟩:=aC.mp e;obtain⟨l,el,e⟩:=aC.mp e;obtain⟨h,eh,e⟩:=aC.mp e;refine⟨ρ,F,a,hr,ea,λx H1 s1 rx=>⟨ρ,F,l,hr.same s1,el,λH2 s2=>⟨ρ,F,h,(hr.same s1).same s2,eh,λH3 s3=>?_⟩⟩⟩;have Uc:=rx.mv (.same (s2.trans s3));have tr:=(((hr.same s1).same s2).same s3).bw;have TN:=s1.trans (s2.trans s3);unfold uT at e;split at e
  ·cases e
   simp only[Rep]at Uc;obtain⟨p,xs,rfl,h1,rs⟩:=Uc;refine .inl ⟨p,xs,rfl,h1.sq,λb hb=>?_⟩;rw[B3];exact q _ _ (TN.trans (ar.dy hb _)) (sM tr hb (rs.cut _ _))
  ·split at e
   ·cases e
   ·rename_i hw
    cases e;simp only[Rep]at Uc;obtain⟨p,xs,rfl,h1,rs⟩:=Uc;refine .inr ⟨p,xs,rfl,h1.sq,?_,λb hb=>?_⟩
    ·rw[xh,xh, <-rs.length];exact hw
    ·rw[B3]
     exact q _ _ (TN.trans (ar.dy hb _)) (nH tr hb (rs.cut _ _))
  ·cases e⟩
theorem vz(hg:iT M g r)(h:tP M (aI g fs) σ H Q):L2.ur r (pM M (eList fs)) σ H Q:=by
 obtain⟨ρ,F,d,hr,e,q⟩:=h;obtain⟨as,ea,e⟩:=aC.mp e;exact⟨ρ,F,as,hr,ea,λxs H1 s1 rs=>hg F H1 xs as d Q (hr.same s1).bw rs e λv H2 s2 rv=>q v H2 (s1.trans s2) rv⟩
@[simp] noncomputable def g1(g:D->R D):List D->R D
 |[a]=>g a
 |_=>.bad
@[simp] noncomputable def g2(g:D->D->R D):List D->R D
 |[a,b]=>g a b
 |_=>.bad
theorem BQ(g:D->R D)(f:Ex):e1 g f=aI (g1 g) [f]:=by
 funext ρ;show(f ρ).bind g=((f ρ).bind λx=>R.bind (R.ok []) λxs=>R.ok (x::xs)).bind (g1 g);cases f ρ<;>rfl
theorem EK(g:D->D->R D)(f f':Ex):e2 g f f'=aI (g2 g) [f,f']:=by
 funext ρ;show(f ρ).bind _=((f ρ).bind λx=>((f' ρ).bind λy=>R.bind (R.ok []) λys=>R.ok (y::ys)).bind λxs=>R.ok (x::xs)).bind (g2 g);cases f ρ with
 |ok a=>cases f' ρ<;>rfl
 |_=>rfl
theorem aj.one(r:aj M H F [d] xs):∃x,xs=[x]/\Rep M H F d x:=by
 simp only[aj]at r;obtain⟨x,t,rfl,h,rfl⟩:=r;exact⟨x,rfl,h⟩
theorem aj.two(r:aj M H F [d,e] xs):∃x y,xs=[x,y]/\Rep M H F d x/\Rep M H F e y:=by
 simp only[aj]at r;obtain⟨x,t,rfl,h,y,u,rfl,h2,rfl⟩:=r;exact⟨x,y,rfl,h,h2⟩
theorem fN{X:L2.Cx}{pos:Pos}{g:D->R D}{r:List V->Hp->VK->Prop}{x:Str}{id:String}{a:Expr}{fa:Ex}{p:Pos}(hc:cj X (.builtin id) r)(hg:iT (aJ X) (g1 g) r)(hm:X.mg x=none)(hv:bootBuiltins x=some (.builtin id))(ha:XE X a fa)(Sa:L2.Gl X x:=by rfl)(hs:starEach [a] X.env=(false,eval a X.env)::starEach [] X.env:=by exact bG (by rfl))(hn:x≠"__name__":=by decide)(O8:gV x:=by decide):XE X (.Call (.Name x p) [a] [] pos) (e1 g fa):=⟨have ha:=ha.out;by
 rw[BQ];exact b9 (L2.q8 hc Sa hm hv (gk ha hZ hs) hn O8 hs) λσ H Q h=>vz hg h⟩
theorem E1{id:String}(hc:cj X (.builtin id) r)(hg:iT (aJ X) (g2 g) r)(hm:X.mg x=none)(hv:bootBuiltins x=some (.builtin id))(ha:XE X a fa)(hb:XE X b fb)(Sa:L2.Gl X x:=by rfl)(hs:starEach [a,b] X.env=(false,eval a X.env)::starEach [b] X.env:=by exact bG (by rfl))(OH:starEach [b] X.env=(false,eval b X.env)::starEach [] X.env:=by exact bG (by rfl))(hn:x≠"__name__":=by decide)(O8:gV x:=by decide):XE X (.Call (.Name x p) [a,b] [] pos) (e2 g fa fb):=⟨have ha:=ha.out;have hb:=hb.out;by
 rw[EK];exact b9 (L2.q8 hc Sa hm hv (gk ha (gk hb hZ OH) hs) hn O8 hs (by rw[OH];rfl)) λσ H Q h=>vz hg h⟩
theorem iq{X:L2.Cx}{pos:Pos}{g:D->R D}{r:List V->Hp->VK->Prop}{x:Str}{T:String}{a:Expr}{fa:Ex}{p:Pos}(hc:cj X (.type T) r)(hg:iT (aJ X) (g1 g) r)(hm:X.mg x=none)(hv:bootBuiltins x=some (.type T))(ha:XE X a fa)(Sa:L2.Gl X x:=by rfl)(hs:starEach [a] X.env=(false,eval a X.env)::starEach [] X.env:=by exact bG (by rfl))(hn:x≠"__name__":=by decide)(O8:gV x:=by decide):XE X (.Call (.Name x p) [a] [] pos) (e1 g fa):=⟨have ha:=ha.out;by
 rw[BQ];exact b9 (L2.ox hc Sa hm hv (gk ha hZ hs) hn O8 hs) λσ H Q h=>vz hg h⟩
def tM(M:Md):List V->Hp->VK->Prop:=λxs H Q=>(∃p ys,xs=[.ref p]/\(bP M.K H p ys\/bW M.K H p ys)/\Q (.int ys.length) H)\/(∃z,xs=[.str z]/\z.length<=sizeLine/\Q (.int z.length) H)
theorem ju:cj X (.builtin "len") (tM (aJ X)):=L2.cj.or L2.Mj L2.Ib
theorem i8:iT M (g1 eQ) (tM M):=by
 intro F H xs as d Q tr rs e q;unfold g1 at e;split at e
 ·obtain⟨x,rfl,r⟩:=rs.one
  unfold eQ at e;split at e
  ·cases e
   simp only[Rep]at r;obtain⟨p,ys,rfl,h,rs⟩:=r;exact .inl ⟨p,ys,rfl,.inl h.sq,q _ _ (ar.refl _) (by rw[<-rs.length];exact dM)⟩
  ·cases e
   simp only[Rep]at r;obtain⟨p,ys,rfl,h,rs⟩:=r;exact .inl ⟨p,ys,rfl,.inr h.sq,q _ _ (ar.refl _) (by rw[<-rs.length];exact dM)⟩
  ·split at e
   ·cases e
    exact .inr ⟨_,by rw[fB r],by assumption,q _ _ (ar.refl _) dM⟩
   ·cases e
  ·cases e
 ·cases e
theorem mL:iT M (g1 ib) (λxs H Q=>(∃i,xs=[.int i]/\Q (.int i) H)\/∃k,xs=[.bl k]/\Q (.int (if k then 1 else 0)) H):=by
 intro F H xs as d Q tr rs e q;unfold g1 at e;split at e
 ·obtain⟨x,rfl,r⟩:=rs.one
  unfold ib at e;split at e
  ·cases e;exact .inl ⟨_,by rw[b8 r],q _ _ (ar.refl _) dM⟩
  ·cases e;exact .inr ⟨_,by rw[gB r],q _ _ (ar.refl _) dM⟩
  ·cases e
 ·cases e
theorem pK:iT M (g1 iV) (λxs H Q=>∃p ys,xs=[.ref p]/\((bP M.K H p ys/\∀l,H l=none->Q (.ref l) (upd H l (.tup ys)))\/(bW M.K H p ys/\Q (.ref p) H))):=by
 intro F H xs as d Q tr rs e q;unfold g1 at e;split at e
 ·obtain⟨x,rfl,r⟩:=rs.one
  unfold iV at e;split at e
  ·cases e
   simp only[Rep]at r;obtain⟨p,ys,rfl,h,rs⟩:=r;exact⟨p,ys,rfl,.inl ⟨h.sq,λl hl=>q _ _ (ar.dy hl _) (nH tr hl rs)⟩⟩
  ·cases e
   have r':=r;simp only[Rep]at r;obtain⟨p,ys,rfl,h,rs⟩:=r;exact⟨p,ys,rfl,.inr ⟨h.sq,q _ _ (ar.refl _) r'⟩⟩
  ·cases e
 ·cases e
theorem Lm:iT M (g2 qW) (λxs H Q=>∃i j,xs=[.int i,.int j]/\Q (.int (if j<i then j else i)) H):=by
 intro F H xs as d Q tr rs e q;unfold g2 at e;split at e
 ·obtain⟨x,y,rfl,r,r2⟩:=rs.two
  unfold qW at e;split at e
  ·cases e;exact⟨_,_,by rw[b8 r,b8 r2],q _ _ (ar.refl _) dM⟩
  ·cases e
 ·cases e
end
section
variable{X:Cx}{M:Md}{H H':Hp}{F:acS}{σ:L2.St}{ρ:En}{pos:Pos}{pins:List (Addr×Obj)}{s:Shared}
mutual
noncomputable def pyd:D->PyData
 |.aE=>.none
 |.bl b=>.bool b
 |.int i=>.int i
 |.str x=>.str x
 |.tup xs=>.tuple (f9 xs)
 |.lst xs=>.list (f9 xs)
 |.aA _ _=>.dict []
 |.cE _ _ _=>.dict []
noncomputable def f9:List D->List PyData
 |[]=>[]
 |x::xs=>pyd x::f9 xs
end
mutual
theorem tX:∀(a b:D),lay a=true->lay b=true->PyData.eqv (pyd a) (pyd b)=cw a b
 |.aE,b,_,hb=>by cases b<;>first|rfl|(simp[lay]at hb)
 |.bl _,b,_,hb=>by cases b<;>first|rfl|(simp[lay]at hb)
 |.int _,b,_,hb=>by cases b<;>first|rfl|(simp[lay]at hb)
 | .str x,b,_,hb=>by
  cases b with
  |str y=>show(x==y)=decide (x=y);rw[aby,aaB,JK]
  |_=>first|rfl|(simp[lay]at hb)
 | .tup xs,b,ha,hb=>by
  cases b with
  |tup ys=>simp only[lay]at ha hb;exact vO xs ys ha hb
  |_=>first|rfl|(simp[lay]at hb)
 | .lst xs,b,ha,hb=>by
  cases b with
  |lst ys=>simp only[lay]at ha hb;exact vO xs ys ha hb
  |_=>first|rfl|(simp[lay]at hb)
 |.aA _ _,_,ha,_=>by simp[lay]at ha
 |.cE _ _ _,_,ha,_=>by simp[lay]at ha
theorem vO:∀(a b:List D),fW a=true->fW b=true->PyData.eqvAll (f9 a) (f9 b)=ki a b
 |[],[],_,_=>rfl
 |[],_::_,_,_=>rfl
 |_::_,[],_,_=>rfl
 | x::xs,y::ys,ha,hb=>by
  simp only[fW,mO]at ha hb;show(PyData.eqv (pyd x) (pyd y)&&PyData.eqvAll (f9 xs) (f9 ys))=(cw x y&&ki xs ys);rw[tX x y ha.1 hb.1,vO xs ys ha.2 hb.2]
end
mutual
theorem pV:∀a:D,lay a=true->(pyd a).canLay0=true
 |.aE,_=>rfl
 |.bl _,_=>rfl
 |.int _,_=>rfl
 |.str x,h=>by simp only[lay]at h;exact h
 |.tup xs,h=>by simp only[lay]at h;exact uF xs h
 |.lst xs,h=>by simp only[lay]at h;exact uF xs h
 |.aA _ _,h=>by simp[lay]at h
 |.cE _ _ _,h=>by simp[lay]at h
theorem uF:∀a:List D,fW a=true->PyData.canLayAll0 (f9 a)=true
 |[],_=>rfl
 | x::xs,h=>by
  simp only[fW,mO]at h;show((pyd x).canLay0&&PyData.canLayAll0 (f9 xs))=true;rw[pV x h.1,uF xs h.2];rfl
end
mutual
theorem nY:∀a:D,lay a=true->(pyd a).depth=dep a
 |.aE,_=>rfl
 |.bl _,_=>rfl
 |.int _,_=>rfl
 |.str _,_=>rfl
 |.tup xs,h=>by simp only[lay]at h;show PyData.depthAll (f9 xs)+1=_;rw[vo xs h];simp only[dep]
 |.lst xs,h=>by simp only[lay]at h;show PyData.depthAll (f9 xs)+1=_;rw[vo xs h];simp only[dep]
 |.aA _ _,h=>by simp[lay]at h
 |.cE _ _ _,h=>by simp[lay]at h
theorem vo:∀a:List D,fW a=true->PyData.depthAll (f9 a)=oF a
 |[],_=>rfl
 | x::xs,h=>by
  simp only[fW,mO]at h;show max (pyd x).depth (PyData.depthAll (f9 xs))=_;rw[nY x h.1,vo xs h.2];simp only[oF]
end
mutual
theorem oO(I:Inv X pins σ H s):∀ {a:D} {x:V} {u:Value},lay a=true->Rep (aJ X) H F a x->RelV x u->∃as,Reads s.heap u (pyd a) as
 |.aE,_,_,_,r,rx=>by cases rY r;cases rx;exact⟨_,.none⟩
 |.bl b,_,_,_,r,rx=>by cases gB r;cases rx;exact⟨_,.bool b⟩
 |.int i,_,_,_,r,rx=>by cases b8 r;obtain⟨t,rfl⟩:=rx;exact⟨_,.int i t⟩
 |.str z,_,_,_,r,rx=>by cases fB r;obtain⟨t,rfl⟩:=rx;exact⟨_,.str z t⟩
 | .tup ds,_,_,h,r,rx=>by
  simp only[lay]at h;simp only[Rep]at r;obtain⟨p,xs,rfl,t,rs⟩:=r;cases rx;obtain⟨aq,rv,⟨o,e,c,n,d⟩,_⟩:=mN I t;obtain⟨as,ra⟩:=vX I h rs rv;exact⟨_,.tuple e c d (by simpa using ra)⟩
 | .lst ds,_,_,h,r,rx=>by
  simp only[lay]at h;simp only[Rep]at r;obtain⟨p,xs,rfl,t,rs⟩:=r;cases rx;obtain⟨aq,n,sl,rv,e,_⟩:=jX I t;obtain⟨as,ra⟩:=vX I h rs rv;exact⟨_,.list e rfl rfl (by simpa using ra)⟩
 |.aA _ _,_,_,h,_,_=>by simp[lay]at h
 |.cE _ _ _,_,_,h,_,_=>by simp[lay]at h
theorem vX(I:Inv X pins σ H s):∀ {as:List D} {xs:List V} {us:acQ},fW as=true->aj (aJ X) H F as xs->Vals xs us->∃bs,ReadsAll s.heap us (f9 as) bs
 |[],_,_,_,r,rv=>by simp only[aj]at r;subst r;cases rv;exact⟨_,.nil⟩
 | a::as,_,_,h,r,rv=>by
  simp only[fW,mO]at h;simp only[aj]at r;obtain⟨x,t,rfl,r1,r2⟩:=r;cases rv with
  | cons q w=>
   obtain⟨bs,h1⟩:=oO I h.1 r1 q;obtain⟨cs,h2⟩:=vX I h.2 r2 w;exact⟨_,.cons h1 h2⟩
end
theorem Eu(l:Addr)(es:Array DictEntry)(n:Nat)(dd:Option Addr)(sl:Array (acR))(b:Str)(u:Tok):
  Meets (Builtin.«dict.__eq__» ⟨[.ref l,.str b u],[]⟩) (λ_ R s=>s.heap.get? l=some {cls:=.type "dict",dict:=dd,data:=.dict es n,slots:=sl}/\R (.ok (.ret .notImplemented)) s):=
 .of_wp λprog w A R s h=>by obtain⟨hp,g,d,tk,os⟩:=s;obtain⟨hl,h⟩:=h;have f1:=F.sub_str_dict;wp_walk;exact⟨_,rfl,h⟩
theorem HV(b:Str)(u:Tok)(l:Addr)(es:Array DictEntry)(n:Nat)(dd:Option Addr)(sl:Array (acR)):
  Meets (Builtin.«str.__eq__» ⟨[.str b u,.ref l],[]⟩) (λ_ R s=>s.heap.get? l=some {cls:=.type "dict",dict:=dd,data:=.dict es n,slots:=sl}/\R (.ok (.ret .notImplemented)) s):=
 .of_wp λprog w A R s h=>by obtain⟨hp,g,d,tk,os⟩:=s;obtain⟨hl,h⟩:=h;wp_walk using abd hl,wpAny_load hl;exact⟨_,rfl,h⟩
theorem Ji(b:Str)(u:Tok)(ho:s.heap.get? l=some o)(hc:o.cls=.type "dict")(hd:o.data=.dict es n)(hu:A.units<cLine):SeqAt.RcAt A s (.ref l) (.str b u) false:=λprog w E Q h=>by
 obtain⟨cls,dd,data,sl⟩:=o;simp only at hc hd;subst hc hd
 exact SeqAt.rc_eq_decline_or (k:=false) ⟨_,ho,rfl⟩ (abw s b u) (by decide) F.sub_str_dict F.slot_dict_eq F.slot_str_eq_refl
  (λ_ hq=>abW F.slot_dict_eq ⟨_,ho,rfl⟩ F.entry_dict_eq (F.args_dict_eq_2 _ _) (Eu l es n dd sl b u) ⟨ho,hq⟩)
  (λ_ hq=>abW F.slot_str_eq_refl (abw s b u) F.entry_str_eq (F.args_str_eq_2 _ _) (HV b u l es n dd sl) ⟨ho,hq⟩)
  (λ_ hq=>wpAny_of_eq (rfl:isSame (.ref l) (.str b u)=pure false) hq) (.inr hu) h
theorem jx(I:Inv X pins σ H s)(h:gr (aJ X) H F a j'):j'.length<=sizeLine/\(a==sysModules)=false/\∃vs,L2.KV j' vs/\s.heap.DictOf (L2.cK X.prog X.w) a vs:=by
 rcases h with⟨_,ob,h⟩|⟨o,es,ep,vs,h1,h2,h3,h4,h5,h6,h7,h8,h9⟩
 ·exact L2.xK I.aQ (.inr ⟨ob,h⟩)
 ·exact⟨h8,h9,vs,h7,o,es,ep,I.da a o h1,h2,h3,h4,h5,h6⟩
def BY(M:Md):R2:=λx y H Q=>∃F a b,Rep M H F a x/\Rep M H F b y/\eT a b=true/\Q (.bl (cw a b)) H
def A1(M:Md):R2:=λx y H Q=>∃F a b,Rep M H F a x/\Rep M H F b y/\gC a b=true/\Q (.bl (!cw a b)) H
theorem str_beq(a b:Str):(a==b)=decide (a=b):=by rw[aby,aaB,JK]
theorem IY(fa:flat a=true)(fb:flat b=true)(ra:Rep M H F a x)(rb:Rep M H F b y)(rx:RelV x u)(ry:RelV y v):SeqAt.RcAt A s u v (cw a b):=by
 cases a<;>(try cases fa)<;>cases b<;>(try cases fb)<;>simp only[Rep]at ra rb<;>subst ra<;>subst rb
 ·cases rx;cases ry;exact SeqAt.RcAt.none_none
 ·cases rx;cases ry;exact SeqAt.RcAt.none_bool _
 ·cases rx;obtain⟨t,rfl⟩:=ry;exact SeqAt.RcAt.none_int _ _
 ·cases rx;obtain⟨t,rfl⟩:=ry;exact SeqAt.RcAt.none_str _ _
 ·cases rx;cases ry;exact SeqAt.RcAt.bool_none _
 ·cases rx;cases ry;exact SeqAt.RcAt.bool_bool _ _
 ·cases rx;obtain⟨t,rfl⟩:=ry;exact SeqAt.RcAt.bool_int _ _ _
 ·cases rx;obtain⟨t,rfl⟩:=ry;exact SeqAt.RcAt.bool_str _ _ _
 ·obtain⟨t,rfl⟩:=rx;cases ry;exact SeqAt.RcAt.int_none _ _
 ·obtain⟨t,rfl⟩:=rx;cases ry;exact SeqAt.RcAt.int_bool _ _ _
 ·obtain⟨t,rfl⟩:=rx;obtain⟨t,rfl⟩:=ry;exact SeqAt.RcAt.int_int _ _ _ _
 ·obtain⟨t,rfl⟩:=rx;obtain⟨t,rfl⟩:=ry;exact SeqAt.RcAt.int_str _ _ _ _
 ·obtain⟨t,rfl⟩:=rx;cases ry;exact SeqAt.RcAt.str_none _ _
 ·obtain⟨t,rfl⟩:=rx;cases ry;exact SeqAt.RcAt.str_bool _ _ _
 ·obtain⟨t,rfl⟩:=rx;obtain⟨t,rfl⟩:=ry;exact SeqAt.RcAt.str_int _ _ _ _
 ·obtain⟨t,rfl⟩:=rx;obtain⟨t,rfl⟩:=ry;simp only[cw];rw[<-str_beq];exact SeqAt.RcAt.str_str _ _ _ _
theorem Jk(fa:flat a=true)(fb:flat b=true)(ra:Rep M H F a x)(rb:Rep M H F b y)(rx:RelV x u)(ry:RelV y v):SeqAt.RcNeAt A s u v (!cw a b):=by
 cases a<;>(try cases fa)<;>cases b<;>(try cases fb)<;>simp only[Rep]at ra rb<;>subst ra<;>subst rb
 ·cases rx;cases ry;exact SeqAt.RcNeAt.none_none
 ·cases rx;cases ry;exact SeqAt.RcNeAt.none_bool _
 ·cases rx;obtain⟨t,rfl⟩:=ry;exact SeqAt.RcNeAt.none_int _ _
 ·cases rx;obtain⟨t,rfl⟩:=ry;exact SeqAt.RcNeAt.none_str _ _
 ·cases rx;cases ry;exact SeqAt.RcNeAt.bool_none _
 ·cases rx;cases ry;exact SeqAt.RcNeAt.bool_bool _ _
 ·cases rx;obtain⟨t,rfl⟩:=ry;exact SeqAt.RcNeAt.bool_int _ _ _
 ·cases rx;obtain⟨t,rfl⟩:=ry;exact SeqAt.RcNeAt.bool_str _ _ _
 ·obtain⟨t,rfl⟩:=rx;cases ry;exact SeqAt.RcNeAt.int_none _ _
 ·obtain⟨t,rfl⟩:=rx;cases ry;exact SeqAt.RcNeAt.int_bool _ _ _
 ·obtain⟨t,rfl⟩:=rx;obtain⟨t,rfl⟩:=ry;exact SeqAt.RcNeAt.int_int _ _ _ _
 ·obtain⟨t,rfl⟩:=rx;obtain⟨t,rfl⟩:=ry;exact SeqAt.RcNeAt.int_str _ _ _ _
 ·obtain⟨t,rfl⟩:=rx;cases ry;exact SeqAt.RcNeAt.str_none _ _
 ·obtain⟨t,rfl⟩:=rx;cases ry;exact SeqAt.RcNeAt.str_bool _ _ _
 ·obtain⟨t,rfl⟩:=rx;obtain⟨t,rfl⟩:=ry;exact SeqAt.RcNeAt.str_int _ _ _ _
 ·obtain⟨t,rfl⟩:=rx;obtain⟨t,rfl⟩:=ry;simp only[cw];rw[<-str_beq];exact SeqAt.RcNeAt.str_str _ _ _ _
theorem IC(ds:List D):((List.range (min ds.length 0)).all (λ_=>true)&&(ds.length==0))=cw (.tup ds) (.tup []):=by
 cases ds<;>simp
theorem zb(I:Inv X pins σ H s)(hu:A.units<cLine)(ra:Rep (aJ X) H F (.tup ds) x)(rb:Rep (aJ X) H F (.tup []) y)(rx:RelV x u)(ry:RelV y v):
  SeqAt.RcAt A s u v (cw (.tup ds) (.tup []))/\SeqAt.RcNeAt A s u v (!cw (.tup ds) (.tup [])):=by
 simp only[Rep]at ra rb;obtain⟨p,xs,rfl,h,rs⟩:=ra;obtain⟨p2,Zi,rfl,h2,P5⟩:=rb;cases rx;cases ry;simp only[aj]at P5;subst P5;obtain⟨aq,rv,⟨o,e,c,n,d⟩,_⟩:=mN I h;obtain⟨Pb,RC,⟨o2,e2,c2,n2,d2⟩,_⟩:=mN I h2;cases RC;have hl:aq.toArray.size=ds.length:=by rw[IR, <-rv.length, <-rs.length]
 have z1:=SeqAt.RcAt.tuples (A:=A) (s:=s) (e:=λ_=>true) (l:=p) (b:=p2) ⟨o,e,c,n,d⟩ ⟨o2,e2,c2,n2,d2⟩ hu (λj _ h2=>by simp at h2)
 have z2:=SeqAt.RcNeAt.tuples (A:=A) (s:=s) (e:=λ_=>true) (l:=p) (b:=p2) ⟨o,e,c,n,d⟩ ⟨o2,e2,c2,n2,d2⟩ hu (λj _ h2=>by simp at h2)
 rw[<-IC];rw[hl]at z1 z2;exact⟨z1,z2⟩
theorem oh(hu:X.A.units+64<cLine):bA X (compareOp .NotEq) (A1 (aJ X)):=by
 intro pins s σ H x y v u Q I rx ry h;obtain⟨F,a,b,ra,rb,ok,q⟩:=h;have fin:EP X pins σ Q (.bool (!cw a b)) s:=⟨.bl _,H,I,rfl,q⟩;unfold gC at ok;rw[Z9,Z9,mO]at ok;rcases ok with(⟨fa,fb⟩|t)|l
 ·exact Jk fa fb ra rb rx ry _ _ _ _ fin
 ·unfold tJ at t
  split at t
  ·exact(zb I (by omega) ra rb rx ry).2 _ _ _ _ fin
  ·cases t
 ·rw[mO,mO,JK]at l
  obtain⟨⟨la,lb⟩,hd⟩:=l;obtain⟨as,h1⟩:=oO I la ra rx;obtain⟨bs,h2⟩:=oO I lb rb ry;refine SeqAt.compareNe_reads h1 h2 (pV a la) (pV b lb) (by rw[nY a la,nY b lb];omega) ?_
  rw[tX a b la lb];exact fin
theorem bL(hu:X.A.units+64<cLine):bA X (compareOp .Eq) (BY (aJ X)):=by
 intro pins s σ H x y v u Q I rx ry h;obtain⟨F,a,b,ra,rb,ok,q⟩:=h;have fin:EP X pins σ Q (.bool (cw a b)) s:=⟨.bl _,H,I,rfl,q⟩;unfold eT at ok;rw[Z9]at ok;rcases ok with ok|dc
 ·unfold gC at ok
  rw[Z9,Z9,mO]at ok;rcases ok with(⟨fa,fb⟩|t)|l
  ·exact IY fa fb ra rb rx ry _ _ _ _ fin
  ·unfold tJ at t
   split at t
   ·exact(zb I (by omega) ra rb rx ry).1 _ _ _ _ fin
   ·cases t
  ·rw[mO,mO,JK]at l
   obtain⟨⟨la,lb⟩,hd⟩:=l;obtain⟨as,h1⟩:=oO I la ra rx;obtain⟨bs,h2⟩:=oO I lb rb ry;refine SeqAt.compareEq_reads h1 h2 (pV a la) (pV b lb) (by rw[nY a la,nY b lb];omega) ?_
   rw[tX a b la lb];exact fin
 ·unfold BS at dc
  split at dc
  ·cases fB rb
   obtain⟨t,rfl⟩:=ry;simp only[Rep]at ra;obtain⟨p,xs,rfl,h,_⟩:=ra;cases rx;obtain⟨_,_,vs,_,o,es,ep,e1,e2,e3,_⟩:=jx I h;exact Ji _ t e1 e2.1 e3 (by omega) _ _ _ _ fin
  ·cases dc
theorem bJ:dn M oEq (BY M):=by
 intro F H x y a b d Q tr ra rb e q;unfold oEq at e;split at e
 ·cases e;exact⟨F,a,b,ra,rb,by assumption,q _ _ (ar.refl _) fO⟩
 ·cases e
theorem o9:dn M dH (A1 M):=by
 intro F H x y a b d Q tr ra rb e q;unfold dH at e;split at e
 ·cases e;exact⟨F,a,b,ra,rb,by assumption,q _ _ (ar.refl _) fO⟩
 ·cases e
theorem bX:jN oEq:=λa b d h=>by unfold oEq at h;split at h<;>cases h;exact⟨_,rfl⟩
theorem qV:jN dH:=λa b d h=>by unfold dH at h;split at h<;>cases h;exact⟨_,rfl⟩
theorem yR:jN oLt:=λa b d h=>by unfold oLt at h;split at h<;>cases h;exact⟨_,rfl⟩
theorem xn:jN jk:=λa b d h=>by unfold jk at h;split at h<;>cases h;exact⟨_,rfl⟩
theorem CU:jN jm:=λa b d h=>by unfold jm at h;split at h<;>cases h;exact⟨_,rfl⟩
theorem yt:bootBuiltins "isinstance"=some (.builtin "isinstance"):=by decide+kernel
theorem gM:bootBuiltins "len"=some (.builtin "len"):=by decide+kernel
theorem MP:bootBuiltins "min"=some (.builtin "min"):=by decide+kernel
theorem vI:bootBuiltins "all"=some (.builtin "all"):=by decide+kernel
theorem kq:bootBuiltins "int"=some (.type "int"):=by decide+kernel
theorem we:bootBuiltins "bool"=some (.type "bool"):=by decide+kernel
theorem zf:bootBuiltins "str"=some (.type "str"):=by decide+kernel
theorem oC:bootBuiltins "list"=some (.type "list"):=by decide+kernel
theorem gT:bootBuiltins "tuple"=some (.type "tuple"):=by decide+kernel
theorem ng:bootBuiltins "dict"=some (.type "dict"):=by decide+kernel
noncomputable def mZ:Ty->String
 |.int=>"int"|.bool=>"bool"|.str=>"str"|.tuple=>"tuple"|.list=>"list"|.dict=>"dict"
theorem kH(h:R.ok (D.bl a)=R.ok (D.bl b)):some a=some b:=by cases h;rfl
theorem HC:cj X (.builtin "isinstance") (λxs H Q=>∃F d x b ty,xs=[x,.ty (mZ ty)]/\Rep (aJ X) H F d x/\cb ty d=.ok (.bl b)/\(∀c ns vs,d≠.cE c ns vs)/\Q (.bl b) H):=by
 intro pins s σ H xs us Q I r h;obtain⟨F,d,x,b,ty,rfl,rd,e,ne,q⟩:=h;obtain⟨u,w,rfl,ru,O0⟩:=L2.vals2 r;cases (show w=Value.type (mZ ty)from O0)
 have fin:∀tk,EP X pins σ Q (.bool b) {s with toks:=tk}:=λtk=>⟨.bl _,H,I.tok tk,rfl,q⟩;have go:∀ {u t:Value} {hp:Heap->Prop},PySem.W.KitX X.K u t hp->hp s.heap->PySem.W.kitOne X.K t (.type (mZ ty))=some b->u≠.builtin "__main__.__loader__#opaque"->wpAny (model X.prog X.w) X.A (call (.builtin "isinstance") [u,.type (mZ ty)]) (EP X pins σ Q) X.xe s:=λk a z n=>PySem.W.kia_one k I.da a z n fin;cases d with
 |aE=>cases rY rd;cases ru;exact go ach True.intro (by clear go fin;cases ty<;>exact kH e) (λz=>nomatch z)
 |bl y=>cases gB rd;cases ru;exact go aci True.intro (by clear go fin;cases ty<;>exact kH e) (λz=>nomatch z)
 |int i=>cases b8 rd;obtain⟨t,rfl⟩:=ru;exact go acv True.intro (by clear go fin;cases ty<;>exact kH e) (λz=>nomatch z)
 |str z=>cases fB rd;obtain⟨t,rfl⟩:=ru;exact go acw True.intro (by clear go fin;cases ty<;>exact kH e) (λz=>nomatch z)
 | tup ds=>
  simp only[Rep]at rd;obtain⟨p,xs,rfl,h,_⟩:=rd;cases ru;obtain⟨aq,_,⟨o,h1,h2,_⟩,_⟩:=mN I h;exact go ace ⟨o,h1,h2⟩ (by clear go fin;cases ty<;>exact kH e) (λz=>nomatch z)
 | lst ds=>
  simp only[Rep]at rd;obtain⟨p,xs,rfl,h,_⟩:=rd;cases ru;obtain⟨aq,n,sl,_,h1,_⟩:=jX I h;exact go acj ⟨_,h1,rfl⟩ (by clear go fin;cases ty<;>exact kH e) (λz=>nomatch z)
 | aA ks ds=>
  simp only[Rep]at rd;obtain⟨p,xs,rfl,h,_⟩:=rd;cases ru;obtain⟨_,_,vs,_,o,es,ep,e1,e2,e3,_⟩:=jx I h;exact go ack ⟨o,e1,e2.1⟩ (by clear go fin;cases ty<;>exact kH e) (λz=>nomatch z)
 |cE c ns vs=>exact absurd rfl (ne _ _ _)
theorem Fo(h:cb ty d=.ok r):∃b,r=.bl b:=by
 unfold cb at h;split at h<;>cases h<;>exact⟨_,rfl⟩
theorem eS{X:L2.Cx}{pos:Pos}(ty:Ty){a:Expr}{fa:Ex}{p p2:Pos}{T:Str}(ha:XE X a fa)(hm:X.mg "isinstance"=none)(UT:X.mg T=none)(Y8:bootBuiltins T=some (.type (mZ ty)))(hg:L2.Gl X "isinstance":=by rfl)(Uo:L2.Gl X T:=by rfl)(hs:starEach [a,.Name T p2] X.env=(false,eval a X.env)::starEach [.Name T p2] X.env:=by exact bG (by rfl))(OH:starEach [.Name T p2] X.env=(false,eval (.Name T p2) X.env)::starEach [] X.env:=by exact bG (by rfl))(WN:T≠"__name__":=by decide)(WR:gV T:=by decide):XE X (.Call (.Name "isinstance" p) [a,.Name T p2] [] pos) (e1 (cb ty) fa):=⟨have ha:=ha.out;b9 (L2.q8 HC hg hm yt (L2.gp ha (L2.gp (L2.xx (v:=.ty (mZ ty)) Uo UT Y8 rfl WN WR) L2.jj OH) hs) (by decide) (by decide) hs (by rw[OH];rfl)) λσ H Q=>by
  rintro⟨ρ,F,d,hr,e,q⟩
  obtain⟨a,ea,e⟩:=aC.mp e;obtain⟨b,rfl⟩:=Fo e;refine⟨ρ,F,a,hr,ea,λx H1 s1 rx=>⟨F,a,x,b,ty,rfl,rx,e,?_,q _ _ s1 fO⟩⟩;intro c ns vs h;subst h;cases ty<;>cases e⟩
end
open L2 (PG dk TG)
structure Gf where
 g:Hp
 f:acS
 p:Bool->Option V
noncomputable instance:CoeFun Gf (λ_=>acS):=⟨Gf.f⟩
def Pin(F0:Gf)(σ:L2.St)(ρ:En):Prop:=∀y:Bool×V,F0.p y.1=some y.2->∀t,ρ[y.1.toNat]? =some (.on (.tr t))->σ[y.1.toNat]? =some (some y.2)
theorem Pin.set(h:Pin F0 σ ρ)(hs:∀t,s≠.on (.tr t)):Pin F0 (σ.set i v) (ρ.set i s):=λw hw t e=>by
 rcases get_set e with⟨_,x,_⟩|⟨G',e⟩
 ·exact absurd x (hs t)
 ·rw[bU G'];exact h w hw t e
theorem Pin.vh(h:Pin F0 σ ρ)(hs:∀t,s≠.on (.tr t)):Pin F0 σ (ρ.set i s):=λw hw t e=>by
 rcases get_set e with⟨_,x,_⟩|⟨G',e⟩
 ·exact absurd x (hs t)
 ·exact h w hw t e
structure bq(M:Md)(G:Hp)(F0:Gf)(H:Hp)(F:acS)(σ:L2.St)(ρ:En):Prop where
 rs:bC M H F σ ρ
 sm:ar G H
 sub:∀a,F0 a->F a
 d9:∀a,F0 a->∃o,G a=some o
 own:∀(i:Nat) a,bY ρ i->σ[i]? =some (some (.ref a))->G a=none
 eF:∀(i:Nat) NR b,ρ[i]? =some (.on NR)->cy M H F σ ρ i b->G b=none
 pin:Pin F0 σ ρ
def ou(M:Md)(G:Hp)(F0:Gf)(H:Hp)(F:acS)(D:Ends):Fl->Prop
 |.next ρ'=>∀NF H' F',Mv F H F' H'->bq M G F0 H' F' NF ρ'->D.nx NF H'
 |.brk ρ'=>∀NF H' F',Mv F H F' H'->bq M G F0 H' F' NF ρ'->D.bk NF H'
 |.cont ρ'=>∀NF H' F',Mv F H F' H'->bq M G F0 H' F' NF ρ'->D.ct NF H'
 |.ret d=>∀v H' F',Mv F H F' H'->ar G H'->(∀a,F0 a->F' a)->Rep M H' F' d v->D.rt v H'
 |.k7 d=>∀p H' F' xs ds,d=.lst ds->Mv F H F' H'->ar G H'->(∀a,F0 a->F' a)->H' p=none->aj M H' F' ds xs->D.rt (.ref p) (upd H' p (.lst xs))
 |.fw t=>∀v H' F1 F2 as,Mv F H F1 H'->ar G H'->(∀a,F0 a->F1 a)->(∀b∈as,G b=none)->as.Nodup->(∀b,F2 b↔F1 b\/b∈as)->aL M H' F2 t v as->D.rt v H'
 |.lq i ρ'=>∀NF H' F' v,Mv F H F' H'->bq M G F0 H' F' NF ρ'->NF[i]? =some (some v)->D.rt v H'
 |.kG d ρ'=>∀NF H' F' v,Mv F H F' H'->bq M G F0 H' F' NF ρ'->Rep M H' F' d v->D.rt v H'
inductive fM(M:Md)(G:Hp)(F0:Gf)(f:Sm)(D:Ends)(σ:L2.St)(H:Hp):Prop
 |mk:∀ρ F fl,bq M G F0 H F σ ρ->f ρ=.ok fl->ou M G F0 H F D fl->fM M G F0 f D σ H
abbrev JS(X:Cx)(st:Stmt)(f:Sm):Prop:=∀F0:Gf,PS X st (fM (aJ X) F0.g F0 f)
structure XS(X:Cx)(e:Stmt)(f:Sm):Prop where
 out:JS X e f
abbrev ig(X:Cx)(VI:List Stmt)(f:Sm):Prop:=∀F0:Gf,cH X VI (fM (aJ X) F0.g F0 f)
structure iM(X:Cx)(e:List Stmt)(f:Sm):Prop where
 out:ig X e f
theorem dm(h:PS X e t')(hi:∀D σ H,t D σ H->t' D σ H):PS X e t:=λpins s σ H Q I q=>h pins s σ H Q I (hi Q σ H q)
theorem zi(h:cH X e t')(hi:∀D σ H,t D σ H->t' D σ H):cH X e t:=λpins s σ H Q I q=>h pins s σ H Q I (hi Q σ H q)
theorem Mv.refl:Mv F H F H:=λ_ _ n e=>⟨n,e⟩
section
variable{X:Cx}{M:Md}{G H H':Hp}{F0:Gf}{F F':acS}{σ:L2.St}{ρ:En}{pos:Pos}{DE:Ends}
theorem bq.same(r:bq M G F0 H F σ ρ)(h:ar H H'):bq M G F0 H' F σ ρ:=⟨r.rs.same h,r.sm.trans h,r.sub,r.d9,r.own,λi NR b e hb=>r.eF i NR b e (r.rs.on.back (λ_ e=>e) rfl (λa u _ _ hu=>h _ _ hu) (λa o _ e=>h _ _ e) hb),r.pin⟩
theorem ou.mv(m:Mv F H F' H'):∀ {fl:Fl},ou M G F0 H F DE fl->ou M G F0 H' F' DE fl
 |.next _,h=>λNF H2 F2 m2 r=>h NF H2 F2 (m.trans m2) r
 |.brk _,h=>λNF H2 F2 m2 r=>h NF H2 F2 (m.trans m2) r
 |.cont _,h=>λNF H2 F2 m2 r=>h NF H2 F2 (m.trans m2) r
 |.ret _,h=>λNF H2 F2 m2 a b r=>h NF H2 F2 (m.trans m2) a b r
 |.k7 _,h=>λp H2 F2 xs ds e m2 a b c r=>h p H2 F2 xs ds e (m.trans m2) a b c r
 |.fw _,h=>λv H2 F1 F2 as m2 a b c d e r=>h v H2 F1 F2 as (m.trans m2) a b c d e r
 |.lq _ _,h=>λNF H2 F' v m2=>h NF H2 F' v (m.trans m2)
 |.kG _ _,h=>λNF H2 F' v m2=>h NF H2 F' v (m.trans m2)
theorem C6:ig X [] (az []):=λF0=>zi L2.Hc λD σ H=>by
 rintro⟨ρ,F,fl,r,e,q⟩
 cases e;exact q σ H F Mv.refl r
theorem Ia:ig X [] aV:=C6
theorem EW(hf:∀D σ H,fM M G F0 f D σ H->t D σ H)(hg:∀D σ H,fM M G F0 g D σ H->u D σ H)(D:Ends)(σ:L2.St)(H:Hp)(h:fM M G F0 (Bx f g) D σ H):L2.Ak t u D σ H:=by
 obtain⟨ρ,F,fl,r,e,q⟩:=h;obtain⟨f1,e1,e⟩:=aC.mp e;refine hf _ _ _ ⟨ρ,F,f1,r,e1,?_⟩;cases f1 with
 |next Ov=>exact λUm H1 F1 m1 r1=>hg D Um H1 ⟨Ov,F1,fl,r1,e,q.mv m1⟩
 |ret d=>cases e;exact q
 |brk d=>cases e;exact q
 |cont d=>cases e;exact q
 |k7 d=>cases e;exact q
 |fw d=>cases e;exact q
 |lq i ρ=>cases e;exact q
 |kG d ρ=>cases e;exact q
theorem ai(h1:XS X st f)(h2:iM X rest (az fs)):iM X (st::rest) (az (f::fs)):=⟨have h1:=h1.out;have h2:=h2.out;λF0=>
 zi (L2.Jh (h1 F0) (h2 F0)) λD σ H h=>EW (λ_ _ _ h=>h) (λ_ _ _ h=>h) D σ H h⟩
theorem aY(h:XS X st f):iM X [st] f:=⟨have h:=h.out;λF0=>L2.IU (h F0)⟩
theorem bf(hc:XT X c fc)(ha:iM X a fa)(hb:iM X b fb):XS X (.If c a b pos) (aO fc fa fb):=⟨have hc:=hc.out;have ha:=ha.out;have hb:=hb.out;λF0=>
 dm (L2.EE hc (ha F0) (hb F0)) λD σ H=>by
  rintro⟨ρ,F,fl,r,e,q⟩
  obtain⟨t,et,e⟩:=aC.mp e;refine⟨ρ,F,t,r.rs,et,λH1 s1=>?_⟩;split at e
  ·rename_i h;rw[AC h];exact⟨ρ,F,fl,r.same s1,e,q.mv (.same s1)⟩
  ·rename_i h;rw[DF h];exact⟨ρ,F,fl,r.same s1,e,q.mv (.same s1)⟩⟩
theorem aT(ha:XE X a fa):XS X (.Return (some a) pos) (aM fa):=⟨have ha:=ha.out;λF0=>
 dm (L2.oZ ha) λD σ H=>by
  rintro⟨ρ,F,fl,r,e,q⟩
  obtain⟨d,ed,e⟩:=aC.mp e;cases e;exact⟨ρ,F,d,r.rs,ed,λv H1 s1 rv=>q v H1 F (.same s1) (r.sm.trans s1) r.sub rv⟩⟩
theorem HB:XS X st AK:=⟨ λF0=>dm L2.DR λD σ H ⟨ρ,F,fl,r,e,q⟩=>by cases e⟩
inductive qA(M:Md)(G:Hp)(F0:Gf)(g:dQ)(v:V)(σ:L2.St)(H:Hp)(Q:(L2.St->Hp->Prop)):Prop
 |mk:∀ρ F d ρ',bq M G F0 H F σ ρ->Rep M H F d v->g d ρ=.ok ρ'->(∀NF,bq M G F0 H F NF ρ'->Q NF H)->qA M G F0 g v σ H Q
inductive p8(M:Md)(G:Hp)(F0:Gf)(g:List D->En->R En)(vs:List V)(σ:L2.St)(H:Hp)(Q:(L2.St->Hp->Prop)):Prop
 |mk:∀ρ F ds ρ',bq M G F0 H F σ ρ->aj M H F ds vs->g ds ρ=.ok ρ'->(∀NF,bq M G F0 H F NF ρ'->Q NF H)->p8 M G F0 g vs σ H Q
abbrev JG(X:Cx)(e:Expr)(g:dQ):Prop:=∀F0,PG X e (qA (aJ X) F0.g F0 g)
structure XG(X:Cx)(e:Expr)(f:dQ):Prop where
 out:JG X e f
abbrev HG(X:Cx)(es:acP)(g:List D->En->R En):Prop:=∀F0,dk X es (p8 (aJ X) F0.g F0 g)
structure rR(X:Cx)(e:acP)(f:List D->En->R En):Prop where
 out:HG X e f
theorem BX(h:PG X e t')(hi:∀v σ H Q,t v σ H Q->t' v σ H Q):PG X e t:=λpins s σ H x u Q I rx q=>h pins s σ H x u Q I rx (hi x σ H Q q)
theorem zp(h:dk X e t')(hi:∀v σ H Q,t v σ H Q->t' v σ H Q):dk X e t:=λpins s σ H x u Q I rx q=>h pins s σ H x u Q I rx (hi x σ H Q q)
theorem bY.i6(h:bY (ρ.set i (.sh d)) j):i≠j/\bY ρ j:=by
 rcases h with⟨ds,q⟩|⟨ks,ds,q⟩
 ·rcases get_set q with⟨_,x,_⟩|⟨G',q⟩
  ·cases x
  ·exact⟨G',.inl ⟨ds,q⟩⟩
 ·rcases get_set q with⟨_,x,_⟩|⟨G',q⟩
  ·cases x
  ·exact⟨G',.inr ⟨ks,ds,q⟩⟩
theorem bq.yc(r:bq M G F0 H F σ ρ)(h:Rep M H F d v):bq M G F0 H F (σ.set i (some v)) (ρ.set i (.sh d)) where
 rs:=r.rs.yc h
 sm:=r.sm
 sub:=r.sub
 d9:=r.d9
 own j a o e:=by
  obtain⟨ne,o⟩:=o.i6;rw[bU ne]at e;exact r.own j a o e
 eF j NR b e hb:=by
  rcases get_set e with⟨_,x,_⟩|⟨G',e⟩
  ·cases x
  ·exact r.eF j NR b e (r.rs.on.back (λy ey=>by rw[bU G']at ey;exact ey) (bU G') (λa u _ _ hu=>hu) (λ_ _ _ e=>e) hb)
 pin:=r.pin.set λ_ h=>nomatch h
theorem aU(i:Nat)(hN:X.N.Nodup)(hi:X.N[i]? =some x:=by rfl)(hx:L2.Loc X.env.scope x:=by exact Or.inl rfl)(hf:X.fn x=true\/X.env.scope.names.lookup x=some .local:=by first|exact .inl rfl|exact .inr rfl):XG X (.Name x pos) (aG i):=⟨ λF0=>
 BX (L2.Ea hN hi hx hf) λv σ H Q=>by
  rintro⟨ρ,F,d,ρ',r,rv,e,q⟩
  cases e;exact q _ (r.yc rv)⟩
theorem u9:rR X [] (gQ []):=⟨ λF0=>
 zp L2.Iq λvs σ H Q=>by
  rintro⟨ρ,F,ds,ρ',r,rv,e,q⟩
  cases ds with
  |nil=>cases e;simp only[aj]at rv;exact⟨rv,q _ r⟩
  |cons _ _=>cases e⟩
theorem Fh(ht:∀v σ H Q,qA M G F0 (aG i) v σ H Q->t v σ H Q)(hu:∀v σ H Q,p8 M G F0 (gQ is) v σ H Q->u v σ H Q)(vs:List V)(σ:L2.St)(H:Hp)(Q:L2.St->Hp->Prop)
  (h:p8 M G F0 (gQ (i::is)) vs σ H Q):L2.yG t u vs σ H Q:=by
 obtain⟨ρ,F,ds,ρ',r,rv,e,q⟩:=h;cases ds with
 |nil=>cases e
 | cons d ds=>
  simp only[aj]at rv;obtain⟨x,xs,rfl,rx,Xr⟩:=rv;refine⟨x,xs,rfl,ht _ _ _ _ ⟨ρ,F,d,_,r,rx,rfl,λUm r1=>hu _ _ _ _ ⟨_,F,ds,ρ',r1,Xr,e,q⟩⟩⟩
theorem mw(i:Nat)(h1:XG X e (aG i))(h2:rR X es (gQ is))(hs:(assignEach (e::es) X.env).map (·.2)=assign e X.env::(assignEach es X.env).map (·.2):=by exact o6 (by rfl)):rR X (e::es) (gQ (i::is)):=⟨have h1:=h1.out;have h2:=h2.out;λF0=>
 zp (L2.IB (h1 F0) (h2 F0) hs) λvs σ H Q h=>Fh (λ_ _ _ _ h=>h) (λ_ _ _ _ h=>h) vs σ H Q h⟩
theorem AI:∀ {is:List Nat} {ds:List D} {ρ ρ':En},gQ is ds ρ=.ok ρ'->ds.length=is.length
 |[],[],_,_,_=>rfl
 |_::_,_::_,_,_,h=>by simp only[gQ]at h;simp[AI h]
 |[],_::_,_,_,h=>by cases h
 |_::_,[],_,_,h=>by cases h
theorem xP(h:rR X es (gQ is))(hn:(assignEach es X.env).length=is.length)(hc:X.calm=true:=by rfl)(Sr:(assignEach es X.env).findIdx? (·.1)=none:=by exact An (by rfl)):XG X (.Tuple es k pos) (gW is):=⟨have h:=h.out;λF0=>
 BX (L2.Gm hc (h F0) hn Sr) λv σ H Q=>by
  rintro⟨ρ,F,d,ρ',r,rv,e,q⟩
  unfold gW at e;split at e
  ·rename_i ds
   simp only[Rep]at rv;obtain⟨a,xs,rfl,h1,rs⟩:=rv;exact⟨a,xs,rfl,h1.sq,by rw[<-rs.length];exact AI e,ρ,F,ds,ρ',r,rs,e,q⟩
  ·cases e⟩
theorem bg(ha:XE X e fa)(hg:XG X tg g)(hs:swapsWithSole [tg] e pos.line X.env=pure false:=by exact qc (by rfl))(hw:swappedStores [tg] e X.env=pure none:=by first|exact AD (by rfl)|exact w9 (by rfl))(h1:(assignEach [tg] X.env).map (·.2)=[assign tg X.env]:=by exact o6 (by rfl)):XS X (.Assign [tg] e pos) (aS g fa):=⟨have ha:=ha.out;have hg:=hg.out;λF0=>
 dm (L2.u3 ha (hg F0) hs hw h1) λD σ H=>by
  rintro⟨ρ,F,fl,r,e,q⟩
  obtain⟨d,ed,e⟩:=aC.mp e;obtain⟨ρ',eg,e⟩:=aC.mp e;cases e;exact⟨ρ,F,d,r.rs,ed,λv H1 s1 rv=>⟨ρ,F,d,ρ',r.same s1,rv,eg,λNF r'=>q NF H1 F (.same s1) r'⟩⟩⟩
def Gives(M:Md)(J:L2.It)(H1:Hp)(F1:acS)(ds:List D):Prop:=∀H F,Mv F1 H1 F H->(∀p,F p->∃o,H p=some o)->
 (∀i d,ds[i]? =some d->J.go i H/\∀x H',J.pQ i H x H'->ar H H'/\Rep M H' F d x)/\J.stop ds.length H
inductive zw(M:Md)(f:En->R (List D))(σ:L2.St)(H:Hp)(Rr:(L2.It->Hp->Prop)):Prop
 |mk:∀ρ F ds,bC M H F σ ρ->f ρ=.ok ds->(∀J H',ar H H'->Gives M J H' F ds->Rr J H')->zw M f σ H Rr
abbrev JI(X:Cx)(tg e:Expr)(f:dD):Prop:=L2.PI X tg e (zw (aJ X) f)
structure XI(X:Cx)(tg e:Expr)(f:dD):Prop where
 out:JI X tg e f
theorem pL(h:L2.PI X tg e t')(hi:∀σ H Q,t σ H Q->t' σ H Q):L2.PI X tg e t:=λpins s σ H Q I q=>h pins s σ H Q I (hi σ H Q q)
theorem JM{J:L2.It}{tg:dQ}{body:Sm}{g:TG}{tb:TS}(hg:∀v σ H Q,qA M G F0 tg v σ H Q->g v σ H Q)(hb:∀D σ H,fM M G F0 body D σ H->tb D σ H)
  {H1:Hp} {F1:acS} {ds:List D} (gv:Gives M J H1 F1 ds) {ρ:En} (r:bq M G F0 H1 F1 σ ρ) {fl:Fl} (e:forL tg body ds ρ=.ok fl) (q:ou M G F0 H1 F1 DE fl):
  ∃W:Nat->Nat->L2.St->Hp->Prop,(∃m,W 0 m σ H1)/\∀i m σ H,W i m σ H->
   (J.stop i H/\DE.nx σ H)\/(J.go i H/\∃N:L2.St->Hp->Prop,(∀NF H',N NF H'->∃m',m'<m/\W (i+1) m' NF H')/\∀x H',J.pQ i H x H'->g x σ H' λUk H2=>tb {DE with nx:=N,ct:=N,bk:=DE.nx} Uk H2):=by
 refine⟨λi m σ H=>m=ds.length - i/\i<=ds.length/\∃ρ F,Mv F1 H1 F H/\bq M G F0 H F σ ρ/\forL tg body (ds.drop i) ρ=.ok fl,⟨ds.length,by simp,Xm _,ρ,F1,Mv.refl,r,e⟩,?_⟩
 rintro i m σ H ⟨rfl,hi,ρ,F,mv,r,e⟩;obtain⟨g1,g2⟩:=gv H F mv r.rs.bw;by_cases OF:i<ds.length
 ·refine .inr ⟨(g1 i ds[i] (by simp[OF])).1,λNF H'=>i+1<=ds.length/\∃ρ F,Mv F1 H1 F H'/\bq M G F0 H' F NF ρ/\forL tg body (ds.drop (i+1)) ρ=.ok fl,λNF H' p'=>⟨ds.length - (i+1),by omega,rfl,p'.1,p'.2⟩,λx H' y=>?_⟩
  obtain⟨s1,rx⟩:=(g1 i ds[i] (by simp[OF])).2 x H' y
  rw[abC OF]at e;unfold forL at e;obtain⟨Ov,e1,e⟩:=aC.mp e;obtain⟨f,e2,e⟩:=aC.mp e;refine hg _ _ _ _ ⟨ρ,F,ds[i],Ov,r.same s1,rx,e1,λUk r2=>hb _ _ _ ⟨Ov,F,f,r2,e2,?_⟩⟩;have Qj:Mv F1 H1 F H':=mv.trans (.same s1);cases f with
  |next Ph=>exact λRn H3 F3 m3 r3=>⟨OF,Ph,F3,Qj.trans m3,r3,e⟩
  |cont Ph=>exact λRn H3 F3 m3 r3=>⟨OF,Ph,F3,Qj.trans m3,r3,e⟩
  |brk Ph=>cases e;exact λRn H3 F3 m3 r3=>q Rn H3 F3 (Qj.trans m3) r3
  |ret d=>cases e;exact λv H3 F3 m3 a b rv=>q v H3 F3 (Qj.trans m3) a b rv
  |k7 d=>cases e;exact λp H3 F3 xs ds e m3 a b c rv=>q p H3 F3 xs ds e (Qj.trans m3) a b c rv
  |fw d=>cases e;exact λv H3 F3 F4 as m3 a b c d e rv=>q v H3 F3 F4 as (Qj.trans m3) a b c d e rv
  |lq i ρ=>cases e;exact λNF H' F' v m3=>q NF H' F' v (Qj.trans m3)
  |kG d ρ=>cases e;exact λNF H' F' v m3=>q NF H' F' v (Qj.trans m3)
 ·have ei:i=ds.length:=by omega
  subst ei;rw[abr]at e;cases e;exact .inl ⟨g2,q σ H F mv r⟩
theorem lZ(hi:XI X tg iter it)(hg:XG X tg g)(hb:iM X body f)(hp:PassesOwn (model X.prog X.w) X.A X.env X.xe:=by exact PassesOwn.never)(hc:X.calm=true:=by exact rfl)(hs:∀x,foldedSetIterable iter X.env x=pure x:=by exact vv (by rfl)):XS X (.For tg iter body [] pos) (jL it g f):=⟨have hi:=hi.out;have hg:=hg.out;have hb:=hb.out;λF0=>
 dm (L2.Fq hp hc hi (hg F0) (hb F0) hs) λD σ H=>by
  rintro⟨ρ,F,fl,r,e,q⟩
  obtain⟨ds,ed,e⟩:=aC.mp e;exact⟨ρ,F,ds,r.rs,ed,λJ H1 s1 gv=>JM (λ_ _ _ _ h=>h) (λ_ _ _ h=>h) gv (r.same s1) e (q.mv (.same s1))⟩⟩
theorem Ge(h:g8 M H F a xs)(rs:aj M H F ds xs):Gives M (L2.oo M.K a) H F ds:=by
 intro H' F' mv tr;have h':=h.mv mv;have RX:=rs.mv mv;refine⟨λi d hd=>?_,?_⟩
 ·obtain⟨x,hx,rx⟩:=RX.get hd
  refine⟨⟨xs,x,h'.sq,hx⟩,λy H2 hy=>?_⟩;obtain⟨rfl,hy⟩:=hy;have:=hy xs h'.sq;rw[hx]at this;cases this;exact⟨ar.refl _,rx⟩
 ·exact⟨xs,h'.sq,by rw[rs.length];exact Gc _⟩
theorem D6(h:fG M H F a xs)(rs:aj M H F ds xs):Gives M (L2.oQ M.K a) H F ds:=by
 intro H' F' mv tr;have h':=h.mv mv;have RX:=rs.mv mv;refine⟨λi d hd=>?_,?_⟩
 ·obtain⟨x,hx,rx⟩:=RX.get hd
  refine⟨⟨xs,x,h'.sq,hx⟩,λy H2 hy=>?_⟩;obtain⟨rfl,hy⟩:=hy;have:=hy xs h'.sq;rw[hx]at this;cases this;exact⟨ar.refl _,rx⟩
 ·exact⟨xs,h'.sq,by rw[rs.length];exact Gc _⟩
theorem Ae:Gives M (L2.dD lo (hi - lo).toNat) H F (dG lo hi):=by
 intro H' F' mv tr;refine⟨λi d hd=>?_,?_⟩
 ·unfold dG at hd
  rw[MC]at hd;cases e:(List.range (hi - lo).toNat)[i]? with
  |none=>rw[e]at hd;cases hd
  | some k=>
   rw[e]at hd;obtain⟨OF,hk⟩:=xM.mp e;simp at hk OF hd;subst hk hd;refine⟨show i<(hi - lo).toNat by omega,λy H2 hy=>?_⟩
   obtain⟨rfl,rfl⟩:=hy;exact⟨ar.refl _,dM⟩
 ·show(hi - lo).toNat<=(dG lo hi).length
  unfold dG;simp
theorem uu(h:inR j=true): -(2 ^ 62)<=j/\j<2 ^ 62:=by
 unfold inR at h;rw[mO,JK,JK]at h;exact⟨by omega,by omega⟩
theorem qF(hm:X.mg "range"=none)(ha:XE X a fa)(hg:L2.Gl X "range":=by rfl)(hs:starEach [a] X.env=(false,eval a X.env)::starEach [] X.env:=by exact bG (by rfl)):XI X tg (.Call (.Name "range" p) [a] [] pos) (j8 fa):=⟨have ha:=ha.out;pL (L2.IL hg hm (gk ha hZ hs) hs) λσ H Q=>by
  rintro⟨ρ,F,ds,r,e,q⟩
  obtain⟨d,ed,e⟩:=aC.mp e;refine⟨ρ,F,[d],r,by show(fa ρ).bind _=_;rw[ed];rfl,λvs H1 s1 rv=>?_⟩
  obtain⟨x,rfl,rx⟩:=rv.one;split at e
  ·split at e
   ·rename_i j hj
    cases e;have hj:=uu hj;have:=q (L2.dD 0 j.toNat) H1 s1 (by have:=Ae (M:=aJ X) (H:=H1) (F:=F) (lo:=0) (hi:=j);rwa[Int.sub_zero]at this)
    exact⟨j,by rw[b8 rx],hj.1,hj.2,this⟩
   ·cases e
  ·cases e⟩
theorem Dj(hm:X.mg "range"=none)(ha:XE X a fa)(hb:XE X b fb)(hg:L2.Gl X "range":=by rfl)(hs:starEach [a,b] X.env=(false,eval a X.env)::starEach [b] X.env:=by exact bG (by rfl))(OH:starEach [b] X.env=(false,eval b X.env)::starEach [] X.env:=by exact bG (by rfl)):XI X tg (.Call (.Name "range" p) [a,b] [] pos) (lP fa fb):=⟨have ha:=ha.out;have hb:=hb.out;pL (L2.FU hg hm (gk ha (gk hb hZ OH) hs) (by rw[hs,OH];rfl) OH) λσ H Q=>by
  rintro⟨ρ,F,ds,r,e,q⟩
  obtain⟨d,ed,e⟩:=aC.mp e;obtain⟨d2,Tg,e⟩:=aC.mp e;refine⟨ρ,F,[d,d2],r,by show(fa ρ).bind _=_;rw[ed];show((fb ρ).bind _).bind _=_;rw[Tg];rfl,λvs H1 s1 rv=>?_⟩
  obtain⟨x,y,rfl,rx,ry⟩:=rv.two;split at e
  ·split at e
   ·rename_i i j _ hj
    cases e;rw[mO]at hj;have h1:=uu hj.1;have h2:=uu hj.2;exact⟨i,j,by rw[b8 rx,b8 ry],⟨h1.1,h1.2,h2.1,h2.2⟩,q _ H1 s1 Ae⟩
   ·cases e
  ·cases e⟩
inductive hV(M:Md)(m:List D->R D)(n:Nat)(vs:List V)(H:Hp)(Q:VK)(_x3:XK):Prop
 |mk:∀F ds d,(∀p,F p->∃o,H p=some o)->aj M H F ds vs->ds.length=n->m ds=.ok d->(∀v H',ar H H'->Rep M H' F d v->Q v H')->hV M m n vs H Q _x3
theorem Rep.sub(hs:∀a,F a->F' a)(h:Rep M H F' d v):Rep M H F d v:=h.mv λa o n e=>⟨λf=>n (hs a f),e⟩
theorem uO(tr:∀p,F p->∃o,G p=some o)(rs:aj M G F ds vs)(hl:ds.length=n)(hn:n<=N.length):bq M G ⟨G,F,λ_=>none⟩ G F (L2.start N vs) (ds.map Slot.sh++List.replicate (N.length - ds.length) .un):=by
 have GR:=rs.length
 have no:∀i,¬bY (ds.map Slot.sh++List.replicate (N.length - ds.length) .un) i:=by
  intro i hi
  have:∀s,(ds.map Slot.sh++List.replicate (N.length - ds.length) Slot.un)[i]? =some s->(∃d,s=.sh d)\/s=.un:=by
   intro s hs;rw[ZV]at hs;split at hs
   ·rw[MC]at hs
    cases e1:ds[i]? with
    |none=>rw[e1]at hs;cases hs
    |some d'=>rw[e1]at hs;cases hs;exact .inl ⟨_,rfl⟩
   ·rw[S6]at hs
    split at hs<;>cases hs;exact .inr rfl
  rcases hi with⟨x,hx⟩|⟨k,x,hx⟩
  ·rcases this _ hx with⟨_,h⟩|h<;>cases h
  ·rcases this _ hx with⟨_,h⟩|h<;>cases h
 have aE:∀(i:Nat) NR,(ds.map Slot.sh++List.replicate (N.length - ds.length) Slot.un)[i]? ≠some (.on NR):=by
  intro i NR hs;rw[ZV]at hs;split at hs
  ·rw[MC]at hs
   cases e1:ds[i]? with
   |none=>rw[e1]at hs;cases hs
   |some d'=>rw[e1]at hs;cases hs
  ·rw[S6]at hs
   split at hs<;>cases hs
 refine⟨⟨?_,tr,?_,?_,?_,?_,.no aE⟩,ar.refl _,λ_ h=>h,tr,?_,λi NR b e=>absurd e (aE i NR),λw hw=>nomatch hw⟩
 ·unfold L2.start;simp[GR]
 ·intro i d hd
  rw[ZV]at hd;split at hd
  ·rw[MC]at hd
   cases e1:ds[i]? with
   |none=>rw[e1]at hd;cases hd
   | some d'=>
    rw[e1]at hd;cases hd;obtain⟨v,ev,rv⟩:=rs.get e1;refine⟨v,?_,rv⟩;unfold L2.start;rw[ZT (by obtain⟨h,_⟩:=xM.mp ev;simpa using h),MC,ev];rfl
  ·rw[S6]at hd
   split at hd<;>cases hd
 ·intro i d hd
  rw[ZV]at hd;split at hd
  ·rw[MC]at hd
   cases e1:ds[i]? with
   |none=>rw[e1]at hd;cases hd
   |some d'=>rw[e1]at hd;cases hd
  ·rw[S6]at hd
   split at hd<;>cases hd
 ·intro i k d hd
  rw[ZV]at hd;split at hd
  ·rw[MC]at hd
   cases e1:ds[i]? with
   |none=>rw[e1]at hd;cases hd
   |some d'=>rw[e1]at hd;cases hd
  ·rw[S6]at hd
   split at hd<;>cases hd
 ·intro i j a oi
  exact absurd oi (no i)
 ·intro i a oi
  exact absurd oi (no i)
theorem zt{N:List Str}{n:Nat}{body:Sm}{vs:List V}{Q:VK}{E:XK}{t:TS}(ht:∀(F0:Gf) D σ H,fM M F0.g F0 body D σ H->t D σ H)(h:hV M (fn N.length body) n vs G Q E)(hn:n<=N.length):t {nx:=λ_ H'=>Q .aE H',rt:=Q} (L2.start N vs) G:=by
 obtain⟨F,ds,d,tr,rs,hl,e,q⟩:=h;obtain⟨f,ef,e⟩:=aC.mp e;refine ht ⟨G,F,λ_=>none⟩ _ _ _ ⟨_,F,f,uO tr rs hl hn,ef,?_⟩;cases f with
 |next ρ'=>cases e;exact λNF H' F' mv r'=>q _ _ r'.sm xU
 |ret d'=>cases e;exact λv H' F' mv sm sub rv=>q _ _ sm (rv.sub sub)
 |brk _=>cases e
 |cont _=>cases e
 |k7 _=>cases e
 |fw _=>cases e
 |lq _ _=>cases e
 |kG _ _=>cases e
def Own(M:Md)(H:Hp)(F:acS)(s:Slot)(o:HO):Prop:=
 (∃ds xs,s=.ol ds/\o=.lst xs/\aj M H F ds xs)\/∃ks ds xs,s=.od ks ds/\o=.dK (ks.zip xs)/\ks.length=xs.length/\aj M H F ds xs
theorem Own.Ah(h:Own M H F s o):∀t,s≠.on (.tr t):=λt e=>by
 rcases h with⟨ds,xs,rfl,_⟩|⟨ks,ds,xs,rfl,_⟩<;>cases e
theorem Own.mv{s:Slot}{o:HO}(m:Mv F H F' H')(h:Own M H F s o):Own M H' F' s o:=by
 rcases h with⟨ds,xs,e1,e2,r⟩|⟨ks,ds,xs,e1,e2,l,r⟩
 ·exact .inl ⟨ds,xs,e1,e2,r.mv m⟩
 ·exact .inr ⟨ks,ds,xs,e1,e2,l,r.mv m⟩
theorem bC.ownAt(r:bC M H F σ ρ)(o:bY ρ i):∃a s u,ρ[i]? =some s/\σ[i]? =some (some (.ref a))/\F a/\H a=some u/\Own M H F s u:=by
 rcases o with⟨ds,q⟩|⟨ks,ds,q⟩
 ·obtain⟨a,xs,h1,h2,h3,h4⟩:=r.ol i ds q
  exact⟨a,_,_,q,h1,h2,h3,.inl ⟨ds,xs,rfl,rfl,h4⟩⟩
 ·obtain⟨a,xs,h1,h2,h3,h4,h5⟩:=r.od i ks ds q
  exact⟨a,_,_,q,h1,h2,h3,.inr ⟨ks,ds,xs,rfl,rfl,h4,h5⟩⟩
theorem mX(h:bY (ρ.set i s) j):j=i\/(i≠j/\bY ρ j):=by
 rcases h with⟨ds,q⟩|⟨ks,ds,q⟩
 ·rcases get_set q with⟨h,_,_⟩|⟨G',q⟩
  ·exact .inl h.symm
  ·exact .inr ⟨G',.inl ⟨ds,q⟩⟩
 ·rcases get_set q with⟨h,_,_⟩|⟨G',q⟩
  ·exact .inl h.symm
  ·exact .inr ⟨G',.inr ⟨ks,ds,q⟩⟩
theorem bC.put(r:bC M H F σ ρ)(mv:Mv F H F' H')(hF:∀b,F b->F' b)(ha:F' a)(ho:H' a=some o)(hk:∀b u,F b->b≠a->H b=some u->H' b=some u)(Zc:∀b,F' b->F b\/b=a)
  (hn:∀j,j≠i->bY ρ j->σ[j]? ≠some (some (.ref a))) (Wi:∀(j:Nat) NR b,j≠i->ρ[j]? =some (.on NR)->cy M H F σ ρ j b->b≠a) (own:Own M H' F' s o):bC M H' F' (σ.set i (some (.ref a))) (ρ.set i s) where
 len:=by simp[r.len]
 bw b f:=by
  by_cases e:b=a
  ·subst e;exact⟨o,ho⟩
  ·rcases Zc b f with f|f
   ·obtain⟨u,hu⟩:=r.bw b f
    exact⟨u,hk b u f e hu⟩
   ·exact absurd f e
 sh j d q:=by
  rcases get_set q with⟨rfl,hx,hl⟩|⟨G',q⟩
  ·rcases own with⟨ds,xs,rfl,_⟩|⟨ks,ds,xs,rfl,_⟩<;>cases hx
  ·obtain⟨w,e1,g⟩:=r.sh j d q
   exact⟨w,by rw[bU G'];exact e1,g.mv mv⟩
 ol j d q:=by
  rcases get_set q with⟨rfl,x,hl⟩|⟨G',q⟩
  ·rcases own with⟨ds,xs,rfl,rfl,rs⟩|⟨ks,ds,xs,rfl,_⟩
   ·cases x
    exact⟨a,xs,by rw[Mk (by rw[<-r.len];exact hl)],ha,ho,rs⟩
   ·cases x
  ·obtain⟨b,xs,e1,f,e2,g⟩:=r.ol j d q
   refine⟨b,xs,by rw[bU G'];exact e1,hF _ f,hk _ _ f ?_ e2,g.mv mv⟩
   rintro rfl;exact hn j (P3 G') (.inl ⟨_,q⟩) e1
 od j k d q:=by
  rcases get_set q with⟨rfl,x,hl⟩|⟨G',q⟩
  ·rcases own with⟨ds,xs,rfl,_⟩|⟨ks,ds,xs,rfl,rfl,l,rs⟩
   ·cases x
   ·cases x
    exact⟨a,xs,by rw[Mk (by rw[<-r.len];exact hl)],ha,ho,l,rs⟩
  ·obtain⟨b,xs,e1,f,e2,l,g⟩:=r.od j k d q
   refine⟨b,xs,by rw[bU G'];exact e1,hF _ f,hk _ _ f ?_ e2,l,g.mv mv⟩
   rintro rfl;exact hn j (P3 G') (.inr ⟨_,_,q⟩) e1
 dg j k b oj ok ej ek:=by
  have self:∀c,(σ.set i (some (.ref a)))[i]? =some (some (.ref c))->c=a:=λc h=>by
   rw[aaU]at h;cases hq:σ[i]? with
   |none=>rw[hq]at h;cases h
   |some z=>rw[hq]at h;cases h;rfl
  rcases mX oj with hj|⟨nj,oj⟩
  ·rcases mX ok with Qz|⟨nk,ok⟩
   ·rw[hj,Qz]
   ·rw[hj]at ej
    rw[bU nk]at ek;cases self _ ej;exact absurd ek (hn k (P3 nk) ok)
  ·rw[bU nj]at ej
   rcases mX ok with Qz|⟨nk,ok⟩
   ·rw[Qz]at ek
    cases self _ ek;exact absurd ej (hn j (P3 nj) oj)
   ·rw[bU nk]at ek
    exact r.dg j k b oj ok ej ek
 on:=by
  have old:∀(j:Nat) NR,(ρ.set i s)[j]? =some (.on NR)->i≠j/\ρ[j]? =some (.on NR):=λj NR e=>by
   rcases get_set e with⟨_,x,_⟩|⟨G',e⟩
   ·rcases own with⟨ds,xs,rfl,_⟩|⟨ks,ds,xs,rfl,_⟩<;>cases x
   ·exact⟨G',e⟩
  refine r.on.mv mv (λj NR e=>⟨(old j NR e).2,bU (old j NR e).1⟩) (λj NR b u e hb f hu=>⟨hF b f,hk b u f (Wi j NR b (P3 (old j NR e).1) (old j NR e).2 hb) hu⟩) λj NR b e hb k ok=>?_;obtain⟨G',e0⟩:=old j NR e;rcases mX ok with rfl|⟨nk,ok⟩
  ·intro h
   rw[aaU]at h;cases hq:σ[k]? with
   |none=>rw[hq]at h;cases h
   |some z=>rw[hq]at h;cases h;exact Wi j NR _ (P3 G') e0 hb rfl
  ·rw[bU nk]
   exact(r.on j NR e0).2.1 b hb k ok
theorem bq.new{i:Nat}{p:Addr}{s:Slot}{o:HO}(r:bq M G F0 H F σ ρ)(hp:H p=none)(own:Own M H F s o):
  Mv F H (λb=>F b\/b=p) (upd H p o)/\bq M G F0 (upd H p o) (λb=>F b\/b=p) (σ.set i (some (.ref p))) (ρ.set i s):=by
 have ne:∀b u,H b=some u->b≠p:=λb u e z=>by subst z;rw[hp]at e;cases e
 have mv:Mv F H (λb=>F b\/b=p) (upd H p o):=λb u n e=>⟨λh=>h.elim n (ne b u e),by rw[L2.aN (ne b u e)];exact e⟩
 have hG:G p=none:=r.sm.free hp
 refine⟨mv,⟨r.rs.put mv (λ_ h=>.inl h) (.inr rfl) L2.bO (λb u _ n e=>by rw[L2.aN n];exact e) (λ_ h=>h) (λj _ oj e=>?_) (λj NR b _ e hb z=>by
   obtain⟨_,xs,hx⟩:=gg.f hb;exact ne b _ hx z) (own.mv mv),λb u e=>by rw[L2.aN (ne b u (r.sm b u e))];exact r.sm b u e,λb h=>.inl (r.sub b h),r.d9,λj a oj e=>?_,λj NR b e hb=>?_,r.pin.set own.Ah⟩⟩
 ·obtain⟨a,_,u,_,e1,_,e2,_⟩:=r.rs.ownAt oj
  rw[e1]at e;cases e;exact ne _ _ e2 rfl
 ·rcases mX oj with rfl|⟨nj,oj⟩
  ·rw[List.getElem?_set]at e
   split at e
   ·split at e
    ·cases e;exact hG
    ·cases e
   ·rename_i h;exact absurd rfl h
  ·rw[bU nj]at e
   exact r.own j a oj e
 ·rcases get_set e with⟨_,x,_⟩|⟨G',e⟩
  ·rcases own with⟨ds,xs,rfl,_⟩|⟨ks,ds,xs,rfl,_⟩<;>cases x
  ·exact r.eF j NR b e (r.rs.on.back (λy ey=>by rw[bU G']at ey;exact ey) (bU G') (λa u _ _ hu=>by rw[L2.aN (ne a u hu)];exact hu) (λa u _ hu=>by rw[L2.aN (ne a u hu)];exact hu) hb)
theorem bq.chg(r:bq M G F0 H F σ ρ)(oi:bY ρ i)(ei:σ[i]? =some (some (.ref a)))(own:Own M H F s o):
  Mv F H F (upd H a o)/\bq M G F0 (upd H a o) F σ (ρ.set i s):=by
 obtain⟨a',_,u,_,e1,fa,e2,_⟩:=r.rs.ownAt oi;rw[ei]at e1;cases e1;have mv:Mv F H F (upd H a o):=λb v n e=>⟨n,by rw[L2.aN (λz=>by subst z;exact n fa)];exact e⟩
 have hG:=r.own i a oi ei
 have hs:σ.set i (some (.ref a))=σ:=by
  obtain⟨hl,h⟩:=xM.mp ei;rw[<-h];exact List.set_getElem_self hl
 have key:=r.rs.put (i:=i) mv (λ_ h=>h) fa L2.bO (λb u _ n e=>by rw[L2.aN n];exact e) (λ_ h=>.inl h) (λj nj oj e=>nj (r.rs.dg j i a oj oi e ei)) (λj NR b _ e hb z=>by subst z;exact(r.rs.on j NR e).2.1 _ hb i oi ei) (own.mv mv)
 rw[hs]at key;refine⟨mv,⟨key,λb u e=>by rw[L2.aN (λz=>by subst z;rw[hG]at e;cases e)];exact r.sm b u e,r.sub,r.d9,λj b oj e=>?_,λj NR b e hb=>?_,r.pin.vh own.Ah⟩⟩
 ·rcases mX oj with rfl|⟨nj,oj⟩
  ·rw[ei]at e;cases e;exact hG
  ·exact r.own j b oj e
 ·rcases get_set e with⟨_,x,_⟩|⟨G',e⟩
  ·rcases own with⟨ds,xs,rfl,_⟩|⟨ks,ds,xs,rfl,_⟩<;>cases x
  ·refine r.eF j NR b e (r.rs.on.back (λy ey=>by rw[bU G']at ey;exact ey) rfl (λc u hc _ hu=>?_) (λa' u n hu=>(mv a' u n hu).2) hb)
   rw[L2.aN (λz=>by subst z;exact(r.rs.on j NR e).2.1 _ hc i oi ei)];exact hu
theorem Hg(r:gg M H F σ ρ)(oi:bY ρ i)(ei:σ[i]? =some (some (.ref a)))(mv:Mv F H F' H)(hF:∀b,F b->b≠a->F' b):gg M H F' σ (ρ.set i (.sh d)):=by
 have old:∀(j:Nat) NR,(ρ.set i (.sh d))[j]? =some (.on NR)->ρ[j]? =some (.on NR):=λj NR e=>by
  rcases get_set e with⟨_,x,_⟩|⟨G',e⟩
  ·cases x
  ·exact e
 refine r.mv mv (λj NR e=>⟨old j NR e,rfl⟩) (λj NR b u e hb f hu=>⟨hF b f λz=>?_,hu⟩) λj NR b e hb k ok=>(r j NR (old j NR e)).2.1 b hb k ok.i6.2;subst z;exact(r j NR (old j NR e)).2.1 _ hb i oi ei
theorem bq.Jg(r:bq M G F0 H F σ ρ)(oi:bY ρ i)(es:ρ[i]? =some s)(ei:σ[i]? =some (some (.ref a)))(hd:∃ds,s=.ol ds/\d=.lst ds):
  ∃F',(F'=λb=>F b/\b≠a)/\Mv F H F' H/\bq M G F0 H F' σ (ρ.set i (.sh d)):=by
 obtain⟨a',s',u,RA,e1,fa,e2,ow⟩:=r.rs.ownAt oi;rw[ei]at e1;cases e1;rw[es]at RA;cases RA;have hG:=r.own i a oi ei;have mv:Mv F H (λb=>F b/\b≠a) H:=λb v n e=>⟨λh=>n h.1,e⟩
 have Uw:Rep M H (λb=>F b/\b≠a) d (.ref a):=by
  obtain⟨ds,rfl,rfl⟩:=hd;rcases ow with⟨Ui,xs,h1,rfl,rs⟩|⟨ks,ds,xs,h1,_⟩
  ·cases h1
   simp only[Rep];exact⟨a,xs,rfl,.inl ⟨λh=>h.2 rfl,.inl e2⟩,rs.mv mv⟩
  ·cases h1
 refine⟨λb=>F b/\b≠a,rfl,mv,⟨⟨by simp[r.rs.len],λb h=>r.rs.bw b h.1,?_,?_,?_,?_,?_⟩,r.sm,λb h=>⟨r.sub b h,λz=>by subst z;obtain⟨o,e⟩:=r.d9 _ h;rw[hG]at e;cases e⟩,r.d9,?_,?_,r.pin.vh λ_ h=>nomatch h⟩⟩
 ·intro j e q
  rcases get_set q with⟨rfl,hx,hl⟩|⟨G',q⟩
  ·cases hx
   exact⟨_,ei,Uw⟩
  ·obtain⟨w,e1,g⟩:=r.rs.sh j e q
   exact⟨w,e1,g.mv mv⟩
 ·intro j e q
  rcases get_set q with⟨rfl,x,hl⟩|⟨G',q⟩
  ·cases x
  ·obtain⟨b,xs,e1,f,e3,g⟩:=r.rs.ol j e q
   exact⟨b,xs,e1,⟨f,λz=>by subst z;exact G' (r.rs.dg i j _ oi (.inl ⟨_,q⟩) ei e1)⟩,e3,g.mv mv⟩
 ·intro j k e q
  rcases get_set q with⟨rfl,x,hl⟩|⟨G',q⟩
  ·cases x
  ·obtain⟨b,xs,e1,f,e3,l,g⟩:=r.rs.od j k e q
   exact⟨b,xs,e1,⟨f,λz=>by subst z;exact G' (r.rs.dg i j _ oi (.inr ⟨_,_,q⟩) ei e1)⟩,e3,l,g.mv mv⟩
 ·intro j k b oj ok ej ek
  exact r.rs.dg j k b oj.i6.2 ok.i6.2 ej ek
 ·exact Hg r.rs.on oi ei mv (λb f n=>⟨f,n⟩)
 ·intro j b oj e
  exact r.own j b oj.i6.2 e
 ·intro j NR b e hb
  rcases get_set e with⟨_,x,_⟩|⟨G',e⟩
  ·cases x
  ·exact r.eF j NR b e (r.rs.on.back (λy ey=>by rw[bU G']at ey;exact ey) rfl (λc u _ _ hu=>hu) (λ_ _ _ e=>e) hb)
theorem bq.frz{u:HO}(r:bq M G F0 H F σ ρ)(oi:bY ρ i)(es:ρ[i]? =some s)(ei:σ[i]? =some (some (.ref a)))(hd:∃ds,s=.ol ds/\d=.lst ds):
  ∃F',Mv F H F' H/\bq M G F0 H F' σ (ρ.set i (.sh d)):=let⟨F',_,m,h⟩:=r.Jg oi es ei hd;⟨F',m,h⟩
theorem bq.D5(r:bq M G F0 H F σ ρ)(es:ρ[i]? =some (.od ks ds)):∃a j',H a=some (.dK j')/\∀ob,∃F',(F'=λb=>F b/\b≠a)/\Mv F H F' (upd H a (.frz ob (.dK j')))/\bq M G F0 (upd H a (.frz ob (.dK j'))) F' σ (ρ.set i (.sh (.aA ks ds))):=by
 have oi:bY ρ i:=.inr ⟨_,_,es⟩;obtain⟨a,xs,ei,fa,e2,hl,rs⟩:=r.rs.od i ks ds es;refine⟨a,ks.zip xs,e2,λob=>?_⟩;have hG:=r.own i a oi ei;have ne:∀b,¬F b->b≠a:=λb n z=>by subst z;exact n fa
 have mv:Mv F H (λb=>F b/\b≠a) (upd H a (.frz ob (.dK (ks.zip xs)))):=λb v n e=>⟨λh=>n h.1,by rw[L2.aN (ne b n)];exact e⟩
 refine⟨λb=>F b/\b≠a,rfl,mv,⟨⟨by simp[r.rs.len],λb h=>?_,?_,?_,?_,?_,?_⟩,λb u e=>by rw[L2.aN (λz=>by subst z;rw[hG]at e;cases e)];exact r.sm b u e,λb h=>⟨r.sub b h,λz=>by subst z;obtain⟨o,e⟩:=r.d9 _ h;rw[hG]at e;cases e⟩,r.d9,?_,?_,r.pin.vh λ_ h=>nomatch h⟩⟩
 ·obtain⟨o,e⟩:=r.rs.bw b h.1
  exact⟨o,by rw[L2.aN h.2];exact e⟩
 ·intro j e q
  rcases get_set q with⟨rfl,hx,hl⟩|⟨G',q⟩
  ·cases hx
   refine⟨_,ei,?_⟩;simp only[Rep];exact⟨a,xs,rfl,.inl ⟨λh=>h.2 rfl,ob,L2.bO⟩,by assumption,rs.mv mv⟩
  ·obtain⟨w,e1,g⟩:=r.rs.sh j e q
   exact⟨w,e1,g.mv mv⟩
 ·intro j e q
  rcases get_set q with⟨rfl,x,hl⟩|⟨G',q⟩
  ·cases x
  ·obtain⟨b,ys,e1,f,e3,g⟩:=r.rs.ol j e q
   have hb:b≠a:=λz=>by subst z;exact G' (r.rs.dg i j _ oi (.inl ⟨_,q⟩) ei e1)
   exact⟨b,ys,e1,⟨f,hb⟩,by rw[L2.aN hb];exact e3,g.mv mv⟩
 ·intro j k e q
  rcases get_set q with⟨rfl,x,hl⟩|⟨G',q⟩
  ·cases x
  ·obtain⟨b,ys,e1,f,e3,l,g⟩:=r.rs.od j k e q
   have hb:b≠a:=λz=>by subst z;exact G' (r.rs.dg i j _ oi (.inr ⟨_,_,q⟩) ei e1)
   exact⟨b,ys,e1,⟨f,hb⟩,by rw[L2.aN hb];exact e3,l,g.mv mv⟩
 ·intro j k b oj ok ej ek
  exact r.rs.dg j k b oj.i6.2 ok.i6.2 ej ek
 ·have old:∀(j:Nat) NR,(ρ.set i (.sh (.aA ks ds)))[j]? =some (.on NR)->ρ[j]? =some (.on NR):=λj NR e=>by
   rcases get_set e with⟨_,x,_⟩|⟨G',e⟩
   ·cases x
   ·exact e
  refine r.rs.on.mv mv (λj NR e=>⟨old j NR e,rfl⟩) (λj NR b u e hb f hu=>?_) λj NR b e hb k ok=>(r.rs.on j NR (old j NR e)).2.1 b hb k ok.i6.2;have RJ:b≠a:=λz=>by subst z;exact(r.rs.on j NR (old j NR e)).2.1 _ hb i oi ei
  exact⟨⟨f,RJ⟩,by rw[L2.aN RJ];exact hu⟩
 ·intro j b oj e
  exact r.own j b oj.i6.2 e
 ·intro j NR b e hb
  rcases get_set e with⟨_,x,_⟩|⟨G',e⟩
  ·cases x
  ·refine r.eF j NR b e (r.rs.on.back (λy ey=>by rw[bU G']at ey;exact ey) rfl (λc u hc _ hu=>?_) (λa' u n hu=>(mv a' u n hu).2) hb)
   rw[L2.aN (λz=>by subst z;exact(r.rs.on j NR e).2.1 _ hc i oi ei)];exact hu
theorem lG(i:Nat)(h:iM X rest (az fs)):iM X rest (az (iL i::fs)):=⟨have h:=h.out;λF0 pins s σ H D I=>by
 rintro⟨ρ,F,fl,r,e,q⟩
 obtain⟨f1,e1,e⟩:=aC.mp e;unfold iL at e1;split at e1
 ·rename_i xs q1
  cases e1;have oi:bY ρ i:=.inl ⟨_,q1⟩;obtain⟨a,_,_,_,ea,_⟩:=r.rs.ownAt oi;obtain⟨F',mv,r'⟩:=r.frz (u:=.lst []) oi q1 ea ⟨_,rfl,rfl⟩;exact h F0 pins s σ H D I ⟨_,F',fl,r',e,q.mv mv⟩
 ·rename_i ks vs q1
  cases e1;obtain⟨a,j',ha,k⟩:=r.D5 q1;obtain⟨ob,I'⟩:=yd I ha;obtain⟨F',_,mv,r'⟩:=k ob;exact h F0 pins s σ _ D I' ⟨_,F',fl,r',e,q.mv mv⟩
 ·cases e1⟩
inductive AV(M:Md)(f:Ex)(σ:L2.St)(H:Hp)(Q:VK):Prop
 |mk:∀ρ F ds,bC M H F σ ρ->f ρ=.ok (.lst ds)->(∀p H' xs,ar H H'->H' p=none->aj M H' F ds xs->Q (.ref p) (upd H' p (.lst xs)))->AV M f σ H Q
abbrev JF(X:Cx)(e:Expr)(f:Ex):Prop:=PE X e (AV (aJ X) f)
structure XF(X:Cx)(e:Expr)(f:Ex):Prop where
 out:JF X e f
theorem CC(h:XA X es (eList fs))(hl:fs.length<=1000:=by decide):XF X (.List es pos) (cn fs):=⟨have h:=h.out;b9 (L2.u5 h) λσ H Q=>by
  rintro⟨ρ,F,d,hr,e,q⟩
  obtain⟨as,ea,e⟩:=aC.mp e;cases e;refine⟨ρ,F,_,hr,ea,λxs H1 s1 rs=>⟨?_,λp hp=>q p H1 xs s1 hp rs⟩⟩;rw[<-rs.length,kn ea];exact Re hl (by decide)⟩
theorem qi(i:Nat)(hN:X.N.Nodup)(he:XF X e f)(hi:X.N[i]? =some x:=by rfl)(hx:L2.Loc X.env.scope x:=by exact Or.inl rfl)(hf:X.fn x=true\/X.env.scope.names.lookup x=some .local:=by exact .inl rfl)(hs:swapsWith e (some (.Name x p2)) pos.line X.env=pure false:=by exact gF (by rfl)):XS X (.Assign [.Name x p2] e pos) (kz i f):=⟨have he:=he.out;λF0=>
 dm (L2.kW hN hi hx he hs hf) λD σ H=>by
  rintro⟨ρ,F,fl,r,e,q⟩
  obtain⟨d,ed,e⟩:=aC.mp e;split at e
  ·cases e
   refine⟨ρ,F,_,r.rs,ed,λp H1 xs s1 hp rs=>?_⟩;obtain⟨mv,r'⟩:=(r.same s1).new (i:=i) (s:=.ol _) hp (.inl ⟨_,xs,rfl,rfl,rs⟩);exact q _ _ _ (Mv.trans (.same s1) mv) r'
  ·cases e⟩
theorem AU(i:Nat)(he:XE X e f)(hN:X.N[i]? =some x:=by rfl)(hv:L2.fi X.env.scope x:=by exact Or.inl rfl)(hd:gV x:=by decide)(Oh:tx x:=by decide)(Pw:attributeBase (.Name x p2) "append" X.env (eval (.Name x p2) X.env)=eval (.Name x p2) X.env:=by exact qQ)(QS:((backTo NW (starEach [e] X.env)).all (λx=> !x.1)&&(backToKw NW (keywordEach [] X.env)).all (λx=>x.1.isSome)&&decide (([e]:acP).length+([]:List Keyword).length+(if([]:List Keyword).isEmpty then 0 else 1)<30))=true:=by exact xE (by rfl) (by decide))(Px:(apos.endLine==NW.line)=true:=by rfl)(hs:starEach [e] X.env=(false,eval e X.env)::starEach [] X.env:=by exact bG (by rfl))(Vy:swapsWith (.Call (.Attribute (.Name x p2) "append" apos) [e] [] NW) none pos.line X.env=pure false:=by exact gF (by rfl)):XS X (.Expr (.Call (.Attribute (.Name x p2) "append" apos) [e] [] NW) pos) (pS i f):=⟨have he:=he.out;λF0=>
 dm (L2.Au (L2.BP abI PySem.F.slot_list_append PySem.F.type_list_append L2.Cz (L2.pv i hN hv hd Oh) (gk he hZ hs) Pw QS Px hs) Vy) λD σ H=>by
  rintro⟨ρ,F,fl,r,e,q⟩
  obtain⟨d,ed,e⟩:=aC.mp e;split at e
  ·rename_i xs q1
   split at e
   ·rename_i OF
    cases e;have oi:bY ρ i:=.inl ⟨_,q1⟩;obtain⟨a,ys,ea,fa,ha,rs⟩:=r.rs.ol i _ q1;refine⟨_,ea,.inl ⟨rfl,ys,bP.of ha⟩,ρ,F,[d],r.rs,by show(f ρ).bind _=_;rw[ed];rfl,λvs H1 s1 rv=>?_⟩
    obtain⟨y,rfl,ry⟩:=rv.one;have r1:=r.same s1;refine⟨a,ys,y,rfl,rfl,s1 _ _ ha,by rw[<-rs.length];exact OF,?_⟩
    obtain⟨mv,r'⟩:=r1.chg (s:=.ol (xs++[d])) oi ea (.inl ⟨_,ys++[y],rfl,rfl,(rs.mv (.same s1)).append (aj.cons ry aj.nil)⟩);exact q _ _ _ (Mv.trans (.same s1) mv) r'
   ·cases e
  ·cases e⟩
structure Df(P:Program)(w:World)(K:PySem.W.Frag)(mg:Str->acR)(base:Heap)(x:Str)(k n:Nat)(m:List D->R D):Prop where
 ex:∃f fd ps,L2.fE P w K mg base L2.dP k f fd ps (hV ⟨K,P,w⟩ m n)/\L2.Binds K fd ps []/\PySem.W.keepIn K (.ref f)=true/\mg x=some (.ref f)
theorem Kz(hn:fs.length=n)(h:tP M (aI m fs) σ H Q):L2.qd (hV M m n) [] E (pM M (eList fs)) σ H Q:=by
 obtain⟨ρ,F,d,hr,e,q⟩:=h;obtain⟨ds,SJ,e⟩:=aC.mp e;refine⟨ρ,F,ds,hr,SJ,λvs H1 s1 rs=>?_⟩;show hV M m n (vs++[]) H1 Q E;rw[ZU];exact⟨F,ds,d,(hr.same s1).bw,rs,by rw[kn SJ];exact hn,e,λv H2 s2 rv=>q v H2 (s1.trans s2) rv⟩
theorem bc(d:Df X.prog X.w X.K X.mg X.base x k n m)(hr:L2.cz j X.A)(ha:XA X (e::es) (eList fs))(hk:k<=j)(hg:L2.Gl X x:=by rfl)(hn:fs.length=n:=by rfl)(O8:gV x:=by decide)(he:starEach (e::es) X.env=(false,eval e X.env)::starEach es X.env:=by exact bG (by rfl))(QD:(backTo pos (starEach es X.env)).any (·.1)=false:=by exact xc (by rfl)):XE X (.Call (.Name x p) (e::es) [] pos) (aI m fs):=⟨have ha:=ha.out;by
 obtain⟨f,fd,ps,h1,h2,h3,h4⟩:=d.ex;exact b9 (L2.B4 h1 (hr.mono hk) hg h4 h3 h2 .nil L2.ve ha O8 he QD) λσ H Q h=>Kz hn h⟩
theorem qh(d:Df X.prog X.w X.K X.mg X.base x k 0 m)(hr:L2.cz j X.A)(hg:L2.Gl X x:=by rfl)(hk:k<=j:=by decide)(O8:gV x:=by decide):XE X (.Call (.Name x p) [] [] pos) (aI m []):=⟨ by
 obtain⟨f,fd,ps,h1,h2,h3,h4⟩:=d.ex;refine b9 (L2.K5 h1 (hr.mono hk) hg h4 h3 h2 .nil L2.ve O8) λσ H Q ⟨ρ,F,d,hr,e,q⟩=>?_;exact⟨F,[],d,hr.bw,aj.nil,rfl,e,q⟩⟩
theorem zY(Fu:L2.gY K x qual st f fd)(S:L2.bD N ps (L2.aX st))
  (h:∀(M':Value) (A:Around) (outer:List Env) (s:Shared) (H:Hp) (E:XK),L2.cz k (A.deeper (PyProof.Rows.envOfC qual (L2.aX st) s.heap.objs.size f M'))->ig (L2.gh L2.dP P w K mg base N qual (L2.aX st) f M' A outer s H E).gw (L2.dE st) body)
  (hn:ps.length=n:=by rfl):L2.fE P w K mg base L2.dP (k+1) f fd ps (hV ⟨K,P,w⟩ (fn N.length body) n):=by
 refine Fu.ok S (λvs H Q E h=>?_) (λM' A outer s H vs Q E hr PH=>?_)
 ·obtain⟨F,ds,d,_,rs,hl,_⟩:=h
  rw[<-rs.length,hl,hn]
 ·refine⟨λD σ H'=>∃F0:Gf,fM ⟨K,P,w⟩ F0.g F0 body D σ H',λpins s' σ H' D I=>by rintro⟨F0,q⟩;exact h M' A outer s H E hr F0 pins s' σ H' D I q,?_⟩
  refine zt (G:=H) (t:=λD σ H'=>∃F0:Gf,fM ⟨K,P,w⟩ F0.g F0 body D σ H') (λF0 D σ H' h=>⟨F0,h⟩) PH ?_;have:=congrArg List.length S.pre;rw[ZF]at this;omega
theorem MR(Fu:L2.gY K x qual st f fd)(hm:mg x=some (.ref f))(S:L2.bD N ps (L2.aX st))(hb:L2.Binds K fd ps [])
  (h:∀(M':Value) (A:Around) (outer:List Env) (s:Shared) (H:Hp) (E:XK),L2.cz k (A.deeper (PyProof.Rows.envOfC qual (L2.aX st) s.heap.objs.size f M'))->ig (L2.gh L2.dP P w K mg base N qual (L2.aX st) f M' A outer s H E).gw (L2.dE st) body)
  (hn:ps.length=n:=by rfl):Df P w K mg base x (k+1) n (fn N.length body):=⟨f,fd,ps,zY Fu S h hn,hb,Fu.kp,hm⟩
end
open L2 (It Turn cX)
section
variable{X:Cx}{M:Md}{G H H':Hp}{F0:Gf}{F F':acS}{σ:L2.St}{ρ:En}{pos:Pos}{DE:Ends}
theorem cJ:dn M bZ (L2.rI L2.sT λi j=>.int (i*j)):=by
 intro F H x y a b d Q tr ra rb e q;unfold bZ at e;split at e
 ·split at e
  ·rename_i h
   cases e;rw[Z9]at h;exact⟨_,_,b8 ra,b8 rb,h.elim (λh=>.inl (vU h)) (λh=>.inr (vU h)),q _ _ (ar.refl _) dM⟩
  ·cases e
 ·cases e
noncomputable def lM(x:Str):It:=⟨λi _=>i<x.cps.size,λi H v H'=>H'=H/\∃c,x.cps[i]? =some c/\v=.str ⟨#[c]⟩,λi _=>x.cps.size<=i⟩
theorem KP(x:Str)(t:Tok)(it:Addr):Turn P w K tg (lM x) [it] it (λi h=>h.IsStrIter it "str_ascii_iterator" x t i) where
 mem:=by simp
 obj:=λi h st b hb=>by
  have e:b=it:=by simpa using hb
  subst e;obtain⟨o,e,c,d⟩:=st;exact⟨o,e,λv z=>by rw[d]at z;cases z⟩
 keep:=λi h h' st k=>let⟨o,e,r⟩:=st;⟨o,k it (by simp) o e,r⟩
 item:=by
  intro X hP hw hK hc i pins s σ H E I hf st hg;subst hP hw hK;obtain⟨f0,f1,f2,f3,f4,f5⟩:=hf it (by simp)
  have hg:i<x.cps.size:=hg;refine wpAny_pyNext_ascii_item st (c:=x.cps[i]) (by simp[hg]) λh' Pc sb=>?_
  have I1:Inv X pins σ H {s with heap:=h',toks:=s.toks+1}:=I.turned (t':=s.toks+1) (λb o hb e=>(sb.2 b hb).trans e) f0 f1 f3 f4 f5;obtain⟨o,e,c,d⟩:=id Pc;exact⟨_,rfl,L2.lL (s:={s with heap:=h',toks:=s.toks+1}) e c d (by decide) ⟨.str ⟨#[x.cps[i]]⟩,H,I1,⟨_,rfl⟩,⟨rfl,_,by simp[hg],rfl⟩,Pc,λb hb=>(hf b hb).1⟩⟩
 done:=by
  intro X hP hw hK hc i pins s σ H E I hf st hg;subst hP hw hK;have hg:x.cps.size<=i:=hg;obtain⟨f0,f1,f2,f3,f4,f5⟩:=hf it (by simp)
  exact wpAny_pyNext_ascii_end (I.ok.hd hc) st (by simp[hg]) λh' eb=>⟨rfl,I.turned (t':=s.toks) (λb o hb e=>eb b o hb e) f0 f1 f3 f4 f5⟩
 self:=λ_ _ _ _ _ st h=>wpAny_pyIter_striter_ascii st h
theorem K0(x:Str)(t:Tok)(it:Addr):Turn P w K tg (lM x) [it] it (λi h=>h.IsStrIter it "str_iterator" x t i) where
 mem:=by simp
 obj:=λi h st b hb=>by
  have e:b=it:=by simpa using hb
  subst e;obtain⟨o,e,c,d⟩:=st;exact⟨o,e,λv z=>by rw[d]at z;cases z⟩
 keep:=λi h h' st k=>let⟨o,e,r⟩:=st;⟨o,k it (by simp) o e,r⟩
 item:=by
  intro X hP hw hK hc i pins s σ H E I hf st hg;subst hP hw hK;obtain⟨f0,f1,f2,f3,f4,f5⟩:=hf it (by simp)
  have hg:i<x.cps.size:=hg;refine wpAny_pyNext_wide_item st (c:=x.cps[i]) (by simp[hg]) λh' Pc sb=>?_
  have I1:Inv X pins σ H {s with heap:=h',toks:=s.toks+1}:=I.turned (t':=s.toks+1) (λb o hb e=>(sb.2 b hb).trans e) f0 f1 f3 f4 f5;obtain⟨o,e,c,d⟩:=id Pc;exact⟨_,rfl,L2.lL (s:={s with heap:=h',toks:=s.toks+1}) e c d (by decide) ⟨.str ⟨#[x.cps[i]]⟩,H,I1,⟨_,rfl⟩,⟨rfl,_,by simp[hg],rfl⟩,Pc,λb hb=>(hf b hb).1⟩⟩
 done:=by
  intro X hP hw hK hc i pins s σ H E I hf st hg;subst hP hw hK;have hg:x.cps.size<=i:=hg;obtain⟨f0,f1,f2,f3,f4,f5⟩:=hf it (by simp)
  exact wpAny_pyNext_wide_end (I.ok.hd hc) st (by simp[hg]) λh' eb=>⟨rfl,I.turned (t':=s.toks) (λb o hb e=>eb b o hb e) f0 f1 f3 f4 f5⟩
 self:=λ_ _ _ _ _ st h=>wpAny_pyIter_striter_wide st h
def DQ(K:PySem.W.Frag)(tl:TE):TI:=λσ H R=>tl σ H λx H1=>(∃a,x=.ref a/\(∃xs,bP K H1 a xs)/\R (L2.oo K a) H1)\/(∃a,x=.ref a/\(∃xs,bW K H1 a xs)/\R (L2.oQ K a) H1)\/∃z,x=.str z/\R (lM z) H1
theorem IS{tg:Expr}{pins:List (Addr×Obj)}{R:It->Hp->Prop}{s1:Shared}{x:V}{v:Value}(I1:Inv X pins σ H s1)(r1:RelV x v)
  (q1:(∃a,x=.ref a/\(∃xs,bP X.K H a xs)/\R (L2.oo X.K a) H)\/(∃a,x=.ref a/\(∃xs,bW X.K H a xs)/\R (L2.oQ X.K a) H)\/∃z,x=.str z/\R (lM z) H):
  wpAny (model X.prog X.w) X.A (pyIter v) (L2.xS X pins σ tg R) X.xe s1:=by
 have fp:∀b∈[s1.heap.objs.size],cX X pins H b:=λb hb=>by
  have e:b=s1.heap.objs.size:=by simpa using hb
  subst e;exact I1.mq (Gc _) (I1.aQ.fresh (Gc _))
 rcases q1 with⟨a,rfl,⟨xs,hq⟩,q⟩|⟨a,rfl,⟨xs,hq⟩,q⟩|⟨z,rfl,q⟩
 ·cases r1
  obtain⟨aq,rv,p,hz⟩:=I1.list hq;refine aba p.isList ?_;exact⟨s1.heap.objs.size,[s1.heap.objs.size],_,_,H,rfl,I1.kept (t':=s1.toks) λb o e=>mB _ e,L2.EY a _,⟨_,JU _ rfl,rfl,rfl⟩,fp,q⟩
 ·cases r1
  obtain⟨aq,rv,p,hz⟩:=I1.tuple hq;refine wpAny_pyIter_tuple (show s1.heap.IsTuple a aq.toArray from p) ?_
  exact⟨s1.heap.objs.size,[s1.heap.objs.size],_,_,H,rfl,I1.kept (t':=s1.toks) λb o e=>mB _ e,L2.Gj a _,⟨_,JU _ rfl,rfl,rfl⟩,fp,q⟩
 ·obtain⟨t,rfl⟩:=r1
  cases ha:z.cps.all (· <128)
  ·refine wpAny_pyIter_wide ha ?_
   exact⟨s1.heap.objs.size,[s1.heap.objs.size],_,_,H,rfl,I1.kept (t':=s1.toks) λb o e=>mB _ e,K0 z t _,⟨_,JU _ rfl,rfl,rfl⟩,fp,q⟩
  ·refine wpAny_pyIter_ascii ha ?_
   exact⟨s1.heap.objs.size,[s1.heap.objs.size],_,_,H,rfl,I1.kept (t':=s1.toks) λb o e=>mB _ e,KP z t _,⟨_,JU _ rfl,rfl,rfl⟩,fp,q⟩
theorem Es(hl:PE X l tl):L2.PI X tg l (DQ X.K tl):=λpins s σ H R I h=>
 L2.aW (hl pins s σ H _ I h) λv s1=>by rintro⟨x,H1,I1,r1,q1⟩;exact IS I1 r1 q1
theorem Lv:Gives M (lM x) H F (x.cps.toList.map λc=>.str ⟨#[c]⟩):=by
 intro H' F' mv tr;refine⟨λi d hd=>?_,?_⟩
 ·rw[MC]at hd
  cases e:x.cps.toList[i]? with
  |none=>rw[e]at hd;cases hd
  | some c=>
   rw[e]at hd;cases hd;have e':x.cps[i]? =some c:=by simpa using e
   refine⟨show i<x.cps.size from(Array.getElem?_eq_some_iff.mp e').1,λy H2 hy=>?_⟩
   obtain⟨rfl,c',Pm,rfl⟩:=hy;rw[e']at Pm;cases Pm;exact⟨ar.refl _,me⟩
 ·show x.cps.size<=_
  simp
theorem Dg{K:PySem.W.Frag}{d:D}{ds:List D}{x:V}{R:It->Hp->Prop}(e:items d=.ok ds)(rv:Rep M H F d x)(q:∀J,Gives M J H F ds->R J H):
  (∃a,x=.ref a/\(∃xs,bP M.K H a xs)/\R (L2.oo M.K a) H)\/(∃a,x=.ref a/\(∃xs,bW M.K H a xs)/\R (L2.oQ M.K a) H)\/∃z,x=.str z/\R (lM z) H:=by
 unfold items at e;split at e
 ·cases e
  simp only[Rep]at rv;obtain⟨a,xs,rfl,h,rs⟩:=rv;exact .inl ⟨a,rfl,⟨xs,h.sq⟩,q _ (Ge h rs)⟩
 ·cases e
  simp only[Rep]at rv;obtain⟨a,xs,rfl,h,rs⟩:=rv;exact .inr (.inl ⟨a,rfl,⟨xs,h.sq⟩,q _ (D6 h rs)⟩)
 ·cases e
  exact .inr (.inr ⟨_,fB rv,q _ Lv⟩)
 ·cases e
theorem sA(ha:XE X l fa):XI X tg l (jo fa):=⟨have ha:=ha.out;pL (Es ha) λσ H Q=>by
  rintro⟨ρ,F,ds,r,e,q⟩
  obtain⟨d,ed,e⟩:=aC.mp e;exact⟨ρ,F,d,r,ed,λv H1 s1 rv=>Dg (K:=X.K) (M:=aJ X) e rv λJ g=>q J H1 s1 g⟩⟩
end
structure iJ(P:Program)(w:World)(K:PySem.W.Frag)(mg:Str->acR)(x:Str)(d:D):Prop where
 ex:∃v u,mg x=some u/\RelV v u/\∀H F,Rep ⟨K,P,w⟩ H F d v
theorem kI(g:iJ X.prog X.w X.K X.mg x d)(hg:L2.Gl X x:=by rfl)(hd:gV x:=by decide):XE X (.Name x pos) (eC d):=⟨ by
 obtain⟨v,u,h1,h2,h3⟩:=g.ex;exact HM hg h1 h2 h3 hd⟩
noncomputable def kJ:Expr->Bool
 |.Starred .. =>false
 |_=>true
theorem bG(h:kJ e=true):starEach (e::es) env=(false,eval e env)::starEach es env:=by cases e<;>first|rfl|cases h
theorem xc:∀ {es:acP},es.all kJ=true->(backTo pos (starEach es env)).any (·.1)=false
 |[],_=>rfl
 | e::es,h=>by
  rw[Wp,mO]at h;rw[bG h.1];show(false||(backTo pos (starEach es env)).any (·.1))=false
  rw[Bool.false_or];exact xc h.2
theorem Cy:∀ {es:acP},es.all kJ=true->(backTo pos (starEach es env)).all (λx=> !x.1)=true
 |[],_=>rfl
 | e::es,h=>by
  rw[Wp,mO]at h;rw[bG h.1];show(true&&(backTo pos (starEach es env)).all (λx=> !x.1))=true;rw[abh];exact Cy h.2
theorem xE(h:(e::es).all kJ=true)(hl:(e::es).length<30):((backTo NW (starEach (e::es) env)).all (λx=> !x.1)&&(backToKw NW (keywordEach [] env)).all (λx=>x.1.isSome)
   &&decide ((e::es).length+([]:List Keyword).length+(if([]:List Keyword).isEmpty then 0 else 1)<30))=true:=by
 rw[Cy h,abh];show(true&&decide ((e::es).length+0+0<30))=true;rw[abh,JK];exact hl
noncomputable def BD:Expr->Bool
 |.ListComp .. =>false
 |.SetComp .. =>false
 |.DictComp .. =>false
 |_=>true
theorem gF(h:BD e=true):swapsWith e t l env=pure false:=by cases e<;>first|rfl|cases h
theorem qc(h:BD e=true):swapsWithSole [tg] e l env=pure false:=gF h
noncomputable def MT:Expr->Bool
 |.Tuple .. =>false
 |_=>true
theorem w9(h:MT e=true):swappedStores [tg] e env=pure none:=by
 cases tg<;>first|rfl|(cases e<;>first|rfl|cases h)
noncomputable def Mm:Expr->Bool
 |.Tuple .. =>false
 |.List .. =>false
 |_=>true
theorem AD(h:Mm tg=true):swappedStores [tg] e env=pure none:=by
 cases tg<;>first|rfl|cases h
theorem o6(h:kJ e=true):(assignEach (e::es) env).map (·.2)=assign e env::(assignEach es env).map (·.2):=by cases e<;>first|rfl|cases h
theorem qa:∀ {es:acP},(assignEach es env).length=es.length
 |[]=>rfl
 | e::es=>by
  have:=qa (env:=env) (es:=es);cases e<;>(show(assignEach es env).length+1=_;rw[this];rfl)
theorem An:∀ {es:acP},es.all kJ=true->(assignEach es env).findIdx? (·.1)=none
 |[],_=>rfl
 | e::es,h=>by
  rw[Wp,mO]at h;have ih:=An (env:=env) h.2
  have:∃t,assignEach (e::es) env=(false,t)::assignEach es env:=by
   have h1:=h.1;cases e<;>first|exact⟨_,rfl⟩|cases h1
  obtain⟨t,e1⟩:=this;rw[e1,List.findIdx?_cons,ih];rfl
noncomputable def Kg:Expr->Bool
 |.Set .. =>false
 |_=>true
theorem vv(h:Kg e=true):∀x,foldedSetIterable e env x=pure x:=by intro x;cases e<;>first|rfl|cases h
noncomputable def plainT:Expr->Bool
 |.UnaryOp .Not _ _=>false
 |.BoolOp .. =>false
 |.IfExp .. =>false
 |.Compare .. =>false
 |_=>true
theorem Jr(h:plainT e=true):∀whole,isTrue e env whole=(do let v <-whole;standAt e.pos;holding [v] (truthy v)):=by
 intro w;cases e with
 |UnaryOp op _ _=>cases op<;>first|rfl|cases h
 |_=>first|rfl|cases h
theorem qQ:attributeBase (.Name x p) a env w=w:=rfl
noncomputable def Nc:Expr->Bool
 |.Slice .. =>false
 |_=>true
theorem vH(h:Nc b=true):L2.o8 b:=by intro o i;cases b<;>first|rfl|cases h
open L2 (Un)
section
variable{prog:Program}{w:World}{A:Around}{R:Result->Shared->Prop}{s:Shared}
theorem Ic{elt target iter:Expr}{ifs:acP}{scope:Scope}{pos:Pos}{it acc:Value}{env:Env}(I:Nat->Shared->Prop)
  (turn:∀n s,I n s->wpAny (model prog w) A (pyNext it) (λr B'=>match r with
   |none=>R (.ok .next) B'
   |some v=>wpAny (model prog w) A (letOwnedTupleGo target it v) (λ_ RG=>wpAny (model prog w) A (assign target env v) (λ_ O6=>
     wpAny (model prog w) A (forIn ifs true λc r=>if r=true then do let ok <-isTrue c env (eval c env);pure (ForInStep.yield ok)else pure (ForInStep.yield r)) (λok RQ=>
      if ok=true then wpAny (model prog w) A (eval elt env) (λx Tc=>
       wpAny (model prog w) A (call (.builtin "list.append") [acc,x]) (λ_ Tt=>∃m,m<n/\I m Tt) (notedBy (model prog w) A env λe s'=>R (.error e) s') Tc) (notedBy (model prog w) A env λe s'=>R (.error e) s') RQ
      else ∃m,m<n/\I m RQ) (notedBy (model prog w) A env λe s'=>R (.error e) s') O6) (notedBy (model prog w) A env λe s'=>R (.error e) s') RG) (notedBy (model prog w) A env λe s'=>R (.error e) s') B') (notedBy (model prog w) A env λe s'=>R (.error e) s') s)
  (n:Nat) (h:I n s):codeAny (model prog w) A (.compLoop (.ListComp elt [⟨target,iter,ifs,0⟩] scope pos) 0 it acc env) R s:=by
 refine codeAny_loop rfl I (λn s hI=>?_) n h;show wpAny _ A ((compTurn (.ListComp elt [⟨target,iter,ifs,0⟩] scope pos) 0 it acc env).onRaise (λx=>do noteFrame x env;theTreesLotGoes x)) _ _ s
 refine wpAny_noted ?_;rw[compTurn_list];refine cp (wpAny_standAt (cp (S8 (turn n s hI) (λr B' O5=>?_) λ_ _ h'=>h')));cases r with
 |none=>exact FM O5
 | some v=>
  refine cp (S8 O5 (λ_ RG SW=>?_) λ_ _ h'=>h');refine cp (S8 SW (λ_ O6 Rt=>cp (S8 Rt (λok RQ Ts=>?_) λ_ _ h'=>h')) λ_ _ h'=>h');cases ok with
  |false=>exact FM ⟨rfl,Ts⟩
  | true=>
   exact cp (cp (S8 Ts (λx Tc Vd=>cp (S8 Vd (λ_ Tt U8=>FM (FM ⟨rfl,U8⟩)) λ_ _ h'=>h')) λ_ _ h'=>h'))
end
noncomputable def gu(X:Cx)(scope:Scope)(cl:List (Str×Addr))(C:Addr)(N:List Str)(s:Shared)(H:Hp)(fp:Zx):Cx where
 prog:=X.prog
 w:=X.w
 K:=X.K
 mg:=X.mg
 base:=X.base
 A:=X.A
 N:=N
 cY:=s
 kr:=H
 env:=compEnvC scope cl C X.env
 outer:=X.stack
 stack:=X.stack
 ex:=fp
 fn:=λx=>decide ((x,NameKind.cell)∈scope.names)
 calm:=X.calm
 pn:=[]
 xe:=X.xe
abbrev rE(X:Cx)(ifs:acP)(cs:List cC):Prop:=Paired (λe c=>JT X e c) ifs cs
structure uZ(X:Cx)(e:acP)(f:List cC):Prop where
 out:rE X e f
theorem AO{X:Cx}{M:Md}(hM:M=aJ X){pins:List (Addr×Obj)}{σ:L2.St}{ρ:En}{F:acS}{E:Value->Shared->Prop}(hE:∀e s,X.xe e s->E e s):
  ∀ {ifs:acP} {cs:List cC},rE X ifs cs->∀ {s:Shared} {H:Hp} {t:Bool} {Q:Bool->Hp->Prop},Inv X pins σ H s->bC M H F σ ρ->eR.ku cs ρ=.ok t->(∀H',ar H H'->Q t H')->
   wpAny (model X.prog X.w) X.A (forIn ifs true λc r=>if r=true then do let ok <-isTrue c X.env (eval c X.env);pure (ForInStep.yield ok)else pure (ForInStep.yield r)) (λok s'=>∃H',Inv X pins σ H' s'/\Q ok H') E s
 | [],_,.nil,s,H,t,Q,I,r,e,q=>by
  cases e;exact wpAny_tests_nil ⟨H,I,q H (ar.refl H)⟩
 | c::ifs,_,.cons h hs,s,H,t,Q,I,r,e,q=>by
  unfold eR.ku at e;obtain⟨b,eb,e⟩:=aC.mp e;rw[aaa];simp only[aat];refine cp (cp (S8 (h pins s σ H (λb' H'=>b'=b/\ar H H') I ⟨ρ,F,b,hM▸r,eb,λH' s'=>⟨rfl,s'⟩⟩) (λb' s1 h1=>FM ?_) hE));obtain⟨H1,I1,rfl,RV⟩:=h1;dsimp only;cases b' with
  | true=>
   rw[AC rfl]at e;exact AO hM hE hs I1 (r.same RV) e λH2 s2=>q H2 (RV.trans s2)
  | false=>
   rw[DF (by decide)]at e
   cases e
   have pass:∀(l:acP) (s:Shared),(∃H',Inv X pins σ H' s/\Q false H')->wpAny (model X.prog X.w) X.A (forIn l false λc r=>if r=true then do let ok <-isTrue c X.env (eval c X.env);pure (ForInStep.yield ok)else pure (ForInStep.yield r)) (λok s'=>∃H',Inv X pins σ H' s'/\Q ok H') E s:=by
    intro l
    induction l with
    |nil=>intro s h;exact FM h
    | cons a l ih=>
     intro s h;rw[aaa];exact cp (FM (ih s h))
   exact pass ifs _ ⟨H1,I1,q H1 RV⟩
theorem wK:∀(names:List (Str×NameKind)) (cs:List (Str×Addr)),(∀y∈names,y.2=.free->∃c,env.cells.lookup y.1=some c)->(∀x c,cs.lookup x=some c->env.cells.lookup x=some c)->
  ∃cl,(forIn names cs λ(x:Str×NameKind) r=>(if(x.2==.free)=true then do let c <-cellOf env x.1;pure (ForInStep.yield ((x.1,c)::r))else pure (ForInStep.yield r):Sem (ForInStep (List (Str×Addr)))))=(pure cl:Sem _)/\
   (∀x c,cl.lookup x=some c->env.cells.lookup x=some c)/\(∀x,(∃c,cs.lookup x=some c)\/(x,NameKind.free)∈names->∃c,cl.lookup x=some c)
 |[],cs,_,hc=>⟨cs,rfl,hc,λx h=>h.elim (λh=>h) λh=>nomatch h⟩
 | (n,k)::names,cs,hn,hc=>by
  rw[aaa];by_cases hk:k=.free
  ·subst hk
   obtain⟨c,ec⟩:=hn _ FB rfl
   obtain⟨cl,e,h1,h2⟩:=wK names ((n,c)::cs) (λy hy=>hn y (Do _ hy)) (λx d h=>by
    rw[PK]at h;cases hx:x==n with
    |true=>rw[hx]at h;cases h;rw[aaB.mp hx];exact ec
    |false=>rw[hx]at h;exact hc x d h)
   refine⟨cl,?_,h1,λx h=>h2 x ?_⟩
   ·have:cellOf env n=pure c:=by unfold cellOf;rw[show List.lookup n env.cells=some c from ec]
    simp only[Z2,aat,this];exact e
   ·rcases h with⟨d,h⟩|h
    ·left
     rw[PK];cases x==n with
     |true=>exact⟨c,rfl⟩
     |false=>exact⟨d,h⟩
    ·rcases Da.mp h with h|h
     ·cases h
      left;rw[PK,Z2];exact⟨c,rfl⟩
     ·exact .inr h
  ·obtain⟨cl,e,h1,h2⟩:=wK names cs (λy hy=>hn y (Do _ hy)) hc
   refine⟨cl,?_,h1,λx h=>h2 x (h.imp (λh=>h) λh=>?_)⟩
   ·have:(k==NameKind.free)=false:=by cases k<;>first|rfl|exact absurd rfl hk
    simp only[this,abi,aaS];exact e
   ·rcases Da.mp h with h|h
    ·cases h;exact absurd rfl hk
    ·exact h
theorem Gh{scope:Scope}{env:Env}(hn:∀y∈scope.names,y.2=.free->∃c,env.cells.lookup y.1=some c):
  ∃cl,closureFor scope env=pure cl/\(∀x c,cl.lookup x=some c->env.cells.lookup x=some c)/\∀x,(x,NameKind.free)∈scope.names->∃c,cl.lookup x=some c:=by
 obtain⟨cl,e,h1,h2⟩:=wK scope.names [] hn (λx c h=>nomatch h)
 refine⟨cl,?_,h1,λx h=>h2 x (.inr h)⟩;unfold closureFor
 have:∀(l:List (Str×NameKind)) (cs:List (Str×Addr)),(forIn l cs λ(x:Str×NameKind) (r:List (Str×Addr))=>(match x with|(name,kind)=>do
   if(kind==.free)=true then
    let c <-cellOf env name
    pure (ForInStep.yield ((name,c)::r))
   else pure (ForInStep.yield r):Sem (ForInStep (List (Str×Addr)))))=forIn l cs λ(x:Str×NameKind) r=>(if(x.2==.free)=true then do let c <-cellOf env x.1;pure (ForInStep.yield ((x.1,c)::r))else pure (ForInStep.yield r):Sem (ForInStep (List (Str×Addr)))):=λ_ _=>rfl
 show(forIn scope.names [] _ >>= λr=>pure r)=_
 first
  |(rw[show(forIn scope.names ([]:List (Str×Addr)) _:Sem (List (Str×Addr)))=pure cl from e];rfl)
  |(erw [e];rfl)
theorem wW:∀(names:List (Str×NameKind)) {s:Shared} {cells:List (Str×Addr)},(∀x c,cells.lookup x=some c->c<s.heap.objs.size)->(∀x y c,cells.lookup x=some c->cells.lookup y=some c->x=y)->
  (∀(h':Heap) (NN:List (Str×Addr)),(∀b o,s.heap.get? b=some o->h'.get? b=some o)->(∀x y c,NN.lookup x=some c->NN.lookup y=some c->x=y)->
   (∀x c,NN.lookup x=some c->cells.lookup x=some c\/(s.heap.objs.size<=c/\h'.IsCell c none))->(∀x,(x,NameKind.cell)∈names->∃c,NN.lookup x=some c/\s.heap.objs.size<=c)->(∀x c,cells.lookup x=some c->(x,NameKind.cell)∉names->NN.lookup x=some c)->Q NN {s with heap:=h'})->
  wpAny M A (forIn names cells λ(x:Str×NameKind) (r:List (Str×Addr))=>(match x with|(name,kind)=>if(kind==NameKind.cell)=true then do let a <-alloc {cls:=Value.type "cell",data:=Data.cell none};pure (ForInStep.yield ((name,a)::r))else pure (ForInStep.yield r):Sem (ForInStep (List (Str×Addr))))) Q E s
 | [],s,cells,_,inj,k=>by
  exact FM (k s.heap cells (λ_ _ e=>e) inj (λ_ _ e=>.inl e) (λ_ h=>nomatch h) (λ_ _ e _=>e))
 | (n,kd)::names,s,cells,lt,inj,k=>by
  rw[aaa];by_cases hk:kd=.cell
  ·subst hk
   simp only[Z2,aat];refine cp (cp (wpAny_alloc (FM ?_)));dsimp only;refine wW names (λx c h=>?_) (λx y c hx hy=>?_) λh' NN keep QK h2 h3 h4=>?_
   ·rw[UV]
    rw[PK]at h;cases hx:x==n with
    |true=>rw[hx]at h;cases h;exact Nat.lt_succ_self _
    |false=>rw[hx]at h;exact abo (lt x c h)
   ·rw[PK]at hx hy
    cases ex:x==n with
    | true=>
     cases ey:y==n with
     |true=>rw[aaB.mp ex,aaB.mp ey]
     | false=>
      rw[ex]at hx;rw[ey]at hy;cases hx;exact absurd (lt y _ hy) (ZN _)
    | false=>
     rw[ex]at hx;cases ey:y==n with
     |true=>rw[ey]at hy;cases hy;exact absurd (lt x _ hx) (ZN _)
     |false=>rw[ey]at hy;exact inj x y c hx hy
   ·have old:∀b o,s.heap.get? b=some o->h'.get? b=some o:=λb o e=>keep b o (mB _ e)
    have new:h'.IsCell s.heap.objs.size none:=⟨_,keep _ _ (JU _ rfl),rfl⟩;refine k h' NN old QK (λx c h=>?_) (λx hx=>?_) (λx c h hx=>?_)
    ·rcases h2 x c h with h|⟨h5,h6⟩
     ·rw[PK]at h
      cases ex:x==n with
      |true=>rw[ex]at h;cases h;exact .inr ⟨Gc _,new⟩
      |false=>rw[ex]at h;exact .inl h
     ·rw[UV]at h5
      exact .inr ⟨by omega,h6⟩
    ·by_cases hm:(x,NameKind.cell)∈names
     ·obtain⟨c,h5,h6⟩:=h3 x hm
      rw[UV]at h6;exact⟨c,h5,by omega⟩
     ·have WQ:x=n:=by
       rcases Da.mp hx with e|e
       ·exact(Prod.mk.inj e).1
       ·exact absurd e hm
      subst WQ;exact⟨s.heap.objs.size,h4 x _ (by rw[PK,Z2]) hm,Gc _⟩
    ·refine h4 x c ?_ λhm=>hx (Do _ hm)
     rw[PK];cases ex:x==n with
     |true=>exact absurd (by rw[aaB.mp ex];exact FB) hx
     |false=>exact h
  ·have T5:(kd==NameKind.cell)=false:=by cases kd<;>first|rfl|exact absurd rfl hk
   simp only[T5,abi,aaS];refine cp (FM ?_);dsimp only;refine wW names lt inj λh' NN keep QK h2 h3 h4=>k h' NN keep QK h2 (λx hx=>?_) (λx c h hx=>h4 x c h λhm=>hx (Do _ hm));rcases Da.mp hx with e|e
   ·exact absurd (Prod.mk.inj e).2.symm hk
   ·exact h3 x e
theorem Ez{M:Model}{A:Around}{E:Value->Shared->Prop}{Q:Env->Shared->Prop}{s:Shared}{scope:Scope}{cl:List (Str×Addr)}{env:Env}(lt:∀x c,cl.lookup x=some c->c<s.heap.objs.size)(inj:∀x y c,cl.lookup x=some c->cl.lookup y=some c->x=y)
  (k:∀(h':Heap) (NN:List (Str×Addr)),(∀b o,s.heap.get? b=some o->h'.get? b=some o)->(h'.Ns s.heap.objs.size λ_=>none)->(∀x y c,NN.lookup x=some c->NN.lookup y=some c->x=y)->
   (∀x c,NN.lookup x=some c->cl.lookup x=some c\/(s.heap.objs.size+1<=c/\h'.IsCell c none))->(∀x,(x,NameKind.cell)∈scope.names->∃c,NN.lookup x=some c/\s.heap.objs.size+1<=c)->(∀x c,cl.lookup x=some c->(x,NameKind.cell)∉scope.names->NN.lookup x=some c)->
   Q {scope:=scope,locals:=s.heap.objs.size,globals:=env.globals,cells:=NN,qual:=env.qual,func:=none,code:=env.code,frame:=env.frame,builtins:=env.builtins} {s with heap:=h'}):
  wpAny M A (newFunctionEnv scope env.globals cl [] env.qual none Value.none (some env)) Q E s:=by
 unfold newFunctionEnv;refine cp (wpAny_alloc ?_);dsimp only;refine cp (S8 (wW (Q:=λNN s'=>Q {scope:=scope,locals:=s.heap.objs.size,globals:=env.globals,cells:=NN,qual:=env.qual,func:=none,code:=env.code,frame:=env.frame,builtins:=env.builtins} s') scope.names (λx c h=>by rw[UV];exact abo (lt x c h)) inj λh' NN keep QK h2 h3 h4=>?_) (λNN s' hq=>?_) λ_ _ h=>h)
 ·refine k h' NN (λb o e=>keep b o (mB _ e)) ?_ QK (λx c h=>?_) (λx hx=>?_) h4
  ·obtain⟨o,es,ep,h1,h2,h3,h4⟩:=Heap.Ns.new s.heap (Value.type "dict")
   exact⟨o,es,ep,keep _ _ h1,h2,h3,h4⟩
  ·rcases h2 x c h with h|⟨h5,h6⟩
   ·exact .inl h
   ·rw[UV]at h5;exact .inr ⟨h5,h6⟩
  ·obtain⟨c,h5,h6⟩:=h3 x hx
   rw[UV]at h6;exact⟨c,h5,h6⟩
 ·exact FM hq
set_option maxHeartbeats 1000000
noncomputable abbrev Xt:=En->R T
noncomputable def xD(e:Ex):Xt:=λρ=>(e ρ).bind λd=>.ok (.d d)
inductive rn(M:Md)(f:Xt)(σ:L2.St)(H:Hp)(Q:VK):Prop
 |mk:∀ρ F t,bC M H F σ ρ->f ρ=.ok t->(∀v H' F' as,ar H H'->(∀b∈as,H b=none)->as.Nodup->(∀b,F' b↔F b\/b∈as)->aL M H' F' t v as->Q v H')->rn M f σ H Q
abbrev JX(X:Cx)(e:Expr)(f:Xt):Prop:=PE X e (rn (aJ X) f)
structure XX(X:Cx)(e:Expr)(f:Xt):Prop where
 out:JX X e f
noncomputable def hU(tg:dQ)(cs:List cC)(el:Xt)(ρ:En):List D->R (List T)
 |[]=>.ok []
 | d::ds=>(tg d ρ).bind λOv=>(eR.ku cs Ov).bind λt=>
  if t=true then(el Ov).bind λy=>(hU tg cs el ρ ds).bind λys=>.ok (y::ys)else hU tg cs el ρ ds
noncomputable def sv(it:dD)(n:Nat)(fv:List Nat)(tg:dQ)(cs:List cC)(el:Xt):En->R (List T):=λρ=>(it ρ).bind λds=>
 if ds.length<=d4 then hU tg cs el (List.replicate n .un++frees ρ fv) ds else .bad
theorem xy:∀ {ds ys:List D},eR tg cs el ρ ds=.ok ys->hU tg cs (xD el) ρ ds=.ok (ys.map .d)
 |[],_,h=>by cases h;rfl
 | d::ds,ys,h=>by
  unfold eR at h;obtain⟨Ov,e1,h⟩:=aC.mp h;obtain⟨t,e2,h⟩:=aC.mp h;unfold hU;rw[e1,R.bo,e2,R.bo];cases t with
  | true=>
   rw[AC rfl]at h ⊢;obtain⟨y,e3,h⟩:=aC.mp h;obtain⟨zs,e4,h⟩:=aC.mp h;cases h;show((el Ov).bind λd=>R.ok (T.d d)).bind _=_;rw[e3,R.bo,R.bo,xy e4];rfl
  | false=>
   rw[DF (by decide)]at h ⊢
   exact xy h
section
variable{M:Md}{H H':Hp}{F F':acS}{as:Zx}{σ:L2.St}{ρ:En}
theorem bC.wide(r:bC M H F σ ρ)(s1:ar H H')(hn:∀b∈as,H b=none)(hF:∀b,F' b↔F b\/b∈as)(ht:∀b∈as,∃u,H' b=some u):Mv F H F' H'/\bC M H' F' σ ρ:=by
 have mv:Mv F H F' H':=λb o n e=>⟨λf=>((hF b).mp f).elim n (λhb=>by rw[hn b hb]at e;cases e),s1 _ _ e⟩
 refine⟨mv,⟨r.len,λa f=>?_,λi d e=>?_,λi ds e=>?_,λi ks ds e=>?_,r.dg,?_⟩⟩
 ·rcases(hF a).mp f with f|f
  ·obtain⟨o,e⟩:=r.bw a f;exact⟨o,s1 _ _ e⟩
  ·exact ht a f
 ·obtain⟨v,e1,q⟩:=r.sh i d e;exact⟨v,e1,q.mv mv⟩
 ·obtain⟨a,xs,e1,f,e2,q⟩:=r.ol i ds e;exact⟨a,xs,e1,(hF a).mpr (.inl f),s1 _ _ e2,q.mv mv⟩
 ·obtain⟨a,xs,e1,f,e2,l,q⟩:=r.od i ks ds e;exact⟨a,xs,e1,(hF a).mpr (.inl f),s1 _ _ e2,l,q.mv mv⟩
 ·exact r.on.mv mv (λj x e=>⟨e,rfl⟩) (λj x b u e hb f hu=>⟨(hF b).mpr (.inl f),s1 _ _ hu⟩) λj x b e hb k ok=>(r.on j x e).2.1 b hb k ok
theorem zr(h:JE X e f):JX X e (xD f):=
 b9 h λσ H Q=>by
  rintro⟨ρ,F,t,hr,e,q⟩
  obtain⟨d,ed,e⟩:=aC.mp e;cases e;exact⟨ρ,F,d,hr,ed,λv H1 s1 rv=>q v H1 F [] s1 (λ_ hb=>nomatch hb) Z3 (λb=>by simp) (by rw[aL];exact⟨rfl,rv⟩)⟩
theorem jW:∀ {vs:List D} {xs:List V} {as:Zx},aD M H F (vs.map .d) xs as↔as=[]/\aj M H F vs xs
 |[],xs,as=>by simp only[ZO,aD,aj];exact And.comm
 | v::vs,xs,as=>by
  simp only[Pi,aD,aj,aL];constructor
  ·rintro⟨x,r,bs,cs,rfl,rfl,⟨rfl,h1⟩,h2⟩
   obtain⟨rfl,h3⟩:=jW.mp h2;exact⟨rfl,x,r,rfl,h1,h3⟩
  ·rintro⟨rfl,x,r,rfl,h1,h2⟩
   exact⟨x,r,[],[],rfl,rfl,⟨rfl,h1⟩,jW.mpr ⟨rfl,h2⟩⟩
theorem aD.append:∀ {ts us:List T} {xs ys:List V} {as bs:Zx},aD M H F ts xs as->aD M H F us ys bs->aD M H F (ts++us) (xs++ys) (as++bs)
 | [],_,_,_,_,_,h,g=>by
  simp only[aD]at h;obtain⟨rfl,rfl⟩:=h;exact g
 | t::ts,_,_,_,_,_,h,g=>by
  simp only[aD]at h;obtain⟨x,r,bs,cs,rfl,rfl,h1,h2⟩:=h;rw[aaz,aaz,aaN];simp only[aD];exact⟨x,_,bs,_,rfl,rfl,h1,h2.append g⟩
theorem aD.len:∀ {ts:List T} {xs:List V} {as:Zx},aD M H F ts xs as->ts.length=xs.length
 |[],xs,as,h=>by simp only[aD]at h;rw[h.1];rfl
 | t::ts,xs,as,h=>by
  simp only[aD]at h;obtain⟨x,r,bs,cs,rfl,rfl,h1,h2⟩:=h;simp[aD.len h2]
end
section
variable{X:Cx}{M:Md}{G H H':Hp}{F0:Gf}{F F':acS}{σ:L2.St}{ρ:En}{pos:Pos}
def mM(n:Nat)(tg:dQ):Prop:=∀d ρ ρ',tg d ρ=.ok ρ'->ρ'.length=ρ.length/\∀j:Nat,n<=j->ρ'[j]? =ρ[j]?
theorem Bj(h:i<n):mM n (aG i):=λd ρ ρ' e=>by
 cases e;exact⟨by simp,λj hj=>bU (by omega)⟩
theorem C3:∀ {is:List Nat} {ds:List D} {ρ ρ':En},is.all (· <n)=true->gQ is ds ρ=.ok ρ'->ρ'.length=ρ.length/\∀j:Nat,n<=j->ρ'[j]? =ρ[j]?
 |[],[],_,_,_,e=>by cases e;exact⟨rfl,λ_ _=>rfl⟩
 | i::is,d::ds,ρ,ρ',h,e=>by
  rw[Wp,mO,JK]at h;simp only[gQ]at e;obtain⟨h1,h2⟩:=C3 h.2 e;exact⟨by rw[h1];simp,λj hj=>by rw[h2 j hj];exact bU (by omega)⟩
 |[],_::_,_,_,_,e=>by cases e
 |_::_,[],_,_,_,e=>by cases e
theorem Ki(h:is.all (· <n)=true):mM n (gW is):=λd ρ ρ' e=>by
 unfold gW at e;split at e
 ·exact C3 h e
 ·cases e
theorem bC.less{ρ':En}(r:bC M H F σ ρ)(hl:ρ'.length=ρ.length)(h:∀(j:Nat) s,ρ'[j]? =some s->s=.un\/((∃d,s=.sh d)/\ρ[j]? =some s)):bC M H F σ ρ' where
 len:=by rw[hl,r.len]
 bw:=r.bw
 sh i d e:=by
  rcases h i _ e with z|⟨_,z⟩
  ·cases z
  ·exact r.sh i d z
 ol i d e:=by
  rcases h i _ e with z|⟨⟨_,z⟩,_⟩<;>cases z
 od i k d e:=by
  rcases h i _ e with z|⟨⟨_,z⟩,_⟩<;>cases z
 dg i j a oi:=by
  rcases oi with⟨_,e⟩|⟨_,_,e⟩
  ·rcases h i _ e with z|⟨⟨_,z⟩,_⟩<;>cases z
  ·rcases h i _ e with z|⟨⟨_,z⟩,_⟩<;>cases z
 on:=.no λi NR e=>by rcases h i _ e with z|⟨⟨_,z⟩,_⟩<;>cases z
theorem jK{ρ:En}(h:∀(j:Nat) s,ρ[j]? =some s->s=.un\/∃d,s=.sh d){i:Nat}(o:bY ρ i):False:=by
 rcases o with⟨_,e⟩|⟨_,_,e⟩
 ·rcases h i _ e with z|⟨_,z⟩<;>cases z
 ·rcases h i _ e with z|⟨_,z⟩<;>cases z
noncomputable def ent(n:Nat)(ρ:En)(fv:List Nat):En:=List.replicate n .un++frees ρ fv
theorem kP{n:Nat}{fv:List Nat}{j:Nat}{s:Slot}(h:(ent n ρ fv)[j]? =some s):s=.un\/((∃d,s=.sh d)/\n<=j/\∃i,fv[j - n]? =some i/\ρ[i]? =some s):=by
 unfold ent at h;rw[ZV,aax]at h;split at h
 ·rename_i hn
  rw[S6,AC hn]at h;cases h;exact .inl rfl
 ·rename_i hn
  unfold frees at h;rw[MC]at h;cases e:fv[j - n]? with
  |none=>rw[e]at h;cases h
  | some i=>
   rw[e]at h;have hs:Cc ρ[i]? =s:=by simpa using h
   subst hs;cases Pa:ρ[i]? with
   |none=>exact .inl rfl
   | some z=>
    cases z with
    |sh d=>exact .inr ⟨⟨d,rfl⟩,by omega,i,rfl,Pa⟩
    |_=>exact .inl rfl
noncomputable def stC(n:Nat)(σ:L2.St)(fv:List Nat):L2.St:=List.replicate n none++fv.map λi=>(σ[i]?).getD none
theorem KG{n:Nat}{fv:List Nat}(r:bC M H F σ ρ):bC M H F (stC n σ fv) (ent n ρ fv) where
 len:=by unfold stC ent frees;simp
 bw:=r.bw
 sh j d e:=by
  rcases kP e with z|⟨_,hn,i,hi,z⟩
  ·cases z
  ·obtain⟨v,ev,rv⟩:=r.sh i d z
   refine⟨v,?_,rv⟩;unfold stC;rw[aah (by simpa using hn),aax,MC,hi]
   simp[ev]
 ol j d e:=by rcases kP e with z|⟨⟨_,z⟩,_⟩<;>cases z
 od j k d e:=by rcases kP e with z|⟨⟨_,z⟩,_⟩<;>cases z
 dg j k a oj:=by
  exact(jK (λj s e=>(kP e).imp (λh=>h) λh=>h.1) oj).elim
 on:=.no λj NR e=>by rcases kP e with z|⟨⟨_,z⟩,_⟩<;>cases z
theorem xI{scope:Scope}{env:Env}:∀ {names:List (Str×NameKind)} {x:Str} {k:NameKind},(names.map λ(n,k)=>if(k==NameKind.free&&env.scope.kind==.function&&env.kindOf n==some .cell)then(n,NameKind.cell)else(n,k)).lookup x=some k->
  (k=.cell\/k=.free)->(x,NameKind.free)∈names\/(x,NameKind.cell)∈names
 |[],_,_,h,_=>by simp at h
 | (n,q)::r,x,k,h,hk=>by
  have ih:=@xI scope env r x k;have h':List.lookup x ((if(q==NameKind.free&&env.scope.kind==.function&&env.kindOf n==some .cell)=true then(n,NameKind.cell)else(n,q))::r.map λ(n,k)=>if(k==NameKind.free&&env.scope.kind==.function&&env.kindOf n==some .cell)then(n,NameKind.cell)else(n,k))=some k:=h
  cases hx:x==n with
  | true=>
   have:=aaB.mp hx;subst this;by_cases hcnd:(q==NameKind.free&&env.scope.kind==.function&&env.kindOf x==some .cell)=true
   ·have:q=.free:=by
     rw[mO,mO]at hcnd;have:=hcnd.1.1;cases q<;>first|rfl|cases this
    subst this;exact .inl FB
   ·rw[DF hcnd,PK,Z2]at h'
    cases h';rcases hk with rfl|rfl
    ·exact .inr FB
    ·exact .inl FB
  | false=>
   refine(ih ?_ hk).imp (Do _) (Do _);by_cases hcnd:(q==NameKind.free&&env.scope.kind==.function&&env.kindOf n==some .cell)=true
   ·rw[AC hcnd,PK,hx]at h';exact h'
   ·rw[DF hcnd,PK,hx]at h';exact h'
theorem uf{env:Env}:∀ {names:List (Str×NameKind)} {x:Str},names.lookup x=some .free->(names.map λ(n,k)=>if(k==NameKind.free&&env.scope.kind==.function&&env.kindOf n==some .cell)then(n,NameKind.cell)else(n,k)).lookup x=some .cell\/
  (names.map λ(n,k)=>if(k==NameKind.free&&env.scope.kind==.function&&env.kindOf n==some .cell)then(n,NameKind.cell)else(n,k)).lookup x=some .free
 |[],_,h=>by simp at h
 | (n,q)::r,x,h=>by
  show List.lookup x ((if(q==NameKind.free&&env.scope.kind==.function&&env.kindOf n==some .cell)=true then(n,NameKind.cell)else(n,q))::r.map λ(n,k)=>if(k==NameKind.free&&env.scope.kind==.function&&env.kindOf n==some .cell)then(n,NameKind.cell)else(n,k))=_\/
   List.lookup x ((if(q==NameKind.free&&env.scope.kind==.function&&env.kindOf n==some .cell)=true then(n,NameKind.cell)else(n,q))::r.map λ(n,k)=>if(k==NameKind.free&&env.scope.kind==.function&&env.kindOf n==some .cell)then(n,NameKind.cell)else(n,k))=_
  rw[PK]at h;by_cases hcnd:(q==NameKind.free&&env.scope.kind==.function&&env.kindOf n==some .cell)=true
  ·rw[AC hcnd,PK]
   cases hx:x==n with
   |true=>exact .inl rfl
   |false=>rw[hx]at h;exact uf h
  ·rw[DF hcnd,PK]
   cases hx:x==n with
   |true=>rw[hx]at h;exact .inr h
   |false=>rw[hx]at h;exact uf h
structure nV(X:Cx)(scope:Scope)(tn fv:List Str)(Ou:List Nat):Prop where
 kind:scope.kind=.function
 cells:∀y∈scope.names,y.2=.cell->scope.names.lookup y.1=some .cell
 names:∀y∈scope.names,y.2=.local->scope.names.lookup y.1=some .local
 free:∀y∈scope.names,y.2=.free->X.env.scope.names.lookup y.1=some .cell
 yK:∀y∈scope.names,y.2=.free->scope.names.lookup y.1=some .free
 JH:∀(j:Nat) i,Ou[j]? =some i->∃x,fv[j]? =some x/\X.N[i]? =some x/\(x,NameKind.free)∈scope.names
 len:fv.length=Ou.length
inductive Mu(X':Cx)(M:Md)(m:Nat)(T':Nat->Heap->Prop)(fp:Zx)(H2:Hp)(F:acS)(D:Addr)(en:En)(cm:Nat->List T->Prop)(all:List T)(n:Nat)(s':Shared):Prop
 |mk (i:Nat) (NF:L2.St) (H':Hp) (vs:List V) (as:List T) (bs:Zx) (F':acS) (_:n=m - i) (_:i<=m) (_:Inv X' [] NF H' s') (_:T' i s'.heap) (_:∀b∈fp,H' b=none) (_:ar H2 H') (_:H' D=some (.lst vs)) (_:vs.length<=i)
   (_:(∀b,F' b↔F b\/b=D\/b∈bs)/\(∀b∈bs,H2 b=none/\b≠D)/\bs.Nodup) (_:aD M H' F' as vs bs) (_:bC M H' F' NF en) (rest:List T) (_:cm i rest) (_:as++rest=all)
theorem ze (tn fv:List Str) (Ou:List Nat) {elt iter target:Expr} {ifs:acP} {scope:Scope} {it:dD} {tg:dQ} {cs:List cC} {el:Xt} (Q4:∀e s,¬X.xe e s) (hc:X.calm=true) (ok:nV X scope tn fv Ou) (hi:JI X target iter it) (low:mM tn.length tg)
  (ht:∀cl C s H fp,JG (gu X scope cl C (tn++fv) s H fp) target tg) (PR:∀cl C s H fp,rE (gu X scope cl C (tn++fv) s H fp) ifs cs) (QU:∀cl C s H fp,JX (gu X scope cl C (tn++fv) s H fp) elt el)
  (hs:∀x,foldedSetIterable iter X.env x=pure x) {use:Option (Value->Sem Unit)} {Qc:Value->Shared->Prop} {pins:List (Addr×Obj)} {s:Shared} {all:List T} {p1:Pos} (I:Inv X pins σ H s) (hr:bC (aJ X) H F σ ρ) (e:sv it tn.length Ou tg cs el ρ=.ok all)
  (PQ:∀D C s4 H' vs Hq bs F2 f,(∃m,s4.heap.Ns C m)->Inv X pins σ H' s4->cX X pins H' C->ar H Hq->Hq D=none->(∀b∈bs,H b=none)->bs.Nodup->(∀b,F2 b↔F b\/b∈bs)->aD (aJ X) Hq F2 all vs bs->upd Hq D (.lst vs)=H'->compPost (model X.prog X.w) X.A X.xe use Qc (.ref D) C (.ok f) s4):
  wpAny (model X.prog X.w) X.A (comprehension (.ListComp elt [⟨target,iter,ifs,0⟩] scope pos) scope X.env p1 (newList []) false (eval iter X.env) use) Qc X.xe s:=by
 obtain⟨ds,ed,e⟩:=aC.mp e
 have hlen:ds.length<=sizeLine:=by
  by_cases h:ds.length<=d4
  ·exact h
  ·rw[DF h]at e;cases e
 rw[AC (show ds.length<=d4 from hlen)]at e
 have ey:hU tg cs el (ent tn.length ρ Ou) ds=.ok all:=e;obtain⟨cl,P',OB,P6⟩:=Gh (scope:=scope) (env:=X.env) (λy hy hf=>I.ok.has y.1 (.inl (ok.free y hy hf)));refine wpAny_comprehension_free (gs:=[]) rfl hs P' ok.kind ok.names ?_;refine L2.aW (hi pins s σ H _ I ⟨ρ,F,ds,hr,ed,λJ H' sm gv=>(⟨sm,gv⟩:ar H H'/\Gives (aJ X) J H' F ds)⟩) λv s1 h1=>L2.aW h1 λVu s2 h2=>?_;obtain⟨XJ,fp,T',J,H2,rfl,I2,T,Qg,f2,c8,gv⟩:=h2;have r2:=hr.same c8;have Yw:∀x c,cl.lookup x=some c->c<s2.heap.objs.size:=λx c h=>let⟨v,cc⟩:=I2.cell x c (OB x c h);cc.lt
 refine Z0 (Ez (λx c h=>by show c<(Heap.push _ _).objs.size;rw[UV];exact abo (Yw x c h)) (λx y c hx hy=>I2.ok.inj x y c (OB x c hx) (OB y c hy)) λO5 cells Py O7 Up P0 Qv Tq=>?_)
 dsimp only at O7 Py P0 Qv ⊢;generalize hD:s2.heap.objs.size=D at O7 Py P0 Qv ⊢;generalize hP:s2.heap.push {cls:=.type "list",dict:=none,data:=.seq ([]:acQ).toArray}=HP at O7 Py P0 Qv ⊢;have hC:HP.objs.size=D+1:=by rw[<-hP,UV,hD]
 generalize Zu:HP.objs.size=C at O7 P0 Qv hC ⊢;have Ue:∀b,b<s2.heap.objs.size->b≠C/\b≠D:=λb hb=>by rw[hD]at hb;exact⟨by omega,by omega⟩
 have old:∀b o,s2.heap.get? b=some o->O5.get? b=some o:=λb o e=>Py b o (hP▸mB _ e);have YE:D≠C:=by omega
 have U0:O5.get? D=some {cls:=.type "list",data:=.seq ([]:acQ).toArray}:=Py _ _ (hP▸(by rw[<-hD];exact JU _ rfl))
 have nD:H2 D=none:=I2.aQ.fresh (Z5 hD);have nC:H2 C=none:=I2.aQ.fresh (by omega)
 have RO:ar H2 (upd H2 D (.lst [])):=ar.dy nD _
 let X':Cx:=gu X scope cells C (tn++fv) s2 H2 fp
 have ir:∀x c,cells.lookup x=some c->∀b∈fp,c≠b:=λx c hx b hb=>by
  rcases P0 x c hx with h|⟨h,_⟩
  ·exact(f2 b hb).2.2.2.2.1 x c (OB x c h)
  ·obtain⟨o,ho,_⟩:=T.obj _ _ Qg b hb
   have:=GM ho;rw[hD]at this;exact aas (KF this (by omega))
 have Yu:X'.Ok:=by
  have U3:=I2.ok.mod;refine⟨U3,ok.kind,I2.ok.glob,I2.ok.blt,(show s2.heap.objs.size<=C by rw[hD];omega),Up,λx hx=>?_,λx c hf hx=>?_,λh=>I2.ok.hd h,I2.ok.frames,.inl rfl,λb hb=>?_,λb o hb=>I2.bs b o hb,Re I2.ok.gN I2.sz,λb o hb hx=>?_,λb hb hf=>?_,I2.stack,I2.AJ,I2.tb⟩
  ·have O2:(relabel scope X.env).names.lookup x=some .cell\/(relabel scope X.env).names.lookup x=some .free:=hx
   have Wg:(x,NameKind.free)∈scope.names\/(x,NameKind.cell)∈scope.names:=by
    rcases O2 with h|h
    ·exact xI (scope:=scope) h (.inl rfl)
    ·exact xI (scope:=scope) h (.inr rfl)
   by_cases hm:(x,NameKind.cell)∈scope.names
   ·obtain⟨c,h5,_⟩:=Qv x hm
    exact⟨c,h5⟩
   ·obtain⟨c,h5⟩:=P6 x (Wg.resolve_right hm)
    exact⟨c,Tq x c h5 hm⟩
  ·have hf:decide ((x,NameKind.cell)∈scope.names)=true:=hf
   obtain⟨c',h5,h6⟩:=Qv x (acm hf);have hx:cells.lookup x=some c:=hx;rw[hx]at h5;cases h5;show s2.heap.objs.size<=c;rw[hD];omega
  ·obtain⟨o,ho,_⟩:=T.obj _ _ Qg b hb
   exact⟨(Ue b (GM ho)).1,λx c hx=>ir x c hx b hb⟩
  ·obtain⟨_,_,_,h4,_⟩:=f2 b hx
   rcases h4 with h4|h4
   ·exact I2.ok.pq b o hb h4
   ·exact absurd (KF (GM hb) (Re I2.ok.gN h4)) (ZN _)
  ·obtain⟨_,h1,h2,_⟩:=f2 b hb
   exact(Da.mp (I2.pk b hf)).elim h1 h2
 have UR:∀ {H':Hp},(∀b∈fp,H' b=none)->∀b∈fp,cX X' [] H' b:=λhn b hb=>by
  obtain⟨o,ho,_⟩:=T.obj _ _ Qg b hb;refine⟨hn b hb,(Ue b (GM ho)).1,λhf=>?_,.inl hb,λx c hx=>ir x c hx b hb,λp hp=>nomatch hp⟩
  obtain⟨_,h1,h2,_⟩:=f2 b hb;exact(Da.mp (I2.pk b hf)).elim h1 h2
 have I3:Inv X' [] (stC tn.length σ Ou) (upd H2 D (.lst [])) {s2 with heap:=O5}:=by
  refine⟨Yu,rfl,I2.bare,Un.laid old (Z5 hD) nD,⟨_,O7,λi x v hx hv ZH=>?_⟩,λx c hx=>?_,?_,λx c hx=>?_,λp hp=>(nomatch hp),I2.aQ.laid old (Z5 hD) ⟨Xm _,[],0,.nil,U0⟩,?_⟩
  ·have hx:(tn++fv)[i]? =some x:=hx
   by_cases hn:i<tn.length
   ·unfold stC at hv
    rw[ZT (by simpa using hn),S6,AC hn]at hv
    cases hv
   ·have Qn:tn.length<=i:=by omega
    rw[aah Qn]at hx;unfold stC at hv;rw[aah (by simpa using Qn),aax,MC]at hv
    cases ei:Ou[i - tn.length]? with
    |none=>rw[ei]at hv;cases hv
    | some k=>
     rw[ei]at hv;obtain⟨x',O2,hN,hf⟩:=ok.JH _ _ ei;rw[hx]at O2;cases O2
     have SX:σ[k]? =some (some v):=by
      have R9:(σ[k]?).getD none=some v:=by simpa using hv
      cases ek:σ[k]? with
      |none=>rw[ek]at R9;cases R9
      |some z=>rw[ek]at R9;exact congrArg some R9
     obtain⟨m,hm,hl⟩:=I2.loc;have Pq:X.env.scope.names.lookup x=some .cell:=ok.free _ hf rfl;obtain⟨u,ru,lk⟩:=hl k x v hN SX (.inr (.inl Pq));refine⟨u,ru,.inr ⟨?_,?_⟩⟩
     ·exact uf (env:=X.env) (ok.yK _ hf rfl)
     ·rcases lk with⟨h1,_⟩|⟨_,c,Sq,cc⟩
      ·rw[show X.env.kindOf x=X.env.scope.names.lookup x from rfl,Pq]at h1;cases h1
      ·obtain⟨c',Pm⟩:=P6 x hf
       have:=OB x c' Pm;rw[Sq]at this;cases this;refine⟨c,Tq x c Pm λhm=>?_,cc.keeps old⟩;have h1:=ok.cells _ hm rfl;have h2:=ok.yK _ hf rfl;dsimp only at h1 h2;rw[h1]at h2;cases h2
  ·rcases P0 x c hx with hx|⟨_,cc⟩
   ·obtain⟨v,cc⟩:=I2.cell x c (OB x c hx)
    exact⟨v,cc.keeps old⟩
   ·exact⟨_,cc⟩
  ·show upd H2 D (.lst []) C=none
   rw[L2.aN (P3 YE)];exact nC
  ·show upd H2 D (.lst []) c=none
   rcases P0 x c hx with hx|⟨Tr,_⟩
   ·have h0:=I2.gH x c (OB x c hx)
    obtain⟨v,cc⟩:=I2.cell x c (OB x c hx);rw[L2.aN (Ue c cc.lt).2];exact h0
   ·rw[L2.aN (aas (by omega))];exact I2.aQ.fresh (by omega)
  ·show(stC tn.length σ Ou).length=(tn++fv).length
   unfold stC;simp[ok.len]
 have hM:aJ X'=aJ X:=rfl;have OE:∀(j:Nat) z,(ent tn.length ρ Ou)[j]? =some z->z=.un\/∃d,z=.sh d:=λj z h=>(kP h).imp (λh=>h) λh=>h.1;have PY:∀(j:Nat) NR,(ent tn.length ρ Ou)[j]? ≠some (.on NR):=λj NR e=>by rcases OE j _ e with z|⟨_,z⟩<;>cases z
 have VS:∀ {Tw:Hp} {F':acS} {bs:Zx},(∀b,F' b↔F b\/b=D\/b∈bs)->(∀b∈bs,H2 b=none)->ar H2 Tw->Mv F H2 F' Tw:=λhF hb sm b o n e=>⟨λh=>((hF b).mp h).elim n (λz=>z.elim (λz=>by subst z;rw[nD]at e;cases e) λz=>by rw[hb b z]at e;cases e),sm b o e⟩
 have r3:bC (aJ X) (upd H2 D (.lst [])) (λb=>F b\/b=D\/b∈([]:Zx)) (stC tn.length σ Ou) (ent tn.length ρ Ou):=by
  have r0:=(KG (n:=tn.length) (fv:=Ou) r2)
  exact⟨r0.len,λb f=>by
    by_cases hb:b=D
    ·subst hb;exact⟨_,L2.bO⟩
    ·obtain⟨o,ho⟩:=r0.bw b (f.resolve_right λz=>z.elim hb λz=>nomatch z)
     exact⟨o,RO _ _ ho⟩,λi d e=>let⟨v,h1,h2⟩:=r0.sh i d e;⟨v,h1,h2.mv (VS (bs:=[]) (λ_=>aaW) (λ_ z=>nomatch z) RO)⟩,λi d e=>(jK OE (.inl ⟨_,e⟩)).elim,λi k d e=>(jK OE (.inr ⟨_,_,e⟩)).elim,λi j a o=>(jK OE o).elim,.no PY⟩
 let R0:Result->Shared->Prop:=compPost (model X.prog X.w) X.A X.xe use Qc (.ref D) C
 have loop:codeAny (model X.prog X.w) X.A (.compLoop (.ListComp elt [⟨target,iter,ifs,0⟩] scope pos) 0 (.ref XJ) (.ref D) X'.env) R0 {s2 with heap:=O5}:=by
  refine Ic (Mu X' (aJ X) ds.length T' fp H2 F D (ent tn.length ρ Ou) (λi r=>hU tg cs el (ent tn.length ρ Ou) (ds.drop i)=.ok r) all) ?_ ds.length
   ⟨0,_,_,[],[],[],_,rfl,Xm _,I3,T.keep _ _ _ Qg λb _ o e=>old b o e,λb hb=>?_,RO,L2.bO,Xm _,⟨λ_=>aaW,λ_ z=>(nomatch z),Z3⟩,by rw[aD];exact⟨rfl,rfl⟩,r3,all,ey,rfl⟩
  ·rintro n s' ⟨i,NF,H',vs,as,bs,F',rfl,Zh,I',Pc,WI,QT,eD,ZI,⟨hF,Rm,PN⟩,T8,rS,rest,N8,Q8⟩
   obtain⟨g1,g2⟩:=gv H' F' (VS hF (λb hb=>(Rm b hb).1) QT) rS.bw;by_cases OF:i<ds.length
   ·obtain ⟨go,gy⟩:=g1 i ds[i] (by simp[OF])
    refine L2.aW (T.item X' rfl rfl rfl hc i [] s' NF H' _ I' (UR WI) Pc go) λr s4 ⟨u,Us,h4⟩=>?_;subst Us;refine L2.aW h4 λ_ s5 ⟨x,H5,I5,r5,y5,Sg,UL⟩=>?_;obtain⟨Rp,rx⟩:=gy x H5 y5;rw[abC OF]at N8;unfold hU at N8;obtain⟨Ov,eg,N8⟩:=aC.mp N8;obtain⟨t,et,N8⟩:=aC.mp N8;have X6:=rS.same Rp;have rG:bq (aJ X) H2 ⟨H2,λ_=>False,λ_=>none⟩ H5 F' NF (ent tn.length ρ Ou):=⟨X6,QT.trans Rp,λ_ h=>h.elim,λ_ h=>h.elim,λj a o=>(jK OE o).elim,λj NR _ e=>absurd e (PY j NR),λw hw=>nomatch hw⟩
    have U':Inv X' ([]++L2.mH fp s5.heap) NF H5 s5:=I5.pinned (UR UL) (T.obj _ _ Sg);refine S8 (ht cells C s2 H2 fp ⟨H2,λ_=>False,λ_=>none⟩ _ s5 NF H5 x u (λQr H6=>H6=H5/\bq (aJ X) H2 ⟨H2,λ_=>False,λ_=>none⟩ H5 F' Qr Ov) U' r5 ⟨ent tn.length ρ Ou,F',ds[i],Ov,rG,rx,eg,λQr r6=>⟨rfl,r6⟩⟩) (λ_ s6 ⟨Qr,H6,I6,h6,r6⟩=>?_) (λe s f=>(Q4 e s f).elim);subst h6;refine S8 (AO (X:=X') (M:=aJ X) (E:=X.xe) rfl (λ_ _ h=>h) (PR cells C s2 H2 fp) (Q:=λb H7=>b=t/\ar H6 H7) I6 r6.rs et (λH7 s7=>⟨rfl,s7⟩)) (λb s7 ⟨H7,I7,hb,Q6⟩=>?_) (λe s f=>(Q4 e s f).elim);subst hb;have Uz:ar H2 H7:=(QT.trans Rp).trans Q6;have D7:H7 D=some (.lst vs):=Q6 _ _ (Rp _ _ eD);have TQ:=low _ _ _ eg
    have back:∀ {Tw:Hp} {V1:acS},bC (aJ X) Tw V1 Qr Ov->bC (aJ X) Tw V1 Qr (ent tn.length ρ Ou):=λr=>r.less TQ.1.symm λj z hz=>by
     rcases kP hz with h|⟨h,hn,_⟩
     ·exact .inl h
     ·exact .inr ⟨h,by rw[TQ.2 j hn];exact hz⟩
    have again:∀ {s8:Shared} {H8:Hp},Inv X' ([]++L2.mH fp s5.heap) Qr H8 s8->Inv X' [] Qr H8 s8/\T' (i+1) s8.heap/\∀b∈fp,H8 b=none:=λ{s8 H8} I8=>by
     refine⟨I8.sR,T.keep _ _ _ Sg λb hb o e=>(I8.pin (b,o) (GT _ (GT _ (L2.sY hb e)))).1,λb hb=>?_⟩;obtain⟨o,e,d⟩:=T.obj _ _ Sg b hb;exact(I8.pin (b,o) (GT _ (GT _ (L2.sY hb e)))).2.1
    cases b with
    | false=>
     rw[DF (by decide)]at N8
     rw[DF (by decide)]
     obtain⟨a1,a2,a3⟩:=again I7;exact⟨ds.length - (i+1),by omega,i+1,Qr,H7,vs,as,bs,F',rfl,OF,a1,a2,a3,Uz,D7,by omega,⟨hF,Rm,PN⟩,T8.mv (.same (Rp.trans Q6)) (λb _ u f hu=>⟨f,Q6 _ _ (Rp _ _ hu)⟩),back (r6.rs.same Q6),rest,N8,Q8⟩
    | true=>
     rw[AC rfl]at N8;rw[AC rfl];obtain⟨y,Xb,N8⟩:=aC.mp N8;obtain⟨X9,Ri,N8⟩:=aC.mp N8;cases N8;refine S8 (QU cells C s2 H2 fp _ s7 Qr H7 (λv H8=>∃F8 Qf,ar H7 H8/\(∀b∈Qf,H7 b=none)/\Qf.Nodup/\(∀b,F8 b↔F' b\/b∈Qf)/\aL (aJ X) H8 F8 y v Qf) I7 ⟨Ov,F',y,r6.rs.same Q6,Xb,λv H8 F8 Qf s8 h1 h2 h3 h4=>⟨F8,Qf,s8,h1,h2,h3,h4⟩⟩) (λu2 s8 ⟨v,H8,I8,X7,F8,Qf,SG,Ti,YZ,Tj,TR⟩=>?_) (λe s f=>(Q4 e s f).elim);have D8:H8 D=some (.lst vs):=SG _ _ D7;refine S8 (L2.Cz (X:=X') _ s8 Qr H8 (.ref D) [v] (.ref D) [u2] (λ_ H9=>H9=upd H8 D (.lst (vs++[v]))) I8 rfl (.cons X7 .nil) ⟨D,vs,v,rfl,rfl,D8,by omega,rfl⟩) (λ_ s9 ⟨_,H9,I9,_,h9⟩=>?_) (λe s f=>(Q4 e s f).elim)
     subst h9;obtain⟨a1,a2,a3⟩:=again I9;have V7:D∉Qf:=λh=>by rw[Ti D h]at D7;cases D7
     have fD:F8 D:=(Tj D).mpr (.inl ((hF D).mpr (.inr (.inl rfl))));have Vi:Mv F8 H8 F8 (upd H8 D (.lst (vs++[v]))):=λb o n e=>⟨n,by rw[L2.aN (λz=>by subst z;exact n fD)];exact e⟩
     have Xf:Mv F' H' F8 H8:=λb o n e=>by
      have e7:=Q6 _ _ (Rp _ _ e);exact⟨λf=>((Tj b).mp f).elim n (λhb=>by rw[Ti b hb]at e7;cases e7),SG _ _ e7⟩
     have Vp:Mv F' H' F8 (upd H8 D (.lst (vs++[v]))):=Mv.trans Xf Vi
     have apart:∀a∈bs,∀b∈Qf,a≠b:=λa ha b hb z=>by
      subst z;obtain⟨_,u,hu⟩:=T8.fs a ha;have:=Q6 _ _ (Rp _ _ hu);rw[Ti a hb]at this;cases this
     have Tb:∀b∈bs,∀u,F' b->H' b=some u->F8 b/\upd H8 D (.lst (vs++[v])) b=some u:=λb hb u f hu=>⟨(Tj b).mpr (.inl f),by rw[L2.aN (Rm b hb).2];exact SG _ _ (Q6 _ _ (Rp _ _ hu))⟩
     have TM:∀b∈Qf,∀u,F8 b->H8 b=some u->F8 b/\upd H8 D (.lst (vs++[v])) b=some u:=λb hb u f hu=>⟨f,by rw[L2.aN (λz=>by subst z;exact V7 hb)];exact hu⟩
     have r8:=back ((r6.rs.same Q6).wide SG Ti Tj (λb hb=>(TR.fs b hb).2)).2;refine⟨ds.length - (i+1),by omega,i+1,Qr,_,vs++[v],as++[y],bs++Qf,F8,rfl,OF,a1,a2,a3,λb o e=>?_,L2.bO,by simp;omega,⟨λb=>?_,λb hb=>?_,SZ.mpr ⟨PN,YZ,apart⟩⟩,aD.append (T8.mv Vp Tb) ?_,?_,X9,Ri,by rw[aaN];exact Q8⟩
     ·rw[L2.aN (λz=>by subst z;rw[nD]at e;cases e)];exact SG _ _ (Uz _ _ e)
     ·rw[Tj b,hF b,M0,abf,abf]
     ·rcases M0.mp hb with hb|hb
      ·exact Rm b hb
      ·exact⟨Uz.free (Ti b hb),λz=>by subst z;exact V7 hb⟩
     ·rw[show Qf=Qf++[] by simp]
      simp only[aD];exact⟨v,[],Qf,[],rfl,rfl,TR.mv Vi TM,rfl,rfl⟩
     ·exact⟨r8.len,λb f=>by
       by_cases hb:b=D
       ·subst hb;exact⟨_,L2.bO⟩
       ·obtain⟨o,ho⟩:=r8.bw b f
        exact⟨o,by rw[L2.aN hb];exact ho⟩,λi d e=>let⟨v,h1,h2⟩:=r8.sh i d e;⟨v,h1,h2.mv Vi⟩,λi d e=>(jK OE (.inl ⟨_,e⟩)).elim,λi k d e=>(jK OE (.inr ⟨_,_,e⟩)).elim,λi j a o=>(jK OE o).elim,.no PY⟩
   ·have ei:i=ds.length:=by omega
    subst ei;rw[abr]at N8;cases N8;rw[ZU]at Q8;subst Q8;refine L2.aW (T.done X' rfl rfl rfl hc _ [] s' NF H' _ I' (UR WI) Pc g2) λr s4 ⟨Us,I4⟩=>?_;subst Us;obtain⟨m,hm,_⟩:=I4.loc;have C4:H' C=none:=I4.free;have u4:Un (L2.eZ X.stack) fp H2 H' s2.heap s4.heap:=I4.base
    have I5:Inv X pins σ H' s4:=I2.xN (s':=s4) (ch:=fp) I4.os u4 I4.aQ I4.bare λb hb=>by
     obtain⟨_,a1,a2,a3,a4,a5⟩:=f2 b hb;exact⟨a3,a1,a4,a5⟩
    have fC:cX X pins H' C:=I2.mq (by omega) C4
    have hH:∃Hq:Hp,ar H Hq/\Hq D=none/\aD (aJ X) Hq (λb=>F b\/b∈bs) as vs bs/\upd Hq D (.lst vs)=H':=by
     refine⟨λb=>if b=D then none else H' b,λb o e=>?_,by simp,?_,?_⟩
     ·have hb:b≠D:=λz=>by subst z;have:=c8 _ _ e;rw[nD]at this;cases this
      simp only[DF hb];exact QT _ _ (c8 _ _ e)
     ·refine T8.mv (λb o n e=>⟨λf=>n ((hF b).mpr (f.imp id .inr)),?_⟩) λb hb u f hu=>⟨.inr hb,?_⟩
      ·have hb:b≠D:=λz=>n ((hF b).mpr (.inr (.inl z)))
       simp only[DF hb];exact e
      ·simp only[DF (Rm b hb).2]
       exact hu
     ·funext b
      unfold upd;by_cases hb:b=D
      ·simp only[AC hb];rw[hb];exact eD.symm
      ·simp only[DF hb]
    obtain⟨Hq,q1,q2,q3,q4⟩:=hH;exact PQ D C s4 H' vs Hq bs _ _ ⟨m,hm⟩ I5 fC q1 q2 (λb hb=>c8.free (Rm b hb).1) PN (λ_=>aaW) q3 q4
  ·show upd H2 D (.lst []) b=none
   obtain⟨o,ho,_⟩:=T.obj _ _ Qg b hb;rw[L2.aN (Ue b (GM ho)).2];exact(f2 b hb).1
 exact codeAny_compStart_list loop (T.self _ 0 _ _ _ (T.keep _ _ _ Qg λb _ o e=>old b o e) loop)
theorem EF(tn fv:List Str)(Ou:List Nat)(Q4:∀e s,¬X.xe e s)(hc:X.calm=true)(ok:nV X scope tn fv Ou)(hi:JI X target iter it)(low:mM tn.length tg)
  (ht:∀cl C s H fp,JG (gu X scope cl C (tn++fv) s H fp) target tg) (PR:∀cl C s H fp,rE (gu X scope cl C (tn++fv) s H fp) ifs cs) (QU:∀cl C s H fp,JE (gu X scope cl C (tn++fv) s H fp) elt el)
  (hs:∀x,foldedSetIterable iter X.env x=pure x) (I:Inv X pins σ H s) (hr:bC (aJ X) H F σ ρ) (e:eU it tn.length Ou tg cs el ρ=.ok (.lst all))
  (PQ:∀D C s4 H' vs Hq f,(∃m,s4.heap.Ns C m)->Inv X pins σ H' s4->cX X pins H' C->ar H Hq->Hq D=none->aj (aJ X) Hq F all vs->upd Hq D (.lst vs)=H'->compPost (model X.prog X.w) X.A X.xe use Qc (.ref D) C (.ok f) s4):
  wpAny (model X.prog X.w) X.A (comprehension (.ListComp elt [⟨target,iter,ifs,0⟩] scope pos) scope X.env p1 (newList []) false (eval iter X.env) use) Qc X.xe s:=by
 obtain⟨ds,ed,e⟩:=aC.mp e
 have hlen:ds.length<=d4:=by
  by_cases h:ds.length<=d4
  ·exact h
  ·rw[DF h]at e;cases e
 rw[AC hlen]at e;obtain⟨ys,ey,e⟩:=aC.mp e;cases e;refine ze (all:=all.map .d) (el:=xD el) tn fv Ou Q4 hc ok hi low ht PR (λcl C s H fp=>zr (QU cl C s H fp)) hs I hr (by unfold sv;rw[ed,R.bo,AC hlen];exact xy ey) λD C s4 H' vs Hq bs F2 f hm I5 fC q1 q2 q3 q4 q5 q6 q7=>?_
 obtain⟨rfl,rs⟩:=jW.mp q6;exact PQ D C s4 H' vs Hq f hm I5 fC q1 q2 (rs.mv λb o n e=>⟨λh=>n ((q5 b).mpr (.inl h)),e⟩) q7
theorem qx(tn:List Str)(fv:List Str)(Ou:List Nat)(ok:nV X scope tn fv Ou)(hi:XI X target iter it)(ht:∀cl C s H fp,XG (gu X scope cl C (tn++fv) s H fp) target tg)(PR:∀cl C s H fp,uZ (gu X scope cl C (tn++fv) s H fp) ifs cs)(QU:∀cl C s H fp,XE (gu X scope cl C (tn++fv) s H fp) elt el)(Q4:∀e s,¬X.xe e s:=by exact λ_ _ h=>h)(hc:X.calm=true:=by rfl)(low:mM tn.length tg:=by first|exact Ki (by decide)|exact Bj (by decide))(hs:∀x,foldedSetIterable iter X.env x=pure x:=by exact vv (by rfl)):XF X (.ListComp elt [⟨target,iter,ifs,0⟩] scope pos) (eU it tn.length Ou tg cs el):=⟨have hi:=hi.out;have ht:=(λcl C s H fp=>(ht cl C s H fp).out);have PR:=(λcl C s H fp=>(PR cl C s H fp).out);have QU:=(λcl C s H fp=>(QU cl C s H fp).out);by
 intro pins s σ H Q I ⟨ρ,F,all,hr,e,q⟩;show wpAny _ _ (comprehension (.ListComp elt [⟨target,iter,ifs,0⟩] scope pos) scope X.env _ (newList []) false (eval iter X.env) none) _ _ s;refine EF tn fv Ou Q4 hc ok hi low ht PR QU hs I hr e λD C s4 H' vs Hq f hm I5 fC q1 q2 q3 q4=>?_;obtain⟨m,hm⟩:=hm;refine⟨m,hm,λh' Pf=>⟨.ref D,H',I5.turned (t':=s4.toks) (λb o n e=>by rw[Pf.2 b n];exact e) fC.1 fC.2.1 fC.2.2.2.1 fC.2.2.2.2.1 fC.2.2.2.2.2,rfl,?_⟩⟩
 rw[<-q4];exact q D Hq vs q1 q2 q3⟩
end
end PL
set_option maxHeartbeats 1000000
namespace PL
open PySem PySem.Spec PySem.Calls PyProof.Rows
open L2 (V Hp HO Cx PE PT PW PA PS cH PG dk VK TE TT TA TS TI TG Inv RelV Vals Rd bP bW upd ar Key XK Ends bA dJ cj R2 EP It Turn cX Un cg)
noncomputable def cQ(C:Zx)(H:Hp):Hp:=λb=>if b∈C then none else H b
noncomputable def rel(C:Zx)(H0 H:Hp):Hp:=λb=>if b∈C then H0 b else H b
section
variable{P:Program}{w:World}{C:Zx}{H H0 H1 H2 H':Hp}{h h':Heap}{b:Addr}{fs:Zx}
theorem nK(k:b∈C):cQ C H b=none:=AC k
theorem dZ(k:b∉C):cQ C H b=H b:=DF k
theorem lT(k:b∈C):rel C H0 H b=H0 b:=AC k
theorem fJ(k:b∉C):rel C H0 H b=H b:=DF k
def jg(C:Zx)(H:Hp):Prop:=∀c∈C,∃o v,H c=some (.bM (some o))/\o.data=.cell v
theorem jg.ne(hc:jg C H)(q:H b=some u)(nn:∀o v,u=.bM (some o)->o.data≠.cell v):b∉C:=λz=>by
 obtain⟨o,v,q1,q2⟩:=hc b z;rw[q]at q1;exact nn o v (Rf q1) q2
theorem yw(x:cg P w H h)(hc:jg C H):cg P w (cQ C H) h:=λb u e=>by
 by_cases hb:b∈C
 ·rw[nK hb]at e;cases e
 ·rw[dZ hb]at e
  refine(x b u e).BK (λ_ _ _ q=>q) (λd q=>?_) (λd _ q=>?_) λd o vs hd q=>?_
  ·rw[dZ (hc.ne q (λ_ _ z=>nomatch z))];exact q
  ·rw[dZ (hc.ne q (λ_ _ z=>nomatch z))];exact q
  ·rw[dZ (hc.ne q (λo' v z z2=>by cases z;rw[hd]at z2;cases z2))];exact q
theorem wq(hn:∀c∈C,H c=none):ar H (rel C H0 H):=λd u q=>by
 rw[fJ (λz=>by rw[hn d z]at q;cases q)];exact q
theorem AN(x:cg P w H h)(hn:∀c∈C,H c=none)(hc:∀c∈C,∃o v,H0 c=some (.bM (some o))/\o.data=.cell v/\h.get? c=some o):cg P w (rel C H0 H) h:=λb u e=>by
 have sm:ar H (rel C H0 H):=wq hn;by_cases hb:b∈C
 ·rw[lT hb]at e
  obtain⟨o,v,q1,q2,q3⟩:=hc b hb;rw[q1]at e;cases e;exact⟨q3,λfd hf=>by rw[q2]at hf;cases hf⟩
 ·rw[fJ hb]at e
  exact(x b u e).iA (λ_ _ _ q=>q) (λd q=>sm _ _ q) (λd _ q=>sm _ _ q) λd _ q=>sm _ _ q
theorem KH(u:Un fs [] (cQ C H) H2 h h')(hc:jg C H):Un fs [] H (rel C H H2) h h':=by
 have n0:∀ {b},H b=none->b∉C:=λ{b} n z=>by obtain⟨o,v,q,_⟩:=hc b z;rw[n]at q;cases q
 have nu:∀ {b},H b=none->cQ C H b=none:=λ{b} n=>by rw[dZ (n0 n)];exact n
 refine⟨λb o e n hb hx=>u.keep b o e (nu n) hb hx,λb o e n hb hx=>u.slot b o e (nu n) hb hx,λb o e n hx=>?_,λb o e hx=>u.there b o e hx,λb xs q=>?_,λb o xs q=>?_,λb t q=>?_⟩
 ·rw[fJ (n0 n)];exact u.free b o e (nu n) hx
 ·have k:=hc.ne q (λ_ _ z=>nomatch z)
  rw[fJ k];exact u.ik b xs (by rw[dZ k];exact q)
 ·have k:=hc.ne q (λ_ _ z=>nomatch z)
  rw[fJ k];exact u.gj b o xs (by rw[dZ k];exact q)
 ·by_cases k:b∈C
  ·rw[lT k];exact q
  ·rw[fJ k];exact u.fY b t (by rw[dZ k];exact q)
theorem FR(u:Un fs [] (rel C H0 H1) H' h h')(hn:∀c∈C,H1 c=none)(hc:∀c∈C,∃o,H0 c=some (.bM (some o))/\h.get? c=some o)(aQ:cg P w H' h'):Un fs [] H1 (cQ C H') h h':=by
 have kept:∀b o,b∈C->h.get? b=some o->h'.get? b=some o:=λb o k e=>by
  obtain⟨o',q1,q2⟩:=hc b k;rw[e]at q2;cases q2;have z:L2.cL P w H' h' b (.bM (some o)):=aQ b _ (u.fY b _ (by rw[lT k];exact q1))
  exact z.1
 have ne:∀ {b u'},H1 b=some u'->b∉C:=λ{b u'} q z=>by rw[hn b z]at q;cases q
 refine⟨λb o e n hb hx=>?_,λb o e n hb hx=>?_,λb o e n hx=>?_,λb o e hx=>u.there b o e hx,λb xs q=>?_,λb o xs q=>?_,λb t q=>?_⟩
 ·by_cases k:b∈C
  ·exact kept b o k e
  ·exact u.keep b o e (by rw[fJ k];exact n) hb hx
 ·by_cases k:b∈C
  ·exact⟨o.slots,kept b o k e⟩
  ·exact u.slot b o e (by rw[fJ k];exact n) hb hx
 ·by_cases k:b∈C
  ·exact nK k
  ·rw[dZ k];exact u.free b o e (by rw[fJ k];exact n) hx
 ·rw[dZ (ne q)];exact u.ik b xs (by rw[fJ (ne q)];exact q)
 ·rw[dZ (ne q)];exact u.gj b o xs (by rw[fJ (ne q)];exact q)
 ·rw[dZ (ne q)];exact u.fY b t (by rw[fJ (ne q)];exact q)
end
mutual
noncomputable def fZ:D->Bool
 |.cE _ _ _=>false
 |.tup ds=>gU ds
 |.lst ds=>gU ds
 |.aA _ ds=>gU ds
 |_=>true
noncomputable def gU:List D->Bool
 |[]=>true
 |d::ds=>fZ d&&gU ds
end
section
variable{M:Md}{C:Zx}{H:Hp}{F:acS}
theorem za(hc:jg C H)(nn:∀o,u≠.bM (some o))(h:Rd H a u):Rd (cQ C H) a u:=by
 rcases h with h|⟨o,h⟩
 ·exact .inl (by rw[dZ (hc.ne h (λo v z _=>nn o z))];exact h)
 ·exact .inr ⟨o,by rw[dZ (hc.ne h (λo v z=>nomatch z))];exact h⟩
mutual
theorem Rep.cQ(hc:jg C H):∀ {d:D} {v:V},fZ d=true->Rep M H F d v->Rep M (cQ C H) F d v
 |.aE,_,_,h=>by simp only[Rep]at h ⊢;exact h
 |.bl _,_,_,h=>by simp only[Rep]at h ⊢;exact h
 |.int _,_,_,h=>by simp only[Rep]at h ⊢;exact h
 |.str _,_,_,h=>by simp only[Rep]at h ⊢;exact h
 | .tup ds,_,n,h=>by
  simp only[Rep]at h ⊢;obtain⟨a,xs,e,t,r⟩:=h;exact⟨a,xs,e,t.imp_left λ⟨n,z⟩=>⟨n,za hc (λ_ z=>nomatch z) z⟩,aj.cQ hc n r⟩
 | .lst ds,_,n,h=>by
  simp only[Rep]at h ⊢;obtain⟨a,xs,e,t,r⟩:=h;exact⟨a,xs,e,t.imp_left λ⟨n,z⟩=>⟨n,za hc (λ_ z=>nomatch z) z⟩,aj.cQ hc n r⟩
 | .aA ks ds,_,n,h=>by
  simp only[Rep]at h ⊢;obtain⟨a,xs,e,t,l,r⟩:=h;exact⟨a,xs,e,t.imp_left λ⟨n,ob,z⟩=>⟨n,ob,by rw[dZ (hc.ne z (λo v z=>nomatch z))];exact z⟩,l,aj.cQ hc n r⟩
 |.cE _ _ _,_,n,_=>nomatch n
theorem aj.cQ(hc:jg C H):∀ {ds:List D} {xs:List V},gU ds=true->aj M H F ds xs->aj M (cQ C H) F ds xs
 |[],_,_,h=>by simp only[aj]at h ⊢;exact h
 | d::ds,_,n,h=>by
  simp only[aj]at h ⊢;simp only[gU,mO]at n;obtain⟨x,r,e,h1,h2⟩:=h;exact⟨x,r,e,Rep.cQ hc n.1 h1,aj.cQ hc n.2 h2⟩
end
end
section
variable{prog:Program}{w:World}{A:Around}{R:Result->Shared->Prop}{s:Shared}
theorem HA(SU:A.depth<recursionLimit)(ho:s.heap.get? a=some o)(Q9:o.data=.func fd)(Ys:fd.scope.isCoroutine=false)(Ve:fd.scope.isGenerator=false)
  (PD:fd.body=.expr body) (Oh:s.heap.CodeRec fd.code q)
  (h:wpAny (model prog w) A.in1 (bindArgs fd args) (λbinds B'=>
   wpAny (model prog w) A.in1 (newFunctionEnv fd.scope fd.globals fd.closure binds (q++".<locals>.") (some a) fd.code none fd.builtins)
    (λenv O6=>O6.heap.NoLimit/\codeAny (model prog w) A (.expr body env) R O6) (λe s'=>R (.error e) s') B') (λe s'=>R (.error e) s') s):
  codeAny (model prog w) A (.call (.ref a) args) R s:=by
 refine codeAny_of_tree ?_;show wpAny _ A.in1 (callAny (.ref a) args) _ _ s;simp only[callAny];refine cp (wpAny_load ho ?_);obtain⟨c,oc,vs,tq,hc,RB,Yk,hq⟩:=Oh;simp only[Q9,callFunction,Ys,Ve,PD,hc];rw[hc]at h;refine cp (m:=field (.ref c) 1) (UF RB Yk hq (cp (FM ?_)));exact cp (S8 h (λbinds B' O5=>cp (S8 O5 (λenv O6 Rt=>cp (wpAny_enterFrame Rt.1 SU (FM (And.intro rfl Rt.2)))) λ_ _ h'=>h')) λ_ _ h'=>h')
end
noncomputable def mW(P:Program)(w:World)(K:PySem.W.Frag)(mg:Str->acR)(base:Heap)(N:List Str)(qual:Str)(scope:Scope)(f:Addr)(cd:Value)(NP:List (Str×Addr))(A:Around)(outer:List Env)(s:Shared)(H:Hp):Cx where
 prog:=P
 w:=w
 K:=K
 mg:=mg
 base:=base
 A:=A.deeper (PySem.W.envX qual scope s.heap.objs.size f cd NP)
 N:=N
 cY:=s
 kr:=H
 env:=PySem.W.envX qual scope s.heap.objs.size f cd NP
 outer:=outer
 stack:=PySem.W.envX qual scope s.heap.objs.size f cd NP::outer
 ex:=[]
 calm:=true
 fn:=λ_=>false
 pn:=[]
 xe:=λ_ _=>False
structure mT(p:Str)(l:fU):Prop where
 kind:l.scope.kind=.function
 co:l.scope.isCoroutine=false
 gen:l.scope.isGenerator=false
 A3:∀x∈l.scope.names,x.2≠.cell
 par:l.scope.names.lookup p=some .local
 free:∀x∈cN l.scope,l.scope.names.lookup x=some .free
 nd:(p::cN l.scope).Nodup
 bind:∀(name qual:Str) (NP:List (Str×Addr)) (pm M' ct u:Value),bindArgs (PySem.W.kla_fn name qual l.params l.body l.scope NP pm M' ct) ⟨[u],[]⟩=pure [(p,u)]
noncomputable def oS(f:Ex):List D->R D:=λds=>if gU ds=true then f (ds.map Slot.sh)else .bad
structure mR(P:Program)(w:World)(K:PySem.W.Frag)(mg:Str->acR)(base:Heap)(k:Nat)(c:Str)(g:List D->R D):Prop where
 run:∀(A:Around) (outer:List Env) (s:Shared) (H:Hp) (F:acS) (a:Addr) (ns:List Str) (ds:List D) (x d:D) (u:Value) (v:V) (Q:VK) (E:XK),L2.cz k A->L2.jA P w K mg base A outer s H->(∀p,F p->∃o,H p=some o)->ns.length=5->
  Rep ⟨K,P,w⟩ H F (.cE c ns ds) (.ref a)->Rep ⟨K,P,w⟩ H F x v->RelV v u->g (x::ds)=.ok d->(∀v H',ar H H'->Rep ⟨K,P,w⟩ H' F d v->Q v H')->
  codeAny (model P w) A (.call (.ref a) ⟨[u],[]⟩) (L2.CR L2.dP outer P w H s Q E) s
theorem yz(h:(x,NameKind.free)∈sc.names):x∈cN sc:=S4.mpr ⟨(x,.free),aan.mpr ⟨h,rfl⟩,rfl⟩
theorem Eg{P:Program}{w:World}{K:PySem.W.Frag}{mg:Str->acR}{base:Heap}{k:Nat}{c p:Str}{fa:Addr}{ob:Obj}{fd:FuncData}{l:fU}{f:Ex}
  (e1:PySem.W.nsIn K mainGlobals c=some (some (.ref fa))) (e2:K.lookup fa=some ob) (e3:ob.data=.func fd) (e4:jw fd.body=some l) (S:mT p l)
  (h:∀(qual:Str) (a:Addr) (cd:Value) (NP:List (Str×Addr)) (A:Around) (outer:List Env) (s:Shared) (H:Hp),L2.cz k (A.deeper (PySem.W.envX qual l.scope s.heap.objs.size a cd NP))->JE (mW P w K mg base (p::cN l.scope) qual l.scope a cd NP A outer s H) l.body f):
  mR P w K mg base (k+1) c (oS f):=by
 refine⟨λA outer s H F a ns ds x d u v Q E hr e0 bw PF rc rx rv eg hq=>?_⟩;simp only[Rep]at rc;obtain⟨a',_,ea,z⟩:=rc;cases ea
 have z:∃xs,jl ⟨K,P,w⟩ H F a c xs/\aj ⟨K,P,w⟩ H F ds xs:=by
  rcases z with⟨z,_⟩|⟨_,⟨z,_⟩|⟨z,_⟩|⟨z,_⟩|⟨_,z⟩⟩
  ·omega
  ·rw[z]at PF;cases PF
  ·omega
  ·omega
  ·exact z
 obtain⟨xs,⟨Yd,WH,Zk,l',qual,NP,pm,Pp,cc,f1,f2,f3,f4,ha,len,has,inj,cells⟩,rs⟩:=z;have f1:PySem.W.nsIn K mainGlobals c=some (some (.ref Yd)):=f1;rw[e1]at f1;cases f1;have f2:K.lookup fa=some WH:=f2;rw[e2]at f2;cases f2;rw[e3]at f3;cases f3;rw[e4]at f4;cases f4
 let C:Zx:=(cN l.scope).filterMap λx=>NP.lookup x
 have X8:∀x c',NP.lookup x=some c'->c'∈C:=λx c' e=>by
  obtain⟨i,o,u,v,k1,_⟩:=cells x c' e;exact Zt.mpr ⟨x,SL k1,e⟩
 have hC:jg C H:=λb hb=>by
  obtain⟨x,_,e⟩:=Zt.mp hb;obtain⟨i,o,u,v,_,_,k3,k4,_⟩:=cells x b e;exact⟨o,_,k3,k4⟩
 have KX:K.In s.heap:=e0.mod.mJ.keeps λb o e=>(e0.bs b o e).1;have lim:s.heap.NoLimit:=e0.mod.nolimit.keeps λb o e=>(e0.bs b o e).1
 have WD:∀ {b},H b=none->cQ C H b=none:=λ{b} n=>by
  by_cases hb:b∈C
  ·exact nK hb
  ·rw[dZ hb];exact n
 have g0:L2.jA P w K mg base A outer s (cQ C H):=⟨e0.frames,e0.mod,λb o e=>⟨(e0.bs b o e).1,WD (e0.bs b o e).2⟩,e0.gN,e0.fS,λb hb=>WD (e0.iF b hb),yw e0.aQ hC,e0.bare,λb e=>by
  have z:=e0.tb b e;rw[dZ (hC.ne z (λ_ _ z=>nomatch z))];exact z⟩
 have ho:s.heap.get? a=some (PySem.W.kla_obj "<lambda>" qual l.params l.body l.scope NP pm cc Pp):=(e0.aQ a _ ha).1;obtain⟨ZE,oc,vs,q,t,Sq,hc,hd,hv⟩:=(e0.aQ a _ ha).2 _ rfl;cases Sq;have RB:s.heap.get? cc=some oc:=(e0.aQ cc _ hc).1;refine HA (by have:=hr.dp;omega) ho rfl S.co S.gen rfl (q:=q) ⟨cc,oc,vs,t,rfl,RB,hd,hv⟩ ?_
 rw[S.bind];refine FM (wpAny_newFunctionEnv S.A3 (λy hy=>?_) (λO5 PF Pf=>⟨lim.fresh _ Pf,?_⟩) S.kind)
 ·have:y=(p,u):=by simpa using hy
  rw[this];exact S.par
 show codeAny _ _ (.expr l.body (PySem.W.envX q l.scope s.heap.objs.size a (.ref cc) NP)) _ _;have Qb:∀b o,s.heap.get? b=some o->O5.get? b=some o:=λb o e=>Pf.extBut b o (Pv (GM e)) (mB _ e);unfold oS at eg;split at eg
 rotate_left
 ·cases eg
 rename_i nx;have R4:aj ⟨K,P,w⟩ (cQ C H) F (x::ds) (v::xs):=aj.cQ hC nx (by simp only[aj];exact⟨v,xs,rfl,rx,rs⟩)
 have Vb:∀b,F b->∃o,cQ C H b=some o:=λb hb=>by
  obtain⟨o,e⟩:=bw b hb;refine⟨o,?_⟩;rw[dZ λz=>?_]
  ·exact e
  ·obtain⟨y,_,ey⟩:=Zt.mp z
   obtain⟨_,_,_,_,_,k2,_⟩:=cells y b ey;exact k2 hb
 have hlen:(v::xs).length=(p::cN l.scope).length:=by simp[len]
 have st:L2.start (p::cN l.scope) (v::xs)=(v::xs).map some:=by
  unfold L2.start;rw[hlen];simp
 have cellAt:∀y c',NP.lookup y=some c'->∃i o u v',(cN l.scope)[i]? =some y/\s.heap.get? c'=some o/\o.data=.cell (some u)/\xs[i]? =some v'/\RelV v' u/\H c'=some (.bM (some o)):=λy c' e=>by
  obtain⟨i,o,u,v',k1,k2,k3,k4,k5,k6⟩:=cells y c' e;exact⟨i,o,u,v',k1,(e0.aQ c' _ k3).1,k4,k5,k6,k3⟩
 have ZK:∀y c',NP.lookup y=some c'->c'<s.heap.objs.size:=λy c' e=>by
  obtain⟨_,o,_,_,_,k,_⟩:=cellAt y c' e;exact GM k
 have J:Inv (mW P w K mg base (p::cN l.scope) q l.scope a (.ref cc) NP A outer s (cQ C H)) [] (L2.start (p::cN l.scope) (v::xs)) (cQ C H) {s with heap:=O5,toks:=s.toks+1}:=by
  have Rg:∀b:Addr,b∉(mW P w K mg base (p::cN l.scope) q l.scope a (.ref cc) NP A outer s (cQ C H)).ex:=λb z=>absurd (show b∈([]:Zx)from z) (by simp)
  refine⟨⟨g0.mod,S.kind,rfl,rfl,Gc _,inj,λy hy=>?_,λy c' hf _=>Bool.noConfusion hf,λ_=>hr.hd,acH g0.frames,.inr ⟨rfl,rfl⟩,λb z=>absurd z (Rg b),g0.bs,g0.gN,λb _ _=>Rg b,λb z=>absurd z (Rg b),g0.fS,g0.iF,g0.tb⟩,
   rfl,g0.bare,Un.kept Qb,⟨_,PF,λi y v' h1 h2 h3=>?_⟩,λy c' h=>?_,g0.aQ.fresh (Gc _),λy c' h=>nK (X8 y c' h),λp hp=>absurd (show p∈([]:List (Addr×Obj))from hp) (by simp),g0.aQ.kept Qb,?_⟩
  ·have hy:l.scope.names.lookup y=some .cell\/l.scope.names.lookup y=some .free:=hy
   rcases hy with hy|hy
   ·exact absurd rfl (S.A3 _ (ZR hy))
   ·exact has y (yz (ZR hy))
  ·rw[st]at h2
   cases i with
   | zero=>
    have P9:p=y:=by simpa[mW] using h1
    have PX:v=v':=by simpa using h2
    subst P9 PX;exact⟨u,rv,.inl ⟨S.par,by simp⟩⟩
   | succ i=>
    have P9:(cN l.scope)[i]? =some y:=by simpa[mW] using h1
    have PX:xs[i]? =some v':=by simpa using h2
    have hy:=SL P9;obtain⟨c',Pm⟩:=has y hy;obtain⟨j,o,u',v2,k1,k2,k3,k4,k5,_⟩:=cellAt y c' Pm;have RT:j=i:=L2.xZ (MG.mp S.nd).2 k1 P9;subst RT;rw[PX]at k4;cases k4;exact⟨u',k5,.inr ⟨.inr (S.free y hy),c',Pm,o,Qb _ _ k2,k3⟩⟩
  ·obtain⟨_,o,u',_,_,k2,k3,_⟩:=cellAt y c' h
   exact⟨some u',o,Qb _ _ k2,k3⟩
  ·rw[st,GE];exact hlen
 have rg:=(uO (M:=⟨K,P,w⟩) (N:=p::cN l.scope) Vb R4 rfl (by rw[R4.length,hlen];exact Gc _)).rs
 have hz:(x::ds).map Slot.sh++List.replicate ((p::cN l.scope).length - (x::ds).length) Slot.un=(x::ds).map Slot.sh:=by
  rw[R4.length,hlen];simp
 rw[hz]at rg;refine PySem.W.kla_codeExpr (S8 (h q a (.ref cc) NP A outer s (cQ C H) (hr.deeper _) [] _ _ (cQ C H) (λv' H2=>ar (cQ C H) H2/\Rep ⟨K,P,w⟩ H2 F d v') J ⟨_,F,d,rg,eg,λv' H2 sm r=>⟨sm,r⟩⟩) (λu' s' hs=>?_) λe s' hf=>False.elim hf);obtain⟨v',H2,J2,RC,sm,rd⟩:=hs
 have hn:∀b∈C,H2 b=none:=λb hb=>by
  obtain⟨y,_,ey⟩:=Zt.mp hb;exact J2.gH y b ey
 refine⟨v',rel C H H2,J2.os,J2.bare,KH J2.base hC,AN J2.aQ hn (λb hb=>?_),RC,hq _ _ (λb o e=>?_) (rd.mv (.same (wq hn)))⟩
 ·obtain⟨o,v0,k,k2⟩:=hC b hb
  exact⟨o,v0,k,k2,J2.base.keep b o (e0.aQ b _ k).1 (nK hb) (λz=>by rw[e0.iF b z]at k;cases k) (λz=>nomatch z)⟩
 ·by_cases hb:b∈C
  ·rw[lT hb];exact e
  ·rw[fJ hb];exact sm b o (by rw[dZ hb];exact e)
theorem FA{M:Model}{A:Around}{E:Value->Shared->Prop}{s:Shared}{env:Env}{pos:Pos}{f:Value}{first:acQ}{Q:Value->Shared->Prop}{Pr:Heap->Prop}{e:Expr}{rest:acP}
  (hk:∀h,Pr h->∃k,(k=Keeper.frame\/k=Keeper.machine\/k=Keeper.boundFrame)/\PySem.W.Looks M h (keeperOf f) k)
  (h:wpAny M A (spliced (backTo pos (starEach (e::rest) env))) (λvs B'=>Pr B'.heap/\wpAny M A (call f (first++vs)) Q E B') E s)
  (he:starEach (e::rest) env=(false,eval e env)::starEach rest env) (P8:(backTo pos (starEach rest env)).any (·.1)=false):
  wpAny M A (callWith pos f first (backTo pos (starEach (e::rest) env)) []) Q E s:=by
 rw[he]at h ⊢;exact PySem.W.callWith_of (P:=Pr) (by show((false||(backTo pos (starEach rest env)).any (·.1))||false)=false;rw[P8];rfl) hk (evalArgs_plain h)
noncomputable def lS(i:Nat)(c:Str)(g:List D->R D)(f:Ex):Ex:=λρ=>match ρ[i]? with
 |some (.sh (.cE c' [_,_,_,_,_] ds))=>if c'=c then(f ρ).bind λa=>g (a::ds)else .bad
 |_=>.bad
section
variable{X:Cx}{pos:Pos}
theorem Av{X:L2.Cx}{pos:Pos}(i:Nat){x c:Str}{k j:Nat}{g:List D->R D}{e:Expr}{f:Ex}{p:Pos}(L:mR X.prog X.w X.K X.mg X.base k c g)(hr:L2.cz j X.A)(he:XE X e f)(hk:k<=j:=by decide)(hN:X.N[i]? =some x:=by rfl)(hv:L2.fi X.env.scope x:=by exact Or.inl rfl)(hd:gV x:=by decide)(Oh:tx x:=by decide)(hs:starEach [e] X.env=(false,eval e X.env)::starEach [] X.env:=by exact bG (by rfl)):XE X (.Call (.Name x p) [e] [] pos) (lS i c g f):=⟨have he:=he.out;by
 intro pins s σ H Q I ⟨ρ,F,d,r,e,q⟩;unfold lS at e;split at e
 ·rename_i c' n1 n2 n3 n4 n5 ds Pa
  split at e
  ·rename_i hc
   subst hc;obtain⟨ad,ea,e⟩:=aC.mp e;obtain⟨v,ev,rv⟩:=r.sh i _ Pa;have Wo:=rv;simp only[Rep]at Wo;obtain⟨a,_,rfl,z⟩:=Wo
   have z:∃xs,jl (aJ X) H F a c' xs:=by
    rcases z with⟨z,_⟩|⟨_,⟨z,_⟩|⟨z,_⟩|⟨z,_⟩|⟨_,xs,z,_⟩⟩
    ·cases z
    ·cases z
    ·cases z
    ·cases z
    ·exact⟨xs,z⟩
   obtain⟨xs,fa,ob,fd,l,qual,NP,pm,Pp,cc,_,_,_,_,ha,_⟩:=z;refine aae (L2.aW ((L2.pv i hN hv hd Oh) pins s σ H (λx' H'=>x'=V.ref a/\H'=H) I ⟨_,ev,rfl,rfl⟩) λu s1 ⟨x1,H1,I1,r1,e1,e2⟩=>?_);subst e1 e2;cases r1
   refine FA (Pr:=λh=>h.get? a=some (PySem.W.kla_obj "<lambda>" qual l.params l.body l.scope NP pm cc Pp)) (λh hh=>⟨.frame,.inl rfl,(PySem.W.Looks.ld (part:=none) hh).andThen .now⟩)
    (L2.aW ((L2.gp he L2.jj hs) pos pins s1 σ H1 (λvs H2=>∃v,vs=[v]/\ar H1 H2/\Rep (aJ X) H2 F ad v) I1 ⟨ρ,F,ad,r,ea,λv H2 sm rx=>⟨v,rfl,sm,rx⟩⟩) λus s2 ⟨vs,H2,I2,rr,v,PM,sm,rx⟩=>⟨(I2.aQ a _ (sm _ _ ha)).1,?_⟩) hs rfl
   subst PM
   obtain⟨u,rfl,ru⟩:∃u,us=[u]/\RelV v u:=by
    cases rr with
    |cons a b=>cases b;exact⟨_,rfl,a⟩
   show wpAny _ _ (call (.ref a) [u]) _ _ s2;refine wpAny_call (aaP (L.run X.A X.stack s2 H2 F a _ ds ad d u v Q L2.E0 (hr.mono hk) I2.xW ((r.same sm).bw) rfl (rv.mv (.same sm)) rx ru e λv' H' QT rd=>q v' H' (sm.trans QT) rd) λrr s' hq=>?_);cases rr with
   |error e=>exact False.elim hq
   | ok fl=>
    cases fl with
    |ret u=>exact I2.after hq
    |next=>exact False.elim hq
    |brk=>exact False.elim hq
    |cont=>exact False.elim hq
  ·cases e
 ·cases e⟩
end
theorem uj{env:Env}{S:Str->Prop}:∀(names:List (Str×NameKind)) (cs:List (Str×Addr)),(∀y∈names,y.2=.free->S y.1/\∃c,env.cells.lookup y.1=some c)->(∀x c,cs.lookup x=some c->S x/\env.cells.lookup x=some c)->
  ∃cl,(forIn names cs λ(x:Str×NameKind) r=>(if(x.2==.free)=true then do let c <-cellOf env x.1;pure (ForInStep.yield ((x.1,c)::r))else pure (ForInStep.yield r):Sem (ForInStep (List (Str×Addr)))))=(pure cl:Sem _)/\
   (∀x c,cl.lookup x=some c->S x/\env.cells.lookup x=some c)/\(∀x,(∃c,cs.lookup x=some c)\/(x,NameKind.free)∈names->∃c,cl.lookup x=some c)
 |[],cs,_,hc=>⟨cs,rfl,hc,λx h=>h.elim (λh=>h) λh=>nomatch h⟩
 | (n,k)::names,cs,hn,hc=>by
  rw[aaa];by_cases hk:k=.free
  ·subst hk
   obtain⟨hS,c,ec⟩:=hn _ FB rfl
   obtain⟨cl,e,h1,h2⟩:=uj names ((n,c)::cs) (λy hy=>hn y (Do _ hy)) (λx d h=>by
    rw[PK]at h;cases hx:x==n with
    |true=>rw[hx]at h;cases h;rw[aaB.mp hx];exact⟨hS,ec⟩
    |false=>rw[hx]at h;exact hc x d h)
   refine⟨cl,?_,h1,λx h=>h2 x ?_⟩
   ·have:cellOf env n=pure c:=by unfold cellOf;rw[show List.lookup n env.cells=some c from ec]
    simp only[Z2,aat,this];exact e
   ·rcases h with⟨d,h⟩|h
    ·left
     rw[PK];cases x==n with
     |true=>exact⟨c,rfl⟩
     |false=>exact⟨d,h⟩
    ·rcases Da.mp h with h|h
     ·cases h
      left;rw[PK,Z2];exact⟨c,rfl⟩
     ·exact .inr h
  ·obtain⟨cl,e,h1,h2⟩:=uj names cs (λy hy=>hn y (Do _ hy)) hc
   refine⟨cl,?_,h1,λx h=>h2 x (h.imp (λh=>h) λh=>?_)⟩
   ·have:(k==NameKind.free)=false:=by cases k<;>first|rfl|exact absurd rfl hk
    simp only[this,abi,aaS];exact e
   ·rcases Da.mp h with h|h
    ·cases h;exact absurd rfl hk
    ·exact h
theorem Fb(hn:∀y∈scope.names,y.2=.free->∃c,env.cells.lookup y.1=some c):
  ∃cl,closureFor scope env=pure cl/\(∀x c,cl.lookup x=some c->x∈cN scope/\env.cells.lookup x=some c)/\∀x∈cN scope,∃c,cl.lookup x=some c:=by
 obtain⟨cl,e,h1,h2⟩:=uj (S:=λx=>x∈cN scope) scope.names [] (λy hy hf=>⟨yz (by rw[<-hf];exact hy),hn y hy hf⟩) (λx c h=>nomatch h)
 refine⟨cl,?_,h1,λx h=>h2 x (.inr ?_)⟩
 ·unfold closureFor
  show(forIn scope.names [] _ >>= λr=>pure r)=_
  first
   |(rw[show(forIn scope.names ([]:List (Str×Addr)) _:Sem (List (Str×Addr)))=pure cl from e];rfl)
   |(erw [e];rfl)
 ·obtain⟨⟨n,k⟩,hy,rfl⟩:=S4.mp h
  obtain⟨h1,h2⟩:=aan.mp hy;have:k=.free:=by cases k<;>first|rfl|cases h2
  subst this;exact h1
def yZ(X:Cx)(l:fU)(H:Hp)(f:Addr):Prop:=∃qual NP pm cc Pp,H f=some (.bM (some (PySem.W.kla_obj "<lambda>" qual l.params l.body l.scope NP pm cc Pp)))/\(∀x c,NP.lookup x=some c->x∈cN l.scope/\X.env.cells.lookup x=some c)/\∀x∈cN l.scope,∃c,NP.lookup x=some c
def KU(X:Cx)(l:fU):TE:=λ_ H Q=>∀f H1,ar H H1->H f=none->yZ X l H1 f->Q (.ref f) H1
theorem IJ(hl:∃i t,l=.int i t)(hc:∃i t,c=.int i t):∀(ps:acQ),TriplesOk ps->TriplesOk (ps++[l,c,v])/\∀pos cv,codeAmong pos (ps++[l,c,v])=some cv->codeAmong pos ps=some cv\/cv=v:=by
 obtain⟨li,lt,rfl⟩:=hl;obtain⟨ci,ct,rfl⟩:=hc;intro ps h
 fun_induction TriplesOk ps with
 | case1=>
  refine⟨by simp[TriplesOk],λpos cv e=>?_⟩
  simp only[aaF,codeAmong]at e;split at e
  ·exact .inr (Rf e).symm
  ·cases e
 | case2 a t b u x rest ih=>
  obtain⟨i1,i2⟩:=ih h;refine⟨by simpa[TriplesOk] using i1,λpos cv e=>?_⟩
  simp only[aaz,codeAmong]at e ⊢;split at e
  ·rename_i hc;rw[AC hc];exact .inl e
  ·rename_i hc;rw[DF hc];exact i2 pos cv e
 |case3=>cases h
section
variable{X:Cx}
theorem DL (Qp:defaultsOf l.params X.env=([],[])) (Qd:X.env.code=.ref c) (C:PySem.W.CodeHd X.base c P) (T:L2.ff X.base P) (hB:X.base.BuiltinsAt X.mg P) (P4:∀y∈l.scope.names,y.2=.free->X.env.kindOf y.1=some .cell\/X.env.kindOf y.1=some .free):
  PE X (.Lambda l.params l.body l.scope l.pos) (KU X l):=by
 intro pins s σ H Q I h;obtain⟨cl,P',OB,P6⟩:=Fb (scope:=l.scope) (env:=X.env) (λy hy hf=>I.ok.has y.1 (P4 y hy hf));have hP:=I.tb P T;have oP:L2.cL X.prog X.w H s.heap P (.bM none):=I.aQ P _ hP;obtain⟨ps,eP,Vf,good⟩:=oP;have hg:s.heap.Ns mainGlobals X.mg:=I.mod.glob.keeps I.bk;have C':=C.keeps I.bk;obtain⟨bm,ob,b1,b2,b3,b4,b5,b6⟩:=hB;have VN:s.heap.BuiltinsAt X.mg P:=⟨bm,ob,b1,b2,b3,b4,I.bk _ _ b5,b6⟩
 have WZ:mainGlobals≠P:=λq=>by
  obtain⟨o,es,ep,e,hd,_⟩:=hg;rw[q,eP]at e;cases e;cases hd
 cases hc:codeAmong l.pos ps.toList with
 | some cv=>
  obtain⟨cc,oc,vs,q,t,rfl,k1,k2,k3⟩:=good _ _ hc;refine acx Qp (PySem.W.kla_makeFunctionHit (mg:=X.mg) P' I.ok.glob hg Qd C' eP Vf hc VN λPp h' tk hk hsz=>?_);have hn:H h'.objs.size=none:=I.aQ.fresh hsz;have sm:ar H (upd H h'.objs.size (.bM (some (PySem.W.kla_obj "<lambda>" (X.env.qual++"<lambda>") l.params l.body l.scope cl ((X.mg "__name__").getD .none) cc Pp)))):=λb o e=>by rw[L2.aN (L2.fq e hn)];exact e
  refine⟨.ref h'.objs.size,_,I.laid (o:=.bM (some (PySem.W.kla_obj "<lambda>" (X.env.qual++"<lambda>") l.params l.body l.scope cl ((X.mg "__name__").getD .none) cc Pp))) (λb u e=>mB _ (hk b u e)) hsz ?_,rfl,h _ _ sm hn ⟨_,_,_,_,_,L2.bO,OB,P6⟩⟩;exact⟨JU _ rfl,λfd hf=>by cases hf;exact⟨cc,oc,vs,q,t,rfl,sm _ _ k1,k2,k3⟩⟩
 | none=>
  refine acx Qp (PySem.W.kla_makeFunction (mg:=X.mg) P' I.ok.glob hg Qd C' eP Vf hc WZ VN λc' Pp h' tk hx Vl OF Sh Xe=>?_);obtain⟨c2,oc,vs,t,e2,RB,hd,hv⟩:=Sh;cases e2;have SQ:H h'.objs.size=none:=I.aQ.fresh (abl (Nat.lt_of_le_of_lt Vl OF));have Xa:H c'=none:=I.aQ.fresh Vl;have ne1:c'≠h'.objs.size:=Pv OF;generalize Vm:PySem.W.kla_obj "<lambda>" (X.env.qual++"<lambda>") l.params l.body l.scope cl ((X.mg "__name__").getD .none) c' Pp=fo;have sm:ar H (upd (upd H c' (.bM (some oc))) h'.objs.size (.bM (some fo))):=λb o e=>by rw[L2.aN (L2.fq e SQ),L2.aN (L2.fq e Xa)];exact e
  have old:∀b o,b≠P->s.heap.get? b=some o->(h'.push fo).get? b=some o:=λb o n e=>mB _ (hx b o n e);have VG:(h'.push fo).get? P=some (PySem.W.tabObj (ps++ #[rawInt l.pos.line,rawInt l.pos.col,.ref c'])):=mB _ Xe;have nP:∀b,H b=none->b≠P:=λb n z=>by rw[z,hP]at n;cases n
  have Wj:upd (upd H c' (.bM (some oc))) h'.objs.size (.bM (some fo)) c'=some (.bM (some oc)):=by rw[L2.aN ne1,L2.bO]
  have un:Un X.fs [] H (upd (upd H c' (.bM (some oc))) h'.objs.size (.bM (some fo))) s.heap (h'.push fo):=by
   refine⟨λb o e n _ _=>old b o (nP b n) e,λb o e n _ _=>⟨o.slots,old b o (nP b n) e⟩,λb o e n _=>?_,λb o e _=>?_,λb xs q=>sm _ _ q,λb o u q=>sm _ _ q,λb t q=>sm _ _ q⟩
   ·have lt:b<c':=KF (GM e) Vl
    rw[L2.aN (Pv (abm lt OF)),L2.aN (Pv lt)];exact n
   ·by_cases hb:b=P
    ·subst hb;exact⟨_,VG⟩
    ·exact⟨o,old b o hb e⟩
  have aQ:cg X.prog X.w (upd (upd H c' (.bM (some oc))) h'.objs.size (.bM (some fo))) (h'.push fo):=λb u e=>by
   by_cases hb:b=h'.objs.size
   ·subst hb;rw[L2.bO]at e;cases e
    refine⟨JU _ (by subst Vm;rfl),λfd hf=>?_⟩
    rw[<-Vm]at hf;cases hf;exact⟨c',oc,vs,_,t,rfl,Wj,hd,hv⟩
   ·rw[L2.aN hb]at e
    by_cases OQ:b=c'
    ·subst OQ;rw[L2.bO]at e;cases e
     exact⟨mB _ RB,λfd hf=>by rw[hd]at hf;cases hf⟩
    ·rw[L2.aN OQ]at e
     by_cases hb3:b=P
     ·subst hb3;rw[hP]at e;cases e
      obtain⟨t1,t2⟩:=IJ (l:=rawInt l.pos.line) (c:=rawInt l.pos.col) (v:=.ref c') ⟨_,_,rfl⟩ ⟨_,_,rfl⟩ ps.toList Vf;refine⟨_,VG,by simpa using t1,λpos cv Rb=>?_⟩
      rcases t2 pos cv (by simpa using Rb)with z|rfl
      ·obtain⟨c3,o3,v3,q3,t3,z1,z2,z3⟩:=good pos cv z
       exact⟨c3,o3,v3,q3,t3,z1,sm _ _ z2,z3⟩
      ·exact⟨c',oc,vs,_,t,rfl,Wj,hd,hv⟩
     ·refine(I.aQ b u e).iA (λd v T6 q=>old d v ?_ q) (λ_ q=>sm _ _ q) (λ_ _ q=>sm _ _ q) λ_ _ q=>sm _ _ q
      rcases T6 with rfl|T6
      ·exact hb3
      ·rintro rfl;rw[hP]at T6;cases T6
  exact⟨.ref h'.objs.size,_,I.un un aQ,rfl,h _ _ sm SQ ⟨_,_,_,_,_,by rw[Vm];exact L2.bO,OB,P6⟩⟩
noncomputable def qb:List Nat->En->R (List D)
 |[],_=>.ok []
 | i::r,ρ=>match ρ[i]? with
  |some (.sh d)=>(qb r ρ).bind λds=>.ok (d::ds)
  |_=>.bad
noncomputable abbrev qy(c:Str)(cs:List D):D:=.cE c [⟨#[]⟩,⟨#[]⟩,⟨#[]⟩,⟨#[]⟩,⟨#[]⟩] cs
noncomputable def oE(m:List D->R D)(c:Str)(is:List Nat)(f1 f2:Ex):Ex:=λρ=>(f1 ρ).bind λd1=>(f2 ρ).bind λd2=>(qb is ρ).bind λcs=>(m [d1,d2,qy c cs]).bind λd=>if fZ d=true then .ok d else .bad
variable{M:Md}{H:Hp}{F:acS}{σ:L2.St}{ρ:En}
theorem z8(r:bC M H F σ ρ):∀ {is:List Nat} {cs:List D},qb is ρ=.ok cs->∃xs,aj M H F cs xs/\xs.length=is.length/\∀(n i:Nat),is[n]? =some i->∃v,xs[n]? =some v/\σ[i]? =some (some v)
 |[],cs,e=>by cases e;exact⟨[],aj.nil,rfl,λn i h=>by simp at h⟩
 | i::is,cs,e=>by
  unfold qb at e;split at e
  ·rename_i d hd
   obtain⟨ds,e1,e⟩:=aC.mp e;cases e;obtain⟨xs,h1,h2,h3⟩:=z8 r e1;obtain⟨v,ev,rv⟩:=r.sh i d hd;refine⟨v::xs,aj.cons rv h1,by simp[h2],λn j hj=>?_⟩
   cases n with
   |zero=>simp at hj;subst hj;exact⟨v,rfl,ev⟩
   |succ n=>simp at hj;simpa using h3 n j hj
  ·cases e
theorem Hl{x c p:Str}{k j:Nat}{m:List D->R D}{l:fU}{is:List Nat}{e1 e2:Expr}{f1 f2:Ex}{pp pos:Pos}{fa cd P:Addr}{ob:Obj}{fd:FuncData}(df:Df X.prog X.w X.K X.mg X.base x k 3 m)(hr:L2.cz j X.A)(hk:k<=j)(hg:L2.Gl X x)
  (h1:JE X e1 f1) (h2:JE X e2 f2) (g1:PySem.W.nsIn X.K mainGlobals c=some (some (.ref fa))) (g2:X.K.lookup fa=some ob) (g3:ob.data=.func fd) (g4:jw fd.body=some l) (S:mT p l)
  (Qp:defaultsOf l.params X.env=([],[])) (Qd:X.env.code=.ref cd) (C:PySem.W.CodeHd X.base cd P) (T:L2.ff X.base P) (hB:X.base.BuiltinsAt X.mg P)
  (P4:∀y∈l.scope.names,y.2=.free->X.env.scope.names.lookup y.1=some .cell) (Se:∀y,X.fn y=true) (V0:is.length=(cN l.scope).length) (T2:∀(n i:Nat) y,is[n]? =some i->(cN l.scope)[n]? =some y->X.N[i]? =some y)
  (O8:gV x) (s1:starEach [e1,e2,.Lambda l.params l.body l.scope l.pos] X.env=(false,eval e1 X.env)::starEach [e2,.Lambda l.params l.body l.scope l.pos] X.env)
  (s2:starEach [e2,.Lambda l.params l.body l.scope l.pos] X.env=(false,eval e2 X.env)::starEach [.Lambda l.params l.body l.scope l.pos] X.env)
  (s3:starEach [.Lambda l.params l.body l.scope l.pos] X.env=(false,eval (.Lambda l.params l.body l.scope l.pos) X.env)::starEach [] X.env):
  JE X (.Call (.Name x pp) [e1,e2,.Lambda l.params l.body l.scope l.pos] [] pos) (oE m c is f1 f2):=by
 obtain⟨f,ZJ,ps,q1,q2,q3,q4⟩:=df.ex;intro pins s σ H Q I ⟨ρ,F,d,r,e,q⟩;obtain⟨d1,UK,e⟩:=aC.mp e;obtain⟨d2,Tg,e⟩:=aC.mp e;obtain⟨cs,YI,e⟩:=aC.mp e;obtain⟨d',em,e⟩:=aC.mp e;split at e
 rotate_left
 ·cases e
 cases e;rename_i nx;have hl:=DL (X:=X) Qp Qd C T hB λy hy hf=>.inl (P4 y hy hf);refine aae (L2.se I hg q4 ?_ O8)
 refine acb (h₀:=X.base) I.ok.mod.mJ q3 (L2.aW ((L2.gp h1 (L2.gp h2 (L2.gp hl L2.jj s3) s2) s1) pos pins s σ H
  (λvs H3=>∃v1 v2 fl,vs=[v1,v2,.ref fl]/\ar H H3/\Rep (aJ X) H3 F d1 v1/\Rep (aJ X) H3 F d2 v2/\yZ X l H3 fl/\¬F fl) I
  ⟨ρ,F,d1,r,UK,λv1 H1 Qw Y9=>⟨ρ,F,d2,r.same Qw,Tg,λv2 H2 c8 RC fl H3 UZ hn la=>⟨v1,v2,fl,rfl,(Qw.trans c8).trans UZ,Y9.mv (.same (c8.trans UZ)),RC.mv (.same UZ),la,λhF=>?_⟩⟩⟩)
  λus s1 ⟨vs,H3,I3,rr,v1,v2,fl,Yp,sm,r1,r2,la,nF⟩=>⟨I3.da,?_⟩) s1 (by rw[s2,s3];rfl)
 ·obtain⟨o,ho⟩:=r.bw fl hF
  rw[c8 _ _ (Qw _ _ ho)]at hn;cases hn
 subst Yp;obtain⟨qual,NP,pm,cc,Pp,Wm,OB,P6⟩:=la;have r3:=r.same sm;obtain⟨xs,XC,YF,Ya⟩:=z8 r3 YI
 let C:Zx:=(cN l.scope).filterMap λx=>NP.lookup x
 have Uj:∀b∈C,∃y∈cN l.scope,NP.lookup y=some b/\X.env.cells.lookup y=some b:=λb hb=>by
  obtain⟨y,hy,ey⟩:=Zt.mp hb;exact⟨y,hy,ey,(OB y b ey).2⟩
 have hn:∀b∈C,H3 b=none:=λb hb=>by
  obtain⟨y,_,_,ey⟩:=Uj b hb;exact I3.gH y b ey
 have ne:∀ {b u},H3 b=some u->b∉C:=λ{b u} z hb=>by rw[hn b hb]at z;cases z
 let H0:Hp:=λb=>(s1.heap.get? b).map λo=>.bM (some o)
 have Tr:∀b∈C,∃o v,H0 b=some (.bM (some o))/\o.data=.cell v/\s1.heap.get? b=some o:=λb hb=>by
  obtain⟨y,_,_,ey⟩:=Uj b hb;obtain⟨v,o,ho,hd⟩:=I3.cell y b ey;exact⟨o,v,by show(s1.heap.get? b).map _=_;rw[ho];rfl,hd,ho⟩
 have VZ:∀b∈C,X.cY.heap.objs.size<=b:=λb hb=>by
  obtain⟨y,_,_,ey⟩:=Uj b hb;exact I3.ok.mF y b (Se y) ey
 have RM:ar H3 (rel C H0 H3):=wq hn;have e0:=I3.xW;have g0:L2.jA X.prog X.w X.K X.mg X.base X.A X.stack s1 (rel C H0 H3):=⟨e0.frames,e0.mod,λb o e=>⟨(e0.bs b o e).1,?_⟩,e0.gN,e0.fS,λb hb=>?_,AN e0.aQ hn Tr,e0.bare,λb e=>RM _ _ (e0.tb b e)⟩
 rotate_left
 ·rw[fJ λz=>?_]
  ·exact(e0.bs b o e).2
  ·exact absurd (KF (GM e) (Re I3.ok.gN (VZ b z))) (ZN _)
 ·rw[fJ λz=>?_]
  ·exact e0.iF b hb
  ·rcases Da.mp (I3.pk b hb)with w|w
   ·obtain⟨y,_,_,ey⟩:=Uj b z
    exact I3.ir y b ey w
   ·obtain⟨_,o,ho,_⟩:=I3.ok.fS.mem w
    exact absurd (KF (GM ho) (VZ b z)) (ZN _)
 have dN:jl (aJ X) (rel C H0 H3) F fl c xs:=by
  refine⟨fa,ob,fd,l,qual,NP,pm,Pp,cc,g1,g2,g3,g4,RM _ _ Wm,by rw[YF,V0],P6,λy z b hy hz=>I3.ok.inj y z b (OB y b hy).2 (OB z b hz).2,λy b ey=>?_⟩
  obtain⟨hy,ec⟩:=OB y b ey;have hb:b∈C:=Zt.mpr ⟨y,hy,ey⟩;obtain⟨n,Qn⟩:=List.getElem?_of_mem hy;have OF:n<is.length:=by rw[V0];exact(xM.mp Qn).1
  obtain⟨v,O4,PM⟩:=Ya n _ (Fk OF);have hN:=T2 n _ y (Fk OF) Qn
  have hk:X.env.scope.names.lookup y=some .cell:=by
   obtain⟨⟨y',kd⟩,hm,rfl⟩:=S4.mp hy;obtain⟨X4,Zb⟩:=aan.mp hm;exact P4 _ X4 (by cases kd<;>first|rfl|cases Zb)
  obtain⟨mm,PF,VD⟩:=I3.loc;obtain⟨u,ru,look⟩:=VD _ y v hN PM (.inr (.inl hk));rcases look with⟨z,_⟩|⟨_,b',eb,o,ho,hd⟩
  ·have z:X.env.scope.names.lookup y=some .local:=z
   rw[hk]at z;cases z
  ·rw[ec]at eb;cases eb
   refine⟨n,o,u,v,Qn,λhF=>?_,?_,hd,O4,ru⟩
   ·obtain⟨o',Pz⟩:=r3.bw b hF
    exact ne Pz hb
   ·rw[lT hb];show(s1.heap.get? b).map _=_;rw[ho];rfl
 have U7:Rep (aJ X) (rel C H0 H3) F (qy c cs) (.ref fl):=by
  simp only[Rep];exact⟨fl,(),rfl,.inr ⟨nF,.inr (.inr (.inr ⟨rfl,xs,dN,XC.mv (.same RM)⟩))⟩⟩
 have sp:hV (aJ X) m 3 [v1,v2,.ref fl] (rel C H0 H3) (λv H'=>ar (rel C H0 H3) H'/\Rep (aJ X) H' F d v) L2.E0:=
  ⟨F,[d1,d2,qy c cs],d,(r3.same RM).bw,aj.cons (r1.mv (.same RM)) (aj.cons (r2.mv (.same RM)) (aj.cons U7 aj.nil)),rfl,em,λv H' QT rd=>⟨QT,rd⟩⟩
 have hlen:us.length=ps.length:=by rw[<-rr.length];exact q1.len _ _ _ _ sp
 refine wpAny_call (aaP (q1.run X.A X.stack s1 (rel C H0 H3) ⟨us,[]⟩ us [v1,v2,.ref fl] _ L2.E0 (hr.mono hk) g0 ?_ rr sp) λrr s' hq=>?_)
 ·have:=q2 s1 us I3.da (by simpa using hlen)
  simpa using this
 cases rr with
 |error e=>exact False.elim hq
 | ok fl=>
  cases fl with
  | ret u=>
   obtain⟨v,H',os,bare,un,P7,rv,QT,rd⟩:=hq
   have V2:jg C H':=λb hb=>by
    obtain⟨o,v,z1,z2,_⟩:=Tr b hb;exact⟨o,v,QT _ _ (by rw[lT hb];exact z1),z2⟩
   refine I3.after ⟨v,cQ C H',os,bare,FR un hn (λb hb=>let⟨o,v,z1,_,z3⟩:=Tr b hb;⟨o,z1,z3⟩) P7,yw P7 V2,rv,q _ _ (λb o e=>?_) (Rep.cQ V2 nx rd)⟩
   have z:=sm _ _ e;rw[dZ (ne z)];exact QT _ _ (RM _ _ z)
  |next=>exact False.elim hq
  |brk=>exact False.elim hq
  |cont=>exact False.elim hq
end
theorem Dq{P:Program}{w:World}{K:PySem.W.Frag}{mg:Str->acR}{base:Heap}{x qual:Str}{st:Stmt}{f:Addr}{fd:FuncData}{N ps:List Str}{k n:Nat}{body:Sm}(Fu:L2.gY K x qual st f fd)(S:L2.bD N ps (L2.aX st))
  (h:∀(M':Value) (A:Around) (outer:List Env) (s:Shared) (H:Hp) (E:XK),fd.code=M'->L2.cz k (A.deeper (PyProof.Rows.envOfC qual (L2.aX st) s.heap.objs.size f M'))->ig (L2.gh L2.dP P w K mg base N qual (L2.aX st) f M' A outer s H E).gw (L2.dE st) body)
  (hn:ps.length=n:=by rfl):L2.fE P w K mg base L2.dP (k+1) f fd ps (hV ⟨K,P,w⟩ (fn N.length body) n):=by
 obtain⟨oc,od,kV,doc,pm,an,M',ct,Pk,rfl,lk,Oh⟩:=Fu.ex;refine L2.AZ lk Oh S (λvs H Q E h=>?_) (λA outer s H vs Q E hr PH=>?_)
 ·obtain⟨F,ds,d,_,rs,hl,_⟩:=h
  rw[<-rs.length,hl,hn]
 ·refine⟨λD σ H'=>∃F0:Gf,fM ⟨K,P,w⟩ F0.g F0 body D σ H',L2.cH.gw λpins s' σ H' D I=>by rintro⟨F0,q⟩;exact h M' A outer s H E rfl hr F0 pins s' σ H' D I q,?_⟩
  refine zt (G:=H) (t:=λD σ H'=>∃F0:Gf,fM ⟨K,P,w⟩ F0.g F0 body D σ H') (λF0 D σ H' h=>⟨F0,h⟩) PH ?_;have:=congrArg List.length S.pre;rw[ZF]at this;omega
theorem Jv{P:Program}{w:World}{K:PySem.W.Frag}{mg:Str->acR}{base:Heap}{x qual:Str}{st:Stmt}{f:Addr}{fd:FuncData}{N ps:List Str}{k n:Nat}{body:Sm}(Fu:L2.gY K x qual st f fd)(hm:mg x=some (.ref f))(S:L2.bD N ps (L2.aX st))(hb:L2.Binds K fd ps [])
  (h:∀(M':Value) (A:Around) (outer:List Env) (s:Shared) (H:Hp) (E:XK),fd.code=M'->L2.cz k (A.deeper (PyProof.Rows.envOfC qual (L2.aX st) s.heap.objs.size f M'))->ig (L2.gh L2.dP P w K mg base N qual (L2.aX st) f M' A outer s H E).gw (L2.dE st) body)
  (hn:ps.length=n:=by rfl):Df P w K mg base x (k+1) n (fn N.length body):=⟨f,fd,ps,Dq Fu S h hn,hb,Fu.kp,hm⟩
abbrev GV(mg:Str->acR)(h:Heap):Prop:=∃bm ob,mg "__builtins__"=some (.ref bm)/\bm≠builtinsNs/\h.get? bm=some ob/\ob.cls=.type "module"/\ob.dict=some builtinsNs/\ob.data=.plain
theorem Nb{P:Program}{w:World}{K:PySem.W.Frag}{mg mb:Str->acR}{k:Nat}{fa a:Addr}{fd:FuncData}{x:Str}{sp:L2.Sp}{B':Shared}{vs:acQ}{ns:Xj}{ts:List (Addr×Addr)}
  (KX:K.In B'.heap) (PF:B'.heap.Ns mainGlobals mg) (hb:B'.heap.Ns builtinsNs mb) (Vr:∀x:Str,x≠"__name__"->mb x=bootBuiltins x) (Sb:B'.heap.NoLimit) (hg:B'.gens= #[]) (WV:GV mg B'.heap)
  (hT:∀q∈ts,B'.heap.get? q.2=some (PySem.W.tabObj #[])) (hc:∀q∈ts,PySem.W.codeHdIn K q.1 q.2=true) (U4:∀q∈ts,K.lookup q.2=none)
  (ha:B'.heap.get? a=some {cls:=.type "list",data:=.seq vs.toArray}) (hi:IntsAre vs ns) (hl:ns.length<=sizeLine) (hr:L2.cz k callerA)
  (F:∀base:Heap,K.In base->base.Ns mainGlobals mg->(∀q∈ts,L2.ff base q.2/\base.BuiltinsAt mg q.2)->L2.fE P w K mg base L2.dP k fa fd [x] sp) (QH:∀(s:Shared) (u:Value),BindsTo s fd ⟨[u],[]⟩ [(x,u)])
  (PH:∀H:Hp,bP K H a (ns.map V.int)->sp [.ref a] H (λv _=>v=.bl true) λ_ _ _=>False):
  codeAny (model P w) callerA (.call (.ref fa) ⟨[.ref a],[]⟩) (λr s'=>r=.ok (.ret (.bool true))/\OldK B'.heap s'.heap/\s'.os=B'.os/\AllBare s'.gens) B':=by
 have rv:=L2.uA hi;have Sj:=hi.length
 have Sn:∀b,b∈ts.map (·.2)->B'.heap.get? b=some (PySem.W.tabObj #[])/\K.lookup b=none/\∃c,PySem.W.CodeHd B'.heap c b:=λb hb=>by
  obtain⟨q,hq,rfl⟩:=S4.mp hb;exact⟨hT q hq,U4 q hq,q.1,abZ KX (hc q hq)⟩
 have core:∀H:Hp,(∀b u,H b=some u->(b=a/\∃o xs,u=.frz o (.lst xs))\/(b∈ts.map (·.2)/\u=.bM none))->(∀b∈ts.map (·.2),H b=some (.bM none))->bP K H a (ns.map V.int)->cg P w H B'.heap->(H a≠none->K.lookup a=none)->
   codeAny (model P w) callerA (.call (.ref fa) ⟨[.ref a],[]⟩) (λr s'=>r=.ok (.ret (.bool true))/\OldK B'.heap s'.heap/\s'.os=B'.os/\AllBare s'.gens) B':=by
  intro H hO Wk hS aQ hK;have OG:∀ {b:Addr} {o:Obj},B'.heap.get? b=some o->H b=none->(L2.eJ B'.heap H).get? b=some o:=λe n=>L2.Ap e n
  have out:∀ {b:Addr} {o:Obj},B'.heap.get? b=some o->o.cls≠.type "list"->o.cls≠.none->H b=none:=λ{b o} e d1 d2=>by
   cases q:H b with
   |none=>rfl
   | some u=>
    rcases hO b u q with⟨rfl,_⟩|⟨hb,_⟩
    ·rw[ha]at e;cases e;exact absurd rfl d1
    ·rw[(Sn b hb).1]at e;cases e;exact absurd rfl d2
  have outD:∀ {b:Addr} {o:Obj} {es:Array DictEntry} {ep:Nat},B'.heap.get? b=some o->o.data=.dict es ep->H b=none:=λ{b o es ep} e d=>by
   cases q:H b with
   |none=>rfl
   | some u=>
    rcases hO b u q with⟨rfl,_⟩|⟨hb,_⟩
    ·rw[ha]at e;cases e;cases d
    ·rw[(Sn b hb).1]at e;cases e;cases d
  have Rh:∀ {b:Addr} {m:Str->acR},B'.heap.Ns b m->(L2.eJ B'.heap H).Ns b m:=λ{b m} ⟨o,es,ep,e,d,r⟩=>⟨o,es,ep,OG e (outD e d),d,r⟩
  have SE:K.In (L2.eJ B'.heap H):=λb o e=>OG (KX b o e) (by
   cases q:H b with
   |none=>rfl
   | some u=>
    rcases hO b u q with⟨rfl,_⟩|⟨hb,_⟩
    ·rw[hK (by rw[q];simp)]at e;cases e
    ·rw[(Sn b hb).2.1]at e;cases e)
  have hM:L2.Mod K mg (L2.eJ B'.heap H):=⟨SE,Rh PF,⟨mb,Rh hb,Vr⟩,let⟨mc,h1,h2⟩:=Sb;⟨mc,Rh h1,h2⟩⟩
  have e0:L2.jA P w K mg (L2.eJ B'.heap H) callerA [] B' H:=⟨rfl,hM,λb o e=>L2.zN e,Z5 (L2.yN _ _),trivial,λb hb=>absurd (show b∈([]:Zx)from hb) (by simp),aQ,.of_eq hg,λb e=>L2.yE e⟩
  have WX:∀q∈ts,L2.ff (L2.eJ B'.heap H) q.2/\(L2.eJ B'.heap H).BuiltinsAt mg q.2:=λq hq=>by
   have Za:q.2∈ts.map (·.2):=List.mem_map_of_mem hq
   refine⟨L2.J1 (GM (hT q hq)) (Wk q.2 Za),?_⟩;obtain⟨bm,ob,b1,b2,b3,b4,b5,b6⟩:=WV;refine⟨bm,ob,b1,b2,λz=>?_,λz=>?_,OG b3 (out b3 (by rw[b4];decide) (by rw[b4];nofun)),b4,b5,b6⟩
   ·obtain⟨o,es,ep,e,d,_⟩:=PF
    rw[z,e]at b3;cases b3;rw[d]at b6;cases b6
   ·rw[z,hT q hq]at b3;cases b3;cases b4
  refine aaP ((F _ SE (Rh PF) WX).run callerA [] B' H ⟨[.ref a],[]⟩ [.ref a] [.ref a] _ _ hr e0 (QH B' (.ref a)) (.cons rfl .nil) (PH H hS)) λr s' h=>?_;cases r with
  |error e=>exact False.elim h
  | ok fl=>
   cases fl with
   |next=>exact False.elim h
   |brk=>exact False.elim h
   |cont=>exact False.elim h
   | ret u=>
    obtain⟨v,H',os,bare,un,P7,r',q⟩:=h;have q':v=.bl true:=q;subst q';obtain rfl:u=Value.bool true:=r';have nf:∀b:Addr,b∉L2.eZ []:=λb z=>absurd (show b∈([]:Zx)from z) (by simp)
    have kept:∀b o,b∉ts.map (·.2)->B'.heap.get? b=some o->s'.heap.get? b=some o:=λb o hb e=>by
     cases q:H b with
     |none=>exact un.keep b o e q (nf b) (by simp)
     | some u=>
      rcases hO b u q with⟨_,ob,xs,rfl⟩|⟨z,_⟩
      ·have z1:L2.cL P w H B'.heap b (.frz ob (.lst xs)):=aQ b _ q
       have z2:L2.cL P w H' s'.heap b (.frz ob (.lst xs)):=P7 b _ (un.gj b ob _ q);rw[z1.1]at e;cases e;exact z2.1
      ·exact absurd z hb
    have grown:∀b∈ts.map (·.2),∃ps,s'.heap.get? b=some (PySem.W.tabObj ps):=λb hb=>by
     have z:L2.cL P w H' s'.heap b (.bM none):=P7 b _ (un.fY b _ (Wk b hb));obtain⟨ps,e,_⟩:=z;exact⟨ps,e⟩
    refine⟨rfl,⟨λb o e=>?_,λb o e=>?_⟩,os,bare⟩
    ·by_cases hb:b∈ts.map (·.2)
     ·obtain⟨VP,_,c,C⟩:=Sn b hb
      obtain⟨ps,hP⟩:=grown b hb;rw[VP]at e;cases e;exact .inr (.inl ⟨(C.tab VP).isCodeTable,rfl, #[],ps,rfl,by rw[Array.empty_append];exact hP⟩)
     ·exact .inl (kept b o hb e)
    ·by_cases hb:b∈ts.map (·.2)
     ·obtain⟨ps,hP⟩:=grown b hb
      exact⟨_,hP⟩
     ·exact⟨o,kept b o hb e⟩
 have nT:a∉ts.map (·.2):=λz=>by
  rw[(Sn a z).1]at ha;cases ha
 have WE:∀b∈ts.map (·.2),∀H:Hp,L2.cL P w H B'.heap b (.bM none):=λb hb H=>⟨#[],(Sn b hb).1,trivial,λpos cv h=>by cases h⟩
 cases hk:K.lookup a with
 | some o=>
  have e:=KX a o hk;rw[ha]at e;cases e;refine core (λb=>if b∈ts.map (·.2)then some (.bM none)else none) (λb u z=>?_) (λb hb=>AC hb) (.inr ⟨_,vs.toArray,_,hk,rfl,rfl,rfl,by rw[IR,Sj];exact hl,by simpa using rv⟩) (λb u z=>?_) λz=>absurd (DF nT) z
  ·by_cases hb:b∈ts.map (·.2)
   ·have z':=(AC hb).symm.trans z;cases z';exact .inr ⟨hb,rfl⟩
   ·have z':=(DF hb).symm.trans z;cases z'
  ·by_cases hb:b∈ts.map (·.2)
   ·have z':=(AC hb).symm.trans z;cases z';exact WE b hb _
   ·have z':=(DF hb).symm.trans z;cases z'
 | none=>
  let S:HO:=.frz {cls:=.type "list",data:=.seq vs.toArray} (.lst (ns.map V.int))
  have hA:(if a∈ts.map (·.2)then some (.bM none)else if a=a then some S else none)=some S:=by rw[DF nT,AC rfl]
  refine core (λb=>if b∈ts.map (·.2)then some (.bM none)else if b=a then some S else none) (λb u z=>?_) (λb hb=>AC hb) (.inl (.inr ⟨{cls:=.type "list",data:=.seq vs.toArray},hA⟩)) (λb u z=>?_) λ_=>hk
  ·by_cases hb:b∈ts.map (·.2)
   ·have z':=(AC hb).symm.trans z;cases z';exact .inr ⟨hb,rfl⟩
   ·have z':=(DF hb).symm.trans z
    by_cases OQ:b=a
    ·have z2:=(AC OQ).symm.trans z';cases z2;exact .inl ⟨OQ,_,_,rfl⟩
    ·have z2:=(DF OQ).symm.trans z';cases z2
  ·by_cases hb:b∈ts.map (·.2)
   ·have z':=(AC hb).symm.trans z;cases z';exact WE b hb _
   ·have z':=(DF hb).symm.trans z
    by_cases OQ:b=a
    ·have z2:=(AC OQ).symm.trans z';cases z2
     subst OQ;exact⟨ha,by rw[GE];exact hl,vs,_,rv,ha⟩
    ·have z2:=(DF OQ).symm.trans z';cases z2
theorem LW{l:PySem.W.OpenLaw}{q:Program}{loose:List Str}{XP:(Str->acR)->Heap->Prop}{YP:World->Heap->Prop}{d:DefRec}{K:Params->PySem.W.Frag}{k:Nat}{x:Str}{m:List D->R D}{ts:List (Addr×Addr)}(hn:l.most=some 63)(TJ:d.params.defaults=[])(hr:L2.cz k PySem.callerA)
  (hY:∀(w:World) (h:Heap),YP w h->(K w.params).In h/\∀q∈ts,h.get? q.2=some (PySem.W.tabObj #[])) (hc:∀w:World,∀q∈ts,PySem.W.codeHdIn (K w.params) q.1 q.2=true) (U4:∀w:World,∀q∈ts,(K w.params).lookup q.2=none)
  (F:∀(w:World) (mg:Str->acR) (fa:Addr) (h:Heap),(K w.params).In h->h.Ns mainGlobals mg->mg d.name=some (.ref fa)->
   ∃fd:FuncData,(∀(s:Shared) (u:Value),BindsTo s fd ⟨[u],[]⟩ [(x,u)])/\∀base:Heap,(K w.params).In base->base.Ns mainGlobals mg->(∀q∈ts,L2.ff base q.2/\base.BuiltinsAt mg q.2)->L2.fE l.prog w (K w.params) mg base L2.dP k fa fd [x] (hV ⟨K w.params,l.prog,w⟩ m 1))
  (hT:∀ns:Xj,ns.length<=63->m [.lst (ns.map .int)]=.ok (.bl true)):
  PySem.W.WalkO q loose XP YP l.row.toRowW d [] (λf vs=>PySem.call f vs):=by
 refine tT.CJ hn TJ λw cY B' mg mb fa o pm cd doc a vs ns G Y ho hd Oh hmg QL hints hlen hg=>?_;obtain⟨KX,Y4⟩:=hY w _ Y;obtain⟨fd,hb,hF⟩:=F w mg fa _ KX G.T.g hmg;refine Nb KX G.T.g G.T.b G.T.builtins G.T.nolimit hg G.T.bmain Y4 (hc w) (U4 w) QL hints (Re hlen (by decide)) hr hF hb λH hS=>?_
 refine⟨λ_=>False,[.lst (ns.map .int)],.bl true,λp h=>h.elim,aj.cons ?_ aj.nil,rfl,hT ns hlen,λv H' _ rv=>gB rv⟩
 have SS:∀(ns:Xj) (M:Md) (H:Hp),aj M H (λ_=>False) (ns.map D.int) (ns.map V.int):=by
  intro ns M H
  induction ns with
  |nil=>exact aj.nil
  |cons n r ih=>exact aj.cons dM ih
 simp only[Rep];refine⟨a,ns.map V.int,rfl,?_,SS ns _ H⟩;rcases hS with h|h
 ·exact .inl ⟨λh=>h,h⟩
 ·exact .inr h
end PL
namespace PL
open PySem PySem.Spec PySem.W
end PL
namespace PL
open PySem PySem.Spec
open L2 (V Hp HO Cx PE PT PW PA PS cH PG dk VK TE TT TA TS TI TG Inv RelV Vals Rd bP bW upd ar Key XK Ends bA dJ cj R2 EP It Turn cX Un)
section
variable{X:Cx}{M:Md}{G H H':Hp}{F0:Gf}{F F':acS}{σ:L2.St}{ρ:En}{pos:Pos}{pins:List (Addr×Obj)}{s:Shared}
theorem Ih(h:JF X e f)(hl:∀ρ d,f ρ=.ok d->∃ds,d=.lst ds):JE X e f:=
 b9 h λσ H Q=>by
  rintro⟨ρ,F,d,hr,e,q⟩
  obtain⟨ds,rfl⟩:=hl _ _ e;exact⟨ρ,F,ds,hr,e,λp H' xs sm hp rs=>q _ _ (sm.trans (ar.dy hp _)) (sM (hr.same sm).bw hp rs)⟩
theorem Ja(ρ:En)(d:D)(h:eU it n fv tg cs el ρ=.ok d):∃ds,d=.lst ds:=by
 obtain⟨ds,_,h⟩:=aC.mp h;split at h
 ·obtain⟨ys,_,h⟩:=aC.mp h
  cases h;exact⟨_,rfl⟩
 ·cases h
noncomputable def A2(T7:Scope)(N0:List Str)(scope:Scope)(fv:List Str)(Ou:List Nat):Bool:=
 decide (scope.kind=.function)&&scope.names.all (λy=>(decide (y.2≠.cell)||decide (scope.names.lookup y.1=some .cell))&&(decide (y.2≠.local)||decide (scope.names.lookup y.1=some .local))&&(decide (y.2≠.free)||(decide (T7.names.lookup y.1=some .cell)&&decide (scope.names.lookup y.1=some .free))))
  &&decide (fv.length=Ou.length)&&(Ou.zip fv).all (λp=>decide (N0[p.1]? =some p.2)&&decide ((p.2,NameKind.free)∈scope.names))
theorem ky(T7:Scope)(N0:List Str)(h1:X.env.scope=T7)(h2:X.N=N0)(h:A2 T7 N0 scope fv Ou=true):nV X scope tn fv Ou:=by
 subst h1 h2;unfold A2 at h;rw[mO,mO,mO,JK,JK,aai,aai]at h;obtain⟨⟨⟨hk,hn⟩,hl⟩,hf⟩:=h
 have Qn:∀y∈scope.names,(y.2≠.cell\/scope.names.lookup y.1=some .cell)/\(y.2≠.local\/scope.names.lookup y.1=some .local)/\(y.2≠.free\/(X.env.scope.names.lookup y.1=some .cell/\scope.names.lookup y.1=some .free)):=λy hy=>by
  have:=hn y hy;simp only[mO,Z9,JK]at this;exact⟨this.1.1,this.1.2,this.2⟩
 refine⟨hk,λy hy hl=>(Qn y hy).1.resolve_left (λh=>h hl),λy hy hl=>(Qn y hy).2.1.resolve_left (λh=>h hl),λy hy hl=>((Qn y hy).2.2.resolve_left (λh=>h hl)).1,λy hy hl=>((Qn y hy).2.2.resolve_left (λh=>h hl)).2,λj i hj=>?_,hl⟩;obtain⟨Zl,_⟩:=xM.mp hj;have hx:fv[j]? =some (fv[j]'(by omega)):=Fk (by omega)
 have hm:(i,fv[j]'(by omega))∈Ou.zip fv:=by
  refine List.mem_iff_getElem?.mpr ⟨j,?_⟩;rw[abD];exact⟨hj,hx⟩
 have:=hf _ hm;simp only[mO,JK]at this;exact⟨_,hx,this.1,this.2⟩
theorem mi(f:flat d=true)(r:Rep M H F d v):L2.iz v=true:=by
 cases d<;>first|(simp only[Rep]at r;subst r;rfl)|(cases f)
theorem nv:∀ {ds:List D} {vs:List V},ds.all flat=true->aj M H F ds vs->vs.all L2.iz=true
 |[],_,_,r=>by simp only[aj]at r;subst r;rfl
 | d::ds,_,f,r=>by
  rw[Wp,mO]at f;simp only[aj]at r;obtain⟨x,t,rfl,r1,r2⟩:=r;rw[Wp,mi f.1 r1,nv f.2 r2];rfl
theorem CZ(fa:flat a=true)(fb:flat b=true)(ra:Rep M H F a x)(rb:Rep M H F b y):L2.hJ x y=cw a b:=by
 cases a<;>(try cases fa)<;>cases b<;>(try cases fb)<;>simp only[Rep]at ra rb<;>subst ra<;>subst rb<;>first|rfl|(simp only[L2.hJ,cw];exact str_beq _ _)
theorem uq:∀ {ds:List D} {vs:List V} {b:D} {y:V},ds.all flat=true->flat b=true->aj M H F ds vs->Rep M H F b y->L2.qH y vs=ds.any λd=>cw d b
 |[],_,_,_,_,_,r,_=>by simp only[aj]at r;subst r;rfl
 | d::ds,_,b,y,f,fb,r,rb=>by
  rw[Wp,mO]at f;simp only[aj]at r;obtain⟨x,t,rfl,r1,r2⟩:=r;show(L2.hJ x y||L2.qH y t)=(cw d b||ds.any λd=>cw d b);rw[CZ f.1 fb r1 rb,uq f.2 fb r2 rb]
theorem Ba:∀(k:Ky),ks.length=xs.length->aj M H F ds xs->(cx k ks ds=none->L2.eI (ks.zip xs) k=none)/\∀d,cx k ks ds=some d->∃v,L2.eI (ks.zip xs) k=some v/\Rep M H F d v:=by
 induction ks generalizing xs ds with
 | nil=>
  intro k hl r;cases xs with
  |nil=>exact⟨λ_=>rfl,λd h=>by simp[cx]at h⟩
  |cons _ _=>simp at hl
 | cons a ks ih=>
  intro k hl r;cases xs with
  |nil=>simp at hl
  | cons x xs=>
   cases ds with
   |nil=>simp only[aj]at r;cases r
   | cons d0 ds=>
    simp only[aj]at r;obtain⟨x',t,e,r1,r2⟩:=r;cases e;have ih:=ih (xs:=xs) (ds:=ds) k (by simpa using hl) r2
    have hz:(a::ks).zip (x::xs)=(a,x)::ks.zip xs:=rfl;rw[hz];by_cases hk:a=k
    ·subst hk
     have h1:L2.eI ((a,x)::ks.zip xs) a=some x:=by simp[L2.eI]
     refine⟨λh=>by simp[cx]at h,λd h=>⟨x,h1,?_⟩⟩
     simp[cx]at h;subst h;exact r1
    ·have h1:L2.eI ((a,x)::ks.zip xs) k=L2.eI (ks.zip xs) k:=by simp[L2.eI,hk]
     rw[h1];refine⟨λh=>ih.1 (by simpa[cx,hk] using h),λd h=>ih.2 d (by simpa[cx,hk] using h)⟩
theorem f7(h:keyOf d=some k)(r:Rep M H F d v):v=L2.kV k:=by
 cases d with
 |int i=>cases h;exact b8 r
 |str x=>cases h;exact fB r
 |_=>cases h
theorem sX(I:Inv X pins σ H s)(h:gr (aJ X) H F a (ks.zip xs))(hl:ks.length=xs.length)(rs:aj (aJ X) H F ds xs)(k:Ky):
  ∃vs,s.heap.DictOf (L2.cK X.prog X.w) a vs/\(a==sysModules)=false/\(cx k ks ds=none->valueAt vs k=none)/\∀d,cx k ks ds=some d->∃v u,valueAt vs k=some u/\RelV v u/\Rep (aJ X) H F d v:=by
 obtain⟨z,hd,vs,rel,dd⟩:=jx I h;obtain⟨f1,f2⟩:=Ba (M:=aJ X) (H:=H) (F:=F) k hl rs;refine⟨vs,dd,hd,λhn=>?_,λd WS=>?_⟩
 ·exact L2.gA.none_of (by rw[<-f1 hn];exact L2.KV.val rel k)
 ·obtain⟨v,hv,rv⟩:=f2 d WS
  obtain⟨u,hu,ru⟩:=L2.gA.some_of (v:=v) (o:=valueAt vs k) (by rw[<-hv];exact L2.KV.val rel k)
  exact⟨v,u,hu,ru,rv⟩
def y6(M:Md):R2:=λx y H Q=>L2.sC M.K x y H Q\/∃F a b d,Rep M H F a x/\Rep M H F b y/\oy a b=.ok d/\∀v,Rep M H F d v->Q v H
theorem FJ:L2.gz X (y6 (aJ X)):=by
 refine L2.gz.or L2.Bh ?_;intro value slice pins s σ H x y v u Q I rx ry h hs;obtain⟨F,a,b,d,ra,rb,e,q⟩:=h;unfold oy at e;split at e
 ·rename_i ks vs
  split at e
  ·rename_i k hk
   split at e
   ·rename_i d' hf
    cases e;simp only[Rep]at ra;obtain⟨p,xs,rfl,h1,hl,rs⟩:=ra;cases rx;cases f7 hk rb;obtain⟨ws,dd,hd,f1,f2⟩:=sX I h1 hl rs k;obtain⟨w,w',hw,O0,rd⟩:=f2 _ hf;exact abR dd.typeIs abE.lookup (wpAny_getItem_of (L2.iX ry) dd.mapOf hw ⟨w,H,I.tok _,O0,q w rd⟩) hs
   ·cases e
  ·cases e
 ·cases e
theorem K6:dn M ag (y6 M):=by
 intro F H x y a b d Q tr ra rb e q;cases a with
 |lst xs=>exact .inl (tL F H x y _ b d Q tr ra rb e q)
 |tup xs=>exact .inl (tL F H x y _ b d Q tr ra rb e q)
 |str z=>exact .inl (tL F H x y _ b d Q tr ra rb e q)
 |aA ks vs=>exact .inr ⟨F,_,b,d,ra,rb,e,λv rv=>q v H (ar.refl H) rv⟩
 |_=>cases e
theorem aB(ha:XE X a fa)(hb:XE X b fb)(hs:L2.o8 b:=by exact vH (by rfl)):XE X (.Subscript a b pos) (e2 ag fa fb):=⟨have ha:=ha.out;have hb:=hb.out;b9 (L2.tR FJ ha hb hs) λσ H Q h=>sL K6 h⟩
def rK(M:Md)(neg:Bool):R2:=λx y H Q=>∃F a b k,Rep M H F a x/\Rep M H F b y/\ck a b=.ok (.bl k)/\Q (.bl (if neg then !k else k)) H
theorem yQ(h:ck a b=.ok (.bl k)):(∃ys,(b=.lst ys\/b=.tup ys)/\flat a=true/\ys.all flat=true/\k=ys.any λy=>cw y a)\/∃ks vs q,b=.aA ks vs/\keyOf a=some q/\k=(cx q ks vs).isSome:=by
 cases b with
 | lst ys=>
  have h':(if flat a=true/\ys.all flat=true then(R.ok (D.bl (ys.any λy=>cw y a)):R D)else .bad)=.ok (.bl k):=by cases a<;>exact h
  split at h'
  ·rename_i c;cases h';exact .inl ⟨ys,.inl rfl,c.1,c.2,rfl⟩
  ·cases h'
 | tup ys=>
  have h':(if flat a=true/\ys.all flat=true then(R.ok (D.bl (ys.any λy=>cw y a)):R D)else .bad)=.ok (.bl k):=by cases a<;>exact h
  split at h'
  ·rename_i c;cases h';exact .inl ⟨ys,.inr rfl,c.1,c.2,rfl⟩
  ·cases h'
 | aA ks vs=>
  cases hq:keyOf a with
  |none=>cases a<;>simp[hq]at h
  | some q=>
   refine .inr ⟨ks,vs,q,rfl,rfl,?_⟩;cases a<;>simp[hq]at h<;>exact h.symm
 |str y=>cases a<;>simp at h
 |_=>cases a<;>simp at h
theorem ic(hu:X.A.units+64<cLine):bA X (compareOp .In) (rK (aJ X) false):=by
 intro pins s σ H x y v u Q I rx ry h;obtain⟨F,a,b,k,ra,rb,e,q⟩:=h;rcases yQ e with⟨ys,hb,fa,fs,rfl⟩|⟨ks,vs,q',rfl,hq,rfl⟩
 ·have:∃p xs,y=.ref p/\(bP X.K H p xs\/bW X.K H p xs)/\aj (aJ X) H F ys xs:=by
   rcases hb with rfl|rfl
   ·simp only[Rep]at rb;obtain⟨p,xs,e,h1,h2⟩:=rb;exact⟨p,xs,e,.inl h1.sq,h2⟩
   ·simp only[Rep]at rb;obtain⟨p,xs,e,h1,h2⟩:=rb;exact⟨p,xs,e,.inr h1.sq,h2⟩
  obtain⟨p,xs,rfl,hs,rs⟩:=this;refine L2.Hx pins s σ H x (.ref p) v u Q I rx ry ⟨p,xs,rfl,hs,mi fa ra,nv fs rs,?_⟩;rw[uq fs fa rs ra];exact q
 ·simp only[Rep]at rb
  obtain⟨p,xs,rfl,h1,hl,rs⟩:=rb;cases ry;cases f7 hq ra;obtain⟨ws,dd,hd,f1,f2⟩:=sX I h1 hl rs q';refine wpAny_in_of (L2.iX rx) hd dd.mapOf ?_;cases hf:cx q' ks vs with
  |none=>rw[f1 hf];rw[hf]at q;exact⟨.bl _,H,I.tok _,rfl,q⟩
  |some d=>obtain⟨_,w,hw,_⟩:=f2 d hf;rw[hw];rw[hf]at q;exact⟨.bl _,H,I.tok _,rfl,q⟩
theorem IT(hu:X.A.units+64<cLine):bA X (compareOp .NotIn) (rK (aJ X) true):=by
 intro pins s σ H x y v u Q I rx ry h;obtain⟨F,a,b,k,ra,rb,e,q⟩:=h;rcases yQ e with⟨ys,hb,fa,fs,rfl⟩|⟨ks,vs,q',rfl,hq,rfl⟩
 ·have:∃p xs,y=.ref p/\(bP X.K H p xs\/bW X.K H p xs)/\aj (aJ X) H F ys xs:=by
   rcases hb with rfl|rfl
   ·simp only[Rep]at rb;obtain⟨p,xs,e,h1,h2⟩:=rb;exact⟨p,xs,e,.inl h1.sq,h2⟩
   ·simp only[Rep]at rb;obtain⟨p,xs,e,h1,h2⟩:=rb;exact⟨p,xs,e,.inr h1.sq,h2⟩
  obtain⟨p,xs,rfl,hs,rs⟩:=this;refine L2.KC pins s σ H x (.ref p) v u Q I rx ry ⟨p,xs,rfl,hs,mi fa ra,nv fs rs,?_⟩;rw[uq fs fa rs ra];exact q
 ·simp only[Rep]at rb
  obtain⟨p,xs,rfl,h1,hl,rs⟩:=rb;cases ry;cases f7 hq ra;obtain⟨ws,dd,hd,f1,f2⟩:=sX I h1 hl rs q';refine wpAny_notIn_of (L2.iX rx) hd dd.mapOf ?_;cases hf:cx q' ks vs with
  |none=>rw[f1 hf];rw[hf]at q;exact⟨.bl _,H,I.tok _,rfl,q⟩
  |some d=>obtain⟨_,w,hw,_⟩:=f2 d hf;rw[hw];rw[hf]at q;exact⟨.bl _,H,I.tok _,rfl,q⟩
theorem wV(h:ck a b=.ok d):∃k,d=.bl k:=by
 cases b with
 | lst ys=>
  have h':(if flat a=true/\ys.all flat=true then(R.ok (D.bl (ys.any λy=>cw y a)):R D)else .bad)=.ok d:=by cases a<;>exact h
  split at h'<;>cases h';exact⟨_,rfl⟩
 | tup ys=>
  have h':(if flat a=true/\ys.all flat=true then(R.ok (D.bl (ys.any λy=>cw y a)):R D)else .bad)=.ok d:=by cases a<;>exact h
  split at h'<;>cases h';exact⟨_,rfl⟩
 | aA ks vs=>
  cases hq:keyOf a with
  |none=>cases a<;>simp[hq]at h
  |some q=>cases a<;>simp[hq]at h<;>exact⟨_,h.symm⟩
 |str y=>cases a<;>simp at h
 |_=>cases a<;>simp at h
theorem iB:jN ck:=λa b d h=>wV h
theorem ie:dn M ck (rK M false):=by
 intro F H x y a b d Q tr ra rb e q;obtain⟨k,rfl⟩:=wV e;exact⟨F,a,b,k,ra,rb,e,q _ _ (ar.refl _) fO⟩
theorem zU(h:nN a b=.ok d):∃k,ck a b=.ok (.bl k)/\d=.bl (!k):=by
 obtain⟨r,hr,h⟩:=aC.mp h;obtain⟨k,rfl⟩:=wV hr;cases h;exact⟨k,hr,rfl⟩
theorem D4:jN nN:=λa b d h=>let⟨k,_,e⟩:=zU h;⟨_,e⟩
theorem Mq:dn M nN (rK M true):=by
 intro F H x y a b d Q tr ra rb e q;obtain⟨k,hk,rfl⟩:=zU e;exact⟨F,a,b,k,ra,rb,hk,q _ _ (ar.refl _) fO⟩
theorem CT:∀ {ds:List D} {d:D},allB ds=.ok d->∃bs:List Bool,ds=bs.map D.bl/\d=.bl (bs.all id)
 |[],d,h=>by cases h;exact⟨[],rfl,rfl⟩
 | x::ds,d,h=>by
  cases x with
  | bl b=>
   obtain⟨z,hz,h⟩:=aC.mp h;obtain⟨bs,rfl,rfl⟩:=CT hz;cases h;exact⟨b::bs,rfl,rfl⟩
  |_=>cases h
theorem Cj:∀ {bs:List Bool} {xs:List V},aj M H F (bs.map D.bl) xs->xs=bs.map V.bl
 |[],_,r=>by simpa[aj] using r
 | b::bs,_,r=>by
  simp only[Pi,aj]at r;obtain⟨x,t,rfl,h1,h2⟩:=r;rw[Cj h2,gB h1];rfl
theorem Be:∀ {bs:List Bool} {us:acQ},Vals (bs.map V.bl) us->us=bs.map Value.bool
 |[],_,.nil=>rfl
 |b::bs,_,.cons r t=>by cases r;rw[Be t];rfl
theorem all_range(bs:List Bool):((List.range bs.length).drop 0).all (λi=>bs.getD i false)=bs.all id:=by
 rw[acJ]
 induction bs with
 |nil=>rfl
 | cons b bs ih=>
  rw[Z1,List.range_succ_eq_map,Wp,List.all_map,Wp, <-ih];rfl
theorem wN(hc:X.calm=true):cj X (.builtin "all") (λxs H Q=>∃(F:acS) (p:Addr) (bs:List Bool),xs=[.ref p]/\Rep (aJ X) H F (.lst (bs.map D.bl)) (.ref p)/\Q (.bl (bs.all id)) H):=by
 intro pins s σ H xs us Q I r h;obtain⟨F,p,bs,rfl,rp,q⟩:=h;obtain⟨u,rfl,ru⟩:=L2.vals1 r;cases ru;simp only[Rep]at rp;obtain⟨p',xs,e,hl,rs⟩:=rp;cases e;obtain⟨aq,rv,pl,hz⟩:=I.list hl.sq;cases Cj rs;cases Be rv;have hh:X.A.in1.in1.handled=none:=I.ok.hd hc;have OF:p<s.heap.objs.size:=by obtain⟨o,n,e,_⟩:=pl;exact GM e
 refine call_function_tree PySem.F.kind_all PySem.F.plain_all PySem.F.entry_all (PySem.F.args_all1 _) ?_;show wpAny _ _ (pyIter (.ref p) >>= _) _ _ s;refine cp (aba pl.isList (FM ⟨acf PySem.F.plain_all_loop _,?_⟩));have hsz:((bs.map Value.bool).toArray).size=bs.length:=by simp
 have W:=Walks.list (prog:=X.prog) (w:=X.w) (A:=X.A.in1) (I.ok.hd hc) s.heap.objs.size p (Pv OF) (bs.map Value.bool).toArray;rw[hsz]at W;refine codeAny_all_loop (A:=X.A) W (λi=>bs.getD i false) (λi v s' Q' E' hP hQ=>?_) (bs.length - 0) 0 _ rfl (Xm _) ⟨⟨_,JU _ rfl,rfl,rfl⟩,Heap.IsList.push pl.isList _⟩ (λh' tk hk=>?_)
 ·have hP:(bs.map Value.bool).toArray[i]? =some v:=hP
  have hQ:Q' (bs.getD i false) s':=hQ
  have:∃b,v=.bool b/\bs.getD i false=b:=by
   rw[abS,MC]at hP;cases e:bs[i]? with
   |none=>rw[e]at hP;cases hP
   |some b=>rw[e]at hP;cases hP;exact⟨b,rfl,by simp[e]⟩
  obtain⟨b,rfl,hb⟩:=this;rw[hb]at hQ;exact ZZ hQ
 ·show EP X pins σ Q _ _
  rw[all_range];have I1:Inv X pins σ H {s with heap:=s.heap.push {cls:=.type "list_iterator",data:=.fields #[.ref p,.int 0 0]} }:=I.kept (t':=s.toks) λb o e=>mB _ e;have fp:=I.mq (H':=H) (b:=s.heap.objs.size) (Gc _) (I.aQ.fresh (Gc _));obtain⟨f0,f1,f2,f3,f4,f5⟩:=fp;exact⟨.bl _,H,I1.turned (it:=s.heap.objs.size) (t':=tk) (λb o hb e=>hk b o (by simpa using hb) e) f0 f1 f3 f4 f5,rfl,q⟩
theorem uy:iT M (g1 jt) (λxs H Q=>∃(F:acS) (p:Addr) (bs:List Bool),xs=[.ref p]/\Rep M H F (.lst (bs.map D.bl)) (.ref p)/\Q (.bl (bs.all id)) H):=by
 intro F H xs as d Q tr rs e q;unfold g1 at e;split at e
 ·obtain⟨x,rfl,r⟩:=rs.one
  unfold jt at e;split at e
  ·obtain⟨bs,rfl,rfl⟩:=CT e
   have r':=r;simp only[Rep]at r;obtain⟨p,ys,rfl,_⟩:=r;exact⟨F,p,bs,rfl,r',q _ _ (ar.refl _) fO⟩
  ·cases e
 ·cases e
theorem jF(hb:attributeBase o m X.env (eval o X.env)=eval o X.env)(hn:kJ e=true)(hl:(apos.endLine==NW.line)=true):L2.M1 X o m apos e NW:=
 ⟨hb,xE (by simp[hn]) (show 1<30 by decide),hl,by rw[bG hn];rfl⟩
theorem wQ(ho:XE X o fo)(he:XE X e fe)(m:L2.M1 X o "get" apos e NW):XE X (.Call (.Attribute o "get" apos) [e] [] NW) (e2 (jZ .aE) fo fe):=⟨have ho:=ho.out;have he:=he.out;by
 intro pins s σ H Q I ⟨ρ,F,d,hr,e,q⟩;obtain⟨a,ea,e⟩:=aC.mp e;obtain⟨b,eb,e⟩:=aC.mp e;refine abb m.base m.sH m.line abJ abT PySem.F.type_dict_get (L2.aW (ho pins s σ H _ I ⟨ρ,F,a,hr,ea,λv H1 s1 rv=>(⟨s1,rv⟩:ar H H1/\Rep (aJ X) H1 F a v)⟩) λu s1 ⟨x,H1,I1,rx,Qw,ra⟩=>?_);cases a with
 | aA ks vs=>
  cases hk:keyOf b with
  |none=>simp only[jZ,hk]at e;cases e
  | some k=>
   simp only[jZ,hk]at e;cases e;have Zz:=ra;simp only[Rep]at ra;obtain⟨p,xs,rfl,h1,hl,rs⟩:=ra;cases rx;obtain⟨_,_,ws,_,o',es,ep,e1,e2,e3,_⟩:=jx I1 h1;refine⟨⟨o',e1,e2.1⟩,λc hc=>by cases hc;exact⟨o',e1,e2.2.1⟩,?_⟩
   rw[m.trees];refine aaf rfl (aal (aav (L2.aW (he pins s1 σ H1 _ I1 ⟨ρ,F,b,hr.same Qw,eb,λv H2 s2 rv=>(⟨s2,rv⟩:ar H1 H2/\Rep (aJ X) H2 F b v)⟩) λiv s2 ⟨y,H2,I2,ry,c8,rb⟩=>aaD ?_)));have h2:=h1.mv (M:=aJ X) (F':=F) (.same c8);have P5:=rs.mv (M:=aJ X) (F':=F) (.same c8);cases f7 hk rb;obtain⟨ws,dd,hd,f1,f2⟩:=sX I2 h2 hl P5 k;refine abA abT dd.typeIs PySem.F.entry_dict_get (PySem.F.args_dict_get_2 _ _) (meets_dict_get (L2.cK X.prog X.w) p (L2.iX ry) hd) ⟨_,dd.mapOf,?_⟩;cases hf:cx k ks vs with
   | none=>
    rw[f1 hf];rw[hf]at q;exact⟨.aE,H2,I2.tok _,rfl,q _ _ (Qw.trans c8) xU⟩
   | some d'=>
    obtain⟨v,w,hw,O0,rd⟩:=f2 d' hf;rw[hw];rw[hf]at q;exact⟨v,H2,I2.tok _,O0,q _ _ (Qw.trans c8) rd⟩
 |_=>cases e⟩
variable{prog:Program}{w:World}{A:Around}{E:Value->Shared->Prop}
theorem M9{it t:Addr}{i:Nat}{items:Array Value}{x:Value}{Q:Value->Shared->Prop}(hit:s.heap.IsTupleIter it t i)(ht:s.heap.IsTuple t items)(hx:items[i]? =some x)
  (hQ:∀h',h'.IsTupleIter it t (i+1)->Heap.SameBut it s.heap h'->Q x {s with heap:=h'}):wpAny (model prog w) A (Builtin.SmallTypes.nextOf (.ref it)) Q E s:=by
 obtain⟨oi,RK,V3,QV⟩:=id hit;obtain⟨ot,UW,_,nt,UM⟩:=ht;unfold Builtin.SmallTypes.nextOf;refine cp (Z7 (name:=Str.ofString "__next__") hit.typeIs ZW (aaH ZW hit.typeIs abk ?_ (abj _)));show wpAny _ _ (PySem.field (.ref it) 0 >>= _) _ _ s;refine cp (UF RK QV (x:=.ref t) rfl ?_);show wpAny _ _ (if(Value.ref t==Value.none)=true then _ else _) _ _ s;rw[DF (show ¬((Value.ref t==Value.none)=true)from ZL)]
 show wpAny _ _ (PySem.field (.ref it) 1 >>= _) _ _ s;refine cp (UF RK QV (x:=.int i 0) rfl ?_);show wpAny _ _ (seqItems? (.ref t) >>= _) _ _ s;refine cp (ZX UW UM ?_);simp only[acn,hx];exact cp (wpAny_setField RK QV (by simp) (FM ⟨x,rfl,FM (hQ _ ⟨_,acD _ RK (Obj.isFreed_of_fields (Obj.data_mapFields QV _)),(Obj.cls_mapFields ..).trans V3,by rw[Obj.data_mapFields QV];simp[rawInt]⟩ (Heap.SameBut.update ..))⟩))
theorem LF{it t:Addr}{i:Nat}{items:Array Value}{Q:Value->Shared->Prop}(hh:A.handled=none)(hit:s.heap.IsTupleIter it t i)(ht:s.heap.IsTuple t items)(hx:items[i]? =none)
  (hE:∀h' e,Heap.ExtBut it s.heap h'->(∃o,h'.get? e=some o/\o.cls=.type "StopIteration")->E (.ref e) {s with heap:=h'}):wpAny (model prog w) A (Builtin.SmallTypes.nextOf (.ref it)) Q E s:=by
 obtain⟨oi,RK,V3,QV⟩:=id hit;obtain⟨ot,UW,_,nt,UM⟩:=ht;unfold Builtin.SmallTypes.nextOf;refine cp (Z7 (name:=Str.ofString "__next__") hit.typeIs ZW (aaH ZW hit.typeIs abk ?_ (abj _)));show wpAny _ _ (PySem.field (.ref it) 0 >>= _) _ _ s;refine cp (UF RK QV (x:=.ref t) rfl ?_);show wpAny _ _ (if(Value.ref t==Value.none)=true then _ else _) _ _ s;rw[DF (show ¬((Value.ref t==Value.none)=true)from ZL)]
 show wpAny _ _ (PySem.field (.ref it) 1 >>= _) _ _ s;refine cp (UF RK QV (x:=.int i 0) rfl ?_);show wpAny _ _ (seqItems? (.ref t) >>= _) _ _ s;refine cp (ZX UW UM ?_);simp only[acn,hx];refine cp (abX (cp (wpAny_setField RK QV (by simp) ?_)))
 show wpAny _ _ (newExc (.type "StopIteration") [] >>= _) _ _ _;refine cp ?_;simp only[newExc,newTuple];refine cp (Z0 (cp (m:=firstArgMember _ _) (wpAny_of_eq (a:=Value.none) (by first|rfl|(simp only[firstArgMember];rfl)) (Z0 ?_ (by size_fits)))) (by size_fits))
 simp only[raiseNew];refine cp (wpAny_handled ?_)
 first|rw[show A.in1.handled=none from hh]|rw[hh]
 exact cp (FM (wpAny_throw (hE _ _ (((Heap.SameBut.update ..).extBut.push _).push _) ⟨_,JU _ rfl,rfl⟩)))
end
theorem Je{prog:Program}{w:World}{A:Around}(hh:A.handled=none)(it l:Addr)(G':l≠it)(items:Array Value):
  Draws prog w A it [it,l] items.size (λi v=>items[i]? =some v) (λi h=>h.IsTupleIter it l i/\h.IsTuple l items) where
 live _ _ st:=let⟨o,ho,_⟩:=st.1;⟨o,ho⟩
 frame _ _ _ st hk:=⟨let⟨o,ho,r⟩:=st.1;⟨o,hk it (by simp) o ho,r⟩,let⟨o,ho,r⟩:=st.2;⟨o,hk l (by simp) o ho,r⟩⟩
 item i s Q E hi st hQ:=M9 st.1 st.2 (x:=items[i]) (by simp[hi]) λh' RN RF=>hQ _ h' s.toks (by simp[hi]) ⟨RN,let⟨o,ho,r⟩:=st.2;⟨o,RF.extBut l o G' ho,r⟩⟩ RF
 done s Q E st hE:=LF hh st.1 st.2 (by simp) hE
structure qS(z TI TO i1 i2:Addr)(f1 f2:Zx):Prop where
 TIz:TI≠z
 TOz:TO≠z
 i1z:i1≠z
 i2z:i2≠z
 TITO:TI≠TO
 TIi1:TI≠i1
 TIi2:TI≠i2
 TOi1:TO≠i1
 TOi2:TO≠i2
 i12:i1≠i2
 rJ:z∉f1
 yV:TO∉f1
 FF:i2∉f1
 uY:z∉f2
 vt:TO∉f2
 yL:i1∉f2
section
variable{prog:Program}{w:World}{A:Around}{E:Value->Shared->Prop}{s:Shared}{z TI TO i1 i2:Addr}{f1 f2:Zx}{n1 n2 k:Nat}{P1 P2:Nat->Value->Prop}{S1 S2:Nat->Heap->Prop}{a b:Value}
theorem fr_but{prog:Program}{w:World}{A:Around}{it:Addr}{fp:Zx}{n:Nat}{P:Nat->Value->Prop}{St:Nat->Heap->Prop}(D:Draws prog w A it fp n P St){i:Nat}{c:Addr}{h h':Heap}(st:St i h)(hc:c∉fp)(hs:Heap.SameBut c h h'):St i h':=
 D.frame i h h' st λb hb o e=>hs.extBut b o (λq=>hc (by rw[<-q];exact hb)) e
theorem Gq(D1:Draws prog w A i1 f1 n1 P1 S1)(D2:Draws prog w A i2 f2 n2 P2 S2)(ap:qS z TI TO i1 i2 f1 f2)(hz:IsZip s.heap z TI TO .none)(Qt:IsPair s.heap TI (.ref i1) (.ref i2))(QF:IsPair s.heap TO a b)
  (bG:S1 k s.heap) (Qg:S2 k s.heap) (h1:k<n1) (h2:k<n2) {Q:Value->Shared->Prop}
  (hQ:∀x y h' tk,P1 k x->P2 k y->IsZip h' z TI TO (rawInt s.heap.objs.size)->IsPair h' TO x y->S1 (k+1) h'->S2 (k+1) h'->IsPair h' s.heap.objs.size x y->
   (∀c o,c≠z->c≠TO->c≠i1->c≠i2->s.heap.get? c=some o->h'.get? c=some o)->Q (.ref s.heap.objs.size) {s with heap:=h',toks:=tk}):
  wpAny (model prog w) A (Builtin.«zip.__next__» ⟨[.ref z],[]⟩) (λfin s'=>∃v,fin=.done (.ret v)/\Q v s') E s:=by
 show wpAny _ _ (PySem.field (.ref z) 2 >>= _) _ _ _;refine cp (UF hz rfl (x:=.bool false) rfl ?_);show wpAny _ _ (PySem.field (.ref z) 3 >>= _) _ _ _;refine cp (UF hz rfl (x:=.ref TI) rfl (cp (ZX Qt rfl ?_)));show wpAny _ _ (Builtin.SmallTypes.ownedTupleIsFree (.ref z) >>= _) _ _ _;refine cp ?_;unfold Builtin.SmallTypes.ownedTupleIsFree;refine cp (UF hz rfl (x:=.none) rfl (FM ?_));simp only[aat];refine cp (abX (cp (UF hz rfl (x:=.ref TO) rfl (cp (aag hz (by simp) λha Ry QB=>?_)))))
 replace Ry:IsZip ha z TI TO .ellipsis:=Ry
 refine cp ?_;simp only[acy,acE,aaa,acK];refine cp (cp (abv ?_));show wpAny _ _ (Builtin.SmallTypes.nextOf (.ref i1) >>= _) _ _ _;refine cp (D1.item k _ _ _ h1 (fr_but D1 bG ap.rJ QB) λx hb tb px WB Pf=>FM ?_);have QP:IsPair hb TO a b:=Pf.extBut _ _ ap.TOi1 (QB.extBut _ _ ap.TOz QF);refine cp (ZX QP rfl (cp (abp QP λhc Ra Qe=>?_)))
 replace Ra:IsPair hc TO x b:=Ra
 refine cp (acL (FM (cp (cp (abv ?_)))));show wpAny _ _ (Builtin.SmallTypes.nextOf (.ref i2) >>= _) _ _ _;refine cp (D2.item k _ _ _ h2 (fr_but D2 (fr_but D2 (fr_but D2 Qg ap.uY QB) ap.yL Pf) ap.vt Qe) λy hd td py Uv Ql=>FM ?_);have TV:IsPair hd TO x b:=Ql.extBut _ _ ap.TOi2 Ra;refine cp (ZX TV rfl (cp (abp TV λhe Rc R8=>?_)))
 replace Rc:IsPair he TO x y:=Rc
 refine cp (acL (FM (FM (cp (ZX Rc rfl (cp (wpAny_newTuple ?_)))))));have hsz:he.objs.size=s.heap.objs.size:=by rw[R8.1,Ql.1,Qe.1,Pf.1,QB.1]
 have VB:IsZip he z TI TO .ellipsis:=R8.extBut _ _ ap.TOz.symm (Ql.extBut _ _ ap.i2z.symm (Qe.extBut _ _ ap.TOz.symm (Pf.extBut _ _ ap.i1z.symm Ry)));have Y3:∀c o,c≠z->c≠TO->c≠i1->c≠i2->s.heap.get? c=some o->he.get? c=some o:=λc o c1 c2 c3 c4 e=>R8.extBut _ _ c2 (Ql.extBut _ _ c4 (Qe.extBut _ _ c2 (Pf.extBut _ _ c3 (QB.extBut _ _ c1 e))));have W2:S1 (k+1) he:=fr_but D1 (fr_but D1 (fr_but D1 WB ap.yV Qe) ap.FF Ql) ap.yV R8;have XR:S2 (k+1) he:=fr_but D2 Uv ap.vt R8;have Ro:z<he.objs.size:=GM VB;show wpAny _ _ (Builtin.SmallTypes.ownedTupleHandOut (.ref z) (.ref he.objs.size) >>= _) _ _ _;refine cp ?_;unfold Builtin.SmallTypes.ownedTupleHandOut;have YU:IsZip (he.push {cls:=.type "tuple",data:=.seq #[x,y]}) z TI TO .ellipsis:=mB _ VB;refine cp (aag YU (by simp) λhg VA VC=>?_)
 replace VA:IsZip hg z TI TO (rawInt he.objs.size):=VA
 refine aag VA (by simp) λhi T9 VF=>?_
 replace T9:IsZip hi z TI TO (rawInt he.objs.size):=T9
 have up:∀c o,c≠z->he.get? c=some o->hi.get? c=some o:=λc o c1 e=>VF.extBut _ _ c1 (VC.extBut _ _ c1 (mB _ e));have WC:IsPair hi he.objs.size x y:=VF.extBut _ _ (aas Ro) (VC.extBut _ _ (aas Ro) (JU _ rfl));rw[hsz]at T9 WC;refine FM ⟨_,rfl,?_⟩;show Q (.ref he.objs.size) _;rw[hsz]
 exact hQ x y hi td px py T9 (up _ _ ap.TOz Rc) (D1.frame _ _ _ W2 λc Pm o e=>up c o (λq=>ap.rJ (by rw[<-q];exact Pm)) e) (D2.frame _ _ _ XR λc Pm o e=>up c o (λq=>ap.uY (by rw[<-q];exact Pm)) e) WC
  λc o c1 c2 c3 c4 e=>up c o c1 (Y3 c o c1 c2 c3 c4 e)
theorem Mz(D1:Draws prog w A i1 f1 n1 P1 S1)(D2:Draws prog w A i2 f2 n2 P2 S2)(ap:qS z TI TO i1 i2 f1 f2)(hz:IsZip s.heap z TI TO .none)(Qt:IsPair s.heap TI (.ref i1) (.ref i2))(QF:IsPair s.heap TO a b)
  (bG:S1 k s.heap) (Qg:S2 k s.heap) (PQ:k=n1\/(k<n1/\k=n2))
  (hE:∀h' tk e,(∀c o,c≠z->c≠TO->c≠i1->c≠i2->s.heap.get? c=some o->h'.get? c=some o)->(∃o,h'.get? e=some o/\o.cls=.type "StopIteration")->E (.ref e) {s with heap:=h',toks:=tk}):
  wpAny (model prog w) A (Builtin.«zip.__next__» ⟨[.ref z],[]⟩) Q E s:=by
 show wpAny _ _ (PySem.field (.ref z) 2 >>= _) _ _ _;refine cp (UF hz rfl (x:=.bool false) rfl ?_);show wpAny _ _ (PySem.field (.ref z) 3 >>= _) _ _ _;refine cp (UF hz rfl (x:=.ref TI) rfl (cp (ZX Qt rfl ?_)));show wpAny _ _ (Builtin.SmallTypes.ownedTupleIsFree (.ref z) >>= _) _ _ _;refine cp ?_;unfold Builtin.SmallTypes.ownedTupleIsFree;refine cp (UF hz rfl (x:=.none) rfl (FM ?_));simp only[aat];refine cp (abX (cp (UF hz rfl (x:=.ref TO) rfl (cp (aag hz (by simp) λha Ry QB=>?_)))))
 replace Ry:IsZip ha z TI TO .ellipsis:=Ry
 refine cp ?_;simp only[acy,acE,aaa,acK];refine cp (cp (abv ?_));show wpAny _ _ (Builtin.SmallTypes.nextOf (.ref i1) >>= _) _ _ _;rcases PQ with rfl|⟨h1,rfl⟩
 ·refine cp (D1.done _ _ _ (fr_but D1 bG ap.rJ QB) λhb e Pf he=>?_)
  obtain⟨oe,RU,R5⟩:=he;have Wq:IsZip hb z TI TO .ellipsis:=Pf _ _ ap.i1z.symm Ry;have U5:e≠z:=λx=>by subst x;rw[Wq]at RU;cases RU;simp at R5
  exact aag Wq (by simp) λhc _ Qe=>hE hc _ e (λc o c1 _ c3 _ x=>Qe.extBut _ _ c1 (Pf _ _ c3 (QB.extBut _ _ c1 x))) ⟨oe,Qe.extBut _ _ U5 RU,R5⟩
 ·refine cp (D1.item k _ _ _ h1 (fr_but D1 bG ap.rJ QB) λx hb tb px WB Pf=>FM ?_)
  have QP:IsPair hb TO a b:=Pf.extBut _ _ ap.TOi1 (QB.extBut _ _ ap.TOz QF);refine cp (ZX QP rfl (cp (abp QP λhc Ra Qe=>?_)));refine cp (acL (FM (cp (cp (abv ?_)))));show wpAny _ _ (Builtin.SmallTypes.nextOf (.ref i2) >>= _) _ _ _;refine cp (D2.done _ _ _ (fr_but D2 (fr_but D2 (fr_but D2 Qg ap.uY QB) ap.yL Pf) ap.vt Qe) λhd e Ql he=>?_);obtain⟨oe,RU,R5⟩:=he;have VO:IsZip hd z TI TO .ellipsis:=Ql _ _ ap.i2z.symm (Qe.extBut _ _ ap.TOz.symm (Pf.extBut _ _ ap.i1z.symm Ry));have U5:e≠z:=λx=>by subst x;rw[VO]at RU;cases RU;simp at R5
  exact aag VO (by simp) λhf _ V'=>hE hf _ e (λc o c1 c2 c3 c4 x=>V'.extBut _ _ c1 (Ql _ _ c4 (Qe.extBut _ _ c2 (Pf.extBut _ _ c3 (QB.extBut _ _ c1 x))))) ⟨oe,V'.extBut _ _ U5 RU,R5⟩
end
inductive Sd where
 |l (a:Addr)|t (a:Addr)|s (z:Str)
def Sd.at(K:PySem.W.Frag)(H:Hp):Sd->List V->Prop
 |.l a,xs=>bP K H a xs
 |.t a,xs=>bW K H a xs
 |.s z,xs=>xs=z.cps.toList.map λc=>.str ⟨#[c]⟩
noncomputable def Sd.val:Sd->Tok->Value
 |.l a,_=>.ref a
 |.t a,_=>.ref a
 |.s z,tk=>.str z tk
noncomputable def Sd.obj:Sd->Tok->Obj
 |.l a,_=>{cls:=.type "list_iterator",data:=.fields #[.ref a,.int 0 0]}
 |.t a,_=>{cls:=.type "tuple_iterator",data:=.fields #[.ref a,.int 0 0]}
 |.s z,tk=>{cls:=.type (if z.cps.all (· <128)then "str_ascii_iterator" else "str_iterator"),data:=.fields #[.str z tk,.int 0 0]}
def Sd.jn(it:Addr)(i:Nat)(h:Heap)(tk:Tok):Sd->Prop
 |.l a=>h.IsListIter it a i
 |.t a=>h.IsTupleIter it a i
 |.s z=>h.IsStrIter it (if z.cps.all (· <128)then "str_ascii_iterator" else "str_iterator") z tk i
section
variable{X:Cx}{pins:List (Addr×Obj)}{σ:L2.St}{H:Hp}{s:Shared}{d:Sd}{xs:List V}
theorem Sd.inj(I:Inv X pins σ H s){ys:List V}(h:d.at X.K H xs)(h':d.at X.K H ys):xs=ys:=by
 cases d with
 |l a=>exact I.yJ h h'
 |t a=>exact I.z9 h h'
 |s z=>exact h.trans h'.symm
theorem Sd.draws(I:Inv X pins σ H s)(hh:A.handled=none)(h:d.at X.K H xs)(hn:H it=none)(hK:X.K.lookup it=none):
  ∃(fp:Zx) (P:Nat->Value->Prop) (St:Nat->Heap->Prop),Draws X.prog X.w A it fp xs.length P St/\(∀i x,P i x->∃v,xs[i]? =some v/\RelV v x)/\(∀i h',St i h'->d.jn it i h' tk)/\(∀i,d.jn it i s.heap tk->St i s.heap)/\
   (∀c∈fp,c=it\/(H c≠none\/∃o,X.K.lookup c=some o)):=by
 have nl:∀a:Addr,(H a≠none\/∃o,X.K.lookup a=some o)->a≠it:=λa h z=>by
  subst z;rcases h with h|⟨o,h⟩
  ·exact h hn
  ·rw[hK]at h;cases h
 cases d with
 | l a=>
  obtain⟨aq,rv,pl,hz⟩:=I.list h
  have tr:H a≠none\/∃o,X.K.lookup a=some o:=by
   rcases h with(h|⟨o,h⟩)|⟨o,_,_,h,_⟩
   ·exact .inl (by rw[h];simp)
   ·exact .inl (by rw[h];simp)
   ·exact .inr ⟨o,h⟩
  have D:=Draws.list (prog:=X.prog) (w:=X.w) (A:=A) hh it a (nl a tr) aq.toArray;rw[IR, <-rv.length]at D;refine⟨_,_,_,D,λi x hx=>?_,λi h' st=>st.1,λi st=>⟨st,pl.isList⟩,λc hc=>?_⟩
  ·have hx:aq[i]? =some x:=by simpa using hx
   have hi:i<xs.length:=by rw[rv.length];exact(xM.mp hx).1
   obtain⟨u,hu,ru⟩:=rv.get (Fk hi);rw[hx]at hu;cases hu;exact⟨_,Fk hi,ru⟩
  ·simp only[Da,On,XU]at hc
   rcases hc with rfl|rfl
   ·exact .inl rfl
   ·exact .inr tr
 | t a=>
  obtain⟨aq,rv,pl,hz⟩:=I.tuple h
  have tr:H a≠none\/∃o,X.K.lookup a=some o:=by
   rcases h with(h|⟨o,h⟩)|⟨o,_,_,h,_⟩
   ·exact .inl (by rw[h];simp)
   ·exact .inl (by rw[h];simp)
   ·exact .inr ⟨o,h⟩
  have D:=Je (prog:=X.prog) (w:=X.w) (A:=A) hh it a (nl a tr) aq.toArray;rw[IR, <-rv.length]at D;refine⟨_,_,_,D,λi x hx=>?_,λi h' st=>st.1,λi st=>⟨st,pl⟩,λc hc=>?_⟩
  ·have hx:aq[i]? =some x:=by simpa using hx
   have hi:i<xs.length:=by rw[rv.length];exact(xM.mp hx).1
   obtain⟨u,hu,ru⟩:=rv.get (Fk hi);rw[hx]at hu;cases hu;exact⟨_,Fk hi,ru⟩
  ·simp only[Da,On,XU]at hc
   rcases hc with rfl|rfl
   ·exact .inl rfl
   ·exact .inr tr
 | s z=>
  have h:xs=z.cps.toList.map λc=>.str ⟨#[c]⟩:=h;subst h
  have key:∀(i:Nat) (x:Value),(∃c u,z.cps[i]? =some c/\x=.str ⟨#[c]⟩ u)->∃v,(z.cps.toList.map λc=>V.str ⟨#[c]⟩)[i]? =some v/\RelV v x:=by
   rintro i x ⟨c,u,hc,rfl⟩;exact⟨.str ⟨#[c]⟩,by simp[hc],⟨u,rfl⟩⟩
  cases ha:z.cps.all (· <128)with
  | true=>
   have D:=Draws.strAscii (prog:=X.prog) (w:=X.w) (A:=A) hh it z tk;refine⟨_,_,_,by simpa using D,key,λi h' st=>?_,λi st=>?_,λc hc=>.inl (by simpa using hc)⟩
   ·show h'.IsStrIter it (if z.cps.all (· <128)then "str_ascii_iterator" else "str_iterator") z tk i
    rw[ha];exact st
   ·have st:s.heap.IsStrIter it (if z.cps.all (· <128)then "str_ascii_iterator" else "str_iterator") z tk i:=st
    rw[ha]at st;exact st
  | false=>
   have D:=Draws.strWide (prog:=X.prog) (w:=X.w) (A:=A) hh it z tk;refine⟨_,_,_,by simpa using D,key,λi h' st=>?_,λi st=>?_,λc hc=>.inl (by simpa using hc)⟩
   ·show h'.IsStrIter it (if z.cps.all (· <128)then "str_ascii_iterator" else "str_iterator") z tk i
    rw[ha];exact st
   ·have st:s.heap.IsStrIter it (if z.cps.all (· <128)then "str_ascii_iterator" else "str_iterator") z tk i:=st
    rw[ha]at st;exact st
end
theorem Sd.qD{d:Sd}{it:Addr}{i:Nat}{h h':Heap}{t:Tok}(st:d.jn it i h t)(k:∀o,h.get? it=some o->h'.get? it=some o):d.jn it i h' t:=by
 cases d with
 |l a=>obtain⟨o,e,r⟩:=st;exact⟨o,k o e,r⟩
 |t a=>obtain⟨o,e,r⟩:=st;exact⟨o,k o e,r⟩
 |s z=>obtain⟨o,e,r⟩:=st;exact⟨o,k o e,r⟩
theorem Sd.qw{d:Sd}{it:Addr}{i:Nat}{h:Heap}{t:Tok}(st:d.jn it i h t):∃o,h.get? it=some o/\∀v,o.data≠.cell v:=by
 cases d with
 |l a=>obtain⟨o,e,c,r⟩:=st;exact⟨o,e,λv z=>by rw[r]at z;cases z⟩
 |t a=>obtain⟨o,e,c,r⟩:=st;exact⟨o,e,λv z=>by rw[r]at z;cases z⟩
 |s z=>obtain⟨o,e,c,r⟩:=st;exact⟨o,e,λv z=>by rw[r]at z;cases z⟩
noncomputable def uo(K:PySem.W.Frag)(d e:Sd):It where
 go i H:=∃xs ys,d.at K H xs/\e.at K H ys/\i<xs.length/\i<ys.length
 pQ i H v H':=∃t x y,v=.ref t/\H t=none/\(∀xs,d.at K H xs->xs[i]? =some x)/\(∀ys,e.at K H ys->ys[i]? =some y)/\H'=upd H t (.tup [x,y])
 stop i H:=∃xs ys,d.at K H xs/\e.at K H ys/\(i=xs.length\/(i<xs.length/\i=ys.length))
def Ln(d e:Sd)(td te:Tok)(z TI TO i1 i2:Addr)(i:Nat)(h:Heap):Prop:=
 IsZip h z TI TO .none/\IsPair h TI (.ref i1) (.ref i2)/\(∃a b,IsPair h TO a b)/\d.jn i1 i h td/\e.jn i2 i h te
theorem DP{P:Program}{w:World}{K:PySem.W.Frag}{elts:acP}{k:Nat}{tp:Pos}(d e:Sd)(td te:Tok)(z TI TO i1 i2:Addr)(ne:[z,TI,TO,i1,i2].Nodup)(hK:∀b∈[z,TI,TO,i1,i2],K.lookup b=none):
  Turn P w K (.Tuple elts k tp) (uo K d e) [z,TI,TO,i1,i2] z (Ln d e td te z TI TO i1 i2) where
 mem:=by simp
 obj i h st b hb:=by
  obtain⟨hz,Qt,⟨a,b',QF⟩,h1,h2⟩:=st;simp only[Da,On,XU]at hb;rcases hb with rfl|rfl|rfl|rfl|rfl
  ·exact⟨_,hz,λv q=>by cases q⟩
  ·exact⟨_,Qt,λv q=>by cases q⟩
  ·exact⟨_,QF,λv q=>by cases q⟩
  ·exact Sd.qw h1
  ·exact Sd.qw h2
 keep i h h' st kk:=by
  obtain⟨hz,Qt,⟨a,b',QF⟩,h1,h2⟩:=st;exact⟨kk z (by simp) _ hz,kk TI (by simp) _ Qt,⟨a,b',kk TO (by simp) _ QF⟩,Sd.qD h1 λo q=>kk i1 (by simp) o q,Sd.qD h2 λo q=>kk i2 (by simp) o q⟩
 item := by
  intro X hP hw Uq hc i pins s σ H E I hf st hg;subst hP hw Uq;obtain⟨xs,ys,ax,ay,hx,hy⟩:=hg;obtain⟨hz,Qt,⟨a,b,QF⟩,h1,h2⟩:=st;have hh:X.A.in1.handled=none:=I.ok.hd hc;have un:∀b∈[z,TI,TO,i1,i2],H b=none:=λb hb=>(hf b hb).1;obtain⟨f1,P1,S1,D1,p1,s1,RV,q1⟩:=Sd.draws (it:=i1) (tk:=td) (A:=X.A.in1) I hh ax (un i1 (by simp)) (hK i1 (by simp))
  obtain⟨f2,P2,S2,D2,p2,s2,U1,q2⟩:=Sd.draws (it:=i2) (tk:=te) (A:=X.A.in1) I hh ay (un i2 (by simp)) (hK i2 (by simp))
  have out:∀ {fp:Zx} {it:Addr},(∀c∈fp,c=it\/(H c≠none\/∃o,X.K.lookup c=some o))->∀b∈[z,TI,TO,i1,i2],b≠it->b∉fp:=λq b hb G' hm=>by
   rcases q b hm with h|h|⟨o,h⟩
   ·exact G' h
   ·exact h (un b hb)
   ·rw[hK b hb]at h;cases h
  simp only[MG,Da,On,XU,acM,Z3,and_true,aco]at ne;obtain⟨⟨n1,n2,n3,n4⟩,⟨n5,n6,n7⟩,⟨n8,n9⟩,RY⟩:=ne;have ap:qS z TI TO i1 i2 f1 f2:=⟨P3 n1,P3 n2,P3 n3,P3 n4,n5,n6,n7,n8,n9,RY,out q1 z (by simp) n3,out q1 TO (by simp) n8,out q1 i2 (by simp) (P3 RY),out q2 z (by simp) n4,out q2 TO (by simp) n9,out q2 i1 (by simp) RY⟩
  have hT:s.TypeIs (.ref z) "zip":=⟨_,hz,rfl⟩;unfold pyNext;refine cp (wpAny_attempt (Z7 (name:=Str.ofString "__next__") hT aay (aaH aay hT abQ (Gq D1 D2 ap hz Qt QF (RV i h1) (U1 i h2) hx hy λx y h' tk px py YQ Vs bG Qg hp hk=>FM ?_) (abK _))));obtain⟨v1,e1,r1⟩:=p1 i x px;obtain⟨v2,e2,r2⟩:=p2 i y py;refine⟨_,rfl,wpAny_letOwnedTupleGo_zip YQ λQo Qk OH=>?_⟩;have Ro:z<s.heap.objs.size:=GM hz;have Tz:s.heap.objs.size≠z:=aas Ro;have Qz:∀c o,c≠z->c≠TO->c≠i1->c≠i2->s.heap.get? c=some o->Qo.get? c=some o:=λc o c1 c2 c3 c4 q=>OH.extBut _ _ c1 (hk c o c1 c2 c3 c4 q);have Rz:IsPair Qo s.heap.objs.size x y:=OH.extBut _ _ Tz hp;have nT:H s.heap.objs.size=none:=I.aQ.fresh (Gc _);have bw:∀c u,H c=some u->c≠z/\c≠TO/\c≠i1/\c≠i2:=λc u q=>by refine⟨?_,?_,?_,?_⟩<;>(intro w;rw[w,un _ (by simp)]at q;cases q)
  have Qu:∀c,c∉[z,TO,i1,i2]->c≠z/\c≠TO/\c≠i1/\c≠i2:=λc Pm=>by simpa[acM] using Pm
  have u:Un (L2.eZ X.stack) [z,TO,i1,i2] H (upd H s.heap.objs.size (.tup [v1,v2])) s.heap Qo:=
   ⟨λb o q n Va O2=>let m:=Qu b O2;Qz b o m.1 m.2.1 m.2.2.1 m.2.2.2 q,λb o q n Va O2=>let m:=Qu b O2;⟨o.slots,Qz b o m.1 m.2.1 m.2.2.1 m.2.2.2 q⟩,λb o q n O2=>by rw[L2.aN (Pv (GM q))];exact n,
    λb o q O2=>let m:=Qu b O2;⟨o,Qz b o m.1 m.2.1 m.2.2.1 m.2.2.2 q⟩,λb zs q=>by rw[L2.aN (L2.fq q nT)];exact q,λb o zs q=>by rw[L2.aN (L2.fq q nT)];exact q,λb ps q=>by rw[L2.aN (L2.fq q nT)];exact q⟩
  have aQ:L2.cg X.prog X.w (upd H s.heap.objs.size (.tup [v1,v2])) Qo:=λb ob q=>by
   by_cases hb:b=s.heap.objs.size
   ·subst hb
    rw[L2.bO]at q;cases q;exact⟨show 2<=sizeLine by decide,[x,y],.cons r1 (.cons r2 .nil),⟨_,Rz,rfl,_,rfl⟩⟩
   ·rw[L2.aN hb]at q
    refine(I.aQ b ob q).iA (λc v Rb w=>?_) (λc w=>by rw[L2.aN (L2.fq w nT)];exact w) (λc zs w=>by rw[L2.aN (L2.fq w nT)];exact w) λc zs w=>by rw[L2.aN (L2.fq w nT)];exact w
    have tc:∃u,H c=some u:=by
     rcases Rb with rfl|Rb
     ·exact⟨_,q⟩
     ·exact⟨_,Rb⟩
    obtain⟨u',UC⟩:=tc;have m:=bw c u' UC;exact Qz c v m.1 m.2.1 m.2.2.1 m.2.2.2 w
  have I2:Inv X pins σ (upd H s.heap.objs.size (.tup [v1,v2])) {s with heap:=Qo,toks:=tk}:=I.xN (s':={s with heap:=Qo,toks:=tk}) (ch:=[z,TO,i1,i2]) rfl u aQ I.bare λb hb=>by
   have OW:b∈[z,TI,TO,i1,i2]:=by
    simp only[Da,On,XU]at hb ⊢;rcases hb with h|h|h|h<;>simp[h]
   obtain⟨_,a1,a2,a3,a4,a5⟩:=hf b OW;exact⟨a3,a1,a4,a5⟩
  have Y2:∀b∈[z,TI,TO,i1,i2],b≠s.heap.objs.size:=λb hb=>by
   have:∃o,s.heap.get? b=some o:=by
    simp only[Da,On,XU]at hb;rcases hb with rfl|rfl|rfl|rfl|rfl
    ·exact⟨_,hz⟩
    ·exact⟨_,Qt⟩
    ·exact⟨_,QF⟩
    ·exact let⟨o,q,_⟩:=Sd.qw h1;⟨o,q⟩
    ·exact let⟨o,q,_⟩:=Sd.qw h2;⟨o,q⟩
   obtain⟨o,q⟩:=this;exact Pv (GM q)
  refine⟨.ref s.heap.objs.size,_,I2,rfl,⟨_,v1,v2,rfl,nT,λQW O2=>by rw[Sd.inj I O2 ax];exact e1,λVT W5=>by rw[Sd.inj I W5 ay];exact e2,rfl⟩,⟨Qk,?_,⟨_,_,OH.extBut _ _ (P3 n2) Vs⟩,Sd.qD (s1 _ _ bG) λo q=>OH.extBut _ _ (P3 n3) q,Sd.qD (s2 _ _ Qg) λo q=>OH.extBut _ _ (P3 n4) q⟩,λb hb=>?_⟩
  ·exact Qz TI _ (P3 n1) n5 n6 n7 Qt
  ·show upd H _ _ b=none
   rw[L2.aN (Y2 b hb)];exact un b hb
 done := by
  intro X hP hw Uq hc i pins s σ H E I hf st hg;subst hP hw Uq;obtain⟨xs,ys,ax,ay,PQ⟩:=hg;obtain⟨hz,Qt,⟨a,b,QF⟩,h1,h2⟩:=st;have hh:X.A.in1.handled=none:=I.ok.hd hc;have un:∀b∈[z,TI,TO,i1,i2],H b=none:=λb hb=>(hf b hb).1;obtain⟨f1,P1,S1,D1,p1,s1,RV,q1⟩:=Sd.draws (it:=i1) (tk:=td) (A:=X.A.in1) I hh ax (un i1 (by simp)) (hK i1 (by simp))
  obtain⟨f2,P2,S2,D2,p2,s2,U1,q2⟩:=Sd.draws (it:=i2) (tk:=te) (A:=X.A.in1) I hh ay (un i2 (by simp)) (hK i2 (by simp))
  have out:∀ {fp:Zx} {it:Addr},(∀c∈fp,c=it\/(H c≠none\/∃o,X.K.lookup c=some o))->∀b∈[z,TI,TO,i1,i2],b≠it->b∉fp:=λq b hb G' hm=>by
   rcases q b hm with h|h|⟨o,h⟩
   ·exact G' h
   ·exact h (un b hb)
   ·rw[hK b hb]at h;cases h
  simp only[MG,Da,On,XU,acM,Z3,and_true,aco]at ne;obtain⟨⟨n1,n2,n3,n4⟩,⟨n5,n6,n7⟩,⟨n8,n9⟩,RY⟩:=ne;have ap:qS z TI TO i1 i2 f1 f2:=⟨P3 n1,P3 n2,P3 n3,P3 n4,n5,n6,n7,n8,n9,RY,out q1 z (by simp) n3,out q1 TO (by simp) n8,out q1 i2 (by simp) (P3 RY),out q2 z (by simp) n4,out q2 TO (by simp) n9,out q2 i1 (by simp) RY⟩
  have hT:s.TypeIs (.ref z) "zip":=⟨_,hz,rfl⟩;unfold pyNext;refine cp (wpAny_attempt (Z7 (name:=Str.ofString "__next__") hT aay (aaH aay hT abQ (Mz D1 D2 ap hz Qt QF (RV i h1) (U1 i h2) PQ λh' tk e' hk he=>?_) (abK _))));obtain⟨o,ho,R5⟩:=he;refine cp (wpAny_isInstance (T:="StopIteration") (b:=true) ⟨o,ho,R5⟩ isSubtype_stop (FM ⟨rfl,?_⟩));have Qu:∀c,c∉[z,TO,i1,i2]->c≠z/\c≠TO/\c≠i1/\c≠i2:=λc Pm=>by simpa[acM] using Pm
  have bw:∀c u,H c=some u->c≠z/\c≠TO/\c≠i1/\c≠i2:=λc u q=>by refine⟨?_,?_,?_,?_⟩<;>(intro w;rw[w,un _ (by simp)]at q;cases q)
  have u:Un (L2.eZ X.stack) [z,TO,i1,i2] H H s.heap h':=
   ⟨λb o q n Va O2=>let m:=Qu b O2;hk b o m.1 m.2.1 m.2.2.1 m.2.2.2 q,λb o q n Va O2=>let m:=Qu b O2;⟨o.slots,hk b o m.1 m.2.1 m.2.2.1 m.2.2.2 q⟩,λb o q n O2=>n,
    λb o q O2=>let m:=Qu b O2;⟨o,hk b o m.1 m.2.1 m.2.2.1 m.2.2.2 q⟩,λb zs q=>q,λb o zs q=>q,λb ps q=>q⟩
  exact I.xN (s':={s with heap:=h',toks:=tk}) (ch:=[z,TO,i1,i2]) rfl u (λb ob q=>(I.aQ b ob q).iA (λc v Rb w=>by
    have tc:∃u,H c=some u:=by
     rcases Rb with rfl|Rb
     ·exact⟨_,q⟩
     ·exact⟨_,Rb⟩
    obtain⟨u',UC⟩:=tc;have m:=bw c u' UC;exact hk c v m.1 m.2.1 m.2.2.1 m.2.2.2 w) (λ_ w=>w) (λ_ _ w=>w) λ_ _ w=>w) I.bare λb hb=>by
   have OW:b∈[z,TI,TO,i1,i2]:=by
    simp only[Da,On,XU]at hb ⊢;rcases hb with h|h|h|h<;>simp[h]
   obtain⟨_,a1,a2,a3,a4,a5⟩:=hf b OW;exact⟨a3,a1,a4,a5⟩
 self _ _ _ _ _ st h:=wpAny_pyIter_zip st.1 h
def Sd.is(h:Heap):Sd->Prop
 |.l a=>∃xs,h.IsList a xs
 |.t a=>∃xs,h.IsTuple a xs
 |.s _=>True
theorem Sd.Dw{h:Heap}{d:Sd}(o:Obj)(x:d.is h):d.is (h.push o):=by
 cases d with
 |l a=>obtain⟨xs,ob,e,r⟩:=x;exact⟨xs,ob,mB _ e,r⟩
 |t a=>obtain⟨xs,ob,e,r⟩:=x;exact⟨xs,ob,mB _ e,r⟩
 |s z=>trivial
theorem Sd.iter{prog:Program}{w:World}{A:Around}{E:Value->Shared->Prop}{s:Shared}{d:Sd}{tk:Tok}{Q:Value->Shared->Prop}(x:d.is s.heap)(h:Q (.ref s.heap.objs.size) {s with heap:=s.heap.push (d.obj tk)}):
  wpAny (model prog w) A (pyIter (d.val tk)) Q E s:=by
 cases d with
 |l a=>obtain⟨xs,x⟩:=x;exact aba x h
 |t a=>obtain⟨xs,x⟩:=x;exact wpAny_pyIter_tuple x h
 | s z=>
  have h:Q (.ref s.heap.objs.size) {s with heap:=s.heap.push {cls:=.type (if z.cps.all (· <128)then "str_ascii_iterator" else "str_iterator"),data:=.fields #[.str z tk,.int 0 0]} }:=h
  cases ha:z.cps.all (· <128)with
  |true=>rw[ha]at h;exact wpAny_pyIter_ascii ha h
  |false=>rw[ha]at h;exact wpAny_pyIter_wide ha h
noncomputable abbrev qf(h:Heap)(d:Sd)(td:Tok):Heap:=h.push (d.obj td)
noncomputable abbrev qu(h:Heap)(d e:Sd)(td te:Tok):Heap:=(qf h d td).push (e.obj te)
noncomputable abbrev qP(h:Heap)(d e:Sd)(td te:Tok):Heap:=(qu h d e td te).push {cls:=.type "tuple",data:=.seq #[.ref h.objs.size,.ref (qf h d td).objs.size]}
noncomputable abbrev qr(h:Heap)(d e:Sd)(td te:Tok):Heap:=(qP h d e td te).push {cls:=.type "tuple",data:=.seq #[.none,.none]}
noncomputable abbrev jv(h:Heap)(d e:Sd)(td te:Tok):Heap:=(qr h d e td te).push {cls:=.type "zip",data:=.fields #[.none,.bool false,.bool false,.ref (qu h d e td te).objs.size,.ref (qP h d e td te).objs.size]}
theorem IX(d e:Sd)(td te:Tok):Meets (Builtin.«zip.__new__» ⟨[.type "zip",d.val td,e.val te],[]⟩) (λ_ R s=>d.is s.heap/\e.is s.heap/\R (.ok (.ret (.ref (qr s.heap d e td te).objs.size))) {s with heap:=jv s.heap d e td te}):=
 .of_wp λprog w A R s h=>by
  obtain⟨hp,g,dr,tk,os⟩:=s;obtain⟨h1,h2,h⟩:=h;have OB:=sub_zip;have a1:d.is (Shared.heap ⟨hp,g,dr,tk,os⟩):=h1;have a2:e.is (Shared.heap ⟨hp.push (d.obj td),g,dr,tk,os⟩):=Sd.Dw _ h2
  wp_walk using Sd.iter a1,Sd.iter a2
  exact⟨_,rfl,h⟩
section
variable{X:Cx}{M:Md}{G H H':Hp}{F0:Gf}{F F':acS}{σ:L2.St}{ρ:En}{pos:Pos}{pins:List (Addr×Obj)}{s:Shared}
theorem Sd.BM{d:Sd}{xs:List V}(I:Inv X pins σ H s)(h:d.at X.K H xs):d.is s.heap:=by
 cases d with
 |l a=>obtain⟨aq,_,pl,_⟩:=I.list h;exact⟨_,pl.isList⟩
 |t a=>obtain⟨aq,_,pl,_⟩:=I.tuple h;exact⟨_,pl⟩
 |s z=>trivial
def Eh(K:PySem.W.Frag)(ta:TA):TI:=λσ H R=>ta σ H λvs H1=>∃(x y:V) (d e:Sd) (xs ys:List V),vs=[x,y]/\(∀u,RelV x u->∃tk,u=d.val tk)/\(∀u,RelV y u->∃tk,u=e.val tk)/\d.at K H1 xs/\e.at K H1 ys/\R (uo K d e) H1
theorem K3:bootBuiltins "zip"=some (.type "zip"):=by decide+kernel
theorem Ep{elts:acP}{k:Nat}{tp:Pos}{a b:Expr}{ta:TA}{p:Pos}(hg:L2.Gl X "zip")(hm:X.mg "zip"=none)(ha:PA X [a,b] ta)(hs:starEach [a,b] X.env=(false,eval a X.env)::starEach [b] X.env)(OH:starEach [b] X.env=(false,eval b X.env)::starEach [] X.env):
  L2.PI X (.Tuple elts k tp) (.Call (.Name "zip" p) [a,b] [] pos) (Eh X.K ta):=by
 intro pins s σ H R I h;refine PyProof.Rows.Call_ (L2.mQ I hg hm K3 (aac (L2.aW (ha pos pins s σ H _ I h) λus s1 ⟨vs,H1,I1,r1,q1⟩=>?_) hs (by rw[OH];rfl)))
 obtain⟨x,y,d,e,xs,ys,rfl,hx,hy,ax,ay,q⟩:=q1;obtain⟨u1,u2,rfl,Vz,UH⟩:=L2.vals2 r1;obtain⟨td,rfl⟩:=hx u1 Vz;obtain⟨te,rfl⟩:=hy u2 UH;refine callType_new PySem.F.called_zip (by decide) (PySem.F.typeCall_zip_2 _ _) (PySem.F.newCall_zip_2 _ _) (λobj=>PySem.F.args_object_init_3 obj _ _) PySem.F.entry_zip_new (IX d e td te) ⟨Sd.BM I1 ax,Sd.BM I1 ay,?_⟩
 have z1:(qf s1.heap d td).objs.size=s1.heap.objs.size+1:=UV ..;have z2:(qu s1.heap d e td te).objs.size=s1.heap.objs.size+2:=by rw[UV,z1]
 have z3:(qP s1.heap d e td te).objs.size=s1.heap.objs.size+3:=by rw[UV,z2]
 have z4:(qr s1.heap d e td te).objs.size=s1.heap.objs.size+4:=by rw[UV,z3]
 have nf:∀(d:Sd) tk,(d.obj tk).isFreed=false:=λd tk=>by cases d<;>rfl
 have g5:(jv s1.heap d e td te).get? (qr s1.heap d e td te).objs.size=some _:=JU _ rfl;have g4:(jv s1.heap d e td te).get? (qP s1.heap d e td te).objs.size=some _:=mB _ (JU _ rfl);have g3:(jv s1.heap d e td te).get? (qu s1.heap d e td te).objs.size=some _:=mB _ (mB _ (JU _ rfl));have g2:(jv s1.heap d e td te).get? (qf s1.heap d td).objs.size=some (e.obj te):=mB _ (mB _ (mB _ (JU _ (nf e te))));have g1:(jv s1.heap d e td te).get? s1.heap.objs.size=some (d.obj td):=mB _ (mB _ (mB _ (mB _ (JU _ (nf d td)))));have old:∀c o,s1.heap.get? c=some o->(jv s1.heap d e td te).get? c=some o:=λc o x=>mB _ (mB _ (mB _ (mB _ (mB _ x))));rw[z2,z3,z4]at g5;rw[z1,z2]at g3;rw[z3]at g4;rw[z1]at g2;show _/\_;rw[z4];refine⟨⟨_,g5,rfl⟩,wpAny_pyIter_zip g5 ?_⟩;have I2:Inv X pins σ H1 {s1 with heap:=jv s1.heap d e td te}:=I1.kept (t':=s1.toks) old
 have hK:∀b,s1.heap.objs.size<=b->X.K.lookup b=none:=λb hb=>by
  cases q:X.K.lookup b with
  |none=>rfl
  |some o=>exact absurd (KF (GM (I1.da b o q)) hb) (ZN _)
 have TF:∀ {d:Sd} {it:Addr} {tk:Tok} {h:Heap},h.get? it=some (d.obj tk)->d.jn it 0 h tk:=λ{d it tk h} q=>by
  cases d with
  |l a=>exact⟨_,q,rfl,rfl⟩
  |t a=>exact⟨_,q,rfl,rfl⟩
  |s z=>exact⟨_,q,rfl,rfl⟩
 refine⟨s1.heap.objs.size+4,[s1.heap.objs.size+4,s1.heap.objs.size+2,s1.heap.objs.size+3,s1.heap.objs.size,s1.heap.objs.size+1],_,_,H1,rfl,I2,DP d e td te _ _ _ _ _ ?_ ?_,⟨g5,g3,⟨_,_,g4⟩,TF g1,TF g2⟩,λb hb=>?_,q⟩
 ·simp
 ·intro b hb
  refine hK b ?_;simp only[Da,On,XU]at hb;rcases hb with rfl|rfl|rfl|rfl|rfl<;>omega
 ·have OW:s1.heap.objs.size<=b:=by
   simp only[Da,On,XU]at hb;rcases hb with rfl|rfl|rfl|rfl|rfl<;>omega
  exact I1.mq OW (I1.aQ.fresh OW)
theorem Cw(e:items d=.ok ds)(r:Rep M H F d x):∃(q:Sd) (xs:List V),(∀u,RelV x u->∃tk,u=q.val tk)/\aj M H F ds xs/\∀H' F',Mv F H F' H'->q.at M.K H' xs:=by
 unfold items at e;split at e
 ·cases e
  simp only[Rep]at r;obtain⟨a,xs,rfl,h,rs⟩:=r;exact⟨.l a,xs,λu ru=>⟨0,ru⟩,rs,λH' F' m=>(h.mv m).sq⟩
 ·cases e
  simp only[Rep]at r;obtain⟨a,xs,rfl,h,rs⟩:=r;exact⟨.t a,xs,λu ru=>⟨0,ru⟩,rs,λH' F' m=>(h.mv m).sq⟩
 ·rename_i z
  cases e;cases fB r;refine⟨.s z,z.cps.toList.map λc=>.str ⟨#[c]⟩,λu=>by rintro⟨tk,ru⟩;exact ⟨tk,ru⟩,?_,λ_ _ _=>rfl⟩;generalize z.cps.toList=l
  induction l with
  |nil=>exact aj.nil
  |cons c l ih=>exact aj.cons me ih
 ·cases e
theorem wJ:∀ {xs ys:List D},(gK xs ys).length=min xs.length ys.length
 |[],_=>by simp
 |_::_,[]=>by simp
 |x::xs,y::ys=>by simp[wJ (xs:=xs) (ys:=ys)]
theorem BW:∀ {xs ys:List D} {i:Nat} {d:D},(gK xs ys)[i]? =some d->∃x y,d=.tup [x,y]/\xs[i]? =some x/\ys[i]? =some y
 |[],_,_,_,h=>by simp at h
 |_::_,[],_,_,h=>by simp at h
 |x::xs,y::ys,0,d,h=>by simp at h;exact⟨x,y,h.symm,rfl,rfl⟩
 | x::xs,y::ys,i+1,d,h=>by
  have h:(gK xs ys)[i]? =some d:=by simpa using h
  obtain⟨a,b,h1,h2,h3⟩:=BW h;exact⟨a,b,h1,by simpa using h2,by simpa using h3⟩
theorem MD(h1:∀H' F',Mv F H F' H'->q.at M.K H' xs)(h2:∀H' F',Mv F H F' H'->r.at M.K H' ys)(rs:aj M H F ds xs)(ss:aj M H F es ys)
  (YR:∀H' F' zs,Mv F H F' H'->q.at M.K H' zs->True):Gives M (uo M.K q r) H F (gK ds es):=by
 intro H' F' mv tr;have a1:=h1 H' F' mv;have a2:=h2 H' F' mv;have RX:=rs.mv mv;have YM:=ss.mv mv;refine⟨λi d hd=>?_,?_⟩
 ·obtain⟨x,y,rfl,hx,hy⟩:=BW hd
  obtain⟨vx,ex,rx⟩:=RX.get hx;obtain⟨vy,ey,ry⟩:=YM.get hy;refine⟨⟨xs,ys,a1,a2,(xM.mp ex).1,(xM.mp ey).1⟩,λv H2 hv=>?_⟩;obtain⟨t,wx,wy,rfl,ht,g1,g2,rfl⟩:=hv;have q1:=g1 xs a1;have q2:=g2 ys a2;rw[ex]at q1;rw[ey]at q2;cases q1;cases q2;exact⟨ar.dy ht _,nH tr ht (aj.cons rx (aj.cons ry aj.nil))⟩
 ·refine⟨xs,ys,a1,a2,?_⟩
  rw[wJ,rs.length,ss.length];omega
theorem Bc(hm:X.mg "zip"=none)(ha:XE X a fa)(hb:XE X b fb)(hg:L2.Gl X "zip":=by rfl)(hs:starEach [a,b] X.env=(false,eval a X.env)::starEach [b] X.env:=by exact bG (by rfl))(OH:starEach [b] X.env=(false,eval b X.env)::starEach [] X.env:=by exact bG (by rfl)):XI X (.Tuple elts k tp) (.Call (.Name "zip" p) [a,b] [] pos) (mE fa fb):=⟨have ha:=ha.out;have hb:=hb.out;pL (Ep hg hm (gk ha (gk hb hZ OH) hs) hs OH) λσ H Q=>by
  rintro⟨ρ,F,ds,r,e,q⟩
  obtain⟨d1,UK,e⟩:=aC.mp e;obtain⟨d2,Tg,e⟩:=aC.mp e;obtain⟨xs,X0,e⟩:=aC.mp e;obtain⟨ys,Zg,e⟩:=aC.mp e;cases e;refine⟨ρ,F,[d1,d2],r,by show(fa ρ).bind _=_;rw[UK];show((fb ρ).bind _).bind _=_;rw[Tg];rfl,λvs H1 s1 rv=>?_⟩
  obtain⟨x,y,rfl,rx,ry⟩:=rv.two;obtain⟨Yx,vx,u1,Xq,RD⟩:=Cw X0 rx;obtain⟨Uv,vy,u2,YB,at2⟩:=Cw Zg ry;exact⟨x,y,Yx,Uv,vx,vy,rfl,u1,u2,RD H1 F Mv.refl,at2 H1 F Mv.refl,q _ H1 s1 (MD (M:=aJ X) RD at2 Xq YB λ_ _ _ _ _=>trivial)⟩⟩
end
def sV:D->Value->Prop
 |.aE,u=>u=.none
 |.bl b,u=>u=.bool b
 |.int i,u=>∃t,u=.int i t
 |.str x,u=>∃t,u=.str x t
 |_,_=>False
theorem wF(h:sV d u):∃v,RelV v u/\∀(M:Md) H F,Rep M H F d v:=by
 cases d with
 |aE=>exact⟨.aE,h,λ_ _ _=>xU⟩
 |bl b=>exact⟨.bl b,h,λ_ _ _=>fO⟩
 |int i=>exact⟨.int i,h,λ_ _ _=>dM⟩
 |str x=>exact⟨.str x,h,λ_ _ _=>me⟩
 |_=>exact h.elim
def rF:List D->acQ->Prop
 |[],us=>us=[]
 |d::ds,us=>∃u r,us=u::r/\sV d u/\rF ds r
theorem zm:∀ {ds:List D} {us:acQ},rF ds us->∃xs,Vals xs us/\∀(M:Md) H F,aj M H F ds xs
 |[],_,h=>by cases h;exact⟨[],.nil,λ_ _ _=>aj.nil⟩
 | d::ds,_,h=>by
  obtain⟨u,r,rfl,h1,h2⟩:=h;obtain⟨v,rv,hv⟩:=wF h1;obtain⟨xs,rs,hs⟩:=zm h2;exact⟨v::xs,.cons rv rs,λM H F=>aj.cons (hv M H F) (hs M H F)⟩
def DM(w:World):List DictEntry->List Ky->List D->Prop
 |[],ks,ds=>ks=[]/\ds=[]
 |e::es,ks,ds=>∃s t k' d Ui,e.key=.str s t/\ks=.inr s::k'/\ds=d::Ui/\e.hash=PyData.keyHash w.params s/\sV d e.val/\DM w es k' Ui
theorem z6:∀ {es:List DictEntry} {ks:List Ky} {ds:List D},DM w es ks ds->∃(xs:List V) (vs:List (Key×Value)),Pairs (L2.cK P w) es vs/\L2.KV (ks.zip xs) vs/\vs.map (·.1)=ks/\ks.length=xs.length/\(∀(M:Md) H F,aj M H F ds xs)/\
  ∀e∈es,∃k,(L2.cK P w).is k e.key=true/\e.hash=(L2.cK P w).hash k
 | [],_,_,h=>by
  obtain⟨rfl,rfl⟩:=h;exact⟨[],[],.nil,.nil,rfl,rfl,λ_ _ _=>aj.nil,λe he=>nomatch he⟩
 | e::es,_,_,h=>by
  obtain⟨s,t,k',d,Ui,hk,rfl,rfl,hh,hf,hr⟩:=h;obtain⟨xs,vs,h1,h2,h3,h4,h5,h6⟩:=z6 (P:=P) hr;obtain⟨v,rv,hv⟩:=wF hf;refine⟨v::xs,(.inr s,e.val)::vs,.cons (by rw[hk];exact L2.uM P w s t) rfl h1,.cons ⟨rfl,rv⟩ h2,by simp[h3],by simp[h4],λM H F=>aj.cons (hv M H F) (h5 M H F),λe' he=>?_⟩
  rcases Da.mp he with rfl|he
  ·exact⟨.inr s,by rw[hk];exact L2.uM P w s t,hh⟩
  ·exact h6 e' he
section
variable{P:Program}{w:World}{K:PySem.W.Frag}{h:Heap}{mg:Str->acR}{x:Str}
theorem DK(X:K.In h)(G:h.Ns mainGlobals mg)(e1:PySem.W.nsIn K mainGlobals x=some (some (.ref a)))(e2:K.lookup a=some {cls:=.type "dict",data:=.dict es ep})
  (hm:DM w es.toList ks ds) (hn:ks.Nodup) (hl:ks.length<=1000) (ne:(a==sysModules)=false):iJ P w K mg x (.aA ks ds):=by
 obtain⟨xs,vs,h1,h2,h3,h4,h5,h6⟩:=z6 (P:=P) hm;refine⟨.ref a,.ref a,aaC X G e1,rfl,λH F=>?_⟩;simp only[Rep];refine⟨a,xs,rfl,.inr ⟨_,es,ep,vs,e2,⟨rfl,rfl,rfl⟩,rfl,λe he=>h6 e (by simpa using he),h1,by rw[h3];exact hn,h2,?_,ne⟩,h4,h5 _ H F⟩
 rw[SB, <-h4,Nat.min_self];exact Re hl (by decide)
theorem Ke(X:K.In h)(G:h.Ns mainGlobals mg)(e1:PySem.W.nsIn K mainGlobals x=some (some (.ref a)))(e2:K.lookup a=some {cls:=.type "tuple",data:=.seq aq n})
  (hm:rF ds aq.toList) (hl:aq.size<=1000):iJ P w K mg x (.tup ds):=by
 obtain⟨xs,h1,h2⟩:=zm hm;refine⟨.ref a,.ref a,aaC X G e1,rfl,λH F=>?_⟩;simp only[Rep];exact⟨a,xs,rfl,.inr ⟨_,aq,n,e2,rfl,rfl,Re hl (by decide),h1⟩,h2 _ H F⟩
theorem FG(X:K.In h)(G:h.Ns mainGlobals mg)(e1:PySem.W.nsIn K mainGlobals x=some (some u))(hm:sV d u):iJ P w K mg x d:=by
 obtain⟨v,rv,hv⟩:=wF hm;exact⟨v,u,aaC X G e1,rv,λH F=>hv _ H F⟩
end
end PL
namespace PL
open PySem
@[simp] noncomputable def vj:D->D->R D
 |.str y,.str x=>.ok (.int (Txt.find y x))
 |_,_=>.bad
@[simp] noncomputable def yk:D->D->R D
 |.tup ys,x=>if flat x=true/\ys.all flat=true then g6 x 0 ys else .bad
 |_,_=>.bad
end PL
namespace PL
open PySem PySem.Spec
open L2 (V Hp HO Cx PE PT PW PA PS cH PG dk VK TE TT TA TS TI TG Inv RelV Vals Rd bP bW upd ar Key XK Ends bA dJ cj R2 EP It Turn cX Un)
section
variable{X:Cx}{M:Md}{G H H':Hp}{F0:Gf}{F F':acS}{σ:L2.St}{ρ:En}{pos:Pos}{pins:List (Addr×Obj)}{s:Shared}
theorem MW(ho:XE X o fo)(he:XE X e fe)(m:L2.M1 X o "find" apos e NW:=by exact jF Ll (by rfl) (by rfl)):XE X (.Call (.Attribute o "find" apos) [e] [] NW) (e2 vj fo fe):=⟨have ho:=ho.out;have he:=he.out;by
 intro pins s σ H Q I ⟨ρ,F,d,hr,e,q⟩;obtain⟨a,ea,e⟩:=aC.mp e;obtain⟨b,eb,e⟩:=aC.mp e;refine abb m.base m.sH m.line PySem.F.plainAttrs_str PySem.F.slot_str_find PySem.F.type_str_find (L2.aW (ho pins s σ H _ I ⟨ρ,F,a,hr,ea,λv H1 s1 rv=>(⟨s1,rv⟩:ar H H1/\Rep (aJ X) H1 F a v)⟩) λu s1 ⟨x,H1,I1,rx,Qw,ra⟩=>?_);cases a with
 | str y=>
  cases b with
  | str z=>
   cases e;cases fB ra;obtain⟨t,rfl⟩:=rx;refine⟨abw s1 y t,(λ_ e=>nomatch e),?_⟩
   rw[m.trees];refine aaf rfl (aal (aav (L2.aW (he pins s1 σ H1 _ I1 ⟨ρ,F,.str z,hr.same Qw,eb,λv H2 s2 rv=>(⟨s2,rv⟩:ar H1 H2/\Rep (aJ X) H2 F (.str z) v)⟩) λiv s2 ⟨w,H2,I2,O0,c8,rb⟩=>aaD ?_)));cases fB rb;obtain⟨t',rfl⟩:=O0;exact SC.find ⟨.int _,H2,I2.tok _,⟨_,rfl⟩,q _ _ (Qw.trans c8) dM⟩
  |_=>cases e
 |_=>cases e⟩
theorem bC.fresh{p:Addr}{o:HO}(r:bC M H F σ ρ)(hp:H p=none):bC M (upd H p o) (λb=>F b\/b=p) σ ρ:=by
 have ne:∀b u,H b=some u->b≠p:=λb u e z=>by subst z;rw[hp]at e;cases e
 have mv:Mv F H (λb=>F b\/b=p) (upd H p o):=λb u n e=>⟨λh=>h.elim n (ne b u e),by rw[L2.aN (ne b u e)];exact e⟩
 have sm:ar H (upd H p o):=ar.dy hp _
 exact⟨r.len,λb f=>by
  by_cases hb:b=p
  ·subst hb;exact⟨_,L2.bO⟩
  ·obtain⟨u,hu⟩:=r.bw b (f.resolve_right hb);exact⟨u,sm _ _ hu⟩,
  λi d e=>let⟨v,h1,h2⟩:=r.sh i d e;⟨v,h1,h2.mv mv⟩,
  λi ds e=>let⟨a,xs,e1,f,e2,q⟩:=r.ol i ds e;⟨a,xs,e1,.inl f,sm _ _ e2,q.mv mv⟩,
  λi ks ds e=>let⟨a,xs,e1,f,e2,l,q⟩:=r.od i ks ds e;⟨a,xs,e1,.inl f,sm _ _ e2,l,q.mv mv⟩,
  r.dg,r.on.mv mv (λj NR e=>⟨e,rfl⟩) (λj NR b u e hb f hu=>⟨.inl f,sm _ _ hu⟩) λj NR b e hb k ok=>(r.on j NR e).2.1 b hb k ok⟩
def JP(X:Cx)(pos:Pos)(keys:List (Option Expr))(values:acP)(ks:List Ky)(fs:List Ex):Prop:=
 ∃N4,L2.kA X pos keys values N4/\∀(F:acS) (σ:L2.St) (H:Hp) (ρ:En) (ds:List D) (Q:List (V×V)->Hp->Prop),bC (aJ X) H F σ ρ->eList fs ρ=.ok ds->
  (∀xs H',ar H H'->aj (aJ X) H' F ds xs->Q ((ks.zip xs).map λkv=>(L2.kV kv.1,kv.2)) H')->L2.m4 N4 σ H Q
structure XP(X:Cx)(pos:Pos)(keys:List (Option Expr))(values:acP)(ks:List Ky)(fs:List Ex):Prop where
 out:JP X pos keys values ks fs
theorem iQ:XP X pos [] [] [] []:=⟨ ⟨[],L2.qN,λF σ H ρ ds Q r e q=>by cases e;exact q [] H (ar.refl H) aj.nil⟩⟩
theorem oY(hk:XE X k (eC (.str z)))(hv:XE X v f)(hr:XP X pos keys values ks fs):XP X pos (some k::keys) (v::values) (.inr z::ks) (f::fs):=⟨have hk:=hk.out;have hv:=hv.out;have hr:=hr.out;by
 obtain⟨N4,h,g⟩:=hr;refine⟨_,L2.pZ hk hv h,λF σ H ρ ds Q r e q=>?_⟩;obtain⟨a,ea,e⟩:=aC.mp e;obtain⟨as,Sy,e⟩:=aC.mp e;cases e;refine⟨ρ,F,.str z,r,rfl,λx H1 s1 rx=>⟨ρ,F,a,r.same s1,ea,λy H2 s2 ry=>g F σ H2 ρ as _ ((r.same s1).same s2) Sy λxs H3 s3 rs=>?_⟩⟩;cases fB rx;exact q (y::xs) H3 ((s1.trans s2).trans s3) (aj.cons (ry.mv (.same s3)) rs)⟩
theorem FL{j':List (Key×V)}{k:Key}{v:V}(h:k∉j'.map (·.1)):L2.putK j' k v=j'++[(k,v)]:=by
 unfold L2.putK;rw[DF];intro h1;rw[List.any_eq_true]at h1;obtain⟨kv,hm,hk⟩:=h1;exact h (S4.mpr ⟨kv,hm,by simpa using hk⟩)
theorem oq:∀ {more j':List (Key×V)},(j'.map (·.1)++more.map (·.1)).Nodup->L2.eO j' more=j'++more
 |[],j',_=>by show j'=_;rw[ZU]
 | p::r,j',h=>by
  show L2.eO (L2.putK j' p.1 p.2) r=_
  have hp:p.1∉j'.map (·.1):=λhm=>by
   rw[Pi,SZ]at h;exact h.2.2 _ hm _ FB rfl
  rw[FL hp,oq (by simpa using h),aaN]
  rfl
theorem iP(h:XP X pos keys values ks fs)(O9:keys.all (·.isSome)=true:=by rfl)(hl:keys.length=values.length:=by rfl)(h0:keys≠[]:=by simp)(PZ:keys.length<=15:=by decide)(hk:ks.length=fs.length:=by rfl)(Xo:ks.length<=15:=by decide)(hn:ks.Nodup:=by decide+kernel):XE X (.Dict keys values pos) (eW ks fs):=⟨have h:=h.out;by
 obtain⟨N4,hp,g⟩:=h;refine vF (L2.sJ hp O9 hl h0 PZ) λσ H Q ⟨ρ,F,d,hr,e,q⟩=>?_;obtain⟨as,ea,e⟩:=aC.mp e;cases e;intro p hp;have P4:=hr.fresh (o:=.dK []) hp;refine g _ σ _ ρ as _ P4 ea λxs H2 s2 rs=>?_;have Su:ks.length=xs.length:=by rw[<-rs.length,kn ea,hk]
 have e2:H2 p=some (.dK []):=s2 _ _ L2.bO
 have hm:L2.eO [] (ks.zip xs)=ks.zip xs:=by
  rw[oq (by simp only[ZO,aaF];rw[show(ks.zip xs).map (·.1)=ks from by rw[Z4];omega];exact hn)]
  rfl
 refine⟨e2,ks.zip xs,rfl,by rw[SB];omega,?_⟩
 rw[hm];refine⟨p,ks.zip xs,rfl,L2.bO,λob=>?_⟩;rw[L2.uH]
 have sm:ar H (upd H2 p (.frz ob (.dK (ks.zip xs)))):=λb u e=>by
  have ne:b≠p:=λz=>by subst z;rw[hp]at e;cases e
  rw[L2.aN ne];exact s2 _ _ (by rw[L2.aN ne];exact e)
 have nF:¬F p:=oV hr.bw hp;have mv:Mv (λb=>F b\/b=p) H2 F (upd H2 p (.frz ob (.dK (ks.zip xs)))):=λb u n e=>⟨λh=>n (.inl h),by rw[L2.aN (λz=>n (.inr z))];exact e⟩
 refine q _ _ sm ?_;simp only[Rep];exact⟨p,xs,rfl,.inl ⟨nF,ob,L2.bO⟩,Su,rs.mv mv⟩⟩
end
theorem tG:∀ {ys:List D} {k:Nat} {d:D},g6 x k ys=.ok d->∃j,d=.int ((k+j:Nat):Int)/\j<ys.length/\∀m y,ys[m]? =some y->(m=j->cw y x=true)/\(m<j->cw y x=false)
 |[],_,_,h=>by cases h
 | y::ys,k,d,h=>by
  unfold g6 at h;split at h
  ·rename_i he
   cases h;refine⟨0,by simp,by simp,λm z hz=>⟨λhm=>?_,λhm=>by omega⟩⟩
   subst hm;simp at hz;subst hz;exact he
  ·rename_i he
   obtain⟨j,rfl,hj,hh⟩:=tG h;refine⟨j+1,by congr 2;omega,by simp;omega,λm z hz=>?_⟩
   cases m with
   |zero=>simp at hz;subst hz;exact⟨λh=>by omega,λ_=>by simpa using he⟩
   | succ m=>
    have:=hh m z (by simpa using hz)
    exact⟨λh=>this.1 (by omega),λh=>this.2 (by omega)⟩
theorem Ef(p:Addr)(aq:Array Value)(o:Obj)(n:Nat)(x:Value)(e:Value->Bool)(j:Nat)(hj:j<aq.size)(hh:∀m y,aq[m]? =some y->(m=j->e y=true)/\(m<j->e y=false)):
  Meets (Builtin.«tuple.index» {pos:=[.ref p,x]}) λA R s=>s.heap.get? p=some o/\o.data=.seq aq n/\(∀y,y∈aq->SeqAt.EqAt A.in1 s y x (e y))/\R (.ok (.ret (.int j s.toks))) {s with toks:=s.toks+1}:=by
 refine Meets.of_wp λprog w A R s ⟨h,hd,heq,hR⟩=>?_;unfold Builtin.«tuple.index»;refine cp ?_;show wpAny _ _ (pure (Value.ref p,[x])) _ _ _;refine FM ?_;refine cp (wpAny_tupleItemsOf h hd ?_);dsimp only;refine cp (FM (cp (FM (cp ?_))));rw[Std.Legacy.Range.forIn_eq_forIn_range'];refine wpAny_forIn_list _ (λl b s'=>s'=s/\∃k,l=List.range' k (aq.size - k)/\k<=j) _ ?_ ?_ _ _ ⟨rfl,0,by simp[Std.Legacy.Range.size],Xm _⟩
 ·rintro i rest b s' ⟨rfl,k,hl,hk⟩
  have e1:aq.size - k=(aq.size - (k+1))+1:=by omega
  rw[e1,List.range'_succ]at hl;cases hl;have hy:aq[i]? =some aq[i]:=abB (by omega)
  rw[hy];dsimp only;refine cp (heq aq[i] (Array.getElem_mem _) prog w _ _ ?_);by_cases RT:i=j
  ·have:e aq[i]=true:=(hh i _ hy).1 RT
   rw[this,AC rfl];subst RT;refine cp (cp (wpAny_mkInt (FM (FM ?_))));exact FM ⟨_,rfl,hR⟩
  ·have:e aq[i]=false:=(hh i _ hy).2 (by omega)
   rw[this,DF (by decide)]
   exact FM ⟨rfl,i+1,rfl,by omega⟩
 ·rintro b s' ⟨rfl,k,hl,hk⟩
  have:(List.range' k (aq.size - k)).length=0:=by rw[<-hl];rfl
  rw[List.length_range']at this;omega
section
variable{X:Cx}{M:Md}{G H H':Hp}{F0:Gf}{F F':acS}{σ:L2.St}{ρ:En}{pos:Pos}{pins:List (Addr×Obj)}{s:Shared}
theorem xJ:∀ {ds:List D} {vs:List V} {us:acQ} {b:D} {y:V},ds.all flat=true->flat b=true->aj M H F ds vs->Rep M H F b y->Vals vs us->us.length=ds.length/\∀(m:Nat) d u,ds[m]? =some d->us[m]? =some u->L2.d6 y u=cw d b
 | [],_,_,_,_,_,_,r,_,v=>by
  simp only[aj]at r;subst r;cases v;exact⟨rfl,λm d u h=>by simp at h⟩
 | d::ds,_,_,b,y,f,fb,r,rb,v=>by
  rw[Wp,mO]at f;simp only[aj]at r;obtain⟨x,t,rfl,r1,r2⟩:=r;cases v with
  | cons rv rvs=>
   obtain⟨h1,h2⟩:=xJ f.2 fb r2 rb rvs;refine⟨by simp[h1],λm d' u hd hu=>?_⟩
   cases m with
   | zero=>
    simp at hd hu;subst hd hu;rw[L2.xg rv (mi f.1 r1),CZ f.1 fb r1 rb]
   |succ m=>exact h2 m d' u (by simpa using hd) (by simpa using hu)
theorem Ll:attributeBase (.Call f (e::as) ks p) a env w=w:=by cases f<;>rfl
structure nS(P:Program)(w:World)(K:PySem.W.Frag)(mg:Str->acR)(x:Str)(d:D):Prop where
 gl:iJ P w K mg x d
 pl:∃a o,mg x=some (.ref a)/\K.lookup a=some o/\o.cls=.type "tuple"/\o.dict=none
theorem Dz(X:K.In h)(G:h.Ns mainGlobals mg)(e1:PySem.W.nsIn K mainGlobals x=some (some (.ref a)))(e2:K.lookup a=some {cls:=.type "tuple",data:=.seq aq n})
  (hm:rF ds aq.toList) (hl:aq.size<=1000):nS P w K mg x (.tup ds):=
 ⟨Ke X G e1 e2 hm hl,a,_,aaC X G e1,e2,rfl,rfl⟩
theorem Jx(g:nS X.prog X.w X.K X.mg x c)(he:XE X e fe)(hg:L2.Gl X x:=by rfl)(hd:gV x:=by decide)(m:L2.M1 X (.Name x npos) "index" apos e NW:=by exact jF qQ (by rfl) (by rfl)):XE X (.Call (.Attribute (.Name x npos) "index" apos) [e] [] NW) (e2 yk (eC c) fe):=⟨have he:=he.out;by
 intro pins s σ H Q I ⟨ρ,F,d,hr,e,q⟩;obtain⟨c',ec,e⟩:=aC.mp e;cases ec;obtain⟨b,eb,e⟩:=aC.mp e;obtain⟨a,o,h1,h2,h3,h4⟩:=g.pl;obtain⟨v,u,g1,g2,g3⟩:=g.gl.ex;rw[h1]at g1;cases g1;refine abb m.base m.sH m.line PySem.F.plainAttrs_tuple abG PySem.F.type_tuple_index (L2.aW (L2.zF hg h1 g2 hd pins s σ H (λv' H'=>v'=v/\H'=H) I ⟨rfl,rfl⟩) λu s1 ⟨x',H1,I1,rx,ex,eH⟩=>?_);subst ex eH;cases c with
 | tup ys=>
  replace e:(if flat b=true/\ys.all flat=true then g6 b 0 ys else .bad)=.ok d:=e
  by_cases hf:flat b=true/\ys.all flat=true
  ·rw[AC hf]at e
   obtain⟨fb,fs⟩:=hf;obtain⟨j,rfl,hj,hh⟩:=tG e;have ra:=g3 H1 F;simp only[Rep]at ra;obtain⟨p,xs,rfl,hp,rs⟩:=ra;cases g2;cases rx;have YD:s1.TypeIs (.ref a) "tuple":=⟨o,I1.da a o h2,h3⟩;refine⟨YD,(λa' e'=>by cases e';exact⟨o,I1.da a o h2,h4⟩),?_⟩
   rw[m.trees];refine aaf rfl (aal (aav (L2.aW (he pins s1 σ H1 _ I1 ⟨ρ,F,b,hr,eb,λv H2 s2 rv=>(⟨s2,rv⟩:ar H1 H2/\Rep (aJ X) H2 F b v)⟩) λiv s2 ⟨y,H2,I2,ry,c8,rb⟩=>aaD ?_)));have Rz:=hp.mv (M:=aJ X) (F':=F) (.same c8);have P5:=rs.mv (M:=aJ X) (F':=F) (.same c8);obtain⟨aq,r2,⟨o2,i1,i2,n,i3⟩,hz⟩:=I2.tuple Rz.sq;obtain⟨hl,heq⟩:=xJ fs fb P5 rb r2;have OH:s2.TypeIs (.ref a) "tuple":=⟨o,I2.da a o h2,h3⟩;refine abA abG OH PySem.F.entry_tuple_index (PySem.F.args_tuple_index_2 _ _) ((Ef a aq.toArray o2 n iv (L2.d6 y) j (by simp;omega) ?_).inModel X.prog X.w) ⟨i1,i3,λz hz=>L2.lA ry (mi fb rb) r2 (nv fs P5) z (by simpa using hz),?_⟩
   ·intro k z hk
    have T5:aq[k]? =some z:=by simpa using hk
    have OF:k<aq.length:=by
     obtain⟨h,_⟩:=xM.mp T5;exact h
    have hd:ys[k]? =some (ys[k]'(by omega)):=Fk (by omega)
    rw[heq k _ z hd T5];exact hh k _ hd
   ·refine⟨.int _,H2,I2.tok _,⟨_,rfl⟩,?_⟩
    have:=q (.int ((0+j:Nat):Int)) H2 c8 dM;simpa using this
  ·rw[DF hf]at e;cases e
 |_=>cases e⟩
end
noncomputable def frz(i:Nat)(ρ:En):En:=match ρ[i]? with
 |some (.ol xs)=>ρ.set i (.sh (.lst xs))
 |_=>ρ
mutual
noncomputable def i9:D->Bool
 |.aE=>true
 |.bl _=>true
 |.int _=>true
 |.str _=>true
 |.tup xs=>qG xs
 |_=>false
noncomputable def qG:List D->Bool
 |[]=>true
 |x::xs=>i9 x&&qG xs
end
section
variable{X:Cx}{M:Md}{G H H':Hp}{F0:Gf}{F F':acS}{σ:L2.St}{ρ:En}{pos:Pos}{pins:List (Addr×Obj)}{s:Shared}
def mn(env:Env)(o k:Expr)(p3:Pos):Prop:=∀v,assign (.Subscript o k p3) env v=(do
   let ov <-holding [v] (eval o env)
   let iv <-holding [v,ov] (eval k env)
   standAt p3
   holding [v,ov,iv] (setItem ov iv v)
   release [v,ov,iv] [])
theorem zH(i:Nat)(he:XE X e f)(hk:XE X k g)(ha:mn X.env (.Name x p2) k p3)(hN:X.N[i]? =some x:=by rfl)(hv:L2.fi X.env.scope x:=by exact Or.inl rfl)(hd:gV x:=by decide)(Oh:tx x:=by decide)(hs:swapsWithSole [.Subscript (.Name x p2) k p3] e pos.line X.env=pure false:=by exact qc (by rfl))(hw:swappedStores [.Subscript (.Name x p2) k p3] e X.env=pure none:=by exact w9 (by rfl))(h1:(assignEach [.Subscript (.Name x p2) k p3] X.env).map (·.2)=[assign (.Subscript (.Name x p2) k p3) X.env]:=by exact o6 (by rfl)):XS X (.Assign [.Subscript (.Name x p2) k p3] e pos) (oX i g f):=⟨have he:=he.out;have hk:=hk.out;λF0=>
 dm (L2.u3 he (L2.zy (L2.pv i hN hv hd Oh) hk L2.set_list ha) hs hw h1) λD σ H=>by
  rintro⟨ρ,F,fl,r,e,q⟩
  obtain⟨d,ed,e⟩:=aC.mp e;obtain⟨y,ey,e⟩:=aC.mp e;split at e
  ·rename_i xs j q1
   split at e
   ·rename_i m hm
    cases e;have oi:bY ρ i:=.inl ⟨_,q1⟩;obtain⟨a,ys,ea,fa,XH,rs⟩:=r.rs.ol i _ q1;refine⟨ρ,F,d,r.rs,ed,λv H1 s1 rv=>⟨_,ea,ρ,F,_,(r.same s1).rs,ey,λz H2 s2 rz=>?_⟩⟩;have r2:=(r.same s1).same s2;refine⟨a,ys,j,m,rfl,b8 rz,s2 _ _ (s1 _ _ XH),by rw[<-rs.length];exact hm,?_⟩
    obtain⟨mv,r'⟩:=r2.chg (s:=.ol (xs.set m d)) oi ea (.inl ⟨_,ys.set m v,rfl,rfl,aj.set m (rv.mv (.same s2)) (rs.mv (.same (s1.trans s2)))⟩);exact q _ _ _ (Mv.trans (.same (s1.trans s2)) mv) r'
   ·cases e
  ·cases e⟩
theorem As(hm:X.mg "list"=none)(ha:XE X a fa)(Sa:L2.Gl X "list":=by rfl)(hs:starEach [a] X.env=(false,eval a X.env)::starEach [] X.env:=by exact bG (by rfl)):XF X (.Call (.Name "list" p) [a] [] pos) (e1 sj fa):=⟨have ha:=ha.out;b9 (L2.ox L2.EB Sa hm oC (gk ha hZ hs) (by decide) (by decide) hs) λσ H Q=>by
  rintro⟨ρ,F,ds,hr,e,q⟩
  obtain⟨d,ed,e⟩:=aC.mp e;refine⟨ρ,F,[d],hr,by show(fa ρ).bind _=_;rw[ed];rfl,λvs H1 s1 rv=>?_⟩
  obtain⟨y,rfl,ry⟩:=rv.one;unfold sj at e;split at e
  ·cases e
   simp only[Rep]at ry;obtain⟨p,ys,rfl,h,rs⟩:=ry;exact⟨p,ys,rfl,.inl h.sq,λl hl=>q l H1 ys s1 hl rs⟩
  ·cases e
   simp only[Rep]at ry;obtain⟨p,ys,rfl,h,rs⟩:=ry;exact⟨p,ys,rfl,.inr h.sq,λl hl=>q l H1 ys s1 hl rs⟩
  ·cases e⟩
end
noncomputable def unlike(ns:Xj):Nat:=(PyProof.Rows.firstMet (λi=>ns.getD i 0) ns.length).length
def qE(c0:Int)(d:Sd)(td:Tok)(e it:Addr)(i:Nat)(h:Heap):Prop:=(∃old,IsEnum h e it (c0+(i:Int)) old)/\d.jn it i h td
end PL
namespace PL
open PySem PySem.Spec PySem.W
open L2 (V Hp HO Cx PE PT PW PA PS cH PG dk VK TE TT TA TS TI TG Inv RelV Vals Rd bP bW upd ar Key XK Ends bA dJ cj R2 EP It Turn cX Un cg cL eZ)
section
variable{P:Program}{w:World}{K:PySem.W.Frag}{mg:Str->acR}{base:Heap}{N:List Str}{qual:Str}{scope:Scope}{f:Addr}{M':Value}{A:Around}{outer:List Env}{s:Shared}{H:Hp}{E:XK}
noncomputable def rz(n:Nat)(c:Str)(t:cC):List D->R D:=λds=>match t (ds.map Slot.sh++List.replicate (n - ds.length) .un)with
 |.ok true=>.exc (.cE c [] [])
 |_=>.bad
end
end PL
namespace PL
open PySem PySem.Spec
open L2 (V Hp HO Cx PE PT PW PA PS cH PG dk VK TE TT TA TS TI TG Inv RelV Vals Rd bP bW upd ar Key XK Ends bA dJ cj R2 EP It Turn cX Un jf)
noncomputable abbrev dT(xs:List D):D:=.cE ⟨#[]⟩ [⟨#[116]⟩] xs
noncomputable def qR:D->D->R D
 |.tup [],.tup y=>.ok (.tup y)
 |a,b=>bb a b
section
variable{X:Cx}{M:Md}
def yB(K:PySem.W.Frag):R2:=λx y H Q=>∃a b ys,x=.ref a/\y=.ref b/\bW K H a []/\bW K H b ys/\Q (.ref b) H
theorem LY:bA X (binaryOp .Add) (yB X.K):=by
 intro pins s σ H x y v u Q I rx ry h;obtain⟨a,b,ys,rfl,rfl,ha,hb,q⟩:=h;cases rx;cases ry;obtain⟨aq,r1,p1,_⟩:=I.tuple ha;obtain⟨Pb,r2,p2,_⟩:=I.tuple hb;cases r1;obtain⟨⟨cls,dd,data,sl⟩,ho,hc,n,hd⟩:=id p1;obtain⟨⟨UA,Sw,data2,Q2⟩,Qq,Q3,n2,hd2⟩:=id p2;simp only at hc hd Q3 hd2;subst hc hd Q3 hd2
 exact abz ⟨_,ho,rfl⟩ ⟨_,Qq,rfl⟩ abF acd aaV aaR (aaQ _ _)
  (PyProof.Rows.tuple_addW0 a b _ _ n n2 dd Sw sl Q2 rfl) ⟨ho,Qq,⟨.ref b,H,I,rfl,q⟩⟩
def AF(M:Md):R2:=λx y H Q=>wR M x y H Q\/yB M.K x y H Q
theorem Iv:bA X (binaryOp .Add) (AF (aJ X)):=L2.bA.or bI LY
theorem Gp:dn M qR (AF M):=by
 intro F H x y a b d Q tr rx ry e q;unfold qR at e;split at e
 ·cases e
  simp only[Rep]at rx;obtain⟨p,xs,rfl,h1,r1⟩:=rx;have WY:=ry;simp only[Rep]at ry;obtain⟨p2,ys,rfl,h2,r2⟩:=ry;simp only[aj]at r1;subst r1;exact .inr ⟨p,p2,ys,rfl,rfl,h1.sq,h2.sq,q _ _ (ar.refl _) WY⟩
 ·exact .inl (bN F H x y _ _ d Q tr rx ry e q)
end
end PL
set_option maxHeartbeats 2000000
namespace PL
open PySem PySem.Spec PySem.W
section
open L2 (V Hp HO Cx PE PT PW PA PS cH PG dk VK TE TT TA TS TI TG Inv RelV Vals Rd bP bW upd ar Key XK Ends bA dJ cj R2 EP It Turn cX Un)
variable{X:Cx}{M:Md}{G H H':Hp}{F0:Gf}{F F':acS}{σ:L2.St}{ρ:En}{pos:Pos}{pins:List (Addr×Obj)}{s:Shared}
end
end PL
namespace PL
open PySem PySem.Spec
open PyProof.Rows (assign_Tuple)
open L2 (V Hp HO Cx PE PT PW PA PS cH PG dk VK TE TT TA TS TI TG Inv RelV Vals Rd bP bW upd ar Key XK Ends bA dJ cj R2 EP)
end PL
set_option maxHeartbeats 1000000
namespace PL
open PySem PySem.Spec
open L2 (V Hp HO Cx PE PT PW PA PS cH PG dk VK TE TT TA TS TI TG Inv RelV Vals Rd bP bW upd ar Key XK Ends bA dJ cj R2 EP It Turn cX Un)
noncomputable def cV:Ky->D
 |.inl i=>.int i
 |.inr x=>.str x
def jz(P:Program)(w:World)(K:PySem.W.Frag)(H:Hp)(a:Addr)(ob:Obj)(j':List (Key×V)):Prop:=
 H a=some (.frz ob (.dK j'))\/(K.lookup a=some ob/\∃(es:Array DictEntry) (ep:Nat) (vs:List (Key×Value)),ob.ExactDict/\ob.data=.dict es ep/\KeysOf (L2.cK P w) es/\Pairs (L2.cK P w) es.toList vs/\
  (vs.map (·.1)).Nodup/\L2.KV j' vs/\j'.length<=sizeLine/\(a==sysModules)=false)
theorem Gb(h:gr M H F a j'):∃ob,((¬F a/\H a=some (.frz ob (.dK j')))\/jz M.P M.w M.K (λ_=>none) a ob j')/\jz M.P M.w M.K H a ob j':=by
 rcases h with⟨n,ob,h⟩|⟨o,es,ep,vs,h1,h2,h3,h4,h5,h6,h7,h8,h9⟩
 ·exact⟨ob,.inl ⟨n,h⟩,.inl h⟩
 ·exact⟨o,.inr (.inr ⟨h1,es,ep,vs,h2,h3,h4,h5,h6,h7,h8,h9⟩),.inr ⟨h1,es,ep,vs,h2,h3,h4,h5,h6,h7,h8,h9⟩⟩
section
variable{X:Cx}{M:Md}{G H H':Hp}{F0:Gf}{F F':acS}{σ:L2.St}{ρ:En}{pos:Pos}{pins:List (Addr×Obj)}{s:Shared}
theorem xu(I:Inv X pins σ H s)(h:jz X.prog X.w X.K H a ob j'):j'.length<=sizeLine/\(a==sysModules)=false/\∃vs es ep,L2.KV j' vs/\ob.data=.dict es ep/\s.heap.DictAt (L2.cK X.prog X.w) a vs ep:=by
 rcases h with h|⟨h1,es,ep,vs,h2,h3,h4,h5,h6,h7,h8,h9⟩
 ·obtain⟨e0,z,y,vs,r,WH,es,ep,e1,c1,c2,c3,c4,c5⟩:=I.aQ a _ h
  rw[e0]at e1;cases e1;exact⟨z,y,vs,es,ep,r,c2,ob,es,e0,c1,c2,c3,c4,c5⟩
 ·exact⟨h8,h9,vs,es,ep,h7,h3,ob,es,I.da a ob h1,h2,h3,h4,h5,h6⟩
noncomputable def uU(P:Program)(w:World)(K:PySem.W.Frag)(a:Addr)(ob:Obj)(j':List (Key×V)):It:=
 ⟨λi H=>jz P w K H a ob j'/\i<j'.length,λi H x H'=>H'=H/\∃kv,j'[i]? =some kv/\x=L2.kV kv.1,λi H=>jz P w K H a ob j'/\i=j'.length⟩
theorem pU(h:L2.KV j' vs):j'.length=vs.length:=by
 unfold L2.KV at h
 induction h with
 |nil=>rfl
 |cons _ _ ih=>simp[ih]
theorem Ie(h:L2.KV j' vs):∀ {i:Nat} {p:Key×Value},vs[i]? =some p->∃q,j'[i]? =some q/\q.1=p.1:=by
 unfold L2.KV at h
 induction h with
 |nil=>intro i p e;simp at e
 | cons hd _ ih=>
  intro i p e;cases i with
  |zero=>simp at e;subst e;exact⟨_,rfl,hd.1⟩
  |succ i=>simpa using ih (i:=i) (by simpa using e)
theorem DB(h:L2.lE k u=true):RelV (L2.kV k) u:=by
 rcases L2.iO h with⟨i,t,rfl,rfl⟩|⟨x,t,rfl,rfl⟩
 ·exact⟨t,rfl⟩
 ·exact⟨t,rfl⟩
theorem Lf(a it:Addr)(ob:Obj)(es:Array DictEntry)(ep:Nat)(So:ob.data=.dict es ep)(j':List (Key×V)):Turn P w K tg (uU P w K a ob j') [it] it (λi h=>h.IsKeyIter it a i j'.length ep) where
 mem:=by simp
 obj:=λi h st b hb=>by
  have e:b=it:=by simpa using hb
  subst e;obtain⟨o,e,c,d⟩:=st;exact⟨o,e,λv z=>by rw[d]at z;cases z⟩
 keep:=λi h h' st k=>st.at λo e=>k it (by simp) o e
 item:=by
  intro X hP hw hK hc i pins s σ H E I hf st hg;subst hP hw hK;obtain⟨dz,hi⟩:=hg;obtain⟨hz,hs,vs,RA,Tx,rel,QR,dat⟩:=xu I dz;rw[So]at QR;cases QR;have hl:=pU rel;have hx:vs[i]? =some vs[i]:=Fk (by omega)
  obtain⟨q,hq,eq⟩:=Ie rel hx;obtain⟨f0,f1,f2,f3,f4,f5⟩:=hf it (by simp)
  rw[hl]at st;refine wpAny_pyNext_dict_item (k:=vs[i].1) (v:=vs[i].2) st dat hx λkey h' R7 Pc sb=>?_;have I1:Inv X pins σ H {s with heap:=h'}:=I.turned (t':=s.toks) (λb o hb e=>(sb.2 b hb).trans e) f0 f1 f3 f4 f5;obtain⟨o,e,c,d⟩:=id Pc;rw[<-hl]at Pc;exact⟨key,rfl,L2.lL (s:={s with heap:=h'}) e c d (by decide) ⟨L2.kV q.1,H,I1,by rw[eq];exact DB R7,⟨rfl,q,hq,rfl⟩,Pc,λb hb=>(hf b hb).1⟩⟩
 done:=by
  intro X hP hw hK hc i pins s σ H E I hf st hg;subst hP hw hK;obtain⟨dz,hi⟩:=hg;obtain⟨hz,hs,vs,RA,Tx,rel,QR,dat⟩:=xu I dz;rw[So]at QR;cases QR;have hl:=pU rel;obtain⟨f0,f1,f2,f3,f4,f5⟩:=hf it (by simp)
  rw[hl]at st;exact wpAny_pyNext_dict_end (I.ok.hd hc) st dat (List.getElem?_eq_none_iff.mpr (by omega)) λh' eb=>⟨rfl,I.turned (t':=s.toks) (λb o hb e=>eb b o hb e) f0 f1 f3 f4 f5⟩
 self:=λ_ _ _ _ _ st h=>wpAny_pyIter_keyiter st h
def IM(P:Program)(w:World)(K:PySem.W.Frag)(tl:TE):TI:=λσ H R=>tl σ H λx H1=>∃a ob j',x=.ref a/\jz P w K H1 a ob j'/\R (uU P w K a ob j') H1
theorem Ku(hl:PE X l tl):L2.PI X tg l (IM X.prog X.w X.K tl):=by
 intro pins s σ H R I h;refine L2.aW (hl pins s σ H _ I h) λv s1 ⟨x,H1,I1,r1,q1⟩=>?_;obtain⟨a,ob,j',e,dz,q⟩:=q1;subst e;cases r1;obtain⟨hz,hs,vs,es,ep,rel,So,dat⟩:=xu I1 dz;have hlen:=pU rel;refine wpAny_pyIter_dict hs dat ?_;rw[<-hlen];refine⟨s1.heap.objs.size,[s1.heap.objs.size],_,_,H1,rfl,I1.kept (t':=s1.toks) λb o e=>mB _ e,Lf a _ ob es ep So j',⟨_,JU _ rfl,rfl,rfl⟩,λb hb=>?_,q⟩;have e:b=s1.heap.objs.size:=by simpa using hb
 subst e;exact I1.mq (Gc _) (I1.aQ.fresh (Gc _))
noncomputable def mS(a:Ex):dD:=λρ=>(a ρ).bind λx=>match x with
 |.aA ks _=>.ok (ks.map cV)
 |_=>.bad
theorem Jb:Rep M H F (cV k) (L2.kV k):=by
 cases k with
 |inl i=>exact dM
 |inr x=>exact me
theorem K9{a:Addr}{ob:Obj}{ks:List Ky}{xs:List V}(hd:(¬F a/\H a=some (.frz ob (.dK (ks.zip xs))))\/jz M.P M.w M.K (λ_=>none) a ob (ks.zip xs))(hl:ks.length=xs.length):Gives M (uU M.P M.w M.K a ob (ks.zip xs)) H F (ks.map cV):=by
 intro H' F' mv tr;have Q7:(ks.zip xs).length=ks.length:=by rw[SB];omega
 have dz:jz M.P M.w M.K H' a ob (ks.zip xs):=by
  rcases hd with⟨n,h⟩|h
  ·exact .inl (mv _ _ n h).2
  ·rcases h with h|h
   ·cases h
   ·exact .inr h
 refine⟨λi d Q9=>?_,?_⟩
 ·obtain⟨hi,_⟩:=xM.mp Q9
  rw[GE]at hi;rw[MC,Fk hi]at Q9;cases Q9;refine⟨⟨dz,by omega⟩,λy H2 hy=>?_⟩
  obtain⟨rfl,kv,Yl,rfl⟩:=hy;obtain⟨hk,e⟩:=xM.mp Yl;have:kv.1=ks[i]:=by rw[<-e,List.getElem_zip]
  rw[this];exact⟨ar.refl _,Jb⟩
 ·exact⟨dz,by rw[GE,Q7]⟩
theorem Bb(ha:XE X l fa):XI X tg l (mS fa):=⟨have ha:=ha.out;pL (Ku ha) λσ H Q=>by
  rintro⟨ρ,F,ds,r,e,q⟩
  obtain⟨d,ed,e⟩:=aC.mp e;cases d with
  | aA ks vs=>
   cases e;refine⟨ρ,F,_,r,ed,λv H1 s1 rv=>?_⟩;simp only[Rep]at rv;obtain⟨a,xs,rfl,h,hl,rs⟩:=rv;obtain⟨ob,h1,h2⟩:=Gb h;exact⟨a,ob,_,rfl,h2,q _ H1 s1 (K9 (M:=aJ X) h1 hl)⟩
  |_=>cases e⟩
noncomputable def putL(k:Ky)(d:D)(ks:List Ky)(vs:List D):List Ky×List D:=if(ks.any λa=>decide (a=k))=true then(ks,List.zipWith (λa v=>if a=k then d else v) ks vs)else(ks++[k],vs++[d])
noncomputable def vb(i:Nat)(k e:Ex):Sm:=λρ=>(e ρ).bind λd=>(k ρ).bind λq=>match ρ[i]?,keyOf q with
 |some (.od ks vs),some y=>if ks.length<1000 then .ok (.next (ρ.set i (.od (putL y d ks vs).1 (putL y d ks vs).2)))else .bad
 |_,_=>.bad
theorem o7(k:Ky)(v:V)(hl:ks.length=xs.length):
  L2.putK (ks.zip xs) k v=(if(ks.any λa=>decide (a=k))=true then ks.zip (List.zipWith (λa x=>if a=k then v else x) ks xs)else(ks++[k]).zip (xs++[v])):=by
 have Vx:∀ {ks:List Ky} {xs:List V},ks.length=xs.length->((ks.zip xs).any λkv=>decide (kv.1=k))=(ks.any λa=>decide (a=k)):=by
  intro ks
  induction ks with
  |nil=>intro xs _;simp
  | cons a ks ih=>
   intro xs hl;cases xs with
   |nil=>simp at hl
   |cons x xs=>rw[aap,aak,aak,ih (by simpa using hl)]
 unfold L2.putK;rw[Vx hl];by_cases h:(ks.any λa=>decide (a=k))=true
 ·rw[AC h,AC h]
  have e:∀ {ks:List Ky} {xs:List V},ks.length=xs.length->(ks.zip xs).map (λkv=>if kv.1=k then(kv.1,v)else kv)=ks.zip (List.zipWith (λa x=>if a=k then v else x) ks xs):=by
   intro ks
   induction ks with
   |nil=>intro xs _;simp
   | cons a ks ih=>
    intro xs hl;cases xs with
    |nil=>simp at hl
    | cons x xs=>
     rw[aap,Pi,ih (by simpa using hl),Z6,aap]
     by_cases h:a=k
     ·simp[h]
     ·simp[h]
  exact e hl
 ·rw[DF h,DF h,List.zip_append hl]
  rfl
theorem yi(rd:Rep M H F d v):∀ {ks:List Ky} {ds:List D} {xs:List V},aj M H F ds xs->aj M H F (List.zipWith (λa y=>if a=k then d else y) ks ds) (List.zipWith (λa x=>if a=k then v else x) ks xs)
 |[],_,_,_=>by simpa using aj.nil
 | a::ks,[],xs,r=>by
  simp only[aj]at r;subst r;simpa using aj.nil
 | a::ks,y::ds,xs,r=>by
  simp only[aj]at r;obtain⟨x,QW,rfl,r1,r2⟩:=r;rw[Z6,Z6];refine aj.cons ?_ (yi rd r2);by_cases h:a=k
  ·rw[AC h,AC h];exact rd
  ·rw[DF h,DF h];exact r1
theorem MX(i:Nat)(hu:X.A.units+64<cLine)(hk:XE X k g)(he:XE X e f)(hN:X.N[i]? =some x:=by rfl)(hv:L2.fi X.env.scope x:=by exact Or.inl rfl)(hd:gV x:=by decide)(Oh:tx x:=by decide)(hs:swapsWith e (some (.Subscript (.Name x p2) k p3)) pos.line X.env=pure false:=by exact gF (by rfl)):XS X (.Assign [.Subscript (.Name x p2) k p3] e pos) (vb i g f):=⟨have hk:=hk.out;have he:=he.out;λF0=>
 dm (L2.rO (by omega) (L2.pv i hN hv hd Oh) hk he hs) λD σ H=>by
  rintro⟨ρ,F,fl,r,e,q⟩
  obtain⟨d,ed,e⟩:=aC.mp e;obtain⟨y,ey,e⟩:=aC.mp e
  have ⟨ks,vs,z,q1,hk,e9⟩:∃ks vs z,ρ[i]? =some (.od ks vs)/\keyOf y=some z/\(if ks.length<1000 then R.ok (Fl.next (ρ.set i (.od (putL z d ks vs).1 (putL z d ks vs).2)))else .bad)=.ok fl:=by
   cases hq:ρ[i]? with
   |none=>rw[hq]at e;cases e
   | some s=>
    rw[hq]at e;cases s with
    | od ks vs=>
     cases hz:keyOf y with
     |none=>rw[hz]at e;cases e
     |some z=>rw[hz]at e;exact⟨ks,vs,z,rfl,rfl,e⟩
    |_=>cases e
  by_cases OF:ks.length<1000
  ·rw[AC OF]at e9
   cases e9;have oi:bY ρ i:=.inr ⟨_,_,q1⟩;obtain⟨a,xs,ea,fa,ha,hl,rs⟩:=r.rs.od i _ _ q1;refine⟨ρ,F,d,r.rs,ed,λv H1 s1 rv=>⟨_,ea,ρ,F,y,(r.same s1).rs,ey,λw H2 s2 O0=>?_⟩⟩;have r2:=(r.same s1).same s2;have UI:=s2 _ _ (s1 _ _ ha);cases f7 hk O0;have RC:=rv.mv (M:=aJ X) (F':=F) (.same s2);have P5:=rs.mv (M:=aJ X) (F':=F) (.same (s1.trans s2))
   have Q7:(ks.zip xs).length<sizeLine:=by
    have:(sizeLine:Nat)=16777216:=aad;rw[SB];omega
   refine⟨a,_,rfl,L2.j6.k UI Q7,?_⟩;rw[o7 z v hl];unfold putL at q;by_cases hm:(ks.any λa=>decide (a=z))=true
   ·rw[AC hm]at q ⊢
    obtain⟨mv,r'⟩:=r2.chg (s:=.od ks (List.zipWith (λa y=>if a=z then d else y) ks vs)) oi ea (.inr ⟨_,_,_,rfl,rfl,by rw[aaj];omega,yi RC P5⟩)
    exact q _ _ _ (Mv.trans (.same (s1.trans s2)) mv) r'
   ·rw[DF hm]at q ⊢
    obtain⟨mv,r'⟩:=r2.chg (s:=.od (ks++[z]) (vs++[d])) oi ea (.inr ⟨_,_,_,rfl,rfl,by rw[KM,KM,hl];rfl,P5.append (aj.cons RC aj.nil)⟩)
    exact q _ _ _ (Mv.trans (.same (s1.trans s2)) mv) r'
  ·rw[DF OF]at e9;cases e9⟩
noncomputable def iU:D->D->R D
 |.lst ys,b=>if flat b=true/\ys.all flat=true/\ys.length<=1000000 then g6 b 0 ys else .bad
 |_,_=>.bad
theorem xB(ho:XE X o fo)(he:XE X e fe)(m:L2.M1 X o "index" apos e NW):XE X (.Call (.Attribute o "index" apos) [e] [] NW) (e2 iU fo fe):=⟨have ho:=ho.out;have he:=he.out;by
 intro pins s σ H Q I ⟨ρ,F,d,hr,e,q⟩;obtain⟨a,ea,e⟩:=aC.mp e;obtain⟨b,eb,e⟩:=aC.mp e;refine abb m.base m.sH m.line abI abL PySem.F.type_list_index (L2.aW (ho pins s σ H _ I ⟨ρ,F,a,hr,ea,λv H1 s1 rv=>(⟨s1,rv⟩:ar H H1/\Rep (aJ X) H1 F a v)⟩) λu s1 ⟨x,H1,I1,rx,Qw,ra⟩=>?_);cases a with
 | lst ys=>
  replace e:(if flat b=true/\ys.all flat=true/\ys.length<=1000000 then g6 b 0 ys else .bad)=.ok d:=e
  by_cases hf:flat b=true/\ys.all flat=true/\ys.length<=1000000
  ·rw[AC hf]at e
   obtain⟨fb,fs,ZA⟩:=hf;obtain⟨j,rfl,hj,hh⟩:=tG e;simp only[Rep]at ra;obtain⟨p,xs,rfl,hp,rs⟩:=ra;cases rx;obtain⟨aq,n,sl,_,h1,_⟩:=jX I1 hp;refine⟨⟨_,h1,rfl⟩,(λa' e'=>by cases e';exact⟨_,h1,rfl⟩),?_⟩
   rw[m.trees];refine aaf rfl (aal (aav (L2.aW (he pins s1 σ H1 _ I1 ⟨ρ,F,b,hr.same Qw,eb,λv H2 s2 rv=>(⟨s2,rv⟩:ar H1 H2/\Rep (aJ X) H2 F b v)⟩) λiv s2 ⟨y,H2,I2,ry,c8,rb⟩=>aaD ?_)));have Rz:=hp.mv (M:=aJ X) (F':=F) (.same c8);have P5:=rs.mv (M:=aJ X) (F':=F) (.same c8);obtain⟨Pb,n2,Q2,r2,g1,hz⟩:=jX I2 Rz;obtain⟨hl,heq⟩:=xJ fs fb P5 rb r2;have OH:s2.TypeIs (.ref p) "list":=⟨_,g1,rfl⟩
   have val:∀k (hk:k<Pb.toArray.size),L2.d6 y Pb.toArray[k]=cw (ys[k]'(by simp at hk;omega)) b:=λk hk=>by
    refine heq k _ _ (Fk _) (by simp at hk;simp[hk])
   refine abA abL OH PySem.F.entry_list_index (PySem.F.args_list_index_2 _ _) ((SeqAt.list_indexAt p Pb.toArray n2 none Q2 iv (L2.d6 y) j (by simp;omega) (by omega) ?_ ?_).inModel X.prog X.w) ⟨g1,λz hz=>L2.lA ry (mi fb rb) r2 (nv fs P5) z (by simpa using hz),?_⟩
   ·rw[val j (by simp;omega)]
    exact(hh j _ (Fk _)).1 rfl
   ·intro k hk QZ
    rw[val k hk];exact(hh k _ (Fk _)).2 QZ
   ·refine⟨.int _,H2,I2.tok _,⟨_,rfl⟩,?_⟩
    have:=q (.int ((0+j:Nat):Int)) H2 (Qw.trans c8) dM;simpa using this
  ·rw[DF hf]at e;cases e
 |_=>cases e⟩
theorem part_of(h:IsPart v lo):∃l:Option (Int×Tok),v=partValue l/\l.map (·.1)=lo:=by
 cases h with
 |none=>exact⟨none,rfl,rfl⟩
 |int i t=>exact⟨some (i,t),rfl,rfl⟩
end
end PL
namespace PySem
theorem E7:typeLookup (.type "list") "keys"=pure none:=am_miss_of_fast (by decide+kernel)
theorem DW
  (hx:s.heap.get? a=some o) (hc:o.cls=.type "list") (QG:o.data=.seq xs k) (hd:o.dict=none) (hA:A.handled=none)
  (h:∀h' tk,(∀b ob,s.heap.get? b=some ob->h'.get? b=some ob)->Q none {s with heap:=h',toks:=tk}):
  wpAny (model prog w) A (getAttr? (.ref a) "keys") Q E s:=by
 obtain⟨c,aA,dat,sl⟩:=o;simp only at hc QG hd;subst hc QG hd;obtain⟨hp,g,d,tk,os⟩:=s;have hT:∀VY,(⟨hp,g,d,VY,os⟩:Shared).TypeIs (.ref a) "list":=λ_=>⟨_,hx,rfl⟩;have f1:=sub_AttributeError;have f3:=abe.lookup;have f4:=abe.bind (.ref a);have f5:=am_list_getattr_none;unfold getAttr? getAttrBy? getAttrBy
 repeat (any_goals (first|assumption|exact hT _|((with_reducible show wpAny _ _ (call (Value.builtin "list.__getattribute__") _ _) _ _ _);refine abW abe (hT _) am_entry_list_getattribute (F.args_list_getattribute_2 _ _) (meets_getattribute_miss_list a xs k sl "keys" _ E7 (by decide+kernel) (by size_fits)) ⟨hx,hA,λh' VY e O2=>?_⟩)|wp_step))
 obtain⟨t',u',he⟩:=O2.there;show wpAny _ _ (getattributeRaised _ _ _ _ _ _ _) _ _ _;unfold getattributeRaised
 repeat (any_goals (first|assumption|wp_step))
 exact h _ _ O2.keeps
theorem sU:plainId "dict.update.loop"=true:=by decide+kernel
theorem BU:entryFor table "dict.update.loop"=some Builtin.«dict.update.loop»:=entryFor_of_tree (by kernel_rfl)
section
variable{prog:Program}{w:World}{A:Around}{R:Result->Shared->Prop}{I ax:Addr}
def xm{K:Type} [DecidableEq K] (knd:KeyKind prog w K) (h:Heap) (v:Value) (p:K×Value):Prop:=∃a key,v=.ref a/\PyProof.Rows.IsTup h a #[key,p.2]/\knd.is p.1 key=true
theorem J3{K:Type} [DecidableEq K] {knd:KeyKind prog w K} (hh:A.in1.handled=none) {d:Addr} {items:Array Value} {res:Value} (G':ax≠I) (UO:d≠I) (YS:d≠ax):∀(more:List (K×Value)) (i:Nat) (z:Int) (j':List (K×Value)) (s:Shared),items.size - i=more.length->i<=items.size->
  s.heap.IsListIter I ax i->s.heap.IsList ax items->s.heap.DictOf knd d j'->j'.length+more.length<=sizeLine->(∀(j:Nat) p,more[j]? =some p->∃v,items[i+j]? =some v/\xm knd s.heap v p)->
  (∀h' tk,(∀b o,b≠I->b≠d->s.heap.get? b=some o->h'.get? b=some o)->h'.DictOf knd d (merged j' more)->R (.ok (.ret res)) {s with heap:=h',toks:=tk})->
  codeAny (model prog w) A (.builtin "dict.update.loop" ⟨[.ref d,.ref I,rawInt z,res],[]⟩) R s:=by
 intro more
 induction more with
 | nil=>
  intro i z j' s hk hi hit hl hd hsz hp hR;have YG:i=items.size:=by simp at hk;omega
  subst YG;refine codeAny_builtin BU ?_;rw[acN sU _];show wpAny _ A.in1 (pyNext (.ref I) >>= _) _ _ s;refine cp (acC hh hit hl (by simp) λh' VR=>?_)
  show wpAny _ _ (Builtin.Dict.addKeywords d [] >>= _) _ _ _;refine cp (FM (FM ?_));exact hR h' s.toks (λb o hb _ e=>VR b o hb e) (hd.extBut VR UO)
 | cons p more ih=>
  intro i z j' s hk hi hit hl hd hsz hp hR;obtain⟨v,hv,YK⟩:=hp 0 p rfl;rw[Nat.add_zero]at hv;obtain⟨a,key,rfl,VQ,R7⟩:=YK;refine codeAny_builtin BU ?_;rw[acN sU _];show wpAny _ A.in1 (pyNext (.ref I) >>= _) _ _ s;refine cp (acp hit hl hv λh' RN RF=>?_);refine cp (aaI ?_);have Q9:h'.DictOf knd d j':=hd.extBut RF.extBut UO;have TU:h'.IsList ax items:=hl.extBut RF.extBut G'
  have qE:∀ {b xs},PyProof.Rows.IsTup s.heap b xs->b≠I/\b≠d:=λ{b xs} ht=>by
   obtain⟨o,ho,hc,_⟩:=ht;refine⟨λe=>?_,λe=>?_⟩
   ·obtain⟨o2,Qq,Q3,_⟩:=hit
    rw[<-e,ho]at Qq;cases Qq;rw[hc]at Q3;exact absurd Q3 (by decide)
   ·obtain⟨o2,_,_,Qq,Q3,_⟩:=hd
    rw[<-e,ho]at Qq;cases Qq;exact absurd (hc.symm.trans Q3.1) (by decide)
  have UJ:PyProof.Rows.IsTup h' a #[key,p.2]:=VQ.extBut RF.extBut (qE VQ).1;obtain⟨o,ho,hc,n,So⟩:=id UJ;refine cp (wpAny_tryCatch ?_);unfold Builtin.Dict.pairItems;refine cp (acr (show Shared.TypeIs {s with heap:=h'} (.ref a) "tuple" from⟨o,ho,hc⟩) ?_)
  rw[AC (by decide)]
  refine cp (ZX ho So (FM ?_));show wpAny _ _ (holding [key,p.2] (dictSet d key p.2)) _ _ _;refine aaI (wpAny_dictSet_pairs R7 Q9 (λZt Vg Rj=>?_) (by rw[Z1]at hsz;omega))
  refine FM ⟨acf sU _,ih (i+1) (z+1) (stored j' p.1 p.2) _ (by simp at hk ⊢;omega) (by simp at hk;omega) (RN.extBut Rj.extBut (P3 UO)) (TU.extBut Rj.extBut (P3 YS)) Vg ?_ (λj q hq=>?_) λh3 Yb k3 d3=>?_⟩
  ·have:=stored_length_le j' p.1 p.2
   rw[Z1]at hsz;omega
  ·obtain⟨v2,R9,b,U2,rfl,Vv,Qz⟩:=hp (j+1) q (by simpa using hq)
   refine⟨_,by rw[show i+1+j=i+(j+1) by omega];exact R9,b,U2,rfl,?_,Qz⟩
   exact(Vv.extBut RF.extBut (qE Vv).1).extBut Rj.extBut (qE Vv).2
  ·refine hR h3 Yb (λb o hb Wx e=>k3 b o hb Wx ?_) d3
   rw[Rj.2 b Wx,RF.2 b hb];exact e
theorem Iy{E:Value->Shared->Prop}{s:Shared}{K:Type} [DecidableEq K] {knd:KeyKind prog w K} {a:Addr} {o:Obj} {items:Array Value} {n:Nat} {more:List (K×Value)} {Q:Value->Shared->Prop} (hh:A.handled=none)
  (hx:s.heap.get? a=some o) (hc:o.cls=.type "list") (QG:o.data=.seq items n) (QV:o.dict=none) (hlen:items.size=more.length) (hsz:more.length<=sizeLine) (hp:∀(j:Nat) p,more[j]? =some p->∃v,items[j]? =some v/\xm knd s.heap v p)
  (h:∀h' tk,(∀b ob,s.heap.get? b=some ob->h'.get? b=some ob)->h'.DictOf knd s.heap.objs.size (merged [] more)->Q (.ref s.heap.objs.size) {s with heap:=h',toks:=tk}):
  wpAny (model prog w) A (call (.type "dict") [.ref a]) Q E s:=by
 refine callType_codes (Q₁:=λobj B'=>obj=.ref s.heap.objs.size/\B'={s with heap:=s.heap.push {cls:=.type "dict",data:=.dict #[]} }) F.kt_called_dict (F.kt_typeCall_dict_1 _) F.entry_dict_init (kt_code_dict_new _ ⟨rfl,rfl⟩) ?_;rintro obj B' ⟨rfl,rfl⟩;have OY:(s.heap.push {cls:=.type "dict",data:=.dict #[]}).DictOf knd s.heap.objs.size []:=Heap.DictOf.new s.heap;have O2:(s.heap.push {cls:=.type "dict",data:=.dict #[]}).get? a=some o:=mB _ hx;have OF:a<s.heap.objs.size:=GM hx;have Yn:Shared.TypeIs {s with heap:=s.heap.push {cls:=.type "dict",data:=.dict #[]} } (.ref a) "list":=⟨o,O2,hc⟩;refine⟨OY.typeIs,F.args_dict_init_2 _ _,?_⟩;unfold Builtin.«dict.__init__»;refine cp ?_;unfold Builtin.Dict.selfAndRest;refine cp (wpAny_notOrdered_dict OY.typeIs ?_);show wpAny _ _ (pure (s.heap.objs.size,[Value.ref a])) _ _ _;refine FM ?_;show wpAny _ _ (Builtin.Dict.updateFrom "dict.__init__" s.heap.objs.size (.ref a) [] .none) _ _ _;unfold Builtin.Dict.updateFrom;refine cp (acr Yn ?_);rw[AC (by decide)]
 refine cp (DW O2 hc QG QV hh λh1 Zq k1=>?_);show wpAny _ _ (rule "dict.__init__.from-pairs" >>= _) _ _ _;refine cp (abX ?_);have zA:h1.IsList a items:=⟨o,k1 _ _ O2,hc,n,QG⟩;refine cp (aba zA ?_)
 have R3:s.heap.objs.size<h1.objs.size:=by
  obtain⟨o',_,_,Pz,_⟩:=OY;exact GM (k1 _ _ Pz)
 refine FM ⟨acf sU _,?_⟩;refine J3 (knd:=knd) (prog:=prog) (w:=w) (A:=A.in1) (I:=h1.objs.size) (ax:=a) hh (Pv (abm OF R3)) (Pv R3) (aas OF) more 0 0 [] _ (by simpa using hlen) (Xm _) ?_ ?_ ?_ (by simpa using hsz) (λj p hj=>?_) λh2 Yt k2 d2=>?_
 ·exact⟨_,JU _ rfl,rfl,rfl⟩
 ·exact zA.push _
 ·obtain⟨o',es,ep,Pz,r⟩:=OY
  exact⟨o',es,ep,mB _ (k1 _ _ Pz),r⟩
 ·obtain⟨v,hv,b,key,rfl,ht,hk⟩:=hp j p hj
  exact⟨_,by rw[aaX];exact hv,b,key,rfl,((ht.push _).keeps k1).push _,hk⟩
 ·refine⟨rfl,h h2 Yt (λb ob hb=>?_) d2⟩
  have WJ:b<s.heap.objs.size:=GM hb;exact k2 b ob (Pv (abm WJ R3)) (Pv WJ) (mB _ (k1 _ _ (mB _ hb)))
end
end PySem
namespace PL
open PySem PySem.Spec
open L2 (V Hp HO Cx PE PT PW PA PS cH PG dk VK TE TT TA TS TI TG Inv RelV Vals Rd bP bW upd ar Key XK Ends bA dJ cj R2 EP It Turn cX Un)
noncomputable def Hs:List D->List Ky->List D->R D
 |[],ks,vs=>.ok (.aA ks vs)
 | .tup [k,v]::r,ks,vs=>match keyOf k with
  |some q=>Hs r (putL q v ks vs).1 (putL q v ks vs).2
  |none=>.bad
 |_,_,_=>.bad
section
variable{X:Cx}{M:Md}{G H H':Hp}{F0:Gf}{F F':acS}{σ:L2.St}{ρ:En}{pos:Pos}{pins:List (Addr×Obj)}{s:Shared}
theorem LP(hl:ks.length=xs.length)(rs:aj M H F vs xs)(rd:Rep M H F d v):
  ∃ys,L2.putK (ks.zip xs) k v=(putL k d ks vs).1.zip ys/\(putL k d ks vs).1.length=ys.length/\aj M H F (putL k d ks vs).2 ys:=by
 rw[o7 k v hl];unfold putL;by_cases hm:(ks.any λa=>decide (a=k))=true
 ·rw[AC hm,AC hm]
  exact⟨_,rfl,by rw[aaj];show ks.length=min ks.length xs.length;omega,yi rd rs⟩
 ·rw[DF hm,DF hm]
  exact⟨_,rfl,by rw[KM,KM,hl];rfl,rs.append (aj.cons rd aj.nil)⟩
def mr(M:Md)(H:Hp)(F:acS):List V->List (Key×V)->Prop
 |[],[]=>True
 |x::xs,p::ps=>(∃a,x=.ref a/\fG M H F a [L2.kV p.1,p.2])/\mr M H F xs ps
 |_,_=>False
theorem zz(I:Inv X pins σ H s):∀ {ps:List V} {more:List (Key×V)} {aq:acQ},mr (aJ X) H F ps more->Vals ps aq->∃ms:List (Key×Value),L2.KV more ms/\ms.length=aq.length/\∀(j:Nat) p,ms[j]? =some p->∃v,aq[j]? =some v/\xm (L2.cK X.prog X.w) s.heap v p
 |[],[],aq,_,hv=>by cases hv;exact⟨[],.nil,rfl,λj p h=>by simp at h⟩
 | x::ps,p::more,aq,h,hv=>by
  obtain⟨⟨a,rfl,ht⟩,h⟩:=h;cases hv with
  | cons rv hv=>
   cases rv;obtain⟨ms,k1,k2,k3⟩:=zz I h hv;obtain⟨ts,tv,tt,_⟩:=mN I ht;obtain⟨u1,u2,rfl,Vz,UH⟩:=L2.vals2 tv;refine⟨(p.1,u2)::ms,.cons ⟨rfl,UH⟩ k1,by simp[k2],λj q hq=>?_⟩
   cases j with
   |zero=>cases hq;exact⟨_,rfl,a,u1,rfl,tt,L2.iX Vz⟩
   |succ j=>exact k3 j q hq
 |[],_::_,_,h,_=>h.elim
 |_::_,[],_,h,_=>h.elim
def MS(M:Md):List V->Hp->VK->Prop:=λxs H Q=>∃F l ps more,xs=[.ref l]/\g8 M H F l ps/\mr M H F ps more/\more.length<=1000/\∀p,H p=none->Q (.ref p) (upd H p (.dK (L2.eO [] more)))
theorem Kc(hc:X.calm=true):cj X (.type "dict") (MS (aJ X)):=by
 intro pins s σ H xs us Q I r h;obtain⟨F,l,ps,more,rfl,hl,hp,hz,q⟩:=h;obtain⟨u,rfl,ru⟩:=L2.vals1 r;cases ru;obtain⟨aq,n,sl,hv,hg,_⟩:=jX I hl;obtain⟨ms,k1,k2,k3⟩:=zz I hp hv;have hlen:=k1.length;have h3:(sizeLine:Nat)=16777216:=aad;refine Iy (knd:=L2.cK X.prog X.w) (more:=ms) (I.ok.hd hc) hg rfl rfl rfl (by rw[IR];exact k2.symm) (by omega) (λj p hj=>by rw[abS];exact k3 j p hj) λh' tk hk dd=>?_
 have hm:(L2.eO [] more).length<=sizeLine:=by
  have:=L2.sy more [];rw[abx]at this;omega
 exact⟨.ref _,_,I.laid (a:=s.heap.objs.size) (o:=.dK (L2.eO [] more)) (t':=tk) hk (Gc _) (L2.oG hm (ZY.mpr (P3 (Pv I.big))) (k1.merge .nil) dd),rfl,q _ (I.aQ.fresh (Gc _))⟩
inductive Cv(M:Md)(f:Ex)(σ:L2.St)(H:Hp)(Q:VK):Prop
 |mk:∀ρ F ks ds,bC M H F σ ρ->f ρ=.ok (.aA ks ds)->(∀p H' xs,ar H H'->H' p=none->ks.length=xs.length->aj M H' F ds xs->Q (.ref p) (upd H' p (.dK (ks.zip xs))))->Cv M f σ H Q
abbrev JD(X:Cx)(e:Expr)(f:Ex):Prop:=PE X e (Cv (aJ X) f)
structure XD(X:Cx)(e:Expr)(f:Ex):Prop where
 out:JD X e f
theorem Cs(i:Nat)(hN:X.N.Nodup)(he:XD X e f)(hi:X.N[i]? =some x:=by rfl)(hx:L2.Loc X.env.scope x:=by exact Or.inl rfl)(hf:X.fn x=true\/X.env.scope.names.lookup x=some .local:=by exact .inl rfl)(hs:swapsWith e (some (.Name x p2)) pos.line X.env=pure false:=by exact gF (by rfl)):XS X (.Assign [.Name x p2] e pos) (yb i f):=⟨have he:=he.out;λF0=>
 dm (L2.kW hN hi hx he hs hf) λD σ H=>by
  rintro⟨ρ,F,fl,r,e,q⟩
  obtain⟨d,ed,e⟩:=aC.mp e;split at e
  ·cases e
   refine⟨ρ,F,_,_,r.rs,ed,λp H1 xs s1 hp hl rs=>?_⟩;obtain⟨mv,r'⟩:=(r.same s1).new (i:=i) (s:=.od _ _) hp (.inr ⟨_,_,xs,rfl,rfl,hl,rs⟩);exact q _ _ _ (Mv.trans (.same s1) mv) r'
  ·cases e⟩
noncomputable def fI:List Ky->List D->List Ky->List D->List Ky×List D
 |k::ks,v::vs,as,bs=>fI ks vs (putL k v as bs).1 (putL k v as bs).2
 |_,_,as,bs=>(as,bs)
noncomputable def B7(i:Nat)(e:Ex):Sm:=λρ=>(e ρ).bind λd=>match d,ρ[i]? with
 |.aA ks vs,some (.od as bs)=>if ks.length+as.length<1000 then .ok (.next (ρ.set i (.od (fI ks vs as bs).1 (fI ks vs as bs).2)))else .bad
 |_,_=>.bad
theorem BO:∀ {ks:List Ky} {vs:List D} {ys:List V} {as:List Ky} {bs:List D} {xs:List V},ks.length=ys.length->aj M H F vs ys->as.length=xs.length->aj M H F bs xs->
  ∃zs,L2.eO (as.zip xs) (ks.zip ys)=(fI ks vs as bs).1.zip zs/\(fI ks vs as bs).1.length=zs.length/\aj M H F (fI ks vs as bs).2 zs
 | [],vs,ys,as,bs,xs,_,_,hl,rs=>by
  have:fI [] vs as bs=(as,bs):=by unfold fI;cases vs<;>rfl
  rw[this];exact⟨xs,rfl,hl,rs⟩
 | k::ks,vs,ys,as,bs,xs,h,rv,hl,rs=>by
  cases ys with
  |nil=>cases h
  | cons y ys=>
   cases vs with
   |nil=>simp only[aj]at rv;cases rv
   | cons v vs=>
    simp only[aj]at rv;obtain⟨_,_,e,r1,r2⟩:=rv;cases e;obtain⟨zs,e1,l1,UD⟩:=LP (k:=k) hl rs r1;obtain⟨ws,e2,l2,P5⟩:=BO (by simpa using h) r2 l1 UD
    refine⟨ws,?_,l2,P5⟩;show L2.eO (L2.putK (as.zip xs) k y) (ks.zip ys)=_;rw[e1];exact e2
theorem DI(I0:Inv X pins σ H s)(e0:H a=some (.dK j'))(I1:Inv X pins σ H1 s1)(e1:H1 a=some (.frz ob (.dK j'))):Inv X pins σ (upd H1 a (.dK j')) s1:=by
 have nn:∀ {b},H1 b=none->upd H1 a (.dK j') b=none:=λ{b} h=>by rw[L2.aN (λz=>by subst z;rw[e1]at h;cases h)];exact h
 refine⟨I1.ok,I1.os,I1.bare,⟨I1.base.keep,I1.base.slot,λb o h n x=>nn (I1.base.free b o h n x),I1.base.there,λb xs h=>?_,λb o u h=>?_,λb ps h=>?_⟩,I1.loc,I1.cell,nn I1.free,λx c h=>nn (I1.gH x c h),λp hp=>?_,λb o h=>?_,I1.len⟩
 ·have h1:=I1.base.ik b xs h
  rw[L2.aN (λz=>by subst z;rw[e1]at h1;cases h1)];exact h1
 ·have h0:=I0.base.gj b o u h
  rw[L2.aN (λz=>by subst z;rw[e0]at h0;cases h0)];exact I1.base.gj b o u h
 ·have h1:=I1.base.fY b ps h
  rw[L2.aN (λz=>by subst z;rw[e1]at h1;cases h1)];exact h1
 ·obtain⟨h1,h2,h3⟩:=I1.pin p hp
  exact⟨h1,nn h2,h3⟩
 ·by_cases hb:b=a
  ·subst hb
   rw[L2.bO]at h;cases h;obtain⟨_,z,y,vs,r,dd⟩:=I1.aQ b _ e1;exact⟨z,y,vs,r,dd⟩
  ·rw[L2.aN hb]at h
   refine(I1.aQ b o h).iA (λc u _ q=>q) (λc q=>?_) (λc xs q=>?_) λc xs q=>?_
   ·rw[L2.aN (λz=>by subst z;rw[e1]at q;cases q)];exact q
   ·rw[L2.aN (λz=>by subst z;rw[e1]at q;cases q)];exact q
   ·rw[L2.aN (λz=>by subst z;rw[e1]at q;cases q)];exact q
mutual
theorem Rep.nq(o:∀a xs,fG M H F a xs->fG M H2 F2 a xs):∀ {d:D} {v:V},i9 d=true->Rep M H F d v->Rep M H2 F2 d v
 |.aE,_,_,h=>by simp only[Rep]at h ⊢;exact h
 |.bl _,_,_,h=>by simp only[Rep]at h ⊢;exact h
 |.int _,_,_,h=>by simp only[Rep]at h ⊢;exact h
 |.str _,_,_,h=>by simp only[Rep]at h ⊢;exact h
 | .tup ds,_,n,h=>by
  simp only[Rep]at h ⊢;obtain⟨a,xs,e,t,r⟩:=h;exact⟨a,xs,e,o _ _ t,aj.nq o (by unfold PL.i9 at n;exact n) r⟩
 |.lst _,_,n,_=>by unfold PL.i9 at n;cases n
 |.aA _ _,_,n,_=>by unfold PL.i9 at n;cases n
 |.cE _ _ _,_,n,_=>by unfold PL.i9 at n;cases n
theorem aj.nq(o:∀a xs,fG M H F a xs->fG M H2 F2 a xs):∀ {ds:List D} {xs:List V},qG ds=true->aj M H F ds xs->aj M H2 F2 ds xs
 |[],_,_,h=>by simp only[aj]at h ⊢;exact h
 | d::ds,_,n,h=>by
  unfold qG at n;rw[mO]at n;simp only[aj]at h ⊢;obtain⟨x,r,e,h1,h2⟩:=h;exact⟨x,r,e,Rep.nq o n.1 h1,aj.nq o n.2 h2⟩
end
end
noncomputable def qL(fk fv:Ex):Ex:=λρ=>(fk ρ).bind λk=>(fv ρ).bind λv=>match keyOf k with
 |some q=>.ok (.aA [q] [v])
 |none=>.bad
section
variable{X:Cx}{M:Md}{G H H':Hp}{F0:Gf}{F F':acS}{σ:L2.St}{ρ:En}{pos:Pos}{pins:List (Addr×Obj)}{s:Shared}
theorem yu(hk:XE X k fk)(hv:XE X v fv):XE X (.Dict [some k] [v] pos) (qL fk fv):=⟨have hk:=hk.out;have hv:=hv.out;by
 refine vF (L2.sJ (L2.pZ hk hv L2.qN) rfl rfl (by simp) (by show 1<=15;decide)) λσ H Q ⟨ρ,F,d,hr,e,q⟩=>?_
 obtain⟨a,ea,e⟩:=aC.mp e;obtain⟨b,eb,e⟩:=aC.mp e;split at e
 ·rename_i z hz
  cases e;intro p hp;have P4:=hr.fresh (o:=.dK []) hp;refine⟨ρ,_,a,P4,ea,λx H1 s1 rx=>⟨ρ,_,b,P4.same s1,eb,λy H2 s2 ry=>?_⟩⟩;cases f7 hz rx;have e2:H2 p=some (.dK []):=s2 _ _ (s1 _ _ L2.bO);refine⟨e2,[(z,y)],rfl,(by show 1<=15;decide),p,[(z,y)],rfl,L2.bO,λob=>?_⟩
  rw[L2.uH]
  have sm:ar H (upd H2 p (.frz ob (.dK [(z,y)]))):=λc u hc=>by
   have ne:c≠p:=λw=>by subst w;rw[hp]at hc;cases hc
   rw[L2.aN ne];exact s2 _ _ (s1 _ _ (by rw[L2.aN ne];exact hc))
  have nF:¬F p:=oV hr.bw hp;have mv:Mv (λb=>F b\/b=p) H2 F (upd H2 p (.frz ob (.dK [(z,y)]))):=λb u n e=>⟨λh=>n (.inl h),by rw[L2.aN (λz=>n (.inr z))];exact e⟩
  refine q _ _ sm ?_;simp only[Rep];exact⟨p,[y],rfl,.inl ⟨nF,ob,L2.bO⟩,rfl,aj.cons (ry.mv mv) aj.nil⟩
 ·cases e⟩
end
theorem T.cs{P:T->Prop}(d:∀x,P (.d x))(l:∀ts,P (.l ts))(m:∀ks ts,P (.m ks ts))(tu:∀ts,P (.tu ts))(mx:∀ks ts,P (.mx ks ts)):∀t,P t
 |.d y=>d y
 |.n .l ts=>l ts
 |.n (.m ks) ts=>m ks ts
 |.n .u ts=>tu ts
 |.n (.x ks) ts=>mx ks ts
noncomputable def Kd.toD:Kd->List D->D
 |.l,ds=>.lst ds
 |.m ks,ds=>.aA ks ds
 |.u,ds=>.tup ds
 |.x _,ds=>.cE ⟨#[]⟩ [⟨#[]⟩,⟨#[]⟩] ds
mutual
noncomputable def T.toD:T->D
 |.d x=>x
 |.n k ts=>k.toD (T.fH ts)
noncomputable def T.fH:List T->List D
 |[]=>[]
 |t::ts=>T.toD t::T.fH ts
end
noncomputable def T.at:T->List Nat->Option T
 |t,[]=>some t
 | .n _ ts,k::p=>match ts[k]? with
  |some t=>T.at t p
  |none=>none
 |.d _,_::_=>none
noncomputable def T.put(n:T):T->List Nat->T
 |_,[]=>n
 | .n kd ts,k::p=>match ts[k]? with
  |some t=>.n kd (ts.set k (T.put n t p))
  |none=>.n kd ts
 |.d x,_::_=>.d x
section
variable{X:Cx}{M:Md}{G H H':Hp}{F0:Gf}{F F':acS}{σ:L2.St}{ρ:En}{pos:Pos}{pins:List (Addr×Obj)}{s:Shared}
mutual
theorem aL.less(hs:∀a,F' a->F a):∀ {t:T} {v:V} {as:Zx},(∀b∈as,F' b)->aL M H F t v as->aL M H F' t v as
 | .d x,v,as,_,h=>by
  simp only[aL]at h ⊢;exact⟨h.1,h.2.sub hs⟩
 | .n kd ts,v,as,k,h=>by
  simp only[aL]at h ⊢;obtain⟨a,xs,bs,e1,rfl,f,e2,l,r⟩:=h;exact⟨a,xs,bs,e1,rfl,⟨λz=>f.mp (hs a z),λo=>k a (Kd.top o)⟩,e2,l,aD.less hs (λb hb=>k b (Kd.sub hb)) r⟩
theorem aD.less(hs:∀a,F' a->F a):∀ {ts:List T} {xs:List V} {as:Zx},(∀b∈as,F' b)->aD M H F ts xs as->aD M H F' ts xs as
 |[],xs,as,_,h=>by simp only[aD]at h ⊢;exact h
 | t::ts,xs,as,k,h=>by
  simp only[aD]at h ⊢;obtain⟨x,r,bs,cs,e1,rfl,h1,h2⟩:=h;exact⟨x,r,bs,cs,e1,rfl,aL.less hs (λb hb=>k b (Ox _ hb)) h1,aD.less hs (λb hb=>k b (GT _ hb)) h2⟩
end
theorem aD.part:∀ {ts:List T} {xs:List V} {as:Zx} {k:Nat} {t:T},aD M H F ts xs as->ts[k]? =some t->∃x bs,xs[k]? =some x/\aL M H F t x bs/\bs.Sublist as
 |[],_,_,_,_,_,e=>by simp at e
 | t::ts,xs,as,0,_,h,e=>by
  simp only[aD]at h;obtain⟨x,r,bs,cs,rfl,rfl,h1,h2⟩:=h;cases e;exact⟨x,bs,rfl,h1,List.sublist_append_left _ _⟩
 | t::ts,xs,as,k+1,_,h,e=>by
  simp only[aD]at h;obtain⟨x,r,bs,cs,rfl,rfl,h1,h2⟩:=h;obtain⟨y,ds,h3,h4,h5⟩:=aD.part h2 (by simpa using e)
  exact⟨y,ds,by simpa using h3,h4,h5.trans (aaM _ _)⟩
theorem aD.chg{H2:Hp}{F2:acS}{N:Zx}{c:Addr}{t':T}{x:V}(m:Mv F H F2 H2)(hk:∀b u,b≠c->H b=some u->H2 b=some u)(RS:∀b,F b->F2 b):∀ {j:Nat} {ts:List T} {xs:List V} {as:Zx} {t:T},aD M H F ts xs as->as.Nodup->ts[j]? =some t->xs[j]? =some x->
  (∀bs,aL M H F t x bs->bs.Nodup->c∈bs/\∃bs',aL M H2 F2 t' x bs'/\bs'.Nodup/\(∀b∈bs',b∈bs\/(b∈N/\H b=none))/\∀b∈N,b∈bs')->
  c∈as/\∃as',aD M H2 F2 (ts.set j t') xs as'/\as'.Nodup/\(∀b∈as',b∈as\/(b∈N/\H b=none))/\∀b∈N,b∈as'
 |j,[],_,_,_,_,_,e,_,_=>by simp at e
 | 0,t::ts,xs,as,_,h,nd,e,ex,k=>by
  simp only[aD]at h;obtain⟨y,r,bs,cs,rfl,rfl,h1,h2⟩:=h;cases e;cases ex;have Oc:=SZ.mp nd;obtain⟨hc,bs',k1,k2,k3,k4⟩:=k bs h1 Oc.1;refine⟨Ox _ hc,bs'++cs,?_,SZ.mpr ⟨k2,Oc.2.1,λa ha b hb z=>?_⟩,λb hb=>?_,λb hb=>Ox _ (k4 b hb)⟩
  ·rw[aaq]
   simp only[aD];refine⟨_,r,bs',cs,rfl,rfl,k1,h2.mv m λb hb u f hu=>⟨RS b f,hk b u (λz=>?_) hu⟩⟩;subst z;exact Oc.2.2 b hc b hb rfl
  ·subst z
   rcases k3 a ha with h|⟨_,h⟩
   ·exact Oc.2.2 a h a hb rfl
   ·obtain⟨_,u,hu⟩:=h2.fs a hb
    rw[h]at hu;cases hu
  ·rcases M0.mp hb with hb|hb
   ·exact(k3 b hb).imp (Ox _) id
   ·exact .inl (GT _ hb)
 | j+1,t::ts,xs,as,_,h,nd,e,ex,k=>by
  simp only[aD]at h;obtain⟨y,r,bs,cs,rfl,rfl,h1,h2⟩:=h;have Oc:=SZ.mp nd;obtain⟨hc,OU,k1,k2,k3,k4⟩:=aD.chg m hk RS h2 Oc.2.1 (by simpa using e) (by simpa using ex) k
  refine⟨GT _ hc,bs++OU,?_,SZ.mpr ⟨Oc.1,k2,λa ha b hb z=>?_⟩,λb hb=>?_,λb hb=>GT _ (k4 b hb)⟩
  ·rw[aaJ]
   simp only[aD];refine⟨y,r,bs,OU,rfl,rfl,h1.mv m λb hb u f hu=>⟨RS b f,hk b u (λz=>?_) hu⟩,k1⟩;subst z;exact Oc.2.2 b hb b hc rfl
  ·subst z
   rcases k3 a hb with h|⟨_,h⟩
   ·exact Oc.2.2 a ha a h rfl
   ·obtain⟨_,u,hu⟩:=h1.fs a ha
    rw[h]at hu;cases hu
  ·rcases M0.mp hb with hb|hb
   ·exact .inl (Ox _ hb)
   ·exact(k3 b hb).imp (GT _) id
structure eY(M:Md)(H H2:Hp)(F F2:acS)(c:Addr)(n0 n1:T)(Qh Pn:Zx):Prop where
 old:aL M H F n0 (.ref c) Qh
 mem:c∈Qh
 new:aL M H2 F2 n1 (.ref c) Pn
 nd:Pn.Nodup
 out:∀b u,b≠c->H b=some u->H2 b=some u
 fs:∀b,F2 b↔F b\/b∈Pn
 vL:∀b∈Pn,b∈Qh\/H b=none
theorem eY.fc(C:eY M H H2 F F2 c n0 n1 Qh Pn):F c:=(C.old.fs c C.mem).1
theorem eY.mv{H2:Hp}{F2:acS}{c:Addr}{n0 n1:T}{Qh Pn:Zx}(C:eY M H H2 F F2 c n0 n1 Qh Pn):Mv F H F2 H2:=λb o n e=>
 ⟨λf=>((C.fs b).mp f).elim n λhb=>(C.vL b hb).elim (λh=>n (C.old.fs b h).1) (λh=>by rw[h]at e;cases e),C.out b o (λz=>by subst z;exact n C.fc) e⟩
theorem aL.put{H2:Hp}{F2:acS}{n0 n1:T}{c:Addr}{Qh Pn:Zx}(C:eY M H H2 F F2 c n0 n1 Qh Pn):∀ {p:List Nat} {t:T} {v:V} {as:Zx},aL M H F t v as->as.Nodup->aK H t v p n0 (.ref c)->
  c∈as/\∃OI,aL M H2 F2 (T.put n1 t p) v OI/\OI.Nodup/\(∀b∈OI,b∈as\/(b∈Pn/\H b=none))/\∀b∈Pn,b∈OI
 | [],t,v,as,h,nd,e=>by
  have e':t=n0/\v=.ref c:=by cases t<;>exact e
  obtain⟨rfl,rfl⟩:=e';have:=aL.je C.old h;subst this;have ep:T.put n1 t []=n1:=by cases t<;>rfl
  rw[ep];exact⟨C.mem,Pn,C.new,C.nd,λb hb=>(C.vL b hb).imp id λh=>⟨hb,h⟩,λb hb=>hb⟩
 | k::p,.n kd ts,v,as,h,nd,e=>by
  simp only[aK]at e;simp only[aL]at h;obtain⟨a,xs,t1,x1,rfl,e2,l1,et,ex,e⟩:=e;obtain⟨a',ys,bs,ea,rfl,f,PX,l2,r⟩:=h;cases ea;have e9:xs=ys:=Kd.inj (k:=kd) (by rw[PX]at e2;injection e2 with z;exact z.symm) l1 l2
  subst e9;have Oc:=Kd.nodup.mp nd;obtain⟨hc,as',k1,k2,k3,k4⟩:=aD.chg (t':=T.put n1 t1 p) C.mv C.out (λb f=>(C.fs b).mpr (.inl f)) r Oc.2 et ex λbs' OW Yj=>aL.put C OW Yj e;refine⟨Kd.sub hc,kd.fQ a as',?_,Kd.nodup.mpr ⟨λo ha=>?_,k2⟩,λb hb=>?_,λb hb=>Kd.sub (k4 b hb)⟩
  ·show aL M _ _ (match ts[k]? with|some t=>T.n kd (ts.set k (T.put n1 t p))|none=>T.n kd ts) _ _
   rw[et];simp only[aL];refine⟨a,xs,as',rfl,rfl,?_⟩;by_cases o:kd.own=true
   ·exact⟨⟨λ_=>o,λ_=>(C.fs a).mpr (.inl (f.mpr o))⟩,C.out a _ (Kd.ne nd o hc) PX,l1,k1⟩
   ·have:=C.mv _ _ (λz=>o (f.mp z)) PX
    exact⟨⟨λz=>absurd z this.1,λz=>absurd z o⟩,this.2,l1,k1⟩
  ·rcases k3 a ha with h|⟨_,h⟩
   ·exact Oc.1 o h
   ·rw[h]at PX;cases PX
  ·rcases Kd.mem hb with⟨o,rfl⟩|hb
   ·exact .inl (Kd.top o)
   ·exact(k3 b hb).imp Kd.sub id
 |k::p,.d _,v,as,h,nd,e=>e.elim
end
section
variable{X:Cx}{M:Md}{G H H':Hp}{F0:Gf}{F F':acS}{σ:L2.St}{ρ:En}{pos:Pos}{pins:List (Addr×Obj)}{s:Shared}
theorem T.Fe{n:T}(hn:n.cZ=true):∀ {t:T} {p:List Nat},t.cZ=true->(T.put n t p).cZ=true
 |t,[],_=>by cases t<;>exact hn
 |.n kd ts,k::p,h=>by unfold T.put;split<;>rfl
 |.d x,k::p,h=>by cases h
theorem aK.part:∀ {p:List Nat} {t:T} {v:V} {t1:T} {w:V} {as:Zx},aL M H F t v as->aK H t v p t1 w->∃bs,aL M H F t1 w bs/\bs.Sublist as
 | [],t,v,t1,w,as,tr,h=>by
  have e':t=t1/\v=w:=by cases t<;>exact h
  obtain⟨rfl,rfl⟩:=e';exact⟨as,tr,S7 _⟩
 | k::p,.n kd ts,v,t1,w,as,tr,h=>by
  simp only[aK]at h;simp only[aL]at tr;obtain⟨a,xs,tp,xp,rfl,e2,l1,QO,exp,h⟩:=h;obtain⟨a2,ys,bs,SM,rfl,f,Q1,l2,r⟩:=tr;cases SM;have e9:xs=ys:=Kd.inj (k:=kd) (by rw[Q1]at e2;injection e2 with z;exact z.symm) l1 l2
  subst e9;obtain⟨V8,dp,Po,rp,Pj⟩:=r.part QO;rw[exp]at Po;cases Po;obtain⟨cs,h1,h2⟩:=aK.part rp h;exact⟨cs,h1,(h2.trans Pj).trans Kd.Lx⟩
 |k::p,.d _,v,t1,w,as,tr,h=>h.elim
theorem aD.apart:∀ {ts:List T} {xs:List V} {as:Zx} {j k:Nat} {tj tk:T} {xj xk:V} {bs cs:Zx},aD M H F ts xs as->as.Nodup->j≠k->ts[j]? =some tj->ts[k]? =some tk->xs[j]? =some xj->xs[k]? =some xk->aL M H F tj xj bs->aL M H F tk xk cs->∀b∈bs,b∉cs
 |[],_,_,_,_,_,_,_,_,_,_,_,_,_,e,_,_,_,_,_=>by simp at e
 | t::ts,xs,as,j,k,tj,tk,xj,xk,bs,cs,h,nd,G',ej,ek,Uy,UN,rj,rk=>by
  simp only[aD]at h;obtain⟨x,r,b1,c1,rfl,rfl,h1,h2⟩:=h;have Oc:=SZ.mp nd;cases j with
  | zero=>
   cases k with
   |zero=>exact absurd rfl G'
   | succ k=>
    cases ej;cases Uy;have:=aL.je h1 rj;subst this;obtain⟨y,ds,ey,ry,sub⟩:=h2.part (k:=k) (by simpa using ek)
    have Ri:r[k]? =some xk:=by simpa using UN
    rw[ey]at Ri;cases Ri;have:=aL.je ry rk;subst this;exact λb hb hc=>Oc.2.2 b hb b (sub.subset hc) rfl
  | succ j=>
   cases k with
   | zero=>
    cases ek;cases UN;have:=aL.je h1 rk;subst this;obtain⟨y,ds,ey,ry,sub⟩:=h2.part (k:=j) (by simpa using ej)
    have Ri:r[j]? =some xj:=by simpa using Uy
    rw[ey]at Ri;cases Ri;have:=aL.je ry rj;subst this;exact λb hb hc=>Oc.2.2 b hc b (sub.subset hb) rfl
   |succ k=>exact aD.apart (j:=j) (k:=k) h2 Oc.2.1 (by omega) (by simpa using ej) (by simpa using ek) (by simpa using Uy) (by simpa using UN) rj rk
theorem zl{α:Type}{l:List α}{k:Nat}{a b:α}(h:l[k]? =some a):(l.set k b)[k]? =some b:=by
 rw[Mk (xM.mp h).1]
noncomputable def below:List Nat->List Nat->Bool
 |[],_::_=>true
 |k::p,j::q=>decide (k=j)&&below p q
 |_,_=>false
theorem aL.head(h:aL M H F t (.ref c) as)(ho:t.own=true):c∈as:=by
 cases t with
 |d x=>cases ho
 |n kd ts=>simp only[aL]at h;obtain⟨a,xs,bs,e,rfl,_⟩:=h;cases e;exact Kd.top ho
theorem aK.put{H2:Hp}{F2:acS}{n0 n1:T}{c:Addr}{Qh Pn:Zx}(C:eY M H H2 F F2 c n0 n1 Qh Pn)(o1:n1.own=true):∀ {q:List Nat} {p:List Nat} {t:T} {v:V} {t1:T} {w:V} {as:Zx},aL M H F t v as->as.Nodup->aK H t v p n0 (.ref c)->aK H t v q t1 w->t1.cZ=true->below p q=false->
  ∃t2,t2.cZ=true/\aK H2 (T.put n1 t p) v q t2 w
 | [],p,t,v,t1,w,as,tr,nd,hp,hq,ho,_=>by
  have e':t=t1/\v=w:=by cases t<;>exact hq
  obtain⟨rfl,rfl⟩:=e';refine⟨T.put n1 t p,T.Fe (T.Bl o1) ho,?_⟩;generalize T.put n1 t p=t2;cases t2<;>exact⟨rfl,rfl⟩
 |k'::q,[],t,v,t1,w,as,tr,nd,hp,hq,ho,hb=>by cases hb
 | k'::q,k::p,.n kd ts,v,t1,w,as,tr,nd,hp,hq,ho,hb=>by
  simp only[aK]at hp hq;simp only[aL]at tr;obtain⟨a,xs,tp,xp,rfl,e2,l0,QO,exp,hp⟩:=hp;obtain⟨a1,Yy,tq,xq,Xz,VU,l1,TC,Sz,hq⟩:=hq;obtain⟨a2,ys,bs,SM,rfl,f,Q1,l2,r⟩:=tr;cases Xz;cases SM;have e8:Yy=ys:=Kd.inj (k:=kd) (by rw[Q1]at VU;injection VU with z;exact z.symm) l1 l2
  have e9:xs=ys:=Kd.inj (k:=kd) (by rw[Q1]at e2;injection e2 with z;exact z.symm) l0 l2
  subst e8 e9;have Oc:=Kd.nodup.mp nd;obtain⟨V8,dp,Po,rp,Pj⟩:=r.part QO;rw[exp]at Po;cases Po;obtain⟨hc,_⟩:=aL.put C rp (Oc.2.sublist Pj) hp
  have ha:H2 a=some (kd.ho xs):=by
   by_cases o:kd.own=true
   ·exact C.out a _ (Kd.ne nd o (Pj.subset hc)) Q1
   ·exact(C.mv _ _ (λz=>o (f.mp z)) Q1).2
  show ∃t2,t2.cZ=true/\aK _ (match ts[k]? with|some t=>T.n kd (ts.set k (T.put n1 t p))|none=>T.n kd ts) _ _ t2 w
  rw[QO];by_cases hkk:k=k'
  ·subst hkk
   rw[QO]at TC;cases TC;rw[exp]at Sz;cases Sz;obtain⟨t2,o2,h2⟩:=aK.put C o1 rp (Oc.2.sublist Pj) hp hq ho (by simpa[below] using hb)
   refine⟨t2,o2,?_⟩;simp only[aK];exact⟨a,_,_,_,rfl,ha,l2,zl QO,exp,h2⟩
  ·obtain⟨Zo,dq,SF,rq,WM⟩:=r.part TC
   rw[Sz]at SF;cases SF;refine⟨t1,ho,?_⟩;simp only[aK];refine⟨a,_,tq,xq,rfl,ha,l2,by rw[bU hkk];exact TC,Sz,hq.mv (λa o n e=>(C.mv a o n e).2) rq λb hb u fb hu=>C.out b u (λz=>?_) hu⟩
   subst z;exact aD.apart r Oc.2 hkk QO TC exp Sz rp rq _ hc hb
 |k'::q,k::p,.d _,v,t1,w,as,tr,nd,hp,hq,ho,_=>hp.elim
theorem bq.un{ρ':En}(r:bq M G F0 H F σ ρ)(hl:ρ'.length=ρ.length)(h:∀(j:Nat) s,ρ'[j]? =some s->s=.un\/ρ[j]? =some s):bq M G F0 H F σ ρ':=by
 have ow:∀j,bY ρ' j->bY ρ j:=λj o=>by
  rcases o with⟨ds,e⟩|⟨ks,ds,e⟩
  ·rcases h j _ e with z|z
   ·cases z
   ·exact .inl ⟨_,z⟩
  ·rcases h j _ e with z|z
   ·cases z
   ·exact .inr ⟨_,_,z⟩
 have on:∀(j:Nat) x,ρ'[j]? =some (.on x)->ρ[j]? =some (.on x):=λj x e=>(h j _ e).resolve_left λz=>nomatch z
 have at':∀(j:Nat) b,cy M H F σ ρ' j b->cy M H F σ ρ j b:=λj b ⟨t,v,as,e,z,z1,z2⟩=>⟨t,v,as,on j _ e,z,z1,z2⟩;refine⟨⟨by rw[hl,r.rs.len],r.rs.bw,λi d e=>?_,λi d e=>?_,λi k d e=>?_,λi j a oi oj=>r.rs.dg i j a (ow i oi) (ow j oj),λi x e=>?_⟩,r.sm,r.sub,r.d9,λi a o=>r.own i a (ow i o),λi x b e hb=>r.eF i x b (on i x e) (at' i b hb),λw hw t e=>r.pin w hw t (on _ _ e)⟩
 ·exact r.rs.sh i d ((h i _ e).resolve_left λz=>nomatch z)
 ·exact r.rs.ol i d ((h i _ e).resolve_left λz=>nomatch z)
 ·exact r.rs.od i k d ((h i _ e).resolve_left λz=>nomatch z)
 ·obtain⟨h1,h2,h3⟩:=r.rs.on i x (on i x e)
  refine⟨?_,λb hb k ok=>h2 b (at' i b hb) k (ow k ok),λt ht j t' ej hj b h4 h5=>h3 t ht j t' (on j _ ej) hj b (at' i b h4) (at' j b h5)⟩;cases x with
  |tr t=>exact h1
  |al k p=>exact λt et=>h1 t (on k _ et)
noncomputable def fX(i:Nat)(p:List Nat)(ρ:En):En:=ρ.map λs=>match s with
 |.on (.al k q)=>if k=i/\below p q=true then .un else s
 |s=>s
noncomputable def cq(i:Nat)(p:List Nat)(s:Slot):Slot:=match s with
 |.on (.al k q)=>if k=i/\below p q=true then .un else s
 |s=>s
theorem Hh:∀(z:Slot),cq i p z=.un\/(cq i p z=z/\∀q,z=.on (.al i q)->below p q=false)
 |.un=>.inl rfl
 |.sh _=>.inr ⟨rfl,λ_ h=>nomatch h⟩
 |.ol _=>.inr ⟨rfl,λ_ h=>nomatch h⟩
 |.od _ _=>.inr ⟨rfl,λ_ h=>nomatch h⟩
 |.on (.tr _)=>.inr ⟨rfl,λ_ h=>nomatch h⟩
 | .on (.al k q)=>by
  by_cases hc:k=i/\below p q=true
  ·exact .inl (AC hc)
  ·refine .inr ⟨DF hc,λq' hq=>?_⟩
   injection hq with hq;injection hq with h1 h2;subst h1 h2;cases hb:below p q with
   |false=>rfl
   |true=>exact absurd ⟨rfl,hb⟩ hc
theorem CL{i:Nat}{p:List Nat}{j:Nat}{s:Slot}(h:(fX i p ρ)[j]? =some s):s=.un\/(ρ[j]? =some s/\∀q,s=.on (.al i q)->below p q=false):=by
 have h:(ρ.map (cq i p))[j]? =some s:=h;rw[MC]at h;cases e:ρ[j]? with
 |none=>rw[e]at h;cases h
 | some z=>
  rw[e]at h;have h:cq i p z=s:=Rf h;rcases Hh (i:=i) (p:=p) z with h1|⟨h1,h2⟩
  ·exact .inl (h.symm.trans h1)
  ·rw[h1]at h;subst h;exact .inr ⟨rfl,h2⟩
theorem bq.drop(i:Nat)(p:List Nat)(r:bq M G F0 H F σ ρ):bq M G F0 H F σ (fX i p ρ):=r.un (by unfold fX;simp) λj s h=>(CL h).imp id abq
theorem bC.wt(r:bC M H F σ ρ)(e:ρ[i]? =some (.on (.tr t)))(ev:σ[i]? =some (some v))(tr:aL M H F t v as)(OY:∀b∈as',b∈as\/H b=none)(mv:Mv F H F' H')(PB:∀b u,b∉as->F b->H b=some u->F' b/\H' b=some u)(bw:∀a,F' a->∃o,H' a=some o)
  (Pd:aL M H' F' t' v as') (nd:as'.Nodup) (S':∀(j:Nat) p,ρ[j]? =some (Slot.on (.al i p))->∀t1 w,aK H t v p t1 w->t1.cZ=true->∃t2,t2.cZ=true/\aK H' t' v p t2 w):
  bC M H' F' σ (ρ.set i (.on (.tr t')))/\∀j b,cy M H' F' σ (ρ.set i (.on (.tr t'))) j b->(j=i/\b∈as')\/(j≠i/\cy M H F σ ρ j b/\b∉as'):=by
 have Qm:∀b∈as,cy M H F σ ρ i b:=λb hb=>⟨t,v,as,e,ev,tr,hb⟩;have fs:=tr.fs;have ro:=r.on i _ e;have hi:i<ρ.length:=(xM.mp e).1;have old:∀(j:Nat) x,j≠i->(ρ.set i (.on (.tr t')))[j]? =some x->ρ[j]? =some x:=λj x hj h=>by rw[bU (P3 hj)]at h;exact h
 have self:(ρ.set i (.on (.tr t')))[i]? =some (.on (.tr t')):=Mk hi
 have Pu:∀(j:Nat) x,(∀y,x≠Slot.on y)->(ρ.set i (.on (.tr t')))[j]? =some x->ρ[j]? =some x:=λj x hx h=>by
  by_cases hj:j=i
  ·subst hj;rw[self]at h;cases h;exact absurd rfl (hx _)
  ·exact old j x hj h
 have QJ:∀j,bY (ρ.set i (.on (.tr t'))) j->bY ρ j:=λj h=>by
  rcases h with⟨ds,h⟩|⟨ks,ds,h⟩
  ·exact .inl ⟨ds,Pu j _ (λy z=>nomatch z) h⟩
  ·exact .inr ⟨ks,ds,Pu j _ (λy z=>nomatch z) h⟩
 have keep:∀(j:Nat) b u,bY ρ j->σ[j]? =some (some (.ref b))->F b->H b=some u->F' b/\H' b=some u:=λj b u oj ej fb hu=>PB b u (λh=>ro.2.1 b (Qm b h) j oj ej) fb hu
 have U6:∀(j:Nat) t1,j≠i->ρ[j]? =some (.on (.tr t1))->∃v1 OI,σ[j]? =some (some v1)/\aL M H F t1 v1 OI/\OI.Nodup/\aL M H' F' t1 v1 OI/\∀b∈OI,cy M H F σ ρ j b/\b∉as:=λj t1 hj e1=>by
  obtain⟨⟨v1,OI,O4,Pe,RP⟩,_,_⟩:=r.on j _ e1;have h1:∀b∈OI,cy M H F σ ρ j b/\b∉as:=λb hb=>⟨⟨t1,v1,OI,e1,O4,Pe,hb⟩,λh=>ro.2.2 t rfl j t1 e1 hj b (Qm b h) ⟨t1,v1,OI,e1,O4,Pe,hb⟩⟩;exact⟨v1,OI,O4,Pe,RP,Pe.mv mv λb hb u f hu=>PB b u (h1 b hb).2 f hu,h1⟩
 have Ot:∀j b,cy M H' F' σ (ρ.set i (.on (.tr t'))) j b->(j=i/\b∈as')\/(j≠i/\cy M H F σ ρ j b/\b∉as'):=λj b=>by
  rintro⟨t1,v1,OI,e1,O4,Pe,hb⟩
  by_cases hj:j=i
  ·subst hj
   rw[self]at e1;cases e1;rw[ev]at O4;cases O4;have:=aL.je Pd Pe;subst this;exact .inl ⟨rfl,hb⟩
  ·obtain⟨v2,Sl,PM,mV,_,UU,h3⟩:=U6 j t1 hj (old j _ hj e1)
   rw[PM]at O4;cases O4;have:=aL.je UU Pe;subst this;refine .inr ⟨hj,(h3 b hb).1,λh=>(OY b h).elim (h3 b hb).2 λh=>?_⟩;obtain⟨_,u,hu⟩:=mV.fs b hb;rw[h]at hu;cases hu
 refine⟨⟨by simp[r.len],bw,λj d h=>?_,λj ds h=>?_,λj ks ds h=>?_,λj k a oj ok ej ek=>r.dg j k a (QJ j oj) (QJ k ok) ej ek,λj x h=>⟨?_,λb hb k ok ek=>?_,λt1 ht k t2 hk QZ b h1 h2=>?_⟩⟩,Ot⟩
 ·obtain⟨w,e1,g⟩:=r.sh j d (Pu j _ (λy z=>nomatch z) h)
  exact⟨w,e1,g.mv mv⟩
 ·have h0:=Pu j (.ol ds) (λy z=>nomatch z) h
  obtain⟨a,xs,e1,f,e2,g⟩:=r.ol j ds h0;obtain⟨f',e3⟩:=keep j a _ (.inl ⟨_,h0⟩) e1 f e2;exact⟨a,xs,e1,f',e3,g.mv mv⟩
 ·have h0:=Pu j (.od ks ds) (λy z=>nomatch z) h
  obtain⟨a,xs,e1,f,e2,l,g⟩:=r.od j ks ds h0;obtain⟨f',e3⟩:=keep j a _ (.inr ⟨_,_,h0⟩) e1 f e2;exact⟨a,xs,e1,f',e3,l,g.mv mv⟩
 ·by_cases hj:j=i
  ·subst hj
   rw[self]at h;cases h;exact⟨v,as',ev,Pd,nd⟩
  ·have h0:=old j _ hj h
   cases x with
   | tr t1=>
    obtain⟨v2,Sl,PM,_,Oc,UU,_⟩:=U6 j t1 hj h0;exact⟨v2,Sl,PM,UU,Oc⟩
   | al k p=>
    intro t1 T3;by_cases hk:k=i
    ·subst hk
     rw[self]at T3;cases T3;obtain⟨v1,w,t2,e1,e2,at2,o2⟩:=(r.on j _ h0).1 t e;rw[ev]at e1;cases e1;obtain⟨t3,o3,QC⟩:=S' j p h0 t2 w at2 o2;exact⟨v,w,t3,ev,e2,QC,o3⟩
    ·have Ub:=old k _ hk T3
     obtain⟨v2,Sl,PM,mV,_,_,h3⟩:=U6 k t1 hk Ub;obtain⟨v1,w,t2,e1,e2,at2,o2⟩:=(r.on j _ h0).1 t1 Ub;rw[PM]at e1;cases e1;exact⟨v2,w,t2,PM,e2,at2.mv (λa o n e=>(mv a o n e).2) mV (λb hb u f hu=>(PB b u (h3 b hb).2 f hu).2),o2⟩
 ·rcases Ot j b hb with⟨rfl,OW⟩|⟨_,OW,_⟩
  ·rcases OY b OW with h2|h2
   ·exact ro.2.1 b (Qm b h2) k (QJ k ok) ek
   ·obtain⟨a,_,u,_,e1,_,e2,_⟩:=r.ownAt (QJ k ok)
    rw[ek]at e1;cases e1;rw[h2]at e2;cases e2
  ·obtain⟨t9,v9,SV,e9,_⟩:=id OW
   exact(r.on j _ e9).2.1 b OW k (QJ k ok) ek
 ·rcases Ot j b h1 with⟨h3,h4⟩|⟨h3,h4,h6⟩
  ·rcases Ot k b h2 with⟨h5,_⟩|⟨_,_,h5⟩
   ·exact QZ (h5.trans h3.symm)
   ·exact h5 h4
  ·rcases Ot k b h2 with⟨_,h5⟩|⟨h5,h7,_⟩
   ·exact h6 h5
   ·exact(r.on j _ (old j _ h3 h)).2.2 t1 ht k t2 (old k _ h5 hk) QZ b h4 h7
theorem bq.wt(r:bq M G F0 H F σ ρ)(e:ρ[i]? =some (.on (.tr t)))(ev:σ[i]? =some (some v))(tr:aL M H F t v as)(OY:∀b∈as',b∈as\/H b=none)(mv:Mv F H F' H')(PB:∀b u,b∉as->F b->H b=some u->F' b/\H' b=some u)(bw:∀a,F' a->∃o,H' a=some o)
  (Pd:aL M H' F' t' v as') (nd:as'.Nodup) (S':∀(j:Nat) p,ρ[j]? =some (Slot.on (.al i p))->∀t1 w,aK H t v p t1 w->t1.cZ=true->∃t2,t2.cZ=true/\aK H' t' v p t2 w) (sm:∀b u,b∉as->H b=some u->H' b=some u) (sub:∀b,F b->b∉as->F' b):
  Mv F H F' H'/\bq M G F0 H' F' σ (ρ.set i (.on (.tr t'))):=by
 have Qm:∀b∈as,G b=none:=λb hb=>r.eF i _ b e ⟨t,v,as,e,ev,tr,hb⟩;obtain⟨rs,Ot⟩:=r.rs.wt e ev tr OY mv PB bw Pd nd S';refine⟨mv,⟨rs,λb u hb=>sm b u (λh=>by rw[Qm b h]at hb;cases hb) (r.sm b u hb),λb f=>sub b (r.sub b f) λh=>?_,r.d9,λj a oj ej=>r.own j a ?_ ej,λj x b h hb=>?_,λw hw t2 e2=>?_⟩⟩
 ·obtain⟨o,eo⟩:=r.d9 b f
  rw[Qm b h]at eo;cases eo
 ·rcases oj with⟨ds,h⟩|⟨ks,ds,h⟩
  ·rcases get_set h with⟨_,z,_⟩|⟨_,h⟩
   ·cases z
   ·exact .inl ⟨_,h⟩
  ·rcases get_set h with⟨_,z,_⟩|⟨_,h⟩
   ·cases z
   ·exact .inr ⟨_,_,h⟩
 ·rcases Ot j b hb with⟨_,h1⟩|⟨_,h1,_⟩
  ·rcases OY b h1 with h2|h2
   ·exact Qm b h2
   ·exact r.sm.free h2
  ·obtain⟨t9,v9,SV,e9,_⟩:=id h1
   exact r.eF j _ b e9 h1
 ·rcases get_set e2 with⟨z,_,_⟩|⟨_,e2⟩
  ·rw[<-z];have:=r.pin w hw t (by rw[<-z];exact e);rw[<-z]at this;exact this
  ·exact r.pin w hw t2 e2
theorem bq.CH(r:bq M G F0 H F σ ρ)(e:ρ[i]? =some (.on (.tr t)))(ev:σ[i]? =some (some v))(tr:aL M H F t v as)(OY:∀b∈as',b∈as\/H b=none)(Rv:∀b u,b∉as'->H b=some u->H' b=some u)
  (hF:∀b,F' b↔F b\/b∈as') (Pd:aL M H' F' t' v as') (nd:as'.Nodup) (S':∀(j:Nat) p,ρ[j]? =some (Slot.on (.al i p))->∀t1 w,aK H t v p t1 w->t1.cZ=true->∃t2,t2.cZ=true/\aK H' t' v p t2 w):
  Mv F H F' H'/\bq M G F0 H' F' σ (ρ.set i (.on (.tr t'))):=by
 have fs:=tr.fs
 have nb:∀b u,b∉as->H b=some u->b∉as':=λb u n eo hb=>by
  rcases OY b hb with h|h
  ·exact n h
  ·rw[h]at eo;cases eo
 refine r.wt e ev tr OY (λb o n eo=>?_) (λb u n f hu=>⟨(hF b).mpr (.inl f),Rv b u (nb b u n hu) hu⟩) (λa fa=>?_) Pd nd S' (λb u n hu=>Rv b u (nb b u n hu) hu) λb f _=>(hF b).mpr (.inl f)
 ·have h:=nb b o (λh=>n (fs b h).1) eo
  exact⟨λf=>((hF b).mp f).elim n h,Rv b _ h eo⟩
 ·by_cases ha:a∈as'
  ·exact(Pd.fs a ha).2
  ·obtain⟨o,ho⟩:=r.rs.bw a (((hF a).mp fa).resolve_right ha)
   exact⟨o,Rv a _ ha ho⟩
theorem DN{i j:Nat}{p:List Nat}{t:T}(h:ρ[j]? =some (.on (.tr t))):(fX i p ρ)[j]? =some (.on (.tr t)):=by
 unfold fX;rw[MC,h];rfl
theorem bq.qC{H2:Hp}{F2:acS}{i:Nat}{t n0 n1:T}{w:V}{p:List Nat}{c:Addr}{Qh Pn:Zx}(r:bq M G F0 H F σ ρ)(e1:ρ[i]? =some (.on (.tr t)))(e2:σ[i]? =some (some w))(OT:aK H t w p n0 (.ref c))(C:eY M H H2 F F2 c n0 n1 Qh Pn)(o1:n1.own=true):
  Mv F H F2 H2/\bq M G F0 H2 F2 σ ((fX i p ρ).set i (.on (.tr (T.put n1 t p)))):=by
 obtain⟨⟨w',as,ew,tr,nd⟩,_,_⟩:=r.rs.on i _ e1;rw[e2]at ew;cases ew;obtain⟨hc,OI,Pd,RP,k1,k2⟩:=aL.put C tr nd OT;have S0:c∈OI:=k2 c (C.new.head o1)
 exact(r.drop i p).CH (DN e1) e2 tr (λb hb=>(k1 b hb).imp id And.right) (λb u hb hu=>C.out b u (λz=>by subst z;exact hb S0) hu) (λb=>by
   rw[C.fs b];exact⟨λh=>h.imp id (k2 b),λh=>h.elim .inl λhb=>(k1 b hb).elim (λh=>.inl (tr.fs b h).1) λh=>.inr h.1⟩) Pd RP
  λj q hq t1 w1 Ua ho=>aK.put C o1 tr nd OT Ua ho (((CL hq).resolve_left λz=>nomatch z).2 q rfl)
noncomputable def iN(i:Nat)(ρ:En):Bool:=ρ.all λs=>match s with
 |.on (.al k _)=> !decide (k=i)
 |_=>true
noncomputable def xF(e:Ex):Xt:=λρ=>(e ρ).bind λd=>match d with
 |.lst ds=>.ok (.l (ds.map .d))
 |_=>.bad
noncomputable def gS:List Xt->En->R (List T)
 |[],_=>.ok []
 |f::fs,ρ=>(f ρ).bind λt=>(gS fs ρ).bind λts=>.ok (t::ts)
noncomputable def xL(fs:List Xt):Xt:=λρ=>(gS fs ρ).bind λts=>.ok (.l ts)
noncomputable def ym:Xt:=λ_=>.ok (.m [] [])
noncomputable def jV(i:Nat)(f:Xt):Sm:=λρ=>(f ρ).bind λt=>if iN i ρ=true/\2<=i then .ok (.next (ρ.set i (.on (.tr t))))else .bad
variable{as:Zx}
inductive qZ(M:Md)(f:En->R (List T))(σ:L2.St)(H:Hp)(Q:(List V->Hp->Prop)):Prop
 |mk:∀ρ F ts,bC M H F σ ρ->f ρ=.ok ts->(∀vs H' F' as,ar H H'->(∀b∈as,H b=none)->as.Nodup->(∀b,F' b↔F b\/b∈as)->aD M H' F' ts vs as->Q vs H')->qZ M f σ H Q
abbrev Iz(X:Cx)(es:acP)(f:En->R (List T)):Prop:=PA X es (qZ (aJ X) f)
structure nL(X:Cx)(e:acP)(f:En->R (List T)):Prop where
 out:Iz X e f
theorem Ng(h:JF X e f):JX X e (xF f):=
 b9 h λσ H Q=>by
  rintro⟨ρ,F,t,hr,e,q⟩
  obtain⟨d,ed,e⟩:=aC.mp e;cases d with
  | lst ds=>
   cases e;refine⟨ρ,F,ds,hr,ed,λp H1 xs s1 hp rs=>?_⟩;refine q (.ref p) _ (λb=>F b\/b=p) [p] (s1.trans (ar.dy hp _)) (λb hb=>by rw[PP.mp hb];exact s1.free hp) (by simp) (λb=>by simp) ?_
   simp only[cU,cW,cR,cS];refine⟨p,xs,[],rfl,rfl,.inr rfl,L2.bO,jW.mpr ⟨rfl,rs.mv λb o n e=>?_⟩⟩;have hb:b≠p:=λz=>by subst z;rw[hp]at e;cases e
   exact⟨λf=>f.elim n hb,by rw[L2.aN hb];exact e⟩
  |_=>cases e
theorem AH:nL X [] (gS []):=⟨ su L2.jj λσ H Q=>by
  rintro⟨ρ,F,ts,hr,e,q⟩
  cases e;exact q [] H F [] (ar.refl _) (λ_ hb=>nomatch hb) Z3 (λb=>by simp) (by rw[aD];exact⟨rfl,rfl⟩)⟩
theorem Hb(h1:∀σ H Q,rn M f σ H Q->te σ H Q)(h2:∀σ H Q,qZ M (gS fs) σ H Q->ta σ H Q)(h:qZ M (gS (f::fs)) σ H Q):L2.Af te ta σ H Q:=by
 obtain⟨ρ,F,ts,hr,e,q⟩:=h;obtain⟨t,et,e⟩:=aC.mp e;obtain⟨us,eu,e⟩:=aC.mp e;cases e;refine h1 _ _ _ ⟨ρ,F,t,hr,et,λv H1 F1 as s1 hn nd hF tr=>?_⟩;obtain⟨Qj,r1⟩:=hr.wide s1 hn hF (λb hb=>(tr.fs b hb).2);refine h2 _ _ _ ⟨ρ,F1,us,r1,eu,λvs H2 F2 bs s2 Th Oc RS N4=>?_⟩
 have apart:∀a∈as,∀b∈bs,a≠b:=λa ha b hb z=>by
  subst z;obtain⟨_,u,hu⟩:=tr.fs a ha;rw[Th a hb]at hu;cases hu
 have Ul:Mv F1 H1 F2 H2:=λb o n e=>⟨λf=>((RS b).mp f).elim n (λhb=>by rw[Th b hb]at e;cases e),s2 _ _ e⟩
 refine q (v::vs) H2 F2 (as++bs) (s1.trans s2) (λb hb=>?_) (SZ.mpr ⟨nd,Oc,apart⟩) (λb=>?_) ?_
 ·rcases M0.mp hb with hb|hb
  ·exact hn b hb
  ·exact s1.free (Th b hb)
 ·rw[RS b,hF b,M0,abf]
 ·simp only[aD]
  exact⟨v,vs,as,bs,rfl,rfl,tr.mv Ul λb hb u f hu=>⟨(RS b).mpr (.inl f),s2 _ _ hu⟩,N4⟩
theorem iW(h1:XX X e f)(h2:nL X es (gS fs))(hs:starEach (e::es) X.env=(false,eval e X.env)::starEach es X.env:=by exact bG (by rfl)):nL X (e::es) (gS (f::fs)):=⟨have h1:=h1.out;have h2:=h2.out;su (L2.gp h1 h2 hs) λσ H Q h=>Hb (λ_ _ _ h=>h) (λ_ _ _ h=>h) h⟩
theorem w5:∀ {fs:List Xt} {ts:List T},gS fs ρ=.ok ts->ts.length=fs.length
 |[],ts,h=>by cases h;rfl
 | f::fs,ts,h=>by
  obtain⟨t,et,h⟩:=aC.mp h;obtain⟨us,eu,h⟩:=aC.mp h;cases h;simp[w5 eu]
theorem Am(s1:ar H H')(hn:∀b∈as,H b=none)(nd:as.Nodup)(hF:∀b,F' b↔F b\/b∈as)(tr:aD M H' F' ts vs as)(hp:H' p=none):
  ar H (upd H' p (.lst vs))/\(∀b∈p::as,H b=none)/\(p::as).Nodup/\aL M (upd H' p (.lst vs)) (λb=>F b\/b∈p::as) (.l ts) (.ref p) (p::as):=by
 have QE:p∉as:=λhb=>by obtain⟨_,u,hu⟩:=tr.fs p hb;rw[hp]at hu;cases hu
 refine⟨s1.trans (ar.dy hp _),λb hb=>?_,MG.mpr ⟨QE,nd⟩,?_⟩
 ·rcases Da.mp hb with rfl|hb
  ·exact s1.free hp
  ·exact hn b hb
 ·simp only[cU,cW,cR,cS]
  refine⟨p,vs,as,rfl,rfl,.inr FB,L2.bO,tr.mv (λb o n e=>?_) λb hb u f hu=>?_⟩
  ·have hb:b≠p:=λz=>by subst z;rw[hp]at e;cases e
   refine⟨λf=>?_,by rw[L2.aN hb];exact e⟩
   rcases f with f|f
   ·exact n ((hF b).mpr (.inl f))
   ·rcases Da.mp f with f|f
    ·exact hb f
    ·exact n ((hF b).mpr (.inr f))
  ·have OW:b≠p:=λz=>by subst z;exact QE hb
   exact⟨.inr (Do _ hb),by rw[L2.aN OW];exact hu⟩
theorem IF(h:nL X es (gS fs))(hl:fs.length<=1000:=by decide):XX X (.List es pos) (xL fs):=⟨have h:=h.out;b9 (L2.u5 h) λσ H Q=>by
  rintro⟨ρ,F,t,hr,e,q⟩
  obtain⟨ts,SN,e⟩:=aC.mp e;cases e;refine⟨ρ,F,ts,hr,SN,λvs H1 F1 as s1 hn nd hF tr=>⟨?_,λp hp=>?_⟩⟩
  ·rw[<-tr.len,w5 SN];exact Re hl (by decide)
  ·obtain⟨a,b,c,d⟩:=Am s1 hn nd hF tr hp
   exact q _ _ _ _ a b c (λ_=>aaW) d⟩
theorem Cf:XX X (.Dict [] [] pos) ym:=⟨ b9 L2.AM λσ H Q=>by
  rintro⟨ρ,F,t,hr,e,q⟩
  cases e;intro p hp;refine q (.ref p) _ (λb=>F b\/b∈[p]) [p] (ar.dy hp _) (λb hb=>by rw[PP.mp hb];exact hp) (by simp) (λ_=>aaW) ?_
  simp only[cU,cW,cR,cS,aD];exact⟨p,[],[],rfl,rfl,.inr FB,L2.bO,rfl,rfl,rfl⟩⟩
theorem gR(h:bY (ρ.set i (.on x)) j):i≠j/\bY ρ j:=by
 rcases h with⟨ds,q⟩|⟨ks,ds,q⟩
 ·rcases get_set q with⟨_,z,_⟩|⟨G',q⟩
  ·cases z
  ·exact⟨G',.inl ⟨ds,q⟩⟩
 ·rcases get_set q with⟨_,z,_⟩|⟨G',q⟩
  ·cases z
  ·exact⟨G',.inr ⟨ks,ds,q⟩⟩
theorem zO(h:iN i ρ=true)(j:Nat)(p:List Nat):ρ[j]? ≠some (.on (.al i p)):=λe=>by
 have:=aai.mp h _ (SL e);simp at this
theorem bq.BZ(r:bq M G F0 H F σ ρ)(no:iN i ρ=true)(Yo:2<=i)(s1:ar H H')(hn:∀b∈as,H b=none)(nd:as.Nodup)(hF:∀b,F' b↔F b\/b∈as)(tr:aL M H' F' t v as):
  Mv F H F' H'/\bq M G F0 H' F' (σ.set i (some v)) (ρ.set i (.on (.tr t))):=by
 obtain⟨mv,rs⟩:=r.rs.wide s1 hn hF (λb hb=>(tr.fs b hb).2)
 have get:∀(j:Nat) x,(ρ.set i (.on (.tr t)))[j]? =some (.on x)->(i=j/\x=.tr t/\i<ρ.length)\/(i≠j/\ρ[j]? =some (.on x)):=λj x h=>by
  rcases get_set h with⟨h1,h2,h3⟩|h
  ·injection h2 with h2;exact .inl ⟨h1,h2.symm,h3⟩
  ·exact .inr h
 have self:i<ρ.length->(σ.set i (some v))[i]? =some (some v):=λh=>Mk (by rw[<-r.rs.len];exact h)
 have Ot:∀(j:Nat) b,cy M H' F' (σ.set i (some v)) (ρ.set i (.on (.tr t))) j b->(i=j/\b∈as)\/(i≠j/\cy M H F σ ρ j b/\cy M H' F' σ ρ j b):=λj b hb=>by
  have TY:=hb;obtain⟨t1,v1,OI,e1,O4,Pe,hb⟩:=hb;rcases get j _ e1 with⟨rfl,z,hl⟩|⟨G',e2⟩
  ·cases z
   rw[self hl]at O4;cases O4;have:=aL.je tr Pe;subst this;exact .inl ⟨rfl,hb⟩
  ·rw[bU G']at O4
   exact .inr ⟨G',r.rs.on.back (λx hx=>((get j x hx).resolve_left λz=>G' z.1).2) (bU G') (λa u _ _ hu=>s1 _ _ hu) (λa o _ e=>s1 _ _ e) TY,t1,v1,OI,e2,O4,Pe,hb⟩
 have new:∀(j:Nat) b,b∈as->¬cy M H F σ ρ j b:=λj b hb h=>by
  obtain⟨_,u,hu⟩:=gg.f h;rw[hn b hb]at hu;cases hu
 refine⟨mv,⟨⟨by simp[rs.len],rs.bw,λj d q=>?_,λj d q=>?_,λj k d q=>?_,λj k b oj ok ej ek=>?_,λj x h=>⟨?_,λb hb k ok ek=>?_,λt1 ht k t2 hk QZ b h1 h2=>?_⟩⟩,r.sm.trans s1,λb f=>(hF b).mpr (.inl (r.sub b f)),r.d9,λj a oj e=>?_,λj x b e hb=>?_,λw hw t2 e2=>?_⟩⟩
 ·rcases get_set q with⟨_,z,_⟩|⟨G',q⟩
  ·cases z
  ·obtain⟨w,e1,g⟩:=rs.sh j d q
   exact⟨w,by rw[bU G'];exact e1,g⟩
 ·rcases get_set q with⟨_,z,_⟩|⟨G',q⟩
  ·cases z
  ·obtain⟨a,xs,e1,g⟩:=rs.ol j d q
   exact⟨a,xs,by rw[bU G'];exact e1,g⟩
 ·rcases get_set q with⟨_,z,_⟩|⟨G',q⟩
  ·cases z
  ·obtain⟨a,xs,e1,g⟩:=rs.od j k d q
   exact⟨a,xs,by rw[bU G'];exact e1,g⟩
 ·obtain⟨nj,oj⟩:=gR oj
  obtain⟨nk,ok⟩:=gR ok;rw[bU nj]at ej;rw[bU nk]at ek;exact rs.dg j k b oj ok ej ek
 ·rcases get j x h with⟨rfl,rfl,hl⟩|⟨G',h0⟩
  ·exact⟨v,as,self hl,tr,nd⟩
  ·have h1:=(rs.on j x h0).1
   cases x with
   | tr t1=>
    obtain⟨v1,OI,e1,h2⟩:=h1;exact⟨v1,OI,by rw[bU G'];exact e1,h2⟩
   | al k p=>
    intro t1 e1;rcases get k _ e1 with⟨z,_,_⟩|⟨hk,e1⟩
    ·subst z;exact absurd h0 (zO no j p)
    ·obtain⟨v1,w,t2,a1,a2,a3⟩:=h1 t1 e1
     exact⟨v1,w,t2,by rw[bU hk];exact a1,by rw[bU G'];exact a2,a3⟩
 ·obtain⟨nk,ok⟩:=gR ok
  rw[bU nk]at ek;rcases Ot j b hb with⟨_,hb⟩|⟨_,hb,_⟩
  ·obtain⟨a,_,u,_,e1,_,e2,_⟩:=r.rs.ownAt ok
   rw[ek]at e1;cases e1;rw[hn _ hb]at e2;cases e2
  ·obtain⟨t9,v9,SV,e9,_⟩:=id hb
   exact(r.rs.on j _ e9).2.1 b hb k ok ek
 ·rcases Ot j b h1 with⟨h3,h4⟩|⟨h3,h4,_⟩
  ·rcases Ot k b h2 with⟨h5,_⟩|⟨_,h5,_⟩
   ·exact QZ (h5.symm.trans h3)
   ·exact new k b h4 h5
  ·rcases Ot k b h2 with⟨_,h5⟩|⟨h5,h6,_⟩
   ·exact new j b h5 h4
   ·exact(r.rs.on j _ ((get j x h).resolve_left λz=>h3 z.1).2).2.2 t1 ht k t2 ((get k _ hk).resolve_left λz=>h5 z.1).2 QZ b h4 h6
 ·obtain⟨nj,oj⟩:=gR oj
  rw[bU nj]at e;exact r.own j a oj e
 ·rcases Ot j b hb with⟨_,hb⟩|⟨_,hb,_⟩
  ·exact r.sm.free (hn b hb)
  ·obtain⟨t9,v9,SV,e9,_⟩:=id hb
   exact r.eF j _ b e9 hb
 ·have TX:i≠w.1.toNat:=λz=>by have:=Bool.toNat_lt w.1;omega
  rcases get _ _ e2 with⟨z,_,_⟩|⟨_,e2⟩
  ·exact absurd z TX
  ·rw[bU TX];exact r.pin w hw t2 e2
theorem oH(i:Nat)(hN:X.N.Nodup)(he:XX X e f)(hi:X.N[i]? =some x:=by rfl)(hx:L2.Loc X.env.scope x:=by exact Or.inl rfl)(hf:X.fn x=true\/X.env.scope.names.lookup x=some .local:=by exact .inl rfl)(hs:swapsWith e (some (.Name x p2)) pos.line X.env=pure false:=by exact gF (by rfl)):XS X (.Assign [.Name x p2] e pos) (jV i f):=⟨have he:=he.out;λF0=>
 dm (L2.kW hN hi hx he hs hf) λD σ H=>by
  rintro⟨ρ,F,fl,r,e,q⟩
  obtain⟨t,et,e⟩:=aC.mp e;by_cases no:iN i ρ=true/\2<=i
  ·rw[AC no]at e
   cases e;refine⟨ρ,F,t,r.rs,et,λv H1 F1 as s1 hn nd hF tr=>?_⟩;obtain⟨mv,r'⟩:=r.BZ (i:=i) no.1 no.2 s1 hn nd hF tr;exact q _ _ _ mv r'
  ·rw[DF no]at e;cases e⟩
noncomputable abbrev Pt:=En->R (List Nat)
noncomputable def pN:Pt:=λ_=>.ok []
noncomputable def pI(i:Nat)(f:Pt)(e:Ex):Pt:=λρ=>(f ρ).bind λp=>(e ρ).bind λx=>match ρ[i]?,x with
 | some (.on (.tr t)),.int k=>match T.at t p with
  | some (.n .l ts)=>match dw ts.length k with
   |some m=>.ok (p++[m])
   |none=>.bad
  |_=>.bad
 |_,_=>.bad
noncomputable def ml(j i:Nat)(f:Pt):Sm:=λρ=>(f ρ).bind λp=>match ρ[i]? with
 | some (.on (.tr t))=>match T.at t p with
  |some t1=>if t1.own=true/\i≠j then .ok (.next (ρ.set j (.on (.al i p))))else .bad
  |none=>.bad
 |_=>.bad
noncomputable def nG:List T->Option (List D)
 |[]=>some []
 |.d x::r=>(nG r).map (x:: ·)
 |_::_=>none
theorem yA:∀ {ts:List T} {vs:List D},nG ts=some vs->ts=vs.map .d
 |[],vs,h=>by cases h;rfl
 | .d x::r,vs,h=>by
  unfold nG at h;cases e:nG r with
  |none=>rw[e]at h;cases h
  |some us=>rw[e]at h;cases h;rw[yA e];rfl
 |.n _ _::r,vs,h=>by cases h
theorem aK.vG:∀ {p:List Nat} {t:T} {v:V} {t1:T} {w:V},aK H t v p t1 w->T.at t p=some t1
 | [],t,v,t1,w,h=>by
  have e':t=t1/\v=w:=by cases t<;>exact h
  rw[e'.1];cases t1<;>rfl
 | k::p,.n kd ts,v,t1,w,h=>by
  simp only[aK]at h;obtain⟨a,xs,t2,x2,_,_,_,e1,_,h⟩:=h;unfold T.at
  rw[e1];exact h.vG
 |k::p,.d _,v,t1,w,h=>h.elim
theorem aK.snoc(h1:aK H n0 x [m] t1 x1):∀ {p:List Nat} {t:T} {v:V},aK H t v p n0 x->aK H t v (p++[m]) t1 x1
 | [],t,v,h=>by
  have e':t=n0/\v=x:=by cases t<;>exact h
  obtain⟨rfl,rfl⟩:=e';exact h1
 | k::p,.n kd us,v,h=>by
  show aK H (.n kd us) v (k::(p++[m])) t1 x1;simp only[aK]at h ⊢;obtain⟨b,ys,t2,x2,To,h2,h0,h3,h4,h⟩:=h;exact⟨b,ys,t2,x2,To,h2,h0,h3,h4,aK.snoc h1 h⟩
 |k::p,.d _,v,h=>h.elim
theorem aK.here(t:T)(v:V):aK H t v [] t v:=by cases t<;>exact⟨rfl,rfl⟩
theorem aK.Dp(ha:H a=some (.lst xs))(h1:ts[m]? =some t1)(hx:xs[m]? =some x1):aK H (.l ts) (.ref a) [m] t1 x1:=by
 unfold aK;exact⟨a,xs,t1,x1,rfl,ha,trivial,h1,hx,aK.here _ _⟩
theorem aK.LA(ha:H a=some (.tup xs))(h1:ts[m]? =some t1)(hx:xs[m]? =some x1):aK H (.tu ts) (.ref a) [m] t1 x1:=by
 unfold aK;exact⟨a,xs,t1,x1,rfl,ha,trivial,h1,hx,aK.here _ _⟩
theorem aK.FC(ha:H a=some (.dK (ks.zip xs)))(hl:ks.length=xs.length)(h1:ts[m]? =some t1)(hx:xs[m]? =some x1):aK H (.m ks ts) (.ref a) [m] t1 x1:=by
 unfold aK;exact⟨a,xs,t1,x1,rfl,ha,hl,h1,hx,aK.here _ _⟩
theorem T.C1{n0:T}{m:Nat}:∀ {p:List Nat} {t:T},T.at t p=some n0->T.at t (p++[m])=T.at n0 [m]
 | [],t,h=>by
  have:t=n0:=by cases t<;>(injection h)
  subst this;rfl
 | k::p,.n kd us,h=>by
  have h:(match us[k]? with|some t=>T.at t p|none=>none)=some n0:=h
  show(match us[k]? with|some t=>T.at t (p++[m])|none=>none)=T.at n0 [m]
  cases e:us[k]? with
  |none=>rw[e]at h;cases h
  |some u=>rw[e]at h;exact T.C1 h
 |k::p,.d _,h=>by cases h
theorem T.MB{ts:List T}{m:Nat}:T.at (.l ts) [m]=ts[m]? :=by
 unfold T.at
 cases e:ts[m]? with
 |none=>rfl
 |some u=>cases u<;>rfl
inductive CV(M:Md)(i:Nat)(f:Pt)(σ:L2.St)(H:Hp)(Q:VK):Prop
 |mk:∀ρ F t w p t1,bC M H F σ ρ->ρ[i]? =some (.on (.tr t))->σ[i]? =some (some w)->f ρ=.ok p->T.at t p=some t1->(∀v H',ar H H'->aK H' t w p t1 v->Q v H')->CV M i f σ H Q
abbrev JL(X:Cx)(i:Nat)(e:Expr)(f:Pt):Prop:=PE X e (CV (aJ X) i f)
structure XL(X:Cx)(i:Nat)(e:Expr)(f:Pt):Prop where
 out:JL X i e f
theorem eM(i:Nat)(hN:X.N[i]? =some x:=by rfl)(hv:L2.fi X.env.scope x:=by exact Or.inl rfl)(hd:gV x:=by decide)(Oh:tx x:=by decide):XL X i (.Name x pos) pN:=⟨ b9 (L2.pv i hN hv hd Oh) λσ H Q=>by
  rintro⟨ρ,F,t,w,p,t1,r,e1,e2,ef,RW,q⟩
  cases ef;have:t1=t:=by cases t<;>(injection RW with RW;exact RW.symm)
  subst this;exact⟨w,e2,q w H (ar.refl _) (by cases t1<;>exact⟨rfl,rfl⟩)⟩⟩
theorem aK.same{t:T}{v w:V}{p:List Nat}{t1:T}{i:Nat}(r:bC M H F σ ρ)(e1:ρ[i]? =some (.on (.tr t)))(e2:σ[i]? =some (some v))(s1:ar H H')(h:aK H t v p t1 w):aK H' t v p t1 w:=by
 obtain⟨⟨v',as,ev,tr,_⟩,_,_⟩:=r.on i _ e1;rw[e2]at ev;cases ev;exact h.mv (λ_ _ _ e=>s1 _ _ e) tr λb hb u f hu=>s1 _ _ hu
theorem bq.tZ(r:bq M G F0 H F σ ρ)(e1:ρ[i]? =some (.on (.tr t)))(e2:σ[i]? =some (some w))(OT:aK H t w p t1 v)(ho:t1.cZ=true)(RT:i≠j):
  bq M G F0 H F (σ.set j (some v)) (ρ.set j (.on (.al i p))):=by
 have back:∀(k:Nat) b,cy M H F (σ.set j (some v)) (ρ.set j (.on (.al i p))) k b->j≠k/\cy M H F σ ρ k b:=λk b=>by
  rintro⟨t1,v1,OI,h1,Wh,Pe,hb⟩
  rcases get_set h1 with⟨_,z,_⟩|⟨G',h1⟩
  ·cases z
  ·rw[bU G']at Wh
   exact⟨G',t1,v1,OI,h1,Wh,Pe,hb⟩
 refine⟨⟨by simp[r.rs.len],r.rs.bw,λk d q=>?_,λk d q=>?_,λk ks d q=>?_,λk l b ok ol ek el=>?_,λk x h=>?_⟩,r.sm,r.sub,r.d9,λk a ok e=>?_,λk x b e hb=>?_,r.pin.set λ_ h=>by cases h⟩
 ·rcases get_set q with⟨_,z,_⟩|⟨G',q⟩
  ·cases z
  ·obtain⟨w,e1,g⟩:=r.rs.sh k d q
   exact⟨w,by rw[bU G'];exact e1,g⟩
 ·rcases get_set q with⟨_,z,_⟩|⟨G',q⟩
  ·cases z
  ·obtain⟨a,xs,e1,g⟩:=r.rs.ol k d q
   exact⟨a,xs,by rw[bU G'];exact e1,g⟩
 ·rcases get_set q with⟨_,z,_⟩|⟨G',q⟩
  ·cases z
  ·obtain⟨a,xs,e1,g⟩:=r.rs.od k ks d q
   exact⟨a,xs,by rw[bU G'];exact e1,g⟩
 ·obtain⟨nk,ok⟩:=gR ok
  obtain⟨nl,ol⟩:=gR ol;rw[bU nk]at ek;rw[bU nl]at el;exact r.rs.dg k l b ok ol ek el
 ·rcases get_set h with⟨rfl,z,hl⟩|⟨G',h⟩
  ·injection z with z
   subst z;refine⟨λt' h'=>?_,λb hb=>absurd rfl (back _ b hb).1,λt' ht=>nomatch ht⟩
   rw[bU (P3 RT),e1]at h';cases h';exact⟨w,v,t1,by rw[bU (P3 RT)];exact e2,Mk (by rw[<-r.rs.len];exact hl),OT,ho⟩
  ·obtain⟨h1,h2,h3⟩:=r.rs.on k x h
   refine⟨?_,λb hb l ol el=>?_,λt' ht l t2 hl XQ b h4 h5=>?_⟩
   ·cases x with
    | tr t0=>
     obtain⟨v0,Wt,Yf,XB,YY⟩:=h1;exact⟨v0,Wt,by rw[bU G'];exact Yf,XB,YY⟩
    | al i0 p0=>
     intro t0 h0;rcases get_set h0 with⟨_,z,_⟩|⟨Vq,h0⟩
     ·cases z
     ·obtain⟨v0,w0,t2,a1,a2,a3,a4⟩:=h1 t0 h0
      exact⟨v0,w0,t2,by rw[bU Vq];exact a1,by rw[bU G'];exact a2,a3,a4⟩
   ·obtain⟨nl,ol⟩:=gR ol
    rw[bU nl]at el;exact h2 b (back k b hb).2 l ol el
   ·rcases get_set hl with⟨_,z,_⟩|⟨_,hl⟩
    ·cases z
    ·exact h3 t' ht l t2 hl XQ b (back k b h4).2 (back l b h5).2
 ·obtain⟨nk,ok⟩:=gR ok
  rw[bU nk]at e;exact r.own k a ok e
 ·obtain⟨G',hb⟩:=back k b hb
  rw[bU G']at e;exact r.eF k x b e hb
theorem xv (j:Nat) (i:Nat) (hN:X.N.Nodup) (he:XL X i e f) (hi:X.N[j]? =some x:=by rfl) (hx:L2.Loc X.env.scope x:=by exact Or.inl rfl) (hf:X.fn x=true\/X.env.scope.names.lookup x=some .local:=by exact .inl rfl) (hs:swapsWith e (some (.Name x p2)) pos.line X.env=pure false:=by exact gF (by rfl)):XS X (.Assign [.Name x p2] e pos) (ml j i f):=⟨have he:=he.out;λF0=>
 dm (L2.kW hN hi hx he hs hf) λD σ H=>by
  rintro⟨ρ,F,fl,r,e,q⟩
  obtain⟨p,ep,e⟩:=aC.mp e;cases h1:ρ[i]? with
  |none=>rw[h1]at e;cases e
  | some s=>
   rw[h1]at e;cases s with
   | on x=>
    cases x with
    | tr t=>
     have e:(match T.at t p with|some t1=>if t1.own=true/\i≠j then R.ok (Fl.next (ρ.set j (.on (.al i p))))else .bad|none=>.bad)=.ok fl:=e
     cases OT:T.at t p with
     |none=>rw[OT]at e;cases e
     | some t1=>
      rw[OT]at e;have e:(if t1.own=true/\i≠j then R.ok (Fl.next (ρ.set j (.on (.al i p))))else .bad)=.ok fl:=e
      by_cases hc:t1.own=true/\i≠j
      ·rw[AC hc]at e
       cases e;obtain⟨⟨w,as,ew,tr,nd⟩,_,_⟩:=r.rs.on i _ h1;exact⟨ρ,F,t,w,p,t1,r.rs,h1,ew,ep,OT,λv H1 s1 RD=>q _ _ F (.same s1) ((r.same s1).tZ h1 ew RD (T.Bl hc.1) hc.2)⟩
      ·rw[DF hc]at e;cases e
    |al _ _=>cases e
   |_=>cases e⟩
end
section
variable{X:Cx}{M:Md}{G H H':Hp}{F0:Gf}{F F':acS}{σ:L2.St}{ρ:En}{pos:Pos}{pins:List (Addr×Obj)}{s:Shared}{as:Zx}
def vD:HO->Prop
 |.lst _=>True
 |.dT _=>True
 |_=>False
def iG(H H':Hp)(b:Addr):Prop:=(H' b=H b/\∃u,H b=some u/\vD u)\/∃ob j',H b=some (.dK j')/\H' b=some (.frz ob (.dK j'))
mutual
theorem aL.frz:∀ {t:T} {H:Hp} {v:V} {as:Zx},Inv X pins σ H s->aL M H F t v as->as.Nodup->∃H',Inv X pins σ H' s/\(∀b,b∉as->H' b=H b)/\∀b∈as,iG H H' b
 | .d x,H,v,as,I,h,_=>by
  simp only[aL]at h;exact⟨H,I,λ_ _=>rfl,λb hb=>by rw[h.1]at hb;cases hb⟩
 | .n kd ts,H,v,as,I,h,nd=>by
  simp only[aL]at h;obtain⟨a,xs,bs,rfl,rfl,f,e2,l,r⟩:=h;have Oc:=Kd.nodup.mp nd;obtain⟨H1,I1,h1,k1⟩:=aD.frz I r Oc.2
  have R1:(kd.own=true->vD (kd.ho xs))->∃H',Inv X pins σ H' s/\(∀b,b∉kd.fQ a bs->H' b=H b)/\∀b∈kd.fQ a bs,iG H H' b:=λhl=>by
   refine⟨H1,I1,λb hb=>h1 b λOQ=>hb (Kd.sub OQ),λb hb=>?_⟩;rcases Kd.mem hb with⟨o,rfl⟩|hb
   ·exact .inl ⟨h1 b (Oc.1 o),_,e2,hl o⟩
   ·exact k1 b hb
  cases kd with
  |l=>exact R1 λ_=>trivial
  |u=>exact R1 λo=>nomatch o
  |x ks=>exact R1 λ_=>trivial
  | m ks=>
   have VX:a∉bs:=Oc.1 rfl;have ha:H1 a=some (.dK (ks.zip xs)):=by rw[h1 a VX];exact e2
   obtain⟨ob,I2⟩:=yd I1 ha;refine⟨_,I2,λb hb=>?_,λb hb=>?_⟩
   ·have OW:b≠a:=λz=>by subst z;exact hb FB
    rw[L2.aN OW];exact h1 b λOQ=>hb (Do _ OQ)
   ·rcases Da.mp hb with h9|h9
    ·subst h9;exact .inr ⟨ob,_,e2,L2.bO⟩
    ·have OW:b≠a:=λz=>VX (z▸h9)
     unfold iG;rw[L2.aN OW];exact k1 b h9
theorem aD.frz:∀ {ts:List T} {H:Hp} {xs:List V} {as:Zx},Inv X pins σ H s->aD M H F ts xs as->as.Nodup->∃H',Inv X pins σ H' s/\(∀b,b∉as->H' b=H b)/\∀b∈as,iG H H' b
 | [],H,xs,as,I,h,_=>by
  simp only[aD]at h;exact⟨H,I,λ_ _=>rfl,λb hb=>by rw[h.2]at hb;cases hb⟩
 | t::ts,H,xs,as,I,h,nd=>by
  simp only[aD]at h;obtain⟨x,r,bs,cs,rfl,rfl,h1,h2⟩:=h;have Oc:=SZ.mp nd;obtain⟨H1,I1,o1,k1⟩:=aL.frz I h1 Oc.1;have YA:=h1.fs;have Qj:Mv F H F H1:=λb o n e=>⟨n,by rw[o1 b λhb=>n (YA b hb).1];exact e⟩
  have Qo:aD M H1 F ts r cs:=aD.mv Qj (λb hb u f hu=>⟨f,by rw[o1 b λOQ=>Oc.2.2 b OQ b hb rfl];exact hu⟩) h2
  obtain⟨H2,I2,o2,k2⟩:=aD.frz I1 Qo Oc.2.1;refine⟨H2,I2,λb hb=>?_,λb hb=>?_⟩
  ·rw[o2 b λOQ=>hb (GT _ OQ),o1 b λOQ=>hb (Ox _ OQ)]
  ·rcases M0.mp hb with hb|hb
   ·have:=k1 b hb
    unfold iG at this ⊢;rw[o2 b λOQ=>Oc.2.2 b hb b OQ rfl];exact this
   ·have:=k2 b hb
    unfold iG at this ⊢;rw[o1 b λOQ=>Oc.2.2 b OQ b hb rfl]at this;exact this
end
mutual
theorem aL.seen(m:Mv F H F' H'):∀ {t:T} {v:V} {as:Zx},aL M H F t v as->(∀b∈as,iG H H' b/\¬F' b)->Rep M H' F' (T.toD t) v
 | .d x,v,as,h,_=>by
  simp only[aL]at h;exact h.2.mv m
 | .n kd ts,v,as,h,k=>by
  simp only[aL]at h;obtain⟨a,xs,bs,rfl,rfl,f,e2,l,r⟩:=h;have rs:=aD.seen m r λb hb=>k b (Kd.sub hb);cases kd with
  | u=>
   have:=m _ _ (λz=>nomatch f.mp z) e2
   simp only[T.toD,Kd.toD,Rep];exact⟨a,xs,rfl,.inl ⟨this.1,.inl this.2⟩,rs⟩
  | l=>
   obtain⟨ka,na⟩:=k a (Kd.top rfl);simp only[T.toD,Kd.toD,Rep];refine⟨a,xs,rfl,.inl ⟨na,.inl ?_⟩,rs⟩;rcases ka with⟨z,_⟩|⟨ob,j',z,_⟩
   ·rw[z];exact e2
   ·rw[e2]at z;cases z
  | m ks=>
   obtain⟨ka,na⟩:=k a (Kd.top rfl);simp only[T.toD,Kd.toD,Rep];rcases ka with⟨_,ys,z,hl⟩|⟨ob,j',z,z2⟩
   ·rw[e2]at z;cases z;exact hl.elim
   ·rw[e2]at z;cases z
    exact⟨a,xs,rfl,.inl ⟨na,ob,z2⟩,l,rs⟩
  | x ks=>
   obtain⟨ka,na⟩:=k a (Kd.top rfl);simp only[T.toD,Kd.toD,Rep];refine⟨a,(),rfl,.inr ⟨na,.inr (.inr (.inl ⟨rfl,?_⟩))⟩⟩;rcases ka with⟨z,u,z2,_⟩|⟨ob,j',_,z⟩
   ·exact⟨u,z.trans z2,λh=>nomatch h⟩
   ·exact⟨_,z,λh=>nomatch h⟩
theorem aD.seen(m:Mv F H F' H'):∀ {ts:List T} {xs:List V} {as:Zx},aD M H F ts xs as->(∀b∈as,iG H H' b/\¬F' b)->aj M H' F' (T.fH ts) xs
 | [],xs,as,h,_=>by
  simp only[aD]at h;rw[h.1];exact aj.nil
 | t::ts,xs,as,h,k=>by
  simp only[aD]at h;obtain⟨x,r,bs,cs,rfl,rfl,h1,h2⟩:=h;exact aj.cons (aL.seen m h1 λb hb=>k b (Ox _ hb)) (aD.seen m h2 λb hb=>k b (GT _ hb))
end
theorem bC.away(r:bC M H F σ ρ)(e1:ρ[i]? =some (.on (.tr t)))(e2:σ[i]? =some (some w))(tr:aL M H F t w as)(hH:∀b,b∉as->H' b=H b)(hx:x=.un\/∃d,x=.sh d/\Rep M H' (λb=>F b/\b∉as) d w):
  Mv F H (λb=>F b/\b∉as) H'/\bC M H' (λb=>F b/\b∉as) σ (ρ.set i x):=by
 have fs:=tr.fs;have mv:Mv F H (λb=>F b/\b∉as) H':=λb o n e=>⟨λh=>n h.1,by rw[hH b λhb=>n (fs b hb).1];exact e⟩
 have ro:=r.on i _ e1;have Qm:∀b∈as,cy M H F σ ρ i b:=λb hb=>⟨t,w,as,e1,e2,tr,hb⟩
 have keep:∀(j:Nat) b u,bY ρ j->σ[j]? =some (some (.ref b))->F b->H b=some u->(F b/\b∉as)/\H' b=some u:=λj b u oj ej fb hu=>by
  have hb:b∉as:=λhb=>ro.2.1 b (Qm b hb) j oj ej;exact⟨⟨fb,hb⟩,by rw[hH b hb];exact hu⟩
 have old:∀(j:Nat) s,(ρ.set i x)[j]? =some s->(∀d,s≠.sh d)->s≠.un->i≠j/\ρ[j]? =some s:=λj s e h1 h2=>by
  rcases get_set e with⟨_,z,_⟩|⟨G',e⟩
  ·subst z
   rcases hx with h|⟨d,h,_⟩
   ·exact absurd h h2
   ·exact absurd h (h1 d)
  ·exact⟨G',e⟩
 have own:∀j,bY (ρ.set i x) j->bY ρ j:=λj h=>h.imp (by rintro⟨ds,h⟩;exact ⟨ds,(old j _ h (λ_ z=>nomatch z) λz=>nomatch z).2⟩) λ⟨ks,ds,h⟩=>⟨ks,ds,(old j _ h (λ_ z=>nomatch z) λz=>nomatch z).2⟩
 refine⟨mv,⟨by simp[r.len],λb h=>?_,λj e q=>?_,λj ds q=>?_,λj ks ds q=>?_,λj k b oj ok ej ek=>r.dg j k b (own j oj) (own k ok) ej ek,?_⟩⟩
 ·obtain⟨o,e⟩:=r.bw b h.1
  exact⟨o,by rw[hH b h.2];exact e⟩
 ·rcases get_set q with⟨rfl,z,hl⟩|⟨G',q⟩
  ·subst z
   rcases hx with h|⟨d,h,hd⟩
   ·cases h
   ·cases h;exact⟨_,e2,hd⟩
  ·obtain⟨w,e1,g⟩:=r.sh j e q
   exact⟨w,e1,g.mv mv⟩
 ·obtain⟨_,q⟩:=old j _ q (λ_ z=>nomatch z) λz=>nomatch z
  obtain⟨b,ys,e1,f,e3,g⟩:=r.ol j ds q;obtain⟨f',e'⟩:=keep j b _ (.inl ⟨_,q⟩) e1 f e3;exact⟨b,ys,e1,f',e',g.mv mv⟩
 ·obtain⟨_,q⟩:=old j _ q (λ_ z=>nomatch z) λz=>nomatch z
  obtain⟨b,ys,e1,f,e3,l,g⟩:=r.od j ks ds q;obtain⟨f',e'⟩:=keep j b _ (.inr ⟨_,_,q⟩) e1 f e3;exact⟨b,ys,e1,f',e',l,g.mv mv⟩
 ·have RL:∀(j:Nat) y,(ρ.set i x)[j]? =some (.on y)->i≠j/\ρ[j]? =some (.on y):=λj y e=>old j _ e (λ_ z=>nomatch z) λz=>nomatch z
  refine r.on.mv mv (λj x e=>⟨(RL j x e).2,rfl⟩) (λj x b u e hb f hu=>?_) λj x b e hb k ok=>(r.on j x (RL j x e).2).2.1 b hb k (own k ok);obtain⟨t2,v2,Sl,h2,_⟩:=id hb;have OW:b∉as:=λh=>ro.2.2 t rfl j t2 h2 (P3 (RL j x e).1) b (Qm b h) hb;exact⟨⟨f,OW⟩,by rw[hH b OW];exact hu⟩
theorem bq.away(r:bq M G F0 H F σ ρ)(e1:ρ[i]? =some (.on (.tr t)))(e2:σ[i]? =some (some w))(tr:aL M H F t w as)(hH:∀b,b∉as->H' b=H b)(hx:x=.un\/∃d,x=.sh d/\Rep M H' (λb=>F b/\b∉as) d w):
  Mv F H (λb=>F b/\b∉as) H'/\bq M G F0 H' (λb=>F b/\b∉as) σ (ρ.set i x):=by
 obtain⟨mv,rs⟩:=r.rs.away e1 e2 tr hH hx;have hG:∀b∈as,G b=none:=λb hb=>r.eF i _ b e1 ⟨t,w,as,e1,e2,tr,hb⟩
 have old:∀(j:Nat) s,(ρ.set i x)[j]? =some s->(∀d,s≠.sh d)->s≠.un->i≠j/\ρ[j]? =some s:=λj s e h1 h2=>by
  rcases get_set e with⟨_,z,_⟩|⟨G',e⟩
  ·subst z
   rcases hx with h|⟨d,h,_⟩
   ·exact absurd h h2
   ·exact absurd h (h1 d)
  ·exact⟨G',e⟩
 refine⟨mv,rs,λb u hb=>?_,λb f=>⟨r.sub b f,λhb=>?_⟩,r.d9,λj b oj ej=>r.own j b (oj.imp (by rintro⟨ds,h⟩;exact ⟨ds,(old j _ h (λ_ z=>nomatch z) λz=>nomatch z).2⟩) λ⟨ks,ds,h⟩=>⟨ks,ds,(old j _ h (λ_ z=>nomatch z) λz=>nomatch z).2⟩) ej,λj y b ex hb=>?_,λw2 hw t2 e=>r.pin w2 hw t2 (old _ _ e (λ_ z=>nomatch z) λz=>nomatch z).2⟩
 ·rw[hH b λOQ=>by rw[hG b OQ]at hb;cases hb];exact r.sm b u hb
 ·obtain⟨o,eo⟩:=r.d9 b f
  rw[hG b hb]at eo;cases eo
 ·obtain⟨G',ex⟩:=old j _ ex (λ_ z=>nomatch z) λz=>nomatch z
  refine r.eF j y b ex (r.rs.on.back (λy hy=>?_) rfl (λa u ha f hu=>?_) (λa o n e=>(mv a o n e).2) hb)
  ·rw[bU G']at hy;exact hy
  ·obtain⟨t2,v2,Sl,h2,_⟩:=id ha
   rw[hH a λh=>(r.rs.on i _ e1).2.2 t rfl j t2 h2 (P3 G') a ⟨t,w,as,e1,e2,tr,h⟩ ha];exact hu
end
noncomputable def G3(ns:Xj):Xj:=ns.mergeSort λa b=>decide (a<=b)
noncomputable def zG:List Ky->Option (Xj)
 |[]=>some []
 |.inl i::r=>(zG r).map (i:: ·)
 |.inr _::_=>none
noncomputable def Np:D->R D
 | .aA ks _=>match zG ks with
  |some ns=>if ns.length<64 then .ok (.lst ((G3 ns).map .int))else .bad
  |none=>.bad
 |_=>.bad
noncomputable def gE:D->R D
 |.aA ks _=>.ok (.int ks.length)
 |x=>eQ x
section
variable{X:Cx}{M:Md}{G H H':Hp}{F0:Gf}{F F':acS}{σ:L2.St}{ρ:En}{pos:Pos}{pins:List (Addr×Obj)}{s:Shared}
def A8(M:Md):List V->Hp->VK->Prop:=λxs H Q=>tM M xs H Q\/∃F p j',xs=[.ref p]/\gr M H F p j'/\Q (.int j'.length) H
theorem tE:cj X (.builtin "len") (A8 (aJ X)):=by
 intro pins s σ H xs us Q I r h;rcases h with h|⟨F,p,j',rfl,hd,q⟩
 ·exact ju pins s σ H xs us Q I r h
 ·obtain⟨u,rfl,ru⟩:=L2.vals1 r
  cases ru;obtain⟨z,Qs,vs,rel,dd⟩:=jx I hd;have hl:=pU rel;refine call_len_dict Qs dd (by rw[<-hl];rw[aad]at z;omega) ?_
  rw[<-hl];exact⟨.int _,H,I.tok _,⟨_,rfl⟩,q⟩
theorem qz:iT M (g1 gE) (A8 M):=by
 intro F H xs as d Q tr rs e q;have e0:=e;unfold g1 at e;split at e
 ·rename_i a
  by_cases hd:∃ks vs,a=.aA ks vs
  ·obtain⟨ks,vs,rfl⟩:=hd
   cases e;obtain⟨x,rfl,r⟩:=rs.one;simp only[Rep]at r;obtain⟨p,ys,rfl,h1,hl,rs⟩:=r;refine .inr ⟨F,p,_,rfl,h1,?_⟩;rw[SB,show min ks.length ys.length=ks.length by omega]
   exact q _ _ (ar.refl _) dM
  ·refine .inl (i8 F H xs _ d Q tr rs ?_ q)
   show eQ a=.ok d;cases a with
   |aA ks vs=>exact absurd ⟨ks,vs,rfl⟩ hd
   |_=>exact e
 ·cases e
end
end PL
namespace PL
open PySem PySem.Spec
theorem yF:attributeBase (.Subscript o b p) a env w=w:=rfl
open L2 (V Hp HO Cx PE PT PW PA PS cH PG dk VK TE TT TA TS TI TG Inv RelV Vals Rd bP bW upd ar Key XK Ends bA dJ cj R2 EP It Turn cX Un)
noncomputable def kD(f:Xt):Sm:=λρ=>(f ρ).bind λt=>.ok (.fw t)
noncomputable def sO(i:Nat):Sm:=λρ=>match ρ[i]? with
 |some (.on (.tr t))=>.ok (.fw t)
 |_=>.bad
noncomputable def iY(n:Nat)(body:Sm):List D->R T:=λds=>(body (ds.map .sh++List.replicate (n - ds.length) .un)).bind λf=>match f with
 |.fw t=>.ok t
 |_=>.bad
inductive spT(M:Md)(m:List D->R T)(n:Nat)(vs:List V)(H:Hp)(Q:VK)(_x3:XK):Prop
 |mk:∀F ds t,(∀p,F p->∃o,H p=some o)->aj M H F ds vs->ds.length=n->m ds=.ok t->(∀v H' F' as,ar H H'->(∀b∈as,H b=none)->as.Nodup->(∀b,F' b↔F b\/b∈as)->aL M H' F' t v as->Q v H')->spT M m n vs H Q _x3
noncomputable def cF(m:List D->R T)(fs:List Ex):Xt:=λρ=>(eList fs ρ).bind m
noncomputable def eX(f:Xt):Ex:=λρ=>(f ρ).bind λt=>.ok (T.toD t)
section
variable{X:Cx}{M:Md}{G H H':Hp}{F0:Gf}{F F':acS}{σ:L2.St}{ρ:En}{pos:Pos}{pins:List (Addr×Obj)}{s:Shared}{as:Zx}
theorem rf(ha:XX X a f):XS X (.Return (some a) pos) (kD f):=⟨have ha:=ha.out;λF0=>
 dm (L2.oZ ha) λD σ H=>by
  rintro⟨ρ,F,fl,r,e,q⟩
  obtain⟨t,et,e⟩:=aC.mp e;cases e;exact⟨ρ,F,t,r.rs,et,λv H1 F1 as s1 hn nd hF tr=>q v H1 F F1 as (.same s1) (r.sm.trans s1) r.sub (λb hb=>r.sm.free (hn b hb)) nd hF tr⟩⟩
theorem A7(i:Nat)(hN:X.N[i]? =some x:=by rfl)(hv:L2.fi X.env.scope x:=by exact Or.inl rfl)(hd:gV x:=by decide)(Oh:tx x:=by decide):XS X (.Return (some (.Name x p2)) pos) (sO i):=⟨ λF0=>
 dm (L2.oZ (L2.pv i hN hv hd Oh)) λD σ H=>by
  rintro⟨ρ,F,fl,r,e,q⟩
  unfold sO at e;split at e
  ·rename_i t q1
   cases e;obtain⟨⟨w,as,ew,tr,nd⟩,_,_⟩:=r.rs.on i _ q1;have hG:∀b∈as,F0.g b=none:=λb hb=>r.eF i _ b q1 ⟨t,w,as,q1,ew,tr,hb⟩;have fs:=tr.fs;refine⟨w,ew,q w H (λb=>F b/\b∉as) F as (λb o n e=>⟨λh=>n h.1,e⟩) r.sm (λb f=>⟨r.sub b f,λhb=>?_⟩) hG nd (λb=>?_) tr⟩
   ·obtain⟨o,e⟩:=r.d9 b f
    rw[hG b hb]at e;cases e
   ·by_cases hb:b∈as
    ·exact⟨λ_=>.inr hb,λ_=>(fs b hb).1⟩
    ·exact⟨λf=>.inl ⟨f,hb⟩,λh=>h.elim abq λh=>absurd h hb⟩
  ·cases e⟩
theorem LS{N:List Str}{n:Nat}{body:Sm}{vs:List V}{Q:VK}{E:XK}{t:TS}(ht:∀(F0:Gf) D σ H,fM M F0.g F0 body D σ H->t D σ H)(h:spT M (iY N.length body) n vs G Q E)(hn:n<=N.length):t {nx:=λ_ H'=>Q .aE H',rt:=Q} (L2.start N vs) G:=by
 obtain⟨F,ds,t',tr,rs,hl,e,q⟩:=h;obtain⟨f,ef,e⟩:=aC.mp e;refine ht ⟨G,F,λ_=>none⟩ _ _ _ ⟨_,F,f,uO tr rs hl hn,ef,?_⟩;cases f with
 | fw t1=>
  cases e;exact λv H' F1 F2 as mv sm sub hG nd hF tr=>q v H' (λb=>F b\/b∈as) as sm hG nd (λ_=>aaW) (aL.less (λb f=>(hF b).mpr (f.imp (sub b) id)) (λb hb=>.inr hb) tr)
 |_=>cases e
structure di(P:Program)(w:World)(K:PySem.W.Frag)(mg:Str->acR)(base:Heap)(x:Str)(k n:Nat)(m:List D->R T):Prop where
 ex:∃f fd ps,L2.fE P w K mg base L2.dP k f fd ps (spT ⟨K,P,w⟩ m n)/\L2.Binds K fd ps []/\PySem.W.keepIn K (.ref f)=true/\mg x=some (.ref f)
theorem Ho{P:Program}{w:World}{K:PySem.W.Frag}{mg:Str->acR}{base:Heap}{x qual:Str}{st:Stmt}{f:Addr}{fd:FuncData}{N ps:List Str}{k n:Nat}{body:Sm}(Fu:L2.gY K x qual st f fd)(hm:mg x=some (.ref f))(S:L2.bD N ps (L2.aX st))(hb:L2.Binds K fd ps [])
  (h:∀(M':Value) (A:Around) (outer:List Env) (s:Shared) (H:Hp) (E:XK),L2.cz k (A.deeper (PyProof.Rows.envOfC qual (L2.aX st) s.heap.objs.size f M'))->ig (L2.gh L2.dP P w K mg base N qual (L2.aX st) f M' A outer s H E).gw (L2.dE st) body)
  (hn:ps.length=n:=by rfl):di P w K mg base x (k+1) n (iY N.length body):=by
 refine⟨f,fd,ps,Fu.ok S (λvs H Q E h=>?_) (λM' A outer s H vs Q E hr PH=>?_),hb,Fu.kp,hm⟩
 ·obtain⟨F,ds,d,_,rs,hl,_⟩:=h
  rw[<-rs.length,hl,hn]
 ·refine⟨λD σ H'=>∃F0:Gf,fM ⟨K,P,w⟩ F0.g F0 body D σ H',λpins s' σ H' D I=>by rintro⟨F0,q⟩;exact h M' A outer s H E hr F0 pins s' σ H' D I q,?_⟩
  refine LS (G:=H) (t:=λD σ H'=>∃F0:Gf,fM ⟨K,P,w⟩ F0.g F0 body D σ H') (λF0 D σ H' h=>⟨F0,h⟩) PH ?_;have:=congrArg List.length S.pre;rw[ZF]at this;omega
theorem My(hn:fs.length=n)(h:rn M (cF m fs) σ H Q):L2.qd (spT M m n) [] E (pM M (eList fs)) σ H Q:=by
 obtain⟨ρ,F,t,hr,e,q⟩:=h;obtain⟨ds,SJ,e⟩:=aC.mp e;refine⟨ρ,F,ds,hr,SJ,λvs H1 s1 rs=>?_⟩;show spT M m n (vs++[]) H1 Q E;rw[ZU];exact⟨F,ds,t,(hr.same s1).bw,rs,by rw[kn SJ];exact hn,e,λv H2 F2 as s2 hn nd hF tr=>q v H2 F2 as (s1.trans s2) (λb hb=>s1.free (hn b hb)) nd hF tr⟩
theorem fg(d:di X.prog X.w X.K X.mg X.base x k n m)(hr:L2.cz j X.A)(ha:XA X (e::es) (eList fs))(hk:k<=j)(hg:L2.Gl X x:=by rfl)(hn:fs.length=n:=by rfl)(O8:gV x:=by decide)(he:starEach (e::es) X.env=(false,eval e X.env)::starEach es X.env:=by exact bG (by rfl))(QD:(backTo pos (starEach es X.env)).any (·.1)=false:=by exact xc (by rfl)):XX X (.Call (.Name x p) (e::es) [] pos) (cF m fs):=⟨have ha:=ha.out;by
 obtain⟨f,fd,ps,h1,h2,h3,h4⟩:=d.ex;exact b9 (L2.B4 h1 (hr.mono hk) hg h4 h3 h2 .nil L2.ve ha O8 he QD) λσ H Q h=>My hn h⟩
theorem j3(h:XX X e f):XE X e (eX f):=⟨have h:=h.out;by
 intro pins s σ H Q I ⟨ρ,F,d,hr,e,q⟩;obtain⟨t,et,e⟩:=aC.mp e;cases e;refine L2.aW (h pins s σ H (λv H'=>∃F' as,ar H H'/\(∀b∈as,H b=none)/\as.Nodup/\(∀b,F' b↔F b\/b∈as)/\aL (aJ X) H' F' t v as) I ⟨ρ,F,t,hr,et,λv H' F' as a b c d e=>⟨F',as,a,b,c,d,e⟩⟩) λu s1 ⟨v,H1,I1,rv,F1,as,sm,hn,nd,hF,tr⟩=>?_;obtain⟨H2,I2,o2,k2⟩:=aL.frz I1 tr nd;have fs:=tr.fs;have nF:∀b∈as,¬F b:=λb hb f=>by obtain⟨o,e⟩:=hr.bw b f;rw[hn b hb]at e;cases e
 refine⟨v,H2,I2,rv,q v H2 (λb o e=>?_) (aL.seen (λb o n e=>⟨λf=>n ((hF b).mpr (.inl f)),?_⟩) tr λb hb=>⟨k2 b hb,nF b hb⟩)⟩
 ·rw[o2 b λhb=>by rw[hn b hb]at e;cases e];exact sm _ _ e
 ·rw[o2 b λhb=>n ((hF b).mpr (.inr hb))];exact e⟩
noncomputable def xT(fs:List Xt):Xt:=λρ=>(gS fs ρ).bind λts=>.ok (.tu ts)
theorem Ds{k1}(h:nL X es (gS fs))(hl:fs.length<=1000):XX X (.Tuple es k1 pos) (xT fs):=⟨have h:=h.out;b9 (L2.u7 h) λσ H Q=>by
  rintro⟨ρ,F,t,hr,e,q⟩
  obtain⟨ts,SN,e⟩:=aC.mp e;cases e;refine⟨ρ,F,ts,hr,SN,λvs H1 F1 as s1 hn nd hF tr=>⟨?_,λp hp=>?_⟩⟩
  ·rw[<-tr.len,w5 SN];exact Re hl (by decide)
  ·have Yr:¬F1 p:=λf=>by
    rcases(hF p).mp f with f|f
    ·obtain⟨o,eo⟩:=hr.bw p f
     rw[s1 _ _ eo]at hp;cases hp
    ·obtain⟨_,u,hu⟩:=tr.fs p f
     rw[hp]at hu;cases hu
   refine q _ _ F1 as (s1.trans (ar.dy hp _)) hn nd hF ?_;simp only[cU,cW,cR,cS];have ne:∀b u,H1 b=some u->b≠p:=λb u e z=>by subst z;rw[hp]at e;cases e
   exact⟨p,vs,rfl,Yr,L2.bO,tr.mv (λb o n e=>⟨n,by rw[L2.aN (ne b o e)];exact e⟩) λb hb u f hu=>⟨f,by rw[L2.aN (ne b u hu)];exact hu⟩⟩⟩
noncomputable def kF(it:dD)(n:Nat)(fv:List Nat)(tg:dQ)(cs:List cC)(el:Xt):Xt:=λρ=>(sv it n fv tg cs el ρ).bind λts=>.ok (.l ts)
theorem vk(tn:List Str)(fv:List Str)(Ou:List Nat)(ok:nV X scope tn fv Ou)(hi:XI X target iter it)(ht:∀cl C s H fp,XG (gu X scope cl C (tn++fv) s H fp) target tg)(PR:∀cl C s H fp,uZ (gu X scope cl C (tn++fv) s H fp) ifs cs)(QU:∀cl C s H fp,XX (gu X scope cl C (tn++fv) s H fp) elt el)(Q4:∀e s,¬X.xe e s:=by exact λ_ _ h=>h)(hc:X.calm=true:=by rfl)(low:mM tn.length tg:=by exact Bj (by decide))(hs:∀x,foldedSetIterable iter X.env x=pure x:=by exact vv (by rfl)):XX X (.ListComp elt [⟨target,iter,ifs,0⟩] scope pos) (kF it tn.length Ou tg cs el):=⟨have hi:=hi.out;have ht:=(λcl C s H fp=>(ht cl C s H fp).out);have PR:=(λcl C s H fp=>(PR cl C s H fp).out);have QU:=(λcl C s H fp=>(QU cl C s H fp).out);by
 intro pins s σ H Q I ⟨ρ,F,t,hr,e,q⟩;obtain⟨all,ea,e⟩:=aC.mp e;cases e;show wpAny _ _ (comprehension (.ListComp elt [⟨target,iter,ifs,0⟩] scope pos) scope X.env _ (newList []) false (eval iter X.env) none) _ _ s;refine ze tn fv Ou Q4 hc ok hi low ht PR QU hs I hr ea λD C s4 H' vs Hq bs F2 f hm I5 fC q1 q2 q3 q5 q6 q7 q4=>?_;obtain⟨m,hm⟩:=hm;refine⟨m,hm,λh' Pf=>⟨.ref D,H',I5.turned (t':=s4.toks) (λb o n e=>by rw[Pf.2 b n];exact e) fC.1 fC.2.1 fC.2.2.2.1 fC.2.2.2.2.1 fC.2.2.2.2.2,rfl,?_⟩⟩
 rw[<-q4];obtain⟨a1,a2,a3,a4⟩:=Am q1 q3 q5 q6 q7 q2;exact q _ _ _ _ a1 a2 a3 (λ_=>aaW) a4⟩
noncomputable def ee(i:Nat)(t:T):Slot->Slot
 | .on (.al k p)=>if k=i then(match T.at t p with
  |some t1=>.sh (T.toD t1)
  |none=>.un)else .un
 |s=>s
noncomputable def c6(i:Nat)(t:T)(ρ:En):En:=(ρ.map (ee i t)).set i (.sh (T.toD t))
noncomputable def iw(i:Nat)(f:Ex):Ex:=λρ=>match ρ[i]? with
 |some (.on (.tr t))=>(f (c6 i t ρ)).bind λd=>if i9 d=true then .ok d else .bad
 |_=>.bad
noncomputable def oa(i:Nat)(f:cC):cC:=λρ=>match ρ[i]? with
 |some (.on (.tr t))=>f (c6 i t ρ)
 |_=>.bad
theorem Ad(I0:Inv X pins σ H s):∀ {as:Zx} {H1:Hp} {s1:Shared},Inv X pins σ H1 s1->(∀b∈as,H1 b=H b\/∃ob j',H b=some (.dK j')/\H1 b=some (.frz ob (.dK j')))->as.Nodup->∃H2,Inv X pins σ H2 s1/\(∀b∈as,H2 b=H b)/\∀b,b∉as->H2 b=H1 b
 |[],H1,s1,I1,_,_=>⟨H1,I1,(λ_ hb=>nomatch hb),λ_ _=>rfl⟩
 | a::as,H1,s1,I1,k,nd=>by
  have Oc:=MG.mp nd;obtain⟨H2,I2,k2,o2⟩:=Ad I0 I1 (λb hb=>k b (Do _ hb)) Oc.2;have ea:H2 a=H1 a:=o2 a Oc.1;rcases k a FB with h|⟨ob,j',h1,h2⟩
  ·refine⟨H2,I2,λb hb=>?_,λb hb=>o2 b λOQ=>hb (Do _ OQ)⟩
   rcases Da.mp hb with rfl|hb
   ·rw[ea];exact h
   ·exact k2 b hb
  ·refine⟨_,DI I0 h1 I2 (by rw[ea];exact h2),λb hb=>?_,λb hb=>?_⟩
   ·by_cases RJ:b=a
    ·subst RJ;rw[L2.bO,h1]
    ·rw[L2.aN RJ]
     exact k2 b ((Da.mp hb).resolve_left RJ)
   ·have RJ:b≠a:=λz=>by subst z;exact hb FB
    rw[L2.aN RJ];exact o2 b λOQ=>hb (Do _ OQ)
theorem bC.c6(r:bC M H F σ ρ)(e1:ρ[i]? =some (.on (.tr t)))(e2:σ[i]? =some (some w))(tr:aL M H F t w as)(hH:∀b,b∉as->H' b=H b)(hz:∀b∈as,iG H H' b):
  Mv F H (λb=>F b/\b∉as) H'/\bC M H' (λb=>F b/\b∉as) σ (PL.c6 i t ρ):=by
 have fs:=tr.fs;have mv:Mv F H (λb=>F b/\b∉as) H':=λb o n e=>⟨λh=>n h.1,by rw[hH b λhb=>n (fs b hb).1];exact e⟩
 have ro:=r.on i _ e1;have Qm:∀b∈as,cy M H F σ ρ i b:=λb hb=>⟨t,w,as,e1,e2,tr,hb⟩
 have keep:∀(j:Nat) b u,bY ρ j->σ[j]? =some (some (.ref b))->F b->H b=some u->(F b/\b∉as)/\H' b=some u:=λj b u oj ej fb hu=>by
  have hb:b∉as:=λhb=>ro.2.1 b (Qm b hb) j oj ej;exact⟨⟨fb,hb⟩,by rw[hH b hb];exact hu⟩
 have root:Rep M H' (λb=>F b/\b∉as) (T.toD t) w:=aL.seen mv tr λb hb=>⟨hz b hb,λh=>h.2 hb⟩
 have get:∀(j:Nat) s,(PL.c6 i t ρ)[j]? =some s->(j=i/\s=.sh (T.toD t))\/(j≠i/\∃z,ρ[j]? =some z/\ee i t z=s):=λj s h=>by
  unfold PL.c6 at h;rcases get_set h with⟨h1,h2,_⟩|⟨G',h⟩
  ·exact .inl ⟨h1.symm,h2.symm⟩
  ·rw[MC]at h
   cases e:ρ[j]? with
   |none=>rw[e]at h;cases h
   |some z=>rw[e]at h;exact .inr ⟨P3 G',z,rfl,by simpa using h⟩
 have same:∀ {z s:Slot},ee i t z=s->(s=z/\∀k p,z≠.on (.al k p))\/s=.un\/∃p t1,z=.on (.al i p)/\T.at t p=some t1/\s=.sh (T.toD t1):=λ{z s} h=>by
  unfold ee at h;split at h
  ·rename_i k p
   by_cases hk:k=i
   ·subst hk
    rw[AC rfl]at h;split at h
    ·rename_i t1 h1
     exact .inr (.inr ⟨p,t1,rfl,h1,h.symm⟩)
    ·exact .inr (.inl h.symm)
   ·rw[DF hk]at h;exact .inr (.inl h.symm)
  ·rename_i G'
   exact .inl ⟨h.symm,λk p z=>G' k p z⟩
 have owned:∀j,bY (PL.c6 i t ρ) j->bY ρ j:=λj h=>by
  rcases h with⟨ds,h⟩|⟨ks,ds,h⟩
  ·rcases get j _ h with⟨_,z⟩|⟨_,z,Qa,Qk⟩
   ·cases z
   ·rcases same Qk with⟨z1,_⟩|z1|⟨_,_,_,_,z1⟩
    ·subst z1;exact .inl ⟨_,Qa⟩
    ·cases z1
    ·cases z1
  ·rcases get j _ h with⟨_,z⟩|⟨_,z,Qa,Qk⟩
   ·cases z
   ·rcases same Qk with⟨z1,_⟩|z1|⟨_,_,_,_,z1⟩
    ·subst z1;exact .inr ⟨_,_,Qa⟩
    ·cases z1
    ·cases z1
 have on:∀(j:Nat) x,(PL.c6 i t ρ)[j]? =some (.on x)->j≠i/\ρ[j]? =some (.on x):=λj x h=>by
  rcases get j _ h with⟨_,z⟩|⟨hj,z,Qa,Qk⟩
  ·cases z
  ·rcases same Qk with⟨z1,_⟩|z1|⟨_,_,_,_,z1⟩
   ·subst z1;exact⟨hj,Qa⟩
   ·cases z1
   ·cases z1
 refine⟨mv,⟨by unfold PL.c6;simp[r.len],λb h=>?_,λj d h=>?_,λj ds h=>?_,λj ks ds h=>?_,λj k b oj ok ej ek=>r.dg j k b (owned j oj) (owned k ok) ej ek,r.on.mv mv (λj x h=>⟨(on j x h).2,rfl⟩) (λj x b u h hb f hu=>?_) λj x b h hb k ok=>(r.on j x (on j x h).2).2.1 b hb k (owned k ok)⟩⟩
 ·obtain⟨o,e⟩:=r.bw b h.1
  exact⟨o,by rw[hH b h.2];exact e⟩
 ·rcases get j _ h with⟨rfl,z⟩|⟨_,z,Qa,Qk⟩
  ·cases z;exact⟨w,e2,root⟩
  ·rcases same Qk with⟨z1,_⟩|z1|⟨p,t1,z1,OT,z2⟩
   ·subst z1
    obtain⟨v,ev,rv⟩:=r.sh j d Qa;exact⟨v,ev,rv.mv mv⟩
   ·cases z1
   ·subst z1
    cases z2;obtain⟨v0,w1,t2,a1,a2,a3,_⟩:=(r.on j _ Qa).1 t e1;rw[e2]at a1;cases a1;have:=a3.vG;rw[OT]at this;cases this;obtain⟨bs,tp,sub⟩:=aK.part tr a3;exact⟨w1,a2,aL.seen mv tp λb hb=>⟨hz b (sub.subset hb),λh=>h.2 (sub.subset hb)⟩⟩
 ·rcases get j _ h with⟨_,z⟩|⟨_,z,Qa,Qk⟩
  ·cases z
  ·rcases same Qk with⟨z1,_⟩|z1|⟨_,_,_,_,z1⟩
   ·subst z1
    obtain⟨b,ys,e3,f,e4,g⟩:=r.ol j ds Qa;obtain⟨f',e'⟩:=keep j b _ (.inl ⟨_,Qa⟩) e3 f e4;exact⟨b,ys,e3,f',e',g.mv mv⟩
   ·cases z1
   ·cases z1
 ·rcases get j _ h with⟨_,z⟩|⟨_,z,Qa,Qk⟩
  ·cases z
  ·rcases same Qk with⟨z1,_⟩|z1|⟨_,_,_,_,z1⟩
   ·subst z1
    obtain⟨b,ys,e3,f,e4,l,g⟩:=r.od j ks ds Qa;obtain⟨f',e'⟩:=keep j b _ (.inr ⟨_,_,Qa⟩) e3 f e4;exact⟨b,ys,e3,f',e',l,g.mv mv⟩
   ·cases z1
   ·cases z1
 ·obtain⟨t2,v2,Sl,h2,_⟩:=id hb
  have OW:b∉as:=λh9=>ro.2.2 t rfl j t2 h2 (on j x h).1 b (Qm b h9) hb;exact⟨⟨f,OW⟩,by rw[hH b OW];exact hu⟩
theorem Cq(I:Inv X pins σ H s)(nd:as.Nodup)(hH:∀b,b∉as->H' b=H b)(hz:∀b∈as,iG H H' b)(I1:Inv X pins σ H1 s1)(sm:ar H' H1):
  ∃H2,Inv X pins σ H2 s1/\ar H H2/\(∀b,b∉as->H2 b=H1 b)/\(∀b∈as,H2 b=H b)/\(∀b∈as,∃u,H1 b=some u)/\∀a xs,fG M H1 (λb=>F b/\b∉as) a xs->fG M H2 F a xs:=by
 have k1:∀b∈as,(H1 b=H b/\∃u,H b=some u/\vD u)\/∃ob j',H b=some (.dK j')/\H1 b=some (.frz ob (.dK j')):=λb hb=>by
  rcases hz b hb with⟨h1,xs,h2,hl⟩|⟨ob,j',h1,h2⟩
  ·exact .inl ⟨by rw[h2]at h1 ⊢;exact sm _ _ h1,xs,h2,hl⟩
  ·exact .inr ⟨ob,j',h1,sm _ _ h2⟩
 obtain⟨H2,I2,a2,o2⟩:=Ad I I1 (λb hb=>(k1 b hb).imp abq id) nd;refine⟨H2,I2,λb o e=>?_,o2,a2,λb hb=>?_,λa xs h=>?_⟩
 ·by_cases hb:b∈as
  ·rw[a2 b hb];exact e
  ·rw[o2 b hb];exact sm _ _ (by rw[hH b hb];exact e)
 ·rcases k1 b hb with⟨h1,xs,h2,_⟩|⟨ob,j',h1,h2⟩
  ·exact⟨_,h1.trans h2⟩
  ·exact⟨_,h2⟩
 ·rcases h with⟨n,h⟩|h
  ·have ha:a∉as:=λha=>by
    rcases k1 a ha with⟨h1,ys,h2,hl⟩|⟨ob,j',h1,h2⟩
    ·rcases h with h|⟨o,h⟩
     ·rw[h1,h2]at h;cases h;exact hl
     ·rw[h1,h2]at h;cases h;exact hl
    ·rcases h with h|⟨o,h⟩
     ·rw[h2]at h;cases h
     ·rw[h2]at h;cases h
   refine .inl ⟨λf=>n ⟨f,ha⟩,?_⟩;rcases h with h|⟨o,h⟩
   ·exact .inl (by rw[o2 a ha];exact h)
   ·exact .inr ⟨o,by rw[o2 a ha];exact h⟩
  ·exact .inr h
theorem pO(i:Nat)(h:XE X e f):XE X e (iw i f):=⟨have h:=h.out;by
 intro pins s σ H Q I ⟨ρ,F,d,hr,e,q⟩;unfold iw at e;split at e
 ·rename_i t q1
  obtain⟨d',ed,e⟩:=aC.mp e;by_cases hf:PL.i9 d'=true
  ·rw[AC hf]at e
   cases e;obtain⟨⟨w,as,ew,tr,nd⟩,_,_⟩:=hr.on i _ q1;obtain⟨H',I',hH,hz⟩:=aL.frz I tr nd;obtain⟨mv,rs⟩:=hr.c6 q1 ew tr hH hz;refine L2.aW (h pins s σ _ _ I' ⟨_,_,_,rs,ed,λv H1 s1 rv=>(⟨s1,rv⟩:ar H' H1/\Rep (aJ X) H1 (λb=>F b/\b∉as) d v)⟩) λu s1 ⟨x,H1,I1,rx,sm,rv⟩=>?_;obtain⟨H2,I2,s2,_,_,_,tp⟩:=Cq (M:=aJ X) (F:=F) I nd hH hz I1 sm;exact⟨x,H2,I2,rx,q _ _ s2 (Rep.nq tp hf rv)⟩
  ·rw[DF hf]at e;cases e
 ·cases e⟩
theorem E9(i:Nat)(h:XT X e f):XT X e (oa i f):=⟨have h:=h.out;by
 intro pins s σ H Q I ⟨ρ,F,d,hr,e,q⟩;unfold oa at e;split at e
 ·rename_i t q1
  obtain⟨⟨w,as,ew,tr,nd⟩,_,_⟩:=hr.on i _ q1;obtain⟨H',I',hH,hz⟩:=aL.frz I tr nd;obtain⟨mv,rs⟩:=hr.c6 q1 ew tr hH hz;refine L2.aW (h pins s σ _ (λb H1=>b=d/\ar H' H1) I' ⟨_,_,_,rs,e,λH1 s1=>⟨rfl,s1⟩⟩) λb s1 ⟨H1,I1,hb,sm⟩=>?_;subst hb;obtain⟨H2,I2,s2,_,_,_,tp⟩:=Cq (M:=aJ X) (F:=F) I nd hH hz I1 sm;exact⟨H2,I2,q _ s2⟩
 ·cases e⟩
noncomputable def gO(z:Ky):List Ky->Option Nat
 |[]=>none
 |a::ks=>if a=z then some 0 else(gO z ks).map (· +1)
noncomputable def stepT:T->D->Option Nat
 |.n .l ts,.int k=>dw ts.length k
 |.n .u ts,.int k=>dw ts.length k
 | .n (.m ks) _,x=>match keyOf x with
  |some z=>gO z ks
  |none=>none
 |_,_=>none
noncomputable def pX(i:Nat)(f:Pt)(e:Ex):Pt:=λρ=>(f ρ).bind λp=>(e ρ).bind λx=>match ρ[i]? with
 | some (.on (.tr t))=>match T.at t p with
  | some n=>match stepT n x with
   |some m=>.ok (p++[m])
   |none=>.bad
  |none=>.bad
 |_=>.bad
noncomputable def pA(i j:Nat):Pt:=λρ=>match ρ[j]? with
 |some (.on (.al k p))=>if k=i then .ok p else .bad
 |_=>.bad
noncomputable def d5(z:Ky)(u:T)(ks:List Ky)(ts:List T):List Ky×List T:=if(ks.any λa=>decide (a=z))=true then(ks,List.zipWith (λa t=>if a=z then u else t) ks ts)else(ks++[z],ts++[u])
noncomputable def dj(i:Nat)(f:Pt)(k e:Ex):Sm:=λρ=>(e ρ).bind λd=>(f ρ).bind λp=>(k ρ).bind λq=>match ρ[i]?,keyOf q with
 | some (.on (.tr t)),some z=>match T.at t p with
  |some (.n (.m ks) ts)=>if ks.length<1000 then .ok (.next ((fX i p ρ).set i (.on (.tr (T.put (.m (d5 z (.d d) ks ts).1 (d5 z (.d d) ks ts).2) t p)))))else .bad
  |_=>.bad
 |_,_=>.bad
noncomputable def nQ(i:Nat)(f:Pt)(k e:Ex):Sm:=λρ=>(e ρ).bind λd=>(f ρ).bind λp=>(k ρ).bind λq=>match ρ[i]?,q with
 | some (.on (.tr t)),.int j=>match T.at t p with
  | some (.n .l ts)=>match dw ts.length j with
   |some m=>.ok (.next ((fX i p ρ).set i (.on (.tr (T.put (.l (ts.set m (.d d))) t p)))))
   |none=>.bad
  |_=>.bad
 |_,_=>.bad
def L0:R2:=λx y H Q=>∃p j' k v,x=.ref p/\y=L2.kV k/\Rd H p (.dK j')/\L2.eI j' k=some v/\Q v H
theorem BC:L2.gz X (λx y H Q=>L2.sC X.K x y H Q\/L0 x y H Q):=by
 refine L2.gz.or L2.Bh ?_;intro value slice pins s σ H x y v u Q I rx ry h hs;obtain⟨p,j',k,w,rfl,rfl,hd,hv,q⟩:=h;cases rx;obtain⟨z,Qs,vs,rel,dd⟩:=L2.xK I.aQ hd;have r:=L2.KV.val rel k;rw[hv]at r;obtain⟨w',hw,O0⟩:=L2.gA.some_of r;exact abR dd.typeIs abE.lookup (wpAny_getItem_of (L2.iX ry) dd.mapOf hw ⟨w,H,I.tok _,O0,q⟩) hs
theorem zM:∀ {ks:List Ky} {xs:List V} {m:Nat},ks.length=xs.length->gO z ks=some m->∃x,xs[m]? =some x/\L2.eI (ks.zip xs) z=some x
 |[],_,_,_,h=>by cases h
 |a::ks,[],_,l,_=>by simp at l
 | a::ks,x::xs,m,l,h=>by
  unfold gO at h;unfold L2.eI;rw[aap,Z8];by_cases hz:a=z
  ·rw[AC hz]at h
   cases h;exact⟨x,rfl,by simp[hz]⟩
  ·rw[DF hz]at h
   cases e:gO z ks with
   |none=>rw[e]at h;cases h
   | some j=>
    rw[e]at h;cases h;obtain⟨y,h1,h2⟩:=zM (xs:=xs) (by simpa using l) e
    refine⟨y,by simpa using h1,?_⟩
    simp only[KB hz];exact h2
theorem lj(i:Nat)(j:Nat)(hN:X.N[j]? =some x:=by rfl)(hv:L2.fi X.env.scope x:=by exact Or.inl rfl)(hd:gV x:=by decide)(Oh:tx x:=by decide):XL X i (.Name x pos) (pA i j):=⟨ b9 (L2.pv j hN hv hd Oh) λσ H Q=>by
  rintro⟨ρ,F,t,w,p,t1,r,e1,e2,ef,RW,q⟩
  unfold pA at ef;split at ef
  ·rename_i k p' h1
   by_cases hk:k=i
   ·rw[AC hk]at ef
    cases ef;subst hk;obtain⟨v,w1,t2,a1,a2,a3,_⟩:=(r.on j _ h1).1 t e1;rw[e2]at a1;cases a1;have:=a3.vG;rw[RW]at this;cases this;exact⟨w1,a2,q w1 H (ar.refl _) a3⟩
   ·rw[DF hk]at ef;cases ef
  ·cases ef⟩
theorem gd (ha:XL X i a f) (hb:XE X b fb) (hs:L2.o8 b:=by exact vH (by rfl)):XL X i (.Subscript a b pos) (pX i f fb):=⟨have ha:=ha.out;have hb:=hb.out;b9 (L2.tR BC ha hb hs) λσ H Q=>by
  rintro⟨ρ,F,t,w,p',t1,r,e1,e2,ef,RW,q⟩
  obtain⟨p,ep,ef⟩:=aC.mp ef;obtain⟨x,ex,ef⟩:=aC.mp ef;rw[e1]at ef;have ef:(match T.at t p with|some n=>(match stepT n x with|some m=>R.ok (p++[m])|none=>.bad)|none=>.bad)=.ok p':=ef
  cases OT:T.at t p with
  |none=>rw[OT]at ef;cases ef
  | some n=>
   rw[OT]at ef;have ef:(match stepT n x with|some m=>R.ok (p++[m])|none=>.bad)=.ok p':=ef
   cases hm:stepT n x with
   |none=>rw[hm]at ef;cases ef
   | some m=>
    rw[hm]at ef;cases ef;refine⟨ρ,F,t,w,p,n,r,e1,e2,ep,OT,λv H1 s1 RD=>⟨ρ,F,x,r.same s1,ex,λy H2 s2 ry=>?_⟩⟩;have r2:=(r.same s1).same s2;obtain⟨⟨w',as,ew,tr,nd⟩,_,_⟩:=r2.on i _ e1;rw[e2]at ew;cases ew;have at2:=RD.same (r.same s1) e1 e2 s2;obtain⟨bs,tp,_⟩:=aK.part tr at2;have h1:=RW;rw[T.C1 OT]at h1;cases n using T.cs with
    |d _=>cases x<;>cases hm
    |mx _ _=>cases x<;>cases hm
    | l ts=>
     cases x with
     | int k=>
      simp only[cU,cW,cR,cS]at tp;obtain⟨a,xs,cs,rfl,rfl,fa,ha,N4⟩:=tp;rw[T.MB]at h1;have hlen:=N4.len
      have hx:∃x1,xs[m]? =some x1:=by
       obtain⟨hl,_⟩:=xM.mp h1;exact⟨xs[m]'(by omega),Fk (by omega)⟩
      obtain⟨x1,hx⟩:=hx;have hm:dw ts.length k=some m:=hm;have h3:cT xs k=some x1:=by unfold cT;rw[<-hlen,hm];exact hx
      exact .inl (.inl ⟨a,xs,k,x1,rfl,b8 ry,bP.of ha,h3,q x1 H2 (s1.trans s2) (aK.snoc (aK.Dp ha h1 hx) at2)⟩)
     |_=>cases hm
    | tu ts=>
     cases x with
     | int k=>
      simp only[cU,cW,cR,cS]at tp;obtain⟨a,xs,rfl,fa,ha,N4⟩:=tp
      have h1:ts[m]? =some t1:=by
       unfold T.at at h1;cases e:ts[m]? with
       |none=>rw[e]at h1;cases h1
       |some u=>rw[e]at h1;cases u<;>exact h1
      have hlen:=N4.len
      have hx:∃x1,xs[m]? =some x1:=by
       obtain⟨hl,_⟩:=xM.mp h1;exact⟨xs[m]'(by omega),Fk (by omega)⟩
      obtain⟨x1,hx⟩:=hx;have hm:dw ts.length k=some m:=hm;have h3:cT xs k=some x1:=by unfold cT;rw[<-hlen,hm];exact hx
      exact .inl (.inr (.inl ⟨a,xs,k,x1,rfl,b8 ry,.inl (.inl ha),h3,q x1 H2 (s1.trans s2) (aK.snoc (aK.LA ha h1 hx) at2)⟩))
     |_=>cases hm
    | m ks ts=>
     have hm:(match keyOf x with|some z=>gO z ks|none=>none)=some m:=by cases x<;>exact hm
     cases hz:keyOf x with
     |none=>rw[hz]at hm;cases hm
     | some z=>
      rw[hz]at hm;have hm:gO z ks=some m:=hm;simp only[cU,cW,cR,cS]at tp;obtain⟨a,xs,cs,rfl,rfl,fa,ha,hl,N4⟩:=tp
      have h1:ts[m]? =some t1:=by
       unfold T.at at h1;cases e:ts[m]? with
       |none=>rw[e]at h1;cases h1
       |some u=>rw[e]at h1;cases u<;>exact h1
      obtain⟨x1,hx,hv⟩:=zM hl hm;exact .inr ⟨a,_,z,x1,rfl,f7 hz ry,.inl ha,hv,q x1 H2 (s1.trans s2) (aK.snoc (aK.FC ha hl h1 hx) at2)⟩⟩
theorem eY.of(h0:aL M H F n0 (.ref c) (c::cs))(nd:(c::cs).Nodup)(sub:OU.Sublist cs)(h1:aL M (upd H c o) F n1 (.ref c) (c::OU)):eY M H (upd H c o) F F c n0 n1 (c::cs) (c::OU):=
 have s2:(c::OU).Sublist (c::cs):=List.Sublist.cons₂ c sub
 ⟨h0,FB,h1,nd.sublist s2,λb u n e=>by rw[L2.aN n];exact e,λb=>⟨.inl,λh=>h.elim id λhb=>(h0.fs b (s2.subset hb)).1⟩,λb hb=>.inl (s2.subset hb)⟩
theorem aD.Ct(rd:Rep M H F d v):∀ {m:Nat} {ts:List T} {xs:List V} {as:Zx},aD M H F ts xs as->∃as',aD M H F (ts.set m (.d d)) (xs.set m v) as'/\as'.Sublist as
 | m,[],xs,as,h=>by
  simp only[aD]at h;obtain⟨rfl,rfl⟩:=h;exact⟨[],by simp[aD],S7 _⟩
 | 0,t::ts,xs,as,h=>by
  simp only[aD]at h;obtain⟨x,r,bs,cs,rfl,rfl,h1,h2⟩:=h;refine⟨cs,?_,aaM _ _⟩;rw[aaq,aaq];simp only[aD,cU,cW,cR,cS];exact⟨v,r,[],cs,rfl,rfl,⟨rfl,rd⟩,h2⟩
 | m+1,t::ts,xs,as,h=>by
  simp only[aD]at h;obtain⟨x,r,bs,cs,rfl,rfl,h1,h2⟩:=h;obtain⟨OU,k1,k2⟩:=aD.Ct rd (m:=m) h2;refine⟨bs++OU,?_,aca (S7 _) k2⟩;rw[aaJ,aaJ];simp only[aD];exact⟨x,_,bs,OU,rfl,rfl,h1,k1⟩
theorem aD.tN(rd:Rep M H F d v):∀ {ks:List Ky} {ts:List T} {xs:List V} {as:Zx},aD M H F ts xs as->∃as',aD M H F (List.zipWith (λa t=>if a=z then T.d d else t) ks ts) (List.zipWith (λa x=>if a=z then v else x) ks xs) as'/\as'.Sublist as
 |[],ts,xs,as,h=>⟨[],by simp[aD],List.nil_sublist _⟩
 | a::ks,[],xs,as,h=>by
  simp only[aD]at h;obtain⟨rfl,rfl⟩:=h;exact⟨[],by simp[aD],S7 _⟩
 | a::ks,t::ts,xs,as,h=>by
  simp only[aD]at h;obtain⟨x,r,bs,cs,rfl,rfl,h1,h2⟩:=h;obtain⟨OU,k1,k2⟩:=aD.tN (z:=z) rd (ks:=ks) h2;rw[Z6,Z6];by_cases hz:a=z
  ·refine⟨OU,?_,k2.trans (aaM _ _)⟩
   rw[AC hz,AC hz];simp only[aD,cU,cW,cR,cS];exact⟨v,_,[],OU,rfl,rfl,⟨rfl,rd⟩,k1⟩
  ·refine⟨bs++OU,?_,aca (S7 _) k2⟩
   rw[DF hz,DF hz];simp only[aD];exact⟨x,_,bs,OU,rfl,rfl,h1,k1⟩
theorem gI (i:Nat) (hu:X.A.units+64<cLine) (ho:XL X i o f) (hk:XE X k g) (he:XE X e h) (hs:swapsWith e (some (.Subscript o k p3)) pos.line X.env=pure false:=by exact gF (by rfl)):XS X (.Assign [.Subscript o k p3] e pos) (dj i f g h):=⟨have ho:=ho.out;have hk:=hk.out;have he:=he.out;λF0=>
 dm (L2.rO (by omega) ho hk he hs) λD σ H=>by
  rintro⟨ρ,F,fl,r,e,q⟩
  obtain⟨d,ed,e⟩:=aC.mp e;obtain⟨p,ep,e⟩:=aC.mp e;obtain⟨y,ey,e⟩:=aC.mp e;split at e
  ·rename_i t z q1 hz
   split at e
   ·rename_i ks ts OT
    split at e
    ·rename_i OF
     cases e;obtain⟨⟨w,as,ew,tr,nd⟩,_,_⟩:=r.rs.on i _ q1;refine⟨ρ,F,d,r.rs,ed,λv H1 s1 rv=>⟨ρ,F,t,w,p,_,(r.same s1).rs,q1,ew,ep,OT,λv0 H2 s2 at2=>⟨ρ,F,y,((r.same s1).same s2).rs,ey,λw2 H3 s3 O0=>?_⟩⟩⟩;have r2:=(r.same s1).same s2;have r3:=r2.same s3;have QC:=at2.same r2.rs q1 ew s3;obtain⟨⟨w',as',Rx,Pd,Qx⟩,_,_⟩:=r3.rs.on i _ q1;rw[ew]at Rx;cases Rx;obtain⟨bs,tp,sub⟩:=aK.part Pd QC;have Rq:=tp;simp only[cU,cW,cR,cS]at tp;obtain⟨a,xs,cs,rfl,rfl,fa,ha,hl,N4⟩:=tp;have PN:=Qx.sublist sub;have QM:=MG.mp PN;cases f7 hz O0;have Si:=rv.mv (M:=aJ X) (F':=F) (.same (s2.trans s3))
     have Q7:(ks.zip xs).length<sizeLine:=by
      have:(sizeLine:Nat)=16777216:=aad;rw[SB];omega
     refine⟨a,_,rfl,L2.j6.k ha Q7,?_⟩;rw[o7 z v hl];have Ru:∀o:HO,Mv F H3 F (upd H3 a o):=λo b u n e=>⟨n,by rw[L2.aN (λz=>by subst z;exact n fa)];exact e⟩
     have kp:∀(o:HO) {OU:Zx},OU.Sublist cs->∀b∈OU,∀u,F b->H3 b=some u->F b/\upd H3 a o b=some u:=λo OU hs b hb u f hu=>⟨f,by rw[L2.aN (λz=>by subst z;exact QM.1 (hs.subset hb))];exact hu⟩
     unfold d5 at q;by_cases hm:(ks.any λa=>decide (a=z))=true
     ·rw[AC hm]at q ⊢
      obtain⟨OU,k1,k2⟩:=aD.tN (z:=z) Si (ks:=ks) N4
      obtain⟨mv,r'⟩:=r3.qC (H2:=upd H3 a (.dK (ks.zip (List.zipWith (λa x=>if a=z then v else x) ks xs)))) (F2:=F) (n1:=.m ks (List.zipWith (λa t=>if a=z then T.d d else t) ks ts)) q1 ew QC (eY.of Rq PN k2 (by
       simp only[cU,cW,cR,cS];exact⟨a,_,OU,rfl,rfl,fa,L2.bO,by rw[aaj];omega,k1.mv (Ru _) (kp _ k2)⟩)) rfl
      exact q _ _ _ (Mv.trans (.same (s1.trans (s2.trans s3))) mv) r'
     ·rw[DF hm]at q ⊢
      obtain⟨mv,r'⟩:=r3.qC (H2:=upd H3 a (.dK ((ks++[z]).zip (xs++[v])))) (F2:=F) (n1:=.m (ks++[z]) (ts++[T.d d])) q1 ew QC (eY.of Rq PN (S7 _) (by
       simp only[cU,cW,cR,cS];refine⟨a,_,cs,rfl,rfl,fa,L2.bO,by rw[KM,KM,hl];rfl,?_⟩
       have:=aD.append (N4.mv (Ru (.dK ((ks++[z]).zip (xs++[v])))) (kp _ (S7 _))) (jW (vs:=[d]) (xs:=[v]) (as:=[]) |>.mpr ⟨rfl,aj.cons (Si.mv (Ru _)) aj.nil⟩);simpa using this)) rfl
      exact q _ _ _ (Mv.trans (.same (s1.trans (s2.trans s3))) mv) r'
    ·cases e
   ·cases e
  ·cases e⟩
theorem A5 (i:Nat) (ho:XL X i o f) (he:XE X e h) (hk:XE X k g) (ha:mn X.env o k p3) (hs:swapsWithSole [.Subscript o k p3] e pos.line X.env=pure false:=by exact qc (by rfl)) (hw:swappedStores [.Subscript o k p3] e X.env=pure none:=by exact w9 (by rfl)) (h1:(assignEach [.Subscript o k p3] X.env).map (·.2)=[assign (.Subscript o k p3) X.env]:=by exact o6 (by rfl)):XS X (.Assign [.Subscript o k p3] e pos) (nQ i f g h):=⟨have ho:=ho.out;have he:=he.out;have hk:=hk.out;λF0=>
 dm (L2.u3 he (L2.zy ho hk L2.set_list ha) hs hw h1) λD σ H=>by
  rintro⟨ρ,F,fl,r,e,q⟩
  obtain⟨d,ed,e⟩:=aC.mp e;obtain⟨p,ep,e⟩:=aC.mp e;obtain⟨y,ey,e⟩:=aC.mp e;split at e
  ·rename_i t j q1
   split at e
   ·rename_i ts OT
    split at e
    ·rename_i m hm
     cases e;obtain⟨⟨w,as,ew,tr,nd⟩,_,_⟩:=r.rs.on i _ q1;refine⟨ρ,F,d,r.rs,ed,λv H1 s1 rv=>⟨ρ,F,t,w,p,_,(r.same s1).rs,q1,ew,ep,OT,λv0 H2 s2 at2=>⟨ρ,F,_,((r.same s1).same s2).rs,ey,λw2 H3 s3 O0=>?_⟩⟩⟩;have r2:=(r.same s1).same s2;have r3:=r2.same s3;have QC:=at2.same r2.rs q1 ew s3;obtain⟨⟨w',as',Rx,Pd,Qx⟩,_,_⟩:=r3.rs.on i _ q1;rw[ew]at Rx;cases Rx;obtain⟨bs,tp,sub⟩:=aK.part Pd QC;have Rq:=tp;simp only[cU,cW,cR,cS]at tp;obtain⟨a,xs,cs,rfl,rfl,fa,ha,N4⟩:=tp;have PN:=Qx.sublist sub;have QM:=MG.mp PN;have Si:=rv.mv (M:=aJ X) (F':=F) (.same (s2.trans s3));refine⟨a,xs,j,m,rfl,b8 O0,ha,by rw[<-N4.len];exact hm,?_⟩
     have Ru:∀o:HO,Mv F H3 F (upd H3 a o):=λo b u n e=>⟨n,by rw[L2.aN (λz=>by subst z;exact n fa)];exact e⟩
     obtain⟨OU,k1,k2⟩:=aD.Ct Si (m:=m) N4
     obtain⟨mv,r'⟩:=r3.qC (H2:=upd H3 a (.lst (xs.set m v))) (F2:=F) (n1:=.l (ts.set m (T.d d))) q1 ew QC (eY.of Rq PN k2 (by
      simp only[cU,cW,cR,cS];exact⟨a,_,OU,rfl,rfl,fa,L2.bO,k1.mv (Ru _) λb hb u f hu=>⟨f,by rw[L2.aN (λz=>by subst z;exact QM.1 (k2.subset hb))];exact hu⟩⟩)) rfl
     exact q _ _ _ (Mv.trans (.same (s1.trans (s2.trans s3))) mv) r'
    ·cases e
   ·cases e
  ·cases e⟩
noncomputable def rL:D->R D
 |.aA ks vs=>.ok (.aA ks vs)
 |_=>.bad
theorem Kn:cj X (.type "dict") (λxs H Q=>∃F p j',xs=[.ref p]/\gr (aJ X) H F p j'/\∀l,H l=none->Q (.ref l) (upd H l (.dK j'))):=by
 intro pins s σ H xs us Q I r h;obtain⟨F,p,j',rfl,hd,q⟩:=h;obtain⟨u,rfl,ru⟩:=L2.vals1 r;cases ru;obtain⟨z,Qs,vs,rel,dd⟩:=jx I hd;have hl:=pU rel;refine kt_call_dict (knd:=L2.cK X.prog X.w) Qs dd (by omega) λh' d1 sb=>?_
 have keep:∀b o,s.heap.get? b=some o->h'.get? b=some o:=λb o e=>by
  rw[sb.2 b (Pv (GM e))];exact mB _ e
 exact⟨.ref _,_,I.laid (a:=s.heap.objs.size) (o:=.dK j') (t':=s.toks) keep (Gc _) (L2.oG z (ZY.mpr (P3 (Pv I.big))) rel d1),rfl,q _ (I.aQ.fresh (Gc _))⟩
theorem yp(hm:X.mg "dict"=none)(ha:XE X a fa)(hg:L2.Gl X "dict":=by rfl)(hs:starEach [a] X.env=(false,eval a X.env)::starEach [] X.env:=by exact bG (by rfl)):XD X (.Call (.Name "dict" p) [a] [] pos) (e1 rL fa):=⟨have ha:=ha.out;b9 (L2.ox Kn hg hm ng (gk ha hZ hs) (by decide) (by decide) hs) λσ H Q=>by
  rintro⟨ρ,F,ks,ds,hr,e,q⟩
  obtain⟨d1,ed,e⟩:=aC.mp e;refine⟨ρ,F,[d1],hr,by show(fa ρ).bind _=_;rw[ed];rfl,λvs H1 s1 rv=>?_⟩
  obtain⟨y,rfl,ry⟩:=rv.one;unfold rL at e;split at e
  ·cases e
   simp only[Rep]at ry;obtain⟨a,xs,rfl,h1,hl,rs⟩:=ry;exact⟨F,a,_,rfl,h1,λl hn=>q l H1 xs s1 hn hl rs⟩
  ·cases e⟩
theorem gr.ne(I:Inv X pins σ H s)(ha:H a=some (.dK j'))(hb:gr (aJ X) H F b more):a≠b:=by
 rintro rfl;rcases hb with⟨_,ob,hb⟩|⟨o,es,ep,vs,hk,_⟩
 ·rw[ha]at hb;cases hb
 ·have:=(I.bs a o (I.mod.mJ a o hk)).2
  rw[ha]at this;cases this
def MI(M:Md):V->List V->Hp->VK->Prop:=λx vs H Q=>∃F a b j' more,x=.ref a/\vs=[.ref b]/\H a=some (.dK j')/\gr M H F b more/\j'.length+more.length<=1000/\Q .aE (upd H a (.dK (L2.eO j' more)))
theorem L7:L2.zK X "dict.update" (MI (aJ X)):=by
 intro pins s σ H x vs v us Q I rx rv h;obtain⟨F,a,b,j',more,rfl,rfl,ha,hb,hz,q⟩:=h;cases rx;obtain⟨u,rfl,ru⟩:=rv.one;cases ru;obtain⟨z,Qs,ws,rel,dd⟩:=L2.uD I.aQ ha;obtain⟨z2,Tn,XM,SI,Sw⟩:=jx I hb;have h3:(sizeLine:Nat)=16777216:=aad;refine abA abH dd.typeIs PySem.F.entry_dict_update (PySem.F.args_dict_update_2 _ _) (meets_dict_update (L2.cK X.prog X.w) a b (gr.ne I ha hb) Tn) ⟨ws,XM,dd,Sw,by rw[<-rel.length, <-SI.length];omega,λh' d1 d2 hs=>?_⟩
 have he:∃q,h'.get? a=some q:=let⟨q,_,_,hq,_⟩:=d1;⟨q,hq⟩
 have hl:(L2.eO j' more).length<=sizeLine:=by have:=L2.sy more j';omega
 exact⟨.aE,_,L2.sG I (by rw[ha];exact True.intro) hs he (L2.oG hl Qs (SI.merge rel) d1),rfl,q⟩
theorem Hw(i:Nat)(he:XE X e f)(hN:X.N[i]? =some x:=by rfl)(hv:L2.fi X.env.scope x:=by exact Or.inl rfl)(hd:gV x:=by decide)(Oh:tx x:=by decide)(Pw:attributeBase (.Name x p2) "update" X.env (eval (.Name x p2) X.env)=eval (.Name x p2) X.env:=by exact qQ)(QS:((backTo NW (starEach [e] X.env)).all (λx=> !x.1)&&(backToKw NW (keywordEach [] X.env)).all (λx=>x.1.isSome)&&decide (([e]:acP).length+([]:List Keyword).length+(if([]:List Keyword).isEmpty then 0 else 1)<30))=true:=by exact xE (by rfl) (by decide))(Px:(apos.endLine==NW.line)=true:=by rfl)(hs:starEach [e] X.env=(false,eval e X.env)::starEach [] X.env:=by exact bG (by rfl))(Vy:swapsWith (.Call (.Attribute (.Name x p2) "update" apos) [e] [] NW) none pos.line X.env=pure false:=by exact gF (by rfl)):XS X (.Expr (.Call (.Attribute (.Name x p2) "update" apos) [e] [] NW) pos) (B7 i f):=⟨have he:=he.out;λF0=>
 dm (L2.Au (L2.BP abJ abH PySem.F.type_dict_update L7 (L2.pv i hN hv hd Oh) (gk he hZ hs) Pw QS Px hs) Vy) λD σ H=>by
  rintro⟨ρ,F,fl,r,e,q⟩
  obtain⟨d,ed,e⟩:=aC.mp e;split at e
  ·rename_i ks vs as bs q1
   split at e
   ·rename_i OF
    cases e;have oi:bY ρ i:=.inr ⟨_,_,q1⟩;obtain⟨a,xs,ea,fa,ha,hl,rs⟩:=r.rs.od i _ _ q1;refine⟨_,ea,.inr (.inr (.inl ⟨rfl,.inl ⟨_,ha⟩⟩)),ρ,F,[.aA ks vs],r.rs,by show(f ρ).bind _=_;rw[ed];rfl,λus H1 s1 rv=>?_⟩
    obtain⟨y,rfl,ry⟩:=rv.one;simp only[Rep]at ry;obtain⟨b,ys,rfl,h1,YT,ry⟩:=ry;have r1:=r.same s1;have UI:=s1 _ _ ha;obtain⟨zs,e1,l1,UD⟩:=BO (M:=aJ X) (H:=H1) (F:=F) YT ry hl (rs.mv (.same s1));refine⟨F,a,b,_,_,rfl,rfl,UI,h1,by rw[SB,SB];omega,?_⟩
    rw[e1];obtain⟨mv,r'⟩:=r1.chg (s:=.od (fI ks vs as bs).1 (fI ks vs as bs).2) oi ea (.inr ⟨_,_,zs,rfl,rfl,l1,UD⟩);exact q _ _ _ (Mv.trans (.same s1) mv) r'
   ·cases e
  ·cases e⟩
noncomputable def kB:List (Ex×Xt)->En->R (List Ky×List T)
 |[],_=>.ok ([],[])
 | (fk,fv)::r,ρ=>(fk ρ).bind λq=>(fv ρ).bind λt=>match keyOf q with
  |some z=>(kB r ρ).bind λy=>.ok (z::y.1,t::y.2)
  |none=>.bad
noncomputable def jG(OR:List (Ex×Xt)):Xt:=λρ=>(kB OR ρ).bind λy=>if y.1.Nodup then .ok (.m y.1 y.2)else .bad
def GH(X:Cx)(pos:Pos)(keys:List (Option Expr))(values:acP)(OR:List (Ex×Xt)):Prop:=
 ∃N4,L2.kA X pos keys values N4/\∀(F:acS) (σ:L2.St) (H:Hp) (ρ:En) (ks:List Ky) (ts:List T) (Q:List (V×V)->Hp->Prop),bC (aJ X) H F σ ρ->kB OR ρ=.ok (ks,ts)->
  (∀xs H' F' as,ar H H'->(∀b∈as,H b=none)->as.Nodup->(∀b,F' b↔F b\/b∈as)->ks.length=xs.length->aD (aJ X) H' F' ts xs as->Q ((ks.zip xs).map λkv=>(L2.kV kv.1,kv.2)) H')->L2.m4 N4 σ H Q
structure tf(X:Cx)(pos:Pos)(keys:List (Option Expr))(values:acP)(OR:List (Ex×Xt)):Prop where
 out:GH X pos keys values OR
theorem GQ:tf X pos [] [] []:=⟨ ⟨[],L2.qN,λF σ H ρ ks ts Q r e q=>by
 cases e;exact q [] H F [] (ar.refl _) (λ_ hb=>nomatch hb) Z3 (λb=>by simp) rfl (by rw[aD];exact⟨rfl,rfl⟩)⟩⟩
theorem mD(hk:XE X k fk)(hv:XX X v fv)(hr:tf X pos keys values OR):tf X pos (some k::keys) (v::values) ((fk,fv)::OR):=⟨have hk:=hk.out;have hv:=hv.out;have hr:=hr.out;by
 obtain⟨N4,h,g⟩:=hr;refine⟨_,L2.pZ hk hv h,λF σ H ρ ks ts Q r e q=>?_⟩;obtain⟨d,ed,e⟩:=aC.mp e;obtain⟨t,et,e⟩:=aC.mp e;cases hz:keyOf d with
 |none=>rw[hz]at e;cases e
 | some z=>
  rw[hz]at e;obtain⟨⟨RZ,TH⟩,ey,e⟩:=aC.mp e;cases e;refine⟨ρ,F,d,r,ed,λx H1 s1 rx=>⟨ρ,F,t,r.same s1,et,λy H2 F2 as s2 hn nd hF tr=>?_⟩⟩;obtain⟨Ul,r2⟩:=(r.same s1).wide s2 hn hF (λb hb=>(tr.fs b hb).2);refine g F2 σ H2 ρ RZ TH _ r2 ey λxs H3 F3 bs s3 Sk UQ R' hl N4=>?_
  have apart:∀a∈as,∀b∈bs,a≠b:=λa ha b hb z=>by
   subst z;obtain⟨_,u,hu⟩:=tr.fs a ha;rw[Sk a hb]at hu;cases hu
  have Vc:Mv F2 H2 F3 H3:=λb o n e=>⟨λf=>((R' b).mp f).elim n (λhb=>by rw[Sk b hb]at e;cases e),s3 _ _ e⟩
  cases f7 hz rx;refine q (y::xs) H3 F3 (as++bs) (s1.trans (s2.trans s3)) (λb hb=>?_) (SZ.mpr ⟨nd,UQ,apart⟩) (λb=>?_) (by simp[hl]) ?_
  ·rcases M0.mp hb with hb|hb
   ·exact s1.free (hn b hb)
   ·exact s1.free (s2.free (Sk b hb))
  ·rw[R' b,hF b,M0,abf]
  ·simp only[aD]
   exact⟨y,xs,as,bs,rfl,rfl,tr.mv Vc λb hb u f hu=>⟨(R' b).mpr (.inl f),s3 _ _ hu⟩,N4⟩⟩
theorem yf:∀ {OR:List (Ex×Xt)} {y:List Ky×List T},kB OR ρ=.ok y->y.1.length=OR.length
 |[],y,h=>by cases h;rfl
 | (fk,fv)::r,y,h=>by
  obtain⟨q,eq,h⟩:=aC.mp h;obtain⟨t,et,h⟩:=aC.mp h;split at h
  ·obtain⟨z,ez,h⟩:=aC.mp h
   cases h;simp[yf ez]
  ·cases h
theorem Lz(h:tf X pos keys values OR)(O9:keys.all (·.isSome)=true:=by rfl)(hl:keys.length=values.length:=by rfl)(h0:keys≠[]:=by simp)(PZ:keys.length<=15:=by decide)(hk:OR.length<=15:=by decide):XX X (.Dict keys values pos) (jG OR):=⟨have h:=h.out;by
 obtain⟨N4,hp,g⟩:=h;refine b9 (L2.sJ hp O9 hl h0 PZ) λσ H Q ⟨ρ,F,t,hr,e,q⟩=>?_;obtain⟨⟨ks,ts⟩,ey,e⟩:=aC.mp e;by_cases PJ:ks.Nodup
 ·rw[AC PJ]at e
  cases e;intro p hp;have P4:=hr.fresh (o:=.dK []) hp;refine g _ σ _ ρ ks ts _ P4 ey λxs H2 F2 as s2 hn nd hF Su rs=>?_;have e2:H2 p=some (.dK []):=s2 _ _ L2.bO
  have hm:L2.eO [] (ks.zip xs)=ks.zip xs:=by
   rw[oq (by simp only[ZO,aaF];rw[show(ks.zip xs).map (·.1)=ks from by rw[Z4];omega];exact PJ)]
   rfl
  have Xl:ks.length=OR.length:=yf ey;refine⟨e2,ks.zip xs,rfl,by rw[SB];omega,?_⟩
  rw[hm];have QE:p∉as:=λhb=>by have:=hn p hb;rw[L2.bO]at this;cases this
  have sm:ar H (upd H2 p (.dK (ks.zip xs))):=λb u e=>by
   have ne:b≠p:=λz=>by subst z;rw[hp]at e;cases e
   rw[L2.aN ne];exact s2 _ _ (by rw[L2.aN ne];exact e)
  refine q _ _ F2 (p::as) sm (λb hb=>?_) (MG.mpr ⟨QE,nd⟩) (λb=>?_) ?_
  ·rcases Da.mp hb with h9|h9
   ·rw[h9];exact hp
   ·have:=hn b h9
    have G':b≠p:=λz=>by rw[z]at h9;exact QE h9
    rwa[L2.aN G']at this
  ·rw[hF b,Da,abf]
  ·simp only[cU,cW,cR,cS]
   have fp:F2 p:=(hF p).mpr (.inl (.inr rfl));exact⟨p,xs,as,rfl,rfl,fp,L2.bO,Su,rs.mv (λb o n e=>⟨n,by rw[L2.aN (λz=>by subst z;exact n fp)];exact e⟩) λb hb u f hu=>⟨f,by rw[L2.aN (λz=>by subst z;exact QE hb)];exact hu⟩⟩
 ·rw[DF PJ]at e;cases e⟩
noncomputable def jS:List T->Option (List Ky×List T)
 |[]=>some ([],[])
 | .n .u [.d q,u]::r=>match keyOf q,jS r with
  |some z,some y=>some (z::y.1,u::y.2)
  |_,_=>none
 |_=>none
noncomputable def yg(f:Xt):Xt:=λρ=>(f ρ).bind λt=>match t with
 | .n .l ps=>match jS ps with
  |some y=>if y.1.Nodup/\y.1.length<=1000 then .ok (.m y.1 y.2)else .bad
  |none=>.bad
 |_=>.bad
theorem zd:∀ {ps:List T} {y:List Ky×List T} {vs:List V} {as:Zx},jS ps=some y->aD M H F ps vs as->∃xs,y.1.length=xs.length/\mr M H F vs (y.1.zip xs)/\aD M H F y.2 xs as
 | [],y,vs,as,h,tr=>by
  cases h;simp only[aD]at tr;obtain⟨rfl,rfl⟩:=tr;exact⟨[],rfl,True.intro,by rw[aD];exact⟨rfl,rfl⟩⟩
 | t::ps,y,vs,as,h,tr=>by
  unfold jS at h;split at h
  ·rename_i h0;cases h0
  ·rename_i q u r h0
   cases h0;cases hz:keyOf q with
   |none=>rw[hz]at h;cases h
   | some z=>
    rw[hz]at h;cases hr:jS ps with
    |none=>rw[hr]at h;cases h
    | some y'=>
     rw[hr]at h;cases h;simp only[aD]at tr;obtain⟨x,r,bs,cs,rfl,rfl,h1,h2⟩:=tr;obtain⟨xs,l,k1,k2⟩:=zd hr h2;simp only[cU,cW,cR,cS,aD]at h1;obtain⟨a,ys,rfl,nf,ha,x1,r1,b1,c1,rfl,rfl,⟨rfl,rq⟩,x2,r2,b2,c2,rfl,rfl,hu,rfl,rfl⟩:=h1;cases f7 hz rq;refine⟨x2::xs,by simp[l],⟨⟨a,rfl,.inl ⟨nf,.inl ha⟩⟩,k1⟩,?_⟩
     simp only[aD];refine⟨x2,xs,b2,cs,rfl,by simp,hu,k2⟩
  ·cases h
theorem DY (hm:X.mg "dict"=none) (ha:XX X a f) (hc:X.calm=true:=by rfl) (hg:L2.Gl X "dict":=by rfl) (hs:starEach [a] X.env=(false,eval a X.env)::starEach [] X.env:=by exact bG (by rfl)):XX X (.Call (.Name "dict" p) [a] [] pos) (yg f):=⟨have ha:=ha.out;b9 (L2.ox (Kc hc) hg hm ng (L2.gp ha L2.jj hs) (by decide) (by decide) hs) λσ H Q=>by
  rintro⟨ρ,F,t,hr,e,q⟩
  obtain⟨t1,et,e⟩:=aC.mp e;refine⟨ρ,F,t1,hr,et,λv H1 F1 as s1 hn nd hF tr=>?_⟩;split at e
  ·rename_i ps
   split at e
   ·rename_i y hy
    by_cases PJ:y.1.Nodup/\y.1.length<=1000
    ·rw[AC PJ]at e
     cases e;simp only[cU,cW,cR,cS]at tr;obtain⟨l,vs,bs,rfl,rfl,fl,hl,N4⟩:=tr;have Oc:=MG.mp nd;obtain⟨xs,lx,k1,k2⟩:=zd hy N4
     have hm:L2.eO [] (y.1.zip xs)=y.1.zip xs:=by
      rw[oq (by simp only[ZO,aaF];rw[show(y.1.zip xs).map (·.1)=y.1 from by rw[Z4];omega];exact PJ.1)]
      rfl
     have Qj:Mv F1 H1 (λb=>F1 b/\b≠l) H1:=λb o n e=>⟨λh=>n h.1,e⟩
     have Yz:∀ {ws:List V} {more:List (Key×V)},mr (aJ X) H1 F1 ws more->mr (aJ X) H1 (λb=>F1 b/\b≠l) ws more:=by
      intro ws
      induction ws with
      | nil=>intro more h;cases more with
       |nil=>exact h
       |cons _ _=>exact h.elim
      | cons w ws ih=>intro more h;cases more with
       |nil=>exact h.elim
       | cons p more=>
        obtain⟨⟨a,e1,e2⟩,h⟩:=h;exact⟨⟨a,e1,e2.mv Qj⟩,ih h⟩
     refine⟨λb=>F1 b/\b≠l,l,vs,y.1.zip xs,rfl,.inl ⟨λh=>h.2 rfl,.inl hl⟩,Yz k1,by rw[SB];omega,λp hp=>?_⟩
     rw[hm];have Yq:p∉bs:=λhb=>by obtain⟨_,u,hu⟩:=k2.fs p hb;rw[hp]at hu;cases hu
     have ne:∀b u,H1 b=some u->b≠p:=λb u e z=>by subst z;rw[hp]at e;cases e
     refine q _ _ (λb=>F b\/b∈p::bs) (p::bs) (s1.trans (ar.dy hp _)) (λb hb=>?_) (MG.mpr ⟨Yq,Oc.2⟩) (λ_=>aaW) ?_
     ·rcases Da.mp hb with rfl|hb
      ·exact s1.free hp
      ·exact hn b (Do _ hb)
     ·simp only[cU,cW,cR,cS]
      refine⟨p,xs,bs,rfl,rfl,.inr FB,L2.bO,lx,k2.mv (λb o n e=>⟨λf=>?_,by rw[L2.aN (ne b o e)];exact e⟩) λb hb u f hu=>⟨.inr (Do _ hb),by rw[L2.aN (ne b u hu)];exact hu⟩⟩
      rcases f with f|f
      ·exact n ((hF b).mpr (.inl f))
      ·rcases Da.mp f with f|f
       ·exact ne b o e f
       ·exact n ((hF b).mpr (.inr (Do _ f)))
    ·rw[DF PJ]at e;cases e
   ·cases e
  ·cases e⟩
noncomputable def j5:D->R D
 |.lst _=>.ok (.bl true)
 |.tup _=>.ok (.bl true)
 |.cE _ _ _=>.bad
 |_=>.ok (.bl false)
theorem EX:cj X (.builtin "isinstance") (λxs H Q=>∃F d x tp b,xs=[x,.ref tp]/\Rep (aJ X) H F d x/\H tp=some (.tup [.ty "list",.ty "tuple"])/\j5 d=.ok (.bl b)/\Q (.bl b) H):=by
 intro pins s σ H xs us Q I r h;obtain⟨F,d,x,tp,b,rfl,rd,ht,e,q⟩:=h;obtain⟨u,w,rfl,ru,O0⟩:=L2.vals2 r;cases (show w=Value.ref tp from O0)
 obtain⟨_,aq,rv,o,ho,hc,n,hd⟩:=I.aQ _ _ ht;obtain⟨oc,od,ZM,Pk⟩:=o;simp only at hc hd;subst hc hd
 have hi:aq=[.type "list",.type "tuple"]:=by
  obtain⟨u1,u2,rfl,r1,r2⟩:=L2.vals2 rv;cases (show u1=Value.type "list" from r1)
  cases (show u2=Value.type "tuple" from r2)
  rfl
 subst hi;have fin:∀tk,EP X pins σ Q (.bool b) {s with toks:=tk}:=λtk=>⟨.bl _,H,I.tok tk,rfl,q⟩;cases d with
 |aE=>cases rY rd;cases ru;cases e;exact aab ach I.da True.intro ho rfl (λz=>nomatch z) fin
 |bl y=>cases gB rd;cases ru;cases e;exact aab aci I.da True.intro ho rfl (λz=>nomatch z) fin
 |int i=>cases b8 rd;obtain⟨t,rfl⟩:=ru;cases e;exact aab acv I.da True.intro ho rfl (λz=>nomatch z) fin
 |str z=>cases fB rd;obtain⟨t,rfl⟩:=ru;cases e;exact aab acw I.da True.intro ho rfl (λz=>nomatch z) fin
 | tup ds=>
  simp only[Rep]at rd;obtain⟨p,xs,rfl,h,_⟩:=rd;cases ru;obtain⟨aq,_,⟨o,h1,h2,_⟩,_⟩:=mN I h;cases e;exact aab ace I.da ⟨o,h1,h2⟩ ho rfl (λz=>nomatch z) fin
 | lst ds=>
  simp only[Rep]at rd;obtain⟨p,xs,rfl,h,_⟩:=rd;cases ru;obtain⟨aq,n,sl,_,h1,_⟩:=jX I h;cases e;exact aab acj I.da ⟨_,h1,rfl⟩ ho rfl (λz=>nomatch z) fin
 | aA ks ds=>
  simp only[Rep]at rd;obtain⟨p,xs,rfl,h,_⟩:=rd;cases ru;obtain⟨_,_,vs,_,o,es,ep,e1,e2,e3,_⟩:=jx I h;cases e;exact aab ack I.da ⟨o,e1,e2.1⟩ ho rfl (λz=>nomatch z) fin
 |cE c ns vs=>cases e
theorem KA(h:j5 d=.ok r):∃b,r=.bl b:=by
 unfold j5 at h;split at h<;>cases h<;>exact⟨_,rfl⟩
theorem M3{k1}(ha:XE X a fa)(hm:X.mg "isinstance"=none)(XY:X.mg "list"=none)(UT:X.mg "tuple"=none)(hg:L2.Gl X "isinstance":=by rfl)(YC:L2.Gl X "list":=by rfl)(Uo:L2.Gl X "tuple":=by rfl)(hs:starEach [a,.Tuple [.Name "list" p3,.Name "tuple" p4] k1 p2] X.env=(false,eval a X.env)::starEach [.Tuple [.Name "list" p3,.Name "tuple" p4] k1 p2] X.env:=by exact bG (by rfl))(OH:starEach [.Tuple [.Name "list" p3,.Name "tuple" p4] k1 p2] X.env=(false,eval (.Tuple [.Name "list" p3,.Name "tuple" p4] k1 p2) X.env)::starEach [] X.env:=by exact bG (by rfl))(Xn:starEach [.Name "list" p3,.Name "tuple" p4] X.env=(false,eval (.Name "list" p3) X.env)::starEach [.Name "tuple" p4] X.env:=by exact bG (by rfl))(Xx:starEach [.Name "tuple" p4] X.env=(false,eval (.Name "tuple" p4) X.env)::starEach [] X.env:=by exact bG (by rfl)):XE X (.Call (.Name "isinstance" p) [a,.Tuple [.Name "list" p3,.Name "tuple" p4] k1 p2] [] pos) (e1 j5 fa):=⟨have ha:=ha.out;b9 (L2.q8 EX hg hm yt (L2.gp ha (L2.gp (L2.u7 (L2.gp (L2.xx (v:=.ty "list") YC XY oC rfl (by decide) (by decide)) (L2.gp (L2.xx (v:=.ty "tuple") Uo UT gT rfl (by decide) (by decide)) L2.jj Xx) Xn)) L2.jj OH) hs) (by decide) (by decide) hs (by rw[OH];rfl)) λσ H Q=>by
  rintro⟨ρ,F,d,hr,e,q⟩
  obtain⟨a,ea,e⟩:=aC.mp e;obtain⟨b,rfl⟩:=KA e;refine⟨ρ,F,a,hr,ea,λx H1 s1 rx=>⟨by decide,λtp hn=>⟨F,a,x,tp,b,rfl,rx.mv (.same (ar.dy hn _)),L2.bO,e,q _ _ (s1.trans (ar.dy hn _)) fO⟩⟩⟩⟩
theorem CF:ig X VI (λ_=>.bad):=λF0 pins s σ H D I ⟨ρ,F,fl,r,e,q⟩=>by cases e
end
noncomputable def md(b:(List D->R T)->List D->R T):Nat->List D->R T
 |0=>λ_=>.bad
 |n+1=>b (md b n)
noncomputable def lX(b:(List D->R D)->List D->R D):Nat->List D->R D
 |0=>λ_=>.bad
 |n+1=>b (lX b n)
theorem di.m5(h0:di P w K mg base x k n λ_=>.bad)(h:∀j m,di P w K mg base x (k+j) n m->di P w K mg base x (k+(j+1)) n (b m)):∀j,di P w K mg base x (k+j) n (md b j)
 |0=>h0
 |j+1=>h j _ (di.m5 h0 h j)
theorem Df.m5(h0:Df P w K mg base x k n λ_=>.bad)(h:∀j m,Df P w K mg base x (k+j) n m->Df P w K mg base x (k+(j+1)) n (b m)):∀j,Df P w K mg base x (k+j) n (lX b j)
 |0=>h0
 |j+1=>h j _ (Df.m5 h0 h j)
noncomputable def xb(i:Nat)(e:Ex):Ex:=λρ=>(e ρ).bind λx=>match ρ[i]? with
 |some (.od ks vs)=>oy (.aA ks vs) x
 |_=>.bad
noncomputable def G6(i:Nat)(f:Xt):Sm:=λρ=>(f ρ).bind λt=>match t with
 | .n (.m ks) ts=>match nG ts with
  |some vs=>.ok (.next (ρ.set i (.od ks vs)))
  |none=>.bad
 |_=>.bad
noncomputable def xa(i:Nat):Sm:=λρ=>match ρ[i]? with
 |some (.od ks vs)=>.ok (.fw (.m ks (vs.map .d)))
 |_=>.bad
section
variable{X:Cx}{M:Md}{G H H':Hp}{F0:Gf}{F F':acS}{σ:L2.St}{ρ:En}{pos:Pos}{pins:List (Addr×Obj)}{s:Shared}{as:Zx}
theorem GL(i:Nat)(hb:XE X b fb)(hN:X.N[i]? =some x:=by rfl)(hv:L2.fi X.env.scope x:=by exact Or.inl rfl)(hd:gV x:=by decide)(Oh:tx x:=by decide)(hs:L2.o8 b:=by exact vH (by rfl)):XE X (.Subscript (.Name x p2) b pos) (xb i fb):=⟨have hb:=hb.out;b9 (L2.tR BC (L2.pv i hN hv hd Oh) hb hs) λσ H Q=>by
  rintro⟨ρ,F,d,hr,e,q⟩
  obtain⟨y,ey,e⟩:=aC.mp e;split at e
  ·rename_i ks vs q1
   obtain⟨a,ys,ea,fa,ha,hl,rs⟩:=hr.od i _ _ q1;refine⟨_,ea,ρ,F,y,hr,ey,λz H1 s1 rz=>?_⟩;have e:(match keyOf y with|some q=>(match cx q ks vs with|some v=>R.ok v|none=>.bad)|none=>.bad)=.ok d:=e
   cases hk:keyOf y with
   |none=>rw[hk]at e;cases e
   | some k=>
    rw[hk]at e;cases hf:cx k ks vs with
    | none=>
     have e:(match cx k ks vs with|some v=>R.ok v|none=>.bad)=.ok d:=e
     rw[hf]at e;cases e
    | some v=>
     have e:(match cx k ks vs with|some v=>R.ok v|none=>.bad)=.ok d:=e
     rw[hf]at e;cases e;obtain⟨w,hw,O0⟩:=(Ba (M:=aJ X) (H:=H1) (F:=F) k hl (rs.mv (.same s1))).2 _ hf;exact .inr ⟨a,_,k,w,rfl,f7 hk rz,.inl (s1 _ _ ha),hw,q _ _ s1 O0⟩
  ·cases e⟩
theorem kc(hk:XE X k (eC (.int z)))(hv:XE X v f)(hr:XP X pos keys values ks fs):XP X pos (some k::keys) (v::values) (.inl z::ks) (f::fs):=⟨have hk:=hk.out;have hv:=hv.out;have hr:=hr.out;by
 obtain⟨N4,h,g⟩:=hr;refine⟨_,L2.pZ hk hv h,λF σ H ρ ds Q r e q=>?_⟩;obtain⟨a,ea,e⟩:=aC.mp e;obtain⟨as,Sy,e⟩:=aC.mp e;cases e;refine⟨ρ,F,.int z,r,rfl,λx H1 s1 rx=>⟨ρ,F,a,r.same s1,ea,λy H2 s2 ry=>g F σ H2 ρ as _ ((r.same s1).same s2) Sy λxs H3 s3 rs=>?_⟩⟩;cases b8 rx;exact q (y::xs) H3 ((s1.trans s2).trans s3) (aj.cons (ry.mv (.same s3)) rs)⟩
theorem Nh(i:Nat)(hN:X.N.Nodup)(he:JX X e f)(hi:X.N[i]? =some x:=by rfl)(hx:L2.Loc X.env.scope x:=by exact Or.inl rfl)(hf:X.fn x=true\/X.env.scope.names.lookup x=some .local:=by first|exact .inl rfl|exact .inr rfl)
  (hs:swapsWith e (some (.Name x p2)) pos.line X.env=pure false:=by rfl):JS X (.Assign [.Name x p2] e pos) (G6 i f):=λF0=>
 dm (L2.kW hN hi hx he hs hf) λD σ H=>by
  rintro⟨ρ,F,fl,r,e,q⟩
  obtain⟨t,et,e⟩:=aC.mp e;split at e
  ·rename_i ks ts
   split at e
   ·rename_i vs hv
    cases e;cases yA hv;refine⟨ρ,F,_,r.rs,et,λv H1 F1 as s1 hn nd hF tr=>?_⟩;simp only[cU,cW,cR,cS]at tr;obtain⟨a,xs,bs,rfl,rfl,fa,ha,hl,N4⟩:=tr;obtain⟨rfl,rs⟩:=jW.mp N4;have nF:¬F a:=λf=>by obtain⟨o,eo⟩:=r.rs.bw a f;rw[hn a FB]at eo;cases eo
    have SY:ar H (λb=>if b=a then none else H1 b):=λb o e=>by
     have hb:b≠a:=λz=>by subst z;rw[hn b FB]at e;cases e
     simp only[DF hb];exact s1 _ _ e
    have e3:H1=upd (λb=>if b=a then none else H1 b) a (.dK (ks.zip xs)):=by
     funext b;unfold upd;by_cases hb:b=a
     ·simp only[AC hb];rw[hb];exact ha
     ·simp only[DF hb]
    have RX:aj (aJ X) (λb=>if b=a then none else H1 b) F vs xs:=rs.mv λb o n e=>by
     have hb:b≠a:=λz=>by subst z;exact n fa
     exact⟨λf=>n ((hF b).mpr (.inl f)),by simp only[DF hb];exact e⟩
    obtain⟨mv,r'⟩:=(r.same SY).new (i:=i) (p:=a) (s:=.od ks vs) (by simp) (.inr ⟨_,_,xs,rfl,rfl,hl,RX⟩)
    rw[<-e3]at mv r';exact q _ _ _ (Mv.trans (.same SY) mv) r'
   ·cases e
  ·cases e
theorem G9(i:Nat)(hN:X.N[i]? =some x:=by rfl)(hv:L2.fi X.env.scope x:=by exact Or.inl rfl)(hd:gV x:=by decide)(Oh:tx x:=by decide):XS X (.Return (some (.Name x p2)) pos) (xa i):=⟨ λF0=>
 dm (L2.oZ (L2.pv i hN hv hd Oh)) λD σ H=>by
  rintro⟨ρ,F,fl,r,e,q⟩
  unfold xa at e;split at e
  ·rename_i ks vs q1
   cases e;obtain⟨a,xs,ea,fa,ha,hl,rs⟩:=r.rs.od i _ _ q1;have hG:=r.own i a (.inr ⟨_,_,q1⟩) ea;refine⟨_,ea,q _ H (λb=>F b/\b≠a) F [a] (λb o n e=>⟨λh=>n h.1,e⟩) r.sm (λb f=>⟨r.sub b f,λz=>?_⟩) (λb hb=>by rw[PP.mp hb];exact hG) (by simp) (λb=>?_) ?_⟩
   ·subst z;obtain⟨o,e⟩:=r.d9 _ f;rw[hG]at e;cases e
   ·by_cases hb:b=a
    ·subst hb;exact⟨λ_=>.inr FB,λ_=>fa⟩
    ·exact⟨λf=>.inl ⟨f,hb⟩,λh=>h.elim abq λh=>absurd (PP.mp h) hb⟩
   ·simp only[cU,cW,cR,cS]
    exact⟨a,xs,[],rfl,rfl,fa,ha,hl,jW.mpr ⟨rfl,rs⟩⟩
  ·cases e⟩
noncomputable def without(H:Hp)(as:Zx):Hp:=λb=>if b∈as then none else H b
end
end PL
namespace PL
open PySem PySem.Spec
set_option maxHeartbeats 3200000
open L2 (V Hp HO Cx PE PT PW PA PS cH PG dk VK TE TT TA TS TI TG Inv RelV Vals Rd bP bW upd ar Key XK Ends bA dJ cj R2 EP It Turn cX Un)
noncomputable def nR(i:Nat)(f:Pt)(k:Ex)(x:Xt):Sm:=λρ=>(x ρ).bind λu=>(f ρ).bind λp=>(k ρ).bind λq=>match ρ[i]?,keyOf q with
 | some (.on (.tr t)),some z=>match T.at t p with
  |some (.n (.m ks) ts)=>if ks.length<1000/\¬(ks.any λa=>decide (a=z))=true then .ok (.next ((fX i p ρ).set i (.on (.tr (T.put (.m (ks++[z]) (ts++[u])) t p)))))else .bad
  |_=>.bad
 |_,_=>.bad
section
variable{X:Cx}{M:Md}{G H H':Hp}{F0:Gf}{F F':acS}{σ:L2.St}{ρ:En}{pos:Pos}{pins:List (Addr×Obj)}{s:Shared}{as:Zx}
theorem aK.ex:∀ {p:List Nat} {t:T} {v:V} {as:Zx} {n0:T},aL M H F t v as->T.at t p=some n0->∃w,aK H t v p n0 w
 | [],t,v,as,n0,_,e=>by
  have:t=n0:=by cases t<;>(injection e)
  subst this;exact⟨v,aK.here _ _⟩
 | k::p,.n kd ts,v,as,n0,h,e=>by
  simp only[aL]at h;obtain⟨a,xs,bs,rfl,rfl,f,ha,hl,r⟩:=h;have e:(match ts[k]? with|some t=>T.at t p|none=>none)=some n0:=e
  cases et:ts[k]? with
  |none=>rw[et]at e;cases e
  | some t1=>
   rw[et]at e;obtain⟨x,cs,ex,tr,_⟩:=r.part et;obtain⟨w,hw⟩:=aK.ex tr e;exact⟨w,by unfold aK;exact⟨a,xs,t1,x,rfl,ha,hl,et,ex,hw⟩⟩
 |k::p,.d _,v,as,n0,_,e=>by cases e
theorem aK.Bz:∀ {p:List Nat} {t:T} {v:V} {n n':T} {w w':V},aK H t v p n w->aK H t v p n' w'->w=w'
 | [],t,v,n,n',w,w',h,h'=>by
  have e:t=n/\v=w:=by cases t<;>exact h
  have e':t=n'/\v=w':=by cases t<;>exact h'
  exact e.2.symm.trans e'.2
 | k::p,.n kd ts,v,n,n',w,w',h,h'=>by
  simp only[aK]at h h';obtain⟨a,xs,t1,x1,rfl,e2,hl,et,ex,h⟩:=h;obtain⟨a',QW,Zm,Zr,ea,PX,TU,VH,Vj,h'⟩:=h';cases ea;have e9:xs=QW:=Kd.inj (k:=kd) (by rw[e2]at PX;injection PX) hl TU
  subst e9;rw[et]at VH;cases VH;rw[ex]at Vj;cases Vj;exact aK.Bz h h'
 |k::p,.d _,v,n,n',w,w',h,_=>h.elim
theorem so (i : Nat) (hu:X.A.units+64<cLine) (ho:XL X i o f) (hk:XE X k g) (he:XX X e h) (hs:swapsWith e (some (.Subscript o k p3)) pos.line X.env=pure false:=by exact gF (by rfl)):XS X (.Assign [.Subscript o k p3] e pos) (nR i f g h):=⟨have ho:=ho.out;have hk:=hk.out;have he:=he.out;λF0=>
 dm (L2.rO (by omega) ho hk he hs) λD σ H=>by
  rintro⟨ρ,F,fl,r,e,q⟩
  obtain⟨u,eu,e⟩:=aC.mp e;obtain⟨p,ep,e⟩:=aC.mp e;obtain⟨y,ey,e⟩:=aC.mp e;split at e
  ·rename_i t z q1 hz
   split at e
   ·rename_i ks ts OT
    split at e
    ·rename_i hc
     cases e;obtain⟨⟨w,Wt,ew,tr,nd⟩,_,_⟩:=r.rs.on i _ q1;refine⟨ρ,F,u,r.rs,eu,λv H1 F1 as s1 hn WO hF WG=>?_⟩;obtain⟨Qj,r1⟩:=r.rs.wide s1 hn hF (λb hb=>(WG.fs b hb).2);refine⟨ρ,F1,t,w,p,_,r1,q1,ew,ep,OT,λv0 H2 s2 at2=>⟨ρ,F1,y,r1.same s2,ey,λw2 H3 s3 O0=>?_⟩⟩;have s13:ar H H3:=s1.trans (s2.trans s3);obtain⟨v',SX⟩:=aK.ex tr OT;have ev:v'=v0:=aK.Bz (aK.same r.rs q1 ew s13 SX) (aK.same (r1.same s2) q1 ew s3 at2);subst ev;obtain⟨bs,tp,sub⟩:=aK.part tr SX;have Rq:=tp;simp only[cU,cW,cR,cS]at tp;obtain⟨a,xs,cs,rfl,rfl,fa,ha,hl,N4⟩:=tp;have PN:=nd.sublist sub;have QM:=MG.mp PN;cases f7 hz O0
     have Q7:(ks.zip xs).length<sizeLine:=by
      have:(sizeLine:Nat)=16777216:=aad;rw[SB];omega
     refine⟨a,_,rfl,L2.j6.k (s13 _ _ ha) Q7,?_⟩;rw[o7 z v hl,DF hc.2];have Wf:a∉as:=λhb=>by rw[hn a hb]at ha;cases ha
     have Vk:∀b,F b->F1 b:=λb f=>(hF b).mpr (.inl f);have Vp:Mv F H F1 (upd H3 a (.dK ((ks++[z]).zip (xs++[v])))):=λb o n e=>⟨λf=>((hF b).mp f).elim n λhb=>(by rw[hn b hb]at e;cases e),by rw[L2.aN (λz=>by subst z;exact n fa)];exact s13 _ _ e⟩
     have Yh:Mv F1 H1 F1 (upd H3 a (.dK ((ks++[z]).zip (xs++[v])))):=λb o n e=>⟨n,by rw[L2.aN (λz=>by subst z;exact n (Vk _ fa))];exact(s2.trans s3) _ _ e⟩
     have UG:aD (aJ X) (upd H3 a (.dK ((ks++[z]).zip (xs++[v])))) F1 (ts++[u]) (xs++[v]) (cs++as):=by
      refine aD.append (aD.mv Vp (λb hb o f e=>⟨Vk b f,by rw[L2.aN (λz=>by subst z;exact QM.1 hb)];exact s13 _ _ e⟩) N4) ?_
      rw[show as=as++[] by simp]
      simp only[aD];exact⟨v,[],as,[],rfl,rfl,WG.mv Yh λb hb o f e=>⟨f,by rw[L2.aN (λz=>by subst z;exact Wf hb)];exact(s2.trans s3) _ _ e⟩,rfl,rfl⟩
     have C:eY (aJ X) H (upd H3 a (.dK ((ks++[z]).zip (xs++[v])))) F F1 a (.m ks ts) (.m (ks++[z]) (ts++[u])) (a::cs) (a::(cs++as)):=
      {
       old:=Rq
       mem:=FB
       new:=by
        simp only[cU,cW,cR,cS];exact⟨a,_,_,rfl,rfl,Vk a fa,L2.bO,by rw[KM,KM,hl];rfl,UG⟩
       nd:=MG.mpr ⟨λhb=>(M0.mp hb).elim QM.1 Wf,SZ.mpr ⟨QM.2,WO,λb hb b' OW z=>by
        subst z;obtain⟨_,o,e⟩:=N4.fs b hb;rw[hn b OW]at e;cases e⟩⟩
       out:=λb o n e=>by rw[L2.aN n];exact s13 _ _ e
       fs := λb=>by
        rw[hF b];constructor
        ·rintro(f|hb)
         ·exact .inl f
         ·exact .inr (Do _ (GT _ hb))
        ·rintro(f|hb)
         ·exact .inl f
         ·rcases Da.mp hb with rfl|hb
          ·exact .inl fa
          ·rcases M0.mp hb with hb|hb
           ·exact .inl (N4.fs b hb).1
           ·exact .inr hb
       vL:=λb hb=>by
        rcases Da.mp hb with rfl|hb
        ·exact .inl FB
        ·rcases M0.mp hb with hb|hb
         ·exact .inl (Do _ hb)
         ·exact .inr (hn b hb)}
     obtain⟨mv,r'⟩:=r.qC q1 ew SX C rfl;exact q _ _ _ mv r'
    ·cases e
   ·cases e
  ·cases e⟩
end
end PL
namespace PL
open PySem PySem.Spec
open L2 (V Hp HO Cx PE PT PW PA PS cH PG dk VK TE TT TA TS TI TG Inv RelV Vals Rd bP bW upd ar Key XK Ends bA dJ cj R2 EP It Turn cX Un)
def FK(K:PySem.W.Frag)(mg:Str->acR)(x:Str)(st:Stmt):Prop:=∃f fd,L2.gY K x x st f fd/\mg x=some (.ref f)
def FH(P:Program)(w:World)(K:PySem.W.Frag)(mg:Str->acR)(base:Heap)(x:Str)(st:Stmt):Prop:=FK K mg x st
theorem FK.up{P:Program}{w:World}{K:PySem.W.Frag}{mg:Str->acR}{base:Heap}{x:Str}{st:Stmt}(h:FK K mg x st):FH P w K mg base x st:=h
theorem FK.mk(X:K.In h)(G:h.Ns mainGlobals mg)(a:PySem.W.nsIn K mainGlobals x=some (some (.ref f)))(l:K.lookup f=some ⟨oc,od,.func (PySem.W.fnOf x x (L2.jr st) (L2.dE st) (L2.aX st) .none kV doc pm an M' ct),Pk⟩)
  (c:PySem.W.codeIn K M' x=true) (k:PySem.W.keepIn K (.ref f)=true):FK K mg x st:=⟨f,_,L2.CI l c k,aaC X G a⟩
theorem bS(a:sc.kind=.function:=by rfl)(b:sc.isCoroutine=false:=by rfl)(c:sc.isGenerator=false:=by rfl)(d:N.Nodup:=by decide+kernel)(e:N.take P.length=P:=by rfl)(f:∀x∈P,sc.names.lookup x=some .local\/sc.names.lookup x=some .cell:=by decide+kernel)(g:∀y∈sc.names,y.2≠.free:=by decide+kernel):L2.bD N P sc:=⟨a,b,c,d,e,f,g⟩
section
variable{P:Program}{w:World}{K:PySem.W.Frag}{mg:Str->acR}{base:Heap}{x:Str}{st:Stmt}{N ps:List Str}{k n:Nat}{body:Sm}
abbrev Bd(x:Str)(st:Stmt)(ps:List Str):Prop:=∀(kV doc pm:Value) (an:Option Addr) (M' ct:Value) (us:acQ),us.length=ps.length->bindArgs (PySem.W.fnOf x x (L2.jr st) (L2.dE st) (L2.aX st) .none kV doc pm an M' ct) ⟨us,[]⟩=pure (ps.zip us)
abbrev Jd(P:Program)(w:World)(K:PySem.W.Frag)(mg:Str->acR)(base:Heap)(x:Str)(st:Stmt)(N:List Str)(k:Nat)(body:Sm):Prop:=∀(f:Addr) (M':Value) (A:Around) (outer:List Env) (s:Shared) (H:Hp) (E:XK),L2.cz k (A.deeper (PyProof.Rows.envOfC x (L2.aX st) s.heap.objs.size f M'))->ig (L2.gh L2.dP P w K mg base N x (L2.aX st) f M' A outer s H E).gw (L2.dE st) body
theorem lcQ{us:List Value}{n:Nat}(h:us.length=n+1):∃a r,us=a::r∧r.length=n:=by
 cases us with
 |nil=>cases h
 |cons a r=>exact⟨a,r,rfl,Nat.succ.inj h⟩
theorem lzQ{us:List Value}(h:us.length=0):us=[]:=List.eq_nil_of_length_eq_zero h
theorem dF(F:FH P w K mg base x st)(S:L2.bD N ps (L2.aX st))(h:Jd P w K mg base x st N k body)(b:Bd x st ps:=by intro _ _ _ _ _ _ us hl;(repeat(have h:=lcQ hl;clear hl;obtain⟨_,us,rfl,hl⟩:=h));cases lzQ hl;rfl)(hn:ps.length=n:=by rfl):Df P w K mg base x (k+1) n (fn N.length body):=by
 obtain⟨f,fd,Fu,hm⟩:=F;exact MR Fu hm S (Fu.binds b) (h f) hn
theorem om(F:FH P w K mg base x st)(S:L2.bD N ps (L2.aX st))(h:Jd P w K mg base x st N k body)(b:Bd x st ps:=by intro _ _ _ _ _ _ us hl;(repeat(have h:=lcQ hl;clear hl;obtain⟨_,us,rfl,hl⟩:=h));cases lzQ hl;rfl)(hn:ps.length=n:=by rfl):di P w K mg base x (k+1) n (iY N.length body):=by
 obtain⟨f,fd,Fu,hm⟩:=F;exact Ho Fu hm S (Fu.binds b) (h f) hn
variable{X:Cx}{M:Md}{G:Hp}{H:Hp}{H':Hp}{F:acS}{F':acS}{σ:L2.St}{ρ:En}{pos:Pos}{pins:List (Addr×Obj)}{s:Shared}
open PySem.AutoSeq1 (wpAny_loadPart') in
open PySem PySem.SeqAt PySem.MeetsSeq PySem.MeetsSeq2 PySem.MeetsSeq3 PySem.SeqRoads2 in
open PySem.AutoSeq1 (wpAny_loadPart') in
open PySem PySem.SeqAt PySem.MeetsSeq PySem.MeetsSeq2 PySem.MeetsSeq3 PySem.SeqRoads2 in
open PySem.AutoSeq1 (wpAny_loadPart') in
open PySem PySem.SeqAt PySem.MeetsSeq PySem.MeetsSeq2 PySem.MeetsSeq3 PySem.SeqRoads2 in
open PySem.AutoSeq1 (wpAny_loadPart') in
open PySem PySem.SeqAt PySem.MeetsSeq PySem.MeetsSeq2 PySem.MeetsSeq3 PySem.SeqRoads2 in
end
section
variable{X:Cx}{M:Md}{G H H':Hp}{F0:Gf}{F F':acS}{σ:L2.St}{ρ:En}{pos:Pos}{pins:List (Addr×Obj)}{s:Shared}{as:Zx}
theorem aK.BF(C:eY M H H2 F F2 c n0 n1 Qh Pn):∀ {p:List Nat} {t:T} {v:V} {as:Zx},aL M H F t v as->as.Nodup->aK H t v p n0 (.ref c)->aK H2 (T.put n1 t p) v p n1 (.ref c)
 | [],t,v,as,tr,nd,hp=>by
  have e':t=n0/\v=.ref c:=by cases t<;>exact hp
  rw[e'.2,show T.put n1 t []=n1 by cases t<;>rfl]
  exact aK.here _ _
 |k::p,.d _,v,as,tr,nd,hp=>hp.elim
 | k::p,.n kd ts,v,as,tr,nd,hp=>by
  simp only[aK]at hp;simp only[aL]at tr;obtain⟨a,xs,tp,xp,rfl,e2,l0,QO,exp,hp⟩:=hp;obtain⟨a2,ys,bs,SM,rfl,f,Q1,l2,r⟩:=tr;cases SM;have e9:xs=ys:=Kd.inj (k:=kd) (by rw[Q1]at e2;injection e2 with z;exact z.symm) l0 l2
  subst e9;have Oc:=Kd.nodup.mp nd;obtain⟨V8,dp,Po,rp,Pj⟩:=r.part QO;rw[exp]at Po;cases Po;obtain⟨hc,_⟩:=aL.put C rp (Oc.2.sublist Pj) hp
  have ha:H2 a=some (kd.ho xs):=by
   by_cases o:kd.own=true
   ·exact C.out a _ (Kd.ne nd o (Pj.subset hc)) Q1
   ·exact(C.mv _ _ (λz=>o (f.mp z)) Q1).2
  have h2:=aK.BF C rp (Oc.2.sublist Pj) hp;show aK _ (match ts[k]? with|some t=>T.n kd (ts.set k (T.put n1 t p))|none=>T.n kd ts) _ _ n1 _
  rw[QO];simp only[aK];exact⟨a,_,_,_,rfl,ha,l2,zl QO,exp,h2⟩
open Classical in
end
noncomputable def wC(f:Xt):Xt:=λρ=>(f ρ).bind λt=>match t with
 |.n .l ts=>.ok (.tu ts)
 |_=>.bad
section
variable{X:Cx}{M:Md}{G H H':Hp}{F F':acS}{σ:L2.St}{ρ:En}{pos:Pos}{pins:List (Addr×Obj)}{s:Shared}
theorem GO(hm:X.mg "tuple"=none)(ha:XX X a f)(hg:L2.Gl X "tuple":=by rfl)(hs:starEach [a] X.env=(false,eval a X.env)::starEach [] X.env:=by exact bG (by rfl)):XX X (.Call (.Name "tuple" p) [a] [] pos) (wC f):=⟨have ha:=ha.out;b9 (L2.ox L2.mG hg hm gT (L2.gp ha L2.jj hs) (by decide) (by decide) hs) λσ H Q=>by
  rintro⟨ρ,F,t,hr,e,q⟩
  obtain⟨t1,et,e⟩:=aC.mp e;refine⟨ρ,F,t1,hr,et,λv H1 F1 as s1 hn nd hF tr=>?_⟩;split at e
  ·rename_i ts
   cases e;simp only[cU,cW,cR,cS]at tr;obtain⟨l,vs,bs,rfl,rfl,fl,hl,N4⟩:=tr;have Oc:=MG.mp nd;refine⟨l,vs,rfl,.inl ⟨.inl (.inl hl),λp hp=>?_⟩⟩;have ne:∀b u,H1 b=some u->b≠p:=λb u e z=>by subst z;rw[hp]at e;cases e
   refine q _ _ (λb=>F b\/b∈bs) bs (s1.trans (ar.dy hp _)) (λb hb=>hn b (Do _ hb)) Oc.2 (λ_=>aaW) ?_;simp only[cU,cW,cR,cS];refine⟨p,vs,rfl,λf=>?_,L2.bO,N4.mv (λb o n e=>⟨λf=>?_,by rw[L2.aN (ne b o e)];exact e⟩) λb hb u f hu=>⟨.inr hb,by rw[L2.aN (ne b u hu)];exact hu⟩⟩
   ·rcases f with f|f
    ·obtain⟨o,eo⟩:=hr.bw p f
     exact ne p o (s1 _ _ eo) rfl
    ·obtain⟨_,u,hu⟩:=N4.fs p f
     exact ne p u hu rfl
   ·rcases f with f|f
    ·exact n ((hF b).mpr (.inl f))
    ·exact n ((hF b).mpr (.inr (Do _ f)))
  ·cases e⟩
variable{F0:Gf}{as:Zx}
open Classical in
end
end PL
namespace PL
open PySem PySem.Spec
open L2 (V Hp HO Cx PE PT PW PA PS cH PG dk VK TE TT TA TS TI TG Inv RelV Vals Rd bP bW upd ar Key XK Ends bA dJ cj R2 EP It Turn cX Un)
noncomputable def m8(j:Nat):Xt:=λρ=>match ρ[j]? with
 |some (.on (.tr u))=>.ok u
 |_=>.bad
section
variable{X:Cx}{M:Md}{G H H':Hp}{F0:Gf}{F F':acS}{σ:L2.St}{ρ:En}{pos:Pos}{pins:List (Addr×Obj)}{s:Shared}{as:Zx}
open PySem.AutoSeq1 (wpAny_loadPart') in
open PySem PySem.SeqAt PySem.MeetsSeq PySem.MeetsSeq2 PySem.MeetsSeq3 PySem.SeqRoads2 in
theorem Cn:∀ {p q:List Nat},below p q=true->∃k r,q=p++k::r
 |[],k::r,_=>⟨k,r,rfl⟩
 |[],[],h=>by cases h
 |_::_,[],h=>by cases h
 | k::p,j::q,h=>by
  unfold below at h;rw[mO,JK]at h;obtain⟨rfl,h⟩:=h;obtain⟨a,r,rfl⟩:=Cn h;exact⟨a,r,rfl⟩
theorem aK.trans{n:T}{x:V}{r:List Nat}{t1:T}{w:V}(h:aK H n x r t1 w):∀ {p:List Nat} {t:T} {v:V},aK H t v p n x->aK H t v (p++r) t1 w
 | [],t,v,h1=>by
  have e':t=n/\v=x:=by cases t<;>exact h1
  obtain⟨rfl,rfl⟩:=e';exact h
 | k::p,.n kd us,v,h1=>by
  show aK H (.n kd us) v (k::(p++r)) t1 w;simp only[aK]at h1 ⊢;obtain⟨b,ys,t2,x2,To,h2,h0,h3,h4,h1⟩:=h1;exact⟨b,ys,t2,x2,To,h2,h0,h3,h4,aK.trans h h1⟩
 |k::p,.d _,v,h1=>h1.elim
theorem aK.split:∀ {p:List Nat} {t:T} {v:V} {n:T} {x:V},aK H t v (p++r) t1 w->aK H t v p n x->aK H n x r t1 w
 | [],t,v,n,x,h,h1=>by
  have e':t=n/\v=x:=by cases t<;>exact h1
  obtain⟨rfl,rfl⟩:=e';exact h
 | k::p,.n kd us,v,n,x,h,h1=>by
  have h:aK H (.n kd us) v (k::(p++r)) t1 w:=h;simp only[aK]at h h1;obtain⟨b,ys,t2,x2,rfl,h2,h0,h3,h4,h1⟩:=h1;obtain⟨b',VT,Zw,ZG,ea,Qo,Xc,Wn,We,h⟩:=h;cases ea;have e9:VT=ys:=Kd.inj (k:=kd) (by rw[h2]at Qo;injection Qo with z;exact z.symm) Xc h0
  subst e9;rw[h3]at Wn;cases Wn;rw[h4]at We;cases We;exact aK.split h h1
 |k::p,.d _,v,n,x,h,h1=>h1.elim
theorem bq.zW(r:bq M G F0 H F σ ρ)(e1:ρ[i]? =some (.on (.tr t)))(e2:σ[i]? =some (some w))(OT:aK H t w p n0 (.ref c))(C:eY M H H2 F F2 c n0 n1 Qh Pn)(o1:n1.own=true)
  (hk:∀k q t1 x,aK H n0 (.ref c) (k::q) t1 x->t1.cZ=true->∃t2,t2.cZ=true/\aK H2 n1 (.ref c) (k::q) t2 x):
  Mv F H F2 H2/\bq M G F0 H2 F2 σ (ρ.set i (.on (.tr (T.put n1 t p)))):=by
 obtain⟨⟨w',as,ew,tr,nd⟩,_,_⟩:=r.rs.on i _ e1;rw[e2]at ew;cases ew;obtain⟨hc,OI,Pd,RP,k1,k2⟩:=aL.put C tr nd OT;have S0:c∈OI:=k2 c (C.new.head o1)
 exact r.CH e1 e2 tr (λb hb=>(k1 b hb).imp id And.right) (λb u hb hu=>C.out b u (λz=>by subst z;exact hb S0) hu) (λb=>by
   rw[C.fs b];exact⟨λh=>h.imp id (k2 b),λh=>h.elim .inl λhb=>(k1 b hb).elim (λh=>.inl (tr.fs b h).1) λh=>.inr h.1⟩) Pd RP
  λj q hq t1 w1 Ua ho=>by
   cases hb:below p q with
   |false=>exact aK.put C o1 tr nd OT Ua ho hb
   | true=>
    obtain⟨k,r9,rfl⟩:=Cn hb;obtain⟨t2,o2,h2⟩:=hk k r9 t1 w1 (aK.split Ua OT) ho;exact⟨t2,o2,aK.trans h2 (aK.BF C tr nd OT)⟩
end
end PL
namespace PL
open PySem PySem.Spec PySem.Calls PyProof.Rows
open L2 (V Hp HO Cx VK XK Inv RelV Vals Rd upd ar Un cg)
noncomputable instance:Inhabited fU:=⟨⟨default,default,default,default⟩⟩
def jU(K:PySem.W.Frag)(mg:Str->acR)(x:Str)(st:Stmt)(cd Pt:Addr):Prop:=
 ∃f oc od kV doc pm an ct Pk,PySem.W.nsIn K mainGlobals x=some (some (.ref f))/\K.lookup f=some ⟨oc,od,.func (PySem.W.fnOf x x (L2.jr st) (L2.dE st) (L2.aX st) .none kV doc pm an (.ref cd) ct),Pk⟩/\PySem.W.codeIn K (.ref cd) x=true/\PySem.W.keepIn K (.ref f)=true/\PySem.W.codeHdIn K cd Pt=true/\mg x=some (.ref f)
theorem jU.mk{K:PySem.W.Frag}{h:Heap}{mg:Str->acR}{x:Str}{st:Stmt}{f cd Pt:Addr}{oc:Value}{od an:Option Addr}{Pk:Array (acR)}{kV doc pm ct:Value}(X:K.In h)(G:h.Ns mainGlobals mg)(a:PySem.W.nsIn K mainGlobals x=some (some (.ref f)))
  (l:K.lookup f=some ⟨oc,od,.func (PySem.W.fnOf x x (L2.jr st) (L2.dE st) (L2.aX st) .none kV doc pm an (.ref cd) ct),Pk⟩) (c:PySem.W.codeIn K (.ref cd) x=true) (k:PySem.W.keepIn K (.ref f)=true) (t:PySem.W.codeHdIn K cd Pt=true):jU K mg x st cd Pt:=
 ⟨f,oc,od,kV,doc,pm,an,ct,Pk,a,l,c,k,t,aaC X G a⟩
theorem Gk(a:l.scope.kind=.function:=by rfl)(b:l.scope.isCoroutine=false:=by rfl)(c:l.scope.isGenerator=false:=by rfl)(d:∀x∈l.scope.names,x.2≠.cell:=by decide+kernel)(e:l.scope.names.lookup p=some .local:=by decide+kernel)
  (f:∀x∈cN l.scope,l.scope.names.lookup x=some .free:=by decide+kernel) (g:(p::cN l.scope).Nodup:=by decide+kernel)
  (h:∀(name qual:Str) (NP:List (Str×Addr)) (pm M' ct u:Value),bindArgs (PySem.W.kla_fn name qual l.params l.body l.scope NP pm M' ct) ⟨[u],[]⟩=pure [(p,u)]:=by exact λ_ _ _ _ _ _ _=>rfl):mT p l:=⟨a,b,c,d,e,f,g,h⟩
structure zD(X:Cx)(c:Str)(l:fU):Prop where
 ex:∃fa ob fd cd Pt,PySem.W.nsIn X.K mainGlobals c=some (some (.ref fa))/\X.K.lookup fa=some ob/\ob.data=.func fd/\jw fd.body=some l/\X.env.code=.ref cd/\PySem.W.CodeHd X.base cd Pt/\L2.ff X.base Pt/\X.base.BuiltinsAt X.mg Pt
section
variable{P:Program}{w:World}{K:PySem.W.Frag}{mg:Str->acR}{base:Heap}{x p:Str}{st:Stmt}{N ps:List Str}{k n:Nat}{body:Sm}{cd Pt:Addr}{l:fU}
theorem GU(F:jU K mg x st cd Pt)(e:jw (.stmts (L2.dE st))=some l)(S:mT p l)
  (h:∀(qual:Str) (a:Addr) (cd:Value) (NP:List (Str×Addr)) (A:Around) (outer:List Env) (s:Shared) (H:Hp),L2.cz k (A.deeper (PySem.W.envX qual l.scope s.heap.objs.size a cd NP))->JE (mW P w K mg base (p::cN l.scope) qual l.scope a cd NP A outer s H) l.body f):
  mR P w K mg base (k+1) x (oS f):=by
 obtain⟨f,oc,od,kV,doc,pm,an,ct,Pk,a,lk,_⟩:=F;exact Eg a lk rfl e S h
theorem Ly(F:jU K mg x st cd Pt)(e:jw (.stmts (L2.dE st))=some l)(T:L2.ff base Pt/\base.BuiltinsAt mg Pt)(kb:K.In base)(S:L2.bD N ps (L2.aX st))
  (h:∀(f:Addr) (M':Value) (A:Around) (outer:List Env) (s:Shared) (H:Hp) (E:XK),zD (L2.gh L2.dP P w K mg base N x (L2.aX st) f M' A outer s H E).gw x l->L2.cz k (A.deeper (PyProof.Rows.envOfC x (L2.aX st) s.heap.objs.size f M'))->ig (L2.gh L2.dP P w K mg base N x (L2.aX st) f M' A outer s H E).gw (L2.dE st) body)
  (b:Bd x st ps) (hn:ps.length=n:=by rfl):Df P w K mg base x (k+1) n (fn N.length body):=by
 obtain⟨f,oc,od,kV,doc,pm,an,ct,Pk,a,lk,c,kp,t,hm⟩:=F;have Fu:=L2.CI lk c kp;refine Jv Fu hm S (Fu.binds b) (λM' A outer s H E hc hr=>h f M' A outer s H E ⟨f,_,_,cd,Pt,a,lk,rfl,e,?_,abZ kb t,T.1,T.2⟩ hr) hn;subst hc;rfl
end
section
variable{X:Cx}
theorem Lo{X:L2.Cx}{x c p:Str}{k j:Nat}{m:List D->R D}{l:fU}{is:List Nat}{e1 e2:Expr}{f1 f2:Ex}{pp pos:Pos}{sc:Scope}{N:List Str}(L:zD X c l)(S:mT p l)(df:Df X.prog X.w X.K X.mg X.base x k 3 m)(hr:L2.cz j X.A)(h1:XE X e1 f1)(h2:XE X e2 f2)(hg:L2.Gl X x:=by rfl)(hk:k<=j:=by decide)(Qp:defaultsOf l.params X.env=([],[]):=by rfl)(Qe:X.env.scope=sc:=by rfl)(P4:∀y∈l.scope.names,y.2=.free->sc.names.lookup y.1=some .cell:=by decide+kernel)(Se:X.fn=λ_=>true:=by rfl)(hN:X.N=N:=by rfl)(T2:is.map (λi=>N[i]?)=(cN l.scope).map some:=by rfl)(O8:gV x:=by decide)(s1:starEach [e1,e2,.Lambda l.params l.body l.scope l.pos] X.env=(false,eval e1 X.env)::starEach [e2,.Lambda l.params l.body l.scope l.pos] X.env:=by exact bG (by rfl))(s2:starEach [e2,.Lambda l.params l.body l.scope l.pos] X.env=(false,eval e2 X.env)::starEach [.Lambda l.params l.body l.scope l.pos] X.env:=by exact bG (by rfl))(s3:starEach [.Lambda l.params l.body l.scope l.pos] X.env=(false,eval (.Lambda l.params l.body l.scope l.pos) X.env)::starEach [] X.env:=by exact bG (by rfl)):XE X (.Call (.Name x pp) [e1,e2,.Lambda l.params l.body l.scope l.pos] [] pos) (oE m c is f1 f2):=⟨have h1:=h1.out;have h2:=h2.out;by
 obtain⟨fa,ob,fd,cd,Pt,a1,a2,a3,a4,a5,a6,a7,a8⟩:=L.ex;refine Hl df hr hk hg h1 h2 a1 a2 a3 a4 S Qp a5 a6 a7 a8 (by rw[Qe];exact P4) (λy=>by rw[Se]) ?_ (λn i y hi hy=>?_) O8 s1 s2 s3
 ·have:=congrArg List.length T2;simpa using this
 ·have z:=congrArg (λl=>l[n]?) T2
  simp only[MC,hi,hy,aaE]at z;rw[hN];exact Rf z⟩
end
end PL
namespace PL
open PySem PySem.Spec
open L2 (V Hp HO Cx PE PT PW PA PS cH PG dk VK TE TT TA TS TI TG Inv RelV Vals Rd bP bW upd ar Key XK Ends bA dJ cj R2 EP It Turn cX Un)
noncomputable def gX(i:Nat)(f:Ex):Sm:=λρ=>match ρ[i]? with
 |some (.on (.tr t))=>(f (c6 i t ρ)).bind λd=>.ok (.ret d)
 |_=>.bad
noncomputable def qq(i:Nat)(f:Xt):Sm:=λρ=>(f ρ).bind λt=>if iN i (fX i [] ρ)=true/\2<=i then .ok (.next ((fX i [] ρ).set i (.on (.tr t))))else .bad
theorem Ao(h:(x != ("super":Str))=true:=by decide):attributeBase (.Call (.Name x p1) [] [] p) a env w=w:=by
 unfold attributeBase;simp only[h,Bool.true_or,aat]
theorem D0:attributeBase (.List es p) a env w=w:=rfl
section
variable{X:Cx}{M:Md}{G H H':Hp}{F0:Gf}{F F':acS}{σ:L2.St}{ρ:En}{pos:Pos}{pins:List (Addr×Obj)}{s:Shared}{as:Zx}
theorem oJ(i:Nat)(ha:XE X a fa):XS X (.Return (some a) pos) (gX i fa):=⟨have ha:=ha.out;λF0 pins s σ H D I=>by
 rintro⟨ρ,F,fl,r,e,q⟩
 unfold gX at e;split at e
 ·rename_i t q1
  obtain⟨d,ed,e⟩:=aC.mp e;cases e;obtain⟨⟨w,as,ew,tr,nd⟩,_,_⟩:=r.rs.on i _ q1;obtain⟨H1,I1,o1,k1⟩:=aL.frz I tr nd;obtain⟨mv,rs⟩:=r.rs.c6 q1 ew tr o1 k1;obtain⟨_,r'⟩:=r.away q1 ew tr o1 (x:=.un) (.inl rfl);exact L2.oZ ha pins s σ H1 D I1 ⟨_,_,d,rs,ed,λv H2 s2 rv=>q v H2 _ (mv.trans (.same s2)) (r'.sm.trans s2) r'.sub rv⟩
 ·cases e⟩
theorem MN(i:Nat)(hN:X.N.Nodup)(he:XX X e f)(hi:X.N[i]? =some x:=by rfl)(hx:L2.Loc X.env.scope x:=by exact Or.inl rfl)(hf:X.fn x=true\/X.env.scope.names.lookup x=some .local:=by exact .inl rfl)(hs:swapsWith e (some (.Name x p2)) pos.line X.env=pure false:=by exact gF (by rfl)):XS X (.Assign [.Name x p2] e pos) (qq i f):=⟨have he:=he.out;λF0=>
 dm (L2.kW hN hi hx he hs hf) λD σ H=>by
  rintro⟨ρ,F,fl,r,e,q⟩
  obtain⟨t,et,e⟩:=aC.mp e;by_cases no:iN i (fX i [] ρ)=true/\2<=i
  ·rw[AC no]at e
   cases e;refine⟨ρ,F,t,r.rs,et,λv H1 F1 as s1 hn nd hF tr=>?_⟩;obtain⟨mv,r'⟩:=(r.drop i []).BZ (i:=i) no.1 no.2 s1 hn nd hF tr;exact q _ _ _ mv r'
  ·rw[DF no]at e;cases e⟩
end
inductive eV(M:Md)(H:Hp)(F:acS)(σ:L2.St)(ρ:En):List Nat->Zx->Prop
 |nil:eV M H F σ ρ [] []
 |cons {j:Nat} {js:List Nat} {u:T} {v:V} {cu cs:Zx}:ρ[j]? =some (.on (.tr u))->σ[j]? =some (some v)->aL M H F u v cu->cu.Nodup->eV M H F σ ρ js cs->(∀a∈cu,a∉cs)->eV M H F σ ρ (j::js) (cu++cs)
section
variable{M:Md}{H H':Hp}{F F':acS}{σ:L2.St}{ρ:En}{js Q5 RE:List Nat}{cs:Zx}
theorem eV.fs(h:eV M H F σ ρ js cs):∀b∈cs,F b/\∃o,H b=some o:=by
 induction h with
 |nil=>exact λb hb=>nomatch hb
 |cons _ _ tr _ _ _ ih=>exact λb hb=>(M0.mp hb).elim (tr.fs b) (ih b)
theorem eV.mv(h:eV M H F σ ρ js cs)(m:Mv F H F' H')(s:ar H H')(hF:∀b,F b->F' b):eV M H' F' σ ρ js cs:=by
 induction h with
 |nil=>exact .nil
 |cons e1 e2 tr nd _ ap ih=>exact .cons e1 e2 (tr.mv m λb hb u f hu=>⟨hF b f,s _ _ hu⟩) nd ih ap
theorem eV.split:∀ {Q5:List Nat} {cs:Zx},eV M H F σ ρ (Q5++RE) cs->∃c1 c2,cs=c1++c2/\eV M H F σ ρ Q5 c1/\eV M H F σ ρ RE c2/\∀a∈c1,a∉c2
 |[],cs,h=>⟨[],cs,rfl,.nil,h,λ_ ha=>nomatch ha⟩
 | j::Q5,_,.cons e1 e2 tr nd t ap=>by
  obtain⟨c1,c2,rfl,h1,h2,Xg⟩:=eV.split t;refine⟨_++c1,c2,by rw[aaN],.cons e1 e2 tr nd h1 λa ha hb=>ap a ha (Ox _ hb),h2,λa ha hb=>?_⟩
  rcases M0.mp ha with ha|ha
  ·exact ap a ha (GT _ hb)
  ·exact Xg a ha hb
end
theorem BR(s:ar H H'):∀ {p:List Nat} {t:T} {v:V} {t':T} {w:V},aK H t v p t' w->aK H' t v p t' w
 | [],t,v,t',w,h=>by
  cases t<;>exact h
 | k::p,.n kd ts,v,t',w,h=>by
  obtain⟨a,xs,t1,x1,e1,e2,e3,e4,e5,e6⟩:=h;exact⟨a,xs,t1,x1,e1,s _ _ e2,e3,e4,e5,BR s e6⟩
 |_::_,.d _,_,_,_,h=>False.elim h
def HX(H:Hp)(σ:L2.St)(ρ:En)(t:T)(v:V)(pa:List (Nat×List Nat)):Prop:=∀q∈pa,∀u w,ρ[q.1]? =some (.on (.tr u))->σ[q.1]? =some (some w)->aK H t v q.2 u w
def J5(H:Hp)(σ:L2.St)(ρ:En)(ts:List T)(xs:List V)(pa:List (Nat×Nat×List Nat)):Prop:=∀q∈pa,∀u w,ρ[q.1]? =some (.on (.tr u))->σ[q.1]? =some (some w)->∃t1 x1,ts[q.2.1]? =some t1/\xs[q.2.1]? =some x1/\aK H t1 x1 q.2.2 u w
def oN(X:Cx)(js:List Nat)(pa:List (Nat×List Nat))(e:Expr)(f:Xt):Prop:=
 ∃te,PE X e te/\∀(F:acS) (σ:L2.St) (H:Hp) (ρ:En) (t:T) (cu:Zx) (Q:VK),bC (aJ X) H F σ ρ->eV (aJ X) H F σ ρ js cu->f ρ=.ok t->
  (∀v H' F' as,ar H H'->(∀b∈as,H b=none\/b∈cu)->as.Nodup->(∀b,F' b↔F b\/b∈as)->(∀b∈cu,b∈as)->aL (aJ X) H' F' t v as->HX H' σ ρ t v pa->Q v H')->te σ H Q
structure pG(X:Cx)(js:List Nat)(pa:List (Nat×List Nat))(e:Expr)(f:Xt):Prop where
 out:oN X js pa e f
def oK(X:Cx)(js:List Nat)(pa:List (Nat×Nat×List Nat))(pos:Pos)(keys:List (Option Expr))(values:acP)(OR:List (Ex×Xt)):Prop:=
 ∃N4,L2.kA X pos keys values N4/\∀(F:acS) (σ:L2.St) (H:Hp) (ρ:En) (ks:List Ky) (ts:List T) (cu:Zx) (Q:List (V×V)->Hp->Prop),bC (aJ X) H F σ ρ->eV (aJ X) H F σ ρ js cu->kB OR ρ=.ok (ks,ts)->
  (∀xs H' F' as,ar H H'->(∀b∈as,H b=none\/b∈cu)->as.Nodup->(∀b,F' b↔F b\/b∈as)->(∀b∈cu,b∈as)->ks.length=xs.length->aD (aJ X) H' F' ts xs as->J5 H' σ ρ ts xs pa->Q ((ks.zip xs).map λkv=>(L2.kV kv.1,kv.2)) H')->L2.m4 N4 σ H Q
structure qg(X:Cx)(js:List Nat)(pa:List (Nat×Nat×List Nat))(pos:Pos)(keys:List (Option Expr))(values:acP)(OR:List (Ex×Xt)):Prop where
 out:oK X js pa pos keys values OR
section
variable{X:Cx}{M:Md}{H H':Hp}{F F':acS}{σ:L2.St}{ρ:En}{pos:Pos}{as:Zx}
theorem bC.yX{cu:Zx}(r:bC M H F σ ρ)(s1:ar H H')(hn:∀b∈as,H b=none\/b∈cu)(hc:∀b∈cu,F b)(hF:∀b,F' b↔F b\/b∈as)(ht:∀b∈as,∃u,H' b=some u):Mv F H F' H'/\bC M H' F' σ ρ:=by
 refine r.wide (as:=as.filter λb=>decide (b∉cu)) s1 (λb hb=>?_) (λb=>?_) λb hb=>ht b (aan.mp hb).1
 ·obtain⟨h1,h2⟩:=aan.mp hb
  exact(hn b h1).resolve_right (acm h2)
 ·rw[hF b,aan]
  refine⟨λh=>h.elim .inl λh=>?_,λh=>h.imp id abq⟩;by_cases hb:b∈cu
  ·exact .inl (hc b hb)
  ·exact .inr ⟨h,FS hb⟩
theorem Ha(h:JX X e f):oN X [] [] e f:=
 ⟨_,h,λF σ H ρ t cu Q r m e q=>by
  cases m;exact⟨ρ,F,t,r,e,λv H' F' as s hn nd hF tr=>q v H' F' as s (λb hb=>.inl (hn b hb)) nd hF (λ_ hb=>nomatch hb) tr (λ_ h=>nomatch h)⟩⟩
theorem Jy(j:Nat)(hN:X.N[j]? =some y)(hv:L2.fi X.env.scope y)(hd:gV y)(Oh:tx y):oN X [j] [(j,[])] (.Name y p2) (m8 j):=
 ⟨_,L2.pv j hN hv hd Oh,λF σ H ρ t cu Q r m e q=>by
  cases m with
  | cons e1 e2 tr nd m ap=>
   cases m;unfold m8 at e;rw[e1]at e;cases e;rw[ZU]at q;exact⟨_,e2,q _ H F _ (ar.refl _) (λb hb=>.inr hb) nd (λb=>⟨.inl,λh=>h.elim id λhb=>(tr.fs b hb).1⟩) (λ_ hb=>hb) tr (λq hq u w h1 h2=>by cases PP.mp hq;rw[e1]at h1;rw[e2]at h2;cases h1;cases h2;exact aK.here _ _)⟩⟩
theorem Ir:oK X [] [] pos [] [] []:=⟨[],L2.qN,λF σ H ρ ks ts cu Q r m e q=>by
 cases e;cases m;exact q [] H F [] (ar.refl _) (λ_ hb=>nomatch hb) Z3 (λb=>by simp) (λ_ hb=>nomatch hb) rfl (by rw[aD];exact⟨rfl,rfl⟩) (λ_ h=>nomatch h)⟩
theorem Lc{Q5 RE:List Nat}{Tv:List (Nat×List Nat)}{SA:List (Nat×Nat×List Nat)}{k v:Expr}{fk:Ex}{fv:Xt}{keys:List (Option Expr)}{values:acP}{OR:List (Ex×Xt)}(hk:JE X k fk)(hv:oN X Q5 Tv v fv)(hr:oK X RE SA pos keys values OR):oK X (Q5++RE) (Tv.map (λq=>(q.1,0,q.2))++SA.map λq=>(q.1,q.2.1+1,q.2.2)) pos (some k::keys) (v::values) ((fk,fv)::OR):=by
 obtain⟨N4,h,g⟩:=hr;obtain⟨te,hv,gv⟩:=hv;refine⟨_,L2.pZ hk hv h,λF σ H ρ ks ts cu Q r m e q=>?_⟩;obtain⟨d,ed,e⟩:=aC.mp e;obtain⟨t,et,e⟩:=aC.mp e;cases hz:keyOf d with
 |none=>rw[hz]at e;cases e
 | some z=>
  rw[hz]at e;obtain⟨⟨RZ,TH⟩,ey,e⟩:=aC.mp e;cases e;obtain⟨c1,c2,rfl,m1,m2,ap⟩:=m.split;refine⟨ρ,F,d,r,ed,λx H1 s1 rx=>gv F σ H1 ρ t c1 _ (r.same s1) (m1.mv (.same s1) s1 λ_ f=>f) et λy H2 F2 as s2 hn nd hF S0 tr Y6=>?_⟩;have Y0:=m1.mv (.same s1) s1 λ_ f=>f;have UE:=m2.mv (.same s1) s1 λ_ f=>f;obtain⟨Ul,r2⟩:=(r.same s1).yX s2 hn (λb hb=>(Y0.fs b hb).1) hF (λb hb=>(tr.fs b hb).2);refine g F2 σ H2 ρ RZ TH c2 _ r2 (UE.mv Ul s2 λb f=>(hF b).mpr (.inl f)) ey λxs H3 F3 bs s3 Sk UQ R' Xk hl N4 Xv=>?_
  have apart:∀a∈as,∀b∈bs,a≠b:=λa ha b hb z=>by
   subst z;rcases Sk a hb with h|h
   ·obtain⟨_,u,hu⟩:=tr.fs a ha
    rw[h]at hu;cases hu
   ·rcases hn a ha with h'|h'
    ·obtain⟨_,o,ho⟩:=UE.fs a h
     rw[h']at ho;cases ho
    ·exact ap a h' h
  have Vc:Mv F2 H2 F3 H3:=λb o n e=>⟨λf=>((R' b).mp f).elim n (λhb=>by
   rcases Sk b hb with h|h
   ·rw[h]at e;cases e
   ·exact n ((hF b).mpr (.inl (UE.fs b h).1))),s3 _ _ e⟩
  cases f7 hz rx;refine q (y::xs) H3 F3 (as++bs) (s1.trans (s2.trans s3)) (λb hb=>?_) (SZ.mpr ⟨nd,UQ,apart⟩) (λb=>?_) (λb hb=>?_) (by simp[hl]) ?_ (λq' US u w h1 h2=>?_)
  ·rcases M0.mp hb with hb|hb
   ·exact(hn b hb).imp (λh=>s1.free h) λh=>Ox _ h
   ·exact(Sk b hb).imp (λh=>s1.free (s2.free h)) λh=>GT _ h
  ·rw[R' b,hF b,M0,abf]
  ·exact(M0.mp hb).elim (λh=>Ox _ (S0 b h)) λh=>GT _ (Xk b h)
  ·simp only[aD]
   exact⟨y,xs,as,bs,rfl,rfl,tr.mv Vc λb hb u f hu=>⟨(R' b).mpr (.inl f),s3 _ _ hu⟩,N4⟩
  ·rcases M0.mp US with h|h
   ·obtain⟨q0,Tp,rfl⟩:=S4.mp h
    exact⟨t,y,rfl,rfl,BR s3 (Y6 q0 Tp u w h1 h2)⟩
   ·obtain⟨q0,Tp,rfl⟩:=S4.mp h
    obtain⟨t1,x1,g1,g2,g3⟩:=Xv q0 Tp u w h1 h2;exact⟨t1,x1,by simpa using g1,by simpa using g2,g3⟩
theorem Er(h:oK X js pa pos keys values OR)(O9:keys.all (·.isSome)=true)(hl:keys.length=values.length)(h0:keys≠[])(PZ:keys.length<=15)(hk:OR.length<=15):oN X js (pa.map λq=>(q.1,q.2.1::q.2.2)) (.Dict keys values pos) (jG OR):=by
 obtain⟨N4,hp,g⟩:=h;refine⟨_,L2.sJ hp O9 hl h0 PZ,λF σ H ρ t cu Q hr m e q=>?_⟩;obtain⟨⟨ks,ts⟩,ey,e⟩:=aC.mp e;by_cases PJ:ks.Nodup
 ·rw[AC PJ]at e
  cases e;intro p hp;have P4:=hr.fresh (o:=.dK []) hp;have G':∀ {b o},H b=some o->b≠p:=λ{b o} e z=>by subst z;rw[hp]at e;cases e
  have Vo:ar H (upd H p (.dK [])):=λb o e=>by rw[L2.aN (G' e)];exact e
  have m':eV (aJ X) (upd H p (.dK [])) (λb=>F b\/b=p) σ ρ js cu:=m.mv (λb o n e=>⟨λh=>h.elim n λz=>G' e z,Vo _ _ e⟩) Vo λ_ f=>.inl f;refine g _ σ _ ρ ks ts cu _ P4 m' ey λxs H2 F2 as s2 hn nd hF hc Su rs al=>?_;have e2:H2 p=some (.dK []):=s2 _ _ L2.bO
  have hm:L2.eO [] (ks.zip xs)=ks.zip xs:=by
   rw[oq (by simp only[ZO,aaF];rw[show(ks.zip xs).map (·.1)=ks from by rw[Z4];omega];exact PJ)]
   rfl
  have Xl:ks.length=OR.length:=yf ey;refine⟨e2,ks.zip xs,rfl,by rw[SB];omega,?_⟩
  rw[hm];have Ur:p∉cu:=λhb=>by obtain⟨_,o,ho⟩:=m.fs p hb;rw[hp]at ho;cases ho
  have QE:p∉as:=λhb=>by
   rcases hn p hb with h|h
   ·rw[L2.bO]at h;cases h
   ·exact Ur h
  have sm:ar H (upd H2 p (.dK (ks.zip xs))):=λb u e=>by
   rw[L2.aN (G' e)];exact s2 _ _ (Vo _ _ e)
  refine q _ _ F2 (p::as) sm (λb hb=>?_) (MG.mpr ⟨QE,nd⟩) (λb=>?_) (λb hb=>Do _ (hc b hb)) ?_ (λq' US u w h1 h2=>?_)
  ·rcases Da.mp hb with h9|h9
   ·rw[h9];exact .inl hp
   ·have G':b≠p:=λz=>by rw[z]at h9;exact QE h9
    exact(hn b h9).imp (λh=>by rwa[L2.aN G']at h) id
  ·rw[hF b,Da,abf]
  ·simp only[cU,cW,cR,cS]
   have fp:F2 p:=(hF p).mpr (.inl (.inr rfl));exact⟨p,xs,as,rfl,rfl,fp,L2.bO,Su,rs.mv (λb o n e=>⟨n,by rw[L2.aN (λz=>by subst z;exact n fp)];exact e⟩) λb hb u f hu=>⟨f,by rw[L2.aN (λz=>by subst z;exact QE hb)];exact hu⟩⟩
  ·obtain⟨q0,Tp,rfl⟩:=S4.mp US
   obtain⟨t1,x1,g1,g2,g3⟩:=al q0 Tp u w h1 h2;obtain⟨bs,Pe,Rm⟩:=rs.get g1 g2;have fp:F2 p:=(hF p).mpr (.inl (.inr rfl));refine⟨p,xs,t1,x1,rfl,L2.bO,Su,g1,g2,aK.mv (F:=F2) (λb o n e=>by rw[L2.aN (λz=>by subst z;exact n fp)];exact e) Pe (λb hb u f hu=>?_) g3⟩
   first
    |exact(by rw[L2.aN (λz=>by subst z;exact QE (Rm _ hb))];exact hu)
    |exact⟨f,by rw[L2.aN (λz=>by subst z;exact QE (Rm _ hb))];exact hu⟩
 ·rw[DF PJ]at e;cases e
variable{G:Hp}{F0:Gf}
theorem bq.Ij{cu:Zx}{i:Nat}{t:T}{v:V}(r:bq M G F0 H F σ ρ)(no:iN i ρ=true)(Yo:2<=i)(s1:ar H H')(hn:∀b∈as,H b=none\/b∈cu)(WT:∀b∈cu,F b)(Y':∀b∈cu,G b=none)(Y7:∀b∈cu,∀k:Nat,bY ρ k->σ[k]? ≠some (some (.ref b)))(YL:∀b∈cu,∀j:Nat,¬cy M H F σ ρ j b)(nd:as.Nodup)(hF:∀b,F' b↔F b\/b∈as)(tr:aL M H' F' t v as):
  Mv F H F' H'/\bq M G F0 H' F' (σ.set i (some v)) (ρ.set i (.on (.tr t))):=by
 obtain⟨mv,rs⟩:=r.rs.yX s1 hn WT hF (λb hb=>(tr.fs b hb).2)
 have get:∀(j:Nat) x,(ρ.set i (.on (.tr t)))[j]? =some (.on x)->(i=j/\x=.tr t/\i<ρ.length)\/(i≠j/\ρ[j]? =some (.on x)):=λj x h=>by
  rcases get_set h with⟨h1,h2,h3⟩|h
  ·injection h2 with h2;exact .inl ⟨h1,h2.symm,h3⟩
  ·exact .inr h
 have self:i<ρ.length->(σ.set i (some v))[i]? =some (some v):=λh=>Mk (by rw[<-r.rs.len];exact h)
 have Ot:∀(j:Nat) b,cy M H' F' (σ.set i (some v)) (ρ.set i (.on (.tr t))) j b->(i=j/\b∈as)\/(i≠j/\cy M H F σ ρ j b/\cy M H' F' σ ρ j b):=λj b hb=>by
  have TY:=hb;obtain⟨t1,v1,OI,e1,O4,Pe,hb⟩:=hb;rcases get j _ e1 with⟨rfl,z,hl⟩|⟨G',e2⟩
  ·cases z
   rw[self hl]at O4;cases O4;have:=aL.je tr Pe;subst this;exact .inl ⟨rfl,hb⟩
  ·rw[bU G']at O4
   exact .inr ⟨G',r.rs.on.back (λx hx=>((get j x hx).resolve_left λz=>G' z.1).2) (bU G') (λa u _ _ hu=>s1 _ _ hu) (λa o _ e=>s1 _ _ e) TY,t1,v1,OI,e2,O4,Pe,hb⟩
 have new:∀(j:Nat) b,b∈as->¬cy M H F σ ρ j b:=λj b hb h=>by
  rcases hn b hb with z|z
  ·obtain⟨_,u,hu⟩:=gg.f h
   rw[z]at hu;cases hu
  ·exact YL b z j h
 refine⟨mv,⟨⟨by simp[rs.len],rs.bw,λj d q=>?_,λj d q=>?_,λj k d q=>?_,λj k b oj ok ej ek=>?_,λj x h=>⟨?_,λb hb k ok ek=>?_,λt1 ht k t2 hk QZ b h1 h2=>?_⟩⟩,r.sm.trans s1,λb f=>(hF b).mpr (.inl (r.sub b f)),r.d9,λj a oj e=>?_,λj x b e hb=>?_,λw hw t2 e2=>?_⟩⟩
 ·rcases get_set q with⟨_,z,_⟩|⟨G',q⟩
  ·cases z
  ·obtain⟨w,e1,g⟩:=rs.sh j d q
   exact⟨w,by rw[bU G'];exact e1,g⟩
 ·rcases get_set q with⟨_,z,_⟩|⟨G',q⟩
  ·cases z
  ·obtain⟨a,xs,e1,g⟩:=rs.ol j d q
   exact⟨a,xs,by rw[bU G'];exact e1,g⟩
 ·rcases get_set q with⟨_,z,_⟩|⟨G',q⟩
  ·cases z
  ·obtain⟨a,xs,e1,g⟩:=rs.od j k d q
   exact⟨a,xs,by rw[bU G'];exact e1,g⟩
 ·obtain⟨nj,oj⟩:=gR oj
  obtain⟨nk,ok⟩:=gR ok;rw[bU nj]at ej;rw[bU nk]at ek;exact rs.dg j k b oj ok ej ek
 ·rcases get j x h with⟨rfl,rfl,hl⟩|⟨G',h0⟩
  ·exact⟨v,as,self hl,tr,nd⟩
  ·have h1:=(rs.on j x h0).1
   cases x with
   | tr t1=>
    obtain⟨v1,OI,e1,h2⟩:=h1;exact⟨v1,OI,by rw[bU G'];exact e1,h2⟩
   | al k p=>
    intro t1 e1;rcases get k _ e1 with⟨z,_,_⟩|⟨hk,e1⟩
    ·subst z;exact absurd h0 (zO no j p)
    ·obtain⟨v1,w,t2,a1,a2,a3⟩:=h1 t1 e1
     exact⟨v1,w,t2,by rw[bU hk];exact a1,by rw[bU G'];exact a2,a3⟩
 ·obtain⟨nk,ok⟩:=gR ok
  rw[bU nk]at ek;rcases Ot j b hb with⟨_,hb⟩|⟨_,hb,_⟩
  ·rcases hn b hb with z|z
   ·obtain⟨a,_,u,_,e1,_,e2,_⟩:=r.rs.ownAt ok
    rw[ek]at e1;cases e1;rw[z]at e2;cases e2
   ·exact Y7 b z k ok ek
  ·obtain⟨t9,v9,SV,e9,_⟩:=id hb
   exact(r.rs.on j _ e9).2.1 b hb k ok ek
 ·rcases Ot j b h1 with⟨h3,h4⟩|⟨h3,h4,_⟩
  ·rcases Ot k b h2 with⟨h5,_⟩|⟨_,h5,_⟩
   ·exact QZ (h5.symm.trans h3)
   ·exact new k b h4 h5
  ·rcases Ot k b h2 with⟨_,h5⟩|⟨h5,h6,_⟩
   ·exact new j b h5 h4
   ·exact(r.rs.on j _ ((get j x h).resolve_left λz=>h3 z.1).2).2.2 t1 ht k t2 ((get k _ hk).resolve_left λz=>h5 z.1).2 QZ b h4 h6
 ·obtain⟨nj,oj⟩:=gR oj
  rw[bU nj]at e;exact r.own j a oj e
 ·rcases Ot j b hb with⟨_,hb⟩|⟨_,hb,_⟩
  ·exact(hn b hb).elim r.sm.free (Y' b)
  ·obtain⟨t9,v9,SV,e9,_⟩:=id hb
   exact r.eF j _ b e9 hb
 ·have TX:i≠w.1.toNat:=λz=>by have:=Bool.toNat_lt w.1;omega
  rcases get _ _ e2 with⟨z,_,_⟩|⟨_,e2⟩
  ·exact absurd z TX
  ·rw[bU TX];exact r.pin w hw t2 e2
noncomputable def ug(i j1 j2:Nat)(p1 p2:List Nat)(f:Xt):Sm:=λρ=>(f ρ).bind λt=>match ρ[j1]?,ρ[j2]? with
 | some (.on (.tr u1)),some (.on (.tr u2))=>if iN i ((ρ.set j1 .un).set j2 .un)=true/\2<=i/\i≠j1/\i≠j2/\j1≠j2/\u1.cZ=true/\u2.cZ=true/\i<ρ.length
  then .ok (.next (((((ρ.set j1 .un).set j2 .un).set i (.on (.tr t))).set j1 (.on (.al i p1))).set j2 (.on (.al i p2))))else .bad
 |_,_=>.bad
theorem og(h:((ρ.set j1 .un).set j2 .un)[j]? =some s):s=.un\/(ρ[j]? =some s/\j≠j1/\j≠j2):=by
 rcases get_set h with⟨_,z,_⟩|⟨h2,h⟩
 ·exact .inl z.symm
 ·rcases get_set h with⟨_,z,_⟩|⟨h1,h⟩
  ·exact .inl z.symm
  ·exact .inr ⟨h,P3 h1,P3 h2⟩
theorem Ee (i:Nat) (j1:Nat) (j2:Nat) (hN:X.N.Nodup) (he:pG X [j1,j2] [(j1,p1),(j2,p2)] e f) (hi:X.N[i]? =some x:=by rfl) (hx:L2.Loc X.env.scope x:=by exact Or.inl rfl) (hf:X.fn x=true\/X.env.scope.names.lookup x=some .local:=by exact .inl rfl) (hs:swapsWith e (some (.Name x pp)) pos.line X.env=pure false:=by exact gF (by rfl)):XS X (.Assign [.Name x pp] e pos) (ug i j1 j2 p1 p2 f):=⟨have he:=he.out;λF0=>by
 obtain⟨te,he,g⟩:=he;refine dm (L2.kW hN hi hx he hs hf) λD σ H ⟨ρ,F,fl,r,e,q⟩=>?_;obtain⟨t,et,e⟩:=aC.mp e;split at e
 ·rename_i u1 u2 q1 q2
  split at e
  ·rename_i hc
   obtain⟨n0,Y1,h1,h2,Qy,o1,o2,hlen⟩:=hc;cases e;obtain⟨⟨v1,c1,O4,Pe,RP⟩,W0,VJ⟩:=r.rs.on j1 _ q1;obtain⟨⟨v2,c2,PM,mV,Oc⟩,W6,WU⟩:=r.rs.on j2 _ q2;have T4:∀b∈c1,cy (aJ X) H F σ ρ j1 b:=λb hb=>⟨u1,v1,c1,q1,O4,Pe,hb⟩;have TZ:∀b∈c2,cy (aJ X) H F σ ρ j2 b:=λb hb=>⟨u2,v2,c2,q2,PM,mV,hb⟩;have apart:∀a∈c1,a∉c2:=λa ha hb=>VJ _ rfl j2 u2 q2 (P3 Qy) a (T4 a ha) (TZ a hb);have m:eV (aJ X) H F σ ρ [j1,j2] (c1++(c2++[])):=.cons q1 O4 Pe RP (.cons q2 PM mV Oc .nil (λ_ _ h=>nomatch h)) (λa ha hb=>apart a ha (by simpa using hb))
   have inc:∀b∈c1++(c2++[]),b∈c1\/b∈c2:=λb hb=>by simpa using hb
   refine g F σ H ρ t _ _ r.rs m et λv H1 F1 as s1 hn nd hF PR tr al=>?_;have r0:bq (aJ X) F0.g F0 H F σ ((ρ.set j1 .un).set j2 .un):=r.un (by simp) λj s h=>(og h).imp id abq
   have SO:∀k,bY ((ρ.set j1 .un).set j2 .un) k->bY ρ k:=λk ok=>by
    unfold bY at ok ⊢
    first
     | (rcases ok with⟨ds,ok⟩|⟨ks,ds,ok⟩
        ·exact .inl ⟨ds,((og ok).resolve_left λz=>nomatch z).1⟩
        ·exact .inr ⟨ks,ds,((og ok).resolve_left λz=>nomatch z).1⟩)
     |(obtain⟨s,ok⟩:=ok;exact⟨s,((og ok).resolve_left λz=>nomatch z).1⟩)
   obtain⟨mv,r'⟩:=r0.Ij (cu:=c1++(c2++[])) n0 Y1 s1 hn (λb hb=>(m.fs b hb).1) (λb hb=>(inc b hb).elim (λh=>r.eF j1 _ b q1 (T4 b h)) λh=>r.eF j2 _ b q2 (TZ b h))
    (λb hb k ok=>(inc b hb).elim (λh=>W0 b (T4 b h) k (SO k ok)) λh=>W6 b (TZ b h) k (SO k ok)) (λb hb j=>by
     rintro⟨t1,w1,OI,e1,ev,Wy,WK⟩
     obtain⟨P9,n1,n2⟩:=(og e1).resolve_left λz=>nomatch z
     rcases inc b hb with h|h
     ·exact VJ _ rfl j t1 P9 n1 b (T4 b h) ⟨t1,w1,OI,P9,ev,Wy,WK⟩
     ·exact WU _ rfl j t1 P9 n2 b (TZ b h) ⟨t1,w1,OI,P9,ev,Wy,WK⟩) nd hF tr
   have RD:aK H1 t v p1 u1 v1:=al (j1,p1) (.head _) u1 v1 q1 O4;have at2:aK H1 t v p2 u2 v2:=al (j2,p2) (.tail _ (.head _)) u2 v2 q2 PM;have gi:(((ρ.set j1 .un).set j2 .un).set i (.on (.tr t)))[i]? =some (.on (.tr t)):=Mk (by simpa using hlen)
   have si:(σ.set i (some v))[i]? =some (some v):=Mk (by rw[<-r.rs.len];exact hlen)
   have r1:=r'.tZ (j:=j1) gi si RD o1 h1;have r2:=r1.tZ (j:=j2) (by rw[bU (P3 h1)];exact gi) (by rw[bU (P3 h1)];exact si) at2 o2 h2
   have Yv:((σ.set i (some v)).set j1 (some v1)).set j2 (some v2)=σ.set i (some v):=by
    apply List.ext_getElem?;intro k;by_cases k2:j2=k
    ·subst k2
     rw[Mk (by simpa using(xM.mp PM).1),bU h2,PM]
    ·rw[bU k2]
     by_cases k1:j1=k
     ·subst k1
      rw[Mk (by simpa using(xM.mp O4).1),bU h1,O4]
     ·rw[bU k1]
   rw[Yv]at r2;exact q _ _ _ mv r2
  ·cases e
 ·cases e⟩
end
noncomputable def qK(z:Ky)(ks:List Ky)(ts:List T):Bool:=(ks.zip ts).all λq=>decide (q.1≠z)|| !q.2.cZ
noncomputable def jH(i:Nat)(f:Pt)(k e:Ex):Sm:=λρ=>(e ρ).bind λd=>(f ρ).bind λp=>(k ρ).bind λq=>match ρ[i]?,keyOf q with
 | some (.on (.tr t)),some z=>match T.at t p with
  |some (.n (.m ks) ts)=>if ks.length<1000/\qK z ks ts=true then .ok (.next (ρ.set i (.on (.tr (T.put (.m (d5 z (.d d) ks ts).1 (d5 z (.d d) ks ts).2) t p)))))else .bad
  |_=>.bad
 |_,_=>.bad
theorem MH{z:Ky}{ks:List Ky}{ts:List T}{j:Nat}{k:Ky}{t:T}(h:qK z ks ts=true)(hk:ks[j]? =some k)(ht:ts[j]? =some t)(hn:t.cZ=true):k≠z:=by
 have hm:(k,t)∈ks.zip ts:=SL (i:=j) (by rw[abD];exact⟨hk,ht⟩)
 have:=aai.mp h _ hm;rw[hn]at this;simpa using this
section
variable{X:Cx}{M:Md}{G H H':Hp}{F0:Gf}{F F':acS}{σ:L2.St}{ρ:En}{pos:Pos}{pins:List (Addr×Obj)}{s:Shared}{as:Zx}
theorem BH(ha:H3 a=some (.dK (ks.zip xs)))(hl:ks.length=xs.length)(N4:aD M H3 F ts xs cs)(nc:a∉cs)(fa:F a)(TU:RZ.length=QW.length)
  (same:∀(j:Nat) t x,ts[j]? =some t->xs[j]? =some x->t.cZ=true->TH[j]? =some t/\QW[j]? =some x):∀j q t1 x,aK H3 (.m ks ts) (.ref a) (j::q) t1 x->t1.cZ=true->∃t2,t2.cZ=true/\aK (upd H3 a (.dK (RZ.zip QW))) (.m RZ TH) (.ref a) (j::q) t2 x:=by
 intro j q t1 x hj ho;simp only[aK]at hj ⊢;obtain⟨a9,YN,t9,x9,Zf,h9,l9,VW,Wa,hj⟩:=hj;cases Zf;have e9:YN=xs:=Kd.inj (k:=.m ks) (by rw[ha]at h9;injection h9 with z;exact z.symm) l9 hl
 subst e9
 have Ss:t9.cZ=true:=by
  cases t9 with
  | d y=>
   cases q with
   |nil=>simp only[aK]at hj;rw[<-hj.1]at ho;exact ho
   |cons k q=>exact False.elim hj
  |n kd l=>rfl
 obtain⟨x8,d8,VM,W',Vh⟩:=N4.part VW;rw[Wa]at VM;cases VM;obtain⟨g1,g2⟩:=same j t9 x9 VW Wa Ss;exact⟨t1,ho,a,QW,t9,x9,rfl,L2.bO,TU,g1,g2,hj.mv (F:=F) (λb o n e=>by rw[L2.aN (λz=>by subst z;exact n fa)];exact e) W' λb hb u f hu=>by rw[L2.aN (λz=>by subst z;exact nc (Vh.subset hb))];exact hu⟩
theorem sP{X:L2.Cx}{pos:Pos}(i:Nat){o e k:Expr}{f:Pt}{g h:Ex}{p3:Pos}(hu:X.A.units+64<cLine)(ho:XL X i o f)(hk:XE X k g)(he:XE X e h)(hs:swapsWith e (some (.Subscript o k p3)) pos.line X.env=pure false:=by exact gF (by rfl)):XS X (.Assign [.Subscript o k p3] e pos) (jH i f g h):=⟨have ho:=ho.out;have hk:=hk.out;have he:=he.out;λF0=>
 dm (L2.rO (by omega) ho hk he hs) λD σ H=>by
  rintro⟨ρ,F,fl,r,e,q⟩
  obtain⟨d,ed,e⟩:=aC.mp e;obtain⟨p,ep,e⟩:=aC.mp e;obtain⟨y,ey,e⟩:=aC.mp e;split at e
  ·rename_i t z q1 hz
   split at e
   ·rename_i ks ts OT
    split at e
    ·rename_i hlt0
     obtain⟨OF,YX⟩:=hlt0;cases e;obtain⟨⟨w,as,ew,tr,nd⟩,_,_⟩:=r.rs.on i _ q1;refine⟨ρ,F,d,r.rs,ed,λv H1 s1 rv=>⟨ρ,F,t,w,p,_,(r.same s1).rs,q1,ew,ep,OT,λv0 H2 s2 at2=>⟨ρ,F,y,((r.same s1).same s2).rs,ey,λw2 H3 s3 O0=>?_⟩⟩⟩;have r2:=(r.same s1).same s2;have r3:=r2.same s3;have QC:=at2.same r2.rs q1 ew s3;obtain⟨⟨w',as',Rx,Pd,Qx⟩,_,_⟩:=r3.rs.on i _ q1;rw[ew]at Rx;cases Rx;obtain⟨bs,tp,sub⟩:=aK.part Pd QC;have Rq:=tp;simp only[cU,cW,cR,cS]at tp;obtain⟨a,xs,cs,rfl,rfl,fa,ha,hl,N4⟩:=tp;have PN:=Qx.sublist sub;have QM:=MG.mp PN;cases f7 hz O0;have Si:=rv.mv (M:=aJ X) (F':=F) (.same (s2.trans s3))
     have Q7:(ks.zip xs).length<sizeLine:=by
      have:(sizeLine:Nat)=16777216:=aad;rw[SB];omega
     refine⟨a,_,rfl,L2.j6.k ha Q7,?_⟩;rw[o7 z v hl];have Ru:∀o:HO,Mv F H3 F (upd H3 a o):=λo b u n e=>⟨n,by rw[L2.aN (λz=>by subst z;exact n fa)];exact e⟩
     have kp:∀(o:HO) {OU:Zx},OU.Sublist cs->∀b∈OU,∀u,F b->H3 b=some u->F b/\upd H3 a o b=some u:=λo OU hs b hb u f hu=>⟨f,by rw[L2.aN (λz=>by subst z;exact QM.1 (hs.subset hb))];exact hu⟩
     unfold d5 at q;by_cases hm:(ks.any λa=>decide (a=z))=true
     ·rw[AC hm]at q ⊢
      obtain⟨OU,k1,k2⟩:=aD.tN (z:=z) Si (ks:=ks) N4
      obtain⟨mv,r'⟩:=r3.zW (H2:=upd H3 a (.dK (ks.zip (List.zipWith (λa x=>if a=z then v else x) ks xs)))) (F2:=F) (n1:=.m ks (List.zipWith (λa t=>if a=z then T.d d else t) ks ts)) q1 ew QC (eY.of Rq PN k2 (by
       simp only[cU,cW,cR,cS]
       exact⟨a,_,OU,rfl,rfl,fa,L2.bO,by rw[aaj];omega,k1.mv (Ru _) (kp _ k2)⟩)) rfl (BH ha hl N4 QM.1 fa (by rw[aaj];omega) (λj t9 x9 h1 h2 Ss=>by
        have hj:j<ks.length:=by rw[hl];exact(xM.mp h2).1
        have Wl:ks[j]≠z:=MH YX (Fk hj) h1 Ss;exact⟨by rw[abU,Fk hj,h1];simp[Wl],by rw[abU,Fk hj,h2];simp[Wl]⟩))
      exact q _ _ _ (Mv.trans (.same (s1.trans (s2.trans s3))) mv) r'
     ·rw[DF hm]at q ⊢
      obtain⟨mv,r'⟩:=r3.zW (H2:=upd H3 a (.dK ((ks++[z]).zip (xs++[v])))) (F2:=F) (n1:=.m (ks++[z]) (ts++[T.d d])) q1 ew QC (eY.of Rq PN (S7 _) (by
       simp only[cU,cW,cR,cS];refine⟨a,_,cs,rfl,rfl,fa,L2.bO,by rw[KM,KM,hl];rfl,?_⟩
       have:=aD.append (N4.mv (Ru (.dK ((ks++[z]).zip (xs++[v])))) (kp _ (S7 _))) (jW (vs:=[d]) (xs:=[v]) (as:=[]) |>.mpr ⟨rfl,aj.cons (Si.mv (Ru _)) aj.nil⟩);simpa using this)) rfl (BH ha hl N4 QM.1 fa (by rw[KM,KM,hl];rfl) (λj t9 x9 h1 h2 Ss=>⟨by rw[ZT (xM.mp h1).1];exact h1,by rw[ZT (xM.mp h2).1];exact h2⟩))
      exact q _ _ _ (Mv.trans (.same (s1.trans (s2.trans s3))) mv) r'
    ·cases e
   ·cases e
  ·cases e⟩
theorem CG(h:XX X e f):pG X [] [] e f:=⟨have h:=h.out;Ha h⟩
theorem BG(j:Nat)(hN:X.N[j]? =some y:=by rfl)(hv:L2.fi X.env.scope y:=by exact Or.inl rfl)(hd:gV y:=by decide)(Oh:tx y:=by decide):pG X [j] [(j,[])] (.Name y p2) (m8 j):=⟨ Jy j hN hv hd Oh⟩
theorem Cb:qg X [] [] pos [] [] []:=⟨ Ir⟩
theorem pF(Q5:List Nat)(RE:List Nat)(Tv:List (Nat×List Nat))(SA:List (Nat×Nat×List Nat))(hk:XE X k fk)(hv:pG X Q5 Tv v fv)(hr:qg X RE SA pos keys values OR)(hj:js=Q5++RE:=by rfl)(hp:pa=Tv.map (λq=>(q.1,0,q.2))++SA.map λq=>(q.1,q.2.1+1,q.2.2):=by rfl):qg X js pa pos (some k::keys) (v::values) ((fk,fv)::OR):=⟨have hk:=hk.out;have hv:=hv.out;have hr:=hr.out;hj▸hp▸Lc hk hv hr⟩
theorem Bk(pa:List (Nat×Nat×List Nat))(h:qg X js pa pos keys values OR)(O9:keys.all (·.isSome)=true:=by rfl)(hl:keys.length=values.length:=by rfl)(h0:keys≠[]:=by nofun)(PZ:keys.length<=15:=by decide)(hk:OR.length<=15:=by decide)(hp:pb=pa.map λq=>(q.1,q.2.1::q.2.2):=by rfl):pG X js pb (.Dict keys values pos) (jG OR):=⟨have h:=h.out;hp▸Er h O9 hl h0 PZ hk⟩
end
end PL
namespace PL
namespace ft
open PySem
noncomputable abbrev S(x:String):D:=.str (Str.ofString x)
noncomputable def g9:D:=(.tup [(S "put"),(S "high"),(S "copy"),(S "add"),(S "less"),(S "times"),(S "cut"),(S "rest"),(S "under"),(S "same"),(S "load"),(S "store"),(S "jump"),(S "if"),(S "call")])
noncomputable def rP:D:=(.aA [(.inr (Str.ofString "put")),(.inr (Str.ofString "high")),(.inr (Str.ofString "copy")),(.inr (Str.ofString "add")),(.inr (Str.ofString "less")),(.inr (Str.ofString "times")),(.inr (Str.ofString "cut")),(.inr (Str.ofString "rest")),(.inr (Str.ofString "under")),(.inr (Str.ofString "same")),(.inr (Str.ofString "load")),(.inr (Str.ofString "store")),(.inr (Str.ofString "jump")),(.inr (Str.ofString "if")),(.inr (Str.ofString "call"))] [(S "an"),(S "an"),(S "ab"),(S "abc"),(S "abc"),(S "abc"),(S "abc"),(S "abc"),(S "abc"),(S "abc"),(S "abn"),(S "abn"),(S "n"),(S "an"),(S "")])
noncomputable def k8:D:=(.int 16)
noncomputable def lJ:Sm:=aS (aG 2) (e2 oDiv (aa 2) (e2 b7 (eC (.int 10)) (eC (.int 24))))
noncomputable def iR:List D->R D:=fn 4 (az [aO (tV (e2 jm (aa 0) (e2 b7 (eC (.int 10)) (eC (.int 18))))) (az [aS (aG 2) (e2 ji (aa 0) (e2 b7 (eC (.int 10)) (eC (.int 18)))),jL (j8 (e2 oMod (aa 1) (eC (.int 16)))) (aG 3) lJ,aM (e2 oMod (aa 2) (e2 b7 (eC (.int 10)) (eC (.int 24))))]) (aV),aS (aG 2) (e2 oMod (e2 bZ (e2 bb (e2 bb (aa 0) (e2 bZ (e2 bZ (eC (.int 7919)) (aa 1)) (aa 1))) (eC (.int 1))) (eC (.int 48271))) (eC (.int 2147483647))),aM (e2 oMod (e2 bZ (aa 2) (aa 2)) (eC (.int 2147483629)))])
noncomputable def nI:List D->R T:=iY 3 (az [jV 2 (jG [(eC (S "parent"),xD (aa 0)),(eC (S "rank"),xD (eC (.int 1))),(eC (S "regs"),xL [xD (eC (.int 0)),xD (eC (.int 1)),xD (eC (.int 2)),xD (eC (.int 3)),xD (eC (.int 4)),xD (eC (.int 5)),xD (eC (.int 6)),xD (eC (.int 7))]),(eC (S "row"),xD (eC (.int 0))),(eC (S "pages"),ym),(eC (S "handles"),ym)]),nR 2 (pN) (eC (S "waits")) (xD (eC .aE)),nR 2 (pN) (eC (S "handler")) (xD (eC (.int 0))),nR 2 (pN) (eC (S "rung")) (xD (eC (.bl false))),nR 2 (pN) (eC (S "saved")) (xD (eC .aE)),sO 2])
noncomputable def gJ:List D->R D:=fn 1 (az [aS (aG 0) (cn [eC (S "put"),eC (S "high"),eC (S "copy"),eC (S "add"),eC (S "less"),eC (S "times"),eC (S "cut"),eC (S "rest"),eC (S "under"),eC (S "same"),eC (S "load"),eC (S "store")]),aM (e2 bb (aa 0) (cn [eC (S "jump"),eC (S "if"),eC (S "call")]))])
noncomputable def fP:List D->R D:=fn 3 (az [aS (aG 1) (e2 ag (aa 0) (eC (.int 0))),aS (aG 2) (e2 bZ (e2 iU (aI gJ []) (aa 1)) (eC (.int 33554432))),aO (tV (e2 oEq (aa 1) (eC (S "jump")))) (aM (e2 bb (aa 2) (e2 ag (aa 0) (eC (.int 1))))) (aV),aO (tV (e2 jk (e1 eQ (aa 0)) (eC (.int 1)))) (aS (aG 2) (e2 bb (aa 2) (e2 bZ (e2 ag (aa 0) (eC (.int 1))) (eC (.int 4194304))))) (aV),aO (tV (e2 ck (aa 1) (aP [eC (S "put"),eC (S "high"),eC (S "if")]))) (aM (e2 bb (aa 2) (e2 ag (aa 0) (eC (.int 2))))) (aV),aO (tV (e2 jk (e1 eQ (aa 0)) (eC (.int 2)))) (aS (aG 2) (e2 bb (aa 2) (e2 bZ (e2 ag (aa 0) (eC (.int 2))) (eC (.int 524288))))) (aV),aO (tV (e2 ck (aa 1) (aP [eC (S "load"),eC (S "store")]))) (aM (e2 bb (aa 2) (e2 ag (aa 0) (eC (.int 3))))) (aV),aO (tV (e2 jk (e1 eQ (aa 0)) (eC (.int 3)))) (aS (aG 2) (e2 bb (aa 2) (e2 bZ (e2 ag (aa 0) (eC (.int 3))) (eC (.int 65536))))) (aV),aM (aa 2)])
noncomputable def pj:List D->R D:=fn 6 (az [aS (aG 1) (e2 ag (aI gJ []) (e2 oMod (aa 0) (eC (.int 15)))),aS (aG 2) (e2 oMod (e2 oDiv (aa 0) (eC (.int 15))) (eC (.int 8))),aS (aG 3) (e2 oMod (e2 oDiv (aa 0) (eC (.int 120))) (eC (.int 8))),aS (aG 4) (e2 oMod (e2 oDiv (aa 0) (eC (.int 960))) (eC (.int 8))),aS (aG 5) (e2 ag (cn [e2 oMod (e2 oDiv (aa 0) (eC (.int 30720))) (eC (.int 65536)),e2 oMod (e2 oDiv (aa 0) (eC (.int 30720))) (eC (.int 40))]) (e2 oDiv (e2 oMod (e2 oDiv (aa 0) (eC (.int 7680))) (eC (.int 4))) (eC (.int 3)))),aO (tV (e2 oEq (aa 1) (eC (S "call")))) (aM (aP [aa 1])) (aV),aO (tV (e2 oEq (aa 1) (eC (S "jump")))) (aM (aP [aa 1,aa 5])) (aV),aO (tV (e2 ck (aa 1) (aP [eC (S "put"),eC (S "high"),eC (S "if")]))) (aM (aP [aa 1,aa 2,aa 5])) (aV),aO (tV (e2 oEq (aa 1) (eC (S "copy")))) (aM (aP [aa 1,aa 2,aa 3])) (aV),aO (tV (e2 ck (aa 1) (aP [eC (S "load"),eC (S "store")]))) (aM (aP [aa 1,aa 2,aa 3,aa 5])) (aV),aM (aP [aa 1,aa 2,aa 3,aa 4])])
noncomputable def qY:Sm:=az [pS 1 (e2 oMod (e2 bb (aa 0) (e2 bZ (e2 bZ (eC (.int 40503)) (aa 2)) (aa 2))) (eC (.int 4294967296))),aS (aG 0) (e2 oDiv (aa 0) (eC (.int 4294967296)))]
noncomputable def j9:List D->R D:=fn 3 (az [kz 1 (cn []),jL (j8 (eC (.int 16))) (aG 2) qY,iL 1,aM (e1 iV (aa 1))])
noncomputable def nz:List D->R D:=fn 3 (az [aS (aG 2) (cn [eC (.int 0),eC (.int 1),e2 oMod (e2 oDiv (aa 0) (eC (.int 8))) (eC (.int 20)),e2 ji (eC (.int 4294967295)) (e2 oMod (e2 oDiv (aa 0) (eC (.int 8))) (eC (.int 20))),e2 oMod (e2 oDiv (aa 0) (eC (.int 8))) (eC (.int 4294967296))]),aS (aG 2) (e2 bb (aa 2) (cn [e2 bb (e2 bZ (e2 ag (aa 1) (e2 oMod (e2 oDiv (aa 0) (eC (.int 8))) (eC (.int 3)))) (eC (.int 16))) (e2 oMod (e2 oDiv (aa 0) (eC (.int 24))) (eC (.int 16))),e2 bb (e2 bZ (e2 ag (aa 1) (eC (.int 2))) (eC (.int 16))) (eC (.int 15)),eC (.int 65535)])),aM (e2 ag (aa 2) (e2 oMod (aa 0) (eC (.int 8))))])
noncomputable def ly:Sm:=nQ 6 (pX 6 (pN) (eC (S "regs"))) (aa 11) (aI nz [aI iR [aa 0,e2 bb (e2 bb (e2 bZ (eC (.int 16)) (aa 1)) (eC (.int 6))) (aa 11)],aa 5])
noncomputable def mU:List D->R D:=fn 14 (az [aS (aG 2) (aI iR [aa 0,e2 bb (e2 bZ (eC (.int 16)) (aa 1)) (eC (.int 1))]),aS (aG 3) (e2 bb (eC (.int 1)) (e2 oMod (aa 2) (eC (.int 15)))),aS (aG 4) (e2 ag (cn [eC (.int 0),eC (.int 1),eC (.int 7),eC (.int 4094)]) (e2 oMod (e2 oDiv (aa 2) (eC (.int 15))) (eC (.int 4)))),aS (aG 5) (cn [aa 4,e2 bb (aa 4) (eC (.int 1)),e2 ag (cn [eC (.int 20),eC (.int 4090)]) (e2 oMod (e2 oDiv (aa 2) (eC (.int 60))) (eC (.int 2)))]),jV 6 (cF nI [eC (.int 0)]),aS (aG 7) (e2 oMod (e2 oDiv (aa 2) (eC (.int 120))) (eC (.int 16))),dj 6 (pN) (eC (S "row")) (e2 bb (e2 bZ (aa 4) (eC (.int 16))) (aa 7)),aS (aG 8) (aI fP [aI pj [aI iR [aa 0,e2 bb (e2 bZ (eC (.int 16)) (aa 1)) (eC (.int 2))]]]),aO (tV (e2 oEq (e2 oMod (e2 oDiv (aa 2) (eC (.int 1920))) (eC (.int 12))) (eC (.int 5)))) (az [aS (aG 9) (cn [e2 bb (aa 8) (e2 b7 (eC (.int 2)) (eC (.int 29))),e2 bb (e2 bZ (eC (.int 14)) (e2 b7 (eC (.int 2)) (eC (.int 25)))) (eC (.int 1)),e2 bb (e2 bZ (eC (.int 2)) (e2 b7 (eC (.int 2)) (eC (.int 25)))) (eC (.int 65536)),e2 bb (e2 bZ (eC (.int 12)) (e2 b7 (eC (.int 2)) (eC (.int 25)))) (e2 b7 (eC (.int 2)) (eC (.int 22))),eC (.int 4294967295)]),aS (aG 8) (e2 ag (aa 9) (e2 oMod (e2 oDiv (aa 2) (eC (.int 23040))) (eC (.int 5)))),aS (aG 8) (e2 oMod (aa 8) (eC (.int 4294967296)))]) (aV),kz 10 (e1 sj (aI j9 [aI iR [aa 0,e2 bb (e2 bZ (eC (.int 16)) (aa 1)) (eC (.int 3))]])),oX 10 (aa 7) (aa 8),iL 10,dj 6 (pX 6 (pN) (eC (S "pages"))) (e2 ag (aa 5) (eC (.int 0))) (aP [eC (S "own"),e1 iV (aa 10)]),dj 6 (pX 6 (pN) (eC (S "pages"))) (e2 ag (aa 5) (eC (.int 1))) (aP [eC (S "own"),aI j9 [aI iR [aa 0,e2 bb (e2 bZ (eC (.int 16)) (aa 1)) (eC (.int 4))]]]),dj 6 (pX 6 (pN) (eC (S "pages"))) (e2 ag (aa 5) (eC (.int 2))) (aP [eC (S "lent"),eC (.int 3)]),jL (j8 (eC (.int 8))) (aG 11) ly,jV 12 (cF nI [eC (.int 0)]),dj 12 (pX 12 (pN) (eC (S "pages"))) (eC (.int 5)) (aP [eC (S "lent"),eC (.int 3)]),aO (tV (e2 oEq (e2 oMod (e2 oDiv (aa 2) (eC (.int 230400))) (eC (.int 16))) (eC (.int 3)))) (dj 6 (pN) (eC (S "row")) (e2 ag (cn [e2 bb (e2 bZ (e2 ag (aa 5) (eC (.int 0))) (eC (.int 16))) (eC (.int 32)),eC (.int 4294967295),eC (.int 70000)]) (e2 oMod (e2 oDiv (aa 2) (eC (.int 3686400))) (eC (.int 3))))) (aV),ug 13 6 12 [0,0] [0,1] (jG [(eC (S "tasks"),jG [(aa 3,m8 6),(e2 bb (eC (.int 1)) (e2 oMod (aa 3) (eC (.int 15))),m8 12)]),(eC (S "lent"),xD (eW [(.inl 3)] [aI j9 [aa 2]])),(eC (S "nodes"),xD (eW [(.inl 0)] [aP [eC (S "folder"),eW [] []]]))]),jH 13 (pN) (eC (S "nodes")) (eW [(.inl 0),(.inl 1)] [aP [eC (S "folder"),eW [(.inl 7)] [eC (.int 1)]],aP [eC (S "file"),cn [eC (.int 5),eC (.int 6)]]]),jH 13 (pN) (eC (S "boxes")) (eW [(.inl 2)] [aP [eC (.int 3),cn [eC (.int 9)]]]),dj 13 (pA 13 6) (eC (S "handles")) (eW [(.inl 3)] [eC (.int 1)]),dj 13 (pA 13 6) (eC (S "handler")) (e2 oMod (aa 2) (eC (.int 3))),dj 13 (pA 13 12) (eC (S "saved")) (aP [cn [eC (.int 1),eC (.int 2),eC (.int 3),eC (.int 4),eC (.int 5),eC (.int 6),eC (.int 7),eC (.int 8)],eC (.int 70)]),jH 13 (pN) (eC (S "clock")) (e2 oMod (aa 2) (eC (.int 5))),gX 13 (aP [aa 13,aa 3])])
noncomputable def iu:List D->R D:=fn 4 (az [aS (aG 3) (e2 (jZ .aE) (e2 ag (e2 ag (e2 ag (aa 0) (eC (S "tasks"))) (aa 1)) (eC (S "pages"))) (e2 oDiv (aa 2) (eC (.int 16)))),aO (tV (e1 eK (aa 3))) (aM (eC .aE)) (aV),aO (tV (e2 oEq (e2 ag (aa 3) (eC (.int 0))) (eC (S "own")))) (aM (e2 ag (e2 ag (aa 3) (eC (.int 1))) (e2 oMod (aa 2) (eC (.int 16))))) (aV),aM (e2 ag (e2 ag (e2 ag (aa 0) (eC (S "lent"))) (e2 ag (aa 3) (eC (.int 1)))) (e2 oMod (aa 2) (eC (.int 16))))])
noncomputable def jM(rec:List D->R T):List D->R T:=iY 1 (az [aO (tV (e1 (cb .dict) (aa 0))) (kD (yg (kF (mS (aa 0)) 1 [0] (aG 0) [] (xT [xD (aa 0),cF rec [e2 ag (aa 1) (aa 0)]])))) (aV),aO (tV (e1 (cb .list) (aa 0))) (kD (kF (jo (aa 0)) 1 [] (aG 0) [] (cF rec [aa 0]))) (aV),aO (tV (e1 (cb .tuple) (aa 0))) (kD (wC (kF (jo (aa 0)) 1 [] (aG 0) [] (cF rec [aa 0])))) (aV),kD (xD (aa 0))])
noncomputable def g7:List D->R T:=md jM 9
noncomputable def kM:List D->R D:=fn 3 (az [aO (tV (e2 nN (aa 1) (e2 ag (aa 0) (eC (S "tasks"))))) (aM (eC .aE)) (aV),aM (e2 (jZ .aE) (e2 ag (e2 ag (e2 ag (aa 0) (eC (S "tasks"))) (aa 1)) (eC (S "pages"))) (aa 2))])
noncomputable def kE:List D->R D:=fn 2 (aM (fj (tV (e2 oEq (e2 ag (aa 1) (eC (.int 0))) (eC (S "own")))) (e2 ag (aa 1) (eC (.int 1))) (e2 ag (e2 ag (aa 0) (eC (S "lent"))) (e2 ag (aa 1) (eC (.int 1))))))
noncomputable def pz:List D->R D:=fn 4 (az [aS (aG 3) (aI kM [aa 0,aa 1,e2 oDiv (aa 2) (eC k8)]),aM (fj (tV (e1 eK (aa 3))) (eC .aE) (e2 ag (aI kE [aa 0,aa 3]) (e2 oMod (aa 2) (eC k8))))])
noncomputable def jJ:List D->R D:=oS (aI pz [aa 1,aa 2,aa 0])
noncomputable def mK:List D->R D:=fn 1 (aM (fF (e1 (cb .int) (aa 0)) (e1 ql (e1 (cb .bool) (aa 0)))))
noncomputable def jO:List D->R D:=fn 1 (aM (fF (aI mK [aa 0]) (wB oLe oLt (eC (.int 0)) (aa 0) (e2 b7 (eC (.int 2)) (eC (.int 32))))))
noncomputable def eE:List D->R D:=fn 1 (aM (e2 (jZ .aE) (eC rP) (aa 0)))
noncomputable def nO:List D->R D:=fn 1 (aM (fj (tV (e2 oEq (aa 0) (eC (S "n")))) (e2 b7 (eC (.int 2)) (eC (.int 16))) (eC (.int 8))))
noncomputable def kf:List D->R D:=fn 2 (aM (fF (aI mK [aa 1]) (wB oLe oLt (eC (.int 0)) (aa 1) (aI nO [aa 0]))))
noncomputable def kQ:List D->R D:=fn 2 (az [aO (dS (eG (tV (e1 (cb .tuple) (aa 0)))) (dS (tV (e2 oEq (e1 eQ (aa 0)) (eC (.int 0)))) (eG (tV (e1 (cb .str) (e2 ag (aa 0) (eC (.int 0)))))))) (aM (eC (.bl false))) (aV),aS (aG 1) (aI eE [e2 ag (aa 0) (eC (.int 0))]),aO (dS (tV (e1 eK (aa 1))) (tV (e2 dH (e1 eQ (aa 0)) (e2 bb (eC (.int 1)) (e1 eQ (aa 1)))))) (aM (eC (.bl false))) (aV),aM (e1 jt (eU (mE (aa 1) (jP (aa 0) (some (eC (.int 1))) none)) 2 [] (gW [0,1]) [] (aI kf [aa 0,aa 1])))])
noncomputable def jT:List D->R D:=fn 3 (az [aS (aG 2) (e2 vj (aI eE [e2 ag (aa 0) (eC (.int 0))]) (aa 1)),aM (fj (tV (e2 oLt (aa 2) (eC (.int 0)))) (eC (.int 0)) (e2 ag (aa 0) (e2 bb (eC (.int 1)) (aa 2))))])
noncomputable def lI:List D->R D:=fn 2 (az [aO (eG (tV (aI kQ [aa 0]))) (AK) (aV),aS (aG 1) (e2 bZ (e2 yk (eC g9) (e2 ag (aa 0) (eC (.int 0)))) (e2 b7 (eC (.int 2)) (eC (.int 25)))),aS (aG 1) (e2 bb (e2 bb (aa 1) (e2 bZ (aI jT [aa 0,eC (S "a")]) (e2 b7 (eC (.int 2)) (eC (.int 22))))) (e2 bZ (aI jT [aa 0,eC (S "b")]) (e2 b7 (eC (.int 2)) (eC (.int 19))))),aM (e2 bb (e2 bb (aa 1) (e2 bZ (aI jT [aa 0,eC (S "c")]) (e2 b7 (eC (.int 2)) (eC (.int 16))))) (aI jT [aa 0,eC (S "n")]))])
noncomputable def iH:List D->R D:=fn 2 (az [aO (tV (e2 oEq (aa 1) (eC (S "a")))) (aM (e2 oMod (e2 oDiv (aa 0) (e2 b7 (eC (.int 2)) (eC (.int 22)))) (eC (.int 8)))) (aV),aO (tV (e2 oEq (aa 1) (eC (S "b")))) (aM (e2 oMod (e2 oDiv (aa 0) (e2 b7 (eC (.int 2)) (eC (.int 19)))) (eC (.int 8)))) (aV),aO (tV (e2 oEq (aa 1) (eC (S "c")))) (aM (e2 oMod (e2 oDiv (aa 0) (e2 b7 (eC (.int 2)) (eC (.int 16)))) (eC (.int 8)))) (aV),aM (e2 oMod (aa 0) (e2 b7 (eC (.int 2)) (eC (.int 16))))])
noncomputable def jE:List D->R D:=fn 3 (az [aO (dS (eG (tV (aI jO [aa 0]))) (tV (e2 jm (e2 oDiv (aa 0) (e2 b7 (eC (.int 2)) (eC (.int 25)))) (e1 eQ (eC g9))))) (aM (eC .aE)) (aV),aS (aG 1) (e2 ag (eC g9) (e2 oDiv (aa 0) (e2 b7 (eC (.int 2)) (eC (.int 25))))),aS (aG 2) (e1 iV (e2 bb (cn [aa 1]) (eU (jo (aI eE [aa 1])) 1 [0] (aG 0) [] (aI iH [aa 1,aa 0])))),aM (fj (tV (e2 oEq (aI lI [aa 2]) (aa 0))) (aa 2) (eC .aE))])
noncomputable def nE:List D->R D:=fn 3 (az [aO (tV (e2 oEq (aa 2) (eC (.int 0)))) (aM (eC .aE)) (aV),aM (fj (tV (e2 oEq (aa 0) (eC (S "cut")))) (e2 oDiv (aa 1) (aa 2)) (e2 oMod (aa 1) (aa 2)))])
noncomputable def c7:List D->R D:=fn 1 (aM (e2 oMod (aa 0) (e2 b7 (eC (.int 2)) (eC (.int 32)))))
noncomputable def oU:List D->R D:=fn 3 (az [aO (tV (e2 oEq (aa 0) (eC (S "add")))) (aM (aI c7 [e2 bb (aa 1) (aa 2)])) (aV),aO (tV (e2 oEq (aa 0) (eC (S "less")))) (aM (aI c7 [e2 ji (aa 1) (aa 2)])) (aV),aO (tV (e2 oEq (aa 0) (eC (S "times")))) (aM (aI c7 [e2 bZ (aa 1) (aa 2)])) (aV),aO (tV (e2 oEq (aa 0) (eC (S "under")))) (aM (fj (tV (e2 oLt (aa 1) (aa 2))) (eC (.int 1)) (eC (.int 0)))) (aV),aO (tV (e2 oEq (aa 0) (eC (S "same")))) (aM (fj (tV (e2 oEq (aa 1) (aa 2))) (eC (.int 1)) (eC (.int 0)))) (aV),aM (aI nE [aa 0,aa 1,aa 2])])
noncomputable def jI:List D->R D:=fn 3 (az [aS (aG 2) (e2 ag (aa 0) (eC (.int 0))),aO (tV (e2 oEq (aa 2) (eC (S "put")))) (aM (aI c7 [e2 ag (aa 0) (eC (.int 2))])) (aV),aO (tV (e2 oEq (aa 2) (eC (S "high")))) (aM (aI c7 [e2 bb (e2 bZ (e2 ag (aa 0) (eC (.int 2))) (e2 b7 (eC (.int 2)) (eC (.int 16)))) (e2 oMod (e2 ag (aa 1) (e2 ag (aa 0) (eC (.int 1)))) (e2 b7 (eC (.int 2)) (eC (.int 16))))])) (aV),aO (tV (e2 oEq (aa 2) (eC (S "copy")))) (aM (aI c7 [e2 ag (aa 1) (e2 ag (aa 0) (eC (.int 2)))])) (aV),aM (aI oU [aa 2,e2 ag (aa 1) (e2 ag (aa 0) (eC (.int 2))),e2 ag (aa 1) (e2 ag (aa 0) (eC (.int 3)))])])
noncomputable def kZ:List D->R D:=fn 3 (aM (aP [aP [eC (S "fault"),aa 2],aa 0,aa 1,eC .aE]))
noncomputable def i5:List D->R D:=fn 4 (az [kz 3 (e1 sj (aa 0)),oX 3 (aa 1) (aa 2),iL 3,aM (aa 3)])
noncomputable def oW:List D->R D:=fn 6 (az [aS (aG 4) (aI c7 [e2 bb (e2 ag (aa 1) (e2 ag (aa 0) (eC (.int 2)))) (e2 ag (aa 0) (eC (.int 3)))]),aS (aG 5) (lS 3 "plain_row" jJ (aa 4)),aO (tV (e1 eK (aa 5))) (aM (aI kZ [aa 1,aa 2,eC (S "page")])) (aV),aO (tV (e2 oEq (e2 ag (aa 0) (eC (.int 0))) (eC (S "load")))) (aM (aP [aP [eC (S "row")],aI i5 [aa 1,e2 ag (aa 0) (eC (.int 1)),aa 5],aI c7 [e2 bb (aa 2) (eC (.int 1))],eC .aE])) (aV),aM (aP [aP [eC (S "row")],aa 1,aI c7 [e2 bb (aa 2) (eC (.int 1))],aP [aa 4,e2 ag (aa 1) (e2 ag (aa 0) (eC (.int 1)))]])])
noncomputable def oB:List D->R D:=fn 3 (az [aO (tV (e2 oEq (e2 ag (aa 0) (eC (.int 0))) (eC (S "call")))) (aM (aP [aP [eC (S "call"),e2 ag (aa 1) (eC (.int 0)),e2 ag (aa 1) (eC (.int 1)),e2 ag (aa 1) (eC (.int 2)),e2 ag (aa 1) (eC (.int 3))],aa 1,aI c7 [e2 bb (aa 2) (eC (.int 1))],eC .aE])) (aV),aO (jh (tV (e2 oEq (e2 ag (aa 0) (eC (.int 0))) (eC (S "if")))) (tV (e2 oEq (e2 ag (aa 1) (e2 ag (aa 0) (eC (.int 1)))) (eC (.int 0))))) (aM (aP [aP [eC (S "row")],aa 1,aI c7 [e2 bb (aa 2) (eC (.int 1))],eC .aE])) (aV),aM (aP [aP [eC (S "row")],aa 1,e2 ag (aa 0) (e1 tY (eC (.int 1))),eC .aE])])
noncomputable def kh:List D->R D:=fn 6 (az [aS (aG 3) (lS 2 "plain_row" jJ (aa 1)),aO (tV (e1 eK (aa 3))) (aM (aI kZ [aa 0,aa 1,eC (S "page")])) (aV),aS (aG 4) (aI jE [aa 3]),aO (tV (e1 eK (aa 4))) (aM (aI kZ [aa 0,aa 1,eC (S "code")])) (aV),aO (tV (e2 ck (e2 ag (aa 4) (eC (.int 0))) (aP [eC (S "load"),eC (S "store")]))) (aM (aI oW [aa 4,aa 0,aa 1,aa 2])) (aV),aO (tV (e2 ck (e2 ag (aa 4) (eC (.int 0))) (aP [eC (S "jump"),eC (S "if"),eC (S "call")]))) (aM (aI oB [aa 4,aa 0,aa 1])) (aV),aS (aG 5) (aI jI [aa 4,aa 0]),aO (tV (e1 eK (aa 5))) (aM (aI kZ [aa 0,aa 1,eC (S "cut")])) (aV),aM (aP [aP [eC (S "row")],aI i5 [aa 0,e2 ag (aa 4) (eC (.int 1)),aa 5],aI c7 [e2 bb (aa 1) (eC (.int 1))],eC .aE])])
noncomputable def qM:List D->R D:=fn 1 (aM (e2 oEq (e2 ag (aa 0) (eC (.int 0))) (eC (S "fault"))))
noncomputable def pf:List D->R D:=fn 3 (aM (e2 bb (e2 qR (jP (aa 0) none (some (aa 1))) (aP [aa 2])) (jP (aa 0) (some (e2 bb (aa 1) (eC (.int 1)))) none)))
noncomputable def gm:List D->R T:=iY 3 (az [yb 2 (e1 rL (aa 0)),B7 2 (aa 1),xa 2])
noncomputable def pP:List D->R D:=fn 3 (aM (eX (cF gm [aa 0,eW [(.inr (Str.ofString "lent"))] [eX (cF gm [e2 ag (aa 0) (eC (S "lent")),qL (aa 1) (aa 2)])]])))
noncomputable def jD:List D->R D:=fn 4 (az [yb 3 (e1 rL (e2 ag (aa 0) (eC (S "tasks")))),vb 3 (aa 1) (eX (cF gm [xb 3 (aa 1),aa 2])),iL 3,aM (eX (cF gm [aa 0,eW [(.inr (Str.ofString "tasks"))] [aa 3]]))])
noncomputable def oA:List D->R D:=fn 5 (az [aS (aG 4) (eX (cF gm [e2 ag (e2 ag (e2 ag (aa 0) (eC (S "tasks"))) (aa 1)) (eC (S "pages")),qL (aa 2) (aa 3)])),aM (aI jD [aa 0,aa 1,eW [(.inr (Str.ofString "pages"))] [aa 4]])])
noncomputable def pd:List D->R D:=fn 7 (az [aS (aG 4) (e2 oDiv (aa 2) (eC k8)),aS (aG 5) (aI kM [aa 0,aa 1,aa 4]),aO (tV (e1 eK (aa 5))) (aM (eC .aE)) (aV),aS (aG 6) (aI pf [aI kE [aa 0,aa 5],e2 oMod (aa 2) (eC k8),aa 3]),aO (tV (e2 oEq (e2 ag (aa 5) (eC (.int 0))) (eC (S "own")))) (aM (aI oA [aa 0,aa 1,aa 4,aP [eC (S "own"),aa 6]])) (aV),aM (aI pP [aa 0,e2 ag (aa 5) (eC (.int 1)),aa 6])])
noncomputable def p5:List D->R D:=fn 5 (az [aS (aG 2) (e2 ag (e2 ag (aa 0) (eC (S "tasks"))) (aa 1)),aS (aG 3) (oE kh "plain_row" [0,1] (e2 ag (aa 2) (eC (S "regs"))) (e2 ag (aa 2) (eC (S "row")))),aO (tV (aI qM [e2 ag (aa 3) (eC (.int 0))])) (aM (aP [aa 0,e2 ag (aa 3) (eC (.int 0))])) (aV),aS (aG 4) (fj (tV (e1 eK (e2 ag (aa 3) (eC (.int 3))))) (aa 0) (aI pd [aa 0,aa 1,e2 ag (e2 ag (aa 3) (eC (.int 3))) (eC (.int 0)),e2 ag (e2 ag (aa 3) (eC (.int 3))) (eC (.int 1))])),aM (aP [aI jD [aa 4,aa 1,eW [(.inr (Str.ofString "regs")),(.inr (Str.ofString "row"))] [e2 ag (aa 3) (eC (.int 1)),e2 ag (aa 3) (eC (.int 2))]],e2 ag (aa 3) (eC (.int 0))])])
noncomputable def fV:Sm:=az [aS (aG 2) (e2 iU (aI gJ []) (aa 1)),aS (aG 3) (e2 oMod (e2 oDiv (aa 0) (eC (.int 4194304))) (eC (.int 8))),aS (aG 4) (e2 oMod (e2 oDiv (aa 0) (eC (.int 524288))) (eC (.int 8))),aS (aG 5) (aP [aa 1,aa 3,aa 4,e2 oMod (e2 oDiv (aa 0) (eC (.int 65536))) (eC (.int 8))]),aO (tV (e2 oEq (aa 1) (eC (S "call")))) (aS (aG 5) (aP [aa 1])) (aO (tV (e2 oEq (aa 1) (eC (S "jump")))) (aS (aG 5) (aP [aa 1,e2 oMod (aa 0) (eC (.int 65536))])) (aO (tV (e2 ck (aa 1) (aP [eC (S "put"),eC (S "high"),eC (S "if")]))) (aS (aG 5) (aP [aa 1,aa 3,e2 oMod (aa 0) (eC (.int 65536))])) (aO (tV (e2 oEq (aa 1) (eC (S "copy")))) (aS (aG 5) (aP [aa 1,aa 3,aa 4])) (aO (tV (e2 ck (aa 1) (aP [eC (S "load"),eC (S "store")]))) (aS (aG 5) (aP [aa 1,aa 3,aa 4,e2 oMod (aa 0) (eC (.int 65536))])) (aV))))),aO (jh (tV (e2 oEq (e2 oDiv (aa 0) (eC (.int 33554432))) (aa 2))) (tV (e2 oEq (aI fP [aa 5]) (aa 0)))) (aM (aa 5)) (aV)]
noncomputable def lu:List D->R D:=fn 6 (az [jL (jo (aI gJ [])) (aG 1) fV,aM (eC .aE)])
noncomputable def ma:Sm:=pS 7 (e2 ag (cn [aI iu [aa 0,aa 1,e2 bb (e2 bZ (aa 6) (eC (.int 16))) (aa 8)],aa 3]) (e1 ib (e2 oEq (aa 8) (e2 oMod (aa 2) (eC (.int 16))))))
noncomputable def lF:List D->R T:=iY 9 (az [jV 4 (cF g7 [aa 0]),ml 5 4 (pX 4 (pX 4 (pX 4 (pN) (eC (S "tasks"))) (aa 1)) (eC (S "pages"))),aS (aG 6) (e2 oDiv (aa 2) (eC (.int 16))),kz 7 (cn []),jL (j8 (eC (.int 16))) (aG 8) ma,aO (oa 4 (tV (e2 oEq (e2 ag (e2 ag (aa 5) (aa 6)) (eC (.int 0))) (eC (S "own"))))) (az [iL 7,dj 4 (pA 4 5) (aa 6) (aP [eC (S "own"),e1 iV (aa 7)])]) (az [iL 7,dj 4 (pX 4 (pN) (eC (S "lent"))) (iw 4 (e2 ag (e2 ag (aa 5) (aa 6)) (eC (.int 1)))) (e1 iV (aa 7))]),sO 4])
noncomputable def ni:List D->R D:=fn 8 (az [aS (aG 3) (e2 ag (e2 ag (e2 ag (aa 0) (eC (S "tasks"))) (aa 1)) (eC (S "regs"))),aS (aG 4) (e2 ag (aa 2) (eC (.int 0))),aO (tV (e2 oEq (aa 4) (eC (S "put")))) (aM (e2 ag (aa 2) (eC (.int 2)))) (aV),aO (tV (e2 oEq (aa 4) (eC (S "high")))) (aM (e2 bb (e2 bZ (e2 ag (aa 2) (eC (.int 2))) (eC (.int 65536))) (e2 oMod (e2 ag (aa 3) (e2 ag (aa 2) (eC (.int 1)))) (eC (.int 65536))))) (aV),aO (tV (e2 oEq (aa 4) (eC (S "copy")))) (aM (e2 ag (aa 3) (e2 ag (aa 2) (eC (.int 2))))) (aV),aO (tV (e2 oEq (aa 4) (eC (S "load")))) (az [aS (aG 5) (aI iu [aa 0,aa 1,e2 oMod (e2 bb (e2 ag (aa 3) (e2 ag (aa 2) (eC (.int 2)))) (e2 ag (aa 2) (eC (.int 3)))) (eC (.int 4294967296))]),aM (fj (tV (e1 eK (aa 5))) (eC (S "page")) (aa 5))]) (aV),aS (aG 6) (e2 ag (aa 3) (e2 ag (aa 2) (eC (.int 2)))),aS (aG 7) (e2 ag (aa 3) (e2 ag (aa 2) (eC (.int 3)))),aO (tV (e2 ck (aa 4) (aP [eC (S "cut"),eC (S "rest")]))) (az [aO (tV (e2 oEq (aa 7) (eC (.int 0)))) (aM (eC (S "cut"))) (aV),aM (e2 ag (cn [e2 oDiv (aa 6) (aa 7),e2 oMod (aa 6) (aa 7)]) (e1 ib (e2 oEq (aa 4) (eC (S "rest")))))]) (aV),aO (tV (e2 ck (aa 4) (aP [eC (S "under"),eC (S "same")]))) (aM (e2 ag (cn [e1 ib (e2 oLt (aa 6) (aa 7)),e1 ib (e2 oEq (aa 6) (aa 7))]) (e1 ib (e2 oEq (aa 4) (eC (S "same")))))) (aV),aM (e2 oMod (e2 ag (cn [e2 bb (aa 6) (aa 7),e2 ji (aa 6) (aa 7),e2 bZ (aa 6) (aa 7)]) (e2 iU (cn [eC (S "add"),eC (S "less"),eC (S "times")]) (aa 4))) (eC (.int 4294967296)))])
noncomputable def nA:List D->R D:=fn 9 (az [jV 3 (cF g7 [aa 0]),ml 4 3 (pX 3 (pX 3 (pN) (eC (S "tasks"))) (aa 1)),ml 5 3 (pX 3 (pA 3 4) (eC (S "regs"))),aS (aG 6) (iw 3 (e2 oMod (e2 bb (e2 ag (aa 4) (eC (S "row"))) (eC (.int 1))) (eC (.int 4294967296)))),aO (tV (e2 oEq (e2 ag (aa 2) (eC (.int 0))) (eC (S "call")))) (az [jH 3 (pA 3 4) (eC (S "row")) (aa 6),gX 3 (aP [aa 3,aP [eC (S "call"),e2 ag (aa 5) (eC (.int 0)),e2 ag (aa 5) (eC (.int 1)),e2 ag (aa 5) (eC (.int 2)),e2 ag (aa 5) (eC (.int 3))]])]) (aV),aO (tV (e2 oEq (e2 ag (aa 2) (eC (.int 0))) (eC (S "jump")))) (aS (aG 6) (e2 ag (aa 2) (eC (.int 1)))) (aO (tV (e2 oEq (e2 ag (aa 2) (eC (.int 0))) (eC (S "if")))) (aS (aG 6) (iw 3 (e2 ag (cn [aa 6,e2 ag (aa 2) (eC (.int 2))]) (e1 ib (e2 dH (e2 ag (aa 5) (e2 ag (aa 2) (eC (.int 1)))) (eC (.int 0))))))) (aO (tV (e2 oEq (e2 ag (aa 2) (eC (.int 0))) (eC (S "store")))) (az [aS (aG 7) (iw 3 (e2 oMod (e2 bb (e2 ag (aa 5) (e2 ag (aa 2) (eC (.int 2)))) (e2 ag (aa 2) (eC (.int 3)))) (eC (.int 4294967296)))),aO (tV (e1 eK (aI iu [aa 0,aa 1,aa 7]))) (gX 3 (aP [aa 3,aP [eC (S "fault"),eC (S "page")]])) (aV),qq 3 (cF lF [aa 0,aa 1,aa 7,iw 3 (e2 ag (aa 5) (e2 ag (aa 2) (eC (.int 1))))])]) (az [aS (aG 8) (aI ni [aa 0,aa 1,aa 2]),aO (tV (e1 (cb .str) (aa 8))) (gX 3 (aP [aa 3,aP [eC (S "fault"),aa 8]])) (aV),nQ 3 (pA 3 5) (e2 ag (aa 2) (eC (.int 1))) (aa 8)]))),dj 3 (pX 3 (pX 3 (pN) (eC (S "tasks"))) (aa 1)) (eC (S "row")) (aa 6),gX 3 (aP [aa 3,aP [eC (S "row")]])])
noncomputable def wm(rec:List D->R D):List D->R D:=fn 2 (az [aO (tV (e1 (cb .dict) (aa 1))) (az [aO (dS (eG (tV (e1 (cb .dict) (aa 0)))) (tV (e2 dH (e1 gE (aa 0)) (e1 gE (aa 1))))) (aM (eC (.bl false))) (aV),aM (e1 jt (eU (mS (aa 1)) 1 [0,1] (aG 0) [] (fF (e2 ck (aa 0) (aa 1)) (aI rec [e2 ag (aa 1) (aa 0),e2 ag (aa 2) (aa 0)]))))]) (aV),aO (tV (e1 j5 (aa 1))) (az [aO (dS (tV (e2 dH (e1 (cb .list) (aa 0)) (e1 (cb .list) (aa 1)))) (tV (e2 dH (e1 (cb .tuple) (aa 0)) (e1 (cb .tuple) (aa 1))))) (aM (eC (.bl false))) (aV),aM (fF (e2 oEq (e1 gE (aa 0)) (e1 gE (aa 1))) (e1 jt (eU (mE (aa 0) (aa 1)) 2 [] (gW [0,1]) [] (aI rec [aa 0,aa 1]))))]) (aV),aM (fF (e2 oEq (aa 0) (aa 1)) (e2 oEq (e1 (cb .bool) (aa 0)) (e1 (cb .bool) (aa 1))))])
noncomputable def oz:List D->R D:=lX wm 9
noncomputable def mI:Sm:=az [aS (gW [2,3]) (aI mU [e2 ag (aa 0) (aa 1),aa 1]),aS (aG 4) (aI iu [aa 2,aa 3,e2 ag (e2 ag (e2 ag (aa 2) (eC (S "tasks"))) (aa 3)) (eC (S "row"))]),aO (tV (e1 eK (aa 4))) (aS (aG 5) (aP [eX (cF g7 [aa 2]),aP [eC (S "fault"),eC (S "page")]])) (aO (tV (e1 eK (aI lu [aa 4]))) (aS (aG 5) (aP [eX (cF g7 [aa 2]),aP [eC (S "fault"),eC (S "code")]])) (aS (aG 5) (aI nA [aa 2,aa 3,aI lu [aa 4]]))),aS (aG 6) (eX (cF g7 [aa 2])),aS (aG 7) (aI p5 [aa 6,aa 3]),aO (dS (eG (tV (e1 (cb .tuple) (aa 7)))) (dS (eG (tV (aI oz [aa 7,aa 5]))) (eG (tV (aI oz [aa 6,aa 2]))))) (aM (eC (.bl false))) (aV)]
noncomputable def nW:List D->R D:=fn 8 (az [jL (lP (eC (.int 1)) (e2 qW (e1 eQ (aa 0)) (eC (.int 41)))) (aG 1) mI,aM (eC (.bl true))])
end ft
end PL
set_option maxRecDepth 1000
namespace PL
open PySem
theorem sD(P:En->Prop):∀ {ds:List D},(∀d∈ds,∀ρ,P ρ->∃Ov,tg d ρ=.ok Ov/\∃Ph,body Ov=.ok (.next Ph)/\P Ph)->
  ∀ {ρ:En},P ρ->∃ρ',forL tg body ds ρ=.ok (.next ρ')/\P ρ'
 |[],_,ρ,h=>⟨ρ,rfl,h⟩
 | d::ds,hs,ρ,h=>by
  obtain⟨Ov,e1,Ph,e2,h2⟩:=hs d (FB ..) ρ h;obtain⟨ρ',e,h'⟩:=sD (ds:=ds) P (λd hd=>hs d (Do _ hd)) h2;exact⟨ρ',by simp[forL,e1,e2,e],h'⟩
theorem xo(P:Nat->En->Prop):∀ {ds:List D} (n:Nat),(∀i d,ds[i]? =some d->∀ρ,P (n+i) ρ->∃Ov,tg d ρ=.ok Ov/\∃Ph,body Ov=.ok (.next Ph)/\P (n+i+1) Ph)->
  ∀ {ρ:En},P n ρ->∃ρ',forL tg body ds ρ=.ok (.next ρ')/\P (n+ds.length) ρ'
 |[],n,_,ρ,h=>⟨ρ,rfl,h⟩
 | d::ds,n,hs,ρ,h=>by
  obtain⟨Ov,e1,Ph,e2,h2⟩:=hs 0 d rfl ρ h
  obtain⟨ρ',e,h'⟩:=xo (ds:=ds) P (n+1) (λi d hd ρ hp=>by
   have:=hs (i+1) d (by simpa using hd) ρ (by rw[show n+(i+1)=n+1+i by omega];exact hp)
   rw[show n+1+i+1=n+(i+1)+1 by omega];exact this) h2
  refine⟨ρ',by simp[forL,e1,e2,e],?_⟩
  rw[Z1,show n+(ds.length+1)=n+1+ds.length by omega];exact h'
theorem CQ{a b:Int}{i:Nat}{d:D}(h:(dG a b)[i]? =some d):d=.int (a+i)/\(i:Int)<b - a:=by
 unfold dG at h;rw[MC]at h;cases e:(List.range (b - a).toNat)[i]? with
 |none=>rw[e]at h;cases h
 | some k=>
  rw[e]at h;obtain⟨OF,hk⟩:=xM.mp e;simp at hk OF h;subst hk;exact⟨h.symm,by omega⟩
theorem AY(h:d∈dG a b):∃k:Int,d=.int k/\a<=k/\k<b:=by
 unfold dG at h;obtain⟨k,hk,e⟩:=S4.mp h;have:=List.mem_range.mp hk;exact⟨a+k,e.symm,by omega,by omega⟩
theorem kC{α:Type}{xs:List α}{j:Nat}(h:j<xs.length):cT xs (j:Int)=some xs[j]:=by
 unfold cT dw;rw[AC (by omega),AC (by omega)]
 simp[h]
theorem uJ{α:Type}{xs:List α}{i:Int}(h0:0<=i)(h:i<xs.length):cT xs i=some (xs[i.toNat]'(by omega)):=by
 unfold cT dw;rw[AC h0,AC h];have:i.toNat<xs.length:=by omega
 simp[this]
theorem jq{xs:Xj}{i:Int}(h0:0<=i)(h:i<xs.length):∃x,x∈xs/\cT (xs.map D.int) i=some (.int x):=by
 refine⟨xs[i.toNat]'(by omega),abt _,?_⟩
 rw[uJ h0 (by simpa using h)]
 simp
theorem CN(h1: -1000000<i)(h2:i<1000000):inR i=true:=by
 unfold inR;rw[FS (show -4611686018427387904<=i by omega),FS (show i<4611686018427387904 by omega)];rfl
theorem rH(h1:0<=i)(h2:i<18446744073709551616):small i=true:=by
 unfold small;rw[FS (show -18446744073709551616<i by omega),FS h2];rfl
theorem bB{c:cC}{a b:Sm}{ρ:En}(h:c ρ=.ok true):aO c a b ρ=a ρ:=by simp[h]
theorem gf(h:c ρ=.ok false):aO c a b ρ=b ρ:=by simp[h]
theorem my(h:c ρ=.ok true):fj c a b ρ=a ρ:=by simp[h]
theorem jy(h:c ρ=.ok false):fj c a b ρ=b ρ:=by simp[h]
theorem ah{a:Sm}{r:List Sm}{ρ ρ':En}(h:a ρ=.ok (.next ρ')):az (a::r) ρ=az r ρ':=by
 show(a ρ).bind _=_;rw[h];rfl
theorem aZ{a:Sm}{r:List Sm}{ρ:En}{d:D}(h:a ρ=.ok (.ret d)):az (a::r) ρ=.ok (.ret d):=by
 show(a ρ).bind _=_;rw[h];rfl
theorem aR{c:cC}{a:Sm}{ρ:En}(h:c ρ=.ok false):aO c a aV ρ=.ok (.next ρ):=by simp[h]
theorem cf{n:Nat}{b:Sm}{ds:List D}{d:D}(h:b (ds.map .sh++List.replicate (n - ds.length) .un)=.ok (.ret d)):fn n b ds=.ok d:=by
 unfold fn;rw[h];rfl
theorem vE(h:a ρ=.ok (.int L))(h2:inR L=true):j8 a ρ=.ok (dG 0 L):=by
 simp[h,h2]
theorem EL(h:a ρ=.ok (.int I))(h':b ρ=.ok (.int L))(h1:inR I=true)(h2:inR L=true):lP a b ρ=.ok (dG I L):=by
 simp[h,h',h1,h2]
set_option maxRecDepth 2000
namespace G
theorem fz{o:D->R D}{a:Ex}{ρ:En}{x d:D}(ha:a ρ=.ok x)(h:o x=.ok d):e1 o a ρ=.ok d:=by
 show(a ρ).bind _=_;rw[ha,R.bo,h]
theorem aH{o:D->D->R D}{a b:Ex}{ρ:En}{x y d:D}(ha:a ρ=.ok x)(hb:b ρ=.ok y)(h:o x y=.ok d):e2 o a b ρ=.ok d:=by
 show(a ρ).bind _=_;rw[ha,R.bo];show(b ρ).bind _=_;rw[hb,R.bo,h]
theorem fm(ha:a ρ=.ok x)(h:f [x]=.ok d):aI f [a] ρ=.ok d:=by
 simp only[aI,eList,ha,R.bo];exact h
theorem dY{f:List D->R D}{a b:Ex}{ρ:En}{x y d:D}(ha:a ρ=.ok x)(hb:b ρ=.ok y)(h:f [x,y]=.ok d):aI f [a,b] ρ=.ok d:=by
 simp only[aI,eList,ha,hb,R.bo];exact h
theorem dC{f:List D->R D}{a b c:Ex}{ρ:En}{x y z d:D}(ha:a ρ=.ok x)(hb:b ρ=.ok y)(hc:c ρ=.ok z)(h:f [x,y,z]=.ok d):aI f [a,b,c] ρ=.ok d:=by
 simp only[aI,eList,ha,hb,hc,R.bo];exact h
theorem cD(ha:a ρ=.ok (.int i))(hb:b ρ=.ok (.int u)):e2 bb a b ρ=.ok (.int (i+u)):=aH ha hb rfl
theorem xr(ha:a ρ=.ok (.int i))(hb:b ρ=.ok (.int u)):e2 ji a b ρ=.ok (.int (i - u)):=aH ha hb rfl
theorem bT(ha:a ρ=.ok (.int i))(hb:b ρ=.ok (.int u))(h:0<u):e2 oMod a b ρ=.ok (.int (i % u)):=aH ha hb (AC h)
theorem iZ{a b:Ex}{ρ:En}{x y:D}(h:a ρ=.ok x)(h2:b ρ=.ok y):aP [a,b] ρ=.ok (.tup [x,y]):=by
 simp only[aP,eList,h,h2,R.bo]
theorem bz{a:Ex}{ρ:En}{b:Bool}(ha:a ρ=.ok (.bl b)):tV a ρ=.ok b:=by
 simp only[tV,ha,R.bo,truth]
theorem oT(h:t ρ=.ok b):eG t ρ=.ok (!b):=by
 simp only[eG,h,R.bo]
theorem qX{t u:cC}{ρ:En}{b c:Bool}(h:t ρ=.ok b)(h':u ρ=.ok c):dS t u ρ=.ok (b||c):=by
 simp only[dS,h,R.bo];cases b
 ·rw[DF (by decide),h'];rfl
 ·rfl
theorem yx(h:t ρ=.ok b)(h':u ρ=.ok c):jh t u ρ=.ok (b&&c):=by
 simp only[jh,h,R.bo];cases b
 ·rfl
 ·rw[AC rfl,h'];rfl
theorem K8(h:t ρ=.ok false):jh t u ρ=.ok false:=by
 simp only[jh,h,R.bo];rfl
theorem qo{x:Bool}(ha:a ρ=.ok (.bl true))(hb:b ρ=.ok d):fF a b ρ=.ok d:=by
 simp only[fF,ha,R.bo];exact hb
theorem bE{a:Ex}{ρ:En}{d:D}(h:a ρ=.ok d):aM a ρ=.ok (.ret d):=by
 simp only[aM,h,R.bo]
theorem bh{i:Nat}{a:Ex}{ρ:En}{d:D}(h:a ρ=.ok d):aS (aG i) a ρ=.ok (.next (ρ.set i (.sh d))):=by
 simp only[aS,h,R.bo,aG]
theorem B9(h:a ρ=.ok d)(hi:ρ[i]? =some (.ol xs))(hl:xs.length<16777216):pS i a ρ=.ok (.next (ρ.set i (.ol (xs++[d])))):=by
 simp only[pS,h,R.bo,hi];exact AC hl
theorem uk(h:a ρ=.ok (.lst xs)):kz i a ρ=.ok (.next (ρ.set i (.ol xs))):=by
 simp only[kz,h,R.bo]
theorem zI(h:a ρ=.ok d)(hk:k ρ=.ok (.int j))(hi:ρ[i]? =some (.ol xs))(hm:dw xs.length j=some m):oX i k a ρ=.ok (.next (ρ.set i (.ol (xs.set m d)))):=by
 simp only[oX,h,hk,R.bo,hi,hm]
theorem p7{n:Nat}{j:Int}(h0:0<=j)(h1:j<n):dw n j=some j.toNat:=by
 unfold dw;rw[AC h0,AC h1]
theorem jc(h:cT xs i=some d):ag (.lst xs) (.int i)=.ok d:=by simp[h]
theorem iI(h:cT xs i=some d):ag (.tup xs) (.int i)=.ok d:=by simp[h]
theorem eq_int(i j:Int):oEq (.int i) (.int j)=.ok (.bl (decide (i=j))):=by
 unfold oEq;rw[zQ,AC rfl];show R.ok (D.bl (i==j))=_;rfl
theorem lt_int(i j:Int):oLt (.int i) (.int j)=.ok (.bl (decide (i<j))):=rfl
theorem l8(h:0<=v):bp n d (some v)=min v.toNat n:=DF (by omega)
theorem Fn{α:Type}(xs:List α)(h:0<=v):cut xs none (some v)=xs.take v.toNat:=by
 unfold cut;rw[l8 h];show((xs.drop 0).take _)=_;rw[acJ];show xs.take (min v.toNat xs.length - 0)=_;rw[Nat.sub_zero];by_cases hl:v.toNat<=xs.length
 ·rw[acF hl]
 ·rw[acz (by omega),List.take_length,aaY (by omega)]
theorem IZ{α:Type}(xs:List α)(h:0<=v):cut xs (some v) none=xs.drop v.toNat:=by
 unfold cut;rw[l8 h];show(xs.drop (min v.toNat xs.length)).take (xs.length - min v.toNat xs.length)=_;by_cases hl:v.toNat<=xs.length
 ·rw[acF hl]
  exact aaY (by rw[aaT];omega)
 ·rw[acz (by omega),abr,List.drop_of_length_le (by omega),List.take_nil]
mutual
theorem uG:∀d:D,lay d=true->cw d d=true
 |.aE,_=>rfl
 |.bl b,_=>by simp
 |.int i,_=>by simp
 |.str x,_=>by simp
 |.tup xs,h=>by unfold cw;exact ya xs (by unfold lay at h;exact h)
 |.lst xs,h=>by unfold cw;exact ya xs (by unfold lay at h;exact h)
 |.aA _ _,h=>by unfold lay at h;cases h
 |.cE _ _ _,h=>by unfold lay at h;cases h
theorem ya:∀ds:List D,fW ds=true->ki ds ds=true
 |[],_=>rfl
 | d::ds,h=>by
  unfold fW at h;rw[mO]at h;unfold ki;rw[uG d h.1,ya ds h.2];rfl
end
theorem Ar(h:lay d=true)(h2:dep d<=60):gC d d=true:=by
 unfold gC;rw[h,FS (show min (dep d) (dep d)<=60 by omega)];simp
theorem ne_self(h:lay d=true)(h2:dep d<=60):dH d d=.ok (.bl false):=by
 unfold dH;rw[AC (Ar h h2),uG d h];rfl
theorem eq_self(h:lay d=true)(h2:dep d<=60):oEq d d=.ok (.bl true):=by
 unfold oEq eT;rw[Ar h h2,uG d h];rfl
theorem qv{α:Type}{tg:dQ}{el:Ex}{ρ:En}(u:α->D)(v:α->D):∀ {xs:List α},(∀x∈xs,∃Ov,tg (u x) ρ=.ok Ov/\el Ov=.ok (v x))->eR tg [] el ρ (xs.map u)=.ok (xs.map v)
 |[],_=>rfl
 | x::xs,h=>by
  obtain⟨Ov,e1,e2⟩:=h x FB;rw[Pi,eR,e1,R.bo];show(R.ok true).bind _=_;rw[R.bo,AC rfl,e2,R.bo,qv u v (λy hy=>h y (Do _ hy))];rfl
theorem wU{it:dD}{n:Nat}{fv:List Nat}{tg:dQ}{cs:List cC}{el:Ex}{ρ:En}{ds ys:List D}(hi:it ρ=.ok ds)(hl:ds.length<=16777216)(hc:eR tg cs el (List.replicate n .un++frees ρ fv) ds=.ok ys):eU it n fv tg cs el ρ=.ok (.lst ys):=by
 show(it ρ).bind _=_;rw[hi,R.bo,AC hl,hc];rfl
theorem kg(hi:it ρ=.ok ds)(h:forL tg body ds ρ=r):jL it tg body ρ=r:=by
 show(it ρ).bind _=_;rw[hi,R.bo,h]
theorem le_int(i j:Int):oLe (.int i) (.int j)=.ok (.bl (decide (i<=j))):=rfl
end G
end PL
set_option maxRecDepth 4000
set_option maxHeartbeats 400000
namespace PL
namespace C
open PySem G
noncomputable def pe(rec:List D->R D):List D->R D:=fn 2 (az [aO (tV (e1 (cb .dict) (aa 1))) (az [aO (dS (eG (tV (e1 (cb .dict) (aa 0)))) (tV (e2 dH (e1 gE (aa 0)) (e1 gE (aa 1))))) (aM (eC (.bl false))) (aV),aM (e1 jt (eU (mS (aa 1)) 1 [0,1] (aG 0) [] (fF (e2 ck (aa 0) (aa 1)) (aI rec [e2 ag (aa 1) (aa 0),e2 ag (aa 2) (aa 0)]))))]) (aV),aO (tV (e1 j5 (aa 1))) (az [aO (dS (tV (e2 dH (e1 (cb .list) (aa 0)) (e1 (cb .list) (aa 1)))) (tV (e2 dH (e1 (cb .tuple) (aa 0)) (e1 (cb .tuple) (aa 1))))) (aM (eC (.bl false))) (aV),aM (fF (e2 oEq (e1 gE (aa 0)) (e1 gE (aa 1))) (e1 jt (eU (mE (aa 0) (aa 1)) 2 [] (gW [0,1]) [] (aI rec [aa 0,aa 1]))))]) (aV),aM (fF (e2 oEq (aa 0) (aa 1)) (e2 oEq (e1 (cb .bool) (aa 0)) (e1 (cb .bool) (aa 1))))])
mutual
noncomputable def nice:D->Bool
 |.str x=>x.cps.all (· <0x110000)
 |.tup xs=>decide (xs.length<=1000)&&ip xs
 |.lst xs=>decide (xs.length<=1000)&&ip xs
 |.aA ks vs=>decide ks.Nodup&&decide (ks.length=vs.length)&&decide (ks.length<=1000)&&ip vs
 |.cE _ _ _=>false
 |_=>true
noncomputable def ip:List D->Bool
 |[]=>true
 |d::ds=>nice d&&ip ds
end
mutual
noncomputable def d7:D->Nat
 |.tup xs=>eB xs+1
 |.lst xs=>eB xs+1
 |.aA _ vs=>eB vs+1
 |_=>0
noncomputable def eB:List D->Nat
 |[]=>0
 |d::ds=>max (d7 d) (eB ds)
end
theorem kO:∀ {ds:List D},ip ds=true->∀d∈ds,nice d=true
 |[],_,_,h=>nomatch h
 | d::ds,h,x,hx=>by
  unfold ip at h;rw[mO]at h;rcases Da.mp hx with rfl|hx
  ·exact h.1
  ·exact kO h.2 x hx
theorem lg:∀ {ds:List D} {d:D},d∈ds->d7 d<=eB ds
 |[],_,h=>nomatch h
 | x::ds,d,h=>by
  show d7 d<=max (d7 x) (eB ds);rcases Da.mp h with rfl|h
  ·omega
  ·have:=lg h;omega
theorem rN{α:Type}{tg:dQ}{el:Xt}{ρ:En}(u:α->D)(v:α->T):∀ {xs:List α},(∀x∈xs,∃Ov,tg (u x) ρ=.ok Ov/\el Ov=.ok (v x))->hU tg [] el ρ (xs.map u)=.ok (xs.map v)
 |[],_=>rfl
 | x::xs,h=>by
  obtain⟨Ov,e1,e2⟩:=h x FB;rw[Pi,hU,e1,R.bo];show(R.ok true).bind _=_;rw[R.bo,AC rfl,e2,R.bo,rN u v (λy hy=>h y (Do _ hy))];rfl
theorem wI{it:dD}{n:Nat}{fv:List Nat}{tg:dQ}{cs:List cC}{el:Xt}{ρ:En}{ds:List D}{ts:List T}(hi:it ρ=.ok ds)(hl:ds.length<=16777216)(hc:hU tg cs el (List.replicate n .un++frees ρ fv) ds=.ok ts):kF it n fv tg cs el ρ=.ok (.l ts):=by
 unfold kF sv;rw[hi,R.bo,AC hl,hc];rfl
theorem vc{z:Ky}{v:D}:∀ {ks:List Ky} {vs:List D},ks.Nodup->(z,v)∈ks.zip vs->cx z ks vs=some v
 |[],_,_,h=>by simp at h
 |_::_,[],_,h=>by simp at h
 | a::ks,x::vs,hn,h=>by
  rw[aap]at h;unfold cx;have hn:=MG.mp hn;rcases Da.mp h with h|h
  ·cases h;rw[AC rfl]
  ·have hz:a≠z:=λe=>by subst e;exact hn.1 (aam h).1
   rw[DF hz];exact vc hn.2 h
theorem uW(z:Ky):keyOf (cV z)=some z:=by cases z<;>rfl
theorem qk{z:Ky}{v:D}{ks:List Ky}{vs:List D}(h:cx z ks vs=some v):ag (.aA ks vs) (cV z)=.ok v:=by
 show(match keyOf (cV z)with|some q=>(match cx q ks vs with|some v=>R.ok v|none=>.bad)|none=>.bad)=_
 rw[uW];show(match cx z ks vs with|some v=>R.ok v|none=>.bad)=_
 rw[h]
theorem G2(h:cx z ks vs=some v):ck (cV z) (.aA ks vs)=.ok (.bl true):=by
 have:ck (cV z) (.aA ks vs)=(match keyOf (cV z)with|some k=>R.ok (D.bl (cx k ks vs).isSome)|none=>.bad):=by cases z<;>rfl
 rw[this,uW];show R.ok (D.bl (cx z ks vs).isSome)=_;rw[h];rfl
theorem w8{f:Xt}{ρ:En}{t:T}(h:f ρ=.ok t):kD f ρ=.ok (.fw t):=by unfold kD;rw[h];rfl
theorem qe{a:Sm}{r:List Sm}{ρ:En}{t:T}(h:a ρ=.ok (.fw t)):az (a::r) ρ=.ok (.fw t):=by
 show(a ρ).bind _=_;rw[h];rfl
theorem ud{n:Nat}{b:Sm}{ds:List D}{t:T}(h:b (ds.map .sh++List.replicate (n - ds.length) .un)=.ok (.fw t)):iY n b ds=.ok t:=by
 unfold iY;rw[h];rfl
theorem uS{m:List D->R T}{a:Ex}{ρ:En}{x:D}{t:T}(ha:a ρ=.ok x)(h:m [x]=.ok t):cF m [a] ρ=.ok t:=by
 unfold cF;simp only[eList,ha,R.bo];exact h
theorem zZ{f:Xt}{ρ:En}{t:T}(h:f ρ=.ok t):eX f ρ=.ok (T.toD t):=by unfold eX;rw[h];rfl
theorem all_true:∀ {α:Type} (xs:List α),allB (xs.map λ_=>D.bl true)=.ok (.bl true)
 |_,[]=>rfl
 | _,x::xs=>by
  show allB (D.bl true::xs.map λ_=>D.bl true)=_;unfold allB;rw[all_true xs];rfl
theorem uv:∀xs:List D,gK xs xs=xs.map λx=>.tup [x,x]
 |[]=>rfl
 |x::xs=>by show D.tup [x,x]::gK xs xs=_;rw[uv xs];rfl
theorem zv(i:Int):oEq (.int i) (.int i)=.ok (.bl true):=by rw[eq_int,FS rfl]
theorem ME(i:Int):dH (.int i) (.int i)=.ok (.bl false):=ne_self rfl (Xm _)
theorem yH:∀(n:Nat) (d:D),nice d=true->d7 d<n->lX pe n [d,d]=.ok (.bl true)
 |0,_,_,h=>absurd h (acG _)
 | n+1,d,hd,hn=>by
  show pe (lX pe n) [d,d]=_;have ih:=λx hx=>yH n x hx;generalize Sh:lX pe n=rec at ih;unfold pe;refine cf ?_
  have leaf:∀d:D,lay d=true->dep d=0->cb .dict d=.ok (.bl false)->j5 d=.ok (.bl false)->(∃b,cb .bool d=.ok (.bl b))->az [aO (tV (e1 (cb .dict) (aa 1))) (az [aO (dS (eG (tV (e1 (cb .dict) (aa 0)))) (tV (e2 dH (e1 gE (aa 0)) (e1 gE (aa 1))))) (aM (eC (.bl false))) (aV),aM (e1 jt (eU (mS (aa 1)) 1 [0,1] (aG 0) [] (fF (e2 ck (aa 0) (aa 1)) (aI rec [e2 ag (aa 1) (aa 0),e2 ag (aa 2) (aa 0)]))))]) (aV),aO (tV (e1 j5 (aa 1))) (az [aO (dS (tV (e2 dH (e1 (cb .list) (aa 0)) (e1 (cb .list) (aa 1)))) (tV (e2 dH (e1 (cb .tuple) (aa 0)) (e1 (cb .tuple) (aa 1))))) (aM (eC (.bl false))) (aV),aM (fF (e2 oEq (e1 gE (aa 0)) (e1 gE (aa 1))) (e1 jt (eU (mE (aa 0) (aa 1)) 2 [] (gW [0,1]) [] (aI rec [aa 0,aa 1]))))]) (aV),aM (fF (e2 oEq (aa 0) (aa 1)) (e2 oEq (e1 (cb .bool) (aa 0)) (e1 (cb .bool) (aa 1))))] [.sh d,.sh d]=.ok (.ret (.bl true)):=λd h1 h2 h3 h4 h5=>by
   obtain⟨b,hb⟩:=h5;rw[ah (aR (bz (fz rfl h3))),ah (aR (bz (fz rfl h4)))];exact aZ (bE (qo (x:=true) (aH (o:=oEq) rfl rfl (eq_self h1 (by omega))) (aH (o:=oEq) (fz rfl hb) (fz rfl hb) (eq_self rfl (Xm _)))))
  cases d with
  |aE=>exact leaf _ rfl rfl rfl rfl ⟨_,rfl⟩
  |bl b=>exact leaf _ rfl rfl rfl rfl ⟨_,rfl⟩
  |int i=>exact leaf _ rfl rfl rfl rfl ⟨_,rfl⟩
  |str x=>exact leaf _ (by unfold nice at hd;unfold lay;exact hd) rfl rfl rfl ⟨_,rfl⟩
  |cE _ _ _=>cases hd
  | tup xs=>
   unfold nice at hd;rw[mO,JK]at hd;have hm:=kO hd.2;have QQ:∀x∈xs,d7 x<n:=λx hx=>by have:=lg hx;have:eB xs+1<n+1:=hn;omega
   show az _ [.sh (.tup xs),.sh (.tup xs)]=_;rw[ah (aR rfl)];refine aZ ?_;rw[bB rfl,ah (aR rfl)];refine aZ (bE (qo (x:=true) (aH (x:=.int xs.length) (y:=.int xs.length) rfl rfl (zv _)) ?_));refine fz (x:=.lst (xs.map λ_=>.bl true)) (wU (ds:=xs.map λx=>.tup [x,x]) (by show R.ok (gK xs xs)=_;rw[uv]) (by rw[GE];omega) ?_) (all_true xs)
   exact qv (u:=λx:D=>.tup [x,x]) (v:=λ_=>.bl true) λx hx=>⟨[.sh x,.sh x],rfl,dY rfl rfl (ih x (hm x hx) (QQ x hx))⟩
  | lst xs=>
   unfold nice at hd;rw[mO,JK]at hd;have hm:=kO hd.2;have QQ:∀x∈xs,d7 x<n:=λx hx=>by have:=lg hx;have:eB xs+1<n+1:=hn;omega
   show az _ [.sh (.lst xs),.sh (.lst xs)]=_;rw[ah (aR rfl)];refine aZ ?_;rw[bB rfl,ah (aR rfl)];refine aZ (bE (qo (x:=true) (aH (x:=.int xs.length) (y:=.int xs.length) rfl rfl (zv _)) ?_));refine fz (x:=.lst (xs.map λ_=>.bl true)) (wU (ds:=xs.map λx=>.tup [x,x]) (by show R.ok (gK xs xs)=_;rw[uv]) (by rw[GE];omega) ?_) (all_true xs)
   exact qv (u:=λx:D=>.tup [x,x]) (v:=λ_=>.bl true) λx hx=>⟨[.sh x,.sh x],rfl,dY rfl rfl (ih x (hm x hx) (QQ x hx))⟩
  | aA ks vs=>
   unfold nice at hd;rw[mO,mO,mO,JK,JK,JK]at hd;obtain⟨⟨⟨PJ,hl⟩,RH⟩,PF⟩:=hd;have hm:=kO PF;have QQ:∀x∈vs,d7 x<n:=λx hx=>by have:=lg hx;have:eB vs+1<n+1:=hn;omega
   show az _ [.sh (.aA ks vs),.sh (.aA ks vs)]=_;refine aZ ?_;rw[bB rfl,ah (aR (qX (b:=false) (c:=false) rfl (bz (aH (x:=.int ks.length) (y:=.int ks.length) rfl rfl (ME _)))))];refine aZ (bE (fz (x:=.lst ((ks.zip vs).map λ_=>.bl true)) (wU (ds:=(ks.zip vs).map λp=>cV p.1) ?_ (by rw[GE,SB];omega) ?_) (all_true _)))
   ·show R.ok (ks.map cV)=_
    rw[show((ks.zip vs).map λp=>cV p.1)=((ks.zip vs).map (·.1)).map cV by rw[S5];rfl,Z4 (by omega)]
   ·refine qv (u:=λp:Ky×D=>cV p.1) (v:=λ_=>.bl true) λp hp=>⟨[.sh (cV p.1),.sh (.aA ks vs),.sh (.aA ks vs)],rfl,?_⟩
    have hf:=vc PJ (show(p.1,p.2)∈ks.zip vs from hp)
    have hv:p.2∈vs:=(aam (show(p.1,p.2)∈ks.zip vs from hp)).2
    exact qo (x:=true) (aH rfl rfl (G2 hf)) (dY (aH rfl rfl (qk hf)) (aH rfl rfl (qk hf)) (ih p.2 (hm _ hv) (QQ _ hv)))
end C
end PL
set_option maxRecDepth 100000
namespace PL
namespace ft
open PySem G C
theorem B6{a b:Ex}{ρ:En}{i u:Int}(ha:a ρ=.ok (.int i))(hb:b ρ=.ok (.int u)):e2 jm a b ρ=.ok (.bl (decide (u<=i))):=aH ha hb rfl
theorem uC(ha:a ρ=.ok (.int i))(hb:b ρ=.ok (.int u)):e2 oLt a b ρ=.ok (.bl (decide (i<u))):=aH ha hb rfl
theorem gq{a b:Ex}{ρ:En}{i u:Int}(ha:a ρ=.ok (.int i))(hb:b ρ=.ok (.int u)):e2 oEq a b ρ=.ok (.bl (decide (i=u))):=aH ha hb (G.eq_int i u)
theorem dB(ha:a ρ=.ok (.int i))(hb:b ρ=.ok (.int u))(h:small i=true\/small u=true):e2 bZ a b ρ=.ok (.int (i*u)):=aH ha hb (AC (by rcases h with h|h<;>simp[h]))
theorem cM(ha:a ρ=.ok (.int i))(hb:b ρ=.ok (.int u))(h:pC u=true):e2 oDiv a b ρ=.ok (.int (i / u)):=aH ha hb (AC h)
theorem wH(ρ:En):(e2 b7 (eC (.int 10)) (eC (.int 18))) ρ=.ok (.int 1000000000000000000):=rfl
theorem B1(ρ:En):(e2 b7 (eC (.int 10)) (eC (.int 24))) ρ=.ok (.int 1000000000000000000000000):=rfl
theorem HY(c:Int)(h0:0<=k)(h1:k<100000):∃z:Int,0<=z/\iR [.int c,.int k]=.ok (.int z):=by
 rw[iR];by_cases hc:1000000000000000000<=c
 ·obtain⟨ρ',eL,M,s3,rfl⟩:=sD (tg:=aG 3) (body:=lJ) (λρ=>∃M s3,ρ=[.sh (.int c),.sh (.int k),.sh (.int M),s3]) (ds:=dG 0 (k % 16)) (by
   rintro d hd ρ ⟨M,s3,rfl⟩;refine⟨_,rfl,[.sh (.int c),.sh (.int k),.sh (.int (M / 1000000000000000000000000)),.sh d],?_,_,_,rfl⟩;show lJ [.sh (.int c),.sh (.int k),.sh (.int M),.sh d]=_;rw[lJ,bh (cM rfl (B1 _) (by decide))]
   rfl) (ρ:=[.sh (.int c),.sh (.int k),.sh (.int (c - 1000000000000000000)),.un]) ⟨_,_,rfl⟩
  refine⟨M % 1000000000000000000000000,aao _ (by decide),cf (aZ ?_)⟩
  show aO _ _ _ [.sh (.int c),.sh (.int k),.un,.un]=_;rw[bB (bz (b:=true) (by rw[B6 rfl (wH _),FS hc]))]
  rw[ah (bh (xr rfl (wH _)))];show az _ [.sh (.int c),.sh (.int k),.sh (.int (c - 1000000000000000000)),.un]=_;rw[ah (kg (vE (bT rfl rfl (by decide)) (CN (by omega) (by omega))) eL)]
  exact aZ (bE (bT rfl (B1 _) (by decide)))
 ·generalize hm:(c+7919*k*k+1)*48271 % 2147483647=M
  have hM:0<=M/\M<2147483647:=by rw[<-hm];exact⟨aao _ (by decide),aaK _ (by decide)⟩
  refine⟨M*M % 2147483629,aao _ (by decide),cf ?_⟩
  show az _ [.sh (.int c),.sh (.int k),.un,.un]=_;rw[ah (aR (bz (by rw[B6 rfl (wH _),KB hc])))]
  rw[ah (bh (d:=.int M) (by
   rw[<-hm];exact bT (dB (cD (cD rfl (dB (dB rfl rfl (.inl (by decide))) rfl (.inr (rH h0 (by omega))))) rfl) rfl (.inr (by decide))) rfl (by decide)))]
  show az _ [.sh (.int c),.sh (.int k),.sh (.int M),.un]=_;exact aZ (bE (bT (dB rfl rfl (.inl (rH hM.1 (by omega)))) rfl (by decide)))
mutual
noncomputable def ba:D->T
 |.lst xs=>.l (fu xs)
 |.aA ks vs=>.m ks (fu vs)
 |.tup xs=>.tu (fu xs)
 |x=>.d x
noncomputable def fu:List D->List T
 |[]=>[]
 |d::ds=>ba d::fu ds
end
theorem lR:∀ds:List D,fu ds=ds.map ba
 |[]=>rfl
 |d::ds=>by show ba d::fu ds=_;rw[lR ds];rfl
mutual
theorem gb:∀d:D,T.toD (ba d)=d
 |.lst xs=>by show D.lst (T.fH (fu xs))=_;rw[qm xs]
 |.aA ks vs=>by show D.aA ks (T.fH (fu vs))=_;rw[qm vs]
 |.tup xs=>by show D.tup (T.fH (fu xs))=_;rw[qm xs]
 |.aE=>rfl
 |.bl _=>rfl
 |.int _=>rfl
 |.str _=>rfl
 |.cE _ _ _=>rfl
theorem qm:∀ds:List D,T.fH (fu ds)=ds
 |[]=>rfl
 |d::ds=>by show T.toD (ba d)::T.fH (fu ds)=_;rw[gb d,qm ds]
end
theorem Aq:∀(ps:List (Ky×D)),jS (ps.map λp=>.tu [.d (cV p.1),ba p.2])=some (ps.map (·.1),ps.map λp=>ba p.2)
 |[]=>rfl
 | p::ps=>by
  show(match keyOf (cV p.1),jS (ps.map λp=>.tu [.d (cV p.1),ba p.2])with|some z,some y=>some (z::y.1,ba p.2::y.2)|_,_=>none)=_
  rw[uW,Aq ps];rfl
theorem By:∀(n:Nat) (d:D),nice d=true->d7 d<n->md jM n [d]=.ok (ba d)
 |0,_,_,h=>absurd h (acG _)
 | n+1,d,hd,hn=>by
  show jM (md jM n) [d]=_;have ih:=λx hx=>By n x hx;generalize Sh:md jM n=rec at ih;unfold jM;refine ud ?_;cases d with
  |aE=>rfl
  |bl b=>rfl
  |int i=>rfl
  |str x=>rfl
  |cE _ _ _=>cases hd
  | tup xs=>
   unfold nice at hd;rw[mO,JK]at hd;have hm:=kO hd.2;have QQ:∀x∈xs,d7 x<n:=λx hx=>by have:=lg hx;have:eB xs+1<n+1:=hn;omega
   show az _ [.sh (.tup xs)]=_;rw[ah (aR rfl),ah (aR rfl)];refine qe ?_;rw[bB rfl];refine w8 (t:=.tu (fu xs)) ?_;unfold wC;have:=rN (tg:=aG 0) (el:=cF rec [aa 0]) (ρ:=List.replicate 1 .un++frees [.sh (.tup xs)] []) (u:=λx:D=>x) (v:=ba) (xs:=xs) λx hx=>⟨[.sh x],rfl,uS rfl (ih x (hm x hx) (QQ x hx))⟩;rw[wI (ds:=xs) (ts:=fu xs) rfl (by omega) (by rw[lR];simpa using this),R.bo]
  | lst xs=>
   unfold nice at hd;rw[mO,JK]at hd;have hm:=kO hd.2;have QQ:∀x∈xs,d7 x<n:=λx hx=>by have:=lg hx;have:eB xs+1<n+1:=hn;omega
   show az _ [.sh (.lst xs)]=_;rw[ah (aR rfl)];refine qe ?_;rw[bB rfl];refine w8 (wI (ds:=xs) rfl (by omega) ?_)
   have:=rN (tg:=aG 0) (el:=cF rec [aa 0]) (ρ:=List.replicate 1 .un++frees [.sh (.lst xs)] []) (u:=λx:D=>x) (v:=ba) (xs:=xs) λx hx=>⟨[.sh x],rfl,uS rfl (ih x (hm x hx) (QQ x hx))⟩;rw[lR];simpa using this
  | aA ks vs=>
   unfold nice at hd;rw[mO,mO,mO,JK,JK,JK]at hd;obtain⟨⟨⟨PJ,hl⟩,RH⟩,PF⟩:=hd;have hm:=kO PF;have QQ:∀x∈vs,d7 x<n:=λx hx=>by have:=lg hx;have:eB vs+1<n+1:=hn;omega
   show az _ [.sh (.aA ks vs)]=_;refine qe ?_;rw[bB rfl];refine w8 ?_
   have P9:kF (mS (aa 0)) 1 [0] (aG 0) [] (xT [xD (aa 0),cF rec [e2 ag (aa 1) (aa 0)]]) [.sh (.aA ks vs)]=.ok (.l ((ks.zip vs).map λp=>.tu [.d (cV p.1),ba p.2])):=by
    refine wI (ds:=(ks.zip vs).map λp=>cV p.1) ?_ (by rw[GE,SB];omega) ?_
    ·show R.ok (ks.map cV)=_
     rw[show((ks.zip vs).map λp=>cV p.1)=((ks.zip vs).map (·.1)).map cV by rw[S5];rfl,Z4 (by omega)]
    ·refine rN (u:=λp:Ky×D=>cV p.1) (v:=λp=>.tu [.d (cV p.1),ba p.2]) λp hp=>⟨[.sh (cV p.1),.sh (.aA ks vs)],rfl,?_⟩
     have hv:p.2∈vs:=(aam (show(p.1,p.2)∈ks.zip vs from hp)).2
     have hc:cF rec [e2 ag (aa 1) (aa 0)] [.sh (cV p.1),.sh (.aA ks vs)]=.ok (ba p.2):=uS (aH rfl rfl (qk (vc PJ hp))) (ih p.2 (hm _ hv) (QQ _ hv));unfold xT;simp only[gS,hc,R.bo];rfl
   unfold yg;rw[P9,R.bo];show(match jS ((ks.zip vs).map λp=>.tu [.d (cV p.1),ba p.2])with|some y=>if y.1.Nodup/\y.1.length<=1000 then R.ok (T.m y.1 y.2)else .bad|none=>.bad)=_
   rw[Aq];show(if((ks.zip vs).map (·.1)).Nodup/\((ks.zip vs).map (·.1)).length<=1000 then R.ok (T.m ((ks.zip vs).map (·.1)) ((ks.zip vs).map λp=>ba p.2))else .bad)=_
   rw[Z4 (by omega),AC ⟨PJ,RH⟩,show((ks.zip vs).map λp=>ba p.2)=((ks.zip vs).map (·.2)).map ba by rw[S5];rfl,aaA (by omega)]
   show _=R.ok (T.m ks (fu vs));rw[lR]
def NC(d:D):Prop:=nice d=true/\d7 d<9
theorem xi(h:NC d):g7 [d]=.ok (ba d):=By 9 d h.1 h.2
theorem same_self(h:NC d):oz [d,d]=.ok (.bl true):=yH 9 d h.1 h.2
end ft
namespace ft
open PySem G C
noncomputable abbrev AL(α:Type):=List (Int×α)
section
variable{α β:Type}{L:AL α}{k j:Int}{a b:α}
noncomputable def ak(L:AL α):List Ky:=L.map λp=>.inl p.1
noncomputable def av(f:α->β)(L:AL α):List β:=L.map λp=>f p.2
noncomputable def look(k:Int):AL α->Option α
 |[]=>none
 |p::L=>if p.1=k then some p.2 else look k L
def Nk(L:AL α):Prop:=(L.map (·.1)).Nodup
noncomputable def aF(k:Int)(a:α)(L:AL α):AL α:=if(look k L).isSome=true then L.map (λp=>if p.1=k then(p.1,a)else p)else L++[(k,a)]
theorem jR:((Sum.inl i:Ky)=.inl j)↔i=j:=⟨λe=>by injection e,λe=>by rw[e]⟩
theorem j4:(ak L).length=L.length:=GE _
theorem De:(av f L).length=L.length:=GE _
theorem nX:∀ {L:AL α},cx (.inl k) (ak L) (av f L)=(look k L).map f
 |[]=>rfl
 | p::L=>by
  show(if(Sum.inl p.1:Ky)=.inl k then some (f p.2)else cx (.inl k) (ak L) (av f L))=(if p.1=k then some p.2 else look k L).map f
  by_cases e:p.1=k
  ·rw[AC (jR.mpr e),AC e];rfl
  ·rw[DF (λz=>e (jR.mp z)),DF e,nX]
theorem v7:∀ {L:AL α},((ak L).any λa=>decide (a=.inl k))=(look k L).isSome
 |[]=>rfl
 | p::L=>by
  show(decide ((Sum.inl p.1:Ky)=.inl k)||(ak L).any λa=>decide (a=.inl k))=(if p.1=k then some p.2 else look k L).isSome
  rw[v7,show decide ((Sum.inl p.1:Ky)=.inl k)=decide (p.1=k)from decide_eq_decide.mpr jR]
  by_cases e:p.1=k
  ·rw[AC e,FS e];rfl
  ·rw[DF e,KB e];rfl
theorem Cu:∀ {L:AL α},look k L=some a->∃m,gO (.inl k) (ak L)=some m/\L[m]? =some (k,a)
 |[],h=>nomatch h
 | p::L,h=>by
  have h:(if p.1=k then some p.2 else look k L)=some a:=h
  show ∃m,(if(Sum.inl p.1:Ky)=.inl k then some 0 else(gO (.inl k) (ak L)).map (· +1))=_/\_
  by_cases e:p.1=k
  ·rw[AC e]at h
   cases h;exact⟨0,AC (jR.mpr e),by rw[<-e];rfl⟩
  ·rw[DF e]at h
   obtain⟨m,h1,h2⟩:=Cu h;exact⟨m+1,by rw[DF (λz=>e (jR.mp z)),h1];rfl,h2⟩
theorem rM:∀ {L:AL α},look k L=some a->(k,a)∈L
 |[],h=>nomatch h
 | p::L,h=>by
  have h:(if p.1=k then some p.2 else look k L)=some a:=h
  by_cases e:p.1=k
  ·rw[AC e]at h
   cases h;rw[<-e];exact FB
  ·rw[DF e]at h
   exact Do _ (rM h)
theorem lK:∀ {L:AL α},Nk L->(k,a)∈L->look k L=some a
 |[],_,h=>nomatch h
 | p::L,nd,h=>by
  have Qx:=MG.mp nd;show(if p.1=k then some p.2 else look k L)=some a
  rcases Da.mp h with rfl|h
  ·rw[AC rfl]
  ·rw[DF (λe=>Qx.1 (by show p.1∈_;rw[e];exact S4.mpr ⟨_,h,rfl⟩)),lK Qx.2 h]
theorem vf:∀ {L:AL α},look k L=none↔∀p∈L,p.1≠k
 |[]=>⟨λ_ _ h=>(nomatch h),λ_=>rfl⟩
 | p::L=>by
  show(if p.1=k then some p.2 else look k L)=none↔_
  by_cases e:p.1=k
  ·rw[AC e];exact⟨λh=>(nomatch h),λh=>absurd e (h p FB)⟩
  ·rw[DF e,vf]
   exact⟨λh q hq=>(Da.mp hq).elim (λz=>z▸e) (h q),λh q hq=>h q (Do _ hq)⟩
theorem iy(h:look k L=some b):aF k a L=L.map λp=>if p.1=k then(p.1,a)else p:=by unfold aF;rw[h];rfl
theorem lD(h:look k L=none):aF k a L=L++[(k,a)]:=by unfold aF;rw[h];rfl
theorem wZ:(if p.1=k then(p.1,a)else p).1=p.1:=by split<;>rfl
theorem A4(h:look k L=some b):(aF k a L).map (·.1)=L.map (·.1):=by
 rw[iy h,S5];exact ZS λp _=>wZ
theorem vm:∀ {L:AL α},ak L=(L.map (·.1)).map .inl:=by intro L;unfold ak;rw[S5];rfl
theorem qj(h:look k L=some b):ak (aF k a L)=ak L:=by rw[vm,A4 h,vm]
theorem wX:∀ {L:AL α},List.zipWith (λ(x:Ky) v=>if x=.inl k then f a else v) (ak L) (av f L)=av f (L.map λp=>if p.1=k then(p.1,a)else p)
 |[]=>rfl
 | p::L=>by
  show(if(Sum.inl p.1:Ky)=.inl k then f a else f p.2)::List.zipWith (λ(x:Ky) v=>if x=.inl k then f a else v) (ak L) (av f L)=f (if p.1=k then(p.1,a)else p).2::av f (L.map λp=>if p.1=k then(p.1,a)else p)
  rw[wX];by_cases e:p.1=k
  ·rw[AC (jR.mpr e),AC e]
  ·rw[DF (λz=>e (jR.mp z)),DF e]
theorem zX:av f (L++M)=av f L++av f M:=ZQ ..
theorem Bi:ak (L++M)=ak L++ak M:=ZQ ..
theorem uX(hd:d=f a):putL (.inl k) d (ak L) (av f L)=(ak (aF k a L),av f (aF k a L)):=by
 subst hd;unfold putL;rw[v7];cases h:look k L with
 |some b=>rw[show(some b).isSome=true from rfl,AC rfl,wX,qj h,iy h]
 |none=>rw[DF (by simp),lD h,Bi,zX];rfl
theorem GA(hd:d=f a):d5 (.inl k) d (ak L) (av f L)=(ak (aF k a L),av f (aF k a L)):=by
 subst hd;unfold d5;rw[v7];cases h:look k L with
 |some b=>rw[show(some b).isSome=true from rfl,AC rfl,wX,qj h,iy h]
 |none=>rw[DF (by simp),lD h,Bi,zX];rfl
theorem xG:∀ {L:AL α} {m:Nat},Nk L->L[m]? =some (k,b)->L.set m (k,a)=aF k a L:=by
 intro L m nd h;rw[iy (lK nd (SL h))]
 induction L generalizing m with
 |nil=>rfl
 | cons y L ih=>
  have Qx:=MG.mp nd;rw[Pi];cases m with
  | zero=>
   have h:y=(k,b):=Rf h;subst h;rw[AC rfl,aaq];congr 1;refine(abY L).symm.trans (ZS λz hz=>?_);show z=_;rw[DF (λe'=>Qx.1 (by show k∈_;rw[<-e'];exact S4.mpr ⟨_,hz,rfl⟩))]
  | succ m=>
   have hq:=SL (show L[m]? =some (k,b)from h)
   rw[DF (λe'=>Qx.1 (by show y.1∈_;rw[e'];exact S4.mpr ⟨_,hq,rfl⟩)),aaJ,ih Qx.2 h]
theorem yM:∀ {L:AL α},look j (L.map λp=>if p.1=k then(p.1,a)else p)=if j=k then(look k L).map λ_=>a else look j L
 |[]=>by split<;>rfl
 | p::L=>by
  show(if(if p.1=k then(p.1,a)else p).1=j then some (if p.1=k then(p.1,a)else p).2 else look j (L.map λp=>if p.1=k then(p.1,a)else p))=if j=k then(if p.1=k then some p.2 else look k L).map λ_=>a else(if p.1=j then some p.2 else look j L)
  rw[wZ,yM];by_cases e:p.1=k
  ·by_cases e2:j=k
   ·simp[e,e2]
   ·have e3:¬k=j:=λz=>e2 z.symm
    simp[e,e2,e3]
  ·by_cases e2:j=k
   ·simp[e,e2]
   ·simp[e,e2]
theorem AX:∀ {L:AL α},look j (L++M)=(look j L).or (look j M)
 |[]=>rfl
 | p::L=>by
  show(if p.1=j then some p.2 else look j (L++M))=((if p.1=j then some p.2 else look j L).or (look j M))
  by_cases e:p.1=j
  ·rw[AC e,AC e];rfl
  ·rw[DF e,DF e,AX]
theorem lp:look j (aF k a L)=if j=k then some a else look j L:=by
 cases h:look k L with
 | some b=>
  rw[iy h,yM,h];rfl
 | none=>
  rw[lD h,AX];show(look j L).or (if k=j then some a else none)=_
  by_cases e:j=k
  ·subst e;rw[h,AC rfl];simp
  ·rw[DF e,DF (λz=>e z.symm)];cases look j L<;>rfl
theorem Nk.aF(h:Nk L):Nk (aF k a L):=by
 cases e:look k L with
 |some b=>unfold Nk;rw[A4 e];exact h
 | none=>
  unfold Nk;rw[lD e,ZQ,SZ];refine⟨h,by simp,λx hx y hy z=>?_⟩
  obtain⟨p,hp,rfl⟩:=S4.mp hx;simp only[Pi,ZO,PP]at hy;exact vf.mp e p hp (z.trans hy)
theorem pY(h:look k L=some b):(aF k a L).length=L.length:=by rw[iy h,GE]
theorem lO:(aF k a L).length<=L.length+1:=by
 cases h:look k L with
 |some b=>rw[pY h];omega
 |none=>rw[lD h,KM];exact Gc _
theorem Ay{c:α}:aF k c (aF k a L)=aF k c L:=by
 cases h:look k L with
 | some b=>
  rw[iy (b:=a) (by rw[lp,AC rfl]),iy h,iy h,S5]
  refine ZS λp _=>?_;show(if(if p.1=k then(p.1,a)else p).1=k then((if p.1=k then(p.1,a)else p).1,c)else(if p.1=k then(p.1,a)else p))=_
  rw[wZ];by_cases e:p.1=k
  ·rw[AC e,AC e]
  ·rw[DF e,DF e,DF e]
 | none=>
  rw[iy (b:=a) (by rw[lp,AC rfl]),lD h,lD h,ZQ]
  congr 1
  ·refine(ZS λp hp=>?_).trans (abY L)
   show(if p.1=k then _ else _)=p
   rw[DF (vf.mp h p hp)]
  ·show [if k=k then(k,c)else(k,a)]=_
   rw[AC rfl]
theorem Jq(nd:Nk L)(h:look k L=some a):aF k a L=L:=by
 rw[iy h];refine(ZS λp hp=>?_).trans (abY L);show(if p.1=k then(p.1,a)else p)=p
 by_cases e:p.1=k
 ·rw[AC e]
  have:=lK nd (show(p.1,p.2)∈L from hp)
  rw[e,h]at this;cases this;rfl
 ·rw[DF e]
theorem xl(nd:Nk L)(h:p∈aF k a L):p=(k,a)\/(p∈L/\p.1≠k):=by
 have e:=lK (Nk.aF nd) (show(p.1,p.2)∈aF k a L from h)
 rw[lp]at e;by_cases c:p.1=k
 ·rw[AC c]at e;cases e;rw[<-c];exact .inl rfl
 ·rw[DF c]at e;exact .inr ⟨rM e,c⟩
end
noncomputable abbrev Sx(x:String):Str:=Str.ofString x
noncomputable def bV:List (Str×Str):=[(Sx "put",Sx "an"),(Sx "high",Sx "an"),(Sx "copy",Sx "ab"),(Sx "add",Sx "abc"),(Sx "less",Sx "abc"),(Sx "times",Sx "abc"),(Sx "cut",Sx "abc"),(Sx "rest",Sx "abc"),(Sx "under",Sx "abc"),(Sx "same",Sx "abc"),
 (Sx "load",Sx "abn"),(Sx "store",Sx "abn"),(Sx "jump",Sx "n"),(Sx "if",Sx "an"),(Sx "call",Sx "")]
noncomputable def most(c:Nat):Int:=if c=110 then 65536 else 8
theorem Ca(c:Nat):0<most c/\most c<=65536:=by unfold most;split<;>decide
theorem MF(c d:Nat):decide ((⟨#[c]⟩:Str)=⟨#[d]⟩)=decide (c=d):=by
 by_cases h:c=d
 ·subst h;simp
 ·have:¬(⟨#[c]⟩:Str)=⟨#[d]⟩:=by intro e;injection e with e;simp at e;exact h e
  rw[KB this,KB h]
theorem Io:Str.ofString "n"=⟨#[110]⟩:=by rfl
def Good:List Nat->Xj->Prop
 |[],[]=>True
 |c::cs,p::ps=>(0<=p/\p<most c)/\Good cs ps
 |_,_=>False
theorem Good.length:∀ {cs:List Nat} {ps:Xj},Good cs ps->ps.length=cs.length
 |[],[],_=>rfl
 |_::_,_::_,h=>by simp[Good.length h.2]
 |[],_::_,h=>h.elim
 |_::_,[],h=>h.elim
theorem EO(h:(n,f)∈bV):f.length<=3/\n.length<=5:=by
 have:∀p∈bV,p.2.length<=3/\p.1.length<=5:=by decide
 exact this _ h
noncomputable def kN(c:Nat):D->Bool
 |.int i=>decide (0<=i)&&decide (i<most c)
 |_=>false
noncomputable def gL:List Nat->List D->Bool
 |[],[]=>true
 |c::cs,p::ps=>kN c p&&gL cs ps
 |_,_=>false
noncomputable def f6(n:Str):List (Str×Str)->Option Str
 |[]=>none
 |p::r=>if p.1=n then some p.2 else f6 n r
noncomputable def wL:D->Bool
 | .tup (.str n::ps)=>match f6 n bV with
  |some f=>gL f.cps.toList ps
  |none=>false
 |_=>false
noncomputable def nx:D->Bool
 |.cE _ _ _=>false
 |_=>true
noncomputable def nr:D->Bool
 |.cE _ _ _=>false
 |.tup xs=>xs.all nx
 |_=>true
theorem v8(d:D)(hd:nx d=true:=by rfl):mK [d]=.ok (.bl (match d with|.int _=>true|_=>false)):=by
 cases d<;>first|rfl|cases hd
theorem Hk(c:Nat):nO [.str ⟨#[c]⟩]=.ok (.int (most c)):=by
 have s2:small 2=true:=by decide
 have Xi:rm 16=true:=by decide
 unfold most;by_cases h:c=110<;>simp[nO,S,Io,-Str.mk.injEq,MF,h,s2,Xi]
theorem Ei(c:Nat)(p:D)(hd:nx p=true):kf [.str ⟨#[c]⟩,p]=.ok (.bl (kN c p)):=by
 cases p with
 | int i=>
  simp[kf,v8 _ hd,Hk,kN];by_cases h:0<=i<;>simp[h]
 |cE _ _ _=>cases hd
 |_=>simp[kf,v8 _ hd,kN]
theorem B5:∀(cs:List Nat) (ps:List D),cs.length=ps.length->ps.all nx=true->
  ∃bs:List D,eR (gW [0,1]) [] (aI kf [aa 0,aa 1]) [.un,.un] (gK (cs.map λc=>.str ⟨#[c]⟩) ps)=.ok bs/\allB bs=.ok (.bl (gL cs ps))
 |[],[],_,_=>⟨[],rfl,rfl⟩
 | c::cs,p::ps,h,hp=>by
  have Rz:nx p=true/\ps.all nx=true:=by simpa using hp
  obtain⟨bs,e1,e2⟩:=B5 cs ps (by simpa using h) Rz.2
  refine⟨.bl (kN c p)::bs,?_,?_⟩
  ·simp[eR,eR.ku,Ei c p Rz.1,e1]
  ·simp only[allB,gL]
   cases kN c p<;>simp[e2]
 |[],_::_,h,_=>by simp at h
 |_::_,[],h,_=>by simp at h
theorem y7:∀ {cs:List Nat} {ps:List D},cs.length≠ps.length->gL cs ps=false
 |[],[],h=>absurd rfl h
 |c::cs,p::ps,h=>by simp only[gL];rw[y7 (by simpa using h),acO]
 |[],_::_,_=>rfl
 |_::_,[],_=>rfl
theorem zh(n:Str):∀l:List (Str×Str),cx (.inr n) (l.map λp=>.inr p.1) (l.map λp=>.str p.2)=(f6 n l).map .str
 |[]=>rfl
 | p::r=>by
  simp only[Pi,cx,f6];by_cases h:p.1=n
  ·simp[h]
  ·have:¬(Sum.inr p.1:Ky)=Sum.inr n:=λe=>h (Sum.inr.inj e)
   rw[DF this,DF h,zh n r]
theorem Kl:rP=.aA (bV.map λp=>.inr p.1) (bV.map λp=>.str p.2):=by rfl
theorem yv(n:Str):eE [.str n]=.ok (match f6 n bV with|some f=>.str f|none=>.aE):=by
 have h:=zh n bV;rw[eE,Kl];simp only[fn,aM,e2,eC,aa,R.bo,Pi,ZO,aaz,abM,jZ,keyOf,h];cases f6 n bV<;>rfl
theorem KJ(h:f6 n bV=some f):f.length<=3:=by
 have key:∀l:List (Str×Str),(∀p∈l,p.2.length<=3)->f6 n l=some f->f.length<=3:=by
  intro l
  induction l with
  |nil=>intro _ h;cases h
  | cons p r ih=>
   intro hl h;simp only[f6]at h;split at h
   ·cases h;exact hl p (FB ..)
   ·exact ih (λq hq=>hl q (Do _ hq)) h
 exact key bV (by decide) h
theorem qO{α:Type}(x:α)(xs:List α):cT (x::xs) 0=some x:=kC (xs:=x::xs) (j:=0) (by simp)
theorem Ft(xs:List D)(x:D):cut (x::xs) (some 1) none=xs:=by
 have h1:bp (xs.length+1) 0 (some 1)=1:=by rw[l8 (by decide)];simp
 unfold cut;simp[h1,bp]
theorem Dl(xs:List D)(x:D):¬(bp (x::xs).length 0 (some 1)=0/\bp (x::xs).length (x::xs).length none=(x::xs).length):=by
 have h1:bp (xs.length+1) 0 (some 1)=1:=by rw[l8 (by decide)];simp
 rw[Z1,h1];rintro⟨h,_⟩;cases h
theorem GX (d:D) (hd:nr d=true):kQ [d]=.ok (.bl (wL d)):=by
 cases d with
 | tup xs=>
  cases xs with
  |nil=>rfl
  | cons x ps=>
   have hl:((ps.length:Int)+1==0)=false:=by rw[ZY];omega
   have a0:=qO x ps;have hx:nx x=true/\ps.all nx=true:=by have:List.all (x::ps) nx=true:=hd;simpa using this
   have c1:(dS (eG (tV (e1 (cb .tuple) (aa 0)))) (dS (tV (e2 oEq (e1 eQ (aa 0)) (eC (.int 0)))) (eG (tV (e1 (cb .str) (e2 ag (aa 0) (eC (.int 0)))))))) [.sh (.tup (x::ps)),.un]=.ok (match x with|.str _=>false|_=>true):=by
    cases x<;>first|(have:=hx.1;cases this;done)|simp[qO,hl]
   cases x with
   | str n=>
    have c2:(aS (aG 1) (aI eE [e2 ag (aa 0) (eC (.int 0))])) [.sh (.tup (.str n::ps)),.un]=.ok (.next [.sh (.tup (.str n::ps)),.sh (match f6 n bV with|some f=>.str f|none=>.aE)]):=by
     simp[a0,yv]
    rw[kQ];refine cf ?_;show az _ [.sh (.tup (.str n::ps)),.un]=_;rw[ah (ρ':=[.sh (.tup (.str n::ps)),.un]) (aR c1),ah c2];simp only[wL];cases hs:f6 n bV with
    |none=>rw[aZ];simp
    | some f=>
     have hf:=KJ hs;have Rk:f.length<=d4:=by show _<=16777216;omega
     by_cases hlen:ps.length=f.length
     ·obtain⟨bs,e1,e2⟩:=B5 f.cps.toList ps (by rw[hlen];unfold Str.length;simp) hx.2
      rw[ah (ρ':=[.sh (.tup (.str n::ps)),.sh (.str f)]),aZ (d:=.bl (gL f.cps.toList ps))]
      ·have ht:=Dl ps (.str n)
       simp only[aM,PL.e1,eU,mE,aa,List.getElem?_cons_succ,abM,R.bo,jP,sg,eC,uT];rw[DF ht,Ft];simp only[R.bo,items,frees,ZO,ZU,List.replicate];have hz:(gK (f.cps.toList.map λc=>D.str ⟨#[c]⟩) ps).length<=d4:=by rw[wJ,hlen];exact Re (acq _ _) Rk
       rw[AC hz,e1];simp[e2]
      ·rw[aR]
       have:((ps.length:Int)+1==1+(f.length:Int))=true:=by rw[hlen];simp;omega
       simp[Rk,this]
     ·rw[aZ (d:=.bl false)]
      ·show _=R.ok (Fl.ret (D.bl (gL f.cps.toList ps)))
       rw[y7];intro e;apply hlen;rw[<-e];unfold Str.length;simp
      ·have:((ps.length:Int)+1==1+(f.length:Int))=false:=by rw[ZY];omega
       rw[bB]
       ·rfl
       ·simp[Rk,this]
   |cE _ _ _=>have:=hx.1;cases this
   | _=>
    rw[kQ];refine cf ?_;show az _ [.sh (.tup (_::ps)),.un]=_;exact aZ (by rw[bB c1];rfl)
 |cE _ _ _=>cases hd
 |_=>rfl
noncomputable def kK(c:Nat):Int:=if c=97 then 4194304 else if c=98 then 524288 else if c=99 then 65536 else 1
def o4(c:Nat):Prop:=c=97\/c=98\/c=99\/c=110
noncomputable def val:List Nat->Xj->Int
 |c::cs,p::ps=>p*kK c+val cs ps
 |_,_=>0
theorem KD(h:(n,f)∈bV):∀c∈f.cps.toList,o4 c:=by
 have:∀p∈bV,∀c∈p.2.cps.toList,c=97\/c=98\/c=99\/c=110:=by decide+kernel
 exact this _ h
theorem names_nodup:(bV.map (·.1)).Nodup:=by decide+kernel
noncomputable def pt(w:Int)(c:Nat):Int:=w / kK c % most c
noncomputable def dU(c:Nat):D:=.str ⟨#[c]⟩
noncomputable def dI(j:Nat)(cs:List Nat)(w:Int):Int:=j*33554432+val cs (cs.map (pt w))
noncomputable def rowOf(n:Str)(cs:List Nat)(w:Int):D:=.tup (.str n::(cs.map (pt w)).map .int)
theorem KR:rm 32=true:=by decide
theorem c8:small 2=true:=by decide
theorem HQ:(2:Int) ^ 32=4294967296:=by decide
theorem MO(h0:0<=n)(h1:n<4294967296):jO [.int n]=.ok (.bl true):=by
 have e:jO [.int n]=.ok (.bl (decide (0<=n)&&decide (n<4294967296))):=by
  simp[jO,v8 (.int n) rfl,KR,c8,HQ];by_cases h:0<=n<;>simp[h]
 rw[e,FS h0,FS h1];rfl
theorem Jz(h:o4 c):iH [.int w,dU c]=.ok (.int (pt w c)):=by
 rcases h with rfl|rfl|rfl|rfl
 ·rfl
 ·rfl
 ·rfl
 ·have e:iH [.int w,dU 110]=.ok (.int (w % 65536)):=rfl
  have z:pt w 110=w % 65536:=by
   show w / 1 % 65536=_;rw[abP]
  rw[e,z]
theorem BJ(h:(n,f)∈bV):eE [.str n]=.ok (.str f):=by
 have:∀p∈bV,f6 p.1 bV=some p.2:=by decide+kernel
 rw[yv,this _ h]
theorem Ax:∀(cs:List Nat),(∀c∈cs,o4 c)->eR (aG 0) [] (aI iH [aa 1,aa 0]) [.un,.sh (.int w)] (cs.map dU)=.ok ((cs.map (pt w)).map .int)
 |[],_=>rfl
 | c::cs,h=>by
  have ih:=Ax (w:=w) cs λd hd=>h d (Do _ hd);have e:=Jz (w:=w) (h c FB);simp only[Pi,eR,eR.ku,aG,R.bo,aat,aaq];show((iH [.int w,dU c]).bind _)=_;rw[e,R.bo,ih];rfl
noncomputable def iS(c:Nat):Nat->List Nat->Int
 |_,[]=> -1
 |k,a::cs=>if a=c then(k:Int)else iS c (k+1) cs
noncomputable def dO(c:Nat):List Nat->Xj->Int
 |a::cs,p::ps=>if a=c then p else dO c cs ps
 |_,_=>0
theorem zS:∀ {cs:List Nat} {ps:Xj} {k:Nat},cs.length=ps.length->(iS c k cs= -1/\dO c cs ps=0)\/∃i:Nat,iS c k cs=((k+i:Nat):Int)/\ps[i]? =some (dO c cs ps)
 |[],[],k,_=>.inl ⟨rfl,rfl⟩
 | a::cs,p::ps,k,h=>by
  by_cases ha:a=c
  ·exact .inr ⟨0,by simp[iS,ha],by simp[dO,ha]⟩
  ·rcases zS (c:=c) (k:=k+1) (cs:=cs) (ps:=ps) (by simpa using h)with⟨h1,h2⟩|⟨i,h1,h2⟩
   ·exact .inl ⟨by simp[iS,ha,h1],by simp[dO,ha,h2]⟩
   ·exact .inr ⟨i+1,by simp only[iS,ha,aaS,h1];congr 1;omega,by simpa[dO,ha] using h2⟩
 |[],_::_,_,h=>by simp at h
 |_::_,[],_,h=>by simp at h
theorem HZ(h:(n,f)∈bV)(hc:o4 c):Txt.find f ⟨#[c]⟩=iS c 0 f.cps.toList:=by
 have:∀p∈bV,∀c∈[97,98,99,110],Txt.find p.2 ⟨#[c]⟩=iS c 0 p.2.cps.toList:=by decide+kernel
 exact this _ h c (by rcases hc with rfl|rfl|rfl|rfl<;>simp)
theorem sf(h:(n,f)∈bV)(hc:o4 c)(hl:f.cps.toList.length=ps.length):jT [.tup (.str n::ps.map .int),dU c]=.ok (.int (dO c f.cps.toList ps)):=by
 have a0:=qO (.str n) (ps.map D.int);generalize hT:D.tup (.str n::ps.map .int)=T
 have h0:(aI eE [e2 ag (aa 0) (eC (.int 0))]) [.sh T,.sh (dU c),.un]=.ok (.str f):=by
  have e:(e2 ag (aa 0) (eC (.int 0))) [.sh T,.sh (dU c),.un]=.ok (.str n):=by rw[<-hT];exact aH rfl rfl (iI a0)
  show(eList [e2 ag (aa 0) (eC (.int 0))] _).bind _=_
  have e':eList [e2 ag (aa 0) (eC (.int 0))] [.sh T,.sh (dU c),.un]=.ok [.str n]:=by
   show((e2 ag (aa 0) (eC (.int 0))) _).bind _=_;rw[e];rfl
  rw[e',R.bo,BJ h]
 have h1:(aS (aG 2) (e2 vj (aI eE [e2 ag (aa 0) (eC (.int 0))]) (aa 1))) [.sh T,.sh (dU c),.un]=.ok (.next [.sh T,.sh (dU c),.sh (.int (iS c 0 f.cps.toList))]):=by
  rw[bh (aH (d:=.int (iS c 0 f.cps.toList)) h0 rfl (by rw[<-HZ h hc];rfl))];rfl
 rw[jT];refine cf ?_;show az _ [.sh T,.sh (dU c),.un]=_;rw[ah h1];refine aZ ?_;rcases zS (c:=c) (k:=0) hl with⟨g1,g2⟩|⟨i,g1,g2⟩
 ·rw[g1,g2];rfl
 ·rw[g1,aaX]
  have c1:(tV (e2 oLt (aa 2) (eC (.int 0)))) [.sh T,.sh (dU c),.sh (.int (i:Int))]=.ok false:=by
   show(.ok (decide ((i:Int)<0)):R Bool)=_;rw[KB (by omega)]
  have c2:(e2 ag (aa 0) (e2 bb (eC (.int 1)) (aa 2))) [.sh T,.sh (dU c),.sh (.int (i:Int))]=.ok (.int (dO c f.cps.toList ps)):=by
   obtain⟨hi,ei⟩:=xM.mp g2
   have ha:cT (.str n::ps.map D.int) (1+(i:Int))=some (.int (dO c f.cps.toList ps)):=by
    have:(1+(i:Int))=((i+1:Nat):Int):=by omega
    rw[this,kC (by simp;omega)]
    simp[ei]
   rw[<-hT];exact aH rfl (cD rfl rfl) (iI ha)
  show((fj _ _ _) _).bind _=_;rw[jy c1,c2];rfl
theorem Jn(h:(n,f)∈bV)(hl:f.cps.toList.length=ps.length)(b:Int):
  b+dO 97 f.cps.toList ps*4194304+dO 98 f.cps.toList ps*524288+(dO 99 f.cps.toList ps*65536)+dO 110 f.cps.toList ps=b+val f.cps.toList ps:=by
 have:∀p∈bV,p.2.cps.toList=[97,110]\/p.2.cps.toList=[97,98]\/p.2.cps.toList=[97,98,99]\/p.2.cps.toList=[97,98,110]\/p.2.cps.toList=[110]\/p.2.cps.toList=[]:=by decide+kernel
 have h:=this _ h;simp only at h;rcases h with h|h|h|h|h|h<;>rw[h]at hl ⊢
 ·match ps,hl with
  |[a,b],_=>simp[dO,val,kK];omega
 ·match ps,hl with
  |[a,b],_=>simp[dO,val,kK];omega
 ·match ps,hl with
  |[a,b,c],_=>simp[dO,val,kK];omega
 ·match ps,hl with
  |[a,b,c],_=>simp[dO,val,kK];omega
 ·match ps,hl with
  |[a],_=>simp[dO,val,kK]
 ·match ps,hl with
  |[],_=>simp[dO,val]
theorem Co:∀(l:List (Str×Str)) (k j:Nat) (n f:Str),(l.map (·.1)).Nodup->l[j]? =some (n,f)->g6 (.str n) k (l.map λp=>.str p.1)=.ok (.int ((k+j:Nat):Int))
 |[],_,_,_,_,_,h=>by simp at h
 | p::l,k,0,n,f,_,h=>by
  simp at h;subst h;simp[g6]
 | p::l,k,j+1,n,f,hn,h=>by
  rw[Pi,MG]at hn;have G':¬p.1=n:=λe=>hn.1 (by rw[e];exact S4.mpr ⟨(n,f),SL (by simpa using h),rfl⟩)
  have ih:=Co l (k+1) j n f hn.2 (by simpa using h)
  simp only[Pi,g6,cw,JK,G',aaS];rw[ih];congr 3;omega
theorem CD:g9=.tup (bV.map λp=>.str p.1):=by rfl
theorem Good.parts:∀ {cs:List Nat} {ps:Xj},Good cs ps->gL cs (ps.map .int)=true
 |[],[],_=>rfl
 | c::cs,p::ps,h=>by
  simp only[Pi,gL,kN];rw[FS h.1.1,FS h.1.2,Good.parts h.2];rfl
 |[],_::_,h=>h.elim
 |_::_,[],h=>h.elim
theorem yo(w:Int):∀cs:List Nat,Good cs (cs.map (pt w))
 |[]=>True.intro
 |c::cs=>⟨⟨aao _ (by have:=(Ca c).1;omega),aaK _ (Ca c).1⟩,yo w cs⟩
theorem Kk(n:Str)(ps:Xj):nr (.tup (.str n::ps.map .int))=true:=by
 show(nx (.str n)&&List.all (ps.map D.int) nx)=true;rw[List.all_map,show nx (.str n)=true from rfl,abh,aai];exact λ_ _=>rfl
theorem Jl{j:Nat}{n f:Str}(hj:bV[j]? =some (n,f)){ps:Xj}(hg:Good f.cps.toList ps):lI [.tup (.str n::ps.map .int)]=.ok (.int (j*33554432+val f.cps.toList ps)):=by
 have hm:(n,f)∈bV:=SL hj;have hl:f.cps.toList.length=ps.length:=hg.length.symm
 have hr:kQ [.tup (.str n::ps.map .int)]=.ok (.bl true):=by
  have:∀p∈bV,f6 p.1 bV=some p.2:=by decide+kernel
  rw[GX _ (Kk n ps)];have e:wL (.tup (.str n::ps.map .int))=(match f6 n bV with|some f=>gL f.cps.toList (ps.map .int)|none=>false):=rfl
  rw[e,this _ hm];show R.ok (D.bl (gL f.cps.toList (ps.map .int)))=_;rw[hg.parts]
 have ha:=sf hm (c:=97) (.inl rfl) hl;have hb:=sf hm (c:=98) (.inr (.inl rfl)) hl;have hc:=sf hm (c:=99) (.inr (.inr (.inl rfl))) hl;have hn:=sf hm (c:=110) (.inr (.inr (.inr rfl))) hl;have a0:=qO (.str n) (ps.map D.int)
 have hi:yk g9 (.str n)=.ok (.int j):=by
  rw[CD];show(if flat (.str n)=true/\(bV.map λp=>D.str p.1).all flat=true then g6 (.str n) 0 (bV.map λp=>D.str p.1)else R.bad)=_
  rw[AC ⟨rfl,by rfl⟩,Co bV 0 j n f names_nodup hj,aaX]
 generalize hT:D.tup (.str n::ps.map .int)=T at*;have h0:(e2 ag (aa 0) (eC (.int 0))) [.sh T,.un]=.ok (.str n):=by rw[<-hT];exact aH rfl rfl (iI a0)
 rw[<-Jn hm hl];generalize TY:(j:Int)*33554432=b;rw[lI];refine cf ?_;show az _ [.sh T,.un]=_;rw[ah (ρ':=[.sh T,.un]) (aR (oT (bz (fm rfl hr))))]
 rw[ah (ρ':=[.sh T,.sh (.int b)]) (by
  rw[bh (d:=.int b) (by rw[<-TY];exact dB (aH rfl h0 hi) (show(e2 b7 (eC (.int 2)) (eC (.int 25))) _=.ok (.int 33554432)from rfl) (.inr (by decide)))];rfl)]
 rw[ah (ρ':=[.sh T,.sh (.int (b+dO 97 f.cps.toList ps*4194304+dO 98 f.cps.toList ps*524288))]) (by
  rw[bh (cD (cD (i:=b) rfl (dB (dY (y:=dU 97) rfl rfl ha) (show(e2 b7 (eC (.int 2)) (eC (.int 22))) _=.ok (.int 4194304)from rfl) (.inr (by decide)))) (dB (dY (y:=dU 98) rfl rfl hb) (show(e2 b7 (eC (.int 2)) (eC (.int 19))) _=.ok (.int 524288)from rfl) (.inr (by decide))))];rfl)]
 exact aZ (bE (cD (cD rfl (dB (dY (y:=dU 99) rfl rfl hc) (show(e2 b7 (eC (.int 2)) (eC (.int 16))) _=.ok (.int 65536)from rfl) (.inr (by decide)))) (dY (y:=dU 110) rfl rfl hn)))
theorem AS(h0:0<=w)(h1:w<4294967296):(dS (eG (tV (aI jO [aa 0]))) (tV (e2 jm (e2 oDiv (aa 0) (e2 b7 (eC (.int 2)) (eC (.int 25)))) (e1 eQ (eC g9))))) [.sh (.int w),.un,.un]=.ok (decide (15<=w / 33554432)):=by
 have e:=qX (oT (bz (fm (f:=jO) (a:=aa 0) (ρ:=[.sh (.int w),.un,.un]) rfl (MO h0 h1)))) (bz (aH (o:=jm) (cM (a:=aa 0) (b:=e2 b7 (eC (.int 2)) (eC (.int 25))) (u:=33554432) rfl rfl (by decide)) (show(e1 eQ (eC g9)) [.sh (.int w),.un,.un]=.ok (.int 15)from rfl) rfl))
 exact e
theorem DO(h0:0<=w)(h1:w<4294967296)(h:14<w / 33554432):jE [.int w]=.ok .aE:=by
 rw[jE];refine cf ?_;show az _ [.sh (.int w),.un,.un]=_;refine aZ ?_;rw[bB (by rw[AS h0 h1,FS (by omega)])]
 rfl
theorem DZ{w:Int}{j:Nat}{n f:Str}(h0:0<=w)(h1:w<4294967296)(hj:bV[j]? =some (n,f))(hk:w / 33554432=j):jE [.int w]=.ok (if dI j f.cps.toList w=w then rowOf n f.cps.toList w else .aE):=by
 obtain⟨SH,_⟩:=xM.mp hj;have SH:j<15:=SH;have hm:(n,f)∈bV:=SL hj;obtain⟨ZC,Zv⟩:=EO hm;have Rk:f.length<=16777216:=by omega
 have Wm:f.length=f.cps.toList.length:=by unfold Str.length;simp
 have hc:=Jl hj (yo w f.cps.toList)
 have hn:cT (bV.map λp=>D.str p.1) (j:Int)=some (.str n):=by
  obtain⟨hi,e⟩:=xM.mp hj;rw[kC (by simpa using hi)]
  simp[e]
 rw[jE];refine cf ?_;show az _ [.sh (.int w),.un,.un]=_;rw[ah (ρ':=[.sh (.int w),.un,.un]) (aR (by rw[AS h0 h1,KB (by omega)]))]
 have q1:(e2 ag (eC g9) (e2 oDiv (aa 0) (e2 b7 (eC (.int 2)) (eC (.int 25))))) [.sh (.int w),.un,.un]=.ok (.str n):=by
  rw[CD];exact aH rfl (cM (u:=33554432) rfl rfl (by decide)) (by rw[hk];exact iI hn)
 rw[ah (ρ':=[.sh (.int w),.sh (.str n),.un]) (by rw[bh q1];rfl)]
 have q2:(eU (jo (aI eE [aa 1])) 1 [0] (aG 0) [] (aI iH [aa 1,aa 0])) [.sh (.int w),.sh (.str n),.un]=.ok (.lst ((f.cps.toList.map (pt w)).map .int)):=by
  have z:(jo (aI eE [aa 1])) [.sh (.int w),.sh (.str n),.un]=.ok (f.cps.toList.map dU):=by
   show((aI eE [aa 1]) _).bind _=_;rw[fm (x:=.str n) rfl (BJ hm),R.bo];simp[items,Rk,dU]
  have hz:(f.cps.toList.map dU).length<=d4:=by show _<=16777216;rw[GE];omega
  have e:=Ax (w:=w) f.cps.toList (KD hm);show((jo (aI eE [aa 1])) _).bind _=_;rw[z,R.bo,AC hz];show(eR (aG 0) [] (aI iH [aa 1,aa 0]) [.un,.sh (.int w)] _).bind _=_;rw[e];rfl
 have q3:(e1 iV (e2 bb (cn [aa 1]) (eU (jo (aI eE [aa 1])) 1 [0] (aG 0) [] (aI iH [aa 1,aa 0])))) [.sh (.int w),.sh (.str n),.un]=.ok (rowOf n f.cps.toList w):=by
  have z:[D.str n].length+((f.cps.toList.map (pt w)).map D.int).length<=d4:=by show 1+_<=16777216;rw[GE,GE];omega
  have e:=aH (o:=bb) (a:=cn [aa 1]) (x:=.lst [.str n]) (d:=.lst (.str n::(f.cps.toList.map (pt w)).map .int)) rfl q2 (by show(if _ then _ else _)=_;rw[AC z];rfl)
  show((e2 bb _ _) _).bind _=_;rw[e];rfl
 rw[ah (ρ':=[.sh (.int w),.sh (.str n),.sh (rowOf n f.cps.toList w)]) (by rw[bh q3];rfl)]
 have c:(tV (e2 oEq (aI lI [aa 2]) (aa 0))) [.sh (.int w),.sh (.str n),.sh (rowOf n f.cps.toList w)]=.ok (decide (dI j f.cps.toList w=w)):=by
  refine bz (aH (x:=.int (dI j f.cps.toList w)) (y:=.int w) (fm rfl hc) rfl ?_);unfold oEq;rw[zQ,AC rfl];rfl
 refine aZ (bE ?_);by_cases hv:dI j f.cps.toList w=w
 ·rw[AC hv,my (by rw[c,FS hv])];rfl
 ·rw[DF hv,jy (by rw[c,KB hv])];rfl
inductive Rw where
 |put (a n:Int)|high (a n:Int)|copy (a b:Int)|op (k:Nat) (a b c:Int)|load (a b n:Int)|store (a b n:Int)|gG (n:Int)|fL (a n:Int)|call
noncomputable def iD:Nat->D
 |3=>S "add"|4=>S "less"|5=>S "times"|6=>S "cut"|7=>S "rest"|8=>S "under"|_=>S "same"
noncomputable def Rw.d:Rw->D
 |.put a n=>.tup [S "put",.int a,.int n]
 |.high a n=>.tup [S "high",.int a,.int n]
 |.copy a b=>.tup [S "copy",.int a,.int b]
 |.op k a b c=>.tup [iD k,.int a,.int b,.int c]
 |.load a b n=>.tup [S "load",.int a,.int b,.int n]
 |.store a b n=>.tup [S "store",.int a,.int b,.int n]
 |.gG n=>.tup [S "jump",.int n]
 |.fL a n=>.tup [S "if",.int a,.int n]
 |.call=>.tup [S "call"]
def B8(a:Int):Prop:=0<=a/\a<8
def BN(n:Int):Prop:=0<=n/\n<65536
def Rw.ok:Rw->Prop
 |.put a n=>B8 a/\BN n
 |.high a n=>B8 a/\BN n
 |.copy a b=>B8 a/\B8 b
 |.op k a b c=>(3<=k/\k<10)/\B8 a/\B8 b/\B8 c
 |.load a b n=>B8 a/\B8 b/\BN n
 |.store a b n=>B8 a/\B8 b/\BN n
 |.gG n=>BN n
 |.fL a n=>B8 a/\BN n
 |.call=>True
noncomputable def m6(a b c n:Int):Nat->Rw
 |0=>.put a n|1=>.high a n|2=>.copy a b|10=>.load a b n|11=>.store a b n|12=>.gG n|13=>.fL a n|14=>.call|k=>.op k a b c
noncomputable def ny(a b c n:Int):Nat->Int
 |0=>0*33554432+a*4194304+n
 |1=>1*33554432+a*4194304+n
 |2=>2*33554432+a*4194304+b*524288
 |10=>10*33554432+a*4194304+b*524288+n
 |11=>11*33554432+a*4194304+b*524288+n
 |12=>12*33554432+n
 |13=>13*33554432+a*4194304+n
 |14=>14*33554432
 |k=>k*33554432+a*4194304+b*524288+c*65536
noncomputable def rW(w:Int)(j:Nat):Rw:=m6 (w / 4194304 % 8) (w / 524288 % 8) (w / 65536 % 8) (w % 65536) j
noncomputable def vW(w:Int)(j:Nat):Int:=ny (w / 4194304 % 8) (w / 524288 % 8) (w / 65536 % 8) (w % 65536) j
noncomputable def dec(w:Int):Option Rw:=if 0<=w/\w<503316480/\vW w (w / 33554432).toNat=w then some (rW w (w / 33554432).toNat)else none
noncomputable def oR(o:Option Rw):D:=(o.map Rw.d).getD .aE
theorem zg{P:Nat->Str->Str->Prop}(h0:P 0 (Sx "put") (Sx "an"))(h1:P 1 (Sx "high") (Sx "an"))(h2:P 2 (Sx "copy") (Sx "ab"))(h3:P 3 (Sx "add") (Sx "abc"))(h4:P 4 (Sx "less") (Sx "abc"))(h5:P 5 (Sx "times") (Sx "abc"))(h6:P 6 (Sx "cut") (Sx "abc"))(h7:P 7 (Sx "rest") (Sx "abc"))(h8:P 8 (Sx "under") (Sx "abc"))(h9:P 9 (Sx "same") (Sx "abc"))(OV:P 10 (Sx "load") (Sx "abn"))(QA:P 11 (Sx "store") (Sx "abn"))(Qy:P 12 (Sx "jump") (Sx "n"))(Q0:P 13 (Sx "if") (Sx "an"))(XZ:P 14 (Sx "call") (Sx "")):∀ {j:Nat} {n f:Str},bV[j]? =some (n,f)->P j n f
 |0,_,_,h=>by have h:some (Sx "put",Sx "an")=some (_,_):=h;cases h;exact h0
 |1,_,_,h=>by have h:some (Sx "high",Sx "an")=some (_,_):=h;cases h;exact h1
 |2,_,_,h=>by have h:some (Sx "copy",Sx "ab")=some (_,_):=h;cases h;exact h2
 |3,_,_,h=>by have h:some (Sx "add",Sx "abc")=some (_,_):=h;cases h;exact h3
 |4,_,_,h=>by have h:some (Sx "less",Sx "abc")=some (_,_):=h;cases h;exact h4
 |5,_,_,h=>by have h:some (Sx "times",Sx "abc")=some (_,_):=h;cases h;exact h5
 |6,_,_,h=>by have h:some (Sx "cut",Sx "abc")=some (_,_):=h;cases h;exact h6
 |7,_,_,h=>by have h:some (Sx "rest",Sx "abc")=some (_,_):=h;cases h;exact h7
 |8,_,_,h=>by have h:some (Sx "under",Sx "abc")=some (_,_):=h;cases h;exact h8
 |9,_,_,h=>by have h:some (Sx "same",Sx "abc")=some (_,_):=h;cases h;exact h9
 |10,_,_,h=>by have h:some (Sx "load",Sx "abn")=some (_,_):=h;cases h;exact OV
 |11,_,_,h=>by have h:some (Sx "store",Sx "abn")=some (_,_):=h;cases h;exact QA
 |12,_,_,h=>by have h:some (Sx "jump",Sx "n")=some (_,_):=h;cases h;exact Qy
 |13,_,_,h=>by have h:some (Sx "if",Sx "an")=some (_,_):=h;cases h;exact Q0
 |14,_,_,h=>by have h:some (Sx "call",Sx "")=some (_,_):=h;cases h;exact XZ
 |j+15,_,_,h=>by have h:none=some (_,_):=h;cases h
theorem i7(w:Int):pt w 110=w % 65536:=by show w / 1 % 65536=_;rw[abP]
theorem tH:(Sx "an").cps.toList=[97,110]:=by rfl
theorem FN:(Sx "ab").cps.toList=[97,98]:=by rfl
theorem lh:(Sx "abc").cps.toList=[97,98,99]:=by rfl
theorem y9:(Sx "abn").cps.toList=[97,98,110]:=by rfl
theorem JJ:(Sx "n").cps.toList=[110]:=by rfl
theorem Lg:(Sx "").cps.toList=[]:=by rfl
theorem vg(w:Int):j*33554432+val [97,110] ([97,110].map (pt w))=j*33554432+w / 4194304 % 8*4194304+w % 65536:=by
 show j*33554432+(w / 4194304 % 8*4194304+(pt w 110*1+0))=_;rw[i7];omega
theorem KI(w:Int):j*33554432+val [97,98] ([97,98].map (pt w))=j*33554432+w / 4194304 % 8*4194304+w / 524288 % 8*524288:=by
 show j*33554432+(w / 4194304 % 8*4194304+(w / 524288 % 8*524288+0))=_;omega
theorem km(w:Int):j*33554432+val [97,98,99] ([97,98,99].map (pt w))=j*33554432+w / 4194304 % 8*4194304+w / 524288 % 8*524288+w / 65536 % 8*65536:=by
 show j*33554432+(w / 4194304 % 8*4194304+(w / 524288 % 8*524288+(w / 65536 % 8*65536+0)))=_;omega
theorem BI(w:Int):j*33554432+val [97,98,110] ([97,98,110].map (pt w))=j*33554432+w / 4194304 % 8*4194304+w / 524288 % 8*524288+w % 65536:=by
 show j*33554432+(w / 4194304 % 8*4194304+(w / 524288 % 8*524288+(pt w 110*1+0)))=_;rw[i7];omega
theorem II(w:Int):j*33554432+val [110] ([110].map (pt w))=j*33554432+w % 65536:=by
 show j*33554432+(pt w 110*1+0)=_;rw[i7];omega
theorem yS{j:Nat}{n f:Str}(hj:bV[j]? =some (n,f)):∀w,rowOf n f.cps.toList w=(rW w j).d/\dI j f.cps.toList w=vW w j:=
 zg (P:=λj n f=>∀w,rowOf n f.cps.toList w=(rW w j).d/\dI j f.cps.toList w=vW w j)
  (λw=>by unfold rowOf dI;rw[tH,vg];exact⟨congrArg D.tup (by show [_,_,D.int (pt w 110)]=_;rw[i7];rfl),rfl⟩) (λw=>by unfold rowOf dI;rw[tH,vg];exact⟨congrArg D.tup (by show [_,_,D.int (pt w 110)]=_;rw[i7];rfl),rfl⟩) (λw=>by unfold rowOf dI;rw[FN,KI];exact⟨rfl,rfl⟩) (λw=>by unfold rowOf dI;rw[lh,km];exact⟨rfl,rfl⟩) (λw=>by unfold rowOf dI;rw[lh,km];exact⟨rfl,rfl⟩) (λw=>by unfold rowOf dI;rw[lh,km];exact⟨rfl,rfl⟩) (λw=>by unfold rowOf dI;rw[lh,km];exact⟨rfl,rfl⟩) (λw=>by unfold rowOf dI;rw[lh,km];exact⟨rfl,rfl⟩) (λw=>by unfold rowOf dI;rw[lh,km];exact⟨rfl,rfl⟩) (λw=>by unfold rowOf dI;rw[lh,km];exact⟨rfl,rfl⟩) (λw=>by unfold rowOf dI;rw[y9,BI];exact⟨congrArg D.tup (by show [_,_,_,D.int (pt w 110)]=_;rw[i7];rfl),rfl⟩) (λw=>by unfold rowOf dI;rw[y9,BI];exact⟨congrArg D.tup (by show [_,_,_,D.int (pt w 110)]=_;rw[i7];rfl),rfl⟩) (λw=>by unfold rowOf dI;rw[JJ,II];exact⟨by show D.tup [_,D.int (pt w 110)]=_;rw[i7];rfl,rfl⟩) (λw=>by unfold rowOf dI;rw[tH,vg];exact⟨congrArg D.tup (by show [_,_,D.int (pt w 110)]=_;rw[i7];rfl),rfl⟩) (λw=>by unfold rowOf dI;rw[Lg];exact⟨rfl,rfl⟩) hj
theorem Mx(h:j<15):∃n f,bV[j]? =some (n,f):=⟨(bV[j]'h).1,(bV[j]'h).2,Fk h⟩
theorem Jf(h0:0<=w)(h1:w<4294967296):jE [.int w]=.ok (oR (dec w)):=by
 unfold dec;by_cases h:w<503316480
 ·obtain⟨j,hj⟩:=aar (show 0<=w / 33554432 by omega)
  obtain⟨n,f,hf⟩:=Mx (show j<15 by omega)
  rw[DZ h0 h1 hf hj,(yS hf w).1,(yS hf w).2,hj,show((j:Int)).toNat=j from rfl]
  by_cases hv:vW w j=w
  ·rw[AC hv,AC ⟨h0,h,hv⟩];rfl
  ·rw[DF hv,DF (λz=>hv z.2.2)];rfl
 ·rw[DO h0 h1 (by omega),DF (λz=>h z.2.1)];rfl
noncomputable def kL:List D:=bV.map λp=>.str p.1
theorem E4:gJ []=.ok (.lst kL):=by kernel_rfl
theorem mz(ρ:En):aI gJ [] ρ=.ok (.lst kL):=E4
noncomputable def chain:Sm:=aO (tV (e2 oEq (aa 1) (eC (S "call")))) (aS (aG 5) (aP [aa 1])) (aO (tV (e2 oEq (aa 1) (eC (S "jump")))) (aS (aG 5) (aP [aa 1,e2 oMod (aa 0) (eC (.int 65536))])) (aO (tV (e2 ck (aa 1) (aP [eC (S "put"),eC (S "high"),eC (S "if")]))) (aS (aG 5) (aP [aa 1,aa 3,e2 oMod (aa 0) (eC (.int 65536))])) (aO (tV (e2 oEq (aa 1) (eC (S "copy")))) (aS (aG 5) (aP [aa 1,aa 3,aa 4])) (aO (tV (e2 ck (aa 1) (aP [eC (S "load"),eC (S "store")]))) (aS (aG 5) (aP [aa 1,aa 3,aa 4,e2 oMod (aa 0) (eC (.int 65536))])) (aV)))))
section
variable{nm:D}{j:Nat}{a b c n:Int}
theorem mj(he:e ρ=.ok (.int i))(hu:small u=true):e2 bZ e (eC (.int u)) ρ=.ok (.int (i*u)):=dB he rfl (.inr hu)
theorem lN(hi:iU (.lst kL) nm=.ok (.int j))(h1:oEq nm (S "jump")=.ok (.bl false))(h2:ck nm (.tup [S "put",S "high",S "if"])=.ok (.bl true)):fP [.tup [nm,.int a,.int n]]=.ok (.int (j*33554432+a*4194304+n)):=by
 rw[fP];refine cf ?_;show az _ [.sh (.tup [nm,.int a,.int n]),.un,.un]=_;rw[ah (bh (d:=nm) rfl),ah (bh (mj (aH (mz _) rfl hi) (by decide))),ah (aR (bz (aH rfl rfl h1)))]
 rw[ah (Os (bB rfl) (bh (cD rfl (mj (i:=a) rfl (by decide)))))]
 refine aZ ?_;rw[bB (bz (aH rfl rfl h2))];rfl
theorem vQ(hi:iU (.lst kL) nm=.ok (.int j))(h1:oEq nm (S "jump")=.ok (.bl false))(h2:ck nm (.tup [S "put",S "high",S "if"])=.ok (.bl false))
  (hr:az [aO (tV (e2 ck (aa 1) (aP [eC (S "load"),eC (S "store")]))) (aM (e2 bb (aa 2) (e2 ag (aa 0) (eC (.int 3))))) (aV),aO (tV (e2 jk (e1 eQ (aa 0)) (eC (.int 3)))) (aS (aG 2) (e2 bb (aa 2) (e2 bZ (e2 ag (aa 0) (eC (.int 3))) (eC (.int 65536))))) (aV),aM (aa 2)] [.sh (.tup (nm::.int a::.int b::ds)),.sh nm,.sh (.int (j*33554432+a*4194304+b*524288))]=.ok (.ret (.int n))) (hd:ds.length<5):fP [.tup (nm::.int a::.int b::ds)]=.ok (.int n):=by
 rw[fP];refine cf ?_;show az _ [.sh (.tup (nm::.int a::.int b::ds)),.un,.un]=_;have x0:ag (.tup (nm::.int a::.int b::ds)) (.int 0)=.ok nm:=iI (kC (j:=0) (by simp))
 have x1:ag (.tup (nm::.int a::.int b::ds)) (.int 1)=.ok (.int a):=iI (kC (j:=1) (by simp))
 have x2:ag (.tup (nm::.int a::.int b::ds)) (.int 2)=.ok (.int b):=iI (kC (j:=2) (by simp))
 have gt:∀(k:Int) (s1 s2:Slot),k<3->(tV (e2 jk (e1 eQ (aa 0)) (eC (.int k)))) [.sh (.tup (nm::.int a::.int b::ds)),s1,s2]=.ok true:=λk s1 s2 hk=>bz (aH (x:=.int ((ds.length+3:Nat):Int)) rfl rfl (by show R.ok (D.bl (decide (k<((ds.length+3:Nat):Int))))=_;rw[FS (by omega)]))
 rw[ah (bh (aH rfl rfl x0)),ah (bh (mj (aH (mz _) rfl hi) (by decide))),ah (aR (bz (aH rfl rfl h1)))]
 show az _ [.sh (.tup (nm::.int a::.int b::ds)),.sh nm,.sh (.int (j*33554432))]=_;rw[ah (Os (bB (gt 1 _ _ (by decide))) (bh (cD rfl (mj (i:=a) (aH rfl rfl x1) (by decide))))),ah (aR (bz (aH rfl rfl h2)))]
 show az _ [.sh (.tup (nm::.int a::.int b::ds)),.sh nm,.sh (.int (j*33554432+a*4194304))]=_;rw[ah (Os (bB (gt 2 _ _ (by decide))) (bh (cD rfl (mj (i:=b) (aH rfl rfl x2) (by decide)))))]
 exact hr
theorem qI(hi:iU (.lst kL) nm=.ok (.int j))(h1:oEq nm (S "jump")=.ok (.bl false))(h2:ck nm (.tup [S "put",S "high",S "if"])=.ok (.bl false))(h3:ck nm (.tup [S "load",S "store"])=.ok (.bl true)):fP [.tup [nm,.int a,.int b,.int n]]=.ok (.int (j*33554432+a*4194304+b*524288+n)):=
 vQ hi h1 h2 (aZ (by rw[bB (bz (aH rfl rfl h3))];rfl)) (by simp)
theorem gn(hi:iU (.lst kL) nm=.ok (.int j))(h1:oEq nm (S "jump")=.ok (.bl false))(h2:ck nm (.tup [S "put",S "high",S "if"])=.ok (.bl false))(h3:ck nm (.tup [S "load",S "store"])=.ok (.bl false)):fP [.tup [nm,.int a,.int b,.int c]]=.ok (.int (j*33554432+a*4194304+b*524288+c*65536)):=
 vQ hi h1 h2 (by rw[ah (aR (bz (aH rfl rfl h3))),ah (Os (bB rfl) (bh (cD rfl (mj (i:=c) rfl (by decide)))))];rfl) (by simp)
theorem yr(hi:iU (.lst kL) nm=.ok (.int j))(h1:oEq nm (S "jump")=.ok (.bl false))(h2:ck nm (.tup [S "put",S "high",S "if"])=.ok (.bl false))(h3:ck nm (.tup [S "load",S "store"])=.ok (.bl false)):fP [.tup [nm,.int a,.int b]]=.ok (.int (j*33554432+a*4194304+b*524288)):=
 vQ hi h1 h2 (by rw[ah (aR (bz (aH rfl rfl h3))),ah (aR rfl)];rfl) (by simp)
end
theorem fR(hi:iU (.lst kL) nm=.ok (.int j))(hr:chain [.sh (.int w),.sh nm,.sh (.int j),.sh (.int (w / 4194304 % 8)),.sh (.int (w / 524288 % 8)),.sh (.tup [nm,.int (w / 4194304 % 8),.int (w / 524288 % 8),.int (w / 65536 % 8)])]=.ok (.next [.sh (.int w),.sh nm,.sh (.int j),.sh (.int (w / 4194304 % 8)),.sh (.int (w / 524288 % 8)),.sh r]))(hc:fP [r]=.ok (.int v)):
  fV [.sh (.int w),.sh nm,s2,s3,s4,s5]=if w / 33554432=j/\v=w then .ok (.ret r)else .ok (.next [.sh (.int w),.sh nm,.sh (.int j),.sh (.int (w / 4194304 % 8)),.sh (.int (w / 524288 % 8)),.sh r]):=by
 rw[fV];rw[ah (bh (aH (mz _) rfl hi))];rw[ah (bh (bT (cM rfl rfl (by decide)) rfl (by decide)))]
 rw[ah (bh (bT (cM rfl rfl (by decide)) rfl (by decide)))]
 rw[ah (ρ':=[.sh (.int w),.sh nm,.sh (.int j),.sh (.int (w / 4194304 % 8)),.sh (.int (w / 524288 % 8)),.sh (.tup [nm,.int (w / 4194304 % 8),.int (w / 524288 % 8),.int (w / 65536 % 8)])]) rfl];rw[show ∀s ρ,az [(aO (tV (e2 oEq (aa 1) (eC (S "call")))) (aS (aG 5) (aP [aa 1])) (aO (tV (e2 oEq (aa 1) (eC (S "jump")))) (aS (aG 5) (aP [aa 1,e2 oMod (aa 0) (eC (.int 65536))])) (aO (tV (e2 ck (aa 1) (aP [eC (S "put"),eC (S "high"),eC (S "if")]))) (aS (aG 5) (aP [aa 1,aa 3,e2 oMod (aa 0) (eC (.int 65536))])) (aO (tV (e2 oEq (aa 1) (eC (S "copy")))) (aS (aG 5) (aP [aa 1,aa 3,aa 4])) (aO (tV (e2 ck (aa 1) (aP [eC (S "load"),eC (S "store")]))) (aS (aG 5) (aP [aa 1,aa 3,aa 4,e2 oMod (aa 0) (eC (.int 65536))])) (aV)))))),s] ρ=az [chain,s] ρ from λ_ _=>rfl,ah hr]
 have e1:(tV (e2 oEq (e2 oDiv (aa 0) (eC (.int 33554432))) (aa 2))) [.sh (.int w),.sh nm,.sh (.int j),.sh (.int (w / 4194304 % 8)),.sh (.int (w / 524288 % 8)),.sh r]=.ok (decide (w / 33554432=j)):=bz (gq (cM rfl rfl (by decide)) rfl)
 have e2:(tV (e2 oEq (aI fP [aa 5]) (aa 0))) [.sh (.int w),.sh nm,.sh (.int j),.sh (.int (w / 4194304 % 8)),.sh (.int (w / 524288 % 8)),.sh r]=.ok (decide (v=w)):=bz (gq (fm rfl hc) rfl);have e3:=yx e1 e2;by_cases h:w / 33554432=j/\v=w
 ·rw[AC h]
  rw[FS h.1,FS h.2]at e3;refine aZ ?_;rw[bB e3];rfl
 ·rw[DF h,ah (aR (by rw[e3];congr 1;rw[<-Bool.decide_and,KB h]))];rfl
theorem Lh{j:Nat}{n f:Str}(hj:bV[j]? =some (n,f)):∀(w:Int) (s2 s3 s4 s5:Slot),fV [.sh (.int w),.sh (.str n),s2,s3,s4,s5]=if w / 33554432=j/\vW w j=w then .ok (.ret (rW w j).d)else .ok (.next [.sh (.int w),.sh (.str n),.sh (.int j),.sh (.int (w / 4194304 % 8)),.sh (.int (w / 524288 % 8)),.sh (rW w j).d]):=
 zg (P:=λj n f=>∀(w:Int) (s2 s3 s4 s5:Slot),fV [.sh (.int w),.sh (.str n),s2,s3,s4,s5]=if w / 33554432=j/\vW w j=w then .ok (.ret (rW w j).d)else .ok (.next [.sh (.int w),.sh (.str n),.sh (.int j),.sh (.int (w / 4194304 % 8)),.sh (.int (w / 524288 % 8)),.sh (rW w j).d]))
  (λw _ _ _ _=>fR (by kernel_rfl) (by kernel_rfl) (lN (by kernel_rfl) (by kernel_rfl) (by kernel_rfl))) (λw _ _ _ _=>fR (by kernel_rfl) (by kernel_rfl) (lN (by kernel_rfl) (by kernel_rfl) (by kernel_rfl))) (λw _ _ _ _=>fR (by kernel_rfl) (by kernel_rfl) (yr (by kernel_rfl) (by kernel_rfl) (by kernel_rfl) (by kernel_rfl))) (λw _ _ _ _=>fR (by kernel_rfl) (by kernel_rfl) (gn (by kernel_rfl) (by kernel_rfl) (by kernel_rfl) (by kernel_rfl))) (λw _ _ _ _=>fR (by kernel_rfl) (by kernel_rfl) (gn (by kernel_rfl) (by kernel_rfl) (by kernel_rfl) (by kernel_rfl))) (λw _ _ _ _=>fR (by kernel_rfl) (by kernel_rfl) (gn (by kernel_rfl) (by kernel_rfl) (by kernel_rfl) (by kernel_rfl))) (λw _ _ _ _=>fR (by kernel_rfl) (by kernel_rfl) (gn (by kernel_rfl) (by kernel_rfl) (by kernel_rfl) (by kernel_rfl))) (λw _ _ _ _=>fR (by kernel_rfl) (by kernel_rfl) (gn (by kernel_rfl) (by kernel_rfl) (by kernel_rfl) (by kernel_rfl))) (λw _ _ _ _=>fR (by kernel_rfl) (by kernel_rfl) (gn (by kernel_rfl) (by kernel_rfl) (by kernel_rfl) (by kernel_rfl))) (λw _ _ _ _=>fR (by kernel_rfl) (by kernel_rfl) (gn (by kernel_rfl) (by kernel_rfl) (by kernel_rfl) (by kernel_rfl))) (λw _ _ _ _=>fR (by kernel_rfl) (by kernel_rfl) (qI (by kernel_rfl) (by kernel_rfl) (by kernel_rfl) (by kernel_rfl))) (λw _ _ _ _=>fR (by kernel_rfl) (by kernel_rfl) (qI (by kernel_rfl) (by kernel_rfl) (by kernel_rfl) (by kernel_rfl))) (λw _ _ _ _=>fR (by kernel_rfl) (by kernel_rfl) (by kernel_rfl)) (λw _ _ _ _=>fR (by kernel_rfl) (by kernel_rfl) (lN (by kernel_rfl) (by kernel_rfl) (by kernel_rfl))) (λw _ _ _ _=>fR (by kernel_rfl) (by kernel_rfl) (by kernel_rfl)) hj
theorem C0(w:Int):∀(l:List (Str×Str)) (k:Nat),(∀(i:Nat) p,l[i]? =some p->bV[k+i]? =some p)->∀s1 s2 s3 s4 s5:Slot,
  (∀j,k<=j->j<k+l.length->w / 33554432=(j:Int)->vW w j=w->forL (aG 1) fV (l.map λp=>.str p.1) [.sh (.int w),s1,s2,s3,s4,s5]=.ok (.ret (rW w j).d))/\
  ((∀j:Nat,k<=j->j<k+l.length->¬(w / 33554432=(j:Int)/\vW w j=w))->∃ρ,forL (aG 1) fV (l.map λp=>.str p.1) [.sh (.int w),s1,s2,s3,s4,s5]=.ok (.next ρ))
 |[],k,_,s1,s2,s3,s4,s5=>⟨λj h1 h2=>by simp at h2;omega,λ_=>⟨_,rfl⟩⟩
 | (n,f)::l,k,h,s1,s2,s3,s4,s5=>by
  have hk:bV[k]? =some (n,f):=h 0 _ rfl;have st:=Lh hk w s2 s3 s4 s5;obtain⟨XN,WW⟩:=C0 w l (k+1) (λi p hp=>by have:=h (i+1) p hp;rwa[show k+1+i=k+(i+1) by omega]) (.sh (.str n)) (.sh (.int k)) (.sh (.int (w / 4194304 % 8))) (.sh (.int (w / 524288 % 8))) (.sh (rW w k).d)
  by_cases c:w / 33554432=(k:Int)/\vW w k=w
  ·rw[AC c]at st
   have e:forL (aG 1) fV (((n,f)::l).map λp=>.str p.1) [.sh (.int w),s1,s2,s3,s4,s5]=.ok (.ret (rW w k).d):=by
    show(fV [.sh (.int w),.sh (.str n),s2,s3,s4,s5]).bind _=_;rw[st];rfl
   refine⟨λj _ _ h3 _=>?_,λz=>absurd c (z k (Gc _) (by simp))⟩
   have:j=k:=by omega
   rw[e,this]
  ·rw[DF c]at st
   have e:forL (aG 1) fV (((n,f)::l).map λp=>.str p.1) [.sh (.int w),s1,s2,s3,s4,s5]=forL (aG 1) fV (l.map λp=>.str p.1) [.sh (.int w),.sh (.str n),.sh (.int k),.sh (.int (w / 4194304 % 8)),.sh (.int (w / 524288 % 8)),.sh (rW w k).d]:=by
    show(fV [.sh (.int w),.sh (.str n),s2,s3,s4,s5]).bind _=_;rw[st];rfl
   rw[e];refine⟨λj h1 h2 h3 h4=>XN j ?_ (by simp at h2 ⊢;omega) h3 h4,λz=>WW λj h1 h2=>z j (by omega) (by simp;omega)⟩
   rcases Nat.lt_or_ge k j with h|h
   ·exact h
   ·have:j=k:=by omega
    subst this;exact absurd ⟨h3,h4⟩ c
theorem GB(h0:0<=w):lu [.int w]=.ok (oR (dec w)):=by
 rw[lu];refine cf ?_;show az _ [.sh (.int w),.un,.un,.un,.un,.un]=_;obtain⟨h1,h2⟩:=C0 w bV 0 (λi p hp=>by rwa[aaX]) .un .un .un .un .un
 unfold dec;obtain⟨j,hj⟩:=aar (show 0<=w / 33554432 by omega)
 rw[hj,show((j:Int)).toNat=j from rfl]
 by_cases c:0<=w/\w<503316480/\vW w j=w
 ·rw[AC c]
  exact aZ (kg (by show(aI gJ [] _).bind _=_;rw[mz];rfl) (h1 j (Xm _) (by show j<0+15;omega) hj c.2.2))
 ·rw[DF c]
  obtain⟨ρ,e⟩:=h2 (λk _ hk z=>by
   have hk:k<0+15:=hk;have:k=j:=by omega
   subst this;exact c ⟨h0,by omega,z.2⟩)
  rw[ah (kg (by show(aI gJ [] _).bind _=_;rw[mz];rfl) e)]
  rfl
theorem CS(h:dec w=some r):r.ok:=by
 unfold dec at h;split at h
 ·rename_i c
  cases h;unfold rW;have ha:B8 (w / 4194304 % 8):=⟨by omega,by omega⟩
  have hb:B8 (w / 524288 % 8):=⟨by omega,by omega⟩
  have hc:B8 (w / 65536 % 8):=⟨by omega,by omega⟩
  have hn:BN (w % 65536):=⟨by omega,by omega⟩
  obtain⟨j,hj⟩:=aar (show 0<=w / 33554432 by omega)
  rw[hj,show((j:Int)).toNat=j from rfl]
  have PZ:j<15:=by omega
  generalize w / 4194304 % 8=a at ha;generalize w / 524288 % 8=b at hb;generalize w / 65536 % 8=c at hc;generalize w % 65536=n at hn;clear hj
  match j,PZ with
  |0,_=>exact⟨ha,hn⟩
  |1,_=>exact⟨ha,hn⟩
  |2,_=>exact⟨ha,hb⟩
  |3,_=>exact⟨⟨by decide,by decide⟩,ha,hb,hc⟩
  |4,_=>exact⟨⟨by decide,by decide⟩,ha,hb,hc⟩
  |5,_=>exact⟨⟨by decide,by decide⟩,ha,hb,hc⟩
  |6,_=>exact⟨⟨by decide,by decide⟩,ha,hb,hc⟩
  |7,_=>exact⟨⟨by decide,by decide⟩,ha,hb,hc⟩
  |8,_=>exact⟨⟨by decide,by decide⟩,ha,hb,hc⟩
  |9,_=>exact⟨⟨by decide,by decide⟩,ha,hb,hc⟩
  |10,_=>exact⟨ha,hb,hn⟩
  |11,_=>exact⟨ha,hb,hn⟩
  |12,_=>exact hn
  |13,_=>exact⟨ha,hn⟩
  |14,_=>exact True.intro
 ·cases h
noncomputable def TK:List Ky:=[.inr (Str.ofString "parent"),.inr (Str.ofString "rank"),.inr (Str.ofString "regs"),.inr (Str.ofString "row"),.inr (Str.ofString "pages"),.inr (Str.ofString "handles"),.inr (Str.ofString "waits"),.inr (Str.ofString "handler"),.inr (Str.ofString "rung"),.inr (Str.ofString "saved")]
noncomputable def SK:List Ky:=[.inr (Str.ofString "tasks"),.inr (Str.ofString "lent"),.inr (Str.ofString "nodes"),.inr (Str.ofString "boxes"),.inr (Str.ofString "clock")]
noncomputable def W(w:Xj):D:=.tup (w.map .int)
inductive Pg where
 |own (w:Xj)|bR (n:Int)
noncomputable def Pg.d:Pg->D
 |.own w=>.tup [S "own",W w]
 |.bR n=>.tup [S "lent",.int n]
structure Q where
 pa:D
 rk:D
 rg:Xj
 row:Int
 pg:AL Pg
 ha:D
 wa:D
 hd:D
 ru:D
 sa:D
structure St where
 K:AL Q
 L:AL (Xj)
 nd:D
 bx:D
 cl:D
noncomputable def Q.vs(q:Q):List D:=[q.pa,q.rk,.lst (q.rg.map .int),.int q.row,.aA (ak q.pg) (av Pg.d q.pg),q.ha,q.wa,q.hd,q.ru,q.sa]
noncomputable def Q.d(q:Q):D:=.aA TK q.vs
noncomputable def St.d(s:St):D:=.aA SK [.aA (ak s.K) (av Q.d s.K),.aA (ak s.L) (av W s.L),s.nd,s.bx,s.cl]
theorem vJ(ha:a ρ=.ok x)(hb:b ρ=.ok y)(hc:c ρ=.ok z)(hd:d ρ=.ok w)(h:f [x,y,z,w]=.ok r):aI f [a,b,c,d] ρ=.ok r:=by
 simp only[aI,eList,ha,hb,hc,hd,R.bo];exact h
theorem HR{m:List D->R T}{a b:Ex}{ρ:En}{x y:D}{t:T}(ha:a ρ=.ok x)(hb:b ρ=.ok y)(h:m [x,y]=.ok t):cF m [a,b] ρ=.ok t:=by
 unfold cF;simp only[eList,ha,hb,R.bo];exact h
section
variable{α:Type}{L:AL α}{f:α->D}{k:Int}{a:α}
theorem rD(h:look k L=some a):ag (.aA (ak L) (av f L)) (.int k)=.ok (f a):=qk (z:=.inl k) (by rw[nX,h];rfl)
theorem yY:jZ e (.aA (ak L) (av f L)) (.int k)=.ok (((look k L).map f).getD e):=by
 show R.ok ((cx (.inl k) (ak L) (av f L)).getD e)=_;rw[nX]
theorem LH(hx:x ρ=.ok (.int k))(hy:y ρ=.ok (.aA (ak L) (av f L))):e2 nN x y ρ=.ok (.bl (!(look k L).isSome)):=aH hx hy (by
 show R.ok (D.bl (!(cx (.inl k) (ak L) (av f L)).isSome))=_;rw[nX];cases look k L<;>rfl)
end
theorem zR:∀vs:List D,T.fH (vs.map .d)=vs
 |[]=>rfl
 |v::vs=>by show v::T.fH (vs.map .d)=_;rw[zR vs]
theorem GC{as as' ks:List Ky}{bs bs' vs:List D}(hl:ks.length+as.length<1000)(hp:fI ks vs as bs=(as',bs')):gm [.aA as bs,.aA ks vs]=.ok (.m as' (bs'.map .d)):=by
 rw[gm];refine ud ?_;show az _ [.sh (.aA as bs),.sh (.aA ks vs),.un]=_;rw[ah (ρ':=[.sh (.aA as bs),.sh (.aA ks vs),.od as bs]) rfl]
 rw[ah (ρ':=[.sh (.aA as bs),.sh (.aA ks vs),.od as' bs']) (by
  show(if ks.length+as.length<1000 then R.ok (Fl.next [.sh (.aA as bs),.sh (.aA ks vs),.od (fI ks vs as bs).1 (fI ks vs as bs).2])else .bad)=_
  rw[AC hl,hp])]
 exact qe rfl
theorem nM{a b:Ex}{ρ:En}{as as' ks:List Ky}{bs bs' vs:List D}(ha:a ρ=.ok (.aA as bs))(hb:b ρ=.ok (.aA ks vs))(hl:ks.length+as.length<1000)(hp:fI ks vs as bs=(as',bs')):eX (cF gm [a,b]) ρ=.ok (.aA as' bs'):=by
 rw[zZ (HR ha hb (GC hl hp))];show R.ok (D.aA as' (T.fH (bs'.map .d)))=_;rw[zR]
section
variable{s:St}{q q':Q}{t:Int}{ρ:En}{a b:Ex}{ks:List Ky}{vs:List D}
theorem Bg(h:a ρ=.ok s.d):e2 ag a (eC (S "tasks")) ρ=.ok (.aA (ak s.K) (av Q.d s.K)):=aH h rfl rfl
theorem w6(h:a ρ=.ok s.d):e2 ag a (eC (S "lent")) ρ=.ok (.aA (ak s.L) (av W s.L)):=aH h rfl rfl
theorem tD(h:a ρ=.ok s.d)(hb:b ρ=.ok (.int t))(hA:look t s.K=some q):e2 ag (e2 ag a (eC (S "tasks"))) b ρ=.ok q.d:=aH (Bg h) hb (rD hA)
theorem Mt:ag q.d (S "pages")=.ok (.aA (ak q.pg) (av Pg.d q.pg)):=by kernel_rfl
theorem yW:ag q.d (S "regs")=.ok (.lst (q.rg.map .int)):=by kernel_rfl
theorem wg:ag q.d (S "row")=.ok (.int q.row):=by kernel_rfl
theorem uE(h:a ρ=.ok s.d)(hb:b ρ=.ok (.int t))(hA:look t s.K=some q):e2 ag (e2 ag (e2 ag a (eC (S "tasks"))) b) (eC (S "pages")) ρ=.ok (.aA (ak q.pg) (av Pg.d q.pg)):=aH (tD h hb hA) rfl Mt
theorem AG(hl:s.K.length<900)(hA:look t s.K=some q)(hc:fI ks vs TK q.vs=(TK,q'.vs))(hk:ks.length<100):jD [s.d,.int t,.aA ks vs]=.ok {s with K:=aF t q' s.K:St}.d:=by
 rw[jD];refine cf ?_;show az _ [.sh s.d,.sh (.int t),.sh (.aA ks vs),.un]=_;rw[ah (ρ':=[.sh s.d,.sh (.int t),.sh (.aA ks vs),.od (ak s.K) (av Q.d s.K)]) rfl]
 rw[ah (ρ':=[.sh s.d,.sh (.int t),.sh (.aA ks vs),.od (ak (aF t q' s.K)) (av Q.d (aF t q' s.K))]) (by
  have e1:eX (cF gm [xb 3 (aa 1),aa 2]) [.sh s.d,.sh (.int t),.sh (.aA ks vs),.od (ak s.K) (av Q.d s.K)]=.ok q'.d:=nM (as:=TK) (by
   show oy (.aA (ak s.K) (av Q.d s.K)) (.int t)=_;show(match cx (.inl t) (ak s.K) (av Q.d s.K)with|some v=>R.ok v|none=>.bad)=_
   rw[nX,hA];rfl) rfl (by show ks.length+10<1000;omega) hc
  unfold vb;rw[e1,R.bo];show(if(ak s.K).length<1000 then R.ok (Fl.next [.sh s.d,.sh (.int t),.sh (.aA ks vs),.od (putL (.inl t) q'.d (ak s.K) (av Q.d s.K)).1 (putL (.inl t) q'.d (ak s.K) (av Q.d s.K)).2])else .bad)=_
  rw[AC (by rw[j4];omega),uX rfl])]
 rw[ah (ρ':=[.sh s.d,.sh (.int t),.sh (.aA ks vs),.sh (.aA (ak (aF t q' s.K)) (av Q.d (aF t q' s.K)))]) rfl];exact aZ (bE (nM (as:=SK) rfl rfl (by decide) (by kernel_rfl)))
def Ws(w:Xj):Prop:=∀x∈w,0<=x/\x<4294967296
noncomputable def Pg.ws(L:AL (Xj)):Pg->Option (Xj)
 |.own w=>some w
 |.bR n=>look n L
def Pg.ok(L:AL (Xj))(x:Pg):Prop:=∃w,x.ws L=some w/\w.length=16/\Ws w
noncomputable def wd(L:AL (Xj))(pg:AL Pg)(a:Int):Option Int:=(look (a / 16) pg).bind λx=>(x.ws L).map λw=>w.getD (a % 16).toNat 0
noncomputable def oI(o:Option Int):D:=(o.map .int).getD .aE
theorem AW(hA:look t s.K=some q):kM [s.d,.int t,.int p]=.ok (((look p q.pg).map Pg.d).getD .aE):=by
 rw[kM];refine cf ?_;show az _ [.sh s.d,.sh (.int t),.sh (.int p)]=_;rw[ah (aR (bz (by rw[LH rfl (Bg rfl),hA];rfl)))]
 exact aZ (bE (aH (uE rfl rfl hA) rfl yY))
theorem A9{x:Pg}{w:Xj}(h:x.ws s.L=some w):kE [s.d,x.d]=.ok (W w):=by
 rw[kE];refine cf (bE ?_);show fj _ _ _ [.sh s.d,.sh x.d]=_;cases x with
 | own w0=>
  cases h;rw[my (by kernel_rfl)];rfl
 | bR n=>
  rw[jy (by kernel_rfl)]
  exact aH (w6 rfl) (y:=.int n) rfl (rD h)
theorem yj{w:Xj}{a:Int}(h:w.length=16):ag (W w) (.int (a % 16))=.ok (.int (w.getD (a % 16).toNat 0)):=by
 have h0:0<=a % 16:=by omega
 have h1:a % 16<16:=by omega
 obtain⟨x,hx,e⟩:=jq (xs:=w) h0 (by omega)
 refine iI ?_;rw[e];have h2:(a % 16).toNat<w.length:=by omega
 rw[uJ h0 (by rw[GE];omega)]at e
 simp at e;rw[W1,Fk h2, <-e];rfl
theorem Pg.lQ(x:Pg)(ρ:En)(h:e ρ=.ok x.d):(tV (e1 eK e)) ρ=.ok false:=bz (fz h (by cases x<;>rfl))
theorem FD{ad:Int}(hA:look t s.K=some q)(hp:∀x,look (ad / 16) q.pg=some x->x.ok s.L):pz [s.d,.int t,.int ad]=.ok (oI (wd s.L q.pg ad)):=by
 rw[pz];refine cf ?_;show az _ [.sh s.d,.sh (.int t),.sh (.int ad),.un]=_;rw[ah (bh (dC rfl rfl (cM (u:=16) rfl rfl (by decide)) (AW hA)))]
 unfold wd;cases hx:look (ad / 16) q.pg with
 |none=>rfl
 | some x=>
  obtain⟨w,hw,QN,_⟩:=hp x hx;refine aZ (bE ?_);show fj _ _ _ [.sh s.d,.sh (.int t),.sh (.int ad),.sh x.d]=_;rw[jy (Pg.lQ x _ rfl)];show _=R.ok (oI ((x.ws s.L).map λw=>w.getD (ad % 16).toNat 0));rw[hw];exact aH (dY rfl rfl (A9 hw)) (bT (u:=16) rfl rfl (by decide)) (yj QN)
theorem rC{ad:Int}(hA:look t s.K=some q)(hp:∀x,look (ad / 16) q.pg=some x->x.ok s.L):iu [s.d,.int t,.int ad]=.ok (oI (wd s.L q.pg ad)):=by
 rw[iu];refine cf ?_;show az _ [.sh s.d,.sh (.int t),.sh (.int ad),.un]=_;rw[ah (bh (aH (uE rfl rfl hA) (cM (u:=16) rfl rfl (by decide)) yY))]
 unfold wd;cases hx:look (ad / 16) q.pg with
 |none=>rfl
 | some x=>
  obtain⟨w,hw,QN,_⟩:=hp x hx;show az _ [.sh s.d,.sh (.int t),.sh (.int ad),.sh x.d]=.ok (.ret (oI ((x.ws s.L).map λw=>w.getD (ad % 16).toNat 0)));rw[ah (aR (Pg.lQ x _ rfl)),hw];cases x with
  | own w0=>
   cases hw;refine aZ ?_;rw[bB (by kernel_rfl)]
   exact bE (aH (x:=W w) rfl (bT (u:=16) rfl rfl (by decide)) (yj QN))
  | bR n=>
   rw[ah (aR (by kernel_rfl))]
   exact aZ (bE (aH (aH (w6 rfl) (y:=.int n) rfl (rD hw)) (bT (u:=16) rfl rfl (by decide)) (yj QN)))
end
theorem L9(h:w.length=16)(h0:0<=i)(h1:i<16):pf [W w,.int i,.int v]=.ok (W (w.set i.toNat v)):=by
 rw[pf];refine cf (bE ?_);have hn:i.toNat<16:=by omega
 have a1:(jP (aa 0) none (some (aa 1))) [.sh (W w),.sh (.int i),.sh (.int v)]=.ok (.tup ((w.take i.toNat).map .int)):=by
  show(if bp (w.map D.int).length 0 none=0/\bp (w.map D.int).length (w.map D.int).length (some i)=(w.map D.int).length then R.bad else R.ok (D.tup (cut (w.map D.int) none (some i))))=_
  rw[DF (λz=>by have z2:=z.2;rw[l8 h0,GE,h]at z2;omega),Fn _ h0,List.map_take]
 have a2:(jP (aa 0) (some (e2 bb (aa 1) (eC (.int 1)))) none) [.sh (W w),.sh (.int i),.sh (.int v)]=.ok (.tup ((w.drop (i.toNat+1)).map .int)):=by
  show(if bp (w.map D.int).length 0 (some (i+1))=0/\bp (w.map D.int).length (w.map D.int).length none=(w.map D.int).length then R.bad else R.ok (D.tup (cut (w.map D.int) (some (i+1)) none)))=_
  rw[DF (by rw[l8 (by omega),GE,h];omega),IZ _ (by omega),List.map_drop,show(i+1).toNat=i.toNat+1 by omega]
 have a3:(e2 qR (jP (aa 0) none (some (aa 1))) (aP [aa 2])) [.sh (W w),.sh (.int i),.sh (.int v)]=.ok (.tup ((w.take i.toNat++[v]).map .int)):=by
  refine aH a1 (y:=.tup [.int v]) rfl ?_;rw[ZQ];cases ht:(w.take i.toNat).map D.int with
  |nil=>rfl
  | cons x xs=>
   show(if(x::xs).isEmpty=false/\(x::xs).length+[D.int v].length<=d4 then R.ok (D.tup (x::xs++[.int v]))else .bad)=_
   have hl:(x::xs).length<=16:=by rw[<-ht,GE,ZF];omega
   rw[AC ⟨rfl,by show _+1<=16777216;omega⟩];rfl
 show e2 bb _ _ [.sh (W w),.sh (.int i),.sh (.int v)]=_;refine aH (o:=bb) a3 a2 ?_;show(if((w.take i.toNat++[v]).map D.int).isEmpty=false/\((w.take i.toNat++[v]).map D.int).length+((w.drop (i.toNat+1)).map D.int).length<=d4 then R.ok (D.tup ((w.take i.toNat++[v]).map D.int++(w.drop (i.toNat+1)).map D.int))else .bad)=_
 rw[AC ⟨by simp,by rw[GE,GE,KM,ZF,aaT,h];show _<=16777216;simp;omega⟩, <-ZQ,List.set_eq_take_append_cons_drop,AC (by omega)]
 simp[W]
section
variable{s:St}{q q':Q}{t:Int}{ρ:En}{a b:Ex}{ks:List Ky}{vs:List D}
theorem Em(hl:s.K.length<900)(hg:q.pg.length<900)(hA:look t s.K=some q):oA [s.d,.int t,.int p,x.d]=.ok {s with K:=aF t {q with pg:=aF p x q.pg} s.K:St}.d:=by
 rw[oA];refine cf ?_;show az _ [.sh s.d,.sh (.int t),.sh (.int p),.sh x.d,.un]=_;rw[ah (bh (nM (as':=ak (aF p x q.pg)) (bs':=av Pg.d (aF p x q.pg)) (uE rfl rfl hA) (ks:=[.inl p]) (vs:=[x.d]) rfl (by rw[j4];show 1+_<1000;omega) (by show((putL (.inl p) x.d (ak q.pg) (av Pg.d q.pg)).1,(putL (.inl p) x.d (ak q.pg) (av Pg.d q.pg)).2)=_;rw[uX rfl])))]
 exact aZ (bE (dC rfl rfl rfl (AG (q':={q with pg:=aF p x q.pg}) hl hA (by kernel_rfl) (by decide))))
theorem M6(hl:s.L.length<900):pP [s.d,.int n,W w]=.ok {s with L:=aF n w s.L:St}.d:=by
 rw[pP];refine cf (bE ?_);show eX _ [.sh s.d,.sh (.int n),.sh (W w)]=_;have e1:eX (cF gm [e2 ag (aa 0) (eC (S "lent")),qL (aa 1) (aa 2)]) [.sh s.d,.sh (.int n),.sh (W w)]=.ok (.aA (ak (aF n w s.L)) (av W (aF n w s.L))):=nM (w6 rfl) (ks:=[.inl n]) (vs:=[W w]) rfl (by rw[j4];show 1+_<1000;omega) (by show((putL (.inl n) (W w) (ak s.L) (av W s.L)).1,(putL (.inl n) (W w) (ak s.L) (av W s.L)).2)=_;rw[uX rfl])
 refine nM (as:=SK) (ks:=[.inr (Str.ofString "lent")]) (vs:=[.aA (ak (aF n w s.L)) (av W (aF n w s.L))]) rfl ?_ (by decide) (by kernel_rfl)
 show(eW [_] [_]) _=_;unfold eW;simp only[eList,e1,R.bo]
noncomputable def St.i4(s:St)(t:Int)(q:Q)(a v:Int):St:=match look (a / 16) q.pg with
 |some (.own w)=>{s with K:=aF t {q with pg:=aF (a / 16) (.own (w.set (a % 16).toNat v)) q.pg} s.K}
 | some (.bR n)=>match look n s.L with
  |some w=>{s with L:=aF n (w.set (a % 16).toNat v) s.L}
  |none=>s
 |none=>s
theorem Im(hl:s.K.length<900)(hL:s.L.length<900)(hg:q.pg.length<900)(hA:look t s.K=some q)(hx:look (ad / 16) q.pg=some x)(hp:x.ok s.L):pd [s.d,.int t,.int ad,.int v]=.ok (s.i4 t q ad v).d:=by
 obtain⟨w,hw,QN,_⟩:=hp;rw[pd];refine cf ?_;show az _ [.sh s.d,.sh (.int t),.sh (.int ad),.sh (.int v),.un,.un,.un]=_;rw[ah (bh (cM (u:=16) rfl rfl (by decide)))]
 rw[ah (bh (d:=x.d) (dC rfl rfl rfl (by rw[AW hA,hx];rfl)))]
 show az _ [.sh s.d,.sh (.int t),.sh (.int ad),.sh (.int v),.sh (.int (ad / 16)),.sh x.d,.un]=_;rw[ah (aR (Pg.lQ x _ rfl))];rw[ah (bh (dC (dY rfl rfl (A9 hw)) (bT (u:=16) rfl rfl (by decide)) rfl (L9 QN (by omega) (by omega))))]
 unfold St.i4;rw[hx];cases x with
 | own w0=>
  cases hw;refine aZ ?_;rw[bB (by kernel_rfl)]
  exact bE (vJ rfl rfl rfl (w:=Pg.d (.own (w.set (ad % 16).toNat v))) rfl (Em hl hg hA))
 | bR n=>
  rw[ah (aR (by kernel_rfl))]
  have hw:look n s.L=some w:=hw;show _=R.ok (Fl.ret (St.d (match look n s.L with|some w=>{s with L:=aF n (w.set (ad % 16).toNat v) s.L}|none=>s)))
  rw[hw];exact aZ (bE (dC rfl (y:=.int n) rfl rfl (M6 hL)))
end
inductive Td where
 |cP (w:String)|row|sQ (x y z w:Int)
noncomputable def Td.d:Td->D
 |.cP w=>.tup [S "fault",S w]
 |.row=>.tup [S "row"]
 |.sQ x y z w=>.tup [S "call",.int x,.int y,.int z,.int w]
noncomputable def Td.ph:Td->Bool
 |.cP _=>true
 |_=>false
structure Dd where
 told:Td
 rg:Xj
 nx:Int
 st:Option (Int×Int)
noncomputable def Dd.sd(x:Dd):D:=match x.st with
 |none=>.aE
 |some p=>.tup [.int p.1,.int p.2]
noncomputable def Dd.d(x:Dd):D:=.tup [x.told.d,.lst (x.rg.map .int),.int x.nx,x.sd]
noncomputable def cP(w:String)(rg:Xj)(at_:Int):Dd:=⟨.cP w,rg,at_,none⟩
noncomputable def bK(i:Int):Int:=(i+1) % 4294967296
noncomputable def ra(rg:Xj)(a:Int):Int:=rg.getD a.toNat 0
noncomputable def adr(rg:Xj)(b n:Int):Int:=(ra rg b+n) % 4294967296
noncomputable def xA:Nat->Int->Int->Option Int
 |3,x,y=>some ((x+y) % 4294967296)
 |4,x,y=>some ((x - y) % 4294967296)
 |5,x,y=>some (x*y % 4294967296)
 |6,x,y=>if y=0 then none else some (x / y)
 |7,x,y=>if y=0 then none else some (x % y)
 |8,x,y=>some (if x<y then 1 else 0)
 |_,x,y=>some (if x=y then 1 else 0)
noncomputable def rk(rg:Xj):Rw->Option Int
 |.put _ n=>some n
 |.high a n=>some (n*65536+ra rg a % 65536)
 |.copy _ b=>some (ra rg b)
 |.op k _ b c=>xA k (ra rg b) (ra rg c)
 |_=>none
noncomputable def Rw.a:Rw->Int
 |.put a _=>a
 |.high a _=>a
 |.copy a _=>a
 |.op _ a _ _=>a
 |.load a _ _=>a
 |_=>0
noncomputable def dX(V:Int->Option Int)(rg:Xj)(i:Int):Rw->Dd
 | .load a b n=>match V (adr rg b n)with
  |none=>cP "page" rg i
  |some v=>⟨.row,rg.set a.toNat v,bK i,none⟩
 | .store a b n=>match V (adr rg b n)with
  |none=>cP "page" rg i
  |some _=>⟨.row,rg,bK i,some (adr rg b n,ra rg a)⟩
 |.gG n=>⟨.row,rg,n,none⟩
 |.fL a n=>⟨.row,rg,if ra rg a=0 then bK i else n,none⟩
 |.call=>⟨.sQ (ra rg 0) (ra rg 1) (ra rg 2) (ra rg 3),rg,bK i,none⟩
 | r=>match rk rg r with
  |none=>cP "cut" rg i
  |some v=>⟨.row,rg.set r.a.toNat v,bK i,none⟩
noncomputable def dh(V:Int->Option Int)(rg:Xj)(i:Int):Dd:=match V i with
 |none=>cP "page" rg i
 | some w=>match dec w with
  |none=>cP "code" rg i
  |some r=>dX V rg i r
section
variable{V:Int->Option Int}{rg:Xj}{i a b n v:Int}
theorem nZ(hv:V (adr rg b n)=none):dX V rg i (.load a b n)=cP "page" rg i:=by
 show(match V (adr rg b n)with|none=>cP "page" rg i|some v=>⟨.row,rg.set a.toNat v,bK i,none⟩)=_
 rw[hv]
theorem pR(hv:V (adr rg b n)=some v):dX V rg i (.load a b n)=⟨.row,rg.set a.toNat v,bK i,none⟩:=by
 show(match V (adr rg b n)with|none=>cP "page" rg i|some v=>⟨.row,rg.set a.toNat v,bK i,none⟩)=_
 rw[hv]
theorem pD(hv:V (adr rg b n)=none):dX V rg i (.store a b n)=cP "page" rg i:=by
 show(match V (adr rg b n)with|none=>cP "page" rg i|some v=>⟨.row,rg,bK i,some (adr rg b n,ra rg a)⟩)=_
 rw[hv]
theorem m7(hv:V (adr rg b n)=some v):dX V rg i (.store a b n)=⟨.row,rg,bK i,some (adr rg b n,ra rg a)⟩:=by
 show(match V (adr rg b n)with|none=>cP "page" rg i|some v=>⟨.row,rg,bK i,some (adr rg b n,ra rg a)⟩)=_
 rw[hv]
def Rw.rk:Rw->Prop
 |.put _ _=>True
 |.high _ _=>True
 |.copy _ _=>True
 |.op _ _ _ _=>True
 |_=>False
theorem pE(h:r.rk):dX V rg i r=(match ft.rk rg r with|none=>cP "cut" rg i|some v=>⟨.row,rg.set r.a.toNat v,bK i,none⟩):=by
 cases r<;>first|rfl|exact h.elim
end
section
variable{rg:Xj}{a b c n i:Int}{e:Ex}{ρ:En}
theorem dW(h8:rg.length=8)(ha:B8 a):ag (.lst (rg.map .int)) (.int a)=.ok (.int (ra rg a)):=by
 obtain⟨h0,h1⟩:=ha;obtain⟨x,hx,e⟩:=jq (xs:=rg) h0 (by omega)
 refine jc ?_;rw[e];have h2:a.toNat<rg.length:=by omega
 rw[uJ h0 (by rw[GE];omega)]at e
 simp at e;unfold ra;rw[W1,Fk h2, <-e];rfl
theorem nU(h8:rg.length=8)(hw:Ws rg)(ha:B8 a):0<=ra rg a/\ra rg a<4294967296:=by
 obtain⟨h0,h1⟩:=ha;have h2:a.toNat<rg.length:=by omega
 unfold ra;rw[W1,Fk h2];exact hw _ (abt h2)
theorem Dn:c7 [.int x]=.ok (.int (x % 4294967296)):=by
 rw[c7];exact cf (bE (bT rfl (show(e2 b7 (eC (.int 2)) (eC (.int 32))) _=.ok (.int 4294967296)from rfl) (by decide)))
theorem il(he:e ρ=.ok (.int x)):aI c7 [e] ρ=.ok (.int (x % 4294967296)):=fm he Dn
theorem Bp(h8:rg.length=8)(ha:B8 a):i5 [.lst (rg.map .int),.int a,.int v]=.ok (.lst ((rg.set a.toNat v).map .int)):=by
 rw[i5];refine cf ?_;show az _ [.sh (.lst (rg.map .int)),.sh (.int a),.sh (.int v),.un]=_;rw[ah (ρ':=[.sh (.lst (rg.map .int)),.sh (.int a),.sh (.int v),.ol (rg.map .int)]) rfl];rw[ah (zI (xs:=rg.map .int) (m:=a.toNat) rfl rfl rfl (p7 ha.1 (by rw[GE];have:=ha.2;omega)))]
 rw[show(rg.map D.int).set a.toNat (.int v)=(rg.set a.toNat v).map .int from by rw[aaZ]]
 rfl
variable{x:Int}{y:Int}
theorem Aw(k:Bool)(hn:nm=if k then S "cut" else S "rest")(y0:0<=y)(y1:y<4294967296):nE [nm,.int x,.int y]=.ok (oI (if y=0 then none else some (if k then x / y else x % y))):=by
 rw[nE];refine cf ?_;show az _ [.sh nm,.sh (.int x),.sh (.int y)]=_;by_cases h:y=0
 ·subst h;exact aZ rfl
 ·have hy:0<y:=by omega
  rw[DF h,ah (aR (bz (by rw[gq rfl rfl,KB h])))]
  refine aZ (bE ?_);cases k with
  | true=>
   subst hn;rw[my (by kernel_rfl)]
   exact cM rfl rfl (by unfold pC;rw[FS hy,FS (show y<340282366920938463463374607431768211456 by omega)];rfl)
  | false=>
   subst hn;rw[jy (by kernel_rfl)]
   exact bT rfl rfl hy
theorem DC(h3:3<=k)(OV:k<10)(x0:0<=x)(x1:x<4294967296)(y0:0<=y)(y1:y<4294967296):oU [iD k,.int x,.int y]=.ok (oI (xA k x y)):=by
 rw[oU];refine cf ?_;show az _ [.sh (iD k),.sh (.int x),.sh (.int y)]=_
 match k,h3,OV with
 |3,_,_=>exact aZ (Os (bB (by kernel_rfl)) (bE (il (cD rfl rfl))))
 |4,_,_=>rw[ah (aR (by kernel_rfl))];exact aZ (Os (bB (by kernel_rfl)) (bE (il (xr rfl rfl))))
 |5,_,_=>rw[ah (aR (by kernel_rfl)),ah (aR (by kernel_rfl))];exact aZ (Os (bB (by kernel_rfl)) (bE (il (dB rfl rfl (.inl (rH x0 (by omega)))))))
 | 8,_,_=>
  rw[ah (aR (by kernel_rfl)),ah (aR (by kernel_rfl)),ah (aR (by kernel_rfl))]
  refine aZ (Os (bB (by kernel_rfl)) (bE ?_))
  show _=R.ok (D.int (if x<y then 1 else 0))
  by_cases h:x<y
  ·rw[my (bz (by rw[uC rfl rfl,FS h])),AC h];rfl
  ·rw[jy (bz (by rw[uC rfl rfl,KB h])),DF h];rfl
 | 9,_,_=>
  rw[ah (aR (by kernel_rfl)),ah (aR (by kernel_rfl)),ah (aR (by kernel_rfl)),ah (aR (by kernel_rfl))]
  refine aZ (Os (bB (by kernel_rfl)) (bE ?_))
  show _=R.ok (D.int (if x=y then 1 else 0))
  by_cases h:x=y
  ·rw[my (bz (by rw[gq rfl rfl,FS h])),AC h];rfl
  ·rw[jy (bz (by rw[gq rfl rfl,KB h])),DF h];rfl
 | 6,_,_=>
  rw[ah (aR (by kernel_rfl)),ah (aR (by kernel_rfl)),ah (aR (by kernel_rfl)),ah (aR (by kernel_rfl)),ah (aR (by kernel_rfl))]
  exact aZ (bE (dC rfl rfl rfl (Aw true rfl y0 y1)))
 | 7,_,_=>
  rw[ah (aR (by kernel_rfl)),ah (aR (by kernel_rfl)),ah (aR (by kernel_rfl)),ah (aR (by kernel_rfl)),ah (aR (by kernel_rfl))]
  exact aZ (bE (dC rfl rfl rfl (Aw false rfl y0 y1)))
theorem GP(h8:rg.length=8)(hw:Ws rg)(hr:r.ok)(hk:r.rk):jI [r.d,.lst (rg.map .int)]=.ok (oI (ft.rk rg r)):=by
 cases r with
 | put a n=>
  obtain⟨_,hn⟩:=hr;rw[jI];refine cf ?_;show az _ [.sh (.tup [S "put",.int a,.int n]),.sh (.lst (rg.map .int)),.un]=_;rw[ah (bh (d:=S "put") rfl)];refine aZ (Os (bB (by kernel_rfl)) (bE ?_))
  rw[il (x:=n) rfl,show n % 4294967296=n from by have:=hn.1;have:=hn.2;omega];rfl
 | high a n=>
  obtain⟨ha,hn⟩:=hr;rw[jI];refine cf ?_;show az _ [.sh (.tup [S "high",.int a,.int n]),.sh (.lst (rg.map .int)),.un]=_;rw[ah (bh (d:=S "high") rfl),ah (aR (by kernel_rfl))]
  refine aZ (Os (bB (by kernel_rfl)) (bE ?_))
  rw[il (cD (dB (i:=n) rfl (show(e2 b7 (eC (.int 2)) (eC (.int 16))) _=.ok (.int 65536)from rfl) (.inr (by decide))) (bT (aH (y:=.int a) rfl rfl (dW h8 ha)) (show(e2 b7 (eC (.int 2)) (eC (.int 16))) _=.ok (.int 65536)from rfl) (by decide)))]
  rw[show(n*65536+ra rg a % 65536) % 4294967296=n*65536+ra rg a % 65536 from by have:=hn.1;have:=hn.2;omega];rfl
 | copy a b=>
  obtain⟨_,hb⟩:=hr;rw[jI];refine cf ?_;show az _ [.sh (.tup [S "copy",.int a,.int b]),.sh (.lst (rg.map .int)),.un]=_;rw[ah (bh (d:=S "copy") rfl),ah (aR (by kernel_rfl)),ah (aR (by kernel_rfl))]
  refine aZ (Os (bB (by kernel_rfl)) (bE ?_))
  rw[il (aH (y:=.int b) rfl rfl (dW h8 hb)),show ra rg b % 4294967296=ra rg b from by have:=nU h8 hw hb;omega];rfl
 | op k a b c=>
  obtain⟨⟨h3,OV⟩,_,hb,hc⟩:=hr;rw[jI];refine cf ?_;show az _ [.sh (.tup [iD k,.int a,.int b,.int c]),.sh (.lst (rg.map .int)),.un]=_;rw[ah (bh (d:=iD k) rfl)]
  have no:∀x:String,x="put"\/x="high"\/x="copy"->oEq (iD k) (S x)=.ok (.bl false):=λx hx=>by
   match k,h3,OV with
   |3,_,_=>rcases hx with rfl|rfl|rfl<;>kernel_rfl
   |4,_,_=>rcases hx with rfl|rfl|rfl<;>kernel_rfl
   |5,_,_=>rcases hx with rfl|rfl|rfl<;>kernel_rfl
   |6,_,_=>rcases hx with rfl|rfl|rfl<;>kernel_rfl
   |7,_,_=>rcases hx with rfl|rfl|rfl<;>kernel_rfl
   |8,_,_=>rcases hx with rfl|rfl|rfl<;>kernel_rfl
   |9,_,_=>rcases hx with rfl|rfl|rfl<;>kernel_rfl
  rw[ah (aR (bz (aH rfl rfl (no "put" (.inl rfl))))),ah (aR (bz (aH rfl rfl (no "high" (.inr (.inl rfl)))))),ah (aR (bz (aH rfl rfl (no "copy" (.inr (.inr rfl))))))];have hx:=nU h8 hw hb;have hy:=nU h8 hw hc;exact aZ (bE (dC rfl (aH (y:=.int b) rfl rfl (dW h8 hb)) (aH (y:=.int c) rfl rfl (dW h8 hc)) (DC h3 OV hx.1 hx.2 hy.1 hy.2)))
 |_=>exact hk.elim
end
structure OS(s:St)(t:Int)(q:Q):Prop where
 hl:s.K.length<900
 hL:s.L.length<900
 hg:q.pg.length<900
 lk:look t s.K=some q
 nx:fZ s.d=true
 pg:∀p x,look p q.pg=some x->x.ok s.L
 r8:q.rg.length=8
 rw:Ws q.rg
section
variable{s:St}{q:Q}{t:Int}{rg:Xj}{i ad:Int}{ρ:En}{e:Ex}{j:Nat}
noncomputable abbrev St.dN(s:St)(t:Int):D:=qy "plain_row" [s.d,.int t]
theorem CW(h:OS s t q)(e:wd s.L q.pg ad=some v):0<=v/\v<4294967296:=by
 unfold wd at e;cases hx:look (ad / 16) q.pg with
 |none=>rw[hx]at e;cases e
 | some x=>
  obtain⟨w,hw,QN,hW⟩:=h.pg _ x hx;rw[hx,acA,hw]at e;cases e;have h2:(ad % 16).toNat<w.length:=by omega
  show 0<=w.getD (ad % 16).toNat 0/\w.getD (ad % 16).toNat 0<4294967296;rw[W1,Fk h2];exact hW _ (abt h2)
theorem Ik(h:OS s t q):jJ [.int ad,s.d,.int t]=.ok (oI (wd s.L q.pg ad)):=by
 rw[jJ];unfold oS;rw[AC (by show(fZ (.int ad)&&(fZ s.d&&(fZ (.int t)&&true)))=true;rw[h.nx];rfl)]
 exact dC rfl rfl rfl (FD h.lk λx hx=>h.pg _ x hx)
theorem callC(h:OS s t q)(hj:ρ[j]? =some (.sh (s.dN t)))(he:e ρ=.ok (.int ad)):lS j "plain_row" jJ e ρ=.ok (oI (wd s.L q.pg ad)):=by
 unfold lS;rw[hj];show(if _ then _ else _)=_
 rw[AC rfl,he,R.bo];exact Ik h
theorem Fz(h:OS s t q)(h8:rg.length=8):∀ {r:Rw},r.ok->(∃a b n,r=.load a b n\/r=.store a b n)->oW [r.d,.lst (rg.map .int),.int i,s.dN t]=.ok (dX (wd s.L q.pg) rg i r).d:=by
 rintro r hr ⟨a,b,n,hk⟩;rw[oW];refine cf ?_;have hb:B8 b:=by rcases hk with rfl|rfl<;>exact hr.2.1
 have ha:B8 a:=by rcases hk with rfl|rfl<;>exact hr.1
 show az _ [.sh r.d,.sh (.lst (rg.map .int)),.sh (.int i),.sh (s.dN t),.un,.un]=_;rw[ah (bh (il (cD (aH (y:=.int b) rfl (by rcases hk with rfl|rfl<;>rfl) (dW h8 hb)) (u:=n) (by rcases hk with rfl|rfl<;>rfl))))]
 rw[ah (bh (callC h rfl rfl))];show az _ [.sh r.d,.sh (.lst (rg.map .int)),.sh (.int i),.sh (s.dN t),.sh (.int (adr rg b n)),.sh (oI (wd s.L q.pg (adr rg b n)))]=_;cases hv:wd s.L q.pg (adr rg b n)with
 | none=>
  refine aZ (Os (bB rfl) ?_);rcases hk with rfl|rfl
  ·rw[nZ hv];rfl
  ·rw[pD hv];rfl
 | some v=>
  rw[ah (aR rfl)];rcases hk with rfl|rfl
  ·refine aZ (Os (bB (by kernel_rfl)) ?_)
   rw[pR hv];have e1:aI i5 [aa 1,e2 ag (aa 0) (eC (.int 1)),aa 5] [.sh (Rw.load a b n).d,.sh (.lst (rg.map .int)),.sh (.int i),.sh (s.dN t),.sh (.int (adr rg b n)),.sh (oI (some v))]=.ok (.lst ((rg.set a.toNat v).map .int)):=dC rfl (y:=.int a) rfl (z:=.int v) rfl (Bp h8 ha);have eN:aI c7 [e2 bb (aa 2) (eC (.int 1))] [.sh (Rw.load a b n).d,.sh (.lst (rg.map .int)),.sh (.int i),.sh (s.dN t),.sh (.int (adr rg b n)),.sh (oI (some v))]=.ok (.int (bK i)):=il (cD rfl rfl);refine bE ?_;unfold aP;simp only[eList,e1,eN,R.bo];rfl
  ·rw[ah (aR (by kernel_rfl))]
   rw[m7 hv];have e1:e2 ag (aa 1) (e2 ag (aa 0) (eC (.int 1))) [.sh (Rw.store a b n).d,.sh (.lst (rg.map .int)),.sh (.int i),.sh (s.dN t),.sh (.int (adr rg b n)),.sh (oI (some v))]=.ok (.int (ra rg a)):=aH rfl (y:=.int a) rfl (dW h8 ha);have eN:aI c7 [e2 bb (aa 2) (eC (.int 1))] [.sh (Rw.store a b n).d,.sh (.lst (rg.map .int)),.sh (.int i),.sh (s.dN t),.sh (.int (adr rg b n)),.sh (oI (some v))]=.ok (.int (bK i)):=il (cD rfl rfl);refine aZ (bE ?_);unfold aP;simp only[eList,e1,eN,aP,R.bo];rfl
theorem Ey(h8:rg.length=8):∀ {r:Rw},r.ok->(r=.call\/(∃n,r=.gG n)\/∃a n,r=.fL a n)->oB [r.d,.lst (rg.map .int),.int i]=.ok (dX V rg i r).d:=by
 rintro r hr hk;rw[oB];refine cf ?_;show az _ [.sh r.d,.sh (.lst (rg.map .int)),.sh (.int i)]=_;have eN:aI c7 [e2 bb (aa 2) (eC (.int 1))] [.sh r.d,.sh (.lst (rg.map .int)),.sh (.int i)]=.ok (.int (bK i)):=il (cD rfl rfl);rcases hk with rfl|⟨n,rfl⟩|⟨a,n,rfl⟩
 ·refine aZ (Os (bB (by kernel_rfl)) (bE ?_))
  have k0:e2 ag (aa 1) (eC (.int 0)) [.sh Rw.call.d,.sh (.lst (rg.map .int)),.sh (.int i)]=.ok (.int (ra rg 0)):=aH rfl rfl (dW h8 ⟨by decide,by decide⟩)
  have k1:e2 ag (aa 1) (eC (.int 1)) [.sh Rw.call.d,.sh (.lst (rg.map .int)),.sh (.int i)]=.ok (.int (ra rg 1)):=aH rfl rfl (dW h8 ⟨by decide,by decide⟩)
  have k2:e2 ag (aa 1) (eC (.int 2)) [.sh Rw.call.d,.sh (.lst (rg.map .int)),.sh (.int i)]=.ok (.int (ra rg 2)):=aH rfl rfl (dW h8 ⟨by decide,by decide⟩)
  have k3:e2 ag (aa 1) (eC (.int 3)) [.sh Rw.call.d,.sh (.lst (rg.map .int)),.sh (.int i)]=.ok (.int (ra rg 3)):=aH rfl rfl (dW h8 ⟨by decide,by decide⟩)
  unfold aP;simp only[eList,k0,k1,k2,k3,eN,aP,R.bo];rfl
 ·rw[ah (aR (by kernel_rfl)),ah (aR (K8 (by kernel_rfl)))]
  exact aZ (bE rfl)
 ·rw[ah (aR (by kernel_rfl))]
  have c1:=yx (t:=tV (e2 oEq (e2 ag (aa 0) (eC (.int 0))) (eC (S "if")))) (ρ:=[.sh (Rw.fL a n).d,.sh (.lst (rg.map .int)),.sh (.int i)]) (b:=true) (by kernel_rfl) (bz (gq (u:=0) (aH (o:=ag) (a:=aa 1) (b:=e2 ag (aa 0) (eC (.int 1))) rfl (y:=.int a) rfl (dW h8 hr.1)) (b:=eC (.int 0)) rfl))
  show _=R.ok (Fl.ret (Dd.d ⟨.row,rg,if ra rg a=0 then bK i else n,none⟩))
  by_cases hz:ra rg a=0
  ·rw[FS hz]at c1
   refine aZ (Os (bB c1) (bE ?_));rw[AC hz];unfold aP;simp only[eList,eN,aP,R.bo];rfl
  ·rw[KB hz]at c1
   rw[ah (aR c1),DF hz];exact aZ (bE rfl)
theorem qU(r:Rw):(∃a b n,r=.load a b n\/r=.store a b n)\/(r=.call\/(∃n,r=.gG n)\/∃a n,r=.fL a n)\/r.rk:=by
 cases r with
 |load a b n=>exact .inl ⟨a,b,n,.inl rfl⟩
 |store a b n=>exact .inl ⟨a,b,n,.inr rfl⟩
 |call=>exact .inr (.inl (.inl rfl))
 |gG n=>exact .inr (.inl (.inr (.inl ⟨n,rfl⟩)))
 |fL a n=>exact .inr (.inl (.inr (.inr ⟨a,n,rfl⟩)))
 |_=>exact .inr (.inr True.intro)
noncomputable def Rw.nm:Rw->D
 |.put _ _=>S "put"
 |.high _ _=>S "high"
 |.copy _ _=>S "copy"
 |.op k _ _ _=>iD k
 |.load _ _ _=>S "load"
 |.store _ _ _=>S "store"
 |.gG _=>S "jump"
 |.fL _ _=>S "if"
 |.call=>S "call"
theorem ke(r:Rw)(he:e ρ=.ok r.d):e2 ag e (eC (.int 0)) ρ=.ok r.nm:=aH he rfl (by cases r<;>rfl)
theorem xt{r:Rw}(hr:r.ok)(z0:Bool)(h:z0=true↔∃a b n,r=.load a b n\/r=.store a b n):ck r.nm (.tup [S "load",S "store"])=.ok (.bl z0):=by
 cases r with
 |load a b n=>rw[show z0=true from h.mpr ⟨_,_,_,.inl rfl⟩];kernel_rfl
 |store a b n=>rw[show z0=true from h.mpr ⟨_,_,_,.inr rfl⟩];kernel_rfl
 | op k a b c=>
  rw[show z0=false from aaO.mpr λz=>by obtain⟨_,_,_,z|z⟩:=h.mp z<;>cases z]
  obtain⟨⟨h3,OV⟩,_⟩:=hr
  match k,h3,OV with
  |3,_,_=>kernel_rfl
  |4,_,_=>kernel_rfl
  |5,_,_=>kernel_rfl
  |6,_,_=>kernel_rfl
  |7,_,_=>kernel_rfl
  |8,_,_=>kernel_rfl
  |9,_,_=>kernel_rfl
 |_=>rw[show z0=false from aaO.mpr λz=>by obtain⟨_,_,_,z|z⟩:=h.mp z<;>cases z];kernel_rfl
theorem yI{r:Rw}(hr:r.ok)(z0:Bool)(h:z0=true↔(r=.call\/(∃n,r=.gG n)\/∃a n,r=.fL a n)):ck r.nm (.tup [S "jump",S "if",S "call"])=.ok (.bl z0):=by
 cases r with
 |call=>rw[show z0=true from h.mpr (.inl rfl)];kernel_rfl
 |gG n=>rw[show z0=true from h.mpr (.inr (.inl ⟨_,rfl⟩))];kernel_rfl
 |fL a n=>rw[show z0=true from h.mpr (.inr (.inr ⟨_,_,rfl⟩))];kernel_rfl
 | op k a b c=>
  rw[show z0=false from aaO.mpr λz=>by obtain z|⟨_,z⟩|⟨_,_,z⟩:=h.mp z<;>cases z]
  obtain⟨⟨h3,OV⟩,_⟩:=hr
  match k,h3,OV with
  |3,_,_=>kernel_rfl
  |4,_,_=>kernel_rfl
  |5,_,_=>kernel_rfl
  |6,_,_=>kernel_rfl
  |7,_,_=>kernel_rfl
  |8,_,_=>kernel_rfl
  |9,_,_=>kernel_rfl
 |_=>rw[show z0=false from aaO.mpr λz=>by obtain z|⟨_,z⟩|⟨_,_,z⟩:=h.mp z<;>cases z];kernel_rfl
theorem Rw.lQ(r:Rw)(he:e ρ=.ok r.d):(tV (e1 eK e)) ρ=.ok false:=bz (fz he (by cases r<;>rfl))
theorem Gn(h:OS s t q)(h8:rg.length=8)(hw:Ws rg):kh [.lst (rg.map .int),.int i,s.dN t]=.ok (dh (wd s.L q.pg) rg i).d:=by
 rw[kh];refine cf ?_;show az _ [.sh (.lst (rg.map .int)),.sh (.int i),.sh (s.dN t),.un,.un,.un]=_;rw[ah (bh (callC h rfl rfl))];unfold dh;cases hv:wd s.L q.pg i with
 |none=>exact aZ (Os (bB rfl) rfl)
 | some w=>
  have hW:=CW h hv;show az _ [.sh (.lst (rg.map .int)),.sh (.int i),.sh (s.dN t),.sh (.int w),.un,.un]=_;rw[ah (aR rfl),ah (bh (fm rfl (Jf hW.1 hW.2)))];show az _ [.sh (.lst (rg.map .int)),.sh (.int i),.sh (s.dN t),.sh (.int w),.sh (oR (dec w)),.un]=.ok (.ret (Dd.d (match dec w with|none=>cP "code" rg i|some r=>dX (wd s.L q.pg) rg i r)))
  cases hd:dec w with
  |none=>exact aZ (Os (bB rfl) rfl)
  | some r=>
   have hr:=CS hd;show az _ [.sh (.lst (rg.map .int)),.sh (.int i),.sh (s.dN t),.sh (.int w),.sh r.d,.un]=.ok (.ret (dX (wd s.L q.pg) rg i r).d);rw[ah (aR (r.lQ rfl))];rcases qU r with hk|hk|hk
   ·exact aZ (Os (bB (bz (aH (ke r rfl) rfl (xt hr true ⟨λ_=>hk,λ_=>rfl⟩)))) (bE (vJ rfl rfl rfl rfl (Fz h h8 hr hk))))
   ·rw[ah (aR (bz (aH (ke r rfl) rfl (xt hr false ⟨(λz=>nomatch z),λz=>by obtain⟨_,_,_,z|z⟩:=z<;>subst z<;>rcases hk with hk|⟨_,hk⟩|⟨_,_,hk⟩<;>cases hk⟩))))]
    exact aZ (Os (bB (bz (aH (ke r rfl) rfl (yI hr true ⟨λ_=>hk,λ_=>rfl⟩)))) (bE (dC rfl rfl rfl (Ey h8 hr hk))))
   ·rw[ah (aR (bz (aH (ke r rfl) rfl (xt hr false ⟨(λz=>nomatch z),λz=>by obtain⟨_,_,_,z|z⟩:=z<;>subst z<;>exact hk.elim⟩))))]
    rw[ah (aR (bz (aH (ke r rfl) rfl (yI hr false ⟨(λz=>nomatch z),λz=>by obtain z|⟨_,z⟩|⟨_,_,z⟩:=z<;>subst z<;>exact hk.elim⟩))))]
    rw[ah (bh (dY rfl rfl (GP h8 hw hr hk))),pE hk];show az _ [.sh (.lst (rg.map .int)),.sh (.int i),.sh (s.dN t),.sh (.int w),.sh r.d,.sh (oI (rk rg r))]=_;cases R9:rk rg r with
    |none=>exact aZ (Os (bB rfl) rfl)
    | some v=>
     rw[ah (aR rfl)];have ha:B8 r.a:=by cases r<;>first|exact hr.1|exact hr.2.1|exact hk.elim
     have e0:e2 ag (aa 4) (eC (.int 1)) [.sh (.lst (rg.map .int)),.sh (.int i),.sh (s.dN t),.sh (.int w),.sh r.d,.sh (.int v)]=.ok (.int r.a):=aH (x:=r.d) rfl rfl (by cases r<;>first|rfl|exact hk.elim)
     have e1:aI i5 [aa 0,e2 ag (aa 4) (eC (.int 1)),aa 5] [.sh (.lst (rg.map .int)),.sh (.int i),.sh (s.dN t),.sh (.int w),.sh r.d,.sh (.int v)]=.ok (.lst ((rg.set r.a.toNat v).map .int)):=dC rfl e0 rfl (Bp h8 ha);have eN:aI c7 [e2 bb (aa 1) (eC (.int 1))] [.sh (.lst (rg.map .int)),.sh (.int i),.sh (s.dN t),.sh (.int w),.sh r.d,.sh (.int v)]=.ok (.int (bK i)):=il (cD rfl rfl);refine aZ (bE ?_);show aP _ [.sh (.lst (rg.map .int)),.sh (.int i),.sh (s.dN t),.sh (.int w),.sh r.d,.sh (.int v)]=_;unfold aP;simp only[eList,e1,eN,aP,R.bo];rfl
theorem CY:∀w:Xj,gU (w.map .int)=true
 |[]=>rfl
 |x::w=>by show(true&&gU (w.map .int))=true;rw[CY w];rfl
theorem Fd(x:Dd):fZ x.d=true:=by
 show(fZ x.told.d&&(gU (x.rg.map .int)&&(true&&(fZ x.sd&&true))))=true;rw[CY,show fZ x.told.d=true from by cases x.told<;>rfl,show fZ x.sd=true from by unfold Dd.sd;cases x.st<;>rfl];rfl
noncomputable def St.fin(s:St)(t:Int)(q:Q)(x:Dd):St:=match x.st with
 |none=>{s with K:=aF t {q with rg:=x.rg,row:=x.nx} s.K}
 | some p=>match look (p.1 / 16) q.pg with
  |some (.own w)=>{s with K:=aF t {q with rg:=x.rg,row:=x.nx,pg:=aF (p.1 / 16) (.own (w.set (p.1 % 16).toNat p.2)) q.pg} s.K}
  |some (.bR n)=>{s with K:=aF t {q with rg:=x.rg,row:=x.nx} s.K,L:=aF n (((look n s.L).getD []).set (p.1 % 16).toNat p.2) s.L}
  |none=>s
noncomputable def gP(s:St)(t:Int)(q:Q)(x:Dd):D:=.tup [(if x.told.ph then s else s.fin t q x).d,x.told.d]
theorem Gg(hp:(dh V rg i).st=some p):(V p.1).isSome=true:=by
 unfold dh at hp;cases hv:V i with
 |none=>rw[hv]at hp;cases hp
 | some w=>
  rw[hv]at hp;have hp:(match dec w with|none=>cP "code" rg i|some r=>dX V rg i r).st=some p:=hp
  cases hd:dec w with
  |none=>rw[hd]at hp;cases hp
  | some r=>
   rw[hd]at hp;have hp:(dX V rg i r).st=some p:=hp;rcases qU r with⟨a,b,n,rfl|rfl⟩|(rfl|⟨n,rfl⟩|⟨a,n,rfl⟩)|hk
   ·cases h2:V (adr rg b n)with
    |none=>rw[nZ h2]at hp;cases hp
    |some v=>rw[pR h2]at hp;cases hp
   ·cases h2:V (adr rg b n)with
    |none=>rw[pD h2]at hp;cases hp
    |some v=>rw[m7 h2]at hp;cases hp;show(V (adr rg b n)).isSome=true;rw[h2];rfl
   ·cases hp
   ·cases hp
   ·cases hp
   ·rw[pE hk]at hp
    cases h2:rk rg r with
    |none=>rw[h2]at hp;cases hp
    |some v=>rw[h2]at hp;cases hp
theorem Ig (h:OS s t q):p5 [s.d,.int t]=.ok (gP s t q (dh (wd s.L q.pg) q.rg q.row)):=by
 rw[p5];refine cf ?_;show az _ [.sh s.d,.sh (.int t),.un,.un,.un]=_;rw[ah (bh (tD rfl rfl h.lk))];show az _ [.sh s.d,.sh (.int t),.sh q.d,.un,.un]=_;have hD:=Gn (i:=q.row) h h.r8 h.rw;have Sr:=λp=>Gg (V:=wd s.L q.pg) (rg:=q.rg) (i:=q.row) (p:=p);generalize dh (wd s.L q.pg) q.rg q.row=x at hD Sr
 have e0:oE kh "plain_row" [0,1] (e2 ag (aa 2) (eC (S "regs"))) (e2 ag (aa 2) (eC (S "row"))) [.sh s.d,.sh (.int t),.sh q.d,.un,.un]=.ok x.d:=by
  unfold oE;rw[show e2 ag (aa 2) (eC (S "regs")) [.sh s.d,.sh (.int t),.sh q.d,.un,.un]=.ok (.lst (q.rg.map .int))from aH rfl rfl yW,R.bo,show e2 ag (aa 2) (eC (S "row")) [.sh s.d,.sh (.int t),.sh q.d,.un,.un]=.ok (.int q.row)from aH rfl rfl wg,R.bo]
  show(kh [.lst (q.rg.map .int),.int q.row,s.dN t]).bind _=_;rw[hD,R.bo,AC (Fd x)]
 rw[ah (bh e0)];show az _ [.sh s.d,.sh (.int t),.sh q.d,.sh x.d,.un]=_;have ef:(tV (aI qM [e2 ag (aa 3) (eC (.int 0))])) [.sh s.d,.sh (.int t),.sh q.d,.sh x.d,.un]=.ok x.told.ph:=bz (fm (x:=x.told.d) rfl (by cases x.told<;>kernel_rfl))
 unfold gP;cases hf:x.told.ph with
 | true=>
  rw[hf]at ef;exact aZ (Os (bB ef) (bE rfl))
 | false=>
  rw[hf]at ef;rw[ah (aR ef)];show _=R.ok (Fl.ret (.tup [(s.fin t q x).d,x.told.d]))
  have fin:∀ {s1:St} {q1:Q},s1.K.length<900->look t s1.K=some q1->{s1 with K:=aF t {q1 with rg:=x.rg,row:=x.nx} s1.K:St}=s.fin t q x->az [aM (aP [aI jD [aa 4,aa 1,eW [(.inr (Str.ofString "regs")),(.inr (Str.ofString "row"))] [e2 ag (aa 3) (eC (.int 1)),e2 ag (aa 3) (eC (.int 2))]],e2 ag (aa 3) (eC (.int 0))])] [.sh s.d,.sh (.int t),.sh q.d,.sh x.d,.sh s1.d]=.ok (.ret (.tup [(s.fin t q x).d,x.told.d])):=λ{s1 q1} hl hA hz=>by
   refine aZ (bE (iZ (x:=(s.fin t q x).d) ?_ rfl));rw[<-hz];exact dC rfl rfl rfl (AG (q':={q1 with rg:=x.rg,row:=x.nx}) hl hA (by kernel_rfl) (by decide))
  cases hp:x.st with
  | none=>
   have Ql:x.sd=.aE:=by unfold Dd.sd;rw[hp]
   rw[ah (bh (d:=s.d) (by rw[my (bz (fz (o:=eK) (x:=x.sd) rfl (by rw[Ql];rfl)))];rfl))]
   exact fin h.hl h.lk (by unfold St.fin;rw[hp])
  | some p=>
   have Ql:x.sd=.tup [.int p.1,.int p.2]:=by unfold Dd.sd;rw[hp]
   have hs:=Sr p hp;cases hx:look (p.1 / 16) q.pg with
   |none=>unfold wd at hs;rw[hx]at hs;cases hs
   | some y=>
    have hy:=h.pg _ y hx
    rw[ah (bh (d:=(s.i4 t q p.1 p.2).d) (by
     rw[jy (bz (fz (o:=eK) (x:=x.sd) rfl (by rw[Ql];rfl)))]
     have a3:e2 ag (aa 3) (eC (.int 3)) [.sh s.d,.sh (.int t),.sh q.d,.sh x.d,.un]=.ok (.tup [.int p.1,.int p.2]):=by rw[<-Ql];rfl
     exact vJ rfl rfl (z:=.int p.1) (aH a3 rfl rfl) (w:=.int p.2) (aH a3 rfl rfl) (Im h.hl h.hL h.hg h.lk hx hy)))]
    cases y with
    | own w=>
     refine fin (s1:=s.i4 t q p.1 p.2) (q1:={q with pg:=aF (p.1 / 16) (.own (w.set (p.1 % 16).toNat p.2)) q.pg}) ?_ ?_ ?_
     ·unfold St.i4;rw[hx];show(aF t _ s.K).length<900;rw[pY h.lk];exact h.hl
     ·unfold St.i4;rw[hx];show look t (aF t _ s.K)=_;rw[lp,AC rfl]
     ·unfold St.i4 St.fin;rw[hx,hp];show _=(match look (p.1 / 16) q.pg with|some (.own w)=>_|some (.bR n)=>_|none=>s);rw[hx];show {s with K:=aF t _ (aF t _ s.K):St}=_;rw[Ay]
    | bR n=>
     obtain⟨w,hw,_⟩:=hy;have hw:look n s.L=some w:=hw
     have hz:s.i4 t q p.1 p.2={s with L:=aF n (w.set (p.1 % 16).toNat p.2) s.L}:=by
      unfold St.i4;rw[hx];show(match look n s.L with|some w=>{s with L:=aF n (w.set (p.1 % 16).toNat p.2) s.L}|none=>s)=_;rw[hw]
     rw[hz];refine fin (s1:={s with L:=aF n (w.set (p.1 % 16).toNat p.2) s.L}) (q1:=q) h.hl h.lk ?_;unfold St.fin;rw[hp];show _=(match look (p.1 / 16) q.pg with|some (.own w)=>_|some (.bR n)=>_|none=>s);rw[hx]
     show _={s with K:=_,L:=aF n (((look n s.L).getD []).set (p.1 % 16).toNat p.2) s.L:St};rw[hw];rfl
variable{α:Type}{β:Type}{γ:Type}{L:AL α}{k:Int}{a:α}
noncomputable def mp(f:α->β)(L:AL α):AL β:=L.map λp=>(p.1,f p.2)
theorem ub(f:α->β):ak (mp f L)=ak L:=by unfold ak mp;rw[S5];rfl
theorem tF(f:α->β)(g:β->γ):av g (mp f L)=av (λx=>g (f x)) L:=by unfold av mp;rw[S5];rfl
theorem mP(f:α->β)(g:β->γ):mp g (mp f L)=mp (λx=>g (f x)) L:=by unfold mp;rw[S5];rfl
theorem rV(f:α->β):∀ {L:AL α},look k (mp f L)=(look k L).map f
 |[]=>rfl
 | p::L=>by
  show(if p.1=k then some (f p.2)else look k (mp f L))=(if p.1=k then some p.2 else look k L).map f
  rw[rV f];split<;>rfl
theorem kX(f:α->β):mp f (aF k a L)=aF k (f a) (mp f L):=by
 unfold aF;rw[rV,acg];split
 ·unfold mp
  rw[S5,S5];refine ZS λp _=>?_;show((if p.1=k then(p.1,a)else p).1,f (if p.1=k then(p.1,a)else p).2)=if p.1=k then(p.1,f a)else(p.1,f p.2)
  split<;>rfl
 ·unfold mp;rw[ZQ];rfl
theorem Nk.mp(h:Nk L):Nk (mp f L):=by
 unfold Nk ft.mp;rw[S5];exact h
theorem sr(h:∀p∈L,f p.2=g p.2):mp f L=mp g L:=ZS λp hp=>by rw[h p hp]
end
noncomputable def dA(L:AL D):D:=.aA (ak L) (av id L)
noncomputable def tA(L:AL T):T:=.m (ak L) (av id L)
theorem vC:∀ts:List T,T.fH ts=ts.map T.toD
 |[]=>rfl
 |t::ts=>by show T.toD t::T.fH ts=_;rw[vC ts];rfl
theorem lY(L:AL T):T.toD (tA L)=dA (mp T.toD L):=by
 show D.aA (ak L) (T.fH (av id L))=_;unfold dA;rw[ub,tF,vC];unfold av;rw[S5];rfl
theorem vA(L:AL D):ba (dA L)=tA (mp ba L):=by
 show T.m (ak L) (fu (av id L))=_;unfold tA;rw[ub,tF,lR];unfold av;rw[S5];rfl
noncomputable def tW(w:Xj):T:=.l (w.map λi=>.d (.int i))
theorem sE(w:Xj):T.toD (tW w)=.lst (w.map .int):=by
 show D.lst (T.fH (w.map λi=>T.d (.int i)))=_;rw[vC,S5];rfl
theorem FY(w:Xj):ba (.lst (w.map .int))=tW w:=by
 show T.l (fu (w.map D.int))=_;rw[lR,S5];rfl
noncomputable def qT(q:Q)(P:AL T):T:=.m TK [ba q.pa,ba q.rk,tW q.rg,.d (.int q.row),tA P,ba q.ha,ba q.wa,ba q.hd,ba q.ru,ba q.sa]
noncomputable def bj(s:St)(K L:AL T):T:=.m SK [tA K,tA L,ba s.nd,ba s.bx,ba s.cl]
noncomputable def Q.P(q:Q):AL T:=mp (λx=>ba (Pg.d x)) q.pg
noncomputable def Q.t(q:Q):T:=qT q q.P
noncomputable def St.TK(s:St):AL T:=mp Q.t s.K
noncomputable def St.TL(s:St):AL T:=mp (λw=>ba (W w)) s.L
theorem k9{α:Type}(f:α->D)(L:AL α):D.aA (ak L) (av f L)=dA (mp f L):=by unfold dA;rw[ub,tF];rfl
theorem u0(h:mp T.toD P=mp Pg.d q.pg):T.toD (qT q P)=q.d:=by
 show D.aA TK [T.toD (ba q.pa),T.toD (ba q.rk),T.toD (tW q.rg),.int q.row,T.toD (tA P),T.toD (ba q.ha),T.toD (ba q.wa),T.toD (ba q.hd),T.toD (ba q.ru),T.toD (ba q.sa)]=_;rw[gb,gb,gb,gb,gb,gb,gb,sE,lY,h, <-k9];rfl
theorem Ce(s':St)(hK:mp T.toD K=mp Q.d s'.K)(hL:mp T.toD L=mp W s'.L)(h1:s'.nd=s.nd)(h2:s'.bx=s.bx)(h3:s'.cl=s.cl):T.toD (bj s K L)=s'.d:=by
 show D.aA SK [T.toD (tA K),T.toD (tA L),T.toD (ba s.nd),T.toD (ba s.bx),T.toD (ba s.cl)]=_;rw[gb,gb,gb,lY,lY,hK,hL, <-k9, <-k9, <-h1, <-h2, <-h3];rfl
theorem ja(q:Q):mp T.toD q.P=mp Pg.d q.pg:=by unfold Q.P;rw[mP];exact sr λp _=>gb _
theorem yy(s:St):mp T.toD s.TK=mp Q.d s.K:=by unfold St.TK;rw[mP];exact sr λp _=>u0 (ja _)
theorem kT(s:St):mp T.toD s.TL=mp W s.L:=by unfold St.TL;rw[mP];exact sr λp _=>gb _
theorem HW(q:Q):ba q.d=q.t:=by
 show T.m TK [ba q.pa,ba q.rk,ba (.lst (q.rg.map .int)),.d (.int q.row),ba (.aA (ak q.pg) (av Pg.d q.pg)),ba q.ha,ba q.wa,ba q.hd,ba q.ru,ba q.sa]=_;rw[FY,k9,vA,mP];rfl
theorem zT(s:St):ba s.d=bj s s.TK s.TL:=by
 show T.m SK [ba (.aA (ak s.K) (av Q.d s.K)),ba (.aA (ak s.L) (av W s.L)),ba s.nd,ba s.bx,ba s.cl]=_;rw[k9,k9,vA,vA,mP,mP,show mp (λx=>ba (Q.d x)) s.K=s.TK from sr λp _=>HW _];rfl
theorem lB(hf:f ρ=.ok p)(he:e ρ=.ok x)(hi:ρ[i]? =some (.on (.tr t)))(ha:T.at t p=some n)(hs:stepT n x=some m):pX i f e ρ=.ok (p++[m]):=by
 unfold pX;simp only[hf,he,R.bo,hi,ha,hs]
theorem p9:∀ {p q:List Nat},q.length<=p.length->below p q=false
 |[],[],_=>rfl
 |[],_::_,h=>by simp at h
 |_::_,[],_=>rfl
 | a::p,b::q,h=>by
  show(decide (a=b)&&below p q)=false;rw[p9 (by simpa using h),acO]
section
variable{s:St}{q:Q}{K L:AL T}{t:Int}{ρ:En}{i m j:Nat}{p:List Nat}{n τ τ':T}
theorem gx(h:K[m]? =some (t,τ)):T.at (bj s K L) (0::m::p)=T.at τ p:=by
 show(match(av id K)[m]? with|some t=>T.at t p|none=>none)=_
 unfold av;rw[MC,h];rfl
theorem qt(nk:Nk K)(h:K[m]? =some (t,τ))(hx:T.put n τ p=τ'):T.put n (bj s K L) (0::m::p)=bj s (aF t τ' K) L:=by
 show T.m SK [(match(av id K)[m]? with|some t=>T.m (ak K) ((av id K).set m (T.put n t p))|none=>T.m (ak K) (av id K)),tA L,ba s.nd,ba s.bx,ba s.cl]=_
 rw[show(av id K)[m]? =some τ by unfold av;rw[MC,h];rfl]
 show T.m SK [T.m (ak K) ((av id K).set m (T.put n τ p)),tA L,ba s.nd,ba s.bx,ba s.cl]=_;rw[hx];unfold bj tA;rw[<-xG (a:=τ') nk h];have e1:(av id K).set m τ'=av id (K.set m (t,τ')):=by unfold av;rw[aaZ];rfl
 have e2:ak (K.set m (t,τ'))=ak K:=by rw[xG nk h,qj (lK nk (SL h))]
 rw[e1,e2]
theorem DX(hi:ρ[i]? =some (.on (.tr (bj s K L)))):(pX i pN (eC (S "tasks"))) ρ=.ok [0]:=lB (p:=[]) rfl rfl hi rfl (by kernel_rfl)
theorem yn(hi:ρ[i]? =some (.on (.tr (bj s K L))))(he:e ρ=.ok (.int t))(hm:gO (.inl t) (ak K)=some m):(pX i (pX i pN (eC (S "tasks"))) e) ρ=.ok [0,m]:=lB (DX hi) he hi (n:=tA K) rfl hm
theorem GS(hi:ρ[i]? =some (.on (.tr (bj s K L)))):(pX i pN (eC (S "lent"))) ρ=.ok [1]:=lB (p:=[]) rfl rfl hi rfl (by kernel_rfl)
theorem m9(h:ρ[k]? =some (.on (.al i p))):pA i k ρ=.ok p:=by unfold pA;rw[h];exact AC rfl
theorem mh{f:Pt}{k e:Ex}{d y:D}{z:Ky}{t t':T}{ks:List Ky}{ts:List T}(he:e ρ=.ok d)(hf:f ρ=.ok p)(hk:k ρ=.ok y)(hi:ρ[i]? =some (.on (.tr t)))(hz:keyOf y=some z)(ha:T.at t p=some (.m ks ts))(hl:ks.length<1000)(ht:T.put (.m (d5 z (.d d) ks ts).1 (d5 z (.d d) ks ts).2) t p=t'):
  dj i f k e ρ=.ok (.next ((fX i p ρ).set i (.on (.tr t')))):=by
 unfold dj;simp only[he,hf,hk,R.bo,hi,hz,ha];rw[AC hl,ht]
theorem Ci{f:Pt}{k e:Ex}{d y:D}{z:Ky}{t t':T}{ks:List Ky}{ts:List T}(he:e ρ=.ok d)(hf:f ρ=.ok p)(hk:k ρ=.ok y)(hi:ρ[i]? =some (.on (.tr t)))(hz:keyOf y=some z)(ha:T.at t p=some (.m ks ts))(hl:ks.length<1000)(Rk:qK z ks ts=true)(ht:T.put (.m (d5 z (.d d) ks ts).1 (d5 z (.d d) ks ts).2) t p=t'):
  jH i f k e ρ=.ok (.next (ρ.set i (.on (.tr t')))):=by
 unfold jH;simp only[he,hf,hk,R.bo,hi,hz,ha];rw[AC ⟨hl,Rk⟩,ht]
theorem BE{f:Pt}{k e:Ex}{d:D}{j:Int}{n:Nat}{t t':T}{ts:List T}(he:e ρ=.ok d)(hf:f ρ=.ok p)(hk:k ρ=.ok (.int j))(hi:ρ[i]? =some (.on (.tr t)))(ha:T.at t p=some (.l ts))(hn:dw ts.length j=some n)(ht:T.put (.l (ts.set n (.d d))) t p=t'):
  nQ i f k e ρ=.ok (.next ((fX i p ρ).set i (.on (.tr t')))):=by
 unfold nQ;simp only[he,hf,hk,R.bo,hi,ha,hn];rw[ht]
theorem wo{f:Pt}{k:Nat}{t t1:T}(hf:f ρ=.ok p)(hi:ρ[i]? =some (.on (.tr t)))(ha:T.at t p=some t1)(ho:t1.own=true)(hk:i≠k):ml k i f ρ=.ok (.next (ρ.set k (.on (.al i p)))):=by
 unfold ml;simp only[hf,R.bo,hi,ha];rw[AC ⟨ho,hk⟩]
theorem peek{f:Ex}{d:D}{t:T}{ρ':En}(hi:ρ[i]? =some (.on (.tr t)))(hs:c6 i t ρ=ρ')(h:f ρ'=.ok d)(hn:i9 d=true):iw i f ρ=.ok d:=by
 unfold iw;rw[hi];show(f (c6 i t ρ)).bind _=_;rw[hs,h,R.bo];exact AC hn
theorem zo{f:cC}{t:T}{ρ':En}(hi:ρ[i]? =some (.on (.tr t)))(hs:c6 i t ρ=ρ'):oa i f ρ=f ρ':=by
 unfold oa;rw[hi];show f (c6 i t ρ)=_;rw[hs]
theorem qB{k:Nat}{t t1:T}{x:D}(h:T.at t p=some t1)(hx:T.toD t1=x):ee k t (.on (.al k p))=.sh x:=by
 show(if k=k then(match T.at t p with|some t1=>Slot.sh (T.toD t1)|none=>.un)else .un)=_
 rw[AC rfl,h, <-hx]
theorem rQ{f:Xt}{t:T}(h:f ρ=.ok t)(h1:iN i ρ=true)(h2:2<=i):jV i f ρ=.ok (.next (ρ.set i (.on (.tr t)))):=by
 unfold jV;rw[h,R.bo,AC ⟨h1,h2⟩]
theorem sN{f:Ex}{t:T}{d:D}{ρ':En}(hi:ρ[i]? =some (.on (.tr t)))(hs:c6 i t ρ=ρ')(h:f ρ'=.ok d):gX i f ρ=.ok (.ret d):=by
 unfold gX;rw[hi];show(f (c6 i t ρ)).bind _=_;rw[hs,h];rfl
theorem oD{m:List D->R T}{a:Ex}{x:D}{t:T}(ha:a ρ=.ok x)(h:m [x]=.ok t):cF m [a] ρ=.ok t:=by
 unfold cF;simp only[eList,ha,R.bo];exact h
theorem DG{m:List D->R T}{a b c d:Ex}{x y z w:D}{t:T}(ha:a ρ=.ok x)(hb:b ρ=.ok y)(hc:c ρ=.ok z)(hd:d ρ=.ok w)(h:m [x,y,z,w]=.ok t):cF m [a,b,c,d] ρ=.ok t:=by
 unfold cF;simp only[eList,ha,hb,hc,hd,R.bo];exact h
end
structure Pl(s:St)(t:Int)(q:Q)(m:Nat):Prop where
 ix:gO (.inl t) (ak s.TK)=some m
 get:s.TK[m]? =some (t,q.t)
 lk:look t s.TK=some q.t
theorem Cm(h:look t s.K=some q):∃m,Pl s t q m:=by
 have e:look t s.TK=some q.t:=by unfold St.TK;rw[rV,h];rfl
 obtain⟨m,h1,h2⟩:=Cu e;exact⟨m,h1,h2,e⟩
theorem pJ{s:St}(h:Nk s.K):Nk s.TK:=h.mp
noncomputable def wD(x:String):Option Int->D
 |none=>S x
 |some v=>.int v
noncomputable def rB(V:Int->Option Int)(rg:Xj):Rw->D
 |.load _ b n=>wD "page" (V (adr rg b n))
 |r=>wD "cut" (rk rg r)
section
variable{s:St}{q:Q}{t:Int}{ρ:En}{i ad v:Int}{m:Nat}
theorem pT(h:a ρ=.ok x)(h2:b ρ=.ok y):cn [a,b] ρ=.ok (.lst [x,y]):=by
 unfold cn;simp only[eList,h,h2,R.bo]
theorem qJ(h:a ρ=.ok x)(h2:b ρ=.ok y)(h3:c ρ=.ok z):cn [a,b,c] ρ=.ok (.lst [x,y,z]):=by
 unfold cn;simp only[eList,h,h2,h3,R.bo]
theorem sx(h:e ρ=.ok (.bl b)):e1 ib e ρ=.ok (.int (if b then 1 else 0)):=fz h (by cases b<;>rfl)
theorem KQ(h:OS s t q)(hr:r.ok)(hk:r.rk\/∃a b n,r=.load a b n):ni [s.d,.int t,r.d]=.ok (rB (wd s.L q.pg) q.rg r):=by
 rw[ni];refine cf ?_;show az _ [.sh s.d,.sh (.int t),.sh r.d,.un,.un,.un,.un,.un]=_;rw[ah (bh (aH (tD rfl rfl h.lk) rfl yW)),ah (bh (ke r rfl))];show az _ [.sh s.d,.sh (.int t),.sh r.d,.sh (.lst (q.rg.map .int)),.sh r.nm,.un,.un,.un]=_;cases r with
 |put a n=>exact aZ (Os (bB (by kernel_rfl)) (bE rfl))
 | high a n=>
  rw[ah (aR (by kernel_rfl))]
  exact aZ (Os (bB (by kernel_rfl)) (bE (cD (dB (i:=n) rfl rfl (.inr (by decide))) (bT (aH (y:=.int a) rfl rfl (dW h.r8 hr.1)) rfl (by decide)))))
 | copy a b=>
  rw[ah (aR (by kernel_rfl)),ah (aR (by kernel_rfl))]
  exact aZ (Os (bB (by kernel_rfl)) (bE (aH (y:=.int b) rfl rfl (dW h.r8 hr.2))))
 | load a b n=>
  rw[ah (aR (by kernel_rfl)),ah (aR (by kernel_rfl)),ah (aR (by kernel_rfl))]
  refine aZ (Os (bB (by kernel_rfl)) ?_)
  rw[ah (bh (dC rfl rfl (bT (cD (aH (y:=.int b) rfl rfl (dW h.r8 hr.2.1)) (u:=n) rfl) rfl (by decide)) (rC h.lk λx hx=>h.pg _ x hx)))]
  show az _ [.sh s.d,.sh (.int t),.sh (Rw.load a b n).d,.sh (.lst (q.rg.map .int)),.sh (S "load"),.sh (oI (wd s.L q.pg (adr q.rg b n))),.un,.un]=.ok (.ret (wD "page" (wd s.L q.pg (adr q.rg b n))));cases wd s.L q.pg (adr q.rg b n)<;>rfl
 | op k a b c=>
  obtain⟨⟨h3,OV⟩,_,hb,hc⟩:=hr;have hx:=nU h.r8 h.rw hb;have hy:=nU h.r8 h.rw hc
  have no:∀x:String,x="put"\/x="high"\/x="copy"\/x="load"->oEq (iD k) (S x)=.ok (.bl false):=λx hx=>by
   match k,h3,OV with
   |3,_,_=>rcases hx with rfl|rfl|rfl|rfl<;>kernel_rfl
   |4,_,_=>rcases hx with rfl|rfl|rfl|rfl<;>kernel_rfl
   |5,_,_=>rcases hx with rfl|rfl|rfl|rfl<;>kernel_rfl
   |6,_,_=>rcases hx with rfl|rfl|rfl|rfl<;>kernel_rfl
   |7,_,_=>rcases hx with rfl|rfl|rfl|rfl<;>kernel_rfl
   |8,_,_=>rcases hx with rfl|rfl|rfl|rfl<;>kernel_rfl
   |9,_,_=>rcases hx with rfl|rfl|rfl|rfl<;>kernel_rfl
  rw[ah (aR (bz (aH rfl rfl (no "put" (.inl rfl))))),ah (aR (bz (aH rfl rfl (no "high" (.inr (.inl rfl)))))),ah (aR (bz (aH rfl rfl (no "copy" (.inr (.inr (.inl rfl))))))),ah (aR (bz (aH rfl rfl (no "load" (.inr (.inr (.inr rfl)))))))];rw[ah (bh (aH (y:=.int b) rfl rfl (dW h.r8 hb))),ah (bh (aH (y:=.int c) rfl rfl (dW h.r8 hc)))];show az _ [.sh s.d,.sh (.int t),.sh (Rw.op k a b c).d,.sh (.lst (q.rg.map .int)),.sh (iD k),.un,.sh (.int (ra q.rg b)),.sh (.int (ra q.rg c))]=.ok (.ret (wD "cut" (xA k (ra q.rg b) (ra q.rg c))));generalize ra q.rg b=x at hx;generalize ra q.rg c=y at hy;have dv:∀ {ρ:En} {e f:Ex},y≠0->e ρ=.ok (.int x)->f ρ=.ok (.int y)->cn [e2 oDiv e f,e2 oMod e f] ρ=.ok (.lst [.int (x / y),.int (x % y)]):=λ{ρ e f} h0 he hf=>pT (cM he hf (by unfold pC;rw[FS (show 0<y by omega),FS (show y<340282366920938463463374607431768211456 by omega)];rfl)) (bT he hf (by omega))
  have li:∀ {ρ:En} {e f:Ex},e ρ=.ok (.int x)->f ρ=.ok (.int y)->cn [e1 ib (e2 oLt e f),e1 ib (e2 oEq e f)] ρ=.ok (.lst [.int (if x<y then 1 else 0),.int (if x=y then 1 else 0)]):=λ{ρ e f} he hf=>by
   rw[pT (sx (uC he hf)) (sx (gq he hf))];simp
  have l3:∀ {ρ:En} {e f:Ex},e ρ=.ok (.int x)->f ρ=.ok (.int y)->cn [e2 bb e f,e2 ji e f,e2 bZ e f] ρ=.ok (.lst [.int (x+y),.int (x - y),.int (x*y)]):=λ{ρ e f} he hf=>qJ (cD he hf) (xr he hf) (dB he hf (.inl (rH hx.1 (by omega))))
  match k,h3,OV with
  | 3,_,_=>
   rw[ah (aR (by kernel_rfl)),ah (aR (by kernel_rfl))]
   exact aZ (bE (bT (aH (l3 rfl rfl) (y:=.int 0) (by kernel_rfl) rfl) rfl (by decide)))
  | 4,_,_=>
   rw[ah (aR (by kernel_rfl)),ah (aR (by kernel_rfl))]
   exact aZ (bE (bT (aH (l3 rfl rfl) (y:=.int 1) (by kernel_rfl) rfl) rfl (by decide)))
  | 5,_,_=>
   rw[ah (aR (by kernel_rfl)),ah (aR (by kernel_rfl))]
   exact aZ (bE (bT (aH (l3 rfl rfl) (y:=.int 2) (by kernel_rfl) rfl) rfl (by decide)))
  | 6,_,_=>
   refine aZ (Os (bB (by kernel_rfl)) ?_)
   show _=R.ok (Fl.ret (wD "cut" (if y=0 then none else some (x / y))))
   by_cases h0:y=0
   ·subst h0;exact aZ (Os (bB rfl) rfl)
   ·rw[ah (aR (bz (by rw[gq rfl rfl,KB h0]))),DF h0]
    exact aZ (bE (aH (dv h0 rfl rfl) (y:=.int 0) (by kernel_rfl) rfl))
  | 7,_,_=>
   refine aZ (Os (bB (by kernel_rfl)) ?_)
   show _=R.ok (Fl.ret (wD "cut" (if y=0 then none else some (x % y))))
   by_cases h0:y=0
   ·subst h0;exact aZ (Os (bB rfl) rfl)
   ·rw[ah (aR (bz (by rw[gq rfl rfl,KB h0]))),DF h0]
    exact aZ (bE (aH (dv h0 rfl rfl) (y:=.int 1) (by kernel_rfl) rfl))
  | 8,_,_=>
   rw[ah (aR (by kernel_rfl))]
   exact aZ (Os (bB (by kernel_rfl)) (bE (aH (li rfl rfl) (y:=.int 0) (by kernel_rfl) rfl)))
  | 9,_,_=>
   rw[ah (aR (by kernel_rfl))]
   exact aZ (Os (bB (by kernel_rfl)) (bE (aH (li rfl rfl) (y:=.int 1) (by kernel_rfl) rfl)))
 |_=>rcases hk with hk|⟨_,_,_,hk⟩;exact hk.elim;cases hk
theorem ye(h:look k L=some d):ag (dA L) (.int k)=.ok d:=rD (f:=id) h
theorem MY{w:Xj}{k:Nat}{v:Int}{n:Nat}(hn:n<w.length):((w.set k v).take n).map D.int++[.int (if n=k then v else w.getD n 0)]=((w.set k v).take (n+1)).map D.int:=by
 rw[List.take_succ_eq_append_getElem (by rw[ZP];exact hn),ZQ]
 congr 1;simp only[Pi,ZO];rw[List.getElem_set];by_cases c:n=k
 ·rw[AC c,AC c.symm]
 ·rw[DF c,DF (λz=>c z.symm),W1,Fk hn];rfl
noncomputable def jd(s:St)(t:Int)(q:Q)(ad v:Int)(w:Xj):Pg->T
 |.own _=>bj s (aF t (qT q (aF (ad / 16) (.d (Pg.own (w.set (ad % 16).toNat v)).d) q.P)) s.TK) s.TL
 |.bR n=>bj s s.TK (aF n (.d (W (w.set (ad % 16).toNat v))) s.TL)
theorem wO:d5 (.inl k) τ (ak L) (av id L)=(ak (aF k τ L),av id (aF k τ L)):=GA rfl
theorem EV(h:OS s t q)(nc:NC s.d)(nk:Nk s.K){x:Pg}{w:Xj}(hx:look (ad / 16) q.pg=some x)(hw:x.ws s.L=some w)(QN:w.length=16):lF [s.d,.int t,.int ad,.int v]=.ok (jd s t q ad v w x):=by
 obtain⟨m,hm⟩:=Cm h.lk;rw[lF];refine ud ?_;show az _ [.sh s.d,.sh (.int t),.sh (.int ad),.sh (.int v),.un,.un,.un,.un,.un]=_;rw[ah (rQ (t:=bj s s.TK s.TL) (oD rfl (by rw[xi nc,zT])) rfl (by decide))]
 show az _ [.sh s.d,.sh (.int t),.sh (.int ad),.sh (.int v),.on (.tr (bj s s.TK s.TL)),.un,.un,.un,.un]=_;rw[ah (wo (p:=[0,m,4]) (t1:=tA q.P) (lB (yn rfl rfl hm.ix) rfl rfl (gx (p:=[]) hm.get) (by show stepT q.t _=_;kernel_rfl)) rfl (gx (p:=[4]) hm.get) rfl (by decide))]
 show az _ [.sh s.d,.sh (.int t),.sh (.int ad),.sh (.int v),.on (.tr (bj s s.TK s.TL)),.on (.al 4 [0,m,4]),.un,.un,.un]=_;rw[ah (bh (cM (u:=16) rfl rfl (by decide))),ah (uk (xs:=[]) rfl)]
 show az _ [.sh s.d,.sh (.int t),.sh (.int ad),.sh (.int v),.on (.tr (bj s s.TK s.TL)),.on (.al 4 [0,m,4]),.sh (.int (ad / 16)),.ol [],.un]=_
 obtain⟨ρ',eL,s8,V9,Pa⟩:=xo (tg:=aG 8) (body:=ma) (λn ρ=>∃s8:Slot,(∀z,s8≠.on z)/\ρ=[.sh s.d,.sh (.int t),.sh (.int ad),.sh (.int v),.on (.tr (bj s s.TK s.TL)),.on (.al 4 [0,m,4]),.sh (.int (ad / 16)),.ol (((w.set (ad % 16).toNat v).take n).map .int),s8]) (ds:=dG 0 16) 0 (by
  rintro n d hd ρ ⟨s8,_,rfl⟩;obtain⟨rfl,hn⟩:=CQ hd;rw[aaX];refine⟨_,rfl,[.sh s.d,.sh (.int t),.sh (.int ad),.sh (.int v),.on (.tr (bj s s.TK s.TL)),.on (.al 4 [0,m,4]),.sh (.int (ad / 16)),.ol (((w.set (ad % 16).toNat v).take (n+1)).map .int),.sh (.int (0+n))],?_,.sh (.int (0+n)),(λz hz=>nomatch hz),rfl⟩
  show ma [.sh s.d,.sh (.int t),.sh (.int ad),.sh (.int v),.on (.tr (bj s s.TK s.TL)),.on (.al 4 [0,m,4]),.sh (.int (ad / 16)),.ol (((w.set (ad % 16).toNat v).take n).map .int),.sh (.int (0+n))]=_;have hn:n<16:=by omega
  have a1:(ad / 16*16+(0+(n:Int))) / 16=ad / 16:=by omega
  have a2:((ad / 16*16+(0+(n:Int))) % 16).toNat=n:=by omega
  have ew:wd s.L q.pg (ad / 16*16+(0+(n:Int)))=some (w.getD n 0):=by unfold wd;rw[a1,a2,hx,acA,hw];rfl
  have e1:=rC (ad:=ad / 16*16+(0+(n:Int))) h.lk λx hx=>h.pg _ x hx;rw[ew]at e1;have hk:(0+(n:Int)=ad % 16)↔n=(ad % 16).toNat:=by omega
  rw[ma,B9 (xs:=((w.set (ad % 16).toNat v).take n).map .int) (d:=.int (if n=(ad % 16).toNat then v else w.getD n 0)) ?_ rfl (by rw[GE,ZF];omega)]
  ·rw[MY (by omega)];rfl
  ·refine aH (pT (dC rfl rfl (cD (dB rfl rfl (.inr (by decide))) rfl) e1) rfl) (sx (gq rfl (bT (u:=16) rfl rfl (by decide)))) ?_
   by_cases c:n=(ad % 16).toNat
   ·rw[FS (hk.mpr c),AC c];rfl
   ·rw[KB (λz=>c (hk.mp z)),DF c];rfl) (ρ:=[.sh s.d,.sh (.int t),.sh (.int ad),.sh (.int v),.on (.tr (bj s s.TK s.TL)),.on (.al 4 [0,m,4]),.sh (.int (ad / 16)),.ol [],.un]) ⟨.un,(λz hz=>nomatch hz),rfl⟩
 rw[show 0+(dG 0 16).length=16 from rfl,aaY (by rw[ZP];omega)]at Pa
 subst Pa;rw[ah (kg (vE rfl (by decide)) eL)]
 have R8:ee 4 (bj s s.TK s.TL) s8=s8:=by cases s8<;>first|rfl|exact absurd rfl (V9 _)
 have Te:T.toD (tA q.P)=dA (mp Pg.d q.pg):=by rw[lY,ja]
 have sees:∀(s7:Slot),(∀z,s7≠.on z)->c6 4 (bj s s.TK s.TL) [.sh s.d,.sh (.int t),.sh (.int ad),.sh (.int v),.on (.tr (bj s s.TK s.TL)),.on (.al 4 [0,m,4]),.sh (.int (ad / 16)),s7,s8]=[.sh s.d,.sh (.int t),.sh (.int ad),.sh (.int v),.sh (T.toD (bj s s.TK s.TL)),.sh (dA (mp Pg.d q.pg)),.sh (.int (ad / 16)),s7,s8]:=λs7 h7=>by
  show [Slot.sh s.d,.sh (.int t),.sh (.int ad),.sh (.int v),.sh (T.toD (bj s s.TK s.TL)),ee 4 (bj s s.TK s.TL) (.on (.al 4 [0,m,4])),.sh (.int (ad / 16)),ee 4 (bj s s.TK s.TL) s7,ee 4 (bj s s.TK s.TL) s8]=_;rw[R8,qB (gx (p:=[4]) hm.get) Te,show ee 4 (bj s s.TK s.TL) s7=s7 by cases s7<;>first|rfl|exact absurd rfl (h7 _)]
 have VL:∀p,cq 4 p s8=s8:=λp=>by cases s8<;>first|rfl|exact absurd rfl (V9 _)
 have lx:look (ad / 16) (mp Pg.d q.pg)=some x.d:=by rw[rV,hx];rfl
 cases x with
 | own w0=>
  rw[ah (Os (bB (by rw[zo rfl (sees (.ol ((w.set (ad % 16).toNat v).map .int)) (λz hz=>nomatch hz))];exact bz (aH (aH (x:=(Pg.own w0).d) (aH rfl rfl (ye lx)) rfl rfl) rfl (by kernel_rfl)))) (show az [iL 7,dj 4 (pA 4 5) (aa 6) (aP [eC (S "own"),e1 iV (aa 7)])] _=.ok (.next [.sh s.d,.sh (.int t),.sh (.int ad),.sh (.int v),.on (.tr (jd s t q ad v w (.own w0))),.on (.al 4 [0,m,4]),.sh (.int (ad / 16)),.sh (.lst ((w.set (ad % 16).toNat v).map .int)),s8])from by
   rw[ah (ρ':=[.sh s.d,.sh (.int t),.sh (.int ad),.sh (.int v),.on (.tr (bj s s.TK s.TL)),.on (.al 4 [0,m,4]),.sh (.int (ad / 16)),.sh (.lst ((w.set (ad % 16).toNat v).map .int)),s8]) rfl]
   rw[ah (mh (t':=jd s t q ad v w (.own w0)) (d:=(Pg.own (w.set (ad % 16).toNat v)).d) (z:=.inl (ad / 16)) (ks:=ak q.P) (ts:=av id q.P) rfl (m9 rfl) rfl rfl rfl (gx (p:=[4]) hm.get) (by rw[j4];unfold Q.P mp;rw[GE];have:=h.hg;omega) (by
    rw[wO];exact qt (τ':=qT q (aF (ad / 16) (.d (Pg.own (w.set (ad % 16).toNat v)).d) q.P)) nk.mp hm.get rfl))]
   show R.ok (Fl.next [.sh s.d,.sh (.int t),.sh (.int ad),.sh (.int v),.on (.tr (jd s t q ad v w (.own w0))),cq 4 [0,m,4] (.on (.al 4 [0,m,4])),.sh (.int (ad / 16)),.sh (.lst ((w.set (ad % 16).toNat v).map .int)),cq 4 [0,m,4] s8])=_;rw[VL,show cq 4 [0,m,4] (.on (.al 4 [0,m,4]))=.on (.al 4 [0,m,4])from by unfold cq;simp only;rw[p9 (Gc _),DF (by simp)]]))]
  rfl
 | bR n=>
  have lx:look (ad / 16) (mp Pg.d q.pg)=some (.tup [S "lent",.int n]):=lx
  rw[ah (Os (gf (by rw[zo rfl (sees (.ol ((w.set (ad % 16).toNat v).map .int)) (λz hz=>nomatch hz))];exact bz (aH (aH (x:=.tup [S "lent",.int n]) (aH rfl rfl (ye lx)) rfl rfl) rfl (by kernel_rfl)))) (show az [iL 7,dj 4 (pX 4 (pN) (eC (S "lent"))) (iw 4 (e2 ag (e2 ag (aa 5) (aa 6)) (eC (.int 1)))) (e1 iV (aa 7))] _=.ok (.next [.sh s.d,.sh (.int t),.sh (.int ad),.sh (.int v),.on (.tr (jd s t q ad v w (.bR n))),.on (.al 4 [0,m,4]),.sh (.int (ad / 16)),.sh (.lst ((w.set (ad % 16).toNat v).map .int)),s8])from by
   rw[ah (ρ':=[.sh s.d,.sh (.int t),.sh (.int ad),.sh (.int v),.on (.tr (bj s s.TK s.TL)),.on (.al 4 [0,m,4]),.sh (.int (ad / 16)),.sh (.lst ((w.set (ad % 16).toNat v).map .int)),s8]) rfl]
   rw[ah (mh (t':=jd s t q ad v w (.bR n)) (d:=W (w.set (ad % 16).toNat v)) (y:=.int n) (z:=.inl n) (p:=[1]) (ks:=ak s.TL) (ts:=av id s.TL) rfl (GS rfl) (peek rfl (sees (.sh (.lst ((w.set (ad % 16).toNat v).map .int))) (λz hz=>nomatch hz)) (aH (aH rfl rfl (ye lx)) rfl rfl) rfl) rfl rfl rfl (by rw[j4];unfold St.TL mp;rw[GE];have:=h.hL;omega) (by
    rw[wO];rfl))]
   show R.ok (Fl.next [.sh s.d,.sh (.int t),.sh (.int ad),.sh (.int v),.on (.tr (jd s t q ad v w (.bR n))),cq 4 [1] (.on (.al 4 [0,m,4])),.sh (.int (ad / 16)),.sh (.lst ((w.set (ad % 16).toNat v).map .int)),cq 4 [1] s8])=_;rw[VL];rfl))]
  rfl
variable{nx:Int}
theorem ev{i:Nat}{d:D}(h:ρ[i]? =some (.sh d)):aa i ρ=.ok d:=by unfold aa;rw[h]
theorem vT{i:Nat}{t:T}(hl:i<ρ.length):(c6 i t ρ)[i]? =some (.sh (T.toD t)):=by
 unfold c6;rw[Mk (by rw[GE];exact hl)]
theorem BB(hP:mp T.toD P=mp Pg.d q'.pg)(hL:mp T.toD L=mp W L'):T.toD (bj s (aF t (qT q' P) s.TK) L)={s with K:=aF t q' s.K,L:=L':St}.d:=by
 refine Ce {s with K:=aF t q' s.K,L:=L'} ?_ hL rfl rfl rfl;rw[kX,kX,yy,u0 hP]
theorem CP:T.toD (bj s s.TK s.TL)=s.d:=Ce s (yy s) (kT s) rfl rfl rfl
theorem Pl.set(hm:Pl s t q m)(nk:Nk s.K)(τ:T):(aF t τ s.TK)[m]? =some (t,τ):=by
 rw[<-xG (a:=τ) (pJ nk) hm.get,Mk (xM.mp hm.get).1]
theorem Pl.Fi(hm:Pl s t q m)(τ:T):gO (.inl t) (ak (aF t τ s.TK))=some m:=by
 rw[qj hm.lk];exact hm.ix
theorem ne_int(i j:Int):dH (.int i) (.int j)=.ok (.bl (!decide (i=j))):=by
 unfold dH;rw[Kx,AC rfl];rfl
theorem Du(h3:3<=k)(OV:k<10):∀ {x:String},x="call"\/x="jump"\/x="if"\/x="store"->oEq (iD k) (S x)=.ok (.bl false):=λ{x} hx=>by
 match k,h3,OV with
 |3,_,_=>rcases hx with rfl|rfl|rfl|rfl<;>kernel_rfl
 |4,_,_=>rcases hx with rfl|rfl|rfl|rfl<;>kernel_rfl
 |5,_,_=>rcases hx with rfl|rfl|rfl|rfl<;>kernel_rfl
 |6,_,_=>rcases hx with rfl|rfl|rfl|rfl<;>kernel_rfl
 |7,_,_=>rcases hx with rfl|rfl|rfl|rfl<;>kernel_rfl
 |8,_,_=>rcases hx with rfl|rfl|rfl|rfl<;>kernel_rfl
 |9,_,_=>rcases hx with rfl|rfl|rfl|rfl<;>kernel_rfl
theorem sZ{r:Rw}(hr:r.ok)(hk:r.rk\/∃a b n,r=.load a b n){x:String}(hx:x="call"\/x="jump"\/x="if"\/x="store"):oEq r.nm (S x)=.ok (.bl false):=by
 cases r with
 |op k a b c=>exact Du hr.1.1 hr.1.2 hx
 |store _ _ _=>rcases hk with hk|⟨_,_,_,hk⟩;exact hk.elim;cases hk
 |gG _=>rcases hk with hk|⟨_,_,_,hk⟩;exact hk.elim;cases hk
 |fL _ _=>rcases hk with hk|⟨_,_,_,hk⟩;exact hk.elim;cases hk
 |call=>rcases hk with hk|⟨_,_,_,hk⟩;exact hk.elim;cases hk
 |_=>rcases hx with rfl|rfl|rfl|rfl<;>kernel_rfl
theorem EZ(hm:Pl s t q m)(nk:Nk s.K){q1:Q}{P L:AL T}{L':AL (Xj)}{r:D}{s4 s5 s7 s8:Slot}(hP:mp T.toD P=mp Pg.d q1.pg)(hL:mp T.toD L=mp W L'):
  az [dj 3 (pX 3 (pX 3 (pN) (eC (S "tasks"))) (aa 1)) (eC (S "row")) (aa 6),gX 3 (aP [aa 3,aP [eC (S "row")]])] [.sh s.d,.sh (.int t),.sh r,.on (.tr (bj s (aF t (qT q1 P) s.TK) L)),s4,s5,.sh (.int nx),s7,s8]=.ok (.ret (.tup [{s with K:=aF t {q1 with row:=nx} s.K,L:=L':St}.d,.tup [S "row"]])):=by
 rw[ah (mh (t':=bj s (aF t (qT {q1 with row:=nx} P) s.TK) L) (d:=.int nx) (z:=.inr (Str.ofString "row")) (p:=[0,m]) (ks:=TK) rfl (yn rfl rfl (hm.Fi _)) rfl rfl rfl (gx (p:=[]) (hm.set nk _)) (by decide) (by
  rw[qt (p:=[]) (τ':=qT {q1 with row:=nx} P) (pJ nk).aF (hm.set nk _) (by kernel_rfl),Ay]))]
 refine aZ (sN rfl rfl (iZ (x:={s with K:=aF t {q1 with row:=nx} s.K,L:=L':St}.d) ?_ rfl));exact Os (ev (vT (by show 3<9;decide))) (by rw[BB (q':={q1 with row:=nx}) hP hL])
theorem zB{r:D}{s4 s5 s6 s7 s8:Slot}{e:Ex}{w:D}(he:∀ρ':En,ρ'[8]? =(c6 3 (bj s s.TK s.TL) [.sh s.d,.sh (.int t),.sh r,.on (.tr (bj s s.TK s.TL)),s4,s5,s6,s7,s8])[8]? ->e ρ'=.ok w):gX 3 (aP [aa 3,e]) [.sh s.d,.sh (.int t),.sh r,.on (.tr (bj s s.TK s.TL)),s4,s5,s6,s7,s8]=.ok (.ret (.tup [s.d,w])):=by
 refine sN rfl rfl (iZ (x:=s.d) ?_ (he _ rfl));exact Os (ev (vT (by show 3<9;decide))) (by rw[CP])
theorem JC(h:OS s t q)(nc:NC s.d)(nk:Nk s.K){r:Rw}(hr:r.ok):nA [s.d,.int t,r.d]=.ok (gP s t q (dX (wd s.L q.pg) q.rg q.row r)):=by
 obtain⟨m,hm⟩:=Cm h.lk;rw[nA];refine cf ?_;show az _ [.sh s.d,.sh (.int t),.sh r.d,.un,.un,.un,.un,.un,.un]=_;rw[ah (rQ (t:=bj s s.TK s.TL) (oD rfl (by rw[xi nc,zT])) rfl (by decide))]
 show az _ [.sh s.d,.sh (.int t),.sh r.d,.on (.tr (bj s s.TK s.TL)),.un,.un,.un,.un,.un]=_;rw[ah (wo (p:=[0,m]) (t1:=q.t) (yn rfl rfl hm.ix) rfl (gx (p:=[]) hm.get) rfl (by decide))]
 show az _ [.sh s.d,.sh (.int t),.sh r.d,.on (.tr (bj s s.TK s.TL)),.on (.al 3 [0,m]),.un,.un,.un,.un]=_;rw[ah (wo (p:=[0,m,2]) (t1:=tW q.rg) (lB (m9 rfl) rfl rfl (gx (p:=[]) hm.get) (by show stepT q.t _=_;kernel_rfl)) rfl (gx (p:=[2]) hm.get) rfl (by decide))]
 show az _ [.sh s.d,.sh (.int t),.sh r.d,.on (.tr (bj s s.TK s.TL)),.on (.al 3 [0,m]),.on (.al 3 [0,m,2]),.un,.un,.un]=_;have q0:qT q q.P=q.t:=rfl;have self:aF t (qT q q.P) s.TK=s.TK:=Jq (pJ nk) hm.lk;have sq:T.toD q.t=q.d:=u0 (ja q)
 have sees:∀ {s6 s7 s8:Slot},(∀z,s6≠.on z)->(∀z,s7≠.on z)->(∀z,s8≠.on z)->c6 3 (bj s s.TK s.TL) [.sh s.d,.sh (.int t),.sh r.d,.on (.tr (bj s s.TK s.TL)),.on (.al 3 [0,m]),.on (.al 3 [0,m,2]),s6,s7,s8]=[.sh s.d,.sh (.int t),.sh r.d,.sh s.d,.sh q.d,.sh (.lst (q.rg.map .int)),s6,s7,s8]:=λ{s6 s7 s8} h6 h7 h8=>by
  have no:∀ {x:Slot},(∀z,x≠.on z)->ee 3 (bj s s.TK s.TL) x=x:=λ{x} hx=>by cases x<;>first|rfl|exact absurd rfl (hx _)
  show [Slot.sh s.d,.sh (.int t),.sh r.d,.sh (T.toD (bj s s.TK s.TL)),ee 3 (bj s s.TK s.TL) (.on (.al 3 [0,m])),ee 3 (bj s s.TK s.TL) (.on (.al 3 [0,m,2])),ee 3 (bj s s.TK s.TL) s6,ee 3 (bj s s.TK s.TL) s7,ee 3 (bj s s.TK s.TL) s8]=_;rw[no h6,no h7,no h8,qB (gx (p:=[]) hm.get) sq,qB (gx (p:=[2]) hm.get) (sE q.rg),CP]
 have nu:∀z,Slot.un≠.on z:=λz hz=>nomatch hz
 have ns:∀ {d:D},∀z,Slot.sh d≠.on z:=λz hz=>nomatch hz
 rw[ah (bh (d:=.int (bK q.row)) (peek rfl (sees nu nu nu) (bT (cD (aH rfl rfl wg) rfl) rfl (by decide)) rfl))]
 show az _ [.sh s.d,.sh (.int t),.sh r.d,.on (.tr (bj s s.TK s.TL)),.on (.al 3 [0,m]),.on (.al 3 [0,m,2]),.sh (.int (bK q.row)),.un,.un]=_;have Ug:∀ {ρ:En},ρ[2]? =some (.sh r.d)->e2 ag (aa 2) (eC (.int 0)) ρ=.ok r.nm:=λPa=>ke r (ev Pa);have tl:∀ {q1:Q} {P L:AL T} {L':AL (Xj)} {nx:Int} {s4 s5 s7 s8:Slot},mp T.toD P=mp Pg.d q1.pg->mp T.toD L=mp W L'->az [dj 3 (pX 3 (pX 3 (pN) (eC (S "tasks"))) (aa 1)) (eC (S "row")) (aa 6),gX 3 (aP [aa 3,aP [eC (S "row")]])] [.sh s.d,.sh (.int t),.sh r.d,.on (.tr (bj s (aF t (qT q1 P) s.TK) L)),s4,s5,.sh (.int nx),s7,s8]=.ok (.ret (.tup [{s with K:=aF t {q1 with row:=nx} s.K,L:=L':St}.d,.tup [S "row"]])):=λhP hL=>EZ hm nk hP hL;by_cases hk:r.rk\/∃a b n,r=.load a b n
 ·rw[ah (aR (bz (aH (Ug rfl) rfl (sZ hr hk (.inl rfl)))))]
  have UY:∀ {a b c e f:Sm} {t1 t2 t3:cC} {rest:List Sm} {ρ ρ':En},t1 ρ=.ok false->t2 ρ=.ok false->t3 ρ=.ok false->e ρ=.ok (.next ρ')->az (aO t1 a (aO t2 b (aO t3 c e))::rest) ρ=az rest ρ':=λh1 h2 h3 he=>ah (by rw[gf h1,gf h2,gf h3,he])
  have Vt:∀ {a b c e f:Sm} {t1 t2 t3:cC} {rest:List Sm} {ρ:En} {d:D},t1 ρ=.ok false->t2 ρ=.ok false->t3 ρ=.ok false->e ρ=.ok (.ret d)->az (aO t1 a (aO t2 b (aO t3 c e))::rest) ρ=.ok (.ret d):=λh1 h2 h3 he=>aZ (by rw[gf h1,gf h2,gf h3,he])
  have c1:=bz (aH (ρ:=[.sh s.d,.sh (.int t),.sh r.d,.on (.tr (bj s s.TK s.TL)),.on (.al 3 [0,m]),.on (.al 3 [0,m,2]),.sh (.int (bK q.row)),.un,.un]) (Ug rfl) (b:=eC (S "jump")) rfl (sZ hr hk (.inr (.inl rfl))));have c2:=bz (aH (ρ:=[.sh s.d,.sh (.int t),.sh r.d,.on (.tr (bj s s.TK s.TL)),.on (.al 3 [0,m]),.on (.al 3 [0,m,2]),.sh (.int (bK q.row)),.un,.un]) (Ug rfl) (b:=eC (S "if")) rfl (sZ hr hk (.inr (.inr (.inl rfl)))))
  have c3:=bz (aH (ρ:=[.sh s.d,.sh (.int t),.sh r.d,.on (.tr (bj s s.TK s.TL)),.on (.al 3 [0,m]),.on (.al 3 [0,m,2]),.sh (.int (bK q.row)),.un,.un]) (Ug rfl) (b:=eC (S "store")) rfl (sZ hr hk (.inr (.inr (.inr rfl)))));have er:=KQ h hr hk
  have key:(∃x,rB (wd s.L q.pg) q.rg r=S x/\dX (wd s.L q.pg) q.rg q.row r=cP x q.rg q.row)\/(∃v,rB (wd s.L q.pg) q.rg r=.int v/\dX (wd s.L q.pg) q.rg q.row r=⟨.row,q.rg.set r.a.toNat v,bK q.row,none⟩):=by
   rcases hk with hk|⟨a,b,n,rfl⟩
   ·have e0:rB (wd s.L q.pg) q.rg r=wD "cut" (rk q.rg r):=by cases r<;>first|rfl|exact hk.elim
    rw[e0,pE hk];cases rk q.rg r with
    |none=>exact .inl ⟨_,rfl,rfl⟩
    |some v=>exact .inr ⟨v,rfl,rfl⟩
   ·cases hv:wd s.L q.pg (adr q.rg b n)with
    |none=>exact .inl ⟨"page",by show wD "page" (wd s.L q.pg (adr q.rg b n))=_;rw[hv];rfl,nZ hv⟩
    |some v=>exact .inr ⟨v,by show wD "page" (wd s.L q.pg (adr q.rg b n))=_;rw[hv];rfl,pR hv⟩
  have ha:B8 r.a:=by
   rcases hk with hk|⟨a,b,n,rfl⟩
   ·cases r<;>first|exact hr.1|exact hr.2.1|exact hk.elim
   ·exact hr.1
  have e1:e2 ag (aa 2) (eC (.int 1))=λρ=>e2 ag (aa 2) (eC (.int 1)) ρ:=rfl
  have ia:ag r.d (.int 1)=.ok (.int r.a):=by
   rcases hk with hk|⟨a,b,n,rfl⟩
   ·cases r<;>first|rfl|exact hk.elim
   ·rfl
  rcases key with⟨x,k1,k2⟩|⟨v,k1,k2⟩
  ·rw[k1]at er
   rw[k2];refine Vt (f:=aV) c1 c2 c3 ?_;rw[ah (bh (dC rfl rfl rfl er))];exact aZ (Os (bB rfl) (zB (w:=.tup [S "fault",S x]) λρ' h8=>iZ rfl (ev h8)))
  ·rw[k1]at er
   rw[k2]
   rw[UY (f:=aV) (ρ':=[.sh s.d,.sh (.int t),.sh r.d,.on (.tr (bj s (aF t (qT {q with rg:=q.rg.set r.a.toNat v} q.P) s.TK) s.TL)),.on (.al 3 [0,m]),.on (.al 3 [0,m,2]),.sh (.int (bK q.row)),.un,.sh (.int v)]) c1 c2 c3 (by
    rw[ah (bh (dC rfl rfl rfl er)),ah (aR rfl)]
    rw[ah (BE (t':=bj s (aF t (qT {q with rg:=q.rg.set r.a.toNat v} q.P) s.TK) s.TL) (d:=.int v) (p:=[0,m,2]) (j:=r.a) (n:=r.a.toNat) (ts:=q.rg.map λi=>.d (.int i)) rfl (m9 rfl) (aH rfl rfl ia) rfl (gx (p:=[2]) hm.get) (p7 ha.1 (by rw[GE,h.r8];have:=ha.2;omega)) (by
     refine qt (p:=[2]) (pJ nk) hm.get ?_;show T.m TK [ba q.pa,ba q.rk,.l ((q.rg.map λi=>T.d (.int i)).set r.a.toNat (.d (.int v))),.d (.int q.row),tA q.P,ba q.ha,ba q.wa,ba q.hd,ba q.ru,ba q.sa]=_;unfold qT tW;rw[aaZ]))]
    show R.ok (Fl.next [.sh s.d,.sh (.int t),.sh r.d,.on (.tr (bj s (aF t (qT {q with rg:=q.rg.set r.a.toNat v} q.P) s.TK) s.TL)),cq 3 [0,m,2] (.on (.al 3 [0,m])),cq 3 [0,m,2] (.on (.al 3 [0,m,2])),.sh (.int (bK q.row)),.un,.sh (.int v)])=_;have ds:∀p,p.length<=3->cq 3 [0,m,2] (.on (.al 3 p))=.on (.al 3 p):=λp hp=>by unfold cq;simp only;rw[p9 hp,DF (by simp)]
    rw[ds _ (by simp),ds _ (by simp)])]
   rw[tl (q1:={q with rg:=q.rg.set r.a.toNat v}) (ja q) (kT s)];rfl
 ·cases r with
  | call=>
   refine aZ (Os (bB (by kernel_rfl)) ?_)
   rw[ah (Ci (t':=bj s (aF t (qT {q with row:=bK q.row} q.P) s.TK) s.TL) (d:=.int (bK q.row)) (z:=.inr (Str.ofString "row")) (p:=[0,m]) (ks:=TK) rfl (m9 rfl) rfl rfl rfl (gx (p:=[]) hm.get) (by decide) (by kernel_rfl) (by
    exact qt (p:=[]) (pJ nk) hm.get (by kernel_rfl)))]
   show az _ [.sh s.d,.sh (.int t),.sh Rw.call.d,.on (.tr (bj s (aF t (qT {q with row:=bK q.row} q.P) s.TK) s.TL)),.on (.al 3 [0,m]),.on (.al 3 [0,m,2]),.sh (.int (bK q.row)),.un,.un]=_;have e0:T.toD (bj s (aF t (qT {q with row:=bK q.row} q.P) s.TK) s.TL)={s with K:=aF t {q with row:=bK q.row} s.K:St}.d:=BB (q':={q with row:=bK q.row}) (ja q) (kT s)
   have hs:c6 3 (bj s (aF t (qT {q with row:=bK q.row} q.P) s.TK) s.TL) [.sh s.d,.sh (.int t),.sh Rw.call.d,.on (.tr (bj s (aF t (qT {q with row:=bK q.row} q.P) s.TK) s.TL)),.on (.al 3 [0,m]),.on (.al 3 [0,m,2]),.sh (.int (bK q.row)),.un,.un]=[.sh s.d,.sh (.int t),.sh Rw.call.d,.sh {s with K:=aF t {q with row:=bK q.row} s.K:St}.d,ee 3 (bj s (aF t (qT {q with row:=bK q.row} q.P) s.TK) s.TL) (.on (.al 3 [0,m])),.sh (.lst (q.rg.map .int)),.sh (.int (bK q.row)),.un,.un]:=by
    show [Slot.sh s.d,.sh (.int t),.sh Rw.call.d,.sh (T.toD (bj s (aF t (qT {q with row:=bK q.row} q.P) s.TK) s.TL)),_,ee 3 (bj s (aF t (qT {q with row:=bK q.row} q.P) s.TK) s.TL) (.on (.al 3 [0,m,2])),.sh (.int (bK q.row)),.un,.un]=_;rw[e0,qB (p:=[0,m,2]) (t1:=tW q.rg) (gx (p:=[2]) (hm.set nk _)) (sE q.rg)]
   generalize ee 3 (bj s (aF t (qT {q with row:=bK q.row} q.P) s.TK) s.TL) (.on (.al 3 [0,m]))=s4 at hs;refine aZ (sN rfl hs (iZ (x:={s with K:=aF t {q with row:=bK q.row} s.K:St}.d) (y:=(Td.sQ (ra q.rg 0) (ra q.rg 1) (ra q.rg 2) (ra q.rg 3)).d) rfl ?_));have k:∀(j:Int) {ρ:En},ρ[5]? =some (.sh (.lst (q.rg.map .int)))->B8 j->e2 ag (aa 5) (eC (.int j)) ρ=.ok (.int (ra q.rg j)):=λj {ρ} Pa hj=>aH (ev Pa) rfl (dW h.r8 hj);unfold aP;simp only[eList];rw[k 0 rfl ⟨by decide,by decide⟩,k 1 rfl ⟨by decide,by decide⟩,k 2 rfl ⟨by decide,by decide⟩,k 3 rfl ⟨by decide,by decide⟩]
   rfl
  | gG n=>
   rw[ah (aR (by kernel_rfl)),ah (Os (bB (by kernel_rfl)) (bh (d:=.int n) rfl))]
   show az _ [.sh s.d,.sh (.int t),.sh (Rw.gG n).d,.on (.tr (bj s s.TK s.TL)),.on (.al 3 [0,m]),.on (.al 3 [0,m,2]),.sh (.int n),.un,.un]=_;rw[<-self,tl (ja q) (kT s)];rfl
  | fL a n=>
   have hb:∀ {ρ:En},ρ[5]? =some (.sh (.lst (q.rg.map .int)))->ρ[2]? =some (.sh (Rw.fL a n).d)->e2 dH (e2 ag (aa 5) (e2 ag (aa 2) (eC (.int 1)))) (eC (.int 0)) ρ=.ok (.bl (!decide (ra q.rg a=0))):=λ{ρ} h5 h2=>aH (aH (ev h5) (y:=.int a) (aH (ev h2) rfl rfl) (dW h.r8 hr.1)) rfl (ne_int _ _)
   rw[ah (aR (by kernel_rfl)),ah (ρ':=[.sh s.d,.sh (.int t),.sh (Rw.fL a n).d,.on (.tr (bj s s.TK s.TL)),.on (.al 3 [0,m]),.on (.al 3 [0,m,2]),.sh (.int (if ra q.rg a=0 then bK q.row else n)),.un,.un]) (by
    rw[gf (by kernel_rfl),bB (by kernel_rfl)]
    refine bh (d:=.int (if ra q.rg a=0 then bK q.row else n)) (peek rfl (sees ns nu nu) (aH (pT (y:=.int n) rfl rfl) (sx (hb rfl rfl)) ?_) rfl)
    by_cases hz:ra q.rg a=0
    ·rw[FS hz,AC hz];rfl
    ·rw[KB hz,DF hz];rfl)]
   rw[<-self,tl (ja q) (kT s)];rfl
  | store a b n=>
   have V6:e2 oMod (e2 bb (e2 ag (aa 5) (e2 ag (aa 2) (eC (.int 2)))) (e2 ag (aa 2) (eC (.int 3)))) (eC (.int 4294967296)) [.sh s.d,.sh (.int t),.sh (Rw.store a b n).d,.sh s.d,.sh q.d,.sh (.lst (q.rg.map .int)),.sh (.int (bK q.row)),.un,.un]=.ok (.int (adr q.rg b n)):=bT (cD (aH rfl (y:=.int b) rfl (dW h.r8 hr.2.1)) (u:=n) rfl) rfl (by decide)
   have ew:=rC (ad:=adr q.rg b n) h.lk λx hx=>h.pg _ x hx;rw[ah (aR (by kernel_rfl))]
   cases hv:wd s.L q.pg (adr q.rg b n)with
   | none=>
    rw[hv]at ew;rw[pD hv];refine aZ ?_;rw[gf (by kernel_rfl),gf (by kernel_rfl),bB (by kernel_rfl),ah (bh (peek rfl (sees ns nu nu) V6 rfl))]
    exact aZ (Os (bB (bz (fz (dC rfl rfl rfl ew) rfl))) (zB (w:=.tup [S "fault",S "page"]) λρ' _=>rfl))
   | some v=>
    rw[hv]at ew;rw[m7 hv]
    obtain⟨x,hx⟩:∃x,look (adr q.rg b n / 16) q.pg=some x:=by
     unfold wd at hv;cases hx:look (adr q.rg b n / 16) q.pg with
     |none=>rw[hx]at hv;cases hv
     |some x=>exact⟨x,rfl⟩
    obtain⟨w,hw,QN,_⟩:=h.pg _ x hx
    rw[ah (ρ':=[.sh s.d,.sh (.int t),.sh (Rw.store a b n).d,.on (.tr (jd s t q (adr q.rg b n) (ra q.rg a) w x)),.un,.un,.sh (.int (bK q.row)),.sh (.int (adr q.rg b n)),.un]) (by
     rw[gf (by kernel_rfl),gf (by kernel_rfl),bB (by kernel_rfl),ah (bh (peek rfl (sees ns nu nu) V6 rfl))]
     rw[ah (aR (bz (fz (dC rfl rfl rfl ew) rfl)))];show az [qq 3 _] [.sh s.d,.sh (.int t),.sh (Rw.store a b n).d,.on (.tr (bj s s.TK s.TL)),.on (.al 3 [0,m]),.on (.al 3 [0,m,2]),.sh (.int (bK q.row)),.sh (.int (adr q.rg b n)),.un]=_;have ex:=DG (m:=lF) (a:=aa 0) (b:=aa 1) (c:=aa 7) (d:=iw 3 (e2 ag (aa 5) (e2 ag (aa 2) (eC (.int 1))))) (ρ:=[.sh s.d,.sh (.int t),.sh (Rw.store a b n).d,.on (.tr (bj s s.TK s.TL)),.on (.al 3 [0,m]),.on (.al 3 [0,m,2]),.sh (.int (bK q.row)),.sh (.int (adr q.rg b n)),.un]) rfl rfl rfl (peek rfl (sees ns ns nu) (aH rfl (y:=.int a) rfl (dW h.r8 hr.1)) rfl) (EV (ad:=adr q.rg b n) (v:=ra q.rg a) h nc nk hx hw QN);refine(ah (ρ':=[.sh s.d,.sh (.int t),.sh (Rw.store a b n).d,.on (.tr (jd s t q (adr q.rg b n) (ra q.rg a) w x)),.un,.un,.sh (.int (bK q.row)),.sh (.int (adr q.rg b n)),.un]) ?_).trans rfl;unfold qq;rw[ex,R.bo];rfl)]
    show _=R.ok (Fl.ret (.tup [(s.fin t q ⟨.row,q.rg,bK q.row,some (adr q.rg b n,ra q.rg a)⟩).d,.tup [S "row"]]));cases x with
    | own w0=>
     cases hw;show az _ [.sh s.d,.sh (.int t),.sh (Rw.store a b n).d,.on (.tr (bj s (aF t (qT {q with pg:=aF (adr q.rg b n / 16) (.own (w.set (adr q.rg b n % 16).toNat (ra q.rg a))) q.pg} (aF (adr q.rg b n / 16) (.d (Pg.own (w.set (adr q.rg b n % 16).toNat (ra q.rg a))).d) q.P)) s.TK) s.TL)),.un,.un,.sh (.int (bK q.row)),.sh (.int (adr q.rg b n)),.un]=_;rw[tl (by rw[kX,kX,ja];rfl) (kT s)]
     unfold St.fin;simp only[hx]
    | bR n1=>
     have hw:look n1 s.L=some w:=hw;show az _ [.sh s.d,.sh (.int t),.sh (Rw.store a b n).d,.on (.tr (bj s s.TK (aF n1 (.d (W (w.set (adr q.rg b n % 16).toNat (ra q.rg a)))) s.TL))),.un,.un,.sh (.int (bK q.row)),.sh (.int (adr q.rg b n)),.un]=_;rw[<-self,tl (L':=aF n1 (w.set (adr q.rg b n % 16).toNat (ra q.rg a)) s.L) (ja q) (by rw[kX,kX,kT];rfl)]
     unfold St.fin;simp only[hx,hw];rfl
  |load a b n=>exact absurd (.inr ⟨_,_,_,rfl⟩) hk
  |_=>exact absurd (.inl True.intro) hk
end
theorem nJ:∀ {ds:List D},(∀d∈ds,d7 d<=n)->eB ds<=n
 |[],_=>Xm _
 | d::ds,h=>by
  show max (d7 d) (eB ds)<=n;have h1:=h d FB;have h2:=nJ λx hx=>h x (Do _ hx);omega
theorem pw:∀ {ds:List D},(∀d∈ds,nice d=true)->ip ds=true
 |[],_=>rfl
 | d::ds,h=>by
  show(nice d&&ip ds)=true;rw[h d FB,pw λx hx=>h x (Do _ hx)];rfl
theorem Ga(h3:vs.length<=1000)(h4:ip vs=true):nice (.lst vs)=true:=by
 unfold nice;rw[FS h3,h4];rfl
theorem JY{α:Type}{L:AL α}{f:α->D}{n:Nat}(nk:Nk L)(hl:L.length<=1000)(h:∀q∈L,nice (f q.2)=true/\d7 (f q.2)<=n):nice (.aA (ak L) (av f L))=true/\d7 (.aA (ak L) (av f L))<=n+1:=by
 constructor
 ·unfold nice
  rw[FS (show(ak L).Nodup by rw[vm];exact List.Pairwise.map _ (λa b h z=>h (jR.mp z)) nk),FS (show(ak L).length=(av f L).length by rw[j4,De]),FS (show(ak L).length<=1000 by rw[j4];exact hl),pw λd hd=>by obtain⟨q,hq,rfl⟩:=S4.mp hd;exact(h q hq).1];rfl
 ·show eB (av f L)+1<=n+1
  have:=nJ (n:=n) (ds:=av f L) λd hd=>by obtain⟨q,hq,rfl⟩:=S4.mp hd;exact(h q hq).2
  omega
def ND(n:Nat)(d:D):Prop:=nice d=true/\d7 d<=n
theorem FX(h3:ds.length<=1000)(h:∀d∈ds,ND n d):ND (n+1) (.lst ds):=⟨Ga h3 (pw λd hd=>(h d hd).1),by show eB ds+1<=n+1;have:=nJ λd hd=>(h d hd).2;omega⟩
theorem kj(h3:ds.length<=1000)(h:∀d∈ds,ND n d):ND (n+1) (.tup ds):=⟨by
 unfold nice;rw[FS h3,pw λd hd=>(h d hd).1];rfl,by show eB ds+1<=n+1;have:=nJ λd hd=>(h d hd).2;omega⟩
theorem zJ(h1:ks.Nodup)(h2:ks.length=ds.length)(h3:ks.length<=1000)(h:∀d∈ds,ND n d):ND (n+1) (.aA ks ds):=⟨by
 unfold nice;rw[FS h1,FS h2,FS h3,pw λd hd=>(h d hd).1];rfl,by show eB ds+1<=n+1;have:=nJ λd hd=>(h d hd).2;omega⟩
theorem ND.up{n m:Nat}{d:D}(h:ND n d)(hm:n<=m):ND m d:=⟨h.1,Re h.2 hm⟩
theorem Ck{w:Xj}:∀d∈w.map D.int,ND 0 d:=λd hd=>by obtain⟨i,_,rfl⟩:=S4.mp hd;exact⟨rfl,Gc _⟩
theorem mC(h:nice (S x)=true:=by kernel_rfl):ND 0 (S x):=⟨h,Gc _⟩
theorem vV:ND 0 (.int i):=⟨rfl,Gc _⟩
def Pg.sm:Pg->Prop
 |.own w=>w.length<=900
 |.bR _=>True
structure NQ(q:Q):Prop where
 nk:Nk q.pg
 pl:q.pg.length<=900
 rl:q.rg.length<=900
 ps:∀p∈q.pg,p.2.sm
 ds:∀d∈[q.pa,q.rk,q.ha,q.wa,q.hd,q.ru,q.sa],ND 3 d
structure NS(s:St):Prop where
 nk:Nk s.K
 kl:s.K.length<=900
 nl:Nk s.L
 ll:s.L.length<=900
 ks:∀p∈s.K,NQ p.2
 ls:∀p∈s.L,p.2.length<=900
 ds:∀d∈[s.nd,s.bx,s.cl],ND 4 d
theorem Cp{w:Xj}(h:w.length<=900):ND 1 (W w):=kj (by rw[GE];omega) Ck
theorem Kh{x:Pg}(h:x.sm):ND 2 x.d:=by
 cases x with
 | own w=>
  refine kj (by simp) λd hd=>?_
  rcases Da.mp hd with rfl|hd
  ·exact ND.up mC (by decide)
  ·cases PP.mp hd;exact Cp h
 | bR n=>
  refine kj (by simp) λd hd=>?_
  rcases Da.mp hd with rfl|hd
  ·exact ND.up mC (by decide)
  ·cases PP.mp hd;exact vV.up (by decide)
theorem vM{α:Type}{L:AL α}{f:α->D}{n:Nat}(nk:Nk L)(hl:L.length<=900)(h:∀q∈L,ND n (f q.2)):ND (n+1) (.aA (ak L) (av f L)):=JY nk (by omega) h
theorem Ld{q:Q}(h:NQ q):ND 4 q.d:=by
 refine zJ (by decide) rfl (by decide) λd hd=>?_
 have hp:ND 3 (.aA (ak q.pg) (av Pg.d q.pg)):=vM h.nk h.pl λp hp=>Kh (h.ps p hp);have hr:ND 3 (.lst (q.rg.map .int)):=(FX (by rw[GE];have:=h.rl;omega) Ck).up (by decide)
 have hw:ND 3 (.int q.row):=vV.up (by decide)
 have:=h.ds;simp only[Q.vs,Da,On,XU]at hd this;rcases hd with rfl|rfl|rfl|rfl|rfl|rfl|rfl|rfl|rfl|rfl<;>first|assumption|(apply this;simp)
theorem uN{s:St}(h:NS s):ND 6 s.d:=by
 refine zJ (by decide) rfl (by decide) λd hd=>?_
 have hK:ND 5 (.aA (ak s.K) (av Q.d s.K)):=vM h.nk h.kl λp hp=>Ld (h.ks p hp);have hL:ND 5 (.aA (ak s.L) (av W s.L)):=(vM h.nl h.ll λp hp=>Cp (h.ls p hp)).up (by decide)
 have:=λd hd=>(h.ds d hd).up (show 4<=5 by decide)
 simp only[Da,On,XU]at hd this;rcases hd with rfl|rfl|rfl|rfl|rfl<;>first|assumption|(apply this;simp)
theorem NS.nc(h:NS s):NC s.d:=⟨(uN h).1,by have:=(uN h).2;omega⟩
mutual
theorem Ag:∀d:D,nice d=true->fZ d=true
 |.lst xs,h=>by unfold nice at h;rw[mO]at h;exact rh xs h.2
 |.aA ks vs,h=>by unfold nice at h;rw[mO]at h;exact rh vs h.2
 |.tup xs,h=>by unfold nice at h;rw[mO]at h;exact rh xs h.2
 |.aE,_=>rfl
 |.bl _,_=>rfl
 |.int _,_=>rfl
 |.str _,_=>rfl
 |.cE _ _ _,h=>by cases h
theorem rh:∀ds:List D,ip ds=true->gU ds=true
 |[],_=>rfl
 | d::ds,h=>by
  unfold ip at h;rw[mO]at h;show(fZ d&&gU ds)=true;rw[Ag d h.1,rh ds h.2];rfl
end
section
variable{s:St}{q q':Q}{t:Int}
theorem NS.putK(h:NS s)(hA:look t s.K=some q)(hq:NQ q'):NS {s with K:=aF t q' s.K} where
 nk:=h.nk.aF
 kl:=by show(aF t q' s.K).length<=900;rw[pY hA];exact h.kl
 nl:=h.nl
 ll:=h.ll
 ks:=λp hp=>by
  rcases xl h.nk hp with rfl|⟨hp,_⟩
  ·exact hq
  ·exact h.ks p hp
 ls:=h.ls
 ds:=h.ds
theorem NS.putL(h:NS s)(hA:look n s.L=some w)(hw:w'.length<=900):NS {s with L:=aF n w' s.L} where
 nk:=h.nk
 kl:=h.kl
 nl:=h.nl.aF
 ll:=by show(aF n w' s.L).length<=900;rw[pY hA];exact h.ll
 ks:=h.ks
 ls:=λp hp=>by
  rcases xl h.nl hp with rfl|⟨hp,_⟩
  ·exact hw
  ·exact h.ls p hp
 ds:=h.ds
theorem NS.fin(h:NS s)(hA:look t s.K=some q)(hp:∀p x,look p q.pg=some x->x.ok s.L)(hx:x.rg.length<=900):NS (s.fin t q x):=by
 have hq:NQ q:=h.ks _ (rM hA);have h1:NQ {q with rg:=x.rg,row:=x.nx}:=⟨hq.nk,hq.pl,hx,hq.ps,hq.ds⟩;unfold St.fin;cases x.st with
 |none=>exact h.putK hA h1
 | some p=>
  show NS (match look (p.1 / 16) q.pg with|some (.own w)=>_|some (.bR n)=>_|none=>s)
  cases hy:look (p.1 / 16) q.pg with
  |none=>exact h
  | some y=>
   cases y with
   | own w=>
    have hw:=hq.ps _ (rM hy);refine h.putK hA ⟨hq.nk.aF,?_,hx,λp hp=>?_,hq.ds⟩
    ·show(aF _ _ q.pg).length<=900;rw[pY hy];exact hq.pl
    ·rcases xl hq.nk hp with rfl|⟨hp,_⟩
     ·show(w.set _ _).length<=900;rw[ZP];exact hw
     ·exact hq.ps p hp
   | bR n=>
    obtain⟨w,hw,QN,_⟩:=hp _ _ hy;have hw:look n s.L=some w:=hw;refine(h.putK hA h1).putL (w:=w) hw ?_;rw[hw];show(w.set _ _).length<=900;rw[ZP];omega
theorem MJ:(dX V rg i r).rg.length=rg.length:=by
 rcases qU r with⟨a,b,n,rfl|rfl⟩|(rfl|⟨n,rfl⟩|⟨a,n,rfl⟩)|hk
 ·cases h2:V (adr rg b n)with
  |none=>rw[nZ h2];rfl
  |some v=>rw[pR h2];exact ZP
 ·cases h2:V (adr rg b n)with
  |none=>rw[pD h2];rfl
  |some v=>rw[m7 h2]
 ·rfl
 ·rfl
 ·rfl
 ·rw[pE hk]
  cases rk rg r with
  |none=>rfl
  |some v=>exact ZP
theorem MU:(dh V rg i).rg.length=rg.length:=by
 unfold dh;cases V i with
 |none=>rfl
 | some w=>
  show(match dec w with|none=>cP "code" rg i|some r=>dX V rg i r).rg.length=_
  cases dec w with
  |none=>rfl
  |some r=>exact MJ
end
def Td.sm:Td->Prop
 |.cP w=>w="page"\/w="code"\/w="cut"
 |_=>True
theorem Ed:(dX V rg i r).told.sm:=by
 rcases qU r with⟨a,b,n,rfl|rfl⟩|(rfl|⟨n,rfl⟩|⟨a,n,rfl⟩)|hk
 ·cases h2:V (adr rg b n)with
  |none=>rw[nZ h2];exact .inl rfl
  |some v=>rw[pR h2];exact True.intro
 ·cases h2:V (adr rg b n)with
  |none=>rw[pD h2];exact .inl rfl
  |some v=>rw[m7 h2];exact True.intro
 ·exact True.intro
 ·exact True.intro
 ·exact True.intro
 ·rw[pE hk]
  cases rk rg r with
  |none=>exact .inr (.inr rfl)
  |some v=>exact True.intro
theorem GJ:(dh V rg i).told.sm:=by
 unfold dh;cases V i with
 |none=>exact .inl rfl
 | some w=>
  show(match dec w with|none=>cP "code" rg i|some r=>dX V rg i r).told.sm
  cases dec w with
  |none=>exact .inr (.inl rfl)
  |some r=>exact Ed
theorem Lq{x:Td}(h:x.sm):ND 1 x.d:=by
 cases x with
 | cP w=>
  refine kj (n:=0) (by simp) λd hd=>?_
  rcases Da.mp hd with rfl|hd
  ·exact mC
  ·cases PP.mp hd
   rcases h with rfl|rfl|rfl<;>exact mC
 | row=>
  refine kj (n:=0) (by simp) λd hd=>?_
  cases PP.mp hd;exact mC
 | sQ a b c e=>
  refine kj (n:=0) (by simp) λd hd=>?_
  simp only[Da,On,XU]at hd;rcases hd with rfl|rfl|rfl|rfl|rfl
  ·exact mC
  all_goals exact vV
theorem KN{s:St}{q:Q}{t:Int}(h:NS s)(hs:OS s t q):NC (gP s t q (dh (wd s.L q.pg) q.rg q.row)):=by
 have h1:NS (if(dh (wd s.L q.pg) q.rg q.row).told.ph then s else s.fin t q (dh (wd s.L q.pg) q.rg q.row)):=by
  split
  ·exact h
  ·exact h.fin hs.lk hs.pg (by rw[MU,hs.r8];decide)
 have:=kj (n:=6) (ds:=[St.d (if(dh (wd s.L q.pg) q.rg q.row).told.ph then s else s.fin t q (dh (wd s.L q.pg) q.rg q.row)),(dh (wd s.L q.pg) q.rg q.row).told.d]) (by simp) (λd hd=>by
  rcases Da.mp hd with rfl|hd
  ·exact uN h1
  ·cases PP.mp hd;exact(Lq GJ).up (by decide))
 exact⟨this.1,by have:=this.2;show d7 (.tup _)<9;omega⟩
noncomputable def Gx:Sm:=az [aO (tV (e2 oEq (aa 1) (eC (S "call")))) (aM (aP [aa 1])) (aV),aO (tV (e2 oEq (aa 1) (eC (S "jump")))) (aM (aP [aa 1,aa 5])) (aV),aO (tV (e2 ck (aa 1) (aP [eC (S "put"),eC (S "high"),eC (S "if")]))) (aM (aP [aa 1,aa 2,aa 5])) (aV),aO (tV (e2 oEq (aa 1) (eC (S "copy")))) (aM (aP [aa 1,aa 2,aa 3])) (aV),aO (tV (e2 ck (aa 1) (aP [eC (S "load"),eC (S "store")]))) (aM (aP [aa 1,aa 2,aa 3,aa 5])) (aV),aM (aP [aa 1,aa 2,aa 3,aa 4])]
section
variable{a b c n:Int}
theorem G0:∀ {j:Nat},j<15->Gx [s0,.sh (kL.getD j .aE),.sh (.int a),.sh (.int b),.sh (.int c),.sh (.int n)]=.ok (.ret (m6 a b c n j).d)
 |0,_=>by kernel_rfl
 |1,_=>by kernel_rfl
 |2,_=>by kernel_rfl
 |3,_=>by kernel_rfl
 |4,_=>by kernel_rfl
 |5,_=>by kernel_rfl
 |6,_=>by kernel_rfl
 |7,_=>by kernel_rfl
 |8,_=>by kernel_rfl
 |9,_=>by kernel_rfl
 |10,_=>by kernel_rfl
 |11,_=>by kernel_rfl
 |12,_=>by kernel_rfl
 |13,_=>by kernel_rfl
 |14,_=>by kernel_rfl
 |j+15,h=>absurd h (by omega)
theorem GI:∀ {j:Nat},j<15->fP [(m6 a b c n j).d]=.ok (.int (ny a b c n j))
 |0,_=>lN (by kernel_rfl) (by kernel_rfl) (by kernel_rfl)
 |1,_=>lN (by kernel_rfl) (by kernel_rfl) (by kernel_rfl)
 |2,_=>yr (by kernel_rfl) (by kernel_rfl) (by kernel_rfl) (by kernel_rfl)
 |3,_=>gn (by kernel_rfl) (by kernel_rfl) (by kernel_rfl) (by kernel_rfl)
 |4,_=>gn (by kernel_rfl) (by kernel_rfl) (by kernel_rfl) (by kernel_rfl)
 |5,_=>gn (by kernel_rfl) (by kernel_rfl) (by kernel_rfl) (by kernel_rfl)
 |6,_=>gn (by kernel_rfl) (by kernel_rfl) (by kernel_rfl) (by kernel_rfl)
 |7,_=>gn (by kernel_rfl) (by kernel_rfl) (by kernel_rfl) (by kernel_rfl)
 |8,_=>gn (by kernel_rfl) (by kernel_rfl) (by kernel_rfl) (by kernel_rfl)
 |9,_=>gn (by kernel_rfl) (by kernel_rfl) (by kernel_rfl) (by kernel_rfl)
 |10,_=>qI (by kernel_rfl) (by kernel_rfl) (by kernel_rfl) (by kernel_rfl)
 |11,_=>qI (by kernel_rfl) (by kernel_rfl) (by kernel_rfl) (by kernel_rfl)
 |12,_=>by kernel_rfl
 |13,_=>lN (by kernel_rfl) (by kernel_rfl) (by kernel_rfl)
 |14,_=>by kernel_rfl
 |j+15,h=>absurd h (by omega)
theorem Ml(ha:B8 a)(hb:B8 b)(hc:B8 c)(hn:BN n):∀ {j:Nat},j<15->0<=ny a b c n j/\ny a b c n j<503316480:=by
 obtain⟨a0,a1⟩:=ha;obtain⟨b0,b1⟩:=hb;obtain⟨c0,c1⟩:=hc;obtain⟨n0,n1⟩:=hn;intro j h
 match j,h with
 |0,_=>show(0:Int)<=0*33554432+a*4194304+n/\0*33554432+a*4194304+n<503316480;omega
 |1,_=>show(0:Int)<=1*33554432+a*4194304+n/\1*33554432+a*4194304+n<503316480;omega
 |2,_=>show(0:Int)<=2*33554432+a*4194304+b*524288/\2*33554432+a*4194304+b*524288<503316480;omega
 |3,_=>show(0:Int)<=3*33554432+a*4194304+b*524288+c*65536/\3*33554432+a*4194304+b*524288+c*65536<503316480;omega
 |4,_=>show(0:Int)<=4*33554432+a*4194304+b*524288+c*65536/\4*33554432+a*4194304+b*524288+c*65536<503316480;omega
 |5,_=>show(0:Int)<=5*33554432+a*4194304+b*524288+c*65536/\5*33554432+a*4194304+b*524288+c*65536<503316480;omega
 |6,_=>show(0:Int)<=6*33554432+a*4194304+b*524288+c*65536/\6*33554432+a*4194304+b*524288+c*65536<503316480;omega
 |7,_=>show(0:Int)<=7*33554432+a*4194304+b*524288+c*65536/\7*33554432+a*4194304+b*524288+c*65536<503316480;omega
 |8,_=>show(0:Int)<=8*33554432+a*4194304+b*524288+c*65536/\8*33554432+a*4194304+b*524288+c*65536<503316480;omega
 |9,_=>show(0:Int)<=9*33554432+a*4194304+b*524288+c*65536/\9*33554432+a*4194304+b*524288+c*65536<503316480;omega
 |10,_=>show(0:Int)<=10*33554432+a*4194304+b*524288+n/\10*33554432+a*4194304+b*524288+n<503316480;omega
 |11,_=>show(0:Int)<=11*33554432+a*4194304+b*524288+n/\11*33554432+a*4194304+b*524288+n<503316480;omega
 |12,_=>show(0:Int)<=12*33554432+n/\12*33554432+n<503316480;omega
 |13,_=>show(0:Int)<=13*33554432+a*4194304+n/\13*33554432+a*4194304+n<503316480;omega
 |14,_=>show(0:Int)<=14*33554432/\14*33554432<503316480;omega
end
theorem MZ(z:Int):∃(a b c n:Int) (j:Nat),B8 a/\B8 b/\B8 c/\BN n/\j<15/\pj [.int z]=.ok (m6 a b c n j).d:=by
 obtain⟨j,hj⟩:=aar (show 0<=z % 15 by omega)
 have PZ:j<15:=by omega
 have hn:∃n,BN n/\∀(s1 s2 s3 s4 s5:Slot),e2 ag (cn [e2 oMod (e2 oDiv (aa 0) (eC (.int 30720))) (eC (.int 65536)),e2 oMod (e2 oDiv (aa 0) (eC (.int 30720))) (eC (.int 40))]) (e2 oDiv (e2 oMod (e2 oDiv (aa 0) (eC (.int 7680))) (eC (.int 4))) (eC (.int 3))) [.sh (.int z),s1,s2,s3,s4,s5]=.ok (.int n):=by
  have hi:∀(s1 s2 s3 s4 s5:Slot),e2 oDiv (e2 oMod (e2 oDiv (aa 0) (eC (.int 7680))) (eC (.int 4))) (eC (.int 3)) [.sh (.int z),s1,s2,s3,s4,s5]=.ok (.int (z / 7680 % 4 / 3)):=λ_ _ _ _ _=>cM (bT (cM rfl rfl (by decide)) rfl (by decide)) rfl (by decide)
  have hl:∀(s1 s2 s3 s4 s5:Slot),cn [e2 oMod (e2 oDiv (aa 0) (eC (.int 30720))) (eC (.int 65536)),e2 oMod (e2 oDiv (aa 0) (eC (.int 30720))) (eC (.int 40))] [.sh (.int z),s1,s2,s3,s4,s5]=.ok (.lst [.int (z / 30720 % 65536),.int (z / 30720 % 40)]):=λ_ _ _ _ _=>pT (bT (cM rfl rfl (by decide)) rfl (by decide)) (bT (cM rfl rfl (by decide)) rfl (by decide))
  by_cases h:z / 7680 % 4 / 3=0
  ·refine⟨z / 30720 % 65536,⟨by omega,by omega⟩,λs1 s2 s3 s4 s5=>?_⟩
   have hi:=hi s1 s2 s3 s4 s5;rw[h]at hi;exact aH (hl _ _ _ _ _) hi rfl
  ·refine⟨z / 30720 % 40,⟨by omega,by omega⟩,λs1 s2 s3 s4 s5=>?_⟩
   have hi:=hi s1 s2 s3 s4 s5;rw[show z / 7680 % 4 / 3=1 by omega]at hi
   exact aH (hl _ _ _ _ _) hi rfl
 obtain⟨n,hn,en⟩:=hn;refine⟨z / 15 % 8,z / 120 % 8,z / 960 % 8,n,j,⟨by omega,by omega⟩,⟨by omega,by omega⟩,⟨by omega,by omega⟩,hn,PZ,?_⟩
 rw[pj];refine cf ?_;show az _ [.sh (.int z),.un,.un,.un,.un,.un]=_
 rw[ah (bh (d:=kL.getD j .aE) (aH (mz _) (bT rfl rfl (by decide)) (by
  rw[hj];refine jc ?_;have hl:j<kL.length:=PZ;rw[kC hl,W1,Fk hl];rfl)))]
 rw[ah (bh (bT (cM rfl rfl (by decide)) rfl (by decide))),ah (bh (bT (cM rfl rfl (by decide)) rfl (by decide))),ah (bh (bT (cM rfl rfl (by decide)) rfl (by decide)))]
 show az _ [.sh (.int z),.sh (kL.getD j .aE),.sh (.int (z / 15 % 8)),.sh (.int (z / 120 % 8)),.sh (.int (z / 960 % 8)),.un]=_;rw[ah (bh (en _ _ _ _ _))];exact G0 PZ
theorem Ws.snoc(h:Ws w)(h0:0<=x)(h1:x<4294967296):Ws (w++[x]):=λy hy=>by
 rcases M0.mp hy with hy|hy
 ·exact h y hy
 ·cases PP.mp hy;exact⟨h0,h1⟩
theorem Ws.set(h:Ws w)(hx:0<=x/\x<4294967296):Ws (w.set k x):=λy hy=>by
 rcases List.mem_or_eq_of_mem_set hy with hy|rfl
 ·exact h y hy
 ·exact hx
theorem tO(k:Int):∃w,j9 [.int k]=.ok (W w)/\w.length=16/\Ws w:=by
 rw[j9]
 obtain⟨Ov,eL,ss,w,x2,hw,hW,Pa⟩:=xo (tg:=aG 2) (body:=qY) (λn ρ=>∃(ss:Int) (w:Xj) (x2:Slot),w.length=n/\Ws w/\ρ=[.sh (.int ss),.ol (w.map .int),x2]) (ds:=dG 0 16) 0 (by
  intro n d hk ρ ⟨ss,w,x2,hw,hW,Pa⟩;obtain⟨rfl,Qz⟩:=CQ hk;subst Pa;refine⟨_,rfl,?_⟩;show ∃Ph,az _ [.sh (.int ss),.ol (w.map .int),.sh (.int (0+(n:Int)))]=_/\_;rw[ah (B9 (bT (cD rfl (dB (dB rfl rfl (.inl (by decide))) rfl (.inr (by unfold small;rw[FS (by omega),FS (by omega)];rfl)))) rfl (by decide)) rfl (by rw[GE];omega))]
  show ∃Ph,az _ [.sh (.int ss),.ol (w.map .int++[.int ((ss+40503*(0+(n:Int))*(0+(n:Int))) % 4294967296)]),.sh (.int (0+(n:Int)))]=_/\_;rw[ah (bh (cM rfl rfl (by decide)))]
  refine⟨_,rfl,ss / 4294967296,w++[(ss+40503*(0+(n:Int))*(0+(n:Int))) % 4294967296],.sh (.int (0+(n:Int))),by rw[KM];simp;omega,hW.snoc (aao _ (by decide)) (aaK _ (by decide)),?_⟩
  rw[ZQ];rfl) (ρ:=[.sh (.int k),.ol [],.un]) ⟨k,[],.un,rfl,(λ_ h=>nomatch h),rfl⟩
 subst Pa;refine⟨w,cf ?_,by rw[hw];rfl,hW⟩
 show az _ [.sh (.int k),.un,.un]=_;rw[ah (uk (xs:=[]) rfl)];show az _ [.sh (.int k),.ol [],.un]=_;rw[ah (kg (ds:=dG 0 16) rfl eL)];rw[ah (ρ':=[.sh (.int ss),.sh (.lst (w.map .int)),x2]) rfl];exact aZ (bE rfl)
theorem G1(hf:0<=f/\f<=4094)(hg:0<=g/\g<=4090):∃v,(0<=v/\v<4294967296)/\nz [.int z,.lst [.int f,.int (f+1),.int g]]=.ok (.int v):=by
 obtain⟨x,hx,ex⟩:=jq (xs:=[f,f+1,g]) (i:=z / 8 % 3) (by omega) (by show _<(3:Int);omega)
 have Wg:0<=x/\x<=4095:=by
  simp only[Da,On,XU]at hx;rcases hx with rfl|rfl|rfl<;>omega
 obtain⟨v,hv,YV⟩:=jq (xs:=[0,1,z / 8 % 20,4294967295 - z / 8 % 20,z / 8 % 4294967296,x*16+z / 24 % 16,g*16+15,65535]) (i:=z % 8) (by omega) (by show _<(8:Int);omega)
 refine⟨v,?_,?_⟩
 ·simp only[Da,On,XU]at hv
  rcases hv with rfl|rfl|rfl|rfl|rfl|rfl|rfl|rfl<;>omega
 ·rw[nz]
  refine cf ?_;show az _ [.sh (.int z),.sh (.lst [.int f,.int (f+1),.int g]),.un]=_;have l5:cn [eC (.int 0),eC (.int 1),e2 oMod (e2 oDiv (aa 0) (eC (.int 8))) (eC (.int 20)),e2 ji (eC (.int 4294967295)) (e2 oMod (e2 oDiv (aa 0) (eC (.int 8))) (eC (.int 20))),e2 oMod (e2 oDiv (aa 0) (eC (.int 8))) (eC (.int 4294967296))] [.sh (.int z),.sh (.lst [.int f,.int (f+1),.int g]),.un]=.ok (.lst [.int 0,.int 1,.int (z / 8 % 20),.int (4294967295 - z / 8 % 20),.int (z / 8 % 4294967296)]):=by kernel_rfl
  rw[ah (bh l5)];show az _ [.sh (.int z),.sh (.lst [.int f,.int (f+1),.int g]),.sh (.lst [.int 0,.int 1,.int (z / 8 % 20),.int (4294967295 - z / 8 % 20),.int (z / 8 % 4294967296)])]=_;have e5:e2 bb (e2 bZ (e2 ag (aa 1) (e2 oMod (e2 oDiv (aa 0) (eC (.int 8))) (eC (.int 3)))) (eC (.int 16))) (e2 oMod (e2 oDiv (aa 0) (eC (.int 24))) (eC (.int 16))) [.sh (.int z),.sh (.lst [.int f,.int (f+1),.int g]),.sh (.lst [.int 0,.int 1,.int (z / 8 % 20),.int (4294967295 - z / 8 % 20),.int (z / 8 % 4294967296)])]=.ok (.int (x*16+z / 24 % 16)):=cD (dB (aH rfl (bT (cM rfl rfl (by decide)) rfl (by decide)) (jc ex)) rfl (.inr (by decide))) (bT (cM rfl rfl (by decide)) rfl (by decide))
  have e6:e2 bb (e2 bZ (e2 ag (aa 1) (eC (.int 2))) (eC (.int 16))) (eC (.int 15)) [.sh (.int z),.sh (.lst [.int f,.int (f+1),.int g]),.sh (.lst [.int 0,.int 1,.int (z / 8 % 20),.int (4294967295 - z / 8 % 20),.int (z / 8 % 4294967296)])]=.ok (.int (g*16+15)):=cD (dB (i:=g) rfl rfl (.inr (by decide))) rfl
  rw[ah (bh (aH rfl (qJ e5 e6 rfl) rfl))];exact aZ (bE (aH rfl (bT rfl rfl (by decide)) (jc YV)))
def Na(s:Slot):Prop:=∀k q,s≠.on (.al k q)
theorem cG:Na (.sh d):=λ_ _ h=>nomatch h
theorem du:Na .un:=λ_ _ h=>nomatch h
theorem zC:Na (.on (.tr t)):=λ_ _ h=>by injection h with h;cases h
theorem Na.drop(h:Na s):cq i p s=s:=by
 cases s with
 | on z=>cases z with
  |tr t=>rfl
  |al k q=>exact absurd rfl (h k q)
 |_=>rfl
noncomputable abbrev E(c k z tt f:Int)(pg:D)(s6 s7 s8 s9 s10 s11 s12 s13:Slot):En:=[.sh (.int c),.sh (.int k),.sh (.int z),.sh (.int tt),.sh (.int f),.sh pg,s6,s7,s8,s9,s10,s11,s12,s13]
section
variable{c k z tt f:Int}{pg:D}{s7 s8 s9 s10 s11 s12 s13:Slot}{t t':T}{p:List Nat}
theorem yC(he:e (E c k z tt f pg (.on (.tr t)) s7 s8 s9 s10 s11 s12 s13)=.ok d)(hf:F (E c k z tt f pg (.on (.tr t)) s7 s8 s9 s10 s11 s12 s13)=.ok p)(hk:kx (E c k z tt f pg (.on (.tr t)) s7 s8 s9 s10 s11 s12 s13)=.ok y)(hz:keyOf y=some zk)(ha:T.at t p=some (.m ks ts))(hl:ks.length<1000)(ht:T.put (.m (d5 zk (.d d) ks ts).1 (d5 zk (.d d) ks ts).2) t p=t')
  (h7:Na s7) (h8:Na s8) (h9:Na s9) (OV:Na s10) (QA:Na s11) (Qy:Na s12) (Q0:Na s13):dj 6 F kx e (E c k z tt f pg (.on (.tr t)) s7 s8 s9 s10 s11 s12 s13)=.ok (.next (E c k z tt f pg (.on (.tr t')) s7 s8 s9 s10 s11 s12 s13)):=by
 rw[mh he hf hk rfl hz ha hl ht];show R.ok (Fl.next [.sh (.int c),.sh (.int k),.sh (.int z),.sh (.int tt),.sh (.int f),.sh pg,.on (.tr t'),cq 6 p s7,cq 6 p s8,cq 6 p s9,cq 6 p s10,cq 6 p s11,cq 6 p s12,cq 6 p s13])=_;rw[h7.drop,h8.drop,h9.drop,OV.drop,QA.drop,Qy.drop,Q0.drop]
end
noncomputable def q0(rg:Xj)(row:Int):Q:=⟨.int 0,.int 1,rg,row,[],.aA [] [],.aE,.int 0,.bl false,.aE⟩
theorem B2:nI [.int 0]=.ok (qT (q0 [0,1,2,3,4,5,6,7] 0) []):=by kernel_rfl
theorem mix(h0:1<=k)(h1:k<=40)(j0:0<=j)(j1:j<100):∃z:Int,0<=z/\iR [.int c,.int (16*k+j)]=.ok (.int z):=HY c (by omega) (by omega)
section
variable{c k z tt f g pl:Int}{s9 s10 s11 s12 s13:Slot}{t t':T}{P:AL T}{q:Q}
theorem four(z:Int):∃f,(f=0\/f=1\/f=7\/f=4094)/\cT ([0,1,7,4094].map D.int) (z / 15 % 4)=some (.int f):=by
 obtain⟨f,hf,e⟩:=jq (xs:=[0,1,7,4094]) (i:=z / 15 % 4) (by omega) (by show _<(4:Int);omega)
 exact⟨f,by simpa using hf,e⟩
theorem two(z:Int):∃g,(g=20\/g=4090)/\cT ([20,4090].map D.int) (z / 60 % 2)=some (.int g):=by
 obtain⟨f,hf,e⟩:=jq (xs:=[20,4090]) (i:=z / 60 % 2) (by omega) (by show _<(2:Int);omega)
 exact⟨f,by simpa using hf,e⟩
noncomputable def cO(f g:Int):D:=.lst [.int f,.int (f+1),.int g]
theorem LQ(w:Int)(h0:0<=w)(h1:w<4294967296):∃(w':Int) (s9:Slot),(0<=w'/\w'<4294967296)/\Na s9/\(aO (tV (e2 oEq (e2 oMod (e2 oDiv (aa 2) (eC (.int 1920))) (eC (.int 12))) (eC (.int 5)))) (az [aS (aG 9) (cn [e2 bb (aa 8) (e2 b7 (eC (.int 2)) (eC (.int 29))),e2 bb (e2 bZ (eC (.int 14)) (e2 b7 (eC (.int 2)) (eC (.int 25)))) (eC (.int 1)),e2 bb (e2 bZ (eC (.int 2)) (e2 b7 (eC (.int 2)) (eC (.int 25)))) (eC (.int 65536)),e2 bb (e2 bZ (eC (.int 12)) (e2 b7 (eC (.int 2)) (eC (.int 25)))) (e2 b7 (eC (.int 2)) (eC (.int 22))),eC (.int 4294967295)]),aS (aG 8) (e2 ag (aa 9) (e2 oMod (e2 oDiv (aa 2) (eC (.int 23040))) (eC (.int 5)))),aS (aG 8) (e2 oMod (aa 8) (eC (.int 4294967296)))]) (aV)) (E c k z tt f (cO f g) s6 s7 (.sh (.int w)) .un .un .un .un .un)=.ok (.next (E c k z tt f (cO f g) s6 s7 (.sh (.int w')) s9 .un .un .un .un)):=by
 by_cases h:z / 1920 % 12=5
 ·obtain⟨x,hx,ex⟩:=jq (xs:=[w+536870912,469762049,67174400,406847488,4294967295]) (i:=z / 23040 % 5) (by omega) (by show _<(5:Int);omega)
  refine⟨x % 4294967296,.sh (.lst ([w+536870912,469762049,67174400,406847488,4294967295].map .int)),⟨aao _ (by decide),aaK _ (by decide)⟩,cG,?_⟩
  rw[bB (bz (by rw[gq (bT (cM rfl rfl (by decide)) rfl (by decide)) rfl,FS h]))]
  rw[ah (bh (d:=.lst ([w+536870912,469762049,67174400,406847488,4294967295].map .int)) (by kernel_rfl))]
  rw[ah (bh (aH rfl (bT (cM (i:=z) rfl rfl (by decide)) rfl (by decide)) (jc ex)))]
  rw[ah (bh (bT (i:=x) rfl rfl (by decide)))]
  rfl
 ·exact⟨w,.un,⟨h0,h1⟩,du,aR (bz (by rw[gq (bT (cM rfl rfl (by decide)) rfl (by decide)) rfl,KB h]))⟩
theorem zc(hi:ρ[i]? =some (.on (.tr (qT q P)))):(pX i pN (eC (S "pages"))) ρ=.ok [4]:=lB (p:=[]) rfl rfl hi rfl (by kernel_rfl)
theorem MA(hi:ρ[i]? =some (.on (.tr (qT q P)))):(pX i pN (eC (S "regs"))) ρ=.ok [2]:=lB (p:=[]) rfl rfl hi rfl (by kernel_rfl)
theorem vZ(he:e (E c k z tt f (cO f g) (.on (.tr (qT q P))) s7 s8 s9 s10 s11 s12 s13)=.ok d)(hk:kx (E c k z tt f (cO f g) (.on (.tr (qT q P))) s7 s8 s9 s10 s11 s12 s13)=.ok (.int pn))(hl:P.length<900)
  (h7:Na s7) (h8:Na s8) (h9:Na s9) (OV:Na s10) (QA:Na s11) (Qy:Na s12) (Q0:Na s13):dj 6 (pX 6 (pN) (eC (S "pages"))) kx e (E c k z tt f (cO f g) (.on (.tr (qT q P))) s7 s8 s9 s10 s11 s12 s13)=.ok (.next (E c k z tt f (cO f g) (.on (.tr (qT q (aF pn (.d d) P)))) s7 s8 s9 s10 s11 s12 s13)):=
 yC he (zc rfl) hk rfl (ks:=ak P) (ts:=av id P) rfl (by rw[j4];omega) (by rw[wO];rfl) h7 h8 h9 OV QA Qy Q0
theorem zj(he:e (E c k z tt f (cO f g) (.on (.tr (qT q P))) s7 s8 s9 s10 s11 s12 s13)=.ok (.int r))
  (h7:Na s7) (h8:Na s8) (h9:Na s9) (OV:Na s10) (QA:Na s11) (Qy:Na s12) (Q0:Na s13):dj 6 (pN) (eC (S "row")) e (E c k z tt f (cO f g) (.on (.tr (qT q P))) s7 s8 s9 s10 s11 s12 s13)=.ok (.next (E c k z tt f (cO f g) (.on (.tr (qT {q with row:=r} P))) s7 s8 s9 s10 s11 s12 s13)):=
 yC he (p:=[]) rfl rfl (zk:=.inr (Str.ofString "row")) rfl (ks:=TK) rfl (by decide) (by kernel_rfl) h7 h8 h9 OV QA Qy Q0
theorem Ko(h0:1<=k)(h1:k<=40)(hf:0<=f/\f<=4094)(hg:0<=g/\g<=4090){s7 s8:Slot}(h7:Na s7)(h8:Na s8)(h9:Na s9)(OV:Na s10)(hq:q.rg.length=8)(hw:Ws q.rg):∃(rg:Xj) (s11:Slot),rg.length=8/\Ws rg/\Na s11/\forL (aG 11) ly (dG 0 8) (E c k z tt f (cO f g) (.on (.tr (qT q P))) s7 s8 s9 s10 .un .un .un)=.ok (.next (E c k z tt f (cO f g) (.on (.tr (qT {q with rg:=rg} P))) s7 s8 s9 s10 s11 .un .un)):=by
 obtain⟨ρ',eL,rg,s11,hl,hW,hn,rfl⟩:=sD (tg:=aG 11) (body:=ly) (λρ=>∃(rg:Xj) (s11:Slot),rg.length=8/\Ws rg/\Na s11/\ρ=E c k z tt f (cO f g) (.on (.tr (qT {q with rg:=rg} P))) s7 s8 s9 s10 s11 .un .un) (ds:=dG 0 8) (by
  rintro d hd ρ ⟨rg,s11,hl,hW,hn,rfl⟩;obtain⟨j,rfl,j0,j1⟩:=AY hd;obtain⟨y,y0,ey⟩:=mix (c:=c) h0 h1 (j:=6+j) (by omega) (by omega)
  obtain⟨v,hv,ev⟩:=G1 (z:=y) hf hg;refine⟨_,rfl,E c k z tt f (cO f g) (.on (.tr (qT {q with rg:=rg.set j.toNat v} P))) s7 s8 s9 s10 (.sh (.int j)) .un .un,?_,_,_,?_,hW.set hv,cG,rfl⟩
  ·show ly (E c k z tt f (cO f g) (.on (.tr (qT {q with rg:=rg} P))) s7 s8 s9 s10 (.sh (.int j)) .un .un)=_
   rw[ly]
   rw[BE (t':=qT {q with rg:=rg.set j.toNat v} P) (d:=.int v) (p:=[2]) (j:=j) (n:=j.toNat) (ts:=rg.map λi=>.d (.int i)) (dY (dY rfl (cD (i:=16*k+6) (cD (dB rfl rfl (.inl (by decide))) rfl) rfl) (by rw[show 16*k+6+j=16*k+(6+j) by omega];exact ey)) rfl ev) (MA (q:={q with rg:=rg}) rfl) rfl rfl rfl (p7 j0 (by rw[GE,hl];omega)) (by
    show T.m TK [ba q.pa,ba q.rk,.l ((rg.map λi=>T.d (.int i)).set j.toNat (.d (.int v))),.d (.int q.row),tA P,ba q.ha,ba q.wa,ba q.hd,ba q.ru,ba q.sa]=_;unfold qT tW;rw[aaZ])]
   show R.ok (Fl.next [.sh (.int c),.sh (.int k),.sh (.int z),.sh (.int tt),.sh (.int f),.sh (cO f g),.on (.tr (qT {q with rg:=rg.set j.toNat v} P)),cq 6 [2] s7,cq 6 [2] s8,cq 6 [2] s9,cq 6 [2] s10,.sh (.int j),.un,.un])=_;rw[h7.drop,h8.drop,h9.drop,OV.drop]
  ·rw[ZP];exact hl) (ρ:=E c k z tt f (cO f g) (.on (.tr (qT q P))) s7 s8 s9 s10 .un .un .un) ⟨q.rg,.un,hq,hw,du,rfl⟩
 exact⟨rg,s11,hl,hW,hn,eL⟩
theorem JR(h7:Na s7)(h8:Na s8)(h9:Na s9)(OV:Na s10)(QA:Na s11)(Qy:Na s12)(Q0:Na s13):∃r:Int,(aO (tV (e2 oEq (e2 oMod (e2 oDiv (aa 2) (eC (.int 230400))) (eC (.int 16))) (eC (.int 3)))) (dj 6 (pN) (eC (S "row")) (e2 ag (cn [e2 bb (e2 bZ (e2 ag (aa 5) (eC (.int 0))) (eC (.int 16))) (eC (.int 32)),eC (.int 4294967295),eC (.int 70000)]) (e2 oMod (e2 oDiv (aa 2) (eC (.int 3686400))) (eC (.int 3))))) (aV)) (E c k z tt f (cO f g) (.on (.tr (qT q P))) s7 s8 s9 s10 s11 s12 s13)=.ok (.next (E c k z tt f (cO f g) (.on (.tr (qT {q with row:=r} P))) s7 s8 s9 s10 s11 s12 s13)):=by
 by_cases h:z / 230400 % 16=3
 ·obtain⟨x,hx,ex⟩:=jq (xs:=[f*16+32,4294967295,70000]) (i:=z / 3686400 % 3) (by omega) (by show _<(3:Int);omega)
  refine⟨x,?_⟩;rw[bB (bz (by rw[gq (bT (cM rfl rfl (by decide)) rfl (by decide)) rfl,FS h]))]
  exact zj (aH (qJ (cD (dB (i:=f) rfl rfl (.inr (by decide))) rfl) rfl rfl) (bT (cM (i:=z) rfl rfl (by decide)) rfl (by decide)) (jc ex)) h7 h8 h9 OV QA Qy Q0
 ·exact⟨q.row,aR (bz (by rw[gq (bT (cM rfl rfl (by decide)) rfl (by decide)) rfl,KB h]))⟩
end
noncomputable def fT(ks:List Ky)(t t':Int)(a b:T)(r:List T):T:=.m ks (tA [(t,a),(t',b)]::r)
section
variable{c k z tt f:Int}{pg:D}{s7 s8 s9 s10 s11:Slot}{ks RZ:List Ky}{t t':Int}{a b:T}{r r':List T}
noncomputable abbrev E2(c k z tt f:Int)(pg:D)(s7 s8 s9 s10 s11:Slot)(x:T):En:=[.sh (.int c),.sh (.int k),.sh (.int z),.sh (.int tt),.sh (.int f),.sh pg,.on (.al 13 [0,0]),s7,s8,s9,s10,s11,.on (.al 13 [0,1]),.on (.tr x)]
theorem u6(he:e (E2 c k z tt f pg s7 s8 s9 s10 s11 (fT ks t t' a b r))=.ok d)(hk:kx (E2 c k z tt f pg s7 s8 s9 s10 s11 (fT ks t t' a b r))=.ok y)(hz:keyOf y=some zk)(hl:ks.length<1000)(hf:qK zk ks (tA [(t,a),(t',b)]::r)=true)(ht:T.m (d5 zk (.d d) ks (tA [(t,a),(t',b)]::r)).1 (d5 zk (.d d) ks (tA [(t,a),(t',b)]::r)).2=x'):
  jH 13 (pN) kx e (E2 c k z tt f pg s7 s8 s9 s10 s11 (fT ks t t' a b r))=.ok (.next (E2 c k z tt f pg s7 s8 s9 s10 s11 x')):=by
 rw[Ci (p:=[]) (t':=x') he rfl hk rfl hz (ks:=ks) (ts:=tA [(t,a),(t',b)]::r) rfl hl hf ht];rfl
theorem vp(hj:(E2 c k z tt f pg s7 s8 s9 s10 s11 x)[j]? =some (.on (.al 13 [0,n])))(he:e (E2 c k z tt f pg s7 s8 s9 s10 s11 x)=.ok d)(hk:kx (E2 c k z tt f pg s7 s8 s9 s10 s11 x)=.ok y)(hz:keyOf y=some zk)(ha:T.at x [0,n]=some (.m ks ts))(hl:ks.length<1000)(ht:T.put (.m (d5 zk (.d d) ks ts).1 (d5 zk (.d d) ks ts).2) x [0,n]=x')(h7:Na s7)(h8:Na s8)(h9:Na s9)(OV:Na s10)(QA:Na s11):
  dj 13 (pA 13 j) kx e (E2 c k z tt f pg s7 s8 s9 s10 s11 x)=.ok (.next (E2 c k z tt f pg s7 s8 s9 s10 s11 x')):=by
 rw[mh he (m9 hj) hk rfl hz ha hl ht];show R.ok (Fl.next [.sh (.int c),.sh (.int k),.sh (.int z),.sh (.int tt),.sh (.int f),.sh pg,cq 13 [0,n] (.on (.al 13 [0,0])),cq 13 [0,n] s7,cq 13 [0,n] s8,cq 13 [0,n] s9,cq 13 [0,n] s10,cq 13 [0,n] s11,cq 13 [0,n] (.on (.al 13 [0,1])),.on (.tr x')])=_;have ds:∀q,cq 13 [0,n] (.on (.al 13 [0,q]))=.on (.al 13 [0,q]):=λq=>by unfold cq;simp only;rw[p9 (by simp),DF (by simp)]
 rw[h7.drop,h8.drop,h9.drop,OV.drop,QA.drop,ds,ds]
end
theorem EG:Ws [0,1,2,3,4,5,6,7]:=λx hx=>by
 simp only[Da,On,XU]at hx;omega
theorem Bu(h:∀s∈ρ,Na s):iN i ρ=true:=aai.mpr λs hs=>by
 have:=h s hs;cases s with
 | on z=>cases z with
  |tr t=>rfl
  |al k q=>exact absurd rfl (this k q)
 |_=>rfl
theorem Bf(h6:Na s6)(h7:Na s7)(h8:Na s8)(h9:Na s9)(OV:Na s10)(QA:Na s11)(Qy:Na s12)(Q0:Na s13):∀s∈E c k z tt f pg s6 s7 s8 s9 s10 s11 s12 s13,Na s:=λs hs=>by
 simp only[Da,On,XU]at hs;rcases hs with rfl|rfl|rfl|rfl|rfl|rfl|rfl|rfl|rfl|rfl|rfl|rfl|rfl|rfl<;>first|exact cG|assumption
theorem GN(h1:X1 ρ=.ok a)(h2:X2 ρ=.ok b)(h3:X3 ρ=.ok c):jG [(eC (S "tasks"),X1),(eC (S "lent"),X2),(eC (S "nodes"),X3)] ρ=.ok (.m [.inr (Str.ofString "tasks"),.inr (Str.ofString "lent"),.inr (Str.ofString "nodes")] [a,b,c]):=by
 have e:kB [(eC (S "tasks"),X1),(eC (S "lent"),X2),(eC (S "nodes"),X3)] ρ=.ok ([.inr (Str.ofString "tasks"),.inr (Str.ofString "lent"),.inr (Str.ofString "nodes")],[a,b,c]):=by
  simp only[kB,eC,h1,h2,h3,R.bo];rfl
 unfold jG;rw[e,R.bo];exact AC (by show([.inr (Str.ofString "tasks"),.inr (Str.ofString "lent"),.inr (Str.ofString "nodes")]:List Ky).Nodup;decide)
noncomputable def rT(rg:Xj)(row:Int)(P:AL T)(ha:T)(hd:Int)(sa:T):T:=.m TK [.d (.int 0),.d (.int 1),tW rg,.d (.int row),tA P,ha,.d .aE,.d (.int hd),.d (.bl false),sa]
theorem Aj:T.toD (rT rg row P ha hd sa)=.aA TK [.int 0,.int 1,.lst (rg.map .int),.int row,dA (mp T.toD P),T.toD ha,.aE,.int hd,.bl false,T.toD sa]:=by
 show D.aA TK [.int 0,.int 1,T.toD (tW rg),.int row,T.toD (tA P),T.toD ha,.aE,.int hd,.bl false,T.toD sa]=_;rw[sE,lY]
noncomputable def iK:D:=.aA [.inl 0,.inl 1] [.tup [S "folder",.aA [.inl 7] [.int 1]],.tup [S "file",.lst [.int 5,.int 6]]]
noncomputable def jb:D:=.aA [.inl 2] [.tup [.int 3,.lst [.int 9]]]
noncomputable def q1(rg:Xj)(row h:Int)(pg:AL Pg):Q:=⟨.int 0,.int 1,rg,row,pg,.aA [.inl 3] [.int 1],.aE,.int h,.bl false,.aE⟩
noncomputable def q2:Q:=⟨.int 0,.int 1,[0,1,2,3,4,5,6,7],0,[(5,.bR 3)],.aA [] [],.aE,.int 0,.bl false,.tup [.lst [.int 1,.int 2,.int 3,.int 4,.int 5,.int 6,.int 7,.int 8],.int 70]⟩
noncomputable def s1(t t':Int)(a b:Q)(w:Xj)(cl:Int):St:=⟨[(t,a),(t',b)],[(3,w)],iK,jb,.int cl⟩
structure BV(s:St)(t:Int):Prop where
 ex:∃t' rg row h pg w cl,s=s1 t t' (q1 rg row h pg) q2 w cl/\t≠t'/\rg.length=8/\Ws rg/\w.length=16/\Ws w/\Nk pg/\pg.length<=3/\∀p x,look p pg=some x->(∃v,x=.own v/\v.length=16/\Ws v)\/x=.bR 3
theorem Ek(c k:Int)(h0:1<=k)(h1:k<=40):∃s t,BV s t/\mU [.int c,.int k]=.ok (.tup [s.d,.int t]):=by
 obtain⟨z,z0,ez⟩:=mix (c:=c) h0 h1 (j:=1) (by decide) (by decide)
 obtain⟨f,hf,ef⟩:=four z;obtain⟨g,hg,eg⟩:=two z;have Rk:0<=f/\f<=4094:=by omega
 have Ze:0<=g/\g<=4090:=by omega
 obtain⟨y2,_,Ri⟩:=mix (c:=c) h0 h1 (j:=2) (by decide) (by decide)
 obtain⟨y3,_,Xs⟩:=mix (c:=c) h0 h1 (j:=3) (by decide) (by decide)
 obtain⟨y4,_,YW⟩:=mix (c:=c) h0 h1 (j:=4) (by decide) (by decide)
 obtain⟨a,b,cc,n,j,ha,hb,hc,hn,hj,WA⟩:=MZ y2;have hv:=Ml ha hb hc hn hj;have ev:=GI (a:=a) (b:=b) (c:=cc) (n:=n) hj;generalize ny a b cc n j=v at hv ev;generalize (m6 a b cc n j).d=rr at WA ev;obtain⟨w3,Xw,l3,W3⟩:=tO y3;obtain⟨w4,Yc,l4,W4⟩:=tO y4;obtain⟨wz,Xh,lz,Wz⟩:=tO z;generalize Xp:1+z % 15=tt;have T3:1<=tt/\tt<=15:=by omega
 generalize QD:z / 120 % 16=pl;have Wd:0<=pl/\pl<16:=by omega
 obtain⟨w',s9,YH,n9,Yi⟩:=LQ (c:=c) (k:=k) (z:=z) (tt:=tt) (f:=f) (g:=g) v hv.1 (by omega) (s6:=.on (.tr (qT (q0 [0,1,2,3,4,5,6,7] (f*16+pl)) []))) (s7:=.sh (.int pl))
 obtain⟨rg,s11,X5,Xd,R6,eL⟩:=Ko (c:=c) (z:=z) (tt:=tt) (P:=aF g (.d (Pg.bR 3).d) (aF (f+1) (.d (Pg.own w4).d) (aF f (.d (Pg.own (w3.set pl.toNat w')).d) []))) (q:=q0 [0,1,2,3,4,5,6,7] (f*16+pl)) h0 h1 Rk Ze (s7:=.sh (.int pl)) (s8:=.sh (.int w')) (s9:=s9) (s10:=.sh (.lst ((w3.set pl.toNat w').map .int))) cG cG n9 cG rfl EG;obtain⟨row,SD⟩:=JR (c:=c) (k:=k) (z:=z) (tt:=tt) (f:=f) (g:=g) (q:={q0 [0,1,2,3,4,5,6,7] (f*16+pl)with rg:=rg}) (P:=aF g (.d (Pg.bR 3).d) (aF (f+1) (.d (Pg.own w4).d) (aF f (.d (Pg.own (w3.set pl.toNat w')).d) []))) (s7:=.sh (.int pl)) (s8:=.sh (.int w')) (s9:=s9) (s10:=.sh (.lst ((w3.set pl.toNat w').map .int))) (s11:=s11) (s12:=.on (.tr (qT (q0 [0,1,2,3,4,5,6,7] 0) [(5,.d (Pg.bR 3).d)]))) (s13:=.un) cG cG n9 cG R6 zC du;generalize hP:aF g (T.d (Pg.bR 3).d) (aF (f+1) (.d (Pg.own w4).d) (aF f (.d (Pg.own (w3.set pl.toNat w')).d) []))=P at eL SD
 have Wb:mp T.toD P=mp Pg.d (aF g (.bR 3) (aF (f+1) (.own w4) (aF f (.own (w3.set pl.toNat w')) []))):=by
  rw[<-hP];simp only[kX];rfl
 generalize Te:aF g (Pg.bR 3) (aF (f+1) (.own w4) (aF f (.own (w3.set pl.toNat w')) []))=pg at Wb;refine⟨s1 tt (1+tt % 15) (q1 rg row (z % 3) pg) q2 wz (z % 5),tt,⟨1+tt % 15,rg,row,z % 3,pg,wz,z % 5,rfl,by omega,X5,Xd,lz,Wz,?_,?_,?_⟩,?_⟩
 ·rw[<-Te];exact Nk.aF (Nk.aF (Nk.aF Z3))
 ·rw[<-Te]
  have e1:=lO (k:=g) (a:=Pg.bR 3) (L:=aF (f+1) (.own w4) (aF f (.own (w3.set pl.toNat w')) []));have e2:=lO (k:=f+1) (a:=Pg.own w4) (L:=aF f (.own (w3.set pl.toNat w')) []);have e3:=lO (k:=f) (a:=Pg.own (w3.set pl.toNat w')) (L:=[]);have e4:([]:AL Pg).length=0:=rfl;omega
 ·intro p x hx
  rw[<-Te,lp,lp,lp]at hx;split at hx
  ·cases hx;exact .inr rfl
  ·split at hx
   ·cases hx;exact .inl ⟨_,rfl,l4,W4⟩
   ·split at hx
    ·cases hx;exact .inl ⟨_,rfl,by rw[ZP];exact l3,W3.set YH⟩
    ·cases hx
 ·rw[mU]
  refine cf ?_;show az _ [.sh (.int c),.sh (.int k),.un,.un,.un,.un,.un,.un,.un,.un,.un,.un,.un,.un]=_;have sk:∀(j:Int) (s2 s3 s4 s5 s6 s7 s8 s9 s10 s11 s12 s13:Slot),(e2 bb (e2 bZ (eC (.int 16)) (aa 1)) (eC (.int j))) [.sh (.int c),.sh (.int k),s2,s3,s4,s5,s6,s7,s8,s9,s10,s11,s12,s13]=.ok (.int (16*k+j)):=λj _ _ _ _ _ _ _ _ _ _ _ _=>cD (dB rfl rfl (.inl (by decide))) rfl
  rw[ah (bh (dY rfl (sk _ _ _ _ _ _ _ _ _ _ _ _ _) ez))];rw[ah (bh (d:=.int tt) (by rw[<-Xp];exact cD rfl (bT rfl rfl (by decide))))]
  rw[ah (bh (aH rfl (bT (cM (i:=z) rfl rfl (by decide)) rfl (by decide)) (jc ef)))]
  rw[ah (bh (d:=cO f g) (qJ (x:=.int f) rfl (cD (i:=f) rfl rfl) (aH rfl (bT (cM (i:=z) rfl rfl (by decide)) rfl (by decide)) (jc eg))))]
  rw[ah (rQ (oD rfl B2) rfl (by decide))]
  rw[ah (bh (d:=.int pl) (by rw[<-QD];exact bT (cM rfl rfl (by decide)) rfl (by decide)))]
  show az _ (E c k z tt f (cO f g) (.on (.tr (qT (q0 [0,1,2,3,4,5,6,7] 0) []))) (.sh (.int pl)) .un .un .un .un .un .un)=_;rw[ah (zj (cD (dB (i:=f) rfl rfl (.inr (by decide))) (u:=pl) rfl) cG du du du du du du)]
  rw[ah (bh (fm (fm (dY rfl (sk _ _ _ _ _ _ _ _ _ _ _ _ _) Ri) WA) ev))];show az _ (E c k z tt f (cO f g) (.on (.tr (qT (q0 [0,1,2,3,4,5,6,7] (f*16+pl)) []))) (.sh (.int pl)) (.sh (.int v)) .un .un .un .un .un)=_;rw[ah Yi];rw[ah (uk (xs:=w3.map .int) (fz (fm (dY rfl (sk _ _ _ _ _ _ _ _ _ _ _ _ _) Xs) Xw) rfl))];show az _ (E c k z tt f (cO f g) (.on (.tr (qT (q0 [0,1,2,3,4,5,6,7] (f*16+pl)) []))) (.sh (.int pl)) (.sh (.int w')) s9 (.ol (w3.map .int)) .un .un .un)=_;rw[ah (zI (xs:=w3.map .int) (m:=pl.toNat) (d:=.int w') rfl (j:=pl) rfl rfl (p7 Wd.1 (by rw[GE,l3];exact Wd.2)))]
  rw[show(w3.map D.int).set pl.toNat (.int w')=(w3.set pl.toNat w').map .int from by rw[aaZ]]
  rw[ah (ρ':=E c k z tt f (cO f g) (.on (.tr (qT (q0 [0,1,2,3,4,5,6,7] (f*16+pl)) []))) (.sh (.int pl)) (.sh (.int w')) s9 (.sh (.lst ((w3.set pl.toNat w').map .int))) .un .un .un) rfl];rw[ah (vZ (d:=(Pg.own (w3.set pl.toNat w')).d) (pn:=f) rfl rfl (by decide) cG cG n9 cG du du du)]
  rw[ah (vZ (d:=(Pg.own w4).d) (pn:=f+1) (iZ rfl (fm (dY rfl (sk _ _ _ _ _ _ _ _ _ _ _ _ _) YW) Yc)) rfl (by have:=lO (k:=f) (a:=T.d (Pg.own (w3.set pl.toNat w')).d) (L:=[]);have e:([]:AL T).length=0:=rfl;omega) cG cG n9 cG du du du)]
  rw[ah (vZ (d:=(Pg.bR 3).d) (pn:=g) rfl rfl (by
   have e1:=lO (k:=f) (a:=T.d (Pg.own (w3.set pl.toNat w')).d) (L:=[]);have e2:=lO (k:=f+1) (a:=T.d (Pg.own w4).d) (L:=aF f (T.d (Pg.own (w3.set pl.toNat w')).d) []);have e:([]:AL T).length=0:=rfl;omega) cG cG n9 cG du du du),hP]
  rw[ah (kg (vE rfl (by decide)) eL)]
  rw[ah (ρ':=E c k z tt f (cO f g) (.on (.tr (qT {q0 [0,1,2,3,4,5,6,7] (f*16+pl)with rg:=rg} P))) (.sh (.int pl)) (.sh (.int w')) s9 (.sh (.lst ((w3.set pl.toNat w').map .int))) s11 (.on (.tr (qT (q0 [0,1,2,3,4,5,6,7] 0) []))) .un) (by
   exact Os (rQ (oD rfl B2) (Bu (Bf zC cG cG n9 cG R6 du du)) (by decide)) rfl)]
  rw[ah (ρ':=E c k z tt f (cO f g) (.on (.tr (qT {q0 [0,1,2,3,4,5,6,7] (f*16+pl)with rg:=rg} P))) (.sh (.int pl)) (.sh (.int w')) s9 (.sh (.lst ((w3.set pl.toNat w').map .int))) s11 (.on (.tr (qT (q0 [0,1,2,3,4,5,6,7] 0) [(5,.d (Pg.bR 3).d)]))) .un) (by
   rw[mh (t':=qT (q0 [0,1,2,3,4,5,6,7] 0) [(5,.d (Pg.bR 3).d)]) (d:=(Pg.bR 3).d) (z:=.inl 5) (ks:=[]) (ts:=[]) rfl (zc (i:=12) rfl) rfl rfl rfl rfl (by decide) (by kernel_rfl)]
   show R.ok (Fl.next (E c k z tt f (cO f g) (.on (.tr (qT {q0 [0,1,2,3,4,5,6,7] (f*16+pl)with rg:=rg} P))) (.sh (.int pl)) (.sh (.int w')) (cq 12 [4] s9) (.sh (.lst ((w3.set pl.toNat w').map .int))) (cq 12 [4] s11) (.on (.tr (qT (q0 [0,1,2,3,4,5,6,7] 0) [(5,.d (Pg.bR 3).d)]))) .un))=_;rw[n9.drop,R6.drop])]
  rw[ah SD];have t1:qT {q0 [0,1,2,3,4,5,6,7] (f*16+pl)with rg:=rg,row:=row} P=rT rg row P (.m [] []) 0 (.d .aE):=rfl;have t2:qT (q0 [0,1,2,3,4,5,6,7] 0) [(5,.d (Pg.bR 3).d)]=rT [0,1,2,3,4,5,6,7] 0 [(5,.d (Pg.bR 3).d)] (.m [] []) 0 (.d .aE):=rfl;show az _ (E c k z tt f (cO f g) (.on (.tr (rT rg row P (.m [] []) 0 (.d .aE)))) (.sh (.int pl)) (.sh (.int w')) s9 (.sh (.lst ((w3.set pl.toNat w').map .int))) s11 (.on (.tr (rT [0,1,2,3,4,5,6,7] 0 [(5,.d (Pg.bR 3).d)] (.m [] []) 0 (.d .aE)))) .un)=_;generalize Yg:1+tt % 15=t';have G':tt≠t':=by omega
  rw[ah (ρ':=E2 c k z tt f (cO f g) (.sh (.int pl)) (.sh (.int w')) s9 (.sh (.lst ((w3.set pl.toNat w').map .int))) s11 (fT [.inr (Str.ofString "tasks"),.inr (Str.ofString "lent"),.inr (Str.ofString "nodes")] tt t' (rT rg row P (.m [] []) 0 (.d .aE)) (rT [0,1,2,3,4,5,6,7] 0 [(5,.d (Pg.bR 3).d)] (.m [] []) 0 (.d .aE)) [.d (.aA [.inl 3] [W wz]),.d (.aA [.inl 0] [.tup [S "folder",.aA [] []]])])) (by
   unfold ug;rw[GN (a:=tA [(tt,rT rg row P (.m [] []) 0 (.d .aE)),(t',rT [0,1,2,3,4,5,6,7] 0 [(5,.d (Pg.bR 3).d)] (.m [] []) 0 (.d .aE))]) (b:=.d (.aA [.inl 3] [W wz])) (c:=.d (.aA [.inl 0] [.tup [S "folder",.aA [] []]])) ?_ ?_ rfl,R.bo]
   ·show(if _ then _ else _)=_
    rw[AC ⟨Bu (Bf du cG cG n9 cG R6 du du),by decide,by decide,by decide,by decide,rfl,rfl,by show 13<14;decide⟩]
    rfl
   ·show(if([.inl tt,.inl (1+tt % 15)]:List Ky).Nodup then R.ok (T.m [.inl tt,.inl (1+tt % 15)] [_,_])else .bad)=_
    rw[Yg,AC (by simp;exact G')];rfl
   ·have eo:aI j9 [aa 2] (E c k z tt f (cO f g) (.on (.tr (rT rg row P (.m [] []) 0 (.d .aE)))) (.sh (.int pl)) (.sh (.int w')) s9 (.sh (.lst ((w3.set pl.toNat w').map .int))) s11 (.on (.tr (rT [0,1,2,3,4,5,6,7] 0 [(5,.d (Pg.bR 3).d)] (.m [] []) 0 (.d .aE)))) .un)=.ok (W wz):=fm rfl Xh
    unfold xD eW;simp only[eList,eo,R.bo])]
  rw[ah (u6 (d:=iK) (zk:=.inr (Str.ofString "nodes")) (x':=fT [.inr (Str.ofString "tasks"),.inr (Str.ofString "lent"),.inr (Str.ofString "nodes")] tt t' (rT rg row P (.m [] []) 0 (.d .aE)) (rT [0,1,2,3,4,5,6,7] 0 [(5,.d (Pg.bR 3).d)] (.m [] []) 0 (.d .aE)) [.d (.aA [.inl 3] [W wz]),.d iK]) (by kernel_rfl) rfl rfl (by decide) (by kernel_rfl) (by kernel_rfl))]
  rw[ah (u6 (d:=jb) (zk:=.inr (Str.ofString "boxes")) (x':=fT [.inr (Str.ofString "tasks"),.inr (Str.ofString "lent"),.inr (Str.ofString "nodes"),.inr (Str.ofString "boxes")] tt t' (rT rg row P (.m [] []) 0 (.d .aE)) (rT [0,1,2,3,4,5,6,7] 0 [(5,.d (Pg.bR 3).d)] (.m [] []) 0 (.d .aE)) [.d (.aA [.inl 3] [W wz]),.d iK,.d jb]) (by kernel_rfl) rfl rfl (by decide) (by kernel_rfl) (by kernel_rfl))]
  rw[ah (vp (n:=0) (d:=.aA [.inl 3] [.int 1]) (zk:=.inr (Str.ofString "handles")) (x':=fT [.inr (Str.ofString "tasks"),.inr (Str.ofString "lent"),.inr (Str.ofString "nodes"),.inr (Str.ofString "boxes")] tt t' (rT rg row P (.d (.aA [.inl 3] [.int 1])) 0 (.d .aE)) (rT [0,1,2,3,4,5,6,7] 0 [(5,.d (Pg.bR 3).d)] (.m [] []) 0 (.d .aE)) [.d (.aA [.inl 3] [W wz]),.d iK,.d jb]) (ks:=TK) rfl (by kernel_rfl) rfl rfl rfl (by decide) (by kernel_rfl) cG cG n9 cG R6)]
  rw[ah (vp (n:=0) (d:=.int (z % 3)) (zk:=.inr (Str.ofString "handler")) (x':=fT [.inr (Str.ofString "tasks"),.inr (Str.ofString "lent"),.inr (Str.ofString "nodes"),.inr (Str.ofString "boxes")] tt t' (rT rg row P (.d (.aA [.inl 3] [.int 1])) (z % 3) (.d .aE)) (rT [0,1,2,3,4,5,6,7] 0 [(5,.d (Pg.bR 3).d)] (.m [] []) 0 (.d .aE)) [.d (.aA [.inl 3] [W wz]),.d iK,.d jb]) (ks:=TK) rfl (bT rfl rfl (by decide)) rfl rfl rfl (by decide) (by kernel_rfl) cG cG n9 cG R6)]
  rw[ah (vp (n:=1) (d:=q2.sa) (zk:=.inr (Str.ofString "saved")) (x':=fT [.inr (Str.ofString "tasks"),.inr (Str.ofString "lent"),.inr (Str.ofString "nodes"),.inr (Str.ofString "boxes")] tt t' (rT rg row P (.d (.aA [.inl 3] [.int 1])) (z % 3) (.d .aE)) (rT [0,1,2,3,4,5,6,7] 0 [(5,.d (Pg.bR 3).d)] (.m [] []) 0 (.d q2.sa)) [.d (.aA [.inl 3] [W wz]),.d iK,.d jb]) (ks:=TK) rfl (by kernel_rfl) rfl rfl rfl (by decide) (by kernel_rfl) cG cG n9 cG R6)]
  rw[ah (u6 (d:=.int (z % 5)) (zk:=.inr (Str.ofString "clock")) (x':=fT SK tt t' (rT rg row P (.d (.aA [.inl 3] [.int 1])) (z % 3) (.d .aE)) (rT [0,1,2,3,4,5,6,7] 0 [(5,.d (Pg.bR 3).d)] (.m [] []) 0 (.d q2.sa)) [.d (.aA [.inl 3] [W wz]),.d iK,.d jb,.d (.int (z % 5))]) (bT rfl rfl (by decide)) rfl rfl (by decide) (by kernel_rfl) (by kernel_rfl))]
  refine aZ (sN rfl rfl (iZ (x:=(s1 tt t' (q1 rg row (z % 3) pg) q2 wz (z % 5)).d) (Os (ft.ev (vT (by show 13<14;decide))) ?_) rfl))
  show R.ok (D.aA SK [T.toD (tA [(tt,_),(t',_)]),.aA [.inl 3] [W wz],iK,jb,.int (z % 5)])=_;rw[lY];show R.ok (D.aA SK [.aA [.inl tt,.inl t'] [T.toD (rT _ _ _ _ _ _),T.toD (rT _ _ _ _ _ _)],.aA [.inl 3] [W wz],iK,jb,.int (z % 5)])=_;rw[Aj,Aj,Wb, <-k9];rfl
end ft
open PySem PySem.Spec
open L2 (V Hp HO Cx PE PT PW PA PS cH PG dk VK TE TT TA TS TI TG Inv RelV Vals Rd bP bW upd ar Key XK Ends bA dJ cj R2 EP It Turn cX)
theorem au:XA X [] (eList []):=⟨hZ ⟩
theorem ae(ha:XE X e f)(hr:XA X es (eList fs))(hs:starEach (e::es) X.env=(false,eval e X.env)::starEach es X.env:=by exact bG (by rfl)):XA X (e::es) (eList (f::fs)):=⟨gk ha.out hr.out hs⟩
theorem bQ:iM X [] (az []):=⟨C6 ⟩
theorem bt:iM X [] aV:=⟨Ia ⟩
theorem eA(h:XE X e f):XX X e (xD f):=⟨zr h.out⟩
theorem rX(h:XF X e (eU it n fv tg cs el)):XE X e (eU it n fv tg cs el):=⟨Ih h.out Ja⟩
theorem kR:uZ X [] []:=⟨.nil⟩
end PL
namespace PL
namespace ft
open PySem PySem.Spec
open L2 (Hp XK)
section
variable{P:Program}{w:World}{K:PySem.W.Frag}{mg:Str->acR}{base:Heap}{f:Addr}{fd:FuncData}
noncomputable def top(i:Nat):Stmt:=PySem.Challenge.pw_underfloor_k14_one_row_done.main.body.getD i (.Pass ⟨0,0,0,0⟩)
noncomputable abbrev uK:Stmt:=top 44
theorem Dy:L2.bD ["_law_cell","_law_k","_law_number","_law_j"] ["_law_cell","_law_k"] (L2.aX uK):=bS
theorem LI(F:FH P w K mg base "_law_mixed" uK)(NJ:mg "range"=none):Df P w K mg base "_law_mixed" 1 2 iR:=by
 have sc:=Dy;refine dF F sc (λ_ M' A outer s H E hr=>?_);exact((ai (bf (br L2.C2 AA CU (ab 0) (ao L2.de c9 af af)) (ai (bg (ao L2.sW sF (ab 0) (ao L2.de c9 af af)) (aU 2 sc.nd)) (ai (lZ (f:=lJ) (qF NJ (ao L2.bF bH (ab 1) af)) (aU 3 sc.nd) (by delta lJ;exact(aY (bg (ao cB cA (ab 2) (ao L2.de c9 af af)) (aU 2 sc.nd))))) (ai (aT (ao L2.bF bH (ab 2) (ao L2.de c9 af af))) bQ))) bt) (ai (bg (ao L2.bF bH (ao L2.cI cJ (ao bI bN (ao bI bN (ab 0) (ao L2.cI cJ (ao L2.cI cJ af (ab 1)) (ab 1))) af) af) af) (aU 2 sc.nd)) (ai (aT (ao L2.bF bH (ao L2.cI cJ (ab 2) (ab 2)) af)) bQ)))).out
noncomputable abbrev xO:Stmt:=top 48
theorem JQ:L2.bD ["_law_parent","-0","_law_one"] ["_law_parent"] (L2.aX xO):=bS
theorem Lp(F:FH P w K mg base "_law_task" xO):di P w K mg base "_law_task" 1 1 nI:=by
 have sc:=JQ;refine om F sc (λ_ M' A outer s H E hr=>?_);exact((ai (oH 2 sc.nd (Lz (mD aw (eA (ab 0)) (mD aw (eA af) (mD aw (IF (iW (eA af) (iW (eA af) (iW (eA af) (iW (eA af) (iW (eA af) (iW (eA af) (iW (eA af) (iW (eA af) AH))))))))) (mD aw (eA af) (mD aw Cf (mD aw Cf GQ)))))))) (ai (so 2 hr.units (eM 2) aw (eA fA)) (ai (so 2 hr.units (eM 2) aw (eA af)) (ai (so 2 hr.units (eM 2) aw (eA lC)) (ai (so 2 hr.units (eM 2) aw (eA fA)) (ai (A7 2) bQ))))))).out
noncomputable abbrev wc:Stmt:=top 51
theorem Hy:L2.bD ["_law_some"] [] (L2.aX wc):=bS
theorem Jc(F:FH P w K mg base "_law_kinds" wc):Df P w K mg base "_law_kinds" 1 0 gJ:=by
 have sc:=Hy;refine dF F sc (λ_ M' A outer s H E hr=>?_)
 refine(ai (bg ?_ (aU 0 sc.nd (by rfl) (by exact Or.inl rfl) (by first|exact .inl rfl|exact .inr rfl)) (qc (by rfl)) (AD (by rfl)) (o6 (by rfl))) ?_).out
 ·exact(dR (ae aw (ae aw (ae aw (ae aw (ae aw (ae aw (ae aw (ae aw (ae aw (ae aw (ae aw (ae aw au (bG (by rfl))) (bG (by rfl))) (bG (by rfl))) (bG (by rfl))) (bG (by rfl))) (bG (by rfl))) (bG (by rfl))) (bG (by rfl))) (bG (by rfl))) (bG (by rfl))) (bG (by rfl))) (bG (by rfl))) (by decide))
 ·refine ai (aT ?_) bQ
  exact(ao bI bN (ab 0 (by rfl) (by exact Or.inl rfl) (by decide) (by decide)) (dR (ae aw (ae aw (ae aw au (bG (by rfl))) (bG (by rfl))) (bG (by rfl))) (by decide)))
noncomputable abbrev v5:Stmt:=top 53
theorem Dm:L2.bD ["_law_row","_law_kind","_law_word_here"] ["_law_row"] (L2.aX v5):=bS
theorem Gd(F:FH P w K mg base "_law_coded" v5)(NG:mg "len"=none)(NB:Df P w K mg base "_law_kinds" 1 0 gJ):Df P w K mg base "_law_coded" 2 1 fP:=by
 have sc:=Dm;refine dF F sc (λ_ M' A outer s H E hr=>?_);exact((ai (bg (aB (ab 0) af) (aU 1 sc.nd)) (ai (bg (ao L2.cI cJ (xB (qh NB hr) (ab 1) (jF Ao (by rfl) (by rfl))) af) (aU 2 sc.nd)) (ai (bf (br (bL hr.units) bJ bX (ab 1) aw) (aY (aT (ao bI bN (ab 2) (aB (ab 0) af)))) bt) (ai (bf (br L2.uh xf xn (fN ju i8 NG gM (ab 0)) af) (aY (bg (ao bI bN (ab 2) (ao L2.cI cJ (aB (ab 0) af) af)) (aU 2 sc.nd))) bt) (ai (bf (br (ic hr.units) ie iB (ab 1) (bu (ae aw (ae aw (ae aw au))))) (aY (aT (ao bI bN (ab 2) (aB (ab 0) af)))) bt) (ai (bf (br L2.uh xf xn (fN ju i8 NG gM (ab 0)) af) (aY (bg (ao bI bN (ab 2) (ao L2.cI cJ (aB (ab 0) af) af)) (aU 2 sc.nd))) bt) (ai (bf (br (ic hr.units) ie iB (ab 1) (bu (ae aw (ae aw au)))) (aY (aT (ao bI bN (ab 2) (aB (ab 0) af)))) bt) (ai (bf (br L2.uh xf xn (fN ju i8 NG gM (ab 0)) af) (aY (bg (ao bI bN (ab 2) (ao L2.cI cJ (aB (ab 0) af) af)) (aU 2 sc.nd))) bt) (ai (aT (ab 2)) bQ)))))))))).out
noncomputable abbrev ua:Stmt:=top 52
theorem GK:L2.bD ["_law_number","_law_kind","_law_a","_law_b","_law_c","_law_n"] ["_law_number"] (L2.aX ua):=bS
theorem Gy(F:FH P w K mg base "_law_drawn_row" ua)(NB:Df P w K mg base "_law_kinds" 1 0 gJ):Df P w K mg base "_law_drawn_row" 2 1 pj:=by
 have sc:=GK;refine dF F sc (λ_ M' A outer s H E hr=>?_);exact((ai (bg (aB (qh NB hr) (ao L2.bF bH (ab 0) af)) (aU 1 sc.nd)) (ai (bg (ao L2.bF bH (ao cB cA (ab 0) af) af) (aU 2 sc.nd)) (ai (bg (ao L2.bF bH (ao cB cA (ab 0) af) af) (aU 3 sc.nd)) (ai (bg (ao L2.bF bH (ao cB cA (ab 0) af) af) (aU 4 sc.nd)) (ai (bg (aB (dR (ae (ao L2.bF bH (ao cB cA (ab 0) af) af) (ae (ao L2.bF bH (ao cB cA (ab 0) af) af) au))) (ao cB cA (ao L2.bF bH (ao cB cA (ab 0) af) af) af)) (aU 5 sc.nd)) (ai (bf (br (bL hr.units) bJ bX (ab 1) aw) (aY (aT (bu (ae (ab 1) au)))) bt) (ai (bf (br (bL hr.units) bJ bX (ab 1) aw) (aY (aT (bu (ae (ab 1) (ae (ab 5) au))))) bt) (ai (bf (br (ic hr.units) ie iB (ab 1) (bu (ae aw (ae aw (ae aw au))))) (aY (aT (bu (ae (ab 1) (ae (ab 2) (ae (ab 5) au)))))) bt) (ai (bf (br (bL hr.units) bJ bX (ab 1) aw) (aY (aT (bu (ae (ab 1) (ae (ab 2) (ae (ab 3) au)))))) bt) (ai (bf (br (ic hr.units) ie iB (ab 1) (bu (ae aw (ae aw au)))) (aY (aT (bu (ae (ab 1) (ae (ab 2) (ae (ab 3) (ae (ab 5) au))))))) bt) (ai (aT (bu (ae (ab 1) (ae (ab 2) (ae (ab 3) (ae (ab 4) au)))))) bQ)))))))))))).out
noncomputable abbrev uR:Stmt:=top 47
theorem Mr:L2.bD ["_law_number","_law_words","_law_k"] ["_law_number"] (L2.aX uR):=bS
theorem LB(F:FH P w K mg base "_law_page" uR)(NJ:mg "range"=none)(A':mg "tuple"=none):Df P w K mg base "_law_page" 1 1 j9:=by
 have sc:=Mr;refine dF F sc (λ_ M' A outer s H E hr=>?_);exact((ai (qi 1 sc.nd (CC au)) (ai (lZ (f:=qY) (qF NJ af) (aU 2 sc.nd) (by delta qY;exact(ai (AU 1 (ao L2.bF bH (ao bI bN (ab 0) (ao L2.cI cJ (ao L2.cI cJ af (ab 2)) (ab 2))) af)) (ai (bg (ao cB cA (ab 0) af) (aU 0 sc.nd)) bQ)))) (lG 1 (ai (aT (iq L2.mG pK A' gT (ab 1))) bQ))))).out
noncomputable abbrev xY:Stmt:=top 56
theorem Mf:L2.bD ["_law_number","_law_pages","_law_some"] ["_law_number","_law_pages"] (L2.aX xY):=bS
theorem Lb(F:FH P w K mg base "_law_reg" xY):Df P w K mg base "_law_reg" 1 2 nz:=by
 have sc:=Mf;refine dF F sc (λ_ M' A outer s H E hr=>?_);exact((ai (bg (dR (ae af (ae af (ae (ao L2.bF bH (ao cB cA (ab 0) af) af) (ae (ao L2.sW sF af (ao L2.bF bH (ao cB cA (ab 0) af) af)) (ae (ao L2.bF bH (ao cB cA (ab 0) af) af) au)))))) (aU 2 sc.nd)) (ai (bg (ao bI bN (ab 2) (dR (ae (ao bI bN (ao L2.cI cJ (aB (ab 1) (ao L2.bF bH (ao cB cA (ab 0) af) af)) af) (ao L2.bF bH (ao cB cA (ab 0) af) af)) (ae (ao bI bN (ao L2.cI cJ (aB (ab 1) af) af) af) (ae af au))))) (aU 2 sc.nd)) (ai (aT (aB (ab 2) (ao L2.bF bH (ab 0) af))) bQ)))).out
noncomputable abbrev vd:Stmt:=top 57
theorem Gi:L2.bD ["_law_cell","_law_k","_law_number","_law_task_here","_law_first","_law_pages","_law_one","_law_place","_law_word_here","_law_some","_law_code","_law_j","_law_other","_law_state_here"] ["_law_cell","_law_k"] (L2.aX vd):=bS
theorem Dt(F:FH P w K mg base "_law_state" vd)(NM:mg "list"=none)(NJ:mg "range"=none)(A':mg "tuple"=none)(NU:Df P w K mg base "_law_mixed" 1 2 iR)(Od:di P w K mg base "_law_task" 1 1 nI)(N6:Df P w K mg base "_law_drawn_row" 2 1 pj)(NX:Df P w K mg base "_law_coded" 2 1 fP)(N7:Df P w K mg base "_law_page" 1 1 j9)(OM:Df P w K mg base "_law_reg" 1 2 nz):Df P w K mg base "_law_state" 3 2 mU:=by
 have sc:=Gi;refine dF F sc (λ_ M' A outer s H E hr=>?_)
 exact((ai (bg (bc NU hr (ae (ab 0) (ae (ao bI bN (ao L2.cI cJ af (ab 1)) af) au)) (by decide)) (aU 2 sc.nd)) (ai (bg (ao bI bN af (ao L2.bF bH (ab 2) af)) (aU 3 sc.nd)) (ai (bg (aB (dR (ae af (ae af (ae af (ae af au))))) (ao L2.bF bH (ao cB cA (ab 2) af) af)) (aU 4 sc.nd)) (ai (bg (dR (ae (ab 4) (ae (ao bI bN (ab 4) af) (ae (aB (dR (ae af (ae af au))) (ao L2.bF bH (ao cB cA (ab 2) af) af)) au)))) (aU 5 sc.nd)) (ai (oH 6 sc.nd (fg Od hr (ae af au) (by decide))) (ai (bg (ao L2.bF bH (ao cB cA (ab 2) af) af) (aU 7 sc.nd)) (ai (gI 6 hr.units (eM 6) aw (ao bI bN (ao L2.cI cJ (ab 4) af) (ab 7))) (ai (bg (bc NX hr (ae (bc N6 hr (ae (bc NU hr (ae (ab 0) (ae (ao bI bN (ao L2.cI cJ af (ab 1)) af) au)) (by decide)) au) (by decide)) au) (by decide)) (aU 8 sc.nd)) (ai (bf (br (bL hr.units) bJ bX (ao L2.bF bH (ao cB cA (ab 2) af) af) af) (ai (bg (dR (ae (ao bI bN (ab 8) (ao L2.de c9 af af)) (ae (ao bI bN (ao L2.cI cJ af (ao L2.de c9 af af)) af) (ae (ao bI bN (ao L2.cI cJ af (ao L2.de c9 af af)) af) (ae (ao bI bN (ao L2.cI cJ af (ao L2.de c9 af af)) (ao L2.de c9 af af)) (ae af au)))))) (aU 9 sc.nd)) (ai (bg (aB (ab 9) (ao L2.bF bH (ao cB cA (ab 2) af) af)) (aU 8 sc.nd)) (ai (bg (ao L2.bF bH (ab 8) af) (aU 8 sc.nd)) bQ))) bt) (ai (qi 10 sc.nd (As NM (bc N7 hr (ae (bc NU hr (ae (ab 0) (ae (ao bI bN (ao L2.cI cJ af (ab 1)) af) au)) (by decide)) au) (by decide)))) (ai (zH 10 (ab 8) (ab 7) (by delta mn;intro _;rfl)) (lG 10 (ai (gI 6 hr.units (gd (eM 6) aw) (aB (ab 5) af) (bu (ae aw (ae (iq L2.mG pK A' gT (ab 10)) au)))) (ai (gI 6 hr.units (gd (eM 6) aw) (aB (ab 5) af) (bu (ae aw (ae (bc N7 hr (ae (bc NU hr (ae (ab 0) (ae (ao bI bN (ao L2.cI cJ af (ab 1)) af) au)) (by decide)) au) (by decide)) au)))) (ai (gI 6 hr.units (gd (eM 6) aw) (aB (ab 5) af) (bu (ae aw (ae af au)))) (ai (lZ (f:=ly) (qF NJ af) (aU 11 sc.nd) (by delta ly;exact(aY (A5 6 (gd (eM 6) aw) (bc OM hr (ae (bc NU hr (ae (ab 0) (ae (ao bI bN (ao bI bN (ao L2.cI cJ af (ab 1)) af) (ab 11)) au)) (by decide)) (ae (ab 5) au)) (by decide)) (ab 11) (by delta mn;intro _;rfl))))) (ai (oH 12 sc.nd (fg Od hr (ae af au) (by decide))) (ai (gI 12 hr.units (gd (eM 12) aw) af (bu (ae aw (ae af au)))) (ai (bf (br (bL hr.units) bJ bX (ao L2.bF bH (ao cB cA (ab 2) af) af) af) (aY (gI 6 hr.units (eM 6) aw (aB (dR (ae (ao bI bN (ao L2.cI cJ (aB (ab 5) af) af) af) (ae af (ae af au)))) (ao L2.bF bH (ao cB cA (ab 2) af) af)))) bt) (ai (Ee 13 6 12 sc.nd (Bk [(6,0,[0]),(12,0,[1])] (pF [6,12] [] [(6,[0]),(12,[1])] [] aw (Bk [(6,0,[]),(12,1,[])] (pF [6] [12] [(6,[])] [(12,0,[])] (ab 3) (BG 6) (pF [12] [] [(12,[])] [] (ao bI bN af (ao L2.bF bH (ab 3) af)) (BG 12) Cb))) (pF [] [] [] [] aw (CG (eA (iP (kc af (bc N7 hr (ae (ab 2) au) (by decide)) iQ)))) (pF [] [] [] [] aw (CG (eA (iP (kc af (bu (ae aw (ae FO au))) iQ)))) Cb))))) (ai (sP 13 hr.units (eM 13) aw (iP (kc af (bu (ae aw (ae (iP (kc af af iQ)) au))) (kc af (bu (ae aw (ae (dR (ae af (ae af au))) au))) iQ)))) (ai (sP 13 hr.units (eM 13) aw (iP (kc af (bu (ae af (ae (dR (ae af au)) au))) iQ))) (ai (gI 13 hr.units (lj 13 6) aw (iP (kc af af iQ))) (ai (gI 13 hr.units (lj 13 6) aw (ao L2.bF bH (ab 2) af)) (ai (gI 13 hr.units (lj 13 12) aw (bu (ae (dR (ae af (ae af (ae af (ae af (ae af (ae af (ae af (ae af au))))))))) (ae af au)))) (ai (sP 13 hr.units (eM 13) aw (ao L2.bF bH (ab 2) af)) (ai (oJ 13 (bu (ae (ab 13) (ae (ab 3) au)))) bQ)))))))))))))))))))))))))))).out
noncomputable abbrev ux:Stmt:=top 49
theorem LL:L2.bD ["_law_state_here","_law_task_here","_law_address","_law_entry"] ["_law_state_here","_law_task_here","_law_address"] (L2.aX ux):=bS
theorem DH(F:FH P w K mg base "_law_word" ux):Df P w K mg base "_law_word" 1 3 iu:=by
 have sc:=LL;refine dF F sc (λ_ M' A outer s H E hr=>?_);exact((ai (bg (wQ (aB (aB (aB (ab 0) aw) (ab 1)) aw) (ao cB cA (ab 2) af) (jF yF (by rfl) (by rfl))) (aU 3 sc.nd)) (ai (bf (gD (ab 3)) (aY (aT fA)) bt) (ai (bf (br (bL hr.units) bJ bX (aB (ab 3) af) aw) (aY (aT (aB (aB (ab 3) af) (ao L2.bF bH (ab 2) af)))) bt) (ai (aT (aB (aB (aB (ab 0) aw) (aB (ab 3) af)) (ao L2.bF bH (ab 2) af))) bQ))))).out
noncomputable abbrev kS:Stmt:=top 45
theorem zV:L2.bD ["_law_thing"] ["_law_thing"] (L2.aX kS):=bS
theorem Fv(F:FH P w K mg base "_law_copied" kS)(NL:mg "dict"=none)(i':mg "isinstance"=none)(NM:mg "list"=none)(A':mg "tuple"=none)(OX:di P w K mg base "_law_copied" (1+j) 1 m):di P w K mg base "_law_copied" (1+(j+1)) 1 (jM m):=by
 have sc:=zV;refine om (k:=1+j) F sc (λ_ M' A outer s H E hr=>?_);exact((ai (bf (fK (eS .dict (ab 0) i' NL ng)) (aY (rf (DY NL (vk ["_law_key"] ["_law_thing"] [0] (ky (L2.aX kS) ["_law_thing"] (by rfl) (by rfl) (by decide+kernel)) (Bb (ab 0)) (λcl C s H fp=>by exact(aU 0 (show List.Nodup (["_law_key","_law_thing"]:List Str)from by decide+kernel))) (λcl C s H fp=>by exact kR) (λcl C s H fp=>by exact(Ds (iW (eA (ab 0)) (iW (fg OX hr (ae (aB (ab 1) (ab 0)) au) (Gc _)) AH)) (show 2<=1000 from by decide))))))) bt) (ai (bf (fK (eS .list (ab 0) i' NM oC)) (aY (rf (vk ["_law_one"] [] [] (ky (L2.aX kS) ["_law_thing"] (by rfl) (by rfl) (by decide+kernel)) (sA (ab 0)) (λcl C s H fp=>by exact(aU 0 (show List.Nodup (["_law_one"]:List Str)from by decide+kernel))) (λcl C s H fp=>by exact kR) (λcl C s H fp=>by exact(fg OX hr (ae (ab 0) au) (Gc _)))))) bt) (ai (bf (fK (eS .tuple (ab 0) i' A' gT)) (aY (rf (GO A' (vk ["_law_one"] [] [] (ky (L2.aX kS) ["_law_thing"] (by rfl) (by rfl) (by decide+kernel)) (sA (ab 0)) (λcl C s H fp=>by exact(aU 0 (show List.Nodup (["_law_one"]:List Str)from by decide+kernel))) (λcl C s H fp=>by exact kR) (λcl C s H fp=>by exact(fg OX hr (ae (ab 0) au) (Gc _))))))) bt) (ai (rf (eA (ab 0))) bQ))))).out
theorem Hr(F:FH P w K mg base "_law_copied" kS)(NL:mg "dict"=none)(i':mg "isinstance"=none)(NM:mg "list"=none)(A':mg "tuple"=none):di P w K mg base "_law_copied" 10 1 g7:=by
 exact di.m5 (k:=1) (b:=jM) (om (body:=λ_=>.bad) (k:=0) F zV (λ_ M' A outer s H E hr=>CF)) (λj m h=>Fv F NL i' NM A' h) 9
noncomputable abbrev uV:Stmt:=top 28
theorem DJ:L2.bD ["state","task","page"] ["state","task","page"] (L2.aX uV):=bS
theorem HF(F:FH P w K mg base "page_entry" uV):Df P w K mg base "page_entry" 1 3 kM:=by
 have sc:=DJ;refine dF F sc (λ_ M' A outer s H E hr=>?_);exact((ai (bf (br (IT hr.units) Mq D4 (ab 1) (aB (ab 0) aw)) (aY (aT fA)) bt) (ai (aT (wQ (aB (aB (aB (ab 0) aw) (ab 1)) aw) (ab 2) (jF yF (by rfl) (by rfl)))) bQ))).out
noncomputable abbrev xw:Stmt:=top 29
theorem FV:L2.bD ["state","entry"] ["state","entry"] (L2.aX xw):=bS
theorem DS(F:FH P w K mg base "entry_words" xw):Df P w K mg base "entry_words" 1 2 kE:=by
 have sc:=FV;refine dF F sc (λ_ M' A outer s H E hr=>?_);exact((aY (aT (iC (br (bL hr.units) bJ bX (aB (ab 1) af) aw) (aB (ab 1) af) (aB (aB (ab 0) aw) (aB (ab 1) af)))))).out
noncomputable abbrev va:Stmt:=top 30
theorem LC:L2.bD ["state","task","address","entry"] ["state","task","address"] (L2.aX va):=bS
theorem LN(F:FH P w K mg base "word_in" va)(gl_PAGE_WORDS:iJ P w K mg "PAGE_WORDS" k8)(NV:Df P w K mg base "page_entry" 1 3 kM)(NT:Df P w K mg base "entry_words" 1 2 kE):Df P w K mg base "word_in" 2 3 pz:=by
 have sc:=LC;refine dF F sc (λ_ M' A outer s H E hr=>?_);exact((ai (bg (bc NV hr (ae (ab 0) (ae (ab 1) (ae (ao cB cA (ab 2) (kI gl_PAGE_WORDS)) au))) (by decide)) (aU 3 sc.nd)) (ai (aT (iC (gD (ab 3)) fA (aB (bc NT hr (ae (ab 0) (ae (ab 3) au)) (by decide)) (ao L2.bF bH (ab 2) (kI gl_PAGE_WORDS))))) bQ))).out
noncomputable abbrev kU:Stmt:=top 41
noncomputable def AE:fU:=(jw (.stmts (L2.dE kU))).getD default
theorem Bo:mT "address" AE:=Gk
theorem Dc:jw (.stmts (L2.dE kU))=some AE:=rfl
theorem ES{P:Program}{w:World}{K:PySem.W.Frag}{mg:Str->acR}{base:Heap}{cd Pt:Addr}(F:jU K mg "plain_row" kU cd Pt)(OK:Df P w K mg base "word_in" 2 3 pz):mR P w K mg base 3 "plain_row" jJ:=by
 refine GU (k:=2) F Dc Bo (λqual a cd NP A outer s H hr=>?_);exact((bc OK hr (ae (ab 1) (ae (ab 2) (ae (ab 0) au))) (by decide))).out
noncomputable abbrev uB:Stmt:=top 4
theorem Jt:L2.bD ["thing"] ["thing"] (L2.aX uB):=bS
theorem FQ(F:FH P w K mg base "is_whole" uB)(N9:mg "bool"=none)(NZ:mg "int"=none)(i':mg "isinstance"=none):Df P w K mg base "is_whole" 1 1 mK:=by
 have sc:=Jt;refine dF F sc (λ_ M' A outer s H E hr=>?_);exact((aY (aT (lU (eS .int (ab 0) i' NZ kq) (l7 (IP (eS .bool (ab 0) i' N9 we))))))).out
noncomputable abbrev tK:Stmt:=top 5
theorem KS:L2.bD ["thing"] ["thing"] (L2.aX tK):=bS
theorem DV(F:FH P w K mg base "is_word" tK)(N3:Df P w K mg base "is_whole" 1 1 mK):Df P w K mg base "is_word" 2 1 jO:=by
 have sc:=KS;refine dF F sc (λ_ M' A outer s H E hr=>?_);exact((aY (aT (lU (bc N3 hr (ae (ab 0) au) (by decide)) (l7 (yT L2.Cd L2.nB Ac oM af (ab 0) (ao L2.de c9 af af))))))).out
noncomputable abbrev uQ:Stmt:=top 10
theorem Hj:L2.bD ["name"] ["name"] (L2.aX uQ):=bS
theorem FI(F:FH P w K mg base "shape_of" uQ)(gl_SHAPES:iJ P w K mg "SHAPES" rP):Df P w K mg base "shape_of" 1 1 eE:=by
 have sc:=Hj;refine dF F sc (λ_ M' A outer s H E hr=>?_);exact((aY (aT (wQ (kI gl_SHAPES) (ab 0) (jF qQ (by rfl) (by rfl)))))).out
noncomputable abbrev yl:Stmt:=top 11
theorem KL:L2.bD ["field"] ["field"] (L2.aX yl):=bS
theorem Hn(F:FH P w K mg base "bound_of" yl):Df P w K mg base "bound_of" 1 1 nO:=by
 have sc:=KL;refine dF F sc (λ_ M' A outer s H E hr=>?_);exact((aY (aT (iC (br (bL hr.units) bJ bX (ab 0) aw) (ao L2.de c9 af af) af)))).out
noncomputable abbrev uz:Stmt:=top 12
theorem ID:L2.bD ["field","thing"] ["field","thing"] (L2.aX uz):=bS
theorem Kp(F:FH P w K mg base "is_part" uz)(N3:Df P w K mg base "is_whole" 1 1 mK)(OC:Df P w K mg base "bound_of" 1 1 nO):Df P w K mg base "is_part" 2 2 kf:=by
 have sc:=ID;refine dF F sc (λ_ M' A outer s H E hr=>?_);exact((aY (aT (lU (bc N3 hr (ae (ab 1) au) (by decide)) (l7 (yT L2.Cd L2.nB Ac oM af (ab 1) (bc OC hr (ae (ab 0) au) (by decide)))))))).out
noncomputable abbrev tw:Stmt:=top 13
theorem Hm:L2.bD ["thing","shape"] ["thing"] (L2.aX tw):=bS
theorem E3(F:FH P w K mg base "is_row" tw)(Oo:mg "all"=none)(i':mg "isinstance"=none)(NG:mg "len"=none)(OZ:mg "str"=none)(A':mg "tuple"=none)(Oy:mg "zip"=none)(NO:Df P w K mg base "shape_of" 1 1 eE)(OL:Df P w K mg base "is_part" 2 2 kf):Df P w K mg base "is_row" 3 1 kQ:=by
 have sc:=Hm;refine dF F sc (λ_ M' A outer s H E hr=>?_);exact((ai (bf (jC (j7 (jB (fK (eS .tuple (ab 0) i' A' gT))) (j7 (br (bL hr.units) bJ bX (fN ju i8 NG gM (ab 0)) af) (l6 (jB (fK (eS .str (aB (ab 0) af) i' OZ zf))))))) (aY (aT lC)) bt) (ai (bg (bc NO hr (ae (aB (ab 0) af) au) (by decide)) (aU 1 sc.nd)) (ai (bf (jC (j7 (gD (ab 1)) (l6 (br (oh hr.units) o9 qV (fN ju i8 NG gM (ab 0)) (ao bI bN af (fN ju i8 NG gM (ab 1))))))) (aY (aT lC)) bt) (ai (aT (fN (wN rfl) uy Oo vI (rX (qx ["field","part"] [] [] (ky (L2.aX tw) ["thing","shape"] (by rfl) (by rfl) (by decide+kernel)) (Bc Oy (ab 1) (vY (ab 0) (vR af) wM)) (λcl C s H fp=>by exact(xP (mw 0 (aU 0 (show List.Nodup (["field","part"]:List Str)from by decide+kernel)) (mw 1 (aU 1 (show List.Nodup (["field","part"]:List Str)from by decide+kernel)) u9)) qa)) (λcl C s H fp=>by exact kR) (λcl C s H fp=>by exact(bc OL hr (ae (ab 0) (ae (ab 1) au)) (by decide))))))) bQ))))).out
noncomputable abbrev vN:Stmt:=top 14
theorem Mg:L2.bD ["row","field","place"] ["row","field"] (L2.aX vN):=bS
theorem EJ(F:FH P w K mg base "part_of" vN)(NO:Df P w K mg base "shape_of" 1 1 eE):Df P w K mg base "part_of" 2 2 jT:=by
 have sc:=Mg;refine dF F sc (λ_ M' A outer s H E hr=>?_);exact((ai (bg (MW (bc NO hr (ae (aB (ab 0) af) au) (by decide)) (ab 1)) (aU 2 sc.nd)) (ai (aT (iC (br L2.nB oM yR (ab 2) af) af (aB (ab 0) (ao bI bN af (ab 2))))) bQ))).out
noncomputable abbrev tS:Stmt:=top 15
theorem Dk:L2.bD ["row","word"] ["row"] (L2.aX tS):=bS
theorem IA(F:FH P w K mg base "coded" tS)(gl_NAMES:nS P w K mg "NAMES" g9)(O1:Df P w K mg base "is_row" 3 1 kQ)(N5:Df P w K mg base "part_of" 2 2 jT):Df P w K mg base "coded" 4 1 lI:=by
 have sc:=Dk;refine dF F sc (λ_ M' A outer s H E hr=>?_);exact((ai (bf (jB (fK (bc O1 hr (ae (ab 0) au) (by decide)))) (aY HB) bt) (ai (bg (ao L2.cI cJ (Jx gl_NAMES (aB (ab 0) af)) (ao L2.de c9 af af)) (aU 1 sc.nd)) (ai (bg (ao bI bN (ao bI bN (ab 1) (ao L2.cI cJ (bc N5 hr (ae (ab 0) (ae aw au)) (by decide)) (ao L2.de c9 af af))) (ao L2.cI cJ (bc N5 hr (ae (ab 0) (ae aw au)) (by decide)) (ao L2.de c9 af af))) (aU 1 sc.nd)) (ai (aT (ao bI bN (ao bI bN (ab 1) (ao L2.cI cJ (bc N5 hr (ae (ab 0) (ae aw au)) (by decide)) (ao L2.de c9 af af))) (bc N5 hr (ae (ab 0) (ae aw au)) (by decide)))) bQ))))).out
noncomputable abbrev ue:Stmt:=top 16
theorem J7:L2.bD ["word","field"] ["word","field"] (L2.aX ue):=bS
theorem Ec(F:FH P w K mg base "part_in" ue):Df P w K mg base "part_in" 1 2 iH:=by
 have sc:=J7;refine dF F sc (λ_ M' A outer s H E hr=>?_);exact((ai (bf (br (bL hr.units) bJ bX (ab 1) aw) (aY (aT (ao L2.bF bH (ao cB cA (ab 0) (ao L2.de c9 af af)) af))) bt) (ai (bf (br (bL hr.units) bJ bX (ab 1) aw) (aY (aT (ao L2.bF bH (ao cB cA (ab 0) (ao L2.de c9 af af)) af))) bt) (ai (bf (br (bL hr.units) bJ bX (ab 1) aw) (aY (aT (ao L2.bF bH (ao cB cA (ab 0) (ao L2.de c9 af af)) af))) bt) (ai (aT (ao L2.bF bH (ab 0) (ao L2.de c9 af af))) bQ))))).out
noncomputable abbrev p6:Stmt:=top 17
theorem Gv:L2.bD ["word","name","row"] ["word"] (L2.aX p6):=bS
theorem Kw(F:FH P w K mg base "decoded" p6)(NG:mg "len"=none)(A':mg "tuple"=none)(gl_NAMES:nS P w K mg "NAMES" g9)(OO:Df P w K mg base "is_word" 2 1 jO)(NO:Df P w K mg base "shape_of" 1 1 eE)(OJ:Df P w K mg base "part_in" 1 2 iH)(O':Df P w K mg base "coded" 4 1 lI):Df P w K mg base "decoded" 5 1 jE:=by
 have sc:=Gv;refine dF F sc (λ_ M' A outer s H E hr=>?_);exact((ai (bf (jC (j7 (jB (fK (bc OO hr (ae (ab 0) au) (by decide)))) (l6 (br L2.C2 AA CU (ao cB cA (ab 0) (ao L2.de c9 af af)) (fN ju i8 NG gM (kI gl_NAMES.gl)))))) (aY (aT fA)) bt) (ai (bg (aB (kI gl_NAMES.gl) (ao cB cA (ab 0) (ao L2.de c9 af af))) (aU 1 sc.nd)) (ai (bg (iq L2.mG pK A' gT (ao bI bN (dR (ae (ab 1) au)) (rX (qx ["field"] ["word"] [0] (ky (L2.aX p6) ["word","name","row"] (by rfl) (by rfl) (by decide+kernel)) (sA (bc NO hr (ae (ab 1) au) (by decide))) (λcl C s H fp=>by exact(aU 0 (show List.Nodup (["field","word"]:List Str)from by decide+kernel))) (λcl C s H fp=>by exact kR) (λcl C s H fp=>by exact(bc OJ hr (ae (ab 1) (ae (ab 0) au)) (by decide))))))) (aU 2 sc.nd)) (ai (aT (iC (br (bL hr.units) bJ bX (bc O' hr (ae (ab 2) au) (by decide)) (ab 0)) (ab 2) fA)) bQ))))).out
noncomputable abbrev yh:Stmt:=top 20
theorem Hv:L2.bD ["name","left","right"] ["name","left","right"] (L2.aX yh):=bS
theorem LX(F:FH P w K mg base "cut_or_rest" yh):Df P w K mg base "cut_or_rest" 1 3 nE:=by
 have sc:=Hv;refine dF F sc (λ_ M' A outer s H E hr=>?_);exact((ai (bf (br (bL hr.units) bJ bX (ab 2) af) (aY (aT fA)) bt) (ai (aT (iC (br (bL hr.units) bJ bX (ab 0) aw) (ao cB cA (ab 1) (ab 2)) (ao L2.bF bH (ab 1) (ab 2)))) bQ))).out
noncomputable abbrev wY:Stmt:=top 6
theorem M5:L2.bD ["number"] ["number"] (L2.aX wY):=bS
theorem Mb(F:FH P w K mg base "rounded" wY):Df P w K mg base "rounded" 1 1 c7:=by
 have sc:=M5;refine dF F sc (λ_ M' A outer s H E hr=>?_);exact((aY (aT (ao L2.bF bH (ab 0) (ao L2.de c9 af af))))).out
noncomputable abbrev wk:Stmt:=top 19
theorem HD:L2.bD ["name","left","right"] ["name","left","right"] (L2.aX wk):=bS
theorem D3(F:FH P w K mg base "reckoned_of_two" wk)(D':Df P w K mg base "rounded" 1 1 c7)(Ob:Df P w K mg base "cut_or_rest" 1 3 nE):Df P w K mg base "reckoned_of_two" 2 3 oU:=by
 have sc:=HD;refine dF F sc (λ_ M' A outer s H E hr=>?_);exact((ai (bf (br (bL hr.units) bJ bX (ab 0) aw) (aY (aT (bc D' hr (ae (ao bI bN (ab 1) (ab 2)) au) (by decide)))) bt) (ai (bf (br (bL hr.units) bJ bX (ab 0) aw) (aY (aT (bc D' hr (ae (ao L2.sW sF (ab 1) (ab 2)) au) (by decide)))) bt) (ai (bf (br (bL hr.units) bJ bX (ab 0) aw) (aY (aT (bc D' hr (ae (ao L2.cI cJ (ab 1) (ab 2)) au) (by decide)))) bt) (ai (bf (br (bL hr.units) bJ bX (ab 0) aw) (aY (aT (iC (br L2.nB oM yR (ab 1) (ab 2)) af af))) bt) (ai (bf (br (bL hr.units) bJ bX (ab 0) aw) (aY (aT (iC (br (bL hr.units) bJ bX (ab 1) (ab 2)) af af))) bt) (ai (aT (bc Ob hr (ae (ab 0) (ae (ab 1) (ae (ab 2) au))) (by decide))) bQ))))))).out
noncomputable abbrev wu:Stmt:=top 18
theorem LR:L2.bD ["row","regs","name"] ["row","regs"] (L2.aX wu):=bS
theorem Fy(F:FH P w K mg base "reckoned" wu)(D':Df P w K mg base "rounded" 1 1 c7)(N1:Df P w K mg base "reckoned_of_two" 2 3 oU):Df P w K mg base "reckoned" 3 2 jI:=by
 have sc:=LR;refine dF F sc (λ_ M' A outer s H E hr=>?_);exact((ai (bg (aB (ab 0) af) (aU 2 sc.nd)) (ai (bf (br (bL hr.units) bJ bX (ab 2) aw) (aY (aT (bc D' hr (ae (aB (ab 0) af) au) (by decide)))) bt) (ai (bf (br (bL hr.units) bJ bX (ab 2) aw) (aY (aT (bc D' hr (ae (ao bI bN (ao L2.cI cJ (aB (ab 0) af) (ao L2.de c9 af af)) (ao L2.bF bH (aB (ab 1) (aB (ab 0) af)) (ao L2.de c9 af af))) au) (by decide)))) bt) (ai (bf (br (bL hr.units) bJ bX (ab 2) aw) (aY (aT (bc D' hr (ae (aB (ab 1) (aB (ab 0) af)) au) (by decide)))) bt) (ai (aT (bc N1 hr (ae (ab 2) (ae (aB (ab 1) (aB (ab 0) af)) (ae (aB (ab 1) (aB (ab 0) af)) au))) (by decide))) bQ)))))).out
noncomputable abbrev uw:Stmt:=top 36
theorem Fw:L2.bD ["regs","at","word"] ["regs","at","word"] (L2.aX uw):=bS
theorem K4(F:FH P w K mg base "fault_deed" uw):Df P w K mg base "fault_deed" 1 3 kZ:=by
 have sc:=Fw;refine dF F sc (λ_ M' A outer s H E hr=>?_);exact((aY (aT (bu (ae (bu (ae aw (ae (ab 2) au))) (ae (ab 0) (ae (ab 1) (ae fA au)))))))).out
noncomputable abbrev wb:Stmt:=top 37
theorem MK:L2.bD ["regs","place","word","new"] ["regs","place","word"] (L2.aX wb):=bS
theorem MM(F:FH P w K mg base "with_reg" wb)(NM:mg "list"=none):Df P w K mg base "with_reg" 1 3 i5:=by
 have sc:=MK;refine dF F sc (λ_ M' A outer s H E hr=>?_);exact((ai (qi 3 sc.nd (As NM (ab 0))) (ai (zH 3 (ab 2) (ab 1) (by delta mn;intro _;rfl)) (lG 3 (ai (aT (ab 3)) bQ))))).out
noncomputable abbrev xQ:Stmt:=top 38
theorem HS:L2.bD ["row","regs","at","word_told","address","word"] ["row","regs","at","word_told"] (L2.aX xQ):=bS
theorem ML(F:FH P w K mg base "memory_deed" xQ)(D':Df P w K mg base "rounded" 1 1 c7)(NI:mR P w K mg base 3 "plain_row" jJ)(NH:Df P w K mg base "fault_deed" 1 3 kZ)(N2:Df P w K mg base "with_reg" 1 3 i5):Df P w K mg base "memory_deed" 4 4 oW:=by
 have sc:=HS;refine dF F sc (λ_ M' A outer s H E hr=>?_);exact((ai (bg (bc D' hr (ae (ao bI bN (aB (ab 1) (aB (ab 0) af)) (aB (ab 0) af)) au) (by decide)) (aU 4 sc.nd)) (ai (bg (Av 3 NI hr (ab 4)) (aU 5 sc.nd)) (ai (bf (gD (ab 5)) (aY (aT (bc NH hr (ae (ab 1) (ae (ab 2) (ae aw au))) (by decide)))) bt) (ai (bf (br (bL hr.units) bJ bX (aB (ab 0) af) aw) (aY (aT (bu (ae (bu (ae aw au)) (ae (bc N2 hr (ae (ab 1) (ae (aB (ab 0) af) (ae (ab 5) au))) (by decide)) (ae (bc D' hr (ae (ao bI bN (ab 2) af) au) (by decide)) (ae fA au))))))) bt) (ai (aT (bu (ae (bu (ae aw au)) (ae (ab 1) (ae (bc D' hr (ae (ao bI bN (ab 2) af) au) (by decide)) (ae (bu (ae (ab 4) (ae (aB (ab 1) (aB (ab 0) af)) au))) au)))))) bQ)))))).out
noncomputable abbrev vn:Stmt:=top 39
theorem Eb:L2.bD ["row","regs","at"] ["row","regs","at"] (L2.aX vn):=bS
theorem JB(F:FH P w K mg base "leap_deed" vn)(D':Df P w K mg base "rounded" 1 1 c7):Df P w K mg base "leap_deed" 2 3 oB:=by
 have sc:=Eb;refine dF F sc (λ_ M' A outer s H E hr=>?_);exact((ai (bf (br (bL hr.units) bJ bX (aB (ab 0) af) aw) (aY (aT (bu (ae (bu (ae aw (ae (aB (ab 1) af) (ae (aB (ab 1) af) (ae (aB (ab 1) af) (ae (aB (ab 1) af) au)))))) (ae (ab 1) (ae (bc D' hr (ae (ao bI bN (ab 2) af) au) (by decide)) (ae fA au))))))) bt) (ai (bf (jC (C9 (br (bL hr.units) bJ bX (aB (ab 0) af) aw) (CB (br (bL hr.units) bJ bX (aB (ab 1) (aB (ab 0) af)) af)))) (aY (aT (bu (ae (bu (ae aw au)) (ae (ab 1) (ae (bc D' hr (ae (ao bI bN (ab 2) af) au) (by decide)) (ae fA au))))))) bt) (ai (aT (bu (ae (bu (ae aw au)) (ae (ab 1) (ae (aB (ab 0) (La L2.FW E8 af)) (ae fA au)))))) bQ)))).out
noncomputable abbrev ui:Stmt:=top 35
theorem GY:L2.bD ["regs","at","word_told","word","row","result"] ["regs","at","word_told"] (L2.aX ui):=bS
theorem Fm(F:FH P w K mg base "row_deed" ui)(NI:mR P w K mg base 3 "plain_row" jJ)(NH:Df P w K mg base "fault_deed" 1 3 kZ)(OP:Df P w K mg base "decoded" 5 1 jE)(Oa:Df P w K mg base "memory_deed" 4 4 oW)(Om:Df P w K mg base "leap_deed" 2 3 oB)(OA:Df P w K mg base "reckoned" 3 2 jI)(N2:Df P w K mg base "with_reg" 1 3 i5)(D':Df P w K mg base "rounded" 1 1 c7):Df P w K mg base "row_deed" 6 3 kh:=by
 have sc:=GY;refine dF F sc (λ_ M' A outer s H E hr=>?_);exact((ai (bg (Av 2 NI hr (ab 1)) (aU 3 sc.nd)) (ai (bf (gD (ab 3)) (aY (aT (bc NH hr (ae (ab 0) (ae (ab 1) (ae aw au))) (by decide)))) bt) (ai (bg (bc OP hr (ae (ab 3) au) (by decide)) (aU 4 sc.nd)) (ai (bf (gD (ab 4)) (aY (aT (bc NH hr (ae (ab 0) (ae (ab 1) (ae aw au))) (by decide)))) bt) (ai (bf (br (ic hr.units) ie iB (aB (ab 4) af) (bu (ae aw (ae aw au)))) (aY (aT (bc Oa hr (ae (ab 4) (ae (ab 0) (ae (ab 1) (ae (ab 2) au)))) (by decide)))) bt) (ai (bf (br (ic hr.units) ie iB (aB (ab 4) af) (bu (ae aw (ae aw (ae aw au))))) (aY (aT (bc Om hr (ae (ab 4) (ae (ab 0) (ae (ab 1) au))) (by decide)))) bt) (ai (bg (bc OA hr (ae (ab 4) (ae (ab 0) au)) (by decide)) (aU 5 sc.nd)) (ai (bf (gD (ab 5)) (aY (aT (bc NH hr (ae (ab 0) (ae (ab 1) (ae aw au))) (by decide)))) bt) (ai (aT (bu (ae (bu (ae aw au)) (ae (bc N2 hr (ae (ab 0) (ae (aB (ab 4) af) (ae (ab 5) au))) (by decide)) (ae (bc D' hr (ae (ao bI bN (ab 1) af) au) (by decide)) (ae fA au)))))) bQ)))))))))).out
noncomputable abbrev vP:Stmt:=top 40
theorem Fx:L2.bD ["told"] ["told"] (L2.aX vP):=bS
theorem IK(F:FH P w K mg base "is_fault" vP):Df P w K mg base "is_fault" 1 1 qM:=by
 have sc:=Fx;refine dF F sc (λ_ M' A outer s H E hr=>?_);exact((aY (aT (gZ (bL hr.units) bJ (aB (ab 0) af) aw)))).out
noncomputable abbrev xR:Stmt:=top 24
theorem Kq:L2.bD ["row","place","part"] ["row","place","part"] (L2.aX xR):=bS
theorem Fc(F:FH P w K mg base "put_at" xR):Df P w K mg base "put_at" 1 3 pf:=by
 have sc:=Kq;refine dF F sc (λ_ M' A outer s H E hr=>?_);exact((aY (aT (ao bI bN (ao Iv Gp (vY (ab 0) wM (vR (ab 1))) (bu (ae (ab 2) au))) (vY (ab 0) (vR (ao bI bN (ab 1) af)) wM))))).out
noncomputable abbrev uL:Stmt:=top 23
theorem Gw:L2.bD ["old","news","new"] ["old","news"] (L2.aX uL):=bS
theorem EH(F:FH P w K mg base "changed" uL)(NL:mg "dict"=none):di P w K mg base "changed" 1 2 gm:=by
 have sc:=Gw;refine om F sc (λ_ M' A outer s H E hr=>?_);exact((ai (Cs 2 sc.nd (yp NL (ab 0))) (ai (Hw 2 (ab 1)) (ai (G9 2) bQ)))).out
noncomputable abbrev vS:Stmt:=top 33
theorem Fs:L2.bD ["state","number","words"] ["state","number","words"] (L2.aX vS):=bS
theorem FE(F:FH P w K mg base "with_lent" vS)(NK:di P w K mg base "changed" 1 2 gm):Df P w K mg base "with_lent" 2 3 pP:=by
 have sc:=Fs;refine dF F sc (λ_ M' A outer s H E hr=>?_);exact((aY (aT (j3 (fg NK hr (ae (ab 0) (ae (iP (oY aw (j3 (fg NK hr (ae (aB (ab 0) aw) (ae (yu (ab 1) (ab 2)) au)) (by decide))) iQ)) au)) (by decide)))))).out
noncomputable abbrev vq:Stmt:=top 26
theorem El:L2.bD ["state","task","news","tasks"] ["state","task","news"] (L2.aX vq):=bS
theorem Mh(F:FH P w K mg base "with_task" vq)(NL:mg "dict"=none)(NK:di P w K mg base "changed" 1 2 gm):Df P w K mg base "with_task" 2 3 jD:=by
 have sc:=El;refine dF F sc (λ_ M' A outer s H E hr=>?_);exact((ai (Cs 3 sc.nd (yp NL (aB (ab 0) aw))) (ai (MX 3 hr.units (ab 1) (j3 (fg NK hr (ae (GL 3 (ab 1)) (ae (ab 2) au)) (by decide)))) (lG 3 (ai (aT (j3 (fg NK hr (ae (ab 0) (ae (iP (oY aw (ab 3) iQ)) au)) (by decide)))) bQ))))).out
noncomputable abbrev tQ:Stmt:=top 32
theorem K7:L2.bD ["state","task","page","entry","pages"] ["state","task","page","entry"] (L2.aX tQ):=bS
theorem J0(F:FH P w K mg base "with_page" tQ)(NK:di P w K mg base "changed" 1 2 gm)(NY:Df P w K mg base "with_task" 2 3 jD):Df P w K mg base "with_page" 3 4 oA:=by
 have sc:=K7;refine dF F sc (λ_ M' A outer s H E hr=>?_);exact((ai (bg (j3 (fg NK hr (ae (aB (aB (aB (ab 0) aw) (ab 1)) aw) (ae (yu (ab 2) (ab 3)) au)) (by decide))) (aU 4 sc.nd)) (ai (aT (bc NY hr (ae (ab 0) (ae (ab 1) (ae (iP (oY aw (ab 4) iQ)) au))) (by decide))) bQ))).out
noncomputable abbrev vi:Stmt:=top 31
theorem Kf:L2.bD ["state","task","address","word","page","entry","words"] ["state","task","address","word"] (L2.aX vi):=bS
theorem Mw(F:FH P w K mg base "put_word_in" vi)(gl_PAGE_WORDS:iJ P w K mg "PAGE_WORDS" k8)(NV:Df P w K mg base "page_entry" 1 3 kM)(NT:Df P w K mg base "entry_words" 1 2 kE)(O3:Df P w K mg base "put_at" 1 3 pf)(Oq:Df P w K mg base "with_page" 3 4 oA)(Oi:Df P w K mg base "with_lent" 2 3 pP):Df P w K mg base "put_word_in" 4 4 pd:=by
 have sc:=Kf;refine dF F sc (λ_ M' A outer s H E hr=>?_);exact((ai (bg (ao cB cA (ab 2) (kI gl_PAGE_WORDS)) (aU 4 sc.nd)) (ai (bg (bc NV hr (ae (ab 0) (ae (ab 1) (ae (ab 4) au))) (by decide)) (aU 5 sc.nd)) (ai (bf (gD (ab 5)) (aY (aT fA)) bt) (ai (bg (bc O3 hr (ae (bc NT hr (ae (ab 0) (ae (ab 5) au)) (by decide)) (ae (ao L2.bF bH (ab 2) (kI gl_PAGE_WORDS)) (ae (ab 3) au))) (by decide)) (aU 6 sc.nd)) (ai (bf (br (bL hr.units) bJ bX (aB (ab 5) af) aw) (aY (aT (bc Oq hr (ae (ab 0) (ae (ab 1) (ae (ab 4) (ae (bu (ae aw (ae (ab 6) au))) au)))) (by decide)))) bt) (ai (aT (bc Oi hr (ae (ab 0) (ae (aB (ab 5) af) (ae (ab 6) au))) (by decide))) bQ))))))).out
theorem Lw:L2.bD ["state","task","own","deed","behind"] ["state","task"] (L2.aX kU):=bS
theorem Fj{P:Program}{w:World}{K:PySem.W.Frag}{mg:Str->acR}{base:Heap}{cd Pt:Addr}(F:jU K mg "plain_row" kU cd Pt)(T:L2.ff base Pt/\base.BuiltinsAt mg Pt)(kb:K.In base)(Ow:Df P w K mg base "row_deed" 6 3 kh)(Oz:Df P w K mg base "is_fault" 1 1 qM)(N':Df P w K mg base "put_word_in" 4 4 pd)(NY:Df P w K mg base "with_task" 2 3 jD):Df P w K mg base "plain_row" 7 2 p5:=by
 have sc:=Lw;refine Ly F Dc T kb sc (λ_ M' A outer s H E lx hr=>?_) (λ_ _ _ _ _ _ us hl=>(match us,hl with|[_,_],_=>rfl))
 exact((ai (bg (aB (aB (ab 0) aw) (ab 1)) (aU 2 sc.nd)) (ai (bg (Lo (sc:=L2.aX kU) lx Bo Ow hr (aB (ab 2) aw) (aB (ab 2) aw)) (aU 3 sc.nd)) (ai (bf (fK (bc Oz hr (ae (aB (ab 3) af) au) (by decide))) (aY (aT (bu (ae (ab 0) (ae (aB (ab 3) af) au))))) bt) (ai (bg (iC (gD (aB (ab 3) af)) (ab 0) (bc N' hr (ae (ab 0) (ae (ab 1) (ae (aB (aB (ab 3) af) af) (ae (aB (aB (ab 3) af) af) au)))) (by decide))) (aU 4 sc.nd)) (ai (aT (bu (ae (bc NY hr (ae (ab 4) (ae (ab 1) (ae (iP (oY aw (aB (ab 3) af) (oY aw (aB (ab 3) af) iQ))) au))) (by decide)) (ae (aB (ab 3) af) au)))) bQ)))))).out
noncomputable abbrev xC:Stmt:=top 58
theorem MQ:L2.bD ["_law_word_here","_law_kind","_law_at","_law_a","_law_b","_law_row"] ["_law_word_here"] (L2.aX xC):=bS
theorem Mi(F:FH P w K mg base "_law_read" xC)(NB:Df P w K mg base "_law_kinds" 1 0 gJ)(NX:Df P w K mg base "_law_coded" 2 1 fP):Df P w K mg base "_law_read" 3 1 lu:=by
 have sc:=MQ;refine dF F sc (λ_ M' A outer s H E hr=>?_);exact((ai (lZ (f:=fV) (sA (qh NB hr)) (aU 1 sc.nd) (by delta fV;exact(ai (bg (xB (qh NB hr) (ab 1) (jF Ao (by rfl) (by rfl))) (aU 2 sc.nd)) (ai (bg (ao L2.bF bH (ao cB cA (ab 0) af) af) (aU 3 sc.nd)) (ai (bg (ao L2.bF bH (ao cB cA (ab 0) af) af) (aU 4 sc.nd)) (ai (bg (bu (ae (ab 1) (ae (ab 3) (ae (ab 4) (ae (ao L2.bF bH (ao cB cA (ab 0) af) af) au))))) (aU 5 sc.nd)) (ai (bf (br (bL hr.units) bJ bX (ab 1) aw) (aY (bg (bu (ae (ab 1) au)) (aU 5 sc.nd))) (aY (bf (br (bL hr.units) bJ bX (ab 1) aw) (aY (bg (bu (ae (ab 1) (ae (ao L2.bF bH (ab 0) af) au))) (aU 5 sc.nd))) (aY (bf (br (ic hr.units) ie iB (ab 1) (bu (ae aw (ae aw (ae aw au))))) (aY (bg (bu (ae (ab 1) (ae (ab 3) (ae (ao L2.bF bH (ab 0) af) au)))) (aU 5 sc.nd))) (aY (bf (br (bL hr.units) bJ bX (ab 1) aw) (aY (bg (bu (ae (ab 1) (ae (ab 3) (ae (ab 4) au)))) (aU 5 sc.nd))) (aY (bf (br (ic hr.units) ie iB (ab 1) (bu (ae aw (ae aw au)))) (aY (bg (bu (ae (ab 1) (ae (ab 3) (ae (ab 4) (ae (ao L2.bF bH (ab 0) af) au))))) (aU 5 sc.nd))) bt))))))))) (ai (bf (jC (C9 (br (bL hr.units) bJ bX (ao cB cA (ab 0) af) (ab 2)) (CB (br (bL hr.units) bJ bX (bc NX hr (ae (ab 5) au) (by decide)) (ab 0))))) (aY (aT (ab 5))) bt) bQ)))))))) (ai (aT fA) bQ))).out
noncomputable abbrev tI:Stmt:=top 50
theorem Js:L2.bD ["_law_state_here","_law_task_here","_law_address","_law_word_here","_law_due","_law_pages","_law_page_here","_law_words","_law_place"] ["_law_state_here","_law_task_here","_law_address","_law_word_here"] (L2.aX tI):=bS
theorem EA(F:FH P w K mg base "_law_put" tI)(NZ:mg "int"=none)(NJ:mg "range"=none)(A':mg "tuple"=none)(J':di P w K mg base "_law_copied" 10 1 g7)(K':Df P w K mg base "_law_word" 1 3 iu):di P w K mg base "_law_put" 11 4 lF:=by
 have sc:=Js;refine om F sc (λ_ M' A outer s H E hr=>?_)
 exact((ai (oH 4 sc.nd (fg J' hr (ae (ab 0) au) (by decide))) (ai (xv 5 4 sc.nd (gd (gd (gd (eM 4) aw) (ab 1)) aw)) (ai (bg (ao cB cA (ab 2) af) (aU 6 sc.nd)) (ai (qi 7 sc.nd (CC au)) (ai (lZ (f:=ma) (qF NJ af) (aU 8 sc.nd) (by delta ma;exact(aY (AU 7 (aB (dR (ae (bc K' hr (ae (ab 0) (ae (ab 1) (ae (ao bI bN (ao L2.cI cJ (ab 6) af) (ab 8)) au))) (by decide)) (ae (ab 3) au))) (iq L2.mf mL NZ kq (gZ (bL hr.units) bJ (ab 8) (ao L2.bF bH (ab 2) af)))))))) (ai (bf (E9 4 (br (bL hr.units) bJ bX (aB (aB (ab 5) (ab 6)) af) aw)) (lG 7 (ai (gI 4 hr.units (lj 4 5) (ab 6) (bu (ae aw (ae (iq L2.mG pK A' gT (ab 7)) au)))) bQ)) (lG 7 (ai (gI 4 hr.units (gd (eM 4) aw) (pO 4 (aB (aB (ab 5) (ab 6)) af)) (iq L2.mG pK A' gT (ab 7))) bQ))) (ai (A7 4) bQ)))))))).out
noncomputable abbrev vK:Stmt:=top 54
theorem HH:L2.bD ["_law_state_here","_law_task_here","_law_row","_law_regs","_law_kind","_law_word_here","_law_one","_law_other"] ["_law_state_here","_law_task_here","_law_row"] (L2.aX vK):=bS
theorem HK(F:FH P w K mg base "_law_reckon" vK)(NZ:mg "int"=none)(K':Df P w K mg base "_law_word" 1 3 iu):Df P w K mg base "_law_reckon" 2 3 ni:=by
 have sc:=HH;refine dF F sc (λ_ M' A outer s H E hr=>?_)
 exact((ai (bg (aB (aB (aB (ab 0) aw) (ab 1)) aw) (aU 3 sc.nd)) (ai (bg (aB (ab 2) af) (aU 4 sc.nd)) (ai (bf (br (bL hr.units) bJ bX (ab 4) aw) (aY (aT (aB (ab 2) af))) bt) (ai (bf (br (bL hr.units) bJ bX (ab 4) aw) (aY (aT (ao bI bN (ao L2.cI cJ (aB (ab 2) af) af) (ao L2.bF bH (aB (ab 3) (aB (ab 2) af)) af)))) bt) (ai (bf (br (bL hr.units) bJ bX (ab 4) aw) (aY (aT (aB (ab 3) (aB (ab 2) af)))) bt) (ai (bf (br (bL hr.units) bJ bX (ab 4) aw) (ai (bg (bc K' hr (ae (ab 0) (ae (ab 1) (ae (ao L2.bF bH (ao bI bN (aB (ab 3) (aB (ab 2) af)) (aB (ab 2) af)) af) au))) (by decide)) (aU 5 sc.nd)) (ai (aT (iC (gD (ab 5)) aw (ab 5))) bQ)) bt) (ai (bg (aB (ab 3) (aB (ab 2) af)) (aU 6 sc.nd)) (ai (bg (aB (ab 3) (aB (ab 2) af)) (aU 7 sc.nd)) (ai (bf (br (ic hr.units) ie iB (ab 4) (bu (ae aw (ae aw au)))) (ai (bf (br (bL hr.units) bJ bX (ab 7) af) (aY (aT aw)) bt) (ai (aT (aB (dR (ae (ao cB cA (ab 6) (ab 7)) (ae (ao L2.bF bH (ab 6) (ab 7)) au))) (iq L2.mf mL NZ kq (gZ (bL hr.units) bJ (ab 4) aw)))) bQ)) bt) (ai (bf (br (ic hr.units) ie iB (ab 4) (bu (ae aw (ae aw au)))) (aY (aT (aB (dR (ae (iq L2.mf mL NZ kq (gZ L2.nB oM (ab 6) (ab 7))) (ae (iq L2.mf mL NZ kq (gZ (bL hr.units) bJ (ab 6) (ab 7))) au))) (iq L2.mf mL NZ kq (gZ (bL hr.units) bJ (ab 4) aw))))) bt) (ai (aT (ao L2.bF bH (aB (dR (ae (ao bI bN (ab 6) (ab 7)) (ae (ao L2.sW sF (ab 6) (ab 7)) (ae (ao L2.cI cJ (ab 6) (ab 7)) au)))) (xB (dR (ae aw (ae aw (ae aw au)))) (ab 4) (jF D0 (by rfl) (by rfl)))) af)) bQ)))))))))))).out
noncomputable abbrev xV:Stmt:=top 55
theorem Kj:L2.bD ["_law_state_here","_law_task_here","_law_row","_law_due","_law_one","_law_regs","_law_behind","_law_address","_law_word_here"] ["_law_state_here","_law_task_here","_law_row"] (L2.aX xV):=bS
theorem DU(F:FH P w K mg base "_law_done" xV)(NZ:mg "int"=none)(i':mg "isinstance"=none)(OZ:mg "str"=none)(J':di P w K mg base "_law_copied" 10 1 g7)(K':Df P w K mg base "_law_word" 1 3 iu)(ON:di P w K mg base "_law_put" 11 4 lF)(Og:Df P w K mg base "_law_reckon" 2 3 ni):Df P w K mg base "_law_done" 12 3 nA:=by
 have sc:=Kj;refine dF F sc (λ_ M' A outer s H E hr=>?_)
 exact((ai (oH 3 sc.nd (fg J' hr (ae (ab 0) au) (by decide))) (ai (xv 4 3 sc.nd (gd (gd (eM 3) aw) (ab 1))) (ai (xv 5 3 sc.nd (gd (lj 3 4) aw)) (ai (bg (pO 3 (ao L2.bF bH (ao bI bN (aB (ab 4) aw) af) af)) (aU 6 sc.nd)) (ai (bf (br (bL hr.units) bJ bX (aB (ab 2) af) aw) (ai (sP 3 hr.units (lj 3 4) aw (ab 6)) (ai (oJ 3 (bu (ae (ab 3) (ae (bu (ae aw (ae (aB (ab 5) af) (ae (aB (ab 5) af) (ae (aB (ab 5) af) (ae (aB (ab 5) af) au)))))) au)))) bQ)) bt) (ai (bf (br (bL hr.units) bJ bX (aB (ab 2) af) aw) (aY (bg (aB (ab 2) af) (aU 6 sc.nd))) (aY (bf (br (bL hr.units) bJ bX (aB (ab 2) af) aw) (aY (bg (pO 3 (aB (dR (ae (ab 6) (ae (aB (ab 2) af) au))) (iq L2.mf mL NZ kq (gZ (oh hr.units) o9 (aB (ab 5) (aB (ab 2) af)) af)))) (aU 6 sc.nd))) (aY (bf (br (bL hr.units) bJ bX (aB (ab 2) af) aw) (ai (bg (pO 3 (ao L2.bF bH (ao bI bN (aB (ab 5) (aB (ab 2) af)) (aB (ab 2) af)) af)) (aU 7 sc.nd)) (ai (bf (gD (bc K' hr (ae (ab 0) (ae (ab 1) (ae (ab 7) au))) (by decide))) (aY (oJ 3 (bu (ae (ab 3) (ae (bu (ae aw (ae aw au))) au))))) bt) (ai (MN 3 sc.nd (fg ON hr (ae (ab 0) (ae (ab 1) (ae (ab 7) (ae (pO 3 (aB (ab 5) (aB (ab 2) af))) au)))) (by decide))) bQ))) (ai (bg (bc Og hr (ae (ab 0) (ae (ab 1) (ae (ab 2) au))) (by decide)) (aU 8 sc.nd)) (ai (bf (fK (eS .str (ab 8) i' OZ zf)) (aY (oJ 3 (bu (ae (ab 3) (ae (bu (ae aw (ae (ab 8) au))) au))))) bt) (ai (A5 3 (lj 3 5) (ab 8) (aB (ab 2) af) (by delta mn;intro _;rfl)) bQ)))))))) (ai (gI 3 hr.units (gd (gd (eM 3) aw) (ab 1)) aw (ab 6)) (ai (oJ 3 (bu (ae (ab 3) (ae (bu (ae aw au)) au)))) bQ))))))))).out
noncomputable abbrev lV:Stmt:=top 46
theorem Aa:L2.bD ["_law_found","_law_due"] ["_law_found","_law_due"] (L2.aX lV):=bS
theorem GF(F:FH P w K mg base "_law_same" lV)(Oo:mg "all"=none)(N9:mg "bool"=none)(NL:mg "dict"=none)(i':mg "isinstance"=none)(NG:mg "len"=none)(NM:mg "list"=none)(A':mg "tuple"=none)(Oy:mg "zip"=none)(OX:Df P w K mg base "_law_same" (1+j) 2 m):Df P w K mg base "_law_same" (1+(j+1)) 2 (wm m):=by
 have sc:=Aa;refine dF (k:=1+j) F sc (λ_ M' A outer s H E hr=>?_)
 exact((ai (bf (fK (eS .dict (ab 1) i' NL ng)) (ai (bf (jC (j7 (jB (fK (eS .dict (ab 0) i' NL ng))) (l6 (br (oh hr.units) o9 qV (fN tE qz NG gM (ab 0)) (fN tE qz NG gM (ab 1)))))) (aY (aT lC)) bt) (ai (aT (fN (wN rfl) uy Oo vI (rX (qx ["_law_key"] ["_law_found","_law_due"] [0,1] (ky (L2.aX lV) ["_law_found","_law_due"] (by rfl) (by rfl) (by decide+kernel)) (Bb (ab 1)) (λcl C s H fp=>by exact(aU 0 (show List.Nodup (["_law_key","_law_found","_law_due"]:List Str)from by decide+kernel))) (λcl C s H fp=>by exact kR) (λcl C s H fp=>by exact(lU (gZ (ic hr.units) ie (ab 0) (ab 1)) (l7 (bc OX hr (ae (aB (ab 1) (ab 0)) (ae (aB (ab 2) (ab 0)) au)) (Gc _))))))))) bQ)) bt) (ai (bf (fK (M3 (ab 1) i' NM A')) (ai (bf (jC (j7 (br (oh hr.units) o9 qV (eS .list (ab 0) i' NM oC) (eS .list (ab 1) i' NM oC)) (l6 (br (oh hr.units) o9 qV (eS .tuple (ab 0) i' A' gT) (eS .tuple (ab 1) i' A' gT))))) (aY (aT lC)) bt) (ai (aT (lU (gZ (bL hr.units) bJ (fN tE qz NG gM (ab 0)) (fN tE qz NG gM (ab 1))) (l7 (fN (wN rfl) uy Oo vI (rX (qx ["_law_one","_law_other"] [] [] (ky (L2.aX lV) ["_law_found","_law_due"] (by rfl) (by rfl) (by decide+kernel)) (Bc Oy (ab 0) (ab 1)) (λcl C s H fp=>by exact(xP (mw 0 (aU 0 (show List.Nodup (["_law_one","_law_other"]:List Str)from by decide+kernel)) (mw 1 (aU 1 (show List.Nodup (["_law_one","_law_other"]:List Str)from by decide+kernel)) u9)) qa)) (λcl C s H fp=>by exact kR) (λcl C s H fp=>by exact(bc OX hr (ae (ab 0) (ae (ab 1) au)) (Gc _))))))))) bQ)) bt) (ai (aT (lU (gZ (bL hr.units) bJ (ab 0) (ab 1)) (l7 (gZ (bL hr.units) bJ (eS .bool (ab 0) i' N9 we) (eS .bool (ab 1) i' N9 we))))) bQ)))).out
theorem JN(F:FH P w K mg base "_law_same" lV)(Oo:mg "all"=none)(N9:mg "bool"=none)(NL:mg "dict"=none)(i':mg "isinstance"=none)(NG:mg "len"=none)(NM:mg "list"=none)(A':mg "tuple"=none)(Oy:mg "zip"=none):Df P w K mg base "_law_same" 10 2 oz:=by
 exact Df.m5 (k:=1) (b:=wm) (dF (body:=λ_=>.bad) (k:=0) F Aa (λ_ M' A outer s H E hr=>CF)) (λj m h=>GF F Oo N9 NL i' NG NM A' Oy h) 9
noncomputable abbrev lH:Stmt:=top 59
theorem Ju:L2.bD ["_law_script","_law_k","_law_state_here","_law_task_here","_law_word_here","_law_due","_law_handed","_law_found"] ["_law_script"] (L2.aX lH):=bS
theorem LO(Fu:L2.gY K "law" "law" lH f fd)(hm:mg "law"=some (.ref f))(i':mg "isinstance"=none)(NG:mg "len"=none)(PU:mg "min"=none)(NJ:mg "range"=none)(A':mg "tuple"=none)(Oj:Df P w K mg base "_law_state" 3 2 mU)(K':Df P w K mg base "_law_word" 1 3 iu)(J':di P w K mg base "_law_copied" 10 1 g7)(Of:Df P w K mg base "_law_read" 3 1 lu)(OD:Df P w K mg base "_law_done" 12 3 nA)(Ol:Df P w K mg base "plain_row" 7 2 p5)(Oe:Df P w K mg base "_law_same" 10 2 oz):L2.fE P w K mg base L2.dP 13 f fd ["_law_script"] (hV ⟨K,P,w⟩ nW 1):=by
 have sc:=Ju;refine zY (k:=12) Fu sc (λM' A outer s H E hr=>?_);exact((ai (lZ (f:=mI) (Dj NJ af (E1 (L2.Hi rfl) Lm PU MP (fN ju i8 NG gM (ab 0)) af)) (aU 1 sc.nd) (by delta mI;exact(ai (bg (bc Oj hr (ae (aB (ab 0) (ab 1)) (ae (ab 1) au)) (by decide)) (xP (mw 2 (aU 2 sc.nd) (mw 3 (aU 3 sc.nd) u9)) qa)) (ai (bg (bc K' hr (ae (ab 2) (ae (ab 3) (ae (aB (aB (aB (ab 2) aw) (ab 3)) aw) au))) (by decide)) (aU 4 sc.nd)) (ai (bf (gD (ab 4)) (aY (bg (bu (ae (j3 (fg J' hr (ae (ab 2) au) (by decide))) (ae (bu (ae aw (ae aw au))) au))) (aU 5 sc.nd))) (aY (bf (gD (bc Of hr (ae (ab 4) au) (by decide))) (aY (bg (bu (ae (j3 (fg J' hr (ae (ab 2) au) (by decide))) (ae (bu (ae aw (ae aw au))) au))) (aU 5 sc.nd))) (aY (bg (bc OD hr (ae (ab 2) (ae (ab 3) (ae (bc Of hr (ae (ab 4) au) (by decide)) au))) (by decide)) (aU 5 sc.nd)))))) (ai (bg (j3 (fg J' hr (ae (ab 2) au) (by decide))) (aU 6 sc.nd)) (ai (bg (bc Ol hr (ae (ab 6) (ae (ab 3) au)) (by decide)) (aU 7 sc.nd)) (ai (bf (jC (j7 (jB (fK (eS .tuple (ab 7) i' A' gT))) (j7 (jB (fK (bc Oe hr (ae (ab 7) (ae (ab 5) au)) (by decide)))) (l6 (jB (fK (bc Oe hr (ae (ab 6) (ae (ab 2) au)) (by decide)))))))) (aY (aT lC)) bt) bQ)))))))) (ai (aT lC) bQ))).out
end
theorem all_mk{w:World}{K:PySem.W.Frag}{h:Heap}{mg:Str->acR}{fa:Addr}{cd Pt:Addr}(X:K.In h)(G:h.Ns mainGlobals mg)(Ym:mg "law"=some (.ref fa))
  (F0:FK K mg "_law_mixed" uK)
  (F1:FK K mg "_law_task" xO)
  (F2:FK K mg "_law_kinds" wc)
  (F3:FK K mg "_law_coded" v5)
  (F4:FK K mg "_law_drawn_row" ua)
  (F5:FK K mg "_law_page" uR)
  (F6:FK K mg "_law_reg" xY)
  (F7:FK K mg "_law_state" vd)
  (F8:FK K mg "_law_word" ux)
  (F9:FK K mg "_law_copied" kS)
  (F10:FK K mg "page_entry" uV)
  (F11:FK K mg "entry_words" xw)
  (F12:FK K mg "word_in" va)
  (F14:FK K mg "is_whole" uB)
  (F15:FK K mg "is_word" tK)
  (F16:FK K mg "shape_of" uQ)
  (F17:FK K mg "bound_of" yl)
  (F18:FK K mg "is_part" uz)
  (F19:FK K mg "is_row" tw)
  (F20:FK K mg "part_of" vN)
  (F21:FK K mg "coded" tS)
  (F22:FK K mg "part_in" ue)
  (F23:FK K mg "decoded" p6)
  (F24:FK K mg "cut_or_rest" yh)
  (F25:FK K mg "rounded" wY)
  (F26:FK K mg "reckoned_of_two" wk)
  (F27:FK K mg "reckoned" wu)
  (F28:FK K mg "fault_deed" uw)
  (F29:FK K mg "with_reg" wb)
  (F30:FK K mg "memory_deed" xQ)
  (F31:FK K mg "leap_deed" vn)
  (F32:FK K mg "row_deed" ui)
  (F33:FK K mg "is_fault" vP)
  (F34:FK K mg "put_at" xR)
  (F35:FK K mg "changed" uL)
  (F36:FK K mg "with_lent" vS)
  (F37:FK K mg "with_task" vq)
  (F38:FK K mg "with_page" tQ)
  (F39:FK K mg "put_word_in" vi)
  (F40:jU K mg "plain_row" kU cd Pt)
  (F41:FK K mg "_law_read" xC)
  (F42:FK K mg "_law_put" tI)
  (F43:FK K mg "_law_reckon" vK)
  (F44:FK K mg "_law_done" xV)
  (F45:FK K mg "_law_same" lV)
  (F46:FK K mg "law" lH)
  (z_all:PySem.W.nsIn K mainGlobals "all"=some none)
  (z_bool:PySem.W.nsIn K mainGlobals "bool"=some none)
  (z_dict:PySem.W.nsIn K mainGlobals "dict"=some none)
  (z_int:PySem.W.nsIn K mainGlobals "int"=some none)
  (z_isinstance:PySem.W.nsIn K mainGlobals "isinstance"=some none)
  (z_len:PySem.W.nsIn K mainGlobals "len"=some none)
  (z_list:PySem.W.nsIn K mainGlobals "list"=some none)
  (z_min:PySem.W.nsIn K mainGlobals "min"=some none)
  (z_range:PySem.W.nsIn K mainGlobals "range"=some none)
  (z_str:PySem.W.nsIn K mainGlobals "str"=some none)
  (z_tuple:PySem.W.nsIn K mainGlobals "tuple"=some none)
  (z_zip:PySem.W.nsIn K mainGlobals "zip"=some none)
  (gl_PAGE_WORDS:iJ PySem.Challenge.pw_underfloor_k14_one_row_done w K mg "PAGE_WORDS" k8)
  (gl_SHAPES:iJ PySem.Challenge.pw_underfloor_k14_one_row_done w K mg "SHAPES" rP)
  (gl_NAMES:nS PySem.Challenge.pw_underfloor_k14_one_row_done w K mg "NAMES" g9):
  ∃fd:FuncData,(∀(s:Shared) (v:Value),BindsTo s fd ⟨[v],[]⟩ [("_law_script",v)])/\∀base:Heap,K.In base->base.Ns mainGlobals mg->(∀q∈[(cd,Pt)],L2.ff base q.2/\base.BuiltinsAt mg q.2)->L2.fE PySem.Challenge.pw_underfloor_k14_one_row_done w K mg base L2.dP 13 fa fd ["_law_script"] (hV ⟨K,PySem.Challenge.pw_underfloor_k14_one_row_done,w⟩ nW 1):=by
 obtain⟨f,fd,Fu,hm⟩:=F46;cases Ym.symm.trans hm;obtain⟨oc,od,kV,doc,pm,an,M',ct,Pk,rfl,lk,Oh⟩:=Fu.ex;have Oo:=S3 X G z_all;have N9:=S3 X G z_bool;have NL:=S3 X G z_dict;have NZ:=S3 X G z_int;have i':=S3 X G z_isinstance;have NG:=S3 X G z_len;have NM:=S3 X G z_list;have PU:=S3 X G z_min;have NJ:=S3 X G z_range;have OZ:=S3 X G z_str;have A':=S3 X G z_tuple;have Oy:=S3 X G z_zip;refine⟨PySem.W.fnOf "law" "law" (L2.jr lH) (L2.dE lH) (L2.aX lH) .none kV doc pm an M' ct,λs v=>.of_eq rfl,λbase kb _ tb=>?_⟩;have U:=@FK.up PySem.Challenge.pw_underfloor_k14_one_row_done w K mg base;have NU:=LI (U F0) NJ;have Od:=Lp (U F1);have NB:=Jc (U F2);have NX:=Gd (U F3) NG NB;have N6:=Gy (U F4) NB;have N7:=LB (U F5) NJ A';have OM:=Lb (U F6);have Oj:=Dt (U F7) NM NJ A' NU Od N6 NX N7 OM;have K':=DH (U F8);have J':=Hr (U F9) NL i' NM A';have NV:=HF (U F10);have NT:=DS (U F11);have OK:=LN (U F12) gl_PAGE_WORDS NV NT;have NI:=ES (P:=PySem.Challenge.pw_underfloor_k14_one_row_done) (w:=w) (base:=base) F40 OK;have N3:=FQ (U F14) N9 NZ i';have OO:=DV (U F15) N3;have NO:=FI (U F16) gl_SHAPES;have OC:=Hn (U F17);have OL:=Kp (U F18) N3 OC;have O1:=E3 (U F19) Oo i' NG OZ A' Oy NO OL;have N5:=EJ (U F20) NO;have O':=IA (U F21) gl_NAMES O1 N5;have OJ:=Ec (U F22);have OP:=Kw (U F23) NG A' gl_NAMES OO NO OJ O'
 have Ob:=LX (U F24);have D':=Mb (U F25);have N1:=D3 (U F26) D' Ob;have OA:=Fy (U F27) D' N1;have NH:=K4 (U F28);have N2:=MM (U F29) NM;have Oa:=ML (U F30) D' NI NH N2;have Om:=JB (U F31) D';have Ow:=Fm (U F32) NI NH OP Oa Om OA N2 D';have Oz:=IK (U F33);have O3:=Fc (U F34);have NK:=EH (U F35) NL;have Oi:=FE (U F36) NK;have NY:=Mh (U F37) NL NK;have Oq:=J0 (U F38) NK NY;have N':=Mw (U F39) gl_PAGE_WORDS NV NT O3 Oq Oi;have Ol:=Fj (P:=PySem.Challenge.pw_underfloor_k14_one_row_done) (w:=w) F40 (tb (cd,Pt) (.head _)) kb Ow Oz N' NY;have Of:=Mi (U F41) NB NX;have ON:=EA (U F42) NZ NJ A' J' K';have Og:=HK (U F43) NZ K';have OD:=DU (U F44) NZ i' OZ J' K' ON Og;have Oe:=JN (U F45) Oo N9 NL i' NG NM A' Oy;exact LO Fu hm i' NG PU NJ A' Oj K' J' Of OD Ol Oe
end ft
namespace ft
open PySem G C
theorem J4:NQ q2 where
 nk:=by show [(5:Int)].Nodup;decide
 pl:=by decide
 rl:=by decide
 ps:=λp hp=>by cases PP.mp hp;exact True.intro
 ds:=λd hd=>by
  simp only[q2,Da,On,XU]at hd;rcases hd with rfl|rfl|rfl|rfl|rfl|rfl|rfl<;>exact⟨by kernel_rfl,by decide⟩
theorem G7(h:BV s t):NS s/\∃q,OS s t q:=by
 obtain⟨t',rg,row,hh,pg,w,cl,rfl,G',lr,Wr,lw,Ww,nk,pl,hp⟩:=h
 have hq:NQ (q1 rg row hh pg):=by
  refine⟨nk,?_,?_,λp hx=>?_,λd hd=>?_⟩
  ·show pg.length<=900;omega
  ·show rg.length<=900;omega
  ·rcases hp p.1 p.2 (lK nk hx)with⟨v,e,l,_⟩|e
   ·rw[e];show v.length<=900;omega
   ·rw[e];exact True.intro
  ·simp only[q1,Da,On,XU]at hd
   rcases hd with rfl|rfl|rfl|rfl|rfl|rfl|rfl<;>exact⟨by kernel_rfl,by first|decide|exact Xm _⟩
 have hs:NS (s1 t t' (q1 rg row hh pg) q2 w cl):=by
  refine⟨by show [t,t'].Nodup;simp;exact G',by show 2<=900;decide,by show [(3:Int)].Nodup;decide,by show 1<=900;decide,λp hx=>?_,λp hx=>?_,λd hd=>?_⟩
  ·rcases Da.mp hx with rfl|hx
   ·exact hq
   ·cases PP.mp hx;exact J4
  ·cases PP.mp hx;show w.length<=900;omega
  ·simp only[s1,Da,On,XU]at hd
   rcases hd with rfl|rfl|rfl<;>exact⟨by kernel_rfl,by first|decide|exact Xm _⟩
 refine⟨hs,q1 rg row hh pg,by show 2<900;decide,by show 1<900;decide,by show pg.length<900;omega,AC rfl,Ag _ hs.nc.1,λp x hx=>?_,lr,Wr⟩
 rcases hp p x hx with⟨v,rfl,l,Wv⟩|rfl
 ·exact⟨v,rfl,l,Wv⟩
 ·exact⟨w,rfl,lw,Ww⟩
theorem turn{ns:Xj}{k:Int}(h0:1<=k)(h1:k<ns.length)(h2:k<41){s2 s3 s4 s5 s6 s7:Slot}:∃t2 t3 t4 t5 t6 t7,mI [.sh (.lst (ns.map .int)),.sh (.int k),s2,s3,s4,s5,s6,s7]=.ok (.next [.sh (.lst (ns.map .int)),.sh (.int k),t2,t3,t4,t5,t6,t7]):=by
 obtain⟨c,_,hc⟩:=jq (xs:=ns) (i:=k) (by omega) h1
 obtain⟨s,t,hs,es⟩:=Ek c k h0 (by omega)
 obtain⟨hN,q,hO⟩:=G7 hs;have ew:=rC (ad:=q.row) hO.lk λx hx=>hO.pg _ x hx;refine⟨.sh s.d,.sh (.int t),.sh (oI (wd s.L q.pg q.row)),.sh (gP s t q (dh (wd s.L q.pg) q.rg q.row)),.sh s.d,.sh (gP s t q (dh (wd s.L q.pg) q.rg q.row)),?_⟩;rw[mI]
 rw[ah (ρ':=[.sh (.lst (ns.map .int)),.sh (.int k),.sh s.d,.sh (.int t),s4,s5,s6,s7]) (by
  show(aI mU [e2 ag (aa 0) (aa 1),aa 1] _).bind _=_;rw[dY (aH rfl rfl (jc hc)) rfl es];rfl)]
 rw[ah (bh (dC rfl rfl (aH (tD rfl rfl hO.lk) rfl wg) ew))];show az _ [.sh (.lst (ns.map .int)),.sh (.int k),.sh s.d,.sh (.int t),.sh (oI (wd s.L q.pg q.row)),s5,s6,s7]=_;have ec:∀ {s4 s5 s6 s7:Slot},eX (cF g7 [aa 2]) [.sh (.lst (ns.map .int)),.sh (.int k),.sh s.d,.sh (.int t),s4,s5,s6,s7]=.ok s.d:=λ{_ _ _ _}=>by rw[zZ (oD rfl (xi hN.nc)),gb]
 rw[ah (ρ':=[.sh (.lst (ns.map .int)),.sh (.int k),.sh s.d,.sh (.int t),.sh (oI (wd s.L q.pg q.row)),.sh (gP s t q (dh (wd s.L q.pg) q.rg q.row)),s6,s7]) (by
  unfold dh;cases hv:wd s.L q.pg q.row with
  |none=>exact Os (bB rfl) (bh (iZ ec rfl))
  | some w=>
   have hw:=CW hO hv;rw[gf rfl];show _=R.ok (Fl.next [_,_,_,_,_,.sh (gP s t q (match dec w with|none=>cP "code" q.rg q.row|some r=>dX (wd s.L q.pg) q.rg q.row r)),s6,s7])
   have er:=GB hw.1;cases hd:dec w with
   | none=>
    rw[hd]at er;exact Os (bB (bz (fz (fm rfl er) rfl))) (bh (iZ ec rfl))
   | some r=>
    rw[hd]at er;have er:lu [.int w]=.ok r.d:=er;rw[gf (r.lQ (fm rfl er))];exact bh (dC rfl rfl (fm rfl er) (JC hO hN.nc hN.nk (CS hd))))]
 rw[ah (bh ec),ah (bh (dY rfl rfl (Ig hO)))];have SY:=same_self (KN hN hO);have OH:=same_self hN.nc;show az _ [.sh (.lst (ns.map .int)),.sh (.int k),.sh s.d,.sh (.int t),.sh (oI (wd s.L q.pg q.row)),.sh (gP s t q (dh (wd s.L q.pg) q.rg q.row)),.sh s.d,.sh (gP s t q (dh (wd s.L q.pg) q.rg q.row))]=_;have hT:∃l,gP s t q (dh (wd s.L q.pg) q.rg q.row)=.tup l:=⟨_,rfl⟩;generalize gP s t q (dh (wd s.L q.pg) q.rg q.row)=dd at SY hT;obtain⟨l,rfl⟩:=hT;exact ah (aR (qX (b:=false) (c:=false) (oT (b:=true) rfl) (qX (b:=false) (c:=false) (oT (b:=true) (bz (dY rfl rfl SY))) (oT (b:=true) (bz (dY rfl rfl OH))))))
theorem Jp(ns:Xj)(h:ns.length<=63):nW [.lst (ns.map .int)]=.ok (.bl true):=by
 obtain⟨M,hM⟩:∃M:Int,(if 41<(ns.length:Int)then 41 else(ns.length:Int))=M:=⟨_,rfl⟩
 have Zn:M<=41:=by rw[<-hM];split<;>omega
 have Zj:M<=ns.length:=by rw[<-hM];split<;>omega
 have ZD:0<=M:=by rw[<-hM];split<;>omega
 obtain⟨ρ',eL,x1,x2,x3,x4,x5,x6,x7,rfl⟩:=sD (tg:=aG 1) (body:=mI) (λρ=>∃s1 s2 s3 s4 s5 s6 s7,ρ=[.sh (.lst (ns.map .int)),s1,s2,s3,s4,s5,s6,s7]) (ds:=dG 1 M) (by
  rintro d hd ρ ⟨s1,s2,s3,s4,s5,s6,s7,rfl⟩;obtain⟨k,rfl,Ub,Zp⟩:=AY hd;obtain⟨t2,t3,t4,t5,t6,t7,e⟩:=turn (ns:=ns) (s2:=s2) (s3:=s3) (s4:=s4) (s5:=s5) (s6:=s6) (s7:=s7) Ub (by omega) (by omega)
  exact⟨_,rfl,_,e,_,_,_,_,_,_,_,rfl⟩) (ρ:=[.sh (.lst (ns.map .int)),.un,.un,.un,.un,.un,.un,.un]) ⟨_,_,_,_,_,_,_,rfl⟩
 have z:(lP (eC (.int 1)) (e2 qW (e1 eQ (aa 0)) (eC (.int 41)))) [.sh (.lst (ns.map .int)),.un,.un,.un,.un,.un,.un,.un]=.ok (dG 1 M):=
  EL rfl (by simp;exact hM) (by decide) (CN (by omega) (by omega))
 rw[nW];refine cf ?_;show az _ [.sh (.lst (ns.map .int)),.un,.un,.un,.un,.un,.un,.un]=_;rw[ah (kg z eL)];exact aZ (bE rfl)
end ft
end PL
namespace PySem.W.Fast
def tw13959812537107012977:=0
def tw10837223547872602457:=0
def tw10312436744696997194:=0
def tw8433284253964435668:=0
def tw12896555963035453913:=0
def tw10804925225664543012:=0
def tw7447088374343931518:=0
def tw9609945074203335021:=0
def tw5644340955212663155:=0
def tw13373894418241259164:=0
def tw6736036156543758285:=0
def tw17053733721286271722:=0
def tw13189706061590507878:=0
def tw17933158127968021358:=0
def tw7733969642548984248:=0
def tw14881962522247696341:=0
def tw14433788262401192522:=0
def tw8551058103614259523:=0
def tw16439947349910085500:=0
def tw11242864179479178708:=0
def tw2177372280537417665:=0
def tw9963446843226099147:=0
def tw1821918139091348432:=0
def tw15029177436935978927:=0
def tw6194464994178888837:=0
def tw139252238813694439:=0
def tw15894983439393204851:=0
def tw17252468935974206411:=0
def tw9678792405780398471:=0
def tw6281945368810492645:=0
def tw10887776721677235343:=0
def tw385996014937622544:=0
def tw12830855940746480006:=0
def tw9409361586005407900:=0
def tw13771820438203499253:=0
def tw8189237325068703693:=0
def tw3505893644040591145:=0
def tw7861582887078640946:=0
def tw4976575578013988378:=0
def tw15340207290663438005:=0
def tw17560101673320256463:=0
def tw1087257565359643748:=0
def tw11542033861171333359:=0
def tw11431742163291701065:=0
def tw352099032869643634:=0
def tw12888643052430853780:=0
def tw5421109613303795223:=0
def tw17079218348691696188:=0
def tw8407075919000515442:=0
def tw14735358314475970620:=0
def tw11339084270859187257:=0
def tw6073272327672530740:=0
def tw11053246906452322584:=0
def tw8183204881217487020:=0
def tw363568223395991273:=0
def tw12570218509420602866:=0
def tw9921745603511287660:=0
def tw6185325835395989704:=0
def tw7995382707987498385:=0
def tw14386704021807576050:=0
def tw1949642600190805118:=0
def tw16143682480334220139:=0
def tw17231696649628713519:=0
def tw2581605425103089930:=0
def tw13703060551265579197:=0
def tw1124192703973477080:=0
def tw15593660976550081174:=0
def tw1034131594659246637:=0
def tw2582860611995670852:=0
def tw5246154176117344985:=0
def tw17605890751014293646:=0
def tw662367675594847279:=0
def tw2643403117413964069:=0
def tw14857711062715014800:=0
def tw7118140189956928908:=0
def tw17132292729429112604:=0
def tw15266578128133551408:=0
def tw7130196308185309794:=0
def tw15350453812455436795:=0
def tw6615224892019611195:=0
def tw10124867338502769092:=0
def tw6242745320738233761:=0
def tw3931843568406213789:=0
def tw5102289706561037877:=0
def tw16175792554692987543:=0
def tw2549291982974905004:=0
def tw14500870745218370254:=0
def tw3557074152458775100:=0
def tw9076413619369094574:=0
def tw13926899111517675965:=0
def tw4390769261279518742:=0
def tw4379801746555587428:=0
def tw17545890736635468567:=0
def tw17052829664911548478:=0
def tw17872836218924520903:=0
def tw12363046680906412792:=0
def tw2479303180662728624:=0
def tw2617868704539156409:=0
def tw6043278606822663281:=0
def tw13092539917373529324:=0
def tw4209394052983548448:=0
def tw16512079980588886643:=0
def tw8208328103824128028:=0
def tw6856389572020096046:=0
def tw3199952559282427979:=0
def tw17938206094215771432:=0
def tw13858347546703329802:=0
def tw7138492793482038875:=0
def tw13111364744910870015:=0
def tw5017286902119312594:=0
def tw2724141449933158352:=0
def tw13487303717205632586:=0
def tw15042569399466729136:=0
def tw17650395945552352884:=0
def tw5370263249421545974:=0
def tw15567994374545055223:=0
def tw5231351206946110493:=0
def tw6567274834140056303:=0
def tw17626109959639564676:=0
def tw12937257714283281981:=0
def tw3387935701737213278:=0
def tw5078320654736103581:=0
def tw1896049464696151563:=0
def tw9720492091065028292:=0
def tw5360217127365852448:=0
def tw11345813554830885335:=0
def tw15949345730693986468:=0
def tw6487723057481276805:=0
def tw7348075786616430415:=0
def tw1317797876412557101:=0
def tw4460505119133457452:=0
def tw16029512074067623818:=0
def tw7120977069615406244:=0
def tw16294057123460518000:=0
def tw2484618812079734490:=0
def tw12072742799107175615:=0
def tw16884899116728572016:=0
def tw17670587948847832809:=0
def tw18030761042573582967:=0
def tw3282765703806984753:=0
def tw7968730376956988394:=0
def tw7358141341048745284:=0
def tw2713818426209463281:=0
def tw18101357760292926889:=0
def tw10825515488890306140:=0
def tw2829677698999600323:=0
def tw8089711029635285638:=0
def tw17766366042658119898:=0
def tw1358756594321246953:=0
def tw892272240396730663:=0
end PySem.W.Fast
open PySem PySem.W PyProof.Rows
set_option maxRecDepth 100000 in
set_option maxHeartbeats 0 in
theorem PySem.Challenge.cw_underfloor_k14_one_row_done_holds : PySem.Challenge.rw_underfloor_k14_one_row_done.Holds := by
  w_on; o_law; k_head; (case hw => w_witness2)
  k_fill
  refine PL.LW (ts := [(?cd, 242)]) (l := PySem.Challenge.rw_underfloor_k14_one_row_done) (k := 13) (x := "_law_script") (m := PL.ft.nW) rfl rfl ⟨rfl, by decide, by decide⟩ (fun w h Y => ⟨PySem.W.km_in_of Y, fun q hq => by cases List.mem_singleton.mp hq; exact PySem.W.km_tabs_of Y 242 (.head _)⟩) ?C ?L ?F PL.ft.Jp
  case F =>
    intro w mg fa h KX G hmg
    refine' PL.ft.all_mk KX G hmg ?F0 ?F1 ?F2 ?F3 ?F4 ?F5 ?F6 ?F7 ?F8 ?F9 ?F10 ?F11 ?F12 ?F14 ?F15 ?F16 ?F17 ?F18 ?F19 ?F20 ?F21 ?F22 ?F23 ?F24 ?F25 ?F26 ?F27 ?F28 ?F29 ?F30 ?F31 ?F32 ?F33 ?F34 ?F35 ?F36 ?F37 ?F38 ?F39 ?F40 ?F41 ?F42 ?F43 ?F44 ?F45 ?F46 ?z_all ?z_bool ?z_dict ?z_int ?z_isinstance ?z_len ?z_list ?z_min ?z_range ?z_str ?z_tuple ?z_zip ?gl_PAGE_WORDS ?gl_SHAPES ?gl_NAMES
    (case F40 => refine' PL.jU.mk KX G ?a1 ?a2 ?a3 ?a4 ?a5; (case a1 => k_is); (case a2 => k_is); (case a3 => k_is); (case a4 => k_is); (case a5 => first | kernel_rfl | rfl))
    (case z_all => k_is)
    (case z_bool => k_is)
    (case z_dict => k_is)
    (case z_int => k_is)
    (case z_isinstance => k_is)
    (case z_len => k_is)
    (case z_list => k_is)
    (case z_min => k_is)
    (case z_range => k_is)
    (case z_str => k_is)
    (case z_tuple => k_is)
    (case z_zip => k_is)
    (case gl_PAGE_WORDS => refine' PL.FG KX G ?x1_PAGE_WORDS ?x2_PAGE_WORDS; (case x1_PAGE_WORDS => k_is); (case x2_PAGE_WORDS => exact ⟨_, rfl⟩))
    (case gl_SHAPES => refine' PL.DK KX G ?x1_SHAPES ?x2_SHAPES ?x3_SHAPES ?x4_SHAPES ?x5_SHAPES ?x6_SHAPES; (case x1_SHAPES => k_is); (case x2_SHAPES => k_is); (case x3_SHAPES => exact ⟨_, _, _, _, _, rfl, rfl, rfl, rfl, ⟨_, rfl⟩, ⟨_, _, _, _, _, rfl, rfl, rfl, rfl, ⟨_, rfl⟩, ⟨_, _, _, _, _, rfl, rfl, rfl, rfl, ⟨_, rfl⟩, ⟨_, _, _, _, _, rfl, rfl, rfl, rfl, ⟨_, rfl⟩, ⟨_, _, _, _, _, rfl, rfl, rfl, rfl, ⟨_, rfl⟩, ⟨_, _, _, _, _, rfl, rfl, rfl, rfl, ⟨_, rfl⟩, ⟨_, _, _, _, _, rfl, rfl, rfl, rfl, ⟨_, rfl⟩, ⟨_, _, _, _, _, rfl, rfl, rfl, rfl, ⟨_, rfl⟩, ⟨_, _, _, _, _, rfl, rfl, rfl, rfl, ⟨_, rfl⟩, ⟨_, _, _, _, _, rfl, rfl, rfl, rfl, ⟨_, rfl⟩, ⟨_, _, _, _, _, rfl, rfl, rfl, rfl, ⟨_, rfl⟩, ⟨_, _, _, _, _, rfl, rfl, rfl, rfl, ⟨_, rfl⟩, ⟨_, _, _, _, _, rfl, rfl, rfl, rfl, ⟨_, rfl⟩, ⟨_, _, _, _, _, rfl, rfl, rfl, rfl, ⟨_, rfl⟩, ⟨_, _, _, _, _, rfl, rfl, rfl, rfl, ⟨_, rfl⟩, ⟨rfl, rfl⟩⟩⟩⟩⟩⟩⟩⟩⟩⟩⟩⟩⟩⟩⟩⟩); (case x4_SHAPES => decide +kernel); (case x5_SHAPES => decide); (case x6_SHAPES => rfl))
    (case gl_NAMES => refine' PL.Dz KX G ?x1_NAMES ?x2_NAMES ?x3_NAMES ?x4_NAMES; (case x1_NAMES => k_is); (case x2_NAMES => k_is); (case x3_NAMES => exact ⟨_, _, rfl, ⟨_, rfl⟩, ⟨_, _, rfl, ⟨_, rfl⟩, ⟨_, _, rfl, ⟨_, rfl⟩, ⟨_, _, rfl, ⟨_, rfl⟩, ⟨_, _, rfl, ⟨_, rfl⟩, ⟨_, _, rfl, ⟨_, rfl⟩, ⟨_, _, rfl, ⟨_, rfl⟩, ⟨_, _, rfl, ⟨_, rfl⟩, ⟨_, _, rfl, ⟨_, rfl⟩, ⟨_, _, rfl, ⟨_, rfl⟩, ⟨_, _, rfl, ⟨_, rfl⟩, ⟨_, _, rfl, ⟨_, rfl⟩, ⟨_, _, rfl, ⟨_, rfl⟩, ⟨_, _, rfl, ⟨_, rfl⟩, ⟨_, _, rfl, ⟨_, rfl⟩, rfl⟩⟩⟩⟩⟩⟩⟩⟩⟩⟩⟩⟩⟩⟩⟩); (case x4_NAMES => decide))
    all_goals exact PL.FK.mk KX G (by k_is) (by k_is) (by k_is) (by k_is)
  case C => (intro w q hq; cases List.mem_singleton.mp hq; first | kernel_rfl | rfl)
  case L => (intro w q hq; cases List.mem_singleton.mp hq; first | kernel_rfl | k_is | rfl)

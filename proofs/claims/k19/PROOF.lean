import PyProof.Rows.All
import Wide.All
import OpenK.AllK
import Wide.FinOn
import Lean
import PyProof.EqAt
import PyProof.EqKinds
import PyProof.TupleCall
import KE.KIntText
import Wide.Seal
import PyProof.Rows.SortStr
import KE.KDictList
import PyProof.StrBlockH
import KE.KSortedL
import KE.KSorted
import PyProof.Rows.SortWalk
import PyProof.TupleKey
import PyProof.Rows.SetFrom
import KE.KItemsList
import PySem.Challenge.RW_underfloor_k19_parts_waits_and_ends
noncomputable section
set_option Elab.async false
set_option linter.all false
set_option maxRecDepth 100000
def bU:=@List.getElem?_set_ne
def cp:=@PySem.Heap.get?_push_of_some
def mB:=@PySem.wpAny_bind
def mO:=@List.getElem?_eq_some_iff
def rU:=@List.mem_cons_of_mem
def sa:=@Bool.and_eq_true
def u9:=@if_pos
def v3:=@List.mem_cons_self
def AC:=@List.mem_cons
def Da:=@if_neg
def Do:=@List.length_map
def DM:=@List.getElem?_map
def Fk:=@Nat.le_refl
def FB:=@List.mem_append_right
def FM:=@decide_eq_true_eq
def FS:=@PySem.Heap.get?_push_size
def Gc:=@List.size_toArray
def GE:=@PySem.Heap.lt_size
def GM:=@List.nodup_cons
def GT:=@decide_eq_true
def IR:=@Nat.le_of_ble_eq_true
def JK:=@List.length_append
def JO:=@PySem.wpAny_pure
def JU:=@decide_eq_false
def KB:=@List.mem_append_left
def KF:=@List.getElem?_eq_getElem
def KM:=@List.mem_append
def Mk:=@List.not_mem_nil
def MC:=@Nat.lt_of_lt_of_le
def MG:=@List.getElem?_set_self
def M0:=@List.nodup_append
def On:=@List.length_zip
def Os:=@Ne.symm
def Pi:=@Nat.ne_of_lt
def Pv:=@Option.some.inj
def PK:=@Nat.le_trans
def PP:=@List.lookup_cons
def P3:=@List.any_eq_true
def Re:=@List.map_cons
def Rf:=@Nat.zero_le
def SB:=@List.getElem?_replicate
def SC:=@List.mem_singleton
def SL:=@PySem.W.mg_none_of
def SZ:=@List.Sublist.refl
def S3:=@List.map_append
def S4:=@List.mem_filterMap
def S5:=@Bool.false_ne_true
def S6:=@List.mem_of_getElem?
def S7:=@PySem.F.plainAttrs_dict
def S8:=@PySem.Heap.size_push
def UF:=@PySem.wpAny_mono
def UV:=@List.all_cons
def VM:=@List.map_map
def VT:=@List.mem_map_of_mem
def VU:=@List.map_congr_left
def VW:=@List.append_nil
def VX:=@List.length_replicate
def VY:=@PySem.Calls.callWith_builtin
def VZ:=@or_false
def V0:=@List.getElem?_append
def V1:=@List.mem_filter
def V2:=@List.find?_cons
def V3:=@PySem.sizeLine_eq
def V4:=@PyProof.Rows.callWith_type1
def V5:=@List.mem_map
def V6:=@List.length_cons
def V7:=@List.zip_cons_cons
def V8:=@PySem.wpAny_field
def V9:=@List.getElem?_append_left
def Wa:=@List.sublist_append_right
def Wb:=@PySem.F.slot_tuple_iterator_next
def Wc:=@PySem.wpAny_seqItems
def Wd:=@List.forall_mem_cons
def We:=@Nat.lt_irrefl
def Wf:=@List.any_cons
def Wg:=@List.filterMap_cons
def Wh:=@PySem.wpAny_truthy_bool
def Wi:=@List.map_fst_zip
def Wj:=@List.zipWith_cons_cons
def Wk:=@Bool.eq_iff_iff
def Wl:=@Bool.or_eq_true
def Wm:=@PySem.W.kia_tup
def Wn:=@PySem.wpAny_Call_Name_kw
def Wo:=@PySem.wpAny_setField_rec
def Wp:=@List.getElem?_append_right
def Wq:=@List.nodup_nil
def Wr:=@Nat.ne_of_gt
def Ws:=@List.length_take
def Wu:=@Nat.le_of_eq
def Wv:=@PySem.mem_of_lookup
def Ww:=@Option.isSome_iff_exists
def Wx:=@PySem.W.mg_of
def Wy:=@PySem.F.slot_dict_values
def Wz:=@List.of_mem_zip
def WA:=@List.forIn_cons
def WB:=@Int.emod_nonneg
def WC:=@PySem.call_meetsIn
def WD:=@Nat.lt_of_le_of_lt
def WE:=@List.getElem?_cons_succ
def WG:=@List.map_nil
def WH:=@of_decide_eq_true
def WI:=@Iff.rfl
def WJ:=@Nat.zero_add
def WK:=@List.length_filter_le
def WL:=@PySem.wpAny_callSpecial?_slot
def WM:=@PySem.F.slot_zip_next
def WN:=@PySem.wpAny_Call_method0_late
def WO:=@List.map_snd_zip
def WQ:=@beq_self_eq_true
def WR:=@Bool.true_and
def WS:=@PySem.Heap.get?_update_other
def WT:=@beq_eq_false_iff_ne
def WU:=@Array.length_toList
def WV:=@List.Sublist.append
def WW:=@PySem.evalArgs_none
def WX:=@PySem.wpAny_call_entry
def WY:=@PySem.wpAny_holding
def WZ:=@beq_iff_eq
def W0:=@List.set_cons_zero
def W1:=@List.set_cons_succ
def W2:=@PySem.wpAny_passesOwn
def W3:=@PySem.wpAny_loadPart'
def W4:=@List.getElem?_eq_none_iff
def W5:=@not_false_eq_true
def W6:=@PySem.Calls.spliced_cons
def W7:=@List.filter_cons
def W8:=@List.cons_append
def W9:=@List.getElem?_set_self'
def Xa:=@List.getElem_zip
def Xb:=@List.filter_cons_of_pos
def Xc:=@if_true
def Xd:=@Option.map_eq_some_iff
def Xe:=@PySem.Calls.spliced_nil
def Xf:=@PySem.wpAny_pyIter_list
def Xg:=@PySem.W.binds_K
def Xh:=@PySem.AutoSeq1.wpAny_loadPart'
def Xi:=@PySem.F.slot_list_getattribute
def Xj:=@List.map_id
def Xk:=@List.length_zipWith
def Xl:=@PySem.F.slot_dict_itemiterator_iter
def Xm:=@Bool.false_eq_true
def Xn:=@PySem.F.args_tuple_iterator_next_1
def Xo:=@Int.emod_lt_of_pos
def Xp:=@List.Nodup.sublist
def Xq:=@PySem.F.entry_tuple_iterator_next
def Xr:=@List.take_sublist
def Xs:=@PySem.Calls.evalArgs_plain
def Xu:=@Nat.lt_succ_of_lt
def Xv:=@List.append_assoc
def Xw:=@PySem.wpAny_updateSeq_pair
def Xx:=@List.take_add_one
def Xy:=@List.filter_congr
def Xz:=@List.all_eq_true
def XB:=@List.nil_sublist
def XC:=@List.take_length
def XH:=@PySem.Paired.length
def XJ:=@PySem.wpAny_onRaise
def XM:=@PySem.call_meets
def XN:=@List.length_nil
def XO:=@List.nil_append
def XQ:=@List.filter_map
def XR:=@Bool.and_false
def XU:=@PySem.wpAny_newObj_type
def XY:=@or_assoc
def XZ:=@And.left
def X0:=@PySem.F.args_dict_values_1
def X1:=@List.take_zero
def X2:=@PySem.F.slot_dict_delitem
def X3:=@List.drop_eq_getElem_cons
def X4:=@PySem.F.slot_dict_getitem
def X5:=@PySem.F.entry_dict_values
def X6:=@List.mem_of_find?_eq_some
def X7:=@PySem.F.args_tuple_add_2
def X8:=@PySem.F.slot_dict_update
def X9:=@PySem.F.type_dict_values
def Ya:=@PySem.F.entry_tuple_add
def Yb:=@PySem.F.slot_dict_clear
def Yc:=@PySem.F.plainAttrs_list
def Yd:=@PySem.F.args_zip_next_1
def Ye:=@PySem.F.slot_dict_items
def Yf:=@List.filter_cons_of_neg
def Yg:=@List.getElem?_cons_zero
def Yh:=@Nat.le_of_lt
def Yi:=@PySem.wpAny_execs_nil
def Yj:=@PySem.W.cellsFrom_some
def Yk:=@PySem.F.slot_tuple_add
def Yl:=@Nat.lt_trans
def Ym:=@PySem.F.entry_zip_next
def Yn:=@List.length_pos_of_mem
def Yo:=@PySem.F.slot_dict_pop
def Yp:=@PyProof.Rows.tail_any
def Yq:=@List.getElem?_toArray
def Yr:=@PySem.F.slot_dict_get
def Ys:=@PySem.Calls.Name_function_global
def Yt:=@PySem.typeIs_str
def Yu:=@if_false
def Yv:=@PySem.wpAny_rule
def Yw:=@List.filter_sublist
def Yx:=@PySem.wpAny_standAt
def Yy:=@PySem.W.callWith_K
def Yz:=@PySem.W.kitx_tuple
def YA:=@PySem.plainId_quiet
def YB:=@not_or
def YC:=@PySem.W.kitx_none
def YD:=@PySem.W.kitx_bool
def YE:=@PySem.W.kitx_list
def YF:=@PySem.W.kitx_dict
def YG:=@Int.toNat_natCast
def YH:=@PySem.wpAny_pyNext_list_item
def YI:=@PySem.codeAny_mono
def YJ:=@PySem.concat_meets
def YK:=@PySem.W.kitx_int
def YL:=@PySem.W.kitx_str
def YM:=@List.drop_length
def YN:=@List.zipIdx_cons
def YO:=@Nat.min_le_right
def YQ:=@PySem.wpAny_isTrue_Compare1
def YR:=@PySem.wpAny_pyNext_list_end
def YS:=@PySem.Heap.get?_update_self
def YT:=@List.zipIdx_nil
def YU:=@Nat.not_lt_zero
def YV:=@List.find?_some
def YW:=@List.mem_range
def YX:=@PySem.Heap.get?_none_of_le
def YY:=@PySem.seqIndex_of
def YZ:=@List.forIn_nil
def Y0:=@PySem.wpAny_letGo
def Y1:=@and_true
def Y2:=@PySem.Around.under_plainId
abbrev gV(x:PySem.Str):Prop:=(x==("__debug__":PySem.Str))=false
abbrev TY(x:PySem.Str):Prop:=(x==("__classdict__":PySem.Str))=false
noncomputable abbrev VH:=List Int
noncomputable abbrev Y3:=List PySem.Addr
noncomputable abbrev Y4:=List PySem.Expr
noncomputable abbrev Y5:=List PySem.Value
noncomputable abbrev Y6:=Option PySem.Value
noncomputable abbrev Y7:=Option PySem.Addr
noncomputable abbrev Y8:=PySem.Addr->Prop
namespace L2
open PySem PySem.Spec PyProof.Rows
noncomputable abbrev Key:=Sum Int Str
noncomputable def kD:Key->Value->Bool
 |.inl k,v=>Value.isInt k v
 |.inr x,v=>Value.isStrOf x v
noncomputable def J6(w:World):Key->Int
 |.inl k=>hashInt k
 |.inr x=>hashStr w x
theorem ix:∀ {k:Key} {v:Value},kD k v=true->(∃i t,k=Sum.inl i/\v=Value.int i t)\/(∃x t,k=Sum.inr x/\v=Value.str x t)
 | .inl i,v,h=>by
  obtain⟨t,e⟩:=Value.isInt_shape (k:=i) (v:=v) h;exact .inl ⟨i,t,rfl,e⟩
 | .inr x,v,h=>by
  obtain⟨t,e⟩:=Value.isStrOf_shape (x:=x) (v:=v) h;exact .inr ⟨x,t,rfl,e⟩
theorem JR(i:Int)(t:Tok):kD (.inl i) (.int i t)=true:=by simp[kD,Value.isInt]
theorem Eh(x:Str)(t:Tok):kD (.inr x) (.str x t)=true:=by simp[kD,Value.isStrOf]
theorem Iu(a b:Int):decide ((Sum.inl a:Key)=Sum.inl b)=(a==b):=by
 by_cases e:a=b
 ·subst e;simp
 ·have h:¬(Sum.inl a:Key)=Sum.inl b:=λq=>e (Sum.inl.inj q)
  rw[JU h];exact(WT.mpr e).symm
theorem FG(a b:Str):decide ((Sum.inr a:Key)=Sum.inr b)=decide (a=b):=by
 by_cases e:a=b
 ·subst e;simp
 ·have h:¬(Sum.inr a:Key)=Sum.inr b:=λq=>e (Sum.inr.inj q)
  rw[JU h,JU e]
theorem G2(a:Int)(b:Str):decide ((Sum.inl a:Key)=Sum.inr b)=false:=JU (λq=>nomatch q)
theorem Fc(a:Str)(b:Int):decide ((Sum.inr a:Key)=Sum.inl b)=false:=JU (λq=>nomatch q)
noncomputable def bz(prog:Program)(w:World):PySem.KeyKind prog w Key where
 is:=kD
 hash:=J6 w
 inj:=λv a b ha hb=>by
  rcases ix ha with⟨i,t,rfl,rfl⟩|⟨x,t,rfl,rfl⟩
  ·rcases ix hb with⟨j,u,rfl,e⟩|⟨y,u,rfl,e⟩
   ·injection e with e1 _;rw[e1]
   ·exact nomatch e
  ·rcases ix hb with⟨j,u,rfl,e⟩|⟨y,u,rfl,e⟩
   ·exact nomatch e
   ·injection e with e1 _;rw[e1]
 byValue:=λk v h=>by
  rcases ix h with⟨i,t,rfl,rfl⟩|⟨x,t,rfl,rfl⟩<;>rfl
 pyHash:=λhv h=>by
  rcases ix hv with⟨i,t,rfl,rfl⟩|⟨x,t,rfl,rfl⟩
  ·exact wpAny_pyHash_int h
  ·exact wpAny_pyHash_str h
 eqBool:=λhu hv h=>by
  rcases ix hu with⟨i,t,rfl,rfl⟩|⟨x,t,rfl,rfl⟩
  ·rcases ix hv with⟨j,u,rfl,rfl⟩|⟨y,u,rfl,rfl⟩
   ·rw[Iu]at h;exact wpAny_eqBool_int h
   ·rw[G2]at h;exact SeqAt.EqAt.int_str i t y u _ _ _ _ h
  ·rcases ix hv with⟨j,u,rfl,rfl⟩|⟨y,u,rfl,rfl⟩
   ·rw[Fc]at h;exact SeqAt.EqAt.str_int x t j u _ _ _ _ h
   ·rw[FG]at h;exact wpAny_eqBool_str h
 «strs»:=λk x t v h=>by
  rcases ix h with⟨i,u,rfl,e⟩|⟨y,u,rfl,e⟩
  ·exact nomatch e
  ·injection e with e1 _
   subst e1;cases v<;>rfl
theorem tf(prog:Program)(w:World)(i:Int)(t:Tok):(bz prog w).is (.inl i) (.int i t)=true:=JR i t
theorem Eo(prog:Program)(w:World)(x:Str)(t:Tok):(bz prog w).is (.inr x) (.str x t)=true:=Eh x t
inductive V where
 |aj|bl (b:Bool)|int (i:Int)|str (x:Str)|lG (b:Array UInt8)|qR (b:UInt64)|ref (a:Addr)|ty (n:String)
 deriving DecidableEq
def RelV:V->Value->Prop
 |.aj,u=>u=Value.none
 |.bl b,u=>u=Value.bool b
 |.int i,u=>∃t,u=Value.int i t
 |.str x,u=>∃t,u=Value.str x t
 |.lG b,u=>∃t,u=Value.bytes b t
 |.qR b,u=>∃t,u=Value.float b t
 |.ref a,u=>u=Value.ref a
 |.ty n,u=>u=Value.type n
abbrev Vals:List V->Y5->Prop:=Paired RelV
theorem Vals.length{xs:List V}{us:Y5}(r:Vals xs us):xs.length=us.length:=XH r
theorem Vals.get:∀ {xs:List V} {us:Y5} {i:Nat} {x:V},Vals xs us->xs[i]? =some x->∃u,us[i]? =some u/\RelV x u
 |_,_,_,_,.nil,e=>by simp at e
 |_,_,0,_,.cons r _,e=>by simp at e;subst e;exact⟨_,rfl,r⟩
 | _,_,i+1,x,.cons _ t,e=>by
  obtain⟨u,h1,h2⟩:=Vals.get (i:=i) (x:=x) t (by simpa using e)
  exact⟨u,by simpa using h1,h2⟩
theorem Vals.set{x:V}{u:Value}(r:RelV x u):∀ {xs:List V} {us:Y5} (i:Nat),Vals xs us->Vals (xs.set i x) (us.set i u)
 |_,_,_,.nil=>.nil
 |_,_,0,.cons _ t=>.cons r t
 |_,_,i+1,.cons q t=>.cons q (Vals.set r i t)
theorem Vals.append:∀ {xs ys:List V} {us ws:Y5},Vals xs us->Vals ys ws->Vals (xs++ys) (us++ws)
 |_,_,_,_,.nil,s=>s
 |_,_,_,_,.cons r t,s=>.cons r (Vals.append t s)
def fq:Option V->Y6->Prop
 |some v,some u=>RelV v u
 |none,none=>True
 |_,_=>False
def KV{κ:Type}:List (κ×V)->List (κ×Value)->Prop:=Paired λ(p:κ×V) (q:κ×Value)=>p.1=q.1/\RelV p.2 q.2
noncomputable def kV:Key->V
 |.inl i=>.int i
 |.inr x=>.str x
inductive HO where
 |lst (xs:List V)
 |tup (xs:List V)
 |dK (kvs:List (Key×V))|dT (kvs:List (List Key×V))
 |set (S:Int->Bool) (n:Nat)
 |ins (C dx:Addr) (fs:List (Str×V))
 |own (x:Addr)
 |xd (fs:List (Str×V))
 |met (f x:Addr)
 |uL (lo hi:Int)
 |frz (o:Obj) (u:HO)
 |ki (ps:Array Value)
 |ext (φ:Heap->Prop)
noncomputable abbrev Hp:=Addr->Option HO
noncomputable def upd(H:Hp)(a:Addr)(o:HO):Hp:=λb=>if b=a then some o else H b
theorem aV{H:Hp}{a:Addr}{o:HO}:upd H a o a=some o:=by unfold upd;rw[u9 rfl]
theorem aE{H:Hp}{a b:Addr}{o:HO}(h:b≠a):upd H a o b=H b:=by unfold upd;rw[Da h]
theorem oX{H:Hp}{a:Addr}{o u:HO}:upd (upd H a o) a u=upd H a u:=by
 funext b;unfold upd;split<;>rfl
theorem J4{H:Hp}{a b:Addr}{o u:HO}(h:H a=some o)(h':H b=some u)(d:o≠u):a≠b:=by
 intro e;subst e;rw[h]at h';exact d (Pv h')
theorem eI{H:Hp}{a b:Addr}{o:HO}(h:H a=some o)(h':H b=none):a≠b:=by
 intro e;subst e;rw[h]at h';cases h'
section
variable(P:Program)(w:World)
def cX(H:Hp)(h:Heap)(a:Addr):HO->Prop
 |.lst xs=>xs.length<=sizeLine/\∃(af:Y5) (n:Nat),Vals xs af/\h.get? a=some {cls:=.type "list",data:=.seq af.toArray n}
 |.tup xs=>xs.length<=sizeLine/\∃af:Y5,Vals xs af/\IsTup h a af.toArray
 |.dK kvs=>kvs.length<=sizeLine/\(a==sysModules)=false/\∃vs,KV kvs vs/\h.DictOf (bz P w) a vs
 |.dT kvs=>kvs.length<=sizeLine/\(a==sysModules)=false/\∃xs:List (List Key×Addr×Value),
   Paired (λ(p:List Key×V) (q:List Key×Addr×Value)=>p.1=q.1/\H q.2.1=some (.tup (p.1.map kV))/\RelV p.2 q.2.2) kvs xs/\
   ∃o es ep,h.get? a=some o/\o.ExactDict/\o.data=.dict es ep/\es.toList=xs.map (entryOfKey (tupleKind (bz P w)))/\(xs.map (·.1)).Nodup
 |.set S n=>h.SetOf (intKind P w) a S n
 |.ins C dx fs=>H dx=some (.own a)/\fs.length<=1000/\dx≠a/\h.get? a=some (PySem.W.instObj C dx)/\
   ∃mA,h.Ns1 dx mA/\(∀f,fq (fs.lookup f) (mA f))/\PySem.Within mA (fs.map (·.1))
 |.own _=>∃o,h.get? a=some o
 |.xd fs=>∃mA,h.Ns1 a mA/\∀f,fq (fs.lookup f) (mA f)
 |.uL lo hi=>∃t u v,h.get? a=some {cls:=.type "range",data:=.fields #[.int lo t,.int hi u,.int 1 v]}
 |.frz o u=>h.get? a=some o/\cX H h a u
 |.ki ps=>h.get? a=some {cls:=.none,data:=.fields ps}
 |.met f x=>h.get? a=some (PySem.W.methodObj (.ref f) (.ref x))
 |.ext φ=>φ h/\(∃o,h.get? a=some o)/\∀h1 h2:Heap,φ h1->(∀o,h1.get? a=some o->h2.get? a=some o)->φ h2
def b6(H:Hp)(h:Heap):Prop:=∀a o,H a=some o->cX P w H h a o
end
section
variable{P:Program}{w:World}{H H':Hp}{h h':Heap}{a:Addr}{o:HO}
theorem cX.lt(x:cX P w H h a o):a<h.objs.size:=by
 cases o with
 |lst xs=>obtain⟨_,_,_,_,e⟩:=x;exact GE e
 |tup xs=>obtain⟨_,_,_,p⟩:=x;exact p.lt
 |dK kvs=>obtain⟨_,_,_,_,o,_,_,e,_⟩:=x;exact GE e
 |dT kvs=>obtain⟨_,_,_,_,o,_,_,e,_⟩:=x;exact GE e
 |set S n=>obtain⟨o,_,_,_,e,_⟩:=x;exact GE e
 |ins C dx fs=>obtain⟨_,_,_,e,_⟩:=x;exact GE e
 |own y=>obtain⟨_,e⟩:=x;exact GE e
 |xd fs=>obtain⟨_,⟨_,_,_,e,_⟩,_⟩:=x;exact GE e
 |uL lo hi=>obtain⟨_,_,_,e⟩:=x;exact GE e
 |frz ob u=>obtain⟨e,_⟩:=x;exact GE e
 |ki ps=>exact GE (show h.get? a=some _ from x)
 |met f y=>exact GE (show h.get? a=some _ from x)
 |ext φ=>obtain⟨_,⟨_,e⟩,_⟩:=x;exact GE e
theorem Paired.tK{α β:Type}{F G:α->β->Prop}:∀ {P':List α} {P5:List β},Paired F P' P5->(∀a b,F a b->G a b)->Paired G P' P5
 |_,_,.nil,_=>.nil
 |_,_,.cons r t,f=>.cons (f _ _ r) (Paired.tK t f)
theorem cX.ie(x:cX P w H h a o)(k:∀b u,(b=a\/H b=some (.own a))->h.get? b=some u->h'.get? b=some u)
  (ho:∀b,H b=some (.own a)->H' b=some (.own a)) (ht:∀b xs,H b=some (.tup xs)->H' b=some (.tup xs)):cX P w H' h' a o:=by
 induction o with
 |lst xs=>obtain⟨z,af,n,r,e⟩:=x;exact⟨z,af,n,r,k _ _ (.inl rfl) e⟩
 |tup xs=>obtain⟨z,af,r,ob,e,c⟩:=x;exact⟨z,af,r,ob,k _ _ (.inl rfl) e,c⟩
 |dK kvs=>obtain⟨z,y,vs,r,ob,es,ep,e,c⟩:=x;exact⟨z,y,vs,r,ob,es,ep,k _ _ (.inl rfl) e,c⟩
 | dT kvs=>
  obtain⟨z,y,xs,r,ob,es,ep,e,c⟩:=x;exact⟨z,y,xs,Paired.tK r λp q z=>⟨z.1,ht _ _ z.2.1,z.2.2⟩,ob,es,ep,k _ _ (.inl rfl) e,c⟩
 |set S n=>obtain⟨ob,es,ep,t,e,c⟩:=x;exact⟨ob,es,ep,t,k _ _ (.inl rfl) e,c⟩
 | ins C dx fs=>
  obtain⟨d,z,ne,e,mA,⟨od,es,ep,e2,c⟩,r⟩:=x;exact⟨ho _ d,z,ne,k _ _ (.inl rfl) e,mA,⟨od,es,ep,k _ _ (.inr d) e2,c⟩,r⟩
 |own y=>obtain⟨ob,e⟩:=x;exact⟨ob,k _ _ (.inl rfl) e⟩
 |xd fs=>obtain⟨mA,⟨od,es,ep,e,c⟩,r⟩:=x;exact⟨mA,⟨od,es,ep,k _ _ (.inl rfl) e,c⟩,r⟩
 |uL lo hi=>obtain⟨t,u,v,e⟩:=x;exact⟨t,u,v,k _ _ (.inl rfl) e⟩
 |frz ob u ih=>obtain⟨e,q⟩:=x;exact⟨k _ _ (.inl rfl) e,ih q⟩
 | ki ps=>
  have e:h.get? a=some {cls:=.none,data:=.fields ps}:=x;show h'.get? a=some {cls:=.none,data:=.fields ps};exact k a _ (.inl rfl) e
 | met f y=>
  have e:h.get? a=some (PySem.W.methodObj (.ref f) (.ref y)):=x;show h'.get? a=some (PySem.W.methodObj (.ref f) (.ref y));exact k a _ (.inl rfl) e
 |ext φ=>obtain⟨p,⟨o,e⟩,st⟩:=x;exact⟨st _ _ p λo q=>k _ _ (.inl rfl) q,⟨o,k _ _ (.inl rfl) e⟩,st⟩
theorem b6.lt(x:b6 P w H h)(e:H a=some o):a<h.objs.size:=(x a o e).lt
theorem b6.fresh(x:b6 P w H h)(e:h.objs.size<=a):H a=none:=by
 cases q:H a with
 |none=>rfl
 |some u=>exact absurd (MC (x.lt q) e) (We _)
theorem b6.kept(x:b6 P w H h)(k:∀b u,h.get? b=some u->h'.get? b=some u):b6 P w H h':=λa o e=>
 (x a o e).ie (λb u _ q=>k b u q) (λ_ q=>q) λ_ _ q=>q
theorem b6.laid(x:b6 P w H h)(k:∀b u,h.get? b=some u->h'.get? b=some u)(hp:h.objs.size<=a)(new:cX P w (upd H a o) h' a o):b6 P w (upd H a o) h':=λb u e=>by
 have hn:=x.fresh hp;by_cases hb:b=a
 ·subst hb;rw[aV]at e;cases e;exact new
 ·rw[aE hb]at e
  exact(x b u e).ie (λc v _ q=>k c v q) (λc q=>by rw[aE (eI q hn)];exact q) λc xs q=>by rw[aE (eI q hn)];exact q
end
def Rd(H:Hp)(a:Addr)(u:HO):Prop:=H a=some u\/∃o,H a=some (.frz o u)
theorem Rd.ok{P:Program}{w:World}{H:Hp}{h:Heap}{a:Addr}{u:HO}(r:Rd H a u)(x:b6 P w H h):cX P w H h a u:=by
 rcases r with r|⟨o,r⟩
 ·exact x a u r
 ·obtain⟨_,q⟩:=x a _ r
  exact q
def nu:Option HO->Prop
 |some (.lst _)=>True
 |some (.dK _)=>True
 |some (.dT _)=>True
 |some (.set _ _)=>True
 |some (.ins _ _ _)=>True
 |some (.ext _)=>True
 |_=>False
section
variable{P:Program}{w:World}{H:Hp}{h h':Heap}{x e:Addr}{o':HO}
theorem b6.write(ok:b6 P w H h)(mu:nu (H x))(he:e=x\/H e=some (.own x))(k:∀b u,b≠e->h.get? b=some u->h'.get? b=some u)(PD:∃u,h'.get? e=some u)
  (new:cX P w (upd H x o') h' x o'):b6 P w (upd H x o') h':=λb u q=>by
 have QJ:∀c y,H c=some (.own y)->c≠x:=λc y r z=>by subst z;rw[r]at mu;exact mu
 have RC:∀c xs,H c=some (.tup xs)->c≠x:=λc xs r z=>by subst z;rw[r]at mu;exact mu
 by_cases hb:b=x
 ·subst hb;rw[aV]at q;cases q;exact new
 ·rw[aE hb]at q
  by_cases hbe:b=e
  ·have q':H b=some (.own x):=by
    rcases he with z|z
    ·exact absurd (hbe.trans z) hb
    ·rw[hbe];exact z
   rw[q]at q';cases q';obtain⟨v,hv⟩:=PD;exact⟨v,by rw[hbe];exact hv⟩
  ·refine(ok b u q).ie (λc v hc r=>k c v ?_ r) (λc r=>by rw[aE (QJ c b r)];exact r) λc xs r=>by rw[aE (RC c xs r)];exact r
   rcases hc with rfl|hc
   ·exact hbe
   ·rintro rfl
    rcases he with z|z
    ·exact QJ c b hc z
    ·rw[hc]at z;cases z;exact hb rfl
structure Un(fs ex:Y3)(H H':Hp)(h h':Heap):Prop where
 keep:∀b o,h.get? b=some o->H b=none->b∉fs->b∉ex->h'.get? b=some o
 slot:∀b o,h.get? b=some o->H b=none->b∈fs->b∉ex->∃sl,h'.get? b=some {o with slots:=sl}
 free:∀b o,h.get? b=some o->H b=none->b∉ex->H' b=none
 there:∀b o,h.get? b=some o->b∉ex->∃o',h'.get? b=some o'
 iq:∀b xs,H b=some (.tup xs)->H' b=some (.tup xs)
 fN:∀b o u,H b=some (.frz o u)->H' b=some (.frz o u)
 iu:∀b ps,H b=some (.ki ps)->∃more,H' b=some (.ki (ps++more))
variable{fs:Y3}{Vs:Y3}{ex:Y3}{Rl:Y3}{H1:Hp}{H2:Hp}{h1:Heap}{h2:Heap}{a:Addr}{o:HO}
theorem Un.any(u:Un fs ex H H1 h h1){b:Addr}{ob:Obj}(q:h.get? b=some ob)(n:H b=none)(hx:b∉ex):∃sl,h1.get? b=some {ob with slots:=sl}:=by
 by_cases hb:b∈fs
 ·exact u.slot b ob q n hb hx
 ·exact⟨ob.slots,u.keep b ob q n hb hx⟩
theorem Un.kept(k:∀b u,h.get? b=some u->h'.get? b=some u):Un fs ex H H h h':=
 ⟨λb ob q _ _ _=>k b ob q,λb ob q _ _ _=>⟨ob.slots,k b ob q⟩,λ_ _ _ n _=>n,λb ob q _=>⟨ob,k b ob q⟩,λ_ _ q=>q,λ_ _ _ q=>q,λ_ ps q=>⟨#[],by rw[q];simp⟩⟩
theorem Un.refl:Un fs ex H H h h:=Un.kept λ_ _ q=>q
theorem Un.laid(k:∀b u,h.get? b=some u->h'.get? b=some u)(hp:h.objs.size<=a)(hn:H a=none):Un fs ex H (upd H a o) h h' where
 keep:=λb u q _ _ _=>k b u q
 slot:=λb u q _ _ _=>⟨u.slots,k b u q⟩
 free:=λb u q n _=>by rw[aE (Pi (MC (GE q) hp))];exact n
 there:=λb u q _=>⟨u,k b u q⟩
 iq:=λb xs q=>by rw[aE (eI q hn)];exact q
 fN:=λb u xs q=>by rw[aE (eI q hn)];exact q
 iu:=λb ps q=>⟨#[],by rw[aE (eI q hn),q];simp⟩
theorem Un.write(mu:nu (H x))(he:e=x\/H e=some (.own x))(k:∀b u,b≠e->h.get? b=some u->h'.get? b=some u)(PD:∃u,h'.get? e=some u):Un fs ex H (upd H x o) h h':=by
 have hx:∀b,H b=none->b≠x:=λb n z=>by subst z;rw[n]at mu;exact mu
 have hb:∀b,H b=none->b≠e:=λb n z=>by
  subst z;rcases he with r|r
  ·exact hx b n r
  ·rw[n]at r;cases r
 have hm:∀b u,H b=some u->¬nu (some u)->b≠x:=λb u q nm z=>by subst z;rw[q]at mu;exact nm mu
 refine⟨λb u q n _ _=>k b u (hb b n) q,λb u q n _ _=>⟨u.slots,k b u (hb b n) q⟩,λb u q n _=>by rw[aE (hx b n)];exact n,λb u q _=>?_,
  λb xs q=>by rw[aE (hm b _ q λz=>z)];exact q,λb u xs q=>by rw[aE (hm b _ q λz=>z)];exact q,λb ps q=>⟨#[],by rw[aE (hm b _ q λz=>z),q];simp⟩⟩
 by_cases hbe:b=e
 ·subst hbe;exact PD
 ·exact⟨u,k b u hbe q⟩
end
noncomputable def aU(h:Heap)(H:Hp):Y3:=(List.range h.objs.size).filter λa=>(H a).isSome
noncomputable def jb(h:Heap)(H:Hp):Heap:=PySem.W.hideAll h (aU h H)
theorem ED(h:Heap)(H:Hp):(jb h H).objs.size=h.objs.size:=PySem.W.hideAll_size _ _
theorem DN{h:Heap}{H:Hp}{b:Addr}{o:Obj}(e:h.get? b=some o)(n:H b=none):(jb h H).get? b=some o:=
 PySem.W.hideAll_get _ e λhm=>by
  have q:(H b).isSome=true:=(V1.mp hm).2;rw[n]at q;simp at q
theorem Jo{h:Heap}{H:Hp}{b:Addr}{o:Obj}(e:(jb h H).get? b=some o):h.get? b=some o/\H b=none:=by
 have e':h.get? b=some o:=PySem.W.of_hideAll (aU h H) e;refine⟨e',?_⟩;cases q:H b with
 |none=>rfl
 | some x=>
  have hm:b∈aU h H:=V1.mpr ⟨YW.mpr (GE e'),by simp[q]⟩
  have z:(jb h H).get? b=none:=PySem.W.hideAll_none (aU h H) hm;rw[z]at e;cases e
noncomputable def EB(g h:Heap)(L:Addr):List (Addr×Obj):=(List.range h.objs.size).filterMap λa=>if a=L\/(g.get? a).isSome=true then none else(h.get? a).map λo=>(a,o)
noncomputable def rest(g h:Heap)(L d:Addr):List (Addr×Obj):=(EB g h L).filter λp=>decide (p.1≠d)
structure Mod(K:PySem.W.Frag)(mg:Str->Y6)(base:Heap):Prop where
 mX:K.In base
 glob:base.Ns mainGlobals mg
 blt:∃mb,base.Ns builtinsNs mb/\∀x:Str,x≠"__name__"->mb x=bootBuiltins x
 nolimit:base.NoLimit
structure Cx where
 prog:Program
 w:World
 K:PySem.W.Frag
 mg:Str->Y6
 base:Heap
 A:Around
 N:List Str
 cN:Shared
 jv:Hp
 env:Env
 outer:List Env
 stack:List Env
 ex:Y3
 fn:Str->Bool
 calm:Bool
 pn:List (Addr×Obj)
 xe:Value->Shared->Prop
noncomputable def eF(l:List Env):Y3:=l.filterMap (·.frame)
noncomputable abbrev Cx.fs(X:Cx):Y3:=eF X.outer
def dS(sc:Scope)(x:Str):Prop:=sc.names.lookup x=some .local\/sc.names.lookup x=some .cell\/sc.names.lookup x=some .free
def Loc(sc:Scope)(x:Str):Prop:=sc.names.lookup x=some .local\/sc.names.lookup x=some .cell
def Look(env:Env)(h:Heap)(m:Str->Y6)(x:Str)(u:Value):Prop:=
 (env.kindOf x=some .local/\m x=some u)\/((env.kindOf x=some .cell\/env.kindOf x=some .free)/\∃c,env.cells.lookup x=some c/\h.IsCell c (some u))
structure Cx.Ok(X:Cx):Prop where
 mod:Mod X.K X.mg X.base
 kind:X.env.scope.kind=.function
 glob:X.env.globals=mainGlobals
 blt:X.env.builtins=builtinsNs
 above:X.cN.heap.objs.size<=X.env.locals
 inj:∀x y c,X.env.cells.lookup x=some c->X.env.cells.lookup y=some c->x=y
 has:∀x,(X.env.kindOf x=some .cell\/X.env.kindOf x=some .free)->∃c,X.env.cells.lookup x=some c
 m4:∀x c,X.fn x=true->X.env.cells.lookup x=some c->X.cN.heap.objs.size<=c
 hd:X.calm=true->X.A.handled=none
 frames:X.A.frames=some X.stack
 pk:X.stack=X.outer\/(X.stack=X.env::X.outer/\X.env.frame=some X.env.locals)
 A1:∀b∈X.ex,b≠X.env.locals/\∀x c,X.env.cells.lookup x=some c->c≠b
 bs:∀b o,X.base.get? b=some o->X.cN.heap.get? b=some o/\X.jv b=none
 jP:X.base.objs.size<=X.cN.heap.objs.size
 oM:∀b o,X.base.get? b=some o->b∉X.ex
 rn:∀b∈X.ex,b∉X.fs
 gz:X.cN.heap.FunFrames X.base X.outer
 l4:∀b∈X.fs,X.jv b=none
structure Inv(X:Cx)(pins:List (Addr×Obj))(σ:List (Option V))(H:Hp)(s:Shared):Prop where
 ok:X.Ok
 os:s.os=X.cN.os
 bare:AllBare s.gens
 base:Un X.fs X.ex X.jv H X.cN.heap s.heap
 loc:∃m,s.heap.Ns X.env.locals m/\∀(i:Nat) (x:Str) (v:V),X.N[i]? =some x->σ[i]? =some (some v)->dS X.env.scope x->∃u,RelV v u/\Look X.env s.heap m x u
 cell:∀x c,X.env.cells.lookup x=some c->∃v,s.heap.IsCell c v
 free:H X.env.locals=none
 gu:∀x c,X.env.cells.lookup x=some c->H c=none
 pin:∀p∈X.pn++pins,s.heap.get? p.1=some p.2/\H p.1=none/\p.1≠X.env.locals/\p.1∉X.fs/\∀v,p.2.data≠.cell v
 aK:b6 X.prog X.w H s.heap
 len:σ.length=X.N.length
section
variable{X:Cx}{pins:List (Addr×Obj)}{σ:List (Option V)}{H H':Hp}{s:Shared}{h':Heap}
theorem Cx.Ok.CZ(ok:X.Ok){b:Addr}{o:Obj}(e:X.base.get? b=some o):b∉X.fs:=λhb=>by
 have:=(ok.gz.mem hb).1;rw[e]at this;cases this
theorem Inv.bs(I:Inv X pins σ H s):∀b o,X.base.get? b=some o->s.heap.get? b=some o/\H b=none:=λb o e=>
 ⟨I.base.keep b o (I.ok.bs b o e).1 (I.ok.bs b o e).2 (I.ok.CZ e) (I.ok.oM b o e),I.base.free b o (I.ok.bs b o e).1 (I.ok.bs b o e).2 (I.ok.oM b o e)⟩
theorem Inv.bk(I:Inv X pins σ H s):∀b o,X.base.get? b=some o->s.heap.get? b=some o:=λb o e=>(I.bs b o e).1
theorem Inv.mod(I:Inv X pins σ H s):Mod X.K X.mg X.base:=I.ok.mod
theorem Inv.c7(I:Inv X pins σ H s):X.K.In s.heap:=I.ok.mod.mX.keeps I.bk
theorem Inv.lt(I:Inv X pins σ H s):X.env.locals<s.heap.objs.size:=let⟨_,hn,_⟩:=I.loc;hn.lt
theorem Inv.sz(I:Inv X pins σ H s):X.cN.heap.objs.size<=s.heap.objs.size:=PK I.ok.above (Yh I.lt)
theorem Inv.DJ(I:Inv X pins σ H s){a:Addr}(h:s.heap.objs.size<=a):a∉X.fs:=λhb=>by
 obtain⟨_,o,ho,_⟩:=I.ok.gz.mem hb;exact absurd (MC (GE ho) (PK I.sz h)) (We _)
theorem Inv.ij(I:Inv X pins σ H s):∀x c,X.env.cells.lookup x=some c->c≠X.env.locals:=λx c e z=>by
 obtain⟨v,o,ho,hd⟩:=I.cell x c e;obtain⟨m,⟨o',es,ep,Nu,NW,_⟩,_⟩:=I.loc;rw[z,Nu]at ho;cases ho;rw[NW]at hd;cases hd
theorem Inv.gz(I:Inv X pins σ H s):s.heap.FunFrames X.base X.outer:=by
 have all:∀(l:List Env),(∀b∈eF l,b∈X.fs)->X.cN.heap.FunFrames X.base l->s.heap.FunFrames X.base l:=by
  intro l
  induction l with
  |nil=>intro _ _;trivial
  | cons env r ih=>
   intro hs hl;obtain⟨hk,⟨L,o,hf,hn,ho,hd⟩,hr⟩:=hl;have hL:L∈X.fs:=hs L (by unfold eF;rw[Wg,hf];exact v3)
   obtain⟨sl,e⟩:=I.base.slot L o ho (I.ok.l4 L hL) hL λz=>I.ok.rn L z hL;exact⟨hk,⟨L,_,hf,hn,e,hd⟩,ih (λb hb=>hs b (by unfold eF;rw[Wg,hf];exact rU _ hb)) hr⟩
 exact all X.outer (λ_ hb=>hb) I.ok.gz
theorem Inv.stack(I:Inv X pins σ H s):s.heap.FunFrames X.base X.stack:=by
 rcases I.ok.pk with e|⟨e,hf⟩
 ·rw[e];exact I.gz
 ·rw[e]
  obtain⟨m,hn,_⟩:=I.loc;refine .cons (by rw[I.ok.kind];decide) hf hn ?_ I.gz
  exact YX (PK I.ok.jP I.ok.above)
theorem Inv.pR(I:Inv X pins σ H s):∀b∈eF X.stack,b∈X.env.locals::X.fs:=λb hb=>by
 rcases I.ok.pk with e|⟨e,hf⟩
 ·rw[e]at hb;exact rU _ hb
 ·rw[e]at hb
  unfold eF at hb;rw[Wg,hf]at hb;exact hb
theorem Inv.xG(I:Inv X pins σ H s):∀b∈eF X.stack,H b=none:=λb hb=>by
 rcases AC.mp (I.pR b hb)with e|hb
 ·rw[e];exact I.free
 ·obtain⟨_,o,ho,_⟩:=I.ok.gz.mem hb
  exact I.base.free b o ho (I.ok.l4 b hb) λz=>I.ok.rn b z hb
theorem Inv.step{g':Array GenState}{t':Nat}{d':Drawn}{ch:Y3}(I:Inv X pins σ H s)
  (Ou:∀b∈ch,(b∈X.ex\/X.cN.heap.objs.size<=b)/\b≠X.env.locals/\(∀x c,X.env.cells.lookup x=some c->c≠b)/\∀p∈X.pn++pins,p.1≠b)
  (keep:∀b o,b≠X.env.locals->b∉X.fs->b∉ch->s.heap.get? b=some o->H b=none->h'.get? b=some o)
  (slot:∀b o,b≠X.env.locals->b∈X.fs->b∉ch->s.heap.get? b=some o->H b=none->∃sl,h'.get? b=some {o with slots:=sl}) (free:∀b o,b∉ch->s.heap.get? b=some o->H b=none->H' b=none)
  (there:∀b o,b∉ch->s.heap.get? b=some o->∃o',h'.get? b=some o')
  (iq:∀b xs,H b=some (.tup xs)->H' b=some (.tup xs)) (fN:∀b o u,H b=some (.frz o u)->H' b=some (.frz o u)) (iu:∀b ps,H b=some (.ki ps)->∃more,H' b=some (.ki (ps++more)))
  (ns:∀m,s.heap.Ns X.env.locals m->h'.Ns X.env.locals m) (aK:b6 X.prog X.w H' h') (hg:AllBare g'):
  Inv X pins σ H' {s with heap:=h',gens:=g',drawn:=d',toks:=t'}:=by
 have SN:∀b o,X.cN.heap.get? b=some o->b≠X.env.locals:=λb o e=>Pi (MC (GE e) I.ok.above)
 have QX:∀b o,X.cN.heap.get? b=some o->b∉X.ex->b∉ch:=λb o e hx hb=>by
  rcases(Ou b hb).1 with z|z
  ·exact hx z
  ·exact absurd (MC (GE e) z) (We _)
 have cellK:∀x c,X.env.cells.lookup x=some c->∀v,s.heap.IsCell c v->h'.IsCell c v:=λx c e v=>by
  rintro⟨o,ho,hd⟩
  have Nb:c∉ch:=λz=>(Ou c z).2.2.1 x c e rfl;by_cases hc:c∈X.fs
  ·obtain⟨sl,q⟩:=slot c o (I.ij x c e) hc Nb ho (I.gu x c e)
   exact⟨_,q,hd⟩
  ·exact⟨o,keep c o (I.ij x c e) hc Nb ho (I.gu x c e),hd⟩
 refine⟨I.ok,I.os,hg,⟨λb o e n hb hx=>?_,λb o e n hb hx=>?_,λb o e n hx=>?_,λb o e hx=>?_,λb xs e=>iq b xs (I.base.iq b xs e),λb o xs e=>fN b o xs (I.base.fN b o xs e),λb ps e=>?_⟩,?_,λx c e=>?_,?_,λx c e=>?_,λp hp=>?_,aK,I.len⟩
 ·exact keep b o (SN b o e) hb (QX b o e hx) (I.base.keep b o e n hb hx) (I.base.free b o e n hx)
 ·obtain⟨sl,e1⟩:=I.base.slot b o e n hb hx
  obtain⟨UY,e2⟩:=slot b _ (SN b o e) hb (QX b o e hx) e1 (I.base.free b o e n hx);exact⟨UY,e2⟩
 ·obtain⟨o',e1⟩:=I.base.there b o e hx
  exact free b o' (QX b o e hx) e1 (I.base.free b o e n hx)
 ·obtain⟨o',e1⟩:=I.base.there b o e hx
  exact there b o' (QX b o e hx) e1
 ·obtain⟨m1,e1⟩:=I.base.iu b ps e
  obtain⟨m2,e2⟩:=iu b _ e1;exact⟨m1++m2,by rw[e2,Array.append_assoc]⟩
 ·obtain⟨m,hn,hl⟩:=I.loc
  refine⟨m,ns m hn,λi x v e1 e2 e3=>?_⟩;obtain⟨u,r,l⟩:=hl i x v e1 e2 e3;refine⟨u,r,?_⟩;rcases l with l|⟨k,c,e,z⟩
  ·exact .inl l
  ·exact .inr ⟨k,c,e,cellK x c e _ z⟩
 ·obtain⟨v,z⟩:=I.cell x c e
  exact⟨v,cellK x c e v z⟩
 ·obtain⟨m,⟨o,_,_,ho,_⟩,_⟩:=I.loc
  exact free _ o (λz=>(Ou _ z).2.1 rfl) ho I.free
 ·obtain⟨v,o,ho,hd⟩:=I.cell x c e
  exact free c o (λz=>(Ou c z).2.2.1 x c e rfl) ho (I.gu x c e)
 ·obtain⟨e,n,ne,nf,d⟩:=I.pin p hp
  have Nb:p.1∉ch:=λz=>(Ou p.1 z).2.2.2 p hp rfl;exact⟨keep p.1 p.2 ne nf Nb e n,free p.1 p.2 Nb e n,ne,nf,d⟩
theorem Inv.un{t':Nat}(I:Inv X pins σ H s)(u:Un X.fs [] H H' s.heap h')(aK:b6 X.prog X.w H' h'):Inv X pins σ H' {s with heap:=h',toks:=t'}:=by
 obtain⟨m,⟨o,es,ep,ho,r⟩,_⟩:=id I.loc;obtain⟨sl,hL⟩:=u.any ho I.free (by simp)
 exact I.step (g':=s.gens) (d':=s.drawn) (ch:=[]) (λ_ z=>nomatch z) (λb o _ hb _ e n=>u.keep b o e n hb (by simp)) (λb o _ hb _ e n=>u.slot b o e n hb (by simp)) (λb o _ e n=>u.free b o e n (by simp)) (λb o _ e=>u.there b o e (by simp)) u.iq u.fN u.iu (λm' hm=>by
  obtain⟨o',N1,OC,Nu,r'⟩:=hm;rw[ho]at Nu;cases Nu;exact⟨_,N1,OC,hL,r'⟩) aK I.bare
theorem Inv.call{g':Array GenState}{t':Nat}{d':Drawn}{ch:Y3}(I:Inv X pins σ H s)(u:Un (eF X.stack) ch H H' s.heap h')(aK:b6 X.prog X.w H' h')(hg:AllBare g')
  (Ou:∀b∈ch,(b∈X.ex\/X.cN.heap.objs.size<=b)/\b≠X.env.locals/\(∀x c,X.env.cells.lookup x=some c->c≠b)/\∀p∈X.pn++pins,p.1≠b):
  Inv X pins σ H' {s with heap:=h',gens:=g',drawn:=d',toks:=t'}:=by
 obtain⟨m,⟨o,es,ep,ho,r⟩,_⟩:=id I.loc;obtain⟨sl,hL⟩:=u.any ho I.free λz=>(Ou _ z).2.1 rfl
 exact I.step (ch:=ch) Ou (λb o hL hb hc e n=>u.keep b o e n (λz=>(AC.mp (I.pR b z)).elim hL hb) hc) (λb o _ _ hc e n=>u.any e n hc) (λb o hc e n=>u.free b o e n hc) (λb o hc e=>u.there b o e hc) u.iq u.fN u.iu (λm' hm=>by
  obtain⟨o',N1,OC,Nu,r'⟩:=hm;rw[ho]at Nu;cases Nu;exact⟨_,N1,OC,hL,r'⟩) aK hg
theorem Inv.turned{t':Nat}{it:Addr}(I:Inv X pins σ H s)(k:∀b o,b≠it->s.heap.get? b=some o->h'.get? b=some o)(hn:H it=none)(hL:it≠X.env.locals)
  (h1:it∈X.ex\/X.cN.heap.objs.size<=it) (h2:∀x c,X.env.cells.lookup x=some c->c≠it) (h3:∀p∈X.pn++pins,p.1≠it):Inv X pins σ H {s with heap:=h',toks:=t'}:=by
 have Tw:∀b u,H b=some u->b≠it:=λb u e z=>by rw[z,hn]at e;cases e
 refine I.step (g':=s.gens) (d':=s.drawn) (ch:=[it]) (λb hb=>?_) (λb o _ _ hc e _=>k b o (λz=>hc (by simp[z])) e) (λb o _ _ hc e _=>⟨o.slots,k b o (λz=>hc (by simp[z])) e⟩) (λ_ _ _ _ n=>n)
  (λb o hc e=>⟨o,k b o (λz=>hc (by simp[z])) e⟩) (λ_ _ e=>e) (λ_ _ _ e=>e) (λb ps e=>⟨#[],by rw[e];simp⟩) (λm hm=>?_) (λb u e=>?_) I.bare
 ·have e:b=it:=by simpa using hb
  subst e;exact⟨h1,hL,h2,h3⟩
 ·obtain⟨o,es,ep,ho,r⟩:=hm
  exact⟨o,es,ep,k _ o (Os hL) ho,r⟩
 ·refine(I.aK b u e).ie (λc v hc q=>k c v ?_ q) (λ_ q=>q) λ_ _ q=>q
  rcases hc with z|z
  ·rw[z];exact Tw b u e
  ·exact Tw c _ z
theorem Inv.tok(I:Inv X pins σ H s)(t:Nat):Inv X pins σ H {s with toks:=t}:=I.un (h':=s.heap) (t':=t) Un.refl I.aK
theorem Inv.kept{t':Nat}(I:Inv X pins σ H s)(k:∀b u,s.heap.get? b=some u->h'.get? b=some u):Inv X pins σ H {s with heap:=h',toks:=t'}:=I.un (Un.kept k) (I.aK.kept k)
theorem Inv.laid{a:Addr}{o:HO}{t':Nat}(I:Inv X pins σ H s)(k:∀b u,s.heap.get? b=some u->h'.get? b=some u)(hp:s.heap.objs.size<=a)(new:cX X.prog X.w (upd H a o) h' a o):
  Inv X pins σ (upd H a o) {s with heap:=h',toks:=t'}:=I.un (Un.laid k hp (I.aK.fresh hp)) (I.aK.laid k hp new)
theorem Inv.write{x e:Addr}{o:HO}{t':Nat}(I:Inv X pins σ H s)(mu:nu (H x))(he:e=x\/H e=some (.own x))(k:∀b u,b≠e->s.heap.get? b=some u->h'.get? b=some u)(PD:∃u,h'.get? e=some u)
  (new:cX X.prog X.w (upd H x o) h' x o):Inv X pins σ (upd H x o) {s with heap:=h',toks:=t'}:=I.un (Un.write mu he k PD) (I.aK.write mu he k PD new)
theorem Inv.yY{OS:List (Addr×Obj)}(I:Inv X pins σ H s)(h:∀p∈OS,s.heap.get? p.1=some p.2/\H p.1=none/\p.1≠X.env.locals/\p.1∉X.fs/\∀v,p.2.data≠.cell v):Inv X OS σ H s:=
 ⟨I.ok,I.os,I.bare,I.base,I.loc,I.cell,I.free,I.gu,λp hp=>(KM.mp hp).elim (λz=>I.pin p (KB _ z)) (h p),I.aK,I.len⟩
theorem xr{N:List Str}(hN:N.Nodup){i j:Nat}{x:Str}(a:N[i]? =some x)(b:N[j]? =some x):i=j:=by
 obtain⟨h1,e1⟩:=mO.mp a;obtain⟨h2,e2⟩:=mO.mp b;exact(List.getElem_inj hN).mp (e1.trans e2.symm)
theorem wL{M:Model}{A:Around}{E:Value->Shared->Prop}{i:Nat}{x:Str}{v:V}{u:Value}{Q:Unit->Shared->Prop}(I:Inv X pins σ H s)(hN:X.N.Nodup)(hi:X.N[i]? =some x)(hx:Loc X.env.scope x)(r:RelV v u)
  (h:∀s',Inv X pins (σ.set i (some v)) H s'->(∃a,Heap.SameBut a s.heap s'.heap/\(a=X.env.locals\/X.env.cells.lookup x=some a))->Q () s') (hf:X.fn x=true\/X.env.scope.names.lookup x=some .local:=by first|exact .inl rfl|exact .inr rfl|assumption):wpAny M A (storeName X.env x u) Q E s:=by
 obtain⟨m,hn,hl⟩:=id I.loc;have Rn:(X.env.scope.kind==.class||(X.env.scope.kind==.module&&X.env.locals != X.env.globals))=false:=by rw[I.ok.kind];rfl
 have P0:i<σ.length:=by rw[I.len];exact(mO.mp hi).1
 have ij:=I.ij
 have tracked:∀ {a:Addr} {h':Heap},(∃o,s.heap.get? a=some o/\H a=none)->Heap.SameBut a s.heap h'->b6 X.prog X.w H h':=λ{a h'} ha hs b ob e=>by
  obtain⟨_,_,OR⟩:=ha;refine(I.aK b ob e).ie (λc w' hc q=>(hs.2 c ?_).trans q) (λ_ q=>q) λ_ _ q=>q;rintro rfl;rcases hc with rfl|hc
  ·rw[OR]at e;cases e
  ·rw[OR]at hc;cases hc
 rcases hx with hk|hk
 ·refine wpAny_storeName_local hk hn (λh' NV hs=>?_) Rn
  obtain⟨oL,_,_,Ve,_⟩:=id hn;refine h _ ⟨I.ok,I.os,I.bare,⟨λb o e n hb hx=>?_,λb o e n hb hx=>?_,I.base.free,λb o e hx=>?_,I.base.iq,I.base.fN,I.base.iu⟩,⟨_,NV,λj y v' e1 e2 e3=>?_⟩,λy c e=>?_,I.free,I.gu,λp hp=>?_,tracked ⟨oL,Ve,I.free⟩ hs,by simpa using I.len⟩ ⟨_,hs,.inl rfl⟩
  ·exact(hs.2 b (Pi (MC (GE e) I.ok.above))).trans (I.base.keep b o e n hb hx)
  ·obtain⟨sl,e1⟩:=I.base.slot b o e n hb hx
   exact⟨sl,(hs.2 b (Pi (MC (GE e) I.ok.above))).trans e1⟩
  ·obtain⟨o',e1⟩:=I.base.there b o e hx
   exact⟨o',(hs.2 b (Pi (MC (GE e) I.ok.above))).trans e1⟩
  ·by_cases hj:j=i
   ·subst hj
    rw[hi]at e1;cases e1;rw[MG P0]at e2;cases e2;exact⟨u,r,.inl ⟨hk,by simp⟩⟩
   ·rw[bU (Os hj)]at e2
    obtain⟨u',r',q⟩:=hl j y v' e1 e2 e3;refine⟨u',r',?_⟩;rcases q with⟨k,e⟩|⟨k,c,e,z⟩
    ·refine .inl ⟨k,?_⟩
     have:y≠x:=λe=>hj (xr hN e1 (e▸hi));simp[this,e]
    ·exact .inr ⟨k,c,e,z.sameBut hs (ij y c e)⟩
  ·obtain⟨w',z⟩:=I.cell y c e
   exact⟨w',z.sameBut hs (ij y c e)⟩
  ·obtain⟨e,n,ne,nf,d⟩:=I.pin p hp
   exact⟨(hs.2 p.1 ne).trans e,n,ne,nf,d⟩
 ·have P7:X.fn x=true:=by
   rcases hf with z|z
   ·exact z
   ·rw[z]at hk;cases hk
  obtain⟨c,hc⟩:=I.ok.has x (.inl hk);obtain⟨w',z⟩:=I.cell x c hc;refine wpAny_storeName_cell I.ok.kind hk hc z (λh' M7 hs=>?_);obtain⟨oc,Tv,Rb⟩:=id z;refine h {s with heap:=h'} ⟨I.ok,I.os,I.bare,⟨λb o e n hb hx=>?_,λb o e n hb hx=>?_,I.base.free,λb o e hx=>?_,I.base.iq,I.base.fN,I.base.iu⟩,⟨m,hn.sameBut hs (Os (ij x c hc)),λj y v' e1 e2 e3=>?_⟩,λy c' e=>?_,I.free,I.gu,λp hp=>?_,tracked ⟨oc,Tv,I.gu x c hc⟩ hs,by simpa using I.len⟩ ⟨c,hs,.inr hc⟩
  ·exact(hs.2 b (Pi (MC (GE e) (I.ok.m4 x c P7 hc)))).trans (I.base.keep b o e n hb hx)
  ·obtain⟨sl,e1⟩:=I.base.slot b o e n hb hx
   exact⟨sl,(hs.2 b (Pi (MC (GE e) (I.ok.m4 x c P7 hc)))).trans e1⟩
  ·obtain⟨o',e1⟩:=I.base.there b o e hx
   exact⟨o',(hs.2 b (Pi (MC (GE e) (I.ok.m4 x c P7 hc)))).trans e1⟩
  ·by_cases hj:j=i
   ·subst hj
    rw[hi]at e1;cases e1;rw[MG P0]at e2;cases e2;exact⟨u,r,.inr ⟨.inl hk,c,hc,M7⟩⟩
   ·rw[bU (Os hj)]at e2
    obtain⟨u',r',q⟩:=hl j y v' e1 e2 e3;refine⟨u',r',?_⟩;rcases q with q|⟨k,c',e,z'⟩
    ·exact .inl q
    ·refine .inr ⟨k,c',e,z'.sameBut hs ?_⟩
     rintro rfl;exact hj (xr hN e1 (I.ok.inj _ _ _ e hc▸hi))
  ·by_cases QQ:c'=c
   ·subst QQ;exact⟨_,M7⟩
   ·obtain⟨w2,z2⟩:=I.cell y c' e
    exact⟨w2,z2.sameBut hs QQ⟩
  ·obtain⟨e,n,ne,nf,d⟩:=I.pin p hp
   refine⟨(hs.2 p.1 ?_).trans e,n,ne,nf,d⟩;intro q;rw[q,Tv]at e;have q':oc=p.2:=Pv e;exact d w' (by rw[<-q'];exact Rb)
theorem BH{M:Model}{A:Around}{E:Value->Shared->Prop}{i:Nat}{x:Str}{v:V}{u:Value}{Q:Unit->Shared->Prop}(I:Inv X pins σ H s)(hN:X.N.Nodup)(hi:X.N[i]? =some x)(hx:Loc X.env.scope x)(r:RelV v u)
  (h:∀s',Inv X pins (σ.set i (some v)) H s'->Q () s') (hf:X.fn x=true\/X.env.scope.names.lookup x=some .local:=by first|exact .inl rfl|exact .inr rfl|assumption):wpAny M A (storeName X.env x u) Q E s:=
 wL I hN hi hx r (λs' I' _=>h s' I') hf
theorem Inv.qG{s':Shared}{ch:Y3}(I:Inv X pins σ H s)(ho:s'.os=s.os)(u:Un (eF X.stack) ch H H' s.heap s'.heap)(aK:b6 X.prog X.w H' s'.heap)(hg:AllBare s'.gens)
  (Ou:∀b∈ch,(b∈X.ex\/X.cN.heap.objs.size<=b)/\b≠X.env.locals/\(∀x c,X.env.cells.lookup x=some c->c≠b)/\∀p∈X.pn++pins,p.1≠b):Inv X pins σ H' s':=by
 obtain⟨h',g',d',t',o'⟩:=s';have e:o'=s.os:=ho;subst e;exact I.call (g':=g') (t':=t') (d':=d') u aK hg Ou
end
noncomputable abbrev XK:=Value->Y7->Hp->Prop
noncomputable abbrev St:=List (Option V)
noncomputable abbrev VK:=V->Hp->Prop
noncomputable abbrev TE:=St->Hp->VK->Prop
noncomputable abbrev TT:=St->Hp->(Bool->Hp->Prop)->Prop
noncomputable abbrev TA:=St->Hp->(List V->Hp->Prop)->Prop
structure Ends where
 nx:St->Hp->Prop
 rt:VK
 bk:St->Hp->Prop:=λ_ _=>False
 ct:St->Hp->Prop:=λ_ _=>False
noncomputable abbrev TS:=Ends->St->Hp->Prop
inductive EP(X:Cx)(pins:List (Addr×Obj))(σ:St)(Q:VK)(u:Value)(s':Shared):Prop
 |mk:∀v H',Inv X pins σ H' s'->RelV v u->Q v H'->EP X pins σ Q u s'
inductive TP(X:Cx)(pins:List (Addr×Obj))(σ:St)(Q:Bool->Hp->Prop)(b:Bool)(s':Shared):Prop
 |mk:∀H',Inv X pins σ H' s'->Q b H'->TP X pins σ Q b s'
inductive AP(X:Cx)(pins:List (Addr×Obj))(σ:St)(Q:List V->Hp->Prop)(us:Y5)(s':Shared):Prop
 |mk:∀vs H',Inv X pins σ H' s'->Vals vs us->Q vs H'->AP X pins σ Q us s'
def SP(X:Cx)(pins:List (Addr×Obj))(D:Ends)(f:Flow)(s':Shared):Prop:=
 match f with
 |.next=>∃Ll H',Inv X pins Ll H' s'/\D.nx Ll H'
 |.brk=>∃Ll H',Inv X pins Ll H' s'/\D.bk Ll H'
 |.cont=>∃Ll H',Inv X pins Ll H' s'/\D.ct Ll H'
 |.ret u=>∃v Ll H',Inv X pins Ll H' s'/\RelV v u/\D.rt v H'
def PE(X:Cx)(e:Expr)(t:TE):Prop:=
 ∀(pins:List (Addr×Obj)) (s:Shared) (σ:St) (H:Hp) (Q:VK),Inv X pins σ H s->t σ H Q->wpAny (model X.prog X.w) X.A (eval e X.env) (EP X pins σ Q) X.xe s
def PT(X:Cx)(e:Expr)(t:TT):Prop:=
 ∀(pins:List (Addr×Obj)) (s:Shared) (σ:St) (H:Hp) (Q:Bool->Hp->Prop),Inv X pins σ H s->t σ H Q->wpAny (model X.prog X.w) X.A (isTrue e X.env (eval e X.env)) (TP X pins σ Q) X.xe s
def PW(X:Cx)(e:Expr)(t:TT):Prop:=
 ∀(whole:Sem Value) (pins:List (Addr×Obj)) (s:Shared) (σ:St) (H:Hp) (Q:Bool->Hp->Prop),Inv X pins σ H s->t σ H Q->wpAny (model X.prog X.w) X.A (isTrue e X.env whole) (TP X pins σ Q) X.xe s
theorem PW.pt{X:Cx}{e:Expr}{t:TT}(h:PW X e t):PT X e t:=h _
def PA(X:Cx)(es:Y4)(t:TA):Prop:=
 ∀(pos:Pos) (pins:List (Addr×Obj)) (s:Shared) (σ:St) (H:Hp) (Q:List V->Hp->Prop),Inv X pins σ H s->t σ H Q->wpAny (model X.prog X.w) X.A (spliced (backTo pos (starEach es X.env))) (AP X pins σ Q) X.xe s
def PS(X:Cx)(st:Stmt)(t:TS):Prop:=
 ∀(pins:List (Addr×Obj)) (s:Shared) (σ:St) (H:Hp) (D:Ends),Inv X pins σ H s->t D σ H->wpAny (model X.prog X.w) X.A (exec st X.env) (SP X pins D) X.xe s
def cq(X:Cx)(st:List Stmt)(t:TS):Prop:=
 ∀(pins:List (Addr×Obj)) (s:Shared) (σ:St) (H:Hp) (D:Ends),Inv X pins σ H s->t D σ H->wpAny (model X.prog X.w) X.A (execs st X.env) (SP X pins D) X.xe s
theorem aL{α:Type}{t:Sem α}{Q Q':α->Shared->Prop}{M:Model}{A:Around}{E:Value->Shared->Prop}{s:Shared}(h:wpAny M A t Q E s)(hQ:∀a s,Q a s->Q' a s):wpAny M A t Q' E s:=UF h hQ λ_ _ x=>x
section
variable{X:Cx}
theorem bin{a b:Expr}{ta tb:TE}(ha:PE X a ta)(hb:PE X b tb){pins:List (Addr×Obj)}{s:Shared}{σ:St}{H:Hp}{R:V->V->Hp->Prop}(I:Inv X pins σ H s)(h:ta σ H λx H1=>tb σ H1 λy H2=>R x y H2)
  {α:Type} {Q:α->Shared->Prop} {f:Value->Value->Sem α}
  (hf:∀v u s2 x y H2,Inv X pins σ H2 s2->RelV x v->RelV y u->R x y H2->wpAny (model X.prog X.w) X.A (f v u) Q X.xe s2):
  wpAny (model X.prog X.w) X.A (eval a X.env) (λv Lm=>wpAny (model X.prog X.w) X.A (eval b X.env) (λu Nl=>wpAny (model X.prog X.w) X.A (f v u) Q X.xe Nl) X.xe Lm) X.xe s:=by
 refine aL (ha pins s σ H _ I h) λv s1 ⟨x,H1,I1,r1,q1⟩=>?_;refine aL (hb pins s1 σ H1 _ I1 q1) λu s2 ⟨y,H2,I2,r2,q2⟩=>?_;exact hf v u s2 x y H2 I2 r1 r2 q2
def xB(i:Nat):TE:=λσ H Q=>∃v,σ[i]? =some (some v)/\Q v H
def tC(v:V):TE:=λ_ H Q=>Q v H
theorem Jr{i:Nat}{x:Str}{pos:Pos}(hN:X.N[i]? =some x)(hv:dS X.env.scope x)(hd:gV x:=by decide)(L4:TY x:=by decide):PE X (.Name x pos) (xB i):=by
 intro pins s σ H Q I h;obtain⟨v,e,h⟩:=h;obtain⟨m,hn,hl⟩:=I.loc;obtain⟨u,r,l⟩:=hl i x v hN e hv;have fin:EP X pins σ Q u s:=⟨v,H,I,r,h⟩;rcases l with⟨hk,hm⟩|⟨hk,c,hc,M9⟩
 ·exact wpAny_Name (wpAny_loadName_local I.ok.kind hk hn hm fin) hd
 ·rcases hk with hk|hk
  ·exact wpAny_Name (wpAny_loadName_cell I.ok.kind hk hc M9 fin) hd
  ·exact wpAny_Name (wpAny_loadName_free I.ok.kind hk hc M9 fin L4) hd
theorem Hf{i j pos}:PE X (.Constant (.int i) j pos) (tC (.int i)):=λ_ _ _ H _ I h=>wpAny_Constant_int ⟨.int i,H,I.tok _,⟨_,rfl⟩,h⟩
theorem DZ{b j pos}:PE X (.Constant (.bool b) j pos) (tC (.bl b)):=λ_ _ _ H _ I h=>Constant_bool ⟨.bl b,H,I,rfl,h⟩
theorem GS{j pos}:PE X (.Constant .none j pos) (tC .aj):=λ_ _ _ H _ I h=>Constant_none ⟨.aj,H,I,rfl,h⟩
theorem yD{x j pos}:PE X (.Constant (.str x) j pos) (tC (.str x)):=λ_ _ _ H _ I h=>Calls.Constant_str ⟨.str x,H,I.tok _,⟨_,rfl⟩,h⟩
def Gl(X:Cx)(x:Str):Prop:=X.env.kindOf x=some .globalImplicit
theorem uc{E:Value->Shared->Prop}{pins:List (Addr×Obj)}{s:Shared}{σ:St}{H:Hp}{x:Str}{u:Value}{pos:Pos}{Q:Value->Shared->Prop}(I:Inv X pins σ H s)(hg:Gl X x)(hm:X.mg x=some u)(h:Q u s)
  (hd:gV x:=by decide):wpAny (model X.prog X.w) X.A (eval (.Name x pos) X.env) Q E s:=
 Ys I.ok.kind hg (Calls.loadGlobal_global (by rw[I.ok.glob];exact I.mod.glob.keeps I.bk) hm h) hd
theorem kJ{E:Value->Shared->Prop}{pins:List (Addr×Obj)}{s:Shared}{σ:St}{H:Hp}{x:Str}{u:Value}{pos:Pos}{Q:Value->Shared->Prop}(I:Inv X pins σ H s)(hg:Gl X x)(hm:X.mg x=none)(hv:bootBuiltins x=some u)(h:Q u s)
  (hn:x≠"__name__":=by decide) (hd:gV x:=by decide):wpAny (model X.prog X.w) X.A (eval (.Name x pos) X.env) Q E s:=by
 obtain⟨mb,h1,h2⟩:=I.mod.blt;exact Ys I.ok.kind hg (Calls.loadGlobal_builtin (by rw[I.ok.glob];exact I.mod.glob.keeps I.bk) hm (by rw[I.ok.blt];exact h1.keeps I.bk) ((h2 x hn).trans hv) h) hd
theorem HK{x:Str}{v:V}{u:Value}{pos:Pos}(hg:Gl X x)(hm:X.mg x=some u)(r:RelV v u)(hd:gV x:=by decide):PE X (.Name x pos) (tC v):=
 λ_ _ _ H _ I h=>uc I hg hm ⟨v,H,I,r,h⟩ hd
theorem vD{x:Str}{v:V}{u:Value}{pos:Pos}(hg:Gl X x)(hm:X.mg x=none)(hv:bootBuiltins x=some u)(r:RelV v u)(hn:x≠"__name__":=by decide)(hd:gV x:=by decide):PE X (.Name x pos) (tC v):=
 λ_ _ _ H _ I h=>kJ I hg hm hv ⟨v,H,I,r,h⟩ hn hd
variable{a b:Expr}{ta tb:TE}{pos:Pos}
def PC(X:Cx)(op:CmpOp)(a b:Expr)(t:TE):Prop:=
 ∀(pins:List (Addr×Obj)) (s:Shared) (σ:St) (H:Hp) (Q:VK),Inv X pins σ H s->t σ H Q->
  wpAny (model X.prog X.w) X.A (eval a X.env) (λv Lm=>wpAny (model X.prog X.w) X.A (eval b X.env) (λu Nl=>wpAny (model X.prog X.w) X.A (compareOp op v u) (EP X pins σ Q) X.xe Nl) X.xe Lm) X.xe s
theorem BI(b:Expr){op:CmpOp}(h:op≠.In)(h2:op≠.NotIn):behindInMarks op b=false:=by
 have e1:(op==CmpOp.In)=false:=by cases op<;>first|rfl|exact absurd rfl h
 have e2:(op==CmpOp.NotIn)=false:=by cases op<;>first|rfl|exact absurd rfl h2
 cases b<;>simp[behindInMarks,e1,e2]
def DP(ta:TE):TE:=λσ H Q=>ta σ H λx H1=>Q (.bl (decide (x=.aj))) H1
def EN(ta:TE):TE:=λσ H Q=>ta σ H λx H1=>Q (.bl (!decide (x=.aj))) H1
theorem RelV.zf{x:V}{v:Value}(r:RelV x v):(v==Value.none)=decide (x=.aj):=by
 cases x with
 |aj=>cases r;rfl
 |bl _=>cases r;rfl
 |int _=>obtain⟨t,rfl⟩:=r;rfl
 |str _=>obtain⟨t,rfl⟩:=r;rfl
 |lG _=>obtain⟨t,rfl⟩:=r;rfl
 |qR _=>obtain⟨t,rfl⟩:=r;rfl
 |ref _=>cases r;rfl
 |ty _=>cases r;rfl
theorem Fo{j pos'}(ha:PE X a ta):PC X .Is a (.Constant .none j pos') (DP ta):=by
 intro pins s σ H Q I h;refine aL (ha pins s σ H _ I h) λv s1 ⟨x,H1,I1,r1,q1⟩=>?_;exact Constant_none (is_none_gen ⟨.bl _,H1,I1,by rw[r1.zf];rfl,q1⟩)
theorem wO{j pos'}(ha:PE X a ta):PC X .IsNot a (.Constant .none j pos') (EN ta):=by
 intro pins s σ H Q I h;refine aL (ha pins s σ H _ I h) λv s1 ⟨x,H1,I1,r1,q1⟩=>?_;exact Constant_none (isnot_none_gen ⟨.bl _,H1,I1,by rw[r1.zf];rfl,q1⟩)
def tB(t:TE):TT:=λσ H Q=>t σ H λx H1=>∃c,x=.bl c/\Q c H1
theorem Gn{op:CmpOp}{t:TE}(h:PC X op a b t)(h1:behindInMarks op b=false:=by first|exact BI _ (by decide) (by decide)|rfl):PE X (.Compare a [op] [b] pos) t:=λpins s σ H Q I hw=>wpAny_Compare1 (h pins s σ H Q I hw) h1
theorem zG{op:CmpOp}{t:TE}(h:PC X op a b t)(h1:behindInMarks op b=false:=by first|exact BI _ (by decide) (by decide)|rfl):PT X (.Compare a [op] [b] pos) (tB t):=by
 intro pins s σ H Q I hw;refine YQ (aL (h pins s σ H _ I hw) λv s1 h1=>aL h1 λu s2 h2=>aL h2 λc s3 ⟨x,H1,I1,r1,q1⟩=>?_) h1;obtain⟨d,rfl,q⟩:=q1;cases r1;exact Wh ⟨H1,I1,q⟩
variable{tA QW:TT}{rest:Y4}
def il(t u:TT):TT:=λσ H Q=>t σ H λc H1=>if c=true then u σ H1 Q else Q false H1
def f6(t u:TT):TT:=λσ H Q=>t σ H λc H1=>if c=true then Q true H1 else u σ H1 Q
def fT(t:TT):TT:=λσ H Q=>t σ H λc H1=>Q (!c) H1
theorem Kk(ha:PT X a tA):PW X (.BoolOp .And [a] pos) tA:=by
 intro wh pins s σ H Q I h;refine isTrue_and (aL (ha pins s σ H Q I h) λc s1 e=>?_);cases c with
 |true=>exact isTrue_and_nil e
 |false=>exact e
theorem Ff(ha:PT X a tA):PW X (.BoolOp .Or [a] pos) tA:=by
 intro wh pins s σ H Q I h;refine isTrue_or (aL (ha pins s σ H Q I h) λc s1 e=>?_);cases c with
 |false=>exact isTrue_or_nil e
 |true=>exact e
theorem ES(ha:PT X a tA)(hb:PW X (.BoolOp .And (b::rest) pos) QW):PW X (.BoolOp .And (a::b::rest) pos) (il tA QW):=by
 intro wh pins s σ H Q I h;refine isTrue_and (aL (ha pins s σ H _ I h) λc s1 ⟨H1,I1,q1⟩=>?_);cases c with
 |true=>exact hb wh pins s1 σ H1 Q I1 q1
 |false=>exact⟨H1,I1,q1⟩
theorem Hi(ha:PT X a tA)(hb:PW X (.BoolOp .Or (b::rest) pos) QW):PW X (.BoolOp .Or (a::b::rest) pos) (f6 tA QW):=by
 intro wh pins s σ H Q I h;refine isTrue_or (aL (ha pins s σ H _ I h) λc s1 ⟨H1,I1,q1⟩=>?_);cases c with
 |true=>exact⟨H1,I1,q1⟩
 |false=>exact hb wh pins s1 σ H1 Q I1 q1
theorem KD(ha:PT X a tA):PT X (.UnaryOp .Not a pos) (fT tA):=by
 intro pins s σ H Q I h;exact isTrue_not (aL (ha pins s σ H (λc H1=>Q (!c) H1) I h) λ_ _=>by rintro⟨a,b,c⟩;exact ⟨a,b,c⟩)
def Jg(ta tb:TE):TE:=λσ H Q=>ta σ H λx H1=>∃c,x=.bl c/\if c=true then tb σ H1 Q else Q (.bl false) H1
theorem HD{op}{t:TE}(h:PE X a t):PE X (.BoolOp op [a] pos) t:=λpins s σ H Q I hw=>BoolOp_one (h pins s σ H Q I hw)
theorem D4(ha:PE X a ta)(hb:PE X (.BoolOp .And (b::rest) pos) tb):PE X (.BoolOp .And (a::b::rest) pos) (Jg ta tb):=by
 intro pins s σ H Q I h;refine BoolOp_and (aL (ha pins s σ H _ I h) λv s1 ⟨x,H1,I1,r1,q1⟩=>?_);obtain⟨c,rfl,q1⟩:=q1;cases r1;refine Wh ?_;cases c with
 |true=>exact hb pins s1 σ H1 Q I1 q1
 |false=>exact⟨.bl false,H1,I1,rfl,q1⟩
def GD(t:TT)(ta tb:TE):TE:=λσ H Q=>t σ H λc H1=>if c=true then ta σ H1 Q else tb σ H1 Q
theorem HQ{c:Expr}(hc:PT X c tA)(ha:PE X a ta)(hb:PE X b tb):PE X (.IfExp c a b pos) (GD tA ta tb):=by
 intro pins s σ H Q I h;refine wpAny_IfExp (aL (hc pins s σ H _ I h) λd s1 ⟨H1,I1,q1⟩=>?_);cases d with
 |true=>exact ha pins s1 σ H1 Q I1 q1
 |false=>exact hb pins s1 σ H1 Q I1 q1
end
def bt(K:PySem.W.Frag)(H:Hp)(a:Addr)(xs:List V):Prop:=
 Rd H a (.lst xs)\/
  ∃(o:Obj) (af:Array Value) (n:Nat),K.lookup a=some o/\o.cls=.type "list"/\o.dict=none/\o.data=.seq af n/\af.size<=sizeLine/\Vals xs af.toList
def bH(K:PySem.W.Frag)(H:Hp)(a:Addr)(xs:List V):Prop:=
 Rd H a (.tup xs)\/
  ∃(o:Obj) (af:Array Value) (n:Nat),K.lookup a=some o/\o.cls=.type "tuple"/\o.data=.seq af n/\af.size<=sizeLine/\Vals xs af.toList
noncomputable def Fp:Value->Option V
 |.none=>some .aj
 |.bool b=>some (.bl b)
 |.int i _=>some (.int i)
 |.str x _=>some (.str x)
 |.bytes b _=>some (.lG b)
 |.float b _=>some (.qR b)
 |.ref a=>some (.ref a)
 |.type n=>some (.ty n)
 |_=>none
theorem RelV.abs{x:V}{u:Value}(r:RelV x u):Fp u=some x:=by
 cases x with
 |aj=>cases r;rfl
 |bl _=>cases r;rfl
 |int _=>obtain⟨t,rfl⟩:=r;rfl
 |str _=>obtain⟨t,rfl⟩:=r;rfl
 |lG _=>obtain⟨t,rfl⟩:=r;rfl
 |qR _=>obtain⟨t,rfl⟩:=r;rfl
 |ref _=>cases r;rfl
 |ty _=>cases r;rfl
theorem RelV.inj{x y:V}{u:Value}(r:RelV x u)(q:RelV y u):x=y:=Pv (r.abs.symm.trans q.abs)
theorem Vals.inj:∀ {xs ys:List V} {us:Y5},Vals xs us->Vals ys us->xs=ys
 |_,_,_,.nil,.nil=>rfl
 |_,_,_,.cons r t,.cons r' t'=>by rw[r.inj r',Vals.inj t t']
section
variable{X:Cx}{pins:List (Addr×Obj)}{σ:St}{H:Hp}{s:Shared}{a:Addr}{xs ys:List V}
theorem bt.of{K:PySem.W.Frag}(h:H a=some (.lst xs)):bt K H a xs:=.inl (.inl h)
theorem Inv.list(I:Inv X pins σ H s)(h:bt X.K H a xs):∃af:Y5,Vals xs af/\PlainL s.heap a af.toArray/\xs.length<=sizeLine:=by
 rcases h with h|⟨o,af,n,hk,hc,hd,hs,hz,r⟩
 ·obtain⟨z,af,n,r,e⟩:=h.ok I.aK
  exact⟨af,r,⟨_,n,e,rfl,rfl,rfl⟩,z⟩
 ·refine⟨af.toList,r,⟨o,n,I.c7 a o hk,hc,hd,by simpa using hs⟩,?_⟩
  have e:=r.length;simp only[WU]at e;omega
theorem Inv.tuple(I:Inv X pins σ H s)(h:bH X.K H a xs):∃af:Y5,Vals xs af/\IsTup s.heap a af.toArray/\xs.length<=sizeLine:=by
 rcases h with h|⟨o,af,n,hk,hc,hs,hz,r⟩
 ·obtain⟨z,af,r,p⟩:=h.ok I.aK
  exact⟨af,r,p,z⟩
 ·refine⟨af.toList,r,⟨o,I.c7 a o hk,hc,n,by simpa using hs⟩,?_⟩
  have e:=r.length;simp only[WU]at e;omega
theorem Inv.AO(I:Inv X pins σ H s)(h:bt X.K H a xs)(h':bt X.K H a ys):xs=ys:=by
 obtain⟨af,r,⟨o,n,e,_,_,d⟩,_⟩:=I.list h;obtain⟨its',r',⟨o',n',e',_,_,d'⟩,_⟩:=I.list h';rw[e]at e';cases e';rw[d]at d';injection d' with d1 _;have:af=its':=by simpa using congrArg Array.toList d1
 subst this;exact r.inj r'
theorem Inv.A5(I:Inv X pins σ H s)(h:bH X.K H a xs)(h':bH X.K H a ys):xs=ys:=by
 obtain⟨af,r,⟨o,e,_,n,d⟩,_⟩:=I.tuple h;obtain⟨its',r',⟨o',e',_,n',d'⟩,_⟩:=I.tuple h';rw[e]at e';cases e';rw[d]at d';injection d' with d1 _;have:af=its':=by simpa using congrArg Array.toList d1
 subst this;exact r.inj r'
end
noncomputable abbrev Cx.iD(X:Cx)(E:Value->Shared->Prop):Cx:={X with xe:=E}
noncomputable abbrev Cx.fJ(X:Cx):Cx:=X.iD λ_ _=>False
theorem Cx.Ok.iD{X:Cx}(ok:X.Ok)(E:Value->Shared->Prop):(X.iD E).Ok:=
 ⟨ok.mod,ok.kind,ok.glob,ok.blt,ok.above,ok.inj,ok.has,ok.m4,ok.hd,ok.frames,ok.pk,ok.A1,ok.bs,ok.jP,ok.oM,ok.rn,ok.gz,ok.l4⟩
theorem Cx.Ok.jL{X:Cx}{E:Value->Shared->Prop}(ok:(X.iD E).Ok):X.Ok:=
 ⟨ok.mod,ok.kind,ok.glob,ok.blt,ok.above,ok.inj,ok.has,ok.m4,ok.hd,ok.frames,ok.pk,ok.A1,ok.bs,ok.jP,ok.oM,ok.rn,ok.gz,ok.l4⟩
section
variable{X:Cx}{pins:List (Addr×Obj)}{σ:St}{H:Hp}{s:Shared}{E:Value->Shared->Prop}
theorem Inv.iD(I:Inv X pins σ H s)(E:Value->Shared->Prop):Inv (X.iD E) pins σ H s:=⟨I.ok.iD E,I.os,I.bare,I.base,I.loc,I.cell,I.free,I.gu,I.pin,I.aK,I.len⟩
theorem Inv.jL(I:Inv (X.iD E) pins σ H s):Inv X pins σ H s:=⟨I.ok.jL,I.os,I.bare,I.base,I.loc,I.cell,I.free,I.gu,I.pin,I.aK,I.len⟩
theorem SP.jL{D:Ends}{f:Flow}{s':Shared}(h:SP (X.iD E) pins D f s'):SP X pins D f s':=by
 cases f with
 |next=>obtain⟨Ll,H',I,q⟩:=h;exact⟨Ll,H',I.jL,q⟩
 |brk=>obtain⟨Ll,H',I,q⟩:=h;exact⟨Ll,H',I.jL,q⟩
 |cont=>obtain⟨Ll,H',I,q⟩:=h;exact⟨Ll,H',I.jL,q⟩
 |ret u=>obtain⟨v,Ll,H',I,r,q⟩:=h;exact⟨v,Ll,H',I.jL,r,q⟩
theorem cq.fJ{st:List Stmt}{t:TS}(h:cq X.fJ st t):cq X st t:=λpins s σ H D I hw=>
 UF (h pins s σ H D (I.iD _) hw) (λ_ _ q=>q.jL) λ_ _ z=>False.elim z
end
section
variable{X:Cx}{st:Stmt}{rest:List Stmt}{t u:TS}{e:Expr}{te:TE}{pos:Pos}
def Kh:TS:=λD σ H=>D.nx σ H
def AE(t u:TS):TS:=λD σ H=>t {D with nx:=u D} σ H
theorem GB:cq X [] Kh:=λ_ _ σ H _ I h=>Yi ⟨σ,H,I,h⟩
theorem Kx(h1:PS X st t)(h2:cq X rest u):cq X (st::rest) (AE t u):=by
 intro pins s σ H D I h;refine wpAny_execs_cons (aL (h1 pins s σ H {D with nx:=u D} I h) λf s1 q=>?_);cases f with
 | next=>
  obtain⟨Ll,H',I',q⟩:=q;exact h2 pins s1 Ll H' D I' q
 |ret v=>exact q
 |brk=>exact q
 |cont=>exact q
theorem Gq(h1:PS X st t):cq X [st] t:=by
 intro pins s σ H D I h;refine wpAny_execs_cons (aL (h1 pins s σ H D I h) λf s1 q=>?_);cases f with
 |next=>exact Yi q
 |ret v=>exact q
 |brk=>exact q
 |cont=>exact q
theorem Inv.quiet{pins:List (Addr×Obj)}{σ:St}{H:Hp}{s:Shared}(I:Inv X pins σ H s):interactive X.env=false:=by simp[interactive,I.ok.kind]
def Cd(te:TE):TS:=λD σ H=>te σ H λ_ H1=>D.nx σ H1
theorem jg(he:PE X e te)(hs:swapsWith e none pos.line X.env=pure false:=by rfl):PS X (.Expr e pos) (Cd te):=by
 intro pins s σ H D I h;exact wpAny_Expr_any (aL (he pins s σ H _ I h) λv s1=>by rintro⟨x,H1,I1,r1,q1⟩;exact ⟨σ,H1,I1,q1⟩) I.quiet hs
def G3(te:TE):TS:=λD σ H=>te σ H D.rt
theorem p5(he:PE X e te):PS X (.Return (some e) pos) (G3 te):=by
 intro pins s σ H D I h;exact wpAny_Return_some (aL (he pins s σ H _ I h) λv s1=>by rintro⟨x,H1,I1,r1,q1⟩;exact ⟨x,σ,H1,I1,r1,q1⟩)
def EE:TS:=λD _ H=>D.rt .aj H
theorem FV:PS X (.Return none pos) EE:=λ_ _ σ H _ I h=>wpAny_Return_none ⟨.aj,σ,H,I,rfl,h⟩
def D3(c:TT)(t u:TS):TS:=λD σ H=>c σ H λb H1=>if b=true then t D σ H1 else u D σ H1
theorem He{c:Expr}{a b:List Stmt}{tc:TT}(hc:PT X c tc)(ha:cq X a t)(hb:cq X b u):PS X (.If c a b pos) (D3 tc t u):=by
 intro pins s σ H D I h;refine wpAny_If (aL (hc pins s σ H _ I h) λd s1 ⟨H1,I1,q1⟩=>?_);cases d with
 |true=>exact ha pins s1 σ H1 D I1 q1
 |false=>exact hb pins s1 σ H1 D I1 q1
end
noncomputable abbrev TG:=V->St->Hp->(St->Hp->Prop)->Prop
noncomputable abbrev iM:=List V->St->Hp->(St->Hp->Prop)->Prop
def PG(X:Cx)(target:Expr)(t:TG):Prop:=
 ∀(pins:List (Addr×Obj)) (s:Shared) (σ:St) (H:Hp) (v:V) (u:Value) (Q:St->Hp->Prop),Inv X pins σ H s->RelV v u->t v σ H Q->
  wpAny (model X.prog X.w) X.A (assign target X.env u) (λ_ s'=>∃Ll H',Inv X pins Ll H' s'/\Q Ll H') X.xe s
def di(X:Cx)(ts:Y4)(t:iM):Prop:=
 ∀(pins:List (Addr×Obj)) (s:Shared) (σ:St) (H:Hp) (vs:List V) (us:Y5) (Q:St->Hp->Prop),Inv X pins σ H s->Vals vs us->t vs σ H Q->
  wpAny (model X.prog X.w) X.A (assignInOrder ((assignEach ts X.env).map (·.2)) us) (λ_ s'=>∃Ll H',Inv X pins Ll H' s'/\Q Ll H') X.xe s
noncomputable abbrev tT:=V->V->V->Hp->(Hp->Prop)->Prop
def xa(X:Cx)(t:tT):Prop:=
 ∀(pins:List (Addr×Obj)) (s:Shared) (σ:St) (H:Hp) (o i v:V) (ov iv u:Value) (Q:Hp->Prop),Inv X pins σ H s->RelV o ov->RelV i iv->RelV v u->t o i v H Q->
  wpAny (model X.prog X.w) X.A (setItem ov iv u) (λ_ s'=>∃H',Inv X pins σ H' s'/\Q H') X.xe s
section
variable{X:Cx}{pos:Pos}
def aF(i:Nat):TG:=λv σ H Q=>Q (σ.set i (some v)) H
theorem Dq{i:Nat}{x:Str}(hN:X.N.Nodup)(hi:X.N[i]? =some x)(hx:Loc X.env.scope x)(hf:X.fn x=true\/X.env.scope.names.lookup x=some .local:=by first|exact .inl rfl|exact .inr rfl|assumption):PG X (.Name x pos) (aF i):=by
 intro pins s σ H v u Q I r h;exact wpAny_assign_Name (BH I hN hi hx r (λs' I'=>⟨_,H,I',h⟩) hf)
noncomputable def Jx:iM:=λvs σ H Q=>vs=[]/\Q σ H
noncomputable def By(t:TG)(u:iM):iM:=λvs σ H Q=>∃v r,vs=v::r/\t v σ H λLl H'=>u r Ll H' Q
theorem JH:di X [] Jx:=by
 intro pins s σ H vs us Q I r h;obtain⟨e,h⟩:=h;subst e;cases r;exact assignInOrder_nil ⟨σ,H,I,h⟩
theorem Dv{e:Expr}{es:Y4}{t:TG}{u:iM}(h1:PG X e t)(h2:di X es u)
  (hs:(assignEach (e::es) X.env).map (·.2)=assign e X.env::(assignEach es X.env).map (·.2):=by rfl):di X (e::es) (By t u):=by
 intro pins s σ H vs us Q I r h;obtain⟨v,vr,e1,h⟩:=h;subst e1;cases r with
 | cons r rr=>
  rw[hs];refine assignInOrder_cons (aL (h1 pins s σ H _ _ _ I r h) λ_ s1 ⟨Q3,H1,I1,q1⟩=>?_);exact h2 pins s1 Q3 H1 _ _ Q I1 rr q1
def g7(K:PySem.W.Frag)(n:Nat)(t:iM):TG:=λv σ H Q=>∃a xs,v=.ref a/\bH K H a xs/\xs.length=n/\t xs σ H Q
theorem C3{es:Y4}{k:Nat}{t:iM}{n:Nat}(hc:X.calm=true)(h:di X es t)
  (hn:(assignEach es X.env).length=n:=by rfl) (Sa:(assignEach es X.env).findIdx? (·.1)=none:=by rfl):PG X (.Tuple es k pos) (g7 X.K n t):=by
 intro pins s σ H v u Q I r hw;obtain⟨a,xs,e1,hq,hl,hw⟩:=hw;subst e1;cases r;obtain⟨af,rv,ht,hz⟩:=I.tuple hq;refine assign_Tuple_tuple (I.ok.hd hc) ht (by simp[hn, <-hl,rv.length]) Sa λh' hx=>?_
 have I1:Inv X pins σ H {s with heap:=h'}:=I.kept (t':=s.toks) λb o e=>hx b o (Pi (GE e)) e;exact h pins _ σ H xs _ Q I1 (by simpa using rv) hw
def CL(to ti:TE)(t:tT):TG:=λv σ H Q=>to σ H λo H1=>ti σ H1 λi H2=>t o i v H2 λH3=>Q σ H3
theorem vY{o i:Expr}{to ti:TE}{t:tT}(ho:PE X o to)(hi:PE X i ti)(hs:xa X t)
  (ha:∀v,assign (.Subscript o i pos) X.env v=(do
   let ov <-holding [v] (eval o X.env)
   let iv <-holding [v,ov] (eval i X.env)
   standAt pos
   holding [v,ov,iv] (setItem ov iv v)
   release [v,ov,iv] []):=by intro _;rfl):PG X (.Subscript o i pos) (CL to ti t):=by
 intro pins s σ H v u Q I r h;rw[ha];refine mB (WY (aL (ho pins s σ H _ I h) λov s1 ⟨x,H1,I1,r1,q1⟩=>?_));refine mB (WY (aL (hi pins s1 σ H1 _ I1 q1) λiv s2 ⟨y,H2,I2,r2,q2⟩=>?_));refine mB (Yx (mB (WY (aL (hs pins s2 σ H2 x y v ov iv u _ I2 r1 r2 r q2) λ_ s3 ⟨H3,I3,q3⟩=>?_))));exact wpAny_release ⟨σ,H3,I3,q3⟩
def kM(te:TE)(g:TG):TS:=λD σ H=>te σ H λx H1=>g x σ H1 D.nx
theorem qA{tg e:Expr}{te:TE}{g:TG}(he:PE X e te)(hg:PG X tg g)(hs:swapsWithSole [tg] e pos.line X.env=pure false:=by rfl)(hw:swappedStores [tg] e X.env=pure none:=by rfl)
  (h1:(assignEach [tg] X.env).map (·.2)=[assign tg X.env]:=by rfl):PS X (.Assign [tg] e pos) (kM te g):=by
 intro pins s σ H D I h;refine wpAny_Assign_stores (aL (he pins s σ H _ I h) λv s1 ⟨x,H1,I1,r1,q1⟩=>?_) hs hw;rw[h1];exact aL (hg pins s1 σ H1 x v _ I1 r1 q1) λ_ s2 q=>q
theorem qI{i:Nat}{x:Str}{e:Expr}{te:TE}{pos':Pos}(hN:X.N.Nodup)(hi:X.N[i]? =some x)(hx:Loc X.env.scope x)(he:PE X e te)(hs:swapsWith e (some (.Name x pos')) pos.line X.env=pure false:=by rfl)(hf:X.fn x=true\/X.env.scope.names.lookup x=some .local:=by first|exact .inl rfl|exact .inr rfl|assumption):
  PS X (.Assign [.Name x pos'] e pos) (kM te (aF i)):=by
 intro pins s σ H D I h;refine wpAny_Assign_Name (aL (he pins s σ H _ I h) λv s1 ⟨y,H1,I1,r1,q1⟩=>?_) hs;exact BH I1 hN hi hx r1 (λs2 I2=>⟨_,H1,I2,q1⟩) hf
end
structure It where
 go:Nat->Hp->Prop
 lV:Nat->Hp->V->Hp->Prop
 stop:Nat->Hp->Prop
def cO(X:Cx)(pins:List (Addr×Obj))(H:Hp)(b:Addr):Prop:=
 H b=none/\b≠X.env.locals/\b∉X.fs/\(b∈X.ex\/X.cN.heap.objs.size<=b)/\(∀x c,X.env.cells.lookup x=some c->c≠b)/\∀p∈X.pn++pins,p.1≠b
theorem Inv.jG{X:Cx}{pins:List (Addr×Obj)}{σ:St}{H H':Hp}{s:Shared}{b:Addr}(I:Inv X pins σ H s)(hb:s.heap.objs.size<=b)(hn:H' b=none):cO X pins H' b:=by
 refine⟨hn,Wr (MC I.lt hb),I.DJ hb,.inr (PK I.sz hb),λx c e z=>?_,λp hp z=>?_⟩
 ·obtain⟨v,q⟩:=I.cell x c e
  exact absurd (MC q.lt (by rw[z];exact hb)) (We _)
 ·exact absurd (MC (GE (I.pin p hp).1) (by rw[z];exact hb)) (We _)
structure Turn(P:Program)(w:World)(K:PySem.W.Frag)(tg:Expr)(J:It)(fp:Y3)(it:Addr)(tn:Nat->Heap->Prop):Prop where
 mem:it∈fp
 obj:∀i h,tn i h->∀b∈fp,∃o,h.get? b=some o/\∀v,o.data≠.cell v
 keep:∀i h h',tn i h->(∀b∈fp,∀o,h.get? b=some o->h'.get? b=some o)->tn i h'
 item:∀(X:Cx),X.prog=P->X.w=w->X.K=K->X.calm=true->∀(i:Nat) (pins:List (Addr×Obj)) (s:Shared) (σ:St) (H:Hp) (E:Value->Shared->Prop),Inv X pins σ H s->(∀b∈fp,cO X pins H b)->tn i s.heap->J.go i H->
  wpAny (model P w) X.A (pyNext (.ref it)) (λr s1=>∃u,r=some u/\
   wpAny (model P w) X.A (letOwnedTupleGo tg (.ref it) u) (λ_ s2=>∃x H',Inv X pins σ H' s2/\RelV x u/\J.lV i H x H'/\tn (i+1) s2.heap/\∀b∈fp,H' b=none) E s1) E s
 done:∀(X:Cx),X.prog=P->X.w=w->X.K=K->X.calm=true->∀(i:Nat) (pins:List (Addr×Obj)) (s:Shared) (σ:St) (H:Hp) (E:Value->Shared->Prop),Inv X pins σ H s->(∀b∈fp,cO X pins H b)->tn i s.heap->J.stop i H->
  wpAny (model P w) X.A (pyNext (.ref it)) (λr s1=>r=none/\Inv X pins σ H s1) E s
 self:∀(A:Around) (i:Nat) (s:Shared) (Q:Value->Shared->Prop) (E:Value->Shared->Prop),tn i s.heap->Q (.ref it) s->wpAny (model P w) A (pyIter (.ref it)) Q E s
noncomputable abbrev TI:=St->Hp->(It->Hp->Prop)->Prop
def si(X:Cx)(pins:List (Addr×Obj))(σ:St)(tg:Expr)(R:It->Hp->Prop)(RD:Value)(s2:Shared):Prop:=
 ∃(it:Addr) (fp:Y3) (tn:Nat->Heap->Prop) (J:It) (H':Hp),RD=.ref it/\Inv X pins σ H' s2/\Turn X.prog X.w X.K tg J fp it tn/\tn 0 s2.heap/\(∀b∈fp,cO X pins H' b)/\R J H'
def PI(X:Cx)(tg iter:Expr)(wi:TI):Prop:=
 ∀(pins:List (Addr×Obj)) (s:Shared) (σ:St) (H:Hp) (R:It->Hp->Prop),Inv X pins σ H s->wi σ H R->
  wpAny (model X.prog X.w) X.A (eval iter X.env) (λv s1=>wpAny (model X.prog X.w) X.A (pyIter v) (si X pins σ tg R) X.xe s1) X.xe s
theorem kL{M:Model}{A:Around}{E:Value->Shared->Prop}{s:Shared}{tg:Expr}{it:Addr}{u:Value}{o:Obj}{n:String}{vs:Array Value}{Q:Unit->Shared->Prop}(ho:s.heap.get? it=some o)(hc:o.cls=.type n)(hd:o.data=.fields vs)
  (hn:["enumerate","zip","dict_itemiterator","dict_reverseitemiterator","odict_iterator","itertools.zip_longest","itertools.pairwise"].contains n=false) (hQ:Q () s):wpAny M A (letOwnedTupleGo tg (.ref it) u) Q E s:=by
 unfold letOwnedTupleGo
 cases tg<;>first
  |exact JO hQ
  |(cases u<;>first
    |exact JO hQ
    | (refine mB (wpAny_load ho ?_)
       rw[hc,hd];show wpAny M A (if(["enumerate","zip","dict_itemiterator","dict_reverseitemiterator","odict_iterator","itertools.zip_longest","itertools.pairwise"].contains n&&vs[0]? ==some (rawInt _))=true then _ else _) Q E s
       rw[Da (by intro h;rw[hn,Bool.false_and]at h;cases h)]
       exact JO hQ))
noncomputable def oh(K:PySem.W.Frag)(a:Addr):It:=
 ⟨λi H=>∃xs x,bt K H a xs/\xs[i]? =some x,λi H x H'=>H'=H/\∀xs,bt K H a xs->xs[i]? =some x,λi H=>∃xs,bt K H a xs/\xs.length<=i⟩
noncomputable def nV(K:PySem.W.Frag)(a:Addr):It:=
 ⟨λi H=>∃xs x,bH K H a xs/\xs[i]? =some x,λi H x H'=>H'=H/\∀xs,bH K H a xs->xs[i]? =some x,λi H=>∃xs,bH K H a xs/\xs.length<=i⟩
noncomputable def bV(lo:Int)(n:Nat):It:=⟨λi _=>i<n,λi H x H'=>H'=H/\x=.int (lo+i),λi _=>n<=i⟩
theorem BX{P:Program}{w:World}{K:PySem.W.Frag}{tg:Expr}(a it:Addr):Turn P w K tg (oh K a) [it] it (λi h=>h.IsListIter it a i) where
 mem:=by simp
 obj:=λi h st b hb=>by
  have e:b=it:=by simpa using hb
  subst e;obtain⟨o,e,c,d⟩:=st;exact⟨o,e,λv z=>by rw[d]at z;cases z⟩
 keep:=λi h h' st k=>st.at λo e=>k it (by simp) o e
 item:=by
  intro X hP hw hK hc i pins s σ H E I hf st hg;subst hP hw hK;obtain⟨xs,x,hq,hx⟩:=hg;obtain⟨af,rv,p,hz⟩:=I.list hq;obtain⟨u,hu,ru⟩:=rv.get hx;obtain⟨f0,f1,f2,f3,f4,f5⟩:=hf it (by simp)
  refine YH st p.isList (x:=u) (by simpa using hu) λh' Mz sb=>?_
  have I1:Inv X pins σ H {s with heap:=h'}:=I.turned (t':=s.toks) (λb o hb e=>(sb.2 b hb).trans e) f0 f1 f3 f4 f5;obtain⟨o,e,c,d⟩:=id Mz;exact⟨u,rfl,kL (s:={s with heap:=h'}) e c d (by decide) ⟨x,H,I1,ru,⟨rfl,λys hy=>by rw[I.AO hy hq];exact hx⟩,Mz,λb hb=>(hf b hb).1⟩⟩
 done:=by
  intro X hP hw hK hc i pins s σ H E I hf st hg;subst hP hw hK;obtain⟨xs,hq,hx⟩:=hg;obtain⟨af,rv,p,hz⟩:=I.list hq;obtain⟨f0,f1,f2,f3,f4,f5⟩:=hf it (by simp)
  have hl:=rv.length;exact YR (I.ok.hd hc) st p.isList (by simp;omega) λh' eb=>⟨rfl,I.turned (t':=s.toks) (λb o hb e=>eb b o hb e) f0 f1 f3 f4 f5⟩
 self:=λ_ _ _ _ _ st h=>wpAny_pyIter_listiter st h
theorem G8{P:Program}{w:World}{K:PySem.W.Frag}{tg:Expr}(a it:Addr):Turn P w K tg (nV K a) [it] it (λi h=>h.IsTupleIter it a i) where
 mem:=by simp
 obj:=λi h st b hb=>by
  have e:b=it:=by simpa using hb
  subst e;obtain⟨o,e,c,d⟩:=st;exact⟨o,e,λv z=>by rw[d]at z;cases z⟩
 keep:=λi h h' st k=>st.at λo e=>k it (by simp) o e
 item:=by
  intro X hP hw hK hc i pins s σ H E I hf st hg;subst hP hw hK;obtain⟨xs,x,hq,hx⟩:=hg;obtain⟨af,rv,p,hz⟩:=I.tuple hq;obtain⟨u,hu,ru⟩:=rv.get hx;obtain⟨f0,f1,f2,f3,f4,f5⟩:=hf it (by simp)
  refine wpAny_pyNext_tuple_item st (show s.heap.IsTuple a af.toArray from p) (x:=u) (by simpa using hu) λh' Mz sb=>?_
  have I1:Inv X pins σ H {s with heap:=h'}:=I.turned (t':=s.toks) (λb o hb e=>(sb.2 b hb).trans e) f0 f1 f3 f4 f5;obtain⟨o,e,c,d⟩:=id Mz;exact⟨u,rfl,kL (s:={s with heap:=h'}) e c d (by decide) ⟨x,H,I1,ru,⟨rfl,λys hy=>by rw[I.A5 hy hq];exact hx⟩,Mz,λb hb=>(hf b hb).1⟩⟩
 done:=by
  intro X hP hw hK hc i pins s σ H E I hf st hg;subst hP hw hK;obtain⟨xs,hq,hx⟩:=hg;obtain⟨af,rv,p,hz⟩:=I.tuple hq;obtain⟨f0,f1,f2,f3,f4,f5⟩:=hf it (by simp)
  have hl:=rv.length;exact wpAny_pyNext_tuple_end (I.ok.hd hc) st (show s.heap.IsTuple a af.toArray from p) (by simp;omega) λh' eb=>⟨rfl,I.turned (t':=s.toks) (λb o hb e=>eb b o hb e) f0 f1 f3 f4 f5⟩
 self:=λ_ _ _ _ _ st h=>wpAny_pyIter_tupleiter st h
theorem IC{P:Program}{w:World}{K:PySem.W.Frag}{tg:Expr}(it:Addr)(lo:Int)(n:Nat):Turn P w K tg (bV lo n) [it] it (λi h=>IsRangeIter h it (lo+(i:Nat)*1) ((n:Int) - (i:Nat)) 1) where
 mem:=by simp
 obj:=λi h st b hb=>by
  have e:b=it:=by simpa using hb
  subst e
  exact⟨_,st,λv z=>by
   have z':Data.fields _=Data.cell v:=z;cases z'⟩
 keep:=λi h h' st k=>k it (by simp) _ st
 item:=by
  intro X hP hw hK hc i pins s σ H E I hf st hg;subst hP hw hK;obtain⟨f0,f1,f2,f3,f4,f5⟩:=hf it (by simp)
  have W:=Walks.range (prog:=X.prog) (w:=X.w) (I.ok.hd hc) it lo 1 n;refine W.item i s _ _ hg st λv h' tk hv Mz kk=>?_;obtain⟨t,rfl⟩:=hv;have I1:Inv X pins σ H {s with heap:=h',toks:=tk}:=I.turned (λb o hb e=>kk b o (by simpa using hb) e) f0 f1 f3 f4 f5
  refine⟨_,rfl,kL (s:={s with heap:=h',toks:=tk}) (n:="range_iterator") Mz rfl rfl (by decide) ⟨.int (lo+i),H,I1,⟨t,?_⟩,⟨rfl,rfl⟩,Mz,λb hb=>(hf b hb).1⟩⟩
  rw[Int.mul_one]
 done:=by
  intro X hP hw hK hc i pins s σ H E I hf st hg;subst hP hw hK;obtain⟨f0,f1,f2,f3,f4,f5⟩:=hf it (by simp)
  exact wpAny_pyNext_range_end (I.ok.hd hc) st (by have:n<=i:=hg;omega) λh' eb=>⟨rfl,I.turned (t':=s.toks) (λb o hb e=>eb b o hb e) f0 f1 f3 f4 f5⟩
 self:=λ_ _ _ _ _ st h=>wpAny_pyIter_rangeiter st h
section
variable{X:Cx}{tg:Expr}
theorem AB{pins:List (Addr×Obj)}{σ:St}{H:Hp}{s:Shared}{R:It->Hp->Prop}{E:Value->Shared->Prop}{lo hi:Int}{t u v:Tok}{tk:Nat}(I:Inv X pins σ H s)(h1: -(2 ^ 62)<=lo)(h2:lo<2 ^ 62)(h3: -(2 ^ 62)<=hi)(h4:hi<2 ^ 62)
  (q:R (bV lo (hi - lo).toNat) H):wpAny (model X.prog X.w) X.A (pyIter (.ref s.heap.objs.size)) (si X pins σ tg R) E {s with heap:=s.heap.push {cls:=.type "range",data:=.fields #[.int lo t,.int hi u,.int 1 v]},toks:=tk}:=by
 refine wpAny_pyIter_range (IsRange.new ..) (small_one h1 h2 h3 h4) ?_;have I1:Inv X pins σ H {s with heap:=s.heap.push {cls:=.type "range",data:=.fields #[.int lo t,.int hi u,.int 1 v]},toks:=tk}:=I.kept λb o e=>cp _ e
 refine⟨(s.heap.push {cls:=.type "range",data:=.fields #[.int lo t,.int hi u,.int 1 v]}).objs.size,[(s.heap.push {cls:=.type "range",data:=.fields #[.int lo t,.int hi u,.int 1 v]}).objs.size],_,_,H,rfl,
  I1.kept (t':=tk) λb o e=>cp _ e,IC _ lo (hi - lo).toNat,?_,λb hb=>?_,q⟩
 ·have e1:lo+((0:Nat):Int)*1=lo:=by simp
  have e2:(((hi - lo).toNat:Nat):Int) - ((0:Nat):Int)=Builtin.Range.rangeSize lo hi 1:=by rw[rangeSize_one];split<;>omega
  show IsRangeIter _ _ (lo+((0:Nat):Int)*1) ((((hi - lo).toNat:Nat):Int) - ((0:Nat):Int)) 1;rw[e1,e2];exact FS _ rfl
 ·have e:b=(s.heap.push {cls:=.type "range",data:=.fields #[.int lo t,.int hi u,.int 1 v]}).objs.size:=by simpa using hb
  subst e;exact I1.jG (Fk _) (I1.aK.fresh (Fk _))
def mn(ta:TA):TI:=λσ H R=>ta σ H λvs H1=>∃j:Int,vs=[.int j]/\ -(2 ^ 62)<=j/\j<2 ^ 62/\R (bV 0 j.toNat) H1
def iW(ta:TA):TI:=λσ H R=>ta σ H λvs H1=>∃i j:Int,vs=[.int i,.int j]/\(-(2 ^ 62)<=i/\i<2 ^ 62/\ -(2 ^ 62)<=j/\j<2 ^ 62)/\R (bV i (j - i).toNat) H1
theorem Dd{a:Expr}{ta:TA}{p pos:Pos}(hg:Gl X "range")(hm:X.mg "range"=none)(ha:PA X [a] ta)(hs:starEach [a] X.env=[(false,eval a X.env)]:=by rfl):PI X tg (.Call (.Name "range" p) [a] [] pos) (mn ta):=by
 intro pins s σ H R I h;refine Call_ (kJ I hg hm boot_range (V4 (aL (ha pos pins s σ H _ I h) λus s1 ⟨vs,H1,I1,r1,q1⟩=>?_) hs rfl));obtain⟨j,e,q1,q2,q⟩:=q1;subst e;cases r1 with
 | cons r rr=>
  cases rr;obtain⟨t,rfl⟩:=r;exact call_range_1 (AB I1 (by omega) (by omega) q1 q2 (by simpa using q))
theorem KP{a b:Expr}{ta:TA}{p pos:Pos}(hg:Gl X "range")(hm:X.mg "range"=none)(ha:PA X [a,b] ta)(hs:starEach [a,b] X.env=[(false,eval a X.env),(false,eval b X.env)]:=by rfl)(Mu:starEach [b] X.env=[(false,eval b X.env)]:=by rfl):
  PI X tg (.Call (.Name "range" p) [a,b] [] pos) (iW ta):=by
 intro pins s σ H R I h;refine Call_ (kJ I hg hm boot_range (V4 (aL (ha pos pins s σ H _ I h) λus s1 ⟨vs,H1,I1,r1,q1⟩=>?_) (by rw[hs,Mu]) (by rw[Mu];rfl)))
 obtain⟨i,j,e,⟨q1,q2,q3,q4⟩,q⟩:=q1;subst e;cases r1 with
 | cons r rr=>
  cases rr with
  | cons r' rr=>
   cases rr;obtain⟨t,rfl⟩:=r;obtain⟨t',rfl⟩:=r';exact call_range_2 (AB I1 q1 q2 q3 q4 q)
def J0(wi:TI)(g:TG)(tb:TS):TS:=λD σ H=>wi σ H λJ H1=>∃W:Nat->Nat->St->Hp->Prop,(∃m,W 0 m σ H1)/\∀i m σ H,W i m σ H->
 (J.stop i H/\D.nx σ H)\/(J.go i H/\∃N:St->Hp->Prop,(∀Ll H',N Ll H'->∃m',m'<m/\W (i+1) m' Ll H')/\∀x H',J.lV i H x H'->g x σ H' λQP H2=>tb {D with nx:=N,ct:=N,bk:=D.nx} QP H2)
noncomputable def l3(fp:Y3)(h:Heap):List (Addr×Obj):=fp.filterMap λb=>(h.get? b).map λo=>(b,o)
theorem rh{fp:Y3}{h:Heap}{b:Addr}{o:Obj}(hb:b∈fp)(e:h.get? b=some o):(b,o)∈l3 fp h:=S4.mpr ⟨b,hb,by rw[e];rfl⟩
theorem GA{fp:Y3}{h:Heap}{p:Addr×Obj}(hp:p∈l3 fp h):p.1∈fp/\h.get? p.1=some p.2:=by
 obtain⟨b,hb,e⟩:=S4.mp hp;cases q:h.get? b with
 |none=>rw[q]at e;cases e
 | some o=>
  rw[q]at e;have e':(b,o)=p:=Pv e;subst e';exact⟨hb,q⟩
theorem Inv.pinned{pins:List (Addr×Obj)}{σ:St}{H:Hp}{s:Shared}{fp:Y3}(I:Inv X pins σ H s)(hf:∀b∈fp,cO X pins H b)(ho:∀b∈fp,∃o,s.heap.get? b=some o/\∀v,o.data≠.cell v):Inv X (pins++l3 fp s.heap) σ H s:=
 I.yY λp hp=>(KM.mp hp).elim (λz=>I.pin p (FB _ z)) λz=>by
  obtain⟨hb,e⟩:=GA z;obtain⟨f0,f1,f2,_⟩:=hf p.1 hb;obtain⟨o,e',d⟩:=ho p.1 hb;rw[e]at e';cases e';exact⟨e,f0,f1,f2,d⟩
theorem Inv.pe{pins pl:List (Addr×Obj)}{σ:St}{H:Hp}{s:Shared}(I:Inv X (pins++pl) σ H s):Inv X pins σ H s:=I.yY λp hp=>I.pin p (FB _ (KB _ hp))
theorem ET{iter:Expr}{body:List Stmt}{wi:TI}{g:TG}{tb:TS}{pos:Pos}(hp:PassesOwn (model X.prog X.w) X.A X.env X.xe)(hc:X.calm=true)(hi:PI X tg iter wi)(hg:PG X tg g)(hb:cq X body tb)
  (hs:∀x,foldedSetIterable iter X.env x=pure x:=by intro _;rfl):PS X (.For tg iter body [] pos) (J0 wi g tb):=by
 intro pins s σ H D I h;refine wpAny_For (aL (hi pins s σ H _ I h) λv s1 h1=>aL h1 λRD s2 h2=>?_) hs;obtain⟨it,fp,tn,J,H2,e,I2,T,Nn,f2,W,⟨m0,w0⟩,turn⟩:=h2;subst e;have Pn:∀ {H':Hp},(∀b∈fp,H' b=none)->∀b∈fp,cO X pins H' b:=λhn b hb=>⟨hn b hb,(f2 b hb).2⟩;refine codeAny_forLoop_any (λn s'=>∃i Ll H',Inv X pins Ll H' s'/\tn i s'.heap/\(∀b∈fp,H' b=none)/\W i n Ll H') ?_ m0 ⟨0,σ,H2,I2,Nn,λb hb=>(f2 b hb).1,w0⟩;rintro n s3 ⟨i,M4,H3,I3,Td,Tb,w3⟩;rcases turn i n M4 H3 w3 with⟨stop,qn⟩|⟨go,N,hN,step⟩
 ·refine W2 hp (aL (T.done X rfl rfl rfl hc i pins s3 M4 H3 X.xe I3 (Pn Tb) Td stop) λr s4 ⟨hr,I4⟩=>?_)
  subst hr;exact Yi ⟨M4,H3,I4,qn⟩
 ·refine W2 hp (aL (T.item X rfl rfl rfl hc i pins s3 M4 H3 X.xe I3 (Pn Tb) Td go) λr s4 ⟨u,hr,h4⟩=>?_)
  subst hr;refine W2 hp (aL h4 λ_ s5 ⟨x,H5,I5,r5,y5,O6,RF⟩=>?_);have Q5:=I5.pinned (Pn RF) (T.obj _ _ O6);refine W2 hp (aL (hg _ s5 M4 H5 x u _ Q5 r5 (step x H5 y5)) λ_ s6 ⟨NQ,H6,I6,q6⟩=>?_);refine W2 hp (aL (hb _ s6 NQ H6 _ I6 q6) λf s7 q7=>?_)
  have again:∀ {N9:St} {H7:Hp},Inv X (pins++l3 fp s5.heap) N9 H7 s7->N N9 H7->∃m,m<n/\∃i Ll H',Inv X pins Ll H' s7/\tn i s7.heap/\(∀b∈fp,H' b=none)/\W i m Ll H':=λ{N9 H7} I7 n7=>by
   obtain⟨m',hm,w7⟩:=hN N9 H7 n7;refine⟨m',hm,i+1,N9,H7,I7.pe,T.keep _ _ _ O6 λb hb o e=>(I7.pin (b,o) (FB _ (FB _ (rh hb e)))).1,λb hb=>?_,w7⟩;obtain⟨o,e,d⟩:=T.obj _ _ O6 b hb;exact(I7.pin (b,o) (FB _ (FB _ (rh hb e)))).2.1
  cases f with
  |next=>obtain⟨N9,H7,I7,n7⟩:=q7;exact again I7 n7
  |cont=>obtain⟨N9,H7,I7,n7⟩:=q7;exact again I7 n7
  |brk=>obtain⟨N9,H7,I7,q7⟩:=q7;exact⟨N9,H7,I7.pe,q7⟩
  |ret v=>obtain⟨x7,N9,H7,I7,r7,q7⟩:=q7;exact⟨x7,N9,H7,I7.pe,r7,q7⟩
noncomputable abbrev R2:=V->V->Hp->VK->Prop
def a7(X:Cx)(f:Value->Value->Sem Value)(r:R2):Prop:=
 ∀(pins:List (Addr×Obj)) (s:Shared) (σ:St) (H:Hp) (x y:V) (v u:Value) (Q:VK),Inv X pins σ H s->RelV x v->RelV y u->r x y H Q->
  wpAny (model X.prog X.w) X.A (f v u) (EP X pins σ Q) X.xe s
def fS(X:Cx)(f:Value->Sem Value)(r:V->Hp->VK->Prop):Prop:=
 ∀(pins:List (Addr×Obj)) (s:Shared) (σ:St) (H:Hp) (x:V) (v:Value) (Q:VK),Inv X pins σ H s->RelV x v->r x H Q->
  wpAny (model X.prog X.w) X.A (f v) (EP X pins σ Q) X.xe s
def bM(X:Cx)(f:Value)(r:List V->Hp->VK->Prop):Prop:=
 ∀(pins:List (Addr×Obj)) (s:Shared) (σ:St) (H:Hp) (xs:List V) (us:Y5) (Q:VK),Inv X pins σ H s->Vals xs us->r xs H Q->
  wpAny (model X.prog X.w) X.A (call f us) (EP X pins σ Q) X.xe s
def B5(X:Cx)(r:V->Hp->(Bool->Hp->Prop)->Prop):Prop:=
 ∀(pins:List (Addr×Obj)) (s:Shared) (σ:St) (H:Hp) (x:V) (v:Value) (Q:Bool->Hp->Prop),Inv X pins σ H s->RelV x v->r x H Q->
  wpAny (model X.prog X.w) X.A (truthy v) (TP X pins σ Q) X.xe s
def nY(r:R2)(ta tb:TE):TE:=λσ H Q=>ta σ H λx H1=>tb σ H1 λy H2=>r x y H2 Q
def rI(C:Int->Int->Prop)(g:Int->Int->V):R2:=λx y H Q=>∃i j,x=.int i/\y=.int j/\C i j/\Q (g i j) H
def fm(g:Int->Int->V):R2:=λx y H Q=>∃i j,x=.int i/\y=.int j/\Q (g i j) H
variable{a:Expr}{b:Expr}{c:Expr}{ta:TE}{tb:TE}{tc:TE}{pos:Pos}
theorem sg(ha:PE X a ta)(hb:PE X b tb){pins:List (Addr×Obj)}{s:Shared}{σ:St}{H:Hp}{R:V->V->Hp->Prop}(I:Inv X pins σ H s)
  (h:ta σ H λx H1=>tb σ H1 λy H2=>R x y H2) {Q:Value->Shared->Prop} {f:Value->Value->Sem Value}
  (hf:∀v u s2 x y H2,Inv X pins σ H2 s2->RelV x v->RelV y u->R x y H2->wpAny (model X.prog X.w) X.A (f v u) Q X.xe s2):
  wpAny (model X.prog X.w) X.A (eval a X.env) (λv Lm=>wpAny (model X.prog X.w) X.A (eval b X.env) (λu Nl=>wpAny (model X.prog X.w) X.A (f v u) Q X.xe Nl) X.xe Lm) X.xe s:=by
 refine aL (ha pins s σ H _ I h) λv s1 ⟨x,H1,I1,r1,q1⟩=>?_;refine aL (hb pins s1 σ H1 _ I1 q1) λu s2 ⟨y,H2,I2,r2,q2⟩=>?_;exact hf v u s2 x y H2 I2 r1 r2 q2
theorem HX{op:Operator}{r:R2}(ho:a7 X (binaryOp op) r)(ha:PE X a ta)(hb:PE X b tb):PE X (.BinOp a op b pos) (nY r ta tb):=by
 intro pins s σ H Q I h;exact wpAny_BinOp (sg ha hb I h λv u s2 x y H2 I2 rx ry q=>ho pins s2 σ H2 x y v u Q I2 rx ry q)
theorem qf{f:Value->Value->Sem Value}{C:Int->Int->Prop}{g:Int->Int->Int}
  (rule:∀(i j:Int) (t u:Tok) (s:Shared) (Q:Value->Shared->Prop) (E:Value->Shared->Prop),C i j->Q (.int (g i j) s.toks) {s with toks:=s.toks+1}->wpAny (model X.prog X.w) X.A (f (.int i t) (.int j u)) Q E s):
  a7 X f (rI C λi j=>.int (g i j)):=by
 intro pins s σ H x y v u Q I rx ry h;obtain⟨i,j,rfl,rfl,hc,q⟩:=h;obtain⟨t,rfl⟩:=rx;obtain⟨t',rfl⟩:=ry;exact rule i j t t' s _ _ hc ⟨.int (g i j),H,I.tok _,⟨_,rfl⟩,q⟩
theorem yz{f:Value->Value->Sem Value}{g:Int->Int->Int}
  (rule:∀(i j:Int) (t u:Tok) (s:Shared) (Q:Value->Shared->Prop) (E:Value->Shared->Prop),Q (.int (g i j) s.toks) {s with toks:=s.toks+1}->wpAny (model X.prog X.w) X.A (f (.int i t) (.int j u)) Q E s):
  a7 X f (fm λi j=>.int (g i j)):=by
 intro pins s σ H x y v u Q I rx ry h;obtain⟨i,j,rfl,rfl,q⟩:=h;obtain⟨t,rfl⟩:=rx;obtain⟨t',rfl⟩:=ry;exact rule i j t t' s _ _ ⟨.int (g i j),H,I.tok _,⟨_,rfl⟩,q⟩
theorem rf{f:Value->Value->Sem Value}{g:Int->Int->Bool}
  (rule:∀(i j:Int) (t u:Tok) (s:Shared) (Q:Value->Shared->Prop) (E:Value->Shared->Prop),Q (.bool (g i j)) s->wpAny (model X.prog X.w) X.A (f (.int i t) (.int j u)) Q E s):
  a7 X f (fm λi j=>.bl (g i j)):=by
 intro pins s σ H x y v u Q I rx ry h;obtain⟨i,j,rfl,rfl,q⟩:=h;obtain⟨t,rfl⟩:=rx;obtain⟨t',rfl⟩:=ry;exact rule i j t t' s _ _ ⟨.bl (g i j),H,I,rfl,q⟩
def yF(i j:Int):Prop:=0<=j/\j<=1000000/\i.natAbs<2 ^ 64
def ql(i j:Int):Prop:=(-(2 ^ 64)<i/\i<2 ^ 64)\/(-(2 ^ 64)<j/\j<2 ^ 64)
theorem ql.ok{i j:Int}(h:ql i j):IntMulOk i j:=by
 rcases h with⟨h1,h2⟩|⟨h1,h2⟩
 ·exact .of_left (intBits_le_64 h1 h2)
 ·exact .of_right (intBits_le_64 h1 h2)
theorem iO:a7 X (binaryOp .Add) (fm λi j=>.int (i+j)):=yz λ_ _ _ _ _ _ _ q=>add_int q
theorem DA:a7 X (binaryOp .Sub) (fm λi j=>.int (i - j)):=yz λ_ _ _ _ _ _ _ q=>sub_int q
theorem kO:a7 X (binaryOp .Mult) (rI ql λi j=>.int (i*j)):=qf λ_ _ _ _ _ _ _ hc q=>mul_int q hc.ok
theorem de:a7 X (binaryOp .Mod) (rI (λ_ j=>0<j) λi j=>.int (i % j)):=qf λi j _ _ _ _ _ hc q=>by
 have h1:(0:Int)<j:=hc;exact mod_int' (by omega) (by rw[Int.fmod_eq_emod_of_nonneg i (by omega)];exact q)
theorem p8:a7 X (binaryOp .Pow) (rI yF λi j=>.int (i ^ j.toNat)):=qf λ_ _ _ _ _ _ _ hc q=>pow_int_small hc.1 hc.2.1 hc.2.2 q
theorem Dl:a7 X (compareOp .Lt) (fm λi j=>.bl (decide (i<j))):=rf λ_ _ _ _ _ _ _ q=>lt_int q
theorem ma:a7 X (compareOp .LtE) (fm λi j=>.bl (decide (i<=j))):=rf λ_ _ _ _ _ _ _ q=>le_int q
theorem xN:a7 X (compareOp .Gt) (fm λi j=>.bl (decide (j<i))):=rf λ_ _ _ _ _ _ _ q=>gt_int q
theorem Em:a7 X (compareOp .GtE) (fm λi j=>.bl (decide (j<=i))):=rf λ_ _ _ _ _ _ _ q=>ge_int q
theorem a7.or{f:Value->Value->Sem Value}{r r':R2}(h:a7 X f r)(h':a7 X f r'):a7 X f (λx y H Q=>r x y H Q\/r' x y H Q):=by
 intro pins s σ H x y v u Q I rx ry q;rcases q with q|q
 ·exact h pins s σ H x y v u Q I rx ry q
 ·exact h' pins s σ H x y v u Q I rx ry q
theorem zw(b:Expr){op:CmpOp}(h:op≠.In:=by decide)(h2:op≠.NotIn:=by decide):behindInMarks op b=false:=by
 have e1:(op==CmpOp.In)=false:=by cases op<;>first|rfl|exact absurd rfl h
 have e2:(op==CmpOp.NotIn)=false:=by cases op<;>first|rfl|exact absurd rfl h2
 cases b<;>simp[behindInMarks,e1,e2]
theorem Ho{op:CmpOp}{r:R2}(ho:a7 X (compareOp op) r)(ha:PE X a ta)(hb:PE X b tb)(hm:behindInMarks op b=false):PE X (.Compare a [op] [b] pos) (nY r ta tb):=by
 intro pins s σ H Q I h;exact wpAny_Compare1 (sg ha hb I h λv u s2 x y H2 I2 rx ry q=>ho pins s2 σ H2 x y v u Q I2 rx ry q) hm
def A3(t:TE):TT:=λσ H Q=>t σ H λx H'=>∃k,x=.bl k/\Q k H'
theorem KG{op:CmpOp}{r:R2}(ho:a7 X (compareOp op) r)(ha:PE X a ta)(hb:PE X b tb)(hm:behindInMarks op b=false):PT X (.Compare a [op] [b] pos) (A3 (nY r ta tb)):=by
 intro pins s σ H Q I h
 refine YQ (aL (ha pins s σ H _ I h) λv s1 ⟨x,H1,I1,r1,q1⟩=>aL (hb pins s1 σ H1 _ I1 q1) λu s2 ⟨y,H2,I2,r2,q2⟩=>
  aL (ho pins s2 σ H2 x y v u _ I2 r1 r2 q2) λc s3 ⟨z,H3,I3,r3,k,e,q3⟩=>?_) hm
 subst e;cases r3;exact Wh ⟨H3,I3,q3⟩
def C1(r r':R2)(ta tb tc:TE):TE:=λσ H Q=>ta σ H λx H1=>tb σ H1 λy H2=>r x y H2 λz H3=>∃k,z=.bl k/\
 (if k=true then tc σ H3 λw' H4=>r' y w' H4 Q else Q (.bl false) H3)
theorem Gh{op Pm:CmpOp}{r r':R2}(ho:a7 X (compareOp op) r)(Nu:a7 X (compareOp Pm) r')(ha:PE X a ta)(hb:PE X b tb)(hc:PE X c tc)
  (hm:lastMarks [op,Pm] [b,c]=false:=by with_unfolding_all rfl):PT X (.Compare a [op,Pm] [b,c] pos) (A3 (C1 r r' ta tb tc)):=by
 intro pins s σ H Q I h
 refine isTrue_chain (aL (ha pins s σ H _ I h) λv s1 ⟨x,H1,I1,r1,q1⟩=>test_link (aL (hb pins s1 σ H1 _ I1 q1) λu s2 ⟨y,H2,I2,r2,q2⟩=>
  aL (ho pins s2 σ H2 x y v u _ I2 r1 r2 q2) λd s3 ⟨z,H3,I3,r3,k,e,q3⟩=>?_)) hm
 subst e;cases r3;refine Wh ?_;cases k with
 | false=>
  obtain⟨k',e',q'⟩:=q3;cases e';exact ite_ff ⟨H3,I3,q'⟩
 | true=>
  refine ite_tt (test_last (aL (hc pins s3 σ H3 _ I3 q3) λw' s4 ⟨z',H4,I4,r4,q4⟩=>aL (Nu pins s4 σ H4 y z' u w' _ I4 r2 r4 q4) λd' s5 ⟨z2,H5,I5,r5,k2,e2,q5⟩=>?_));subst e2;cases r5;exact Wh ⟨H5,I5,q5⟩
def vU(K:PySem.W.Frag)(x:V)(H:Hp)(k:Bool):Prop:=
 match x with
 |.aj=>k=false
 |.bl b=>k=b
 |.int i=>k=(i != 0)
 |.str y=>y.length<=sizeLine/\k=((y.length:Int) != 0)
 |.lG y=>y.size<=sizeLine/\k=((y.size:Int) != 0)
 |.ref p=>(∃xs,bt K H p xs/\k= !xs.isEmpty)\/(∃xs,bH K H p xs/\k= !xs.isEmpty)\/∃kvs,H p=some (.dK kvs)/\k= !kvs.isEmpty
 |_=>False
theorem Fy{κ:Type}{kvs:List (κ×V)}{vs:List (κ×Value)}(r:KV kvs vs):(!vs.isEmpty)= !kvs.isEmpty:=by
 cases r<;>rfl
theorem Ai{xs:List V}{af:Y5}(r:Vals xs af):(!af.toArray.isEmpty)= !xs.isEmpty:=by
 cases r<;>simp
theorem jY:(sizeLine:Nat)<2 ^ 63:=by rw[V3];decide
theorem BQ:B5 X (λx H Q=>∃k,vU X.K x H k/\Q k H):=by
 intro pins s σ H x v Q I rx h;obtain⟨k,e,q⟩:=h;have hl:=jY;have hs:sizeLine=16777216:=V3;cases x with
 | aj=>
  cases rx;have e':k=false:=e;subst e';exact truthy_none ⟨H,I,q⟩
 | bl b=>
  cases rx;have e':k=b:=e;subst e';exact Wh ⟨H,I,q⟩
 | int i=>
  obtain⟨t,rfl⟩:=rx;have e':k=(i != 0):=e;subst e';exact PySem.P.truthy_int ⟨H,I,q⟩
 | str y=>
  obtain⟨t,rfl⟩:=rx;obtain⟨hy,e'⟩:y.length<=sizeLine/\k=((y.length:Int) != 0):=e;subst e';exact PySem.P.truthy_str (by omega) ⟨H,I.tok _,q⟩
 | lG y=>
  obtain⟨t,rfl⟩:=rx;obtain⟨hy,e'⟩:y.size<=sizeLine/\k=((y.size:Int) != 0):=e;subst e';exact PySem.W.truthy_bytes (by omega) ⟨H,I.tok _,q⟩
 | ref p=>
  cases rx;have e':(∃xs,bt X.K H p xs/\k= !xs.isEmpty)\/(∃xs,bH X.K H p xs/\k= !xs.isEmpty)\/∃kvs,H p=some (.dK kvs)/\k= !kvs.isEmpty:=e;rcases e' with⟨xs,hx,e'⟩|⟨xs,hx,e'⟩|⟨kvs,hx,e'⟩
  ·subst e'
   obtain⟨af,r,pl,hz⟩:=I.list hx;have hlen:=r.length;exact wpAny_truthy_list pl.isList (by simp only[Gc];omega) ⟨H,I.tok _,by rw[Ai r];exact q⟩
  ·subst e'
   obtain⟨af,r,pl,hz⟩:=I.tuple hx;have hlen:=r.length;exact truthy_tuple pl (by simp only[Gc];omega) ⟨H,I.tok _,by rw[Ai r];exact q⟩
  ·subst e'
   obtain⟨hz,hS,vs,r,m⟩:kvs.length<=sizeLine/\(p==sysModules)=false/\∃vs,KV kvs vs/\s.heap.DictOf (bz X.prog X.w) p vs:=I.aK p _ hx;have hlen:kvs.length=vs.length:=XH r;exact wpAny_truthy_dict hS m (by omega) ⟨H,I.tok _,by rw[Fy r];exact q⟩
 |_=>exact(show False from e).elim
theorem FX(ha:PE X a ta)(he:∀whole,isTrue a X.env whole=(do let v <-whole;standAt a.pos;holding [v] (truthy v))):
  PT X a (λσ H Q=>ta σ H λx H'=>∃k,vU X.K x H' k/\Q k H'):=by
 intro pins s σ H Q I h;exact isTrue_plain (aL (ha pins s σ H _ I h) λv s1=>by rintro⟨x,H1,I1,r1,q1⟩;exact BQ pins s1 σ H1 x v Q I1 r1 q1) (he _)
theorem Hw:a7 X (binaryOp .Add) (λx y H Q=>∃i j,x=.str i/\y=.str j/\i.length+j.length<=sizeLine/\Q (.str (i++j)) H):=by
 intro pins s σ H x y v u Q I rx ry h;obtain⟨i,j,rfl,rfl,hz,q⟩:=h;obtain⟨t,rfl⟩:=rx;obtain⟨t',rfl⟩:=ry;exact add_str (λt' tk=>⟨.str (i++j),H,I.tok _,⟨_,rfl⟩,q⟩) hz
theorem vals1{x:V}{us:Y5}(r:Vals [x] us):∃u,us=[u]/\RelV x u:=by
 cases r with
 |cons r1 r2=>cases r2;exact⟨_,rfl,r1⟩
theorem vals2{x y:V}{us:Y5}(r:Vals [x,y] us):∃u w',us=[u,w']/\RelV x u/\RelV y w':=by
 cases r with
 | cons r1 r2=>
  cases r2 with
  |cons r3 r4=>cases r4;exact⟨_,_,rfl,r1,r3⟩
theorem Jb(hc:X.calm=true):bM X (.builtin "min") (λxs H Q=>∃i j,xs=[.int i,.int j]/\Q (.int (if j<i then j else i)) H):=by
 intro pins s σ H xs us Q I r h;obtain⟨i,j,rfl,q⟩:=h;obtain⟨u,w',rfl,⟨t,rfl⟩,⟨t',rfl⟩⟩:=vals2 r;refine min_two_ints (I.ok.hd hc) λh' tk k=>⟨_,H,I.kept k,?_,q⟩;by_cases hj:j<i
 ·rw[u9 hj,u9 hj];exact⟨_,rfl⟩
 ·rw[Da hj,Da hj];exact⟨_,rfl⟩
end
theorem fq.some_of{v:V}{o:Y6}(r:fq (some v) o):∃u,o=some u/\RelV v u:=by
 cases o with
 |none=>exact(show False from r).elim
 |some u=>exact⟨u,rfl,r⟩
theorem fq.none_of{o:Y6}(r:fq none o):o=none:=by
 cases o with
 |none=>rfl
 |some u=>exact(show False from r).elim
structure b4(k:Nat)(A:Around):Prop where
 hd:A.handled=none
 dp:A.depth+3*k+5<recursionLimit
 un:A.units+16*k+200<cLine
theorem b4.mono{j k:Nat}{A:Around}(r:b4 k A)(h:j<=k):b4 j A:=⟨r.hd,by have:=r.dp;omega,by have:=r.un;omega⟩
theorem b4.deeper{k:Nat}{A:Around}(r:b4 (k+1) A)(env:Env):b4 k (A.deeper env):=
 ⟨r.hd,by have:=r.dp;show A.depth+1+3*k+5<_;omega,by have:=r.un;show A.units+3+16*k+200<_;omega⟩
theorem b4.depth{k:Nat}{A:Around}(r:b4 k A):A.depth<recursionLimit:=by have:=r.dp;omega
theorem b4.units{k:Nat}{A:Around}(r:b4 k A):A.units+64<cLine:=by have:=r.un;omega
def AN:TA:=λ_ H Q=>Q [] H
def xY(ta:TE)(tr:TA):TA:=λσ H Q=>ta σ H λx H1=>tr σ H1 λxs H2=>Q (x::xs) H2
section
variable{X:Cx}{e:Expr}{es:Y4}{te:TE}{t:TA}{pos:Pos}
theorem jJ:PA X [] AN:=λ_ _ _ _ H Q I h=>Xe ⟨[],H,I,.nil,h⟩
theorem gj(ha:PE X e te)(hr:PA X es t)(hs:starEach (e::es) X.env=(false,eval e X.env)::starEach es X.env:=by rfl):PA X (e::es) (xY te t):=by
 intro pos pins s σ H Q I h;rw[hs];show wpAny _ _ (spliced ((false,eval e X.env)::backTo pos (starEach es X.env))) _ _ s;refine W6 (aL (ha pins s σ H _ I h) λu s1 ⟨x,H1,I1,r1,q1⟩=>?_);exact aL (hr pos pins s1 σ H1 _ I1 q1) λus s2=>by rintro⟨xs,H2,I2,r2,q2⟩;exact ⟨x::xs,H2,I2,.cons r1 r2,q2⟩
def Ih(t:TA):TE:=λσ H Q=>t σ H λxs H1=>xs.length<=sizeLine/\∀p,H1 p=none->Q (.ref p) (upd H1 p (.tup xs))
def Im(t:TA):TE:=λσ H Q=>t σ H λxs H1=>xs.length<=sizeLine/\∀p,H1 p=none->Q (.ref p) (upd H1 p (.lst xs))
theorem vw{x1}(h:PA X es t):PE X (.Tuple es x1 pos) (Ih t):=by
 intro pins s σ H Q I hq;refine wpAny_Tuple_spliced (aL (h pos pins s σ H _ I hq) λus s1 ⟨xs,H1,I1,r,z,q⟩=>⟨by rw[<-r.length];exact z,?_⟩)
 have hf:H1 s1.heap.objs.size=none:=I1.aK.fresh (Fk _);refine⟨.ref s1.heap.objs.size,upd H1 s1.heap.objs.size (.tup xs),I1.laid (t':=s1.toks) (λb u e=>cp _ e) (Fk _) ?_,rfl,q _ hf⟩;exact⟨z,us,r,⟨_,FS _ rfl,rfl,_,rfl⟩⟩
theorem so(h:PA X es t):PE X (.List es pos) (Im t):=by
 intro pins s σ H Q I hq;refine wpAny_List_spliced (aL (h pos pins s σ H _ I hq) λus s1 ⟨xs,H1,I1,r,z,q⟩=>⟨by rw[<-r.length];exact z,?_⟩)
 have hf:H1 s1.heap.objs.size=none:=I1.aK.fresh (Fk _);refine⟨.ref s1.heap.objs.size,upd H1 s1.heap.objs.size (.lst xs),I1.laid (t':=s1.toks) (λb u e=>cp _ e) (Fk _) ?_,rfl,q _ hf⟩;exact⟨z,us,0,r,FS _ rfl⟩
end
noncomputable abbrev Sp:=List V->Hp->VK->XK->Prop
noncomputable abbrev gC:=List Env->Hp->Shared->XK->Value->Shared->Prop
structure qv(P:Program)(w:World)(K:PySem.W.Frag)(mg:Str->Y6)(base:Heap)(A:Around)(outer:List Env)(s:Shared)(H:Hp):Prop where
 frames:A.frames=some outer
 mod:Mod K mg base
 bs:∀b o,base.get? b=some o->s.heap.get? b=some o/\H b=none
 jP:base.objs.size<=s.heap.objs.size
 gz:s.heap.FunFrames base outer
 l4:∀b∈eF outer,H b=none
 aK:b6 P w H s.heap
 bare:AllBare s.gens
def CE(outer:List Env)(P:Program)(w:World)(H:Hp)(s:Shared)(Q:VK)(u:Value)(s':Shared):Prop:=
 ∃v H',s'.os=s.os/\AllBare s'.gens/\Un (eF outer) [] H H' s.heap s'.heap/\b6 P w H' s'.heap/\RelV v u/\Q v H'
def CR(CX:gC)(outer:List Env)(P:Program)(w:World)(H:Hp)(s:Shared)(Q:VK)(E:XK)(r:Result)(s':Shared):Prop:=
 match r with
 |.ok (.ret u)=>CE outer P w H s Q u s'
 |.ok _=>False
 |.error e=>CX outer H s E e s'
structure dX(P:Program)(w:World)(K:PySem.W.Frag)(mg:Str->Y6)(base:Heap)(CX:gC)(k:Nat)(f:Addr)(fd:FuncData)(ps:List Str)(sp:Sp):Prop where
 len:∀vs H Q E,sp vs H Q E->vs.length=ps.length
 run:∀(A:Around) (outer:List Env) (s:Shared) (H:Hp) (args:Args) (us:Y5) (vs:List V) (Q:VK) (E:XK),b4 k A->qv P w K mg base A outer s H->BindsTo s fd args (ps.zip us)->Vals vs us->sp vs H Q E->
  codeAny (model P w) A (.call (.ref f) args) (CR CX outer P w H s Q E) s
section
variable{X:Cx}{pins:List (Addr×Obj)}{σ:St}{H:Hp}{s s':Shared}
theorem Inv.FL(I:Inv X pins σ H s):qv X.prog X.w X.K X.mg X.base X.A X.stack s H:=
 ⟨I.ok.frames,I.ok.mod,I.bs,PK I.ok.jP I.sz,I.stack,I.xG,I.aK,I.bare⟩
theorem Inv.after{Q:VK}{u:Value}(I:Inv X pins σ H s)(h:CE X.stack X.prog X.w H s Q u s'):EP X pins σ Q u s':=by
 obtain⟨v,H',os,bare,un,aK,r,q⟩:=h;obtain⟨hh,g,d,t,TR⟩:=s';obtain rfl:TR=s.os:=os;exact⟨v,H',I.call (h':=hh) (g':=g) (d':=d) (t':=t) (ch:=[]) un aK bare (λb z=>absurd z (by simp)),r,q⟩
end
def mV(sp:Sp)(dvs:List V)(E:XK)(t:TA):TE:=λσ H Q=>t σ H λvs H1=>sp (vs++dvs) H1 Q E
def Binds(K:PySem.W.Frag)(fd:FuncData)(ps:List Str)(ds:Y5):Prop:=
 ∀(s:Shared) (us:Y5),K.In s.heap->(us++ds).length=ps.length->BindsTo s fd ⟨us,[]⟩ (ps.zip (us++ds))
theorem Binds.all{K:PySem.W.Frag}{fd:FuncData}{ps:List Str}(h:∀us:Y5,us.length=ps.length->bindArgs fd ⟨us,[]⟩=pure (ps.zip us)):Binds K fd ps []:=λs us _ hl=>by
 rw[VW]at hl ⊢;exact .of_eq (h us hl)
def Passes(CX:gC)(X:Cx)(E:XK):Prop:=∀(pins:List (Addr×Obj)) (σ:St) (H:Hp) (s:Shared) (e:Value) (s':Shared),Inv X pins σ H s->CX X.stack H s E e s'->X.xe e s'
section
variable{X:Cx}{CX:gC}{k:Nat}{f C:Addr}{fd:FuncData}{ps:List Str}{sp:Sp}{dvs:List V}{ds:Y5}{E:XK}{x m:Str}{p pos apos:Pos}{e o:Expr}{es:Y4}{ta:TE}{t:TA}
theorem vi{pins:List (Addr×Obj)}{σ:St}{H:Hp}{s:Shared}{Q:VK}{us:Y5}{vs:List V}(F:dX X.prog X.w X.K X.mg X.base CX k f fd ps sp)(hr:b4 k X.A)(hb:Binds X.K fd ps ds)(hd:Vals dvs ds)(hx:Passes CX X E)
  (I:Inv X pins σ H s) (r:Vals vs us) (h:sp (vs++dvs) H Q E):wpAny (model X.prog X.w) X.A (call (.ref f) us) (EP X pins σ Q) X.xe s:=by
 have r2:Vals (vs++dvs) (us++ds):=r.append hd;have hl:(us++ds).length=ps.length:=by rw[<-r2.length];exact F.len _ _ _ _ h
 refine wpAny_call (YI (F.run X.A X.stack s H ⟨us,[]⟩ (us++ds) (vs++dvs) Q E hr I.FL (hb s us I.c7 hl) r2 h) λr s' hq=>?_);cases r with
 |error e=>exact hx pins σ H s e s' I hq
 | ok fl=>
  cases fl with
  |ret u=>exact I.after hq
  |next=>exact False.elim hq
  |brk=>exact False.elim hq
  |cont=>exact False.elim hq
theorem oo(F:dX X.prog X.w X.K X.mg X.base CX k f fd ps sp)(hr:b4 k X.A)(hg:Gl X x)(hm:X.mg x=some (.ref f))(hk:PySem.W.keepIn X.K (.ref f)=true)(hb:Binds X.K fd ps ds)(hd:Vals dvs ds)(hx:Passes CX X E)
  (ha:PA X (e::es) t) (MD:gV x:=by decide) (he:starEach (e::es) X.env=(false,eval e X.env)::starEach es X.env:=by rfl) (M5:(backTo pos (starEach es X.env)).any (·.1)=false:=by rfl):
  PE X (.Call (.Name x p) (e::es) [] pos) (mV sp dvs E t):=by
 intro pins s σ H Q I h;refine Wn (uc I hg hm ?_ MD);refine Yy (h₀:=X.base) I.ok.mod.mX hk (aL (ha pos pins s σ H _ I h) λus s1 ⟨vs,H1,I1,r,q⟩=>⟨I1.c7,?_⟩) he M5;exact vi F hr hb hd hx I1 r q
theorem Kp(F:dX X.prog X.w X.K X.mg X.base CX k f fd ps sp)(hr:b4 k X.A)(hg:Gl X x)(hm:X.mg x=some (.ref f))(hk:PySem.W.keepIn X.K (.ref f)=true)(hb:Binds X.K fd ps ds)(hd:Vals dvs ds)(hx:Passes CX X E)
  (MD:gV x:=by decide):PE X (.Call (.Name x p) [] [] pos) (mV sp dvs E AN):=by
 intro pins s σ H Q I h;refine Wn (uc I hg hm ?_ MD);exact PySem.W.callWith_K0 I.c7 hk (vi (us:=[]) F hr hb hd hx I .nil h)
end
structure ba(N P:List Str)(sc:Scope):Prop where
 kind:sc.kind=.function
 co:sc.isCoroutine=false
 gen:sc.isGenerator=false
 nd:N.Nodup
 pre:N.take P.length=P
 par:∀x∈P,sc.names.lookup x=some .local\/sc.names.lookup x=some .cell
 IW:∀y∈sc.names,y.2≠.free
theorem xC{kindOf:Str->Option NameKind}{x:Str}:∀ {binds:List (Str×Value)} {m:Str->Y6},(∀v,(x,v)∉binds)->bindL kindOf binds m x=m x
 |[],_,_=>rfl
 | (n,v)::r,m,h=>by
  unfold bindL;rw[xC λw hw=>h w (rU _ hw)];split
  ·have:x≠n:=by rintro rfl;exact h v v3
   simp[this]
  ·rfl
theorem BD{kindOf:Str->Option NameKind}{x:Str}:∀ {binds:List (Str×Value)} {m:Str->Y6},(∀v,(x,v)∉binds)->bindC kindOf binds m x=m x
 |[],_,_=>rfl
 | (n,v)::r,m,h=>by
  unfold bindC;rw[BD λw hw=>h w (rU _ hw)];split
  ·rfl
  ·have:x≠n:=by rintro rfl;exact h v v3
   simp[this]
theorem zO{kindOf:Str->Option NameKind}{x:Str}{v:Value}:∀ {P:List Str} {vs:Y5} {i:Nat} {m:Str->Y6},P.Nodup->P[i]? =some x->vs[i]? =some v->kindOf x=some .local->
  bindL kindOf (P.zip vs) m x=some v
 |[],_,_,_,_,h,_,_=>by simp at h
 |_::_,[],_,_,_,_,h,_=>by simp at h
 | p::P,w::vs,0,m,nd,h1,h2,hk=>by
  simp at h1 h2;subst h1;subst h2;show bindL kindOf ((p,w)::P.zip vs) m p=_;unfold bindL;rw[xC λv hv=>(GM.mp nd).1 (Wz hv).1,u9 hk];simp
 | p::P,w::vs,i+1,m,nd,h1,h2,hk=>by
  show bindL kindOf ((p,w)::P.zip vs) m x=_;unfold bindL;exact zO (i:=i) (GM.mp nd).2 (by simpa using h1) (by simpa using h2) hk
theorem zJ{kindOf:Str->Option NameKind}{x:Str}{v:Value}:∀ {P:List Str} {vs:Y5} {i:Nat} {m:Str->Y6},P.Nodup->P[i]? =some x->vs[i]? =some v->kindOf x≠some .local->
  bindC kindOf (P.zip vs) m x=some v
 |[],_,_,_,_,h,_,_=>by simp at h
 |_::_,[],_,_,_,_,h,_=>by simp at h
 | p::P,w::vs,0,m,nd,h1,h2,hk=>by
  simp at h1 h2;subst h1;subst h2;show bindC kindOf ((p,w)::P.zip vs) m p=_;unfold bindC;rw[BD λv hv=>(GM.mp nd).1 (Wz hv).1,Da hk];simp
 | p::P,w::vs,i+1,m,nd,h1,h2,hk=>by
  show bindC kindOf ((p,w)::P.zip vs) m x=_;unfold bindC;exact zJ (i:=i) (GM.mp nd).2 (by simpa using h1) (by simpa using h2) hk
noncomputable def start(N:List Str)(vs:List V):St:=vs.map some++List.replicate (N.length - vs.length) none
noncomputable def fG(CX:gC)(P:Program)(w:World)(K:PySem.W.Frag)(mg:Str->Y6)(base:Heap)(N:List Str)(qual:Str)(scope:Scope)(f:Addr)(cd:Value)(A:Around)(outer:List Env)(s:Shared)(H:Hp)(E:XK):Cx where
 prog:=P
 w:=w
 K:=K
 mg:=mg
 base:=base
 A:=A.deeper (envOfC qual scope s.heap.objs.size f cd)
 N:=N
 cN:=s
 jv:=H
 env:=envOfC qual scope s.heap.objs.size f cd
 outer:=outer
 stack:=envOfC qual scope s.heap.objs.size f cd::outer
 ex:=[]
 calm:=true
 fn:=λ_=>true
 pn:=[]
 xe:=λe s'=>wpAny (model P w) (A.deeper (envOfC qual scope s.heap.objs.size f cd)) (leaving (envOfC qual scope s.heap.objs.size f cd) e) (λ_ RV=>CX outer H s E e RV) (λe' RV=>CX outer H s E e' RV) s'
theorem yI{sc:Scope}{n:Nat}{x:Str}(h:sc.names.lookup x=some .cell):∃c,(cellsFrom n sc.names []).lookup x=some c:=by
 have q:=Yj sc.names n [] (.inl h);exact Ww.mp q
theorem Gv{CX:gC}{P:Program}{w:World}{K:PySem.W.Frag}{mg:Str->Y6}{base:Heap}{N ps:List Str}{qual:Str}{scope:Scope}{f:Addr}{cd:Value}{A:Around}{outer:List Env}{s s1:Shared}{H:Hp}{E:XK}{us:Y5}{vs:List V}
  (S:ba N ps scope) (hd:A.handled=none) (e0:qv P w K mg base A outer s H) (hl:vs.length=ps.length) (r:Vals vs us)
  (x:InCallC s s.heap.objs.size (bindL (envOfC qual scope s.heap.objs.size f cd).kindOf (ps.zip us) λ_=>none) (cellsFrom (s.heap.objs.size+1) scope.names []) (bindC (envOfC qual scope s.heap.objs.size f cd).kindOf (ps.zip us) λ_=>none) s1):
  Inv (fG CX P w K mg base N qual scope f cd A outer s H E) [] (start N vs) H s1:=by
 have M5:ps.length<=N.length:=by have:=congrArg List.length S.pre;rw[Ws]at this;omega
 obtain⟨h1,tk,rfl,hk⟩:=x.done;have QB:∀b:Addr,b∉(fG CX P w K mg base N qual scope f cd A outer s H E).ex:=λb z=>absurd (show b∈([]:Y3)from z) (by simp)
 refine⟨⟨e0.mod,S.kind,rfl,rfl,Fk _,λy z c h1 h2=>?_,λy hy=>?_,λy c _ h=>?_,λ_=>hd,Around.frames_deeper e0.frames,.inr ⟨rfl,rfl⟩,λb z=>absurd z (QB b),e0.bs,e0.jP,λb _ _=>QB b,λb z=>absurd z (QB b),e0.gz,e0.l4⟩,
  rfl,e0.bare,Un.kept hk,⟨_,x.toInCall.ns,λi y v h1 h2 h3=>?_⟩,λy c h=>⟨_,x.cell y c h⟩,e0.aK.fresh (Fk _),λy c h=>?_,λp hp=>absurd (show p∈([]:List (Addr×Obj))from hp) (by simp),e0.aK.kept hk,?_⟩
 ·exact name_of_addr x.apart (Wv h1) (Wv h2)
 ·have hy:scope.names.lookup y=some .cell\/scope.names.lookup y=some .free:=hy
  rcases hy with hy|hy
  ·exact yI hy
  ·exact absurd rfl (S.IW _ (Wv hy))
 ·exact Yh (x.above y c (Wv h))
 ·have hi:i<vs.length:=by
   unfold start at h2;by_cases hi:i<vs.length
   ·exact hi
   ·rw[Wp (by simpa using hi)]at h2
    rw[SB]at h2;split at h2<;>cases h2
  have ha:vs[i]? =some v:=by
   unfold start at h2;rw[V9 (by simpa using hi),DM]at h2
   cases e:vs[i]? with
   |none=>rw[e]at h2;cases h2
   |some a=>rw[e]at h2;cases h2;rfl
  obtain⟨u,hu,rv⟩:=r.get ha
  have hp:ps[i]? =some y:=by
   rw[<-S.pre,List.getElem?_take_of_lt (by omega)];exact h1
  have TC:ps.Nodup:=by rw[<-S.pre];exact S.nd.sublist (Xr _ _)
  refine⟨u,rv,?_⟩;rcases S.par y (S6 hp)with k|k
  ·exact .inl ⟨k,zO TC hp hu k⟩
  ·obtain⟨c,e⟩:=yI (n:=s.heap.objs.size+1) k
   refine .inr ⟨.inl k,c,e,?_⟩;have q:=x.cell y c e;rw[zJ TC hp hu (by show scope.names.lookup y≠_;rw[k];decide)]at q
   exact q
 ·exact e0.aK.fresh (Yh (x.above y c (Wv h)))
 ·unfold start
  show _=N.length;rw[JK,Do,VX];omega
theorem Bs{CX:gC}{P:Program}{w:World}{K:PySem.W.Frag}{mg:Str->Y6}{base:Heap}{k:Nat}{f:Addr}{name qual:Str}{params:Arguments}{body:List Stmt}{scope:Scope}{dV kV doc pm Lk ct oc:Value}{an od:Y7}
  {MO:Array (Y6)} {N ps:List Str} {sp:Sp} (lk:K.lookup f=some ⟨oc,od,.func (PySem.W.fnOf name qual params body scope dV kV doc pm an Lk ct),MO⟩) (L4:PySem.W.codeIn K Lk qual=true) (S:ba N ps scope)
  (len:∀vs H Q E,sp vs H Q E->vs.length=ps.length)
  (Od:∀(A:Around) (outer:List Env) (s:Shared) (H:Hp) (vs:List V) (Q:VK) (E:XK),b4 k (A.deeper (envOfC qual scope s.heap.objs.size f Lk))->sp vs H Q E->
   ∃t,cq (fG CX P w K mg base N qual scope f Lk A outer s H E) body t/\t {nx:=λ_ H'=>Q .aj H',rt:=Q} (start N vs) H):
  dX P w K mg base CX (k+1) f (PySem.W.fnOf name qual params body scope dV kV doc pm an Lk ct) ps sp:=by
 refine⟨len,λA outer s H args us vs Q E hr e0 hb r M6=>?_⟩;have hl:=len _ _ _ _ M6;have KX:K.In s.heap:=e0.mod.mX.keeps λb o e=>(e0.bs b o e).1;have lim:s.heap.NoLimit:=e0.mod.nolimit.keeps λb o e=>(e0.bs b o e).1
 have Qj:∀y∈ps.zip us,scope.names.lookup y.1=some .local\/(scope.names.lookup y.1=some .cell/\((cellsFrom (s.heap.objs.size+1) scope.names []).lookup y.1).isSome=true):=by
  rintro⟨n,v⟩ hy
  rcases S.par n (Wz hy).1 with q|q
  ·exact .inl q
  ·exact .inr ⟨q,Yj _ _ _ (.inl q)⟩
 refine codeAny_call_function hr.depth (KX _ _ lk) rfl S.co S.gen rfl (PySem.W.codeRec_of KX L4) (hb _ _ _ _ ?_);refine wpAny_newFunctionEnv_cells S.kind Qj λenv he s1 x=>?_;subst he;refine⟨lim.keeps x.toInCall.keep,codeAny_func ?_⟩;obtain⟨t,ht,hq⟩:=Od A outer s H vs Q E (hr.deeper _) M6;have I:Inv (fG CX P w K mg base N qual scope f Lk A outer s H E) [] (start N vs) H s1:=Gv S hr.hd e0 hl r x;refine UF (ht [] s1 (start N vs) H _ I hq) (λfl s' hs=>?_) λe s' hs=>hs
 have fin:∀ {Ll:St} {H':Hp} {v:V} {u:Value},Inv (fG CX P w K mg base N qual scope f Lk A outer s H E) [] Ll H' s'->RelV v u->Q v H'->CE outer P w H s Q u s':=
  λ{Ll H' v u} J rv q=>⟨v,H',J.os,J.bare,J.base,J.aK,rv,q⟩
 cases fl with
 | ret u=>
  obtain⟨v,Ll,H',J,rv,q⟩:=hs;exact fin J rv q
 | next=>
  obtain⟨Ll,H',J,q⟩:=hs;exact fin (v:=V.aj) (u:=Value.none) J rfl q
 | brk=>
  obtain⟨_,_,_,q⟩:=hs;exact False.elim q
 | cont=>
  obtain⟨_,_,_,q⟩:=hs;exact False.elim q
section
variable{X:Cx}{x:Str}{p pos:Pos}{e:Expr}{es:Y4}{t:TA}{id T:String}{r:List V->Hp->VK->Prop}
def vH(r:List V->Hp->VK->Prop)(t:TA):TE:=λσ H Q=>t σ H λvs H1=>r vs H1 Q
theorem qW(hc:bM X (.builtin id) r)(hg:Gl X x)(hm:X.mg x=none)(hv:bootBuiltins x=some (.builtin id))(ha:PA X (e::es) t)(hn:x≠"__name__":=by decide)(MD:gV x:=by decide)
  (he:starEach (e::es) X.env=(false,eval e X.env)::starEach es X.env:=by rfl) (M5:(backTo pos (starEach es X.env)).any (·.1)=false:=by rfl):PE X (.Call (.Name x p) (e::es) [] pos) (vH r t):=by
 intro pins s σ H Q I h;refine Wn (kJ I hg hm hv ?_ hn MD);exact PyProof.Rows.callWith_builtin1 (aL (ha pos pins s σ H _ I h) λus s1=>by rintro⟨vs,H1,I1,r1,q1⟩;exact hc pins s1 σ H1 vs us Q I1 r1 q1) he M5
theorem lK(hc:bM X (.type T) r)(hg:Gl X x)(hm:X.mg x=none)(hv:bootBuiltins x=some (.type T))(ha:PA X (e::es) t)(hn:x≠"__name__":=by decide)(MD:gV x:=by decide)
  (he:starEach (e::es) X.env=(false,eval e X.env)::starEach es X.env:=by rfl) (M5:(backTo pos (starEach es X.env)).any (·.1)=false:=by rfl):PE X (.Call (.Name x p) (e::es) [] pos) (vH r t):=by
 intro pins s σ H Q I h;refine Wn (kJ I hg hm hv ?_ hn MD);exact V4 (aL (ha pos pins s σ H _ I h) λus s1=>by rintro⟨vs,H1,I1,r1,q1⟩;exact hc pins s1 σ H1 vs us Q I1 r1 q1) he M5
end
end L2
namespace HT
open PySem PyProof.Rows
section
open PySem.SeqAt
open PySem.AutoSeq1 (wpAny_loadPart')
open PySem.MeetsSeq PySem.MeetsSeq2 PySem.MeetsSeq3
end
section
variable{prog:Program}{w:World}{A:Around}{E:Value->Shared->Prop}{s:Shared}
theorem Ia{t b:Addr}{vs ws:Y5}{Q:Value->Shared->Prop}(ht:IsTup s.heap t vs.toArray)(hb:IsTup s.heap b ws.toArray)(hv:vs≠[])
  (h1:ws=[]->Q (.ref t) s) (h2:ws≠[]->Q (.ref s.heap.objs.size) {s with heap:=s.heap.push {cls:=.type "tuple",data:=.seq (vs++ws).toArray} })
  (hsz:vs.length+ws.length<=sizeLine):wpAny (model prog w) A (binaryOp .Add (.ref t) (.ref b)) Q E s:=by
 obtain⟨⟨cls,dd,data,sl⟩,ho,hc,n,hd⟩:=id ht;obtain⟨⟨Ud,QY,data2,PM⟩,Ot,OE,n2,hd2⟩:=id hb;simp only at hc hd OE hd2;subst hc hd OE hd2;have e:vs.toArray++ws.toArray=(vs++ws).toArray:=by simp
 by_cases hw:ws=[]
 ·exact YJ ⟨_,ho,rfl⟩ ⟨_,Ot,rfl⟩ noFill_tuple_add seq_tuple_add Yk Ya (X7 _ _)
   (tuple_addW1 t b vs.toArray ws.toArray n n2 dd QY sl PM (by simpa using hv) (by simp[hw])) ⟨ho,Ot,h1 hw⟩
 ·refine YJ ⟨_,ho,rfl⟩ ⟨_,Ot,rfl⟩ noFill_tuple_add seq_tuple_add Yk Ya (X7 _ _)
   (tuple_addW2 t b vs.toArray ws.toArray n n2 dd QY sl PM (by simpa using hv) (by simpa using hw) (by rw[Gc,Gc];exact hsz)) ⟨ho,Ot,?_⟩
  rw[e];exact h2 hw
end
end HT
namespace L2
open PySem PySem.Spec PyProof.Rows
noncomputable abbrev TO:=St->Hp->(Option Int->Hp->Prop)->Prop
section
variable{X:Cx}{e:Expr}{te:TE}{lo hi:Option Expr}{tl th:TO}{pos p2:Pos}
noncomputable def Bl(K:PySem.W.Frag):R2:=λx y H Q=>∃a b xs ys,x=.ref a/\y=.ref b/\bH K H a xs/\bH K H b ys/\xs≠[]/\xs.length+ys.length<=sizeLine/\
 (ys=[]->Q (.ref a) H)/\(ys≠[]->∀p,H p=none->Q (.ref p) (upd H p (.tup (xs++ys))))
theorem Vals.t6{xs:List V}{us:Y5}(r:Vals xs us):us=[]↔xs=[]:=by
 cases r with
 |nil=>simp
 |cons _ _=>simp
theorem EZ:a7 X (binaryOp .Add) (Bl X.K):=by
 intro pins s σ H x y v u Q I rx ry h;obtain⟨a,b,xs,ys,rfl,rfl,ha,hb,hx,hz,q1,q2⟩:=h;cases rx;cases ry;obtain⟨af,r1,p1,_⟩:=I.tuple ha;obtain⟨ML,r2,p2,_⟩:=I.tuple hb;refine HT.Ia p1 p2 (λz=>hx (r1.t6.mp z)) (λz=>⟨.ref a,H,I,rfl,q1 (r2.t6.mp z)⟩) (λz=>?_) (by rw[<-r1.length, <-r2.length];exact hz)
 refine⟨.ref s.heap.objs.size,_,I.laid (t':=s.toks) (o:=.tup (xs++ys)) (λb ob q=>cp _ q) (Fk _) ?_,rfl,q2 (λw=>z (r2.t6.mpr w)) _ (I.aK.fresh (Fk _))⟩;exact⟨by rw[JK];exact hz,_,r1.append r2,IsTup.new _ _⟩
end
noncomputable def cI(n:Nat)(i:Int):Option Nat:=if 0<=i then(if i<n then some i.toNat else none)else if -(n:Int)<=i then some (i+n).toNat else none
noncomputable def cM{α:Type}(xs:List α)(i:Int):Option α:=(cI xs.length i).bind λj=>xs[j]?
theorem zm{n:Nat}{i:Int}{j:Nat}(h:cI n i=some j):seqIndex? i n=some j/\j<n/\ -(n:Int)<=i/\i<n:=by
 unfold cI at h;by_cases h0:0<=i
 ·rw[u9 h0]at h
  by_cases h1:i<n
  ·rw[u9 h1]at h
   have e:i.toNat=j:=Pv h;exact⟨by rw[YY h0 h1,e],by omega,by omega,h1⟩
  ·rw[Da h1]at h;cases h
 ·rw[Da h0]at h
  by_cases h1: -(n:Int)<=i
  ·rw[u9 h1]at h
   have e:(i+n).toNat=j:=Pv h;exact⟨by rw[seqIndex_neg (by omega) h1,e],by omega,h1,by omega⟩
  ·rw[Da h1]at h;cases h
theorem ue{α:Type}{xs:List α}{i:Int}{v:α}(h:cM xs i=some v):∃j,seqIndex? i xs.length=some j/\xs[j]? =some v/\j<xs.length/\ -(xs.length:Int)<=i/\i<xs.length:=by
 unfold cM at h;cases e:cI xs.length i with
 |none=>rw[e]at h;cases h
 | some j=>
  rw[e]at h;obtain⟨h1,h2,h3,h4⟩:=zm e;exact⟨j,h1,h,h2,h3,h4⟩
def mj(b:Expr):Prop:=∀o i,subscripted b false o i=operate [o,i] (getItem o i)
def fR(X:Cx)(r:R2):Prop:=
 ∀(value slice:Expr) (pins:List (Addr×Obj)) (s:Shared) (σ:St) (H:Hp) (x y:V) (v u:Value) (Q:VK),Inv X pins σ H s->RelV x v->RelV y u->r x y H Q->
  subscripted slice false v u=operate [v,u] (getItem v u)->wpAny (model X.prog X.w) X.A (subscriptTail value slice v u) (EP X pins σ Q) X.xe s
def CC(X:Cx)(id:String)(r:V->List V->Hp->VK->Prop):Prop:=
 ∀(pins:List (Addr×Obj)) (s:Shared) (σ:St) (H:Hp) (x:V) (xs:List V) (v:Value) (us:Y5) (Q:VK),Inv X pins σ H s->RelV x v->Vals xs us->r x xs H Q->
  wpAny (model X.prog X.w) X.A (call (.builtin id) (v::us)) (EP X pins σ Q) X.xe s
section
variable{X:Cx}{a b:Expr}{ta tb:TE}{pos:Pos}
theorem fR.or{r r':R2}(h:fR X r)(h':fR X r'):fR X (λx y H Q=>r x y H Q\/r' x y H Q):=by
 intro value slice pins s σ H x y v u Q I rx ry q hs;rcases q with q|q
 ·exact h value slice pins s σ H x y v u Q I rx ry q hs
 ·exact h' value slice pins s σ H x y v u Q I rx ry q hs
theorem mQ{r:R2}(hr:fR X r)(ha:PE X a ta)(hb:PE X b tb)(hs:mj b):PE X (.Subscript a b pos) (nY r ta tb):=by
 intro pins s σ H Q I h;exact Subscript_ (sg ha hb I h λv u s2 x y H2 I2 rx ry q=>hr a b pins s2 σ H2 x y v u Q I2 rx ry q (hs _ _))
def wZ(K:PySem.W.Frag):R2:=λx y H Q=>∃p xs i v,x=.ref p/\y=.int i/\bt K H p xs/\cM xs i=some v/\Q v H
def zU(K:PySem.W.Frag):R2:=λx y H Q=>∃p xs i v,x=.ref p/\y=.int i/\bH K H p xs/\cM xs i=some v/\Q v H
def Aj:R2:=λx y H Q=>∃z i c,x=.str z/\y=.int i/\z.length<=sizeLine/\cM z.cps.toList i=some c/\Q (.str ⟨#[c]⟩) H
theorem FW:fR X (wZ X.K):=by
 intro value slice pins s σ H x y v u Q I rx ry h hs;obtain⟨p,xs,i,z,rfl,rfl,hq,he,q⟩:=h;cases rx;obtain⟨t,rfl⟩:=ry;obtain⟨af,r,pl,hz⟩:=I.list hq;obtain⟨j,h1,h2,h3,h4,h5⟩:=ue he;obtain⟨w,ew,L0⟩:=r.get h2;have hl:=r.length;have hn:=jY;have fin:EP X pins σ Q w s:=⟨z,H,I,L0,q⟩;by_cases h0:0<=i
 ·have hj:i.toNat=j:=by
   rw[YY h0 h5]at h1;exact Pv h1
  exact item_listR pl.isList h0 (by omega) (by rw[hj];simpa using ew) fin hs
 ·have hj:(i+(af.toArray.size:Int)).toNat=j:=by
   rw[seqIndex_neg (by omega) h4]at h1
   rw[Gc, <-hl];exact Pv h1
  exact subscriptTail_builtinR (x:=w) pl.isList.typeIs slot_list_getitem.lookup
   (wpAny_getItem_list_neg (Q:=λr s'=>r=w/\EP X pins σ Q r s') pl.isList (by omega) (by rw[Gc]<;>omega) (by omega) (by rw[hj];simpa using ew) ⟨rfl,fin⟩) hs
theorem HL:fR X (zU X.K):=by
 intro value slice pins s σ H x y v u Q I rx ry h hs;obtain⟨p,xs,i,z,rfl,rfl,hq,he,q⟩:=h;cases rx;obtain⟨t,rfl⟩:=ry;obtain⟨af,r,pl,hz⟩:=I.tuple hq;obtain⟨j,h1,h2,h3,h4,h5⟩:=ue he;obtain⟨w,ew,L0⟩:=r.get h2;have hl:=r.length;have hn:=jY;have fin:EP X pins σ Q w s:=⟨z,H,I,L0,q⟩
 exact subscriptTail_builtinR (x:=w) pl.typeIs slot_tuple_getitem.lookup
  (getItem_tuple (j:=j) (Q:=λr s'=>r=w/\EP X pins σ Q r s') pl (by omega) (by omega) (by rw[Gc, <-hl];exact h1) (by simpa using ew) ⟨rfl,fin⟩) hs
theorem Ji:fR X Aj:=by
 intro value slice pins s σ H x y v u Q I rx ry h hs;obtain⟨z,i,c,rfl,rfl,hz,he,q⟩:=h;obtain⟨t,rfl⟩:=rx;obtain⟨t',rfl⟩:=ry;obtain⟨j,h1,h2,h3,h4,h5⟩:=ue he;have hl:z.cps.toList.length=z.length:=by simp[Str.length]
 rw[hl]at h1 h4 h5;have hn:=jY
 exact tail_any (Yt s z t) slot_str_getitem.lookup (getItem_str (c:=c) (by
  have e1:decide (i< -(2 ^ 63:Int))=false:=JU (by omega)
  have e2:decide (i>=2 ^ 63)=false:=JU (by omega)
  rw[e1,e2,Bool.or_false]) (by rw[h1];simpa using h2) ⟨.str ⟨#[c]⟩,H,I.tok _,⟨_,rfl⟩,q⟩) hs
def rL(K:PySem.W.Frag):R2:=λx y H Q=>wZ K x y H Q\/zU K x y H Q\/Aj x y H Q
theorem xH:fR X (rL X.K):=FW.or (HL.or Ji)
theorem Ku(af:Y5)(n j:Nat)(u:Value):Obj.mapSeq (·.setIfInBounds j u) {cls:=.type "list",data:=.seq af.toArray n}={cls:=.type "list",data:=.seq (af.set j u).toArray n}:=by
 simp[Obj.mapSeq]
theorem Inv.lst{pins:List (Addr×Obj)}{σ:St}{H:Hp}{s:Shared}{p:Addr}{xs:List V}(I:Inv X pins σ H s)(h:H p=some (.lst xs)):
  ∃(af:Y5) (n:Nat),Vals xs af/\s.heap.get? p=some {cls:=.type "list",data:=.seq af.toArray n}/\xs.length<=sizeLine:=by
 obtain⟨z,af,n,r,e⟩:=I.aK p _ h;exact⟨af,n,r,e,z⟩
theorem Inv.Dy{pins:List (Addr×Obj)}{σ:St}{H:Hp}{s:Shared}{p:Addr}{xs ys:List V}{af its':Y5}{n n':Nat}{f:Obj->Obj}(I:Inv X pins σ H s)(h:H p=some (.lst xs))
  (ho:s.heap.get? p=some {cls:=.type "list",data:=.seq af.toArray n}) (hf:f {cls:=.type "list",data:=.seq af.toArray n}={cls:=.type "list",data:=.seq its'.toArray n'}) (r:Vals ys its') (hz:ys.length<=sizeLine) (t:Nat):
  Inv X pins σ (upd H p (.lst ys)) {s with heap:=s.heap.update p f,toks:=t}:=by
 have e:(s.heap.update p f).get? p=some {cls:=.type "list",data:=.seq its'.toArray n'}:=by
  rw[YS f ho (by rw[hf]<;>rfl),hf]
 refine I.write (x:=p) (e:=p) (by rw[h];trivial) (.inl rfl) (λb u hb q=>(WS _ _ (Os hb)).trans q) ⟨_,e⟩ ?_
 exact⟨hz,its',n',r,e⟩
def Ek:V->V->V->Hp->(Hp->Prop)->Prop:=λo i v H Q=>∃p xs k j,o=.ref p/\i=.int k/\H p=some (.lst xs)/\cI xs.length k=some j/\Q (upd H p (.lst (xs.set j v)))
theorem set_list:xa X Ek:=by
 intro pins s σ H o i v ov iv u Q I ro ri rv h;obtain⟨p,xs,k,j,rfl,rfl,hp,hj,q⟩:=h;cases ro;obtain⟨t,rfl⟩:=ri;obtain⟨af,n,r,ho,hz⟩:=I.lst hp;obtain⟨h1,h2,h3,h4⟩:=zm hj;have hl:=r.length;have hn:=jY
 have I':Inv X pins σ (upd H p (.lst (xs.set j v))) {s with heap:=s.heap.update p (Obj.mapSeq (·.setIfInBounds j u))}:=
  I.Dy hp ho (Ku af n j u) (r.set rv j) (by rw[List.length_set];exact hz) s.toks
 by_cases h0:0<=k
 ·have hk:k.toNat=j:=by
   rw[YY h0 h4]at h1;exact Pv h1
  exact PySem.W.ki_setAt ho h0 (by omega) (by rw[Gc, <-hl];exact h4) (by rw[hk];exact⟨_,I',q⟩)
 ·have hk:(k+(af.toArray.size:Int)).toNat=j:=by
   rw[seqIndex_neg (by omega) h3]at h1
   rw[Gc, <-hl];exact Pv h1
  exact PySem.W.ki_setBack ho (by omega) (by rw[Gc, <-hl];exact h3) (by omega) (by rw[hk];exact⟨_,I',q⟩)
noncomputable def iy:V->Bool
 |.aj=>true
 |.bl _=>true
 |.int _=>true
 |.str _=>true
 |_=>false
noncomputable def gF:V->V->Bool
 |.aj,.aj=>true
 |.bl a,.bl b=>a==b
 |.bl a,.int b=>(if a then 1 else 0)==b
 |.int a,.bl b=>a==(if b then 1 else 0)
 |.int a,.int b=>a==b
 |.str a,.str b=>a==b
 |_,_=>false
theorem Ic{A:Around}{s:Shared}{y x:V}{u v:Value}(ry:RelV y u)(rx:RelV x v)(fy:iy y=true)(fx:iy x=true):SeqAt.EqAt A s u v (gF y x):=by
 cases y with
 | aj=>
  cases ry;cases x with
  |aj=>cases rx;exact SeqAt.EqAt.same _
  |bl b=>cases rx;exact SeqAt.EqAt.none_bool b
  |int b=>obtain⟨t,rfl⟩:=rx;exact SeqAt.EqAt.none_int b t
  |str b=>obtain⟨t,rfl⟩:=rx;exact SeqAt.EqAt.none_str b t
  |_=>exact absurd (show false=true from fx) S5
 | bl a=>
  cases ry;cases x with
  |aj=>cases rx;exact SeqAt.EqAt.bool_none a
  |bl b=>cases rx;exact SeqAt.EqAt.bool_bool a b
  |int b=>obtain⟨t,rfl⟩:=rx;exact SeqAt.EqAt.bool_int a b t
  |str b=>obtain⟨t,rfl⟩:=rx;exact SeqAt.EqAt.bool_str a b t
  |_=>exact absurd (show false=true from fx) S5
 | int a=>
  obtain⟨t',rfl⟩:=ry;cases x with
  |aj=>cases rx;exact SeqAt.EqAt.int_none a t'
  |bl b=>cases rx;exact SeqAt.EqAt.int_bool a t' b
  |int b=>obtain⟨t,rfl⟩:=rx;exact SeqAt.EqAt.int_int a t' b t
  |str b=>obtain⟨t,rfl⟩:=rx;exact SeqAt.EqAt.int_str a t' b t
  |_=>exact absurd (show false=true from fx) S5
 | str a=>
  obtain⟨t',rfl⟩:=ry;cases x with
  |aj=>cases rx;exact SeqAt.EqAt.str_none a t'
  |bl b=>cases rx;exact SeqAt.EqAt.str_bool a t' b
  |int b=>obtain⟨t,rfl⟩:=rx;exact SeqAt.EqAt.str_int a t' b t
  |str b=>obtain⟨t,rfl⟩:=rx;exact SeqAt.EqAt.str_str a t' b t
  |_=>exact absurd (show false=true from fx) S5
 |_=>exact absurd (show false=true from fy) S5
noncomputable def eS(x:V)(u:Value):Bool:=match u with
 |.none=>gF .aj x
 |.bool b=>gF (.bl b) x
 |.int i _=>gF (.int i) x
 |.str z _=>gF (.str z) x
 |_=>false
theorem yS{x y:V}{u:Value}(r:RelV y u)(f:iy y=true):eS x u=gF y x:=by
 cases y with
 |aj=>cases r;rfl
 |bl b=>cases r;rfl
 |int i=>obtain⟨t,rfl⟩:=r;rfl
 |str z=>obtain⟨t,rfl⟩:=r;rfl
 |_=>exact absurd (show false=true from f) S5
theorem oJ{x:V}:∀ {xs:List V} {us:Y5},Vals xs us->xs.all iy=true->us.any (eS x)=xs.any λy=>gF y x
 |_,_,.nil,_=>rfl
 | y::xs,u::us,.cons r t,f=>by
  rw[UV,sa]at f;rw[Wf,Wf,yS r f.1,oJ t f.2]
theorem ng{A:Around}{s:Shared}{x:V}{v:Value}(rx:RelV x v)(fx:iy x=true):∀ {xs:List V} {us:Y5},Vals xs us->xs.all iy=true->∀u∈us,SeqAt.EqAt A s u v (eS x u)
 |_,_,.nil,_=>λu hu=>by cases hu
 | y::xs,u::us,.cons r t,f=>λu' hu=>by
  rw[UV,sa]at f;rcases AC.mp hu with rfl|hu
  ·rw[yS r f.1];exact Ic r rx f.1 fx
  ·exact ng rx fx t f.2 u' hu
noncomputable def pq(x:V)(xs:List V):Bool:=xs.any λy=>gF y x
noncomputable def w4(K:PySem.W.Frag)(neg:Bool):R2:=λx y H Q=>∃p xs,y=.ref p/\(bt K H p xs\/bH K H p xs)/\iy x=true/\xs.all iy=true/\Q (.bl (if neg then !pq x xs else pq x xs)) H
theorem Gb:a7 X (compareOp .In) (w4 X.K false):=by
 intro pins s σ H x y v u Q I rx ry h;obtain⟨p,xs,rfl,hq,fx,fs,q⟩:=h;cases ry;rcases hq with hq|hq
 ·obtain⟨af,r,pl,hz⟩:=I.list hq
  refine SeqAt.in_listAt (eS x) pl.isList (λw hw=>ng rx fx r fs w (by simpa using hw)) ⟨.bl _,H,I,rfl,?_⟩
  rw[show af.toArray.any (eS x)=af.any (eS x) by simp,oJ r fs]
  exact q
 ·obtain⟨af,r,pl,hz⟩:=I.tuple hq
  refine SeqAt.in_tupleAt (eS x) pl (λw hw=>ng rx fx r fs w (by simpa using hw)) ⟨.bl _,H,I,rfl,?_⟩
  rw[show af.toArray.any (eS x)=af.any (eS x) by simp,oJ r fs]
  exact q
theorem Ee:a7 X (compareOp .NotIn) (w4 X.K true):=by
 intro pins s σ H x y v u Q I rx ry h;obtain⟨p,xs,rfl,hq,fx,fs,q⟩:=h;cases ry;rcases hq with hq|hq
 ·obtain⟨af,r,pl,hz⟩:=I.list hq
  refine SeqAt.notIn_listAt (eS x) pl.isList (λw hw=>ng rx fx r fs w (by simpa using hw)) ⟨.bl _,H,I,rfl,?_⟩
  rw[show af.toArray.any (eS x)=af.any (eS x) by simp,oJ r fs]
  exact q
 ·obtain⟨af,r,pl,hz⟩:=I.tuple hq
  refine SeqAt.notIn_tupleAt (eS x) pl (λw hw=>ng rx fx r fs w (by simpa using hw)) ⟨.bl _,H,I,rfl,?_⟩
  rw[show af.toArray.any (eS x)=af.any (eS x) by simp,oJ r fs]
  exact q
theorem FY:bM X (.builtin "len") (λxs H Q=>∃p ys,xs=[.ref p]/\(bt X.K H p ys\/bH X.K H p ys)/\Q (.int ys.length) H):=by
 intro pins s σ H xs us Q I r h;obtain⟨p,ys,rfl,hq,q⟩:=h;obtain⟨u,rfl,rx⟩:=vals1 r;cases rx;have hn:=jY;rcases hq with hq|hq
 ·obtain⟨af,r',pl,hz⟩:=I.list hq
  have hlen:=r'.length;exact Calls.call_len_list pl.isList (by simp only[Gc]<;>omega) ⟨.int ys.length,H,I.tok _,⟨s.toks+1,by rw[Gc,hlen]⟩,q⟩
 ·obtain⟨af,r',pl,hz⟩:=I.tuple hq
  have hlen:=r'.length;exact len_tuple pl (by simp only[Gc]<;>omega) ⟨.int ys.length,H,I.tok _,⟨s.toks+1,by rw[Gc,hlen]⟩,q⟩
theorem Ew:bM X (.builtin "len") (λxs H Q=>∃z,xs=[.str z]/\z.length<=sizeLine/\Q (.int z.length) H):=by
 intro pins s σ H xs us Q I r h;obtain⟨z,rfl,hz,q⟩:=h;obtain⟨u,rfl,t,rfl⟩:=vals1 r;have hn:=jY;exact len_str (by omega) ⟨.int z.length,H,I.tok _,⟨_,rfl⟩,q⟩
theorem bM.or{f:Value}{r r':List V->Hp->VK->Prop}(h:bM X f r)(h':bM X f r'):bM X f (λxs H Q=>r xs H Q\/r' xs H Q):=by
 intro pins s σ H xs us Q I rs q;rcases q with q|q
 ·exact h pins s σ H xs us Q I rs q
 ·exact h' pins s σ H xs us Q I rs q
theorem E6:bM X (.type "list") (λxs H Q=>∃p ys,xs=[.ref p]/\(bt X.K H p ys\/bH X.K H p ys)/\∀l,H l=none->Q (.ref l) (upd H l (.lst ys))):=by
 intro pins s σ H xs us Q I r h;obtain⟨p,ys,rfl,hq,q⟩:=h;obtain⟨u,rfl,rx⟩:=vals1 r;cases rx
 have fin:∀(af:Y5),Vals ys af->ys.length<=sizeLine->∀(h':Heap) (c':Nat),(∀b o',s.heap.get? b=some o'->h'.get? b=some o')->
   h'.get? s.heap.objs.size=some {cls:=.type "list",dict:=none,data:=.seq af.toArray c',slots:= #[]}->EP X pins σ Q (.ref s.heap.objs.size) {s with heap:=h'}:=λaf r' hz h' c' kp e=>
  ⟨.ref s.heap.objs.size,_,I.laid (t':=s.toks) kp (Fk _) (show cX X.prog X.w _ h' _ (.lst ys)from⟨hz,af,c',r',e⟩),rfl,q _ (I.aK.fresh (Fk _))⟩
 rcases hq with hq|hq
 ·obtain⟨af,r',pl,hz⟩:=I.list hq
  have hlen:=r'.length;obtain⟨o,ho,hc,n,hd⟩:=pl.isList;exact call_list_seq p (.inl rfl) ho hc hd (λh' c' kp e=>fin af r' hz h' c' kp e) (by simp only[Gc]<;>omega)
 ·obtain⟨af,r',pl,hz⟩:=I.tuple hq
  have hlen:=r'.length;obtain⟨o,ho,hc,n,hd⟩:=pl;exact call_list_seq p (.inr rfl) ho hc hd (λh' c' kp e=>fin af r' hz h' c' kp e) (by simp only[Gc]<;>omega)
theorem yg:bM X (.type "tuple") (λxs H Q=>∃p ys,xs=[.ref p]/\((bt X.K H p ys/\∀l,H l=none->Q (.ref l) (upd H l (.tup ys)))\/(bH X.K H p ys/\Q (.ref p) H))):=by
 intro pins s σ H xs us Q I r h;obtain⟨p,ys,rfl,h⟩:=h;obtain⟨u,rfl,rx⟩:=vals1 r;cases rx;rcases h with⟨hq,q⟩|⟨hq,q⟩
 ·obtain⟨af,r',pl,hz⟩:=I.list hq
  have hlen:=r'.length;refine call_tuple_list pl.isList (λh' kp=>?_) (by simp only[Gc]<;>omega)
  have I1:Inv X pins σ H {s with heap:=h'}:=I.kept (t':=s.toks) kp
  have I2:Inv X pins σ (upd H h'.objs.size (.tup ys)) {s with heap:=h'.push {cls:=.type "tuple",data:=.seq af.toArray} }:=
   I1.laid (t':=s.toks) (λb o e=>cp _ e) (Fk _) (show cX X.prog X.w _ _ _ (.tup ys)from⟨hz,af,r',IsTup.new _ _⟩)
  exact⟨.ref h'.objs.size,_,I2,rfl,q _ (I1.aK.fresh (Fk _))⟩
 ·obtain⟨af,r',pl,hz⟩:=I.tuple hq
  exact call_tuple_same pl ⟨.ref p,H,I,rfl,q⟩
def zE(K:PySem.W.Frag)(T:String)(x:V)(H:Hp):Prop:=match x with
 |.str _=>T="str"
 |.int _=>T="int"
 |.ref p=>(T="list"/\∃xs,bt K H p xs)\/(T="tuple"/\∃o,K.lookup p=some o/\o.cls=.type "tuple"/\o.dict=none)\/
   (T="dict"/\((∃kvs,H p=some (.dK kvs))\/∃kvs,H p=some (.dT kvs)))\/(T="set"/\∃S n,H p=some (.set S n))
 |_=>False
theorem DW{pins:List (Addr×Obj)}{σ:St}{H:Hp}{s:Shared}{T:String}{x:V}{v:Value}(I:Inv X pins σ H s)(r:RelV x v)(ty:zE X.K T x H):
  s.TypeIs v T/\∀a,v=.ref a->∃ob,s.heap.get? a=some ob/\ob.dict=none:=by
 cases x with
 | str z=>
  obtain⟨t,rfl⟩:=r;cases (show T="str" from ty)
  exact⟨Yt s z t,λ_ e=>nomatch e⟩
 | int i=>
  obtain⟨t,rfl⟩:=r;cases (show T="int" from ty)
  exact⟨typeIs_int s i t,λ_ e=>nomatch e⟩
 | ref p=>
  cases r;rcases ty with⟨rfl,xs,hq⟩|⟨rfl,o,hk,hc,hd⟩|⟨rfl,hk⟩|⟨rfl,S,n,hk⟩
  ·obtain⟨af,_,pl,_⟩:=I.list hq
   refine⟨pl.isList.typeIs,λa e=>?_⟩;cases e;obtain⟨o,n,e,c,hd,_⟩:=pl;exact⟨o,e,hd⟩
  ·refine⟨⟨o,I.c7 p o hk,hc⟩,λa e=>?_⟩
   cases e;exact⟨o,I.c7 _ o hk,hd⟩
  ·have z:∃o,s.heap.get? p=some o/\o.ExactDict:=by
    rcases hk with⟨kvs,hk⟩|⟨kvs,hk⟩
    ·obtain⟨_,_,_,_,o,_,_,e,ex,_⟩:=I.aK p _ hk
     exact⟨o,e,ex⟩
    ·obtain⟨_,_,_,_,o,_,_,e,ex,_⟩:=I.aK p _ hk
     exact⟨o,e,ex⟩
   obtain⟨o,e,ex⟩:=z;refine⟨⟨o,e,ex.1⟩,λa e2=>?_⟩;cases e2;exact⟨o,e,ex.2.1⟩
  ·obtain⟨o,_,_,_,e,ex,_⟩:=I.aK p _ hk
   refine⟨⟨o,e,ex.1⟩,λa e2=>?_⟩;cases e2;exact⟨o,e,ex.2.1⟩
 |_=>exact False.elim ty
def Ck(K:PySem.W.Frag)(T:String)(r:V->List V->Hp->VK->Prop)(to:TE)(t:TA):TE:=λσ H Q=>to σ H λx H1=>zE K T x H1/\t σ H1 λxs H2=>r x xs H2 Q
variable{o e:Expr}{es:Y4}{to:TE}{t:TA}{name:Str}{apos B':Pos}{T id:String}{r:V->List V->Hp->VK->Prop}
theorem tE(pa:PlainAttrs T)(slot:Slot T name id)(Om:typeOf (.builtin id)=pure (.type "method_descriptor"))(hm:CC X id r)(ho:PE X o to)(ha:PA X (e::es) t)
  (Lz:attributeBase o name X.env (eval o X.env)=eval o X.env:=by rfl)
  (ND:((backTo B' (starEach (e::es) X.env)).all (λx=> !x.1)&&(backToKw B' (keywordEach [] X.env)).all (λx=>x.1.isSome)
   &&decide ((e::es).length+([]:List Keyword).length+(if([]:List Keyword).isEmpty then 0 else 1)<30))=true:=by rfl)
  (LA:(apos.endLine==B'.line)=true:=by rfl) (hs:starEach (e::es) X.env=(false,eval e X.env)::starEach es X.env:=by rfl) (Pj:(backTo B' (starEach es X.env)).any (·.1)=false:=by rfl):
  PE X (.Call (.Attribute o name apos) (e::es) [] B') (Ck X.K T r to t):=by
 intro pins s σ H Q I h;refine wpAny_Call_method_late Lz ND LA rfl (aL (ho pins s σ H _ I h) λv s1 ⟨x,H1,I1,r1,ty,q1⟩=>?_);obtain⟨h1,h2⟩:=DW I1 r1 ty;refine⟨T,id,pa,slot,Om,h1,h2,?_⟩;have hA:=ha B' pins s1 σ H1 _ I1 q1;rw[hs]at hA ⊢;refine VY (by show(false||(backTo B' (starEach es X.env)).any (·.1))=false;rw[Pj]<;>rfl) (Xs ?_)
 exact aL hA λus s2=>by rintro⟨vs,H2,I2,r2,q2⟩;exact hm pins s2 σ H2 x vs v us Q I2 r1 r2 q2
end
def uq(X:Cx)(id:String)(r:V->List V->Hp->VK->Prop):Prop:=
 ∀(pins:List (Addr×Obj)) (s:Shared) (σ:St) (H:Hp) (x:V) (xs:List V) (v:Value) (us:Y5) (Q:VK),Inv X pins σ H s->RelV x v->Vals xs us->r x xs H Q->
  wpAny (model X.prog X.w) X.A (call (.builtin id) (v::us)) (EP X pins σ Q) X.xe s
theorem Vals.one:∀ {x:V} {us:Y5},Vals [x] us->∃u,us=[u]/\RelV x u
 |_,_,.cons r .nil=>⟨_,rfl,r⟩
section
variable{X:Cx}{pins:List (Addr×Obj)}{σ:St}{H:Hp}{s:Shared}{l b:Addr}{xs ys zs:List V}
theorem Inv.wF{af its':Y5}{n:Nat}{f:Array Value->Array Value}{t':Nat}(I:Inv X pins σ H s)(hH:H l=some (.lst xs))
  (e:s.heap.get? l=some {cls:=.type "list",data:=.seq af.toArray n}) (hf:f af.toArray=its'.toArray) (hv:Vals ys its') (hz:ys.length<=sizeLine):
  Inv X pins σ (upd H l (.lst ys)) {s with heap:=s.heap.update l (Obj.mapSeq f),toks:=t'}:=by
 have q:=PySem.IsL.update e f;rw[hf]at q;refine I.write (x:=l) (e:=l) (by rw[hH];exact trivial) (.inl rfl) (λb' u hb hu=>(WS s.heap (Obj.mapSeq f) (Os hb)).trans hu) ⟨_,q⟩ ?_
 exact⟨hz,its',_,hv,q⟩
theorem Inv.IS{af:Y5}{t':Nat}(I:Inv X pins σ H s)(hv:Vals ys af)(hz:ys.length<=sizeLine):
  Inv X pins σ (upd H s.heap.objs.size (.lst ys)) {s with heap:=s.heap.push {cls:=.type "list",data:=.seq af.toArray},toks:=t'}:=
 I.laid (λ_ _ q=>cp _ q) (Fk _) ⟨hz,af,0,hv,FS _ rfl⟩
theorem Inv.fresh(I:Inv X pins σ H s):H s.heap.objs.size=none:=I.aK.fresh (Fk _)
theorem Inv.vk(I:Inv X pins σ H s)(hH:H l=some (.lst xs)):xs.length<=sizeLine/\∃(af:Y5) (n:Nat),Vals xs af/\xs.length=af.length/\s.heap.get? l=some {cls:=.type "list",data:=.seq af.toArray n}:=by
 obtain⟨z,af,n,r,e⟩:=I.aK l _ hH;exact⟨z,af,n,r,r.length,e⟩
theorem Ij{n:Nat}(h:n<=sizeLine):Builtin.List.listTooLong n=false:=by
 unfold Builtin.List.listTooLong;exact JU (by omega)
end
section
variable{X:Cx}
def EY:V->List V->Hp->VK->Prop:=λx vs H Q=>∃l xs y,x=.ref l/\vs=[y]/\H l=some (.lst xs)/\xs.length<sizeLine/\Q .aj (upd H l (.lst (xs++[y])))
theorem Ax:uq X "list.append" EY:=by
 intro pins s σ H x vs v us Q I rx rv h;obtain⟨l,xs,y,rfl,rfl,hH,hz,q⟩:=h;cases rx;obtain⟨u,rfl,ru⟩:=rv.one;obtain⟨z,af,n,r,hl,e⟩:=I.vk hH;refine XM F.slot_list_append ⟨_,e,rfl⟩ F.entry_list_append (F.args_list_append_2 _ _) (PySem.list_append l af.toArray n u (by rw[Gc];omega)) ⟨e,?_⟩
 refine⟨.aj,_,I.wF (its':=af++[u]) hH e (by simp) (r.append (.cons ru .nil)) ?_,rfl,q⟩
 rw[JK,List.length_singleton];omega
def BL:V->List V->Hp->VK->Prop:=λx vs H Q=>∃l b xs zs,x=.ref l/\vs=[.ref b]/\H l=some (.lst xs)/\H b=some (.lst zs)/\xs.length+zs.length<=sizeLine/\Q .aj (upd H l (.lst (xs++zs)))
theorem Hm:uq X "list.extend" BL:=by
 intro pins s σ H x vs v us Q I rx rv h;obtain⟨l,b,xs,zs,rfl,rfl,hH,hB,hz,q⟩:=h;cases rx;obtain⟨u,rfl,ru⟩:=rv.one;cases ru;obtain⟨z,af,n,r,hl,e⟩:=I.vk hH;obtain⟨z2,ML,n2,r2,kT,e2⟩:=I.vk hB;have hsz:af.toArray.size+ML.toArray.size<=sizeLine:=by rw[Gc,Gc];omega
 have QG:¬(!af.toArray.isEmpty&&Builtin.List.listTooLong (af.toArray.size+ML.toArray.size))=true:=by
  rw[Ij hsz,XR];exact S5
 refine XM F.slot_list_extend ⟨_,e,rfl⟩ F.entry_list_extend (F.args_list_extend_2 _ _)
  (AutoSeq1.list_extend_list_list_0 l af.toArray n b ML.toArray n2 QG (by rw[Gc];omega) (by omega)) ⟨e,e2,?_⟩
 refine⟨.aj,_,I.wF (its':=af++ML) hH e (by simp) (r.append r2) ?_,rfl,q⟩
 rw[JK];omega
end
section
variable{κ:Type} [DecidableEq κ]
noncomputable def da(kvs:List (κ×V))(k:κ):Option V:=(kvs.find? λkv=>decide (kv.1=k)).map (·.2)
noncomputable def putK(kvs:List (κ×V))(k:κ)(v:V):List (κ×V):=
 if(kvs.any λkv=>decide (kv.1=k))=true then kvs.map (λkv=>if kv.1=k then(kv.1,v)else kv)else kvs++[(k,v)]
noncomputable def jy(kvs:List (κ×V))(k:κ):List (κ×V):=kvs.filter λkv=>decide (kv.1≠k)
theorem vb{p:κ×V}{r:List (κ×V)}{k:κ}(e:p.1=k):da (p::r) k=some p.2:=by simp[da,V2,e]
theorem vc{p:κ×V}{r:List (κ×V)}{k:κ}(e:¬p.1=k):da (p::r) k=da r k:=by simp[da,V2,e]
theorem Ao(k:κ):∀kvs:List (κ×V),(kvs.any λkv=>decide (kv.1=k))=(da kvs k).isSome
 |[]=>rfl
 | p::r=>by
  rw[Wf];by_cases e:p.1=k
  ·simp only[vb e,GT e,Bool.true_or,Option.isSome_some]
  ·rw[vc e,JU e,Bool.false_or];exact Ao k r
theorem sY(kvs:List (κ×V))(k:κ)(v:V):(putK kvs k v).length<=kvs.length+1:=by
 unfold putK;split
 ·rw[Do];omega
 ·rw[JK,V6,XN];omega
theorem fq.A4{o:Option V}{u:Y6}(r:fq o u):o.isSome=u.isSome:=by
 cases o with
 | none=>cases u with
  |none=>rfl
  |some _=>exact(show False from r).elim
 | some _=>cases u with
  |none=>exact(show False from r).elim
  |some _=>rfl
theorem KV.val{kvs:List (κ×V)}{vs:List (κ×Value)}(r:KV kvs vs)(k:κ):fq (da kvs k) (valueAt vs k):=by
 unfold KV at r
 induction r with
 |nil=>exact True.intro
 | @cons p q ps qs h t ih=>
  obtain⟨h1,h2⟩:=h;by_cases e:p.1=k
  ·have e':q.1=k:=h1.symm.trans e
   have b:valueAt (q::qs) k=some q.2:=by simp[valueAt,V2,e']
   rw[vb e,b];exact h2
  ·have e':¬q.1=k:=λz=>e (h1.trans z)
   have b:valueAt (q::qs) k=valueAt qs k:=by simp[valueAt,V2,e']
   rw[vc e,b];exact ih
theorem KV.any{kvs:List (κ×V)}{vs:List (κ×Value)}(r:KV kvs vs)(k:κ):(kvs.any λkv=>decide (kv.1=k))=vs.any λkv=>decide (kv.1=k):=by
 unfold KV at r
 induction r with
 |nil=>rfl
 |cons h t ih=>rw[Wf,Wf,ih,h.1]
theorem KV.tF{kvs:List (κ×V)}{vs:List (κ×Value)}(r:KV kvs vs)(k:κ){y:V}{u:Value}(ry:RelV y u):
  KV (kvs.map λkv=>if kv.1=k then(kv.1,y)else kv) (vs.map λkv=>if kv.1=k then(kv.1,u)else kv):=by
 unfold KV at r ⊢
 induction r with
 |nil=>exact .nil
 | @cons p q ps qs h t ih=>
  rw[Re,Re];refine .cons ?_ ih;obtain⟨h1,h2⟩:=h;by_cases e:p.1=k
  ·rw[u9 e,u9 (h1.symm.trans e)];exact⟨h1,ry⟩
  ·rw[Da e,Da (λz=>e (h1.trans z))];exact⟨h1,h2⟩
theorem KV.put{kvs:List (κ×V)}{vs:List (κ×Value)}(r:KV kvs vs)(k:κ){y:V}{u:Value}(ry:RelV y u):KV (putK kvs k y) (stored vs k u):=by
 unfold putK stored;rw[r.any k];by_cases e:(vs.any λkv=>decide (kv.1=k))=true
 ·rw[u9 e,u9 e];exact r.tF k ry
 ·rw[Da e,Da e];exact Paired.snoc r ⟨rfl,ry⟩
theorem KV.drop{kvs:List (κ×V)}{vs:List (κ×Value)}(r:KV kvs vs)(k:κ):KV (jy kvs k) (without vs k):=by
 unfold KV at r ⊢;unfold jy without
 induction r with
 |nil=>exact .nil
 | @cons p q ps qs h t ih=>
  obtain⟨h1,h2⟩:=h;rw[W7,W7];by_cases e:p.1=k
  ·have a:¬decide (p.1≠k)=true:=by simp[e]
   have b:¬decide (q.1≠k)=true:=by simp[h1.symm.trans e]
   rw[Da a,Da b];exact ih
  ·have e':¬q.1=k:=λz=>e (h1.trans z)
   have a:decide (p.1≠k)=true:=by simp[e]
   have b:decide (q.1≠k)=true:=by simp[e']
   rw[u9 a,u9 b];exact .cons ⟨h1,h2⟩ ih
theorem KV.length{kvs:List (κ×V)}{vs:List (κ×Value)}(r:KV kvs vs):kvs.length=vs.length:=XH r
theorem xE(kvs:List (κ×V))(k:κ):(jy kvs k).length<=kvs.length:=WK _ _
end
theorem gD{P:Program}{w:World}{k:Key}{u:Value}(r:RelV (kV k) u):(bz P w).is k u=true:=by
 cases k with
 |inl i=>obtain⟨t,e⟩:=(show ∃t,u=Value.int i t from r);subst e;exact tf P w i t
 |inr x=>obtain⟨t,e⟩:=(show ∃t,u=Value.str x t from r);subst e;exact Eo P w x t
theorem zo{P:Program}{w:World}:∀ {ks:List Key} {us:Y5},Vals (ks.map kV) us->ItemsAre (bz P w) ks us
 |[],_,r=>by rw[WG]at r;cases r;exact .nil
 | k::ks,_,r=>by
  rw[Re]at r;cases r with
  |cons h t=>exact .cons (gD h) (zo t)
abbrev KT(H:Hp):List (List Key×V)->List (List Key×Addr×Value)->Prop:=Paired λp q=>p.1=q.1/\H q.2.1=some (.tup (p.1.map kV))/\RelV p.2 q.2.2
theorem KT.val{H:Hp}{kvs:List (List Key×V)}{xs:List (List Key×Addr×Value)}(r:KT H kvs xs)(k:List Key):fq (da kvs k) ((atKey xs k).map (·.2)):=by
 induction r with
 |nil=>exact True.intro
 | @cons p q ps qs h t ih=>
  obtain⟨h1,_,h2⟩:=h;by_cases e:p.1=k
  ·have e':q.1=k:=h1.symm.trans e
   have b:atKey (q::qs) k=some q.2:=by simp[atKey,V2,e']
   rw[vb e,b];exact h2
  ·have e':¬q.1=k:=λz=>e (h1.trans z)
   have b:atKey (q::qs) k=atKey qs k:=by simp[atKey,V2,e']
   rw[vc e,b];exact ih
theorem KT.tF{H:Hp}{kvs:List (List Key×V)}{xs:List (List Key×Addr×Value)}(r:KT H kvs xs)(k:List Key){y:V}{u:Value}(ry:RelV y u):
  KT H (kvs.map λkv=>if kv.1=k then(kv.1,y)else kv) (xs.map (putAt k u)):=by
 induction r with
 |nil=>exact .nil
 | @cons p q ps qs h t ih=>
  rw[Re,Re];refine .cons ?_ ih;obtain⟨h1,h2,h3⟩:=h;unfold putAt;by_cases e:p.1=k
  ·rw[u9 e,u9 (h1.symm.trans e)];exact⟨h1,h2,ry⟩
  ·rw[Da e,Da (λz=>e (h1.trans z))];exact⟨h1,h2,h3⟩
theorem KT.put{H:Hp}{kvs:List (List Key×V)}{xs:List (List Key×Addr×Value)}(r:KT H kvs xs)(k:List Key){b:Addr}{y:V}{u:Value}(hb:H b=some (.tup (k.map kV)))(ry:RelV y u):
  KT H (putK kvs k y) (storedH xs k b u):=by
 have e:(kvs.any λkv=>decide (kv.1=k))=(atKey xs k).isSome:=by
  rw[Ao,(r.val k).A4,Option.isSome_map]
 unfold putK storedH;rw[e];by_cases q:(atKey xs k).isSome=true
 ·rw[u9 q,u9 q];exact r.tF k ry
 ·rw[Da q,Da q];exact Paired.snoc r ⟨rfl,hb,ry⟩
theorem KT.keeps{H H':Hp}{kvs:List (List Key×V)}{xs:List (List Key×Addr×Value)}(r:KT H kvs xs)(ht:∀b ys,H b=some (.tup ys)->H' b=some (.tup ys)):KT H' kvs xs:=
 Paired.tK r λ_ _ z=>⟨z.1,ht _ _ z.2.1,z.2.2⟩
section
variable{P:Program}{w:World}{H:Hp}{h:Heap}{a:Addr}
theorem xS{u:HO}(ok:b6 P w H h)(e:Rd H a u):cX P w H h a u:=e.ok ok
theorem pD{kvs:List (Key×V)}(ok:b6 P w H h)(e:Rd H a (.dK kvs)):kvs.length<=sizeLine/\(a==sysModules)=false/\∃vs,KV kvs vs/\h.DictOf (bz P w) a vs:=
 show cX P w H h a (.dK kvs)from xS ok e
theorem mG{kvs:List (Key×V)}(ok:b6 P w H h)(e:H a=some (.dK kvs)):kvs.length<=sizeLine/\(a==sysModules)=false/\∃vs,KV kvs vs/\h.DictOf (bz P w) a vs:=pD ok (.inl e)
theorem xI{ks:List Key}(ok:b6 P w H h)(e:H a=some (.tup (ks.map kV))):(tupleKind (bz P w)).is h ks a:=by
 obtain⟨_,af,r,o,h1,h2,n,h3⟩:=(show cX P w H h a (.tup (ks.map kV))from ok a _ e)
 exact⟨o,af.toArray,n,h1,h2,h3,by simpa using zo r⟩
theorem xv{kvs:List (List Key×V)}(ok:b6 P w H h)(e:Rd H a (.dT kvs)):kvs.length<=sizeLine/\(a==sysModules)=false/\
  ∃xs,KT H kvs xs/\h.DictOfH (tupleKind (bz P w)) a xs:=by
 obtain⟨z,y,xs,r,o,es,ep,h1,h2,h3,h4,h5⟩:=(show cX P w H h a (.dT kvs)from xS ok e)
 refine⟨z,y,xs,r,o,es,ep,h1,h2,h3,h4,λx hx=>?_,h5⟩
 have all:∀ {l:List (List Key×V)} {m:List (List Key×Addr×Value)},KT H l m->∀x∈m,(tupleKind (bz P w)).is h x.1 x.2.1:=by
  intro l m q
  induction q with
  |nil=>intro x hx;exact nomatch hx
  | @cons p q ps qs hq t ih=>
   intro x hx;rcases AC.mp hx with e|hx
   ·subst e
    exact xI ok (by rw[<-hq.1];exact hq.2.1)
   ·exact ih x hx
 exact all r x hx
theorem IT{kvs:List (List Key×V)}(ok:b6 P w H h)(e:H a=some (.dT kvs)):kvs.length<=sizeLine/\(a==sysModules)=false/\
  ∃xs,KT H kvs xs/\h.DictOfH (tupleKind (bz P w)) a xs:=xv ok (.inl e)
end
def jH(H:Hp)(a:Addr)(y v:V)(H':Hp):Prop:=
 (∃kvs k,H a=some (.dK kvs)/\y=kV k/\kvs.length<sizeLine/\H'=upd H a (.dK (putK kvs k v)))\/
 ∃kvs k b,H a=some (.dT kvs)/\y=.ref b/\H b=some (.tup (k.map kV))/\kvs.length<sizeLine/\H'=upd H a (.dT (putK kvs k v))
theorem jH.k{H:Hp}{a:Addr}{kvs:List (Key×V)}{k:Key}{v:V}(e:H a=some (.dK kvs))(hl:kvs.length<sizeLine):jH H a (kV k) v (upd H a (.dK (putK kvs k v))):=.inl ⟨kvs,k,e,rfl,hl,rfl⟩
section
variable{X:Cx}{pins:List (Addr×Obj)}{σ:St}{H:Hp}{s:Shared}{a:Addr}{y v:V}{u r:Value}{o:Option V}{A:Around}{E:Value->Shared->Prop}
theorem Inv.big(I:Inv X pins σ H s):sysModules<s.heap.objs.size:=by
 have h:mainGlobals<s.heap.objs.size:=(I.mod.glob.keeps I.bk).lt;exact Yl (by decide) h
theorem kj{h':Heap}{t':Nat}{ob:HO}(I:Inv X pins σ H s)(mu:nu (H a))(hs:Heap.SameBut a s.heap h')(he:∃q,h'.get? a=some q)(new:cX X.prog X.w (upd H a ob) h' a ob):
  Inv X pins σ (upd H a ob) {s with heap:=h',toks:=t'}:=
 I.write (x:=a) (e:=a) mu (.inl rfl) (λb q hb z=>(hs.2 b hb).trans z) he new
theorem jm{P:Program}{w:World}{H':Hp}{h':Heap}{kvs:List (Key×V)}{vs:List (Key×Value)}(z:kvs.length<=sizeLine)(hd:(a==sysModules)=false)(rel:KV kvs vs)(dd:h'.DictOf (bz P w) a vs):
  cX P w H' h' a (.dK kvs):=⟨z,hd,vs,rel,dd⟩
theorem Ks{H':Hp}{Q:Unit->Shared->Prop}(hu:A.units+1<cLine)(I:Inv X pins σ H s)(g:jH H a y v H')(ry:RelV y u)(rv:RelV v r)(h:∀s',Inv X pins σ H' s'->Q () s'):
  wpAny (model X.prog X.w) A (setItem (.ref a) u r) Q E s:=by
 rcases g with⟨kvs,k,e,ey,l,eH⟩|⟨kvs,k,b,e,ey,eb,l,eH⟩
 ·subst ey eH
  obtain⟨z,hd,vs,rel,dd⟩:=mG I.aK e;have hz:vs.length<=sizeLine:=by rw[<-rel.length];exact z
  have hl:(putK kvs k v).length<=sizeLine:=by have:=sY kvs k v;omega
  refine wpAny_setItem_pairs (hsz:=hz) (gD ry) dd λh' Nq hs=>h _ ?_;have he:∃q,h'.get? a=some q:=let⟨q,_,_,hq,_⟩:=Nq;⟨q,hq⟩
  exact kj I (by rw[e];exact True.intro) hs he (jm hl hd (rel.put k rv) Nq)
 ·subst ey eH
  cases (show u=Value.ref b from ry)
  obtain⟨z,hd,xs,rel,dd⟩:=IT I.aK e;have hz:xs.length<=sizeLine:=by rw[<-XH rel];exact z
  have hl:(putK kvs k v).length<=sizeLine:=by have:=sY kvs k v;omega
  refine wpAny_setItem_heap (hsz:=hz) (tupleKind_room_in1 hu) (xI I.aK eb) dd λh' Nq hs=>h _ ?_;obtain⟨q,es,ep,hq,h2,h3,h4,_,h5⟩:=Nq;refine kj I (by rw[e];exact True.intro) hs ⟨q,hq⟩ ⟨hl,hd,_,(rel.put k eb rv).keeps λc ys ec=>?_,q,es,ep,hq,h2,h3,h4,h5⟩
  rw[aE (J4 ec e (λz=>nomatch z))]
  exact ec
end
section
variable{X:Cx}{pins:List (Addr×Obj)}{σ:St}{H:Hp}{s:Shared}{a:Addr}{kvs:List (Key×V)}{k:Key}{u:Value}{A:Around}{E:Value->Shared->Prop}
theorem Lg{Q:Unit->Shared->Prop}(I:Inv X pins σ H s)(e:H a=some (.dK kvs))(ry:RelV (kV k) u)(l:(da kvs k).isSome=true)(h:∀s',Inv X pins σ (upd H a (.dK (jy kvs k))) s'->Q () s'):
  wpAny (model X.prog X.w) A (delItem (.ref a) u) Q E s:=by
 obtain⟨z,hd,vs,rel,dd⟩:=mG I.aK e
 refine wpAny_delItem_slot dd.typeIs (by decide) X2
  (WC X2 dd.typeIs PySem.F.entry_dict_delitem (PySem.F.args_dict_delitem_2 _ _) (meets_dict_delitem_pairs (bz X.prog X.w) a (gD ry)) ⟨vs,dd,by rw[<-rel.length];exact z,by rw[<-(rel.val k).A4];exact l,λh' Nq hs=>h _ ?_⟩)
 have he:∃q,h'.get? a=some q:=let⟨q,_,_,hq,_⟩:=Nq;⟨q,hq⟩
 exact kj I (by rw[e];exact True.intro) hs he (jm (PK (xE kvs k) z) hd (rel.drop k) Nq)
theorem Hl{v:V}{more:Y5}{Q:Value->Shared->Prop}(I:Inv X pins σ H s)(e:H a=some (.dK kvs))(ry:RelV (kV k) u)(l:da kvs k=some v)(hm:more=[]\/∃x,more=[x])
  (h:∀w' s',Inv X pins σ (upd H a (.dK (jy kvs k))) s'->RelV v w'->Q w' s'):wpAny (model X.prog X.w) A (call (.builtin "dict.pop") (.ref a::u::more)) Q E s:=by
 obtain⟨z,hd,vs,rel,dd⟩:=mG I.aK e;obtain⟨w',hw,L0⟩:=fq.some_of (v:=v) (o:=valueAt vs k) (by rw[<-l];exact rel.val k)
 have hp:(keyPart u).isSome=true:=by
  cases k with
  |inl i=>obtain⟨t,q⟩:=(show ∃t,u=Value.int i t from ry);subst q;rfl
  |inr x=>obtain⟨t,q⟩:=(show ∃t,u=Value.str x t from ry);subst q;rfl
 have ha:argsOk "dict.pop" ⟨.ref a::u::more,[]⟩:=by
  rcases hm with q|⟨x,q⟩
  ·subst q;exact PySem.F.args_dict_pop_2 _ _
  ·subst q;exact PySem.F.args_dict_pop_3 _ _ _
 refine WC Yo dd.typeIs PySem.F.entry_dict_pop ha (meets_dict_pop_there (bz X.prog X.w) a (gD ry) more hm hp)
  ⟨vs,w',dd,by rw[<-rel.length];exact z,hw,λh' Nq hs=>h w' _ ?_ L0⟩
 have he:∃q,h'.get? a=some q:=let⟨q,_,_,hq,_⟩:=Nq;⟨q,hq⟩
 exact kj I (by rw[e];exact True.intro) hs he (jm (PK (xE kvs k) z) hd (rel.drop k) Nq)
theorem Cr{Q:Value->Shared->Prop}(I:Inv X pins σ H s)(e:H a=some (.dK kvs))(h:∀s',Inv X pins σ (upd H a (.dK [])) s'->Q .none s'):wpAny (model X.prog X.w) A (call (.builtin "dict.clear") [.ref a]) Q E s:=by
 obtain⟨z,hd,vs,rel,dd⟩:=mG I.aK e;refine WC Yb dd.typeIs PySem.F.entry_dict_clear (PySem.F.args_dict_clear_1 _) (meets_dict_clear (bz X.prog X.w) a) ⟨vs,dd,by rw[<-rel.length];exact z,λh' Nq hs=>h _ ?_⟩
 have he:∃q,h'.get? a=some q:=let⟨q,_,_,hq,_⟩:=Nq;⟨q,hq⟩
 exact kj (t':=s.toks) I (by rw[e];exact True.intro) hs he (jm (Rf _) hd .nil Nq)
end
def DG(td ty tv:TE):TS:=λD σ H=>tv σ H λv H1=>td σ H1 λx H2=>ty σ H2 λy H3=>∃a H4,x=.ref a/\jH H3 a y v H4/\D.nx σ H4
section
variable{X:Cx}{o i e value:Expr}{pos pos' Rz:Pos}{td ty tv:TE}
theorem pf(hu:X.A.units+1<cLine)(ho:PE X o td)(hi:PE X i ty)(hv:PE X value tv)(hs:swapsWith value (some (.Subscript o i pos')) pos.line X.env=pure false):
  PS X (.Assign [.Subscript o i pos'] value pos) (DG td ty tv):=by
 intro pins s σ H D I h;refine wpAny_Assign_Subscript (aL (hv pins s σ H _ I h) λr s1 ⟨v,H1,I1,rv,q1⟩=>aL (ho pins s1 σ H1 _ I1 q1) λu s2 ⟨x,H2,I2,rx,q2⟩=>aL (hi pins s2 σ H2 _ I2 q2) λiv s3 ⟨y,H3,I3,ry,a,H4,ex,g,q3⟩=>?_) hs;subst ex;obtain rfl:u=Value.ref a:=rx;exact Ks hu I3 g ry rv λs4 I4=>⟨σ,H4,I4,q3⟩
end
theorem Ak{P:Program}{w:World}{H:Hp}(h:Heap)(hb:sysModules<h.objs.size):cX P w H (h.push {cls:=.type "dict",data:=.dict #[]}) h.objs.size (.dK []):=
 ⟨Rf _,WT.mpr (Os (Pi hb)),[],.nil,Heap.DictOf.new h⟩
def G5:TE:=λ_ H Q=>∀p,H p=none->Q (.ref p) (upd H p (.dK []))
section
variable{X:Cx}{pos:Pos}
theorem z7:PE X (.Dict [] [] pos) G5:=λpins s σ H Q I h=>
 wpAny_Dict_empty ⟨.ref s.heap.objs.size,_,I.laid (a:=s.heap.objs.size) (o:=.dK []) (t':=s.toks) (λ_ _ q=>cp _ q) (Fk _) (Ak s.heap I.big),rfl,h _ (I.aK.fresh (Fk _))⟩
end
def m7:List (TE×TE)->St->Hp->(List (V×V)->Hp->Prop)->Prop
 |[],_,H,Q=>Q [] H
 |(tk,tv)::r,σ,H,Q=>tk σ H λx H1=>tv σ H1 λy H2=>m7 r σ H2 λps H3=>Q ((x,y)::ps) H3
abbrev VV:List (V×V)->List (Value×Value)->Prop:=Paired λp q=>RelV p.1 q.1/\RelV p.2 q.2
def mM(X:Cx)(pos:Pos)(keys:List (Option Expr))(values:Y4)(LP:List (TE×TE)):Prop:=
 ∀(pins:List (Addr×Obj)) (s:Shared) (σ:St) (H:Hp) (Q:List (V×V)->Hp->Prop),Inv X pins σ H s->m7 LP σ H Q->
  wpAny (model X.prog X.w) X.A (evalPairs (pairTrees keys values X.env pos)) (λvs s'=>∃ps H',Inv X pins σ H' s'/\VV ps vs/\Q ps H') X.xe s
theorem tQ{X:Cx}{pos:Pos}:mM X pos [] [] []:=λpins s σ H Q I h=>pairTrees_nil_walk ⟨[],H,I,.nil,h⟩
theorem sj{X:Cx}{pos:Pos}{k v:Expr}{ks:List (Option Expr)}{vs:Y4}{tk tv:TE}{LP:List (TE×TE)}(hk:PE X k tk)(hv:PE X v tv)(hr:mM X pos ks vs LP):
  mM X pos (some k::ks) (v::vs) ((tk,tv)::LP):=λpins s σ H Q I h=>
 pairTrees_cons_walk (aL (hk pins s σ H _ I h) λu s1 ⟨x,H1,I1,rx,q1⟩=>aL (hv pins s1 σ H1 _ I1 q1) λw2 s2 ⟨y,H2,I2,ry,q2⟩=>
  aL (hr pins s2 σ H2 _ I2 q2) λws s3=>by rintro⟨ps,H3,I3,rel,q3⟩;exact ⟨(x,y)::ps,H3,I3,.cons ⟨rx,ry⟩ rel,q3⟩)
noncomputable def dk(kvs more:List (Key×V)):List (Key×V):=more.foldl (λacc kv=>putK acc kv.1 kv.2) kvs
theorem KV.merge:∀ {more:List (Key×V)} {rs:List (Key×Value)} {kvs:List (Key×V)} {vs:List (Key×Value)},KV more rs->KV kvs vs->KV (dk kvs more) (merged vs rs):=by
 intro more rs kvs vs r;unfold KV at r
 induction r generalizing kvs vs with
 |nil=>intro q;exact q
 | @cons p q ps qs h t ih=>
  intro r0
  have e:KV (putK kvs p.1 p.2) (stored vs q.1 q.2):=by
   have:=r0.put p.1 h.2;rw[<-h.1];exact this
  exact ih e
theorem qt:∀(more kvs:List (Key×V)),(dk kvs more).length<=kvs.length+more.length
 |[],kvs=>by show kvs.length<=kvs.length+0;omega
 | p::r,kvs=>by
  have h1:=qt r (putK kvs p.1 p.2);have h2:=sY kvs p.1 p.2;show(dk (putK kvs p.1 p.2) r).length<=_;rw[V6];omega
theorem yo{P:Program}{w:World}:∀ {kvs:List (Key×V)} {ws:List (Value×Value)},VV (kvs.map λkv=>(kV kv.1,kv.2)) ws->∃rs,Carries (bz P w) ws rs/\KV kvs rs
 |[],_,r=>by rw[WG]at r;cases r;exact⟨[],True.intro,.nil⟩
 | p::kvs,_,r=>by
  rw[Re]at r;cases r with
  | @cons a b as bs h t=>
   obtain⟨rs,c,q⟩:=yo (P:=P) (w:=w) t;obtain⟨b1,b2⟩:=b;exact⟨(p.1,b2)::rs,⟨gD h.1,rfl,c⟩,.cons ⟨rfl,h.2⟩ q⟩
def G7(LP:List (TE×TE)):TE:=λσ H Q=>∀p,H p=none->m7 LP σ (upd H p (.dK [])) λps H2=>H2 p=some (.dK [])/\∃kvs:List (Key×V),ps=kvs.map (λkv=>(kV kv.1,kv.2))/\kvs.length<=15/\Q (.ref p) (upd H2 p (.dK (dk [] kvs)))
theorem vW{X:Cx}{pos:Pos}{keys:List (Option Expr)}{values:Y4}{LP:List (TE×TE)}(h:mM X pos keys values LP)(Nx:keys.all (·.isSome)=true)(hl:keys.length=values.length)(h0:keys≠[])
  (Ql:keys.length<=15):PE X (.Dict keys values pos) (G7 LP):=by
 intro pins s σ H Q I q;have hn:=I.aK.fresh (Fk s.heap.objs.size);have I1:=I.laid (a:=s.heap.objs.size) (o:=.dK []) (h':=s.heap.push {cls:=.type "dict",data:=.dict #[]}) (t':=s.toks) (λ_ _ q=>cp _ q) (Fk _) (Ak s.heap I.big);refine wpAny_Dict_walk (knd:=bz X.prog X.w) Nx hl h0 Ql (aL (h pins _ σ _ _ I1 (q _ hn)) λws s2 ⟨ps,H2,I2,rel,e,kvs,ep,lk,q2⟩=>?_);subst ep;obtain⟨rs,c,rk⟩:=yo (P:=X.prog) (w:=X.w) rel;obtain⟨z,hd,VL,r0,dd⟩:=mG I2.aK e;cases r0;refine⟨rs,c,dd,λh' Nq hs=>⟨.ref s.heap.objs.size,_,?_,rfl,q2⟩⟩
 have hz:(dk [] kvs).length<=sizeLine:=by
  have h1:=qt kvs [];rw[XN]at h1;rw[V3];omega
 have he:∃q,h'.get? s.heap.objs.size=some q:=let⟨q,_,_,hq,_⟩:=Nq;⟨q,hq⟩
 exact kj I2 (by rw[e];exact True.intro) hs he (jm hz hd (rk.merge .nil) Nq)
structure M1(X:Cx)(o:Expr)(m:Str)(apos:Pos)(e:Expr)(B':Pos):Prop where
 base:attributeBase o m X.env (eval o X.env)=eval o X.env
 wD:((backTo B' (starEach [e] X.env)).all (λx=> !x.1)&&(backToKw B' (keywordEach [] X.env)).all (λx=>x.1.isSome)
  &&decide (([e]:Y4).length+([]:List Keyword).length+(if([]:List Keyword).isEmpty then 0 else 1)<30))=true
 line:(apos.endLine==B'.line)=true
 trees:backTo B' (starEach [e] X.env)=[(false,eval e X.env)]
def yT(H:Hp)(a:Addr):Prop:=(∃kvs,Rd H a (.dK kvs))\/∃kvs,Rd H a (.dT kvs)
theorem AW{X:Cx}{pins:List (Addr×Obj)}{σ:St}{H:Hp}{s:Shared}{a:Addr}(I:Inv X pins σ H s)(d:yT H a):
  s.TypeIs (.ref a) "dict"/\(∀b,Value.ref a=.ref b->∃ob,s.heap.get? b=some ob/\ob.dict=none)/\(a==sysModules)=false:=by
 rcases d with⟨kvs,e⟩|⟨kvs,e⟩
 ·obtain⟨_,hd,vs,_,dd⟩:=pD I.aK e
  refine⟨dd.typeIs,λb q=>?_,hd⟩;cases q;obtain⟨ob,_,_,h1,h2,_⟩:=dd;exact⟨ob,h1,h2.2.1⟩
 ·obtain⟨_,hd,xs,_,dd⟩:=xv I.aK e
  refine⟨dd.typeIs,λb q=>?_,hd⟩;cases q;obtain⟨ob,_,_,h1,h2,_⟩:=dd;exact⟨ob,h1,h2.2.1⟩
def C9(td ty:TE):TE:=λσ H Q=>td σ H λx H1=>∃a,x=.ref a/\yT H1 a/\ty σ H1 λy H2=>∃kvs k v,H2 a=some (.dK kvs)/\y=kV k/\da kvs k=some v/\Q v (upd H2 a (.dK (jy kvs k)))
section
variable{X:Cx}{o e f:Expr}{apos B':Pos}{td ty tx:TE}
theorem qi(ho:PE X o td)(he:PE X e ty)(m:M1 X o "pop" apos e B'):PE X (.Call (.Attribute o "pop" apos) [e] [] B') (C9 td ty):=by
 intro pins s σ H Q I h;refine wpAny_Call_method m.base m.wD m.line S7 Yo PySem.F.type_dict_pop (aL (ho pins s σ H _ I h) λu s1 ⟨x,H1,I1,rx,a,ex,d,q1⟩=>?_);subst ex;obtain rfl:u=Value.ref a:=rx;obtain⟨t1,t2,_⟩:=AW I1 d;refine⟨t1,t2,?_⟩;rw[m.trees];refine VY rfl (Xs (W6 (aL (he pins s1 σ H1 _ I1 q1) λiv s2 ⟨y,H2,I2,ry,kvs,k,v,ea,ey,l,q2⟩=>Xe ?_)));subst ey;exact Hl I2 ea ry l (.inl rfl) λw' s3 I3 L0=>⟨v,_,I3,L0,q2⟩
end
end L2
namespace wN
open PySem PySem.W PySem.Calls PyProof.Rows
theorem Jl{P:Params}{h:Heap}:∀(ns:VH) (vs:Y5),WellAll P h vs (ns.map WData.int)->IntsAre vs ns:=by
 intro ns
 induction ns with
 | nil=>
  intro vs w;rw[WG]at w;cases w;exact .nil
 | cons n ns ih=>
  intro vs w;rw[Re]at w;cases w with
  | cons a b=>
   cases a;exact .cons _ _ (ih _ b)
theorem Cu{l:OpenLaw}{n:Nat}(hn:l.most=some n){P:Params}{h:Heap}{args:List WData}{vals:Y5}
  (Oz:l.row.toRowW.claim.pre args=true) (Rx:WellAll P h vals args):
  ∃a vs ns,vals=[Value.ref a]/\args=[WData.list (ns.map WData.int)]/\h.get? a=some {cls:=.type "list",data:=.seq vs.toArray}/\IntsAre vs ns/\ns.length<=n:=by
 have UB:WShape.hasAll [] args [.list .int]=true:=(pre_splitW Oz).1;have hc:l.pre.holds [] {args:=args}=true:=(pre_splitW Oz).2;obtain⟨d,r,rfl,h1,h2⟩:=hasAllW_cons UB;obtain rfl:=hasAllW_nil h2;obtain⟨xs,rfl,h3⟩:=hasW_list h1;obtain⟨ns,rfl⟩:=items_int h3
 have hlen:ns.length<=n:=by
  unfold OpenLaw.pre at hc
  have h4:(WTm.not (.lt (.lit (.int (n:Int))) (.len (.arg 0)))).holds [] {args:=[.list (ns.map .int)]}=true:=by
   have h4:=(holds_andW hc).1;rw[hn]at h4;exact h4
  have h5:=condW_of h4 (w_not (w_lt w_lit (w_len_list (w_arg rfl))));rw[Do]at h5;refine Nat.le_of_not_lt λq=>?_;have q':(n:Int)<((ns.length:Nat):Int):=by omega
  first
   |(rw[GT q']at h5;exact absurd h5 (by decide))
   |(simp at h5;omega)
 cases Rx with
 | cons w1 w2=>
  cases w2;cases w1 with
  |list ho Nx=>exact⟨_,_,ns,rfl,rfl,ho,Jl ns _ Nx,hlen⟩
theorem Hz(l:OpenLaw)(args:List WData):l.row.toRowW.claim.post args (.bool true) args=true:=
 postW_of (r:=l.row.toRowW) (X:=(true==true))
  (show WShape.has [] (.bool true) .bool=true by first|rfl|decide|simp[WShape.has,WShape.arms,WShape.armsAll])
  (show(WTm.eq .res (.lit (.bool true))).value [] {args:=args,res:=some (.bool true),after:=args}=some (.bool (true==true))from w_eq_bool (w_res rfl) w_lit) rfl
theorem Es{l:OpenLaw}{n:Nat}{q:Program}{loose:List Str}{XP:(Str->Y6)->Heap->Prop}{YP:World->Heap->Prop}{d:DefRec}
  (hn:l.most=some n) (PQ:d.params.defaults=[])
  (call:∀(w:World) (cN Lm:Shared) (mg mb:Str->Y6) (fa:Addr) (o:Obj) (pm cd doc:Value) (a:Addr) (vs:Y5) (ns:VH),
   Ground q loose [] XP w cN mg mb Lm.heap->YP w Lm.heap->
   Lm.heap.get? fa=some o->o.data=.func (docDef d.name d.params d.body d.scope pm cd doc)->Lm.heap.CodeRec cd d.name->mg d.name=some (.ref fa)->
   Lm.heap.get? a=some {cls:=.type "list",data:=.seq vs.toArray}->IntsAre vs ns->ns.length<=n->Lm.gens= #[]->
   codeAny (model l.prog w) callerA (.call (.ref fa) ⟨[.ref a],[]⟩) (λr s'=>r=.ok (.ret (.bool true))/\OldK Lm.heap s'.heap/\s'.os=Lm.os/\AllBare s'.gens) Lm):
  WalkO q loose XP YP l.row.toRowW d [] (λf vs=>PySem.call f vs):=by
 intro w cN Lm mg mb G Y fa o pm cd doc dV kV ho hd L4 hD hmg hg args vals as Oz T8 VS Rx VG;obtain rfl:dV=.none:=Dflts.none hD PQ;obtain rfl:kV=.none:=Dflts.noKw hD;obtain⟨a,vs,ns,rfl,rfl,Pw,hints,hlen⟩:=Cu hn Oz Rx;refine enter_call (YI (call w cN Lm mg mb fa o pm cd doc a vs ns G Y ho (fd_plain hd) L4 hmg Pw hints hlen hg) λr s' hq=>?_);obtain⟨rfl,h2,h3,h4⟩:=hq;exact⟨.inl ⟨.bool true,.bool true,[],rfl,λ_=>rfl,.bool true,Hz l _,λ_=>⟨List.Pairwise.nil,λ_ hm=>(nomatch hm)⟩⟩,h2,h3,h4⟩
end wN
namespace L2
open PySem PySem.Spec PyProof.Rows
theorem yR:∀ {vs:Y5} {ns:VH},IntsAre vs ns->Vals (ns.map V.int) vs
 |_,_,.nil=>.nil
 |_,_,.cons n t h=>.cons ⟨t,rfl⟩ (yR h)
def tX(H:Hp):Prop:=∀b,H b=none\/∃o xs,H b=some (.frz o (.lst xs))
theorem IY{P:Program}{w:World}{K:PySem.W.Frag}{mg mb:Str->Y6}{CX:gC}{k:Nat}{fa a:Addr}{fd:FuncData}{x:Str}{sp:Sp}{Lm:Shared}{vs:Y5}{ns:VH}
  (KX:K.In Lm.heap) (Oq:Lm.heap.Ns mainGlobals mg) (hb:Lm.heap.Ns builtinsNs mb) (Us:∀x:Str,x≠"__name__"->mb x=bootBuiltins x) (Q9:Lm.heap.NoLimit) (hg:Lm.gens= #[])
  (ha:Lm.heap.get? a=some {cls:=.type "list",data:=.seq vs.toArray}) (hi:IntsAre vs ns) (hl:ns.length<=sizeLine) (hr:b4 k callerA)
  (F:∀base:Heap,K.In base->base.Ns mainGlobals mg->dX P w K mg base CX k fa fd [x] sp) (Qr:∀(s:Shared) (u:Value),BindsTo s fd ⟨[u],[]⟩ [(x,u)])
  (M6:∀H:Hp,tX H->bt K H a (ns.map V.int)->sp [.ref a] H (λv _=>v=.bl true) λ_ _ _=>False)
  (Ru:∀H e s',CX [] H Lm (λ_ _ _=>False) e s'->False):
  codeAny (model P w) callerA (.call (.ref fa) ⟨[.ref a],[]⟩) (λr s'=>r=.ok (.ret (.bool true))/\OldK Lm.heap s'.heap/\s'.os=Lm.os/\AllBare s'.gens) Lm:=by
 have rv:=yR hi;have Rv:=hi.length
 have core:∀H:Hp,tX H->bt K H a (ns.map V.int)->b6 P w H Lm.heap->(∀b,H b≠none->b=a)->(H a≠none->K.lookup a=none)->
   codeAny (model P w) callerA (.call (.ref fa) ⟨[.ref a],[]⟩) (λr s'=>r=.ok (.ret (.bool true))/\OldK Lm.heap s'.heap/\s'.os=Lm.os/\AllBare s'.gens) Lm:=by
  intro H hO hS aK hA hK;have NH:∀ {b:Addr} {o:Obj},Lm.heap.get? b=some o->H b=none->(jb Lm.heap H).get? b=some o:=λe n=>DN e n
  have QB:∀ {b:Addr} {o:Obj} {es:Array DictEntry} {ep:Nat},Lm.heap.get? b=some o->o.data=.dict es ep->H b=none:=λ{b o es ep} e d=>by
   cases q:H b with
   |none=>rfl
   | some u=>
    have e':b=a:=hA b (by rw[q];simp)
    subst e';rw[ha]at e;cases e;have d':Data.seq vs.toArray _=Data.dict es ep:=d;cases d'
  have Q2:∀ {b:Addr} {m:Str->Y6},Lm.heap.Ns b m->(jb Lm.heap H).Ns b m:=λ{b m} ⟨o,es,ep,e,d,r⟩=>⟨o,es,ep,NH e (QB e d),d,r⟩
  have SG:K.In (jb Lm.heap H):=λb o e=>NH (KX b o e) (by
   cases q:H b with
   |none=>rfl
   | some u=>
    have e':b=a:=hA b (by rw[q];simp)
    subst e';rw[hK (by rw[q];simp)]at e;cases e)
  have hM:Mod K mg (jb Lm.heap H):=⟨SG,Q2 Oq,⟨mb,Q2 hb,Us⟩,let⟨mc,h1,h2⟩:=Q9;⟨mc,Q2 h1,h2⟩⟩
  have e0:qv P w K mg (jb Lm.heap H) callerA [] Lm H:=⟨rfl,hM,λb o e=>Jo e,Wu (ED _ _),trivial,λb hb=>absurd (show b∈([]:Y3)from hb) (by simp),aK,.of_eq hg⟩
  refine YI ((F _ SG (Q2 Oq)).run callerA [] Lm H ⟨[.ref a],[]⟩ [.ref a] [.ref a] _ _ hr e0 (Qr Lm (.ref a)) (.cons rfl .nil) (M6 H hO hS)) λr s' h=>?_;cases r with
  |error e=>exact(Ru H e s' h).elim
  | ok fl=>
   cases fl with
   |next=>exact False.elim h
   |brk=>exact False.elim h
   |cont=>exact False.elim h
   | ret u=>
    obtain⟨v,H',os,bare,un,Sk,r',q⟩:=h;have q':v=.bl true:=q;subst q';obtain rfl:u=Value.bool true:=r';refine⟨rfl,OldK.of_keep λb o e=>?_,os,bare⟩;cases q:H b with
    |none=>exact un.keep b o e q (by intro z;exact absurd (show b∈([]:Y3)from z) (by simp)) (by simp)
    | some u=>
     rcases hO b with z|⟨ob,xs,z⟩
     ·rw[q]at z;cases z
     ·have z2:=un.fN b ob _ z
      obtain⟨e1,_⟩:=aK b _ z;obtain⟨e2,_⟩:=Sk b _ z2;rw[e]at e1;cases e1;exact e2
 cases hk:K.lookup a with
 | some o=>
  have e:=KX a o hk;rw[ha]at e;cases e;refine core (λ_=>none) (λ_=>.inl rfl) (.inr ⟨_,vs.toArray,_,hk,rfl,rfl,rfl,by rw[Gc,Rv];exact hl,by simpa using rv⟩) (λb u z=>by have z':(none:Option HO)=some u:=z;cases z') (λb z=>absurd rfl z) λz=>absurd rfl z
 | none=>
  refine core (λb=>if b=a then some (.frz {cls:=.type "list",data:=.seq vs.toArray} (.lst (ns.map V.int)))else none) (λb=>?_) (.inl (.inr ⟨{cls:=.type "list",data:=.seq vs.toArray},u9 rfl⟩)) (λb u z=>?_) (λb z=>?_) λ_=>hk
  ·by_cases hb:b=a
   ·exact .inr ⟨_,_,u9 hb⟩
   ·exact .inl (Da hb)
  ·by_cases hb:b=a
   ·have z':=(u9 hb).symm.trans z
    cases z';subst hb;exact⟨ha,by rw[Do];exact hl,vs,_,rv,ha⟩
   ·have z':=(Da hb).symm.trans z
    cases z'
  ·by_cases hb:b=a
   ·exact hb
   ·exact absurd (Da hb) z
noncomputable abbrev Li{K:PySem.W.Frag}{h:Heap}(_:K.In h):PySem.W.Frag:=K
theorem EO{l:PySem.W.OpenLaw}{n k:Nat}{q:Program}{loose:List Str}{XP:(Str->Y6)->Heap->Prop}{YP:World->Heap->Prop}{d:DefRec}{K:Params->PySem.W.Frag}{CX:World->gC}{sp:World->Sp}{x:Str}
  (hn:l.most=some n) (Qq:n<=sizeLine) (PQ:d.params.defaults=[]) (hr:b4 k callerA)
  (hY:∀(w:World) (h:Heap),YP w h->(K w.params).In h)
  (F:∀(w:World) (mg:Str->Y6) (fa:Addr) (h:Heap),(K w.params).In h->h.Ns mainGlobals mg->mg d.name=some (.ref fa)->
   ∃fd:FuncData,(∀(s:Shared) (u:Value),BindsTo s fd ⟨[u],[]⟩ [(x,u)])/\
    ∀base:Heap,(K w.params).In base->base.Ns mainGlobals mg->dX l.prog w (K w.params) mg base (CX w) k fa fd [x] (sp w))
  (M6:∀(w:World) (H:Hp) (a:Addr) (ns:VH),ns.length<=n->tX H->bt (K w.params) H a (ns.map V.int)->sp w [.ref a] H (λv _=>v=.bl true) λ_ _ _=>False)
  (Ru:∀(w:World) (H:Hp) (s:Shared) (e:Value) (s':Shared),CX w [] H s (λ_ _ _=>False) e s'->False):
  PySem.W.WalkO q loose XP YP l.row.toRowW d [] (λf vs=>PySem.call f vs):=by
 refine wN.Es hn PQ λw cN Lm mg mb fa o pm cd doc a vs ns G Y ho hd L4 hmg Pw hints hlen hg=>?_;have KX:=hY w _ Y;obtain⟨fd,hb,hF⟩:=F w mg fa _ KX G.T.g hmg;exact IY KX G.T.g G.T.b G.T.builtins G.T.nolimit hg Pw hints (PK hlen Qq) hr hF hb (λH hO hS=>M6 w H a ns hlen hO hS) λH e s'=>Ru w H Lm e s'
noncomputable def fK(s:Stmt):Arguments:=match s with
 |.FunctionDef _ a _ _ _ _ _ _ _ _=>a
 |_=>{posonlyargs:=[],args:=[],vararg:=none,kwonlyargs:=[],kw_defaults:=[],kwarg:=none,defaults:=[]}
noncomputable def cU(s:Stmt):List Stmt:=match s with
 |.FunctionDef _ _ b _ _ _ _ _ _ _=>b
 |_=>[]
noncomputable def aH(s:Stmt):Scope:=match s with
 |.FunctionDef _ _ _ _ _ _ sc _ _ _=>sc
 |_=>{kind:=.function,names:=[],isGenerator:=false,isCoroutine:=false}
noncomputable abbrev cV:gC:=λ_ _ _ _ _ _=>False
noncomputable abbrev E0:XK:=λ_ _ _=>False
theorem kb{X:Cx}:Passes cV X E0:=λ_ _ _ _ _ _ _ h=>h.elim
structure gb(K:PySem.W.Frag)(x qual:Str)(st:Stmt)(f:Addr)(fd:FuncData):Prop where
 ex:∃(oc:Value) (od:Y7) (kV doc pm:Value) (an:Y7) (Lk ct:Value) (MO:Array (Y6)),
  fd=PySem.W.fnOf x qual (fK st) (cU st) (aH st) .none kV doc pm an Lk ct/\K.lookup f=some ⟨oc,od,.func fd,MO⟩/\PySem.W.codeIn K Lk qual=true
 kp:PySem.W.keepIn K (.ref f)=true
section
variable{P:Program}{w:World}{K:PySem.W.Frag}{mg:Str->Y6}{base:Heap}
theorem gb.ok{x qual:Str}{st:Stmt}{f:Addr}{fd:FuncData}{N ps:List Str}{k:Nat}{sp:Sp}(F:gb K x qual st f fd)(S:ba N ps (aH st))(len:∀vs H Q E,sp vs H Q E->vs.length=ps.length)
  (Od:∀(Lk:Value) (A:Around) (outer:List Env) (s:Shared) (H:Hp) (vs:List V) (Q:VK) (E:XK),b4 k (A.deeper (envOfC qual (aH st) s.heap.objs.size f Lk))->sp vs H Q E->
   ∃t,cq (fG cV P w K mg base N qual (aH st) f Lk A outer s H E).fJ (cU st) t/\t {nx:=λ_ H'=>Q .aj H',rt:=Q} (start N vs) H):dX P w K mg base cV (k+1) f fd ps sp:=by
 obtain⟨oc,od,kV,doc,pm,an,Lk,ct,MO,rfl,lk,L4⟩:=F.ex;refine Bs lk L4 S len λA outer s H vs Q E hr M6=>?_;obtain⟨t,h,q⟩:=Od Lk A outer s H vs Q E hr M6;exact⟨t,h.fJ,q⟩
theorem gb.binds{x qual:Str}{st:Stmt}{f:Addr}{fd:FuncData}{ps:List Str}(F:gb K x qual st f fd)
  (h:∀(kV doc pm:Value) (an:Y7) (Lk ct:Value) (us:Y5),us.length=ps.length->bindArgs (PySem.W.fnOf x qual (fK st) (cU st) (aH st) .none kV doc pm an Lk ct) ⟨us,[]⟩=pure (ps.zip us)):Binds K fd ps []:=by
 obtain⟨oc,od,kV,doc,pm,an,Lk,ct,MO,rfl,lk,L4⟩:=F.ex;exact .all (h kV doc pm an Lk ct)
theorem EH{x qual:Str}{st:Stmt}{f:Addr}{oc:Value}{od an:Y7}{MO:Array (Y6)}{kV doc pm Lk ct:Value}(l:K.lookup f=some ⟨oc,od,.func (PySem.W.fnOf x qual (fK st) (cU st) (aH st) .none kV doc pm an Lk ct),MO⟩)
  (c:PySem.W.codeIn K Lk qual=true) (k:PySem.W.keepIn K (.ref f)=true):gb K x qual st f (PySem.W.fnOf x qual (fK st) (cU st) (aH st) .none kV doc pm an Lk ct):=⟨⟨oc,od,kV,doc,pm,an,Lk,ct,MO,rfl,l,c⟩,k⟩
variable{X:Cx}
theorem pv(i:Nat){x:Str}{pos:Pos}(hN:X.N[i]? =some x:=by rfl)(hv:dS X.env.scope x:=by first|exact Or.inl rfl|exact Or.inr (Or.inl rfl)|exact Or.inr (Or.inr rfl))(hd:gV x:=by decide)
  (L4:TY x:=by decide):PE X (.Name x pos) (xB i):=Jr hN hv hd L4
end
def ah(H H':Hp):Prop:=∀b o,H b=some o->H' b=some o
theorem ah.refl(H:Hp):ah H H:=λ_ _ h=>h
theorem ah.trans{H H1 H2:Hp}(a:ah H H1)(b:ah H1 H2):ah H H2:=λc o h=>b c o (a c o h)
theorem ah.free{H H':Hp}(e:ah H H'){l:Addr}(h:H' l=Option.none):H l=Option.none:=by
 cases q:H l with
 |none=>rfl
 | some o=>
  rw[e l o q]at h;cases h
end L2
namespace PL
open PySem PySem.Spec PySem.W
end PL
namespace PL
open PySem
noncomputable abbrev Ky:=Sum Int Str
inductive D where
 |aj|bl (b:Bool)|int (i:Int)|str (x:Str)
 |tup (xs:List D)|lst (xs:List D)|ai (ks:List Ky) (vs:List D)|cj (c:Str) (ns:List Str) (vs:List D)
 deriving Inhabited
inductive R(α:Type) where
 |ok (a:α)|exc (x:D)|bad
namespace R
noncomputable def bind{α β:Type}:R α->(α->R β)->R β
 |.ok a,f=>f a
 |.exc x,_=>.exc x
 |.bad,_=>.bad
@[simp] theorem aJ{α β:Type}(a:α)(f:α->R β):(R.ok a).bind f=f a:=rfl
@[simp] theorem K9{α β:Type}(x:D)(f:α->R β):(R.exc x).bind f=.exc x:=rfl
@[simp] theorem KR{α β:Type}(f:α->R β):(R.bad:R α).bind f=.bad:=rfl
end R
inductive Kd where
 |l|m (ks:List Ky)|u|x (ks:List (List Ky))
 deriving Inhabited
inductive T where
 |d (x:D)|n (k:Kd) (ts:List T)
 deriving Inhabited
noncomputable abbrev T.l(ts:List T):T:=.n .l ts
noncomputable abbrev T.m(ks:List Ky)(ts:List T):T:=.n (.m ks) ts
noncomputable abbrev T.tu(ts:List T):T:=.n .u ts
noncomputable abbrev T.mx(ks:List (List Ky))(ts:List T):T:=.n (.x ks) ts
noncomputable def Kd.own:Kd->Bool
 |.u=>false
 |_=>true
noncomputable def T.own:T->Bool
 |.d _=>false
 |.n k _=>k.own
inductive Sp where
 |tr (t:T)|al (i:Nat) (p:List Nat)
 deriving Inhabited
inductive Slot where
 |un|sh (d:D)|ol (xs:List D)|od (ks:List Ky) (vs:List D)|on (x:Sp)
 deriving Inhabited
noncomputable abbrev En:=List Slot
noncomputable abbrev Ex:=En->R D
noncomputable abbrev aY:=En->R Bool
noncomputable abbrev er:Nat:=16777216
mutual
@[simp] noncomputable def br:D->D->Bool
 |.aj,.aj=>true
 |.bl a,.bl b=>a==b
 |.bl a,.int b=>(if a then 1 else 0)==b
 |.int a,.bl b=>a==(if b then 1 else 0)
 |.int a,.int b=>a==b
 |.str a,.str b=>decide (a=b)
 |.tup a,.tup b=>kW a b
 |.lst a,.lst b=>kW a b
 |_,_=>false
@[simp] noncomputable def kW:List D->List D->Bool
 |[],[]=>true
 |a::as,b::bs=>br a b&&kW as bs
 |_,_=>false
end
@[simp] noncomputable def flat:D->Bool
 |.aj=>true
 |.bl _=>true
 |.int _=>true
 |.str _=>true
 |_=>false
mutual
noncomputable def lay:D->Bool
 |.aj=>true
 |.bl _=>true
 |.int _=>true
 |.str x=>x.cps.all (· <0x110000)
 |.tup xs=>dW xs
 |.lst xs=>dW xs
 |_=>false
noncomputable def dW:List D->Bool
 |[]=>true
 |x::xs=>lay x&&dW xs
end
mutual
noncomputable def dep:D->Nat
 |.tup xs=>nz xs+1
 |.lst xs=>nz xs+1
 |_=>0
noncomputable def nz:List D->Nat
 |[]=>0
 |x::xs=>max (dep x) (nz xs)
end
@[simp] noncomputable def BG:D->D->Bool
 |.ai _ _,.str _=>true
 |_,_=>false
@[simp] noncomputable def uR:D->D->Bool
 |.tup _,.tup []=>true
 |_,_=>false
noncomputable def dG(a b:D):Bool:=(flat a&&flat b)||uR a b||(lay a&&lay b&&decide (min (dep a) (dep b)<=60))
noncomputable def dA(a b:D):Bool:=dG a b||BG a b
theorem qJ{a b:D}(ha:flat a=true)(hb:flat b=true):dG a b=true:=by unfold dG;rw[ha,hb];rfl
theorem ke{a b:D}(ha:flat a=true)(hb:flat b=true):dA a b=true:=by unfold dA;rw[qJ ha hb];rfl
@[simp] theorem Lb(a b:Bool):dG (.bl a) (.bl b)=true:=qJ rfl rfl
@[simp] theorem K5(a b:Int):dG (.int a) (.int b)=true:=qJ rfl rfl
@[simp] theorem Lc(a b:Str):dG (.str a) (.str b)=true:=qJ rfl rfl
@[simp] theorem KY(a:List Ky)(c:List D)(b:Str):dA (.ai a c) (.str b)=true:=by unfold dA;simp
@[simp] theorem K1:dA .aj .aj=true:=ke rfl rfl
@[simp] theorem Le(a b:Bool):dA (.bl a) (.bl b)=true:=ke rfl rfl
@[simp] theorem EA(a b:Int):dA (.int a) (.int b)=true:=ke rfl rfl
@[simp] theorem Lh(a b:Str):dA (.str a) (.str b)=true:=ke rfl rfl
@[simp] theorem KU(b:Str):dA .aj (.str b)=true:=ke rfl rfl
@[simp] theorem K8(a:Int)(b:Str):dA (.int a) (.str b)=true:=ke rfl rfl
@[simp] theorem KW(a:Bool)(b:Str):dA (.bl a) (.str b)=true:=ke rfl rfl
@[simp] theorem Lj(a:List D):dA (.tup a) (.tup [])=true:=by unfold dA dG;simp
@[simp] noncomputable def truth:D->R Bool
 |.aj=>.ok false
 |.bl b=>.ok b
 |.int i=>.ok (i != 0)
 |.str x=>if x.length<=er then .ok (x.length != 0)else .bad
 |.tup xs=>.ok (!xs.isEmpty)
 |.lst xs=>.ok (!xs.isEmpty)
 |.ai _ _=>.bad
 |.cj _ _ _=>.bad
noncomputable def cI(n:Nat)(i:Int):Option Nat:=if 0<=i then(if i<n then some i.toNat else none)else if -(n:Int)<=i then some (i+n).toNat else none
noncomputable def cM{α:Type}(xs:List α)(i:Int):Option α:=(cI xs.length i).bind λj=>xs[j]?
noncomputable def mT(n d:Nat):Option Int->Nat
 |none=>d
 |some v=>if v<0 then(v+(n:Int)).toNat else min v.toNat n
noncomputable def cut{α:Type}(xs:List α)(lo hi:Option Int):List α:=(xs.drop (mT xs.length 0 lo)).take (mT xs.length xs.length hi - mT xs.length 0 lo)
noncomputable def inR(j:Int):Bool:=decide (-4611686018427387904<=j)&&decide (j<4611686018427387904)
noncomputable def vI(j:Int):Bool:=decide (0<j)&&decide (j<340282366920938463463374607431768211456)
noncomputable def zH(j:Int):Bool:=decide (0<=j)&&decide (j<=1000)
noncomputable def small(i:Int):Bool:=decide (-18446744073709551616<i)&&decide (i<18446744073709551616)
@[simp] noncomputable def gL:D->D->R D
 |.int i,.int j=>.ok (.int (i+j))
 |.str x,.str y=>if x.length+y.length<=er then .ok (.str (x++y))else .bad
 |.lst x,.lst y=>if x.length+y.length<=er then .ok (.lst (x++y))else .bad
 |.tup x,.tup y=>if x.isEmpty=false/\x.length+y.length<=er then .ok (.tup (x++y))else .bad
 |_,_=>.bad
@[simp] noncomputable def pZ:D->D->R D
 |.int i,.int j=>.ok (.int (i - j))
 |_,_=>.bad
@[simp] noncomputable def hU:D->D->R D
 |.int i,.int j=>if(small i||small j)=true then .ok (.int (i*j))else .bad
 |_,_=>.bad
@[simp] noncomputable def oDiv:D->D->R D
 |.int i,.int j=>if vI j=true then .ok (.int (i / j))else .bad
 |_,_=>.bad
@[simp] noncomputable def oMod:D->D->R D
 |.int i,.int j=>if 0<j then .ok (.int (i % j))else .bad
 |_,_=>.bad
@[simp] noncomputable def jA:D->D->R D
 |.int i,.int j=>if(zH j&&small i)=true then .ok (.int (i ^ j.toNat))else .bad
 |_,_=>.bad
@[simp] noncomputable def KZ:D->R D
 |.int i=>.ok (.int (-i))
 |_=>.bad
@[simp] noncomputable def oEq(x y:D):R D:=if dA x y=true then .ok (.bl (br x y))else .bad
@[simp] noncomputable def c9(x y:D):R D:=if dG x y=true then .ok (.bl (!br x y))else .bad
@[simp] noncomputable def oLt:D->D->R D
 |.int i,.int j=>.ok (.bl (decide (i<j)))
 |_,_=>.bad
@[simp] noncomputable def oLe:D->D->R D
 |.int i,.int j=>.ok (.bl (decide (i<=j)))
 |_,_=>.bad
@[simp] noncomputable def jQ:D->D->R D
 |.int i,.int j=>.ok (.bl (decide (j<i)))
 |_,_=>.bad
@[simp] noncomputable def lz:D->D->R D
 |.int i,.int j=>.ok (.bl (decide (j<=i)))
 |_,_=>.bad
@[simp] noncomputable def nA:D->Bool
 |.aj=>true
 |_=>false
@[simp] noncomputable def KQ(b:Bool):D->Bool
 |.bl c=>b==c
 |_=>false
@[simp] noncomputable def lW(d:D):R D:=.ok (.bl (nA d))
@[simp] noncomputable def oK(d:D):R D:=.ok (.bl (!nA d))
noncomputable def keyOf:D->Option Ky
 |.int i=>some (.inl i)
 |.str x=>some (.inr x)
 |_=>none
noncomputable def bS(k:Ky):List Ky->List D->Option D
 |a::ks,v::vs=>if a=k then some v else bS k ks vs
 |_,_=>none
@[simp] noncomputable def dM:D->D->R D
 |.str _,.str _=>.bad
 |x,.lst ys=>if flat x=true/\ys.all flat=true then .ok (.bl (ys.any λy=>br y x))else .bad
 |x,.tup ys=>if flat x=true/\ys.all flat=true then .ok (.bl (ys.any λy=>br y x))else .bad
 | x,.ai ks vs=>match keyOf x with
  |some k=>.ok (.bl (bS k ks vs).isSome)
  |none=>.bad
 |_,_=>.bad
@[simp] noncomputable def Az:D->R D
 |.bl b=>.ok (.bl (!b))
 |_=>.bad
@[simp] noncomputable def gB(x y:D):R D:=(dM x y).bind Az
@[simp] noncomputable def nW:D->D->R D
 | .lst xs,.int i=>match cM xs i with
  |some v=>.ok v
  |none=>.bad
 | .tup xs,.int i=>match cM xs i with
  |some v=>.ok v
  |none=>.bad
 | .str x,.int i=>if x.length<=er then match cM x.cps.toList i with
  |some c=>.ok (.str ⟨#[c]⟩)
  |none=>.bad else .bad
 |_,_=>.bad
@[simp] noncomputable def nU:D->D->R D
 | .ai ks vs,k=>match keyOf k with
  | some q=>match bS q ks vs with
   |some v=>.ok v
   |none=>.bad
  |none=>.bad
 |_,_=>.bad
@[simp] noncomputable def av:D->D->R D
 |.lst xs,k=>nW (.lst xs) k
 |.tup xs,k=>nW (.tup xs) k
 |.str x,k=>nW (.str x) k
 |.ai ks vs,k=>nU (.ai ks vs) k
 |_,_=>.bad
@[simp] noncomputable def Lf(lo hi:Option Int):D->R D
 |.lst xs=>.ok (.lst (cut xs lo hi))
 |.tup xs=>if mT xs.length 0 lo=0/\mT xs.length xs.length hi=xs.length then .bad else .ok (.tup (cut xs lo hi))
 |_=>.bad
@[simp] noncomputable def iH:D->R D
 |.lst xs=>.ok (.int xs.length)
 |.tup xs=>.ok (.int xs.length)
 |.str x=>if x.length<=er then .ok (.int x.length)else .bad
 |_=>.bad
inductive Ty where
 |int|bool|str|tuple|list|dict
@[simp] noncomputable def bX:Ty->D->R D
 |.int,.int _=>.ok (.bl true)
 |.int,.bl _=>.ok (.bl true)
 |.bool,.bl _=>.ok (.bl true)
 |.str,.str _=>.ok (.bl true)
 |.tuple,.tup _=>.ok (.bl true)
 |.list,.lst _=>.ok (.bl true)
 |.dict,.ai _ _=>.ok (.bl true)
 |_,.cj _ _ _=>.bad
 |_,_=>.ok (.bl false)
@[simp] noncomputable def u3:D->R D
 |.lst xs=>.ok (.lst xs)
 |.tup xs=>.ok (.lst xs)
 |_=>.bad
@[simp] noncomputable def tY:D->R D
 |.lst xs=>.ok (.tup xs)
 |.tup xs=>.ok (.tup xs)
 |_=>.bad
noncomputable def allB:List D->R D
 |[]=>.ok (.bl true)
 | .bl b::r=>(allB r).bind λz=>match z with
  |.bl k=>.ok (.bl (b&&k))
  |_=>.bad
 |_=>.bad
@[simp] noncomputable def jr:D->R D
 |.lst xs=>allB xs
 |_=>.bad
@[simp] noncomputable def pE:D->D->R D
 |.int i,.int j=>.ok (.int (if j<i then j else i))
 |_,_=>.bad
@[simp] noncomputable def nO(e:D):D->D->R D
 | .ai ks vs,k=>match keyOf k with
  |some q=>.ok ((bS q ks vs).getD e)
  |none=>.bad
 |_,_=>.bad
@[simp] noncomputable def aa(i:Nat):Ex:=λρ=>match ρ[i]? with
 |some (.sh d)=>.ok d
 |_=>.bad
@[simp] noncomputable def eC(d:D):Ex:=λ_=>.ok d
@[simp] noncomputable def e1(g:D->R D)(a:Ex):Ex:=λρ=>(a ρ).bind g
@[simp] noncomputable def e2(g:D->D->R D)(a b:Ex):Ex:=λρ=>(a ρ).bind λx=>(b ρ).bind λy=>g x y
@[simp] noncomputable def eM(a b:Ex):Ex:=λρ=>(a ρ).bind λx=>match x with
 |.bl true=>b ρ
 |.bl false=>.ok (.bl false)
 |_=>.bad
@[simp] noncomputable def yt(c:aY)(a b:Ex):Ex:=λρ=>(c ρ).bind λt=>if t=true then a ρ else b ρ
@[simp] noncomputable def eList:List Ex->En->R (List D)
 |[],_=>.ok []
 |e::es,ρ=>(e ρ).bind λx=>(eList es ρ).bind λxs=>.ok (x::xs)
@[simp] noncomputable def cE(es:List Ex):Ex:=λρ=>(eList es ρ).bind λxs=>.ok (.tup xs)
@[simp] noncomputable def cC(es:List Ex):Ex:=λρ=>(eList es ρ).bind λxs=>.ok (.lst xs)
@[simp] noncomputable def aG(f:List D->R D)(es:List Ex):Ex:=λρ=>(eList es ρ).bind f
@[simp] noncomputable def kq(g h:D->D->R D)(a b c:Ex):Ex:=λρ=>(a ρ).bind λx=>(b ρ).bind λy=>(g x y).bind λz=>match z with
 |.bl true=>(c ρ).bind λw=>h y w
 |.bl false=>.ok (.bl false)
 |_=>.bad
@[simp] noncomputable def dj(ks:List Ky)(es:List Ex):Ex:=λρ=>(eList es ρ).bind λxs=>.ok (.ai ks xs)
@[simp] noncomputable def tV(a:Ex):aY:=λρ=>(a ρ).bind truth
@[simp] noncomputable def il(a b:aY):aY:=λρ=>(a ρ).bind λt=>if t=true then b ρ else .ok false
@[simp] noncomputable def f6(a b:aY):aY:=λρ=>(a ρ).bind λt=>if t=true then .ok true else b ρ
@[simp] noncomputable def fT(a:aY):aY:=λρ=>(a ρ).bind λt=>.ok (!t)
@[simp] noncomputable def La(i:Nat):Ex:=λρ=>match ρ[i]? with
 |some (.ol xs)=>.ok (.int xs.length)
 |some (.od ks _)=>.ok (.int ks.length)
 |_=>.bad
@[simp] noncomputable def KS(i:Nat):Ex:=λρ=>match ρ[i]? with
 |some (.ol xs)=>.ok (.int xs.length)
 |_=>.bad
noncomputable abbrev bV:=En->R (List D)
@[simp] noncomputable def items:D->R (List D)
 |.lst xs=>.ok xs
 |.tup xs=>.ok xs
 |.str x=>.ok (x.cps.toList.map λc=>.str ⟨#[c]⟩)
 |_=>.bad
@[simp] noncomputable def dy(a:Ex):bV:=λρ=>(a ρ).bind items
noncomputable def d6(i j:Int):List D:=(List.range (j - i).toNat).map λ(k:Nat)=>.int (i+(k:Int))
@[simp] noncomputable def mn(a:Ex):bV:=λρ=>(a ρ).bind λx=>match x with
 |.int j=>if inR j=true then .ok (d6 0 j)else .bad
 |_=>.bad
@[simp] noncomputable def iW(a b:Ex):bV:=λρ=>(a ρ).bind λx=>(b ρ).bind λy=>match x,y with
 |.int i,.int j=>if(inR i&&inR j)=true then .ok (d6 i j)else .bad
 |_,_=>.bad
@[simp] noncomputable def iz:List D->List D->List D
 |x::xs,y::ys=>.tup [x,y]::iz xs ys
 |_,_=>[]
@[simp] noncomputable def qj(a b:Ex):bV:=λρ=>(a ρ).bind λx=>(b ρ).bind λy=>(items x).bind λxs=>(items y).bind λys=>.ok (iz xs ys)
noncomputable abbrev bL:=D->En->R En
@[simp] noncomputable def aF(i:Nat):bL:=λd ρ=>.ok (ρ.set i (.sh d))
@[simp] noncomputable def gk:List Nat->List D->En->R En
 |[],[],ρ=>.ok ρ
 |i::is,d::ds,ρ=>gk is ds (ρ.set i (.sh d))
 |_,_,_=>.bad
@[simp] noncomputable def g7(is:List Nat):bL:=λd ρ=>match d with
 |.tup ds=>gk is ds ρ
 |_=>.bad
@[simp] noncomputable def Br:Option Slot->Slot
 |some (.sh d)=>.sh d
 |_=>.un
@[simp] noncomputable def frees(ρ:En)(fv:List Nat):En:=fv.map λi=>Br ρ[i]?
noncomputable def eZ(tg:bL)(cs:List aY)(el:Ex)(ρ:En):List D->R (List D)
 |[]=>.ok []
 | d::ds=>(tg d ρ).bind λLJ=>(l9 cs LJ).bind λt=>
  if t=true then(el LJ).bind λy=>(eZ tg cs el ρ ds).bind λys=>.ok (y::ys)else eZ tg cs el ρ ds
where l9:List aY->En->R Bool
 |[],_=>.ok true
 |c::cs,ρ=>(c ρ).bind λt=>if t=true then l9 cs ρ else .ok false
@[simp] noncomputable def bJ(it:bV)(n:Nat)(fv:List Nat)(tg:bL)(cs:List aY)(el:Ex):Ex:=λρ=>(it ρ).bind λds=>
 if ds.length<=er then(eZ tg cs el (List.replicate n .un++frees ρ fv) ds).bind λys=>.ok (.lst ys)else .bad
inductive Fl where
 |next (ρ:En)|ret (d:D)|brk (ρ:En)|cont (ρ:En)|fj (d:D)|dB (t:T)|gZ (i:Nat) (ρ:En)|dJ (d:D) (ρ:En)
noncomputable abbrev Sm:=En->R Fl
@[simp] noncomputable def bf:Sm:=λρ=>.ok (.next ρ)
@[simp] noncomputable def zC(a b:Sm):Sm:=λρ=>(a ρ).bind λf=>match f with
 |.next ρ'=>b ρ'
 |f=>.ok f
@[simp] noncomputable def aw:List Sm->Sm
 |[]=>bf
 |a::r=>zC a (aw r)
@[simp] noncomputable def aR(c:aY)(a b:Sm):Sm:=λρ=>(c ρ).bind λt=>if t=true then a ρ else b ρ
@[simp] noncomputable def bb(g:bL)(e:Ex):Sm:=λρ=>(e ρ).bind λd=>(g d ρ).bind λρ'=>.ok (.next ρ')
@[simp] noncomputable def aX(e:Ex):Sm:=λρ=>(e ρ).bind λd=>.ok (.ret d)
@[simp] noncomputable def lL(i:Nat)(e:Ex):Sm:=λρ=>(e ρ).bind λd=>match d with
 |.lst xs=>.ok (.next (ρ.set i (.ol xs)))
 |_=>.bad
@[simp] noncomputable def pM(i:Nat)(e:Ex):Sm:=λρ=>(e ρ).bind λd=>match d with
 |.ai ks vs=>.ok (.next (ρ.set i (.od ks vs)))
 |_=>.bad
@[simp] noncomputable def jq(i:Nat):Sm:=λρ=>match ρ[i]? with
 |some (.ol xs)=>.ok (.next (ρ.set i (.sh (.lst xs))))
 |some (.od ks vs)=>.ok (.next (ρ.set i (.sh (.ai ks vs))))
 |_=>.bad
@[simp] noncomputable def qz(i:Nat)(e:Ex):Sm:=λρ=>(e ρ).bind λd=>match ρ[i]? with
 |some (.ol xs)=>if xs.length<er then .ok (.next (ρ.set i (.ol (xs++[d]))))else .bad
 |_=>.bad
@[simp] noncomputable def nR(i:Nat)(k e:Ex):Sm:=λρ=>(e ρ).bind λd=>(k ρ).bind λq=>match ρ[i]?,q with
 | some (.ol xs),.int j=>match cI xs.length j with
  |some m=>.ok (.next (ρ.set i (.ol (xs.set m d))))
  |none=>.bad
 |_,_=>.bad
noncomputable def putK(k:Ky)(d:D):List Ky->List D->List Ky×List D
 |a::ks,v::vs=>if a=k then(a::ks,d::vs)else((a::(putK k d ks vs).1),(v::(putK k d ks vs).2))
 |_,_=>([k],[d])
noncomputable def forL(tg:bL)(body:Sm):List D->En->R Fl
 |[],ρ=>.ok (.next ρ)
 | d::ds,ρ=>(tg d ρ).bind λLJ=>(body LJ).bind λf=>match f with
  |.next LZ=>forL tg body ds LZ
  |.cont LZ=>forL tg body ds LZ
  |.brk LZ=>.ok (.next LZ)
  |.ret d=>.ok (.ret d)
  |.fj d=>.ok (.fj d)
  |.dB t=>.ok (.dB t)
  |.gZ i ρ=>.ok (.gZ i ρ)
  |.dJ d ρ=>.ok (.dJ d ρ)
@[simp] noncomputable def fL(it:bV)(tg:bL)(body:Sm):Sm:=λρ=>(it ρ).bind λds=>forL tg body ds ρ
@[simp] noncomputable def fn(n:Nat)(body:Sm):List D->R D:=λds=>(body (ds.map .sh++List.replicate (n - ds.length) .un)).bind λf=>match f with
 |.ret d=>.ok d
 |.next _=>.ok .aj
 |_=>.bad
@[simp] noncomputable def j0(n:Nat)(body:Sm):List D->R D:=λds=>(body (ds.map .sh++List.replicate (n - ds.length) .un)).bind λf=>match f with
 |.fj (.lst xs)=>.ok (.lst xs)
 |_=>.bad
end PL
namespace PL
open PySem PySem.Spec
open L2 (V Hp HO Cx PE PT PW PA PS cq St VK TE TT TA TS TI Inv RelV Vals Rd bt bH upd ah Key XK Ends)
structure Md where
 K:PySem.W.Frag
 P:Program
 w:World
noncomputable abbrev aD(X:Cx):Md:=⟨X.K,X.prog,X.w⟩
def fP(M:Md)(H:Hp)(F:Y8)(a:Addr)(xs:List V):Prop:=
 (¬F a/\Rd H a (.lst xs))\/∃(o:Obj) (af:Array Value) (n:Nat),M.K.lookup a=some o/\o.cls=.type "list"/\o.dict=none/\o.data=.seq af n/\af.size<=sizeLine/\Vals xs af.toList
def cT(M:Md)(H:Hp)(F:Y8)(a:Addr)(xs:List V):Prop:=
 (¬F a/\Rd H a (.tup xs))\/∃(o:Obj) (af:Array Value) (n:Nat),M.K.lookup a=some o/\o.cls=.type "tuple"/\o.data=.seq af n/\af.size<=sizeLine/\Vals xs af.toList
def eN(M:Md)(H:Hp)(F:Y8)(a:Addr)(kvs:List (Key×V)):Prop:=
 (¬F a/\∃ob,H a=some (.frz ob (.dK kvs)))\/∃(o:Obj) (es:Array DictEntry) (ep:Nat) (vs:List (Key×Value)),M.K.lookup a=some o/\o.ExactDict/\o.data=.dict es ep/\KeysOf (L2.bz M.P M.w) es/\Pairs (L2.bz M.P M.w) es.toList vs/\
  (vs.map (·.1)).Nodup/\L2.KV kvs vs/\kvs.length<=sizeLine/\(a==sysModules)=false
theorem fP.sq{M:Md}{H:Hp}{F:Y8}{a:Addr}{xs:List V}(h:fP M H F a xs):bt M.K H a xs:=h.elim (λh=>.inl h.2) .inr
theorem cT.sq{M:Md}{H:Hp}{F:Y8}{a:Addr}{xs:List V}(h:cT M H F a xs):bH M.K H a xs:=h.elim (λh=>.inl h.2) .inr
noncomputable def Fd(a C:Addr):HO:=.ext λh=>∃o,h.get? a=some o/\o.cls=.ref C/\∃vs,o.data=.fields vs
def JQ(c:Str)(ds:List D)(u:HO):Prop:=c=⟨#[91]⟩->∃xs:List V,u=.lst xs/\xs.length=ds.length
mutual
noncomputable def Rep(M:Md)(H:Hp)(F:Y8):D->V->Prop
 |.aj,v=>v=.aj
 |.bl b,v=>v=.bl b
 |.int i,v=>v=.int i
 |.str x,v=>v=.str x
 |.tup ds,v=>∃a xs,v=.ref a/\cT M H F a xs/\ae M H F ds xs
 |.lst ds,v=>∃a xs,v=.ref a/\fP M H F a xs/\ae M H F ds xs
 |.ai ks ds,v=>∃a xs,v=.ref a/\eN M H F a (ks.zip xs)/\ks.length=xs.length/\ae M H F ds xs
 |.cj c ns ds,v=>∃(a:Addr) (_u:Unit),v=.ref a/\((ns.length=3/\PySem.W.nsIn M.K mainGlobals c=some (some (.ref a)))\/(¬F a/\((ns=[]/\∃C,H a=some (Fd a C)/\PySem.W.nsIn M.K mainGlobals c=some (some (.ref C)))\/(ns.length=1/\∃o xs,H a=some (.frz o (.tup xs))/\o.dict=none/\ae M H F ds xs)\/(ns.length=2/\∃u,H a=some u/\JQ c ds u))))
noncomputable def ae(M:Md)(H:Hp)(F:Y8):List D->List V->Prop
 |[],xs=>xs=[]
 |d::ds,xs=>∃x r,xs=x::r/\Rep M H F d x/\ae M H F ds r
end
def Mv(F:Y8)(H:Hp)(F':Y8)(H':Hp):Prop:=∀a o,¬F a->H a=some o->¬F' a/\H' a=some o
theorem Mv.same{F:Y8}{H H':Hp}(h:ah H H'):Mv F H F H':=λa o n e=>⟨n,h a o e⟩
theorem Mv.trans{F F1 F2:Y8}{H H1 H2:Hp}(a:Mv F H F1 H1)(b:Mv F1 H1 F2 H2):Mv F H F2 H2:=λc o n e=>b c o (a c o n e).1 (a c o n e).2
section
variable{M:Md}{H H':Hp}{F F':Y8}{a:Addr}{xs:List V}
theorem zW(m:Mv F H F' H'){u:HO}(n:¬F a)(h:Rd H a u):¬F' a/\Rd H' a u:=by
 rcases h with h|⟨o,h⟩
 ·exact⟨(m _ _ n h).1,.inl (m _ _ n h).2⟩
 ·exact⟨(m _ _ n h).1,.inr ⟨o,(m _ _ n h).2⟩⟩
theorem fP.mv(m:Mv F H F' H')(h:fP M H F a xs):fP M H' F' a xs:=by
 rcases h with⟨n,h⟩|h
 ·exact .inl (zW m n h)
 ·exact .inr h
theorem cT.mv(m:Mv F H F' H')(h:cT M H F a xs):cT M H' F' a xs:=by
 rcases h with⟨n,h⟩|h
 ·exact .inl (zW m n h)
 ·exact .inr h
theorem eN.mv{kvs:List (Key×V)}(m:Mv F H F' H')(h:eN M H F a kvs):eN M H' F' a kvs:=by
 rcases h with⟨n,ob,h⟩|h
 ·exact .inl ⟨(m _ _ n h).1,ob,(m _ _ n h).2⟩
 ·exact .inr h
mutual
theorem Rep.mv(m:Mv F H F' H'):∀ {d:D} {v:V},Rep M H F d v->Rep M H' F' d v
 |.aj,_,h=>by simp only[Rep]at h ⊢;exact h
 |.bl _,_,h=>by simp only[Rep]at h ⊢;exact h
 |.int _,_,h=>by simp only[Rep]at h ⊢;exact h
 |.str _,_,h=>by simp only[Rep]at h ⊢;exact h
 | .tup ds,_,h=>by
  simp only[Rep]at h ⊢;obtain⟨a,xs,e,t,r⟩:=h;exact⟨a,xs,e,t.mv m,ae.mv m r⟩
 | .lst ds,_,h=>by
  simp only[Rep]at h ⊢;obtain⟨a,xs,e,t,r⟩:=h;exact⟨a,xs,e,t.mv m,ae.mv m r⟩
 | .ai ks ds,_,h=>by
  simp only[Rep]at h ⊢;obtain⟨a,xs,e,t,l,r⟩:=h;exact⟨a,xs,e,t.mv m,l,ae.mv m r⟩
 | .cj _ _ _,_,h=>by
  simp only[Rep]at h ⊢;obtain⟨a,_,e,h⟩:=h;rcases h with h|⟨n,⟨z,C,q,k⟩|⟨z,o,xs,q,hd,r⟩|⟨z,u,q,w⟩⟩
  ·exact⟨a,(),e,.inl h⟩
  ·exact⟨a,(),e,.inr ⟨(m _ _ n q).1,.inl ⟨z,C,(m _ _ n q).2,k⟩⟩⟩
  ·exact⟨a,(),e,.inr ⟨(m _ _ n q).1,.inr (.inl ⟨z,o,xs,(m _ _ n q).2,hd,ae.mv m r⟩)⟩⟩
  ·exact⟨a,(),e,.inr ⟨(m _ _ n q).1,.inr (.inr ⟨z,u,(m _ _ n q).2,w⟩)⟩⟩
theorem ae.mv(m:Mv F H F' H'):∀ {ds:List D} {xs:List V},ae M H F ds xs->ae M H' F' ds xs
 |[],_,h=>by simp only[ae]at h ⊢;exact h
 | d::ds,_,h=>by
  simp only[ae]at h ⊢;obtain⟨x,r,e,h1,h2⟩:=h;exact⟨x,r,e,Rep.mv m h1,ae.mv m h2⟩
end
theorem ae.length:∀ {ds:List D} {xs:List V},ae M H F ds xs->ds.length=xs.length
 |[],_,h=>by simp only[ae]at h;subst h;rfl
 | d::ds,_,h=>by
  simp only[ae]at h;obtain⟨x,r,rfl,_,h2⟩:=h;simp[ae.length h2]
theorem ae.get:∀ {ds:List D} {xs:List V} {i:Nat} {d:D},ae M H F ds xs->ds[i]? =some d->∃x,xs[i]? =some x/\Rep M H F d x
 |[],_,_,_,_,e=>by simp at e
 | d::ds,_,0,_,h,e=>by
  simp only[ae]at h;obtain⟨x,r,rfl,h1,_⟩:=h;simp at e;subst e;exact⟨x,rfl,h1⟩
 | d::ds,_,i+1,_,h,e=>by
  simp only[ae]at h;obtain⟨x,r,rfl,_,h2⟩:=h;obtain⟨y,e1,h3⟩:=ae.get h2 (by simpa using e)
  exact⟨y,by simpa using e1,h3⟩
theorem ae.append:∀ {ds es:List D} {xs ys:List V},ae M H F ds xs->ae M H F es ys->ae M H F (ds++es) (xs++ys)
 |[],_,_,_,h,g=>by simp only[ae]at h;subst h;exact g
 | d::ds,_,_,_,h,g=>by
  simp only[ae]at h;obtain⟨x,r,rfl,h1,h2⟩:=h;simp only[W8,ae];exact⟨x,_,rfl,h1,ae.append h2 g⟩
theorem ae.nil:ae M H F [] []:=by simp[ae]
theorem ae.cons{d:D}{x:V}{ds:List D}(h:Rep M H F d x)(t:ae M H F ds xs):ae M H F (d::ds) (x::xs):=by
 simp only[ae];exact⟨_,_,rfl,h,t⟩
theorem ae.set:∀ {ds:List D} {xs:List V} {d:D} {x:V} (i:Nat),Rep M H F d x->ae M H F ds xs->ae M H F (ds.set i d) (xs.set i x)
 |[],_,_,_,_,_,h=>by simp only[ae]at h;subst h;exact ae.nil
 | d::ds,_,_,_,0,g,h=>by
  simp only[ae]at h;obtain⟨y,r,rfl,_,h2⟩:=h;exact ae.cons g h2
 | d::ds,_,_,_,i+1,g,h=>by
  simp only[ae]at h;obtain⟨y,r,rfl,h1,h2⟩:=h;exact ae.cons h1 (ae.set i g h2)
end
def bu(ρ:En)(i:Nat):Prop:=(∃ds,ρ[i]? =some (.ol ds))\/∃ks ds,ρ[i]? =some (.od ks ds)
noncomputable def Kd.ho:Kd->List V->HO
 |.l,xs=>.lst xs
 |.m ks,xs=>.dK (ks.zip xs)
 |.u,xs=>.tup xs
 |.x ks,xs=>.dT (ks.zip xs)
def Kd.fit:Kd->List V->Prop
 |.m ks,xs=>ks.length=xs.length
 |.x ks,xs=>ks.length=xs.length
 |_,_=>True
noncomputable def Kd.eY(k:Kd)(a:Addr)(bs:Y3):Y3:=if k.own=true then a::bs else bs
theorem Kd.inj{k:Kd}{xs ys:List V}(e:k.ho xs=k.ho ys)(h:k.fit xs)(h':k.fit ys):xs=ys:=by
 cases k with
 |l=>injection e
 |u=>injection e
 | m ks=>
  injection e with e;have h1:=congrArg (List.map Prod.snd) e;rwa[WO (Wu h.symm),WO (Wu h'.symm)]at h1
 | x ks=>
  injection e with e;have h1:=congrArg (List.map Prod.snd) e;rwa[WO (Wu h.symm),WO (Wu h'.symm)]at h1
theorem Kd.sub{k:Kd}{a b:Addr}{bs:Y3}(h:b∈bs):b∈k.eY a bs:=by
 unfold Kd.eY;split
 ·exact rU _ h
 ·exact h
theorem Kd.top{k:Kd}{a:Addr}{bs:Y3}(h:k.own=true):a∈k.eY a bs:=by
 unfold Kd.eY;rw[u9 h];exact v3
theorem Kd.mem{k:Kd}{a b:Addr}{bs:Y3}(h:b∈k.eY a bs):(k.own=true/\b=a)\/b∈bs:=by
 unfold Kd.eY at h;split at h
 ·rename_i o;exact(AC.mp h).imp (λz=>⟨o,z⟩) id
 ·exact .inr h
theorem Kd.nodup{k:Kd}{a:Addr}{bs:Y3}:(k.eY a bs).Nodup↔(k.own=true->a∉bs)/\bs.Nodup:=by
 unfold Kd.eY;split
 ·rename_i o;rw[GM];exact⟨λh=>⟨λ_=>h.1,h.2⟩,λh=>⟨h.1 o,h.2⟩⟩
 ·rename_i o;exact⟨λh=>⟨λz=>absurd z o,h⟩,λh=>h.2⟩
theorem Kd.CS{k:Kd}{a:Addr}{bs:Y3}:bs.Sublist (k.eY a bs):=by
 unfold Kd.eY;split
 ·exact List.sublist_cons_self _ _
 ·exact SZ _
theorem Kd.ne{k:Kd}{a c:Addr}{bs:Y3}(h:(k.eY a bs).Nodup)(o:k.own=true)(hc:c∈bs):a≠c:=λz=>(Kd.nodup.mp h).1 o (z▸hc)
mutual
noncomputable def az(M:Md)(H:Hp)(F:Y8):T->V->Y3->Prop
 |.d x,v,as=>as=[]/\Rep M H F x v
 |.n k ts,v,as=>∃a xs bs,v=.ref a/\as=k.eY a bs/\(F a↔k.own=true)/\H a=some (k.ho xs)/\k.fit xs/\ak M H F ts xs bs
noncomputable def ak(M:Md)(H:Hp)(F:Y8):List T->List V->Y3->Prop
 |[],xs,as=>xs=[]/\as=[]
 |t::ts,xs,as=>∃x r bs cs,xs=x::r/\as=bs++cs/\az M H F t x bs/\ak M H F ts r cs
end
theorem bE{M:Md}{H:Hp}{F:Y8}{x:D}{v:V}{as:Y3}:az M H F (.d x) v as↔as=[]/\Rep M H F x v:=by rw[az]
theorem bF{M:Md}{H:Hp}{F:Y8}{ts:List T}{v:V}{as:Y3}:az M H F (.l ts) v as↔∃a xs bs,v=.ref a/\as=a::bs/\F a/\H a=some (.lst xs)/\ak M H F ts xs bs:=by
 rw[az];exact⟨by rintro⟨a,xs,bs,h1,h2,h3,h4,_,h6⟩;exact ⟨a,xs,bs,h1,h2,h3.mpr rfl,h4,h6⟩,by rintro⟨a,xs,bs,h1,h2,h3,h4,h6⟩;exact ⟨a,xs,bs,h1,h2,⟨λ_=>rfl,λ_=>h3⟩,h4,trivial,h6⟩⟩
theorem bD{M:Md}{H:Hp}{F:Y8}{ks:List Ky}{ts:List T}{v:V}{as:Y3}:az M H F (.m ks ts) v as↔∃a xs bs,v=.ref a/\as=a::bs/\F a/\H a=some (.dK (ks.zip xs))/\ks.length=xs.length/\ak M H F ts xs bs:=by
 rw[az];exact⟨by rintro⟨a,xs,bs,h1,h2,h3,h4,h5,h6⟩;exact ⟨a,xs,bs,h1,h2,h3.mpr rfl,h4,h5,h6⟩,by rintro⟨a,xs,bs,h1,h2,h3,h4,h5,h6⟩;exact ⟨a,xs,bs,h1,h2,⟨λ_=>rfl,λ_=>h3⟩,h4,h5,h6⟩⟩
theorem bI{M:Md}{H:Hp}{F:Y8}{ts:List T}{v:V}{as:Y3}:az M H F (.tu ts) v as↔∃a xs,v=.ref a/\¬F a/\H a=some (.tup xs)/\ak M H F ts xs as:=by
 rw[az];exact⟨by rintro⟨a,xs,bs,h1,h2,h3,h4,_,h6⟩;exact ⟨a,xs,h1,λf=>(nomatch h3.mp f),h4,(show as=bs from h2)▸h6⟩,by rintro⟨a,xs,h1,h3,h4,h6⟩;exact ⟨a,xs,as,h1,rfl,⟨λf=>absurd f h3,λz=>nomatch z⟩,h4,trivial,h6⟩⟩
mutual
theorem az.mv{M:Md}{H H':Hp}{F F':Y8}(m:Mv F H F' H'):∀ {t:T} {v:V} {as:Y3},(∀b∈as,∀u,F b->H b=some u->F' b/\H' b=some u)->az M H F t v as->az M H' F' t v as
 | .d x,v,as,_,h=>by
  simp only[az]at h ⊢;exact⟨h.1,h.2.mv m⟩
 | .n kd ts,v,as,k,h=>by
  simp only[az]at h ⊢;obtain⟨a,xs,bs,e1,rfl,f,e2,l,r⟩:=h
  have h9:(F' a↔kd.own=true)/\H' a=some (kd.ho xs):=by
   by_cases o:kd.own=true
   ·obtain⟨f',e'⟩:=k a (Kd.top o) _ (f.mpr o) e2
    exact⟨⟨λ_=>o,λ_=>f'⟩,e'⟩
   ·obtain⟨f',e'⟩:=m _ _ (λz=>o (f.mp z)) e2
    exact⟨⟨λz=>absurd z f',λz=>absurd z o⟩,e'⟩
  exact⟨a,xs,bs,e1,rfl,h9.1,h9.2,l,ak.mv m (λb hb=>k b (Kd.sub hb)) r⟩
theorem ak.mv{M:Md}{H H':Hp}{F F':Y8}(m:Mv F H F' H'):∀ {ts:List T} {xs:List V} {as:Y3},(∀b∈as,∀u,F b->H b=some u->F' b/\H' b=some u)->ak M H F ts xs as->ak M H' F' ts xs as
 |[],xs,as,_,h=>by simp only[ak]at h ⊢;exact h
 | t::ts,xs,as,k,h=>by
  simp only[ak]at h ⊢;obtain⟨x,r,bs,cs,e1,rfl,h1,h2⟩:=h;exact⟨x,r,bs,cs,e1,rfl,az.mv m (λb hb=>k b (KB _ hb)) h1,ak.mv m (λb hb=>k b (FB _ hb)) h2⟩
end
mutual
theorem az.det{M:Md}{H H':Hp}{F F':Y8}(m:∀a o,¬F a->H a=some o->∀u,H' a=some u->o=u):∀ {t:T} {v:V} {as Lv:Y3},az M H F t v as->az M H' F' t v Lv->(∀b∈as,∀u,F b->H b=some u->H' b=some u)->as=Lv
 | .d x,v,as,Lv,h,h',_=>by
  simp only[az]at h h';rw[h.1,h'.1]
 | .n kd ts,v,as,Lv,h,h',k=>by
  simp only[az]at h h';obtain⟨a,xs,bs,rfl,rfl,f,e2,l,r⟩:=h;obtain⟨a',OM,Ol,e1,rfl,f',Nv,l',r'⟩:=h';cases e1
  have e5:xs=OM:=Kd.inj (k:=kd) (by
   by_cases o:kd.own=true
   ·have e3:=k a (Kd.top o) _ (f.mpr o) e2
    rw[Nv]at e3;injection e3 with e3;exact e3.symm
   ·exact m a _ (λz=>o (f.mp z)) e2 _ Nv) l l'
  subst e5;rw[ak.det m r r' λb hb=>k b (Kd.sub hb)]
theorem ak.det{M:Md}{H H':Hp}{F F':Y8}(m:∀a o,¬F a->H a=some o->∀u,H' a=some u->o=u):∀ {ts:List T} {xs:List V} {as Lv:Y3},ak M H F ts xs as->ak M H' F' ts xs Lv->(∀b∈as,∀u,F b->H b=some u->H' b=some u)->as=Lv
 | [],xs,as,Lv,h,h',_=>by
  simp only[ak]at h h';rw[h.2,h'.2]
 | t::ts,xs,as,Lv,h,h',k=>by
  simp only[ak]at h h';obtain⟨x,r,bs,cs,rfl,rfl,h1,h2⟩:=h;obtain⟨x',r',Ol,LL,e1,rfl,So,Nh⟩:=h';cases e1;rw[az.det m h1 So λb hb=>k b (KB _ hb),ak.det m h2 Nh λb hb=>k b (FB _ hb)]
end
theorem az.gO{M:Md}{H:Hp}{F F':Y8}{t:T}{v:V}{as Lv:Y3}(h:az M H F t v as)(h':az M H F' t v Lv):as=Lv:=
 az.det (λa o _ e u e'=>by rw[e]at e';injection e') h h' λ_ _ _ _ hu=>hu
mutual
theorem az.fs{M:Md}{H:Hp}{F:Y8}:∀ {t:T} {v:V} {as:Y3},az M H F t v as->∀b∈as,F b/\∃u,H b=some u
 | .d x,v,as,h,b,hb=>by
  simp only[az]at h;rw[h.1]at hb;cases hb
 | .n kd ts,v,as,h,b,hb=>by
  simp only[az]at h;obtain⟨a,xs,bs,rfl,rfl,f,e2,l,r⟩:=h;rcases Kd.mem hb with⟨o,rfl⟩|hb
  ·exact⟨f.mpr o,_,e2⟩
  ·exact ak.fs r b hb
theorem ak.fs{M:Md}{H:Hp}{F:Y8}:∀ {ts:List T} {xs:List V} {as:Y3},ak M H F ts xs as->∀b∈as,F b/\∃u,H b=some u
 | [],xs,as,h,b,hb=>by
  simp only[ak]at h;rw[h.2]at hb;cases hb
 | t::ts,xs,as,h,b,hb=>by
  simp only[ak]at h;obtain⟨x,r,bs,cs,rfl,rfl,h1,h2⟩:=h;rcases KM.mp hb with hb|hb
  ·exact az.fs h1 b hb
  ·exact ak.fs h2 b hb
end
def aC(H:Hp):T->V->List Nat->T->V->Prop
 |t,v,[],t',w=>t=t'/\v=w
 |.n kd ts,v,k::p,t',w=>∃a xs t1 x1,v=.ref a/\H a=some (kd.ho xs)/\kd.fit xs/\ts[k]? =some t1/\xs[k]? =some x1/\aC H t1 x1 p t' w
 |.d _,_,_::_,_,_=>False
theorem ak.get{M:Md}{H:Hp}{F:Y8}:∀ {ts:List T} {xs:List V} {as:Y3} {k:Nat} {t:T} {x:V},ak M H F ts xs as->ts[k]? =some t->xs[k]? =some x->∃bs,az M H F t x bs/\∀b∈bs,b∈as
 |[],_,_,_,_,_,_,e,_=>by simp at e
 | t::ts,xs,as,0,_,_,h,e,e'=>by
  simp only[ak]at h;obtain⟨x,r,bs,cs,rfl,rfl,h1,h2⟩:=h;cases e;cases e';exact⟨bs,h1,λb hb=>KB _ hb⟩
 | t::ts,xs,as,k+1,_,_,h,e,e'=>by
  simp only[ak]at h;obtain⟨x,r,bs,cs,rfl,rfl,h1,h2⟩:=h;obtain⟨ds,h3,h4⟩:=ak.get h2 (by simpa using e) (by simpa using e')
  exact⟨ds,h3,λb hb=>FB _ (h4 b hb)⟩
theorem aC.mv{M:Md}{H H':Hp}{F:Y8}(m:∀a o,¬F a->H a=some o->H' a=some o):∀ {p:List Nat} {t:T} {v:V} {t':T} {w:V} {as:Y3},az M H F t v as->(∀b∈as,∀u,F b->H b=some u->H' b=some u)->aC H t v p t' w->aC H' t v p t' w
 | [],t,v,t',w,as,_,_,h=>by
  cases t<;>exact h
 | k::p,.n kd ts,v,t',w,as,r,hk,h=>by
  simp only[aC]at h ⊢;simp only[az]at r;obtain⟨a,xs,t1,x1,rfl,e,l,e1,e2,h⟩:=h;obtain⟨a',OM,bs,ea,rfl,f,e',l',rs⟩:=r;cases ea;have e9:xs=OM:=Kd.inj (k:=kd) (by rw[e']at e;injection e with e;exact e.symm) l l'
  subst e9;obtain⟨ds,r1,sub⟩:=rs.get e1 e2;refine⟨a,xs,t1,x1,rfl,?_,l,e1,e2,aC.mv m r1 (λb hb=>hk b (Kd.sub (sub b hb))) h⟩;by_cases o:kd.own=true
  ·exact hk a (Kd.top o) _ (f.mpr o) e'
  ·exact m _ _ (λz=>o (f.mp z)) e'
 |k::p,.d _,v,t',w,as,_,_,h=>h.elim
inductive cb(M:Md)(H:Hp)(F:Y8)(σ:L2.St)(ρ:En)(i:Nat)(b:Addr):Prop
 |mk:∀t v as,ρ[i]? =some (.on (.tr t))->σ[i]? =some (some v)->az M H F t v as->b∈as->cb M H F σ ρ i b
def Jt(M:Md)(H:Hp)(F:Y8)(σ:St)(ρ:En)(i:Nat):Sp->Prop
 |.tr t=>∃v as,σ[i]? =some (some v)/\az M H F t v as/\as.Nodup
 |.al k p=>∀t,ρ[k]? =some (.on (.tr t))->∃v w t',σ[k]? =some (some v)/\σ[i]? =some (some w)/\aC H t v p t' w/\t'.own=true
def fZ(M:Md)(H:Hp)(F:Y8)(σ:St)(ρ:En):Prop:=∀i x,ρ[i]? =some (.on x)->
 Jt M H F σ ρ i x/\(∀b,cb M H F σ ρ i b->∀j,bu ρ j->σ[j]? ≠some (some (.ref b)))/\∀t,x=.tr t->∀j t',ρ[j]? =some (.on (.tr t'))->j≠i->∀b,cb M H F σ ρ i b->cb M H F σ ρ j b->False
theorem fZ.no{M:Md}{H:Hp}{F:Y8}{σ:St}{ρ:En}(h:∀(i:Nat) x,ρ[i]? ≠some (.on x)):fZ M H F σ ρ:=λi x e=>absurd e (h i x)
theorem fZ.back{M:Md}{H H':Hp}{F F':Y8}{σ Ll:St}{ρ ρ':En}{i:Nat}{b:Addr}(r:fZ M H F σ ρ)(hr:∀x,ρ'[i]? =some (.on x)->ρ[i]? =some (.on x))(hs:Ll[i]? =σ[i]?)
  (hk:∀a u,cb M H F σ ρ i a->F a->H a=some u->H' a=some u) (m:∀a o,¬F a->H a=some o->H' a=some o) (h:cb M H' F' Ll ρ' i b):cb M H F σ ρ i b:=by
 obtain⟨t,v,as,e,ev,tr,hb⟩:=h;have e0:=hr _ e;obtain⟨⟨v',Lv,Rw,L3,nd⟩,_,_⟩:=r i _ e0;rw[hs,Rw]at ev;cases ev;have:=az.det (λa o n e u e'=>by rw[m a _ n e]at e';injection e') L3 tr λc hc u f hu=>hk c u ⟨t,v,Lv,e0,Rw,L3,hc⟩ f hu
 subst this;exact⟨t,v,Lv,e0,Rw,L3,hb⟩
theorem fZ.mv{M:Md}{H H':Hp}{F F':Y8}{σ Ll:St}{ρ ρ':En}(r:fZ M H F σ ρ)(m:Mv F H F' H')(Mo:∀(j:Nat) x,ρ'[j]? =some (.on x)->ρ[j]? =some (.on x)/\Ll[j]? =σ[j]?)
  (hk:∀(j:Nat) x b u,ρ'[j]? =some (.on x)->cb M H F σ ρ j b->F b->H b=some u->F' b/\H' b=some u)
  (ho:∀(j:Nat) x b,ρ'[j]? =some (.on x)->cb M H F σ ρ j b->∀k:Nat,bu ρ' k->Ll[k]? ≠some (some (.ref b))):fZ M H' F' Ll ρ':=λi x e=>by
 obtain⟨e0,es⟩:=Mo i x e;obtain⟨h1,h2,h3⟩:=r i x e0;refine⟨?_,λb hb k ok=>?_,λt ht j t' ej Ue b hi hj=>h3 t ht j t' (Mo j _ ej).1 Ue b (r.back (λy ey=>(Mo i y ey).1) es (λc u hc f hu=>(hk i _ c u e hc f hu).2) (λa o n e=>(m a o n e).2) hi) (r.back (λy ey=>(Mo j y ey).1) (Mo j _ ej).2 (λc u hc f hu=>(hk j _ c u ej hc f hu).2) (λa o n e=>(m a o n e).2) hj)⟩
 ·cases x with
  | tr t=>
   obtain⟨v,as,ev,tr,nd⟩:=h1;exact⟨v,as,by rw[es];exact ev,tr.mv m λb hb u f hu=>hk i _ b u e ⟨t,v,as,e0,ev,tr,hb⟩ f hu,nd⟩
  | al k p=>
   intro t et;obtain⟨ek,UJ⟩:=Mo k _ et;obtain⟨v,w,t',e1,e2,at',ow⟩:=h1 t ek;obtain⟨⟨v',as,QM,tr,_⟩,_,_⟩:=r k _ ek;rw[e1]at QM;cases QM;exact⟨v,w,t',by rw[UJ];exact e1,by rw[es];exact e2,at'.mv (λa o n e=>(m a o n e).2) tr λb hb u f hu=>(hk k _ b u et ⟨t,v,as,ek,e1,tr,hb⟩ f hu).2,ow⟩
 ·refine ho i x b e (r.back (λy ey=>(Mo i y ey).1) es (λc u hc f hu=>(hk i x c u e hc f hu).2) (λa o n e=>(m a o n e).2) hb) k ok
theorem fZ.f{M:Md}{H:Hp}{F:Y8}{σ:St}{ρ:En}{i:Nat}{b:Addr}(h:cb M H F σ ρ i b):F b/\∃u,H b=some u:=by
 obtain⟨t,v,as,e,ev,tr,hb⟩:=h;exact tr.fs b hb
structure a8(M:Md)(H:Hp)(F:Y8)(σ:St)(ρ:En):Prop where
 len:ρ.length=σ.length
 aU:∀a,F a->∃o,H a=some o
 sh:∀(i:Nat) d,ρ[i]? =some (.sh d)->∃v,σ[i]? =some (some v)/\Rep M H F d v
 ol:∀(i:Nat) ds,ρ[i]? =some (.ol ds)->∃a xs,σ[i]? =some (some (.ref a))/\F a/\H a=some (.lst xs)/\ae M H F ds xs
 od:∀(i:Nat) ks ds,ρ[i]? =some (.od ks ds)->∃a xs,σ[i]? =some (some (.ref a))/\F a/\H a=some (.dK (ks.zip xs))/\ks.length=xs.length/\ae M H F ds xs
 cP:∀(i j:Nat) a,bu ρ i->bu ρ j->σ[i]? =some (some (.ref a))->σ[j]? =some (some (.ref a))->i=j
 on:fZ M H F σ ρ
section
variable{M:Md}{H H':Hp}{F F':Y8}{σ:St}{ρ:En}
theorem a8.same(r:a8 M H F σ ρ)(h:ah H H'):a8 M H' F σ ρ where
 len:=r.len
 aU a f:=let⟨o,e⟩:=r.aU a f;⟨o,h _ _ e⟩
 sh i d e:=let⟨v,e1,q⟩:=r.sh i d e;⟨v,e1,q.mv (.same h)⟩
 ol i ds e:=let⟨a,xs,e1,f,e2,q⟩:=r.ol i ds e;⟨a,xs,e1,f,h _ _ e2,q.mv (.same h)⟩
 od i ks ds e:=let⟨a,xs,e1,f,e2,l,q⟩:=r.od i ks ds e;⟨a,xs,e1,f,h _ _ e2,l,q.mv (.same h)⟩
 cP:=r.cP
 on:=r.on.mv (.same h) (λj Lw e=>⟨e,rfl⟩) (λj Lw b u e hb f hu=>⟨f,h _ _ hu⟩) λj Lw b e hb k ok=>(r.on j Lw e).2.1 b hb k ok
theorem get_set{α:Type}{l:List α}{i j:Nat}{x y:α}(h:(l.set i x)[j]? =some y):(i=j/\x=y/\i<l.length)\/(i≠j/\l[j]? =some y):=by
 by_cases e:i=j
 ·subst e
  rw[W9]at h;cases q:l[i]? with
  |none=>rw[q]at h;cases h
  | some z=>
   rw[q]at h;obtain⟨hl,_⟩:=mO.mp q;simp at h;exact .inl ⟨rfl,h,hl⟩
 ·rw[bU e]at h
  exact .inr ⟨e,h⟩
theorem a8.oR{i:Nat}{d:D}{v:V}(r:a8 M H F σ ρ)(h:Rep M H F d v):a8 M H F (σ.set i (some v)) (ρ.set i (.sh d)) where
 len:=by simp[r.len]
 aU:=r.aU
 sh j e q:=by
  rcases get_set q with⟨rfl,hx,hl⟩|⟨C',q⟩
  ·cases hx
   exact⟨v,by rw[MG (by rw[<-r.len];exact hl)],h⟩
  ·obtain⟨w,e1,g⟩:=r.sh j e q
   exact⟨w,by rw[bU C'];exact e1,g⟩
 ol j e q:=by
  rcases get_set q with⟨rfl,x,hl⟩|⟨C',q⟩
  ·cases x
  ·obtain⟨a,xs,e1,g⟩:=r.ol j e q
   exact⟨a,xs,by rw[bU C'];exact e1,g⟩
 od j k e q:=by
  rcases get_set q with⟨rfl,x,hl⟩|⟨C',q⟩
  ·cases x
  ·obtain⟨a,xs,e1,g⟩:=r.od j k e q
   exact⟨a,xs,by rw[bU C'];exact e1,g⟩
 cP j k a oj ok ej ek:=by
  have nj:i≠j:=by
   rintro rfl;rcases oj with⟨ds,q⟩|⟨ks,ds,q⟩
   ·rcases get_set q with⟨_,x,_⟩|⟨C',_⟩
    ·cases x
    ·exact C' rfl
   ·rcases get_set q with⟨_,x,_⟩|⟨C',_⟩
    ·cases x
    ·exact C' rfl
  have nk:i≠k:=by
   rintro rfl;rcases ok with⟨ds,q⟩|⟨ks,ds,q⟩
   ·rcases get_set q with⟨_,x,_⟩|⟨C',_⟩
    ·cases x
    ·exact C' rfl
   ·rcases get_set q with⟨_,x,_⟩|⟨C',_⟩
    ·cases x
    ·exact C' rfl
  rw[bU nj]at ej;rw[bU nk]at ek;refine r.cP j k a ?_ ?_ ej ek
  ·unfold bu at oj;simp only[bU nj]at oj;exact oj
  ·unfold bu at ok;simp only[bU nk]at ok;exact ok
 on := r.on.mv (λ_ _ n e=>⟨n,e⟩) (λj Lw e=>by
   rcases get_set e with⟨_,x,_⟩|⟨C',e⟩
   ·cases x
   ·exact⟨e,bU C'⟩) (λj Lw b u e hb f hu=>⟨f,hu⟩) λj Lw b e hb k ok=>by
  have e0:ρ[j]? =some (.on Lw):=by
   rcases get_set e with⟨_,x,_⟩|⟨C',e⟩
   ·cases x
   ·exact e
  have nk:i≠k:=by
   rintro rfl;rcases ok with⟨ds,q⟩|⟨ks,ds,q⟩
   ·rcases get_set q with⟨_,x,_⟩|⟨C',_⟩
    ·cases x
    ·exact C' rfl
   ·rcases get_set q with⟨_,x,_⟩|⟨C',_⟩
    ·cases x
    ·exact C' rfl
  rw[bU nk];refine(r.on j Lw e0).2.1 b hb k ?_;unfold bu at ok;simp only[bU nk]at ok;exact ok
end
open L2 (a7 fS bM R2 EP)
theorem ao{α β:Type}{x:R α}{f:α->R β}{b:β}:x.bind f=.ok b↔∃a,x=.ok a/\f a=.ok b:=by
 cases x with
 |ok a=>simp
 |exc y=>simp
 |bad=>simp
inductive tP(M:Md)(f:Ex)(σ:L2.St)(H:Hp)(Q:VK):Prop
 |mk:∀ρ F d,a8 M H F σ ρ->f ρ=.ok d->(∀v H',ah H H'->Rep M H' F d v->Q v H')->tP M f σ H Q
inductive t7(M:Md)(c:aY)(σ:L2.St)(H:Hp)(Q:(Bool->Hp->Prop)):Prop
 |mk:∀ρ F b,a8 M H F σ ρ->c ρ=.ok b->(∀H',ah H H'->Q b H')->t7 M c σ H Q
inductive mI(M:Md)(f:En->R (List D))(σ:L2.St)(H:Hp)(Q:(List V->Hp->Prop)):Prop
 |mk:∀ρ F ds,a8 M H F σ ρ->f ρ=.ok ds->(∀vs H',ah H H'->ae M H' F ds vs->Q vs H')->mI M f σ H Q
abbrev JE(X:Cx)(e:Expr)(f:Ex):Prop:=PE X e (tP (aD X) f)
structure XE(X:Cx)(e:Expr)(f:Ex):Prop where
 out:JE X e f
abbrev JT(X:Cx)(e:Expr)(c:aY):Prop:=PT X e (t7 (aD X) c)
structure XT(X:Cx)(e:Expr)(f:aY):Prop where
 out:JT X e f
abbrev JA(X:Cx)(es:Y4)(f:En->R (List D)):Prop:=PA X es (mI (aD X) f)
structure XA(X:Cx)(e:Y4)(f:En->R (List D)):Prop where
 out:JA X e f
theorem bo{X:Cx}{e:Expr}{t t':TE}(h:PE X e t')(hi:∀σ H Q,t σ H Q->t' σ H Q):PE X e t:=λpins s σ H Q I q=>h pins s σ H Q I (hi σ H Q q)
theorem lu{X:Cx}{e:Expr}{t t':TT}(h:PT X e t')(hi:∀σ H Q,t σ H Q->t' σ H Q):PT X e t:=λpins s σ H Q I q=>h pins s σ H Q I (hi σ H Q q)
theorem qU{X:Cx}{e:Y4}{t t':TA}(h:PA X e t')(hi:∀σ H Q,t σ H Q->t' σ H Q):PA X e t:=λpos pins s σ H Q I q=>h pos pins s σ H Q I (hi σ H Q q)
theorem AQ{X:Cx}{e:Expr}{t t':TT}(h:PW X e t')(hi:∀σ H Q,t σ H Q->t' σ H Q):PW X e t:=λwh pins s σ H Q I q=>h wh pins s σ H Q I (hi σ H Q q)
theorem ah.bZ{H:Hp}{p:Addr}(h:H p=none)(o:HO):ah H (upd H p o):=λb u q=>by rw[L2.aE (L2.eI q h)];exact q
section
variable{X:Cx}{M:Md}{H H':Hp}{F:Y8}{σ:St}{ρ:En}{pos:Pos}
theorem Ct{i:Nat}{d:D}(h:aa i ρ=.ok d):ρ[i]? =some (.sh d):=by
 unfold aa at h;split at h
 ·rename_i e;cases h;exact e
 ·cases h
theorem ab{X:L2.Cx}{pos:Pos}(i:Nat){x:Str}(hN:X.N[i]? =some x:=by rfl)(hv:L2.dS X.env.scope x:=by first|exact Or.inl rfl|exact Or.inr (Or.inl rfl)|exact Or.inr (Or.inr rfl))(hd:gV x:=by decide)(L4:TY x:=by decide):XE X (.Name x pos) (aa i):=⟨ bo (L2.pv i hN hv hd L4) λσ H Q=>by
  rintro⟨ρ,F,d,r,e,q⟩
  obtain⟨v,e1,rv⟩:=r.sh i d (Ct e);exact⟨v,e1,q v H (ah.refl H) rv⟩⟩
theorem au{X:L2.Cx}{pos:Pos}{i:Int}{j:Nat}:XE X (.Constant (.int i) j pos) (eC (.int i)):=⟨ bo L2.Hf λσ H Q ⟨ρ,F,d,r,e,q⟩=>by cases e;exact q _ H (ah.refl H) (by simp[Rep])⟩
theorem g8{X:L2.Cx}{pos:Pos}{b:Bool}{j:Nat}:XE X (.Constant (.bool b) j pos) (eC (.bl b)):=⟨ bo L2.DZ λσ H Q ⟨ρ,F,d,r,e,q⟩=>by cases e;exact q _ H (ah.refl H) (by simp[Rep])⟩
theorem kZ{X:L2.Cx}{pos:Pos}{j:Nat}:XE X (.Constant .none j pos) (eC .aj):=⟨ bo L2.GS λσ H Q ⟨ρ,F,d,r,e,q⟩=>by cases e;exact q _ H (ah.refl H) (by simp[Rep])⟩
theorem aB{X:L2.Cx}{pos:Pos}{x:Str}{j:Nat}:XE X (.Constant (.str x) j pos) (eC (.str x)):=⟨ bo L2.yD λσ H Q ⟨ρ,F,d,r,e,q⟩=>by cases e;exact q _ H (ah.refl H) (by simp[Rep])⟩
theorem CK{x:Str}{d:D}{v:V}{u:Value}(hg:L2.Gl X x)(hm:X.mg x=some u)(r:RelV v u)(hr:∀H F,Rep (aD X) H F d v)(hd:gV x:=by decide):JE X (.Name x pos) (eC d):=
 bo (L2.HK hg hm r hd) λσ H Q ⟨ρ,F,d',r,e,q⟩=>by cases e;exact q _ H (ah.refl H) (hr H F)
def cH(M:Md)(g:D->D->R D)(r:R2):Prop:=∀(F:Y8) (H:Hp) (x y:V) (a b d:D) (Q:VK),(∀p,F p->∃o,H p=some o)->Rep M H F a x->Rep M H F b y->g a b=.ok d->
 (∀v H',ah H H'->Rep M H' F d v->Q v H')->r x y H Q
def gX(M:Md)(g:List D->R D)(r:List V->Hp->VK->Prop):Prop:=∀(F:Y8) (H:Hp) (xs:List V) (as:List D) (d:D) (Q:VK),(∀p,F p->∃o,H p=some o)->ae M H F as xs->g as=.ok d->
 (∀v H',ah H H'->Rep M H' F d v->Q v H')->r xs H Q
theorem pY{g:D->D->R D}{r:R2}(hg:cH M g r){fa fb:Ex}{Q:VK}(h:tP M (e2 g fa fb) σ H Q):L2.nY r (tP M fa) (tP M fb) σ H Q:=by
 obtain⟨ρ,F,d,hr,e,q⟩:=h;obtain⟨a,ea,e⟩:=ao.mp e;obtain⟨b,eb,e⟩:=ao.mp e;refine⟨ρ,F,a,hr,ea,λx H1 s1 rx=>⟨ρ,F,b,hr.same s1,eb,λy H2 s2 ry=>?_⟩⟩;exact hg F H2 x y a b d Q ((hr.same s1).same s2).aU (rx.mv (.same s2)) ry e λv H3 s3 rv=>q v H3 (s1.trans (s2.trans s3)) rv
theorem a6{X:L2.Cx}{pos:Pos}{op:Operator}{g:D->D->R D}{r:R2}{a b:Expr}{fa fb:Ex}(ho:a7 X (binaryOp op) r)(hg:cH (aD X) g r)(ha:XE X a fa)(hb:XE X b fb):XE X (.BinOp a op b pos) (e2 g fa fb):=⟨have ha:=ha.out;have hb:=hb.out;bo (L2.HX ho ha hb) λσ H Q h=>pY hg h⟩
theorem kr{X:L2.Cx}{pos:Pos}{op:CmpOp}{g:D->D->R D}{r:R2}{a b:Expr}{fa fb:Ex}(ho:a7 X (compareOp op) r)(hg:cH (aD X) g r)(ha:XE X a fa)(hb:XE X b fb)(hm:behindInMarks op b=false:=by first|exact L2.zw _|rfl):XE X (.Compare a [op] [b] pos) (e2 g fa fb):=⟨have ha:=ha.out;have hb:=hb.out;bo (L2.Ho ho ha hb hm) λσ H Q h=>pY hg h⟩
theorem bC{i:Int}{v:V}(h:Rep M H F (.int i) v):v=.int i:=by simpa only[Rep] using h
theorem gi{i:Bool}{v:V}(h:Rep M H F (.bl i) v):v=.bl i:=by simpa only[Rep] using h
theorem fM{i:Str}{v:V}(h:Rep M H F (.str i) v):v=.str i:=by simpa only[Rep] using h
theorem sd{v:V}(h:Rep M H F .aj v):v=.aj:=by simpa only[Rep] using h
theorem d8{i:Int}:Rep M H F (.int i) (.int i):=by simp only[Rep]
theorem dD{i:Bool}:Rep M H F (.bl i) (.bl i):=by simp only[Rep]
theorem lJ{i:Str}:Rep M H F (.str i) (.str i):=by simp only[Rep]
theorem fF:Rep M H F .aj .aj:=by simp only[Rep]
theorem uC{i:Int}(h:small i=true): -(2 ^ 64)<i/\i<2 ^ 64:=by
 unfold small at h;rw[sa,FM,FM]at h;exact⟨h.1,h.2⟩
theorem Cs:cH M pZ (L2.fm λi j=>.int (i - j)):=by
 intro F H x y a b d Q tr ra rb e q;unfold pZ at e;split at e
 ·cases e
  exact⟨_,_,bC ra,bC rb,q _ _ (ah.refl _) d8⟩
 ·cases e
theorem FZ:cH M oLt (L2.fm λi j=>.bl (decide (i<j))):=by
 intro F H x y a b d Q tr ra rb e q;unfold oLt at e;split at e
 ·cases e
  exact⟨_,_,bC ra,bC rb,q _ _ (ah.refl _) dD⟩
 ·cases e
theorem k7:cH M oLe (L2.fm λi j=>.bl (decide (i<=j))):=by
 intro F H x y a b d Q tr ra rb e q;unfold oLe at e;split at e
 ·cases e
  exact⟨_,_,bC ra,bC rb,q _ _ (ah.refl _) dD⟩
 ·cases e
theorem AF:cH M jQ (L2.fm λi j=>.bl (decide (j<i))):=by
 intro F H x y a b d Q tr ra rb e q;unfold jQ at e;split at e
 ·cases e
  exact⟨_,_,bC ra,bC rb,q _ _ (ah.refl _) dD⟩
 ·cases e
theorem Jz:cH M lz (L2.fm λi j=>.bl (decide (j<=i))):=by
 intro F H x y a b d Q tr ra rb e q;unfold lz at e;split at e
 ·cases e
  exact⟨_,_,bC ra,bC rb,q _ _ (ah.refl _) dD⟩
 ·cases e
theorem dg:cH M oMod (L2.rI (λ_ j=>0<j) λi j=>.int (i % j)):=by
 intro F H x y a b d Q tr ra rb e q;unfold oMod at e;split at e
 ·split at e
  ·cases e
   exact⟨_,_,bC ra,bC rb,by assumption,q _ _ (ah.refl _) d8⟩
  ·cases e
 ·cases e
theorem o8:cH M jA (L2.rI L2.yF λi j=>.int (i ^ j.toNat)):=by
 intro F H x y a b d Q tr ra rb e q;unfold jA at e;split at e
 ·split at e
  ·rename_i i j h
   cases e;rw[sa]at h;have h3:=uC h.2;have h4:=h.1;unfold zH at h4;rw[sa,FM,FM]at h4;exact⟨_,_,bC ra,bC rb,⟨h4.1,by omega,by omega⟩,q _ _ (ah.refl _) d8⟩
  ·cases e
 ·cases e
def xi(i j:Int):Prop:=0<j/\j<340282366920938463463374607431768211456
theorem eJ:a7 X (binaryOp .FloorDiv) (L2.rI xi λi j=>.int (i / j)):=by
 refine L2.qf λi j t u s Q E c h=>?_;have e:i / j=i.fdiv j:=(Int.fdiv_eq_ediv_of_nonneg _ (Int.le_of_lt c.1)).symm;rw[e]at h;refine PyProof.Rows.floordiv_int (by have:=c.1;omega) h (Or.inl ?_)
 refine PyProof.noPylong_of_log2 ?_;have h0:j.natAbs≠0:=by have:=c.1;omega
 have h1:j.natAbs.log2<128:=(Nat.log2_lt h0).mpr (by have h2:(340282366920938463463374607431768211456:Nat)=2 ^ 128:=(by decide);have:=c.2;have:=c.1;omega)
 omega
theorem d7:cH M oDiv (L2.rI xi λi j=>.int (i / j)):=by
 intro F H x y a b d Q tr ra rb e q;unfold oDiv at e;split at e
 ·split at e
  ·rename_i h
   cases e;unfold vI at h;rw[sa,FM,FM]at h;exact⟨_,_,bC ra,bC rb,h,q _ _ (ah.refl _) d8⟩
  ·cases e
 ·cases e
end
section
variable{X:Cx}{M:Md}{H H':Hp}{F:Y8}{σ:L2.St}{ρ:En}{pos:Pos}{pins:List (Addr×Obj)}{s:Shared}
theorem iJ{a:Addr}{xs:List V}(I:Inv X pins σ H s)(h:fP (aD X) H F a xs):∃(af:Y5) (n:Nat) (sl:Array (Y6)),Vals xs af/\s.heap.get? a=some {cls:=.type "list",data:=.seq af.toArray n,slots:=sl}/\xs.length<=sizeLine:=by
 rcases h with⟨_,h⟩|⟨o,af,n,hk,h1,h2,h3,hz,r⟩
 ·obtain⟨z,af,n,r,e⟩:=h.ok I.aK
  exact⟨af,n, #[],r,e,z⟩
 ·obtain⟨c,dd,dt,sl⟩:=o
  simp only at h1 h2 h3;subst h1 h2 h3;refine⟨af.toList,n,sl,r,by simpa using I.c7 a _ hk,?_⟩
  have e:=r.length;simp only[WU]at e;omega
theorem Dp(l:Addr)(items:Array Value)(n:Nat)(sl:Array (Y6))(b:Addr)(Ny:Array Value)(n2:Nat)(PM:Array (Y6))(Uj:items.size+Ny.size<=sizeLine):
  Meets (Builtin.«list.__add__» ⟨[.ref l,.ref b],[]⟩) (λ_ R s=>s.heap.get? l=some {cls:=.type "list",dict:=none,data:=.seq items n,slots:=sl}/\s.heap.get? b=some {cls:=.type "list",dict:=none,data:=.seq Ny n2,slots:=PM}/\R (.ok (.ret (Value.ref s.heap.objs.size))) {s with heap:=s.heap.push {cls:=Value.type "list",data:=Data.seq (items++Ny)},toks:=s.toks}):=
 .of_wp λprog w A R s h=>by obtain⟨hp,g,d,tk,os⟩:=s;obtain⟨hl,hb,h⟩:=h;have f1:=AutoSeq1.idx_int;have f2:=AutoSeq1.sub_tuple_tuple;have f3:=AutoSeq1.sub_list_list;have f4:=AutoSeq1.sub_tuple_list;have f5:=AutoSeq1.sub_list_tuple;wp_walk using Xh hl,Xh hb;exact⟨_,rfl,h⟩
theorem lD{a:Addr}{xs:List V}(I:Inv X pins σ H s)(h:cT (aD X) H F a xs):∃af:Y5,Vals xs af/\PyProof.Rows.IsTup s.heap a af.toArray/\xs.length<=sizeLine:=I.tuple h.sq
noncomputable def BE(M:Md):R2:=λx y H Q=>∃F l b xs zs,x=.ref l/\y=.ref b/\fP M H F l xs/\fP M H F b zs/\xs.length+zs.length<=sizeLine/\∀p,H p=none->Q (.ref p) (upd H p (.lst (xs++zs)))
theorem GQ:a7 X (binaryOp .Add) (BE (aD X)):=by
 intro pins s σ H x y v u Q I rx ry h;obtain⟨F,l,b,xs,zs,rfl,rfl,hH,hB,hz,q⟩:=h;cases rx;cases ry;obtain⟨af,n,sl,r,e,z⟩:=iJ I hH;obtain⟨ML,n2,PM,r2,e2,z2⟩:=iJ I hB;have h1:=r.length;have h2:=r2.length;refine YJ ⟨_,e,rfl⟩ ⟨_,e2,rfl⟩ noFill_list_add seq_list_add PySem.F.slot_list_add PySem.F.entry_list_add (PySem.F.args_list_add_2 _ _) (Dp l af.toArray n sl b ML.toArray n2 PM (by rw[Gc,Gc];omega)) ⟨e,e2,?_⟩
 have ea:af.toArray++ML.toArray=(af++ML).toArray:=by simp
 rw[ea];exact⟨.ref _,_,I.IS (t':=s.toks) (r.append r2) (by rw[JK];omega),rfl,q _ I.fresh⟩
noncomputable def yw(M:Md):R2:=λx y H Q=>(L2.fm λi j=>.int (i+j)) x y H Q\/(∃i j,x=.str i/\y=.str j/\i.length+j.length<=sizeLine/\Q (.str (i++j)) H)\/BE M x y H Q\/L2.Bl M.K x y H Q
theorem iO:a7 X (binaryOp .Add) (yw (aD X)):=L2.a7.or L2.iO (L2.a7.or L2.Hw (L2.a7.or GQ L2.EZ))
theorem lr{p:Addr}(tr:∀p,F p->∃o,H p=some o)(h:H p=none):¬F p:=λf=>by obtain⟨o,e⟩:=tr p f;rw[h]at e;cases e
theorem oP{p:Addr}{ds:List D}{xs:List V}(tr:∀p,F p->∃o,H p=some o)(h:H p=none)(r:ae M H F ds xs):Rep M (upd H p (.lst xs)) F (.lst ds) (.ref p):=by
 simp only[Rep];exact⟨p,xs,rfl,.inl ⟨lr tr h,.inl L2.aV⟩,r.mv (.same (ah.bZ h _))⟩
theorem nv{p:Addr}{ds:List D}{xs:List V}(tr:∀p,F p->∃o,H p=some o)(h:H p=none)(r:ae M H F ds xs):Rep M (upd H p (.tup xs)) F (.tup ds) (.ref p):=by
 simp only[Rep];exact⟨p,xs,rfl,.inl ⟨lr tr h,.inl L2.aV⟩,r.mv (.same (ah.bZ h _))⟩
theorem kK:cH M gL (yw M):=by
 intro F H x y a b d Q tr ra rb e q;unfold gL at e;split at e
 ·cases e
  exact .inl ⟨_,_,bC ra,bC rb,q _ _ (ah.refl _) d8⟩
 ·split at e
  ·cases e
   exact .inr (.inl ⟨_,_,fM ra,fM rb,by assumption,q _ _ (ah.refl _) lJ⟩)
  ·cases e
 ·split at e
  ·rename_i hz
   cases e;simp only[Rep]at ra rb;obtain⟨l,xs,rfl,h1,r1⟩:=ra;obtain⟨m,zs,rfl,h2,r2⟩:=rb;refine .inr (.inr (.inl ⟨F,l,m,xs,zs,rfl,rfl,h1,h2,by rw[<-r1.length, <-r2.length];exact hz,λp hp=>q _ _ (ah.bZ hp _) (oP tr hp (r1.append r2))⟩))
  ·cases e
 ·split at e
  ·rename_i hz
   cases e;simp only[Rep]at ra rb;obtain⟨l,xs,rfl,h1,r1⟩:=ra;obtain⟨m,zs,rfl,h2,r2⟩:=rb;have l1:=r1.length;have l2:=r2.length;refine .inr (.inr (.inr ⟨l,m,xs,zs,rfl,rfl,h1.sq,h2.sq,?_,by rw[<-l1, <-l2];exact hz.2,λe0=>?_,λ_ p hp=>q _ _ (ah.bZ hp _) (nv tr hp (r1.append r2))⟩))
   ·intro e0
    subst e0;have:=hz.1;rename_i as bs;cases as with
    |nil=>cases this
    |cons _ _=>simp at l1
   ·subst e0
    rename_i as bs;cases bs with
    |cons _ _=>simp at l2
    | nil=>
     refine q _ _ (ah.refl _) ?_;rw[VW];simp only[Rep];exact⟨l,xs,rfl,h1,r1⟩
  ·cases e
 ·cases e
theorem yQ{X:L2.Cx}{pos:Pos}{j:Nat}{p2:Pos}{a:Expr}{fa:Ex}(ha:XE X a fa):XE X (.Compare a [.IsNot] [.Constant .none j p2] pos) (e1 oK fa):=⟨have ha:=ha.out;bo (L2.Gn (L2.wO ha)) λσ H Q=>by
  rintro⟨ρ,F,d,hr,e,q⟩
  obtain⟨a,ea,e⟩:=ao.mp e;refine⟨ρ,F,a,hr,ea,λx H1 s1 rx=>?_⟩;cases e;refine q _ _ s1 ?_;cases a<;>simp only[Rep]at rx
  all_goals first
   |(subst rx;exact dD)
   |(obtain⟨p,xs,rfl,_⟩:=rx;exact dD)⟩
theorem mP{X:L2.Cx}{pos:Pos}{op:BoolOp}{a:Expr}{fa:Ex}(h:XE X a fa):XE X (.BoolOp op [a] pos) fa:=⟨have h:=h.out;L2.HD h⟩
theorem oQ{X:L2.Cx}{pos:Pos}{a b:Expr}{rest:Y4}{fa fb:Ex}(ha:XE X a fa)(hb:XE X (.BoolOp .And (b::rest) pos) fb):XE X (.BoolOp .And (a::b::rest) pos) (eM fa fb):=⟨have ha:=ha.out;have hb:=hb.out;bo (L2.D4 ha hb) λσ H Q=>by
  rintro⟨ρ,F,d,hr,e,q⟩
  obtain⟨a,ea,e⟩:=ao.mp e;refine⟨ρ,F,a,hr,ea,λx H1 s1 rx=>?_⟩;split at e
  ·exact⟨true,gi rx,by rw[u9 rfl];exact⟨ρ,F,d,hr.same s1,e,λv H2 s2 rv=>q v H2 (s1.trans s2) rv⟩⟩
  ·cases e
   exact⟨false,gi rx,by rw[Da (by decide)];exact q _ _ s1 dD⟩
  ·cases e⟩
theorem CA{a:D}{x:V}{t:Bool}(r:Rep M H F a x)(e:truth a=.ok t):L2.vU M.K x H t:=by
 cases a with
 |aj=>cases e;cases sd r;rfl
 |bl b=>cases e;cases gi r;rfl
 |int i=>cases e;cases bC r;rfl
 | str z=>
  unfold truth at e;dsimp only at e;split at e
  ·rename_i hz
   cases e;cases fM r;refine⟨hz,?_⟩;rw[Wk];simp
  ·cases e
 | tup ds=>
  cases e;simp only[Rep]at r;obtain⟨p,xs,rfl,h,rs⟩:=r;refine .inr (.inl ⟨xs,h.sq,?_⟩);have:=rs.length;cases ds<;>cases xs<;>simp at this ⊢
 | lst ds=>
  cases e;simp only[Rep]at r;obtain⟨p,xs,rfl,h,rs⟩:=r;refine .inl ⟨xs,h.sq,?_⟩;have:=rs.length;cases ds<;>cases xs<;>simp at this ⊢
 |ai ks ds=>cases e
 |cj _ _ _=>cases e
theorem ff{X:L2.Cx}{a:Expr}{fa:Ex}(ha:XE X a fa)(he:∀whole,isTrue a X.env whole=(do let v <-whole;standAt a.pos;holding [v] (truthy v)):=by exact DU (by rfl)):XT X a (tV fa):=⟨have ha:=ha.out;lu (L2.FX ha he) λσ H Q=>by
  rintro⟨ρ,F,b,hr,e,q⟩
  obtain⟨a,ea,e⟩:=ao.mp e;exact⟨ρ,F,a,hr,ea,λx H1 s1 rx=>⟨b,CA rx e,q H1 s1⟩⟩⟩
def gw(g:D->D->R D):Prop:=∀a b d,g a b=.ok d->∃k,d=.bl k
theorem cf{X:L2.Cx}{pos:Pos}{op:CmpOp}{g:D->D->R D}{r:R2}{a b:Expr}{fa fb:Ex}(ho:a7 X (compareOp op) r)(hg:cH (aD X) g r)(hB:gw g)(ha:XE X a fa)(hb:XE X b fb)(hm:behindInMarks op b=false:=by first|exact L2.zw _|rfl):XT X (.Compare a [op] [b] pos) (tV (e2 g fa fb)):=⟨have ha:=ha.out;have hb:=hb.out;lu (L2.KG ho ha hb hm) λσ H Q=>by
  rintro⟨ρ,F,t,hr,e,q⟩
  obtain⟨d,ed,e⟩:=ao.mp e;refine pY hg ⟨ρ,F,d,hr,ed,λv H1 s1 rv=>?_⟩;obtain⟨a,ea,ed⟩:=ao.mp ed;obtain⟨b,eb,ed⟩:=ao.mp ed;obtain⟨k,rfl⟩:=hB _ _ _ ed;cases e;exact⟨_,gi rv,q H1 s1⟩⟩
theorem uW{X:L2.Cx}{pos:Pos}{j:Nat}{p2:Pos}{a:Expr}{fa:Ex}(ha:XE X a fa):XT X (.Compare a [.Is] [.Constant .none j p2] pos) (tV (e1 lW fa)):=⟨have ha:=ha.out;lu (L2.zG (L2.Fo ha)) λσ H Q=>by
  rintro⟨ρ,F,t,hr,e,q⟩
  obtain⟨d,ed,e⟩:=ao.mp e;obtain⟨a,ea,ed⟩:=ao.mp ed;refine⟨ρ,F,a,hr,ea,λx H1 s1 rx=>⟨t,?_,q H1 s1⟩⟩;cases ed;cases e;cases a<;>simp only[Rep]at rx
  all_goals first
   |(subst rx;rfl)
   |(obtain⟨p,xs,rfl,_⟩:=rx;rfl)⟩
theorem B6{X:L2.Cx}{pos:Pos}{j:Nat}{p2:Pos}{a:Expr}{fa:Ex}(ha:XE X a fa):XT X (.Compare a [.IsNot] [.Constant .none j p2] pos) (tV (e1 oK fa)):=⟨have ha:=ha.out;lu (L2.zG (L2.wO ha)) λσ H Q=>by
  rintro⟨ρ,F,t,hr,e,q⟩
  obtain⟨d,ed,e⟩:=ao.mp e;obtain⟨a,ea,ed⟩:=ao.mp ed;refine⟨ρ,F,a,hr,ea,λx H1 s1 rx=>⟨t,?_,q H1 s1⟩⟩;cases ed;cases e;cases a<;>simp only[Rep]at rx
  all_goals first
   |(subst rx;rfl)
   |(obtain⟨p,xs,rfl,_⟩:=rx;rfl)⟩
theorem vq{X:L2.Cx}{pos:Pos}{op Pm:CmpOp}{g g':D->D->R D}{r r':R2}{a b c:Expr}{fa fb fc:Ex}(ho:a7 X (compareOp op) r)(Nu:a7 X (compareOp Pm) r')(hg:cH (aD X) g r)(US:cH (aD X) g' r')(hB:gw g')(ha:XE X a fa)(hb:XE X b fb)(hc:XE X c fc)(hm:lastMarks [op,Pm] [b,c]=false:=by with_unfolding_all rfl):XT X (.Compare a [op,Pm] [b,c] pos) (tV (kq g g' fa fb fc)):=⟨have ha:=ha.out;have hb:=hb.out;have hc:=hc.out;lu (L2.Gh ho Nu ha hb hc hm) λσ H Q=>by
  rintro⟨ρ,F,t,hr,e,q⟩
  obtain⟨d,e,et⟩:=ao.mp e;obtain⟨a,ea,e⟩:=ao.mp e;obtain⟨b,eb,e⟩:=ao.mp e;obtain⟨z,ez,e⟩:=ao.mp e;refine⟨ρ,F,a,hr,ea,λx H1 s1 rx=>⟨ρ,F,b,hr.same s1,eb,λy H2 s2 ry=>?_⟩⟩;refine hg F H2 x y a b z _ ((hr.same s1).same s2).aU (rx.mv (.same s2)) ry ez λv H3 s3 rv=>?_;split at e
  ·obtain⟨w,ew,e⟩:=ao.mp e
   obtain⟨k,rfl⟩:=hB _ _ _ e;refine⟨true,gi rv,?_⟩;rw[u9 rfl];refine⟨ρ,F,w,((hr.same s1).same s2).same s3,ew,λu H4 s4 ru=>?_⟩;refine US F H4 y u b w _ _ ((((hr.same s1).same s2).same s3).same s4).aU (ry.mv (.same (s3.trans s4))) ru e λv H5 s5 rv=>?_;cases et;exact⟨_,gi rv,q H5 (s1.trans (s2.trans (s3.trans (s4.trans s5))))⟩
  ·cases e
   cases et;exact⟨false,gi rv,by rw[Da (by decide)];exact⟨_,rfl,q _ (s1.trans (s2.trans s3))⟩⟩
  ·cases e⟩
theorem mN{X:L2.Cx}{pos:Pos}{a:Expr}{c:aY}(ha:XT X a c):XT X (.UnaryOp .Not a pos) (fT c):=⟨have ha:=ha.out;lu (L2.KD ha) λσ H Q=>by
  rintro⟨ρ,F,t,hr,e,q⟩
  obtain⟨b,eb,e⟩:=ao.mp e;cases e;exact⟨ρ,F,b,hr,eb,λH1 s1=>q H1 s1⟩⟩
abbrev JW(X:Cx)(e:Expr)(c:aY):Prop:=PW X e (t7 (aD X) c)
structure XW(X:Cx)(e:Expr)(f:aY):Prop where
 out:JW X e f
theorem xt{X:L2.Cx}{pos:Pos}{a:Expr}{c:aY}(ha:XT X a c):XW X (.BoolOp .And [a] pos) c:=⟨have ha:=ha.out;L2.Kk ha⟩
theorem uZ{X:L2.Cx}{pos:Pos}{a:Expr}{c:aY}(ha:XT X a c):XW X (.BoolOp .Or [a] pos) c:=⟨have ha:=ha.out;L2.Ff ha⟩
theorem yv{X:L2.Cx}{pos:Pos}{a b:Expr}{rest:Y4}{c c':aY}(ha:XT X a c)(hb:XW X (.BoolOp .And (b::rest) pos) c'):XW X (.BoolOp .And (a::b::rest) pos) (il c c'):=⟨have ha:=ha.out;have hb:=hb.out;AQ (L2.ES ha hb) λσ H Q=>by
  rintro⟨ρ,F,t,hr,e,q⟩
  obtain⟨b,eb,e⟩:=ao.mp e;refine⟨ρ,F,b,hr,eb,λH1 s1=>?_⟩;split at e
  ·rename_i h;rw[u9 h];exact⟨ρ,F,t,hr.same s1,e,λH2 s2=>q H2 (s1.trans s2)⟩
  ·rename_i h;rw[Da h];cases e;exact q H1 s1⟩
theorem va{X:L2.Cx}{pos:Pos}{a b:Expr}{rest:Y4}{c c':aY}(ha:XT X a c)(hb:XW X (.BoolOp .Or (b::rest) pos) c'):XW X (.BoolOp .Or (a::b::rest) pos) (f6 c c'):=⟨have ha:=ha.out;have hb:=hb.out;AQ (L2.Hi ha hb) λσ H Q=>by
  rintro⟨ρ,F,t,hr,e,q⟩
  obtain⟨b,eb,e⟩:=ao.mp e;refine⟨ρ,F,b,hr,eb,λH1 s1=>?_⟩;split at e
  ·rename_i h;rw[u9 h];cases e;exact q H1 s1
  ·rename_i h;rw[Da h];exact⟨ρ,F,t,hr.same s1,e,λH2 s2=>q H2 (s1.trans s2)⟩⟩
theorem nP{X:L2.Cx}{e:Expr}{c:aY}(h:XW X e c):XT X e c:=⟨have h:=h.out;L2.PW.pt h⟩
theorem Fx{X:L2.Cx}{pos:Pos}{c a b:Expr}{fc:aY}{fa fb:Ex}(hc:XT X c fc)(ha:XE X a fa)(hb:XE X b fb):XE X (.IfExp c a b pos) (yt fc fa fb):=⟨have hc:=hc.out;have ha:=ha.out;have hb:=hb.out;bo (L2.HQ hc ha hb) λσ H Q=>by
  rintro⟨ρ,F,d,hr,e,q⟩
  obtain⟨t,et,e⟩:=ao.mp e;refine⟨ρ,F,t,hr,et,λH1 s1=>?_⟩;split at e
  ·rename_i h;rw[u9 h];exact⟨ρ,F,d,hr.same s1,e,λv H2 s2 rv=>q v H2 (s1.trans s2) rv⟩
  ·rename_i h;rw[Da h];exact⟨ρ,F,d,hr.same s1,e,λv H2 s2 rv=>q v H2 (s1.trans s2) rv⟩⟩
theorem gh:JA X [] (eList []):=qU L2.jJ λσ H Q ⟨ρ,F,ds,hr,e,q⟩=>by cases e;exact q [] H (ah.refl H) ae.nil
theorem eO{e:Expr}{es:Y4}{f:Ex}{fs:List Ex}(ha:JE X e f)(hr:JA X es (eList fs))(hs:starEach (e::es) X.env=(false,eval e X.env)::starEach es X.env:=by rfl):JA X (e::es) (eList (f::fs)):=
 qU (L2.gj ha hr hs) λσ H Q=>by
  rintro⟨ρ,F,ds,hr,e,q⟩
  obtain⟨a,ea,e⟩:=ao.mp e;obtain⟨as,R7,e⟩:=ao.mp e;cases e;exact⟨ρ,F,a,hr,ea,λx H1 s1 rx=>⟨ρ,F,as,hr.same s1,R7,λxs H2 s2 rs=>q _ H2 (s1.trans s2) (ae.cons (rx.mv (.same s2)) rs)⟩⟩
theorem hX:∀ {fs:List Ex} {ρ:En} {ds:List D},eList fs ρ=.ok ds->ds.length=fs.length
 |[],_,_,h=>by cases h;rfl
 | f::fs,_,_,h=>by
  obtain⟨a,_,h⟩:=ao.mp h;obtain⟨as,h2,h⟩:=ao.mp h;cases h;simp[hX h2]
theorem gW{X:L2.Cx}{pos:Pos}{es:Y4}{fs:List Ex}{k:Nat}(h:XA X es (eList fs))(hl:fs.length<=1000:=by decide):XE X (.Tuple es k pos) (cE fs):=⟨have h:=h.out;bo (L2.vw h) λσ H Q=>by
  rintro⟨ρ,F,d,hr,e,q⟩
  obtain⟨as,ea,e⟩:=ao.mp e;cases e;refine⟨ρ,F,as,hr,ea,λxs H1 s1 rs=>⟨?_,λp hp=>q _ _ (s1.trans (ah.bZ hp _)) (nv (hr.same s1).aU hp rs)⟩⟩;rw[<-rs.length,hX ea];exact PK hl (by decide)⟩
theorem kg{X:L2.Cx}{pos:Pos}{es:Y4}{fs:List Ex}(h:XA X es (eList fs))(hl:fs.length<=1000:=by decide):XE X (.List es pos) (cC fs):=⟨have h:=h.out;bo (L2.so h) λσ H Q=>by
  rintro⟨ρ,F,d,hr,e,q⟩
  obtain⟨as,ea,e⟩:=ao.mp e;cases e;refine⟨ρ,F,as,hr,ea,λxs H1 s1 rs=>⟨?_,λp hp=>q _ _ (s1.trans (ah.bZ hp _)) (oP (hr.same s1).aU hp rs)⟩⟩;rw[<-rs.length,hX ea];exact PK hl (by decide)⟩
theorem vG{pins:List (Addr×Obj)}{s:Shared}{p:Addr}{kvs:List (Key×V)}(I:Inv X pins σ H s)(e:H p=some (.dK kvs)):∃ob,Inv X pins σ (upd H p (.frz ob (.dK kvs))) s:=by
 obtain⟨z,y,vs,r,ob,es,ep,eo,c⟩:=I.aK p _ e;exact⟨ob,I.write (h':=s.heap) (t':=s.toks) (by rw[e];trivial) (.inl rfl) (λ_ _ _ q=>q) ⟨ob,eo⟩ ⟨eo,z,y,vs,r,ob,es,ep,eo,c⟩⟩
theorem sf{e:Expr}{t t':TE}(h:PE X e t')(hi:∀σ H Q,t σ H Q->t' σ H λv H'=>∃p kvs,v=.ref p/\H' p=some (.dK kvs)/\∀ob,Q v (upd H' p (.frz ob (.dK kvs)))):PE X e t:=by
 intro pins s σ H Q I q;refine L2.aL (h pins s σ H _ I (hi σ H Q q)) λu s1 ⟨x,H1,I1,rx,p,kvs,ex,e1,q1⟩=>?_;obtain⟨ob,I2⟩:=vG I1 e1;exact⟨x,_,I2,rx,q1 ob⟩
theorem p6{X:L2.Cx}{pos:Pos}:XE X (.Dict [] [] pos) (dj [] []):=⟨ sf L2.z7 λσ H Q=>by
  rintro⟨ρ,F,d,hr,e,q⟩
  cases e;intro p hp;refine⟨p,[],rfl,L2.aV,λob=>?_⟩;rw[L2.oX];refine q _ _ (ah.bZ hp _) ?_;simp only[Rep];exact⟨p,[],rfl,.inl ⟨lr hr.aU hp,ob,L2.aV⟩,rfl,ae.nil⟩⟩
theorem Al{α β:Type}{xs:List α}{ys:List β}{i:Int}{x:α}(hl:xs.length=ys.length)(h:cM xs i=some x):∃j y,cI ys.length i=some j/\xs[j]? =some x/\ys[j]? =some y/\cM ys i=some y:=by
 unfold cM at h ⊢;rw[hl]at h;cases e:cI ys.length i with
 |none=>rw[e]at h;cases h
 | some j=>
  rw[e]at h;have hx:xs[j]? =some x:=h;obtain⟨hj,_⟩:=mO.mp hx;have hy:j<ys.length:=by omega
  exact⟨j,ys[j],rfl,hx,KF hy,by simp[hy]⟩
theorem vE:cH M nW (L2.rL M.K):=by
 intro F H x y a b d Q tr ra rb e q;unfold nW at e;split at e
 ·split at e
  ·rename_i xs i _ v hv
   cases e;simp only[Rep]at ra;obtain⟨p,ys,rfl,h,rs⟩:=ra;obtain⟨j,y,_,h1,h2,h3⟩:=Al rs.length hv;obtain⟨z,hz,rz⟩:=rs.get h1;rw[h2]at hz;cases hz;exact .inl ⟨p,ys,_,y,rfl,bC rb,h.sq,h3,q _ _ (ah.refl _) rz⟩
  ·cases e
 ·split at e
  ·rename_i xs i _ v hv
   cases e;simp only[Rep]at ra;obtain⟨p,ys,rfl,h,rs⟩:=ra;obtain⟨j,y,_,h1,h2,h3⟩:=Al rs.length hv;obtain⟨z,hz,rz⟩:=rs.get h1;rw[h2]at hz;cases hz;exact .inr (.inl ⟨p,ys,_,y,rfl,bC rb,h.sq,h3,q _ _ (ah.refl _) rz⟩)
  ·cases e
 ·split at e
  ·split at e
   ·rename_i hz _ c hc
    cases e;exact .inr (.inr ⟨_,_,c,fM ra,bC rb,hz,hc,q _ _ (ah.refl _) lJ⟩)
   ·cases e
  ·cases e
 ·cases e
theorem sZ{g:List D->R D}{r:List V->Hp->VK->Prop}(hg:gX M g r){fs:List Ex}{Q:VK}(h:tP M (aG g fs) σ H Q):L2.vH r (mI M (eList fs)) σ H Q:=by
 obtain⟨ρ,F,d,hr,e,q⟩:=h;obtain⟨as,ea,e⟩:=ao.mp e;exact⟨ρ,F,as,hr,ea,λxs H1 s1 rs=>hg F H1 xs as d Q (hr.same s1).aU rs e λv H2 s2 rv=>q v H2 (s1.trans s2) rv⟩
@[simp] noncomputable def g1(g:D->R D):List D->R D
 |[a]=>g a
 |_=>.bad
@[simp] noncomputable def g2(g:D->D->R D):List D->R D
 |[a,b]=>g a b
 |_=>.bad
theorem BA(g:D->R D)(f:Ex):e1 g f=aG (g1 g) [f]:=by
 funext ρ;show(f ρ).bind g=((f ρ).bind λx=>R.bind (R.ok []) λxs=>R.ok (x::xs)).bind (g1 g);cases f ρ<;>rfl
theorem JJ(g:D->D->R D)(f f':Ex):e2 g f f'=aG (g2 g) [f,f']:=by
 funext ρ;show(f ρ).bind _=((f ρ).bind λx=>((f' ρ).bind λy=>R.bind (R.ok []) λys=>R.ok (y::ys)).bind λxs=>R.ok (x::xs)).bind (g2 g);cases f ρ with
 |ok a=>cases f' ρ<;>rfl
 |_=>rfl
theorem ae.one{d:D}{xs:List V}(r:ae M H F [d] xs):∃x,xs=[x]/\Rep M H F d x:=by
 simp only[ae]at r;obtain⟨x,t,rfl,h,rfl⟩:=r;exact⟨x,rfl,h⟩
theorem ae.two{d e:D}{xs:List V}(r:ae M H F [d,e] xs):∃x y,xs=[x,y]/\Rep M H F d x/\Rep M H F e y:=by
 simp only[ae]at r;obtain⟨x,t,rfl,h,y,u,rfl,h2,rfl⟩:=r;exact⟨x,y,rfl,h,h2⟩
theorem fh{X:L2.Cx}{pos:Pos}{g:D->R D}{r:List V->Hp->VK->Prop}{x:Str}{id:String}{a:Expr}{fa:Ex}{p:Pos}(hc:bM X (.builtin id) r)(hg:gX (aD X) (g1 g) r)(hm:X.mg x=none)(hv:bootBuiltins x=some (.builtin id))(ha:XE X a fa)(Px:L2.Gl X x:=by rfl)(hs:starEach [a] X.env=(false,eval a X.env)::starEach [] X.env:=by exact bw (by rfl))(hn:x≠"__name__":=by decide)(MD:gV x:=by decide):XE X (.Call (.Name x p) [a] [] pos) (e1 g fa):=⟨have ha:=ha.out;by
 rw[BA];exact bo (L2.qW hc Px hm hv (eO ha gh hs) hn MD hs) λσ H Q h=>sZ hg h⟩
theorem CO{X:L2.Cx}{pos:Pos}{g:D->D->R D}{r:List V->Hp->VK->Prop}{x:Str}{id:String}{a b:Expr}{fa fb:Ex}{p:Pos}(hc:bM X (.builtin id) r)(hg:gX (aD X) (g2 g) r)(hm:X.mg x=none)(hv:bootBuiltins x=some (.builtin id))(ha:XE X a fa)(hb:XE X b fb)(Px:L2.Gl X x:=by rfl)(hs:starEach [a,b] X.env=(false,eval a X.env)::starEach [b] X.env:=by exact bw (by rfl))(Mu:starEach [b] X.env=(false,eval b X.env)::starEach [] X.env:=by exact bw (by rfl))(hn:x≠"__name__":=by decide)(MD:gV x:=by decide):XE X (.Call (.Name x p) [a,b] [] pos) (e2 g fa fb):=⟨have ha:=ha.out;have hb:=hb.out;by
 rw[JJ];exact bo (L2.qW hc Px hm hv (eO ha (eO hb gh Mu) hs) hn MD hs (by rw[Mu];rfl)) λσ H Q h=>sZ hg h⟩
theorem J9{X:L2.Cx}{pos:Pos}{g:D->R D}{r:List V->Hp->VK->Prop}{x:Str}{T:String}{a:Expr}{fa:Ex}{p:Pos}(hc:bM X (.type T) r)(hg:gX (aD X) (g1 g) r)(hm:X.mg x=none)(hv:bootBuiltins x=some (.type T))(ha:XE X a fa)(Px:L2.Gl X x:=by rfl)(hs:starEach [a] X.env=(false,eval a X.env)::starEach [] X.env:=by exact bw (by rfl))(hn:x≠"__name__":=by decide)(MD:gV x:=by decide):XE X (.Call (.Name x p) [a] [] pos) (e1 g fa):=⟨have ha:=ha.out;by
 rw[BA];exact bo (L2.lK hc Px hm hv (eO ha gh hs) hn MD hs) λσ H Q h=>sZ hg h⟩
def sr(M:Md):List V->Hp->VK->Prop:=λxs H Q=>(∃p ys,xs=[.ref p]/\(bt M.K H p ys\/bH M.K H p ys)/\Q (.int ys.length) H)\/(∃z,xs=[.str z]/\z.length<=sizeLine/\Q (.int z.length) H)
theorem lO:bM X (.builtin "len") (sr (aD X)):=L2.bM.or L2.FY L2.Ew
theorem mr:gX M (g1 iH) (sr M):=by
 intro F H xs as d Q tr rs e q;unfold g1 at e;split at e
 ·obtain⟨x,rfl,r⟩:=rs.one
  unfold iH at e;split at e
  ·cases e
   simp only[Rep]at r;obtain⟨p,ys,rfl,h,rs⟩:=r;exact .inl ⟨p,ys,rfl,.inl h.sq,q _ _ (ah.refl _) (by rw[<-rs.length];exact d8)⟩
  ·cases e
   simp only[Rep]at r;obtain⟨p,ys,rfl,h,rs⟩:=r;exact .inl ⟨p,ys,rfl,.inr h.sq,q _ _ (ah.refl _) (by rw[<-rs.length];exact d8)⟩
  ·split at e
   ·cases e
    exact .inr ⟨_,by rw[fM r],by assumption,q _ _ (ah.refl _) d8⟩
   ·cases e
  ·cases e
 ·cases e
theorem FE:gX M (g1 tY) (λxs H Q=>∃p ys,xs=[.ref p]/\((bt M.K H p ys/\∀l,H l=none->Q (.ref l) (upd H l (.tup ys)))\/(bH M.K H p ys/\Q (.ref p) H))):=by
 intro F H xs as d Q tr rs e q;unfold g1 at e;split at e
 ·obtain⟨x,rfl,r⟩:=rs.one
  unfold tY at e;split at e
  ·cases e
   simp only[Rep]at r;obtain⟨p,ys,rfl,h,rs⟩:=r;exact⟨p,ys,rfl,.inl ⟨h.sq,λl hl=>q _ _ (ah.bZ hl _) (nv tr hl rs)⟩⟩
  ·cases e
   have r':=r;simp only[Rep]at r;obtain⟨p,ys,rfl,h,rs⟩:=r;exact⟨p,ys,rfl,.inr ⟨h.sq,q _ _ (ah.refl _) r'⟩⟩
  ·cases e
 ·cases e
theorem D6:gX M (g2 pE) (λxs H Q=>∃i j,xs=[.int i,.int j]/\Q (.int (if j<i then j else i)) H):=by
 intro F H xs as d Q tr rs e q;unfold g2 at e;split at e
 ·obtain⟨x,y,rfl,r,r2⟩:=rs.two
  unfold pE at e;split at e
  ·cases e;exact⟨_,_,by rw[bC r,bC r2],q _ _ (ah.refl _) d8⟩
  ·cases e
 ·cases e
end
section
variable{X:Cx}{M:Md}{H H':Hp}{F:Y8}{σ:L2.St}{ρ:En}{pos:Pos}{pins:List (Addr×Obj)}{s:Shared}
mutual
noncomputable def pyd:D->PyData
 |.aj=>.none
 |.bl b=>.bool b
 |.int i=>.int i
 |.str x=>.str x
 |.tup xs=>.tuple (fH xs)
 |.lst xs=>.list (fH xs)
 |.ai _ _=>.dict []
 |.cj _ _ _=>.dict []
noncomputable def fH:List D->List PyData
 |[]=>[]
 |x::xs=>pyd x::fH xs
end
mutual
theorem k9:∀(a b:D),lay a=true->lay b=true->PyData.eqv (pyd a) (pyd b)=br a b
 |.aj,b,_,hb=>by cases b<;>first|rfl|(simp[lay]at hb)
 |.bl _,b,_,hb=>by cases b<;>first|rfl|(simp[lay]at hb)
 |.int _,b,_,hb=>by cases b<;>first|rfl|(simp[lay]at hb)
 | .str x,b,_,hb=>by
  cases b with
  |str y=>show(x==y)=decide (x=y);rw[Wk,WZ,FM]
  |_=>first|rfl|(simp[lay]at hb)
 | .tup xs,b,ha,hb=>by
  cases b with
  |tup ys=>simp only[lay]at ha hb;exact sQ xs ys ha hb
  |_=>first|rfl|(simp[lay]at hb)
 | .lst xs,b,ha,hb=>by
  cases b with
  |lst ys=>simp only[lay]at ha hb;exact sQ xs ys ha hb
  |_=>first|rfl|(simp[lay]at hb)
 |.ai _ _,_,ha,_=>by simp[lay]at ha
 |.cj _ _ _,_,ha,_=>by simp[lay]at ha
theorem sQ:∀(a b:List D),dW a=true->dW b=true->PyData.eqvAll (fH a) (fH b)=kW a b
 |[],[],_,_=>rfl
 |[],_::_,_,_=>rfl
 |_::_,[],_,_=>rfl
 | x::xs,y::ys,ha,hb=>by
  simp only[dW,sa]at ha hb;show(PyData.eqv (pyd x) (pyd y)&&PyData.eqvAll (fH xs) (fH ys))=(br x y&&kW xs ys);rw[k9 x y ha.1 hb.1,sQ xs ys ha.2 hb.2]
end
mutual
theorem ji:∀a:D,lay a=true->(pyd a).canLay0=true
 |.aj,_=>rfl
 |.bl _,_=>rfl
 |.int _,_=>rfl
 |.str x,h=>by simp only[lay]at h;exact h
 |.tup xs,h=>by simp only[lay]at h;exact v7 xs h
 |.lst xs,h=>by simp only[lay]at h;exact v7 xs h
 |.ai _ _,h=>by simp[lay]at h
 |.cj _ _ _,h=>by simp[lay]at h
theorem v7:∀a:List D,dW a=true->PyData.canLayAll0 (fH a)=true
 |[],_=>rfl
 | x::xs,h=>by
  simp only[dW,sa]at h;show((pyd x).canLay0&&PyData.canLayAll0 (fH xs))=true;rw[ji x h.1,v7 xs h.2];rfl
end
mutual
theorem ko:∀a:D,lay a=true->(pyd a).depth=dep a
 |.aj,_=>rfl
 |.bl _,_=>rfl
 |.int _,_=>rfl
 |.str _,_=>rfl
 |.tup xs,h=>by simp only[lay]at h;show PyData.depthAll (fH xs)+1=_;rw[tL xs h];simp only[dep]
 |.lst xs,h=>by simp only[lay]at h;show PyData.depthAll (fH xs)+1=_;rw[tL xs h];simp only[dep]
 |.ai _ _,h=>by simp[lay]at h
 |.cj _ _ _,h=>by simp[lay]at h
theorem tL:∀a:List D,dW a=true->PyData.depthAll (fH a)=nz a
 |[],_=>rfl
 | x::xs,h=>by
  simp only[dW,sa]at h;show max (pyd x).depth (PyData.depthAll (fH xs))=_;rw[ko x h.1,tL xs h.2];simp only[nz]
end
mutual
theorem kl(I:Inv X pins σ H s):∀ {a:D} {x:V} {u:Value},lay a=true->Rep (aD X) H F a x->RelV x u->∃as,Reads s.heap u (pyd a) as
 |.aj,_,_,_,r,rx=>by cases sd r;cases rx;exact⟨_,.none⟩
 |.bl b,_,_,_,r,rx=>by cases gi r;cases rx;exact⟨_,.bool b⟩
 |.int i,_,_,_,r,rx=>by cases bC r;obtain⟨t,rfl⟩:=rx;exact⟨_,.int i t⟩
 |.str z,_,_,_,r,rx=>by cases fM r;obtain⟨t,rfl⟩:=rx;exact⟨_,.str z t⟩
 | .tup ds,_,_,h,r,rx=>by
  simp only[lay]at h;simp only[Rep]at r;obtain⟨p,xs,rfl,t,rs⟩:=r;cases rx;obtain⟨af,rv,⟨o,e,c,n,d⟩,_⟩:=lD I t;obtain⟨as,ra⟩:=v8 I h rs rv;exact⟨_,.tuple e c d (by simpa using ra)⟩
 | .lst ds,_,_,h,r,rx=>by
  simp only[lay]at h;simp only[Rep]at r;obtain⟨p,xs,rfl,t,rs⟩:=r;cases rx;obtain⟨af,n,sl,rv,e,_⟩:=iJ I t;obtain⟨as,ra⟩:=v8 I h rs rv;exact⟨_,.list e rfl rfl (by simpa using ra)⟩
 |.ai _ _,_,_,h,_,_=>by simp[lay]at h
 |.cj _ _ _,_,_,h,_,_=>by simp[lay]at h
theorem v8(I:Inv X pins σ H s):∀ {as:List D} {xs:List V} {us:Y5},dW as=true->ae (aD X) H F as xs->Vals xs us->∃bs,ReadsAll s.heap us (fH as) bs
 |[],_,_,_,r,rv=>by simp only[ae]at r;subst r;cases rv;exact⟨_,.nil⟩
 | a::as,_,_,h,r,rv=>by
  simp only[dW,sa]at h;simp only[ae]at r;obtain⟨x,t,rfl,r1,r2⟩:=r;cases rv with
  | cons q w=>
   obtain⟨bs,h1⟩:=kl I h.1 r1 q;obtain⟨cs,h2⟩:=v8 I h.2 r2 w;exact⟨_,.cons h1 h2⟩
end
theorem GL(l:Addr)(es:Array DictEntry)(n:Nat)(dd:Y7)(sl:Array (Y6))(b:Str)(u:Tok):
  Meets (Builtin.«dict.__eq__» ⟨[.ref l,.str b u],[]⟩) (λ_ R s=>s.heap.get? l=some {cls:=.type "dict",dict:=dd,data:=.dict es n,slots:=sl}/\R (.ok (.ret .notImplemented)) s):=
 .of_wp λprog w A R s h=>by obtain⟨hp,g,d,tk,os⟩:=s;obtain⟨hl,h⟩:=h;have f1:=F.sub_str_dict;wp_walk;exact⟨_,rfl,h⟩
theorem FC(b:Str)(u:Tok)(l:Addr)(es:Array DictEntry)(n:Nat)(dd:Y7)(sl:Array (Y6)):
  Meets (Builtin.«str.__eq__» ⟨[.str b u,.ref l],[]⟩) (λ_ R s=>s.heap.get? l=some {cls:=.type "dict",dict:=dd,data:=.dict es n,slots:=sl}/\R (.ok (.ret .notImplemented)) s):=
 .of_wp λprog w A R s h=>by obtain⟨hp,g,d,tk,os⟩:=s;obtain⟨hl,h⟩:=h;wp_walk using Xh hl,wpAny_load hl;exact⟨_,rfl,h⟩
theorem Ht{A:Around}{l:Addr}{o:Obj}{es:Array DictEntry}{n:Nat}(b:Str)(u:Tok)(ho:s.heap.get? l=some o)(hc:o.cls=.type "dict")(hd:o.data=.dict es n)(hu:A.units<cLine):SeqAt.RcAt A s (.ref l) (.str b u) false:=λprog w E Q h=>by
 obtain⟨cls,dd,data,sl⟩:=o;simp only at hc hd;subst hc hd
 exact SeqAt.rc_eq_decline_or (k:=false) ⟨_,ho,rfl⟩ (Yt s b u) (by decide) F.sub_str_dict F.slot_dict_eq F.slot_str_eq_refl
  (λ_ hq=>XM F.slot_dict_eq ⟨_,ho,rfl⟩ F.entry_dict_eq (F.args_dict_eq_2 _ _) (GL l es n dd sl b u) ⟨ho,hq⟩)
  (λ_ hq=>XM F.slot_str_eq_refl (Yt s b u) F.entry_str_eq (F.args_str_eq_2 _ _) (FC b u l es n dd sl) ⟨ho,hq⟩)
  (λ_ hq=>wpAny_of_eq (rfl:isSame (.ref l) (.str b u)=pure false) hq) (.inr hu) h
theorem i9{a:Addr}{kvs:List (Key×V)}(I:Inv X pins σ H s)(h:eN (aD X) H F a kvs):kvs.length<=sizeLine/\(a==sysModules)=false/\∃vs,L2.KV kvs vs/\s.heap.DictOf (L2.bz X.prog X.w) a vs:=by
 rcases h with⟨_,ob,h⟩|⟨o,es,ep,vs,h1,h2,h3,h4,h5,h6,h7,h8,h9⟩
 ·exact L2.pD I.aK (.inr ⟨ob,h⟩)
 ·exact⟨h8,h9,vs,h7,o,es,ep,I.c7 a o h1,h2,h3,h4,h5,h6⟩
def zl(M:Md):R2:=λx y H Q=>∃F a b,Rep M H F a x/\Rep M H F b y/\dA a b=true/\Q (.bl (br a b)) H
def wX(M:Md):R2:=λx y H Q=>∃F a b,Rep M H F a x/\Rep M H F b y/\dG a b=true/\Q (.bl (!br a b)) H
theorem str_beq(a b:Str):(a==b)=decide (a=b):=by rw[Wk,WZ,FM]
theorem CH{A:Around}{a b:D}{x y:V}{u v:Value}(fa:flat a=true)(fb:flat b=true)(ra:Rep M H F a x)(rb:Rep M H F b y)(rx:RelV x u)(ry:RelV y v):SeqAt.RcAt A s u v (br a b):=by
 cases a<;>(try cases fa)<;>cases b<;>(try cases fb)<;>simp only[Rep]at ra rb<;>subst ra<;>subst rb
 ·cases rx;cases ry;exact SeqAt.RcAt.none_none
 ·cases rx;cases ry;exact SeqAt.RcAt.none_bool _
 ·cases rx;obtain⟨t,rfl⟩:=ry;exact SeqAt.RcAt.none_int _ _
 ·cases rx;obtain⟨t,rfl⟩:=ry;exact SeqAt.RcAt.none_str _ _
 ·cases rx;cases ry;exact SeqAt.RcAt.bool_none _
 ·cases rx;cases ry;exact SeqAt.RcAt.bool_bool _ _
 ·cases rx;obtain⟨t,rfl⟩:=ry;exact SeqAt.RcAt.bool_int _ _ _
 ·cases rx;obtain⟨t,rfl⟩:=ry;exact SeqAt.RcAt.bool_str _ _ _
 ·obtain⟨t,rfl⟩:=rx;cases ry;exact SeqAt.RcAt.int_none _ _
 ·obtain⟨t,rfl⟩:=rx;cases ry;exact SeqAt.RcAt.int_bool _ _ _
 ·obtain⟨t,rfl⟩:=rx;obtain⟨t,rfl⟩:=ry;exact SeqAt.RcAt.int_int _ _ _ _
 ·obtain⟨t,rfl⟩:=rx;obtain⟨t,rfl⟩:=ry;exact SeqAt.RcAt.int_str _ _ _ _
 ·obtain⟨t,rfl⟩:=rx;cases ry;exact SeqAt.RcAt.str_none _ _
 ·obtain⟨t,rfl⟩:=rx;cases ry;exact SeqAt.RcAt.str_bool _ _ _
 ·obtain⟨t,rfl⟩:=rx;obtain⟨t,rfl⟩:=ry;exact SeqAt.RcAt.str_int _ _ _ _
 ·obtain⟨t,rfl⟩:=rx;obtain⟨t,rfl⟩:=ry;simp only[br];rw[<-str_beq];exact SeqAt.RcAt.str_str _ _ _ _
theorem EM{A:Around}{a b:D}{x y:V}{u v:Value}(fa:flat a=true)(fb:flat b=true)(ra:Rep M H F a x)(rb:Rep M H F b y)(rx:RelV x u)(ry:RelV y v):SeqAt.RcNeAt A s u v (!br a b):=by
 cases a<;>(try cases fa)<;>cases b<;>(try cases fb)<;>simp only[Rep]at ra rb<;>subst ra<;>subst rb
 ·cases rx;cases ry;exact SeqAt.RcNeAt.none_none
 ·cases rx;cases ry;exact SeqAt.RcNeAt.none_bool _
 ·cases rx;obtain⟨t,rfl⟩:=ry;exact SeqAt.RcNeAt.none_int _ _
 ·cases rx;obtain⟨t,rfl⟩:=ry;exact SeqAt.RcNeAt.none_str _ _
 ·cases rx;cases ry;exact SeqAt.RcNeAt.bool_none _
 ·cases rx;cases ry;exact SeqAt.RcNeAt.bool_bool _ _
 ·cases rx;obtain⟨t,rfl⟩:=ry;exact SeqAt.RcNeAt.bool_int _ _ _
 ·cases rx;obtain⟨t,rfl⟩:=ry;exact SeqAt.RcNeAt.bool_str _ _ _
 ·obtain⟨t,rfl⟩:=rx;cases ry;exact SeqAt.RcNeAt.int_none _ _
 ·obtain⟨t,rfl⟩:=rx;cases ry;exact SeqAt.RcNeAt.int_bool _ _ _
 ·obtain⟨t,rfl⟩:=rx;obtain⟨t,rfl⟩:=ry;exact SeqAt.RcNeAt.int_int _ _ _ _
 ·obtain⟨t,rfl⟩:=rx;obtain⟨t,rfl⟩:=ry;exact SeqAt.RcNeAt.int_str _ _ _ _
 ·obtain⟨t,rfl⟩:=rx;cases ry;exact SeqAt.RcNeAt.str_none _ _
 ·obtain⟨t,rfl⟩:=rx;cases ry;exact SeqAt.RcNeAt.str_bool _ _ _
 ·obtain⟨t,rfl⟩:=rx;obtain⟨t,rfl⟩:=ry;exact SeqAt.RcNeAt.str_int _ _ _ _
 ·obtain⟨t,rfl⟩:=rx;obtain⟨t,rfl⟩:=ry;simp only[br];rw[<-str_beq];exact SeqAt.RcNeAt.str_str _ _ _ _
theorem HZ(ds:List D):((List.range (min ds.length 0)).all (λ_=>true)&&(ds.length==0))=br (.tup ds) (.tup []):=by
 cases ds<;>simp
theorem yE{A:Around}{ds:List D}{x y:V}{u v:Value}(I:Inv X pins σ H s)(hu:A.units<cLine)(ra:Rep (aD X) H F (.tup ds) x)(rb:Rep (aD X) H F (.tup []) y)(rx:RelV x u)(ry:RelV y v):
  SeqAt.RcAt A s u v (br (.tup ds) (.tup []))/\SeqAt.RcNeAt A s u v (!br (.tup ds) (.tup [])):=by
 simp only[Rep]at ra rb;obtain⟨p,xs,rfl,h,rs⟩:=ra;obtain⟨p2,VE,rfl,h2,Ob⟩:=rb;cases rx;cases ry;simp only[ae]at Ob;subst Ob;obtain⟨af,rv,⟨o,e,c,n,d⟩,_⟩:=lD I h;obtain⟨ML,QS,⟨o2,e2,c2,n2,d2⟩,_⟩:=lD I h2;cases QS;have hl:af.toArray.size=ds.length:=by rw[Gc, <-rv.length, <-rs.length]
 have z1:=SeqAt.RcAt.tuples (A:=A) (s:=s) (e:=λ_=>true) (l:=p) (b:=p2) ⟨o,e,c,n,d⟩ ⟨o2,e2,c2,n2,d2⟩ hu (λj _ h2=>by simp at h2)
 have z2:=SeqAt.RcNeAt.tuples (A:=A) (s:=s) (e:=λ_=>true) (l:=p) (b:=p2) ⟨o,e,c,n,d⟩ ⟨o2,e2,c2,n2,d2⟩ hu (λj _ h2=>by simp at h2)
 rw[<-HZ];rw[hl]at z1 z2;exact⟨z1,z2⟩
theorem pd(hu:X.A.units+64<cLine):a7 X (compareOp .NotEq) (wX (aD X)):=by
 intro pins s σ H x y v u Q I rx ry h;obtain⟨F,a,b,ra,rb,ok,q⟩:=h;have fin:EP X pins σ Q (.bool (!br a b)) s:=⟨.bl _,H,I,rfl,q⟩;unfold dG at ok;rw[Wl,Wl,sa]at ok;rcases ok with(⟨fa,fb⟩|t)|l
 ·exact EM fa fb ra rb rx ry _ _ _ _ fin
 ·unfold uR at t
  split at t
  ·exact(yE I (by omega) ra rb rx ry).2 _ _ _ _ fin
  ·cases t
 ·rw[sa,sa,FM]at l
  obtain⟨⟨la,lb⟩,hd⟩:=l;obtain⟨as,h1⟩:=kl I la ra rx;obtain⟨bs,h2⟩:=kl I lb rb ry;refine SeqAt.compareNe_reads h1 h2 (ji a la) (ji b lb) (by rw[ko a la,ko b lb];omega) ?_
  rw[k9 a b la lb];exact fin
theorem cY(hu:X.A.units+64<cLine):a7 X (compareOp .Eq) (zl (aD X)):=by
 intro pins s σ H x y v u Q I rx ry h;obtain⟨F,a,b,ra,rb,ok,q⟩:=h;have fin:EP X pins σ Q (.bool (br a b)) s:=⟨.bl _,H,I,rfl,q⟩;unfold dA at ok;rw[Wl]at ok;rcases ok with ok|dc
 ·unfold dG at ok
  rw[Wl,Wl,sa]at ok;rcases ok with(⟨fa,fb⟩|t)|l
  ·exact CH fa fb ra rb rx ry _ _ _ _ fin
  ·unfold uR at t
   split at t
   ·exact(yE I (by omega) ra rb rx ry).1 _ _ _ _ fin
   ·cases t
  ·rw[sa,sa,FM]at l
   obtain⟨⟨la,lb⟩,hd⟩:=l;obtain⟨as,h1⟩:=kl I la ra rx;obtain⟨bs,h2⟩:=kl I lb rb ry;refine SeqAt.compareEq_reads h1 h2 (ji a la) (ji b lb) (by rw[ko a la,ko b lb];omega) ?_
   rw[k9 a b la lb];exact fin
 ·unfold BG at dc
  split at dc
  ·cases fM rb
   obtain⟨t,rfl⟩:=ry;simp only[Rep]at ra;obtain⟨p,xs,rfl,h,_⟩:=ra;cases rx;obtain⟨_,_,vs,_,o,es,ep,e1,e2,e3,_⟩:=i9 I h;exact Ht _ t e1 e2.1 e3 (by omega) _ _ _ _ fin
  ·cases dc
theorem cR:cH M oEq (zl M):=by
 intro F H x y a b d Q tr ra rb e q;unfold oEq at e;split at e
 ·cases e;exact⟨F,a,b,ra,rb,by assumption,q _ _ (ah.refl _) dD⟩
 ·cases e
theorem se:cH M c9 (wX M):=by
 intro F H x y a b d Q tr ra rb e q;unfold c9 at e;split at e
 ·cases e;exact⟨F,a,b,ra,rb,by assumption,q _ _ (ah.refl _) dD⟩
 ·cases e
theorem eA:gw oEq:=λa b d h=>by unfold oEq at h;split at h<;>cases h;exact⟨_,rfl⟩
theorem p9:gw c9:=λa b d h=>by unfold c9 at h;split at h<;>cases h;exact⟨_,rfl⟩
theorem Hu:gw oLt:=λa b d h=>by unfold oLt at h;split at h<;>cases h;exact⟨_,rfl⟩
theorem sP:gw oLe:=λa b d h=>by unfold oLe at h;split at h<;>cases h;exact⟨_,rfl⟩
theorem wK:gw jQ:=λa b d h=>by unfold jQ at h;split at h<;>cases h;exact⟨_,rfl⟩
theorem GI:gw lz:=λa b d h=>by unfold lz at h;split at h<;>cases h;exact⟨_,rfl⟩
theorem zk:bootBuiltins "isinstance"=some (.builtin "isinstance"):=by decide+kernel
theorem i8:bootBuiltins "len"=some (.builtin "len"):=by decide+kernel
theorem JN:bootBuiltins "min"=some (.builtin "min"):=by decide+kernel
theorem y3:bootBuiltins "all"=some (.builtin "all"):=by decide+kernel
theorem Bw:bootBuiltins "bool"=some (.type "bool"):=by decide+kernel
theorem mz:bootBuiltins "list"=some (.type "list"):=by decide+kernel
theorem mq:bootBuiltins "tuple"=some (.type "tuple"):=by decide+kernel
theorem lI:bootBuiltins "dict"=some (.type "dict"):=by decide+kernel
noncomputable def ll:Ty->String
 |.int=>"int"|.bool=>"bool"|.str=>"str"|.tuple=>"tuple"|.list=>"list"|.dict=>"dict"
theorem jX{a b:Bool}(h:R.ok (D.bl a)=R.ok (D.bl b)):some a=some b:=by cases h;rfl
theorem G0:bM X (.builtin "isinstance") (λxs H Q=>∃F d x b ty,xs=[x,.ty (ll ty)]/\Rep (aD X) H F d x/\bX ty d=.ok (.bl b)/\(∀c ns vs,d≠.cj c ns vs)/\Q (.bl b) H):=by
 intro pins s σ H xs us Q I r h;obtain⟨F,d,x,b,ty,rfl,rd,e,ne,q⟩:=h;obtain⟨u,w,rfl,ru,L0⟩:=L2.vals2 r;cases (show w=Value.type (ll ty)from L0)
 have fin:∀tk,EP X pins σ Q (.bool b) {s with toks:=tk}:=λtk=>⟨.bl _,H,I.tok tk,rfl,q⟩;have go:∀ {u t:Value} {hp:Heap->Prop},PySem.W.KitX X.K u t hp->hp s.heap->PySem.W.kitOne X.K t (.type (ll ty))=some b->u≠.builtin "__main__.__loader__#opaque"->wpAny (model X.prog X.w) X.A (call (.builtin "isinstance") [u,.type (ll ty)]) (EP X pins σ Q) X.xe s:=λk a z n=>PySem.W.kia_one k I.c7 a z n fin;cases d with
 |aj=>cases sd rd;cases ru;exact go YC True.intro (by clear go fin;cases ty<;>exact jX e) (λz=>nomatch z)
 |bl y=>cases gi rd;cases ru;exact go YD True.intro (by clear go fin;cases ty<;>exact jX e) (λz=>nomatch z)
 |int i=>cases bC rd;obtain⟨t,rfl⟩:=ru;exact go YK True.intro (by clear go fin;cases ty<;>exact jX e) (λz=>nomatch z)
 |str z=>cases fM rd;obtain⟨t,rfl⟩:=ru;exact go YL True.intro (by clear go fin;cases ty<;>exact jX e) (λz=>nomatch z)
 | tup ds=>
  simp only[Rep]at rd;obtain⟨p,xs,rfl,h,_⟩:=rd;cases ru;obtain⟨af,_,⟨o,h1,h2,_⟩,_⟩:=lD I h;exact go Yz ⟨o,h1,h2⟩ (by clear go fin;cases ty<;>exact jX e) (λz=>nomatch z)
 | lst ds=>
  simp only[Rep]at rd;obtain⟨p,xs,rfl,h,_⟩:=rd;cases ru;obtain⟨af,n,sl,_,h1,_⟩:=iJ I h;exact go YE ⟨_,h1,rfl⟩ (by clear go fin;cases ty<;>exact jX e) (λz=>nomatch z)
 | ai ks ds=>
  simp only[Rep]at rd;obtain⟨p,xs,rfl,h,_⟩:=rd;cases ru;obtain⟨_,_,vs,_,o,es,ep,e1,e2,e3,_⟩:=i9 I h;exact go YF ⟨o,e1,e2.1⟩ (by clear go fin;cases ty<;>exact jX e) (λz=>nomatch z)
 |cj c ns vs=>exact absurd rfl (ne _ _ _)
theorem G6{ty:Ty}{d r:D}(h:bX ty d=.ok r):∃b,r=.bl b:=by
 unfold bX at h;split at h<;>cases h<;>exact⟨_,rfl⟩
theorem gM{X:L2.Cx}{pos:Pos}(ty:Ty){a:Expr}{fa:Ex}{p p2:Pos}{T:Str}(ha:XE X a fa)(hm:X.mg "isinstance"=none)(RT:X.mg T=none)(UH:bootBuiltins T=some (.type (ll ty)))(hg:L2.Gl X "isinstance":=by rfl)(RO:L2.Gl X T:=by rfl)(hs:starEach [a,.Name T p2] X.env=(false,eval a X.env)::starEach [.Name T p2] X.env:=by exact bw (by rfl))(Mu:starEach [.Name T p2] X.env=(false,eval (.Name T p2) X.env)::starEach [] X.env:=by exact bw (by rfl))(Vr:T≠"__name__":=by decide)(Vg:gV T:=by decide):XE X (.Call (.Name "isinstance" p) [a,.Name T p2] [] pos) (e1 (bX ty) fa):=⟨have ha:=ha.out;bo (L2.qW G0 hg hm zk (L2.gj ha (L2.gj (L2.vD (v:=.ty (ll ty)) RO RT UH rfl Vr Vg) L2.jJ Mu) hs) (by decide) (by decide) hs (by rw[Mu];rfl)) λσ H Q=>by
  rintro⟨ρ,F,d,hr,e,q⟩
  obtain⟨a,ea,e⟩:=ao.mp e;obtain⟨b,rfl⟩:=G6 e;refine⟨ρ,F,a,hr,ea,λx H1 s1 rx=>⟨F,a,x,b,ty,rfl,rx,e,?_,q _ _ s1 dD⟩⟩;intro c ns vs h;subst h;cases ty<;>cases e⟩
end
open L2 (PG di TG)
structure Gf where
 g:Hp
 f:Y8
 p:Bool->Option V
noncomputable instance:CoeFun Gf (λ_=>Y8):=⟨Gf.f⟩
def Pin(F0:Gf)(σ:L2.St)(ρ:En):Prop:=∀y:Bool×V,F0.p y.1=some y.2->∀t,ρ[y.1.toNat]? =some (.on (.tr t))->σ[y.1.toNat]? =some (some y.2)
theorem Pin.set{F0:Gf}{σ:L2.St}{ρ:En}{i:Nat}{s:Slot}{v:Option V}(h:Pin F0 σ ρ)(hs:∀t,s≠.on (.tr t)):Pin F0 (σ.set i v) (ρ.set i s):=λw hw t e=>by
 rcases get_set e with⟨_,x,_⟩|⟨C',e⟩
 ·exact absurd x (hs t)
 ·rw[bU C'];exact h w hw t e
theorem Pin.tD{F0:Gf}{σ:L2.St}{ρ:En}{i:Nat}{s:Slot}(h:Pin F0 σ ρ)(hs:∀t,s≠.on (.tr t)):Pin F0 σ (ρ.set i s):=λw hw t e=>by
 rcases get_set e with⟨_,x,_⟩|⟨C',e⟩
 ·exact absurd x (hs t)
 ·exact h w hw t e
structure aP(M:Md)(G:Hp)(F0:Gf)(H:Hp)(F:Y8)(σ:L2.St)(ρ:En):Prop where
 rs:a8 M H F σ ρ
 sm:ah G H
 sub:∀a,F0 a->F a
 dR:∀a,F0 a->∃o,G a=some o
 own:∀(i:Nat) a,bu ρ i->σ[i]? =some (some (.ref a))->G a=none
 dZ:∀(i:Nat) Lw b,ρ[i]? =some (.on Lw)->cb M H F σ ρ i b->G b=none
 pin:Pin F0 σ ρ
def oa(M:Md)(G:Hp)(F0:Gf)(H:Hp)(F:Y8)(D:Ends):Fl->Prop
 |.next ρ'=>∀Ll H' F',Mv F H F' H'->aP M G F0 H' F' Ll ρ'->D.nx Ll H'
 |.brk ρ'=>∀Ll H' F',Mv F H F' H'->aP M G F0 H' F' Ll ρ'->D.bk Ll H'
 |.cont ρ'=>∀Ll H' F',Mv F H F' H'->aP M G F0 H' F' Ll ρ'->D.ct Ll H'
 |.ret d=>∀v H' F',Mv F H F' H'->ah G H'->(∀a,F0 a->F' a)->Rep M H' F' d v->D.rt v H'
 |.fj d=>∀p H' F' xs ds,d=.lst ds->Mv F H F' H'->ah G H'->(∀a,F0 a->F' a)->H' p=none->ae M H' F' ds xs->D.rt (.ref p) (upd H' p (.lst xs))
 |.dB t=>∀v H' F1 F2 as,Mv F H F1 H'->ah G H'->(∀a,F0 a->F1 a)->(∀b∈as,G b=none)->as.Nodup->(∀b,F2 b↔F1 b\/b∈as)->az M H' F2 t v as->D.rt v H'
 |.gZ i ρ'=>∀Ll H' F' v,Mv F H F' H'->aP M G F0 H' F' Ll ρ'->Ll[i]? =some (some v)->D.rt v H'
 |.dJ d ρ'=>∀Ll H' F' v,Mv F H F' H'->aP M G F0 H' F' Ll ρ'->Rep M H' F' d v->D.rt v H'
inductive c8(M:Md)(G:Hp)(F0:Gf)(f:Sm)(D:Ends)(σ:L2.St)(H:Hp):Prop
 |mk:∀ρ F fl,aP M G F0 H F σ ρ->f ρ=.ok fl->oa M G F0 H F D fl->c8 M G F0 f D σ H
abbrev JS(X:Cx)(st:Stmt)(f:Sm):Prop:=∀F0:Gf,PS X st (c8 (aD X) F0.g F0 f)
structure XS(X:Cx)(e:Stmt)(f:Sm):Prop where
 out:JS X e f
abbrev gI(X:Cx)(RJ:List Stmt)(f:Sm):Prop:=∀F0:Gf,cq X RJ (c8 (aD X) F0.g F0 f)
structure gg(X:Cx)(e:List Stmt)(f:Sm):Prop where
 out:gI X e f
theorem cw{X:Cx}{e:Stmt}{t t':TS}(h:PS X e t')(hi:∀D σ H,t D σ H->t' D σ H):PS X e t:=λpins s σ H Q I q=>h pins s σ H Q I (hi Q σ H q)
theorem Ay{X:Cx}{e:List Stmt}{t t':TS}(h:cq X e t')(hi:∀D σ H,t D σ H->t' D σ H):cq X e t:=λpins s σ H Q I q=>h pins s σ H Q I (hi Q σ H q)
theorem Mv.refl{F:Y8}{H:Hp}:Mv F H F H:=λ_ _ n e=>⟨n,e⟩
section
variable{X:Cx}{M:Md}{G H H':Hp}{F0:Gf}{F F':Y8}{σ:L2.St}{ρ:En}{pos:Pos}{DE:Ends}
theorem aP.same(r:aP M G F0 H F σ ρ)(h:ah H H'):aP M G F0 H' F σ ρ:=⟨r.rs.same h,r.sm.trans h,r.sub,r.dR,r.own,λi Lw b e hb=>r.dZ i Lw b e (r.rs.on.back (λ_ e=>e) rfl (λa u _ _ hu=>h _ _ hu) (λa o _ e=>h _ _ e) hb),r.pin⟩
theorem oa.mv(m:Mv F H F' H'):∀ {fl:Fl},oa M G F0 H F DE fl->oa M G F0 H' F' DE fl
 |.next _,h=>λLl H2 F2 m2 r=>h Ll H2 F2 (m.trans m2) r
 |.brk _,h=>λLl H2 F2 m2 r=>h Ll H2 F2 (m.trans m2) r
 |.cont _,h=>λLl H2 F2 m2 r=>h Ll H2 F2 (m.trans m2) r
 |.ret _,h=>λLl H2 F2 m2 a b r=>h Ll H2 F2 (m.trans m2) a b r
 |.fj _,h=>λp H2 F2 xs ds e m2 a b c r=>h p H2 F2 xs ds e (m.trans m2) a b c r
 |.dB _,h=>λv H2 F1 F2 as m2 a b c d e r=>h v H2 F1 F2 as (m.trans m2) a b c d e r
 |.gZ _ _,h=>λLl H2 F' v m2=>h Ll H2 F' v (m.trans m2)
 |.dJ _ _,h=>λLl H2 F' v m2=>h Ll H2 F' v (m.trans m2)
theorem zR:gI X [] (aw []):=λF0=>Ay L2.GB λD σ H=>by
 rintro⟨ρ,F,fl,r,e,q⟩
 cases e;exact q σ H F Mv.refl r
theorem Ir:gI X [] bf:=zR
theorem B9{f g:Sm}{t u:TS}(hf:∀D σ H,c8 M G F0 f D σ H->t D σ H)(hg:∀D σ H,c8 M G F0 g D σ H->u D σ H)(D:Ends)(σ:L2.St)(H:Hp)(h:c8 M G F0 (zC f g) D σ H):L2.AE t u D σ H:=by
 obtain⟨ρ,F,fl,r,e,q⟩:=h;obtain⟨f1,e1,e⟩:=ao.mp e;refine hf _ _ _ ⟨ρ,F,f1,r,e1,?_⟩;cases f1 with
 |next LJ=>exact λQ3 H1 F1 m1 r1=>hg D Q3 H1 ⟨LJ,F1,fl,r1,e,q.mv m1⟩
 |ret d=>cases e;exact q
 |brk d=>cases e;exact q
 |cont d=>cases e;exact q
 |fj d=>cases e;exact q
 |dB d=>cases e;exact q
 |gZ i ρ=>cases e;exact q
 |dJ d ρ=>cases e;exact q
theorem aq{X:L2.Cx}{st:Stmt}{rest:List Stmt}{f:Sm}{fs:List Sm}(h1:XS X st f)(h2:gg X rest (aw fs)):gg X (st::rest) (aw (f::fs)):=⟨have h1:=h1.out;have h2:=h2.out;λF0=>
 Ay (L2.Kx (h1 F0) (h2 F0)) λD σ H h=>B9 (λ_ _ _ h=>h) (λ_ _ _ h=>h) D σ H h⟩
theorem bc{X:L2.Cx}{st:Stmt}{f:Sm}(h:XS X st f):gg X [st] f:=⟨have h:=h.out;λF0=>L2.Gq (h F0)⟩
theorem bG{X:L2.Cx}{pos:Pos}{c:Expr}{a b:List Stmt}{fc:aY}{fa fb:Sm}(hc:XT X c fc)(ha:gg X a fa)(hb:gg X b fb):XS X (.If c a b pos) (aR fc fa fb):=⟨have hc:=hc.out;have ha:=ha.out;have hb:=hb.out;λF0=>
 cw (L2.He hc (ha F0) (hb F0)) λD σ H=>by
  rintro⟨ρ,F,fl,r,e,q⟩
  obtain⟨t,et,e⟩:=ao.mp e;refine⟨ρ,F,t,r.rs,et,λH1 s1=>?_⟩;split at e
  ·rename_i h;rw[u9 h];exact⟨ρ,F,fl,r.same s1,e,q.mv (.same s1)⟩
  ·rename_i h;rw[Da h];exact⟨ρ,F,fl,r.same s1,e,q.mv (.same s1)⟩⟩
theorem bg{X:L2.Cx}{pos:Pos}{a:Expr}{fa:Ex}(ha:XE X a fa):XS X (.Return (some a) pos) (aX fa):=⟨have ha:=ha.out;λF0=>
 cw (L2.p5 ha) λD σ H=>by
  rintro⟨ρ,F,fl,r,e,q⟩
  obtain⟨d,ed,e⟩:=ao.mp e;cases e;exact⟨ρ,F,d,r.rs,ed,λv H1 s1 rv=>q v H1 F (.same s1) (r.sm.trans s1) r.sub rv⟩⟩
inductive rC(M:Md)(G:Hp)(F0:Gf)(g:bL)(v:V)(σ:L2.St)(H:Hp)(Q:(L2.St->Hp->Prop)):Prop
 |mk:∀ρ F d ρ',aP M G F0 H F σ ρ->Rep M H F d v->g d ρ=.ok ρ'->(∀Ll,aP M G F0 H F Ll ρ'->Q Ll H)->rC M G F0 g v σ H Q
inductive qY(M:Md)(G:Hp)(F0:Gf)(g:List D->En->R En)(vs:List V)(σ:L2.St)(H:Hp)(Q:(L2.St->Hp->Prop)):Prop
 |mk:∀ρ F ds ρ',aP M G F0 H F σ ρ->ae M H F ds vs->g ds ρ=.ok ρ'->(∀Ll,aP M G F0 H F Ll ρ'->Q Ll H)->qY M G F0 g vs σ H Q
abbrev JG(X:Cx)(e:Expr)(g:bL):Prop:=∀F0,PG X e (rC (aD X) F0.g F0 g)
structure XG(X:Cx)(e:Expr)(f:bL):Prop where
 out:JG X e f
abbrev HN(X:Cx)(es:Y4)(g:List D->En->R En):Prop:=∀F0,di X es (qY (aD X) F0.g F0 g)
structure rJ(X:Cx)(e:Y4)(f:List D->En->R En):Prop where
 out:HN X e f
theorem Ac{X:Cx}{e:Expr}{t t':TG}(h:PG X e t')(hi:∀v σ H Q,t v σ H Q->t' v σ H Q):PG X e t:=λpins s σ H x u Q I rx q=>h pins s σ H x u Q I rx (hi x σ H Q q)
theorem wR{X:Cx}{e:Y4}{t t':L2.iM}(h:di X e t')(hi:∀v σ H Q,t v σ H Q->t' v σ H Q):di X e t:=λpins s σ H x u Q I rx q=>h pins s σ H x u Q I rx (hi x σ H Q q)
theorem bu.iS{ρ:En}{i j:Nat}{d:D}(h:bu (ρ.set i (.sh d)) j):i≠j/\bu ρ j:=by
 rcases h with⟨ds,q⟩|⟨ks,ds,q⟩
 ·rcases get_set q with⟨_,x,_⟩|⟨C',q⟩
  ·cases x
  ·exact⟨C',.inl ⟨ds,q⟩⟩
 ·rcases get_set q with⟨_,x,_⟩|⟨C',q⟩
  ·cases x
  ·exact⟨C',.inr ⟨ks,ds,q⟩⟩
theorem aP.oR{i:Nat}{d:D}{v:V}(r:aP M G F0 H F σ ρ)(h:Rep M H F d v):aP M G F0 H F (σ.set i (some v)) (ρ.set i (.sh d)) where
 rs:=r.rs.oR h
 sm:=r.sm
 sub:=r.sub
 dR:=r.dR
 own j a o e:=by
  obtain⟨ne,o⟩:=o.iS;rw[bU ne]at e;exact r.own j a o e
 dZ j Lw b e hb:=by
  rcases get_set e with⟨_,x,_⟩|⟨C',e⟩
  ·cases x
  ·exact r.dZ j Lw b e (r.rs.on.back (λy ey=>by rw[bU C']at ey;exact ey) (bU C') (λa u _ _ hu=>hu) (λ_ _ _ e=>e) hb)
 pin:=r.pin.set λ_ h=>nomatch h
theorem aZ{X:L2.Cx}{pos:Pos}(i:Nat){x:Str}(hN:X.N.Nodup)(hi:X.N[i]? =some x:=by rfl)(hx:L2.Loc X.env.scope x:=by first|exact Or.inl rfl|exact Or.inr rfl)(hf:X.fn x=true\/X.env.scope.names.lookup x=some .local:=by first|exact .inl rfl|exact .inr rfl):XG X (.Name x pos) (aF i):=⟨ λF0=>
 Ac (L2.Dq hN hi hx hf) λv σ H Q=>by
  rintro⟨ρ,F,d,ρ',r,rv,e,q⟩
  cases e;exact q _ (r.oR rv)⟩
theorem zd{X:L2.Cx}:rJ X [] (gk []):=⟨ λF0=>
 wR L2.JH λvs σ H Q=>by
  rintro⟨ρ,F,ds,ρ',r,rv,e,q⟩
  cases ds with
  |nil=>cases e;simp only[ae]at rv;exact⟨rv,q _ r⟩
  |cons _ _=>cases e⟩
theorem EL{is:List Nat}{i:Nat}{t:TG}{u:L2.iM}(ht:∀v σ H Q,rC M G F0 (aF i) v σ H Q->t v σ H Q)(hu:∀v σ H Q,qY M G F0 (gk is) v σ H Q->u v σ H Q)(vs:List V)(σ:L2.St)(H:Hp)(Q:L2.St->Hp->Prop)
  (h:qY M G F0 (gk (i::is)) vs σ H Q):L2.By t u vs σ H Q:=by
 obtain⟨ρ,F,ds,ρ',r,rv,e,q⟩:=h;cases ds with
 |nil=>cases e
 | cons d ds=>
  simp only[ae]at rv;obtain⟨x,xs,rfl,rx,U0⟩:=rv;refine⟨x,xs,rfl,ht _ _ _ _ ⟨ρ,F,d,_,r,rx,rfl,λQ3 r1=>hu _ _ _ _ ⟨_,F,ds,ρ',r1,U0,e,q⟩⟩⟩
theorem pw{X:L2.Cx}(i:Nat){is:List Nat}{e:Expr}{es:Y4}(h1:XG X e (aF i))(h2:rJ X es (gk is))(hs:(assignEach (e::es) X.env).map (·.2)=assign e X.env::(assignEach es X.env).map (·.2):=by exact mR (by rfl)):rJ X (e::es) (gk (i::is)):=⟨have h1:=h1.out;have h2:=h2.out;λF0=>
 wR (L2.Dv (h1 F0) (h2 F0) hs) λvs σ H Q h=>EL (λ_ _ _ _ h=>h) (λ_ _ _ _ h=>h) vs σ H Q h⟩
theorem zQ:∀ {is:List Nat} {ds:List D} {ρ ρ':En},gk is ds ρ=.ok ρ'->ds.length=is.length
 |[],[],_,_,_=>rfl
 |_::_,_::_,_,_,h=>by simp only[gk]at h;simp[zQ h]
 |[],_::_,_,_,h=>by cases h
 |_::_,[],_,_,h=>by cases h
theorem Bi{X:L2.Cx}{pos:Pos}{is:List Nat}{es:Y4}{k:Nat}(h:rJ X es (gk is))(hn:(assignEach es X.env).length=is.length)(hc:X.calm=true:=by rfl)(Sa:(assignEach es X.env).findIdx? (·.1)=none:=by exact A7 (by rfl)):XG X (.Tuple es k pos) (g7 is):=⟨have h:=h.out;λF0=>
 Ac (L2.C3 hc (h F0) hn Sa) λv σ H Q=>by
  rintro⟨ρ,F,d,ρ',r,rv,e,q⟩
  unfold g7 at e;split at e
  ·rename_i ds
   simp only[Rep]at rv;obtain⟨a,xs,rfl,h1,rs⟩:=rv;exact⟨a,xs,rfl,h1.sq,by rw[<-rs.length];exact zQ e,ρ,F,ds,ρ',r,rs,e,q⟩
  ·cases e⟩
theorem b3{X:L2.Cx}{pos:Pos}{tg e:Expr}{fa:Ex}{g:bL}(ha:XE X e fa)(hg:XG X tg g)(hs:swapsWithSole [tg] e pos.line X.env=pure false:=by exact rm (by rfl))(hw:swappedStores [tg] e X.env=pure none:=by exact Ep (by rfl))(h1:(assignEach [tg] X.env).map (·.2)=[assign tg X.env]:=by exact mR (by rfl)):XS X (.Assign [tg] e pos) (bb g fa):=⟨have ha:=ha.out;have hg:=hg.out;λF0=>
 cw (L2.qA ha (hg F0) hs hw h1) λD σ H=>by
  rintro⟨ρ,F,fl,r,e,q⟩
  obtain⟨d,ed,e⟩:=ao.mp e;obtain⟨ρ',eg,e⟩:=ao.mp e;cases e;exact⟨ρ,F,d,r.rs,ed,λv H1 s1 rv=>⟨ρ,F,d,ρ',r.same s1,rv,eg,λLl r'=>q Ll H1 F (.same s1) r'⟩⟩⟩
def Gives(M:Md)(J:L2.It)(H1:Hp)(F1:Y8)(ds:List D):Prop:=∀H F,Mv F1 H1 F H->(∀p,F p->∃o,H p=some o)->
 (∀i d,ds[i]? =some d->J.go i H/\∀x H',J.lV i H x H'->ah H H'/\Rep M H' F d x)/\J.stop ds.length H
inductive zF(M:Md)(f:En->R (List D))(σ:L2.St)(H:Hp)(Rr:(L2.It->Hp->Prop)):Prop
 |mk:∀ρ F ds,a8 M H F σ ρ->f ρ=.ok ds->(∀J H',ah H H'->Gives M J H' F ds->Rr J H')->zF M f σ H Rr
abbrev JI(X:Cx)(tg e:Expr)(f:bV):Prop:=L2.PI X tg e (zF (aD X) f)
structure XI(X:Cx)(tg e:Expr)(f:bV):Prop where
 out:JI X tg e f
theorem j4{X:Cx}{tg e:Expr}{t t':TI}(h:L2.PI X tg e t')(hi:∀σ H Q,t σ H Q->t' σ H Q):L2.PI X tg e t:=λpins s σ H Q I q=>h pins s σ H Q I (hi σ H Q q)
theorem Ii{J:L2.It}{tg:bL}{body:Sm}{g:TG}{tb:TS}(hg:∀v σ H Q,rC M G F0 tg v σ H Q->g v σ H Q)(hb:∀D σ H,c8 M G F0 body D σ H->tb D σ H)
  {H1:Hp} {F1:Y8} {ds:List D} (gv:Gives M J H1 F1 ds) {ρ:En} (r:aP M G F0 H1 F1 σ ρ) {fl:Fl} (e:forL tg body ds ρ=.ok fl) (q:oa M G F0 H1 F1 DE fl):
  ∃W:Nat->Nat->L2.St->Hp->Prop,(∃m,W 0 m σ H1)/\∀i m σ H,W i m σ H->
   (J.stop i H/\DE.nx σ H)\/(J.go i H/\∃N:L2.St->Hp->Prop,(∀Ll H',N Ll H'->∃m',m'<m/\W (i+1) m' Ll H')/\∀x H',J.lV i H x H'->g x σ H' λQP H2=>tb {DE with nx:=N,ct:=N,bk:=DE.nx} QP H2):=by
 refine⟨λi m σ H=>m=ds.length - i/\i<=ds.length/\∃ρ F,Mv F1 H1 F H/\aP M G F0 H F σ ρ/\forL tg body (ds.drop i) ρ=.ok fl,⟨ds.length,by simp,Rf _,ρ,F1,Mv.refl,r,e⟩,?_⟩
 rintro i m σ H ⟨rfl,hi,ρ,F,mv,r,e⟩;obtain⟨g1,g2⟩:=gv H F mv r.rs.aU;by_cases Mp:i<ds.length
 ·refine .inr ⟨(g1 i ds[i] (by simp[Mp])).1,λLl H'=>i+1<=ds.length/\∃ρ F,Mv F1 H1 F H'/\aP M G F0 H' F Ll ρ/\forL tg body (ds.drop (i+1)) ρ=.ok fl,λLl H' p'=>⟨ds.length - (i+1),by omega,rfl,p'.1,p'.2⟩,λx H' y=>?_⟩
  obtain⟨s1,rx⟩:=(g1 i ds[i] (by simp[Mp])).2 x H' y
  rw[X3 Mp]at e;unfold forL at e;obtain⟨LJ,e1,e⟩:=ao.mp e;obtain⟨f,e2,e⟩:=ao.mp e;refine hg _ _ _ _ ⟨ρ,F,ds[i],LJ,r.same s1,rx,e1,λQP r2=>hb _ _ _ ⟨LJ,F,f,r2,e2,?_⟩⟩;have Nr:Mv F1 H1 F H':=mv.trans (.same s1);cases f with
  |next LZ=>exact λM4 H3 F3 m3 r3=>⟨Mp,LZ,F3,Nr.trans m3,r3,e⟩
  |cont LZ=>exact λM4 H3 F3 m3 r3=>⟨Mp,LZ,F3,Nr.trans m3,r3,e⟩
  |brk LZ=>cases e;exact λM4 H3 F3 m3 r3=>q M4 H3 F3 (Nr.trans m3) r3
  |ret d=>cases e;exact λv H3 F3 m3 a b rv=>q v H3 F3 (Nr.trans m3) a b rv
  |fj d=>cases e;exact λp H3 F3 xs ds e m3 a b c rv=>q p H3 F3 xs ds e (Nr.trans m3) a b c rv
  |dB d=>cases e;exact λv H3 F3 F4 as m3 a b c d e rv=>q v H3 F3 F4 as (Nr.trans m3) a b c d e rv
  |gZ i ρ=>cases e;exact λLl H' F' v m3=>q Ll H' F' v (Nr.trans m3)
  |dJ d ρ=>cases e;exact λLl H' F' v m3=>q Ll H' F' v (Nr.trans m3)
 ·have ei:i=ds.length:=by omega
  subst ei;rw[YM]at e;cases e;exact .inl ⟨g2,q σ H F mv r⟩
theorem jO{X:L2.Cx}{pos:Pos}{tg iter:Expr}{body:List Stmt}{it:bV}{g:bL}{f:Sm}(hi:XI X tg iter it)(hg:XG X tg g)(hb:gg X body f)(hp:PassesOwn (model X.prog X.w) X.A X.env X.xe:=by exact PassesOwn.never)(hc:X.calm=true:=by exact rfl)(hs:∀x,foldedSetIterable iter X.env x=pure x:=by exact mi (by rfl)):XS X (.For tg iter body [] pos) (fL it g f):=⟨have hi:=hi.out;have hg:=hg.out;have hb:=hb.out;λF0=>
 cw (L2.ET hp hc hi (hg F0) (hb F0) hs) λD σ H=>by
  rintro⟨ρ,F,fl,r,e,q⟩
  obtain⟨ds,ed,e⟩:=ao.mp e;exact⟨ρ,F,ds,r.rs,ed,λJ H1 s1 gv=>Ii (λ_ _ _ _ h=>h) (λ_ _ _ h=>h) gv (r.same s1) e (q.mv (.same s1))⟩⟩
theorem Ke{a:Addr}{xs:List V}{ds:List D}(h:fP M H F a xs)(rs:ae M H F ds xs):Gives M (L2.oh M.K a) H F ds:=by
 intro H' F' mv tr;have h':=h.mv mv;have Qk:=rs.mv mv;refine⟨λi d hd=>?_,?_⟩
 ·obtain⟨x,hx,rx⟩:=Qk.get hd
  refine⟨⟨xs,x,h'.sq,hx⟩,λy H2 hy=>?_⟩;obtain⟨rfl,hy⟩:=hy;have:=hy xs h'.sq;rw[hx]at this;cases this;exact⟨ah.refl _,rx⟩
 ·exact⟨xs,h'.sq,by rw[rs.length];exact Fk _⟩
theorem Kl{a:Addr}{xs:List V}{ds:List D}(h:cT M H F a xs)(rs:ae M H F ds xs):Gives M (L2.nV M.K a) H F ds:=by
 intro H' F' mv tr;have h':=h.mv mv;have Qk:=rs.mv mv;refine⟨λi d hd=>?_,?_⟩
 ·obtain⟨x,hx,rx⟩:=Qk.get hd
  refine⟨⟨xs,x,h'.sq,hx⟩,λy H2 hy=>?_⟩;obtain⟨rfl,hy⟩:=hy;have:=hy xs h'.sq;rw[hx]at this;cases this;exact⟨ah.refl _,rx⟩
 ·exact⟨xs,h'.sq,by rw[rs.length];exact Fk _⟩
theorem zr{lo hi:Int}:Gives M (L2.bV lo (hi - lo).toNat) H F (d6 lo hi):=by
 intro H' F' mv tr;refine⟨λi d hd=>?_,?_⟩
 ·unfold d6 at hd
  rw[DM]at hd;cases e:(List.range (hi - lo).toNat)[i]? with
  |none=>rw[e]at hd;cases hd
  | some k=>
   rw[e]at hd;obtain⟨Mp,hk⟩:=mO.mp e;simp at hk Mp hd;subst hk hd;refine⟨show i<(hi - lo).toNat by omega,λy H2 hy=>?_⟩
   obtain⟨rfl,rfl⟩:=hy;exact⟨ah.refl _,d8⟩
 ·show(hi - lo).toNat<=(d6 lo hi).length
  unfold d6;simp
theorem wk{j:Int}(h:inR j=true): -(2 ^ 62)<=j/\j<2 ^ 62:=by
 unfold inR at h;rw[sa,FM,FM]at h;exact⟨by omega,by omega⟩
theorem zx{X:L2.Cx}{pos:Pos}{tg a:Expr}{fa:Ex}{p:Pos}(hm:X.mg "range"=none)(ha:XE X a fa)(hg:L2.Gl X "range":=by rfl)(hs:starEach [a] X.env=(false,eval a X.env)::starEach [] X.env:=by exact bw (by rfl)):XI X tg (.Call (.Name "range" p) [a] [] pos) (mn fa):=⟨have ha:=ha.out;j4 (L2.Dd hg hm (eO ha gh hs) hs) λσ H Q=>by
  rintro⟨ρ,F,ds,r,e,q⟩
  obtain⟨d,ed,e⟩:=ao.mp e;refine⟨ρ,F,[d],r,by show(fa ρ).bind _=_;rw[ed];rfl,λvs H1 s1 rv=>?_⟩
  obtain⟨x,rfl,rx⟩:=rv.one;split at e
  ·split at e
   ·rename_i j hj
    cases e;have hj:=wk hj;have:=q (L2.bV 0 j.toNat) H1 s1 (by have:=zr (M:=aD X) (H:=H1) (F:=F) (lo:=0) (hi:=j);rwa[Int.sub_zero]at this)
    exact⟨j,by rw[bC rx],hj.1,hj.2,this⟩
   ·cases e
  ·cases e⟩
theorem vF{X:L2.Cx}{pos:Pos}{tg a b:Expr}{fa fb:Ex}{p:Pos}(hm:X.mg "range"=none)(ha:XE X a fa)(hb:XE X b fb)(hg:L2.Gl X "range":=by rfl)(hs:starEach [a,b] X.env=(false,eval a X.env)::starEach [b] X.env:=by exact bw (by rfl))(Mu:starEach [b] X.env=(false,eval b X.env)::starEach [] X.env:=by exact bw (by rfl)):XI X tg (.Call (.Name "range" p) [a,b] [] pos) (iW fa fb):=⟨have ha:=ha.out;have hb:=hb.out;j4 (L2.KP hg hm (eO ha (eO hb gh Mu) hs) (by rw[hs,Mu];rfl) Mu) λσ H Q=>by
  rintro⟨ρ,F,ds,r,e,q⟩
  obtain⟨d,ed,e⟩:=ao.mp e;obtain⟨d2,Ro,e⟩:=ao.mp e;refine⟨ρ,F,[d,d2],r,by show(fa ρ).bind _=_;rw[ed];show((fb ρ).bind _).bind _=_;rw[Ro];rfl,λvs H1 s1 rv=>?_⟩
  obtain⟨x,y,rfl,rx,ry⟩:=rv.two;split at e
  ·split at e
   ·rename_i i j _ hj
    cases e;rw[sa]at hj;have h1:=wk hj.1;have h2:=wk hj.2;exact⟨i,j,by rw[bC rx,bC ry],⟨h1.1,h1.2,h2.1,h2.2⟩,q _ H1 s1 zr⟩
   ·cases e
  ·cases e⟩
inductive gS(M:Md)(m:List D->R D)(n:Nat)(vs:List V)(H:Hp)(Q:VK)(_x3:XK):Prop
 |mk:∀F ds d,(∀p,F p->∃o,H p=some o)->ae M H F ds vs->ds.length=n->m ds=.ok d->(∀v H',ah H H'->Rep M H' F d v->Q v H')->gS M m n vs H Q _x3
theorem Rep.sub(hs:∀a,F a->F' a){d:D}{v:V}(h:Rep M H F' d v):Rep M H F d v:=h.mv λa o n e=>⟨λf=>n (hs a f),e⟩
theorem u6{N:List Str}{n:Nat}{ds:List D}{vs:List V}(tr:∀p,F p->∃o,G p=some o)(rs:ae M G F ds vs)(hl:ds.length=n)(hn:n<=N.length):aP M G ⟨G,F,λ_=>none⟩ G F (L2.start N vs) (ds.map Slot.sh++List.replicate (N.length - ds.length) .un):=by
 have kT:=rs.length
 have no:∀i,¬bu (ds.map Slot.sh++List.replicate (N.length - ds.length) .un) i:=by
  intro i hi
  have:∀s,(ds.map Slot.sh++List.replicate (N.length - ds.length) Slot.un)[i]? =some s->(∃d,s=.sh d)\/s=.un:=by
   intro s hs;rw[V0]at hs;split at hs
   ·rw[DM]at hs
    cases e1:ds[i]? with
    |none=>rw[e1]at hs;cases hs
    |some d'=>rw[e1]at hs;cases hs;exact .inl ⟨_,rfl⟩
   ·rw[SB]at hs
    split at hs<;>cases hs;exact .inr rfl
  rcases hi with⟨x,hx⟩|⟨k,x,hx⟩
  ·rcases this _ hx with⟨_,h⟩|h<;>cases h
  ·rcases this _ hx with⟨_,h⟩|h<;>cases h
 have aj:∀(i:Nat) Lw,(ds.map Slot.sh++List.replicate (N.length - ds.length) Slot.un)[i]? ≠some (.on Lw):=by
  intro i Lw hs;rw[V0]at hs;split at hs
  ·rw[DM]at hs
   cases e1:ds[i]? with
   |none=>rw[e1]at hs;cases hs
   |some d'=>rw[e1]at hs;cases hs
  ·rw[SB]at hs
   split at hs<;>cases hs
 refine⟨⟨?_,tr,?_,?_,?_,?_,.no aj⟩,ah.refl _,λ_ h=>h,tr,?_,λi Lw b e=>absurd e (aj i Lw),λw hw=>nomatch hw⟩
 ·unfold L2.start;simp[kT]
 ·intro i d hd
  rw[V0]at hd;split at hd
  ·rw[DM]at hd
   cases e1:ds[i]? with
   |none=>rw[e1]at hd;cases hd
   | some d'=>
    rw[e1]at hd;cases hd;obtain⟨v,ev,rv⟩:=rs.get e1;refine⟨v,?_,rv⟩;unfold L2.start;rw[V9 (by obtain⟨h,_⟩:=mO.mp ev;simpa using h),DM,ev];rfl
  ·rw[SB]at hd
   split at hd<;>cases hd
 ·intro i d hd
  rw[V0]at hd;split at hd
  ·rw[DM]at hd
   cases e1:ds[i]? with
   |none=>rw[e1]at hd;cases hd
   |some d'=>rw[e1]at hd;cases hd
  ·rw[SB]at hd
   split at hd<;>cases hd
 ·intro i k d hd
  rw[V0]at hd;split at hd
  ·rw[DM]at hd
   cases e1:ds[i]? with
   |none=>rw[e1]at hd;cases hd
   |some d'=>rw[e1]at hd;cases hd
  ·rw[SB]at hd
   split at hd<;>cases hd
 ·intro i j a oi
  exact absurd oi (no i)
 ·intro i a oi
  exact absurd oi (no i)
theorem Bu{N:List Str}{n:Nat}{body:Sm}{vs:List V}{Q:VK}{E:XK}{t:TS}(ht:∀(F0:Gf) D σ H,c8 M F0.g F0 body D σ H->t D σ H)(h:gS M (fn N.length body) n vs G Q E)(hn:n<=N.length):t {nx:=λ_ H'=>Q .aj H',rt:=Q} (L2.start N vs) G:=by
 obtain⟨F,ds,d,tr,rs,hl,e,q⟩:=h;obtain⟨f,ef,e⟩:=ao.mp e;refine ht ⟨G,F,λ_=>none⟩ _ _ _ ⟨_,F,f,u6 tr rs hl hn,ef,?_⟩;cases f with
 |next ρ'=>cases e;exact λLl H' F' mv r'=>q _ _ r'.sm fF
 |ret d'=>cases e;exact λv H' F' mv sm sub rv=>q _ _ sm (rv.sub sub)
 |brk _=>cases e
 |cont _=>cases e
 |fj _=>cases e
 |dB _=>cases e
 |gZ _ _=>cases e
 |dJ _ _=>cases e
inductive mK(M:Md)(m:List D->R D)(n:Nat)(vs:List V)(H:Hp)(Q:VK)(_x3:XK):Prop
 |mk:∀F ds d,(∀p,F p->∃o,H p=some o)->ae M H F ds vs->ds.length=n->m ds=.ok (.lst d)->(∀p H' xs,ah H H'->H' p=none->ae M H' F d xs->Q (.ref p) (upd H' p (.lst xs)))->mK M m n vs H Q _x3
theorem ae.sub(hs:∀a,F a->F' a){d:List D}{v:List V}(h:ae M H F' d v):ae M H F d v:=h.mv λa o n e=>⟨λf=>n (hs a f),e⟩
theorem GU{N:List Str}{n:Nat}{body:Sm}{vs:List V}{Q:VK}{E:XK}{t:TS}(ht:∀(F0:Gf) D σ H,c8 M F0.g F0 body D σ H->t D σ H)(h:mK M (j0 N.length body) n vs G Q E)(hn:n<=N.length):t {nx:=λ_ H'=>Q .aj H',rt:=Q} (L2.start N vs) G:=by
 obtain⟨F,ds,d,tr,rs,hl,e,q⟩:=h;obtain⟨f,ef,e⟩:=ao.mp e;refine ht ⟨G,F,λ_=>none⟩ _ _ _ ⟨_,F,f,u6 tr rs hl hn,ef,?_⟩;cases f with
 | fj d'=>
  cases d' with
  |lst xs=>cases e;exact λp H' F' ys ds e mv sm sub hp rv=>by cases e;exact q _ _ _ sm hp (rv.sub sub)
  |_=>cases e
 |_=>cases e
def Own(M:Md)(H:Hp)(F:Y8)(s:Slot)(o:HO):Prop:=
 (∃ds xs,s=.ol ds/\o=.lst xs/\ae M H F ds xs)\/∃ks ds xs,s=.od ks ds/\o=.dK (ks.zip xs)/\ks.length=xs.length/\ae M H F ds xs
theorem Own.AV{s:Slot}{o:HO}(h:Own M H F s o):∀t,s≠.on (.tr t):=λt e=>by
 rcases h with⟨ds,xs,rfl,_⟩|⟨ks,ds,xs,rfl,_⟩<;>cases e
theorem Own.mv{s:Slot}{o:HO}(m:Mv F H F' H')(h:Own M H F s o):Own M H' F' s o:=by
 rcases h with⟨ds,xs,e1,e2,r⟩|⟨ks,ds,xs,e1,e2,l,r⟩
 ·exact .inl ⟨ds,xs,e1,e2,r.mv m⟩
 ·exact .inr ⟨ks,ds,xs,e1,e2,l,r.mv m⟩
theorem a8.ownAt(r:a8 M H F σ ρ){i:Nat}(o:bu ρ i):∃a s u,ρ[i]? =some s/\σ[i]? =some (some (.ref a))/\F a/\H a=some u/\Own M H F s u:=by
 rcases o with⟨ds,q⟩|⟨ks,ds,q⟩
 ·obtain⟨a,xs,h1,h2,h3,h4⟩:=r.ol i ds q
  exact⟨a,_,_,q,h1,h2,h3,.inl ⟨ds,xs,rfl,rfl,h4⟩⟩
 ·obtain⟨a,xs,h1,h2,h3,h4,h5⟩:=r.od i ks ds q
  exact⟨a,_,_,q,h1,h2,h3,.inr ⟨ks,ds,xs,rfl,rfl,h4,h5⟩⟩
theorem lM{i j:Nat}{s:Slot}(h:bu (ρ.set i s) j):j=i\/(i≠j/\bu ρ j):=by
 rcases h with⟨ds,q⟩|⟨ks,ds,q⟩
 ·rcases get_set q with⟨h,_,_⟩|⟨C',q⟩
  ·exact .inl h.symm
  ·exact .inr ⟨C',.inl ⟨ds,q⟩⟩
 ·rcases get_set q with⟨h,_,_⟩|⟨C',q⟩
  ·exact .inl h.symm
  ·exact .inr ⟨C',.inr ⟨ks,ds,q⟩⟩
theorem a8.put{i:Nat}{a:Addr}{s:Slot}{o:HO}(r:a8 M H F σ ρ)(mv:Mv F H F' H')(hF:∀b,F b->F' b)(ha:F' a)(ho:H' a=some o)(hk:∀b u,F b->b≠a->H b=some u->H' b=some u)(Vn:∀b,F' b->F b\/b=a)
  (hn:∀j,j≠i->bu ρ j->σ[j]? ≠some (some (.ref a))) (SE:∀(j:Nat) Lw b,j≠i->ρ[j]? =some (.on Lw)->cb M H F σ ρ j b->b≠a) (own:Own M H' F' s o):a8 M H' F' (σ.set i (some (.ref a))) (ρ.set i s) where
 len:=by simp[r.len]
 aU b f:=by
  by_cases e:b=a
  ·subst e;exact⟨o,ho⟩
  ·rcases Vn b f with f|f
   ·obtain⟨u,hu⟩:=r.aU b f
    exact⟨u,hk b u f e hu⟩
   ·exact absurd f e
 sh j d q:=by
  rcases get_set q with⟨rfl,hx,hl⟩|⟨C',q⟩
  ·rcases own with⟨ds,xs,rfl,_⟩|⟨ks,ds,xs,rfl,_⟩<;>cases hx
  ·obtain⟨w,e1,g⟩:=r.sh j d q
   exact⟨w,by rw[bU C'];exact e1,g.mv mv⟩
 ol j d q:=by
  rcases get_set q with⟨rfl,x,hl⟩|⟨C',q⟩
  ·rcases own with⟨ds,xs,rfl,rfl,rs⟩|⟨ks,ds,xs,rfl,_⟩
   ·cases x
    exact⟨a,xs,by rw[MG (by rw[<-r.len];exact hl)],ha,ho,rs⟩
   ·cases x
  ·obtain⟨b,xs,e1,f,e2,g⟩:=r.ol j d q
   refine⟨b,xs,by rw[bU C'];exact e1,hF _ f,hk _ _ f ?_ e2,g.mv mv⟩
   rintro rfl;exact hn j (Os C') (.inl ⟨_,q⟩) e1
 od j k d q:=by
  rcases get_set q with⟨rfl,x,hl⟩|⟨C',q⟩
  ·rcases own with⟨ds,xs,rfl,_⟩|⟨ks,ds,xs,rfl,rfl,l,rs⟩
   ·cases x
   ·cases x
    exact⟨a,xs,by rw[MG (by rw[<-r.len];exact hl)],ha,ho,l,rs⟩
  ·obtain⟨b,xs,e1,f,e2,l,g⟩:=r.od j k d q
   refine⟨b,xs,by rw[bU C'];exact e1,hF _ f,hk _ _ f ?_ e2,l,g.mv mv⟩
   rintro rfl;exact hn j (Os C') (.inr ⟨_,_,q⟩) e1
 cP j k b oj ok ej ek:=by
  have self:∀c,(σ.set i (some (.ref a)))[i]? =some (some (.ref c))->c=a:=λc h=>by
   rw[W9]at h;cases hq:σ[i]? with
   |none=>rw[hq]at h;cases h
   |some z=>rw[hq]at h;cases h;rfl
  rcases lM oj with hj|⟨nj,oj⟩
  ·rcases lM ok with MQ|⟨nk,ok⟩
   ·rw[hj,MQ]
   ·rw[hj]at ej
    rw[bU nk]at ek;cases self _ ej;exact absurd ek (hn k (Os nk) ok)
  ·rw[bU nj]at ej
   rcases lM ok with MQ|⟨nk,ok⟩
   ·rw[MQ]at ek
    cases self _ ek;exact absurd ej (hn j (Os nj) oj)
   ·rw[bU nk]at ek
    exact r.cP j k b oj ok ej ek
 on:=by
  have old:∀(j:Nat) Lw,(ρ.set i s)[j]? =some (.on Lw)->i≠j/\ρ[j]? =some (.on Lw):=λj Lw e=>by
   rcases get_set e with⟨_,x,_⟩|⟨C',e⟩
   ·rcases own with⟨ds,xs,rfl,_⟩|⟨ks,ds,xs,rfl,_⟩<;>cases x
   ·exact⟨C',e⟩
  refine r.on.mv mv (λj Lw e=>⟨(old j Lw e).2,bU (old j Lw e).1⟩) (λj Lw b u e hb f hu=>⟨hF b f,hk b u f (SE j Lw b (Os (old j Lw e).1) (old j Lw e).2 hb) hu⟩) λj Lw b e hb k ok=>?_;obtain⟨C',e0⟩:=old j Lw e;rcases lM ok with rfl|⟨nk,ok⟩
  ·intro h
   rw[W9]at h;cases hq:σ[k]? with
   |none=>rw[hq]at h;cases h
   |some z=>rw[hq]at h;cases h;exact SE j Lw _ (Os C') e0 hb rfl
  ·rw[bU nk]
   exact(r.on j Lw e0).2.1 b hb k ok
theorem aP.new{i:Nat}{p:Addr}{s:Slot}{o:HO}(r:aP M G F0 H F σ ρ)(hp:H p=none)(own:Own M H F s o):
  Mv F H (λb=>F b\/b=p) (upd H p o)/\aP M G F0 (upd H p o) (λb=>F b\/b=p) (σ.set i (some (.ref p))) (ρ.set i s):=by
 have ne:∀b u,H b=some u->b≠p:=λb u e z=>by subst z;rw[hp]at e;cases e
 have mv:Mv F H (λb=>F b\/b=p) (upd H p o):=λb u n e=>⟨λh=>h.elim n (ne b u e),by rw[L2.aE (ne b u e)];exact e⟩
 have hG:G p=none:=r.sm.free hp
 refine⟨mv,⟨r.rs.put mv (λ_ h=>.inl h) (.inr rfl) L2.aV (λb u _ n e=>by rw[L2.aE n];exact e) (λ_ h=>h) (λj _ oj e=>?_) (λj Lw b _ e hb z=>by
   obtain⟨_,xs,hx⟩:=fZ.f hb;exact ne b _ hx z) (own.mv mv),λb u e=>by rw[L2.aE (ne b u (r.sm b u e))];exact r.sm b u e,λb h=>.inl (r.sub b h),r.dR,λj a oj e=>?_,λj Lw b e hb=>?_,r.pin.set own.AV⟩⟩
 ·obtain⟨a,_,u,_,e1,_,e2,_⟩:=r.rs.ownAt oj
  rw[e1]at e;cases e;exact ne _ _ e2 rfl
 ·rcases lM oj with rfl|⟨nj,oj⟩
  ·rw[List.getElem?_set]at e
   split at e
   ·split at e
    ·cases e;exact hG
    ·cases e
   ·rename_i h;exact absurd rfl h
  ·rw[bU nj]at e
   exact r.own j a oj e
 ·rcases get_set e with⟨_,x,_⟩|⟨C',e⟩
  ·rcases own with⟨ds,xs,rfl,_⟩|⟨ks,ds,xs,rfl,_⟩<;>cases x
  ·exact r.dZ j Lw b e (r.rs.on.back (λy ey=>by rw[bU C']at ey;exact ey) (bU C') (λa u _ _ hu=>by rw[L2.aE (ne a u hu)];exact hu) (λa u _ hu=>by rw[L2.aE (ne a u hu)];exact hu) hb)
theorem aP.chg{i:Nat}{a:Addr}{s:Slot}{o:HO}(r:aP M G F0 H F σ ρ)(oi:bu ρ i)(ei:σ[i]? =some (some (.ref a)))(own:Own M H F s o):
  Mv F H F (upd H a o)/\aP M G F0 (upd H a o) F σ (ρ.set i s):=by
 obtain⟨a',_,u,_,e1,fa,e2,_⟩:=r.rs.ownAt oi;rw[ei]at e1;cases e1;have mv:Mv F H F (upd H a o):=λb v n e=>⟨n,by rw[L2.aE (λz=>by subst z;exact n fa)];exact e⟩
 have hG:=r.own i a oi ei
 have hs:σ.set i (some (.ref a))=σ:=by
  obtain⟨hl,h⟩:=mO.mp ei;rw[<-h];exact List.set_getElem_self hl
 have key:=r.rs.put (i:=i) mv (λ_ h=>h) fa L2.aV (λb u _ n e=>by rw[L2.aE n];exact e) (λ_ h=>.inl h) (λj nj oj e=>nj (r.rs.cP j i a oj oi e ei)) (λj Lw b _ e hb z=>by subst z;exact(r.rs.on j Lw e).2.1 _ hb i oi ei) (own.mv mv)
 rw[hs]at key;refine⟨mv,⟨key,λb u e=>by rw[L2.aE (λz=>by subst z;rw[hG]at e;cases e)];exact r.sm b u e,r.sub,r.dR,λj b oj e=>?_,λj Lw b e hb=>?_,r.pin.tD own.AV⟩⟩
 ·rcases lM oj with rfl|⟨nj,oj⟩
  ·rw[ei]at e;cases e;exact hG
  ·exact r.own j b oj e
 ·rcases get_set e with⟨_,x,_⟩|⟨C',e⟩
  ·rcases own with⟨ds,xs,rfl,_⟩|⟨ks,ds,xs,rfl,_⟩<;>cases x
  ·refine r.dZ j Lw b e (r.rs.on.back (λy ey=>by rw[bU C']at ey;exact ey) rfl (λc u hc _ hu=>?_) (λa' u n hu=>(mv a' u n hu).2) hb)
   rw[L2.aE (λz=>by subst z;exact(r.rs.on j Lw e).2.1 _ hc i oi ei)];exact hu
theorem GZ{i:Nat}{a:Addr}{d:D}(r:fZ M H F σ ρ)(oi:bu ρ i)(ei:σ[i]? =some (some (.ref a)))(mv:Mv F H F' H)(hF:∀b,F b->b≠a->F' b):fZ M H F' σ (ρ.set i (.sh d)):=by
 have old:∀(j:Nat) Lw,(ρ.set i (.sh d))[j]? =some (.on Lw)->ρ[j]? =some (.on Lw):=λj Lw e=>by
  rcases get_set e with⟨_,x,_⟩|⟨C',e⟩
  ·cases x
  ·exact e
 refine r.mv mv (λj Lw e=>⟨old j Lw e,rfl⟩) (λj Lw b u e hb f hu=>⟨hF b f λz=>?_,hu⟩) λj Lw b e hb k ok=>(r j Lw (old j Lw e)).2.1 b hb k ok.iS.2;subst z;exact(r j Lw (old j Lw e)).2.1 _ hb i oi ei
theorem aP.HB{i:Nat}{a:Addr}{s:Slot}{d:D}(r:aP M G F0 H F σ ρ)(oi:bu ρ i)(es:ρ[i]? =some s)(ei:σ[i]? =some (some (.ref a)))(hd:∃ds,s=.ol ds/\d=.lst ds):
  ∃F',(F'=λb=>F b/\b≠a)/\Mv F H F' H/\aP M G F0 H F' σ (ρ.set i (.sh d)):=by
 obtain⟨a',s',u,N1,e1,fa,e2,ow⟩:=r.rs.ownAt oi;rw[ei]at e1;cases e1;rw[es]at N1;cases N1;have hG:=r.own i a oi ei;have mv:Mv F H (λb=>F b/\b≠a) H:=λb v n e=>⟨λh=>n h.1,e⟩
 have RB:Rep M H (λb=>F b/\b≠a) d (.ref a):=by
  obtain⟨ds,rfl,rfl⟩:=hd;rcases ow with⟨OW,xs,h1,rfl,rs⟩|⟨ks,ds,xs,h1,_⟩
  ·cases h1
   simp only[Rep];exact⟨a,xs,rfl,.inl ⟨λh=>h.2 rfl,.inl e2⟩,rs.mv mv⟩
  ·cases h1
 refine⟨λb=>F b/\b≠a,rfl,mv,⟨⟨by simp[r.rs.len],λb h=>r.rs.aU b h.1,?_,?_,?_,?_,?_⟩,r.sm,λb h=>⟨r.sub b h,λz=>by subst z;obtain⟨o,e⟩:=r.dR _ h;rw[hG]at e;cases e⟩,r.dR,?_,?_,r.pin.tD λ_ h=>nomatch h⟩⟩
 ·intro j e q
  rcases get_set q with⟨rfl,hx,hl⟩|⟨C',q⟩
  ·cases hx
   exact⟨_,ei,RB⟩
  ·obtain⟨w,e1,g⟩:=r.rs.sh j e q
   exact⟨w,e1,g.mv mv⟩
 ·intro j e q
  rcases get_set q with⟨rfl,x,hl⟩|⟨C',q⟩
  ·cases x
  ·obtain⟨b,xs,e1,f,e3,g⟩:=r.rs.ol j e q
   exact⟨b,xs,e1,⟨f,λz=>by subst z;exact C' (r.rs.cP i j _ oi (.inl ⟨_,q⟩) ei e1)⟩,e3,g.mv mv⟩
 ·intro j k e q
  rcases get_set q with⟨rfl,x,hl⟩|⟨C',q⟩
  ·cases x
  ·obtain⟨b,xs,e1,f,e3,l,g⟩:=r.rs.od j k e q
   exact⟨b,xs,e1,⟨f,λz=>by subst z;exact C' (r.rs.cP i j _ oi (.inr ⟨_,_,q⟩) ei e1)⟩,e3,l,g.mv mv⟩
 ·intro j k b oj ok ej ek
  exact r.rs.cP j k b oj.iS.2 ok.iS.2 ej ek
 ·exact GZ r.rs.on oi ei mv (λb f n=>⟨f,n⟩)
 ·intro j b oj e
  exact r.own j b oj.iS.2 e
 ·intro j Lw b e hb
  rcases get_set e with⟨_,x,_⟩|⟨C',e⟩
  ·cases x
  ·exact r.dZ j Lw b e (r.rs.on.back (λy ey=>by rw[bU C']at ey;exact ey) rfl (λc u _ _ hu=>hu) (λ_ _ _ e=>e) hb)
theorem aP.frz{i:Nat}{a:Addr}{s:Slot}{u:HO}{d:D}(r:aP M G F0 H F σ ρ)(oi:bu ρ i)(es:ρ[i]? =some s)(ei:σ[i]? =some (some (.ref a)))(hd:∃ds,s=.ol ds/\d=.lst ds):
  ∃F',Mv F H F' H/\aP M G F0 H F' σ (ρ.set i (.sh d)):=let⟨F',_,m,h⟩:=r.HB oi es ei hd;⟨F',m,h⟩
theorem aP.Fj{i:Nat}{ks:List Ky}{ds:List D}(r:aP M G F0 H F σ ρ)(es:ρ[i]? =some (.od ks ds)):∃a kvs,H a=some (.dK kvs)/\∀ob,∃F',(F'=λb=>F b/\b≠a)/\Mv F H F' (upd H a (.frz ob (.dK kvs)))/\aP M G F0 (upd H a (.frz ob (.dK kvs))) F' σ (ρ.set i (.sh (.ai ks ds))):=by
 have oi:bu ρ i:=.inr ⟨_,_,es⟩;obtain⟨a,xs,ei,fa,e2,hl,rs⟩:=r.rs.od i ks ds es;refine⟨a,ks.zip xs,e2,λob=>?_⟩;have hG:=r.own i a oi ei;have ne:∀b,¬F b->b≠a:=λb n z=>by subst z;exact n fa
 have mv:Mv F H (λb=>F b/\b≠a) (upd H a (.frz ob (.dK (ks.zip xs)))):=λb v n e=>⟨λh=>n h.1,by rw[L2.aE (ne b n)];exact e⟩
 refine⟨λb=>F b/\b≠a,rfl,mv,⟨⟨by simp[r.rs.len],λb h=>?_,?_,?_,?_,?_,?_⟩,λb u e=>by rw[L2.aE (λz=>by subst z;rw[hG]at e;cases e)];exact r.sm b u e,λb h=>⟨r.sub b h,λz=>by subst z;obtain⟨o,e⟩:=r.dR _ h;rw[hG]at e;cases e⟩,r.dR,?_,?_,r.pin.tD λ_ h=>nomatch h⟩⟩
 ·obtain⟨o,e⟩:=r.rs.aU b h.1
  exact⟨o,by rw[L2.aE h.2];exact e⟩
 ·intro j e q
  rcases get_set q with⟨rfl,hx,hl⟩|⟨C',q⟩
  ·cases hx
   refine⟨_,ei,?_⟩;simp only[Rep];exact⟨a,xs,rfl,.inl ⟨λh=>h.2 rfl,ob,L2.aV⟩,by assumption,rs.mv mv⟩
  ·obtain⟨w,e1,g⟩:=r.rs.sh j e q
   exact⟨w,e1,g.mv mv⟩
 ·intro j e q
  rcases get_set q with⟨rfl,x,hl⟩|⟨C',q⟩
  ·cases x
  ·obtain⟨b,ys,e1,f,e3,g⟩:=r.rs.ol j e q
   have hb:b≠a:=λz=>by subst z;exact C' (r.rs.cP i j _ oi (.inl ⟨_,q⟩) ei e1)
   exact⟨b,ys,e1,⟨f,hb⟩,by rw[L2.aE hb];exact e3,g.mv mv⟩
 ·intro j k e q
  rcases get_set q with⟨rfl,x,hl⟩|⟨C',q⟩
  ·cases x
  ·obtain⟨b,ys,e1,f,e3,l,g⟩:=r.rs.od j k e q
   have hb:b≠a:=λz=>by subst z;exact C' (r.rs.cP i j _ oi (.inr ⟨_,_,q⟩) ei e1)
   exact⟨b,ys,e1,⟨f,hb⟩,by rw[L2.aE hb];exact e3,l,g.mv mv⟩
 ·intro j k b oj ok ej ek
  exact r.rs.cP j k b oj.iS.2 ok.iS.2 ej ek
 ·have old:∀(j:Nat) Lw,(ρ.set i (.sh (.ai ks ds)))[j]? =some (.on Lw)->ρ[j]? =some (.on Lw):=λj Lw e=>by
   rcases get_set e with⟨_,x,_⟩|⟨C',e⟩
   ·cases x
   ·exact e
  refine r.rs.on.mv mv (λj Lw e=>⟨old j Lw e,rfl⟩) (λj Lw b u e hb f hu=>?_) λj Lw b e hb k ok=>(r.rs.on j Lw (old j Lw e)).2.1 b hb k ok.iS.2;have Nm:b≠a:=λz=>by subst z;exact(r.rs.on j Lw (old j Lw e)).2.1 _ hb i oi ei
  exact⟨⟨f,Nm⟩,by rw[L2.aE Nm];exact hu⟩
 ·intro j b oj e
  exact r.own j b oj.iS.2 e
 ·intro j Lw b e hb
  rcases get_set e with⟨_,x,_⟩|⟨C',e⟩
  ·cases x
  ·refine r.dZ j Lw b e (r.rs.on.back (λy ey=>by rw[bU C']at ey;exact ey) rfl (λc u hc _ hu=>?_) (λa' u n hu=>(mv a' u n hu).2) hb)
   rw[L2.aE (λz=>by subst z;exact(r.rs.on j Lw e).2.1 _ hc i oi ei)];exact hu
theorem mD{X:L2.Cx}(i:Nat){rest:List Stmt}{fs:List Sm}(h:gg X rest (aw fs)):gg X rest (aw (jq i::fs)):=⟨have h:=h.out;λF0 pins s σ H D I=>by
 rintro⟨ρ,F,fl,r,e,q⟩
 obtain⟨f1,e1,e⟩:=ao.mp e;unfold jq at e1;split at e1
 ·rename_i xs q1
  cases e1;have oi:bu ρ i:=.inl ⟨_,q1⟩;obtain⟨a,_,_,_,ea,_⟩:=r.rs.ownAt oi;obtain⟨F',mv,r'⟩:=r.frz (u:=.lst []) oi q1 ea ⟨_,rfl,rfl⟩;exact h F0 pins s σ H D I ⟨_,F',fl,r',e,q.mv mv⟩
 ·rename_i ks vs q1
  cases e1;obtain⟨a,kvs,ha,k⟩:=r.Fj q1;obtain⟨ob,I'⟩:=vG I ha;obtain⟨F',_,mv,r'⟩:=k ob;exact h F0 pins s σ _ D I' ⟨_,F',fl,r',e,q.mv mv⟩
 ·cases e1⟩
inductive jF(M:Md)(f:Ex)(σ:L2.St)(H:Hp)(Q:VK):Prop
 |mk:∀ρ F ds,a8 M H F σ ρ->f ρ=.ok (.lst ds)->(∀p H' xs,ah H H'->H' p=none->ae M H' F ds xs->Q (.ref p) (upd H' p (.lst xs)))->jF M f σ H Q
abbrev JF(X:Cx)(e:Expr)(f:Ex):Prop:=PE X e (jF (aD X) f)
structure XF(X:Cx)(e:Expr)(f:Ex):Prop where
 out:JF X e f
theorem yZ{X:L2.Cx}{pos:Pos}{es:Y4}{fs:List Ex}(h:XA X es (eList fs))(hl:fs.length<=1000:=by decide):XF X (.List es pos) (cC fs):=⟨have h:=h.out;bo (L2.so h) λσ H Q=>by
  rintro⟨ρ,F,d,hr,e,q⟩
  obtain⟨as,ea,e⟩:=ao.mp e;cases e;refine⟨ρ,F,_,hr,ea,λxs H1 s1 rs=>⟨?_,λp hp=>q p H1 xs s1 hp rs⟩⟩;rw[<-rs.length,hX ea];exact PK hl (by decide)⟩
theorem sk{X:L2.Cx}{pos:Pos}(i:Nat){x:Str}{e:Expr}{f:Ex}{p2:Pos}(hN:X.N.Nodup)(he:XF X e f)(hi:X.N[i]? =some x:=by rfl)(hx:L2.Loc X.env.scope x:=by exact Or.inl rfl)(hf:X.fn x=true\/X.env.scope.names.lookup x=some .local:=by exact .inl rfl)(hs:swapsWith e (some (.Name x p2)) pos.line X.env=pure false:=by exact d5 (by rfl)):XS X (.Assign [.Name x p2] e pos) (lL i f):=⟨have he:=he.out;λF0=>
 cw (L2.qI hN hi hx he hs hf) λD σ H=>by
  rintro⟨ρ,F,fl,r,e,q⟩
  obtain⟨d,ed,e⟩:=ao.mp e;split at e
  ·cases e
   refine⟨ρ,F,_,r.rs,ed,λp H1 xs s1 hp rs=>?_⟩;obtain⟨mv,r'⟩:=(r.same s1).new (i:=i) (s:=.ol _) hp (.inl ⟨_,xs,rfl,rfl,rs⟩);exact q _ _ _ (Mv.trans (.same s1) mv) r'
  ·cases e⟩
theorem II{X:L2.Cx}{pos:Pos}(i:Nat){x:Str}{e:Expr}{f:Ex}{p2 apos B':Pos}(he:XE X e f)(hN:X.N[i]? =some x:=by rfl)(hv:L2.dS X.env.scope x:=by exact Or.inl rfl)(hd:gV x:=by decide)(L4:TY x:=by decide)(Lz:attributeBase (.Name x p2) "append" X.env (eval (.Name x p2) X.env)=eval (.Name x p2) X.env:=by exact oF)(ND:((backTo B' (starEach [e] X.env)).all (λx=> !x.1)&&(backToKw B' (keywordEach [] X.env)).all (λx=>x.1.isSome)&&decide (([e]:Y4).length+([]:List Keyword).length+(if([]:List Keyword).isEmpty then 0 else 1)<30))=true:=by exact rR (by rfl) (by decide))(LA:(apos.endLine==B'.line)=true:=by rfl)(hs:starEach [e] X.env=(false,eval e X.env)::starEach [] X.env:=by exact bw (by rfl))(MJ:swapsWith (.Call (.Attribute (.Name x p2) "append" apos) [e] [] B') none pos.line X.env=pure false:=by exact d5 (by rfl)):XS X (.Expr (.Call (.Attribute (.Name x p2) "append" apos) [e] [] B') pos) (qz i f):=⟨have he:=he.out;λF0=>
 cw (L2.jg (L2.tE Yc PySem.F.slot_list_append PySem.F.type_list_append L2.Ax (L2.pv i hN hv hd L4) (eO he gh hs) Lz ND LA hs) MJ) λD σ H=>by
  rintro⟨ρ,F,fl,r,e,q⟩
  obtain⟨d,ed,e⟩:=ao.mp e;split at e
  ·rename_i xs q1
   split at e
   ·rename_i Mp
    cases e;have oi:bu ρ i:=.inl ⟨_,q1⟩;obtain⟨a,ys,ea,fa,ha,rs⟩:=r.rs.ol i _ q1;refine⟨_,ea,.inl ⟨rfl,ys,bt.of ha⟩,ρ,F,[d],r.rs,by show(f ρ).bind _=_;rw[ed];rfl,λvs H1 s1 rv=>?_⟩
    obtain⟨y,rfl,ry⟩:=rv.one;have r1:=r.same s1;refine⟨a,ys,y,rfl,rfl,s1 _ _ ha,by rw[<-rs.length];exact Mp,?_⟩
    obtain⟨mv,r'⟩:=r1.chg (s:=.ol (xs++[d])) oi ea (.inl ⟨_,ys++[y],rfl,rfl,(rs.mv (.same s1)).append (ae.cons ry ae.nil)⟩);exact q _ _ _ (Mv.trans (.same s1) mv) r'
   ·cases e
  ·cases e⟩
structure Df(P:Program)(w:World)(K:PySem.W.Frag)(mg:Str->Y6)(base:Heap)(x:Str)(k n:Nat)(m:List D->R D):Prop where
 ex:∃f fd ps,L2.dX P w K mg base L2.cV k f fd ps (gS ⟨K,P,w⟩ m n)/\L2.Binds K fd ps []/\PySem.W.keepIn K (.ref f)=true/\mg x=some (.ref f)
theorem Ba{m:List D->R D}{n:Nat}{fs:List Ex}{Q:VK}{E:XK}(hn:fs.length=n)(h:tP M (aG m fs) σ H Q):L2.mV (gS M m n) [] E (mI M (eList fs)) σ H Q:=by
 obtain⟨ρ,F,d,hr,e,q⟩:=h;obtain⟨ds,NJ,e⟩:=ao.mp e;refine⟨ρ,F,ds,hr,NJ,λvs H1 s1 rs=>?_⟩;show gS M m n (vs++[]) H1 Q E;rw[VW];exact⟨F,ds,d,(hr.same s1).aU,rs,by rw[hX NJ];exact hn,e,λv H2 s2 rv=>q v H2 (s1.trans s2) rv⟩
theorem bp{X:L2.Cx}{pos:Pos}{x:Str}{k j n:Nat}{m:List D->R D}{e:Expr}{es:Y4}{fs:List Ex}{p:Pos}(d:Df X.prog X.w X.K X.mg X.base x k n m)(hr:L2.b4 j X.A)(ha:XA X (e::es) (eList fs))(hk:k<=j)(hg:L2.Gl X x:=by rfl)(hn:fs.length=n:=by rfl)(MD:gV x:=by decide)(he:starEach (e::es) X.env=(false,eval e X.env)::starEach es X.env:=by exact bw (by rfl))(M5:(backTo pos (starEach es X.env)).any (·.1)=false:=by exact jW (by rfl)):XE X (.Call (.Name x p) (e::es) [] pos) (aG m fs):=⟨have ha:=ha.out;by
 obtain⟨f,fd,ps,h1,h2,h3,h4⟩:=d.ex;exact bo (L2.oo h1 (hr.mono hk) hg h4 h3 h2 .nil L2.kb ha MD he M5) λσ H Q h=>Ba hn h⟩
theorem wB{P:Program}{w:World}{K:PySem.W.Frag}{mg:Str->Y6}{base:Heap}{x qual:Str}{st:Stmt}{f:Addr}{fd:FuncData}{N ps:List Str}{k n:Nat}{body:Sm}(Fu:L2.gb K x qual st f fd)(S:L2.ba N ps (L2.aH st))
  (h:∀(Lk:Value) (A:Around) (outer:List Env) (s:Shared) (H:Hp) (E:XK),L2.b4 k (A.deeper (PyProof.Rows.envOfC qual (L2.aH st) s.heap.objs.size f Lk))->gI (L2.fG L2.cV P w K mg base N qual (L2.aH st) f Lk A outer s H E).fJ (L2.cU st) body)
  (hn:ps.length=n:=by rfl):L2.dX P w K mg base L2.cV (k+1) f fd ps (gS ⟨K,P,w⟩ (fn N.length body) n):=by
 refine Fu.ok S (λvs H Q E h=>?_) (λLk A outer s H vs Q E hr M6=>?_)
 ·obtain⟨F,ds,d,_,rs,hl,_⟩:=h
  rw[<-rs.length,hl,hn]
 ·refine⟨λD σ H'=>∃F0:Gf,c8 ⟨K,P,w⟩ F0.g F0 body D σ H',λpins s' σ H' D I=>by rintro⟨F0,q⟩;exact h Lk A outer s H E hr F0 pins s' σ H' D I q,?_⟩
  refine Bu (G:=H) (t:=λD σ H'=>∃F0:Gf,c8 ⟨K,P,w⟩ F0.g F0 body D σ H') (λF0 D σ H' h=>⟨F0,h⟩) M6 ?_;have:=congrArg List.length S.pre;rw[Ws]at this;omega
theorem Ie{P:Program}{w:World}{K:PySem.W.Frag}{mg:Str->Y6}{base:Heap}{x qual:Str}{st:Stmt}{f:Addr}{fd:FuncData}{N ps:List Str}{k n:Nat}{body:Sm}(Fu:L2.gb K x qual st f fd)(hm:mg x=some (.ref f))(S:L2.ba N ps (L2.aH st))(hb:L2.Binds K fd ps [])
  (h:∀(Lk:Value) (A:Around) (outer:List Env) (s:Shared) (H:Hp) (E:XK),L2.b4 k (A.deeper (PyProof.Rows.envOfC qual (L2.aH st) s.heap.objs.size f Lk))->gI (L2.fG L2.cV P w K mg base N qual (L2.aH st) f Lk A outer s H E).fJ (L2.cU st) body)
  (hn:ps.length=n:=by rfl):Df P w K mg base x (k+1) n (fn N.length body):=⟨f,fd,ps,wB Fu S h hn,hb,Fu.kp,hm⟩
end
open L2 (It Turn cO)
section
variable{X:Cx}{M:Md}{G H H':Hp}{F0:Gf}{F F':Y8}{σ:L2.St}{ρ:En}{pos:Pos}{DE:Ends}
theorem kA:cH M hU (L2.rI L2.ql λi j=>.int (i*j)):=by
 intro F H x y a b d Q tr ra rb e q;unfold hU at e;split at e
 ·split at e
  ·rename_i h
   cases e;rw[Wl]at h;exact⟨_,_,bC ra,bC rb,h.elim (λh=>.inl (uC h)) (λh=>.inr (uC h)),q _ _ (ah.refl _) d8⟩
  ·cases e
 ·cases e
noncomputable def mh(x:Str):It:=⟨λi _=>i<x.cps.size,λi H v H'=>H'=H/\∃c,x.cps[i]? =some c/\v=.str ⟨#[c]⟩,λi _=>x.cps.size<=i⟩
theorem Dx{P:Program}{w:World}{K:PySem.W.Frag}{tg:Expr}(x:Str)(t:Tok)(it:Addr):Turn P w K tg (mh x) [it] it (λi h=>h.IsStrIter it "str_ascii_iterator" x t i) where
 mem:=by simp
 obj:=λi h st b hb=>by
  have e:b=it:=by simpa using hb
  subst e;obtain⟨o,e,c,d⟩:=st;exact⟨o,e,λv z=>by rw[d]at z;cases z⟩
 keep:=λi h h' st k=>let⟨o,e,r⟩:=st;⟨o,k it (by simp) o e,r⟩
 item:=by
  intro X hP hw hK hc i pins s σ H E I hf st hg;subst hP hw hK;obtain⟨f0,f1,f2,f3,f4,f5⟩:=hf it (by simp)
  have hg:i<x.cps.size:=hg;refine wpAny_pyNext_ascii_item st (c:=x.cps[i]) (by simp[hg]) λh' Mz sb=>?_
  have I1:Inv X pins σ H {s with heap:=h',toks:=s.toks+1}:=I.turned (t':=s.toks+1) (λb o hb e=>(sb.2 b hb).trans e) f0 f1 f3 f4 f5;obtain⟨o,e,c,d⟩:=id Mz;exact⟨_,rfl,L2.kL (s:={s with heap:=h',toks:=s.toks+1}) e c d (by decide) ⟨.str ⟨#[x.cps[i]]⟩,H,I1,⟨_,rfl⟩,⟨rfl,_,by simp[hg],rfl⟩,Mz,λb hb=>(hf b hb).1⟩⟩
 done:=by
  intro X hP hw hK hc i pins s σ H E I hf st hg;subst hP hw hK;have hg:x.cps.size<=i:=hg;obtain⟨f0,f1,f2,f3,f4,f5⟩:=hf it (by simp)
  exact wpAny_pyNext_ascii_end (I.ok.hd hc) st (by simp[hg]) λh' eb=>⟨rfl,I.turned (t':=s.toks) (λb o hb e=>eb b o hb e) f0 f1 f3 f4 f5⟩
 self:=λ_ _ _ _ _ st h=>wpAny_pyIter_striter_ascii st h
theorem Jp{P:Program}{w:World}{K:PySem.W.Frag}{tg:Expr}(x:Str)(t:Tok)(it:Addr):Turn P w K tg (mh x) [it] it (λi h=>h.IsStrIter it "str_iterator" x t i) where
 mem:=by simp
 obj:=λi h st b hb=>by
  have e:b=it:=by simpa using hb
  subst e;obtain⟨o,e,c,d⟩:=st;exact⟨o,e,λv z=>by rw[d]at z;cases z⟩
 keep:=λi h h' st k=>let⟨o,e,r⟩:=st;⟨o,k it (by simp) o e,r⟩
 item:=by
  intro X hP hw hK hc i pins s σ H E I hf st hg;subst hP hw hK;obtain⟨f0,f1,f2,f3,f4,f5⟩:=hf it (by simp)
  have hg:i<x.cps.size:=hg;refine wpAny_pyNext_wide_item st (c:=x.cps[i]) (by simp[hg]) λh' Mz sb=>?_
  have I1:Inv X pins σ H {s with heap:=h',toks:=s.toks+1}:=I.turned (t':=s.toks+1) (λb o hb e=>(sb.2 b hb).trans e) f0 f1 f3 f4 f5;obtain⟨o,e,c,d⟩:=id Mz;exact⟨_,rfl,L2.kL (s:={s with heap:=h',toks:=s.toks+1}) e c d (by decide) ⟨.str ⟨#[x.cps[i]]⟩,H,I1,⟨_,rfl⟩,⟨rfl,_,by simp[hg],rfl⟩,Mz,λb hb=>(hf b hb).1⟩⟩
 done:=by
  intro X hP hw hK hc i pins s σ H E I hf st hg;subst hP hw hK;have hg:x.cps.size<=i:=hg;obtain⟨f0,f1,f2,f3,f4,f5⟩:=hf it (by simp)
  exact wpAny_pyNext_wide_end (I.ok.hd hc) st (by simp[hg]) λh' eb=>⟨rfl,I.turned (t':=s.toks) (λb o hb e=>eb b o hb e) f0 f1 f3 f4 f5⟩
 self:=λ_ _ _ _ _ st h=>wpAny_pyIter_striter_wide st h
def Ft(K:PySem.W.Frag)(tl:TE):TI:=λσ H R=>tl σ H λx H1=>(∃a,x=.ref a/\(∃xs,bt K H1 a xs)/\R (L2.oh K a) H1)\/(∃a,x=.ref a/\(∃xs,bH K H1 a xs)/\R (L2.nV K a) H1)\/∃z,x=.str z/\R (mh z) H1
theorem DR{tg:Expr}{pins:List (Addr×Obj)}{R:It->Hp->Prop}{s1:Shared}{x:V}{v:Value}(I1:Inv X pins σ H s1)(r1:RelV x v)
  (q1:(∃a,x=.ref a/\(∃xs,bt X.K H a xs)/\R (L2.oh X.K a) H)\/(∃a,x=.ref a/\(∃xs,bH X.K H a xs)/\R (L2.nV X.K a) H)\/∃z,x=.str z/\R (mh z) H):
  wpAny (model X.prog X.w) X.A (pyIter v) (L2.si X pins σ tg R) X.xe s1:=by
 have fp:∀b∈[s1.heap.objs.size],cO X pins H b:=λb hb=>by
  have e:b=s1.heap.objs.size:=by simpa using hb
  subst e;exact I1.jG (Fk _) (I1.aK.fresh (Fk _))
 rcases q1 with⟨a,rfl,⟨xs,hq⟩,q⟩|⟨a,rfl,⟨xs,hq⟩,q⟩|⟨z,rfl,q⟩
 ·cases r1
  obtain⟨af,rv,p,hz⟩:=I1.list hq;refine Xf p.isList ?_;exact⟨s1.heap.objs.size,[s1.heap.objs.size],_,_,H,rfl,I1.kept (t':=s1.toks) λb o e=>cp _ e,L2.BX a _,⟨_,FS _ rfl,rfl,rfl⟩,fp,q⟩
 ·cases r1
  obtain⟨af,rv,p,hz⟩:=I1.tuple hq;refine wpAny_pyIter_tuple (show s1.heap.IsTuple a af.toArray from p) ?_
  exact⟨s1.heap.objs.size,[s1.heap.objs.size],_,_,H,rfl,I1.kept (t':=s1.toks) λb o e=>cp _ e,L2.G8 a _,⟨_,FS _ rfl,rfl,rfl⟩,fp,q⟩
 ·obtain⟨t,rfl⟩:=r1
  cases ha:z.cps.all (· <128)
  ·refine wpAny_pyIter_wide ha ?_
   exact⟨s1.heap.objs.size,[s1.heap.objs.size],_,_,H,rfl,I1.kept (t':=s1.toks) λb o e=>cp _ e,Jp z t _,⟨_,FS _ rfl,rfl,rfl⟩,fp,q⟩
  ·refine wpAny_pyIter_ascii ha ?_
   exact⟨s1.heap.objs.size,[s1.heap.objs.size],_,_,H,rfl,I1.kept (t':=s1.toks) λb o e=>cp _ e,Dx z t _,⟨_,FS _ rfl,rfl,rfl⟩,fp,q⟩
theorem J8{tg l:Expr}{tl:TE}(hl:PE X l tl):L2.PI X tg l (Ft X.K tl):=λpins s σ H R I h=>
 L2.aL (hl pins s σ H _ I h) λv s1=>by rintro⟨x,H1,I1,r1,q1⟩;exact DR I1 r1 q1
theorem EW{x:Str}:Gives M (mh x) H F (x.cps.toList.map λc=>.str ⟨#[c]⟩):=by
 intro H' F' mv tr;refine⟨λi d hd=>?_,?_⟩
 ·rw[DM]at hd
  cases e:x.cps.toList[i]? with
  |none=>rw[e]at hd;cases hd
  | some c=>
   rw[e]at hd;cases hd;have e':x.cps[i]? =some c:=by simpa using e
   refine⟨show i<x.cps.size from(Array.getElem?_eq_some_iff.mp e').1,λy H2 hy=>?_⟩
   obtain⟨rfl,c',M7,rfl⟩:=hy;rw[e']at M7;cases M7;exact⟨ah.refl _,lJ⟩
 ·show x.cps.size<=_
  simp
theorem Kq{K:PySem.W.Frag}{d:D}{ds:List D}{x:V}{R:It->Hp->Prop}(e:items d=.ok ds)(rv:Rep M H F d x)(q:∀J,Gives M J H F ds->R J H):
  (∃a,x=.ref a/\(∃xs,bt M.K H a xs)/\R (L2.oh M.K a) H)\/(∃a,x=.ref a/\(∃xs,bH M.K H a xs)/\R (L2.nV M.K a) H)\/∃z,x=.str z/\R (mh z) H:=by
 unfold items at e;split at e
 ·cases e
  simp only[Rep]at rv;obtain⟨a,xs,rfl,h,rs⟩:=rv;exact .inl ⟨a,rfl,⟨xs,h.sq⟩,q _ (Ke h rs)⟩
 ·cases e
  simp only[Rep]at rv;obtain⟨a,xs,rfl,h,rs⟩:=rv;exact .inr (.inl ⟨a,rfl,⟨xs,h.sq⟩,q _ (Kl h rs)⟩)
 ·cases e
  exact .inr (.inr ⟨_,fM rv,q _ EW⟩)
 ·cases e
theorem ig{X:L2.Cx}{tg l:Expr}{fa:Ex}(ha:XE X l fa):XI X tg l (dy fa):=⟨have ha:=ha.out;j4 (J8 ha) λσ H Q=>by
  rintro⟨ρ,F,ds,r,e,q⟩
  obtain⟨d,ed,e⟩:=ao.mp e;exact⟨ρ,F,d,r,ed,λv H1 s1 rv=>Kq (K:=X.K) (M:=aD X) e rv λJ g=>q J H1 s1 g⟩⟩
end
structure dP(P:Program)(w:World)(K:PySem.W.Frag)(mg:Str->Y6)(x:Str)(d:D):Prop where
 ex:∃v u,mg x=some u/\RelV v u/\∀H F,Rep ⟨K,P,w⟩ H F d v
theorem jj{X:Cx}{pos:Pos}{x:Str}{d:D}(g:dP X.prog X.w X.K X.mg x d)(hg:L2.Gl X x:=by rfl)(hd:gV x:=by decide):XE X (.Name x pos) (eC d):=⟨ by
 obtain⟨v,u,h1,h2,h3⟩:=g.ex;exact CK hg h1 h2 h3 hd⟩
noncomputable def jZ:Expr->Bool
 |.Starred .. =>false
 |_=>true
theorem bw{e:Expr}{es:Y4}{env:Env}(h:jZ e=true):starEach (e::es) env=(false,eval e env)::starEach es env:=by cases e<;>first|rfl|cases h
theorem jW{pos:Pos}{env:Env}:∀ {es:Y4},es.all jZ=true->(backTo pos (starEach es env)).any (·.1)=false
 |[],_=>rfl
 | e::es,h=>by
  rw[UV,sa]at h;rw[bw h.1];show(false||(backTo pos (starEach es env)).any (·.1))=false
  rw[Bool.false_or];exact jW h.2
theorem xm{pos:Pos}{env:Env}:∀ {es:Y4},es.all jZ=true->(backTo pos (starEach es env)).all (λx=> !x.1)=true
 |[],_=>rfl
 | e::es,h=>by
  rw[UV,sa]at h;rw[bw h.1];show(true&&(backTo pos (starEach es env)).all (λx=> !x.1))=true;rw[WR];exact xm h.2
theorem rR{B':Pos}{env:Env}{e:Expr}{es:Y4}(h:(e::es).all jZ=true)(hl:(e::es).length<30):((backTo B' (starEach (e::es) env)).all (λx=> !x.1)&&(backToKw B' (keywordEach [] env)).all (λx=>x.1.isSome)
   &&decide ((e::es).length+([]:List Keyword).length+(if([]:List Keyword).isEmpty then 0 else 1)<30))=true:=by
 rw[xm h,WR];show(true&&decide ((e::es).length+0+0<30))=true;rw[WR,FM];exact hl
noncomputable def yh:Expr->Bool
 |.ListComp .. =>false
 |.SetComp .. =>false
 |.DictComp .. =>false
 |_=>true
theorem d5{e:Expr}{t:Option Expr}{l:Nat}{env:Env}(h:yh e=true):swapsWith e t l env=pure false:=by cases e<;>first|rfl|cases h
theorem rm{e tg:Expr}{l:Nat}{env:Env}(h:yh e=true):swapsWithSole [tg] e l env=pure false:=d5 h
noncomputable def Kc:Expr->Bool
 |.Tuple .. =>false
 |_=>true
theorem uT{e tg:Expr}{env:Env}(h:Kc e=true):swappedStores [tg] e env=pure none:=by
 cases tg<;>first|rfl|(cases e<;>first|rfl|cases h)
noncomputable def HV:Expr->Bool
 |.Tuple .. =>false
 |.List .. =>false
 |_=>true
theorem Ep{e tg:Expr}{env:Env}(h:HV tg=true):swappedStores [tg] e env=pure none:=by
 cases tg<;>first|rfl|cases h
theorem mR{e:Expr}{es:Y4}{env:Env}(h:jZ e=true):(assignEach (e::es) env).map (·.2)=assign e env::(assignEach es env).map (·.2):=by cases e<;>first|rfl|cases h
theorem wz{env:Env}:∀ {es:Y4},(assignEach es env).length=es.length
 |[]=>rfl
 | e::es=>by
  have:=wz (env:=env) (es:=es);cases e<;>(show(assignEach es env).length+1=_;rw[this];rfl)
theorem A7{env:Env}:∀ {es:Y4},es.all jZ=true->(assignEach es env).findIdx? (·.1)=none
 |[],_=>rfl
 | e::es,h=>by
  rw[UV,sa]at h;have ih:=A7 (env:=env) h.2
  have:∃t,assignEach (e::es) env=(false,t)::assignEach es env:=by
   have h1:=h.1;cases e<;>first|exact⟨_,rfl⟩|cases h1
  obtain⟨t,e1⟩:=this;rw[e1,List.findIdx?_cons,ih];rfl
noncomputable def Iz:Expr->Bool
 |.Set .. =>false
 |_=>true
theorem mi{e:Expr}{env:Env}(h:Iz e=true):∀x,foldedSetIterable e env x=pure x:=by intro x;cases e<;>first|rfl|cases h
noncomputable def plainT:Expr->Bool
 |.UnaryOp .Not _ _=>false
 |.BoolOp .. =>false
 |.IfExp .. =>false
 |.Compare .. =>false
 |_=>true
theorem DU{e:Expr}{env:Env}(h:plainT e=true):∀whole,isTrue e env whole=(do let v <-whole;standAt e.pos;holding [v] (truthy v)):=by
 intro w;cases e with
 |UnaryOp op _ _=>cases op<;>first|rfl|cases h
 |_=>first|rfl|cases h
theorem oF{x:Str}{p:Pos}{a:Str}{env:Env}{w:Sem Value}:attributeBase (.Name x p) a env w=w:=rfl
noncomputable def FQ:Expr->Bool
 |.Slice .. =>false
 |_=>true
theorem uz{b:Expr}(h:FQ b=true):L2.mj b:=by intro o i;cases b<;>first|rfl|cases h
theorem walk{l:PySem.W.OpenLaw}{q:Program}{loose:List Str}{XP:(Str->Y6)->Heap->Prop}{YP:World->Heap->Prop}{d:DefRec}{K:Params->PySem.W.Frag}{k:Nat}{x:Str}{m:List D->R D}(hn:l.most=some 63)(PQ:d.params.defaults=[])(hr:L2.b4 k PySem.callerA)
  (hY:∀(w:World) (h:Heap),YP w h->(K w.params).In h)
  (F:∀(w:World) (mg:Str->Y6) (fa:Addr) (h:Heap),(K w.params).In h->h.Ns mainGlobals mg->mg d.name=some (.ref fa)->
   ∃fd:FuncData,(∀(s:Shared) (u:Value),BindsTo s fd ⟨[u],[]⟩ [(x,u)])/\∀base:Heap,(K w.params).In base->base.Ns mainGlobals mg->L2.dX l.prog w (K w.params) mg base L2.cV k fa fd [x] (gS ⟨K w.params,l.prog,w⟩ m 1))
  (hT:∀ns:VH,ns.length<=63->m [.lst (ns.map .int)]=.ok (.bl true)):
  PySem.W.WalkO q loose XP YP l.row.toRowW d [] (λf vs=>PySem.call f vs):=
 L2.EO (n:=63) (k:=k) (x:=x) (CX:=λ_=>L2.cV) (sp:=λw=>gS ⟨K w.params,l.prog,w⟩ m 1) hn (by decide) PQ hr hY F (λw H a ns hl _ hS=>by
  refine⟨λ_=>False,[.lst (ns.map .int)],.bl true,λp h=>h.elim,ae.cons ?_ ae.nil,rfl,hT ns hl,λv H' _ rv=>gi rv⟩
  have PU:∀(ns:VH) (M:Md) (H:Hp),ae M H (λ_=>False) (ns.map D.int) (ns.map V.int):=by
   intro ns M H
   induction ns with
   |nil=>exact ae.nil
   |cons n r ih=>exact ae.cons d8 ih
  simp only[Rep];refine⟨a,ns.map V.int,rfl,?_,PU ns _ H⟩;rcases hS with h|h
  ·exact .inl ⟨λh=>h,h⟩
  ·exact .inr h) λ_ _ _ _ _ z=>z
open L2 (Un)
section
variable{prog:Program}{w:World}{A:Around}{R:Result->Shared->Prop}{s:Shared}
theorem Fw{elt target iter:Expr}{ifs:Y4}{scope:Scope}{pos:Pos}{it acc:Value}{env:Env}(I:Nat->Shared->Prop)
  (turn:∀n s,I n s->wpAny (model prog w) A (pyNext it) (λr Lm=>match r with
   |none=>R (.ok .next) Lm
   |some v=>wpAny (model prog w) A (letOwnedTupleGo target it v) (λ_ OX=>wpAny (model prog w) A (assign target env v) (λ_ Nl=>
     wpAny (model prog w) A (forIn ifs true λc r=>if r=true then do let ok <-isTrue c env (eval c env);pure (ForInStep.yield ok)else pure (ForInStep.yield r)) (λok Pk=>
      if ok=true then wpAny (model prog w) A (eval elt env) (λx QH=>
       wpAny (model prog w) A (call (.builtin "list.append") [acc,x]) (λ_ Qv=>∃m,m<n/\I m Qv) (notedBy (model prog w) A env λe s'=>R (.error e) s') QH) (notedBy (model prog w) A env λe s'=>R (.error e) s') Pk
      else ∃m,m<n/\I m Pk) (notedBy (model prog w) A env λe s'=>R (.error e) s') Nl) (notedBy (model prog w) A env λe s'=>R (.error e) s') OX) (notedBy (model prog w) A env λe s'=>R (.error e) s') Lm) (notedBy (model prog w) A env λe s'=>R (.error e) s') s)
  (n:Nat) (h:I n s):codeAny (model prog w) A (.compLoop (.ListComp elt [⟨target,iter,ifs,0⟩] scope pos) 0 it acc env) R s:=by
 refine codeAny_loop rfl I (λn s hI=>?_) n h;show wpAny _ A ((compTurn (.ListComp elt [⟨target,iter,ifs,0⟩] scope pos) 0 it acc env).onRaise (λx=>do noteFrame x env;theTreesLotGoes x)) _ _ s
 refine wpAny_noted ?_;rw[compTurn_list];refine mB (Yx (mB (UF (turn n s hI) (λr Lm NF=>?_) λ_ _ h'=>h')));cases r with
 |none=>exact JO NF
 | some v=>
  refine mB (UF NF (λ_ OX Qp=>?_) λ_ _ h'=>h');refine mB (UF Qp (λ_ Nl Q8=>mB (UF Q8 (λok Pk QL=>?_) λ_ _ h'=>h')) λ_ _ h'=>h');cases ok with
  |false=>exact JO ⟨rfl,QL⟩
  | true=>
   exact mB (mB (UF QL (λx QH Rj=>mB (UF Rj (λ_ Qv RG=>JO (JO ⟨rfl,RG⟩)) λ_ _ h'=>h')) λ_ _ h'=>h'))
end
noncomputable def cF(X:Cx)(scope:Scope)(cl:List (Str×Addr))(C:Addr)(N:List Str)(s:Shared)(H:Hp)(fp:Y3):Cx where
 prog:=X.prog
 w:=X.w
 K:=X.K
 mg:=X.mg
 base:=X.base
 A:=X.A
 N:=N
 cN:=s
 jv:=H
 env:=compEnvC scope cl C X.env
 outer:=X.stack
 stack:=X.stack
 ex:=fp
 fn:=λx=>decide ((x,NameKind.cell)∈scope.names)
 calm:=X.calm
 pn:=[]
 xe:=X.xe
abbrev nS(X:Cx)(ifs:Y4)(cs:List aY):Prop:=Paired (λe c=>JT X e c) ifs cs
structure jC(X:Cx)(e:Y4)(f:List aY):Prop where
 out:nS X e f
theorem AH{X:Cx}{M:Md}(hM:M=aD X){pins:List (Addr×Obj)}{σ:L2.St}{ρ:En}{F:Y8}{E:Value->Shared->Prop}(hE:∀e s,X.xe e s->E e s):
  ∀ {ifs:Y4} {cs:List aY},nS X ifs cs->∀ {s:Shared} {H:Hp} {t:Bool} {Q:Bool->Hp->Prop},Inv X pins σ H s->a8 M H F σ ρ->eZ.l9 cs ρ=.ok t->(∀H',ah H H'->Q t H')->
   wpAny (model X.prog X.w) X.A (forIn ifs true λc r=>if r=true then do let ok <-isTrue c X.env (eval c X.env);pure (ForInStep.yield ok)else pure (ForInStep.yield r)) (λok s'=>∃H',Inv X pins σ H' s'/\Q ok H') E s
 | [],_,.nil,s,H,t,Q,I,r,e,q=>by
  cases e;exact wpAny_tests_nil ⟨H,I,q H (ah.refl H)⟩
 | c::ifs,_,.cons h hs,s,H,t,Q,I,r,e,q=>by
  unfold eZ.l9 at e;obtain⟨b,eb,e⟩:=ao.mp e;rw[WA];simp only[Xc];refine mB (mB (UF (h pins s σ H (λb' H'=>b'=b/\ah H H') I ⟨ρ,F,b,hM▸r,eb,λH' s'=>⟨rfl,s'⟩⟩) (λb' s1 h1=>JO ?_) hE));obtain⟨H1,I1,rfl,O1⟩:=h1;dsimp only;cases b' with
  | true=>
   rw[u9 rfl]at e;exact AH hM hE hs I1 (r.same O1) e λH2 s2=>q H2 (O1.trans s2)
  | false=>
   rw[Da (by decide)]at e
   cases e
   have pass:∀(l:Y4) (s:Shared),(∃H',Inv X pins σ H' s/\Q false H')->wpAny (model X.prog X.w) X.A (forIn l false λc r=>if r=true then do let ok <-isTrue c X.env (eval c X.env);pure (ForInStep.yield ok)else pure (ForInStep.yield r)) (λok s'=>∃H',Inv X pins σ H' s'/\Q ok H') E s:=by
    intro l
    induction l with
    |nil=>intro s h;exact JO h
    | cons a l ih=>
     intro s h;rw[WA];exact mB (JO (ih s h))
   exact pass ifs _ ⟨H1,I1,q H1 O1⟩
theorem tO{env:Env}:∀(names:List (Str×NameKind)) (cs:List (Str×Addr)),(∀y∈names,y.2=.free->∃c,env.cells.lookup y.1=some c)->(∀x c,cs.lookup x=some c->env.cells.lookup x=some c)->
  ∃cl,(forIn names cs λ(x:Str×NameKind) r=>(if(x.2==.free)=true then do let c <-cellOf env x.1;pure (ForInStep.yield ((x.1,c)::r))else pure (ForInStep.yield r):Sem (ForInStep (List (Str×Addr)))))=(pure cl:Sem _)/\
   (∀x c,cl.lookup x=some c->env.cells.lookup x=some c)/\(∀x,(∃c,cs.lookup x=some c)\/(x,NameKind.free)∈names->∃c,cl.lookup x=some c)
 |[],cs,_,hc=>⟨cs,rfl,hc,λx h=>h.elim (λh=>h) λh=>nomatch h⟩
 | (n,k)::names,cs,hn,hc=>by
  rw[WA];by_cases hk:k=.free
  ·subst hk
   obtain⟨c,ec⟩:=hn _ v3 rfl
   obtain⟨cl,e,h1,h2⟩:=tO names ((n,c)::cs) (λy hy=>hn y (rU _ hy)) (λx d h=>by
    rw[PP]at h;cases hx:x==n with
    |true=>rw[hx]at h;cases h;rw[WZ.mp hx];exact ec
    |false=>rw[hx]at h;exact hc x d h)
   refine⟨cl,?_,h1,λx h=>h2 x ?_⟩
   ·have:cellOf env n=pure c:=by unfold cellOf;rw[show List.lookup n env.cells=some c from ec]
    simp only[WQ,Xc,this];exact e
   ·rcases h with⟨d,h⟩|h
    ·left
     rw[PP];cases x==n with
     |true=>exact⟨c,rfl⟩
     |false=>exact⟨d,h⟩
    ·rcases AC.mp h with h|h
     ·cases h
      left;rw[PP,WQ];exact⟨c,rfl⟩
     ·exact .inr h
  ·obtain⟨cl,e,h1,h2⟩:=tO names cs (λy hy=>hn y (rU _ hy)) hc
   refine⟨cl,?_,h1,λx h=>h2 x (h.imp (λh=>h) λh=>?_)⟩
   ·have:(k==NameKind.free)=false:=by cases k<;>first|rfl|exact absurd rfl hk
    simp only[this,Xm,Yu];exact e
   ·rcases AC.mp h with h|h
    ·cases h;exact absurd rfl hk
    ·exact h
theorem Hn{scope:Scope}{env:Env}(hn:∀y∈scope.names,y.2=.free->∃c,env.cells.lookup y.1=some c):
  ∃cl,closureFor scope env=pure cl/\(∀x c,cl.lookup x=some c->env.cells.lookup x=some c)/\∀x,(x,NameKind.free)∈scope.names->∃c,cl.lookup x=some c:=by
 obtain⟨cl,e,h1,h2⟩:=tO scope.names [] hn (λx c h=>nomatch h)
 refine⟨cl,?_,h1,λx h=>h2 x (.inr h)⟩;unfold closureFor
 have:∀(l:List (Str×NameKind)) (cs:List (Str×Addr)),(forIn l cs λ(x:Str×NameKind) (r:List (Str×Addr))=>(match x with|(name,kind)=>do
   if(kind==.free)=true then
    let c <-cellOf env name
    pure (ForInStep.yield ((name,c)::r))
   else pure (ForInStep.yield r):Sem (ForInStep (List (Str×Addr)))))=forIn l cs λ(x:Str×NameKind) r=>(if(x.2==.free)=true then do let c <-cellOf env x.1;pure (ForInStep.yield ((x.1,c)::r))else pure (ForInStep.yield r):Sem (ForInStep (List (Str×Addr)))):=λ_ _=>rfl
 show(forIn scope.names [] _ >>= λr=>pure r)=_
 first
  |(rw[show(forIn scope.names ([]:List (Str×Addr)) _:Sem (List (Str×Addr)))=pure cl from e];rfl)
  |(erw [e];rfl)
theorem vm{M:Model}{A:Around}{E:Value->Shared->Prop}{Q:List (Str×Addr)->Shared->Prop}:∀(names:List (Str×NameKind)) {s:Shared} {cells:List (Str×Addr)},(∀x c,cells.lookup x=some c->c<s.heap.objs.size)->(∀x y c,cells.lookup x=some c->cells.lookup y=some c->x=y)->
  (∀(h':Heap) (Lq:List (Str×Addr)),(∀b o,s.heap.get? b=some o->h'.get? b=some o)->(∀x y c,Lq.lookup x=some c->Lq.lookup y=some c->x=y)->
   (∀x c,Lq.lookup x=some c->cells.lookup x=some c\/(s.heap.objs.size<=c/\h'.IsCell c none))->(∀x,(x,NameKind.cell)∈names->∃c,Lq.lookup x=some c/\s.heap.objs.size<=c)->(∀x c,cells.lookup x=some c->(x,NameKind.cell)∉names->Lq.lookup x=some c)->Q Lq {s with heap:=h'})->
  wpAny M A (forIn names cells λ(x:Str×NameKind) (r:List (Str×Addr))=>(match x with|(name,kind)=>if(kind==NameKind.cell)=true then do let a <-alloc {cls:=Value.type "cell",data:=Data.cell none};pure (ForInStep.yield ((name,a)::r))else pure (ForInStep.yield r):Sem (ForInStep (List (Str×Addr))))) Q E s
 | [],s,cells,_,inj,k=>by
  exact JO (k s.heap cells (λ_ _ e=>e) inj (λ_ _ e=>.inl e) (λ_ h=>nomatch h) (λ_ _ e _=>e))
 | (n,kd)::names,s,cells,lt,inj,k=>by
  rw[WA];by_cases hk:kd=.cell
  ·subst hk
   simp only[WQ,Xc];refine mB (mB (wpAny_alloc (JO ?_)));dsimp only;refine vm names (λx c h=>?_) (λx y c hx hy=>?_) λh' Lq keep Og h2 h3 h4=>?_
   ·rw[S8]
    rw[PP]at h;cases hx:x==n with
    |true=>rw[hx]at h;cases h;exact Nat.lt_succ_self _
    |false=>rw[hx]at h;exact Xu (lt x c h)
   ·rw[PP]at hx hy
    cases ex:x==n with
    | true=>
     cases ey:y==n with
     |true=>rw[WZ.mp ex,WZ.mp ey]
     | false=>
      rw[ex]at hx;rw[ey]at hy;cases hx;exact absurd (lt y _ hy) (We _)
    | false=>
     rw[ex]at hx;cases ey:y==n with
     |true=>rw[ey]at hy;cases hy;exact absurd (lt x _ hx) (We _)
     |false=>rw[ey]at hy;exact inj x y c hx hy
   ·have old:∀b o,s.heap.get? b=some o->h'.get? b=some o:=λb o e=>keep b o (cp _ e)
    have new:h'.IsCell s.heap.objs.size none:=⟨_,keep _ _ (FS _ rfl),rfl⟩;refine k h' Lq old Og (λx c h=>?_) (λx hx=>?_) (λx c h hx=>?_)
    ·rcases h2 x c h with h|⟨h5,h6⟩
     ·rw[PP]at h
      cases ex:x==n with
      |true=>rw[ex]at h;cases h;exact .inr ⟨Fk _,new⟩
      |false=>rw[ex]at h;exact .inl h
     ·rw[S8]at h5
      exact .inr ⟨by omega,h6⟩
    ·by_cases hm:(x,NameKind.cell)∈names
     ·obtain⟨c,h5,h6⟩:=h3 x hm
      rw[S8]at h6;exact⟨c,h5,by omega⟩
     ·have Uc:x=n:=by
       rcases AC.mp hx with e|e
       ·exact(Prod.mk.inj e).1
       ·exact absurd e hm
      subst Uc;exact⟨s.heap.objs.size,h4 x _ (by rw[PP,WQ]) hm,Fk _⟩
    ·refine h4 x c ?_ λhm=>hx (rU _ hm)
     rw[PP];cases ex:x==n with
     |true=>exact absurd (by rw[WZ.mp ex];exact v3) hx
     |false=>exact h
  ·have Vj:(kd==NameKind.cell)=false:=by cases kd<;>first|rfl|exact absurd rfl hk
   simp only[Vj,Xm,Yu];refine mB (JO ?_);dsimp only;refine vm names lt inj λh' Lq keep Og h2 h3 h4=>k h' Lq keep Og h2 (λx hx=>?_) (λx c h hx=>h4 x c h λhm=>hx (rU _ hm));rcases AC.mp hx with e|e
   ·exact absurd (Prod.mk.inj e).2.symm hk
   ·exact h3 x e
theorem Hh{M:Model}{A:Around}{E:Value->Shared->Prop}{Q:Env->Shared->Prop}{s:Shared}{scope:Scope}{cl:List (Str×Addr)}{env:Env}(lt:∀x c,cl.lookup x=some c->c<s.heap.objs.size)(inj:∀x y c,cl.lookup x=some c->cl.lookup y=some c->x=y)
  (k:∀(h':Heap) (Lq:List (Str×Addr)),(∀b o,s.heap.get? b=some o->h'.get? b=some o)->(h'.Ns s.heap.objs.size λ_=>none)->(∀x y c,Lq.lookup x=some c->Lq.lookup y=some c->x=y)->
   (∀x c,Lq.lookup x=some c->cl.lookup x=some c\/(s.heap.objs.size+1<=c/\h'.IsCell c none))->(∀x,(x,NameKind.cell)∈scope.names->∃c,Lq.lookup x=some c/\s.heap.objs.size+1<=c)->(∀x c,cl.lookup x=some c->(x,NameKind.cell)∉scope.names->Lq.lookup x=some c)->
   Q {scope:=scope,locals:=s.heap.objs.size,globals:=env.globals,cells:=Lq,qual:=env.qual,func:=none,code:=env.code,frame:=env.frame,builtins:=env.builtins} {s with heap:=h'}):
  wpAny M A (newFunctionEnv scope env.globals cl [] env.qual none Value.none (some env)) Q E s:=by
 unfold newFunctionEnv;refine mB (wpAny_alloc ?_);dsimp only;refine mB (UF (vm (Q:=λLq s'=>Q {scope:=scope,locals:=s.heap.objs.size,globals:=env.globals,cells:=Lq,qual:=env.qual,func:=none,code:=env.code,frame:=env.frame,builtins:=env.builtins} s') scope.names (λx c h=>by rw[S8];exact Xu (lt x c h)) inj λh' Lq keep Og h2 h3 h4=>?_) (λLq s' hq=>?_) λ_ _ h=>h)
 ·refine k h' Lq (λb o e=>keep b o (cp _ e)) ?_ Og (λx c h=>?_) (λx hx=>?_) h4
  ·obtain⟨o,es,ep,h1,h2,h3,h4⟩:=Heap.Ns.new s.heap (Value.type "dict")
   exact⟨o,es,ep,keep _ _ h1,h2,h3,h4⟩
  ·rcases h2 x c h with h|⟨h5,h6⟩
   ·exact .inl h
   ·rw[S8]at h5;exact .inr ⟨h5,h6⟩
  ·obtain⟨c,h5,h6⟩:=h3 x hx
   rw[S8]at h6;exact⟨c,h5,h6⟩
 ·exact JO hq
set_option maxHeartbeats 1000000
noncomputable abbrev Xt:=En->R T
noncomputable def xD(e:Ex):Xt:=λρ=>(e ρ).bind λd=>.ok (.d d)
inductive rM(M:Md)(f:Xt)(σ:L2.St)(H:Hp)(Q:VK):Prop
 |mk:∀ρ F t,a8 M H F σ ρ->f ρ=.ok t->(∀v H' F' as,ah H H'->(∀b∈as,H b=none)->as.Nodup->(∀b,F' b↔F b\/b∈as)->az M H' F' t v as->Q v H')->rM M f σ H Q
abbrev JX(X:Cx)(e:Expr)(f:Xt):Prop:=PE X e (rM (aD X) f)
structure XX(X:Cx)(e:Expr)(f:Xt):Prop where
 out:JX X e f
noncomputable def gE(tg:bL)(cs:List aY)(el:Xt)(ρ:En):List D->R (List T)
 |[]=>.ok []
 | d::ds=>(tg d ρ).bind λLJ=>(eZ.l9 cs LJ).bind λt=>
  if t=true then(el LJ).bind λy=>(gE tg cs el ρ ds).bind λys=>.ok (y::ys)else gE tg cs el ρ ds
noncomputable def qO(it:bV)(n:Nat)(fv:List Nat)(tg:bL)(cs:List aY)(el:Xt):En->R (List T):=λρ=>(it ρ).bind λds=>
 if ds.length<=er then gE tg cs el (List.replicate n .un++frees ρ fv) ds else .bad
theorem vQ{tg:bL}{cs:List aY}{el:Ex}{ρ:En}:∀ {ds ys:List D},eZ tg cs el ρ ds=.ok ys->gE tg cs (xD el) ρ ds=.ok (ys.map .d)
 |[],_,h=>by cases h;rfl
 | d::ds,ys,h=>by
  unfold eZ at h;obtain⟨LJ,e1,h⟩:=ao.mp h;obtain⟨t,e2,h⟩:=ao.mp h;unfold gE;rw[e1,R.aJ,e2,R.aJ];cases t with
  | true=>
   rw[u9 rfl]at h ⊢;obtain⟨y,e3,h⟩:=ao.mp h;obtain⟨zs,e4,h⟩:=ao.mp h;cases h;show((el LJ).bind λd=>R.ok (T.d d)).bind _=_;rw[e3,R.aJ,R.aJ,vQ e4];rfl
  | false=>
   rw[Da (by decide)]at h ⊢
   exact vQ h
section
variable{M:Md}{H H':Hp}{F F':Y8}{as:Y3}{σ:L2.St}{ρ:En}
theorem a8.wide(r:a8 M H F σ ρ)(s1:ah H H')(hn:∀b∈as,H b=none)(hF:∀b,F' b↔F b\/b∈as)(ht:∀b∈as,∃u,H' b=some u):Mv F H F' H'/\a8 M H' F' σ ρ:=by
 have mv:Mv F H F' H':=λb o n e=>⟨λf=>((hF b).mp f).elim n (λhb=>by rw[hn b hb]at e;cases e),s1 _ _ e⟩
 refine⟨mv,⟨r.len,λa f=>?_,λi d e=>?_,λi ds e=>?_,λi ks ds e=>?_,r.cP,?_⟩⟩
 ·rcases(hF a).mp f with f|f
  ·obtain⟨o,e⟩:=r.aU a f;exact⟨o,s1 _ _ e⟩
  ·exact ht a f
 ·obtain⟨v,e1,q⟩:=r.sh i d e;exact⟨v,e1,q.mv mv⟩
 ·obtain⟨a,xs,e1,f,e2,q⟩:=r.ol i ds e;exact⟨a,xs,e1,(hF a).mpr (.inl f),s1 _ _ e2,q.mv mv⟩
 ·obtain⟨a,xs,e1,f,e2,l,q⟩:=r.od i ks ds e;exact⟨a,xs,e1,(hF a).mpr (.inl f),s1 _ _ e2,l,q.mv mv⟩
 ·exact r.on.mv mv (λj x e=>⟨e,rfl⟩) (λj x b u e hb f hu=>⟨(hF b).mpr (.inl f),s1 _ _ hu⟩) λj x b e hb k ok=>(r.on j x e).2.1 b hb k ok
theorem Ae{X:Cx}{e:Expr}{f:Ex}(h:JE X e f):JX X e (xD f):=
 bo h λσ H Q=>by
  rintro⟨ρ,F,t,hr,e,q⟩
  obtain⟨d,ed,e⟩:=ao.mp e;cases e;exact⟨ρ,F,d,hr,ed,λv H1 s1 rv=>q v H1 F [] s1 (λ_ hb=>nomatch hb) Wq (λb=>by simp) (by rw[az];exact⟨rfl,rv⟩)⟩
theorem mF:∀ {vs:List D} {xs:List V} {as:Y3},ak M H F (vs.map .d) xs as↔as=[]/\ae M H F vs xs
 |[],xs,as=>by simp only[WG,ak,ae];exact And.comm
 | v::vs,xs,as=>by
  simp only[Re,ak,ae,az];constructor
  ·rintro⟨x,r,bs,cs,rfl,rfl,⟨rfl,h1⟩,h2⟩
   obtain⟨rfl,h3⟩:=mF.mp h2;exact⟨rfl,x,r,rfl,h1,h3⟩
  ·rintro⟨rfl,x,r,rfl,h1,h2⟩
   exact⟨x,r,[],[],rfl,rfl,⟨rfl,h1⟩,mF.mpr ⟨rfl,h2⟩⟩
theorem ak.append:∀ {ts us:List T} {xs ys:List V} {as bs:Y3},ak M H F ts xs as->ak M H F us ys bs->ak M H F (ts++us) (xs++ys) (as++bs)
 | [],_,_,_,_,_,h,g=>by
  simp only[ak]at h;obtain⟨rfl,rfl⟩:=h;exact g
 | t::ts,_,_,_,_,_,h,g=>by
  simp only[ak]at h;obtain⟨x,r,bs,cs,rfl,rfl,h1,h2⟩:=h;rw[W8,W8,Xv];simp only[ak];exact⟨x,_,bs,_,rfl,rfl,h1,h2.append g⟩
theorem ak.len:∀ {ts:List T} {xs:List V} {as:Y3},ak M H F ts xs as->ts.length=xs.length
 |[],xs,as,h=>by simp only[ak]at h;rw[h.1];rfl
 | t::ts,xs,as,h=>by
  simp only[ak]at h;obtain⟨x,r,bs,cs,rfl,rfl,h1,h2⟩:=h;simp[ak.len h2]
end
section
variable{X:Cx}{M:Md}{G H H':Hp}{F0:Gf}{F F':Y8}{σ:L2.St}{ρ:En}{pos:Pos}
def iw(n:Nat)(tg:bL):Prop:=∀d ρ ρ',tg d ρ=.ok ρ'->ρ'.length=ρ.length/\∀j:Nat,n<=j->ρ'[j]? =ρ[j]?
theorem om{n i:Nat}(h:i<n):iw n (aF i):=λd ρ ρ' e=>by
 cases e;exact⟨by simp,λj hj=>bU (by omega)⟩
theorem wJ{n:Nat}:∀ {is:List Nat} {ds:List D} {ρ ρ':En},is.all (· <n)=true->gk is ds ρ=.ok ρ'->ρ'.length=ρ.length/\∀j:Nat,n<=j->ρ'[j]? =ρ[j]?
 |[],[],_,_,_,e=>by cases e;exact⟨rfl,λ_ _=>rfl⟩
 | i::is,d::ds,ρ,ρ',h,e=>by
  rw[UV,sa,FM]at h;simp only[gk]at e;obtain⟨h1,h2⟩:=wJ h.2 e;exact⟨by rw[h1];simp,λj hj=>by rw[h2 j hj];exact bU (by omega)⟩
 |[],_::_,_,_,_,e=>by cases e
 |_::_,[],_,_,_,e=>by cases e
theorem Dw{n:Nat}{is:List Nat}(h:is.all (· <n)=true):iw n (g7 is):=λd ρ ρ' e=>by
 unfold g7 at e;split at e
 ·exact wJ h e
 ·cases e
theorem a8.less{ρ':En}(r:a8 M H F σ ρ)(hl:ρ'.length=ρ.length)(h:∀(j:Nat) s,ρ'[j]? =some s->s=.un\/((∃d,s=.sh d)/\ρ[j]? =some s)):a8 M H F σ ρ' where
 len:=by rw[hl,r.len]
 aU:=r.aU
 sh i d e:=by
  rcases h i _ e with z|⟨_,z⟩
  ·cases z
  ·exact r.sh i d z
 ol i d e:=by
  rcases h i _ e with z|⟨⟨_,z⟩,_⟩<;>cases z
 od i k d e:=by
  rcases h i _ e with z|⟨⟨_,z⟩,_⟩<;>cases z
 cP i j a oi:=by
  rcases oi with⟨_,e⟩|⟨_,_,e⟩
  ·rcases h i _ e with z|⟨⟨_,z⟩,_⟩<;>cases z
  ·rcases h i _ e with z|⟨⟨_,z⟩,_⟩<;>cases z
 on:=.no λi Lw e=>by rcases h i _ e with z|⟨⟨_,z⟩,_⟩<;>cases z
theorem jt{ρ:En}(h:∀(j:Nat) s,ρ[j]? =some s->s=.un\/∃d,s=.sh d){i:Nat}(o:bu ρ i):False:=by
 rcases o with⟨_,e⟩|⟨_,_,e⟩
 ·rcases h i _ e with z|⟨_,z⟩<;>cases z
 ·rcases h i _ e with z|⟨_,z⟩<;>cases z
noncomputable def ent(n:Nat)(ρ:En)(fv:List Nat):En:=List.replicate n .un++frees ρ fv
theorem kI{n:Nat}{fv:List Nat}{j:Nat}{s:Slot}(h:(ent n ρ fv)[j]? =some s):s=.un\/((∃d,s=.sh d)/\n<=j/\∃i,fv[j - n]? =some i/\ρ[i]? =some s):=by
 unfold ent at h;rw[V0,VX]at h;split at h
 ·rename_i hn
  rw[SB,u9 hn]at h;cases h;exact .inl rfl
 ·rename_i hn
  unfold frees at h;rw[DM]at h;cases e:fv[j - n]? with
  |none=>rw[e]at h;cases h
  | some i=>
   rw[e]at h;have hs:Br ρ[i]? =s:=by simpa using h
   subst hs;cases Mo:ρ[i]? with
   |none=>exact .inl rfl
   | some z=>
    cases z with
    |sh d=>exact .inr ⟨⟨d,rfl⟩,by omega,i,rfl,Mo⟩
    |_=>exact .inl rfl
noncomputable def stC(n:Nat)(σ:L2.St)(fv:List Nat):L2.St:=List.replicate n none++fv.map λi=>(σ[i]?).getD none
theorem DB{n:Nat}{fv:List Nat}(r:a8 M H F σ ρ):a8 M H F (stC n σ fv) (ent n ρ fv) where
 len:=by unfold stC ent frees;simp
 aU:=r.aU
 sh j d e:=by
  rcases kI e with z|⟨_,hn,i,hi,z⟩
  ·cases z
  ·obtain⟨v,ev,rv⟩:=r.sh i d z
   refine⟨v,?_,rv⟩;unfold stC;rw[Wp (by simpa using hn),VX,DM,hi]
   simp[ev]
 ol j d e:=by rcases kI e with z|⟨⟨_,z⟩,_⟩<;>cases z
 od j k d e:=by rcases kI e with z|⟨⟨_,z⟩,_⟩<;>cases z
 cP j k a oj:=by
  exact(jt (λj s e=>(kI e).imp (λh=>h) λh=>h.1) oj).elim
 on:=.no λj Lw e=>by rcases kI e with z|⟨⟨_,z⟩,_⟩<;>cases z
theorem wd{scope:Scope}{env:Env}:∀ {names:List (Str×NameKind)} {x:Str} {k:NameKind},(names.map λ(n,k)=>if(k==NameKind.free&&env.scope.kind==.function&&env.kindOf n==some .cell)then(n,NameKind.cell)else(n,k)).lookup x=some k->
  (k=.cell\/k=.free)->(x,NameKind.free)∈names\/(x,NameKind.cell)∈names
 |[],_,_,h,_=>by simp at h
 | (n,q)::r,x,k,h,hk=>by
  have ih:=@wd scope env r x k;have h':List.lookup x ((if(q==NameKind.free&&env.scope.kind==.function&&env.kindOf n==some .cell)=true then(n,NameKind.cell)else(n,q))::r.map λ(n,k)=>if(k==NameKind.free&&env.scope.kind==.function&&env.kindOf n==some .cell)then(n,NameKind.cell)else(n,k))=some k:=h
  cases hx:x==n with
  | true=>
   have:=WZ.mp hx;subst this;by_cases hcnd:(q==NameKind.free&&env.scope.kind==.function&&env.kindOf x==some .cell)=true
   ·have:q=.free:=by
     rw[sa,sa]at hcnd;have:=hcnd.1.1;cases q<;>first|rfl|cases this
    subst this;exact .inl v3
   ·rw[Da hcnd,PP,WQ]at h'
    cases h';rcases hk with rfl|rfl
    ·exact .inr v3
    ·exact .inl v3
  | false=>
   refine(ih ?_ hk).imp (rU _) (rU _);by_cases hcnd:(q==NameKind.free&&env.scope.kind==.function&&env.kindOf n==some .cell)=true
   ·rw[u9 hcnd,PP,hx]at h';exact h'
   ·rw[Da hcnd,PP,hx]at h';exact h'
theorem vO{env:Env}:∀ {names:List (Str×NameKind)} {x:Str},names.lookup x=some .free->(names.map λ(n,k)=>if(k==NameKind.free&&env.scope.kind==.function&&env.kindOf n==some .cell)then(n,NameKind.cell)else(n,k)).lookup x=some .cell\/
  (names.map λ(n,k)=>if(k==NameKind.free&&env.scope.kind==.function&&env.kindOf n==some .cell)then(n,NameKind.cell)else(n,k)).lookup x=some .free
 |[],_,h=>by simp at h
 | (n,q)::r,x,h=>by
  show List.lookup x ((if(q==NameKind.free&&env.scope.kind==.function&&env.kindOf n==some .cell)=true then(n,NameKind.cell)else(n,q))::r.map λ(n,k)=>if(k==NameKind.free&&env.scope.kind==.function&&env.kindOf n==some .cell)then(n,NameKind.cell)else(n,k))=_\/
   List.lookup x ((if(q==NameKind.free&&env.scope.kind==.function&&env.kindOf n==some .cell)=true then(n,NameKind.cell)else(n,q))::r.map λ(n,k)=>if(k==NameKind.free&&env.scope.kind==.function&&env.kindOf n==some .cell)then(n,NameKind.cell)else(n,k))=_
  rw[PP]at h;by_cases hcnd:(q==NameKind.free&&env.scope.kind==.function&&env.kindOf n==some .cell)=true
  ·rw[u9 hcnd,PP]
   cases hx:x==n with
   |true=>exact .inl rfl
   |false=>rw[hx]at h;exact vO h
  ·rw[Da hcnd,PP]
   cases hx:x==n with
   |true=>rw[hx]at h;exact .inr h
   |false=>rw[hx]at h;exact vO h
structure je(X:Cx)(scope:Scope)(tn fv:List Str)(LK:List Nat):Prop where
 kind:scope.kind=.function
 cells:∀y∈scope.names,y.2=.cell->scope.names.lookup y.1=some .cell
 names:∀y∈scope.names,y.2=.local->scope.names.lookup y.1=some .local
 free:∀y∈scope.names,y.2=.free->X.env.scope.names.lookup y.1=some .cell
 wU:∀y∈scope.names,y.2=.free->scope.names.lookup y.1=some .free
 J1:∀(j:Nat) i,LK[j]? =some i->∃x,fv[j]? =some x/\X.N[i]? =some x/\(x,NameKind.free)∈scope.names
 len:fv.length=LK.length
inductive Ea(X':Cx)(M:Md)(m:Nat)(Q0:Nat->Heap->Prop)(fp:Y3)(H2:Hp)(F:Y8)(D:Addr)(en:En)(cm:Nat->List T->Prop)(all:List T)(n:Nat)(s':Shared):Prop
 |mk (i:Nat) (Ll:L2.St) (H':Hp) (vs:List V) (as:List T) (bs:Y3) (F':Y8) (_:n=m - i) (_:i<=m) (_:Inv X' [] Ll H' s') (_:Q0 i s'.heap) (_:∀b∈fp,H' b=none) (_:ah H2 H') (_:H' D=some (.lst vs)) (_:vs.length<=i)
   (_:(∀b,F' b↔F b\/b=D\/b∈bs)/\(∀b∈bs,H2 b=none/\b≠D)/\bs.Nodup) (_:ak M H' F' as vs bs) (_:a8 M H' F' Ll en) (rest:List T) (_:cm i rest) (_:as++rest=all)
theorem Bb (tn fv:List Str) (LK:List Nat) {elt iter target:Expr} {ifs:Y4} {scope:Scope} {it:bV} {tg:bL} {cs:List aY} {el:Xt} (M8:∀e s,¬X.xe e s) (hc:X.calm=true) (ok:je X scope tn fv LK) (hi:JI X target iter it) (low:iw tn.length tg)
  (ht:∀cl C s H fp,JG (cF X scope cl C (tn++fv) s H fp) target tg) (MK:∀cl C s H fp,nS (cF X scope cl C (tn++fv) s H fp) ifs cs) (MU:∀cl C s H fp,JX (cF X scope cl C (tn++fv) s H fp) elt el)
  (hs:∀x,foldedSetIterable iter X.env x=pure x) {use:Option (Value->Sem Unit)} {Qc:Value->Shared->Prop} {pins:List (Addr×Obj)} {s:Shared} {all:List T} {p1:Pos} (I:Inv X pins σ H s) (hr:a8 (aD X) H F σ ρ) (e:qO it tn.length LK tg cs el ρ=.ok all)
  (MV:∀D C s4 H' vs Hq bs F2 f,(∃m,s4.heap.Ns C m)->Inv X pins σ H' s4->cO X pins H' C->ah H Hq->Hq D=none->(∀b∈bs,H b=none)->bs.Nodup->(∀b,F2 b↔F b\/b∈bs)->ak (aD X) Hq F2 all vs bs->upd Hq D (.lst vs)=H'->compPost (model X.prog X.w) X.A X.xe use Qc (.ref D) C (.ok f) s4):
  wpAny (model X.prog X.w) X.A (comprehension (.ListComp elt [⟨target,iter,ifs,0⟩] scope pos) scope X.env p1 (newList []) false (eval iter X.env) use) Qc X.xe s:=by
 obtain⟨ds,ed,e⟩:=ao.mp e
 have hlen:ds.length<=sizeLine:=by
  by_cases h:ds.length<=er
  ·exact h
  ·rw[Da h]at e;cases e
 rw[u9 (show ds.length<=er from hlen)]at e
 have ey:gE tg cs el (ent tn.length ρ LK) ds=.ok all:=e;obtain⟨cl,Qn,MT,P6⟩:=Hn (scope:=scope) (env:=X.env) (λy hy hf=>I.ok.has y.1 (.inl (ok.free y hy hf)));refine wpAny_comprehension_free (gs:=[]) rfl hs Qn ok.kind ok.names ?_;refine L2.aL (hi pins s σ H _ I ⟨ρ,F,ds,hr,ed,λJ H' sm gv=>(⟨sm,gv⟩:ah H H'/\Gives (aD X) J H' F ds)⟩) λv s1 h1=>L2.aL h1 λRD s2 h2=>?_;obtain⟨T7,fp,Q0,J,H2,rfl,I2,T,Nn,f2,OB,gv⟩:=h2;have r2:=hr.same OB;have Um:∀x c,cl.lookup x=some c->c<s2.heap.objs.size:=λx c h=>let⟨v,cc⟩:=I2.cell x c (MT x c h);cc.lt
 refine XU (Hh (λx c h=>by show c<(Heap.push _ _).objs.size;rw[S8];exact Xu (Um x c h)) (λx y c hx hy=>I2.ok.inj x y c (MT x c hx) (MT y c hy)) λNF cells Ng MH Ss NA NN PY=>?_)
 dsimp only at MH Ng NA NN ⊢;generalize hD:s2.heap.objs.size=D at MH Ng NA NN ⊢;generalize hP:s2.heap.push {cls:=.type "list",dict:=none,data:=.seq ([]:Y5).toArray}=HP at MH Ng NA NN ⊢;have hC:HP.objs.size=D+1:=by rw[<-hP,S8,hD]
 generalize VO:HP.objs.size=C at MH NA NN hC ⊢;have QV:∀b,b<s2.heap.objs.size->b≠C/\b≠D:=λb hb=>by rw[hD]at hb;exact⟨by omega,by omega⟩
 have old:∀b o,s2.heap.get? b=some o->NF.get? b=some o:=λb o e=>Ng b o (hP▸cp _ e);have TV:D≠C:=by omega
 have MX:NF.get? D=some {cls:=.type "list",data:=.seq ([]:Y5).toArray}:=Ng _ _ (hP▸(by rw[<-hD];exact FS _ rfl))
 have nD:H2 D=none:=I2.aK.fresh (Wu hD);have nC:H2 C=none:=I2.aK.fresh (by omega)
 have Pz:ah H2 (upd H2 D (.lst [])):=ah.bZ nD _
 let X':Cx:=cF X scope cells C (tn++fv) s2 H2 fp
 have ij:∀x c,cells.lookup x=some c->∀b∈fp,c≠b:=λx c hx b hb=>by
  rcases NA x c hx with h|⟨h,_⟩
  ·exact(f2 b hb).2.2.2.2.1 x c (MT x c h)
  ·obtain⟨o,ho,_⟩:=T.obj _ _ Nn b hb
   have:=GE ho;rw[hD]at this;exact Wr (MC this (by omega))
 have Vh:X'.Ok:=by
  have Sb:=I2.ok.mod;refine⟨Sb,ok.kind,I2.ok.glob,I2.ok.blt,(show s2.heap.objs.size<=C by rw[hD];omega),Ss,λx hx=>?_,λx c hf hx=>?_,λh=>I2.ok.hd h,I2.ok.frames,.inl rfl,λb hb=>?_,λb o hb=>I2.bs b o hb,PK I2.ok.jP I2.sz,λb o hb hx=>?_,λb hb hf=>?_,I2.stack,I2.xG⟩
  ·have LY:(relabel scope X.env).names.lookup x=some .cell\/(relabel scope X.env).names.lookup x=some .free:=hx
   have Uq:(x,NameKind.free)∈scope.names\/(x,NameKind.cell)∈scope.names:=by
    rcases LY with h|h
    ·exact wd (scope:=scope) h (.inl rfl)
    ·exact wd (scope:=scope) h (.inr rfl)
   by_cases hm:(x,NameKind.cell)∈scope.names
   ·obtain⟨c,h5,_⟩:=NN x hm
    exact⟨c,h5⟩
   ·obtain⟨c,h5⟩:=P6 x (Uq.resolve_right hm)
    exact⟨c,PY x c h5 hm⟩
  ·have hf:decide ((x,NameKind.cell)∈scope.names)=true:=hf
   obtain⟨c',h5,h6⟩:=NN x (WH hf);have hx:cells.lookup x=some c:=hx;rw[hx]at h5;cases h5;show s2.heap.objs.size<=c;rw[hD];omega
  ·obtain⟨o,ho,_⟩:=T.obj _ _ Nn b hb
   exact⟨(QV b (GE ho)).1,λx c hx=>ij x c hx b hb⟩
  ·obtain⟨_,_,_,h4,_⟩:=f2 b hx
   rcases h4 with h4|h4
   ·exact I2.ok.oM b o hb h4
   ·exact absurd (MC (GE hb) (PK I2.ok.jP h4)) (We _)
  ·obtain⟨_,h1,h2,_⟩:=f2 b hb
   exact(AC.mp (I2.pR b hf)).elim h1 h2
 have Se:∀ {H':Hp},(∀b∈fp,H' b=none)->∀b∈fp,cO X' [] H' b:=λhn b hb=>by
  obtain⟨o,ho,_⟩:=T.obj _ _ Nn b hb;refine⟨hn b hb,(QV b (GE ho)).1,λhf=>?_,.inl hb,λx c hx=>ij x c hx b hb,λp hp=>nomatch hp⟩
  obtain⟨_,h1,h2,_⟩:=f2 b hb;exact(AC.mp (I2.pR b hf)).elim h1 h2
 have I3:Inv X' [] (stC tn.length σ LK) (upd H2 D (.lst [])) {s2 with heap:=NF}:=by
  refine⟨Vh,rfl,I2.bare,Un.laid old (Wu hD) nD,⟨_,MH,λi x v hx hv VN=>?_⟩,λx c hx=>?_,?_,λx c hx=>?_,λp hp=>(nomatch hp),I2.aK.laid old (Wu hD) ⟨Rf _,[],0,.nil,MX⟩,?_⟩
  ·have hx:(tn++fv)[i]? =some x:=hx
   by_cases hn:i<tn.length
   ·unfold stC at hv
    rw[V9 (by simpa using hn),SB,u9 hn]at hv
    cases hv
   ·have NV:tn.length<=i:=by omega
    rw[Wp NV]at hx;unfold stC at hv;rw[Wp (by simpa using NV),VX,DM]at hv
    cases ei:LK[i - tn.length]? with
    |none=>rw[ei]at hv;cases hv
    | some k=>
     rw[ei]at hv;obtain⟨x',LY,hN,hf⟩:=ok.J1 _ _ ei;rw[hx]at LY;cases LY
     have Of:σ[k]? =some (some v):=by
      have Oi:(σ[k]?).getD none=some v:=by simpa using hv
      cases ek:σ[k]? with
      |none=>rw[ek]at Oi;cases Oi
      |some z=>rw[ek]at Oi;exact congrArg some Oi
     obtain⟨m,hm,hl⟩:=I2.loc;have M9:X.env.scope.names.lookup x=some .cell:=ok.free _ hf rfl;obtain⟨u,ru,lk⟩:=hl k x v hN Of (.inr (.inl M9));refine⟨u,ru,.inr ⟨?_,?_⟩⟩
     ·exact vO (env:=X.env) (ok.wU _ hf rfl)
     ·rcases lk with⟨h1,_⟩|⟨_,c,QQ,cc⟩
      ·rw[show X.env.kindOf x=X.env.scope.names.lookup x from rfl,M9]at h1;cases h1
      ·obtain⟨c',M7⟩:=P6 x hf
       have:=MT x c' M7;rw[QQ]at this;cases this;refine⟨c,PY x c M7 λhm=>?_,cc.keeps old⟩;have h1:=ok.cells _ hm rfl;have h2:=ok.wU _ hf rfl;dsimp only at h1 h2;rw[h1]at h2;cases h2
  ·rcases NA x c hx with hx|⟨_,cc⟩
   ·obtain⟨v,cc⟩:=I2.cell x c (MT x c hx)
    exact⟨v,cc.keeps old⟩
   ·exact⟨_,cc⟩
  ·show upd H2 D (.lst []) C=none
   rw[L2.aE (Os TV)];exact nC
  ·show upd H2 D (.lst []) c=none
   rcases NA x c hx with hx|⟨Uj,_⟩
   ·have h0:=I2.gu x c (MT x c hx)
    obtain⟨v,cc⟩:=I2.cell x c (MT x c hx);rw[L2.aE (QV c cc.lt).2];exact h0
   ·rw[L2.aE (Wr (by omega))];exact I2.aK.fresh (by omega)
  ·show(stC tn.length σ LK).length=(tn++fv).length
   unfold stC;simp[ok.len]
 have hM:aD X'=aD X:=rfl;have Mi:∀(j:Nat) z,(ent tn.length ρ LK)[j]? =some z->z=.un\/∃d,z=.sh d:=λj z h=>(kI h).imp (λh=>h) λh=>h.1;have Nz:∀(j:Nat) Lw,(ent tn.length ρ LK)[j]? ≠some (.on Lw):=λj Lw e=>by rcases Mi j _ e with z|⟨_,z⟩<;>cases z
 have Sw:∀ {Qm:Hp} {F':Y8} {bs:Y3},(∀b,F' b↔F b\/b=D\/b∈bs)->(∀b∈bs,H2 b=none)->ah H2 Qm->Mv F H2 F' Qm:=λhF hb sm b o n e=>⟨λh=>((hF b).mp h).elim n (λz=>z.elim (λz=>by subst z;rw[nD]at e;cases e) λz=>by rw[hb b z]at e;cases e),sm b o e⟩
 have r3:a8 (aD X) (upd H2 D (.lst [])) (λb=>F b\/b=D\/b∈([]:Y3)) (stC tn.length σ LK) (ent tn.length ρ LK):=by
  have r0:=(DB (n:=tn.length) (fv:=LK) r2)
  exact⟨r0.len,λb f=>by
    by_cases hb:b=D
    ·subst hb;exact⟨_,L2.aV⟩
    ·obtain⟨o,ho⟩:=r0.aU b (f.resolve_right λz=>z.elim hb λz=>nomatch z)
     exact⟨o,Pz _ _ ho⟩,λi d e=>let⟨v,h1,h2⟩:=r0.sh i d e;⟨v,h1,h2.mv (Sw (bs:=[]) (λ_=>WI) (λ_ z=>nomatch z) Pz)⟩,λi d e=>(jt Mi (.inl ⟨_,e⟩)).elim,λi k d e=>(jt Mi (.inr ⟨_,_,e⟩)).elim,λi j a o=>(jt Mi o).elim,.no Nz⟩
 let R0:Result->Shared->Prop:=compPost (model X.prog X.w) X.A X.xe use Qc (.ref D) C
 have loop:codeAny (model X.prog X.w) X.A (.compLoop (.ListComp elt [⟨target,iter,ifs,0⟩] scope pos) 0 (.ref T7) (.ref D) X'.env) R0 {s2 with heap:=NF}:=by
  refine Fw (Ea X' (aD X) ds.length Q0 fp H2 F D (ent tn.length ρ LK) (λi r=>gE tg cs el (ent tn.length ρ LK) (ds.drop i)=.ok r) all) ?_ ds.length
   ⟨0,_,_,[],[],[],_,rfl,Rf _,I3,T.keep _ _ _ Nn λb _ o e=>old b o e,λb hb=>?_,Pz,L2.aV,Rf _,⟨λ_=>WI,λ_ z=>(nomatch z),Wq⟩,by rw[ak];exact⟨rfl,rfl⟩,r3,all,ey,rfl⟩
  ·rintro n s' ⟨i,Ll,H',vs,as,bs,F',rfl,VF,I',Mz,SQ,QO,eD,VD,⟨hF,PJ,Ms⟩,Q1,rS,rest,LQ,OI⟩
   obtain⟨g1,g2⟩:=gv H' F' (Sw hF (λb hb=>(PJ b hb).1) QO) rS.aU;by_cases Mp:i<ds.length
   ·obtain ⟨go,gy⟩:=g1 i ds[i] (by simp[Mp])
    refine L2.aL (T.item X' rfl rfl rfl hc i [] s' Ll H' _ I' (Se SQ) Mz go) λr s4 ⟨u,RI,h4⟩=>?_;subst RI;refine L2.aL h4 λ_ s5 ⟨x,H5,I5,r5,y5,O6,RF⟩=>?_;obtain⟨OJ,rx⟩:=gy x H5 y5;rw[X3 Mp]at LQ;unfold gE at LQ;obtain⟨LJ,eg,LQ⟩:=ao.mp LQ;obtain⟨t,et,LQ⟩:=ao.mp LQ;have U4:=rS.same OJ;have rG:aP (aD X) H2 ⟨H2,λ_=>False,λ_=>none⟩ H5 F' Ll (ent tn.length ρ LK):=⟨U4,QO.trans OJ,λ_ h=>h.elim,λ_ h=>h.elim,λj a o=>(jt Mi o).elim,λj Lw _ e=>absurd e (Nz j Lw),λw hw=>nomatch hw⟩
    have Q5:Inv X' ([]++L2.l3 fp s5.heap) Ll H5 s5:=I5.pinned (Se RF) (T.obj _ _ O6);refine UF (ht cells C s2 H2 fp ⟨H2,λ_=>False,λ_=>none⟩ _ s5 Ll H5 x u (λNQ H6=>H6=H5/\aP (aD X) H2 ⟨H2,λ_=>False,λ_=>none⟩ H5 F' NQ LJ) Q5 r5 ⟨ent tn.length ρ LK,F',ds[i],LJ,rG,rx,eg,λNQ r6=>⟨rfl,r6⟩⟩) (λ_ s6 ⟨NQ,H6,I6,h6,r6⟩=>?_) (λe s f=>(M8 e s f).elim);subst h6;refine UF (AH (X:=X') (M:=aD X) (E:=X.xe) rfl (λ_ _ h=>h) (MK cells C s2 H2 fp) (Q:=λb H7=>b=t/\ah H6 H7) I6 r6.rs et (λH7 s7=>⟨rfl,s7⟩)) (λb s7 ⟨H7,I7,hb,Oo⟩=>?_) (λe s f=>(M8 e s f).elim);subst hb;have Rm:ah H2 H7:=(QO.trans OJ).trans Oo;have D7:H7 D=some (.lst vs):=Oo _ _ (OJ _ _ eD);have QC:=low _ _ _ eg
    have back:∀ {Qm:Hp} {Tj:Y8},a8 (aD X) Qm Tj NQ LJ->a8 (aD X) Qm Tj NQ (ent tn.length ρ LK):=λr=>r.less QC.1.symm λj z hz=>by
     rcases kI hz with h|⟨h,hn,_⟩
     ·exact .inl h
     ·exact .inr ⟨h,by rw[QC.2 j hn];exact hz⟩
    have again:∀ {s8:Shared} {H8:Hp},Inv X' ([]++L2.l3 fp s5.heap) NQ H8 s8->Inv X' [] NQ H8 s8/\Q0 (i+1) s8.heap/\∀b∈fp,H8 b=none:=λ{s8 H8} I8=>by
     refine⟨I8.pe,T.keep _ _ _ O6 λb hb o e=>(I8.pin (b,o) (FB _ (FB _ (L2.rh hb e)))).1,λb hb=>?_⟩;obtain⟨o,e,d⟩:=T.obj _ _ O6 b hb;exact(I8.pin (b,o) (FB _ (FB _ (L2.rh hb e)))).2.1
    cases b with
    | false=>
     rw[Da (by decide)]at LQ
     rw[Da (by decide)]
     obtain⟨a1,a2,a3⟩:=again I7;exact⟨ds.length - (i+1),by omega,i+1,NQ,H7,vs,as,bs,F',rfl,Mp,a1,a2,a3,Rm,D7,by omega,⟨hF,PJ,Ms⟩,Q1.mv (.same (OJ.trans Oo)) (λb _ u f hu=>⟨f,Oo _ _ (OJ _ _ hu)⟩),back (r6.rs.same Oo),rest,LQ,OI⟩
    | true=>
     rw[u9 rfl]at LQ;rw[u9 rfl];obtain⟨y,Up,LQ⟩:=ao.mp LQ;obtain⟨UT,Pa,LQ⟩:=ao.mp LQ;cases LQ;refine UF (MU cells C s2 H2 fp _ s7 NQ H7 (λv H8=>∃F8 NI,ah H7 H8/\(∀b∈NI,H7 b=none)/\NI.Nodup/\(∀b,F8 b↔F' b\/b∈NI)/\az (aD X) H8 F8 y v NI) I7 ⟨LJ,F',y,r6.rs.same Oo,Up,λv H8 F8 NI s8 h1 h2 h3 h4=>⟨F8,NI,s8,h1,h2,h3,h4⟩⟩) (λu2 s8 ⟨v,H8,I8,Vp,F8,NI,QI,Qz,U1,Qt,QK⟩=>?_) (λe s f=>(M8 e s f).elim);have D8:H8 D=some (.lst vs):=QI _ _ D7;refine UF (L2.Ax (X:=X') _ s8 NQ H8 (.ref D) [v] (.ref D) [u2] (λ_ H9=>H9=upd H8 D (.lst (vs++[v]))) I8 rfl (.cons Vp .nil) ⟨D,vs,v,rfl,rfl,D8,by omega,rfl⟩) (λ_ s9 ⟨_,H9,I9,_,h9⟩=>?_) (λe s f=>(M8 e s f).elim)
     subst h9;obtain⟨a1,a2,a3⟩:=again I9;have SX:D∉NI:=λh=>by rw[Qz D h]at D7;cases D7
     have fD:F8 D:=(Qt D).mpr (.inl ((hF D).mpr (.inr (.inl rfl))));have R9:Mv F8 H8 F8 (upd H8 D (.lst (vs++[v]))):=λb o n e=>⟨n,by rw[L2.aE (λz=>by subst z;exact n fD)];exact e⟩
     have TZ:Mv F' H' F8 H8:=λb o n e=>by
      have e7:=Oo _ _ (OJ _ _ e);exact⟨λf=>((Qt b).mp f).elim n (λhb=>by rw[Qz b hb]at e7;cases e7),QI _ _ e7⟩
     have Pl:Mv F' H' F8 (upd H8 D (.lst (vs++[v]))):=Mv.trans TZ R9
     have apart:∀a∈bs,∀b∈NI,a≠b:=λa ha b hb z=>by
      subst z;obtain⟨_,u,hu⟩:=Q1.fs a ha;have:=Oo _ _ (OJ _ _ hu);rw[Qz a hb]at this;cases this
     have Qa:∀b∈bs,∀u,F' b->H' b=some u->F8 b/\upd H8 D (.lst (vs++[v])) b=some u:=λb hb u f hu=>⟨(Qt b).mpr (.inl f),by rw[L2.aE (PJ b hb).2];exact QI _ _ (Oo _ _ (OJ _ _ hu))⟩
     have PR:∀b∈NI,∀u,F8 b->H8 b=some u->F8 b/\upd H8 D (.lst (vs++[v])) b=some u:=λb hb u f hu=>⟨f,by rw[L2.aE (λz=>by subst z;exact SX hb)];exact hu⟩
     have r8:=back ((r6.rs.same Oo).wide QI Qz Qt (λb hb=>(QK.fs b hb).2)).2;refine⟨ds.length - (i+1),by omega,i+1,NQ,_,vs++[v],as++[y],bs++NI,F8,rfl,Mp,a1,a2,a3,λb o e=>?_,L2.aV,by simp;omega,⟨λb=>?_,λb hb=>?_,M0.mpr ⟨Ms,U1,apart⟩⟩,ak.append (Q1.mv Pl Qa) ?_,?_,UT,Pa,by rw[Xv];exact OI⟩
     ·rw[L2.aE (λz=>by subst z;rw[nD]at e;cases e)];exact QI _ _ (Rm _ _ e)
     ·rw[Qt b,hF b,KM,XY,XY]
     ·rcases KM.mp hb with hb|hb
      ·exact PJ b hb
      ·exact⟨Rm.free (Qz b hb),λz=>by subst z;exact SX hb⟩
     ·rw[show NI=NI++[] by simp]
      simp only[ak];exact⟨v,[],NI,[],rfl,rfl,QK.mv R9 PR,rfl,rfl⟩
     ·exact⟨r8.len,λb f=>by
       by_cases hb:b=D
       ·subst hb;exact⟨_,L2.aV⟩
       ·obtain⟨o,ho⟩:=r8.aU b f
        exact⟨o,by rw[L2.aE hb];exact ho⟩,λi d e=>let⟨v,h1,h2⟩:=r8.sh i d e;⟨v,h1,h2.mv R9⟩,λi d e=>(jt Mi (.inl ⟨_,e⟩)).elim,λi k d e=>(jt Mi (.inr ⟨_,_,e⟩)).elim,λi j a o=>(jt Mi o).elim,.no Nz⟩
   ·have ei:i=ds.length:=by omega
    subst ei;rw[YM]at LQ;cases LQ;rw[VW]at OI;subst OI;refine L2.aL (T.done X' rfl rfl rfl hc _ [] s' Ll H' _ I' (Se SQ) Mz g2) λr s4 ⟨RI,I4⟩=>?_;subst RI;obtain⟨m,hm,_⟩:=I4.loc;have C4:H' C=none:=I4.free;have u4:Un (L2.eF X.stack) fp H2 H' s2.heap s4.heap:=I4.base
    have I5:Inv X pins σ H' s4:=I2.qG (s':=s4) (ch:=fp) I4.os u4 I4.aK I4.bare λb hb=>by
     obtain⟨_,a1,a2,a3,a4,a5⟩:=f2 b hb;exact⟨a3,a1,a4,a5⟩
    have fC:cO X pins H' C:=I2.jG (by omega) C4
    have hH:∃Hq:Hp,ah H Hq/\Hq D=none/\ak (aD X) Hq (λb=>F b\/b∈bs) as vs bs/\upd Hq D (.lst vs)=H':=by
     refine⟨λb=>if b=D then none else H' b,λb o e=>?_,by simp,?_,?_⟩
     ·have hb:b≠D:=λz=>by subst z;have:=OB _ _ e;rw[nD]at this;cases this
      simp only[Da hb];exact QO _ _ (OB _ _ e)
     ·refine Q1.mv (λb o n e=>⟨λf=>n ((hF b).mpr (f.imp id .inr)),?_⟩) λb hb u f hu=>⟨.inr hb,?_⟩
      ·have hb:b≠D:=λz=>n ((hF b).mpr (.inr (.inl z)))
       simp only[Da hb];exact e
      ·simp only[Da (PJ b hb).2]
       exact hu
     ·funext b
      unfold upd;by_cases hb:b=D
      ·simp only[u9 hb];rw[hb];exact eD.symm
      ·simp only[Da hb]
    obtain⟨Hq,q1,q2,q3,q4⟩:=hH;exact MV D C s4 H' vs Hq bs _ _ ⟨m,hm⟩ I5 fC q1 q2 (λb hb=>OB.free (PJ b hb).1) Ms (λ_=>WI) q3 q4
  ·show upd H2 D (.lst []) b=none
   obtain⟨o,ho,_⟩:=T.obj _ _ Nn b hb;rw[L2.aE (QV b (GE ho)).2];exact(f2 b hb).1
 exact codeAny_compStart_list loop (T.self _ 0 _ _ _ (T.keep _ _ _ Nn λb _ o e=>old b o e) loop)
theorem zZ(tn fv:List Str)(LK:List Nat){elt iter target:Expr}{ifs:Y4}{scope:Scope}{it:bV}{tg:bL}{cs:List aY}{el:Ex}(M8:∀e s,¬X.xe e s)(hc:X.calm=true)(ok:je X scope tn fv LK)(hi:JI X target iter it)(low:iw tn.length tg)
  (ht:∀cl C s H fp,JG (cF X scope cl C (tn++fv) s H fp) target tg) (MK:∀cl C s H fp,nS (cF X scope cl C (tn++fv) s H fp) ifs cs) (MU:∀cl C s H fp,JE (cF X scope cl C (tn++fv) s H fp) elt el)
  (hs:∀x,foldedSetIterable iter X.env x=pure x) {use:Option (Value->Sem Unit)} {Qc:Value->Shared->Prop} {pins:List (Addr×Obj)} {s:Shared} {all:List D} {p1:Pos} (I:Inv X pins σ H s) (hr:a8 (aD X) H F σ ρ) (e:bJ it tn.length LK tg cs el ρ=.ok (.lst all))
  (MV:∀D C s4 H' vs Hq f,(∃m,s4.heap.Ns C m)->Inv X pins σ H' s4->cO X pins H' C->ah H Hq->Hq D=none->ae (aD X) Hq F all vs->upd Hq D (.lst vs)=H'->compPost (model X.prog X.w) X.A X.xe use Qc (.ref D) C (.ok f) s4):
  wpAny (model X.prog X.w) X.A (comprehension (.ListComp elt [⟨target,iter,ifs,0⟩] scope pos) scope X.env p1 (newList []) false (eval iter X.env) use) Qc X.xe s:=by
 obtain⟨ds,ed,e⟩:=ao.mp e
 have hlen:ds.length<=er:=by
  by_cases h:ds.length<=er
  ·exact h
  ·rw[Da h]at e;cases e
 rw[u9 hlen]at e;obtain⟨ys,ey,e⟩:=ao.mp e;cases e;refine Bb (all:=all.map .d) (el:=xD el) tn fv LK M8 hc ok hi low ht MK (λcl C s H fp=>Ae (MU cl C s H fp)) hs I hr (by unfold qO;rw[ed,R.aJ,u9 hlen];exact vQ ey) λD C s4 H' vs Hq bs F2 f hm I5 fC q1 q2 q3 q4 q5 q6 q7=>?_
 obtain⟨rfl,rs⟩:=mF.mp q6;exact MV D C s4 H' vs Hq f hm I5 fC q1 q2 (rs.mv λb o n e=>⟨λh=>n ((q5 b).mpr (.inl h)),e⟩) q7
theorem j1{X:L2.Cx}{pos:Pos}(tn:List Str)(fv:List Str)(LK:List Nat){elt iter target:Expr}{ifs:Y4}{scope:Scope}{it:bV}{tg:bL}{cs:List aY}{el:Ex}(ok:je X scope tn fv LK)(hi:XI X target iter it)(ht:∀cl C s H fp,XG (cF X scope cl C (tn++fv) s H fp) target tg)(MK:∀cl C s H fp,jC (cF X scope cl C (tn++fv) s H fp) ifs cs)(MU:∀cl C s H fp,XE (cF X scope cl C (tn++fv) s H fp) elt el)(M8:∀e s,¬X.xe e s:=by exact λ_ _ h=>h)(hc:X.calm=true:=by rfl)(low:iw tn.length tg:=by first|exact om (by decide)|exact Dw (by decide))(hs:∀x,foldedSetIterable iter X.env x=pure x:=by exact mi (by rfl)):XF X (.ListComp elt [⟨target,iter,ifs,0⟩] scope pos) (bJ it tn.length LK tg cs el):=⟨have hi:=hi.out;have ht:=(λcl C s H fp=>(ht cl C s H fp).out);have MK:=(λcl C s H fp=>(MK cl C s H fp).out);have MU:=(λcl C s H fp=>(MU cl C s H fp).out);by
 intro pins s σ H Q I ⟨ρ,F,all,hr,e,q⟩;show wpAny _ _ (comprehension (.ListComp elt [⟨target,iter,ifs,0⟩] scope pos) scope X.env _ (newList []) false (eval iter X.env) none) _ _ s;refine zZ tn fv LK M8 hc ok hi low ht MK MU hs I hr e λD C s4 H' vs Hq f hm I5 fC q1 q2 q3 q4=>?_;obtain⟨m,hm⟩:=hm;refine⟨m,hm,λh' MM=>⟨.ref D,H',I5.turned (t':=s4.toks) (λb o n e=>by rw[MM.2 b n];exact e) fC.1 fC.2.1 fC.2.2.2.1 fC.2.2.2.2.1 fC.2.2.2.2.2,rfl,?_⟩⟩
 rw[<-q4];exact q D Hq vs q1 q2 q3⟩
theorem vK(i:Nat){y:Str}{py MI:Pos}(tn fv:List Str)(LK:List Nat){elt iter target:Expr}{ifs:Y4}{scope:Scope}{it:bV}{tg:bL}{cs:List aY}{el:Ex}(M8:∀e s,¬X.xe e s)(hc:X.calm=true)(ok:je X scope tn fv LK)(hi:JI X target iter it)(low:iw tn.length tg)
  (ht:∀cl C s H fp,JG (cF X scope cl C (tn++fv) s H fp) target tg) (MK:∀cl C s H fp,nS (cF X scope cl C (tn++fv) s H fp) ifs cs) (MU:∀cl C s H fp,JE (cF X scope cl C (tn++fv) s H fp) elt el)
  (hs:∀x,foldedSetIterable iter X.env x=pure x) (hN:X.N.Nodup) (hy:X.N[i]? =some y) (hx:L2.Loc X.env.scope y) (hf:X.fn y=true\/X.env.scope.names.lookup y=some .local)
  (MJ:swapsWith (.ListComp elt [⟨target,iter,ifs,0⟩] scope pos) (some (.Name y py)) MI.line X.env=pure true):PS X (.Assign [.Name y py] (.ListComp elt [⟨target,iter,ifs,0⟩] scope pos) MI) (L2.kM (jF (aD X) (bJ it tn.length LK tg cs el)) (L2.aF i)):=by
 intro pins s σ H D I ⟨ρ,F,all,hr,e,q⟩;rw[exec_Assign_Name_used _ _ _ _ MJ];refine mB (Yx (mB ?_));show wpAny _ _ (do let _ <-comprehension (.ListComp elt [⟨target,iter,ifs,0⟩] scope pos) scope X.env _ (newList []) false (eval iter X.env) (some (assign (.Name y py) X.env))) _ _ s
 refine mB (L2.aL (zZ (Qc:=λ_ s'=>L2.SP X pins D .next s') tn fv LK M8 hc ok hi low ht MK MU hs I hr e λD1 C s4 H' vs Hq f hm I5 fC q1 q2 q3 q4=>?_) λ_ s' hq=>JO (JO hq));obtain⟨m,hm⟩:=hm;show wpAny _ _ (assign (.Name y py) X.env (.ref D1)) _ _ _;refine wpAny_assign_Name (L2.wL (v:=.ref D1) I5 hN hy hx rfl (λs5 I6 MM=>?_) hf);obtain⟨a,MM,ha⟩:=MM
 have Vl:C≠a:=by
  rcases ha with z|z
  ·rw[z];exact fC.2.1
  ·exact λe=>fC.2.2.2.2.1 _ _ z e.symm
 refine⟨m,hm.sameBut MM Vl,λh' Rg=>⟨_,H',I6.turned (t':=s5.toks) (λb o n e=>by rw[Rg.2 b n];exact e) fC.1 fC.2.1 fC.2.2.2.1 fC.2.2.2.2.1 fC.2.2.2.2.2,?_⟩⟩
 rw[<-q4];exact q D1 Hq vs q1 q2 q3
variable{pins:List (Addr×Obj)}{s:Shared}
theorem xh{e:Expr}{f:Ex}(h:JF X e f)(hl:∀ρ d,f ρ=.ok d->∃ds,d=.lst ds):JE X e f:=
 bo h λσ H Q=>by
  rintro⟨ρ,F,d,hr,e,q⟩
  obtain⟨ds,rfl⟩:=hl _ _ e;exact⟨ρ,F,ds,hr,e,λp H' xs sm hp rs=>q _ _ (sm.trans (ah.bZ hp _)) (oP (hr.same sm).aU hp rs)⟩
theorem uI{it:bV}{n:Nat}{fv:List Nat}{tg:bL}{cs:List aY}{el:Ex}(ρ:En)(d:D)(h:bJ it n fv tg cs el ρ=.ok d):∃ds,d=.lst ds:=by
 obtain⟨ds,_,h⟩:=ao.mp h;split at h
 ·obtain⟨ys,_,h⟩:=ao.mp h
  cases h;exact⟨_,rfl⟩
 ·cases h
noncomputable def xP(QU:Scope)(N0:List Str)(scope:Scope)(fv:List Str)(LK:List Nat):Bool:=
 decide (scope.kind=.function)&&scope.names.all (λy=>(decide (y.2≠.cell)||decide (scope.names.lookup y.1=some .cell))&&(decide (y.2≠.local)||decide (scope.names.lookup y.1=some .local))&&(decide (y.2≠.free)||(decide (QU.names.lookup y.1=some .cell)&&decide (scope.names.lookup y.1=some .free))))
  &&decide (fv.length=LK.length)&&(LK.zip fv).all (λp=>decide (N0[p.1]? =some p.2)&&decide ((p.2,NameKind.free)∈scope.names))
theorem fE{scope:Scope}{tn fv:List Str}{LK:List Nat}(QU:Scope)(N0:List Str)(h1:X.env.scope=QU)(h2:X.N=N0)(h:xP QU N0 scope fv LK=true):je X scope tn fv LK:=by
 subst h1 h2;unfold xP at h;rw[sa,sa,sa,FM,FM,Xz,Xz]at h;obtain⟨⟨⟨hk,hn⟩,hl⟩,hf⟩:=h
 have NV:∀y∈scope.names,(y.2≠.cell\/scope.names.lookup y.1=some .cell)/\(y.2≠.local\/scope.names.lookup y.1=some .local)/\(y.2≠.free\/(X.env.scope.names.lookup y.1=some .cell/\scope.names.lookup y.1=some .free)):=λy hy=>by
  have:=hn y hy;simp only[sa,Wl,FM]at this;exact⟨this.1.1,this.1.2,this.2⟩
 refine⟨hk,λy hy hl=>(NV y hy).1.resolve_left (λh=>h hl),λy hy hl=>(NV y hy).2.1.resolve_left (λh=>h hl),λy hy hl=>((NV y hy).2.2.resolve_left (λh=>h hl)).1,λy hy hl=>((NV y hy).2.2.resolve_left (λh=>h hl)).2,λj i hj=>?_,hl⟩;obtain⟨Vz,_⟩:=mO.mp hj;have hx:fv[j]? =some (fv[j]'(by omega)):=KF (by omega)
 have hm:(i,fv[j]'(by omega))∈LK.zip fv:=by
  refine List.mem_iff_getElem?.mpr ⟨j,?_⟩;rw[List.getElem?_zip_eq_some];exact⟨hj,hx⟩
 have:=hf _ hm;simp only[sa,FM]at this;exact⟨_,hx,this.1,this.2⟩
theorem vP{d:D}{v:V}(f:flat d=true)(r:Rep M H F d v):L2.iy v=true:=by
 cases d<;>first|(simp only[Rep]at r;subst r;rfl)|(cases f)
theorem tR:∀ {ds:List D} {vs:List V},ds.all flat=true->ae M H F ds vs->vs.all L2.iy=true
 |[],_,_,r=>by simp only[ae]at r;subst r;rfl
 | d::ds,_,f,r=>by
  rw[UV,sa]at f;simp only[ae]at r;obtain⟨x,t,rfl,r1,r2⟩:=r;rw[UV,vP f.1 r1,tR f.2 r2];rfl
theorem IP{a b:D}{x y:V}(fa:flat a=true)(fb:flat b=true)(ra:Rep M H F a x)(rb:Rep M H F b y):L2.gF x y=br a b:=by
 cases a<;>(try cases fa)<;>cases b<;>(try cases fb)<;>simp only[Rep]at ra rb<;>subst ra<;>subst rb<;>first|rfl|(simp only[L2.gF,br];exact str_beq _ _)
theorem tI:∀ {ds:List D} {vs:List V} {b:D} {y:V},ds.all flat=true->flat b=true->ae M H F ds vs->Rep M H F b y->L2.pq y vs=ds.any λd=>br d b
 |[],_,_,_,_,_,r,_=>by simp only[ae]at r;subst r;rfl
 | d::ds,_,b,y,f,fb,r,rb=>by
  rw[UV,sa]at f;simp only[ae]at r;obtain⟨x,t,rfl,r1,r2⟩:=r;show(L2.gF x y||L2.pq y t)=(br d b||ds.any λd=>br d b);rw[IP f.1 fb r1 rb,tI f.2 fb r2 rb]
theorem xx{ks:List Ky}{xs:List V}{ds:List D}:∀(k:Ky),ks.length=xs.length->ae M H F ds xs->(bS k ks ds=none->L2.da (ks.zip xs) k=none)/\∀d,bS k ks ds=some d->∃v,L2.da (ks.zip xs) k=some v/\Rep M H F d v:=by
 induction ks generalizing xs ds with
 | nil=>
  intro k hl r;cases xs with
  |nil=>exact⟨λ_=>rfl,λd h=>by simp[bS]at h⟩
  |cons _ _=>simp at hl
 | cons a ks ih=>
  intro k hl r;cases xs with
  |nil=>simp at hl
  | cons x xs=>
   cases ds with
   |nil=>simp only[ae]at r;cases r
   | cons d0 ds=>
    simp only[ae]at r;obtain⟨x',t,e,r1,r2⟩:=r;cases e;have ih:=ih (xs:=xs) (ds:=ds) k (by simpa using hl) r2
    have hz:(a::ks).zip (x::xs)=(a,x)::ks.zip xs:=rfl;rw[hz];by_cases hk:a=k
    ·subst hk
     have h1:L2.da ((a,x)::ks.zip xs) a=some x:=by simp[L2.da]
     refine⟨λh=>by simp[bS]at h,λd h=>⟨x,h1,?_⟩⟩
     simp[bS]at h;subst h;exact r1
    ·have h1:L2.da ((a,x)::ks.zip xs) k=L2.da (ks.zip xs) k:=by simp[L2.da,hk]
     rw[h1];refine⟨λh=>ih.1 (by simpa[bS,hk] using h),λd h=>ih.2 d (by simpa[bS,hk] using h)⟩
theorem dH{d:D}{k:Ky}{v:V}(h:keyOf d=some k)(r:Rep M H F d v):v=L2.kV k:=by
 cases d with
 |int i=>cases h;exact bC r
 |str x=>cases h;exact fM r
 |_=>cases h
theorem rH{a:Addr}{ks:List Ky}{ds:List D}{xs:List V}(I:Inv X pins σ H s)(h:eN (aD X) H F a (ks.zip xs))(hl:ks.length=xs.length)(rs:ae (aD X) H F ds xs)(k:Ky):
  ∃vs,s.heap.DictOf (L2.bz X.prog X.w) a vs/\(a==sysModules)=false/\(bS k ks ds=none->valueAt vs k=none)/\∀d,bS k ks ds=some d->∃v u,valueAt vs k=some u/\RelV v u/\Rep (aD X) H F d v:=by
 obtain⟨z,hd,vs,rel,dd⟩:=i9 I h;obtain⟨f1,f2⟩:=xx (M:=aD X) (H:=H) (F:=F) k hl rs;refine⟨vs,dd,hd,λhn=>?_,λd UE=>?_⟩
 ·exact L2.fq.none_of (by rw[<-f1 hn];exact L2.KV.val rel k)
 ·obtain⟨v,hv,rv⟩:=f2 d UE
  obtain⟨u,hu,ru⟩:=L2.fq.some_of (v:=v) (o:=valueAt vs k) (by rw[<-hv];exact L2.KV.val rel k)
  exact⟨v,u,hu,ru,rv⟩
def xA(M:Md):R2:=λx y H Q=>L2.rL M.K x y H Q\/∃F a b d,Rep M H F a x/\Rep M H F b y/\nU a b=.ok d/\∀v,Rep M H F d v->Q v H
theorem Am:L2.fR X (xA (aD X)):=by
 refine L2.fR.or L2.xH ?_;intro value slice pins s σ H x y v u Q I rx ry h hs;obtain⟨F,a,b,d,ra,rb,e,q⟩:=h;unfold nU at e;split at e
 ·rename_i ks vs
  split at e
  ·rename_i k hk
   split at e
   ·rename_i d' hf
    cases e;simp only[Rep]at ra;obtain⟨p,xs,rfl,h1,hl,rs⟩:=ra;cases rx;cases dH hk rb;obtain⟨ws,dd,hd,f1,f2⟩:=rH I h1 hl rs k;obtain⟨w,w',hw,L0,rd⟩:=f2 _ hf;exact Yp dd.typeIs X4.lookup (wpAny_getItem_of (L2.gD ry) dd.mapOf hw ⟨w,H,I.tok _,L0,q w rd⟩) hs
   ·cases e
  ·cases e
 ·cases e
theorem yq:cH M av (xA M):=by
 intro F H x y a b d Q tr ra rb e q;cases a with
 |lst xs=>exact .inl (vE F H x y _ b d Q tr ra rb e q)
 |tup xs=>exact .inl (vE F H x y _ b d Q tr ra rb e q)
 |str z=>exact .inl (vE F H x y _ b d Q tr ra rb e q)
 |ai ks vs=>exact .inr ⟨F,_,b,d,ra,rb,e,λv rv=>q v H (ah.refl H) rv⟩
 |_=>cases e
theorem aN{X:L2.Cx}{pos:Pos}{a b:Expr}{fa fb:Ex}(ha:XE X a fa)(hb:XE X b fb)(hs:L2.mj b:=by exact uz (by rfl)):XE X (.Subscript a b pos) (e2 av fa fb):=⟨have ha:=ha.out;have hb:=hb.out;bo (L2.mQ Am ha hb hs) λσ H Q h=>pY yq h⟩
def pj(M:Md)(neg:Bool):R2:=λx y H Q=>∃F a b k,Rep M H F a x/\Rep M H F b y/\dM a b=.ok (.bl k)/\Q (.bl (if neg then !k else k)) H
theorem zM{a b:D}{k:Bool}(h:dM a b=.ok (.bl k)):(∃ys,(b=.lst ys\/b=.tup ys)/\flat a=true/\ys.all flat=true/\k=ys.any λy=>br y a)\/∃ks vs q,b=.ai ks vs/\keyOf a=some q/\k=(bS q ks vs).isSome:=by
 cases b with
 | lst ys=>
  have h':(if flat a=true/\ys.all flat=true then(R.ok (D.bl (ys.any λy=>br y a)):R D)else .bad)=.ok (.bl k):=by cases a<;>exact h
  split at h'
  ·rename_i c;cases h';exact .inl ⟨ys,.inl rfl,c.1,c.2,rfl⟩
  ·cases h'
 | tup ys=>
  have h':(if flat a=true/\ys.all flat=true then(R.ok (D.bl (ys.any λy=>br y a)):R D)else .bad)=.ok (.bl k):=by cases a<;>exact h
  split at h'
  ·rename_i c;cases h';exact .inl ⟨ys,.inr rfl,c.1,c.2,rfl⟩
  ·cases h'
 | ai ks vs=>
  cases hq:keyOf a with
  |none=>cases a<;>simp[hq]at h
  | some q=>
   refine .inr ⟨ks,vs,q,rfl,rfl,?_⟩;cases a<;>simp[hq]at h<;>exact h.symm
 |str y=>cases a<;>simp at h
 |_=>cases a<;>simp at h
theorem wI(hu:X.A.units+64<cLine):a7 X (compareOp .In) (pj (aD X) false):=by
 intro pins s σ H x y v u Q I rx ry h;obtain⟨F,a,b,k,ra,rb,e,q⟩:=h;rcases zM e with⟨ys,hb,fa,fs,rfl⟩|⟨ks,vs,q',rfl,hq,rfl⟩
 ·have:∃p xs,y=.ref p/\(bt X.K H p xs\/bH X.K H p xs)/\ae (aD X) H F ys xs:=by
   rcases hb with rfl|rfl
   ·simp only[Rep]at rb;obtain⟨p,xs,e,h1,h2⟩:=rb;exact⟨p,xs,e,.inl h1.sq,h2⟩
   ·simp only[Rep]at rb;obtain⟨p,xs,e,h1,h2⟩:=rb;exact⟨p,xs,e,.inr h1.sq,h2⟩
  obtain⟨p,xs,rfl,hs,rs⟩:=this;refine L2.Gb pins s σ H x (.ref p) v u Q I rx ry ⟨p,xs,rfl,hs,vP fa ra,tR fs rs,?_⟩;rw[tI fs fa rs ra];exact q
 ·simp only[Rep]at rb
  obtain⟨p,xs,rfl,h1,hl,rs⟩:=rb;cases ry;cases dH hq ra;obtain⟨ws,dd,hd,f1,f2⟩:=rH I h1 hl rs q';refine wpAny_in_of (L2.gD rx) hd dd.mapOf ?_;cases hf:bS q' ks vs with
  |none=>rw[f1 hf];rw[hf]at q;exact⟨.bl _,H,I.tok _,rfl,q⟩
  |some d=>obtain⟨_,w,hw,_⟩:=f2 d hf;rw[hw];rw[hf]at q;exact⟨.bl _,H,I.tok _,rfl,q⟩
theorem vd(hu:X.A.units+64<cLine):a7 X (compareOp .NotIn) (pj (aD X) true):=by
 intro pins s σ H x y v u Q I rx ry h;obtain⟨F,a,b,k,ra,rb,e,q⟩:=h;rcases zM e with⟨ys,hb,fa,fs,rfl⟩|⟨ks,vs,q',rfl,hq,rfl⟩
 ·have:∃p xs,y=.ref p/\(bt X.K H p xs\/bH X.K H p xs)/\ae (aD X) H F ys xs:=by
   rcases hb with rfl|rfl
   ·simp only[Rep]at rb;obtain⟨p,xs,e,h1,h2⟩:=rb;exact⟨p,xs,e,.inl h1.sq,h2⟩
   ·simp only[Rep]at rb;obtain⟨p,xs,e,h1,h2⟩:=rb;exact⟨p,xs,e,.inr h1.sq,h2⟩
  obtain⟨p,xs,rfl,hs,rs⟩:=this;refine L2.Ee pins s σ H x (.ref p) v u Q I rx ry ⟨p,xs,rfl,hs,vP fa ra,tR fs rs,?_⟩;rw[tI fs fa rs ra];exact q
 ·simp only[Rep]at rb
  obtain⟨p,xs,rfl,h1,hl,rs⟩:=rb;cases ry;cases dH hq ra;obtain⟨ws,dd,hd,f1,f2⟩:=rH I h1 hl rs q';refine wpAny_notIn_of (L2.gD rx) hd dd.mapOf ?_;cases hf:bS q' ks vs with
  |none=>rw[f1 hf];rw[hf]at q;exact⟨.bl _,H,I.tok _,rfl,q⟩
  |some d=>obtain⟨_,w,hw,_⟩:=f2 d hf;rw[hw];rw[hf]at q;exact⟨.bl _,H,I.tok _,rfl,q⟩
theorem vf{a b d:D}(h:dM a b=.ok d):∃k,d=.bl k:=by
 cases b with
 | lst ys=>
  have h':(if flat a=true/\ys.all flat=true then(R.ok (D.bl (ys.any λy=>br y a)):R D)else .bad)=.ok d:=by cases a<;>exact h
  split at h'<;>cases h';exact⟨_,rfl⟩
 | tup ys=>
  have h':(if flat a=true/\ys.all flat=true then(R.ok (D.bl (ys.any λy=>br y a)):R D)else .bad)=.ok d:=by cases a<;>exact h
  split at h'<;>cases h';exact⟨_,rfl⟩
 | ai ks vs=>
  cases hq:keyOf a with
  |none=>cases a<;>simp[hq]at h
  |some q=>cases a<;>simp[hq]at h<;>exact⟨_,h.symm⟩
 |str y=>cases a<;>simp at h
 |_=>cases a<;>simp at h
theorem Hr:gw dM:=λa b d h=>vf h
theorem yP:cH M dM (pj M false):=by
 intro F H x y a b d Q tr ra rb e q;obtain⟨k,rfl⟩:=vf e;exact⟨F,a,b,k,ra,rb,e,q _ _ (ah.refl _) dD⟩
theorem zh{a b d:D}(h:gB a b=.ok d):∃k,dM a b=.ok (.bl k)/\d=.bl (!k):=by
 obtain⟨r,hr,h⟩:=ao.mp h;obtain⟨k,rfl⟩:=vf hr;cases h;exact⟨k,hr,rfl⟩
theorem ui:gw gB:=λa b d h=>let⟨k,_,e⟩:=zh h;⟨_,e⟩
theorem sJ:cH M gB (pj M true):=by
 intro F H x y a b d Q tr ra rb e q;obtain⟨k,hk,rfl⟩:=zh e;exact⟨F,a,b,k,ra,rb,hk,q _ _ (ah.refl _) dD⟩
theorem AX:∀ {ds:List D} {d:D},allB ds=.ok d->∃bs:List Bool,ds=bs.map D.bl/\d=.bl (bs.all id)
 |[],d,h=>by cases h;exact⟨[],rfl,rfl⟩
 | x::ds,d,h=>by
  cases x with
  | bl b=>
   obtain⟨z,hz,h⟩:=ao.mp h;obtain⟨bs,rfl,rfl⟩:=AX hz;cases h;exact⟨b::bs,rfl,rfl⟩
  |_=>cases h
theorem AU:∀ {bs:List Bool} {xs:List V},ae M H F (bs.map D.bl) xs->xs=bs.map V.bl
 |[],_,r=>by simpa[ae] using r
 | b::bs,_,r=>by
  simp only[Re,ae]at r;obtain⟨x,t,rfl,h1,h2⟩:=r;rw[AU h2,gi h1];rfl
theorem Bz:∀ {bs:List Bool} {us:Y5},Vals (bs.map V.bl) us->us=bs.map Value.bool
 |[],_,.nil=>rfl
 |b::bs,_,.cons r t=>by cases r;rw[Bz t];rfl
theorem all_range(bs:List Bool):((List.range bs.length).drop 0).all (λi=>bs.getD i false)=bs.all id:=by
 rw[List.drop_zero]
 induction bs with
 |nil=>rfl
 | cons b bs ih=>
  rw[V6,List.range_succ_eq_map,UV,List.all_map,UV, <-ih];rfl
theorem xW(hc:X.calm=true):bM X (.builtin "all") (λxs H Q=>∃(F:Y8) (p:Addr) (bs:List Bool),xs=[.ref p]/\Rep (aD X) H F (.lst (bs.map D.bl)) (.ref p)/\Q (.bl (bs.all id)) H):=by
 intro pins s σ H xs us Q I r h;obtain⟨F,p,bs,rfl,rp,q⟩:=h;obtain⟨u,rfl,ru⟩:=L2.vals1 r;cases ru;simp only[Rep]at rp;obtain⟨p',xs,e,hl,rs⟩:=rp;cases e;obtain⟨af,rv,pl,hz⟩:=I.list hl.sq;cases AU rs;cases Bz rv;have hh:X.A.in1.in1.handled=none:=I.ok.hd hc;have Mp:p<s.heap.objs.size:=by obtain⟨o,n,e,_⟩:=pl;exact GE e
 refine call_function_tree PySem.F.kind_all PySem.F.plain_all PySem.F.entry_all (PySem.F.args_all1 _) ?_;show wpAny _ _ (pyIter (.ref p) >>= _) _ _ s;refine mB (Xf pl.isList (JO ⟨YA PySem.F.plain_all_loop _,?_⟩));have hsz:((bs.map Value.bool).toArray).size=bs.length:=by simp
 have W:=Walks.list (prog:=X.prog) (w:=X.w) (A:=X.A.in1) (I.ok.hd hc) s.heap.objs.size p (Pi Mp) (bs.map Value.bool).toArray;rw[hsz]at W;refine codeAny_all_loop (A:=X.A) W (λi=>bs.getD i false) (λi v s' Q' E' hP hQ=>?_) (bs.length - 0) 0 _ rfl (Rf _) ⟨⟨_,FS _ rfl,rfl,rfl⟩,Heap.IsList.push pl.isList _⟩ (λh' tk hk=>?_)
 ·have hP:(bs.map Value.bool).toArray[i]? =some v:=hP
  have hQ:Q' (bs.getD i false) s':=hQ
  have:∃b,v=.bool b/\bs.getD i false=b:=by
   rw[Yq,DM]at hP;cases e:bs[i]? with
   |none=>rw[e]at hP;cases hP
   |some b=>rw[e]at hP;cases hP;exact⟨b,rfl,by simp[e]⟩
  obtain⟨b,rfl,hb⟩:=this;rw[hb]at hQ;exact Wh hQ
 ·show EP X pins σ Q _ _
  rw[all_range];have I1:Inv X pins σ H {s with heap:=s.heap.push {cls:=.type "list_iterator",data:=.fields #[.ref p,.int 0 0]} }:=I.kept (t':=s.toks) λb o e=>cp _ e;have fp:=I.jG (H':=H) (b:=s.heap.objs.size) (Fk _) (I.aK.fresh (Fk _));obtain⟨f0,f1,f2,f3,f4,f5⟩:=fp;exact⟨.bl _,H,I1.turned (it:=s.heap.objs.size) (t':=tk) (λb o hb e=>hk b o (by simpa using hb) e) f0 f1 f3 f4 f5,rfl,q⟩
theorem w5:gX M (g1 jr) (λxs H Q=>∃(F:Y8) (p:Addr) (bs:List Bool),xs=[.ref p]/\Rep M H F (.lst (bs.map D.bl)) (.ref p)/\Q (.bl (bs.all id)) H):=by
 intro F H xs as d Q tr rs e q;unfold g1 at e;split at e
 ·obtain⟨x,rfl,r⟩:=rs.one
  unfold jr at e;split at e
  ·obtain⟨bs,rfl,rfl⟩:=AX e
   have r':=r;simp only[Rep]at r;obtain⟨p,ys,rfl,_⟩:=r;exact⟨F,p,bs,rfl,r',q _ _ (ah.refl _) dD⟩
  ·cases e
 ·cases e
theorem lh{o e:Expr}{apos B':Pos}{m:Str}(hb:attributeBase o m X.env (eval o X.env)=eval o X.env)(hn:jZ e=true)(hl:(apos.endLine==B'.line)=true):L2.M1 X o m apos e B':=
 ⟨hb,rR (by simp[hn]) (show 1<30 by decide),hl,by rw[bw hn];rfl⟩
theorem Kz{X:L2.Cx}{o e:Expr}{fo fe:Ex}{apos B':Pos}(ho:XE X o fo)(he:XE X e fe)(m:L2.M1 X o "get" apos e B':=by exact lh oF (by rfl) (by rfl)):XE X (.Call (.Attribute o "get" apos) [e] [] B') (e2 (nO .aj) fo fe):=⟨have ho:=ho.out;have he:=he.out;by
 intro pins s σ H Q I ⟨ρ,F,d,hr,e,q⟩;obtain⟨a,ea,e⟩:=ao.mp e;obtain⟨b,eb,e⟩:=ao.mp e;refine wpAny_Call_method m.base m.wD m.line S7 Yr PySem.F.type_dict_get (L2.aL (ho pins s σ H _ I ⟨ρ,F,a,hr,ea,λv H1 s1 rv=>(⟨s1,rv⟩:ah H H1/\Rep (aD X) H1 F a v)⟩) λu s1 ⟨x,H1,I1,rx,Qo,ra⟩=>?_);cases a with
 | ai ks vs=>
  cases hk:keyOf b with
  |none=>simp only[nO,hk]at e;cases e
  | some k=>
   simp only[nO,hk]at e;cases e;have VR:=ra;simp only[Rep]at ra;obtain⟨p,xs,rfl,h1,hl,rs⟩:=ra;cases rx;obtain⟨_,_,ws,_,o',es,ep,e1,e2,e3,_⟩:=i9 I1 h1;refine⟨⟨o',e1,e2.1⟩,λc hc=>by cases hc;exact⟨o',e1,e2.2.1⟩,?_⟩
   rw[m.trees];refine VY rfl (Xs (W6 (L2.aL (he pins s1 σ H1 _ I1 ⟨ρ,F,b,hr.same Qo,eb,λv H2 s2 rv=>(⟨s2,rv⟩:ah H1 H2/\Rep (aD X) H2 F b v)⟩) λiv s2 ⟨y,H2,I2,ry,OB,rb⟩=>Xe ?_)));have h2:=h1.mv (M:=aD X) (F':=F) (.same OB);have Ob:=rs.mv (M:=aD X) (F':=F) (.same OB);cases dH hk rb;obtain⟨ws,dd,hd,f1,f2⟩:=rH I2 h2 hl Ob k;refine WC Yr dd.typeIs PySem.F.entry_dict_get (PySem.F.args_dict_get_2 _ _) (meets_dict_get (L2.bz X.prog X.w) p (L2.gD ry) hd) ⟨_,dd.mapOf,?_⟩;cases hf:bS k ks vs with
   | none=>
    rw[f1 hf];rw[hf]at q;exact⟨.aj,H2,I2.tok _,rfl,q _ _ (Qo.trans OB) fF⟩
   | some d'=>
    obtain⟨v,w,hw,L0,rd⟩:=f2 d' hf;rw[hw];rw[hf]at q;exact⟨v,H2,I2.tok _,L0,q _ _ (Qo.trans OB) rd⟩
 |_=>cases e⟩
variable{prog:Program}{w:World}{A:Around}{E:Value->Shared->Prop}
theorem IX{it t:Addr}{i:Nat}{items:Array Value}{x:Value}{Q:Value->Shared->Prop}(hit:s.heap.IsTupleIter it t i)(ht:s.heap.IsTuple t items)(hx:items[i]? =some x)
  (hQ:∀h',h'.IsTupleIter it t (i+1)->Heap.SameBut it s.heap h'->Q x {s with heap:=h'}):wpAny (model prog w) A (Builtin.SmallTypes.nextOf (.ref it)) Q E s:=by
 obtain⟨oi,OP,TB,N'⟩:=id hit;obtain⟨ot,R4,_,nt,Sn⟩:=ht;unfold Builtin.SmallTypes.nextOf;refine mB (WL (name:=Str.ofString "__next__") hit.typeIs Wb (WX Wb hit.typeIs Xq ?_ (Xn _)));show wpAny _ _ (PySem.field (.ref it) 0 >>= _) _ _ s;refine mB (V8 OP N' (x:=.ref t) rfl ?_);show wpAny _ _ (if(Value.ref t==Value.none)=true then _ else _) _ _ s;rw[Da (show ¬((Value.ref t==Value.none)=true)from S5)]
 show wpAny _ _ (PySem.field (.ref it) 1 >>= _) _ _ s;refine mB (V8 OP N' (x:=.int i 0) rfl ?_);show wpAny _ _ (seqItems? (.ref t) >>= _) _ _ s;refine mB (Wc R4 Sn ?_);simp only[YG,hx];exact mB (wpAny_setField OP N' (by simp) (JO ⟨x,rfl,JO (hQ _ ⟨_,YS _ OP (Obj.isFreed_of_fields (Obj.data_mapFields N' _)),(Obj.cls_mapFields ..).trans TB,by rw[Obj.data_mapFields N'];simp[rawInt]⟩ (Heap.SameBut.update ..))⟩))
theorem HW{it t:Addr}{i:Nat}{items:Array Value}{Q:Value->Shared->Prop}(hh:A.handled=none)(hit:s.heap.IsTupleIter it t i)(ht:s.heap.IsTuple t items)(hx:items[i]? =none)
  (hE:∀h' e,Heap.ExtBut it s.heap h'->(∃o,h'.get? e=some o/\o.cls=.type "StopIteration")->E (.ref e) {s with heap:=h'}):wpAny (model prog w) A (Builtin.SmallTypes.nextOf (.ref it)) Q E s:=by
 obtain⟨oi,OP,TB,N'⟩:=id hit;obtain⟨ot,R4,_,nt,Sn⟩:=ht;unfold Builtin.SmallTypes.nextOf;refine mB (WL (name:=Str.ofString "__next__") hit.typeIs Wb (WX Wb hit.typeIs Xq ?_ (Xn _)));show wpAny _ _ (PySem.field (.ref it) 0 >>= _) _ _ s;refine mB (V8 OP N' (x:=.ref t) rfl ?_);show wpAny _ _ (if(Value.ref t==Value.none)=true then _ else _) _ _ s;rw[Da (show ¬((Value.ref t==Value.none)=true)from S5)]
 show wpAny _ _ (PySem.field (.ref it) 1 >>= _) _ _ s;refine mB (V8 OP N' (x:=.int i 0) rfl ?_);show wpAny _ _ (seqItems? (.ref t) >>= _) _ _ s;refine mB (Wc R4 Sn ?_);simp only[YG,hx];refine mB (Yv (mB (wpAny_setField OP N' (by simp) ?_)))
 show wpAny _ _ (newExc (.type "StopIteration") [] >>= _) _ _ _;refine mB ?_;simp only[newExc,newTuple];refine mB (XU (mB (m:=firstArgMember _ _) (wpAny_of_eq (a:=Value.none) (by first|rfl|(simp only[firstArgMember];rfl)) (XU ?_ (by size_fits)))) (by size_fits))
 simp only[raiseNew];refine mB (wpAny_handled ?_)
 first|rw[show A.in1.handled=none from hh]|rw[hh]
 exact mB (JO (wpAny_throw (hE _ _ (((Heap.SameBut.update ..).extBut.push _).push _) ⟨_,FS _ rfl,rfl⟩)))
end
theorem Hs{prog:Program}{w:World}{A:Around}(hh:A.handled=none)(it l:Addr)(C':l≠it)(items:Array Value):
  Draws prog w A it [it,l] items.size (λi v=>items[i]? =some v) (λi h=>h.IsTupleIter it l i/\h.IsTuple l items) where
 live _ _ st:=let⟨o,ho,_⟩:=st.1;⟨o,ho⟩
 frame _ _ _ st hk:=⟨let⟨o,ho,r⟩:=st.1;⟨o,hk it (by simp) o ho,r⟩,let⟨o,ho,r⟩:=st.2;⟨o,hk l (by simp) o ho,r⟩⟩
 item i s Q E hi st hQ:=IX st.1 st.2 (x:=items[i]) (by simp[hi]) λh' O' OU=>hQ _ h' s.toks (by simp[hi]) ⟨O',let⟨o,ho,r⟩:=st.2;⟨o,OU.extBut l o C' ho,r⟩⟩ OU
 done s Q E st hE:=HW hh st.1 st.2 (by simp) hE
structure pV(z TI TO i1 i2:Addr)(f1 f2:Y3):Prop where
 TIz:TI≠z
 TOz:TO≠z
 i1z:i1≠z
 i2z:i2≠z
 TITO:TI≠TO
 TIi1:TI≠i1
 TIi2:TI≠i2
 TOi1:TO≠i1
 TOi2:TO≠i2
 i12:i1≠i2
 qM:z∉f1
 yr:TO∉f1
 Dk:i2∉f1
 uK:z∉f2
 wq:TO∉f2
 As:i1∉f2
section
variable{prog:Program}{w:World}{A:Around}{E:Value->Shared->Prop}{s:Shared}{z TI TO i1 i2:Addr}{f1 f2:Y3}{n1 n2 k:Nat}{P1 P2:Nat->Value->Prop}{S1 S2:Nat->Heap->Prop}{a b:Value}
theorem fr_but{prog:Program}{w:World}{A:Around}{it:Addr}{fp:Y3}{n:Nat}{P:Nat->Value->Prop}{St:Nat->Heap->Prop}(D:Draws prog w A it fp n P St){i:Nat}{c:Addr}{h h':Heap}(st:St i h)(hc:c∉fp)(hs:Heap.SameBut c h h'):St i h':=
 D.frame i h h' st λb hb o e=>hs.extBut b o (λq=>hc (by rw[<-q];exact hb)) e
theorem Jq(D1:Draws prog w A i1 f1 n1 P1 S1)(D2:Draws prog w A i2 f2 n2 P2 S2)(ap:pV z TI TO i1 i2 f1 f2)(hz:IsZip s.heap z TI TO .none)(NR:IsPair s.heap TI (.ref i1) (.ref i2))(NX:IsPair s.heap TO a b)
  (bw:S1 k s.heap) (Nn:S2 k s.heap) (h1:k<n1) (h2:k<n2) {Q:Value->Shared->Prop}
  (hQ:∀x y h' tk,P1 k x->P2 k y->IsZip h' z TI TO (rawInt s.heap.objs.size)->IsPair h' TO x y->S1 (k+1) h'->S2 (k+1) h'->IsPair h' s.heap.objs.size x y->
   (∀c o,c≠z->c≠TO->c≠i1->c≠i2->s.heap.get? c=some o->h'.get? c=some o)->Q (.ref s.heap.objs.size) {s with heap:=h',toks:=tk}):
  wpAny (model prog w) A (Builtin.«zip.__next__» ⟨[.ref z],[]⟩) (λfin s'=>∃v,fin=.done (.ret v)/\Q v s') E s:=by
 show wpAny _ _ (PySem.field (.ref z) 2 >>= _) _ _ _;refine mB (V8 hz rfl (x:=.bool false) rfl ?_);show wpAny _ _ (PySem.field (.ref z) 3 >>= _) _ _ _;refine mB (V8 hz rfl (x:=.ref TI) rfl (mB (Wc NR rfl ?_)));show wpAny _ _ (Builtin.SmallTypes.ownedTupleIsFree (.ref z) >>= _) _ _ _;refine mB ?_;unfold Builtin.SmallTypes.ownedTupleIsFree;refine mB (V8 hz rfl (x:=.none) rfl (JO ?_));simp only[Xc];refine mB (Yv (mB (V8 hz rfl (x:=.ref TO) rfl (mB (Wo hz (by simp) λha OQ NU=>?_)))))
 replace OQ:IsZip ha z TI TO .ellipsis:=OQ
 refine mB ?_;simp only[YN,YT,WA,YZ];refine mB (mB (XJ ?_));show wpAny _ _ (Builtin.SmallTypes.nextOf (.ref i1) >>= _) _ _ _;refine mB (D1.item k _ _ _ h1 (fr_but D1 bw ap.qM NU) λx hb tb px S0 MM=>JO ?_);have N3:IsPair hb TO a b:=MM.extBut _ _ ap.TOi1 (NU.extBut _ _ ap.TOz NX);refine mB (Wc N3 rfl (mB (Xw N3 λhc OH NY=>?_)))
 replace OH:IsPair hc TO x b:=OH
 refine mB (Y0 (JO (mB (mB (XJ ?_)))));show wpAny _ _ (Builtin.SmallTypes.nextOf (.ref i2) >>= _) _ _ _;refine mB (D2.item k _ _ _ h2 (fr_but D2 (fr_but D2 (fr_but D2 Nn ap.uK NU) ap.As MM) ap.wq NY) λy hd td py RH ON=>JO ?_);have Qs:IsPair hd TO x b:=ON.extBut _ _ ap.TOi2 OH;refine mB (Wc Qs rfl (mB (Xw Qs λhe Oy Qx=>?_)))
 replace Oy:IsPair he TO x y:=Oy
 refine mB (Y0 (JO (JO (mB (Wc Oy rfl (mB (wpAny_newTuple ?_)))))));have hsz:he.objs.size=s.heap.objs.size:=by rw[Qx.1,ON.1,NY.1,MM.1,NU.1]
 have Tx:IsZip he z TI TO .ellipsis:=Qx.extBut _ _ ap.TOz.symm (ON.extBut _ _ ap.i2z.symm (NY.extBut _ _ ap.TOz.symm (MM.extBut _ _ ap.i1z.symm OQ)));have U3:∀c o,c≠z->c≠TO->c≠i1->c≠i2->s.heap.get? c=some o->he.get? c=some o:=λc o c1 c2 c3 c4 e=>Qx.extBut _ _ c2 (ON.extBut _ _ c4 (NY.extBut _ _ c2 (MM.extBut _ _ c3 (NU.extBut _ _ c1 e))));have U8:S1 (k+1) he:=fr_but D1 (fr_but D1 (fr_but D1 S0 ap.yr NY) ap.Dk ON) ap.yr Qx;have U9:S2 (k+1) he:=fr_but D2 RH ap.wq Qx;have Ov:z<he.objs.size:=GE Tx;show wpAny _ _ (Builtin.SmallTypes.ownedTupleHandOut (.ref z) (.ref he.objs.size) >>= _) _ _ _;refine mB ?_;unfold Builtin.SmallTypes.ownedTupleHandOut;have Ux:IsZip (he.push {cls:=.type "tuple",data:=.seq #[x,y]}) z TI TO .ellipsis:=cp _ Tx;refine mB (Wo Ux (by simp) λhg RZ SY=>?_)
 replace RZ:IsZip hg z TI TO (rawInt he.objs.size):=RZ
 refine Wo RZ (by simp) λhi QR To=>?_
 replace QR:IsZip hi z TI TO (rawInt he.objs.size):=QR
 have up:∀c o,c≠z->he.get? c=some o->hi.get? c=some o:=λc o c1 e=>To.extBut _ _ c1 (SY.extBut _ _ c1 (cp _ e));have TL:IsPair hi he.objs.size x y:=To.extBut _ _ (Wr Ov) (SY.extBut _ _ (Wr Ov) (FS _ rfl));rw[hsz]at QR TL;refine JO ⟨_,rfl,?_⟩;show Q (.ref he.objs.size) _;rw[hsz]
 exact hQ x y hi td px py QR (up _ _ ap.TOz Oy) (D1.frame _ _ _ U8 λc M7 o e=>up c o (λq=>ap.qM (by rw[<-q];exact M7)) e) (D2.frame _ _ _ U9 λc M7 o e=>up c o (λq=>ap.uK (by rw[<-q];exact M7)) e) TL
  λc o c1 c2 c3 c4 e=>up c o c1 (U3 c o c1 c2 c3 c4 e)
theorem Hj(D1:Draws prog w A i1 f1 n1 P1 S1)(D2:Draws prog w A i2 f2 n2 P2 S2)(ap:pV z TI TO i1 i2 f1 f2)(hz:IsZip s.heap z TI TO .none)(NR:IsPair s.heap TI (.ref i1) (.ref i2))(NX:IsPair s.heap TO a b)
  (bw:S1 k s.heap) (Nn:S2 k s.heap) (MV:k=n1\/(k<n1/\k=n2)) {Q:Fin->Shared->Prop}
  (hE:∀h' tk e,(∀c o,c≠z->c≠TO->c≠i1->c≠i2->s.heap.get? c=some o->h'.get? c=some o)->(∃o,h'.get? e=some o/\o.cls=.type "StopIteration")->E (.ref e) {s with heap:=h',toks:=tk}):
  wpAny (model prog w) A (Builtin.«zip.__next__» ⟨[.ref z],[]⟩) Q E s:=by
 show wpAny _ _ (PySem.field (.ref z) 2 >>= _) _ _ _;refine mB (V8 hz rfl (x:=.bool false) rfl ?_);show wpAny _ _ (PySem.field (.ref z) 3 >>= _) _ _ _;refine mB (V8 hz rfl (x:=.ref TI) rfl (mB (Wc NR rfl ?_)));show wpAny _ _ (Builtin.SmallTypes.ownedTupleIsFree (.ref z) >>= _) _ _ _;refine mB ?_;unfold Builtin.SmallTypes.ownedTupleIsFree;refine mB (V8 hz rfl (x:=.none) rfl (JO ?_));simp only[Xc];refine mB (Yv (mB (V8 hz rfl (x:=.ref TO) rfl (mB (Wo hz (by simp) λha OQ NU=>?_)))))
 replace OQ:IsZip ha z TI TO .ellipsis:=OQ
 refine mB ?_;simp only[YN,YT,WA,YZ];refine mB (mB (XJ ?_));show wpAny _ _ (Builtin.SmallTypes.nextOf (.ref i1) >>= _) _ _ _;rcases MV with rfl|⟨h1,rfl⟩
 ·refine mB (D1.done _ _ _ (fr_but D1 bw ap.qM NU) λhb e MM he=>?_)
  obtain⟨oe,Pu,Py⟩:=he;have SO:IsZip hb z TI TO .ellipsis:=MM _ _ ap.i1z.symm OQ;have Rk:e≠z:=λx=>by subst x;rw[SO]at Pu;cases Pu;simp at Py
  exact Wo SO (by simp) λhc _ NY=>hE hc _ e (λc o c1 _ c3 _ x=>NY.extBut _ _ c1 (MM _ _ c3 (NU.extBut _ _ c1 x))) ⟨oe,NY.extBut _ _ Rk Pu,Py⟩
 ·refine mB (D1.item k _ _ _ h1 (fr_but D1 bw ap.qM NU) λx hb tb px S0 MM=>JO ?_)
  have N3:IsPair hb TO a b:=MM.extBut _ _ ap.TOi1 (NU.extBut _ _ ap.TOz NX);refine mB (Wc N3 rfl (mB (Xw N3 λhc OH NY=>?_)));refine mB (Y0 (JO (mB (mB (XJ ?_)))));show wpAny _ _ (Builtin.SmallTypes.nextOf (.ref i2) >>= _) _ _ _;refine mB (D2.done _ _ _ (fr_but D2 (fr_but D2 (fr_but D2 Nn ap.uK NU) ap.As MM) ap.wq NY) λhd e ON he=>?_);obtain⟨oe,Pu,Py⟩:=he;have S9:IsZip hd z TI TO .ellipsis:=ON _ _ ap.i2z.symm (NY.extBut _ _ ap.TOz.symm (MM.extBut _ _ ap.i1z.symm OQ));have Rk:e≠z:=λx=>by subst x;rw[S9]at Pu;cases Pu;simp at Py
  exact Wo S9 (by simp) λhf _ Th=>hE hf _ e (λc o c1 c2 c3 c4 x=>Th.extBut _ _ c1 (ON _ _ c4 (NY.extBut _ _ c2 (MM.extBut _ _ c3 (NU.extBut _ _ c1 x))))) ⟨oe,Th.extBut _ _ Rk Pu,Py⟩
end
inductive Sd where
 |l (a:Addr)|t (a:Addr)|s (z:Str)
def Sd.at(K:PySem.W.Frag)(H:Hp):Sd->List V->Prop
 |.l a,xs=>bt K H a xs
 |.t a,xs=>bH K H a xs
 |.s z,xs=>xs=z.cps.toList.map λc=>.str ⟨#[c]⟩
noncomputable def Sd.val:Sd->Tok->Value
 |.l a,_=>.ref a
 |.t a,_=>.ref a
 |.s z,tk=>.str z tk
noncomputable def Sd.obj:Sd->Tok->Obj
 |.l a,_=>{cls:=.type "list_iterator",data:=.fields #[.ref a,.int 0 0]}
 |.t a,_=>{cls:=.type "tuple_iterator",data:=.fields #[.ref a,.int 0 0]}
 |.s z,tk=>{cls:=.type (if z.cps.all (· <128)then "str_ascii_iterator" else "str_iterator"),data:=.fields #[.str z tk,.int 0 0]}
def Sd.iT(it:Addr)(i:Nat)(h:Heap)(tk:Tok):Sd->Prop
 |.l a=>h.IsListIter it a i
 |.t a=>h.IsTupleIter it a i
 |.s z=>h.IsStrIter it (if z.cps.all (· <128)then "str_ascii_iterator" else "str_iterator") z tk i
section
variable{X:Cx}{pins:List (Addr×Obj)}{σ:L2.St}{H:Hp}{s:Shared}{d:Sd}{xs:List V}
theorem Sd.inj(I:Inv X pins σ H s){ys:List V}(h:d.at X.K H xs)(h':d.at X.K H ys):xs=ys:=by
 cases d with
 |l a=>exact I.AO h h'
 |t a=>exact I.A5 h h'
 |s z=>exact h.trans h'.symm
theorem Sd.draws{it:Addr}{tk:Tok}{A:Around}(I:Inv X pins σ H s)(hh:A.handled=none)(h:d.at X.K H xs)(hn:H it=none)(hK:X.K.lookup it=none):
  ∃(fp:Y3) (P:Nat->Value->Prop) (St:Nat->Heap->Prop),Draws X.prog X.w A it fp xs.length P St/\(∀i x,P i x->∃v,xs[i]? =some v/\RelV v x)/\(∀i h',St i h'->d.iT it i h' tk)/\(∀i,d.iT it i s.heap tk->St i s.heap)/\
   (∀c∈fp,c=it\/(H c≠none\/∃o,X.K.lookup c=some o)):=by
 have nl:∀a:Addr,(H a≠none\/∃o,X.K.lookup a=some o)->a≠it:=λa h z=>by
  subst z;rcases h with h|⟨o,h⟩
  ·exact h hn
  ·rw[hK]at h;cases h
 cases d with
 | l a=>
  obtain⟨af,rv,pl,hz⟩:=I.list h
  have tr:H a≠none\/∃o,X.K.lookup a=some o:=by
   rcases h with(h|⟨o,h⟩)|⟨o,_,_,h,_⟩
   ·exact .inl (by rw[h];simp)
   ·exact .inl (by rw[h];simp)
   ·exact .inr ⟨o,h⟩
  have D:=Draws.list (prog:=X.prog) (w:=X.w) (A:=A) hh it a (nl a tr) af.toArray;rw[Gc, <-rv.length]at D;refine⟨_,_,_,D,λi x hx=>?_,λi h' st=>st.1,λi st=>⟨st,pl.isList⟩,λc hc=>?_⟩
  ·have hx:af[i]? =some x:=by simpa using hx
   have hi:i<xs.length:=by rw[rv.length];exact(mO.mp hx).1
   obtain⟨u,hu,ru⟩:=rv.get (KF hi);rw[hx]at hu;cases hu;exact⟨_,KF hi,ru⟩
  ·simp only[AC,Mk,VZ]at hc
   rcases hc with rfl|rfl
   ·exact .inl rfl
   ·exact .inr tr
 | t a=>
  obtain⟨af,rv,pl,hz⟩:=I.tuple h
  have tr:H a≠none\/∃o,X.K.lookup a=some o:=by
   rcases h with(h|⟨o,h⟩)|⟨o,_,_,h,_⟩
   ·exact .inl (by rw[h];simp)
   ·exact .inl (by rw[h];simp)
   ·exact .inr ⟨o,h⟩
  have D:=Hs (prog:=X.prog) (w:=X.w) (A:=A) hh it a (nl a tr) af.toArray;rw[Gc, <-rv.length]at D;refine⟨_,_,_,D,λi x hx=>?_,λi h' st=>st.1,λi st=>⟨st,pl⟩,λc hc=>?_⟩
  ·have hx:af[i]? =some x:=by simpa using hx
   have hi:i<xs.length:=by rw[rv.length];exact(mO.mp hx).1
   obtain⟨u,hu,ru⟩:=rv.get (KF hi);rw[hx]at hu;cases hu;exact⟨_,KF hi,ru⟩
  ·simp only[AC,Mk,VZ]at hc
   rcases hc with rfl|rfl
   ·exact .inl rfl
   ·exact .inr tr
 | s z=>
  have h:xs=z.cps.toList.map λc=>.str ⟨#[c]⟩:=h;subst h
  have key:∀(i:Nat) (x:Value),(∃c u,z.cps[i]? =some c/\x=.str ⟨#[c]⟩ u)->∃v,(z.cps.toList.map λc=>V.str ⟨#[c]⟩)[i]? =some v/\RelV v x:=by
   rintro i x ⟨c,u,hc,rfl⟩;exact⟨.str ⟨#[c]⟩,by simp[hc],⟨u,rfl⟩⟩
  cases ha:z.cps.all (· <128)with
  | true=>
   have D:=Draws.strAscii (prog:=X.prog) (w:=X.w) (A:=A) hh it z tk;refine⟨_,_,_,by simpa using D,key,λi h' st=>?_,λi st=>?_,λc hc=>.inl (by simpa using hc)⟩
   ·show h'.IsStrIter it (if z.cps.all (· <128)then "str_ascii_iterator" else "str_iterator") z tk i
    rw[ha];exact st
   ·have st:s.heap.IsStrIter it (if z.cps.all (· <128)then "str_ascii_iterator" else "str_iterator") z tk i:=st
    rw[ha]at st;exact st
  | false=>
   have D:=Draws.strWide (prog:=X.prog) (w:=X.w) (A:=A) hh it z tk;refine⟨_,_,_,by simpa using D,key,λi h' st=>?_,λi st=>?_,λc hc=>.inl (by simpa using hc)⟩
   ·show h'.IsStrIter it (if z.cps.all (· <128)then "str_ascii_iterator" else "str_iterator") z tk i
    rw[ha];exact st
   ·have st:s.heap.IsStrIter it (if z.cps.all (· <128)then "str_ascii_iterator" else "str_iterator") z tk i:=st
    rw[ha]at st;exact st
end
theorem Sd.qK{d:Sd}{it:Addr}{i:Nat}{h h':Heap}{t:Tok}(st:d.iT it i h t)(k:∀o,h.get? it=some o->h'.get? it=some o):d.iT it i h' t:=by
 cases d with
 |l a=>obtain⟨o,e,r⟩:=st;exact⟨o,k o e,r⟩
 |t a=>obtain⟨o,e,r⟩:=st;exact⟨o,k o e,r⟩
 |s z=>obtain⟨o,e,r⟩:=st;exact⟨o,k o e,r⟩
theorem Sd.rN{d:Sd}{it:Addr}{i:Nat}{h:Heap}{t:Tok}(st:d.iT it i h t):∃o,h.get? it=some o/\∀v,o.data≠.cell v:=by
 cases d with
 |l a=>obtain⟨o,e,c,r⟩:=st;exact⟨o,e,λv z=>by rw[r]at z;cases z⟩
 |t a=>obtain⟨o,e,c,r⟩:=st;exact⟨o,e,λv z=>by rw[r]at z;cases z⟩
 |s z=>obtain⟨o,e,c,r⟩:=st;exact⟨o,e,λv z=>by rw[r]at z;cases z⟩
noncomputable def uB(K:PySem.W.Frag)(d e:Sd):It where
 go i H:=∃xs ys,d.at K H xs/\e.at K H ys/\i<xs.length/\i<ys.length
 lV i H v H':=∃t x y,v=.ref t/\H t=none/\(∀xs,d.at K H xs->xs[i]? =some x)/\(∀ys,e.at K H ys->ys[i]? =some y)/\H'=upd H t (.tup [x,y])
 stop i H:=∃xs ys,d.at K H xs/\e.at K H ys/\(i=xs.length\/(i<xs.length/\i=ys.length))
def Jf(d e:Sd)(td te:Tok)(z TI TO i1 i2:Addr)(i:Nat)(h:Heap):Prop:=
 IsZip h z TI TO .none/\IsPair h TI (.ref i1) (.ref i2)/\(∃a b,IsPair h TO a b)/\d.iT i1 i h td/\e.iT i2 i h te
theorem Gp{P:Program}{w:World}{K:PySem.W.Frag}{elts:Y4}{k:Nat}{tp:Pos}(d e:Sd)(td te:Tok)(z TI TO i1 i2:Addr)(ne:[z,TI,TO,i1,i2].Nodup)(hK:∀b∈[z,TI,TO,i1,i2],K.lookup b=none):
  Turn P w K (.Tuple elts k tp) (uB K d e) [z,TI,TO,i1,i2] z (Jf d e td te z TI TO i1 i2) where
 mem:=by simp
 obj i h st b hb:=by
  obtain⟨hz,NR,⟨a,b',NX⟩,h1,h2⟩:=st;simp only[AC,Mk,VZ]at hb;rcases hb with rfl|rfl|rfl|rfl|rfl
  ·exact⟨_,hz,λv q=>by cases q⟩
  ·exact⟨_,NR,λv q=>by cases q⟩
  ·exact⟨_,NX,λv q=>by cases q⟩
  ·exact Sd.rN h1
  ·exact Sd.rN h2
 keep i h h' st kk:=by
  obtain⟨hz,NR,⟨a,b',NX⟩,h1,h2⟩:=st;exact⟨kk z (by simp) _ hz,kk TI (by simp) _ NR,⟨a,b',kk TO (by simp) _ NX⟩,Sd.qK h1 λo q=>kk i1 (by simp) o q,Sd.qK h2 λo q=>kk i2 (by simp) o q⟩
 item := by
  intro X hP hw R1 hc i pins s σ H E I hf st hg;subst hP hw R1;obtain⟨xs,ys,ax,ay,hx,hy⟩:=hg;obtain⟨hz,NR,⟨a,b,NX⟩,h1,h2⟩:=st;have hh:X.A.in1.handled=none:=I.ok.hd hc;have un:∀b∈[z,TI,TO,i1,i2],H b=none:=λb hb=>(hf b hb).1;obtain⟨f1,P1,S1,D1,p1,s1,O1,q1⟩:=Sd.draws (it:=i1) (tk:=td) (A:=X.A.in1) I hh ax (un i1 (by simp)) (hK i1 (by simp))
  obtain⟨f2,P2,S2,D2,p2,s2,Sv,q2⟩:=Sd.draws (it:=i2) (tk:=te) (A:=X.A.in1) I hh ay (un i2 (by simp)) (hK i2 (by simp))
  have out:∀ {fp:Y3} {it:Addr},(∀c∈fp,c=it\/(H c≠none\/∃o,X.K.lookup c=some o))->∀b∈[z,TI,TO,i1,i2],b≠it->b∉fp:=λq b hb C' hm=>by
   rcases q b hm with h|h|⟨o,h⟩
   ·exact C' h
   ·exact h (un b hb)
   ·rw[hK b hb]at h;cases h
  simp only[GM,AC,Mk,VZ,YB,Wq,Y1,W5]at ne;obtain⟨⟨n1,n2,n3,n4⟩,⟨n5,n6,n7⟩,⟨n8,n9⟩,O3⟩:=ne;have ap:pV z TI TO i1 i2 f1 f2:=⟨Os n1,Os n2,Os n3,Os n4,n5,n6,n7,n8,n9,O3,out q1 z (by simp) n3,out q1 TO (by simp) n8,out q1 i2 (by simp) (Os O3),out q2 z (by simp) n4,out q2 TO (by simp) n9,out q2 i1 (by simp) O3⟩
  have hT:s.TypeIs (.ref z) "zip":=⟨_,hz,rfl⟩;unfold pyNext;refine mB (wpAny_attempt (WL (name:=Str.ofString "__next__") hT WM (WX WM hT Ym (Jq D1 D2 ap hz NR NX (O1 i h1) (Sv i h2) hx hy λx y h' tk px py UX Ry bw Nn hp hk=>JO ?_) (Yd _))));obtain⟨v1,e1,r1⟩:=p1 i x px;obtain⟨v2,e2,r2⟩:=p2 i y py;refine⟨_,rfl,wpAny_letOwnedTupleGo_zip UX λNh NM Mu=>?_⟩;have Ov:z<s.heap.objs.size:=GE hz;have Tz:s.heap.objs.size≠z:=Wr Ov;have MQ:∀c o,c≠z->c≠TO->c≠i1->c≠i2->s.heap.get? c=some o->Nh.get? c=some o:=λc o c1 c2 c3 c4 q=>Mu.extBut _ _ c1 (hk c o c1 c2 c3 c4 q);have R':IsPair Nh s.heap.objs.size x y:=Mu.extBut _ _ Tz hp;have nT:H s.heap.objs.size=none:=I.aK.fresh (Fk _);have aU:∀c u,H c=some u->c≠z/\c≠TO/\c≠i1/\c≠i2:=λc u q=>by refine⟨?_,?_,?_,?_⟩<;>(intro w;rw[w,un _ (by simp)]at q;cases q)
  have Nb:∀c,c∉[z,TO,i1,i2]->c≠z/\c≠TO/\c≠i1/\c≠i2:=λc M7=>by simpa[YB] using M7
  have u:Un (L2.eF X.stack) [z,TO,i1,i2] H (upd H s.heap.objs.size (.tup [v1,v2])) s.heap Nh:=
   ⟨λb o q n Qb LY=>let m:=Nb b LY;MQ b o m.1 m.2.1 m.2.2.1 m.2.2.2 q,λb o q n Qb LY=>let m:=Nb b LY;⟨o.slots,MQ b o m.1 m.2.1 m.2.2.1 m.2.2.2 q⟩,λb o q n LY=>by rw[L2.aE (Pi (GE q))];exact n,
    λb o q LY=>let m:=Nb b LY;⟨o,MQ b o m.1 m.2.1 m.2.2.1 m.2.2.2 q⟩,λb zs q=>by rw[L2.aE (L2.eI q nT)];exact q,λb o zs q=>by rw[L2.aE (L2.eI q nT)];exact q,λb ps q=>⟨#[],by rw[L2.aE (L2.eI q nT),q];simp⟩⟩
  have aK:L2.b6 X.prog X.w (upd H s.heap.objs.size (.tup [v1,v2])) Nh:=λb ob q=>by
   by_cases hb:b=s.heap.objs.size
   ·subst hb
    rw[L2.aV]at q;cases q;exact⟨show 2<=sizeLine by decide,[x,y],.cons r1 (.cons r2 .nil),⟨_,R',rfl,_,rfl⟩⟩
   ·rw[L2.aE hb]at q
    refine(I.aK b ob q).ie (λc v N7 w=>?_) (λc w=>by rw[L2.aE (L2.eI w nT)];exact w) λc zs w=>by rw[L2.aE (L2.eI w nT)];exact w
    have tc:∃u,H c=some u:=by
     rcases N7 with rfl|N7
     ·exact⟨_,q⟩
     ·exact⟨_,N7⟩
    obtain⟨u',OO⟩:=tc;have m:=aU c u' OO;exact MQ c v m.1 m.2.1 m.2.2.1 m.2.2.2 w
  have I2:Inv X pins σ (upd H s.heap.objs.size (.tup [v1,v2])) {s with heap:=Nh,toks:=tk}:=I.qG (s':={s with heap:=Nh,toks:=tk}) (ch:=[z,TO,i1,i2]) rfl u aK I.bare λb hb=>by
   have Mt:b∈[z,TI,TO,i1,i2]:=by
    simp only[AC,Mk,VZ]at hb ⊢;rcases hb with h|h|h|h<;>simp[h]
   obtain⟨_,a1,a2,a3,a4,a5⟩:=hf b Mt;exact⟨a3,a1,a4,a5⟩
  have UD:∀b∈[z,TI,TO,i1,i2],b≠s.heap.objs.size:=λb hb=>by
   have:∃o,s.heap.get? b=some o:=by
    simp only[AC,Mk,VZ]at hb;rcases hb with rfl|rfl|rfl|rfl|rfl
    ·exact⟨_,hz⟩
    ·exact⟨_,NR⟩
    ·exact⟨_,NX⟩
    ·exact let⟨o,q,_⟩:=Sd.rN h1;⟨o,q⟩
    ·exact let⟨o,q,_⟩:=Sd.rN h2;⟨o,q⟩
   obtain⟨o,q⟩:=this;exact Pi (GE q)
  refine⟨.ref s.heap.objs.size,_,I2,rfl,⟨_,v1,v2,rfl,nT,λOM LY=>by rw[Sd.inj I LY ax];exact e1,λSJ QN=>by rw[Sd.inj I QN ay];exact e2,rfl⟩,⟨NM,?_,⟨_,_,Mu.extBut _ _ (Os n2) Ry⟩,Sd.qK (s1 _ _ bw) λo q=>Mu.extBut _ _ (Os n3) q,Sd.qK (s2 _ _ Nn) λo q=>Mu.extBut _ _ (Os n4) q⟩,λb hb=>?_⟩
  ·exact MQ TI _ (Os n1) n5 n6 n7 NR
  ·show upd H _ _ b=none
   rw[L2.aE (UD b hb)];exact un b hb
 done := by
  intro X hP hw R1 hc i pins s σ H E I hf st hg;subst hP hw R1;obtain⟨xs,ys,ax,ay,MV⟩:=hg;obtain⟨hz,NR,⟨a,b,NX⟩,h1,h2⟩:=st;have hh:X.A.in1.handled=none:=I.ok.hd hc;have un:∀b∈[z,TI,TO,i1,i2],H b=none:=λb hb=>(hf b hb).1;obtain⟨f1,P1,S1,D1,p1,s1,O1,q1⟩:=Sd.draws (it:=i1) (tk:=td) (A:=X.A.in1) I hh ax (un i1 (by simp)) (hK i1 (by simp))
  obtain⟨f2,P2,S2,D2,p2,s2,Sv,q2⟩:=Sd.draws (it:=i2) (tk:=te) (A:=X.A.in1) I hh ay (un i2 (by simp)) (hK i2 (by simp))
  have out:∀ {fp:Y3} {it:Addr},(∀c∈fp,c=it\/(H c≠none\/∃o,X.K.lookup c=some o))->∀b∈[z,TI,TO,i1,i2],b≠it->b∉fp:=λq b hb C' hm=>by
   rcases q b hm with h|h|⟨o,h⟩
   ·exact C' h
   ·exact h (un b hb)
   ·rw[hK b hb]at h;cases h
  simp only[GM,AC,Mk,VZ,YB,Wq,Y1,W5]at ne;obtain⟨⟨n1,n2,n3,n4⟩,⟨n5,n6,n7⟩,⟨n8,n9⟩,O3⟩:=ne;have ap:pV z TI TO i1 i2 f1 f2:=⟨Os n1,Os n2,Os n3,Os n4,n5,n6,n7,n8,n9,O3,out q1 z (by simp) n3,out q1 TO (by simp) n8,out q1 i2 (by simp) (Os O3),out q2 z (by simp) n4,out q2 TO (by simp) n9,out q2 i1 (by simp) O3⟩
  have hT:s.TypeIs (.ref z) "zip":=⟨_,hz,rfl⟩;unfold pyNext;refine mB (wpAny_attempt (WL (name:=Str.ofString "__next__") hT WM (WX WM hT Ym (Hj D1 D2 ap hz NR NX (O1 i h1) (Sv i h2) MV λh' tk e' hk he=>?_) (Yd _))));obtain⟨o,ho,Py⟩:=he;refine mB (wpAny_isInstance (T:="StopIteration") (b:=true) ⟨o,ho,Py⟩ isSubtype_stop (JO ⟨rfl,?_⟩));have Nb:∀c,c∉[z,TO,i1,i2]->c≠z/\c≠TO/\c≠i1/\c≠i2:=λc M7=>by simpa[YB] using M7
  have aU:∀c u,H c=some u->c≠z/\c≠TO/\c≠i1/\c≠i2:=λc u q=>by refine⟨?_,?_,?_,?_⟩<;>(intro w;rw[w,un _ (by simp)]at q;cases q)
  have u:Un (L2.eF X.stack) [z,TO,i1,i2] H H s.heap h':=
   ⟨λb o q n Qb LY=>let m:=Nb b LY;hk b o m.1 m.2.1 m.2.2.1 m.2.2.2 q,λb o q n Qb LY=>let m:=Nb b LY;⟨o.slots,hk b o m.1 m.2.1 m.2.2.1 m.2.2.2 q⟩,λb o q n LY=>n,
    λb o q LY=>let m:=Nb b LY;⟨o,hk b o m.1 m.2.1 m.2.2.1 m.2.2.2 q⟩,λb zs q=>q,λb o zs q=>q,λb ps q=>⟨#[],by rw[q];simp⟩⟩
  exact I.qG (s':={s with heap:=h',toks:=tk}) (ch:=[z,TO,i1,i2]) rfl u (λb ob q=>(I.aK b ob q).ie (λc v N7 w=>by
    have tc:∃u,H c=some u:=by
     rcases N7 with rfl|N7
     ·exact⟨_,q⟩
     ·exact⟨_,N7⟩
    obtain⟨u',OO⟩:=tc;have m:=aU c u' OO;exact hk c v m.1 m.2.1 m.2.2.1 m.2.2.2 w) (λ_ w=>w) λ_ _ w=>w) I.bare λb hb=>by
   have Mt:b∈[z,TI,TO,i1,i2]:=by
    simp only[AC,Mk,VZ]at hb ⊢;rcases hb with h|h|h|h<;>simp[h]
   obtain⟨_,a1,a2,a3,a4,a5⟩:=hf b Mt;exact⟨a3,a1,a4,a5⟩
 self _ _ _ _ _ st h:=wpAny_pyIter_zip st.1 h
def Sd.is(h:Heap):Sd->Prop
 |.l a=>∃xs,h.IsList a xs
 |.t a=>∃xs,h.IsTuple a xs
 |.s _=>True
theorem Sd.Iy{h:Heap}{d:Sd}(o:Obj)(x:d.is h):d.is (h.push o):=by
 cases d with
 |l a=>obtain⟨xs,ob,e,r⟩:=x;exact⟨xs,ob,cp _ e,r⟩
 |t a=>obtain⟨xs,ob,e,r⟩:=x;exact⟨xs,ob,cp _ e,r⟩
 |s z=>trivial
theorem Sd.iter{prog:Program}{w:World}{A:Around}{E:Value->Shared->Prop}{s:Shared}{d:Sd}{tk:Tok}{Q:Value->Shared->Prop}(x:d.is s.heap)(h:Q (.ref s.heap.objs.size) {s with heap:=s.heap.push (d.obj tk)}):
  wpAny (model prog w) A (pyIter (d.val tk)) Q E s:=by
 cases d with
 |l a=>obtain⟨xs,x⟩:=x;exact Xf x h
 |t a=>obtain⟨xs,x⟩:=x;exact wpAny_pyIter_tuple x h
 | s z=>
  have h:Q (.ref s.heap.objs.size) {s with heap:=s.heap.push {cls:=.type (if z.cps.all (· <128)then "str_ascii_iterator" else "str_iterator"),data:=.fields #[.str z tk,.int 0 0]} }:=h
  cases ha:z.cps.all (· <128)with
  |true=>rw[ha]at h;exact wpAny_pyIter_ascii ha h
  |false=>rw[ha]at h;exact wpAny_pyIter_wide ha h
noncomputable abbrev pW(h:Heap)(d:Sd)(td:Tok):Heap:=h.push (d.obj td)
noncomputable abbrev qg(h:Heap)(d e:Sd)(td te:Tok):Heap:=(pW h d td).push (e.obj te)
noncomputable abbrev rY(h:Heap)(d e:Sd)(td te:Tok):Heap:=(qg h d e td te).push {cls:=.type "tuple",data:=.seq #[.ref h.objs.size,.ref (pW h d td).objs.size]}
noncomputable abbrev pL(h:Heap)(d e:Sd)(td te:Tok):Heap:=(rY h d e td te).push {cls:=.type "tuple",data:=.seq #[.none,.none]}
noncomputable abbrev jo(h:Heap)(d e:Sd)(td te:Tok):Heap:=(pL h d e td te).push {cls:=.type "zip",data:=.fields #[.none,.bool false,.bool false,.ref (qg h d e td te).objs.size,.ref (rY h d e td te).objs.size]}
theorem CB(d e:Sd)(td te:Tok):Meets (Builtin.«zip.__new__» ⟨[.type "zip",d.val td,e.val te],[]⟩) (λ_ R s=>d.is s.heap/\e.is s.heap/\R (.ok (.ret (.ref (pL s.heap d e td te).objs.size))) {s with heap:=jo s.heap d e td te}):=
 .of_wp λprog w A R s h=>by
  obtain⟨hp,g,dr,tk,os⟩:=s;obtain⟨h1,h2,h⟩:=h;have MT:=sub_zip;have a1:d.is (Shared.heap ⟨hp,g,dr,tk,os⟩):=h1;have a2:e.is (Shared.heap ⟨hp.push (d.obj td),g,dr,tk,os⟩):=Sd.Iy _ h2
  wp_walk using Sd.iter a1,Sd.iter a2
  exact⟨_,rfl,h⟩
section
variable{X:Cx}{M:Md}{G H H':Hp}{F0:Gf}{F F':Y8}{σ:L2.St}{ρ:En}{pos:Pos}{pins:List (Addr×Obj)}{s:Shared}
theorem Sd.w8{d:Sd}{xs:List V}(I:Inv X pins σ H s)(h:d.at X.K H xs):d.is s.heap:=by
 cases d with
 |l a=>obtain⟨af,_,pl,_⟩:=I.list h;exact⟨_,pl.isList⟩
 |t a=>obtain⟨af,_,pl,_⟩:=I.tuple h;exact⟨_,pl⟩
 |s z=>trivial
def DS(K:PySem.W.Frag)(ta:TA):TI:=λσ H R=>ta σ H λvs H1=>∃(x y:V) (d e:Sd) (xs ys:List V),vs=[x,y]/\(∀u,RelV x u->∃tk,u=d.val tk)/\(∀u,RelV y u->∃tk,u=e.val tk)/\d.at K H1 xs/\e.at K H1 ys/\R (uB K d e) H1
theorem IA:bootBuiltins "zip"=some (.type "zip"):=by decide+kernel
theorem Ik{elts:Y4}{k:Nat}{tp:Pos}{a b:Expr}{ta:TA}{p:Pos}(hg:L2.Gl X "zip")(hm:X.mg "zip"=none)(ha:PA X [a,b] ta)(hs:starEach [a,b] X.env=(false,eval a X.env)::starEach [b] X.env)(Mu:starEach [b] X.env=(false,eval b X.env)::starEach [] X.env):
  L2.PI X (.Tuple elts k tp) (.Call (.Name "zip" p) [a,b] [] pos) (DS X.K ta):=by
 intro pins s σ H R I h;refine PyProof.Rows.Call_ (L2.kJ I hg hm IA (V4 (L2.aL (ha pos pins s σ H _ I h) λus s1 ⟨vs,H1,I1,r1,q1⟩=>?_) hs (by rw[Mu];rfl)))
 obtain⟨x,y,d,e,xs,ys,rfl,hx,hy,ax,ay,q⟩:=q1;obtain⟨u1,u2,rfl,RY,R3⟩:=L2.vals2 r1;obtain⟨td,rfl⟩:=hx u1 RY;obtain⟨te,rfl⟩:=hy u2 R3;refine callType_new PySem.F.called_zip (by decide) (PySem.F.typeCall_zip_2 _ _) (PySem.F.newCall_zip_2 _ _) (λobj=>PySem.F.args_object_init_3 obj _ _) PySem.F.entry_zip_new (CB d e td te) ⟨Sd.w8 I1 ax,Sd.w8 I1 ay,?_⟩
 have z1:(pW s1.heap d td).objs.size=s1.heap.objs.size+1:=S8 ..;have z2:(qg s1.heap d e td te).objs.size=s1.heap.objs.size+2:=by rw[S8,z1]
 have z3:(rY s1.heap d e td te).objs.size=s1.heap.objs.size+3:=by rw[S8,z2]
 have z4:(pL s1.heap d e td te).objs.size=s1.heap.objs.size+4:=by rw[S8,z3]
 have nf:∀(d:Sd) tk,(d.obj tk).isFreed=false:=λd tk=>by cases d<;>rfl
 have g5:(jo s1.heap d e td te).get? (pL s1.heap d e td te).objs.size=some _:=FS _ rfl;have g4:(jo s1.heap d e td te).get? (rY s1.heap d e td te).objs.size=some _:=cp _ (FS _ rfl);have g3:(jo s1.heap d e td te).get? (qg s1.heap d e td te).objs.size=some _:=cp _ (cp _ (FS _ rfl));have g2:(jo s1.heap d e td te).get? (pW s1.heap d td).objs.size=some (e.obj te):=cp _ (cp _ (cp _ (FS _ (nf e te))));have g1:(jo s1.heap d e td te).get? s1.heap.objs.size=some (d.obj td):=cp _ (cp _ (cp _ (cp _ (FS _ (nf d td)))));have old:∀c o,s1.heap.get? c=some o->(jo s1.heap d e td te).get? c=some o:=λc o x=>cp _ (cp _ (cp _ (cp _ (cp _ x))));rw[z2,z3,z4]at g5;rw[z1,z2]at g3;rw[z3]at g4;rw[z1]at g2;show _/\_;rw[z4];refine⟨⟨_,g5,rfl⟩,wpAny_pyIter_zip g5 ?_⟩;have I2:Inv X pins σ H1 {s1 with heap:=jo s1.heap d e td te}:=I1.kept (t':=s1.toks) old
 have hK:∀b,s1.heap.objs.size<=b->X.K.lookup b=none:=λb hb=>by
  cases q:X.K.lookup b with
  |none=>rfl
  |some o=>exact absurd (MC (GE (I1.c7 b o q)) hb) (We _)
 have Qg:∀ {d:Sd} {it:Addr} {tk:Tok} {h:Heap},h.get? it=some (d.obj tk)->d.iT it 0 h tk:=λ{d it tk h} q=>by
  cases d with
  |l a=>exact⟨_,q,rfl,rfl⟩
  |t a=>exact⟨_,q,rfl,rfl⟩
  |s z=>exact⟨_,q,rfl,rfl⟩
 refine⟨s1.heap.objs.size+4,[s1.heap.objs.size+4,s1.heap.objs.size+2,s1.heap.objs.size+3,s1.heap.objs.size,s1.heap.objs.size+1],_,_,H1,rfl,I2,Gp d e td te _ _ _ _ _ ?_ ?_,⟨g5,g3,⟨_,_,g4⟩,Qg g1,Qg g2⟩,λb hb=>?_,q⟩
 ·simp
 ·intro b hb
  refine hK b ?_;simp only[AC,Mk,VZ]at hb;rcases hb with rfl|rfl|rfl|rfl|rfl<;>omega
 ·have Mt:s1.heap.objs.size<=b:=by
   simp only[AC,Mk,VZ]at hb;rcases hb with rfl|rfl|rfl|rfl|rfl<;>omega
  exact I1.jG Mt (I1.aK.fresh Mt)
theorem yK{d:D}{ds:List D}{x:V}(e:items d=.ok ds)(r:Rep M H F d x):∃(q:Sd) (xs:List V),(∀u,RelV x u->∃tk,u=q.val tk)/\ae M H F ds xs/\∀H' F',Mv F H F' H'->q.at M.K H' xs:=by
 unfold items at e;split at e
 ·cases e
  simp only[Rep]at r;obtain⟨a,xs,rfl,h,rs⟩:=r;exact⟨.l a,xs,λu ru=>⟨0,ru⟩,rs,λH' F' m=>(h.mv m).sq⟩
 ·cases e
  simp only[Rep]at r;obtain⟨a,xs,rfl,h,rs⟩:=r;exact⟨.t a,xs,λu ru=>⟨0,ru⟩,rs,λH' F' m=>(h.mv m).sq⟩
 ·rename_i z
  cases e;cases fM r;refine⟨.s z,z.cps.toList.map λc=>.str ⟨#[c]⟩,λu=>by rintro⟨tk,ru⟩;exact ⟨tk,ru⟩,?_,λ_ _ _=>rfl⟩;generalize z.cps.toList=l
  induction l with
  |nil=>exact ae.nil
  |cons c l ih=>exact ae.cons lJ ih
 ·cases e
theorem ya:∀ {xs ys:List D},(iz xs ys).length=min xs.length ys.length
 |[],_=>by simp
 |_::_,[]=>by simp
 |x::xs,y::ys=>by simp[ya (xs:=xs) (ys:=ys)]
theorem zN:∀ {xs ys:List D} {i:Nat} {d:D},(iz xs ys)[i]? =some d->∃x y,d=.tup [x,y]/\xs[i]? =some x/\ys[i]? =some y
 |[],_,_,_,h=>by simp at h
 |_::_,[],_,_,h=>by simp at h
 |x::xs,y::ys,0,d,h=>by simp at h;exact⟨x,y,h.symm,rfl,rfl⟩
 | x::xs,y::ys,i+1,d,h=>by
  have h:(iz xs ys)[i]? =some d:=by simpa using h
  obtain⟨a,b,h1,h2,h3⟩:=zN h;exact⟨a,b,h1,by simpa using h2,by simpa using h3⟩
theorem C0{q r:Sd}{xs ys:List V}{ds es:List D}(h1:∀H' F',Mv F H F' H'->q.at M.K H' xs)(h2:∀H' F',Mv F H F' H'->r.at M.K H' ys)(rs:ae M H F ds xs)(ss:ae M H F es ys)
  (UL:∀H' F' zs,Mv F H F' H'->q.at M.K H' zs->True):Gives M (uB M.K q r) H F (iz ds es):=by
 intro H' F' mv tr;have a1:=h1 H' F' mv;have a2:=h2 H' F' mv;have Qk:=rs.mv mv;have Uy:=ss.mv mv;refine⟨λi d hd=>?_,?_⟩
 ·obtain⟨x,y,rfl,hx,hy⟩:=zN hd
  obtain⟨vx,ex,rx⟩:=Qk.get hx;obtain⟨vy,ey,ry⟩:=Uy.get hy;refine⟨⟨xs,ys,a1,a2,(mO.mp ex).1,(mO.mp ey).1⟩,λv H2 hv=>?_⟩;obtain⟨t,wx,wy,rfl,ht,g1,g2,rfl⟩:=hv;have q1:=g1 xs a1;have q2:=g2 ys a2;rw[ex]at q1;rw[ey]at q2;cases q1;cases q2;exact⟨ah.bZ ht _,nv tr ht (ae.cons rx (ae.cons ry ae.nil))⟩
 ·refine⟨xs,ys,a1,a2,?_⟩
  rw[ya,rs.length,ss.length];omega
theorem BM{X:L2.Cx}{pos:Pos}{elts:Y4}{k:Nat}{tp:Pos}{a b:Expr}{fa fb:Ex}{p:Pos}(hm:X.mg "zip"=none)(ha:XE X a fa)(hb:XE X b fb)(hg:L2.Gl X "zip":=by rfl)(hs:starEach [a,b] X.env=(false,eval a X.env)::starEach [b] X.env:=by exact bw (by rfl))(Mu:starEach [b] X.env=(false,eval b X.env)::starEach [] X.env:=by exact bw (by rfl)):XI X (.Tuple elts k tp) (.Call (.Name "zip" p) [a,b] [] pos) (qj fa fb):=⟨have ha:=ha.out;have hb:=hb.out;j4 (Ik hg hm (eO ha (eO hb gh Mu) hs) hs Mu) λσ H Q=>by
  rintro⟨ρ,F,ds,r,e,q⟩
  obtain⟨d1,Vw,e⟩:=ao.mp e;obtain⟨d2,Ro,e⟩:=ao.mp e;obtain⟨xs,Vv,e⟩:=ao.mp e;obtain⟨ys,Ut,e⟩:=ao.mp e;cases e;refine⟨ρ,F,[d1,d2],r,by show(fa ρ).bind _=_;rw[Vw];show((fb ρ).bind _).bind _=_;rw[Ro];rfl,λvs H1 s1 rv=>?_⟩
  obtain⟨x,y,rfl,rx,ry⟩:=rv.two;obtain⟨Ug,vx,u1,T1,OG⟩:=yK Vv rx;obtain⟨RH,vy,u2,UC,at2⟩:=yK Ut ry;exact⟨x,y,Ug,RH,vx,vy,rfl,u1,u2,OG H1 F Mv.refl,at2 H1 F Mv.refl,q _ H1 s1 (C0 (M:=aD X) OG at2 T1 UC λ_ _ _ _ _=>trivial)⟩⟩
end
def vu:D->Value->Prop
 |.aj,u=>u=.none
 |.bl b,u=>u=.bool b
 |.int i,u=>∃t,u=.int i t
 |.str x,u=>∃t,u=.str x t
 |_,_=>False
theorem za{d:D}{u:Value}(h:vu d u):∃v,RelV v u/\∀(M:Md) H F,Rep M H F d v:=by
 cases d with
 |aj=>exact⟨.aj,h,λ_ _ _=>fF⟩
 |bl b=>exact⟨.bl b,h,λ_ _ _=>dD⟩
 |int i=>exact⟨.int i,h,λ_ _ _=>d8⟩
 |str x=>exact⟨.str x,h,λ_ _ _=>lJ⟩
 |_=>exact h.elim
def rB:List D->Y5->Prop
 |[],us=>us=[]
 |d::ds,us=>∃u r,us=u::r/\vu d u/\rB ds r
theorem BF:∀ {ds:List D} {us:Y5},rB ds us->∃xs,Vals xs us/\∀(M:Md) H F,ae M H F ds xs
 |[],_,h=>by cases h;exact⟨[],.nil,λ_ _ _=>ae.nil⟩
 | d::ds,_,h=>by
  obtain⟨u,r,rfl,h1,h2⟩:=h;obtain⟨v,rv,hv⟩:=za h1;obtain⟨xs,rs,hs⟩:=BF h2;exact⟨v::xs,.cons rv rs,λM H F=>ae.cons (hv M H F) (hs M H F)⟩
section
variable{P:Program}{w:World}{K:PySem.W.Frag}{h:Heap}{mg:Str->Y6}{x:Str}
theorem Eu{a:Addr}{af:Array Value}{n:Nat}{ds:List D}(X:K.In h)(G:h.Ns mainGlobals mg)(e1:PySem.W.nsIn K mainGlobals x=some (some (.ref a)))(e2:K.lookup a=some {cls:=.type "tuple",data:=.seq af n})
  (hm:rB ds af.toList) (hl:af.size<=1000):dP P w K mg x (.tup ds):=by
 obtain⟨xs,h1,h2⟩:=BF hm;refine⟨.ref a,.ref a,Wx X G e1,rfl,λH F=>?_⟩;simp only[Rep];exact⟨a,xs,rfl,.inr ⟨_,af,n,e2,rfl,rfl,PK hl (by decide),h1⟩,h2 _ H F⟩
theorem qa{u:Value}{d:D}(X:K.In h)(G:h.Ns mainGlobals mg)(e1:PySem.W.nsIn K mainGlobals x=some (some u))(hm:vu d u):dP P w K mg x d:=by
 obtain⟨v,rv,hv⟩:=za hm;exact⟨v,u,Wx X G e1,rv,λH F=>hv _ H F⟩
end
end PL
namespace PL
open PySem
end PL
set_option maxHeartbeats 1000000
namespace PL
open PySem PySem.Spec
open L2 (V Hp HO Cx PE PT PW PA PS cq PG di VK TE TT TA TS TI TG Inv RelV Vals Rd bt bH upd ah Key XK Ends a7 fS bM R2 EP It Turn cO Un)
section
variable{X:Cx}{M:Md}{G H H':Hp}{F0:Gf}{F F':Y8}{σ:L2.St}{ρ:En}{pos:Pos}{pins:List (Addr×Obj)}{s:Shared}
theorem a8.fresh{p:Addr}{o:HO}(r:a8 M H F σ ρ)(hp:H p=none):a8 M (upd H p o) (λb=>F b\/b=p) σ ρ:=by
 have ne:∀b u,H b=some u->b≠p:=λb u e z=>by subst z;rw[hp]at e;cases e
 have mv:Mv F H (λb=>F b\/b=p) (upd H p o):=λb u n e=>⟨λh=>h.elim n (ne b u e),by rw[L2.aE (ne b u e)];exact e⟩
 have sm:ah H (upd H p o):=ah.bZ hp _
 exact⟨r.len,λb f=>by
  by_cases hb:b=p
  ·subst hb;exact⟨_,L2.aV⟩
  ·obtain⟨u,hu⟩:=r.aU b (f.resolve_right hb);exact⟨u,sm _ _ hu⟩,
  λi d e=>let⟨v,h1,h2⟩:=r.sh i d e;⟨v,h1,h2.mv mv⟩,
  λi ds e=>let⟨a,xs,e1,f,e2,q⟩:=r.ol i ds e;⟨a,xs,e1,.inl f,sm _ _ e2,q.mv mv⟩,
  λi ks ds e=>let⟨a,xs,e1,f,e2,l,q⟩:=r.od i ks ds e;⟨a,xs,e1,.inl f,sm _ _ e2,l,q.mv mv⟩,
  r.cP,r.on.mv mv (λj Lw e=>⟨e,rfl⟩) (λj Lw b u e hb f hu=>⟨.inl f,sm _ _ hu⟩) λj Lw b e hb k ok=>(r.on j Lw e).2.1 b hb k ok⟩
def JP(X:Cx)(pos:Pos)(keys:List (Option Expr))(values:Y4)(ks:List Ky)(fs:List Ex):Prop:=
 ∃LP,L2.mM X pos keys values LP/\∀(F:Y8) (σ:L2.St) (H:Hp) (ρ:En) (ds:List D) (Q:List (V×V)->Hp->Prop),a8 (aD X) H F σ ρ->eList fs ρ=.ok ds->
  (∀xs H',ah H H'->ae (aD X) H' F ds xs->Q ((ks.zip xs).map λkv=>(L2.kV kv.1,kv.2)) H')->L2.m7 LP σ H Q
structure XP(X:Cx)(pos:Pos)(keys:List (Option Expr))(values:Y4)(ks:List Ky)(fs:List Ex):Prop where
 out:JP X pos keys values ks fs
theorem gQ{X:L2.Cx}{pos:Pos}:XP X pos [] [] [] []:=⟨ ⟨[],L2.tQ,λF σ H ρ ds Q r e q=>by cases e;exact q [] H (ah.refl H) ae.nil⟩⟩
theorem dU{X:L2.Cx}{pos:Pos}{k v:Expr}{z:Str}{f:Ex}{keys:List (Option Expr)}{values:Y4}{ks:List Ky}{fs:List Ex}(hk:XE X k (eC (.str z)))(hv:XE X v f)(hr:XP X pos keys values ks fs):XP X pos (some k::keys) (v::values) (.inr z::ks) (f::fs):=⟨have hk:=hk.out;have hv:=hv.out;have hr:=hr.out;by
 obtain⟨LP,h,g⟩:=hr;refine⟨_,L2.sj hk hv h,λF σ H ρ ds Q r e q=>?_⟩;obtain⟨a,ea,e⟩:=ao.mp e;obtain⟨as,R7,e⟩:=ao.mp e;cases e;refine⟨ρ,F,.str z,r,rfl,λx H1 s1 rx=>⟨ρ,F,a,r.same s1,ea,λy H2 s2 ry=>g F σ H2 ρ as _ ((r.same s1).same s2) R7 λxs H3 s3 rs=>?_⟩⟩;cases fM rx;exact q (y::xs) H3 ((s1.trans s2).trans s3) (ae.cons (ry.mv (.same s3)) rs)⟩
theorem IV{kvs:List (Key×V)}{k:Key}{v:V}(h:k∉kvs.map (·.1)):L2.putK kvs k v=kvs++[(k,v)]:=by
 unfold L2.putK;rw[Da];intro h1;rw[P3]at h1;obtain⟨kv,hm,hk⟩:=h1;exact h (V5.mpr ⟨kv,hm,by simpa using hk⟩)
theorem rX:∀ {more kvs:List (Key×V)},(kvs.map (·.1)++more.map (·.1)).Nodup->L2.dk kvs more=kvs++more
 |[],kvs,_=>by show kvs=_;rw[VW]
 | p::r,kvs,h=>by
  show L2.dk (L2.putK kvs p.1 p.2) r=_
  have hp:p.1∉kvs.map (·.1):=λhm=>by
   rw[Re,M0]at h;exact h.2.2 _ hm _ v3 rfl
  rw[IV hp,rX (by simpa using h),Xv]
  rfl
theorem gH{X:L2.Cx}{pos:Pos}{keys:List (Option Expr)}{values:Y4}{ks:List Ky}{fs:List Ex}(h:XP X pos keys values ks fs)(Nx:keys.all (·.isSome)=true:=by rfl)(hl:keys.length=values.length:=by rfl)(h0:keys≠[]:=by simp)(Ql:keys.length<=15:=by decide)(hk:ks.length=fs.length:=by rfl)(Uo:ks.length<=15:=by decide)(hn:ks.Nodup:=by decide+kernel):XE X (.Dict keys values pos) (dj ks fs):=⟨have h:=h.out;by
 obtain⟨LP,hp,g⟩:=h;refine sf (L2.vW hp Nx hl h0 Ql) λσ H Q ⟨ρ,F,d,hr,e,q⟩=>?_;obtain⟨as,ea,e⟩:=ao.mp e;cases e;intro p hp;have PF:=hr.fresh (o:=.dK []) hp;refine g _ σ _ ρ as _ PF ea λxs H2 s2 rs=>?_;have R6:ks.length=xs.length:=by rw[<-rs.length,hX ea,hk]
 have e2:H2 p=some (.dK []):=s2 _ _ L2.aV
 have hm:L2.dk [] (ks.zip xs)=ks.zip xs:=by
  rw[rX (by simp only[WG,XO];rw[show(ks.zip xs).map (·.1)=ks from by rw[Wi];omega];exact hn)]
  rfl
 refine⟨e2,ks.zip xs,rfl,by rw[On];omega,?_⟩
 rw[hm];refine⟨p,ks.zip xs,rfl,L2.aV,λob=>?_⟩;rw[L2.oX]
 have sm:ah H (upd H2 p (.frz ob (.dK (ks.zip xs)))):=λb u e=>by
  have ne:b≠p:=λz=>by subst z;rw[hp]at e;cases e
  rw[L2.aE ne];exact s2 _ _ (by rw[L2.aE ne];exact e)
 have nF:¬F p:=lr hr.aU hp;have mv:Mv (λb=>F b\/b=p) H2 F (upd H2 p (.frz ob (.dK (ks.zip xs)))):=λb u n e=>⟨λh=>n (.inl h),by rw[L2.aE (λz=>n (.inr z))];exact e⟩
 refine q _ _ sm ?_;simp only[Rep];exact⟨p,xs,rfl,.inl ⟨nF,ob,L2.aV⟩,R6,rs.mv mv⟩⟩
structure uH(P:Program)(w:World)(K:PySem.W.Frag)(mg:Str->Y6)(x:Str)(d:D):Prop where
 gl:dP P w K mg x d
 pl:∃a o,mg x=some (.ref a)/\K.lookup a=some o/\o.cls=.type "tuple"/\o.dict=none
theorem EC{P:Program}{w:World}{K:PySem.W.Frag}{h:Heap}{mg:Str->Y6}{x:Str}{a:Addr}{af:Array Value}{n:Nat}{ds:List D}(X:K.In h)(G:h.Ns mainGlobals mg)(e1:PySem.W.nsIn K mainGlobals x=some (some (.ref a)))(e2:K.lookup a=some {cls:=.type "tuple",data:=.seq af n})
  (hm:rB ds af.toList) (hl:af.size<=1000):uH P w K mg x (.tup ds):=
 ⟨Eu X G e1 e2 hm hl,a,_,Wx X G e1,e2,rfl,rfl⟩
theorem xK(i:Nat){st:Stmt}{f:Ex}(h:PS X st (L2.kM (jF (aD X) f) (L2.aF i)))(hl:∀ρ d,f ρ=.ok d->∃ds,d=.lst ds):JS X st (bb (aF i) f):=λF0=>
 cw h λD σ H=>by
  rintro⟨ρ,F,fl,r,e,q⟩
  obtain⟨d,ed,e⟩:=ao.mp e;obtain⟨ds,rfl⟩:=hl _ _ ed;cases e;refine⟨ρ,F,ds,r.rs,ed,λp H1 xs s1 hp rs=>?_⟩;have s2:ah H1 (upd H1 p (.lst xs)):=ah.bZ hp _;refine q _ _ F (.same (s1.trans s2)) (((r.same s1).same s2).oR ?_);simp only[Rep];refine⟨p,xs,rfl,.inl ⟨λf=>?_,.inl L2.aV⟩,rs.mv (.same s2)⟩;obtain⟨o,e⟩:=(r.same s1).rs.aU p f;rw[hp]at e;cases e
end
noncomputable def frz(i:Nat)(ρ:En):En:=match ρ[i]? with
 |some (.ol xs)=>ρ.set i (.sh (.lst xs))
 |_=>ρ
mutual
noncomputable def gc:D->Bool
 |.aj=>true
 |.bl _=>true
 |.int _=>true
 |.str _=>true
 |.tup xs=>fB xs
 |_=>false
noncomputable def fB:List D->Bool
 |[]=>true
 |x::xs=>gc x&&fB xs
end
@[simp] noncomputable def K7(i:Nat)(f:Ex):Ex:=λρ=>(f (frz i ρ)).bind λd=>match d with
 |.lst ds=>if fB ds=true then .ok (.lst ds)else .bad
 |_=>.bad
@[simp] noncomputable def ur(i:Nat)(e:Ex):Sm:=λρ=>(e ρ).bind λd=>match d,ρ[i]? with
 |.lst ys,some (.ol xs)=>if xs.length+ys.length<=er then .ok (.next (ρ.set i (.ol (xs++ys))))else .bad
 |_,_=>.bad
section
variable{X:Cx}{M:Md}{G H H':Hp}{F0:Gf}{F F':Y8}{σ:L2.St}{ρ:En}{pos:Pos}{pins:List (Addr×Obj)}{s:Shared}
def eV(env:Env)(o k:Expr)(p3:Pos):Prop:=∀v,assign (.Subscript o k p3) env v=(do
   let ov <-holding [v] (eval o env)
   let iv <-holding [v,ov] (eval k env)
   standAt p3
   holding [v,ov,iv] (setItem ov iv v)
   release [v,ov,iv] [])
theorem yi{X:L2.Cx}{pos:Pos}(i:Nat){x:Str}{e k:Expr}{f g:Ex}{p2 p3:Pos}(he:XE X e f)(hk:XE X k g)(ha:eV X.env (.Name x p2) k p3)(hN:X.N[i]? =some x:=by rfl)(hv:L2.dS X.env.scope x:=by exact Or.inl rfl)(hd:gV x:=by decide)(L4:TY x:=by decide)(hs:swapsWithSole [.Subscript (.Name x p2) k p3] e pos.line X.env=pure false:=by exact rm (by rfl))(hw:swappedStores [.Subscript (.Name x p2) k p3] e X.env=pure none:=by exact uT (by rfl))(h1:(assignEach [.Subscript (.Name x p2) k p3] X.env).map (·.2)=[assign (.Subscript (.Name x p2) k p3) X.env]:=by exact mR (by rfl)):XS X (.Assign [.Subscript (.Name x p2) k p3] e pos) (nR i g f):=⟨have he:=he.out;have hk:=hk.out;λF0=>
 cw (L2.qA he (L2.vY (L2.pv i hN hv hd L4) hk L2.set_list ha) hs hw h1) λD σ H=>by
  rintro⟨ρ,F,fl,r,e,q⟩
  obtain⟨d,ed,e⟩:=ao.mp e;obtain⟨y,ey,e⟩:=ao.mp e;split at e
  ·rename_i xs j q1
   split at e
   ·rename_i m hm
    cases e;have oi:bu ρ i:=.inl ⟨_,q1⟩;obtain⟨a,ys,ea,fa,UA,rs⟩:=r.rs.ol i _ q1;refine⟨ρ,F,d,r.rs,ed,λv H1 s1 rv=>⟨_,ea,ρ,F,_,(r.same s1).rs,ey,λz H2 s2 rz=>?_⟩⟩;have r2:=(r.same s1).same s2;refine⟨a,ys,j,m,rfl,bC rz,s2 _ _ (s1 _ _ UA),by rw[<-rs.length];exact hm,?_⟩
    obtain⟨mv,r'⟩:=r2.chg (s:=.ol (xs.set m d)) oi ea (.inl ⟨_,ys.set m v,rfl,rfl,ae.set m (rv.mv (.same s2)) (rs.mv (.same (s1.trans s2)))⟩);exact q _ _ _ (Mv.trans (.same (s1.trans s2)) mv) r'
   ·cases e
  ·cases e⟩
theorem DI{X:L2.Cx}{pos:Pos}(i:Nat){x:Str}{e:Expr}{f:Ex}{p2 apos B':Pos}(he:XF X e f)(hN:X.N[i]? =some x:=by rfl)(hv:L2.dS X.env.scope x:=by exact Or.inl rfl)(hd:gV x:=by decide)(L4:TY x:=by decide)(Lz:attributeBase (.Name x p2) "extend" X.env (eval (.Name x p2) X.env)=eval (.Name x p2) X.env:=by exact oF)(ND:((backTo B' (starEach [e] X.env)).all (λx=> !x.1)&&(backToKw B' (keywordEach [] X.env)).all (λx=>x.1.isSome)&&decide (([e]:Y4).length+([]:List Keyword).length+(if([]:List Keyword).isEmpty then 0 else 1)<30))=true:=by exact rR (by rfl) (by decide))(LA:(apos.endLine==B'.line)=true:=by rfl)(hs:starEach [e] X.env=(false,eval e X.env)::starEach [] X.env:=by exact bw (by rfl))(MJ:swapsWith (.Call (.Attribute (.Name x p2) "extend" apos) [e] [] B') none pos.line X.env=pure false:=by exact d5 (by rfl)):XS X (.Expr (.Call (.Attribute (.Name x p2) "extend" apos) [e] [] B') pos) (ur i f):=⟨have he:=he.out;λF0=>
 cw (L2.jg (L2.tE Yc PySem.F.slot_list_extend PySem.F.type_list_extend L2.Hm (L2.pv i hN hv hd L4) (L2.gj he L2.jJ hs) Lz ND LA hs) MJ) λD σ H=>by
  rintro⟨ρ,F,fl,r,e,q⟩
  obtain⟨d,ed,e⟩:=ao.mp e;split at e
  ·rename_i ds xs q1
   split at e
   ·rename_i Mp
    cases e;have oi:bu ρ i:=.inl ⟨_,q1⟩;obtain⟨a,ys,ea,fa,ha,rs⟩:=r.rs.ol i _ q1;refine⟨_,ea,.inl ⟨rfl,ys,bt.of ha⟩,ρ,F,ds,r.rs,ed,λp H1 zs s1 hp rz=>?_⟩;have s2:ah H1 (upd H1 p (.lst zs)):=ah.bZ hp _;have r1:=(r.same s1).same s2;have Pc:=s2 _ _ (s1 _ _ ha);refine⟨a,p,ys,zs,rfl,rfl,Pc,L2.aV,by rw[<-rs.length, <-rz.length];exact Mp,?_⟩
    obtain⟨mv,r'⟩:=r1.chg (s:=.ol (xs++ds)) oi ea (.inl ⟨_,ys++zs,rfl,rfl,(rs.mv (.same (s1.trans s2))).append (rz.mv (.same s2))⟩);exact q _ _ _ (Mv.trans (.same (s1.trans s2)) mv) r'
   ·cases e
  ·cases e⟩
theorem Cp{X:L2.Cx}{pos:Pos}{a:Expr}{fa:Ex}{p:Pos}(hm:X.mg "list"=none)(ha:XE X a fa)(Px:L2.Gl X "list":=by rfl)(hs:starEach [a] X.env=(false,eval a X.env)::starEach [] X.env:=by exact bw (by rfl)):XF X (.Call (.Name "list" p) [a] [] pos) (e1 u3 fa):=⟨have ha:=ha.out;bo (L2.lK L2.E6 Px hm mz (eO ha gh hs) (by decide) (by decide) hs) λσ H Q=>by
  rintro⟨ρ,F,ds,hr,e,q⟩
  obtain⟨d,ed,e⟩:=ao.mp e;refine⟨ρ,F,[d],hr,by show(fa ρ).bind _=_;rw[ed];rfl,λvs H1 s1 rv=>?_⟩
  obtain⟨y,rfl,ry⟩:=rv.one;unfold u3 at e;split at e
  ·cases e
   simp only[Rep]at ry;obtain⟨p,ys,rfl,h,rs⟩:=ry;exact⟨p,ys,rfl,.inl h.sq,λl hl=>q l H1 ys s1 hl rs⟩
  ·cases e
   simp only[Rep]at ry;obtain⟨p,ys,rfl,h,rs⟩:=ry;exact⟨p,ys,rfl,.inr h.sq,λl hl=>q l H1 ys s1 hl rs⟩
  ·cases e⟩
structure lS(P:Program)(w:World)(K:PySem.W.Frag)(mg:Str->Y6)(base:Heap)(x:Str)(k n:Nat)(m:List D->R D):Prop where
 ex:∃f fd ps,L2.dX P w K mg base L2.cV k f fd ps (mK ⟨K,P,w⟩ m n)/\L2.Binds K fd ps []/\PySem.W.keepIn K (.ref f)=true/\mg x=some (.ref f)
theorem DT{m:List D->R D}{n:Nat}{fs:List Ex}{Q:VK}{E:XK}(hn:fs.length=n)(h:jF M (aG m fs) σ H Q):L2.mV (mK M m n) [] E (mI M (eList fs)) σ H Q:=by
 obtain⟨ρ,F,d,hr,e,q⟩:=h;obtain⟨ds,NJ,e⟩:=ao.mp e;refine⟨ρ,F,ds,hr,NJ,λvs H1 s1 rs=>?_⟩;show mK M m n (vs++[]) H1 Q E;rw[VW];exact⟨F,ds,d,(hr.same s1).aU,rs,by rw[hX NJ];exact hn,e,λp H2 xs s2 hp rv=>q p H2 xs (s1.trans s2) hp rv⟩
theorem AD{X:L2.Cx}{pos:Pos}{x:Str}{k j n:Nat}{m:List D->R D}{e:Expr}{es:Y4}{fs:List Ex}{p:Pos}(d:lS X.prog X.w X.K X.mg X.base x k n m)(hr:L2.b4 j X.A)(ha:XA X (e::es) (eList fs))(hg:L2.Gl X x:=by rfl)(hk:k<=j:=by decide)(hn:fs.length=n:=by rfl)(MD:gV x:=by decide)(he:starEach (e::es) X.env=(false,eval e X.env)::starEach es X.env:=by exact bw (by rfl))(M5:(backTo pos (starEach es X.env)).any (·.1)=false:=by exact jW (by rfl)):XF X (.Call (.Name x p) (e::es) [] pos) (aG m fs):=⟨have ha:=ha.out;by
 obtain⟨f,fd,ps,h1,h2,h3,h4⟩:=d.ex;exact bo (L2.oo h1 (hr.mono hk) hg h4 h3 h2 .nil L2.kb ha MD he M5) λσ H Q h=>DT hn h⟩
theorem Kj{P:Program}{w:World}{K:PySem.W.Frag}{mg:Str->Y6}{base:Heap}{x qual:Str}{st:Stmt}{f:Addr}{fd:FuncData}{N ps:List Str}{k n:Nat}{body:Sm}(Fu:L2.gb K x qual st f fd)(S:L2.ba N ps (L2.aH st))
  (h:∀(Lk:Value) (A:Around) (outer:List Env) (s:Shared) (H:Hp) (E:XK),L2.b4 k (A.deeper (PyProof.Rows.envOfC qual (L2.aH st) s.heap.objs.size f Lk))->gI (L2.fG L2.cV P w K mg base N qual (L2.aH st) f Lk A outer s H E).fJ (L2.cU st) body)
  (hn:ps.length=n:=by rfl):L2.dX P w K mg base L2.cV (k+1) f fd ps (mK ⟨K,P,w⟩ (j0 N.length body) n):=by
 refine Fu.ok S (λvs H Q E h=>?_) (λLk A outer s H vs Q E hr M6=>?_)
 ·obtain⟨F,ds,d,_,rs,hl,_⟩:=h
  rw[<-rs.length,hl,hn]
 ·refine⟨λD σ H'=>∃F0:Gf,c8 ⟨K,P,w⟩ F0.g F0 body D σ H',λpins s' σ H' D I=>by rintro⟨F0,q⟩;exact h Lk A outer s H E hr F0 pins s' σ H' D I q,?_⟩
  refine GU (G:=H) (t:=λD σ H'=>∃F0:Gf,c8 ⟨K,P,w⟩ F0.g F0 body D σ H') (λF0 D σ H' h=>⟨F0,h⟩) M6 ?_;have:=congrArg List.length S.pre;rw[Ws]at this;omega
theorem Fs{P:Program}{w:World}{K:PySem.W.Frag}{mg:Str->Y6}{base:Heap}{x qual:Str}{st:Stmt}{f:Addr}{fd:FuncData}{N ps:List Str}{k n:Nat}{body:Sm}(Fu:L2.gb K x qual st f fd)(hm:mg x=some (.ref f))(S:L2.ba N ps (L2.aH st))(hb:L2.Binds K fd ps [])
  (h:∀(Lk:Value) (A:Around) (outer:List Env) (s:Shared) (H:Hp) (E:XK),L2.b4 k (A.deeper (PyProof.Rows.envOfC qual (L2.aH st) s.heap.objs.size f Lk))->gI (L2.fG L2.cV P w K mg base N qual (L2.aH st) f Lk A outer s H E).fJ (L2.cU st) body)
  (hn:ps.length=n:=by rfl):lS P w K mg base x (k+1) n (j0 N.length body):=⟨f,fd,ps,Kj Fu S h hn,hb,Fu.kp,hm⟩
noncomputable def intsOf:List D->Option (VH)
 |[]=>some []
 |.int i::r=>(intsOf r).map (i:: ·)
 |_=>none
noncomputable def unlike(ns:VH):Nat:=(PyProof.Rows.firstMet (λi=>ns.getD i 0) ns.length).length
theorem ym:∀ {ds:List D} {ns:VH},intsOf ds=some ns->ds=ns.map D.int
 |[],_,h=>by cases h;rfl
 | d::ds,ns,h=>by
  cases d with
  | int i=>
   unfold intsOf at h;cases e:intsOf ds with
   |none=>rw[e]at h;cases h
   | some ms=>
    rw[e]at h;cases h;rw[ym e];rfl
  |_=>cases h
theorem Af:∀ {ns:VH} {xs:List V},ae M H F (ns.map D.int) xs->xs=ns.map V.int
 |[],_,r=>by simpa[ae] using r
 | b::bs,_,r=>by
  simp only[Re,ae]at r;obtain⟨x,t,rfl,h1,h2⟩:=r;rw[Af h2,bC h1];rfl
@[simp] noncomputable def qp(e:Ex):Sm:=λρ=>(e ρ).bind λd=>.ok (.fj d)
theorem FU{X:L2.Cx}{pos:Pos}{a:Expr}{fa:Ex}(ha:XF X a fa)(hl:∀ρ d,fa ρ=.ok d->∃ds,d=.lst ds):XS X (.Return (some a) pos) (qp fa):=⟨have ha:=ha.out;λF0=>
 cw (L2.p5 ha) λD σ H=>by
  rintro⟨ρ,F,fl,r,e,q⟩
  obtain⟨d,ed,e⟩:=ao.mp e;cases e;obtain⟨ds,rfl⟩:=hl _ _ ed;exact⟨ρ,F,ds,r.rs,ed,λp H1 xs s1 hp rv=>q p H1 F xs ds rfl (.same s1) (r.sm.trans s1) r.sub hp rv⟩⟩
end
def pQ(c0:Int)(d:Sd)(td:Tok)(e it:Addr)(i:Nat)(h:Heap):Prop:=(∃old,IsEnum h e it (c0+(i:Int)) old)/\d.iT it i h td
end PL
namespace PL
open PySem PySem.Spec PySem.W
open L2 (V Hp HO Cx PE PT PW PA PS cq PG di VK TE TT TA TS TI TG Inv RelV Vals Rd bt bH upd ah Key XK Ends a7 fS bM R2 EP It Turn cO Un b6 cX eF)
section
variable{P:Program}{w:World}{K:PySem.W.Frag}{mg:Str->Y6}{base:Heap}{N:List Str}{qual:Str}{scope:Scope}{f:Addr}{Lk:Value}{A:Around}{outer:List Env}{s:Shared}{H:Hp}{E:XK}
noncomputable def rz(n:Nat)(c:Str)(t:aY):List D->R D:=λds=>match t (ds.map Slot.sh++List.replicate (n - ds.length) .un)with
 |.ok true=>.exc (.cj c [] [])
 |_=>.bad
end
end PL
namespace PL
open PySem PySem.Spec
open L2 (V Hp HO Cx PE PT PW PA PS cq PG di VK TE TT TA TS TI TG Inv RelV Vals Rd bt bH upd ah Key XK Ends a7 fS bM R2 EP It Turn cO Un)
noncomputable abbrev dT(xs:List D):D:=.cj ⟨#[]⟩ [⟨#[116]⟩] xs
end PL
set_option maxHeartbeats 2000000
namespace PL
open PySem PySem.Spec PySem.W
section
open L2 (V Hp HO Cx PE PT PW PA PS cq PG di VK TE TT TA TS TI TG Inv RelV Vals Rd bt bH upd ah Key XK Ends a7 fS bM R2 EP It Turn cO Un)
variable{X:Cx}{M:Md}{G H H':Hp}{F0:Gf}{F F':Y8}{σ:L2.St}{ρ:En}{pos:Pos}{pins:List (Addr×Obj)}{s:Shared}
end
end PL
namespace PL
open PySem PySem.Spec
open PyProof.Rows (assign_Tuple)
open L2 (V Hp HO Cx PE PT PW PA PS cq PG di VK TE TT TA TS TI TG Inv RelV Vals Rd bt bH upd ah Key XK Ends a7 fS bM R2 EP)
end PL
set_option maxHeartbeats 1000000
namespace PL
open PySem PySem.Spec
open L2 (V Hp HO Cx PE PT PW PA PS cq PG di VK TE TT TA TS TI TG Inv RelV Vals Rd bt bH upd ah Key XK Ends a7 fS bM R2 EP It Turn cO Un)
noncomputable def b5:Ky->D
 |.inl i=>.int i
 |.inr x=>.str x
def dE(P:Program)(w:World)(K:PySem.W.Frag)(H:Hp)(a:Addr)(ob:Obj)(kvs:List (Key×V)):Prop:=
 H a=some (.frz ob (.dK kvs))\/(K.lookup a=some ob/\∃(es:Array DictEntry) (ep:Nat) (vs:List (Key×Value)),ob.ExactDict/\ob.data=.dict es ep/\KeysOf (L2.bz P w) es/\Pairs (L2.bz P w) es.toList vs/\
  (vs.map (·.1)).Nodup/\L2.KV kvs vs/\kvs.length<=sizeLine/\(a==sysModules)=false)
theorem pU{M:Md}{H:Hp}{F:Y8}{a:Addr}{kvs:List (Key×V)}(h:eN M H F a kvs):∃ob,((¬F a/\H a=some (.frz ob (.dK kvs)))\/dE M.P M.w M.K (λ_=>none) a ob kvs)/\dE M.P M.w M.K H a ob kvs:=by
 rcases h with⟨n,ob,h⟩|⟨o,es,ep,vs,h1,h2,h3,h4,h5,h6,h7,h8,h9⟩
 ·exact⟨ob,.inl ⟨n,h⟩,.inl h⟩
 ·exact⟨o,.inr (.inr ⟨h1,es,ep,vs,h2,h3,h4,h5,h6,h7,h8,h9⟩),.inr ⟨h1,es,ep,vs,h2,h3,h4,h5,h6,h7,h8,h9⟩⟩
section
variable{X:Cx}{M:Md}{G H H':Hp}{F0:Gf}{F F':Y8}{σ:L2.St}{ρ:En}{pos:Pos}{pins:List (Addr×Obj)}{s:Shared}
theorem hJ{a:Addr}{ob:Obj}{kvs:List (Key×V)}(I:Inv X pins σ H s)(h:dE X.prog X.w X.K H a ob kvs):kvs.length<=sizeLine/\(a==sysModules)=false/\∃vs es ep,L2.KV kvs vs/\ob.data=.dict es ep/\s.heap.DictAt (L2.bz X.prog X.w) a vs ep:=by
 rcases h with h|⟨h1,es,ep,vs,h2,h3,h4,h5,h6,h7,h8,h9⟩
 ·obtain⟨e0,z,y,vs,r,Tr,es,ep,e1,c1,c2,c3,c4,c5⟩:=I.aK a _ h
  rw[e0]at e1;cases e1;exact⟨z,y,vs,es,ep,r,c2,ob,es,e0,c1,c2,c3,c4,c5⟩
 ·exact⟨h8,h9,vs,es,ep,h7,h3,ob,es,I.c7 a ob h1,h2,h3,h4,h5,h6⟩
noncomputable def sU(P:Program)(w:World)(K:PySem.W.Frag)(a:Addr)(ob:Obj)(kvs:List (Key×V)):It:=
 ⟨λi H=>dE P w K H a ob kvs/\i<kvs.length,λi H x H'=>H'=H/\∃kv,kvs[i]? =some kv/\x=L2.kV kv.1,λi H=>dE P w K H a ob kvs/\i=kvs.length⟩
theorem fO{kvs:List (Key×V)}{vs:List (Key×Value)}(h:L2.KV kvs vs):kvs.length=vs.length:=by
 unfold L2.KV at h
 induction h with
 |nil=>rfl
 |cons _ _ ih=>simp[ih]
theorem yJ{kvs:List (Key×V)}{vs:List (Key×Value)}(h:L2.KV kvs vs):∀ {i:Nat} {p:Key×Value},vs[i]? =some p->∃q,kvs[i]? =some q/\q.1=p.1:=by
 unfold L2.KV at h
 induction h with
 |nil=>intro i p e;simp at e
 | cons hd _ ih=>
  intro i p e;cases i with
  |zero=>simp at e;subst e;exact⟨_,rfl,hd.1⟩
  |succ i=>simpa using ih (i:=i) (by simpa using e)
theorem vT{k:Key}{u:Value}(h:L2.kD k u=true):RelV (L2.kV k) u:=by
 rcases L2.ix h with⟨i,t,rfl,rfl⟩|⟨x,t,rfl,rfl⟩
 ·exact⟨t,rfl⟩
 ·exact⟨t,rfl⟩
theorem Gk{P:Program}{w:World}{K:PySem.W.Frag}{tg:Expr}(a it:Addr)(ob:Obj)(es:Array DictEntry)(ep:Nat)(Nt:ob.data=.dict es ep)(kvs:List (Key×V)):Turn P w K tg (sU P w K a ob kvs) [it] it (λi h=>h.IsKeyIter it a i kvs.length ep) where
 mem:=by simp
 obj:=λi h st b hb=>by
  have e:b=it:=by simpa using hb
  subst e;obtain⟨o,e,c,d⟩:=st;exact⟨o,e,λv z=>by rw[d]at z;cases z⟩
 keep:=λi h h' st k=>st.at λo e=>k it (by simp) o e
 item:=by
  intro X hP hw hK hc i pins s σ H E I hf st hg;subst hP hw hK;obtain⟨dz,hi⟩:=hg;obtain⟨hz,hs,vs,N1,OC,rel,Mh,dat⟩:=hJ I dz;rw[Nt]at Mh;cases Mh;have hl:=fO rel;have hx:vs[i]? =some vs[i]:=KF (by omega)
  obtain⟨q,hq,eq⟩:=yJ rel hx;obtain⟨f0,f1,f2,f3,f4,f5⟩:=hf it (by simp)
  rw[hl]at st;refine wpAny_pyNext_dict_item (k:=vs[i].1) (v:=vs[i].2) st dat hx λkey h' N8 Mz sb=>?_;have I1:Inv X pins σ H {s with heap:=h'}:=I.turned (t':=s.toks) (λb o hb e=>(sb.2 b hb).trans e) f0 f1 f3 f4 f5;obtain⟨o,e,c,d⟩:=id Mz;rw[<-hl]at Mz;exact⟨key,rfl,L2.kL (s:={s with heap:=h'}) e c d (by decide) ⟨L2.kV q.1,H,I1,by rw[eq];exact vT N8,⟨rfl,q,hq,rfl⟩,Mz,λb hb=>(hf b hb).1⟩⟩
 done:=by
  intro X hP hw hK hc i pins s σ H E I hf st hg;subst hP hw hK;obtain⟨dz,hi⟩:=hg;obtain⟨hz,hs,vs,N1,OC,rel,Mh,dat⟩:=hJ I dz;rw[Nt]at Mh;cases Mh;have hl:=fO rel;obtain⟨f0,f1,f2,f3,f4,f5⟩:=hf it (by simp)
  rw[hl]at st;exact wpAny_pyNext_dict_end (I.ok.hd hc) st dat (W4.mpr (by omega)) λh' eb=>⟨rfl,I.turned (t':=s.toks) (λb o hb e=>eb b o hb e) f0 f1 f3 f4 f5⟩
 self:=λ_ _ _ _ _ st h=>wpAny_pyIter_keyiter st h
def Cw(P:Program)(w:World)(K:PySem.W.Frag)(tl:TE):TI:=λσ H R=>tl σ H λx H1=>∃a ob kvs,x=.ref a/\dE P w K H1 a ob kvs/\R (sU P w K a ob kvs) H1
theorem Ce{tg l:Expr}{tl:TE}(hl:PE X l tl):L2.PI X tg l (Cw X.prog X.w X.K tl):=by
 intro pins s σ H R I h;refine L2.aL (hl pins s σ H _ I h) λv s1 ⟨x,H1,I1,r1,q1⟩=>?_;obtain⟨a,ob,kvs,e,dz,q⟩:=q1;subst e;cases r1;obtain⟨hz,hs,vs,es,ep,rel,Nt,dat⟩:=hJ I1 dz;have hlen:=fO rel;refine wpAny_pyIter_dict hs dat ?_;rw[<-hlen];refine⟨s1.heap.objs.size,[s1.heap.objs.size],_,_,H1,rfl,I1.kept (t':=s1.toks) λb o e=>cp _ e,Gk a _ ob es ep Nt kvs,⟨_,FS _ rfl,rfl,rfl⟩,λb hb=>?_,q⟩;have e:b=s1.heap.objs.size:=by simpa using hb
 subst e;exact I1.jG (Fk _) (I1.aK.fresh (Fk _))
noncomputable def j8(a:Ex):bV:=λρ=>(a ρ).bind λx=>match x with
 |.ai ks _=>.ok (ks.map b5)
 |_=>.bad
theorem zb{k:Ky}:Rep M H F (b5 k) (L2.kV k):=by
 cases k with
 |inl i=>exact d8
 |inr x=>exact lJ
theorem Cv{a:Addr}{ob:Obj}{ks:List Ky}{xs:List V}(hd:(¬F a/\H a=some (.frz ob (.dK (ks.zip xs))))\/dE M.P M.w M.K (λ_=>none) a ob (ks.zip xs))(hl:ks.length=xs.length):Gives M (sU M.P M.w M.K a ob (ks.zip xs)) H F (ks.map b5):=by
 intro H' F' mv tr;have NZ:(ks.zip xs).length=ks.length:=by rw[On];omega
 have dz:dE M.P M.w M.K H' a ob (ks.zip xs):=by
  rcases hd with⟨n,h⟩|h
  ·exact .inl (mv _ _ n h).2
  ·rcases h with h|h
   ·cases h
   ·exact .inr h
 refine⟨λi d NW=>?_,?_⟩
 ·obtain⟨hi,_⟩:=mO.mp NW
  rw[Do]at hi;rw[DM,KF hi]at NW;cases NW;refine⟨⟨dz,by omega⟩,λy H2 hy=>?_⟩
  obtain⟨rfl,kv,QD,rfl⟩:=hy;obtain⟨hk,e⟩:=mO.mp QD;have:kv.1=ks[i]:=by rw[<-e,Xa]
  rw[this];exact⟨ah.refl _,zb⟩
 ·exact⟨dz,by rw[Do,NZ]⟩
theorem sA{X:L2.Cx}{tg l:Expr}{fa:Ex}(ha:XE X l fa):XI X tg l (j8 fa):=⟨have ha:=ha.out;j4 (Ce ha) λσ H Q=>by
  rintro⟨ρ,F,ds,r,e,q⟩
  obtain⟨d,ed,e⟩:=ao.mp e;cases d with
  | ai ks vs=>
   cases e;refine⟨ρ,F,_,r,ed,λv H1 s1 rv=>?_⟩;simp only[Rep]at rv;obtain⟨a,xs,rfl,h,hl,rs⟩:=rv;obtain⟨ob,h1,h2⟩:=pU h;exact⟨a,ob,_,rfl,h2,q _ H1 s1 (Cv (M:=aD X) h1 hl)⟩
  |_=>cases e⟩
noncomputable def putL(k:Ky)(d:D)(ks:List Ky)(vs:List D):List Ky×List D:=if(ks.any λa=>decide (a=k))=true then(ks,List.zipWith (λa v=>if a=k then d else v) ks vs)else(ks++[k],vs++[d])
noncomputable def q9(i:Nat)(k e:Ex):Sm:=λρ=>(e ρ).bind λd=>(k ρ).bind λq=>match ρ[i]?,keyOf q with
 |some (.od ks vs),some y=>if ks.length<1000 then .ok (.next (ρ.set i (.od (putL y d ks vs).1 (putL y d ks vs).2)))else .bad
 |_,_=>.bad
theorem jl{ks:List Ky}{xs:List V}(k:Ky)(v:V)(hl:ks.length=xs.length):
  L2.putK (ks.zip xs) k v=(if(ks.any λa=>decide (a=k))=true then ks.zip (List.zipWith (λa x=>if a=k then v else x) ks xs)else(ks++[k]).zip (xs++[v])):=by
 have Pd:∀ {ks:List Ky} {xs:List V},ks.length=xs.length->((ks.zip xs).any λkv=>decide (kv.1=k))=(ks.any λa=>decide (a=k)):=by
  intro ks
  induction ks with
  |nil=>intro xs _;simp
  | cons a ks ih=>
   intro xs hl;cases xs with
   |nil=>simp at hl
   |cons x xs=>rw[V7,Wf,Wf,ih (by simpa using hl)]
 unfold L2.putK;rw[Pd hl];by_cases h:(ks.any λa=>decide (a=k))=true
 ·rw[u9 h,u9 h]
  have e:∀ {ks:List Ky} {xs:List V},ks.length=xs.length->(ks.zip xs).map (λkv=>if kv.1=k then(kv.1,v)else kv)=ks.zip (List.zipWith (λa x=>if a=k then v else x) ks xs):=by
   intro ks
   induction ks with
   |nil=>intro xs _;simp
   | cons a ks ih=>
    intro xs hl;cases xs with
    |nil=>simp at hl
    | cons x xs=>
     rw[V7,Re,ih (by simpa using hl),Wj,V7]
     by_cases h:a=k
     ·simp[h]
     ·simp[h]
  exact e hl
 ·rw[Da h,Da h,List.zip_append hl]
  rfl
theorem tW{k:Ky}{d:D}{v:V}(rd:Rep M H F d v):∀ {ks:List Ky} {ds:List D} {xs:List V},ae M H F ds xs->ae M H F (List.zipWith (λa y=>if a=k then d else y) ks ds) (List.zipWith (λa x=>if a=k then v else x) ks xs)
 |[],_,_,_=>by simpa using ae.nil
 | a::ks,[],xs,r=>by
  simp only[ae]at r;subst r;simpa using ae.nil
 | a::ks,y::ds,xs,r=>by
  simp only[ae]at r;obtain⟨x,OM,rfl,r1,r2⟩:=r;rw[Wj,Wj];refine ae.cons ?_ (tW rd r2);by_cases h:a=k
  ·rw[u9 h,u9 h];exact rd
  ·rw[Da h,Da h];exact r1
theorem Cz{X:L2.Cx}{pos:Pos}(i:Nat){x:Str}{e k:Expr}{f g:Ex}{p2 p3:Pos}(hu:X.A.units+64<cLine)(hk:XE X k g)(he:XE X e f)(hN:X.N[i]? =some x:=by rfl)(hv:L2.dS X.env.scope x:=by exact Or.inl rfl)(hd:gV x:=by decide)(L4:TY x:=by decide)(hs:swapsWith e (some (.Subscript (.Name x p2) k p3)) pos.line X.env=pure false:=by exact d5 (by rfl)):XS X (.Assign [.Subscript (.Name x p2) k p3] e pos) (q9 i g f):=⟨have hk:=hk.out;have he:=he.out;λF0=>
 cw (L2.pf (by omega) (L2.pv i hN hv hd L4) hk he hs) λD σ H=>by
  rintro⟨ρ,F,fl,r,e,q⟩
  obtain⟨d,ed,e⟩:=ao.mp e;obtain⟨y,ey,e⟩:=ao.mp e
  have ⟨ks,vs,z,q1,hk,e9⟩:∃ks vs z,ρ[i]? =some (.od ks vs)/\keyOf y=some z/\(if ks.length<1000 then R.ok (Fl.next (ρ.set i (.od (putL z d ks vs).1 (putL z d ks vs).2)))else .bad)=.ok fl:=by
   cases hq:ρ[i]? with
   |none=>rw[hq]at e;cases e
   | some s=>
    rw[hq]at e;cases s with
    | od ks vs=>
     cases hz:keyOf y with
     |none=>rw[hz]at e;cases e
     |some z=>rw[hz]at e;exact⟨ks,vs,z,rfl,rfl,e⟩
    |_=>cases e
  by_cases Mp:ks.length<1000
  ·rw[u9 Mp]at e9
   cases e9;have oi:bu ρ i:=.inr ⟨_,_,q1⟩;obtain⟨a,xs,ea,fa,ha,hl,rs⟩:=r.rs.od i _ _ q1;refine⟨ρ,F,d,r.rs,ed,λv H1 s1 rv=>⟨_,ea,ρ,F,y,(r.same s1).rs,ey,λw H2 s2 L0=>?_⟩⟩;have r2:=(r.same s1).same s2;have Pc:=s2 _ _ (s1 _ _ ha);cases dH hk L0;have QS:=rv.mv (M:=aD X) (F':=F) (.same s2);have Ob:=rs.mv (M:=aD X) (F':=F) (.same (s1.trans s2))
   have NZ:(ks.zip xs).length<sizeLine:=by
    have:(sizeLine:Nat)=16777216:=V3;rw[On];omega
   refine⟨a,_,rfl,L2.jH.k Pc NZ,?_⟩;rw[jl z v hl];unfold putL at q;by_cases hm:(ks.any λa=>decide (a=z))=true
   ·rw[u9 hm]at q ⊢
    obtain⟨mv,r'⟩:=r2.chg (s:=.od ks (List.zipWith (λa y=>if a=z then d else y) ks vs)) oi ea (.inr ⟨_,_,_,rfl,rfl,by rw[Xk];omega,tW QS Ob⟩)
    exact q _ _ _ (Mv.trans (.same (s1.trans s2)) mv) r'
   ·rw[Da hm]at q ⊢
    obtain⟨mv,r'⟩:=r2.chg (s:=.od (ks++[z]) (vs++[d])) oi ea (.inr ⟨_,_,_,rfl,rfl,by rw[JK,JK,hl];rfl,Ob.append (ae.cons QS ae.nil)⟩)
    exact q _ _ _ (Mv.trans (.same (s1.trans s2)) mv) r'
  ·rw[Da Mp]at e9;cases e9⟩
theorem xV{P:Nat->Value->Prop}{xs:List V}:∀ {l:Y5},l.length=xs.length->(∀(j:Nat) v,l[j]? =some v->∃x,xs[j]? =some x/\RelV x v)->Vals xs l:=by
 intro l
 induction l generalizing xs with
 | nil=>intro hl _;cases xs with
  |nil=>exact .nil
  |cons _ _=>cases hl
 | cons v l ih=>
  intro hl h;cases xs with
  |nil=>cases hl
  | cons x xs=>
   obtain⟨y,e,r⟩:=h 0 v rfl;cases e;exact .cons r (ih (by simpa using hl) λj w hw=>by simpa using h (j+1) w (by simpa using hw))
end
theorem qk:bootBuiltins "sorted"=some (.builtin "sorted"):=by decide+kernel
end PL
namespace PySem
theorem GW:typeLookup (.type "list") "keys"=pure none:=am_miss_of_fast (by decide+kernel)
theorem IK{prog:Program}{w:World}{A:Around}{E:Value->Shared->Prop}{s:Shared}{a:Addr}{o:Obj}{xs:Array Value}{k:Nat}{Q:Y6->Shared->Prop}
  (hx:s.heap.get? a=some o) (hc:o.cls=.type "list") (Oc:o.data=.seq xs k) (hd:o.dict=none) (hA:A.handled=none)
  (h:∀h' tk,(∀b ob,s.heap.get? b=some ob->h'.get? b=some ob)->Q none {s with heap:=h',toks:=tk}):
  wpAny (model prog w) A (getAttr? (.ref a) "keys") Q E s:=by
 obtain⟨c,ai,dat,sl⟩:=o;simp only at hc Oc hd;subst hc Oc hd;obtain⟨hp,g,d,tk,os⟩:=s;have hT:∀SS,(⟨hp,g,d,SS,os⟩:Shared).TypeIs (.ref a) "list":=λ_=>⟨_,hx,rfl⟩;have f1:=sub_AttributeError;have f3:=Xi.lookup;have f4:=Xi.bind (.ref a);have f5:=am_list_getattr_none;unfold getAttr? getAttrBy? getAttrBy
 repeat (any_goals (first|assumption|exact hT _|((with_reducible show wpAny _ _ (call (Value.builtin "list.__getattribute__") _ _) _ _ _);refine XM Xi (hT _) am_entry_list_getattribute (F.args_list_getattribute_2 _ _) (meets_getattribute_miss_list a xs k sl "keys" _ GW (by decide+kernel) (by size_fits)) ⟨hx,hA,λh' SS e LY=>?_⟩)|wp_step))
 obtain⟨t',u',he⟩:=LY.there;show wpAny _ _ (getattributeRaised _ _ _ _ _ _ _) _ _ _;unfold getattributeRaised
 repeat (any_goals (first|assumption|wp_step))
 exact h _ _ LY.keeps
theorem qZ:plainId "dict.update.loop"=true:=by decide+kernel
theorem A2:entryFor table "dict.update.loop"=some Builtin.«dict.update.loop»:=entryFor_of_tree (by kernel_rfl)
section
variable{prog:Program}{w:World}{A:Around}{R:Result->Shared->Prop}{I ax:Addr}
def vX{K:Type} [DecidableEq K] (knd:KeyKind prog w K) (h:Heap) (v:Value) (p:K×Value):Prop:=∃a key,v=.ref a/\PyProof.Rows.IsTup h a #[key,p.2]/\knd.is p.1 key=true
theorem J7{K:Type} [DecidableEq K] {knd:KeyKind prog w K} (hh:A.in1.handled=none) {d:Addr} {items:Array Value} {res:Value} (C':ax≠I) (Sr:d≠I) (U5:d≠ax):∀(more:List (K×Value)) (i:Nat) (z:Int) (kvs:List (K×Value)) (s:Shared),items.size - i=more.length->i<=items.size->
  s.heap.IsListIter I ax i->s.heap.IsList ax items->s.heap.DictOf knd d kvs->kvs.length+more.length<=sizeLine->(∀(j:Nat) p,more[j]? =some p->∃v,items[i+j]? =some v/\vX knd s.heap v p)->
  (∀h' tk,(∀b o,b≠I->b≠d->s.heap.get? b=some o->h'.get? b=some o)->h'.DictOf knd d (merged kvs more)->R (.ok (.ret res)) {s with heap:=h',toks:=tk})->
  codeAny (model prog w) A (.builtin "dict.update.loop" ⟨[.ref d,.ref I,rawInt z,res],[]⟩) R s:=by
 intro more
 induction more with
 | nil=>
  intro i z kvs s hk hi hit hl hd hsz hp hR;have OD:i=items.size:=by simp at hk;omega
  subst OD;refine codeAny_builtin A2 ?_;rw[Y2 qZ _];show wpAny _ A.in1 (pyNext (.ref I) >>= _) _ _ s;refine mB (YR hh hit hl (by simp) λh' Tg=>?_)
  show wpAny _ _ (Builtin.Dict.addKeywords d [] >>= _) _ _ _;refine mB (JO (JO ?_));exact hR h' s.toks (λb o hb _ e=>Tg b o hb e) (hd.extBut Tg Sr)
 | cons p more ih=>
  intro i z kvs s hk hi hit hl hd hsz hp hR;obtain⟨v,hv,Vq⟩:=hp 0 p rfl;rw[Nat.add_zero]at hv;obtain⟨a,key,rfl,Tc,N8⟩:=Vq;refine codeAny_builtin A2 ?_;rw[Y2 qZ _];show wpAny _ A.in1 (pyNext (.ref I) >>= _) _ _ s;refine mB (YH hit hl hv λh' O' OU=>?_);refine mB (WY ?_);have NW:h'.DictOf knd d kvs:=hd.extBut OU.extBut Sr;have Rc:h'.IsList ax items:=hl.extBut OU.extBut C'
  have pQ:∀ {b xs},PyProof.Rows.IsTup s.heap b xs->b≠I/\b≠d:=λ{b xs} ht=>by
   obtain⟨o,ho,hc,_⟩:=ht;refine⟨λe=>?_,λe=>?_⟩
   ·obtain⟨o2,Ot,OE,_⟩:=hit
    rw[<-e,ho]at Ot;cases Ot;rw[hc]at OE;exact absurd OE (by decide)
   ·obtain⟨o2,_,_,Ot,OE,_⟩:=hd
    rw[<-e,ho]at Ot;cases Ot;exact absurd (hc.symm.trans OE.1) (by decide)
  have RW:PyProof.Rows.IsTup h' a #[key,p.2]:=Tc.extBut OU.extBut (pQ Tc).1;obtain⟨o,ho,hc,n,Nt⟩:=id RW;refine mB (wpAny_tryCatch ?_);unfold Builtin.Dict.pairItems;refine mB (wpAny_typeOf (show Shared.TypeIs {s with heap:=h'} (.ref a) "tuple" from⟨o,ho,hc⟩) ?_)
  rw[u9 (by decide)]
  refine mB (Wc ho Nt (JO ?_));show wpAny _ _ (holding [key,p.2] (dictSet d key p.2)) _ _ _;refine WY (wpAny_dictSet_pairs N8 NW (λVM RE OK=>?_) (by rw[V6]at hsz;omega))
  refine JO ⟨YA qZ _,ih (i+1) (z+1) (stored kvs p.1 p.2) _ (by simp at hk ⊢;omega) (by simp at hk;omega) (O'.extBut OK.extBut (Os Sr)) (Rc.extBut OK.extBut (Os U5)) RE ?_ (λj q hq=>?_) λh3 Ui k3 d3=>?_⟩
  ·have:=stored_length_le kvs p.1 p.2
   rw[V6]at hsz;omega
  ·obtain⟨v2,Oi,b,Rh,rfl,Pp,MQ⟩:=hp (j+1) q (by simpa using hq)
   refine⟨_,by rw[show i+1+j=i+(j+1) by omega];exact Oi,b,Rh,rfl,?_,MQ⟩
   exact(Pp.extBut OU.extBut (pQ Pp).1).extBut OK.extBut (pQ Pp).2
  ·refine hR h3 Ui (λb o hb S' e=>k3 b o hb S' ?_) d3
   rw[OK.2 b S',OU.2 b hb];exact e
theorem Ha{E:Value->Shared->Prop}{s:Shared}{K:Type} [DecidableEq K] {knd:KeyKind prog w K} {a:Addr} {o:Obj} {items:Array Value} {n:Nat} {more:List (K×Value)} {Q:Value->Shared->Prop} (hh:A.handled=none)
  (hx:s.heap.get? a=some o) (hc:o.cls=.type "list") (Oc:o.data=.seq items n) (N':o.dict=none) (hlen:items.size=more.length) (hsz:more.length<=sizeLine) (hp:∀(j:Nat) p,more[j]? =some p->∃v,items[j]? =some v/\vX knd s.heap v p)
  (h:∀h' tk,(∀b ob,s.heap.get? b=some ob->h'.get? b=some ob)->h'.DictOf knd s.heap.objs.size (merged [] more)->Q (.ref s.heap.objs.size) {s with heap:=h',toks:=tk}):
  wpAny (model prog w) A (call (.type "dict") [.ref a]) Q E s:=by
 refine callType_codes (Q₁:=λobj Lm=>obj=.ref s.heap.objs.size/\Lm={s with heap:=s.heap.push {cls:=.type "dict",data:=.dict #[]} }) F.kt_called_dict (F.kt_typeCall_dict_1 _) F.entry_dict_init (kt_code_dict_new _ ⟨rfl,rfl⟩) ?_;rintro obj Lm ⟨rfl,rfl⟩;have Ma:(s.heap.push {cls:=.type "dict",data:=.dict #[]}).DictOf knd s.heap.objs.size []:=Heap.DictOf.new s.heap;have LY:(s.heap.push {cls:=.type "dict",data:=.dict #[]}).get? a=some o:=cp _ hx;have Mp:a<s.heap.objs.size:=GE hx;have TU:Shared.TypeIs {s with heap:=s.heap.push {cls:=.type "dict",data:=.dict #[]} } (.ref a) "list":=⟨o,LY,hc⟩;refine⟨Ma.typeIs,F.args_dict_init_2 _ _,?_⟩;unfold Builtin.«dict.__init__»;refine mB ?_;unfold Builtin.Dict.selfAndRest;refine mB (wpAny_notOrdered_dict Ma.typeIs ?_);show wpAny _ _ (pure (s.heap.objs.size,[Value.ref a])) _ _ _;refine JO ?_;show wpAny _ _ (Builtin.Dict.updateFrom "dict.__init__" s.heap.objs.size (.ref a) [] .none) _ _ _;unfold Builtin.Dict.updateFrom;refine mB (wpAny_typeOf TU ?_);rw[u9 (by decide)]
 refine mB (IK LY hc Oc N' hh λh1 VI k1=>?_);show wpAny _ _ (rule "dict.__init__.from-pairs" >>= _) _ _ _;refine mB (Yv ?_);have Ah:h1.IsList a items:=⟨o,k1 _ _ LY,hc,n,Oc⟩;refine mB (Xf Ah ?_)
 have O4:s.heap.objs.size<h1.objs.size:=by
  obtain⟨o',_,_,Nu,_⟩:=Ma;exact GE (k1 _ _ Nu)
 refine JO ⟨YA qZ _,?_⟩;refine J7 (knd:=knd) (prog:=prog) (w:=w) (A:=A.in1) (I:=h1.objs.size) (ax:=a) hh (Pi (Yl Mp O4)) (Pi O4) (Wr Mp) more 0 0 [] _ (by simpa using hlen) (Rf _) ?_ ?_ ?_ (by simpa using hsz) (λj p hj=>?_) λh2 Ur k2 d2=>?_
 ·exact⟨_,FS _ rfl,rfl,rfl⟩
 ·exact Ah.push _
 ·obtain⟨o',es,ep,Nu,r⟩:=Ma
  exact⟨o',es,ep,cp _ (k1 _ _ Nu),r⟩
 ·obtain⟨v,hv,b,key,rfl,ht,hk⟩:=hp j p hj
  exact⟨_,by rw[WJ];exact hv,b,key,rfl,((ht.push _).keeps k1).push _,hk⟩
 ·refine⟨rfl,h h2 Ur (λb ob hb=>?_) d2⟩
  have Tf:b<s.heap.objs.size:=GE hb;exact k2 b ob (Pi (Yl Tf O4)) (Pi Tf) (cp _ (k1 _ _ (cp _ hb)))
end
end PySem
namespace PL
open PySem PySem.Spec
open L2 (V Hp HO Cx PE PT PW PA PS cq PG di VK TE TT TA TS TI TG Inv RelV Vals Rd bt bH upd ah Key XK Ends a7 fS bM R2 EP It Turn cO Un)
noncomputable def kH:List D->List Ky->List D->R D
 |[],ks,vs=>.ok (.ai ks vs)
 | .tup [k,v]::r,ks,vs=>match keyOf k with
  |some q=>kH r (putL q v ks vs).1 (putL q v ks vs).2
  |none=>.bad
 |_,_,_=>.bad
noncomputable def m8:D->R D
 |.lst ds=>if ds.length<=1000 then kH ds [] []else .bad
 |_=>.bad
section
variable{X:Cx}{M:Md}{G H H':Hp}{F0:Gf}{F F':Y8}{σ:L2.St}{ρ:En}{pos:Pos}{pins:List (Addr×Obj)}{s:Shared}
theorem zu{k:Ky}{d:D}{v:V}{ks:List Ky}{vs:List D}{xs:List V}(hl:ks.length=xs.length)(rs:ae M H F vs xs)(rd:Rep M H F d v):
  ∃ys,L2.putK (ks.zip xs) k v=(putL k d ks vs).1.zip ys/\(putL k d ks vs).1.length=ys.length/\ae M H F (putL k d ks vs).2 ys:=by
 rw[jl k v hl];unfold putL;by_cases hm:(ks.any λa=>decide (a=k))=true
 ·rw[u9 hm,u9 hm]
  exact⟨_,rfl,by rw[Xk];show ks.length=min ks.length xs.length;omega,tW rd rs⟩
 ·rw[Da hm,Da hm]
  exact⟨_,rfl,by rw[JK,JK,hl];rfl,rs.append (ae.cons rd ae.nil)⟩
def ku(M:Md)(H:Hp)(F:Y8):List V->List (Key×V)->Prop
 |[],[]=>True
 |x::xs,p::ps=>(∃a,x=.ref a/\cT M H F a [L2.kV p.1,p.2])/\ku M H F xs ps
 |_,_=>False
theorem Aq:∀ {ds:List D} {ks:List Ky} {vs:List D} {d:D} {ps:List V} {xs:List V},kH ds ks vs=.ok d->ae M H F ds ps->ks.length=xs.length->ae M H F vs xs->
  ∃more ks' vs' ys,ku M H F ps more/\more.length=ds.length/\d=.ai ks' vs'/\L2.dk (ks.zip xs) more=ks'.zip ys/\ks'.length=ys.length/\ae M H F vs' ys
 | [],ks,vs,d,ps,xs,e,r,hl,rs=>by
  simp only[ae]at r;subst r;cases e;exact⟨[],ks,vs,xs,True.intro,rfl,rfl,rfl,hl,rs⟩
 | c::ds,ks,vs,d,ps,xs,e,r,hl,rs=>by
  have⟨k,v,q,ec,ek,e9⟩:∃k v q,c=.tup [k,v]/\keyOf k=some q/\kH ds (putL q v ks vs).1 (putL q v ks vs).2=.ok d:=by
   unfold kH at e;split at e
   ·rename_i h;cases h
   ·rename_i h
    cases h;split at e
    ·rename_i hq;exact⟨_,_,_,rfl,hq,e⟩
    ·cases e
   ·cases e
  subst ec;simp only[ae]at r;obtain⟨x,ps,rfl,rx,rp⟩:=r;simp only[Rep]at rx;obtain⟨a,zs,rfl,ht,rz⟩:=rx;obtain⟨y1,y2,rfl,r1,r2⟩:=rz.two;cases dH ek r1;obtain⟨ys,e1,l1,PZ⟩:=zu (k:=q) hl rs r2;obtain⟨more,ks',vs',SJ,h1,h2,h3,h4,h5,h6⟩:=Aq e9 rp l1 PZ;refine⟨(q,y2)::more,ks',vs',SJ,⟨⟨a,rfl,ht⟩,h1⟩,by simp[h2],h3,?_,h5,h6⟩
  show L2.dk (L2.putK (ks.zip xs) q y2) more=_;rw[e1];exact h4
theorem AL(I:Inv X pins σ H s):∀ {ps:List V} {more:List (Key×V)} {af:Y5},ku (aD X) H F ps more->Vals ps af->∃ms:List (Key×Value),L2.KV more ms/\ms.length=af.length/\∀(j:Nat) p,ms[j]? =some p->∃v,af[j]? =some v/\vX (L2.bz X.prog X.w) s.heap v p
 |[],[],af,_,hv=>by cases hv;exact⟨[],.nil,rfl,λj p h=>by simp at h⟩
 | x::ps,p::more,af,h,hv=>by
  obtain⟨⟨a,rfl,ht⟩,h⟩:=h;cases hv with
  | cons rv hv=>
   cases rv;obtain⟨ms,k1,k2,k3⟩:=AL I h hv;obtain⟨ts,tv,tt,_⟩:=lD I ht;obtain⟨u1,u2,rfl,RY,R3⟩:=L2.vals2 tv;refine⟨(p.1,u2)::ms,.cons ⟨rfl,R3⟩ k1,by simp[k2],λj q hq=>?_⟩
   cases j with
   |zero=>cases hq;exact⟨_,rfl,a,u1,rfl,tt,L2.gD RY⟩
   |succ j=>exact k3 j q hq
 |[],_::_,_,h,_=>h.elim
 |_::_,[],_,h,_=>h.elim
def Hk(M:Md):List V->Hp->VK->Prop:=λxs H Q=>∃F l ps more,xs=[.ref l]/\fP M H F l ps/\ku M H F ps more/\more.length<=1000/\∀p,H p=none->Q (.ref p) (upd H p (.dK (L2.dk [] more)))
theorem yk(hc:X.calm=true):bM X (.type "dict") (Hk (aD X)):=by
 intro pins s σ H xs us Q I r h;obtain⟨F,l,ps,more,rfl,hl,hp,hz,q⟩:=h;obtain⟨u,rfl,ru⟩:=L2.vals1 r;cases ru;obtain⟨af,n,sl,hv,hg,_⟩:=iJ I hl;obtain⟨ms,k1,k2,k3⟩:=AL I hp hv;have hlen:=k1.length;have h3:(sizeLine:Nat)=16777216:=V3;refine Ha (knd:=L2.bz X.prog X.w) (more:=ms) (I.ok.hd hc) hg rfl rfl rfl (by rw[Gc];exact k2.symm) (by omega) (λj p hj=>by rw[Yq];exact k3 j p hj) λh' tk hk dd=>?_
 have hm:(L2.dk [] more).length<=sizeLine:=by
  have:=L2.qt more [];rw[XN]at this;omega
 exact⟨.ref _,_,I.laid (a:=s.heap.objs.size) (o:=.dK (L2.dk [] more)) (t':=tk) hk (Fk _) (L2.jm hm (WT.mpr (Os (Pi I.big))) (k1.merge .nil) dd),rfl,q _ (I.aK.fresh (Fk _))⟩
inductive Av(M:Md)(f:Ex)(σ:L2.St)(H:Hp)(Q:VK):Prop
 |mk:∀ρ F ks ds,a8 M H F σ ρ->f ρ=.ok (.ai ks ds)->(∀p H' xs,ah H H'->H' p=none->ks.length=xs.length->ae M H' F ds xs->Q (.ref p) (upd H' p (.dK (ks.zip xs))))->Av M f σ H Q
abbrev JD(X:Cx)(e:Expr)(f:Ex):Prop:=PE X e (Av (aD X) f)
structure XD(X:Cx)(e:Expr)(f:Ex):Prop where
 out:JD X e f
theorem EX{X:L2.Cx}{pos:Pos}{a:Expr}{fa:Ex}{p:Pos}(hm:X.mg "dict"=none)(ha:XE X a fa)(hc:X.calm=true:=by rfl)(hg:L2.Gl X "dict":=by rfl)(hs:starEach [a] X.env=(false,eval a X.env)::starEach [] X.env:=by exact bw (by rfl)):XD X (.Call (.Name "dict" p) [a] [] pos) (e1 m8 fa):=⟨have ha:=ha.out;bo (L2.lK (yk hc) hg hm lI (eO ha gh hs) (by decide) (by decide) hs) λσ H Q=>by
  rintro⟨ρ,F,ks,ds,hr,e,q⟩
  obtain⟨d1,ed,e⟩:=ao.mp e;refine⟨ρ,F,[d1],hr,by show(fa ρ).bind _=_;rw[ed];rfl,λvs H1 s1 rv=>?_⟩
  obtain⟨y,rfl,ry⟩:=rv.one;unfold m8 at e;split at e
  ·rename_i es
   split at e
   ·rename_i hlen
    simp only[Rep]at ry;obtain⟨a,xs,rfl,h1,rs⟩:=ry;obtain⟨more,ks',vs',ys,g1,g2,g3,g4,g5,g6⟩:=Aq e rs (xs:=[]) rfl ae.nil;cases g3;refine⟨F,a,xs,more,rfl,h1,g1,by omega,λp hp=>?_⟩
    have Va:L2.dk [] more=ks.zip ys:=g4;rw[Va];exact q p H1 ys s1 hp g5 g6
   ·cases e
  ·cases e⟩
theorem tG{X:L2.Cx}{pos:Pos}(i:Nat){x:Str}{e:Expr}{f:Ex}{p2:Pos}(hN:X.N.Nodup)(he:XD X e f)(hi:X.N[i]? =some x:=by rfl)(hx:L2.Loc X.env.scope x:=by exact Or.inl rfl)(hf:X.fn x=true\/X.env.scope.names.lookup x=some .local:=by exact .inl rfl)(hs:swapsWith e (some (.Name x p2)) pos.line X.env=pure false:=by exact d5 (by rfl)):XS X (.Assign [.Name x p2] e pos) (pM i f):=⟨have he:=he.out;λF0=>
 cw (L2.qI hN hi hx he hs hf) λD σ H=>by
  rintro⟨ρ,F,fl,r,e,q⟩
  obtain⟨d,ed,e⟩:=ao.mp e;split at e
  ·cases e
   refine⟨ρ,F,_,_,r.rs,ed,λp H1 xs s1 hp hl rs=>?_⟩;obtain⟨mv,r'⟩:=(r.same s1).new (i:=i) (s:=.od _ _) hp (.inr ⟨_,_,xs,rfl,rfl,hl,rs⟩);exact q _ _ _ (Mv.trans (.same s1) mv) r'
  ·cases e⟩
theorem DV{X:L2.Cx}{e:Expr}{f:Ex}(he:XD X e f)(hl:∀ρ d,f ρ=.ok d->∃ks ds,d=.ai ks ds):XE X e f:=⟨have he:=he.out;sf he λσ H Q=>by
  rintro⟨ρ,F,d,hr,e,q⟩
  obtain⟨ks,ds,rfl⟩:=hl _ _ e;refine⟨ρ,F,ks,ds,hr,e,λp H1 xs s1 hp hl rs=>⟨p,ks.zip xs,rfl,L2.aV,λob=>?_⟩⟩;rw[L2.oX];refine q _ _ (s1.trans (ah.bZ hp _)) ?_;simp only[Rep];exact⟨p,xs,rfl,.inl ⟨lr (hr.same s1).aU hp,ob,L2.aV⟩,hl,rs.mv (.same (ah.bZ hp _))⟩⟩
theorem zL:∀ {ds:List D} {ks:List Ky} {vs:List D} {d:D},kH ds ks vs=.ok d->∃ks' vs',d=.ai ks' vs'
 |[],_,_,_,e=>by cases e;exact⟨_,_,rfl⟩
 | c::ds,ks,vs,d,e=>by
  unfold kH at e;split at e
  ·rename_i h;cases h
  ·rename_i h
   cases h;split at e
   ·exact zL e
   ·cases e
  ·cases e
theorem BN{fa:Ex}(ρ:En)(d:D)(h:e1 m8 fa ρ=.ok d):∃ks ds,d=.ai ks ds:=by
 obtain⟨x,ex,e⟩:=ao.mp h;unfold m8 at e;split at e
 ·split at e
  ·exact zL e
  ·cases e
 ·cases e
noncomputable def g9:List Ky->List D->List Ky->List D->List Ky×List D
 |k::ks,v::vs,as,bs=>g9 ks vs (putL k v as bs).1 (putL k v as bs).2
 |_,_,as,bs=>(as,bs)
noncomputable def AY(i:Nat)(e:Ex):Sm:=λρ=>(e ρ).bind λd=>match d,ρ[i]? with
 |.ai ks vs,some (.od as bs)=>if ks.length+as.length<1000 then .ok (.next (ρ.set i (.od (g9 ks vs as bs).1 (g9 ks vs as bs).2)))else .bad
 |_,_=>.bad
theorem xu:∀ {ks:List Ky} {vs:List D} {ys:List V} {as:List Ky} {bs:List D} {xs:List V},ks.length=ys.length->ae M H F vs ys->as.length=xs.length->ae M H F bs xs->
  ∃zs,L2.dk (as.zip xs) (ks.zip ys)=(g9 ks vs as bs).1.zip zs/\(g9 ks vs as bs).1.length=zs.length/\ae M H F (g9 ks vs as bs).2 zs
 | [],vs,ys,as,bs,xs,_,_,hl,rs=>by
  have:g9 [] vs as bs=(as,bs):=by unfold g9;cases vs<;>rfl
  rw[this];exact⟨xs,rfl,hl,rs⟩
 | k::ks,vs,ys,as,bs,xs,h,rv,hl,rs=>by
  cases ys with
  |nil=>cases h
  | cons y ys=>
   cases vs with
   |nil=>simp only[ae]at rv;cases rv
   | cons v vs=>
    simp only[ae]at rv;obtain⟨_,_,e,r1,r2⟩:=rv;cases e;obtain⟨zs,e1,l1,PZ⟩:=zu (k:=k) hl rs r1;obtain⟨ws,e2,l2,Ob⟩:=xu (by simpa using h) r2 l1 PZ
    refine⟨ws,?_,l2,Ob⟩;show L2.dk (L2.putK (as.zip xs) k y) (ks.zip ys)=_;rw[e1];exact e2
theorem CV{H1:Hp}{s1:Shared}{a:Addr}{ob:Obj}{kvs:List (Key×V)}(I0:Inv X pins σ H s)(e0:H a=some (.dK kvs))(I1:Inv X pins σ H1 s1)(e1:H1 a=some (.frz ob (.dK kvs))):Inv X pins σ (upd H1 a (.dK kvs)) s1:=by
 have nn:∀ {b},H1 b=none->upd H1 a (.dK kvs) b=none:=λ{b} h=>by rw[L2.aE (λz=>by subst z;rw[e1]at h;cases h)];exact h
 refine⟨I1.ok,I1.os,I1.bare,⟨I1.base.keep,I1.base.slot,λb o h n x=>nn (I1.base.free b o h n x),I1.base.there,λb xs h=>?_,λb o u h=>?_,λb ps h=>?_⟩,I1.loc,I1.cell,nn I1.free,λx c h=>nn (I1.gu x c h),λp hp=>?_,λb o h=>?_,I1.len⟩
 ·have h1:=I1.base.iq b xs h
  rw[L2.aE (λz=>by subst z;rw[e1]at h1;cases h1)];exact h1
 ·have h0:=I0.base.fN b o u h
  rw[L2.aE (λz=>by subst z;rw[e0]at h0;cases h0)];exact I1.base.fN b o u h
 ·obtain⟨more,h1⟩:=I1.base.iu b ps h
  exact⟨more,by rw[L2.aE (λz=>by subst z;rw[e1]at h1;cases h1)];exact h1⟩
 ·obtain⟨h1,h2,h3⟩:=I1.pin p hp
  exact⟨h1,nn h2,h3⟩
 ·by_cases hb:b=a
  ·subst hb
   rw[L2.aV]at h;cases h;obtain⟨_,z,y,vs,r,dd⟩:=I1.aK b _ e1;exact⟨z,y,vs,r,dd⟩
  ·rw[L2.aE hb]at h
   refine(I1.aK b o h).ie (λc u _ q=>q) (λc q=>?_) λc xs q=>?_
   ·rw[L2.aE (λz=>by subst z;rw[e1]at q;cases q)];exact q
   ·rw[L2.aE (λz=>by subst z;rw[e1]at q;cases q)];exact q
mutual
theorem Rep.ft{H2:Hp}{F2:Y8}(o:∀a xs,cT M H F a xs->cT M H2 F2 a xs):∀ {d:D} {v:V},gc d=true->Rep M H F d v->Rep M H2 F2 d v
 |.aj,_,_,h=>by simp only[Rep]at h ⊢;exact h
 |.bl _,_,_,h=>by simp only[Rep]at h ⊢;exact h
 |.int _,_,_,h=>by simp only[Rep]at h ⊢;exact h
 |.str _,_,_,h=>by simp only[Rep]at h ⊢;exact h
 | .tup ds,_,n,h=>by
  simp only[Rep]at h ⊢;obtain⟨a,xs,e,t,r⟩:=h;exact⟨a,xs,e,o _ _ t,ae.ft o (by unfold PL.gc at n;exact n) r⟩
 |.lst _,_,n,_=>by unfold PL.gc at n;cases n
 |.ai _ _,_,n,_=>by unfold PL.gc at n;cases n
 |.cj _ _ _,_,n,_=>by unfold PL.gc at n;cases n
theorem ae.ft{H2:Hp}{F2:Y8}(o:∀a xs,cT M H F a xs->cT M H2 F2 a xs):∀ {ds:List D} {xs:List V},fB ds=true->ae M H F ds xs->ae M H2 F2 ds xs
 |[],_,_,h=>by simp only[ae]at h ⊢;exact h
 | d::ds,_,n,h=>by
  unfold fB at n;rw[sa]at n;simp only[ae]at h ⊢;obtain⟨x,r,e,h1,h2⟩:=h;exact⟨x,r,e,Rep.ft o n.1 h1,ae.ft o n.2 h2⟩
end
end
noncomputable def tH(fk fv:Ex):Ex:=λρ=>(fk ρ).bind λk=>(fv ρ).bind λv=>match keyOf k with
 |some q=>.ok (.ai [q] [v])
 |none=>.bad
section
variable{X:Cx}{M:Md}{G H H':Hp}{F0:Gf}{F F':Y8}{σ:L2.St}{ρ:En}{pos:Pos}{pins:List (Addr×Obj)}{s:Shared}
theorem BW{X:L2.Cx}{pos:Pos}{k v:Expr}{fk fv:Ex}(hk:XE X k fk)(hv:XE X v fv):XE X (.Dict [some k] [v] pos) (tH fk fv):=⟨have hk:=hk.out;have hv:=hv.out;by
 refine sf (L2.vW (L2.sj hk hv L2.tQ) rfl rfl (by simp) (by show 1<=15;decide)) λσ H Q ⟨ρ,F,d,hr,e,q⟩=>?_
 obtain⟨a,ea,e⟩:=ao.mp e;obtain⟨b,eb,e⟩:=ao.mp e;split at e
 ·rename_i z hz
  cases e;intro p hp;have PF:=hr.fresh (o:=.dK []) hp;refine⟨ρ,_,a,PF,ea,λx H1 s1 rx=>⟨ρ,_,b,PF.same s1,eb,λy H2 s2 ry=>?_⟩⟩;cases dH hz rx;have e2:H2 p=some (.dK []):=s2 _ _ (s1 _ _ L2.aV);refine⟨e2,[(z,y)],rfl,(by show 1<=15;decide),p,[(z,y)],rfl,L2.aV,λob=>?_⟩
  rw[L2.oX]
  have sm:ah H (upd H2 p (.frz ob (.dK [(z,y)]))):=λc u hc=>by
   have ne:c≠p:=λw=>by subst w;rw[hp]at hc;cases hc
   rw[L2.aE ne];exact s2 _ _ (s1 _ _ (by rw[L2.aE ne];exact hc))
  have nF:¬F p:=lr hr.aU hp;have mv:Mv (λb=>F b\/b=p) H2 F (upd H2 p (.frz ob (.dK [(z,y)]))):=λb u n e=>⟨λh=>n (.inl h),by rw[L2.aE (λz=>n (.inr z))];exact e⟩
  refine q _ _ sm ?_;simp only[Rep];exact⟨p,[y],rfl,.inl ⟨nF,ob,L2.aV⟩,rfl,ae.cons (ry.mv mv) ae.nil⟩
 ·cases e⟩
end
theorem T.cs{P:T->Prop}(d:∀x,P (.d x))(l:∀ts,P (.l ts))(m:∀ks ts,P (.m ks ts))(tu:∀ts,P (.tu ts))(mx:∀ks ts,P (.mx ks ts)):∀t,P t
 |.d y=>d y
 |.n .l ts=>l ts
 |.n (.m ks) ts=>m ks ts
 |.n .u ts=>tu ts
 |.n (.x ks) ts=>mx ks ts
noncomputable def Kd.toD:Kd->List D->D
 |.l,ds=>.lst ds
 |.m ks,ds=>.ai ks ds
 |.u,ds=>.tup ds
 |.x _,ds=>.cj ⟨#[]⟩ [⟨#[]⟩,⟨#[]⟩] ds
mutual
noncomputable def T.toD:T->D
 |.d x=>x
 |.n k ts=>k.toD (T.f7 ts)
noncomputable def T.f7:List T->List D
 |[]=>[]
 |t::ts=>T.toD t::T.f7 ts
end
noncomputable def T.at:T->List Nat->Option T
 |t,[]=>some t
 | .n _ ts,k::p=>match ts[k]? with
  |some t=>T.at t p
  |none=>none
 |.d _,_::_=>none
noncomputable def T.put(n:T):T->List Nat->T
 |_,[]=>n
 | .n kd ts,k::p=>match ts[k]? with
  |some t=>.n kd (ts.set k (T.put n t p))
  |none=>.n kd ts
 |.d x,_::_=>.d x
section
variable{X:Cx}{M:Md}{G H H':Hp}{F0:Gf}{F F':Y8}{σ:L2.St}{ρ:En}{pos:Pos}{pins:List (Addr×Obj)}{s:Shared}
mutual
theorem az.less(hs:∀a,F' a->F a):∀ {t:T} {v:V} {as:Y3},(∀b∈as,F' b)->az M H F t v as->az M H F' t v as
 | .d x,v,as,_,h=>by
  simp only[az]at h ⊢;exact⟨h.1,h.2.sub hs⟩
 | .n kd ts,v,as,k,h=>by
  simp only[az]at h ⊢;obtain⟨a,xs,bs,e1,rfl,f,e2,l,r⟩:=h;exact⟨a,xs,bs,e1,rfl,⟨λz=>f.mp (hs a z),λo=>k a (Kd.top o)⟩,e2,l,ak.less hs (λb hb=>k b (Kd.sub hb)) r⟩
theorem ak.less(hs:∀a,F' a->F a):∀ {ts:List T} {xs:List V} {as:Y3},(∀b∈as,F' b)->ak M H F ts xs as->ak M H F' ts xs as
 |[],xs,as,_,h=>by simp only[ak]at h ⊢;exact h
 | t::ts,xs,as,k,h=>by
  simp only[ak]at h ⊢;obtain⟨x,r,bs,cs,e1,rfl,h1,h2⟩:=h;exact⟨x,r,bs,cs,e1,rfl,az.less hs (λb hb=>k b (KB _ hb)) h1,ak.less hs (λb hb=>k b (FB _ hb)) h2⟩
end
theorem ak.part:∀ {ts:List T} {xs:List V} {as:Y3} {k:Nat} {t:T},ak M H F ts xs as->ts[k]? =some t->∃x bs,xs[k]? =some x/\az M H F t x bs/\bs.Sublist as
 |[],_,_,_,_,_,e=>by simp at e
 | t::ts,xs,as,0,_,h,e=>by
  simp only[ak]at h;obtain⟨x,r,bs,cs,rfl,rfl,h1,h2⟩:=h;cases e;exact⟨x,bs,rfl,h1,List.sublist_append_left _ _⟩
 | t::ts,xs,as,k+1,_,h,e=>by
  simp only[ak]at h;obtain⟨x,r,bs,cs,rfl,rfl,h1,h2⟩:=h;obtain⟨y,ds,h3,h4,h5⟩:=ak.part h2 (by simpa using e)
  exact⟨y,ds,by simpa using h3,h4,h5.trans (Wa _ _)⟩
theorem ak.chg{H2:Hp}{F2:Y8}{N:Y3}{c:Addr}{t':T}{x:V}(m:Mv F H F2 H2)(hk:∀b u,b≠c->H b=some u->H2 b=some u)(Pg:∀b,F b->F2 b):∀ {j:Nat} {ts:List T} {xs:List V} {as:Y3} {t:T},ak M H F ts xs as->as.Nodup->ts[j]? =some t->xs[j]? =some x->
  (∀bs,az M H F t x bs->bs.Nodup->c∈bs/\∃Ol,az M H2 F2 t' x Ol/\Ol.Nodup/\(∀b∈Ol,b∈bs\/(b∈N/\H b=none))/\∀b∈N,b∈Ol)->
  c∈as/\∃Lv,ak M H2 F2 (ts.set j t') xs Lv/\Lv.Nodup/\(∀b∈Lv,b∈as\/(b∈N/\H b=none))/\∀b∈N,b∈Lv
 |j,[],_,_,_,_,_,e,_,_=>by simp at e
 | 0,t::ts,xs,as,_,h,nd,e,ex,k=>by
  simp only[ak]at h;obtain⟨y,r,bs,cs,rfl,rfl,h1,h2⟩:=h;cases e;cases ex;have LF:=M0.mp nd;obtain⟨hc,Ol,k1,k2,k3,k4⟩:=k bs h1 LF.1;refine⟨KB _ hc,Ol++cs,?_,M0.mpr ⟨k2,LF.2.1,λa ha b hb z=>?_⟩,λb hb=>?_,λb hb=>KB _ (k4 b hb)⟩
  ·rw[W0]
   simp only[ak];refine⟨_,r,Ol,cs,rfl,rfl,k1,h2.mv m λb hb u f hu=>⟨Pg b f,hk b u (λz=>?_) hu⟩⟩;subst z;exact LF.2.2 b hc b hb rfl
  ·subst z
   rcases k3 a ha with h|⟨_,h⟩
   ·exact LF.2.2 a h a hb rfl
   ·obtain⟨_,u,hu⟩:=h2.fs a hb
    rw[h]at hu;cases hu
  ·rcases KM.mp hb with hb|hb
   ·exact(k3 b hb).imp (KB _) id
   ·exact .inl (FB _ hb)
 | j+1,t::ts,xs,as,_,h,nd,e,ex,k=>by
  simp only[ak]at h;obtain⟨y,r,bs,cs,rfl,rfl,h1,h2⟩:=h;have LF:=M0.mp nd;obtain⟨hc,LL,k1,k2,k3,k4⟩:=ak.chg m hk Pg h2 LF.2.1 (by simpa using e) (by simpa using ex) k
  refine⟨FB _ hc,bs++LL,?_,M0.mpr ⟨LF.1,k2,λa ha b hb z=>?_⟩,λb hb=>?_,λb hb=>FB _ (k4 b hb)⟩
  ·rw[W1]
   simp only[ak];refine⟨y,r,bs,LL,rfl,rfl,h1.mv m λb hb u f hu=>⟨Pg b f,hk b u (λz=>?_) hu⟩,k1⟩;subst z;exact LF.2.2 b hb b hc rfl
  ·subst z
   rcases k3 a hb with h|⟨_,h⟩
   ·exact LF.2.2 a ha a h rfl
   ·obtain⟨_,u,hu⟩:=h1.fs a ha
    rw[h]at hu;cases hu
  ·rcases KM.mp hb with hb|hb
   ·exact .inl (KB _ hb)
   ·exact(k3 b hb).imp (FB _) id
structure cW(M:Md)(H H2:Hp)(F F2:Y8)(c:Addr)(n0 n1:T)(NG MW:Y3):Prop where
 old:az M H F n0 (.ref c) NG
 mem:c∈NG
 new:az M H2 F2 n1 (.ref c) MW
 nd:MW.Nodup
 out:∀b u,b≠c->H b=some u->H2 b=some u
 fs:∀b,F2 b↔F b\/b∈MW
 qr:∀b∈MW,b∈NG\/H b=none
theorem cW.fc{H2:Hp}{F2:Y8}{c:Addr}{n0 n1:T}{NG MW:Y3}(C:cW M H H2 F F2 c n0 n1 NG MW):F c:=(C.old.fs c C.mem).1
theorem cW.mv{H2:Hp}{F2:Y8}{c:Addr}{n0 n1:T}{NG MW:Y3}(C:cW M H H2 F F2 c n0 n1 NG MW):Mv F H F2 H2:=λb o n e=>
 ⟨λf=>((C.fs b).mp f).elim n λhb=>(C.qr b hb).elim (λh=>n (C.old.fs b h).1) (λh=>by rw[h]at e;cases e),C.out b o (λz=>by subst z;exact n C.fc) e⟩
theorem az.put{H2:Hp}{F2:Y8}{n0 n1:T}{c:Addr}{NG MW:Y3}(C:cW M H H2 F F2 c n0 n1 NG MW):∀ {p:List Nat} {t:T} {v:V} {as:Y3},az M H F t v as->as.Nodup->aC H t v p n0 (.ref c)->
  c∈as/\∃Mx,az M H2 F2 (T.put n1 t p) v Mx/\Mx.Nodup/\(∀b∈Mx,b∈as\/(b∈MW/\H b=none))/\∀b∈MW,b∈Mx
 | [],t,v,as,h,nd,e=>by
  have e':t=n0/\v=.ref c:=by cases t<;>exact e
  obtain⟨rfl,rfl⟩:=e';have:=az.gO C.old h;subst this;have ep:T.put n1 t []=n1:=by cases t<;>rfl
  rw[ep];exact⟨C.mem,MW,C.new,C.nd,λb hb=>(C.qr b hb).imp id λh=>⟨hb,h⟩,λb hb=>hb⟩
 | k::p,.n kd ts,v,as,h,nd,e=>by
  simp only[aC]at e;simp only[az]at h;obtain⟨a,xs,t1,x1,rfl,e2,l1,et,ex,e⟩:=e;obtain⟨a',ys,bs,ea,rfl,f,Nv,l2,r⟩:=h;cases ea;have e9:xs=ys:=Kd.inj (k:=kd) (by rw[Nv]at e2;injection e2 with z;exact z.symm) l1 l2
  subst e9;have LF:=Kd.nodup.mp nd;obtain⟨hc,Lv,k1,k2,k3,k4⟩:=ak.chg (t':=T.put n1 t1 p) C.mv C.out (λb f=>(C.fs b).mpr (.inl f)) r LF.2 et ex λOl Mt Vu=>az.put C Mt Vu e;refine⟨Kd.sub hc,kd.eY a Lv,?_,Kd.nodup.mpr ⟨λo ha=>?_,k2⟩,λb hb=>?_,λb hb=>Kd.sub (k4 b hb)⟩
  ·show az M _ _ (match ts[k]? with|some t=>T.n kd (ts.set k (T.put n1 t p))|none=>T.n kd ts) _ _
   rw[et];simp only[az];refine⟨a,xs,Lv,rfl,rfl,?_⟩;by_cases o:kd.own=true
   ·exact⟨⟨λ_=>o,λ_=>(C.fs a).mpr (.inl (f.mpr o))⟩,C.out a _ (Kd.ne nd o hc) Nv,l1,k1⟩
   ·have:=C.mv _ _ (λz=>o (f.mp z)) Nv
    exact⟨⟨λz=>absurd z this.1,λz=>absurd z o⟩,this.2,l1,k1⟩
  ·rcases k3 a ha with h|⟨_,h⟩
   ·exact LF.1 o h
   ·rw[h]at Nv;cases Nv
  ·rcases Kd.mem hb with⟨o,rfl⟩|hb
   ·exact .inl (Kd.top o)
   ·exact(k3 b hb).imp Kd.sub id
 |k::p,.d _,v,as,h,nd,e=>e.elim
end
section
variable{X:Cx}{M:Md}{G H H':Hp}{F0:Gf}{F F':Y8}{σ:L2.St}{ρ:En}{pos:Pos}{pins:List (Addr×Obj)}{s:Shared}
theorem T.Ip{n:T}(hn:n.own=true):∀ {t:T} {p:List Nat},t.own=true->(T.put n t p).own=true
 |t,[],_=>by cases t<;>exact hn
 |.n kd ts,k::p,h=>by unfold T.put;split<;>exact h
 |.d x,k::p,h=>by cases h
theorem aC.part:∀ {p:List Nat} {t:T} {v:V} {t1:T} {w:V} {as:Y3},az M H F t v as->aC H t v p t1 w->∃bs,az M H F t1 w bs/\bs.Sublist as
 | [],t,v,t1,w,as,tr,h=>by
  have e':t=t1/\v=w:=by cases t<;>exact h
  obtain⟨rfl,rfl⟩:=e';exact⟨as,tr,SZ _⟩
 | k::p,.n kd ts,v,t1,w,as,tr,h=>by
  simp only[aC]at h;simp only[az]at tr;obtain⟨a,xs,tp,xp,rfl,e2,l1,NP,exp,h⟩:=h;obtain⟨a2,ys,bs,Qf,rfl,f,Oj,l2,r⟩:=tr;cases Qf;have e9:xs=ys:=Kd.inj (k:=kd) (by rw[Oj]at e2;injection e2 with z;exact z.symm) l1 l2
  subst e9;obtain⟨SW,dp,M',rp,MS⟩:=r.part NP;rw[exp]at M';cases M';obtain⟨cs,h1,h2⟩:=aC.part rp h;exact⟨cs,h1,(h2.trans MS).trans Kd.CS⟩
 |k::p,.d _,v,t1,w,as,tr,h=>h.elim
theorem ak.apart:∀ {ts:List T} {xs:List V} {as:Y3} {j k:Nat} {tj tk:T} {xj xk:V} {bs cs:Y3},ak M H F ts xs as->as.Nodup->j≠k->ts[j]? =some tj->ts[k]? =some tk->xs[j]? =some xj->xs[k]? =some xk->az M H F tj xj bs->az M H F tk xk cs->∀b∈bs,b∉cs
 |[],_,_,_,_,_,_,_,_,_,_,_,_,_,e,_,_,_,_,_=>by simp at e
 | t::ts,xs,as,j,k,tj,tk,xj,xk,bs,cs,h,nd,C',ej,ek,Q6,Sl,rj,rk=>by
  simp only[ak]at h;obtain⟨x,r,b1,c1,rfl,rfl,h1,h2⟩:=h;have LF:=M0.mp nd;cases j with
  | zero=>
   cases k with
   |zero=>exact absurd rfl C'
   | succ k=>
    cases ej;cases Q6;have:=az.gO h1 rj;subst this;obtain⟨y,ds,ey,ry,sub⟩:=h2.part (k:=k) (by simpa using ek)
    have Pa:r[k]? =some xk:=by simpa using Sl
    rw[ey]at Pa;cases Pa;have:=az.gO ry rk;subst this;exact λb hb hc=>LF.2.2 b hb b (sub.subset hc) rfl
  | succ j=>
   cases k with
   | zero=>
    cases ek;cases Sl;have:=az.gO h1 rk;subst this;obtain⟨y,ds,ey,ry,sub⟩:=h2.part (k:=j) (by simpa using ej)
    have Pa:r[j]? =some xj:=by simpa using Q6
    rw[ey]at Pa;cases Pa;have:=az.gO ry rj;subst this;exact λb hb hc=>LF.2.2 b hc b (sub.subset hb) rfl
   |succ k=>exact ak.apart (j:=j) (k:=k) h2 LF.2.1 (by omega) (by simpa using ej) (by simpa using ek) (by simpa using Q6) (by simpa using Sl) rj rk
theorem xf{α:Type}{l:List α}{k:Nat}{a b:α}(h:l[k]? =some a):(l.set k b)[k]? =some b:=by
 rw[MG (mO.mp h).1]
noncomputable def below:List Nat->List Nat->Bool
 |[],_::_=>true
 |k::p,j::q=>decide (k=j)&&below p q
 |_,_=>false
theorem az.head{t:T}{c:Addr}{as:Y3}(h:az M H F t (.ref c) as)(ho:t.own=true):c∈as:=by
 cases t with
 |d x=>cases ho
 |n kd ts=>simp only[az]at h;obtain⟨a,xs,bs,e,rfl,_⟩:=h;cases e;exact Kd.top ho
theorem aC.put{H2:Hp}{F2:Y8}{n0 n1:T}{c:Addr}{NG MW:Y3}(C:cW M H H2 F F2 c n0 n1 NG MW)(o1:n1.own=true):∀ {q:List Nat} {p:List Nat} {t:T} {v:V} {t1:T} {w:V} {as:Y3},az M H F t v as->as.Nodup->aC H t v p n0 (.ref c)->aC H t v q t1 w->t1.own=true->below p q=false->
  ∃t2,t2.own=true/\aC H2 (T.put n1 t p) v q t2 w
 | [],p,t,v,t1,w,as,tr,nd,hp,hq,ho,_=>by
  have e':t=t1/\v=w:=by cases t<;>exact hq
  obtain⟨rfl,rfl⟩:=e';refine⟨T.put n1 t p,T.Ip o1 ho,?_⟩;generalize T.put n1 t p=t2;cases t2<;>exact⟨rfl,rfl⟩
 |k'::q,[],t,v,t1,w,as,tr,nd,hp,hq,ho,hb=>by cases hb
 | k'::q,k::p,.n kd ts,v,t1,w,as,tr,nd,hp,hq,ho,hb=>by
  simp only[aC]at hp hq;simp only[az]at tr;obtain⟨a,xs,tp,xp,rfl,e2,l0,NP,exp,hp⟩:=hp;obtain⟨a1,Vk,tq,xq,T5,Sy,l1,Qi,P9,hq⟩:=hq;obtain⟨a2,ys,bs,Qf,rfl,f,Oj,l2,r⟩:=tr;cases T5;cases Qf;have e8:Vk=ys:=Kd.inj (k:=kd) (by rw[Oj]at Sy;injection Sy with z;exact z.symm) l1 l2
  have e9:xs=ys:=Kd.inj (k:=kd) (by rw[Oj]at e2;injection e2 with z;exact z.symm) l0 l2
  subst e8 e9;have LF:=Kd.nodup.mp nd;obtain⟨SW,dp,M',rp,MS⟩:=r.part NP;rw[exp]at M';cases M';obtain⟨hc,_⟩:=az.put C rp (LF.2.sublist MS) hp
  have ha:H2 a=some (kd.ho xs):=by
   by_cases o:kd.own=true
   ·exact C.out a _ (Kd.ne nd o (MS.subset hc)) Oj
   ·exact(C.mv _ _ (λz=>o (f.mp z)) Oj).2
  show ∃t2,t2.own=true/\aC _ (match ts[k]? with|some t=>T.n kd (ts.set k (T.put n1 t p))|none=>T.n kd ts) _ _ t2 w
  rw[NP];by_cases hkk:k=k'
  ·subst hkk
   rw[NP]at Qi;cases Qi;rw[exp]at P9;cases P9;obtain⟨t2,o2,h2⟩:=aC.put C o1 rp (LF.2.sublist MS) hp hq ho (by simpa[below] using hb)
   refine⟨t2,o2,?_⟩;simp only[aC];exact⟨a,_,_,_,rfl,ha,l2,xf NP,exp,h2⟩
  ·obtain⟨VQ,dq,P8,rq,UW⟩:=r.part Qi
   rw[P9]at P8;cases P8;refine⟨t1,ho,?_⟩;simp only[aC];refine⟨a,_,tq,xq,rfl,ha,l2,by rw[bU hkk];exact Qi,P9,hq.mv (λa o n e=>(C.mv a o n e).2) rq λb hb u fb hu=>C.out b u (λz=>?_) hu⟩
   subst z;exact ak.apart r LF.2 hkk NP Qi exp P9 rp rq _ hc hb
 |k'::q,k::p,.d _,v,t1,w,as,tr,nd,hp,hq,ho,_=>hp.elim
theorem aP.un{ρ':En}(r:aP M G F0 H F σ ρ)(hl:ρ'.length=ρ.length)(h:∀(j:Nat) s,ρ'[j]? =some s->s=.un\/ρ[j]? =some s):aP M G F0 H F σ ρ':=by
 have ow:∀j,bu ρ' j->bu ρ j:=λj o=>by
  rcases o with⟨ds,e⟩|⟨ks,ds,e⟩
  ·rcases h j _ e with z|z
   ·cases z
   ·exact .inl ⟨_,z⟩
  ·rcases h j _ e with z|z
   ·cases z
   ·exact .inr ⟨_,_,z⟩
 have on:∀(j:Nat) x,ρ'[j]? =some (.on x)->ρ[j]? =some (.on x):=λj x e=>(h j _ e).resolve_left λz=>nomatch z
 have at':∀(j:Nat) b,cb M H F σ ρ' j b->cb M H F σ ρ j b:=λj b ⟨t,v,as,e,z,z1,z2⟩=>⟨t,v,as,on j _ e,z,z1,z2⟩;refine⟨⟨by rw[hl,r.rs.len],r.rs.aU,λi d e=>?_,λi d e=>?_,λi k d e=>?_,λi j a oi oj=>r.rs.cP i j a (ow i oi) (ow j oj),λi x e=>?_⟩,r.sm,r.sub,r.dR,λi a o=>r.own i a (ow i o),λi x b e hb=>r.dZ i x b (on i x e) (at' i b hb),λw hw t e=>r.pin w hw t (on _ _ e)⟩
 ·exact r.rs.sh i d ((h i _ e).resolve_left λz=>nomatch z)
 ·exact r.rs.ol i d ((h i _ e).resolve_left λz=>nomatch z)
 ·exact r.rs.od i k d ((h i _ e).resolve_left λz=>nomatch z)
 ·obtain⟨h1,h2,h3⟩:=r.rs.on i x (on i x e)
  refine⟨?_,λb hb k ok=>h2 b (at' i b hb) k (ow k ok),λt ht j t' ej hj b h4 h5=>h3 t ht j t' (on j _ ej) hj b (at' i b h4) (at' j b h5)⟩;cases x with
  |tr t=>exact h1
  |al k p=>exact λt et=>h1 t (on k _ et)
noncomputable def b9(i:Nat)(p:List Nat)(ρ:En):En:=ρ.map λs=>match s with
 |.on (.al k q)=>if k=i/\below p q=true then .un else s
 |s=>s
noncomputable def eK(i:Nat)(p:List Nat)(s:Slot):Slot:=match s with
 |.on (.al k q)=>if k=i/\below p q=true then .un else s
 |s=>s
theorem ID{i:Nat}{p:List Nat}:∀(z:Slot),eK i p z=.un\/(eK i p z=z/\∀q,z=.on (.al i q)->below p q=false)
 |.un=>.inl rfl
 |.sh _=>.inr ⟨rfl,λ_ h=>nomatch h⟩
 |.ol _=>.inr ⟨rfl,λ_ h=>nomatch h⟩
 |.od _ _=>.inr ⟨rfl,λ_ h=>nomatch h⟩
 |.on (.tr _)=>.inr ⟨rfl,λ_ h=>nomatch h⟩
 | .on (.al k q)=>by
  by_cases hc:k=i/\below p q=true
  ·exact .inl (u9 hc)
  ·refine .inr ⟨Da hc,λq' hq=>?_⟩
   injection hq with hq;injection hq with h1 h2;subst h1 h2;cases hb:below p q with
   |false=>rfl
   |true=>exact absurd ⟨rfl,hb⟩ hc
theorem ux{i:Nat}{p:List Nat}{j:Nat}{s:Slot}(h:(b9 i p ρ)[j]? =some s):s=.un\/(ρ[j]? =some s/\∀q,s=.on (.al i q)->below p q=false):=by
 have h:(ρ.map (eK i p))[j]? =some s:=h;rw[DM]at h;cases e:ρ[j]? with
 |none=>rw[e]at h;cases h
 | some z=>
  rw[e]at h;have h:eK i p z=s:=Pv h;rcases ID (i:=i) (p:=p) z with h1|⟨h1,h2⟩
  ·exact .inl (h.symm.trans h1)
  ·rw[h1]at h;subst h;exact .inr ⟨rfl,h2⟩
theorem aP.drop(i:Nat)(p:List Nat)(r:aP M G F0 H F σ ρ):aP M G F0 H F σ (b9 i p ρ):=r.un (by unfold b9;simp) λj s h=>(ux h).imp id XZ
theorem a8.qd{i:Nat}{t t':T}{v:V}{as Lv:Y3}(r:a8 M H F σ ρ)(e:ρ[i]? =some (.on (.tr t)))(ev:σ[i]? =some (some v))(tr:az M H F t v as)(Ma:∀b∈Lv,b∈as\/H b=none)(mv:Mv F H F' H')(Nf:∀b u,b∉as->F b->H b=some u->F' b/\H' b=some u)(aU:∀a,F' a->∃o,H' a=some o)
  (L3:az M H' F' t' v Lv) (nd:Lv.Nodup) (Pf:∀(j:Nat) p,ρ[j]? =some (Slot.on (.al i p))->∀t1 w,aC H t v p t1 w->t1.own=true->∃t2,t2.own=true/\aC H' t' v p t2 w):
  a8 M H' F' σ (ρ.set i (.on (.tr t')))/\∀j b,cb M H' F' σ (ρ.set i (.on (.tr t'))) j b->(j=i/\b∈Lv)\/(j≠i/\cb M H F σ ρ j b/\b∉Lv):=by
 have Na:∀b∈as,cb M H F σ ρ i b:=λb hb=>⟨t,v,as,e,ev,tr,hb⟩;have fs:=tr.fs;have ro:=r.on i _ e;have hi:i<ρ.length:=(mO.mp e).1;have old:∀(j:Nat) x,j≠i->(ρ.set i (.on (.tr t')))[j]? =some x->ρ[j]? =some x:=λj x hj h=>by rw[bU (Os hj)]at h;exact h
 have self:(ρ.set i (.on (.tr t')))[i]? =some (.on (.tr t')):=MG hi
 have Nj:∀(j:Nat) x,(∀y,x≠Slot.on y)->(ρ.set i (.on (.tr t')))[j]? =some x->ρ[j]? =some x:=λj x hx h=>by
  by_cases hj:j=i
  ·subst hj;rw[self]at h;cases h;exact absurd rfl (hx _)
  ·exact old j x hj h
 have Oa:∀j,bu (ρ.set i (.on (.tr t'))) j->bu ρ j:=λj h=>by
  rcases h with⟨ds,h⟩|⟨ks,ds,h⟩
  ·exact .inl ⟨ds,Nj j _ (λy z=>nomatch z) h⟩
  ·exact .inr ⟨ks,ds,Nj j _ (λy z=>nomatch z) h⟩
 have keep:∀(j:Nat) b u,bu ρ j->σ[j]? =some (some (.ref b))->F b->H b=some u->F' b/\H' b=some u:=λj b u oj ej fb hu=>Nf b u (λh=>ro.2.1 b (Na b h) j oj ej) fb hu
 have RK:∀(j:Nat) t1,j≠i->ρ[j]? =some (.on (.tr t1))->∃v1 Mx,σ[j]? =some (some v1)/\az M H F t1 v1 Mx/\Mx.Nodup/\az M H' F' t1 v1 Mx/\∀b∈Mx,cb M H F σ ρ j b/\b∉as:=λj t1 hj e1=>by
  obtain⟨⟨v1,Mx,NL,Ni,Pq⟩,_,_⟩:=r.on j _ e1;have h1:∀b∈Mx,cb M H F σ ρ j b/\b∉as:=λb hb=>⟨⟨t1,v1,Mx,e1,NL,Ni,hb⟩,λh=>ro.2.2 t rfl j t1 e1 hj b (Na b h) ⟨t1,v1,Mx,e1,NL,Ni,hb⟩⟩;exact⟨v1,Mx,NL,Ni,Pq,Ni.mv mv λb hb u f hu=>Nf b u (h1 b hb).2 f hu,h1⟩
 have My:∀j b,cb M H' F' σ (ρ.set i (.on (.tr t'))) j b->(j=i/\b∈Lv)\/(j≠i/\cb M H F σ ρ j b/\b∉Lv):=λj b=>by
  rintro⟨t1,v1,Mx,e1,NL,Ni,hb⟩
  by_cases hj:j=i
  ·subst hj
   rw[self]at e1;cases e1;rw[ev]at NL;cases NL;have:=az.gO L3 Ni;subst this;exact .inl ⟨rfl,hb⟩
  ·obtain⟨v2,O9,PN,uD,_,N6,h3⟩:=RK j t1 hj (old j _ hj e1)
   rw[PN]at NL;cases NL;have:=az.gO N6 Ni;subst this;refine .inr ⟨hj,(h3 b hb).1,λh=>(Ma b h).elim (h3 b hb).2 λh=>?_⟩;obtain⟨_,u,hu⟩:=uD.fs b hb;rw[h]at hu;cases hu
 refine⟨⟨by simp[r.len],aU,λj d h=>?_,λj ds h=>?_,λj ks ds h=>?_,λj k a oj ok ej ek=>r.cP j k a (Oa j oj) (Oa k ok) ej ek,λj x h=>⟨?_,λb hb k ok ek=>?_,λt1 ht k t2 hk Ph b h1 h2=>?_⟩⟩,My⟩
 ·obtain⟨w,e1,g⟩:=r.sh j d (Nj j _ (λy z=>nomatch z) h)
  exact⟨w,e1,g.mv mv⟩
 ·have h0:=Nj j (.ol ds) (λy z=>nomatch z) h
  obtain⟨a,xs,e1,f,e2,g⟩:=r.ol j ds h0;obtain⟨f',e3⟩:=keep j a _ (.inl ⟨_,h0⟩) e1 f e2;exact⟨a,xs,e1,f',e3,g.mv mv⟩
 ·have h0:=Nj j (.od ks ds) (λy z=>nomatch z) h
  obtain⟨a,xs,e1,f,e2,l,g⟩:=r.od j ks ds h0;obtain⟨f',e3⟩:=keep j a _ (.inr ⟨_,_,h0⟩) e1 f e2;exact⟨a,xs,e1,f',e3,l,g.mv mv⟩
 ·by_cases hj:j=i
  ·subst hj
   rw[self]at h;cases h;exact⟨v,Lv,ev,L3,nd⟩
  ·have h0:=old j _ hj h
   cases x with
   | tr t1=>
    obtain⟨v2,O9,PN,_,LF,N6,_⟩:=RK j t1 hj h0;exact⟨v2,O9,PN,N6,LF⟩
   | al k p=>
    intro t1 Sg;by_cases hk:k=i
    ·subst hk
     rw[self]at Sg;cases Sg;obtain⟨v1,w,t2,e1,e2,at2,o2⟩:=(r.on j _ h0).1 t e;rw[ev]at e1;cases e1;obtain⟨t3,o3,ME⟩:=Pf j p h0 t2 w at2 o2;exact⟨v,w,t3,ev,e2,ME,o3⟩
    ·have SU:=old k _ hk Sg
     obtain⟨v2,O9,PN,uD,_,_,h3⟩:=RK k t1 hk SU;obtain⟨v1,w,t2,e1,e2,at2,o2⟩:=(r.on j _ h0).1 t1 SU;rw[PN]at e1;cases e1;exact⟨v2,w,t2,PN,e2,at2.mv (λa o n e=>(mv a o n e).2) uD (λb hb u f hu=>(Nf b u (h3 b hb).2 f hu).2),o2⟩
 ·rcases My j b hb with⟨rfl,Mt⟩|⟨_,Mt,_⟩
  ·rcases Ma b Mt with h2|h2
   ·exact ro.2.1 b (Na b h2) k (Oa k ok) ek
   ·obtain⟨a,_,u,_,e1,_,e2,_⟩:=r.ownAt (Oa k ok)
    rw[ek]at e1;cases e1;rw[h2]at e2;cases e2
  ·obtain⟨t9,v9,RP,e9,_⟩:=id Mt
   exact(r.on j _ e9).2.1 b Mt k (Oa k ok) ek
 ·rcases My j b h1 with⟨h3,h4⟩|⟨h3,h4,h6⟩
  ·rcases My k b h2 with⟨h5,_⟩|⟨_,_,h5⟩
   ·exact Ph (h5.trans h3.symm)
   ·exact h5 h4
  ·rcases My k b h2 with⟨_,h5⟩|⟨h5,h7,_⟩
   ·exact h6 h5
   ·exact(r.on j _ (old j _ h3 h)).2.2 t1 ht k t2 (old k _ h5 hk) Ph b h4 h7
theorem aP.qd{i:Nat}{t t':T}{v:V}{as Lv:Y3}(r:aP M G F0 H F σ ρ)(e:ρ[i]? =some (.on (.tr t)))(ev:σ[i]? =some (some v))(tr:az M H F t v as)(Ma:∀b∈Lv,b∈as\/H b=none)(mv:Mv F H F' H')(Nf:∀b u,b∉as->F b->H b=some u->F' b/\H' b=some u)(aU:∀a,F' a->∃o,H' a=some o)
  (L3:az M H' F' t' v Lv) (nd:Lv.Nodup) (Pf:∀(j:Nat) p,ρ[j]? =some (Slot.on (.al i p))->∀t1 w,aC H t v p t1 w->t1.own=true->∃t2,t2.own=true/\aC H' t' v p t2 w) (sm:∀b u,b∉as->H b=some u->H' b=some u) (sub:∀b,F b->b∉as->F' b):
  Mv F H F' H'/\aP M G F0 H' F' σ (ρ.set i (.on (.tr t'))):=by
 have Na:∀b∈as,G b=none:=λb hb=>r.dZ i _ b e ⟨t,v,as,e,ev,tr,hb⟩;obtain⟨rs,My⟩:=r.rs.qd e ev tr Ma mv Nf aU L3 nd Pf;refine⟨mv,⟨rs,λb u hb=>sm b u (λh=>by rw[Na b h]at hb;cases hb) (r.sm b u hb),λb f=>sub b (r.sub b f) λh=>?_,r.dR,λj a oj ej=>r.own j a ?_ ej,λj x b h hb=>?_,λw hw t2 e2=>?_⟩⟩
 ·obtain⟨o,eo⟩:=r.dR b f
  rw[Na b h]at eo;cases eo
 ·rcases oj with⟨ds,h⟩|⟨ks,ds,h⟩
  ·rcases get_set h with⟨_,z,_⟩|⟨_,h⟩
   ·cases z
   ·exact .inl ⟨_,h⟩
  ·rcases get_set h with⟨_,z,_⟩|⟨_,h⟩
   ·cases z
   ·exact .inr ⟨_,_,h⟩
 ·rcases My j b hb with⟨_,h1⟩|⟨_,h1,_⟩
  ·rcases Ma b h1 with h2|h2
   ·exact Na b h2
   ·exact r.sm.free h2
  ·obtain⟨t9,v9,RP,e9,_⟩:=id h1
   exact r.dZ j _ b e9 h1
 ·rcases get_set e2 with⟨z,_,_⟩|⟨_,e2⟩
  ·rw[<-z];have:=r.pin w hw t (by rw[<-z];exact e);rw[<-z]at this;exact this
  ·exact r.pin w hw t2 e2
theorem aP.De{i:Nat}{t t':T}{v:V}{as Lv:Y3}(r:aP M G F0 H F σ ρ)(e:ρ[i]? =some (.on (.tr t)))(ev:σ[i]? =some (some v))(tr:az M H F t v as)(Ma:∀b∈Lv,b∈as\/H b=none)(MY:∀b u,b∉Lv->H b=some u->H' b=some u)
  (hF:∀b,F' b↔F b\/b∈Lv) (L3:az M H' F' t' v Lv) (nd:Lv.Nodup) (Pf:∀(j:Nat) p,ρ[j]? =some (Slot.on (.al i p))->∀t1 w,aC H t v p t1 w->t1.own=true->∃t2,t2.own=true/\aC H' t' v p t2 w):
  Mv F H F' H'/\aP M G F0 H' F' σ (ρ.set i (.on (.tr t'))):=by
 have fs:=tr.fs
 have nb:∀b u,b∉as->H b=some u->b∉Lv:=λb u n eo hb=>by
  rcases Ma b hb with h|h
  ·exact n h
  ·rw[h]at eo;cases eo
 refine r.qd e ev tr Ma (λb o n eo=>?_) (λb u n f hu=>⟨(hF b).mpr (.inl f),MY b u (nb b u n hu) hu⟩) (λa fa=>?_) L3 nd Pf (λb u n hu=>MY b u (nb b u n hu) hu) λb f _=>(hF b).mpr (.inl f)
 ·have h:=nb b o (λh=>n (fs b h).1) eo
  exact⟨λf=>((hF b).mp f).elim n h,MY b _ h eo⟩
 ·by_cases ha:a∈Lv
  ·exact(L3.fs a ha).2
  ·obtain⟨o,ho⟩:=r.rs.aU a (((hF a).mp fa).resolve_right ha)
   exact⟨o,MY a _ ha ho⟩
theorem wM{i j:Nat}{p:List Nat}{t:T}(h:ρ[j]? =some (.on (.tr t))):(b9 i p ρ)[j]? =some (.on (.tr t)):=by
 unfold b9;rw[DM,h];rfl
theorem aP.ir{H2:Hp}{F2:Y8}{i:Nat}{t n0 n1:T}{w:V}{p:List Nat}{c:Addr}{NG MW:Y3}(r:aP M G F0 H F σ ρ)(e1:ρ[i]? =some (.on (.tr t)))(e2:σ[i]? =some (some w))(L5:aC H t w p n0 (.ref c))(C:cW M H H2 F F2 c n0 n1 NG MW)(o1:n1.own=true):
  Mv F H F2 H2/\aP M G F0 H2 F2 σ ((b9 i p ρ).set i (.on (.tr (T.put n1 t p)))):=by
 obtain⟨⟨w',as,ew,tr,nd⟩,_,_⟩:=r.rs.on i _ e1;rw[e2]at ew;cases ew;obtain⟨hc,Mx,L3,Pq,k1,k2⟩:=az.put C tr nd L5;have Vf:c∈Mx:=k2 c (C.new.head o1)
 exact(r.drop i p).De (wM e1) e2 tr (λb hb=>(k1 b hb).imp id And.right) (λb u hb hu=>C.out b u (λz=>by subst z;exact hb Vf) hu) (λb=>by
   rw[C.fs b];exact⟨λh=>h.imp id (k2 b),λh=>h.elim .inl λhb=>(k1 b hb).elim (λh=>.inl (tr.fs b h).1) λh=>.inr h.1⟩) L3 Pq
  λj q hq t1 w1 RA ho=>aC.put C o1 tr nd L5 RA ho (((ux hq).resolve_left λz=>nomatch z).2 q rfl)
noncomputable def o4(i:Nat)(ρ:En):Bool:=ρ.all λs=>match s with
 |.on (.al k _)=> !decide (k=i)
 |_=>true
noncomputable def xF(e:Ex):Xt:=λρ=>(e ρ).bind λd=>match d with
 |.lst ds=>.ok (.l (ds.map .d))
 |_=>.bad
noncomputable def fQ:List Xt->En->R (List T)
 |[],_=>.ok []
 |f::fs,ρ=>(f ρ).bind λt=>(fQ fs ρ).bind λts=>.ok (t::ts)
noncomputable def xL(fs:List Xt):Xt:=λρ=>(fQ fs ρ).bind λts=>.ok (.l ts)
noncomputable def k5:Xt:=λ_=>.ok (.m [] [])
noncomputable def ib(i:Nat)(f:Xt):Sm:=λρ=>(f ρ).bind λt=>if o4 i ρ=true/\2<=i then .ok (.next (ρ.set i (.on (.tr t))))else .bad
variable{as:Y3}
inductive o5(M:Md)(f:En->R (List T))(σ:L2.St)(H:Hp)(Q:(List V->Hp->Prop)):Prop
 |mk:∀ρ F ts,a8 M H F σ ρ->f ρ=.ok ts->(∀vs H' F' as,ah H H'->(∀b∈as,H b=none)->as.Nodup->(∀b,F' b↔F b\/b∈as)->ak M H' F' ts vs as->Q vs H')->o5 M f σ H Q
abbrev E9(X:Cx)(es:Y4)(f:En->R (List T)):Prop:=PA X es (o5 (aD X) f)
structure nr(X:Cx)(e:Y4)(f:En->R (List T)):Prop where
 out:E9 X e f
theorem K0{e:Expr}{f:Ex}(h:JF X e f):JX X e (xF f):=
 bo h λσ H Q=>by
  rintro⟨ρ,F,t,hr,e,q⟩
  obtain⟨d,ed,e⟩:=ao.mp e;cases d with
  | lst ds=>
   cases e;refine⟨ρ,F,ds,hr,ed,λp H1 xs s1 hp rs=>?_⟩;refine q (.ref p) _ (λb=>F b\/b=p) [p] (s1.trans (ah.bZ hp _)) (λb hb=>by rw[SC.mp hb];exact s1.free hp) (by simp) (λb=>by simp) ?_
   simp only[bE,bF,bD,bI];refine⟨p,xs,[],rfl,rfl,.inr rfl,L2.aV,mF.mpr ⟨rfl,rs.mv λb o n e=>?_⟩⟩;have hb:b≠p:=λz=>by subst z;rw[hp]at e;cases e
   exact⟨λf=>f.elim n hb,by rw[L2.aE hb];exact e⟩
  |_=>cases e
theorem nK{X:L2.Cx}:nr X [] (fQ []):=⟨ qU L2.jJ λσ H Q=>by
  rintro⟨ρ,F,ts,hr,e,q⟩
  cases e;exact q [] H F [] (ah.refl _) (λ_ hb=>nomatch hb) Wq (λb=>by simp) (by rw[ak];exact⟨rfl,rfl⟩)⟩
theorem Gj{f:Xt}{fs:List Xt}{Q:List V->Hp->Prop}{te:TE}{ta:TA}(h1:∀σ H Q,rM M f σ H Q->te σ H Q)(h2:∀σ H Q,o5 M (fQ fs) σ H Q->ta σ H Q)(h:o5 M (fQ (f::fs)) σ H Q):L2.xY te ta σ H Q:=by
 obtain⟨ρ,F,ts,hr,e,q⟩:=h;obtain⟨t,et,e⟩:=ao.mp e;obtain⟨us,eu,e⟩:=ao.mp e;cases e;refine h1 _ _ _ ⟨ρ,F,t,hr,et,λv H1 F1 as s1 hn nd hF tr=>?_⟩;obtain⟨Nr,r1⟩:=hr.wide s1 hn hF (λb hb=>(tr.fs b hb).2);refine h2 _ _ _ ⟨ρ,F1,us,r1,eu,λvs H2 F2 bs s2 Qq LF Pg LP=>?_⟩
 have apart:∀a∈as,∀b∈bs,a≠b:=λa ha b hb z=>by
  subst z;obtain⟨_,u,hu⟩:=tr.fs a ha;rw[Qq a hb]at hu;cases hu
 have Tt:Mv F1 H1 F2 H2:=λb o n e=>⟨λf=>((Pg b).mp f).elim n (λhb=>by rw[Qq b hb]at e;cases e),s2 _ _ e⟩
 refine q (v::vs) H2 F2 (as++bs) (s1.trans s2) (λb hb=>?_) (M0.mpr ⟨nd,LF,apart⟩) (λb=>?_) ?_
 ·rcases KM.mp hb with hb|hb
  ·exact hn b hb
  ·exact s1.free (Qq b hb)
 ·rw[Pg b,hF b,KM,XY]
 ·simp only[ak]
  exact⟨v,vs,as,bs,rfl,rfl,tr.mv Tt λb hb u f hu=>⟨(Pg b).mpr (.inl f),s2 _ _ hu⟩,LP⟩
theorem c6{X:L2.Cx}{e:Expr}{es:Y4}{f:Xt}{fs:List Xt}(h1:XX X e f)(h2:nr X es (fQ fs))(hs:starEach (e::es) X.env=(false,eval e X.env)::starEach es X.env:=by exact bw (by rfl)):nr X (e::es) (fQ (f::fs)):=⟨have h1:=h1.out;have h2:=h2.out;qU (L2.gj h1 h2 hs) λσ H Q h=>Gj (λ_ _ _ h=>h) (λ_ _ _ h=>h) h⟩
theorem v5:∀ {fs:List Xt} {ts:List T},fQ fs ρ=.ok ts->ts.length=fs.length
 |[],ts,h=>by cases h;rfl
 | f::fs,ts,h=>by
  obtain⟨t,et,h⟩:=ao.mp h;obtain⟨us,eu,h⟩:=ao.mp h;cases h;simp[v5 eu]
theorem yu{ts:List T}{vs:List V}{p:Addr}(s1:ah H H')(hn:∀b∈as,H b=none)(nd:as.Nodup)(hF:∀b,F' b↔F b\/b∈as)(tr:ak M H' F' ts vs as)(hp:H' p=none):
  ah H (upd H' p (.lst vs))/\(∀b∈p::as,H b=none)/\(p::as).Nodup/\az M (upd H' p (.lst vs)) (λb=>F b\/b∈p::as) (.l ts) (.ref p) (p::as):=by
 have Nw:p∉as:=λhb=>by obtain⟨_,u,hu⟩:=tr.fs p hb;rw[hp]at hu;cases hu
 refine⟨s1.trans (ah.bZ hp _),λb hb=>?_,GM.mpr ⟨Nw,nd⟩,?_⟩
 ·rcases AC.mp hb with rfl|hb
  ·exact s1.free hp
  ·exact hn b hb
 ·simp only[bE,bF,bD,bI]
  refine⟨p,vs,as,rfl,rfl,.inr v3,L2.aV,tr.mv (λb o n e=>?_) λb hb u f hu=>?_⟩
  ·have hb:b≠p:=λz=>by subst z;rw[hp]at e;cases e
   refine⟨λf=>?_,by rw[L2.aE hb];exact e⟩
   rcases f with f|f
   ·exact n ((hF b).mpr (.inl f))
   ·rcases AC.mp f with f|f
    ·exact hb f
    ·exact n ((hF b).mpr (.inr f))
  ·have Mt:b≠p:=λz=>by subst z;exact Nw hb
   exact⟨.inr (rU _ hb),by rw[L2.aE Mt];exact hu⟩
theorem BC{X:L2.Cx}{pos:Pos}{es:Y4}{fs:List Xt}(h:nr X es (fQ fs))(hl:fs.length<=1000:=by decide):XX X (.List es pos) (xL fs):=⟨have h:=h.out;bo (L2.so h) λσ H Q=>by
  rintro⟨ρ,F,t,hr,e,q⟩
  obtain⟨ts,Qd,e⟩:=ao.mp e;cases e;refine⟨ρ,F,ts,hr,Qd,λvs H1 F1 as s1 hn nd hF tr=>⟨?_,λp hp=>?_⟩⟩
  ·rw[<-tr.len,v5 Qd];exact PK hl (by decide)
  ·obtain⟨a,b,c,d⟩:=yu s1 hn nd hF tr hp
   exact q _ _ _ _ a b c (λ_=>WI) d⟩
theorem lU{X:L2.Cx}{pos:Pos}:XX X (.Dict [] [] pos) k5:=⟨ bo L2.z7 λσ H Q=>by
  rintro⟨ρ,F,t,hr,e,q⟩
  cases e;intro p hp;refine q (.ref p) _ (λb=>F b\/b∈[p]) [p] (ah.bZ hp _) (λb hb=>by rw[SC.mp hb];exact hp) (by simp) (λ_=>WI) ?_
  simp only[bE,bF,bD,bI,ak];exact⟨p,[],[],rfl,rfl,.inr v3,L2.aV,rfl,rfl,rfl⟩⟩
theorem jD{i j:Nat}{x:Sp}(h:bu (ρ.set i (.on x)) j):i≠j/\bu ρ j:=by
 rcases h with⟨ds,q⟩|⟨ks,ds,q⟩
 ·rcases get_set q with⟨_,z,_⟩|⟨C',q⟩
  ·cases z
  ·exact⟨C',.inl ⟨ds,q⟩⟩
 ·rcases get_set q with⟨_,z,_⟩|⟨C',q⟩
  ·cases z
  ·exact⟨C',.inr ⟨ks,ds,q⟩⟩
theorem FF{i:Nat}(h:o4 i ρ=true)(j:Nat)(p:List Nat):ρ[j]? ≠some (.on (.al i p)):=λe=>by
 have:=Xz.mp h _ (S6 e);simp at this
theorem aP.Gz{i:Nat}{t:T}{v:V}(r:aP M G F0 H F σ ρ)(no:o4 i ρ=true)(VC:2<=i)(s1:ah H H')(hn:∀b∈as,H b=none)(nd:as.Nodup)(hF:∀b,F' b↔F b\/b∈as)(tr:az M H' F' t v as):
  Mv F H F' H'/\aP M G F0 H' F' (σ.set i (some v)) (ρ.set i (.on (.tr t))):=by
 obtain⟨mv,rs⟩:=r.rs.wide s1 hn hF (λb hb=>(tr.fs b hb).2)
 have get:∀(j:Nat) x,(ρ.set i (.on (.tr t)))[j]? =some (.on x)->(i=j/\x=.tr t/\i<ρ.length)\/(i≠j/\ρ[j]? =some (.on x)):=λj x h=>by
  rcases get_set h with⟨h1,h2,h3⟩|h
  ·injection h2 with h2;exact .inl ⟨h1,h2.symm,h3⟩
  ·exact .inr h
 have self:i<ρ.length->(σ.set i (some v))[i]? =some (some v):=λh=>MG (by rw[<-r.rs.len];exact h)
 have My:∀(j:Nat) b,cb M H' F' (σ.set i (some v)) (ρ.set i (.on (.tr t))) j b->(i=j/\b∈as)\/(i≠j/\cb M H F σ ρ j b/\cb M H' F' σ ρ j b):=λj b hb=>by
  have Qe:=hb;obtain⟨t1,v1,Mx,e1,NL,Ni,hb⟩:=hb;rcases get j _ e1 with⟨rfl,z,hl⟩|⟨C',e2⟩
  ·cases z
   rw[self hl]at NL;cases NL;have:=az.gO tr Ni;subst this;exact .inl ⟨rfl,hb⟩
  ·rw[bU C']at NL
   exact .inr ⟨C',r.rs.on.back (λx hx=>((get j x hx).resolve_left λz=>C' z.1).2) (bU C') (λa u _ _ hu=>s1 _ _ hu) (λa o _ e=>s1 _ _ e) Qe,t1,v1,Mx,e2,NL,Ni,hb⟩
 have new:∀(j:Nat) b,b∈as->¬cb M H F σ ρ j b:=λj b hb h=>by
  obtain⟨_,u,hu⟩:=fZ.f h;rw[hn b hb]at hu;cases hu
 refine⟨mv,⟨⟨by simp[rs.len],rs.aU,λj d q=>?_,λj d q=>?_,λj k d q=>?_,λj k b oj ok ej ek=>?_,λj x h=>⟨?_,λb hb k ok ek=>?_,λt1 ht k t2 hk Ph b h1 h2=>?_⟩⟩,r.sm.trans s1,λb f=>(hF b).mpr (.inl (r.sub b f)),r.dR,λj a oj e=>?_,λj x b e hb=>?_,λw hw t2 e2=>?_⟩⟩
 ·rcases get_set q with⟨_,z,_⟩|⟨C',q⟩
  ·cases z
  ·obtain⟨w,e1,g⟩:=rs.sh j d q
   exact⟨w,by rw[bU C'];exact e1,g⟩
 ·rcases get_set q with⟨_,z,_⟩|⟨C',q⟩
  ·cases z
  ·obtain⟨a,xs,e1,g⟩:=rs.ol j d q
   exact⟨a,xs,by rw[bU C'];exact e1,g⟩
 ·rcases get_set q with⟨_,z,_⟩|⟨C',q⟩
  ·cases z
  ·obtain⟨a,xs,e1,g⟩:=rs.od j k d q
   exact⟨a,xs,by rw[bU C'];exact e1,g⟩
 ·obtain⟨nj,oj⟩:=jD oj
  obtain⟨nk,ok⟩:=jD ok;rw[bU nj]at ej;rw[bU nk]at ek;exact rs.cP j k b oj ok ej ek
 ·rcases get j x h with⟨rfl,rfl,hl⟩|⟨C',h0⟩
  ·exact⟨v,as,self hl,tr,nd⟩
  ·have h1:=(rs.on j x h0).1
   cases x with
   | tr t1=>
    obtain⟨v1,Mx,e1,h2⟩:=h1;exact⟨v1,Mx,by rw[bU C'];exact e1,h2⟩
   | al k p=>
    intro t1 e1;rcases get k _ e1 with⟨z,_,_⟩|⟨hk,e1⟩
    ·subst z;exact absurd h0 (FF no j p)
    ·obtain⟨v1,w,t2,a1,a2,a3⟩:=h1 t1 e1
     exact⟨v1,w,t2,by rw[bU hk];exact a1,by rw[bU C'];exact a2,a3⟩
 ·obtain⟨nk,ok⟩:=jD ok
  rw[bU nk]at ek;rcases My j b hb with⟨_,hb⟩|⟨_,hb,_⟩
  ·obtain⟨a,_,u,_,e1,_,e2,_⟩:=r.rs.ownAt ok
   rw[ek]at e1;cases e1;rw[hn _ hb]at e2;cases e2
  ·obtain⟨t9,v9,RP,e9,_⟩:=id hb
   exact(r.rs.on j _ e9).2.1 b hb k ok ek
 ·rcases My j b h1 with⟨h3,h4⟩|⟨h3,h4,_⟩
  ·rcases My k b h2 with⟨h5,_⟩|⟨_,h5,_⟩
   ·exact Ph (h5.symm.trans h3)
   ·exact new k b h4 h5
  ·rcases My k b h2 with⟨_,h5⟩|⟨h5,h6,_⟩
   ·exact new j b h5 h4
   ·exact(r.rs.on j _ ((get j x h).resolve_left λz=>h3 z.1).2).2.2 t1 ht k t2 ((get k _ hk).resolve_left λz=>h5 z.1).2 Ph b h4 h6
 ·obtain⟨nj,oj⟩:=jD oj
  rw[bU nj]at e;exact r.own j a oj e
 ·rcases My j b hb with⟨_,hb⟩|⟨_,hb,_⟩
  ·exact r.sm.free (hn b hb)
  ·obtain⟨t9,v9,RP,e9,_⟩:=id hb
   exact r.dZ j _ b e9 hb
 ·have SA:i≠w.1.toNat:=λz=>by have:=Bool.toNat_lt w.1;omega
  rcases get _ _ e2 with⟨z,_,_⟩|⟨_,e2⟩
  ·exact absurd z SA
  ·rw[bU SA];exact r.pin w hw t2 e2
theorem mC{X:L2.Cx}{pos:Pos}(i:Nat){x:Str}{e:Expr}{f:Xt}{p2:Pos}(hN:X.N.Nodup)(he:XX X e f)(hi:X.N[i]? =some x:=by rfl)(hx:L2.Loc X.env.scope x:=by first|exact Or.inl rfl|exact Or.inr rfl)(hf:X.fn x=true\/X.env.scope.names.lookup x=some .local:=by exact .inl rfl)(hs:swapsWith e (some (.Name x p2)) pos.line X.env=pure false:=by exact d5 (by rfl)):XS X (.Assign [.Name x p2] e pos) (ib i f):=⟨have he:=he.out;λF0=>
 cw (L2.qI hN hi hx he hs hf) λD σ H=>by
  rintro⟨ρ,F,fl,r,e,q⟩
  obtain⟨t,et,e⟩:=ao.mp e;by_cases no:o4 i ρ=true/\2<=i
  ·rw[u9 no]at e
   cases e;refine⟨ρ,F,t,r.rs,et,λv H1 F1 as s1 hn nd hF tr=>?_⟩;obtain⟨mv,r'⟩:=r.Gz (i:=i) no.1 no.2 s1 hn nd hF tr;exact q _ _ _ mv r'
  ·rw[Da no]at e;cases e⟩
noncomputable abbrev Pt:=En->R (List Nat)
noncomputable def pN:Pt:=λ_=>.ok []
noncomputable def pI(i:Nat)(f:Pt)(e:Ex):Pt:=λρ=>(f ρ).bind λp=>(e ρ).bind λx=>match ρ[i]?,x with
 | some (.on (.tr t)),.int k=>match T.at t p with
  | some (.n .l ts)=>match cI ts.length k with
   |some m=>.ok (p++[m])
   |none=>.bad
  |_=>.bad
 |_,_=>.bad
noncomputable def kU(j i:Nat)(f:Pt):Sm:=λρ=>(f ρ).bind λp=>match ρ[i]? with
 | some (.on (.tr t))=>match T.at t p with
  |some t1=>if t1.own=true/\i≠j then .ok (.next (ρ.set j (.on (.al i p))))else .bad
  |none=>.bad
 |_=>.bad
noncomputable def Bf:List T->Option (List D)
 |[]=>some []
 |.d x::r=>(Bf r).map (x:: ·)
 |_::_=>none
theorem aC.ox:∀ {p:List Nat} {t:T} {v:V} {t1:T} {w:V},aC H t v p t1 w->T.at t p=some t1
 | [],t,v,t1,w,h=>by
  have e':t=t1/\v=w:=by cases t<;>exact h
  rw[e'.1];cases t1<;>rfl
 | k::p,.n kd ts,v,t1,w,h=>by
  simp only[aC]at h;obtain⟨a,xs,t2,x2,_,_,_,e1,_,h⟩:=h;unfold T.at
  rw[e1];exact h.ox
 |k::p,.d _,v,t1,w,h=>h.elim
theorem aC.snoc{n0:T}{x:V}{m:Nat}{t1:T}{x1:V}(h1:aC H n0 x [m] t1 x1):∀ {p:List Nat} {t:T} {v:V},aC H t v p n0 x->aC H t v (p++[m]) t1 x1
 | [],t,v,h=>by
  have e':t=n0/\v=x:=by cases t<;>exact h
  obtain⟨rfl,rfl⟩:=e';exact h1
 | k::p,.n kd us,v,h=>by
  show aC H (.n kd us) v (k::(p++[m])) t1 x1;simp only[aC]at h ⊢;obtain⟨b,ys,t2,x2,So,h2,h0,h3,h4,h⟩:=h;exact⟨b,ys,t2,x2,So,h2,h0,h3,h4,aC.snoc h1 h⟩
 |k::p,.d _,v,h=>h.elim
theorem aC.here(t:T)(v:V):aC H t v [] t v:=by cases t<;>exact⟨rfl,rfl⟩
theorem aC.JY{a:Addr}{xs:List V}{ts:List T}{m:Nat}{t1:T}{x1:V}(ha:H a=some (.lst xs))(h1:ts[m]? =some t1)(hx:xs[m]? =some x1):aC H (.l ts) (.ref a) [m] t1 x1:=by
 unfold aC;exact⟨a,xs,t1,x1,rfl,ha,trivial,h1,hx,aC.here _ _⟩
theorem aC.IG{a:Addr}{xs:List V}{ts:List T}{m:Nat}{t1:T}{x1:V}(ha:H a=some (.tup xs))(h1:ts[m]? =some t1)(hx:xs[m]? =some x1):aC H (.tu ts) (.ref a) [m] t1 x1:=by
 unfold aC;exact⟨a,xs,t1,x1,rfl,ha,trivial,h1,hx,aC.here _ _⟩
theorem aC.uG{a:Addr}{xs:List V}{ks:List Ky}{ts:List T}{m:Nat}{t1:T}{x1:V}(ha:H a=some (.dK (ks.zip xs)))(hl:ks.length=xs.length)(h1:ts[m]? =some t1)(hx:xs[m]? =some x1):aC H (.m ks ts) (.ref a) [m] t1 x1:=by
 unfold aC;exact⟨a,xs,t1,x1,rfl,ha,hl,h1,hx,aC.here _ _⟩
theorem T.yl{n0:T}{m:Nat}:∀ {p:List Nat} {t:T},T.at t p=some n0->T.at t (p++[m])=T.at n0 [m]
 | [],t,h=>by
  have:t=n0:=by cases t<;>(injection h)
  subst this;rfl
 | k::p,.n kd us,h=>by
  have h:(match us[k]? with|some t=>T.at t p|none=>none)=some n0:=h
  show(match us[k]? with|some t=>T.at t (p++[m])|none=>none)=T.at n0 [m]
  cases e:us[k]? with
  |none=>rw[e]at h;cases h
  |some u=>rw[e]at h;exact T.yl h
 |k::p,.d _,h=>by cases h
theorem T.Cn{ts:List T}{m:Nat}:T.at (.l ts) [m]=ts[m]? :=by
 unfold T.at
 cases e:ts[m]? with
 |none=>rfl
 |some u=>cases u<;>rfl
inductive Bo(M:Md)(i:Nat)(f:Pt)(σ:L2.St)(H:Hp)(Q:VK):Prop
 |mk:∀ρ F t w p t1,a8 M H F σ ρ->ρ[i]? =some (.on (.tr t))->σ[i]? =some (some w)->f ρ=.ok p->T.at t p=some t1->(∀v H',ah H H'->aC H' t w p t1 v->Q v H')->Bo M i f σ H Q
abbrev JL(X:Cx)(i:Nat)(e:Expr)(f:Pt):Prop:=PE X e (Bo (aD X) i f)
structure XL(X:Cx)(i:Nat)(e:Expr)(f:Pt):Prop where
 out:JL X i e f
theorem bR{X:L2.Cx}{pos:Pos}(i:Nat){x:Str}(hN:X.N[i]? =some x:=by rfl)(hv:L2.dS X.env.scope x:=by first|exact Or.inl rfl|exact Or.inr (Or.inl rfl))(hd:gV x:=by decide)(L4:TY x:=by decide):XL X i (.Name x pos) pN:=⟨ bo (L2.pv i hN hv hd L4) λσ H Q=>by
  rintro⟨ρ,F,t,w,p,t1,r,e1,e2,ef,O2,q⟩
  cases ef;have:t1=t:=by cases t<;>(injection O2 with O2;exact O2.symm)
  subst this;exact⟨w,e2,q w H (ah.refl _) (by cases t1<;>exact⟨rfl,rfl⟩)⟩⟩
theorem aC.same{t:T}{v w:V}{p:List Nat}{t1:T}{i:Nat}(r:a8 M H F σ ρ)(e1:ρ[i]? =some (.on (.tr t)))(e2:σ[i]? =some (some v))(s1:ah H H')(h:aC H t v p t1 w):aC H' t v p t1 w:=by
 obtain⟨⟨v',as,ev,tr,_⟩,_,_⟩:=r.on i _ e1;rw[e2]at ev;cases ev;exact h.mv (λ_ _ _ e=>s1 _ _ e) tr λb hb u f hu=>s1 _ _ hu
theorem aP.uy{i j:Nat}{t:T}{w v:V}{p:List Nat}{t1:T}(r:aP M G F0 H F σ ρ)(e1:ρ[i]? =some (.on (.tr t)))(e2:σ[i]? =some (some w))(L5:aC H t w p t1 v)(ho:t1.own=true)(Ow:i≠j):
  aP M G F0 H F (σ.set j (some v)) (ρ.set j (.on (.al i p))):=by
 have back:∀(k:Nat) b,cb M H F (σ.set j (some v)) (ρ.set j (.on (.al i p))) k b->j≠k/\cb M H F σ ρ k b:=λk b=>by
  rintro⟨t1,v1,Mx,h1,SV,Ni,hb⟩
  rcases get_set h1 with⟨_,z,_⟩|⟨C',h1⟩
  ·cases z
  ·rw[bU C']at SV
   exact⟨C',t1,v1,Mx,h1,SV,Ni,hb⟩
 refine⟨⟨by simp[r.rs.len],r.rs.aU,λk d q=>?_,λk d q=>?_,λk ks d q=>?_,λk l b ok ol ek el=>?_,λk x h=>?_⟩,r.sm,r.sub,r.dR,λk a ok e=>?_,λk x b e hb=>?_,r.pin.set λ_ h=>by cases h⟩
 ·rcases get_set q with⟨_,z,_⟩|⟨C',q⟩
  ·cases z
  ·obtain⟨w,e1,g⟩:=r.rs.sh k d q
   exact⟨w,by rw[bU C'];exact e1,g⟩
 ·rcases get_set q with⟨_,z,_⟩|⟨C',q⟩
  ·cases z
  ·obtain⟨a,xs,e1,g⟩:=r.rs.ol k d q
   exact⟨a,xs,by rw[bU C'];exact e1,g⟩
 ·rcases get_set q with⟨_,z,_⟩|⟨C',q⟩
  ·cases z
  ·obtain⟨a,xs,e1,g⟩:=r.rs.od k ks d q
   exact⟨a,xs,by rw[bU C'];exact e1,g⟩
 ·obtain⟨nk,ok⟩:=jD ok
  obtain⟨nl,ol⟩:=jD ol;rw[bU nk]at ek;rw[bU nl]at el;exact r.rs.cP k l b ok ol ek el
 ·rcases get_set h with⟨rfl,z,hl⟩|⟨C',h⟩
  ·injection z with z
   subst z;refine⟨λt' h'=>?_,λb hb=>absurd rfl (back _ b hb).1,λt' ht=>nomatch ht⟩
   rw[bU (Os Ow),e1]at h';cases h';exact⟨w,v,t1,by rw[bU (Os Ow)];exact e2,MG (by rw[<-r.rs.len];exact hl),L5,ho⟩
  ·obtain⟨h1,h2,h3⟩:=r.rs.on k x h
   refine⟨?_,λb hb l ol el=>?_,λt' ht l t2 hl UN b h4 h5=>?_⟩
   ·cases x with
    | tr t0=>
     obtain⟨v0,Ta,U7,UP,Uh⟩:=h1;exact⟨v0,Ta,by rw[bU C'];exact U7,UP,Uh⟩
    | al i0 p0=>
     intro t0 h0;rcases get_set h0 with⟨_,z,_⟩|⟨R5,h0⟩
     ·cases z
     ·obtain⟨v0,w0,t2,a1,a2,a3,a4⟩:=h1 t0 h0
      exact⟨v0,w0,t2,by rw[bU R5];exact a1,by rw[bU C'];exact a2,a3,a4⟩
   ·obtain⟨nl,ol⟩:=jD ol
    rw[bU nl]at el;exact h2 b (back k b hb).2 l ol el
   ·rcases get_set hl with⟨_,z,_⟩|⟨_,hl⟩
    ·cases z
    ·exact h3 t' ht l t2 hl UN b (back k b h4).2 (back l b h5).2
 ·obtain⟨nk,ok⟩:=jD ok
  rw[bU nk]at e;exact r.own k a ok e
 ·obtain⟨C',hb⟩:=back k b hb
  rw[bU C']at e;exact r.dZ k x b e hb
theorem Bc{X:L2.Cx}{pos:Pos}(j:Nat)(i:Nat){x:Str}{e:Expr}{f:Pt}{p2:Pos}(hN:X.N.Nodup)(he:XL X i e f)(hi:X.N[j]? =some x:=by rfl)(hx:L2.Loc X.env.scope x:=by exact Or.inl rfl)(hf:X.fn x=true\/X.env.scope.names.lookup x=some .local:=by exact .inl rfl)(hs:swapsWith e (some (.Name x p2)) pos.line X.env=pure false:=by exact d5 (by rfl)):XS X (.Assign [.Name x p2] e pos) (kU j i f):=⟨have he:=he.out;λF0=>
 cw (L2.qI hN hi hx he hs hf) λD σ H=>by
  rintro⟨ρ,F,fl,r,e,q⟩
  obtain⟨p,ep,e⟩:=ao.mp e;cases h1:ρ[i]? with
  |none=>rw[h1]at e;cases e
  | some s=>
   rw[h1]at e;cases s with
   | on x=>
    cases x with
    | tr t=>
     have e:(match T.at t p with|some t1=>if t1.own=true/\i≠j then R.ok (Fl.next (ρ.set j (.on (.al i p))))else .bad|none=>.bad)=.ok fl:=e
     cases L5:T.at t p with
     |none=>rw[L5]at e;cases e
     | some t1=>
      rw[L5]at e;have e:(if t1.own=true/\i≠j then R.ok (Fl.next (ρ.set j (.on (.al i p))))else .bad)=.ok fl:=e
      by_cases hc:t1.own=true/\i≠j
      ·rw[u9 hc]at e
       cases e;obtain⟨⟨w,as,ew,tr,nd⟩,_,_⟩:=r.rs.on i _ h1;exact⟨ρ,F,t,w,p,t1,r.rs,h1,ew,ep,L5,λv H1 s1 OG=>q _ _ F (.same s1) ((r.same s1).uy h1 ew OG hc.1 hc.2)⟩
      ·rw[Da hc]at e;cases e
    |al _ _=>cases e
   |_=>cases e⟩
end
noncomputable def vl(i:Nat):Sm:=λρ=>match ρ[i]? with
 |some (.on (.tr t))=>.ok (.next (ρ.set i (.sh (T.toD t))))
 |_=>.bad
section
variable{X:Cx}{M:Md}{G H H':Hp}{F0:Gf}{F F':Y8}{σ:L2.St}{ρ:En}{pos:Pos}{pins:List (Addr×Obj)}{s:Shared}{as:Y3}
def rD:HO->Prop
 |.lst _=>True
 |.dT _=>True
 |_=>False
def gK(H H':Hp)(b:Addr):Prop:=(H' b=H b/\∃u,H b=some u/\rD u)\/∃ob kvs,H b=some (.dK kvs)/\H' b=some (.frz ob (.dK kvs))
mutual
theorem az.frz:∀ {t:T} {H:Hp} {v:V} {as:Y3},Inv X pins σ H s->az M H F t v as->as.Nodup->∃H',Inv X pins σ H' s/\(∀b,b∉as->H' b=H b)/\∀b∈as,gK H H' b
 | .d x,H,v,as,I,h,_=>by
  simp only[az]at h;exact⟨H,I,λ_ _=>rfl,λb hb=>by rw[h.1]at hb;cases hb⟩
 | .n kd ts,H,v,as,I,h,nd=>by
  simp only[az]at h;obtain⟨a,xs,bs,rfl,rfl,f,e2,l,r⟩:=h;have LF:=Kd.nodup.mp nd;obtain⟨H1,I1,h1,k1⟩:=ak.frz I r LF.2
  have Po:(kd.own=true->rD (kd.ho xs))->∃H',Inv X pins σ H' s/\(∀b,b∉kd.eY a bs->H' b=H b)/\∀b∈kd.eY a bs,gK H H' b:=λhl=>by
   refine⟨H1,I1,λb hb=>h1 b λMw=>hb (Kd.sub Mw),λb hb=>?_⟩;rcases Kd.mem hb with⟨o,rfl⟩|hb
   ·exact .inl ⟨h1 b (LF.1 o),_,e2,hl o⟩
   ·exact k1 b hb
  cases kd with
  |l=>exact Po λ_=>trivial
  |u=>exact Po λo=>nomatch o
  |x ks=>exact Po λ_=>trivial
  | m ks=>
   have Tq:a∉bs:=LF.1 rfl;have ha:H1 a=some (.dK (ks.zip xs)):=by rw[h1 a Tq];exact e2
   obtain⟨ob,I2⟩:=vG I1 ha;refine⟨_,I2,λb hb=>?_,λb hb=>?_⟩
   ·have Mt:b≠a:=λz=>by subst z;exact hb v3
    rw[L2.aE Mt];exact h1 b λMw=>hb (rU _ Mw)
   ·rcases AC.mp hb with h9|h9
    ·subst h9;exact .inr ⟨ob,_,e2,L2.aV⟩
    ·have Mt:b≠a:=λz=>Tq (z▸h9)
     unfold gK;rw[L2.aE Mt];exact k1 b h9
theorem ak.frz:∀ {ts:List T} {H:Hp} {xs:List V} {as:Y3},Inv X pins σ H s->ak M H F ts xs as->as.Nodup->∃H',Inv X pins σ H' s/\(∀b,b∉as->H' b=H b)/\∀b∈as,gK H H' b
 | [],H,xs,as,I,h,_=>by
  simp only[ak]at h;exact⟨H,I,λ_ _=>rfl,λb hb=>by rw[h.2]at hb;cases hb⟩
 | t::ts,H,xs,as,I,h,nd=>by
  simp only[ak]at h;obtain⟨x,r,bs,cs,rfl,rfl,h1,h2⟩:=h;have LF:=M0.mp nd;obtain⟨H1,I1,o1,k1⟩:=az.frz I h1 LF.1;have Uz:=h1.fs;have Nr:Mv F H F H1:=λb o n e=>⟨n,by rw[o1 b λhb=>n (Uz b hb).1];exact e⟩
  have Nh:ak M H1 F ts r cs:=ak.mv Nr (λb hb u f hu=>⟨f,by rw[o1 b λMw=>LF.2.2 b Mw b hb rfl];exact hu⟩) h2
  obtain⟨H2,I2,o2,k2⟩:=ak.frz I1 Nh LF.2.1;refine⟨H2,I2,λb hb=>?_,λb hb=>?_⟩
  ·rw[o2 b λMw=>hb (FB _ Mw),o1 b λMw=>hb (KB _ Mw)]
  ·rcases KM.mp hb with hb|hb
   ·have:=k1 b hb
    unfold gK at this ⊢;rw[o2 b λMw=>LF.2.2 b hb b Mw rfl];exact this
   ·have:=k2 b hb
    unfold gK at this ⊢;rw[o1 b λMw=>LF.2.2 b Mw b hb rfl]at this;exact this
end
mutual
theorem az.seen(m:Mv F H F' H'):∀ {t:T} {v:V} {as:Y3},az M H F t v as->(∀b∈as,gK H H' b/\¬F' b)->Rep M H' F' (T.toD t) v
 | .d x,v,as,h,_=>by
  simp only[az]at h;exact h.2.mv m
 | .n kd ts,v,as,h,k=>by
  simp only[az]at h;obtain⟨a,xs,bs,rfl,rfl,f,e2,l,r⟩:=h;have rs:=ak.seen m r λb hb=>k b (Kd.sub hb);cases kd with
  | u=>
   have:=m _ _ (λz=>nomatch f.mp z) e2
   simp only[T.toD,Kd.toD,Rep];exact⟨a,xs,rfl,.inl ⟨this.1,.inl this.2⟩,rs⟩
  | l=>
   obtain⟨ka,na⟩:=k a (Kd.top rfl);simp only[T.toD,Kd.toD,Rep];refine⟨a,xs,rfl,.inl ⟨na,.inl ?_⟩,rs⟩;rcases ka with⟨z,_⟩|⟨ob,kvs,z,_⟩
   ·rw[z];exact e2
   ·rw[e2]at z;cases z
  | m ks=>
   obtain⟨ka,na⟩:=k a (Kd.top rfl);simp only[T.toD,Kd.toD,Rep];rcases ka with⟨_,ys,z,hl⟩|⟨ob,kvs,z,z2⟩
   ·rw[e2]at z;cases z;exact hl.elim
   ·rw[e2]at z;cases z
    exact⟨a,xs,rfl,.inl ⟨na,ob,z2⟩,l,rs⟩
  | x ks=>
   obtain⟨ka,na⟩:=k a (Kd.top rfl);simp only[T.toD,Kd.toD,Rep];refine⟨a,(),rfl,.inr ⟨na,.inr (.inr ⟨rfl,?_⟩)⟩⟩;rcases ka with⟨z,u,z2,_⟩|⟨ob,kvs,_,z⟩
   ·exact⟨u,z.trans z2,λh=>nomatch h⟩
   ·exact⟨_,z,λh=>nomatch h⟩
theorem ak.seen(m:Mv F H F' H'):∀ {ts:List T} {xs:List V} {as:Y3},ak M H F ts xs as->(∀b∈as,gK H H' b/\¬F' b)->ae M H' F' (T.f7 ts) xs
 | [],xs,as,h,_=>by
  simp only[ak]at h;rw[h.1];exact ae.nil
 | t::ts,xs,as,h,k=>by
  simp only[ak]at h;obtain⟨x,r,bs,cs,rfl,rfl,h1,h2⟩:=h;exact ae.cons (az.seen m h1 λb hb=>k b (KB _ hb)) (ak.seen m h2 λb hb=>k b (FB _ hb))
end
theorem a8.away{i:Nat}{t:T}{w:V}{x:Slot}(r:a8 M H F σ ρ)(e1:ρ[i]? =some (.on (.tr t)))(e2:σ[i]? =some (some w))(tr:az M H F t w as)(hH:∀b,b∉as->H' b=H b)(hx:x=.un\/∃d,x=.sh d/\Rep M H' (λb=>F b/\b∉as) d w):
  Mv F H (λb=>F b/\b∉as) H'/\a8 M H' (λb=>F b/\b∉as) σ (ρ.set i x):=by
 have fs:=tr.fs;have mv:Mv F H (λb=>F b/\b∉as) H':=λb o n e=>⟨λh=>n h.1,by rw[hH b λhb=>n (fs b hb).1];exact e⟩
 have ro:=r.on i _ e1;have Na:∀b∈as,cb M H F σ ρ i b:=λb hb=>⟨t,w,as,e1,e2,tr,hb⟩
 have keep:∀(j:Nat) b u,bu ρ j->σ[j]? =some (some (.ref b))->F b->H b=some u->(F b/\b∉as)/\H' b=some u:=λj b u oj ej fb hu=>by
  have hb:b∉as:=λhb=>ro.2.1 b (Na b hb) j oj ej;exact⟨⟨fb,hb⟩,by rw[hH b hb];exact hu⟩
 have old:∀(j:Nat) s,(ρ.set i x)[j]? =some s->(∀d,s≠.sh d)->s≠.un->i≠j/\ρ[j]? =some s:=λj s e h1 h2=>by
  rcases get_set e with⟨_,z,_⟩|⟨C',e⟩
  ·subst z
   rcases hx with h|⟨d,h,_⟩
   ·exact absurd h h2
   ·exact absurd h (h1 d)
  ·exact⟨C',e⟩
 have own:∀j,bu (ρ.set i x) j->bu ρ j:=λj h=>h.imp (by rintro⟨ds,h⟩;exact ⟨ds,(old j _ h (λ_ z=>nomatch z) λz=>nomatch z).2⟩) λ⟨ks,ds,h⟩=>⟨ks,ds,(old j _ h (λ_ z=>nomatch z) λz=>nomatch z).2⟩
 refine⟨mv,⟨by simp[r.len],λb h=>?_,λj e q=>?_,λj ds q=>?_,λj ks ds q=>?_,λj k b oj ok ej ek=>r.cP j k b (own j oj) (own k ok) ej ek,?_⟩⟩
 ·obtain⟨o,e⟩:=r.aU b h.1
  exact⟨o,by rw[hH b h.2];exact e⟩
 ·rcases get_set q with⟨rfl,z,hl⟩|⟨C',q⟩
  ·subst z
   rcases hx with h|⟨d,h,hd⟩
   ·cases h
   ·cases h;exact⟨_,e2,hd⟩
  ·obtain⟨w,e1,g⟩:=r.sh j e q
   exact⟨w,e1,g.mv mv⟩
 ·obtain⟨_,q⟩:=old j _ q (λ_ z=>nomatch z) λz=>nomatch z
  obtain⟨b,ys,e1,f,e3,g⟩:=r.ol j ds q;obtain⟨f',e'⟩:=keep j b _ (.inl ⟨_,q⟩) e1 f e3;exact⟨b,ys,e1,f',e',g.mv mv⟩
 ·obtain⟨_,q⟩:=old j _ q (λ_ z=>nomatch z) λz=>nomatch z
  obtain⟨b,ys,e1,f,e3,l,g⟩:=r.od j ks ds q;obtain⟨f',e'⟩:=keep j b _ (.inr ⟨_,_,q⟩) e1 f e3;exact⟨b,ys,e1,f',e',l,g.mv mv⟩
 ·have O7:∀(j:Nat) y,(ρ.set i x)[j]? =some (.on y)->i≠j/\ρ[j]? =some (.on y):=λj y e=>old j _ e (λ_ z=>nomatch z) λz=>nomatch z
  refine r.on.mv mv (λj x e=>⟨(O7 j x e).2,rfl⟩) (λj x b u e hb f hu=>?_) λj x b e hb k ok=>(r.on j x (O7 j x e).2).2.1 b hb k (own k ok);obtain⟨t2,v2,O9,h2,_⟩:=id hb;have Mt:b∉as:=λh=>ro.2.2 t rfl j t2 h2 (Os (O7 j x e).1) b (Na b h) hb;exact⟨⟨f,Mt⟩,by rw[hH b Mt];exact hu⟩
theorem aP.away{i:Nat}{t:T}{w:V}{x:Slot}(r:aP M G F0 H F σ ρ)(e1:ρ[i]? =some (.on (.tr t)))(e2:σ[i]? =some (some w))(tr:az M H F t w as)(hH:∀b,b∉as->H' b=H b)(hx:x=.un\/∃d,x=.sh d/\Rep M H' (λb=>F b/\b∉as) d w):
  Mv F H (λb=>F b/\b∉as) H'/\aP M G F0 H' (λb=>F b/\b∉as) σ (ρ.set i x):=by
 obtain⟨mv,rs⟩:=r.rs.away e1 e2 tr hH hx;have hG:∀b∈as,G b=none:=λb hb=>r.dZ i _ b e1 ⟨t,w,as,e1,e2,tr,hb⟩
 have old:∀(j:Nat) s,(ρ.set i x)[j]? =some s->(∀d,s≠.sh d)->s≠.un->i≠j/\ρ[j]? =some s:=λj s e h1 h2=>by
  rcases get_set e with⟨_,z,_⟩|⟨C',e⟩
  ·subst z
   rcases hx with h|⟨d,h,_⟩
   ·exact absurd h h2
   ·exact absurd h (h1 d)
  ·exact⟨C',e⟩
 refine⟨mv,rs,λb u hb=>?_,λb f=>⟨r.sub b f,λhb=>?_⟩,r.dR,λj b oj ej=>r.own j b (oj.imp (by rintro⟨ds,h⟩;exact ⟨ds,(old j _ h (λ_ z=>nomatch z) λz=>nomatch z).2⟩) λ⟨ks,ds,h⟩=>⟨ks,ds,(old j _ h (λ_ z=>nomatch z) λz=>nomatch z).2⟩) ej,λj y b ex hb=>?_,λw2 hw t2 e=>r.pin w2 hw t2 (old _ _ e (λ_ z=>nomatch z) λz=>nomatch z).2⟩
 ·rw[hH b λMw=>by rw[hG b Mw]at hb;cases hb];exact r.sm b u hb
 ·obtain⟨o,eo⟩:=r.dR b f
  rw[hG b hb]at eo;cases eo
 ·obtain⟨C',ex⟩:=old j _ ex (λ_ z=>nomatch z) λz=>nomatch z
  refine r.dZ j y b ex (r.rs.on.back (λy hy=>?_) rfl (λa u ha f hu=>?_) (λa o n e=>(mv a o n e).2) hb)
  ·rw[bU C']at hy;exact hy
  ·obtain⟨t2,v2,O9,h2,_⟩:=id ha
   rw[hH a λh=>(r.rs.on i _ e1).2.2 t rfl j t2 h2 (Os C') a ⟨t,w,as,e1,e2,tr,h⟩ ha];exact hu
theorem IH{X:L2.Cx}(i:Nat){rest:List Stmt}{fs:List Sm}(h:gg X rest (aw fs)):gg X rest (aw (vl i::fs)):=⟨have h:=h.out;λF0 pins s σ H D I=>by
 rintro⟨ρ,F,fl,r,e,q⟩
 obtain⟨f1,e1,e⟩:=ao.mp e;unfold vl at e1;split at e1
 ·rename_i t q1
  cases e1;obtain⟨⟨w,as,ew,tr,nd⟩,_,_⟩:=r.rs.on i _ q1;obtain⟨H1,I1,o1,k1⟩:=az.frz I tr nd;have Vb:Mv F H (λb=>F b/\b∉as) H1:=λb o n e=>⟨λh=>n h.1,by rw[o1 b λhb=>n (tr.fs b hb).1];exact e⟩
  obtain⟨mv,r'⟩:=r.away q1 ew tr o1 (.inr ⟨_,rfl,az.seen Vb tr λb hb=>⟨k1 b hb,λh=>h.2 hb⟩⟩);exact h F0 pins s σ H1 D I1 ⟨_,_,fl,r',e,q.mv mv⟩
 ·cases e1⟩
end
noncomputable def b8(ns:VH):VH:=ns.mergeSort λa b=>decide (a<=b)
theorem A9(ns:VH):(b8 ns).Pairwise (· <= ·):=by
 have:=List.pairwise_mergeSort (le:=λa b:Int=>decide (a<=b)) (λa b c h1 h2=>by simp at*;omega) (λa b=>by simp;omega) ns
 exact this.imp (by simp)
theorem iA(ns:VH):(b8 ns).Perm ns:=List.mergeSort_perm ns _
theorem vo{ns l:VH}(h1:l.Perm ns)(h2:l.Pairwise (· <= ·)):l=b8 ns:=
 List.Perm.eq_of_pairwise (λa b _ _ h1 h2=>Int.le_antisymm h1 h2) h2 (A9 ns) (h1.trans (iA ns).symm)
noncomputable def jK:List Ky->Option (VH)
 |[]=>some []
 |.inl i::r=>(jK r).map (i:: ·)
 |.inr _::_=>none
theorem xb:∀ {ks:List Ky} {ns:VH},jK ks=some ns->ks=ns.map .inl
 |[],_,h=>by cases h;rfl
 | .inl i::r,ns,h=>by
  unfold jK at h;cases e:jK r with
  |none=>rw[e]at h;cases h
  |some us=>rw[e]at h;cases h;rw[xb e];rfl
 |.inr _::r,ns,h=>by cases h
theorem AK:∀ns:VH,jK (ns.map .inl)=some ns
 |[]=>rfl
 |n::ns=>by show(jK (ns.map .inl)).map (n:: ·)=_;rw[AK ns];rfl
noncomputable def gG:D->R D
 | .ai ks _=>match jK ks with
  |some ns=>if ns.length<64 then .ok (.lst ((b8 ns).map .int))else .bad
  |none=>.bad
 |_=>.bad
noncomputable def fU:D->R D
 |.ai ks _=>.ok (.int ks.length)
 |x=>iH x
section
variable{X:Cx}{M:Md}{G H H':Hp}{F0:Gf}{F F':Y8}{σ:L2.St}{ρ:En}{pos:Pos}{pins:List (Addr×Obj)}{s:Shared}
theorem sE:∀ {vs:Y5} {ns:VH},PyProof.Rows.IntsAre vs ns->Vals (ns.map V.int) vs
 |_,_,.nil=>.nil
 |_,_,.cons n t h=>.cons ⟨t,rfl⟩ (sE h)
theorem uQ:∀ {ns:VH} {vs:Y5},Vals (ns.map V.int) vs->PyProof.Rows.IntsAre vs ns
 |[],_,h=>by cases h;exact .nil
 | s::ss,_,h=>by
  cases h with
  | cons r t=>
   obtain⟨tk,rfl⟩:=r;exact .cons s tk (uQ t)
theorem DC{h:Heap}{a:Addr}{vs:Y5}{out:Array Value}{b:Addr}{o:Obj}(hb:b≠a)(e:h.get? b=some o):(PyProof.Rows.sortedHeap h a vs out).get? b=some o:=by
 unfold PyProof.Rows.sortedHeap;rw[WS _ _ (Os hb)];refine cp _ (cp _ ?_);rw[WS _ _ (Os hb)];exact e
theorem uk(hc:X.calm=true):bM X (.builtin "sorted") (λxs H Q=>∃F p kvs ns,xs=[.ref p]/\eN (aD X) H F p kvs/\kvs.map (·.1)=ns.map .inl/\ns.length<64/\∀l,H l=none->Q (.ref l) (upd H l (.lst ((b8 ns).map V.int)))):=by
 intro pins s σ H xs us Q I r h;obtain⟨F,p,kvs,ns,rfl,hd,hk,QE,q⟩:=h;obtain⟨u,rfl,ru⟩:=L2.vals1 r;cases ru;obtain⟨z,MP,vs,rel,dd⟩:=i9 I hd;obtain⟨ep,L5⟩:=dd.dictAt;have hl:=fO rel;refine PyProof.Rows.call_builtin_at PyProof.Rows.plain_sorted PyProof.Rows.entry_sorted (PyProof.Rows.args_sorted1 _) (PyProof.Rows.wpAt_of_any ?_);unfold Builtin.sorted;refine mB (JO ?_);refine mB (PySem.W.kdu_collect (PySem.W.kdl_dict (knd:=L2.bz X.prog X.w) (kvs:=vs) (ep:=ep) MP) (I.ok.hd hc) L5 (by omega) λh1 tk acc keep MX=>?_)
 have hv:Vals (ns.map V.int) acc.toList:=by
  refine xV (P:=λ_ _=>True) (by rw[Do];have:=congrArg List.length hk;simp only[Do]at this;have:=MX.1;simp;omega) λj v hj=>?_
  obtain⟨k,x,e1,e2⟩:=MX.2 j v (by simpa using hj)
  obtain⟨y,e3,e4⟩:=yJ rel e1;have e5:(kvs.map (·.1))[j]? =some k:=by rw[DM,e3];show some y.1=_;rw[e4]
  rw[hk,DM]at e5;cases e6:ns[j]? with
  |none=>rw[e6]at e5;cases e5
  | some n=>
   rw[e6]at e5;cases e5;exact⟨.int n,by rw[DM,e6];rfl,vT (k:=(.inl n:Key)) (by exact e2)⟩
 have hints:=uQ hv;have hlen:acc.toList.length<64:=by have:=hv.length;rw[Do]at this;omega
 have I1:Inv X pins σ H {s with heap:=h1,toks:=tk}:=I.kept keep;refine mB (wpAny_newList ?_ (by have:(sizeLine:Nat)=16777216:=V3;omega))
 refine mB (WY ?_);have N2:(h1.push {cls:=Value.type "list",data:=Data.seq acc.toList.toArray}).get? h1.objs.size=some (PyProof.Rows.seqObj "list" acc.toList.toArray 0):=FS _ rfl;refine PyProof.Rows.wpAny_call_entry_kw PyProof.Rows.slot_list_sort ⟨_,N2,rfl⟩ PyProof.Rows.entry_list_sort (PyProof.Rows.list_sort_tree N2 hints hlen λout Ub a1 a2 a3=>?_) (PyProof.Rows.args_list_sort _);rw[vo a2 a3]at a1;refine⟨_,rfl,JO ⟨_,rfl,?_⟩⟩
 have hz:((b8 ns).map V.int).length<=sizeLine:=by
  have:(sizeLine:Nat)=16777216:=V3;rw[Do,(iA ns).length_eq];omega
 have MV:∃e,(PyProof.Rows.sortedHeap (h1.push {cls:=Value.type "list",data:=Data.seq acc.toList.toArray}) h1.objs.size acc.toList out).get? h1.objs.size=some {cls:=Value.type "list",data:=Data.seq out e}:=PyProof.Rows.sortedHeap_at N2;obtain⟨e,he⟩:=MV;have I3:=I1.laid (a:=h1.objs.size) (o:=.lst ((b8 ns).map V.int)) (h':=PyProof.Rows.sortedHeap (h1.push {cls:=Value.type "list",data:=Data.seq acc.toList.toArray}) h1.objs.size acc.toList out) (t':=tk) (λb u hb=>DC (λz=>by subst z;rw[YX (Fk _)]at hb;cases hb) (cp _ hb)) (Fk _) ⟨hz,out.toList,e,sE a1,by simpa using he⟩
 exact⟨.ref _,_,I3,rfl,q _ I1.fresh⟩
theorem vz:∀ns:VH,ae M H F (ns.map .int) (ns.map V.int)
 |[]=>ae.nil
 |n::ns=>ae.cons d8 (vz ns)
theorem uv:gX M (g1 gG) (λxs H Q=>∃F p kvs ns,xs=[.ref p]/\eN M H F p kvs/\kvs.map (·.1)=ns.map .inl/\ns.length<64/\∀l,H l=none->Q (.ref l) (upd H l (.lst ((b8 ns).map V.int)))):=by
 intro F H xs as d Q tr rs e q;unfold g1 at e;split at e
 ·rename_i a
  obtain⟨x,rfl,r⟩:=rs.one;unfold gG at e;split at e
  ·rename_i ks vs
   split at e
   ·rename_i ns Oq
    split at e
    ·rename_i QE
     cases e;have TQ:=xb Oq;simp only[Rep]at r;obtain⟨p,ys,rfl,h,hl,rs⟩:=r;refine⟨F,p,_,ns,rfl,h,by rw[Wi (by omega)];exact TQ,QE,λl hn=>q _ _ (ah.bZ hn _) (oP tr hn (vz _))⟩
    ·cases e
   ·cases e
  ·cases e
 ·cases e
def Ab(M:Md):List V->Hp->VK->Prop:=λxs H Q=>sr M xs H Q\/∃F p kvs,xs=[.ref p]/\eN M H F p kvs/\Q (.int kvs.length) H
theorem qy:bM X (.builtin "len") (Ab (aD X)):=by
 intro pins s σ H xs us Q I r h;rcases h with h|⟨F,p,kvs,rfl,hd,q⟩
 ·exact lO pins s σ H xs us Q I r h
 ·obtain⟨u,rfl,ru⟩:=L2.vals1 r
  cases ru;obtain⟨z,MP,vs,rel,dd⟩:=i9 I hd;have hl:=fO rel;refine call_len_dict MP dd (by rw[<-hl];rw[V3]at z;omega) ?_
  rw[<-hl];exact⟨.int _,H,I.tok _,⟨_,rfl⟩,q⟩
theorem qx:gX M (g1 fU) (Ab M):=by
 intro F H xs as d Q tr rs e q;have e0:=e;unfold g1 at e;split at e
 ·rename_i a
  by_cases hd:∃ks vs,a=.ai ks vs
  ·obtain⟨ks,vs,rfl⟩:=hd
   cases e;obtain⟨x,rfl,r⟩:=rs.one;simp only[Rep]at r;obtain⟨p,ys,rfl,h1,hl,rs⟩:=r;refine .inr ⟨F,p,_,rfl,h1,?_⟩;rw[On,show min ks.length ys.length=ks.length by omega]
   exact q _ _ (ah.refl _) d8
  ·refine .inl (mr F H xs _ d Q tr rs ?_ q)
   show iH a=.ok d;cases a with
   |ai ks vs=>exact absurd ⟨ks,vs,rfl⟩ hd
   |_=>exact e
 ·cases e
end
end PL
namespace PL
open PySem PySem.Spec
theorem ja{o b:Expr}{p:Pos}{a:Str}{env:Env}{w:Sem Value}:attributeBase (.Subscript o b p) a env w=w:=rfl
open L2 (V Hp HO Cx PE PT PW PA PS cq PG di VK TE TT TA TS TI TG Inv RelV Vals Rd bt bH upd ah Key XK Ends a7 fS bM R2 EP It Turn cO Un)
noncomputable def iK(f:Xt):Sm:=λρ=>(f ρ).bind λt=>.ok (.dB t)
noncomputable def qN(i:Nat):Sm:=λρ=>match ρ[i]? with
 |some (.on (.tr t))=>.ok (.dB t)
 |_=>.bad
noncomputable def hW(n:Nat)(body:Sm):List D->R T:=λds=>(body (ds.map .sh++List.replicate (n - ds.length) .un)).bind λf=>match f with
 |.dB t=>.ok t
 |_=>.bad
inductive spT(M:Md)(m:List D->R T)(n:Nat)(vs:List V)(H:Hp)(Q:VK)(_x3:XK):Prop
 |mk:∀F ds t,(∀p,F p->∃o,H p=some o)->ae M H F ds vs->ds.length=n->m ds=.ok t->(∀v H' F' as,ah H H'->(∀b∈as,H b=none)->as.Nodup->(∀b,F' b↔F b\/b∈as)->az M H' F' t v as->Q v H')->spT M m n vs H Q _x3
noncomputable def cG(m:List D->R T)(fs:List Ex):Xt:=λρ=>(eList fs ρ).bind m
noncomputable def eX(f:Xt):Ex:=λρ=>(f ρ).bind λt=>.ok (T.toD t)
section
variable{X:Cx}{M:Md}{G H H':Hp}{F0:Gf}{F F':Y8}{σ:L2.St}{ρ:En}{pos:Pos}{pins:List (Addr×Obj)}{s:Shared}{as:Y3}
theorem lN{X:L2.Cx}{pos:Pos}{a:Expr}{f:Xt}(ha:XX X a f):XS X (.Return (some a) pos) (iK f):=⟨have ha:=ha.out;λF0=>
 cw (L2.p5 ha) λD σ H=>by
  rintro⟨ρ,F,fl,r,e,q⟩
  obtain⟨t,et,e⟩:=ao.mp e;cases e;exact⟨ρ,F,t,r.rs,et,λv H1 F1 as s1 hn nd hF tr=>q v H1 F F1 as (.same s1) (r.sm.trans s1) r.sub (λb hb=>r.sm.free (hn b hb)) nd hF tr⟩⟩
theorem w6{X:L2.Cx}{pos:Pos}(i:Nat){x:Str}{p2:Pos}(hN:X.N[i]? =some x:=by rfl)(hv:L2.dS X.env.scope x:=by exact Or.inl rfl)(hd:gV x:=by decide)(L4:TY x:=by decide):XS X (.Return (some (.Name x p2)) pos) (qN i):=⟨ λF0=>
 cw (L2.p5 (L2.pv i hN hv hd L4)) λD σ H=>by
  rintro⟨ρ,F,fl,r,e,q⟩
  unfold qN at e;split at e
  ·rename_i t q1
   cases e;obtain⟨⟨w,as,ew,tr,nd⟩,_,_⟩:=r.rs.on i _ q1;have hG:∀b∈as,F0.g b=none:=λb hb=>r.dZ i _ b q1 ⟨t,w,as,q1,ew,tr,hb⟩;have fs:=tr.fs;refine⟨w,ew,q w H (λb=>F b/\b∉as) F as (λb o n e=>⟨λh=>n h.1,e⟩) r.sm (λb f=>⟨r.sub b f,λhb=>?_⟩) hG nd (λb=>?_) tr⟩
   ·obtain⟨o,e⟩:=r.dR b f
    rw[hG b hb]at e;cases e
   ·by_cases hb:b∈as
    ·exact⟨λ_=>.inr hb,λ_=>(fs b hb).1⟩
    ·exact⟨λf=>.inl ⟨f,hb⟩,λh=>h.elim XZ λh=>absurd h hb⟩
  ·cases e⟩
theorem Ca{N:List Str}{n:Nat}{body:Sm}{vs:List V}{Q:VK}{E:XK}{t:TS}(ht:∀(F0:Gf) D σ H,c8 M F0.g F0 body D σ H->t D σ H)(h:spT M (hW N.length body) n vs G Q E)(hn:n<=N.length):t {nx:=λ_ H'=>Q .aj H',rt:=Q} (L2.start N vs) G:=by
 obtain⟨F,ds,t',tr,rs,hl,e,q⟩:=h;obtain⟨f,ef,e⟩:=ao.mp e;refine ht ⟨G,F,λ_=>none⟩ _ _ _ ⟨_,F,f,u6 tr rs hl hn,ef,?_⟩;cases f with
 | dB t1=>
  cases e;exact λv H' F1 F2 as mv sm sub hG nd hF tr=>q v H' (λb=>F b\/b∈as) as sm hG nd (λ_=>WI) (az.less (λb f=>(hF b).mpr (f.imp (sub b) id)) (λb hb=>.inr hb) tr)
 |_=>cases e
structure cJ(P:Program)(w:World)(K:PySem.W.Frag)(mg:Str->Y6)(base:Heap)(x:Str)(k n:Nat)(m:List D->R T):Prop where
 ex:∃f fd ps,L2.dX P w K mg base L2.cV k f fd ps (spT ⟨K,P,w⟩ m n)/\L2.Binds K fd ps []/\PySem.W.keepIn K (.ref f)=true/\mg x=some (.ref f)
theorem D0{P:Program}{w:World}{K:PySem.W.Frag}{mg:Str->Y6}{base:Heap}{x qual:Str}{st:Stmt}{f:Addr}{fd:FuncData}{N ps:List Str}{k n:Nat}{body:Sm}(Fu:L2.gb K x qual st f fd)(hm:mg x=some (.ref f))(S:L2.ba N ps (L2.aH st))(hb:L2.Binds K fd ps [])
  (h:∀(Lk:Value) (A:Around) (outer:List Env) (s:Shared) (H:Hp) (E:XK),L2.b4 k (A.deeper (PyProof.Rows.envOfC qual (L2.aH st) s.heap.objs.size f Lk))->gI (L2.fG L2.cV P w K mg base N qual (L2.aH st) f Lk A outer s H E).fJ (L2.cU st) body)
  (hn:ps.length=n:=by rfl):cJ P w K mg base x (k+1) n (hW N.length body):=by
 refine⟨f,fd,ps,Fu.ok S (λvs H Q E h=>?_) (λLk A outer s H vs Q E hr M6=>?_),hb,Fu.kp,hm⟩
 ·obtain⟨F,ds,d,_,rs,hl,_⟩:=h
  rw[<-rs.length,hl,hn]
 ·refine⟨λD σ H'=>∃F0:Gf,c8 ⟨K,P,w⟩ F0.g F0 body D σ H',λpins s' σ H' D I=>by rintro⟨F0,q⟩;exact h Lk A outer s H E hr F0 pins s' σ H' D I q,?_⟩
  refine Ca (G:=H) (t:=λD σ H'=>∃F0:Gf,c8 ⟨K,P,w⟩ F0.g F0 body D σ H') (λF0 D σ H' h=>⟨F0,h⟩) M6 ?_;have:=congrArg List.length S.pre;rw[Ws]at this;omega
theorem IQ{m:List D->R T}{n:Nat}{fs:List Ex}{Q:VK}{E:XK}(hn:fs.length=n)(h:rM M (cG m fs) σ H Q):L2.mV (spT M m n) [] E (mI M (eList fs)) σ H Q:=by
 obtain⟨ρ,F,t,hr,e,q⟩:=h;obtain⟨ds,NJ,e⟩:=ao.mp e;refine⟨ρ,F,ds,hr,NJ,λvs H1 s1 rs=>?_⟩;show spT M m n (vs++[]) H1 Q E;rw[VW];exact⟨F,ds,t,(hr.same s1).aU,rs,by rw[hX NJ];exact hn,e,λv H2 F2 as s2 hn nd hF tr=>q v H2 F2 as (s1.trans s2) (λb hb=>s1.free (hn b hb)) nd hF tr⟩
theorem iZ{X:L2.Cx}{pos:Pos}{x:Str}{k j n:Nat}{m:List D->R T}{e:Expr}{es:Y4}{fs:List Ex}{p:Pos}(d:cJ X.prog X.w X.K X.mg X.base x k n m)(hr:L2.b4 j X.A)(ha:XA X (e::es) (eList fs))(hk:k<=j)(hg:L2.Gl X x:=by rfl)(hn:fs.length=n:=by rfl)(MD:gV x:=by decide)(he:starEach (e::es) X.env=(false,eval e X.env)::starEach es X.env:=by exact bw (by rfl))(M5:(backTo pos (starEach es X.env)).any (·.1)=false:=by exact jW (by rfl)):XX X (.Call (.Name x p) (e::es) [] pos) (cG m fs):=⟨have ha:=ha.out;by
 obtain⟨f,fd,ps,h1,h2,h3,h4⟩:=d.ex;exact bo (L2.oo h1 (hr.mono hk) hg h4 h3 h2 .nil L2.kb ha MD he M5) λσ H Q h=>IQ hn h⟩
theorem BP{X:L2.Cx}{pos:Pos}{x:Str}{k j:Nat}{m:List D->R T}{p:Pos}(d:cJ X.prog X.w X.K X.mg X.base x k 0 m)(hr:L2.b4 j X.A)(hg:L2.Gl X x:=by rfl)(hk:k<=j:=by decide)(MD:gV x:=by decide):XX X (.Call (.Name x p) [] [] pos) (cG m []):=⟨ by
 obtain⟨f,fd,ps,h1,h2,h3,h4⟩:=d.ex;refine bo (L2.Kp h1 (hr.mono hk) hg h4 h3 h2 .nil L2.kb MD) λσ H Q ⟨ρ,F,d,hr,e,q⟩=>?_;exact⟨F,[],d,hr.aU,ae.nil,rfl,e,q⟩⟩
theorem wg{X:L2.Cx}{e:Expr}{f:Xt}(h:XX X e f):XE X e (eX f):=⟨have h:=h.out;by
 intro pins s σ H Q I ⟨ρ,F,d,hr,e,q⟩;obtain⟨t,et,e⟩:=ao.mp e;cases e;refine L2.aL (h pins s σ H (λv H'=>∃F' as,ah H H'/\(∀b∈as,H b=none)/\as.Nodup/\(∀b,F' b↔F b\/b∈as)/\az (aD X) H' F' t v as) I ⟨ρ,F,t,hr,et,λv H' F' as a b c d e=>⟨F',as,a,b,c,d,e⟩⟩) λu s1 ⟨v,H1,I1,rv,F1,as,sm,hn,nd,hF,tr⟩=>?_;obtain⟨H2,I2,o2,k2⟩:=az.frz I1 tr nd;have fs:=tr.fs;have nF:∀b∈as,¬F b:=λb hb f=>by obtain⟨o,e⟩:=hr.aU b f;rw[hn b hb]at e;cases e
 refine⟨v,H2,I2,rv,q v H2 (λb o e=>?_) (az.seen (λb o n e=>⟨λf=>n ((hF b).mpr (.inl f)),?_⟩) tr λb hb=>⟨k2 b hb,nF b hb⟩)⟩
 ·rw[o2 b λhb=>by rw[hn b hb]at e;cases e];exact sm _ _ e
 ·rw[o2 b λhb=>n ((hF b).mpr (.inr hb))];exact e⟩
noncomputable def xT(fs:List Xt):Xt:=λρ=>(fQ fs ρ).bind λts=>.ok (.tu ts)
theorem vZ{X:L2.Cx}{pos:Pos}{es:Y4}{fs:List Xt}{k1}(h:nr X es (fQ fs))(hl:fs.length<=1000):XX X (.Tuple es k1 pos) (xT fs):=⟨have h:=h.out;bo (L2.vw h) λσ H Q=>by
  rintro⟨ρ,F,t,hr,e,q⟩
  obtain⟨ts,Qd,e⟩:=ao.mp e;cases e;refine⟨ρ,F,ts,hr,Qd,λvs H1 F1 as s1 hn nd hF tr=>⟨?_,λp hp=>?_⟩⟩
  ·rw[<-tr.len,v5 Qd];exact PK hl (by decide)
  ·have UQ:¬F1 p:=λf=>by
    rcases(hF p).mp f with f|f
    ·obtain⟨o,eo⟩:=hr.aU p f
     rw[s1 _ _ eo]at hp;cases hp
    ·obtain⟨_,u,hu⟩:=tr.fs p f
     rw[hp]at hu;cases hu
   refine q _ _ F1 as (s1.trans (ah.bZ hp _)) hn nd hF ?_;simp only[bE,bF,bD,bI];have ne:∀b u,H1 b=some u->b≠p:=λb u e z=>by subst z;rw[hp]at e;cases e
   exact⟨p,vs,rfl,UQ,L2.aV,tr.mv (λb o n e=>⟨n,by rw[L2.aE (ne b o e)];exact e⟩) λb hb u f hu=>⟨f,by rw[L2.aE (ne b u hu)];exact hu⟩⟩⟩
noncomputable def kE(it:bV)(n:Nat)(fv:List Nat)(tg:bL)(cs:List aY)(el:Xt):Xt:=λρ=>(qO it n fv tg cs el ρ).bind λts=>.ok (.l ts)
theorem tS{X:L2.Cx}{pos:Pos}(tn:List Str)(fv:List Str)(LK:List Nat){elt iter target:Expr}{ifs:Y4}{scope:Scope}{it:bV}{tg:bL}{cs:List aY}{el:Xt}(ok:je X scope tn fv LK)(hi:XI X target iter it)(ht:∀cl C s H fp,XG (cF X scope cl C (tn++fv) s H fp) target tg)(MK:∀cl C s H fp,jC (cF X scope cl C (tn++fv) s H fp) ifs cs)(MU:∀cl C s H fp,XX (cF X scope cl C (tn++fv) s H fp) elt el)(M8:∀e s,¬X.xe e s:=by exact λ_ _ h=>h)(hc:X.calm=true:=by rfl)(low:iw tn.length tg:=by exact om (by decide))(hs:∀x,foldedSetIterable iter X.env x=pure x:=by exact mi (by rfl)):XX X (.ListComp elt [⟨target,iter,ifs,0⟩] scope pos) (kE it tn.length LK tg cs el):=⟨have hi:=hi.out;have ht:=(λcl C s H fp=>(ht cl C s H fp).out);have MK:=(λcl C s H fp=>(MK cl C s H fp).out);have MU:=(λcl C s H fp=>(MU cl C s H fp).out);by
 intro pins s σ H Q I ⟨ρ,F,t,hr,e,q⟩;obtain⟨all,ea,e⟩:=ao.mp e;cases e;show wpAny _ _ (comprehension (.ListComp elt [⟨target,iter,ifs,0⟩] scope pos) scope X.env _ (newList []) false (eval iter X.env) none) _ _ s;refine Bb tn fv LK M8 hc ok hi low ht MK MU hs I hr ea λD C s4 H' vs Hq bs F2 f hm I5 fC q1 q2 q3 q5 q6 q7 q4=>?_;obtain⟨m,hm⟩:=hm;refine⟨m,hm,λh' MM=>⟨.ref D,H',I5.turned (t':=s4.toks) (λb o n e=>by rw[MM.2 b n];exact e) fC.1 fC.2.1 fC.2.2.2.1 fC.2.2.2.2.1 fC.2.2.2.2.2,rfl,?_⟩⟩
 rw[<-q4];obtain⟨a1,a2,a3,a4⟩:=yu q1 q3 q5 q6 q7 q2;exact q _ _ _ _ a1 a2 a3 (λ_=>WI) a4⟩
noncomputable def cK(i:Nat)(t:T):Slot->Slot
 | .on (.al k p)=>if k=i then(match T.at t p with
  |some t1=>.sh (T.toD t1)
  |none=>.un)else .un
 |s=>s
noncomputable def bK(i:Nat)(t:T)(ρ:En):En:=(ρ.map (cK i t)).set i (.sh (T.toD t))
noncomputable def lC(i:Nat)(f:Ex):Ex:=λρ=>match ρ[i]? with
 |some (.on (.tr t))=>(f (bK i t ρ)).bind λd=>if gc d=true then .ok d else .bad
 |_=>.bad
noncomputable def gp(i:Nat)(f:aY):aY:=λρ=>match ρ[i]? with
 |some (.on (.tr t))=>f (bK i t ρ)
 |_=>.bad
noncomputable def cS(i:Nat)(f:Ex):Ex:=λρ=>match ρ[i]? with
 | some (.on (.tr t))=>(f (bK i t ρ)).bind λd=>match d with
  |.lst ds=>if fB ds=true then .ok (.lst ds)else .bad
  |_=>.bad
 |_=>.bad
theorem yL(I0:Inv X pins σ H s):∀ {as:Y3} {H1:Hp} {s1:Shared},Inv X pins σ H1 s1->(∀b∈as,H1 b=H b\/∃ob kvs,H b=some (.dK kvs)/\H1 b=some (.frz ob (.dK kvs)))->as.Nodup->∃H2,Inv X pins σ H2 s1/\(∀b∈as,H2 b=H b)/\∀b,b∉as->H2 b=H1 b
 |[],H1,s1,I1,_,_=>⟨H1,I1,(λ_ hb=>nomatch hb),λ_ _=>rfl⟩
 | a::as,H1,s1,I1,k,nd=>by
  have LF:=GM.mp nd;obtain⟨H2,I2,k2,o2⟩:=yL I0 I1 (λb hb=>k b (rU _ hb)) LF.2;have ea:H2 a=H1 a:=o2 a LF.1;rcases k a v3 with h|⟨ob,kvs,h1,h2⟩
  ·refine⟨H2,I2,λb hb=>?_,λb hb=>o2 b λMw=>hb (rU _ Mw)⟩
   rcases AC.mp hb with rfl|hb
   ·rw[ea];exact h
   ·exact k2 b hb
  ·refine⟨_,CV I0 h1 I2 (by rw[ea];exact h2),λb hb=>?_,λb hb=>?_⟩
   ·by_cases Nm:b=a
    ·subst Nm;rw[L2.aV,h1]
    ·rw[L2.aE Nm]
     exact k2 b ((AC.mp hb).resolve_left Nm)
   ·have Nm:b≠a:=λz=>by subst z;exact hb v3
    rw[L2.aE Nm];exact o2 b λMw=>hb (rU _ Mw)
theorem a8.bK{i:Nat}{t:T}{w:V}(r:a8 M H F σ ρ)(e1:ρ[i]? =some (.on (.tr t)))(e2:σ[i]? =some (some w))(tr:az M H F t w as)(hH:∀b,b∉as->H' b=H b)(hz:∀b∈as,gK H H' b):
  Mv F H (λb=>F b/\b∉as) H'/\a8 M H' (λb=>F b/\b∉as) σ (PL.bK i t ρ):=by
 have fs:=tr.fs;have mv:Mv F H (λb=>F b/\b∉as) H':=λb o n e=>⟨λh=>n h.1,by rw[hH b λhb=>n (fs b hb).1];exact e⟩
 have ro:=r.on i _ e1;have Na:∀b∈as,cb M H F σ ρ i b:=λb hb=>⟨t,w,as,e1,e2,tr,hb⟩
 have keep:∀(j:Nat) b u,bu ρ j->σ[j]? =some (some (.ref b))->F b->H b=some u->(F b/\b∉as)/\H' b=some u:=λj b u oj ej fb hu=>by
  have hb:b∉as:=λhb=>ro.2.1 b (Na b hb) j oj ej;exact⟨⟨fb,hb⟩,by rw[hH b hb];exact hu⟩
 have root:Rep M H' (λb=>F b/\b∉as) (T.toD t) w:=az.seen mv tr λb hb=>⟨hz b hb,λh=>h.2 hb⟩
 have get:∀(j:Nat) s,(PL.bK i t ρ)[j]? =some s->(j=i/\s=.sh (T.toD t))\/(j≠i/\∃z,ρ[j]? =some z/\cK i t z=s):=λj s h=>by
  unfold PL.bK at h;rcases get_set h with⟨h1,h2,_⟩|⟨C',h⟩
  ·exact .inl ⟨h1.symm,h2.symm⟩
  ·rw[DM]at h
   cases e:ρ[j]? with
   |none=>rw[e]at h;cases h
   |some z=>rw[e]at h;exact .inr ⟨Os C',z,rfl,by simpa using h⟩
 have same:∀ {z s:Slot},cK i t z=s->(s=z/\∀k p,z≠.on (.al k p))\/s=.un\/∃p t1,z=.on (.al i p)/\T.at t p=some t1/\s=.sh (T.toD t1):=λ{z s} h=>by
  unfold cK at h;split at h
  ·rename_i k p
   by_cases hk:k=i
   ·subst hk
    rw[u9 rfl]at h;split at h
    ·rename_i t1 h1
     exact .inr (.inr ⟨p,t1,rfl,h1,h.symm⟩)
    ·exact .inr (.inl h.symm)
   ·rw[Da hk]at h;exact .inr (.inl h.symm)
  ·rename_i C'
   exact .inl ⟨h.symm,λk p z=>C' k p z⟩
 have owned:∀j,bu (PL.bK i t ρ) j->bu ρ j:=λj h=>by
  rcases h with⟨ds,h⟩|⟨ks,ds,h⟩
  ·rcases get j _ h with⟨_,z⟩|⟨_,z,NK,NM⟩
   ·cases z
   ·rcases same NM with⟨z1,_⟩|z1|⟨_,_,_,_,z1⟩
    ·subst z1;exact .inl ⟨_,NK⟩
    ·cases z1
    ·cases z1
  ·rcases get j _ h with⟨_,z⟩|⟨_,z,NK,NM⟩
   ·cases z
   ·rcases same NM with⟨z1,_⟩|z1|⟨_,_,_,_,z1⟩
    ·subst z1;exact .inr ⟨_,_,NK⟩
    ·cases z1
    ·cases z1
 have on:∀(j:Nat) x,(PL.bK i t ρ)[j]? =some (.on x)->j≠i/\ρ[j]? =some (.on x):=λj x h=>by
  rcases get j _ h with⟨_,z⟩|⟨hj,z,NK,NM⟩
  ·cases z
  ·rcases same NM with⟨z1,_⟩|z1|⟨_,_,_,_,z1⟩
   ·subst z1;exact⟨hj,NK⟩
   ·cases z1
   ·cases z1
 refine⟨mv,⟨by unfold PL.bK;simp[r.len],λb h=>?_,λj d h=>?_,λj ds h=>?_,λj ks ds h=>?_,λj k b oj ok ej ek=>r.cP j k b (owned j oj) (owned k ok) ej ek,r.on.mv mv (λj x h=>⟨(on j x h).2,rfl⟩) (λj x b u h hb f hu=>?_) λj x b h hb k ok=>(r.on j x (on j x h).2).2.1 b hb k (owned k ok)⟩⟩
 ·obtain⟨o,e⟩:=r.aU b h.1
  exact⟨o,by rw[hH b h.2];exact e⟩
 ·rcases get j _ h with⟨rfl,z⟩|⟨_,z,NK,NM⟩
  ·cases z;exact⟨w,e2,root⟩
  ·rcases same NM with⟨z1,_⟩|z1|⟨p,t1,z1,L5,z2⟩
   ·subst z1
    obtain⟨v,ev,rv⟩:=r.sh j d NK;exact⟨v,ev,rv.mv mv⟩
   ·cases z1
   ·subst z1
    cases z2;obtain⟨v0,w1,t2,a1,a2,a3,_⟩:=(r.on j _ NK).1 t e1;rw[e2]at a1;cases a1;have:=a3.ox;rw[L5]at this;cases this;obtain⟨bs,tp,sub⟩:=aC.part tr a3;exact⟨w1,a2,az.seen mv tp λb hb=>⟨hz b (sub.subset hb),λh=>h.2 (sub.subset hb)⟩⟩
 ·rcases get j _ h with⟨_,z⟩|⟨_,z,NK,NM⟩
  ·cases z
  ·rcases same NM with⟨z1,_⟩|z1|⟨_,_,_,_,z1⟩
   ·subst z1
    obtain⟨b,ys,e3,f,e4,g⟩:=r.ol j ds NK;obtain⟨f',e'⟩:=keep j b _ (.inl ⟨_,NK⟩) e3 f e4;exact⟨b,ys,e3,f',e',g.mv mv⟩
   ·cases z1
   ·cases z1
 ·rcases get j _ h with⟨_,z⟩|⟨_,z,NK,NM⟩
  ·cases z
  ·rcases same NM with⟨z1,_⟩|z1|⟨_,_,_,_,z1⟩
   ·subst z1
    obtain⟨b,ys,e3,f,e4,l,g⟩:=r.od j ks ds NK;obtain⟨f',e'⟩:=keep j b _ (.inr ⟨_,_,NK⟩) e3 f e4;exact⟨b,ys,e3,f',e',l,g.mv mv⟩
   ·cases z1
   ·cases z1
 ·obtain⟨t2,v2,O9,h2,_⟩:=id hb
  have Mt:b∉as:=λh9=>ro.2.2 t rfl j t2 h2 (on j x h).1 b (Na b h9) hb;exact⟨⟨f,Mt⟩,by rw[hH b Mt];exact hu⟩
theorem pO{H1:Hp}{s1:Shared}(I:Inv X pins σ H s)(nd:as.Nodup)(hH:∀b,b∉as->H' b=H b)(hz:∀b∈as,gK H H' b)(I1:Inv X pins σ H1 s1)(sm:ah H' H1):
  ∃H2,Inv X pins σ H2 s1/\ah H H2/\(∀b,b∉as->H2 b=H1 b)/\(∀b∈as,H2 b=H b)/\(∀b∈as,∃u,H1 b=some u)/\∀a xs,cT M H1 (λb=>F b/\b∉as) a xs->cT M H2 F a xs:=by
 have k1:∀b∈as,(H1 b=H b/\∃u,H b=some u/\rD u)\/∃ob kvs,H b=some (.dK kvs)/\H1 b=some (.frz ob (.dK kvs)):=λb hb=>by
  rcases hz b hb with⟨h1,xs,h2,hl⟩|⟨ob,kvs,h1,h2⟩
  ·exact .inl ⟨by rw[h2]at h1 ⊢;exact sm _ _ h1,xs,h2,hl⟩
  ·exact .inr ⟨ob,kvs,h1,sm _ _ h2⟩
 obtain⟨H2,I2,a2,o2⟩:=yL I I1 (λb hb=>(k1 b hb).imp XZ id) nd;refine⟨H2,I2,λb o e=>?_,o2,a2,λb hb=>?_,λa xs h=>?_⟩
 ·by_cases hb:b∈as
  ·rw[a2 b hb];exact e
  ·rw[o2 b hb];exact sm _ _ (by rw[hH b hb];exact e)
 ·rcases k1 b hb with⟨h1,xs,h2,_⟩|⟨ob,kvs,h1,h2⟩
  ·exact⟨_,h1.trans h2⟩
  ·exact⟨_,h2⟩
 ·rcases h with⟨n,h⟩|h
  ·have ha:a∉as:=λha=>by
    rcases k1 a ha with⟨h1,ys,h2,hl⟩|⟨ob,kvs,h1,h2⟩
    ·rcases h with h|⟨o,h⟩
     ·rw[h1,h2]at h;cases h;exact hl
     ·rw[h1,h2]at h;cases h;exact hl
    ·rcases h with h|⟨o,h⟩
     ·rw[h2]at h;cases h
     ·rw[h2]at h;cases h
   refine .inl ⟨λf=>n ⟨f,ha⟩,?_⟩;rcases h with h|⟨o,h⟩
   ·exact .inl (by rw[o2 a ha];exact h)
   ·exact .inr ⟨o,by rw[o2 a ha];exact h⟩
  ·exact .inr h
theorem Bj{X:L2.Cx}(i:Nat){e:Expr}{f:Ex}(h:XE X e f):XE X e (lC i f):=⟨have h:=h.out;by
 intro pins s σ H Q I ⟨ρ,F,d,hr,e,q⟩;unfold lC at e;split at e
 ·rename_i t q1
  obtain⟨d',ed,e⟩:=ao.mp e;by_cases hf:PL.gc d'=true
  ·rw[u9 hf]at e
   cases e;obtain⟨⟨w,as,ew,tr,nd⟩,_,_⟩:=hr.on i _ q1;obtain⟨H',I',hH,hz⟩:=az.frz I tr nd;obtain⟨mv,rs⟩:=hr.bK q1 ew tr hH hz;refine L2.aL (h pins s σ _ _ I' ⟨_,_,_,rs,ed,λv H1 s1 rv=>(⟨s1,rv⟩:ah H' H1/\Rep (aD X) H1 (λb=>F b/\b∉as) d v)⟩) λu s1 ⟨x,H1,I1,rx,sm,rv⟩=>?_;obtain⟨H2,I2,s2,_,_,_,tp⟩:=pO (M:=aD X) (F:=F) I nd hH hz I1 sm;exact⟨x,H2,I2,rx,q _ _ s2 (Rep.ft tp hf rv)⟩
  ·rw[Da hf]at e;cases e
 ·cases e⟩
theorem rZ{X:L2.Cx}(i:Nat){e:Expr}{f:aY}(h:XT X e f):XT X e (gp i f):=⟨have h:=h.out;by
 intro pins s σ H Q I ⟨ρ,F,d,hr,e,q⟩;unfold gp at e;split at e
 ·rename_i t q1
  obtain⟨⟨w,as,ew,tr,nd⟩,_,_⟩:=hr.on i _ q1;obtain⟨H',I',hH,hz⟩:=az.frz I tr nd;obtain⟨mv,rs⟩:=hr.bK q1 ew tr hH hz;refine L2.aL (h pins s σ _ (λb H1=>b=d/\ah H' H1) I' ⟨_,_,_,rs,e,λH1 s1=>⟨rfl,s1⟩⟩) λb s1 ⟨H1,I1,hb,sm⟩=>?_;subst hb;obtain⟨H2,I2,s2,_,_,_,tp⟩:=pO (M:=aD X) (F:=F) I nd hH hz I1 sm;exact⟨H2,I2,q _ s2⟩
 ·cases e⟩
theorem z5{X:L2.Cx}(i:Nat){e:Expr}{f:Ex}(h:XF X e f):XF X e (cS i f):=⟨have h:=h.out;by
 intro pins s σ H Q I ⟨ρ,F,ds,hr,e,q⟩;unfold cS at e;split at e
 ·rename_i t q1
  obtain⟨d',ed,e⟩:=ao.mp e;split at e
  ·rename_i OW
   by_cases hf:PL.fB OW=true
   ·rw[u9 hf]at e
    cases e;obtain⟨⟨w,as,ew,tr,nd⟩,_,_⟩:=hr.on i _ q1;obtain⟨H',I',hH,hz⟩:=az.frz I tr nd;obtain⟨mv,rs⟩:=hr.bK q1 ew tr hH hz;refine L2.aL (h pins s σ _ (λv H9=>∃p H1 xs,v=.ref p/\H9=upd H1 p (.lst xs)/\ah H' H1/\H1 p=none/\ae (aD X) H1 (λb=>F b/\b∉as) ds xs) I' ⟨_,_,_,rs,ed,λp H1 xs s1 hp rv=>⟨p,H1,xs,rfl,rfl,s1,hp,rv⟩⟩) λu s1 ⟨x,H9,I1,rx,p,H1,xs,ex,eH,sm,hp,rv⟩=>?_;subst ex eH;obtain⟨H2,I2,s2,o2,a2,t2,tp⟩:=pO (M:=aD X) (F:=F) I nd hH hz I1 (sm.trans (ah.bZ hp _))
    have Nw:p∉as:=λhb=>by
     rcases hz p hb with⟨h1,ys,h2,_⟩|⟨ob,kvs,h1,h2⟩
     ·rw[sm _ _ (h1.trans h2)]at hp;cases hp
     ·rw[sm _ _ h2]at hp;cases hp
    have e2:H2=upd (λb=>if b=p then none else H2 b) p (.lst xs):=by
     funext b;unfold upd;by_cases hb:b=p
     ·simp only[u9 hb];rw[hb,o2 p Nw,L2.aV]
     ·simp only[Da hb]
    rw[e2]at I2;refine⟨.ref p,_,I2,rx,q p _ xs (λb o e=>?_) (by simp) (ae.ft (λa ys ht=>?_) hf (rv.mv (F':=λb=>F b/\b∉as) (.same (ah.bZ hp (.lst xs)))))⟩
    ·have hb:b≠p:=λz=>by subst z;have:=hH b Nw;rw[e]at this;rw[sm _ _ this]at hp;cases hp
     simp only[Da hb];exact s2 _ _ e
    ·have Pp:=tp a ys ht
     have RN:¬F a->Rd H2 a (.tup ys)->Rd (λb=>if b=p then none else H2 b) a (.tup ys):=λn h=>by
      have ha:a≠p:=λz=>by
       subst z;rw[e2]at h;rcases h with h|⟨o,h⟩
       ·rw[L2.aV]at h;cases h
       ·rw[L2.aV]at h;cases h
      rcases h with h|⟨o,h⟩
      ·exact .inl (by simp only[Da ha];exact h)
      ·exact .inr ⟨o,by simp only[Da ha];exact h⟩
     rcases Pp with⟨n,h⟩|h
     ·exact .inl ⟨n,RN n h⟩
     ·exact .inr h
   ·rw[Da hf]at e;cases e
  ·cases e
 ·cases e⟩
noncomputable def cB(z:Ky):List Ky->Option Nat
 |[]=>none
 |a::ks=>if a=z then some 0 else(cB z ks).map (· +1)
noncomputable def stepT:T->D->Option Nat
 |.n .l ts,.int k=>cI ts.length k
 |.n .u ts,.int k=>cI ts.length k
 | .n (.m ks) _,x=>match keyOf x with
  |some z=>cB z ks
  |none=>none
 |_,_=>none
noncomputable def pX(i:Nat)(f:Pt)(e:Ex):Pt:=λρ=>(f ρ).bind λp=>(e ρ).bind λx=>match ρ[i]? with
 | some (.on (.tr t))=>match T.at t p with
  | some n=>match stepT n x with
   |some m=>.ok (p++[m])
   |none=>.bad
  |none=>.bad
 |_=>.bad
noncomputable def pA(i j:Nat):Pt:=λρ=>match ρ[j]? with
 |some (.on (.al k p))=>if k=i then .ok p else .bad
 |_=>.bad
noncomputable def eU(z:Ky)(u:T)(ks:List Ky)(ts:List T):List Ky×List T:=if(ks.any λa=>decide (a=z))=true then(ks,List.zipWith (λa t=>if a=z then u else t) ks ts)else(ks++[z],ts++[u])
noncomputable def bP(i:Nat)(f:Pt)(k e:Ex):Sm:=λρ=>(e ρ).bind λd=>(f ρ).bind λp=>(k ρ).bind λq=>match ρ[i]?,keyOf q with
 | some (.on (.tr t)),some z=>match T.at t p with
  |some (.n (.m ks) ts)=>if ks.length<1000 then .ok (.next ((b9 i p ρ).set i (.on (.tr (T.put (.m (eU z (.d d) ks ts).1 (eU z (.d d) ks ts).2) t p)))))else .bad
  |_=>.bad
 |_,_=>.bad
noncomputable def cZ(i:Nat)(f:Pt)(k e:Ex):Sm:=λρ=>(e ρ).bind λd=>(f ρ).bind λp=>(k ρ).bind λq=>match ρ[i]?,q with
 | some (.on (.tr t)),.int j=>match T.at t p with
  | some (.n .l ts)=>match cI ts.length j with
   |some m=>.ok (.next ((b9 i p ρ).set i (.on (.tr (T.put (.l (ts.set m (.d d))) t p)))))
   |none=>.bad
  |_=>.bad
 |_,_=>.bad
def FI:R2:=λx y H Q=>∃p kvs k v,x=.ref p/\y=L2.kV k/\Rd H p (.dK kvs)/\L2.da kvs k=some v/\Q v H
theorem sH:L2.fR X (λx y H Q=>L2.rL X.K x y H Q\/FI x y H Q):=by
 refine L2.fR.or L2.xH ?_;intro value slice pins s σ H x y v u Q I rx ry h hs;obtain⟨p,kvs,k,w,rfl,rfl,hd,hv,q⟩:=h;cases rx;obtain⟨z,MP,vs,rel,dd⟩:=L2.pD I.aK hd;have r:=L2.KV.val rel k;rw[hv]at r;obtain⟨w',hw,L0⟩:=L2.fq.some_of r;exact Yp dd.typeIs X4.lookup (wpAny_getItem_of (L2.gD ry) dd.mapOf hw ⟨w,H,I.tok _,L0,q⟩) hs
theorem kR{z:Ky}:∀ {ks:List Ky} {xs:List V} {m:Nat},ks.length=xs.length->cB z ks=some m->∃x,xs[m]? =some x/\L2.da (ks.zip xs) z=some x
 |[],_,_,_,h=>by cases h
 |a::ks,[],_,l,_=>by simp at l
 | a::ks,x::xs,m,l,h=>by
  unfold cB at h;unfold L2.da;rw[V7,V2];by_cases hz:a=z
  ·rw[u9 hz]at h
   cases h;exact⟨x,rfl,by simp[hz]⟩
  ·rw[Da hz]at h
   cases e:cB z ks with
   |none=>rw[e]at h;cases h
   | some j=>
    rw[e]at h;cases h;obtain⟨y,h1,h2⟩:=kR (xs:=xs) (by simpa using l) e
    refine⟨y,by simpa using h1,?_⟩
    simp only[JU hz];exact h2
theorem iV{X:L2.Cx}{pos:Pos}(i:Nat)(j:Nat){x:Str}(hN:X.N[j]? =some x:=by rfl)(hv:L2.dS X.env.scope x:=by exact Or.inl rfl)(hd:gV x:=by decide)(L4:TY x:=by decide):XL X i (.Name x pos) (pA i j):=⟨ bo (L2.pv j hN hv hd L4) λσ H Q=>by
  rintro⟨ρ,F,t,w,p,t1,r,e1,e2,ef,O2,q⟩
  unfold pA at ef;split at ef
  ·rename_i k p' h1
   by_cases hk:k=i
   ·rw[u9 hk]at ef
    cases ef;subst hk;obtain⟨v,w1,t2,a1,a2,a3,_⟩:=(r.on j _ h1).1 t e1;rw[e2]at a1;cases a1;have:=a3.ox;rw[O2]at this;cases this;exact⟨w1,a2,q w1 H (ah.refl _) a3⟩
   ·rw[Da hk]at ef;cases ef
  ·cases ef⟩
theorem bq{X:L2.Cx}{pos:Pos}{i:Nat}{a b:Expr}{f:Pt}{fb:Ex}(ha:XL X i a f)(hb:XE X b fb)(hs:L2.mj b:=by exact uz (by rfl)):XL X i (.Subscript a b pos) (pX i f fb):=⟨have ha:=ha.out;have hb:=hb.out;bo (L2.mQ sH ha hb hs) λσ H Q=>by
  rintro⟨ρ,F,t,w,p',t1,r,e1,e2,ef,O2,q⟩
  obtain⟨p,ep,ef⟩:=ao.mp ef;obtain⟨x,ex,ef⟩:=ao.mp ef;rw[e1]at ef;have ef:(match T.at t p with|some n=>(match stepT n x with|some m=>R.ok (p++[m])|none=>.bad)|none=>.bad)=.ok p':=ef
  cases L5:T.at t p with
  |none=>rw[L5]at ef;cases ef
  | some n=>
   rw[L5]at ef;have ef:(match stepT n x with|some m=>R.ok (p++[m])|none=>.bad)=.ok p':=ef
   cases hm:stepT n x with
   |none=>rw[hm]at ef;cases ef
   | some m=>
    rw[hm]at ef;cases ef;refine⟨ρ,F,t,w,p,n,r,e1,e2,ep,L5,λv H1 s1 OG=>⟨ρ,F,x,r.same s1,ex,λy H2 s2 ry=>?_⟩⟩;have r2:=(r.same s1).same s2;obtain⟨⟨w',as,ew,tr,nd⟩,_,_⟩:=r2.on i _ e1;rw[e2]at ew;cases ew;have at2:=OG.same (r.same s1) e1 e2 s2;obtain⟨bs,tp,_⟩:=aC.part tr at2;have h1:=O2;rw[T.yl L5]at h1;cases n using T.cs with
    |d _=>cases x<;>cases hm
    |mx _ _=>cases x<;>cases hm
    | l ts=>
     cases x with
     | int k=>
      simp only[bE,bF,bD,bI]at tp;obtain⟨a,xs,cs,rfl,rfl,fa,ha,LP⟩:=tp;rw[T.Cn]at h1;have hlen:=LP.len
      have hx:∃x1,xs[m]? =some x1:=by
       obtain⟨hl,_⟩:=mO.mp h1;exact⟨xs[m]'(by omega),KF (by omega)⟩
      obtain⟨x1,hx⟩:=hx;have hm:cI ts.length k=some m:=hm;have h3:cM xs k=some x1:=by unfold cM;rw[<-hlen,hm];exact hx
      exact .inl (.inl ⟨a,xs,k,x1,rfl,bC ry,bt.of ha,h3,q x1 H2 (s1.trans s2) (aC.snoc (aC.JY ha h1 hx) at2)⟩)
     |_=>cases hm
    | tu ts=>
     cases x with
     | int k=>
      simp only[bE,bF,bD,bI]at tp;obtain⟨a,xs,rfl,fa,ha,LP⟩:=tp
      have h1:ts[m]? =some t1:=by
       unfold T.at at h1;cases e:ts[m]? with
       |none=>rw[e]at h1;cases h1
       |some u=>rw[e]at h1;cases u<;>exact h1
      have hlen:=LP.len
      have hx:∃x1,xs[m]? =some x1:=by
       obtain⟨hl,_⟩:=mO.mp h1;exact⟨xs[m]'(by omega),KF (by omega)⟩
      obtain⟨x1,hx⟩:=hx;have hm:cI ts.length k=some m:=hm;have h3:cM xs k=some x1:=by unfold cM;rw[<-hlen,hm];exact hx
      exact .inl (.inr (.inl ⟨a,xs,k,x1,rfl,bC ry,.inl (.inl ha),h3,q x1 H2 (s1.trans s2) (aC.snoc (aC.IG ha h1 hx) at2)⟩))
     |_=>cases hm
    | m ks ts=>
     have hm:(match keyOf x with|some z=>cB z ks|none=>none)=some m:=by cases x<;>exact hm
     cases hz:keyOf x with
     |none=>rw[hz]at hm;cases hm
     | some z=>
      rw[hz]at hm;have hm:cB z ks=some m:=hm;simp only[bE,bF,bD,bI]at tp;obtain⟨a,xs,cs,rfl,rfl,fa,ha,hl,LP⟩:=tp
      have h1:ts[m]? =some t1:=by
       unfold T.at at h1;cases e:ts[m]? with
       |none=>rw[e]at h1;cases h1
       |some u=>rw[e]at h1;cases u<;>exact h1
      obtain⟨x1,hx,hv⟩:=kR hl hm;exact .inr ⟨a,_,z,x1,rfl,dH hz ry,.inl ha,hv,q x1 H2 (s1.trans s2) (aC.snoc (aC.uG ha hl h1 hx) at2)⟩⟩
theorem cW.of{n0 n1:T}{c:Addr}{cs LL:Y3}{o:HO}(h0:az M H F n0 (.ref c) (c::cs))(nd:(c::cs).Nodup)(sub:LL.Sublist cs)(h1:az M (upd H c o) F n1 (.ref c) (c::LL)):cW M H (upd H c o) F F c n0 n1 (c::cs) (c::LL):=
 have s2:(c::LL).Sublist (c::cs):=List.Sublist.cons₂ c sub
 ⟨h0,v3,h1,nd.sublist s2,λb u n e=>by rw[L2.aE n];exact e,λb=>⟨.inl,λh=>h.elim id λhb=>(h0.fs b (s2.subset hb)).1⟩,λb hb=>.inl (s2.subset hb)⟩
theorem ak.vB{d:D}{v:V}(rd:Rep M H F d v):∀ {m:Nat} {ts:List T} {xs:List V} {as:Y3},ak M H F ts xs as->∃Lv,ak M H F (ts.set m (.d d)) (xs.set m v) Lv/\Lv.Sublist as
 | m,[],xs,as,h=>by
  simp only[ak]at h;obtain⟨rfl,rfl⟩:=h;exact⟨[],by simp[ak],SZ _⟩
 | 0,t::ts,xs,as,h=>by
  simp only[ak]at h;obtain⟨x,r,bs,cs,rfl,rfl,h1,h2⟩:=h;refine⟨cs,?_,Wa _ _⟩;rw[W0,W0];simp only[ak,bE,bF,bD,bI];exact⟨v,r,[],cs,rfl,rfl,⟨rfl,rd⟩,h2⟩
 | m+1,t::ts,xs,as,h=>by
  simp only[ak]at h;obtain⟨x,r,bs,cs,rfl,rfl,h1,h2⟩:=h;obtain⟨LL,k1,k2⟩:=ak.vB rd (m:=m) h2;refine⟨bs++LL,?_,WV (SZ _) k2⟩;rw[W1,W1];simp only[ak];exact⟨x,_,bs,LL,rfl,rfl,h1,k1⟩
theorem ak.yN{d:D}{v:V}{z:Ky}(rd:Rep M H F d v):∀ {ks:List Ky} {ts:List T} {xs:List V} {as:Y3},ak M H F ts xs as->∃Lv,ak M H F (List.zipWith (λa t=>if a=z then T.d d else t) ks ts) (List.zipWith (λa x=>if a=z then v else x) ks xs) Lv/\Lv.Sublist as
 |[],ts,xs,as,h=>⟨[],by simp[ak],XB _⟩
 | a::ks,[],xs,as,h=>by
  simp only[ak]at h;obtain⟨rfl,rfl⟩:=h;exact⟨[],by simp[ak],SZ _⟩
 | a::ks,t::ts,xs,as,h=>by
  simp only[ak]at h;obtain⟨x,r,bs,cs,rfl,rfl,h1,h2⟩:=h;obtain⟨LL,k1,k2⟩:=ak.yN (z:=z) rd (ks:=ks) h2;rw[Wj,Wj];by_cases hz:a=z
  ·refine⟨LL,?_,k2.trans (Wa _ _)⟩
   rw[u9 hz,u9 hz];simp only[ak,bE,bF,bD,bI];exact⟨v,_,[],LL,rfl,rfl,⟨rfl,rd⟩,k1⟩
  ·refine⟨bs++LL,?_,WV (SZ _) k2⟩
   rw[Da hz,Da hz];simp only[ak];exact⟨x,_,bs,LL,rfl,rfl,h1,k1⟩
theorem dh{X:L2.Cx}{pos:Pos}(i:Nat){o e k:Expr}{f:Pt}{g h:Ex}{p3:Pos}(hu:X.A.units+64<cLine)(ho:XL X i o f)(hk:XE X k g)(he:XE X e h)(hs:swapsWith e (some (.Subscript o k p3)) pos.line X.env=pure false:=by exact d5 (by rfl)):XS X (.Assign [.Subscript o k p3] e pos) (bP i f g h):=⟨have ho:=ho.out;have hk:=hk.out;have he:=he.out;λF0=>
 cw (L2.pf (by omega) ho hk he hs) λD σ H=>by
  rintro⟨ρ,F,fl,r,e,q⟩
  obtain⟨d,ed,e⟩:=ao.mp e;obtain⟨p,ep,e⟩:=ao.mp e;obtain⟨y,ey,e⟩:=ao.mp e;split at e
  ·rename_i t z q1 hz
   split at e
   ·rename_i ks ts L5
    split at e
    ·rename_i Mp
     cases e;obtain⟨⟨w,as,ew,tr,nd⟩,_,_⟩:=r.rs.on i _ q1;refine⟨ρ,F,d,r.rs,ed,λv H1 s1 rv=>⟨ρ,F,t,w,p,_,(r.same s1).rs,q1,ew,ep,L5,λv0 H2 s2 at2=>⟨ρ,F,y,((r.same s1).same s2).rs,ey,λw2 H3 s3 L0=>?_⟩⟩⟩;have r2:=(r.same s1).same s2;have r3:=r2.same s3;have ME:=at2.same r2.rs q1 ew s3;obtain⟨⟨w',Lv,MR,L3,Mm⟩,_,_⟩:=r3.rs.on i _ q1;rw[ew]at MR;cases MR;obtain⟨bs,tp,sub⟩:=aC.part L3 ME;have M3:=tp;simp only[bE,bF,bD,bI]at tp;obtain⟨a,xs,cs,rfl,rfl,fa,ha,hl,LP⟩:=tp;have Ms:=Mm.sublist sub;have MN:=GM.mp Ms;cases dH hz L0;have PB:=rv.mv (M:=aD X) (F':=F) (.same (s2.trans s3))
     have NZ:(ks.zip xs).length<sizeLine:=by
      have:(sizeLine:Nat)=16777216:=V3;rw[On];omega
     refine⟨a,_,rfl,L2.jH.k ha NZ,?_⟩;rw[jl z v hl];have NO:∀o:HO,Mv F H3 F (upd H3 a o):=λo b u n e=>⟨n,by rw[L2.aE (λz=>by subst z;exact n fa)];exact e⟩
     have kp:∀(o:HO) {LL:Y3},LL.Sublist cs->∀b∈LL,∀u,F b->H3 b=some u->F b/\upd H3 a o b=some u:=λo LL hs b hb u f hu=>⟨f,by rw[L2.aE (λz=>by subst z;exact MN.1 (hs.subset hb))];exact hu⟩
     unfold eU at q;by_cases hm:(ks.any λa=>decide (a=z))=true
     ·rw[u9 hm]at q ⊢
      obtain⟨LL,k1,k2⟩:=ak.yN (z:=z) PB (ks:=ks) LP
      obtain⟨mv,r'⟩:=r3.ir (H2:=upd H3 a (.dK (ks.zip (List.zipWith (λa x=>if a=z then v else x) ks xs)))) (F2:=F) (n1:=.m ks (List.zipWith (λa t=>if a=z then T.d d else t) ks ts)) q1 ew ME (cW.of M3 Ms k2 (by
       simp only[bE,bF,bD,bI];exact⟨a,_,LL,rfl,rfl,fa,L2.aV,by rw[Xk];omega,k1.mv (NO _) (kp _ k2)⟩)) rfl
      exact q _ _ _ (Mv.trans (.same (s1.trans (s2.trans s3))) mv) r'
     ·rw[Da hm]at q ⊢
      obtain⟨mv,r'⟩:=r3.ir (H2:=upd H3 a (.dK ((ks++[z]).zip (xs++[v])))) (F2:=F) (n1:=.m (ks++[z]) (ts++[T.d d])) q1 ew ME (cW.of M3 Ms (SZ _) (by
       simp only[bE,bF,bD,bI];refine⟨a,_,cs,rfl,rfl,fa,L2.aV,by rw[JK,JK,hl];rfl,?_⟩
       have:=ak.append (LP.mv (NO (.dK ((ks++[z]).zip (xs++[v])))) (kp _ (SZ _))) (mF (vs:=[d]) (xs:=[v]) (as:=[]) |>.mpr ⟨rfl,ae.cons (PB.mv (NO _)) ae.nil⟩);simpa using this)) rfl
      exact q _ _ _ (Mv.trans (.same (s1.trans (s2.trans s3))) mv) r'
    ·cases e
   ·cases e
  ·cases e⟩
theorem iY{X:L2.Cx}{pos:Pos}(i:Nat){o e k:Expr}{f:Pt}{g h:Ex}{p3:Pos}(ho:XL X i o f)(he:XE X e h)(hk:XE X k g)(ha:eV X.env o k p3)(hs:swapsWithSole [.Subscript o k p3] e pos.line X.env=pure false:=by exact rm (by rfl))(hw:swappedStores [.Subscript o k p3] e X.env=pure none:=by exact uT (by rfl))(h1:(assignEach [.Subscript o k p3] X.env).map (·.2)=[assign (.Subscript o k p3) X.env]:=by exact mR (by rfl)):XS X (.Assign [.Subscript o k p3] e pos) (cZ i f g h):=⟨have ho:=ho.out;have he:=he.out;have hk:=hk.out;λF0=>
 cw (L2.qA he (L2.vY ho hk L2.set_list ha) hs hw h1) λD σ H=>by
  rintro⟨ρ,F,fl,r,e,q⟩
  obtain⟨d,ed,e⟩:=ao.mp e;obtain⟨p,ep,e⟩:=ao.mp e;obtain⟨y,ey,e⟩:=ao.mp e;split at e
  ·rename_i t j q1
   split at e
   ·rename_i ts L5
    split at e
    ·rename_i m hm
     cases e;obtain⟨⟨w,as,ew,tr,nd⟩,_,_⟩:=r.rs.on i _ q1;refine⟨ρ,F,d,r.rs,ed,λv H1 s1 rv=>⟨ρ,F,t,w,p,_,(r.same s1).rs,q1,ew,ep,L5,λv0 H2 s2 at2=>⟨ρ,F,_,((r.same s1).same s2).rs,ey,λw2 H3 s3 L0=>?_⟩⟩⟩;have r2:=(r.same s1).same s2;have r3:=r2.same s3;have ME:=at2.same r2.rs q1 ew s3;obtain⟨⟨w',Lv,MR,L3,Mm⟩,_,_⟩:=r3.rs.on i _ q1;rw[ew]at MR;cases MR;obtain⟨bs,tp,sub⟩:=aC.part L3 ME;have M3:=tp;simp only[bE,bF,bD,bI]at tp;obtain⟨a,xs,cs,rfl,rfl,fa,ha,LP⟩:=tp;have Ms:=Mm.sublist sub;have MN:=GM.mp Ms;have PB:=rv.mv (M:=aD X) (F':=F) (.same (s2.trans s3));refine⟨a,xs,j,m,rfl,bC L0,ha,by rw[<-LP.len];exact hm,?_⟩
     have NO:∀o:HO,Mv F H3 F (upd H3 a o):=λo b u n e=>⟨n,by rw[L2.aE (λz=>by subst z;exact n fa)];exact e⟩
     obtain⟨LL,k1,k2⟩:=ak.vB PB (m:=m) LP
     obtain⟨mv,r'⟩:=r3.ir (H2:=upd H3 a (.lst (xs.set m v))) (F2:=F) (n1:=.l (ts.set m (T.d d))) q1 ew ME (cW.of M3 Ms k2 (by
      simp only[bE,bF,bD,bI];exact⟨a,_,LL,rfl,rfl,fa,L2.aV,k1.mv (NO _) λb hb u f hu=>⟨f,by rw[L2.aE (λz=>by subst z;exact MN.1 (k2.subset hb))];exact hu⟩⟩)) rfl
     exact q _ _ _ (Mv.trans (.same (s1.trans (s2.trans s3))) mv) r'
    ·cases e
   ·cases e
  ·cases e⟩
noncomputable def kN:D->R D
 |.ai ks vs=>.ok (.ai ks vs)
 |_=>.bad
theorem C6:bM X (.type "dict") (λxs H Q=>∃F p kvs,xs=[.ref p]/\eN (aD X) H F p kvs/\∀l,H l=none->Q (.ref l) (upd H l (.dK kvs))):=by
 intro pins s σ H xs us Q I r h;obtain⟨F,p,kvs,rfl,hd,q⟩:=h;obtain⟨u,rfl,ru⟩:=L2.vals1 r;cases ru;obtain⟨z,MP,vs,rel,dd⟩:=i9 I hd;have hl:=fO rel;refine kt_call_dict (knd:=L2.bz X.prog X.w) MP dd (by omega) λh' d1 sb=>?_
 have keep:∀b o,s.heap.get? b=some o->h'.get? b=some o:=λb o e=>by
  rw[sb.2 b (Pi (GE e))];exact cp _ e
 exact⟨.ref _,_,I.laid (a:=s.heap.objs.size) (o:=.dK kvs) (t':=s.toks) keep (Fk _) (L2.jm z (WT.mpr (Os (Pi I.big))) rel d1),rfl,q _ (I.aK.fresh (Fk _))⟩
theorem qC{X:L2.Cx}{pos:Pos}{a:Expr}{fa:Ex}{p:Pos}(hm:X.mg "dict"=none)(ha:XE X a fa)(hg:L2.Gl X "dict":=by rfl)(hs:starEach [a] X.env=(false,eval a X.env)::starEach [] X.env:=by exact bw (by rfl)):XD X (.Call (.Name "dict" p) [a] [] pos) (e1 kN fa):=⟨have ha:=ha.out;bo (L2.lK C6 hg hm lI (eO ha gh hs) (by decide) (by decide) hs) λσ H Q=>by
  rintro⟨ρ,F,ks,ds,hr,e,q⟩
  obtain⟨d1,ed,e⟩:=ao.mp e;refine⟨ρ,F,[d1],hr,by show(fa ρ).bind _=_;rw[ed];rfl,λvs H1 s1 rv=>?_⟩
  obtain⟨y,rfl,ry⟩:=rv.one;unfold kN at e;split at e
  ·cases e
   simp only[Rep]at ry;obtain⟨a,xs,rfl,h1,hl,rs⟩:=ry;exact⟨F,a,_,rfl,h1,λl hn=>q l H1 xs s1 hn hl rs⟩
  ·cases e⟩
theorem eN.ne{a b:Addr}{kvs more:List (Key×V)}(I:Inv X pins σ H s)(ha:H a=some (.dK kvs))(hb:eN (aD X) H F b more):a≠b:=by
 rintro rfl;rcases hb with⟨_,ob,hb⟩|⟨o,es,ep,vs,hk,_⟩
 ·rw[ha]at hb;cases hb
 ·have:=(I.bs a o (I.mod.mX a o hk)).2
  rw[ha]at this;cases this
def HM(M:Md):V->List V->Hp->VK->Prop:=λx vs H Q=>∃F a b kvs more,x=.ref a/\vs=[.ref b]/\H a=some (.dK kvs)/\eN M H F b more/\kvs.length+more.length<=1000/\Q .aj (upd H a (.dK (L2.dk kvs more)))
theorem Il:L2.uq X "dict.update" (HM (aD X)):=by
 intro pins s σ H x vs v us Q I rx rv h;obtain⟨F,a,b,kvs,more,rfl,rfl,ha,hb,hz,q⟩:=h;cases rx;obtain⟨u,rfl,ru⟩:=rv.one;cases ru;obtain⟨z,MP,ws,rel,dd⟩:=L2.mG I.aK ha;obtain⟨z2,PV,UG,QF,QY⟩:=i9 I hb;have h3:(sizeLine:Nat)=16777216:=V3;refine WC X8 dd.typeIs PySem.F.entry_dict_update (PySem.F.args_dict_update_2 _ _) (meets_dict_update (L2.bz X.prog X.w) a b (eN.ne I ha hb) PV) ⟨ws,UG,dd,QY,by rw[<-rel.length, <-QF.length];omega,λh' d1 d2 hs=>?_⟩
 have he:∃q,h'.get? a=some q:=let⟨q,_,_,hq,_⟩:=d1;⟨q,hq⟩
 have hl:(L2.dk kvs more).length<=sizeLine:=by have:=L2.qt more kvs;omega
 exact⟨.aj,_,L2.kj I (by rw[ha];exact True.intro) hs he (L2.jm hl MP (QF.merge rel) d1),rfl,q⟩
theorem BR{X:L2.Cx}{pos:Pos}(i:Nat){x:Str}{e:Expr}{f:Ex}{p2 apos B':Pos}(he:XE X e f)(hN:X.N[i]? =some x:=by rfl)(hv:L2.dS X.env.scope x:=by exact Or.inl rfl)(hd:gV x:=by decide)(L4:TY x:=by decide)(Lz:attributeBase (.Name x p2) "update" X.env (eval (.Name x p2) X.env)=eval (.Name x p2) X.env:=by exact oF)(ND:((backTo B' (starEach [e] X.env)).all (λx=> !x.1)&&(backToKw B' (keywordEach [] X.env)).all (λx=>x.1.isSome)&&decide (([e]:Y4).length+([]:List Keyword).length+(if([]:List Keyword).isEmpty then 0 else 1)<30))=true:=by exact rR (by rfl) (by decide))(LA:(apos.endLine==B'.line)=true:=by rfl)(hs:starEach [e] X.env=(false,eval e X.env)::starEach [] X.env:=by exact bw (by rfl))(MJ:swapsWith (.Call (.Attribute (.Name x p2) "update" apos) [e] [] B') none pos.line X.env=pure false:=by exact d5 (by rfl)):XS X (.Expr (.Call (.Attribute (.Name x p2) "update" apos) [e] [] B') pos) (AY i f):=⟨have he:=he.out;λF0=>
 cw (L2.jg (L2.tE S7 X8 PySem.F.type_dict_update Il (L2.pv i hN hv hd L4) (eO he gh hs) Lz ND LA hs) MJ) λD σ H=>by
  rintro⟨ρ,F,fl,r,e,q⟩
  obtain⟨d,ed,e⟩:=ao.mp e;split at e
  ·rename_i ks vs as bs q1
   split at e
   ·rename_i Mp
    cases e;have oi:bu ρ i:=.inr ⟨_,_,q1⟩;obtain⟨a,xs,ea,fa,ha,hl,rs⟩:=r.rs.od i _ _ q1;refine⟨_,ea,.inr (.inr (.inl ⟨rfl,.inl ⟨_,ha⟩⟩)),ρ,F,[.ai ks vs],r.rs,by show(f ρ).bind _=_;rw[ed];rfl,λus H1 s1 rv=>?_⟩
    obtain⟨y,rfl,ry⟩:=rv.one;simp only[Rep]at ry;obtain⟨b,ys,rfl,h1,TX,ry⟩:=ry;have r1:=r.same s1;have Pc:=s1 _ _ ha;obtain⟨zs,e1,l1,PZ⟩:=xu (M:=aD X) (H:=H1) (F:=F) TX ry hl (rs.mv (.same s1));refine⟨F,a,b,_,_,rfl,rfl,Pc,h1,by rw[On,On];omega,?_⟩
    rw[e1];obtain⟨mv,r'⟩:=r1.chg (s:=.od (g9 ks vs as bs).1 (g9 ks vs as bs).2) oi ea (.inr ⟨_,_,zs,rfl,rfl,l1,PZ⟩);exact q _ _ _ (Mv.trans (.same s1) mv) r'
   ·cases e
  ·cases e⟩
noncomputable def qo:List (Ex×Xt)->En->R (List Ky×List T)
 |[],_=>.ok ([],[])
 | (fk,fv)::r,ρ=>(fk ρ).bind λq=>(fv ρ).bind λt=>match keyOf q with
  |some z=>(qo r ρ).bind λy=>.ok (z::y.1,t::y.2)
  |none=>.bad
noncomputable def rQ(Np:List (Ex×Xt)):Xt:=λρ=>(qo Np ρ).bind λy=>if y.1.Nodup then .ok (.m y.1 y.2)else .bad
def Fh(X:Cx)(pos:Pos)(keys:List (Option Expr))(values:Y4)(Np:List (Ex×Xt)):Prop:=
 ∃LP,L2.mM X pos keys values LP/\∀(F:Y8) (σ:L2.St) (H:Hp) (ρ:En) (ks:List Ky) (ts:List T) (Q:List (V×V)->Hp->Prop),a8 (aD X) H F σ ρ->qo Np ρ=.ok (ks,ts)->
  (∀xs H' F' as,ah H H'->(∀b∈as,H b=none)->as.Nodup->(∀b,F' b↔F b\/b∈as)->ks.length=xs.length->ak (aD X) H' F' ts xs as->Q ((ks.zip xs).map λkv=>(L2.kV kv.1,kv.2)) H')->L2.m7 LP σ H Q
structure oZ(X:Cx)(pos:Pos)(keys:List (Option Expr))(values:Y4)(Np:List (Ex×Xt)):Prop where
 out:Fh X pos keys values Np
theorem vV{X:L2.Cx}{pos:Pos}:oZ X pos [] [] []:=⟨ ⟨[],L2.tQ,λF σ H ρ ks ts Q r e q=>by
 cases e;exact q [] H F [] (ah.refl _) (λ_ hb=>nomatch hb) Wq (λb=>by simp) rfl (by rw[ak];exact⟨rfl,rfl⟩)⟩⟩
theorem f9{X:L2.Cx}{pos:Pos}{k v:Expr}{fk:Ex}{fv:Xt}{keys:List (Option Expr)}{values:Y4}{Np:List (Ex×Xt)}(hk:XE X k fk)(hv:XX X v fv)(hr:oZ X pos keys values Np):oZ X pos (some k::keys) (v::values) ((fk,fv)::Np):=⟨have hk:=hk.out;have hv:=hv.out;have hr:=hr.out;by
 obtain⟨LP,h,g⟩:=hr;refine⟨_,L2.sj hk hv h,λF σ H ρ ks ts Q r e q=>?_⟩;obtain⟨d,ed,e⟩:=ao.mp e;obtain⟨t,et,e⟩:=ao.mp e;cases hz:keyOf d with
 |none=>rw[hz]at e;cases e
 | some z=>
  rw[hz]at e;obtain⟨⟨ks',UU⟩,ey,e⟩:=ao.mp e;cases e;refine⟨ρ,F,d,r,ed,λx H1 s1 rx=>⟨ρ,F,t,r.same s1,et,λy H2 F2 as s2 hn nd hF tr=>?_⟩⟩;obtain⟨Tt,r2⟩:=(r.same s1).wide s2 hn hF (λb hb=>(tr.fs b hb).2);refine g F2 σ H2 ρ ks' UU _ r2 ey λxs H3 F3 bs s3 RQ Nk Rp hl LP=>?_
  have apart:∀a∈as,∀b∈bs,a≠b:=λa ha b hb z=>by
   subst z;obtain⟨_,u,hu⟩:=tr.fs a ha;rw[RQ a hb]at hu;cases hu
  have U6:Mv F2 H2 F3 H3:=λb o n e=>⟨λf=>((Rp b).mp f).elim n (λhb=>by rw[RQ b hb]at e;cases e),s3 _ _ e⟩
  cases dH hz rx;refine q (y::xs) H3 F3 (as++bs) (s1.trans (s2.trans s3)) (λb hb=>?_) (M0.mpr ⟨nd,Nk,apart⟩) (λb=>?_) (by simp[hl]) ?_
  ·rcases KM.mp hb with hb|hb
   ·exact s1.free (hn b hb)
   ·exact s1.free (s2.free (RQ b hb))
  ·rw[Rp b,hF b,KM,XY]
  ·simp only[ak]
   exact⟨y,xs,as,bs,rfl,rfl,tr.mv U6 λb hb u f hu=>⟨(Rp b).mpr (.inl f),s3 _ _ hu⟩,LP⟩⟩
theorem zp:∀ {Np:List (Ex×Xt)} {y:List Ky×List T},qo Np ρ=.ok y->y.1.length=Np.length
 |[],y,h=>by cases h;rfl
 | (fk,fv)::r,y,h=>by
  obtain⟨q,eq,h⟩:=ao.mp h;obtain⟨t,et,h⟩:=ao.mp h;split at h
  ·obtain⟨z,ez,h⟩:=ao.mp h
   cases h;simp[zp ez]
  ·cases h
theorem wt{X:L2.Cx}{pos:Pos}{keys:List (Option Expr)}{values:Y4}{Np:List (Ex×Xt)}(h:oZ X pos keys values Np)(Nx:keys.all (·.isSome)=true:=by rfl)(hl:keys.length=values.length:=by rfl)(h0:keys≠[]:=by simp)(Ql:keys.length<=15:=by decide)(hk:Np.length<=15:=by decide):XX X (.Dict keys values pos) (rQ Np):=⟨have h:=h.out;by
 obtain⟨LP,hp,g⟩:=h;refine bo (L2.vW hp Nx hl h0 Ql) λσ H Q ⟨ρ,F,t,hr,e,q⟩=>?_;obtain⟨⟨ks,ts⟩,ey,e⟩:=ao.mp e;by_cases NS:ks.Nodup
 ·rw[u9 NS]at e
  cases e;intro p hp;have PF:=hr.fresh (o:=.dK []) hp;refine g _ σ _ ρ ks ts _ PF ey λxs H2 F2 as s2 hn nd hF R6 rs=>?_;have e2:H2 p=some (.dK []):=s2 _ _ L2.aV
  have hm:L2.dk [] (ks.zip xs)=ks.zip xs:=by
   rw[rX (by simp only[WG,XO];rw[show(ks.zip xs).map (·.1)=ks from by rw[Wi];omega];exact NS)]
   rfl
  have VJ:ks.length=Np.length:=zp ey;refine⟨e2,ks.zip xs,rfl,by rw[On];omega,?_⟩
  rw[hm];have Nw:p∉as:=λhb=>by have:=hn p hb;rw[L2.aV]at this;cases this
  have sm:ah H (upd H2 p (.dK (ks.zip xs))):=λb u e=>by
   have ne:b≠p:=λz=>by subst z;rw[hp]at e;cases e
   rw[L2.aE ne];exact s2 _ _ (by rw[L2.aE ne];exact e)
  refine q _ _ F2 (p::as) sm (λb hb=>?_) (GM.mpr ⟨Nw,nd⟩) (λb=>?_) ?_
  ·rcases AC.mp hb with h9|h9
   ·rw[h9];exact hp
   ·have:=hn b h9
    have C':b≠p:=λz=>by rw[z]at h9;exact Nw h9
    rwa[L2.aE C']at this
  ·rw[hF b,AC,XY]
  ·simp only[bE,bF,bD,bI]
   have fp:F2 p:=(hF p).mpr (.inl (.inr rfl));exact⟨p,xs,as,rfl,rfl,fp,L2.aV,R6,rs.mv (λb o n e=>⟨n,by rw[L2.aE (λz=>by subst z;exact n fp)];exact e⟩) λb hb u f hu=>⟨f,by rw[L2.aE (λz=>by subst z;exact Nw hb)];exact hu⟩⟩
 ·rw[Da NS]at e;cases e⟩
noncomputable def js:List T->Option (List Ky×List T)
 |[]=>some ([],[])
 | .n .u [.d q,u]::r=>match keyOf q,js r with
  |some z,some y=>some (z::y.1,u::y.2)
  |_,_=>none
 |_=>none
noncomputable def uP(f:Xt):Xt:=λρ=>(f ρ).bind λt=>match t with
 | .n .l ps=>match js ps with
  |some y=>if y.1.Nodup/\y.1.length<=1000 then .ok (.m y.1 y.2)else .bad
  |none=>.bad
 |_=>.bad
theorem yG:∀ {ps:List T} {y:List Ky×List T} {vs:List V} {as:Y3},js ps=some y->ak M H F ps vs as->∃xs,y.1.length=xs.length/\ku M H F vs (y.1.zip xs)/\ak M H F y.2 xs as
 | [],y,vs,as,h,tr=>by
  cases h;simp only[ak]at tr;obtain⟨rfl,rfl⟩:=tr;exact⟨[],rfl,True.intro,by rw[ak];exact⟨rfl,rfl⟩⟩
 | t::ps,y,vs,as,h,tr=>by
  unfold js at h;split at h
  ·rename_i h0;cases h0
  ·rename_i q u r h0
   cases h0;cases hz:keyOf q with
   |none=>rw[hz]at h;cases h
   | some z=>
    rw[hz]at h;cases hr:js ps with
    |none=>rw[hr]at h;cases h
    | some y'=>
     rw[hr]at h;cases h;simp only[ak]at tr;obtain⟨x,r,bs,cs,rfl,rfl,h1,h2⟩:=tr;obtain⟨xs,l,k1,k2⟩:=yG hr h2;simp only[bE,bF,bD,bI,ak]at h1;obtain⟨a,ys,rfl,nf,ha,x1,r1,b1,c1,rfl,rfl,⟨rfl,rq⟩,x2,r2,b2,c2,rfl,rfl,hu,rfl,rfl⟩:=h1;cases dH hz rq;refine⟨x2::xs,by simp[l],⟨⟨a,rfl,.inl ⟨nf,.inl ha⟩⟩,k1⟩,?_⟩
     simp only[ak];refine⟨x2,xs,b2,cs,rfl,by simp,hu,k2⟩
  ·cases h
theorem Hg{X:L2.Cx}{pos:Pos}{a:Expr}{f:Xt}{p:Pos}(hm:X.mg "dict"=none)(ha:XX X a f)(hc:X.calm=true:=by rfl)(hg:L2.Gl X "dict":=by rfl)(hs:starEach [a] X.env=(false,eval a X.env)::starEach [] X.env:=by exact bw (by rfl)):XX X (.Call (.Name "dict" p) [a] [] pos) (uP f):=⟨have ha:=ha.out;bo (L2.lK (yk hc) hg hm lI (L2.gj ha L2.jJ hs) (by decide) (by decide) hs) λσ H Q=>by
  rintro⟨ρ,F,t,hr,e,q⟩
  obtain⟨t1,et,e⟩:=ao.mp e;refine⟨ρ,F,t1,hr,et,λv H1 F1 as s1 hn nd hF tr=>?_⟩;split at e
  ·rename_i ps
   split at e
   ·rename_i y hy
    by_cases NS:y.1.Nodup/\y.1.length<=1000
    ·rw[u9 NS]at e
     cases e;simp only[bE,bF,bD,bI]at tr;obtain⟨l,vs,bs,rfl,rfl,fl,hl,LP⟩:=tr;have LF:=GM.mp nd;obtain⟨xs,lx,k1,k2⟩:=yG hy LP
     have hm:L2.dk [] (y.1.zip xs)=y.1.zip xs:=by
      rw[rX (by simp only[WG,XO];rw[show(y.1.zip xs).map (·.1)=y.1 from by rw[Wi];omega];exact NS.1)]
      rfl
     have Nr:Mv F1 H1 (λb=>F1 b/\b≠l) H1:=λb o n e=>⟨λh=>n h.1,e⟩
     have U2:∀ {ws:List V} {more:List (Key×V)},ku (aD X) H1 F1 ws more->ku (aD X) H1 (λb=>F1 b/\b≠l) ws more:=by
      intro ws
      induction ws with
      | nil=>intro more h;cases more with
       |nil=>exact h
       |cons _ _=>exact h.elim
      | cons w ws ih=>intro more h;cases more with
       |nil=>exact h.elim
       | cons p more=>
        obtain⟨⟨a,e1,e2⟩,h⟩:=h;exact⟨⟨a,e1,e2.mv Nr⟩,ih h⟩
     refine⟨λb=>F1 b/\b≠l,l,vs,y.1.zip xs,rfl,.inl ⟨λh=>h.2 rfl,.inl hl⟩,U2 k1,by rw[On];omega,λp hp=>?_⟩
     rw[hm];have Vx:p∉bs:=λhb=>by obtain⟨_,u,hu⟩:=k2.fs p hb;rw[hp]at hu;cases hu
     have ne:∀b u,H1 b=some u->b≠p:=λb u e z=>by subst z;rw[hp]at e;cases e
     refine q _ _ (λb=>F b\/b∈p::bs) (p::bs) (s1.trans (ah.bZ hp _)) (λb hb=>?_) (GM.mpr ⟨Vx,LF.2⟩) (λ_=>WI) ?_
     ·rcases AC.mp hb with rfl|hb
      ·exact s1.free hp
      ·exact hn b (rU _ hb)
     ·simp only[bE,bF,bD,bI]
      refine⟨p,xs,bs,rfl,rfl,.inr v3,L2.aV,lx,k2.mv (λb o n e=>⟨λf=>?_,by rw[L2.aE (ne b o e)];exact e⟩) λb hb u f hu=>⟨.inr (rU _ hb),by rw[L2.aE (ne b u hu)];exact hu⟩⟩
      rcases f with f|f
      ·exact n ((hF b).mpr (.inl f))
      ·rcases AC.mp f with f|f
       ·exact ne b o e f
       ·exact n ((hF b).mpr (.inr (rU _ f)))
    ·rw[Da NS]at e;cases e
   ·cases e
  ·cases e⟩
noncomputable def jI:D->R D
 |.lst _=>.ok (.bl true)
 |.tup _=>.ok (.bl true)
 |.cj _ _ _=>.bad
 |_=>.ok (.bl false)
theorem IB:bM X (.builtin "isinstance") (λxs H Q=>∃F d x tp b,xs=[x,.ref tp]/\Rep (aD X) H F d x/\H tp=some (.tup [.ty "list",.ty "tuple"])/\jI d=.ok (.bl b)/\Q (.bl b) H):=by
 intro pins s σ H xs us Q I r h;obtain⟨F,d,x,tp,b,rfl,rd,ht,e,q⟩:=h;obtain⟨u,w,rfl,ru,L0⟩:=L2.vals2 r;cases (show w=Value.ref tp from L0)
 obtain⟨_,af,rv,o,ho,hc,n,hd⟩:=I.aK _ _ ht;obtain⟨oc,od,Vy,MO⟩:=o;simp only at hc hd;subst hc hd
 have hi:af=[.type "list",.type "tuple"]:=by
  obtain⟨u1,u2,rfl,r1,r2⟩:=L2.vals2 rv;cases (show u1=Value.type "list" from r1)
  cases (show u2=Value.type "tuple" from r2)
  rfl
 subst hi;have fin:∀tk,EP X pins σ Q (.bool b) {s with toks:=tk}:=λtk=>⟨.bl _,H,I.tok tk,rfl,q⟩;cases d with
 |aj=>cases sd rd;cases ru;cases e;exact Wm YC I.c7 True.intro ho rfl (λz=>nomatch z) fin
 |bl y=>cases gi rd;cases ru;cases e;exact Wm YD I.c7 True.intro ho rfl (λz=>nomatch z) fin
 |int i=>cases bC rd;obtain⟨t,rfl⟩:=ru;cases e;exact Wm YK I.c7 True.intro ho rfl (λz=>nomatch z) fin
 |str z=>cases fM rd;obtain⟨t,rfl⟩:=ru;cases e;exact Wm YL I.c7 True.intro ho rfl (λz=>nomatch z) fin
 | tup ds=>
  simp only[Rep]at rd;obtain⟨p,xs,rfl,h,_⟩:=rd;cases ru;obtain⟨af,_,⟨o,h1,h2,_⟩,_⟩:=lD I h;cases e;exact Wm Yz I.c7 ⟨o,h1,h2⟩ ho rfl (λz=>nomatch z) fin
 | lst ds=>
  simp only[Rep]at rd;obtain⟨p,xs,rfl,h,_⟩:=rd;cases ru;obtain⟨af,n,sl,_,h1,_⟩:=iJ I h;cases e;exact Wm YE I.c7 ⟨_,h1,rfl⟩ ho rfl (λz=>nomatch z) fin
 | ai ks ds=>
  simp only[Rep]at rd;obtain⟨p,xs,rfl,h,_⟩:=rd;cases ru;obtain⟨_,_,vs,_,o,es,ep,e1,e2,e3,_⟩:=i9 I h;cases e;exact Wm YF I.c7 ⟨o,e1,e2.1⟩ ho rfl (λz=>nomatch z) fin
 |cj c ns vs=>cases e
theorem DY{d r:D}(h:jI d=.ok r):∃b,r=.bl b:=by
 unfold jI at h;split at h<;>cases h<;>exact⟨_,rfl⟩
theorem E3{X:L2.Cx}{pos:Pos}{a:Expr}{fa:Ex}{p p2 p3 p4:Pos}{k1}(ha:XE X a fa)(hm:X.mg "isinstance"=none)(Uu:X.mg "list"=none)(RT:X.mg "tuple"=none)(hg:L2.Gl X "isinstance":=by rfl)(Ua:L2.Gl X "list":=by rfl)(RO:L2.Gl X "tuple":=by rfl)(hs:starEach [a,.Tuple [.Name "list" p3,.Name "tuple" p4] k1 p2] X.env=(false,eval a X.env)::starEach [.Tuple [.Name "list" p3,.Name "tuple" p4] k1 p2] X.env:=by exact bw (by rfl))(Mu:starEach [.Tuple [.Name "list" p3,.Name "tuple" p4] k1 p2] X.env=(false,eval (.Tuple [.Name "list" p3,.Name "tuple" p4] k1 p2) X.env)::starEach [] X.env:=by exact bw (by rfl))(QT:starEach [.Name "list" p3,.Name "tuple" p4] X.env=(false,eval (.Name "list" p3) X.env)::starEach [.Name "tuple" p4] X.env:=by exact bw (by rfl))(Vm:starEach [.Name "tuple" p4] X.env=(false,eval (.Name "tuple" p4) X.env)::starEach [] X.env:=by exact bw (by rfl)):XE X (.Call (.Name "isinstance" p) [a,.Tuple [.Name "list" p3,.Name "tuple" p4] k1 p2] [] pos) (e1 jI fa):=⟨have ha:=ha.out;bo (L2.qW IB hg hm zk (L2.gj ha (L2.gj (L2.vw (L2.gj (L2.vD (v:=.ty "list") Ua Uu mz rfl (by decide) (by decide)) (L2.gj (L2.vD (v:=.ty "tuple") RO RT mq rfl (by decide) (by decide)) L2.jJ Vm) QT)) L2.jJ Mu) hs) (by decide) (by decide) hs (by rw[Mu];rfl)) λσ H Q=>by
  rintro⟨ρ,F,d,hr,e,q⟩
  obtain⟨a,ea,e⟩:=ao.mp e;obtain⟨b,rfl⟩:=DY e;refine⟨ρ,F,a,hr,ea,λx H1 s1 rx=>⟨by decide,λtp hn=>⟨F,a,x,tp,b,rfl,rx.mv (.same (ah.bZ hn _)),L2.aV,e,q _ _ (s1.trans (ah.bZ hn _)) dD⟩⟩⟩⟩
theorem yC{RJ:List Stmt}:gI X RJ (λ_=>.bad):=λF0 pins s σ H D I ⟨ρ,F,fl,r,e,q⟩=>by cases e
end
noncomputable def mf(b:(List D->R T)->List D->R T):Nat->List D->R T
 |0=>λ_=>.bad
 |n+1=>b (mf b n)
noncomputable def lZ(b:(List D->R D)->List D->R D):Nat->List D->R D
 |0=>λ_=>.bad
 |n+1=>b (lZ b n)
theorem cJ.nJ{P:Program}{w:World}{K:PySem.W.Frag}{mg:Str->Y6}{base:Heap}{x:Str}{k n:Nat}{b:(List D->R T)->List D->R T}(h0:cJ P w K mg base x k n λ_=>.bad)(h:∀j m,cJ P w K mg base x (k+j) n m->cJ P w K mg base x (k+(j+1)) n (b m)):∀j,cJ P w K mg base x (k+j) n (mf b j)
 |0=>h0
 |j+1=>h j _ (cJ.nJ h0 h j)
theorem Df.nJ{P:Program}{w:World}{K:PySem.W.Frag}{mg:Str->Y6}{base:Heap}{x:Str}{k n:Nat}{b:(List D->R D)->List D->R D}(h0:Df P w K mg base x k n λ_=>.bad)(h:∀j m,Df P w K mg base x (k+j) n m->Df P w K mg base x (k+(j+1)) n (b m)):∀j,Df P w K mg base x (k+j) n (lZ b j)
 |0=>h0
 |j+1=>h j _ (Df.nJ h0 h j)
noncomputable def zq(i:Nat)(e:Ex):Ex:=λρ=>(e ρ).bind λx=>match ρ[i]? with
 |some (.od ks vs)=>nU (.ai ks vs) x
 |_=>.bad
section
variable{X:Cx}{M:Md}{G H H':Hp}{F0:Gf}{F F':Y8}{σ:L2.St}{ρ:En}{pos:Pos}{pins:List (Addr×Obj)}{s:Shared}{as:Y3}
theorem IU{X:L2.Cx}{pos:Pos}(i:Nat){x:Str}{b:Expr}{fb:Ex}{p2:Pos}(hb:XE X b fb)(hN:X.N[i]? =some x:=by rfl)(hv:L2.dS X.env.scope x:=by exact Or.inl rfl)(hd:gV x:=by decide)(L4:TY x:=by decide)(hs:L2.mj b:=by exact uz (by rfl)):XE X (.Subscript (.Name x p2) b pos) (zq i fb):=⟨have hb:=hb.out;bo (L2.mQ sH (L2.pv i hN hv hd L4) hb hs) λσ H Q=>by
  rintro⟨ρ,F,d,hr,e,q⟩
  obtain⟨y,ey,e⟩:=ao.mp e;split at e
  ·rename_i ks vs q1
   obtain⟨a,ys,ea,fa,ha,hl,rs⟩:=hr.od i _ _ q1;refine⟨_,ea,ρ,F,y,hr,ey,λz H1 s1 rz=>?_⟩;have e:(match keyOf y with|some q=>(match bS q ks vs with|some v=>R.ok v|none=>.bad)|none=>.bad)=.ok d:=e
   cases hk:keyOf y with
   |none=>rw[hk]at e;cases e
   | some k=>
    rw[hk]at e;cases hf:bS k ks vs with
    | none=>
     have e:(match bS k ks vs with|some v=>R.ok v|none=>.bad)=.ok d:=e
     rw[hf]at e;cases e
    | some v=>
     have e:(match bS k ks vs with|some v=>R.ok v|none=>.bad)=.ok d:=e
     rw[hf]at e;cases e;obtain⟨w,hw,L0⟩:=(xx (M:=aD X) (H:=H1) (F:=F) k hl (rs.mv (.same s1))).2 _ hf;exact .inr ⟨a,_,k,w,rfl,dH hk rz,.inl (s1 _ _ ha),hw,q _ _ s1 L0⟩
  ·cases e⟩
noncomputable def jU(a:Ex):bV:=λρ=>(a ρ).bind λx=>match x with
 |.ai ks vs=>if ks.length=vs.length then .ok vs else .bad
 |_=>.bad
noncomputable def tJ(P:Program)(w:World)(K:PySem.W.Frag)(a:Addr)(ob:Obj)(kvs:List (Key×V)):It:=
 ⟨λi H=>dE P w K H a ob kvs/\i<kvs.length,λi H x H'=>H'=H/\∃kv,kvs[i]? =some kv/\x=kv.2,λi H=>dE P w K H a ob kvs/\i=kvs.length⟩
theorem zX{kvs:List (Key×V)}{vs:List (Key×Value)}(h:L2.KV kvs vs):∀ {i:Nat} {p:Key×Value},vs[i]? =some p->∃q,kvs[i]? =some q/\RelV q.2 p.2:=by
 unfold L2.KV at h
 induction h with
 |nil=>intro i p e;simp at e
 | cons hd _ ih=>
  intro i p e;cases i with
  |zero=>simp at e;subst e;exact⟨_,rfl,hd.2⟩
  |succ i=>simpa using ih (i:=i) (by simpa using e)
theorem JB{P:Program}{w:World}{K:PySem.W.Frag}{tg:Expr}(a it:Addr)(ob:Obj)(es:Array DictEntry)(ep:Nat)(Nt:ob.data=.dict es ep)(kvs:List (Key×V)):Turn P w K tg (tJ P w K a ob kvs) [it] it (λi h=>h.IsValIter it a i kvs.length ep) where
 mem:=by simp
 obj:=λi h st b hb=>by
  have e:b=it:=by simpa using hb
  subst e;obtain⟨o,e,c,d⟩:=st;exact⟨o,e,λv z=>by rw[d]at z;cases z⟩
 keep:=λi h h' ⟨o,e,r⟩ k=>⟨o,k it (by simp) o e,r⟩
 item:=by
  intro X hP hw hK hc i pins s σ H E I hf st hg;subst hP hw hK;obtain⟨dz,hi⟩:=hg;obtain⟨hz,hs,vs,N1,OC,rel,Mh,dat⟩:=hJ I dz;rw[Nt]at Mh;cases Mh;have hl:=fO rel;have hx:vs[i]? =some vs[i]:=KF (by omega)
  obtain⟨q,hq,eq⟩:=zX rel hx;obtain⟨f0,f1,f2,f3,f4,f5⟩:=hf it (by simp)
  rw[hl]at st;refine wpAny_pyNext_values_item (k:=vs[i].1) (v:=vs[i].2) st dat hx λh' Mz sb=>?_;have I1:Inv X pins σ H {s with heap:=h'}:=I.turned (t':=s.toks) (λb o hb e=>(sb.2 b hb).trans e) f0 f1 f3 f4 f5;obtain⟨o,e,c,d⟩:=id Mz;rw[<-hl]at Mz;exact⟨vs[i].2,rfl,L2.kL (s:={s with heap:=h'}) e c d (by decide) ⟨q.2,H,I1,eq,⟨rfl,q,hq,rfl⟩,Mz,λb hb=>(hf b hb).1⟩⟩
 done:=by
  intro X hP hw hK hc i pins s σ H E I hf st hg;subst hP hw hK;obtain⟨dz,hi⟩:=hg;obtain⟨hz,hs,vs,N1,OC,rel,Mh,dat⟩:=hJ I dz;rw[Nt]at Mh;cases Mh;have hl:=fO rel;obtain⟨f0,f1,f2,f3,f4,f5⟩:=hf it (by simp)
  rw[hl]at st;exact wpAny_pyNext_values_end (I.ok.hd hc) st dat (W4.mpr (by omega)) λh' eb=>⟨rfl,I.turned (t':=s.toks) (λb o hb e=>eb b o hb e) f0 f1 f3 f4 f5⟩
 self:=λ_ _ _ _ _ st h=>wpAny_pyIter_valiter st h
def EV(P:Program)(w:World)(K:PySem.W.Frag)(tl:TE):TI:=λσ H R=>tl σ H λx H1=>∃a ob kvs,x=.ref a/\dE P w K H1 a ob kvs/\R (tJ P w K a ob kvs) H1
theorem D9{tg l:Expr}{tl:TE}{apos B':Pos}(hl:PE X l tl)(Lz:attributeBase l "values" X.env (eval l X.env)=eval l X.env)(LA:(apos.endLine==B'.line)=true):L2.PI X tg (.Call (.Attribute l "values" apos) [] [] B') (EV X.prog X.w X.K tl):=by
 intro pins s σ H R I h;refine WN Lz LA (L2.aL (hl pins s σ H _ I h) λv s1 ⟨x,H1,I1,r1,q1⟩=>?_);obtain⟨a,ob,kvs,e,dz,q⟩:=q1;subst e;cases r1;obtain⟨hz,hs,vs,es,ep,rel,Nt,dat⟩:=hJ I1 dz;have hlen:=fO rel;have Om:s1.TypeIs (.ref a) "dict":=let⟨o,_,ho,c,_⟩:=dat;⟨o,ho,c.1⟩
 have Qw:∀b,Value.ref a=.ref b->∃ob,s1.heap.get? b=some ob/\ob.dict=none:=λb e=>by cases e;exact let⟨o,_,ho,c,_⟩:=dat;⟨o,ho,c.2.1⟩
 refine⟨"dict","dict.values",S7,Wy,X9,Om,Qw,VY rfl (WW ?_)⟩;refine WC Wy Om X5 (X0 _) (meets_dict_values (L2.bz X.prog X.w) a hs) ⟨⟨vs,dat.dictOf⟩,?_⟩;have hv:(s1.heap.push {cls:=.type "dict_values",data:=.fields #[.ref a]}).IsValuesView s1.heap.objs.size a:=⟨_,FS _ rfl,rfl,rfl⟩;refine wpAny_pyIter_values (s:={s1 with heap:=s1.heap.push {cls:=.type "dict_values",data:=.fields #[.ref a]} }) hv (dat.push _) ?_;have I2:Inv X pins σ H1 {s1 with heap:=s1.heap.push {cls:=.type "dict_values",data:=.fields #[.ref a]} }:=I1.kept (t':=s1.toks) λb o e=>cp _ e;rw[<-hlen];generalize hh:s1.heap.push {cls:=.type "dict_values",data:=.fields #[.ref a]}=h2 at I2 hv;refine⟨h2.objs.size,[h2.objs.size],_,_,H1,rfl,I2.kept (t':=s1.toks) λb o e=>cp _ e,JB a _ ob es ep Nt kvs,⟨_,FS _ rfl,rfl,rfl⟩,λb hb=>?_,q⟩;have e:b=h2.objs.size:=by simpa using hb
 subst e;exact I2.jG (Fk _) (I2.aK.fresh (Fk _))
theorem Gu{a:Addr}{ob:Obj}{ks:List Ky}{xs:List V}{ds:List D}(hd:(¬F a/\H a=some (.frz ob (.dK (ks.zip xs))))\/dE M.P M.w M.K (λ_=>none) a ob (ks.zip xs))(hl:ks.length=xs.length)(rs:ae M H F ds xs):Gives M (tJ M.P M.w M.K a ob (ks.zip xs)) H F ds:=by
 intro H' F' mv tr;have NZ:(ks.zip xs).length=ks.length:=by rw[On];omega
 have T6:=rs.length
 have dz:dE M.P M.w M.K H' a ob (ks.zip xs):=by
  rcases hd with⟨n,h⟩|h
  ·exact .inl (mv _ _ n h).2
  ·rcases h with h|h
   ·cases h
   ·exact .inr h
 refine⟨λi d NW=>?_,?_⟩
 ·obtain⟨hi,_⟩:=mO.mp NW
  refine⟨⟨dz,by omega⟩,λy H2 hy=>?_⟩
  obtain⟨rfl,kv,QD,rfl⟩:=hy;obtain⟨v,hv,rv⟩:=rs.get NW;obtain⟨hk,e⟩:=mO.mp QD
  have:kv.2=v:=by
   obtain⟨Oi,ev⟩:=mO.mp hv;rw[<-e,Xa, <-ev]
  rw[this];exact⟨ah.refl _,rv.mv mv⟩
 ·exact⟨dz,by omega⟩
theorem xR{X:L2.Cx}{tg l:Expr}{fa:Ex}{apos B':Pos}(ha:XE X l fa)(Lz:attributeBase l "values" X.env (eval l X.env)=eval l X.env)(LA:(apos.endLine==B'.line)=true:=by rfl):XI X tg (.Call (.Attribute l "values" apos) [] [] B') (jU fa):=⟨have ha:=ha.out;j4 (D9 ha Lz LA) λσ H Q=>by
  rintro⟨ρ,F,ds,r,e,q⟩
  obtain⟨d,ed,e⟩:=ao.mp e;cases d with
  | ai ks vs=>
   have e:(if ks.length=vs.length then R.ok vs else .bad)=.ok ds:=e
   by_cases hkl:ks.length=vs.length
   ·rw[u9 hkl]at e
    cases e;refine⟨ρ,F,_,r,ed,λv H1 s1 rv=>?_⟩;simp only[Rep]at rv;obtain⟨a,xs,rfl,h,hl,rs⟩:=rv;obtain⟨ob,h1,h2⟩:=pU h;exact⟨a,ob,_,rfl,h2,q _ H1 s1 (Gu (M:=aD X) h1 hl rs)⟩
   ·rw[Da hkl]at e;cases e
  |_=>cases e⟩
end
noncomputable def iC:List Ky->List D->List D
 |k::ks,v::vs=>.tup [b5 k,v]::iC ks vs
 |_,_=>[]
noncomputable def wG(a:Ex):bV:=λρ=>(a ρ).bind λx=>match x with
 |.ai ks vs=>if ks.length=vs.length then .ok (iC ks vs)else .bad
 |_=>.bad
theorem xg:∀ {ks:List Ky} {vs:List D},ks.length=vs.length->(iC ks vs).length=ks.length
 |[],[],_=>rfl
 | k::ks,v::vs,h=>by
  show(iC ks vs).length+1=_;rw[xg (by simpa using h)];rfl
 |[],_::_,h=>by simp at h
 |_::_,[],h=>by simp at h
theorem Bm:∀ {ks:List Ky} {vs:List D} {i:Nat} {d:D},(iC ks vs)[i]? =some d->∃k v,d=.tup [b5 k,v]/\ks[i]? =some k/\vs[i]? =some v
 |[],_,i,d,h=>by simp[iC]at h
 |_::_,[],i,d,h=>by simp[iC]at h
 | k::ks,v::vs,0,d,h=>by
  have h:some (D.tup [b5 k,v])=some d:=h;cases h;exact⟨k,v,rfl,rfl,rfl⟩
 | k::ks,v::vs,i+1,d,h=>by
  obtain⟨k',v',e,h1,h2⟩:=Bm (ks:=ks) (vs:=vs) (i:=i) (d:=d) (by simpa[iC] using h)
  exact⟨k',v',e,by simpa using h1,by simpa using h2⟩
section
variable{X:Cx}{M:Md}{G H H':Hp}{F0:Gf}{F F':Y8}{σ:L2.St}{ρ:En}{pos:Pos}{pins:List (Addr×Obj)}{s:Shared}
noncomputable def uS(P:Program)(w:World)(K:PySem.W.Frag)(a:Addr)(ob:Obj)(kvs:List (Key×V)):It where
 go i H:=dE P w K H a ob kvs/\i<kvs.length
 lV i H x H':=∃t kv,x=.ref t/\H t=none/\kvs[i]? =some kv/\H'=upd H t (.tup [L2.kV kv.1,kv.2])
 stop i H:=dE P w K H a ob kvs/\i=kvs.length
theorem Dh{kvs:List (Key×V)}{vs:List (Key×Value)}(h:L2.KV kvs vs):∀ {i:Nat} {p:Key×Value},vs[i]? =some p->∃q,kvs[i]? =some q/\q.1=p.1/\RelV q.2 p.2:=by
 unfold L2.KV at h
 induction h with
 |nil=>intro i p e;simp at e
 | cons hd _ ih=>
  intro i p e;cases i with
  |zero=>simp at e;subst e;exact⟨_,rfl,hd.1,hd.2⟩
  |succ i=>simpa using ih (i:=i) (by simpa using e)
theorem Ib:entryFor table "dict_itemiterator.__iter__"=some Builtin.«dict_keyiterator.__iter__»:=entryFor_alias (id':="dict_keyiterator.__iter__") (by kernel_rfl) rfl (by decide+kernel) (by kernel_rfl)
theorem Hv{P:Program}{w:World}{K:PySem.W.Frag}{elts:Y4}{k:Nat}{tp:Pos}(a it:Addr)(ob:Obj)(es:Array DictEntry)(ep:Nat)(Nt:ob.data=.dict es ep)(kvs:List (Key×V)):Turn P w K (.Tuple elts k tp) (uS P w K a ob kvs) [it] it (λi h=>∃ok ov,IsItemIter h it a i kvs.length ep ok ov) where
 mem:=by simp
 obj:=λi h st b hb=>by
  have e:b=it:=by simpa using hb
  subst e;obtain⟨ok,ov,e⟩:=st;exact⟨_,e,λv z=>by cases z⟩
 keep:=λi h h' ⟨ok,ov,e⟩ k=>⟨ok,ov,k it (by simp) _ e⟩
 item := by
  intro X hP hw hK hc i pins s σ H E I hf st hg;subst hP hw hK;obtain⟨dz,hi⟩:=hg;obtain⟨ok,ov,st⟩:=st;obtain⟨hz,hs,vs,N1,OC,rel,Mh,dat⟩:=hJ I dz;rw[Nt]at Mh;cases Mh;have hl:=fO rel;have hx:vs[i]? =some vs[i]:=KF (by omega)
  obtain⟨q,hq,eq1,eq2⟩:=Dh rel hx;obtain⟨f0,f1,f2,f3,f4,f5⟩:=hf it (by simp)
  rw[hl]at st;have Mp:it<s.heap.objs.size:=GE st;have nT:H s.heap.objs.size=none:=I.aK.fresh (Fk _);refine wpAny_pyNext_items_item (k:=vs[i].1) (v:=vs[i].2) st dat hx λkey h' N8 Mz UK hsz hk=>?_;refine⟨_,rfl,wpAny_letOwnedTupleGo_items Mz λNh Nn Mu=>?_⟩;have Tz:s.heap.objs.size≠it:=Wr Mp;have MQ:∀c o,c≠it->s.heap.get? c=some o->Nh.get? c=some o:=λc o c1 e=>Mu.extBut _ _ c1 (hk c o c1 e);have R':Nh.get? s.heap.objs.size=some {cls:=.type "tuple",data:=.seq #[key,vs[i].2]}:=Mu.extBut _ _ Tz UK;have aU:∀c u,H c=some u->c≠it:=λc u e w=>by rw[w,f0]at e;cases e
  have Nb:∀c,c∉[it]->c≠it:=λc M7=>by simpa using M7
  have r1:RelV (L2.kV q.1) key:=by rw[eq1];exact vT N8
  have u:Un (L2.eF X.stack) [it] H (upd H s.heap.objs.size (.tup [L2.kV q.1,q.2])) s.heap Nh:=
   ⟨λb o e n Qb LY=>MQ b o (Nb b LY) e,λb o e n Qb LY=>⟨o.slots,MQ b o (Nb b LY) e⟩,λb o e n LY=>by rw[L2.aE (Pi (GE e))];exact n,
    λb o e LY=>⟨o,MQ b o (Nb b LY) e⟩,λb zs e=>by rw[L2.aE (L2.eI e nT)];exact e,λb o zs e=>by rw[L2.aE (L2.eI e nT)];exact e,λb ps e=>⟨#[],by rw[L2.aE (L2.eI e nT),e];simp⟩⟩
  have aK:L2.b6 X.prog X.w (upd H s.heap.objs.size (.tup [L2.kV q.1,q.2])) Nh:=λb Tr e=>by
   by_cases hb:b=s.heap.objs.size
   ·subst hb
    rw[L2.aV]at e;cases e;exact⟨show 2<=sizeLine by decide,[key,vs[i].2],.cons r1 (.cons eq2 .nil),⟨_,R',rfl,_,rfl⟩⟩
   ·rw[L2.aE hb]at e
    refine(I.aK b Tr e).ie (λc v N7 w=>?_) (λc w=>by rw[L2.aE (L2.eI w nT)];exact w) λc zs w=>by rw[L2.aE (L2.eI w nT)];exact w
    have tc:∃u,H c=some u:=by
     rcases N7 with rfl|N7
     ·exact⟨_,e⟩
     ·exact⟨_,N7⟩
    obtain⟨u',OO⟩:=tc;exact MQ c v (aU c u' OO) w
  have I2:Inv X pins σ (upd H s.heap.objs.size (.tup [L2.kV q.1,q.2])) {s with heap:=Nh}:=I.qG (s':={s with heap:=Nh}) (ch:=[it]) rfl u aK I.bare λb hb=>by
   have e:b=it:=by simpa using hb
   subst e;exact⟨f3,f1,f4,f5⟩
  refine⟨.ref s.heap.objs.size,_,I2,rfl,⟨_,q,rfl,nT,hq,rfl⟩,⟨_,_,by rw[hl];exact Nn⟩,λb hb=>?_⟩
  have e:b=it:=by simpa using hb
  subst e;show upd H _ _ b=none;rw[L2.aE (Os Tz)];exact f0
 done:=by
  intro X hP hw hK hc i pins s σ H E I hf st hg;subst hP hw hK;obtain⟨dz,hi⟩:=hg;obtain⟨ok,ov,st⟩:=st;obtain⟨hz,hs,vs,N1,OC,rel,Mh,dat⟩:=hJ I dz;rw[Nt]at Mh;cases Mh;have hl:=fO rel;obtain⟨f0,f1,f2,f3,f4,f5⟩:=hf it (by simp)
  rw[hl]at st;exact wpAny_pyNext_items_end (I.ok.hd hc) st dat (W4.mpr (by omega)) λh' eb=>⟨rfl,I.turned (t':=s.toks) (λb o hb e=>eb b o hb e) f0 f1 f3 f4 f5⟩
 self:=λ_ _ _ _ _=>by
  rintro⟨ok,ov,st⟩ h
  have hT:Shared.TypeIs _ (.ref it) "dict_itemiterator":=⟨_,st,rfl⟩;refine wpAny_pyIter_slot hT Xl (WX Xl hT Ib ?_ (PySem.F.args_dict_itemiterator_iter_1 _));show wpAny _ _ (ret (.ref it)) _ _ _;exact JO ⟨_,rfl,"dict_itemiterator",_,hT,PySem.F.slot_dict_itemiterator_next.lookup,h⟩
def J3(P:Program)(w:World)(K:PySem.W.Frag)(tl:TE):TI:=λσ H R=>tl σ H λx H1=>∃a ob kvs,x=.ref a/\dE P w K H1 a ob kvs/\R (uS P w K a ob kvs) H1
theorem HS{elts:Y4}{k:Nat}{tp:Pos}{l:Expr}{tl:TE}{apos B':Pos}(hl:PE X l tl)(Lz:attributeBase l "items" X.env (eval l X.env)=eval l X.env)(LA:(apos.endLine==B'.line)=true):L2.PI X (.Tuple elts k tp) (.Call (.Attribute l "items" apos) [] [] B') (J3 X.prog X.w X.K tl):=by
 intro pins s σ H R I h;refine WN Lz LA (L2.aL (hl pins s σ H _ I h) λv s1 ⟨x,H1,I1,r1,q1⟩=>?_);obtain⟨a,ob,kvs,e,dz,q⟩:=q1;subst e;cases r1;obtain⟨hz,hs,vs,es,ep,rel,Nt,dat⟩:=hJ I1 dz;have hlen:=fO rel;have Om:s1.TypeIs (.ref a) "dict":=let⟨o,_,ho,c,_⟩:=dat;⟨o,ho,c.1⟩
 have Qw:∀b,Value.ref a=.ref b->∃ob,s1.heap.get? b=some ob/\ob.dict=none:=λb e=>by cases e;exact let⟨o,_,ho,c,_⟩:=dat;⟨o,ho,c.2.1⟩
 refine⟨"dict","dict.items",S7,Ye,PySem.F.type_dict_items,Om,Qw,VY rfl (WW ?_)⟩;refine WC Ye Om PySem.F.entry_dict_items (PySem.F.args_dict_items_1 _) (meets_dict_items (L2.bz X.prog X.w) a hs) ⟨⟨vs,dat.dictOf⟩,?_⟩;have hv:(s1.heap.push {cls:=.type "dict_items",data:=.fields #[.ref a]}).IsItemsView s1.heap.objs.size a:=⟨_,FS _ rfl,rfl,rfl⟩;refine wpAny_pyIter_items (s:={s1 with heap:=s1.heap.push {cls:=.type "dict_items",data:=.fields #[.ref a]} }) hv (dat.push _) ?_;have I2:Inv X pins σ H1 {s1 with heap:=s1.heap.push {cls:=.type "dict_items",data:=.fields #[.ref a]} }:=I1.kept (t':=s1.toks) λb o e=>cp _ e;rw[<-hlen];generalize hh:s1.heap.push {cls:=.type "dict_items",data:=.fields #[.ref a]}=h2 at I2 hv;refine⟨h2.objs.size,[h2.objs.size],_,_,H1,rfl,I2.kept (t':=s1.toks) λb o e=>cp _ e,Hv a _ ob es ep Nt kvs,⟨_,_,FS _ rfl⟩,λb hb=>?_,q⟩;have e:b=h2.objs.size:=by simpa using hb
 subst e;exact I2.jG (Fk _) (I2.aK.fresh (Fk _))
theorem Jv{a:Addr}{ob:Obj}{ks:List Ky}{xs:List V}{ds:List D}(hd:(¬F a/\H a=some (.frz ob (.dK (ks.zip xs))))\/dE M.P M.w M.K (λ_=>none) a ob (ks.zip xs))(hl:ks.length=xs.length)(rs:ae M H F ds xs):Gives M (uS M.P M.w M.K a ob (ks.zip xs)) H F (iC ks ds):=by
 intro H' F' mv tr;have NZ:(ks.zip xs).length=ks.length:=by rw[On];omega
 have T6:=rs.length
 have dz:dE M.P M.w M.K H' a ob (ks.zip xs):=by
  rcases hd with⟨n,h⟩|h
  ·exact .inl (mv _ _ n h).2
  ·rcases h with h|h
   ·cases h
   ·exact .inr h
 refine⟨λi d NW=>?_,?_⟩
 ·obtain⟨k,v,rfl,hk,hv⟩:=Bm NW
  obtain⟨hi,ek⟩:=mO.mp hk;refine⟨⟨dz,by omega⟩,λy H2 hy=>?_⟩
  obtain⟨t,kv,rfl,ht,QD,rfl⟩:=hy;obtain⟨w,hw,L0⟩:=rs.get hv;obtain⟨MQ,e⟩:=mO.mp QD
  have e2:kv=(k,w):=by
   obtain⟨Oi,ev⟩:=mO.mp hw;rw[<-e,Xa, <-ev, <-ek]
  subst e2;exact⟨ah.bZ ht _,nv tr ht (ae.cons zb (ae.cons (L0.mv mv) ae.nil))⟩
 ·exact⟨dz,by rw[xg (by omega)];omega⟩
theorem E4{X:L2.Cx}{elts:Y4}{k:Nat}{tp:Pos}{l:Expr}{fa:Ex}{apos B':Pos}(ha:XE X l fa)(Lz:attributeBase l "items" X.env (eval l X.env)=eval l X.env)(LA:(apos.endLine==B'.line)=true:=by rfl):XI X (.Tuple elts k tp) (.Call (.Attribute l "items" apos) [] [] B') (wG fa):=⟨have ha:=ha.out;j4 (HS ha Lz LA) λσ H Q=>by
  rintro⟨ρ,F,ds,r,e,q⟩
  obtain⟨d,ed,e⟩:=ao.mp e;cases d with
  | ai ks vs=>
   have e:(if ks.length=vs.length then R.ok (iC ks vs)else .bad)=.ok ds:=e
   by_cases hkl:ks.length=vs.length
   ·rw[u9 hkl]at e
    cases e;refine⟨ρ,F,_,r,ed,λv H1 s1 rv=>?_⟩;simp only[Rep]at rv;obtain⟨a,xs,rfl,h,hl,rs⟩:=rv;obtain⟨ob,h1,h2⟩:=pU h;exact⟨a,ob,_,rfl,h2,q _ H1 s1 (Jv (M:=aD X) h1 hl rs)⟩
   ·rw[Da hkl]at e;cases e
  |_=>cases e⟩
end
noncomputable def aO{α:Type}(z:Ky):List Ky->List α->List Ky×List α
 |k::ks,t::ts=>if k=z then aO z ks ts else(k::(aO z ks ts).1,t::(aO z ks ts).2)
 |_,_=>([],[])
theorem oG{z:Ky}:∀ {ks:List Ky} {xs:List V},ks.length=xs.length->L2.jy (ks.zip xs) z=(aO z ks xs).1.zip (aO z ks xs).2
 |[],[],_=>rfl
 |[],_::_,h=>by simp at h
 |_::_,[],h=>by simp at h
 | k::ks,x::xs,h=>by
  have ih:=oG (z:=z) (ks:=ks) (xs:=xs) (by simpa using h)
  unfold L2.jy at ih ⊢;unfold aO;rw[V7,W7];by_cases hz:k=z
  ·simp only[hz,ne_eq,not_true_eq_false,decide_false,Xm,Yu,Xc];exact ih
  ·simp only[hz,ne_eq,W5,decide_true,Xc,Yu,V7];rw[<-ih]
theorem j2{α:Type}{z:Ky}:∀ {ks:List Ky} {xs:List α},ks.length=xs.length->(aO z ks xs).1.length=(aO z ks xs).2.length
 |[],[],_=>rfl
 |[],_::_,h=>by simp at h
 |_::_,[],h=>by simp at h
 | k::ks,x::xs,h=>by
  have ih:=j2 (z:=z) (ks:=ks) (xs:=xs) (by simpa using h)
  unfold aO;by_cases hz:k=z
  ·rw[u9 hz];exact ih
  ·rw[Da hz];simp[ih]
theorem ny{α β:Type}{z:Ky}:∀ {ks:List Ky} {xs:List α} {ys:List β},xs.length=ys.length->(aO z ks xs).1=(aO z ks ys).1
 |[],_,_,_=>by simp[aO]
 |_::_,[],[],_=>rfl
 |_::_,[],_::_,h=>by simp at h
 |_::_,_::_,[],h=>by simp at h
 | k::ks,x::xs,y::ys,h=>by
  have ih:=ny (z:=z) (ks:=ks) (xs:=xs) (ys:=ys) (by simpa using h)
  unfold aO;by_cases hz:k=z
  ·rw[u9 hz,u9 hz];exact ih
  ·rw[Da hz,Da hz];simp[ih]
noncomputable def ic(i:Nat)(f:Pt)(k:Ex):Sm:=λρ=>(f ρ).bind λp=>(k ρ).bind λq=>match ρ[i]?,keyOf q with
 | some (.on (.tr t)),some z=>match T.at t p with
  |some (.n (.m ks) ts)=>if(cB z ks).isSome=true then .ok (.next ((b9 i p ρ).set i (.on (.tr (T.put (.m (aO z ks ts).1 (aO z ks ts).2) t p)))))else .bad
  |_=>.bad
 |_,_=>.bad
noncomputable def ly(i:Nat)(f:Pt):Sm:=λρ=>(f ρ).bind λp=>match ρ[i]? with
 | some (.on (.tr t))=>match T.at t p with
  |some (.n (.m _) _)=>.ok (.next ((b9 i p ρ).set i (.on (.tr (T.put (.m [] []) t p)))))
  |_=>.bad
 |_=>.bad
noncomputable def xU(i:Nat)(k:Ex):Sm:=λρ=>(k ρ).bind λq=>match ρ[i]?,keyOf q with
 |some (.od ks vs),some z=>if(cB z ks).isSome=true then .ok (.next (ρ.set i (.od (aO z ks vs).1 (aO z ks vs).2)))else .bad
 |_,_=>.bad
section
variable{X:Cx}{M:Md}{G H H':Hp}{F0:Gf}{F F':Y8}{σ:L2.St}{ρ:En}{pos:Pos}{pins:List (Addr×Obj)}{s:Shared}{as:Y3}
theorem ak.pop{z:Ky}:∀ {ks:List Ky} {ts:List T} {xs:List V} {as:Y3},ak M H F ts xs as->∃Lv,ak M H F (aO z ks ts).2 (aO z ks xs).2 Lv/\Lv.Sublist as
 |[],ts,xs,as,h=>⟨[],by simp[aO,ak],XB _⟩
 | a::ks,[],xs,as,h=>by
  simp only[ak]at h;obtain⟨rfl,rfl⟩:=h;exact⟨[],by simp[aO,ak],SZ _⟩
 | a::ks,t::ts,xs,as,h=>by
  simp only[ak]at h;obtain⟨x,r,bs,cs,rfl,rfl,h1,h2⟩:=h;obtain⟨LL,k1,k2⟩:=ak.pop (z:=z) (ks:=ks) h2;unfold aO;by_cases hz:a=z
  ·rw[u9 hz,u9 hz]
   exact⟨LL,k1,k2.trans (Wa _ _)⟩
  ·rw[Da hz,Da hz]
   refine⟨bs++LL,?_,WV (SZ _) k2⟩;simp only[ak];exact⟨x,_,bs,LL,rfl,rfl,h1,k1⟩
theorem ae.pop{z:Ky}:∀ {ks:List Ky} {ds:List D} {xs:List V},ae M H F ds xs->ae M H F (aO z ks ds).2 (aO z ks xs).2
 |[],_,_,_=>by simp only[aO];exact ae.nil
 |_::_,[],xs,h=>by simp only[ae]at h;subst h;exact ae.nil
 | k::ks,d::ds,xs,h=>by
  simp only[ae]at h;obtain⟨x,r,rfl,h1,h2⟩:=h;have ih:=ae.pop (z:=z) (ks:=ks) h2;unfold aO;by_cases hz:k=z
  ·rw[u9 hz,u9 hz];exact ih
  ·rw[Da hz,Da hz];exact ae.cons h1 ih
theorem z8{X:L2.Cx}{pos:Pos}(i:Nat){o k:Expr}{f:Pt}{g:Ex}{apos B':Pos}(ho:XL X i o f)(hk:XE X k g)(m:L2.M1 X o "pop" apos k B')(MJ:swapsWith (.Call (.Attribute o "pop" apos) [k] [] B') none pos.line X.env=pure false:=by exact d5 (by rfl)):XS X (.Expr (.Call (.Attribute o "pop" apos) [k] [] B') pos) (ic i f g):=⟨have ho:=ho.out;have hk:=hk.out;λF0=>
 cw (L2.jg (L2.qi ho hk m) MJ) λD σ H=>by
  rintro⟨ρ,F,fl,r,e,q⟩
  obtain⟨p,ep,e⟩:=ao.mp e;obtain⟨y,ey,e⟩:=ao.mp e;split at e
  ·rename_i t z q1 hz
   split at e
   ·rename_i ks ts L5
    split at e
    ·rename_i OD
     cases e;obtain⟨⟨w,as,ew,tr,nd⟩,_,_⟩:=r.rs.on i _ q1;refine⟨ρ,F,t,w,p,_,r.rs,q1,ew,ep,L5,λv0 H2 s2 at2=>?_⟩;have r2:=r.same s2;obtain⟨⟨w',Lv,MR,L3,Mm⟩,_,_⟩:=r2.rs.on i _ q1;rw[ew]at MR;cases MR;obtain⟨bs,tp,sub⟩:=aC.part L3 at2;simp only[bE,bF,bD,bI]at tp;obtain⟨a,SM,TH,rfl,rfl,_,Qy,_,_⟩:=tp;refine⟨a,rfl,.inl ⟨_,.inl Qy⟩,ρ,F,y,r2.rs,ey,λw2 H3 s3 L0=>?_⟩;have r3:=r2.same s3;have ME:=at2.same r2.rs q1 ew s3;obtain⟨⟨w3,Tu,OT,N6,Nk⟩,_,_⟩:=r3.rs.on i _ q1;rw[ew]at OT;cases OT;obtain⟨Sz,Oe,N4⟩:=aC.part N6 ME;have M3:=Oe;simp only[bE,bF,bD,bI]at Oe;obtain⟨a',xs,cs,Qh,rfl,fa,O5,hl,MZ⟩:=Oe;cases Qh;have Ms:=Nk.sublist N4;have MN:=GM.mp Ms;cases dH hz L0;obtain⟨mm,OY⟩:=Ww.mp OD;obtain⟨x1,hx,hv⟩:=kR hl OY;refine⟨_,z,x1,O5,rfl,hv,?_⟩;rw[oG hl];have NO:∀o:HO,Mv F H3 F (upd H3 a o):=λo b u n e=>⟨n,by rw[L2.aE (λz=>by subst z;exact n fa)];exact e⟩
     have kp:∀(o:HO) {LL:Y3},LL.Sublist cs->∀b∈LL,∀u,F b->H3 b=some u->F b/\upd H3 a o b=some u:=λo LL hs b hb u f hu=>⟨f,by rw[L2.aE (λz=>by subst z;exact MN.1 (hs.subset hb))];exact hu⟩
     obtain⟨LL,k1,k2⟩:=ak.pop (z:=z) (ks:=ks) MZ;have Mr:(aO z ks ts).1=(aO z ks xs).1:=ny MZ.len
     obtain⟨mv,r'⟩:=r3.ir (H2:=upd H3 a (.dK ((aO z ks xs).1.zip (aO z ks xs).2))) (F2:=F) (n1:=.m (aO z ks ts).1 (aO z ks ts).2) q1 ew ME (cW.of M3 Ms k2 (by
      simp only[bE,bF,bD,bI];exact⟨a,_,LL,rfl,rfl,fa,by rw[Mr];exact L2.aV,by rw[Mr];exact j2 hl,k1.mv (NO _) (kp _ k2)⟩)) rfl
     exact q _ _ _ (Mv.trans (.same (s2.trans s3)) mv) r'
    ·cases e
   ·cases e
  ·cases e⟩
def B3(td:TE):TE:=λσ H Q=>td σ H λx H1=>∃a kvs,x=.ref a/\H1 a=some (.dK kvs)/\Q .aj (upd H1 a (.dK []))
theorem CM{o:Expr}{td:TE}{apos B':Pos}(ho:PE X o td)(Lz:attributeBase o "clear" X.env (eval o X.env)=eval o X.env)(LA:(apos.endLine==B'.line)=true):PE X (.Call (.Attribute o "clear" apos) [] [] B') (B3 td):=by
 intro pins s σ H Q I h;refine WN Lz LA (L2.aL (ho pins s σ H _ I h) λu s1 ⟨x,H1,I1,rx,a,kvs,ex,ha,q1⟩=>?_);subst ex;obtain rfl:u=Value.ref a:=rx;obtain⟨t1,t2,_⟩:=L2.AW I1 (.inl ⟨kvs,.inl ha⟩);refine⟨"dict","dict.clear",S7,Yb,PySem.F.type_dict_clear,t1,t2,VY rfl (WW ?_)⟩;exact L2.Cr I1 ha λs' I2=>⟨.aj,_,I2,rfl,q1⟩
theorem CW{X:L2.Cx}{pos:Pos}(i:Nat){o:Expr}{f:Pt}{apos B':Pos}(ho:XL X i o f)(Lz:attributeBase o "clear" X.env (eval o X.env)=eval o X.env)(LA:(apos.endLine==B'.line)=true:=by rfl)(MJ:swapsWith (.Call (.Attribute o "clear" apos) [] [] B') none pos.line X.env=pure false:=by exact d5 (by rfl)):XS X (.Expr (.Call (.Attribute o "clear" apos) [] [] B') pos) (ly i f):=⟨have ho:=ho.out;λF0=>
 cw (L2.jg (CM ho Lz LA) MJ) λD σ H=>by
  rintro⟨ρ,F,fl,r,e,q⟩
  obtain⟨p,ep,e⟩:=ao.mp e;split at e
  ·rename_i t q1
   split at e
   ·rename_i ks ts L5
    cases e;obtain⟨⟨w,as,ew,tr,nd⟩,_,_⟩:=r.rs.on i _ q1;refine⟨ρ,F,t,w,p,_,r.rs,q1,ew,ep,L5,λv0 H2 s2 at2=>?_⟩;have r2:=r.same s2;obtain⟨⟨w',Lv,MR,L3,Mm⟩,_,_⟩:=r2.rs.on i _ q1;rw[ew]at MR;cases MR;obtain⟨bs,tp,sub⟩:=aC.part L3 at2;have M3:=tp;simp only[bE,bF,bD,bI]at tp;obtain⟨a,xs,cs,rfl,rfl,fa,ha,hl,LP⟩:=tp;have Ms:=Mm.sublist sub;refine⟨a,_,rfl,ha,?_⟩
    obtain⟨mv,r'⟩:=r2.ir (H2:=upd H2 a (.dK [])) (F2:=F) (n1:=.m [] []) q1 ew at2 (cW.of M3 Ms (XB _) (by
     simp only[bE,bF,bD,bI,ak];exact⟨a,[],[],rfl,rfl,fa,L2.aV,rfl,rfl,rfl⟩)) rfl
    exact q _ _ _ (Mv.trans (.same s2) mv) r'
   ·cases e
  ·cases e⟩
theorem Ei{X:L2.Cx}{pos:Pos}(i:Nat){x:Str}{k:Expr}{g:Ex}{p2 apos B':Pos}(hk:XE X k g)(hN:X.N[i]? =some x:=by rfl)(hv:L2.dS X.env.scope x:=by exact Or.inl rfl)(hd:gV x:=by decide)(L4:TY x:=by decide)(m:L2.M1 X (.Name x p2) "pop" apos k B':=by exact lh oF (by rfl) (by rfl))(MJ:swapsWith (.Call (.Attribute (.Name x p2) "pop" apos) [k] [] B') none pos.line X.env=pure false:=by exact d5 (by rfl)):XS X (.Expr (.Call (.Attribute (.Name x p2) "pop" apos) [k] [] B') pos) (xU i g):=⟨have hk:=hk.out;λF0=>
 cw (L2.jg (L2.qi (L2.pv i hN hv hd L4) hk m) MJ) λD σ H=>by
  rintro⟨ρ,F,fl,r,e,q⟩
  obtain⟨y,ey,e⟩:=ao.mp e;split at e
  ·rename_i ks vs z q1 hz
   split at e
   ·rename_i OD
    cases e;have oi:bu ρ i:=.inr ⟨_,_,q1⟩;obtain⟨a,xs,ea,fa,ha,hl,rs⟩:=r.rs.od i _ _ q1;refine⟨_,ea,a,rfl,.inl ⟨_,.inl ha⟩,ρ,F,y,r.rs,ey,λw H2 s2 L0=>?_⟩;have r2:=r.same s2;have Pc:=s2 _ _ ha;cases dH hz L0;have Ob:=rs.mv (M:=aD X) (F':=F) (.same s2);obtain⟨mm,OY⟩:=Ww.mp OD;obtain⟨x1,hx,hv⟩:=kR hl OY;refine⟨_,z,x1,Pc,rfl,hv,?_⟩;rw[oG hl];have Mr:(aO z ks vs).1=(aO z ks xs).1:=ny rs.length;obtain⟨mv,r'⟩:=r2.chg (s:=.od (aO z ks vs).1 (aO z ks vs).2) oi ea (.inr ⟨_,_,(aO z ks xs).2,rfl,by rw[Mr],by rw[Mr];exact j2 hl,ae.pop Ob⟩)
    exact q _ _ _ (Mv.trans (.same s2) mv) r'
   ·cases e
  ·cases e⟩
theorem aP.Ed{i:Nat}{t t':T}{v:V}{as Lv:Y3}(r:aP M G F0 H F σ ρ)(e:ρ[i]? =some (.on (.tr t)))(ev:σ[i]? =some (some v))(tr:az M H F t v as)(Ma:∀b∈Lv,b∈as\/H b=none)(MY:∀b u,b∉as->H b=some u->H' b=some u)
  (hF:∀b,F' b↔(F b/\b∉as)\/b∈Lv) (L3:az M H' F' t' v Lv) (nd:Lv.Nodup) (Pf:∀(j:Nat) p,ρ[j]? =some (Slot.on (.al i p))->∀t1 w,aC H t v p t1 w->t1.own=true->∃t2,t2.own=true/\aC H' t' v p t2 w):
  Mv F H F' H'/\aP M G F0 H' F' σ (ρ.set i (.on (.tr t'))):=by
 have fs:=tr.fs;refine r.qd e ev tr Ma (λb o n eo=>?_) (λb u n f hu=>⟨(hF b).mpr (.inl ⟨f,n⟩),MY b u n hu⟩) (λa fa=>?_) L3 nd Pf MY λb f n=>(hF b).mpr (.inl ⟨f,n⟩)
 ·have nb:b∉Lv:=λhb=>by
   rcases Ma b hb with h|h
   ·exact n (fs b h).1
   ·rw[h]at eo;cases eo
  exact⟨λh=>((hF b).mp h).elim (λz=>n z.1) nb,MY b _ (λh=>n (fs b h).1) eo⟩
 ·by_cases ha:a∈Lv
  ·exact(L3.fs a ha).2
  ·have z:=((hF a).mp fa).resolve_right ha
   obtain⟨o,ho⟩:=r.rs.aU a z.1;exact⟨o,MY a _ z.2 ho⟩
noncomputable def without(H:Hp)(as:Y3):Hp:=λb=>if b∈as then none else H b
theorem Di{N:List Str}{n:Nat}{ds:List D}{vs:List V}{t:T}{w:V}(tk:∀p,F p->∃o,G p=some o)(tr:az M G F t w as)(nd:as.Nodup)(rs:ae M G F ds vs)(hl:ds.length=n)(hn:n+1<=N.length):
  aP M (without G as) ⟨without G as,λb=>F b/\b∉as,λb=>if b=false then some w else none⟩ G F (L2.start N (w::vs)) (.on (.tr t)::(ds.map Slot.sh++List.replicate (N.length - 1 - ds.length) .un)):=by
 have kT:=rs.length;generalize Mo:(.on (.tr t)::(ds.map Slot.sh++List.replicate (N.length - 1 - ds.length) .un):En)=ρ
 have get:∀(i:Nat) s,ρ[i]? =some s->(i=0/\s=.on (.tr t))\/(∃j d,i=j+1/\ds[j]? =some d/\s=.sh d)\/s=.un:=by
  intro i s hs;rw[<-Mo]at hs;cases i with
  |zero=>cases hs;exact .inl ⟨rfl,rfl⟩
  | succ j=>
   rw[WE,V0]at hs;split at hs
   ·rw[DM]at hs
    cases e1:ds[j]? with
    |none=>rw[e1]at hs;cases hs
    |some d'=>rw[e1]at hs;cases hs;exact .inr (.inl ⟨j,d',rfl,e1,rfl⟩)
   ·rw[SB]at hs
    split at hs<;>cases hs;exact .inr (.inr rfl)
 have s0:(L2.start N (w::vs))[0]? =some (some w):=by unfold L2.start;rfl
 have no:∀i,¬bu ρ i:=by
  intro i hi;rcases hi with⟨x,hx⟩|⟨k,x,hx⟩
  ·rcases get _ _ hx with⟨_,h⟩|⟨_,_,_,_,h⟩|h<;>cases h
  ·rcases get _ _ hx with⟨_,h⟩|⟨_,_,_,_,h⟩|h<;>cases h
 have Rt:∀(i:Nat) x,ρ[i]? =some (.on x)->i=0/\x=.tr t:=by
  intro i x hx;rcases get _ _ hx with⟨h0,h⟩|⟨_,_,_,_,h⟩|h
  ·injection h with h;exact⟨h0,h⟩
  ·cases h
  ·cases h
 have Na:∀(i:Nat) b,cb M G F (L2.start N (w::vs)) ρ i b->b∈as:=by
  intro i b ⟨t1,v1,Mx,e1,ev,Ni,hb⟩;obtain⟨rfl,h⟩:=Rt i _ e1;injection h with h;subst h;rw[s0]at ev;cases ev;have:=az.gO tr Ni;subst this;exact hb
 refine⟨⟨?_,tk,?_,?_,?_,?_,?_⟩,λb o e=>?_,λb h=>h.1,λb h=>?_,λi a oi=>absurd oi (no i),λi x b e hb=>u9 (Na i b hb),λv hv t1 e1=>by
  obtain⟨b,x⟩:=v;cases b with
  |false=>cases hv;exact s0
  |true=>cases hv⟩
 ·rw[<-Mo];unfold L2.start;simp[kT];omega
 ·intro i d hd
  rcases get _ _ hd with⟨_,h⟩|⟨j,d',rfl,hj,h⟩|h
  ·cases h
  ·cases h
   obtain⟨v,ev,rv⟩:=rs.get hj;refine⟨v,?_,rv⟩;unfold L2.start;have hv:=(mO.mp ev).1;rw[V9 (by simp;omega),DM,WE,ev];rfl
  ·cases h
 ·intro i d hd;exact absurd (.inl ⟨_,hd⟩) (no i)
 ·intro i k d hd;exact absurd (.inr ⟨_,_,hd⟩) (no i)
 ·intro i j a oi;exact absurd oi (no i)
 ·intro i x hx
  obtain⟨rfl,rfl⟩:=Rt i x hx;exact⟨⟨w,as,s0,tr,nd⟩,λb _ j oj=>absurd oj (no j),λt1 _ j t2 h2 hj=>absurd (Rt j _ h2).1 hj⟩
 ·unfold without at e
  split at e
  ·cases e
  ·exact e
 ·obtain⟨o,e⟩:=tk b h.1
  exact⟨o,by show(if b∈as then none else G b)=_;rw[Da h.2];exact e⟩
theorem BU{H1:Hp}{s1:Shared}{a:Addr}{ob:Obj}{kvs:List (Key×V)}(nf:∀o u,X.jv a≠some (.frz o u))(I1:Inv X pins σ H1 s1)(e1:H1 a=some (.frz ob (.dK kvs))):Inv X pins σ (upd H1 a (.dK kvs)) s1:=by
 have nn:∀ {b},H1 b=none->upd H1 a (.dK kvs) b=none:=λ{b} h=>by rw[L2.aE (λz=>by subst z;rw[e1]at h;cases h)];exact h
 refine⟨I1.ok,I1.os,I1.bare,⟨I1.base.keep,I1.base.slot,λb o h n x=>nn (I1.base.free b o h n x),I1.base.there,λb xs h=>?_,λb o u h=>?_,λb ps h=>?_⟩,I1.loc,I1.cell,nn I1.free,λx c h=>nn (I1.gu x c h),λp hp=>?_,λb o h=>?_,I1.len⟩
 ·have h1:=I1.base.iq b xs h
  rw[L2.aE (λz=>by subst z;rw[e1]at h1;cases h1)];exact h1
 ·rw[L2.aE (λz=>by subst z;exact nf _ _ h)];exact I1.base.fN b o u h
 ·obtain⟨more,h1⟩:=I1.base.iu b ps h
  exact⟨more,by rw[L2.aE (λz=>by subst z;rw[e1]at h1;cases h1)];exact h1⟩
 ·obtain⟨h1,h2,h3⟩:=I1.pin p hp
  exact⟨h1,nn h2,h3⟩
 ·by_cases hb:b=a
  ·subst hb
   rw[L2.aV]at h;cases h;obtain⟨_,z,y,vs,r,dd⟩:=I1.aK b _ e1;exact⟨z,y,vs,r,dd⟩
  ·rw[L2.aE hb]at h
   refine(I1.aK b o h).ie (λc u _ q=>q) (λc q=>?_) λc xs q=>?_
   ·rw[L2.aE (λz=>by subst z;rw[e1]at q;cases q)];exact q
   ·rw[L2.aE (λz=>by subst z;rw[e1]at q;cases q)];exact q
theorem xX:∀ {as:Y3} {H1:Hp} {s1:Shared},Inv X pins σ H1 s1->(∀b∈as,∀o u,X.jv b≠some (.frz o u))->(∀b∈as,H1 b=H b\/∃ob kvs,H b=some (.dK kvs)/\H1 b=some (.frz ob (.dK kvs)))->as.Nodup->∃H2,Inv X pins σ H2 s1/\(∀b∈as,H2 b=H b)/\∀b,b∉as->H2 b=H1 b
 |[],H1,s1,I1,_,_,_=>⟨H1,I1,(λ_ hb=>nomatch hb),λ_ _=>rfl⟩
 | a::as,H1,s1,I1,nf,k,nd=>by
  have LF:=GM.mp nd;obtain⟨H2,I2,k2,o2⟩:=xX I1 (λb hb=>nf b (rU _ hb)) (λb hb=>k b (rU _ hb)) LF.2;have ea:H2 a=H1 a:=o2 a LF.1;rcases k a v3 with h|⟨ob,kvs,h1,h2⟩
  ·refine⟨H2,I2,λb hb=>?_,λb hb=>o2 b λMw=>hb (rU _ Mw)⟩
   rcases AC.mp hb with rfl|hb
   ·rw[ea];exact h
   ·exact k2 b hb
  ·refine⟨_,BU (nf a v3) I2 (by rw[ea];exact h2),λb hb=>?_,λb hb=>?_⟩
   ·by_cases Nm:b=a
    ·subst Nm;rw[L2.aV,h1]
    ·rw[L2.aE Nm]
     exact k2 b ((AC.mp hb).resolve_left Nm)
   ·have Nm:b≠a:=λz=>by subst z;exact hb v3
    rw[L2.aE Nm];exact o2 b λMw=>hb (rU _ Mw)
noncomputable def xM(f:Ex):Xt:=λρ=>(f ρ).bind λd=>match d with
 |.ai ks vs=>.ok (.m ks (vs.map .d))
 |_=>.bad
theorem E2{X:L2.Cx}{e:Expr}{f:Ex}(he:XD X e f):XX X e (xM f):=⟨have he:=he.out;bo he λσ H Q=>by
  rintro⟨ρ,F,t,hr,e,q⟩
  obtain⟨d,ed,e⟩:=ao.mp e;cases d with
  | ai ks vs=>
   cases e;refine⟨ρ,F,ks,vs,hr,ed,λp H1 xs s1 hp hl rs=>?_⟩;have ne:∀b u,H1 b=some u->b≠p:=λb u e z=>by subst z;rw[hp]at e;cases e
   refine q (.ref p) _ (λb=>F b\/b∈[p]) [p] (s1.trans (ah.bZ hp _)) (λb hb=>?_) (by simp) (λb=>WI) ?_
   ·rw[SC.mp hb];exact s1.free hp
   ·simp only[bE,bF,bD,bI]
    exact⟨p,xs,[],rfl,rfl,.inr (SC.mpr rfl),L2.aV,hl,mF.mpr ⟨rfl,rs.mv λb u n e=>⟨λh=>h.elim n λhb=>ne b u e (SC.mp hb),by rw[L2.aE (ne b u e)];exact e⟩⟩⟩
  |_=>cases e⟩
theorem uX{i:Nat}{f:Ex}(ρ:En)(d:D)(h:cS i f ρ=.ok d):∃ds,d=.lst ds:=by
 unfold cS at h;split at h
 ·obtain⟨d',_,h⟩:=ao.mp h
  split at h
  ·split at h
   ·cases h;exact⟨_,rfl⟩
   ·cases h
  ·cases h
 ·cases h
end
end PL
namespace PL
open PySem PySem.Spec
set_option maxHeartbeats 3200000
open L2 (V Hp HO Cx PE PT PW PA PS cq PG di VK TE TT TA TS TI TG Inv RelV Vals Rd bt bH upd ah Key XK Ends a7 fS bM R2 EP It Turn cO Un)
noncomputable def oy(i:Nat)(f:Pt)(k:Ex)(x:Xt):Sm:=λρ=>(x ρ).bind λu=>(f ρ).bind λp=>(k ρ).bind λq=>match ρ[i]?,keyOf q with
 | some (.on (.tr t)),some z=>match T.at t p with
  |some (.n (.m ks) ts)=>if ks.length<1000/\¬(ks.any λa=>decide (a=z))=true then .ok (.next ((b9 i p ρ).set i (.on (.tr (T.put (.m (ks++[z]) (ts++[u])) t p)))))else .bad
  |_=>.bad
 |_,_=>.bad
section
variable{X:Cx}{M:Md}{G H H':Hp}{F0:Gf}{F F':Y8}{σ:L2.St}{ρ:En}{pos:Pos}{pins:List (Addr×Obj)}{s:Shared}{as:Y3}
theorem aC.ex:∀ {p:List Nat} {t:T} {v:V} {as:Y3} {n0:T},az M H F t v as->T.at t p=some n0->∃w,aC H t v p n0 w
 | [],t,v,as,n0,_,e=>by
  have:t=n0:=by cases t<;>(injection e)
  subst this;exact⟨v,aC.here _ _⟩
 | k::p,.n kd ts,v,as,n0,h,e=>by
  simp only[az]at h;obtain⟨a,xs,bs,rfl,rfl,f,ha,hl,r⟩:=h;have e:(match ts[k]? with|some t=>T.at t p|none=>none)=some n0:=e
  cases et:ts[k]? with
  |none=>rw[et]at e;cases e
  | some t1=>
   rw[et]at e;obtain⟨x,cs,ex,tr,_⟩:=r.part et;obtain⟨w,hw⟩:=aC.ex tr e;exact⟨w,by unfold aC;exact⟨a,xs,t1,x,rfl,ha,hl,et,ex,hw⟩⟩
 |k::p,.d _,v,as,n0,_,e=>by cases e
theorem aC.ni:∀ {p:List Nat} {t:T} {v:V} {n n':T} {w w':V},aC H t v p n w->aC H t v p n' w'->w=w'
 | [],t,v,n,n',w,w',h,h'=>by
  have e:t=n/\v=w:=by cases t<;>exact h
  have e':t=n'/\v=w':=by cases t<;>exact h'
  exact e.2.symm.trans e'.2
 | k::p,.n kd ts,v,n,n',w,w',h,h'=>by
  simp only[aC]at h h';obtain⟨a,xs,t1,x1,rfl,e2,hl,et,ex,h⟩:=h;obtain⟨a',OM,VB,Vd,ea,Nv,Rc,Tn,Rl,h'⟩:=h';cases ea;have e9:xs=OM:=Kd.inj (k:=kd) (by rw[e2]at Nv;injection Nv) hl Rc
  subst e9;rw[et]at Tn;cases Tn;rw[ex]at Rl;cases Rl;exact aC.ni h h'
 |k::p,.d _,v,n,n',w,w',h,_=>h.elim
theorem qQ{X:L2.Cx}{pos:Pos}(i:Nat){o e k:Expr}{f:Pt}{g:Ex}{h:Xt}{p3:Pos}(hu:X.A.units+64<cLine)(ho:XL X i o f)(hk:XE X k g)(he:XX X e h)(hs:swapsWith e (some (.Subscript o k p3)) pos.line X.env=pure false:=by exact d5 (by rfl)):XS X (.Assign [.Subscript o k p3] e pos) (oy i f g h):=⟨have ho:=ho.out;have hk:=hk.out;have he:=he.out;λF0=>
 cw (L2.pf (by omega) ho hk he hs) λD σ H=>by
  rintro⟨ρ,F,fl,r,e,q⟩
  obtain⟨u,eu,e⟩:=ao.mp e;obtain⟨p,ep,e⟩:=ao.mp e;obtain⟨y,ey,e⟩:=ao.mp e;split at e
  ·rename_i t z q1 hz
   split at e
   ·rename_i ks ts L5
    split at e
    ·rename_i hc
     cases e;obtain⟨⟨w,Ta,ew,tr,nd⟩,_,_⟩:=r.rs.on i _ q1;refine⟨ρ,F,u,r.rs,eu,λv H1 F1 as s1 hn Pr hF TJ=>?_⟩;obtain⟨Nr,r1⟩:=r.rs.wide s1 hn hF (λb hb=>(TJ.fs b hb).2);refine⟨ρ,F1,t,w,p,_,r1,q1,ew,ep,L5,λv0 H2 s2 at2=>⟨ρ,F1,y,r1.same s2,ey,λw2 H3 s3 L0=>?_⟩⟩;have NT:ah H H3:=s1.trans (s2.trans s3);obtain⟨v',Of⟩:=aC.ex tr L5;have ev:v'=v0:=aC.ni (aC.same r.rs q1 ew NT Of) (aC.same (r1.same s2) q1 ew s3 at2);subst ev;obtain⟨bs,tp,sub⟩:=aC.part tr Of;have M3:=tp;simp only[bE,bF,bD,bI]at tp;obtain⟨a,xs,cs,rfl,rfl,fa,ha,hl,LP⟩:=tp;have Ms:=nd.sublist sub;have MN:=GM.mp Ms;cases dH hz L0
     have NZ:(ks.zip xs).length<sizeLine:=by
      have:(sizeLine:Nat)=16777216:=V3;rw[On];omega
     refine⟨a,_,rfl,L2.jH.k (NT _ _ ha) NZ,?_⟩;rw[jl z v hl,Da hc.2];have SH:a∉as:=λhb=>by rw[hn a hb]at ha;cases ha
     have RM:∀b,F b->F1 b:=λb f=>(hF b).mpr (.inl f);have Pl:Mv F H F1 (upd H3 a (.dK ((ks++[z]).zip (xs++[v])))):=λb o n e=>⟨λf=>((hF b).mp f).elim n λhb=>(by rw[hn b hb]at e;cases e),by rw[L2.aE (λz=>by subst z;exact n fa)];exact NT _ _ e⟩
     have Uv:Mv F1 H1 F1 (upd H3 a (.dK ((ks++[z]).zip (xs++[v])))):=λb o n e=>⟨n,by rw[L2.aE (λz=>by subst z;exact n (RM _ fa))];exact(s2.trans s3) _ _ e⟩
     have Pe:ak (aD X) (upd H3 a (.dK ((ks++[z]).zip (xs++[v])))) F1 (ts++[u]) (xs++[v]) (cs++as):=by
      refine ak.append (ak.mv Pl (λb hb o f e=>⟨RM b f,by rw[L2.aE (λz=>by subst z;exact MN.1 hb)];exact NT _ _ e⟩) LP) ?_
      rw[show as=as++[] by simp]
      simp only[ak];exact⟨v,[],as,[],rfl,rfl,TJ.mv Uv λb hb o f e=>⟨f,by rw[L2.aE (λz=>by subst z;exact SH hb)];exact(s2.trans s3) _ _ e⟩,rfl,rfl⟩
     have C:cW (aD X) H (upd H3 a (.dK ((ks++[z]).zip (xs++[v])))) F F1 a (.m ks ts) (.m (ks++[z]) (ts++[u])) (a::cs) (a::(cs++as)):=
      {
       old:=M3
       mem:=v3
       new:=by
        simp only[bE,bF,bD,bI];exact⟨a,_,_,rfl,rfl,RM a fa,L2.aV,by rw[JK,JK,hl];rfl,Pe⟩
       nd:=GM.mpr ⟨λhb=>(KM.mp hb).elim MN.1 SH,M0.mpr ⟨MN.2,Pr,λb hb b' Mt z=>by
        subst z;obtain⟨_,o,e⟩:=LP.fs b hb;rw[hn b Mt]at e;cases e⟩⟩
       out:=λb o n e=>by rw[L2.aE n];exact NT _ _ e
       fs := λb=>by
        rw[hF b];constructor
        ·rintro(f|hb)
         ·exact .inl f
         ·exact .inr (rU _ (FB _ hb))
        ·rintro(f|hb)
         ·exact .inl f
         ·rcases AC.mp hb with rfl|hb
          ·exact .inl fa
          ·rcases KM.mp hb with hb|hb
           ·exact .inl (LP.fs b hb).1
           ·exact .inr hb
       qr:=λb hb=>by
        rcases AC.mp hb with rfl|hb
        ·exact .inl v3
        ·rcases KM.mp hb with hb|hb
         ·exact .inl (rU _ hb)
         ·exact .inr (hn b hb)}
     obtain⟨mv,r'⟩:=r.ir q1 ew Of C rfl;exact q _ _ _ mv r'
    ·cases e
   ·cases e
  ·cases e⟩
end
end PL
namespace PL
open PySem PySem.Spec
open L2 (V Hp HO Cx PE PT PW PA PS cq PG di VK TE TT TA TS TI TG Inv RelV Vals Rd bt bH upd ah Key XK Ends a7 fS bM R2 EP It Turn cO Un)
def FK(K:PySem.W.Frag)(mg:Str->Y6)(x:Str)(st:Stmt):Prop:=∃f fd,L2.gb K x x st f fd/\mg x=some (.ref f)
def FH(P:Program)(w:World)(K:PySem.W.Frag)(mg:Str->Y6)(base:Heap)(x:Str)(st:Stmt):Prop:=FK K mg x st
theorem FK.up{P:Program}{w:World}{K:PySem.W.Frag}{mg:Str->Y6}{base:Heap}{x:Str}{st:Stmt}(h:FK K mg x st):FH P w K mg base x st:=h
theorem FK.mk{K:PySem.W.Frag}{h:Heap}{mg:Str->Y6}{x:Str}{st:Stmt}{f:Addr}{oc:Value}{od an:Y7}{MO:Array (Y6)}{kV doc pm Lk ct:Value}(X:K.In h)(G:h.Ns mainGlobals mg)(a:PySem.W.nsIn K mainGlobals x=some (some (.ref f)))(l:K.lookup f=some ⟨oc,od,.func (PySem.W.fnOf x x (L2.fK st) (L2.cU st) (L2.aH st) .none kV doc pm an Lk ct),MO⟩)
  (c:PySem.W.codeIn K Lk x=true) (k:PySem.W.keepIn K (.ref f)=true):FK K mg x st:=⟨f,_,L2.EH l c k,Wx X G a⟩
theorem bO{N P:List Str}{sc:Scope}(a:sc.kind=.function:=by rfl)(b:sc.isCoroutine=false:=by rfl)(c:sc.isGenerator=false:=by rfl)(d:N.Nodup:=by decide+kernel)(e:N.take P.length=P:=by rfl)(f:∀x∈P,sc.names.lookup x=some .local\/sc.names.lookup x=some .cell:=by decide+kernel)(g:∀y∈sc.names,y.2≠.free:=by decide+kernel):L2.ba N P sc:=⟨a,b,c,d,e,f,g⟩
section
variable{P:Program}{w:World}{K:PySem.W.Frag}{mg:Str->Y6}{base:Heap}{x:Str}{st:Stmt}{N ps:List Str}{k n:Nat}{body:Sm}
abbrev Bd(x:Str)(st:Stmt)(ps:List Str):Prop:=∀(kV doc pm:Value) (an:Y7) (Lk ct:Value) (us:Y5),us.length=ps.length->bindArgs (PySem.W.fnOf x x (L2.fK st) (L2.cU st) (L2.aH st) .none kV doc pm an Lk ct) ⟨us,[]⟩=pure (ps.zip us)
abbrev Jd(P:Program)(w:World)(K:PySem.W.Frag)(mg:Str->Y6)(base:Heap)(x:Str)(st:Stmt)(N:List Str)(k:Nat)(body:Sm):Prop:=∀(f:Addr) (Lk:Value) (A:Around) (outer:List Env) (s:Shared) (H:Hp) (E:XK),L2.b4 k (A.deeper (PyProof.Rows.envOfC x (L2.aH st) s.heap.objs.size f Lk))->gI (L2.fG L2.cV P w K mg base N x (L2.aH st) f Lk A outer s H E).fJ (L2.cU st) body
theorem lcQ{us:List Value}{n:Nat}(h:us.length=n+1):∃a r,us=a::r∧r.length=n:=by
 cases us with
 |nil=>cases h
 |cons a r=>exact⟨a,r,rfl,Nat.succ.inj h⟩
theorem lzQ{us:List Value}(h:us.length=0):us=[]:=List.eq_nil_of_length_eq_zero h
theorem dF(F:FH P w K mg base x st)(S:L2.ba N ps (L2.aH st))(h:Jd P w K mg base x st N k body)(b:Bd x st ps:=by intro _ _ _ _ _ _ us hl;(repeat(have h:=lcQ hl;clear hl;obtain⟨_,us,rfl,hl⟩:=h));cases lzQ hl;rfl)(hn:ps.length=n:=by rfl):Df P w K mg base x (k+1) n (fn N.length body):=by
 obtain⟨f,fd,Fu,hm⟩:=F;exact Ie Fu hm S (Fu.binds b) (h f) hn
theorem Er(F:FH P w K mg base x st)(S:L2.ba N ps (L2.aH st))(h:Jd P w K mg base x st N k body)(b:Bd x st ps:=by intro _ _ _ _ _ _ us hl;(repeat(have h:=lcQ hl;clear hl;obtain⟨_,us,rfl,hl⟩:=h));cases lzQ hl;rfl)(hn:ps.length=n:=by rfl):lS P w K mg base x (k+1) n (j0 N.length body):=by
 obtain⟨f,fd,Fu,hm⟩:=F;exact Fs Fu hm S (Fu.binds b) (h f) hn
theorem k6(F:FH P w K mg base x st)(S:L2.ba N ps (L2.aH st))(h:Jd P w K mg base x st N k body)(b:Bd x st ps:=by intro _ _ _ _ _ _ us hl;(repeat(have h:=lcQ hl;clear hl;obtain⟨_,us,rfl,hl⟩:=h));cases lzQ hl;rfl)(hn:ps.length=n:=by rfl):cJ P w K mg base x (k+1) n (hW N.length body):=by
 obtain⟨f,fd,Fu,hm⟩:=F;exact D0 Fu hm S (Fu.binds b) (h f) hn
variable{X:Cx}{M:Md}{G:Hp}{H:Hp}{H':Hp}{F:Y8}{F':Y8}{σ:L2.St}{ρ:En}{pos:Pos}{pins:List (Addr×Obj)}{s:Shared}
open PySem.AutoSeq1 (wpAny_loadPart') in
open PySem PySem.SeqAt PySem.MeetsSeq PySem.MeetsSeq2 PySem.MeetsSeq3 PySem.SeqRoads2 in
open PySem.AutoSeq1 (wpAny_loadPart') in
open PySem PySem.SeqAt PySem.MeetsSeq PySem.MeetsSeq2 PySem.MeetsSeq3 PySem.SeqRoads2 in
end
section
variable{X:Cx}{M:Md}{G H H':Hp}{F0:Gf}{F F':Y8}{σ:L2.St}{ρ:En}{pos:Pos}{pins:List (Addr×Obj)}{s:Shared}{as:Y3}
theorem xn{H1:Hp}{s1:Shared}{M4:L2.St}(I:Inv X pins σ H s)(nd:as.Nodup)(hH:∀b,b∉as->H' b=H b)(hz:∀b∈as,gK H H' b)(I1:Inv X pins M4 H1 s1)(sm:ah H' H1):
  ∃H2,Inv X pins M4 H2 s1/\ah H H2/\(∀b,b∉as->H2 b=H1 b)/\∀a xs,cT M H1 (λb=>F b/\b∉as) a xs->cT M H2 F a xs:=by
 have nf:∀b∈as,∀o u,X.jv b≠some (.frz o u):=λb hb o u e0=>by
  have h0:=I.base.fN b o u e0;rcases hz b hb with⟨_,xs,h2,hl⟩|⟨ob,kvs,h1,_⟩
  ·rw[h2]at h0;cases h0;exact hl
  ·rw[h1]at h0;cases h0
 have k1:∀b∈as,(H1 b=H b/\∃u,H b=some u/\rD u)\/∃ob kvs,H b=some (.dK kvs)/\H1 b=some (.frz ob (.dK kvs)):=λb hb=>by
  rcases hz b hb with⟨h1,xs,h2,hl⟩|⟨ob,kvs,h1,h2⟩
  ·exact .inl ⟨by rw[h2]at h1 ⊢;exact sm _ _ h1,xs,h2,hl⟩
  ·exact .inr ⟨ob,kvs,h1,sm _ _ h2⟩
 obtain⟨H2,I2,a2,o2⟩:=xX (H:=H) I1 nf (λb hb=>(k1 b hb).imp XZ id) nd;refine⟨H2,I2,λb o e=>?_,o2,λa xs h=>?_⟩
 ·by_cases hb:b∈as
  ·rw[a2 b hb];exact e
  ·rw[o2 b hb];exact sm _ _ (by rw[hH b hb];exact e)
 ·rcases h with⟨n,h⟩|h
  ·have ha:a∉as:=λha=>by
    rcases k1 a ha with⟨h1,ys,h2,hl⟩|⟨ob,kvs,h1,h2⟩
    ·rcases h with h|⟨o,h⟩
     ·rw[h1,h2]at h;cases h;exact hl
     ·rw[h1,h2]at h;cases h;exact hl
    ·rcases h with h|⟨o,h⟩
     ·rw[h2]at h;cases h
     ·rw[h2]at h;cases h
   refine .inl ⟨λf=>n ⟨f,ha⟩,?_⟩;rcases h with h|⟨o,h⟩
   ·exact .inl (by rw[o2 a ha];exact h)
   ·exact .inr ⟨o,by rw[o2 a ha];exact h⟩
  ·exact .inr h
theorem HG (i k:Nat) {st:Stmt} {f:Ex} (h:PS X st (L2.kM (jF (aD X) f) (L2.aF k))):PS X st (L2.kM (jF (aD X) (cS i f)) (L2.aF k)):=by
 intro pins s σ H D I ⟨ρ,F,ds,hr,e,q⟩;unfold cS at e;split at e
 ·rename_i t q1
  obtain⟨d',ed,e⟩:=ao.mp e;split at e
  ·rename_i OW
   by_cases hf:PL.fB OW=true
   ·rw[u9 hf]at e
    cases e;obtain⟨⟨w,as,ew,tr,nd⟩,_,_⟩:=hr.on i _ q1;obtain⟨H',I',hH,hz⟩:=az.frz I tr nd;obtain⟨mv,rs⟩:=hr.bK q1 ew tr hH hz;refine UF (h pins s σ H' {nx:=λM4 H9=>∃p H1 xs,M4=σ.set k (some (.ref p))/\H9=upd H1 p (.lst xs)/\ah H' H1/\H1 p=none/\ae (aD X) H1 (λb=>F b/\b∉as) ds xs,rt:=λ_ _=>False} I' ⟨_,_,_,rs,ed,λp H1 xs s1 hp rv=>⟨p,H1,xs,rfl,rfl,s1,hp,rv⟩⟩) (λfw s1 hs=>?_) λ_ _ x=>x;cases fw with
    | next=>
     obtain⟨M4,H9,I1,p,H1,xs,ex,eH,sm,hp,rv⟩:=hs;subst ex eH;obtain⟨H2,I2,s2,o2,tp⟩:=xn (M:=aD X) (F:=F) I nd hH hz I1 (sm.trans (ah.bZ hp _))
     have Nw:p∉as:=λhb=>by
      rcases hz p hb with⟨h1,ys,h2,_⟩|⟨ob,kvs,h1,h2⟩
      ·rw[sm _ _ (h1.trans h2)]at hp;cases hp
      ·rw[sm _ _ h2]at hp;cases hp
     have e2:H2=upd (λb=>if b=p then none else H2 b) p (.lst xs):=by
      funext b;unfold upd;by_cases hb:b=p
      ·simp only[u9 hb];rw[hb,o2 p Nw,L2.aV]
      ·simp only[Da hb]
     rw[e2]at I2;refine⟨_,_,I2,q p _ xs (λb o e=>?_) (by simp) (ae.ft (λa ys ht=>?_) hf (rv.mv (F':=λb=>F b/\b∉as) (.same (ah.bZ hp (.lst xs)))))⟩
     ·have hb:b≠p:=λz=>by subst z;have:=hH b Nw;rw[e]at this;rw[sm _ _ this]at hp;cases hp
      simp only[Da hb];exact s2 _ _ e
     ·have Pp:=tp a ys ht
      have RN:¬F a->Rd H2 a (.tup ys)->Rd (λb=>if b=p then none else H2 b) a (.tup ys):=λn h=>by
       have ha:a≠p:=λz=>by
        subst z;rw[e2]at h;rcases h with h|⟨o,h⟩
        ·rw[L2.aV]at h;cases h
        ·rw[L2.aV]at h;cases h
       rcases h with h|⟨o,h⟩
       ·exact .inl (by simp only[Da ha];exact h)
       ·exact .inr ⟨o,by simp only[Da ha];exact h⟩
      rcases Pp with⟨n,h⟩|h
      ·exact .inl ⟨n,RN n h⟩
      ·exact .inr h
    |ret v=>obtain⟨_,_,_,_,_,z⟩:=hs;exact z.elim
    |brk=>obtain⟨_,_,_,z⟩:=hs;exact z.elim
    |cont=>obtain⟨_,_,_,z⟩:=hs;exact z.elim
   ·rw[Da hf]at e;cases e
  ·cases e
 ·cases e
noncomputable def Ld(i:Nat)(f:Pt)(e:Ex):Sm:=λρ=>(f ρ).bind λp=>(e ρ).bind λd=>match ρ[i]?,d with
 | some (.on (.tr t)),.int k=>match T.at t p with
  | some (.n .l ts)=>match Bf ts with
   | some vs=>match intsOf vs with
    |some ns=>if ns.length<1000/\k∈ns then .ok (.next (ρ.set i (.on (.tr (T.put (.l (((ns.erase k).map D.int).map .d)) t p)))))else .bad
    |none=>.bad
   |none=>.bad
  |_=>.bad
 |_,_=>.bad
noncomputable def nQ:D->R D
 | .lst ds=>match intsOf ds with
  |some ns=>if ns.length<64 then .ok (.lst ((b8 ns).map .int))else .bad
  |none=>.bad
 |_=>.bad
theorem Km:bM X (.builtin "sorted") (λxs H Q=>∃F p ns,xs=[.ref p]/\fP (aD X) H F p (ns.map V.int)/\ns.length<64/\∀l,H l=none->Q (.ref l) (upd H l (.lst ((b8 ns).map V.int)))):=by
 intro pins s σ H xs us Q I r h;obtain⟨F,p,ns,rfl,hp,QE,q⟩:=h;obtain⟨u,rfl,ru⟩:=L2.vals1 r;cases ru;obtain⟨af,n,sl,hv,hg,_⟩:=iJ I hp;have N2:s.heap.IsList p af.toArray:=⟨_,hg,rfl,n,rfl⟩;have hlen:af.length<64:=by have:=hv.length;rw[Do]at this;omega
 refine PyProof.Rows.sorted_ints N2 (uQ hv) hlen λout Ub a1 a2 a3=>?_;rw[vo a2 a3]at a1;obtain⟨e,he⟩:=PyProof.Rows.sortedAll_at s.heap af out
 have hz:((b8 ns).map V.int).length<=sizeLine:=by
  have:(sizeLine:Nat)=16777216:=V3;rw[Do,(iA ns).length_eq];omega
 have I3:=I.laid (o:=.lst ((b8 ns).map V.int)) (t':=s.toks) (λb u hb=>PyProof.Rows.sortedAll_old (vs:=af) (out:=out) hb) (Nat.le_succ _) ⟨hz,out.toList,e,sE a1,by simpa using he⟩
 exact⟨.ref _,_,I3,rfl,q _ (I.aK.fresh (Nat.le_succ _))⟩
theorem FT:gX M (g1 nQ) (λxs H Q=>∃F p ns,xs=[.ref p]/\fP M H F p (ns.map V.int)/\ns.length<64/\∀l,H l=none->Q (.ref l) (upd H l (.lst ((b8 ns).map V.int)))):=by
 intro F H xs as d Q tr rs e q;unfold g1 at e;split at e
 ·rename_i a
  obtain⟨x,rfl,r⟩:=rs.one;unfold nQ at e;split at e
  ·rename_i ds
   split at e
   ·rename_i ns Oq
    split at e
    ·rename_i QE
     cases e;cases ym Oq;simp only[Rep]at r;obtain⟨p,ys,rfl,h,rs⟩:=r;cases Af rs;exact⟨F,p,ns,rfl,h,QE,λl hl=>q _ _ (ah.bZ hl _) (oP tr hl (vz _))⟩
    ·cases e
   ·cases e
  ·cases e
 ·cases e
noncomputable def jw(f:Ex):Ex:=λρ=>(f ρ).bind λx=>match x with
 |.ai ks vs=>if ks.length=vs.length then .ok (.lst vs)else .bad
 |_=>.bad
theorem CJ{a:Expr}{fa:Ex}{apos B':Pos}{ks:List Ky}{ds:List D}{K:Value->Shared->Prop}(Lz:attributeBase a "values" X.env (eval a X.env)=eval a X.env)(LA:(apos.endLine==B'.line)=true)(ha:JE X a fa)(I:Inv X pins σ H s)(hr:a8 (aD X) H F σ ρ)(ed:fa ρ=.ok (.ai ks ds))
  (k:∀s2 H1 r b xs ws ep,ah H H1->Inv X pins σ H1 s2->ks.length=xs.length->ae (aD X) H1 F ds xs->L2.KV (ks.zip xs) ws->ws.length=xs.length->xs.length<=sizeLine->s2.heap.IsValuesView r b->Heap.DictAt (L2.bz X.prog X.w) s2.heap b ws ep->K (.ref r) s2):
  wpAny (model X.prog X.w) X.A (eval (.Call (.Attribute a "values" apos) [] [] B') X.env) K X.xe s:=by
 refine WN Lz LA (L2.aL (ha pins s σ H _ I ⟨ρ,F,_,hr,ed,λv H1 s1 rv=>(⟨s1,rv⟩:ah H H1/\Rep (aD X) H1 F (.ai ks ds) v)⟩) λu s1 ⟨x1,H1,I1,r1,Qo,rv⟩=>?_);simp only[Rep]at rv;obtain⟨a,xs,rfl,h,hl,rs⟩:=rv;cases r1;obtain⟨ob,_,dz⟩:=pU h;obtain⟨hz,MP,ws,es,ep,rel,_,dat⟩:=hJ I1 dz;have hlen:=fO rel;have NZ:(ks.zip xs).length=xs.length:=by rw[On];omega
 have Om:s1.TypeIs (.ref a) "dict":=let⟨o,_,ho,c,_⟩:=dat;⟨o,ho,c.1⟩
 have Qw:∀b,Value.ref a=.ref b->∃ob,s1.heap.get? b=some ob/\ob.dict=none:=λb e=>by cases e;exact let⟨o,_,ho,c,_⟩:=dat;⟨o,ho,c.2.1⟩
 refine⟨"dict","dict.values",S7,Wy,X9,Om,Qw,VY rfl (WW ?_)⟩;refine WC Wy Om X5 (X0 _) (meets_dict_values (L2.bz X.prog X.w) a MP) ⟨⟨ws,dat.dictOf⟩,?_⟩;exact k {s1 with heap:=_} H1 _ a xs ws ep Qo (I1.kept (t':=s1.toks) λb o e=>cp _ e) hl rs rel (by omega) (by omega) ⟨_,FS _ rfl,rfl,rfl⟩ (dat.push _)
theorem Cc{ks:List Ky}{xs:List V}{ws:List (Key×Value)}{acc:Array Value}(hl:ks.length=xs.length)(rel:L2.KV (ks.zip xs) ws)(hw:ws.length=xs.length)(MX:ItemsOf (λi v=>∃k,ws[i]? =some (k,v)) acc ws.length):Vals xs acc.toList:=
 xV (P:=λ_ _=>True) (by rw[WU,MX.1];omega) λi u hu=>by
  obtain⟨k,MQ⟩:=MX.2 i u (by simpa using hu)
  obtain⟨qq,g1,g2⟩:=zX rel MQ;obtain⟨RA,TM⟩:=mO.mp g1;have hi:i<xs.length:=by rw[On]at RA;omega
  rw[<-TM,Xa]at g2;exact⟨_,KF hi,g2⟩
theorem DQ{f:Ex}{ds:List D}(e:jw f ρ=.ok (.lst ds)):∃ks,f ρ=.ok (.ai ks ds):=by
 obtain⟨d,ed,e⟩:=ao.mp e;split at e
 ·split at e
  ·cases e;exact⟨_,ed⟩
  ·cases e
 ·cases e
theorem Cf{X:L2.Cx}{pos:Pos}{a:Expr}{fa:Ex}{p3 apos B':Pos}(Vi:X.mg "list"=none)(ha:XE X a fa)(Lz:attributeBase a "values" X.env (eval a X.env)=eval a X.env)(hc:X.calm=true:=by exact rfl)(U':L2.Gl X "list":=by rfl)(LA:(apos.endLine==B'.line)=true:=by rfl)(QT:starEach [.Call (.Attribute a "values" apos) [] [] B'] X.env=(false,eval (.Call (.Attribute a "values" apos) [] [] B') X.env)::starEach [] X.env:=by exact bw (by rfl)):XF X (.Call (.Name "list" p3) [.Call (.Attribute a "values" apos) [] [] B'] [] pos) (jw fa):=⟨have ha:=ha.out;by
 intro pins s σ H Q I ⟨ρ,F,ds,hr,e,q⟩;obtain⟨ks,ed⟩:=DQ e;refine Wn (L2.kJ I U' Vi mz (V4 ?_ QT (by rfl)) (by decide) (by decide))
 rw[QT];show wpAny _ _ (spliced ((false,eval _ X.env)::backTo pos (starEach [] X.env))) _ _ s;refine W6 (CJ Lz LA ha I hr ed λs2 H1 r b xs ws ep sm I2 hl rs rel hw hz hv dat=>Xe ?_);refine PySem.W.kdl_call (PySem.W.kdl_values (knd:=L2.bz X.prog X.w) (kvs:=ws) (ep:=ep)) (I.ok.hd hc) ⟨hv,dat⟩ (by omega) λh3 tk acc c' hk T2 MX=>?_
 have I3:=I2.laid (a:=s2.heap.objs.size) (o:=.lst xs) (t':=tk) (h':=h3) (λb u hb=>hk b u hb) (Fk _) ⟨hz,acc.toList,c',Cc hl rel hw MX,by simpa using T2⟩
 exact⟨.ref _,_,I3,rfl,q _ H1 _ sm I2.fresh rs⟩⟩
theorem pH{b:Addr}(h:b∉as):without H as b=H b:=by unfold without;rw[Da h]
theorem yj{b:Addr}(h:b∈as):without H as b=none:=by unfold without;rw[u9 h]
theorem B7{b:Addr}{u:HO}(h:without H as b=some u):b∉as/\H b=some u:=by
 by_cases hb:b∈as
 ·rw[yj hb]at h;cases h
 ·rw[pH hb]at h;exact⟨hb,h⟩
theorem aP.take{i:Nat}{t:T}{w:V}(r:aP M G F0 H F σ ρ)(e1:ρ[i]? =some (.on (.tr t)))(e2:σ[i]? =some (some w))(tr:az M H F t w as):aP M G F0 (without H as) (λb=>F b/\b∉as) σ (ρ.set i .un):=
 (r.away e1 e2 tr (λb hb=>pH hb) (.inl rfl)).2
noncomputable abbrev eR(x:Str):D:=.cj x [⟨#[]⟩,⟨#[]⟩,⟨#[]⟩] []
noncomputable def lF(c:Str):List (Str×(List D->R D))->Option (List D->R D)
 |[]=>none
 |(x,m)::r=>if x=c then some m else lF c r
noncomputable def rV(i:Nat)(tb:List (Str×(List D->R D)))(fs:List Ex):Ex:=λρ=>match ρ[i]? with
 | some (.sh (.cj c [_,_,_] _))=>match lF c tb with
  |some m=>aG m fs ρ
  |none=>.bad
 |_=>.bad
theorem yB{c:Str}{m:List D->R D}:∀ {tb:List (Str×(List D->R D))},lF c tb=some m->(c,m)∈tb
 |[],h=>by cases h
 | (x,m')::r,h=>by
  unfold lF at h;split at h
  ·rename_i e;cases h;rw[e];exact v3
  ·exact rU _ (yB h)
theorem HF{X:L2.Cx}{pos:Pos}(i:Nat){x:Str}{j n:Nat}{tb:List (Str×(List D->R D))}{e:Expr}{es:Y4}{fs:List Ex}{p:Pos}(ds:∀q∈tb,∃k,k<=j/\Df X.prog X.w X.K X.mg X.base q.1 k n q.2)(hr:L2.b4 j X.A)(ha:XA X (e::es) (eList fs))(hN:X.N[i]? =some x:=by rfl)(hv:L2.dS X.env.scope x:=by exact Or.inl rfl)(hd:gV x:=by decide)(L4:TY x:=by decide)(hn:fs.length=n:=by rfl)(he:starEach (e::es) X.env=(false,eval e X.env)::starEach es X.env:=by exact bw (by rfl))(M5:(backTo pos (starEach es X.env)).any (·.1)=false:=by exact jW (by rfl)):XE X (.Call (.Name x p) (e::es) [] pos) (rV i tb fs):=⟨have ha:=ha.out;by
 intro pins s σ H Q I ⟨ρ,F,d,r,e,q⟩;unfold rV at e;split at e
 ·rename_i c n1 n2 n3 vs Mo
  split at e
  ·rename_i m hm
   obtain⟨k,Ph,df⟩:=ds (c,m) (yB hm);obtain⟨f,fd,ps,h1,h2,h3,h4⟩:=df.ex;obtain⟨v,ev,rv⟩:=r.sh i _ Mo;simp only[Rep]at rv;obtain⟨a,_,rfl,z⟩:=rv
   have hg:PySem.W.nsIn X.K mainGlobals c=some (some (.ref a)):=by
    rcases z with⟨_,z⟩|⟨_,⟨z,_⟩|⟨z,_⟩|⟨z,_⟩⟩
    ·exact z
    ·cases z
    ·cases z
    ·cases z
   have h5:X.mg c=some (.ref a):=Wx I.c7 (I.mod.glob.keeps I.bk) hg;rw[show X.mg c=some (.ref f)from h4]at h5
   cases h5;refine Wn (L2.aL ((L2.pv i hN hv hd L4) pins s σ H (λx' H'=>x'=V.ref f/\H'=H) I ⟨_,ev,rfl,rfl⟩) λu s1 ⟨x1,H1,I1,r1,e1,e2⟩=>?_);subst e1 e2;cases r1;refine Yy (h₀:=X.base) I1.ok.mod.mX h3 (L2.aL (ha pos pins s1 σ H1 _ I1 (Ba (E:=L2.E0) hn ⟨ρ,F,d,r,e,q⟩)) λus s2 ⟨vs,H2,I2,rr,q2⟩=>⟨I2.c7,?_⟩) he M5;exact L2.vi h1 (hr.mono Ph) h2 .nil L2.kb I2 rr q2
  ·cases e
 ·cases e⟩
theorem GK{f:Ex}(ρ:En)(d:D)(h:jw f ρ=.ok d):∃ds,d=.lst ds:=by
 obtain⟨x,ex,e⟩:=ao.mp h;split at e
 ·split at e
  ·cases e;exact⟨_,rfl⟩
  ·cases e
 ·cases e
theorem Hd{P:Program}{w:World}{K:PySem.W.Frag}{mg:Str->Y6}{base:Heap}{j n:Nat}:∀q∈([]:List (Str×(List D->R D))),∃k,k<=j/\Df P w K mg base q.1 k n q.2:=λq h=>nomatch h
theorem qD{P:Program}{w:World}{K:PySem.W.Frag}{mg:Str->Y6}{base:Heap}{x:Str}{k j n:Nat}{m:List D->R D}{tb:List (Str×(List D->R D))}(d:Df P w K mg base x k n m)(hk:k<=j)(h:∀q∈tb,∃k,k<=j/\Df P w K mg base q.1 k n q.2):∀q∈(x,m)::tb,∃k,k<=j/\Df P w K mg base q.1 k n q.2:=λq hq=>by
 rcases AC.mp hq with rfl|hq
 ·exact⟨k,hk,d⟩
 ·exact h q hq
noncomputable abbrev Ox:=En->R (D×En)
inductive zI(M:Md)(F0:Gf)(f:Ox)(σ:L2.St)(H:Hp)(Q:VK):Prop
 |mk:∀ρ F d ρ',aP M F0.g F0 H F σ ρ->f ρ=.ok (d,ρ')->(∀v H' F',Mv F H F' H'->aP M F0.g F0 H' F' σ ρ'->Rep M H' F' d v->Q v H')->zI M F0 f σ H Q
abbrev Kf(X:Cx)(e:Expr)(f:Ox):Prop:=∀F0:Gf,PE X e (zI (aD X) F0 f)
structure lq(X:Cx)(e:Expr)(f:Ox):Prop where
 out:Kf X e f
theorem ak.cz{z:Ky}:∀ {ks:List Ky} {ts:List T} {xs:List V} {as:Y3} {m:Nat} {u:T} {x:V} {du:Y3},ak M H F ts xs as->as.Nodup->cB z ks=some m->ts[m]? =some u->xs[m]? =some x->az M H F u x du->∃Lv,ak M H F (aO z ks ts).2 (aO z ks xs).2 Lv/\Lv.Sublist as/\∀b∈du,b∉Lv
 |[],_,_,_,_,_,_,_,_,_,h,_,_,_=>by cases h
 |a::ks,[],_,_,_,_,_,_,_,_,_,h,_,_=>by simp at h
 | a::ks,t::ts,xs,as,m,u,x,du,h,nd,hk,hu,hx,tu=>by
  simp only[ak]at h;obtain⟨y,r,bs,cs,rfl,rfl,h1,h2⟩:=h;have LF:=M0.mp nd;unfold cB at hk;unfold aO;by_cases hz:a=z
  ·rw[u9 hz]at hk
   cases hk;cases hu;cases hx;have:=az.gO h1 tu;subst this;rw[u9 hz,u9 hz];obtain⟨LL,k1,k2⟩:=ak.pop (z:=z) (ks:=ks) h2;exact⟨LL,k1,k2.trans (Wa _ _),λb hb hc=>LF.2.2 b hb b (k2.subset hc) rfl⟩
  ·rw[Da hz]at hk
   cases e:cB z ks with
   |none=>rw[e]at hk;cases hk
   | some m'=>
    rw[e]at hk;cases hk;have OO:ts[m']? =some u:=by simpa using hu
    have LY:r[m']? =some x:=by simpa using hx
    obtain⟨LL,k1,k2,k3⟩:=ak.cz h2 LF.2.1 e OO LY tu;rw[Da hz,Da hz];refine⟨bs++LL,?_,WV (SZ _) k2,λb hb hc=>?_⟩
    ·simp only[ak]
     exact⟨y,_,bs,LL,rfl,rfl,h1,k1⟩
    ·rcases KM.mp hc with hc|hc
     ·obtain⟨x2,ds,ex,rx,sub⟩:=h2.part OO
      rw[LY]at ex;cases ex;have:=az.gO rx tu;subst this;exact LF.2.2 b hc b (sub.subset hb) rfl
     ·exact k3 b hb hc
noncomputable def K6(n:Nat)(b:Sm):T->List D->R (D×T):=λt ds=>(b (.on (.tr t)::(ds.map .sh++List.replicate (n - 1 - ds.length) .un))).bind λ(f:Fl)=>match f with
 | .dJ d ρ=>(match ρ[0]? with
  |some (Slot.on (.tr t'))=>.ok (d,t')
  |_=>.bad)
 |_=>.bad
inductive pC(M:Md)(m:T->List D->R (D×T))(n:Nat)(vs:List V)(H:Hp)(Q:VK)(_x3:XK):Prop
 |mk:∀F ds t t' d w as vs',vs=w::vs'->(∀p,F p->∃o,H p=some o)->az M H F t w as->as.Nodup->ae M H F ds vs'->ds.length=n->m t ds=.ok (d,t')->(∀v H' F' Lv,(∀b u,b∉as->H b=some u->H' b=some u)->(∀b∈Lv,b∈as\/H b=none)->Lv.Nodup->(∀b,F' b↔(F b/\b∉as)\/b∈Lv)->az M H' F' t' w Lv->Rep M H' F' d v->Q v H')->pC M m n vs H Q _x3
structure iI(P:Program)(w:World)(K:PySem.W.Frag)(mg:Str->Y6)(base:Heap)(x:Str)(k n:Nat)(m:T->List D->R (D×T)):Prop where
 ex:∃f fd ps,L2.dX P w K mg base L2.cV k f fd ps (pC ⟨K,P,w⟩ m n)/\L2.Binds K fd ps []/\PySem.W.keepIn K (.ref f)=true/\mg x=some (.ref f)
noncomputable def iL(i:Nat)(m:T->List D->R (D×T))(fs:List Ex):Ox:=λρ=>(eList fs ρ).bind λds=>match ρ[i]? with
 |some (.on (.tr t))=>(m t ds).bind λy=>if y.2.own=true then .ok (y.1,(b9 i [] ρ).set i (.on (.tr y.2)))else .bad
 |_=>.bad
noncomputable def oD(f:Ox)(c:Ex):Ox:=λρ=>(f ρ).bind λy=>(c y.2).bind λz=>(av y.1 z).bind λd=>.ok (d,y.2)
theorem pb{X:L2.Cx}(i:Nat){x y:Str}{k j n:Nat}{m:T->List D->R (D×T)}{es:Y4}{fs:List Ex}{p p2 B':Pos}(d:iI X.prog X.w X.K X.mg X.base y k n m)(hr:L2.b4 j X.A)(ha:XA X es (eList fs))(hg:L2.Gl X y:=by rfl)(hN:X.N[i]? =some x:=by rfl)(hv:L2.dS X.env.scope x:=by first|exact Or.inl rfl|exact Or.inr (Or.inl rfl))(hd:gV x:=by decide)(L4:TY x:=by decide)(hk:k<=j:=by decide)(hn:fs.length=n:=by rfl)(MD:gV y:=by decide)(he:starEach (.Name x p2::es) X.env=(false,eval (.Name x p2) X.env)::starEach es X.env:=by exact bw (by rfl))(M5:(backTo B' (starEach es X.env)).any (·.1)=false:=by exact jW (by rfl)):lq X (.Call (.Name y p) (.Name x p2::es) [] B') (iL i m fs):=⟨have ha:=ha.out;λF0=>by
 obtain⟨f,fd,ps,h1,h2,h3,h4⟩:=d.ex;refine bo (L2.oo h1 (hr.mono hk) hg h4 h3 h2 .nil L2.kb (L2.gj (L2.pv i hN hv hd L4) ha he) MD he M5) λσ H Q ⟨ρ,F,d,ρ',r,e,q⟩=>?_;obtain⟨ds,NJ,e⟩:=ao.mp e;split at e
 ·rename_i t q1
  obtain⟨⟨dd,t'⟩,et,e⟩:=ao.mp e;split at e
  ·rename_i RS
   cases e;obtain⟨⟨w,as,ew,tr,nd⟩,_,_⟩:=r.rs.on i _ q1;refine⟨w,ew,ρ,F,ds,r.rs,NJ,λvs H1 s1 rs=>?_⟩;show pC _ m n ((w::vs)++[]) H1 _ _;rw[VW];have r1:=r.same s1;obtain⟨⟨w1,Mx,Te,Ni,Pq⟩,_,_⟩:=r1.rs.on i _ q1;rw[ew]at Te;cases Te;refine⟨F,ds,t,t',dd,w,Mx,vs,rfl,r1.rs.aU,Ni,Pq,rs,by rw[hX NJ];exact hn,et,λv H' F' Lv ho Ma Mm hF L3 rd=>?_⟩
   obtain⟨mv,r'⟩:=(r1.drop i []).Ed (wM q1) ew Ni Ma ho hF L3 Mm (λj p h t1 w' OG o1=>by
    rcases ux h with z|⟨_,z⟩
    ·cases z
    ·have:=z p rfl
     cases p with
     | nil=>
      simp only[aC]at OG;exact⟨t',RS,by unfold aC;exact⟨rfl,OG.2⟩⟩
     |cons a b=>cases this)
   exact q _ _ _ (Mv.trans (.same s1) mv) r' rd
  ·cases e
 ·cases e⟩
theorem B0{X:L2.Cx}{pos:Pos}{a b:Expr}{f:Ox}{c:Ex}(ha:lq X a f)(hb:XE X b c)(hs:L2.mj b):lq X (.Subscript a b pos) (oD f c):=⟨have ha:=ha.out;have hb:=hb.out;λF0=>
 bo (L2.mQ Am (ha F0) hb hs) λσ H Q=>by
  rintro⟨ρ,F,d,ρ',r,e,q⟩
  obtain⟨⟨y,LJ⟩,ey,e⟩:=ao.mp e;obtain⟨z,ez,e⟩:=ao.mp e;obtain⟨x,ex,e⟩:=ao.mp e;cases e;exact⟨ρ,F,y,LJ,r,ey,λv H1 F1 mv r1 rv=>⟨LJ,F1,z,r1.rs,ez,λv2 H2 s2 rz=>yq F1 H2 _ _ y z d _ (r1.same s2).rs.aU (rv.mv (.same s2)) rz ex λv3 H3 s3 r3=>q _ _ _ (mv.trans (.same (s2.trans s3))) ((r1.same s2).same s3) r3⟩⟩⟩
open PySem.AutoSeq1 (wpAny_loadPart') in
open PySem PySem.SeqAt PySem.MeetsSeq PySem.MeetsSeq2 PySem.MeetsSeq3 PySem.SeqRoads2 in
open PySem.AutoSeq1 (wpAny_loadPart') in
open PySem PySem.SeqAt PySem.MeetsSeq PySem.MeetsSeq2 PySem.MeetsSeq3 PySem.SeqRoads2 in
end
noncomputable def cz(z:Ky):List Ky->Nat->Nat
 |k::ks,m+1=>if k=z then cz z ks m else cz z ks m+1
 |_,_=>0
theorem nN{α:Type}{z:Ky}:∀ {ks:List Ky} {ts:List α} {m:Nat} {k:Ky} {t:α},ks[m]? =some k->k≠z->ts[m]? =some t->(aO z ks ts).2[cz z ks m]? =some t
 |[],_,m,_,_,h,_,_=>by simp at h
 |_::_,[],m,_,_,_,_,h=>by simp at h
 | a::ks,b::ts,0,k,t,h,hn,ht=>by
  cases h;cases ht;unfold aO cz;rw[Da hn];rfl
 | a::ks,b::ts,m+1,k,t,h,hn,ht=>by
  have ih:=nN (z:=z) (ks:=ks) (ts:=ts) (m:=m) (by simpa using h) hn (by simpa using ht)
  unfold aO cz;by_cases ha:a=z
  ·rw[u9 ha,u9 ha];exact ih
  ·rw[Da ha,Da ha];simpa using ih
noncomputable def lH(i:Nat)(p:List Nat)(z:Ky)(ks:List Ky)(s:Option Slot):Option (List Nat):=match s with
 |some (.on (.al k q))=>if k=i/\q=p++[q.getLastD 0]/\(∃a,ks[q.getLastD 0]? =some a/\a≠z)then some (p++[cz z ks (q.getLastD 0)])else none
 |_=>none
section
variable{X:Cx}{M:Md}{G H H':Hp}{F0:Gf}{F F':Y8}{σ:L2.St}{ρ:En}{pos:Pos}{pins:List (Addr×Obj)}{s:Shared}{as:Y3}
theorem aC.wb{H2:Hp}{F2:Y8}{n0 n1:T}{c:Addr}{NG MW:Y3}(C:cW M H H2 F F2 c n0 n1 NG MW):∀ {p:List Nat} {t:T} {v:V} {as:Y3},az M H F t v as->as.Nodup->aC H t v p n0 (.ref c)->aC H2 (T.put n1 t p) v p n1 (.ref c)
 | [],t,v,as,tr,nd,hp=>by
  have e':t=n0/\v=.ref c:=by cases t<;>exact hp
  rw[e'.2,show T.put n1 t []=n1 by cases t<;>rfl]
  exact aC.here _ _
 |k::p,.d _,v,as,tr,nd,hp=>hp.elim
 | k::p,.n kd ts,v,as,tr,nd,hp=>by
  simp only[aC]at hp;simp only[az]at tr;obtain⟨a,xs,tp,xp,rfl,e2,l0,NP,exp,hp⟩:=hp;obtain⟨a2,ys,bs,Qf,rfl,f,Oj,l2,r⟩:=tr;cases Qf;have e9:xs=ys:=Kd.inj (k:=kd) (by rw[Oj]at e2;injection e2 with z;exact z.symm) l0 l2
  subst e9;have LF:=Kd.nodup.mp nd;obtain⟨SW,dp,M',rp,MS⟩:=r.part NP;rw[exp]at M';cases M';obtain⟨hc,_⟩:=az.put C rp (LF.2.sublist MS) hp
  have ha:H2 a=some (kd.ho xs):=by
   by_cases o:kd.own=true
   ·exact C.out a _ (Kd.ne nd o (MS.subset hc)) Oj
   ·exact(C.mv _ _ (λz=>o (f.mp z)) Oj).2
  have h2:=aC.wb C rp (LF.2.sublist MS) hp;show aC _ (match ts[k]? with|some t=>T.n kd (ts.set k (T.put n1 t p))|none=>T.n kd ts) _ _ n1 _
  rw[NP];simp only[aC];exact⟨a,_,_,_,rfl,ha,l2,xf NP,exp,h2⟩
theorem wC{α:Type}{l:List α}{j:Nat}{a:α}(h:l[j]? =some a):l.set j a=l:=by
 refine List.ext_getElem? λk=>?_;by_cases hk:j=k
 ·subst hk;rw[MG (mO.mp h).1,h]
 ·rw[bU hk]
theorem wH{i:Nat}{p p':List Nat}{z:Ky}{ks:List Ky}{s:Option Slot}(h:lH i p z ks s=some p'):∃(m:Nat) (a:Ky),s=some (.on (.al i (p++[m])))/\ks[m]? =some a/\a≠z/\p'=p++[cz z ks m]:=by
 unfold lH at h;split at h
 ·rename_i k q
  split at h
  ·rename_i hc
   obtain⟨rfl,hq,a,ha,hn⟩:=hc;cases h;exact⟨q.getLastD 0,a,by rw[<-hq],ha,hn,rfl⟩
  ·cases h
 ·cases h
theorem aC.last:∀ {p:List Nat} {t:T} {v:V} {m:Nat} {t1:T} {w:V},aC H t v (p++[m]) t1 w->∃n0 x,aC H t v p n0 x/\aC H n0 x [m] t1 w
 |[],t,v,m,t1,w,h=>⟨t,v,aC.here _ _,h⟩
 |k::p,.d _,v,m,t1,w,h=>h.elim
 | k::p,.n kd ts,v,m,t1,w,h=>by
  rw[W8]at h;simp only[aC]at h;obtain⟨a,xs,tp,xp,rfl,e2,l0,NP,exp,hp⟩:=h;obtain⟨n0,x,h1,h2⟩:=aC.last hp;exact⟨n0,x,by simp only[aC];exact⟨a,xs,tp,xp,rfl,e2,l0,NP,exp,h1⟩,h2⟩
noncomputable def qL(j i:Nat)(f:Pt)(k:Ex):Sm:=λρ=>(f ρ).bind λp=>(k ρ).bind λq=>match ρ[i]?,keyOf q with
 | some (.on (.tr t)),some z=>match T.at t p with
  | some (.n (.m ks) ts)=>match lH i p z ks ρ[j]? with
   |some p'=>if(cB z ks).isSome=true/\i≠j then .ok (.next (((b9 i p ρ).set i (.on (.tr (T.put (.m (aO z ks ts).1 (aO z ks ts).2) t p)))).set j (.on (.al i p'))))else .bad
   |none=>.bad
  |_=>.bad
 |_,_=>.bad
theorem IF{X:L2.Cx}{pos:Pos}(j:Nat)(i:Nat){o k:Expr}{f:Pt}{g:Ex}{apos B':Pos}(ho:XL X i o f)(hk:XE X k g)(m:L2.M1 X o "pop" apos k B')(MJ:swapsWith (.Call (.Attribute o "pop" apos) [k] [] B') none pos.line X.env=pure false:=by exact d5 (by rfl)):XS X (.Expr (.Call (.Attribute o "pop" apos) [k] [] B') pos) (qL j i f g):=⟨have ho:=ho.out;have hk:=hk.out;λF0=>
 cw (L2.jg (L2.qi ho hk m) MJ) λD σ H=>by
  rintro⟨ρ,F,fl,r,e,q⟩
  obtain⟨p,ep,e⟩:=ao.mp e;obtain⟨y,ey,e⟩:=ao.mp e;split at e
  ·rename_i t z q1 hz
   split at e
   ·rename_i ks ts L5
    split at e
    ·rename_i p' hka
     split at e
     ·rename_i OD
      cases e;obtain⟨OD,Ow⟩:=OD;obtain⟨m1,ka,e9,QA,P4,rfl⟩:=wH hka;obtain⟨⟨w,as,ew,tr,nd⟩,_,_⟩:=r.rs.on i _ q1;refine⟨ρ,F,t,w,p,_,r.rs,q1,ew,ep,L5,λv0 H2 s2 at2=>?_⟩;have r2:=r.same s2;obtain⟨⟨w',Lv,MR,L3,Mm⟩,_,_⟩:=r2.rs.on i _ q1;rw[ew]at MR;cases MR;obtain⟨bs,tp,sub⟩:=aC.part L3 at2;simp only[bE,bF,bD,bI]at tp;obtain⟨a,SM,TH,rfl,rfl,_,Qy,_,_⟩:=tp;refine⟨a,rfl,.inl ⟨_,.inl Qy⟩,ρ,F,y,r2.rs,ey,λw2 H3 s3 L0=>?_⟩;have r3:=r2.same s3;have ME:=at2.same r2.rs q1 ew s3;obtain⟨⟨w3,Tu,OT,N6,Nk⟩,_,_⟩:=r3.rs.on i _ q1;rw[ew]at OT;cases OT;obtain⟨Sz,Oe,N4⟩:=aC.part N6 ME;have M3:=Oe;simp only[bE,bF,bD,bI]at Oe;obtain⟨a',xs,cs,Qh,rfl,fa,O5,hl,MZ⟩:=Oe;cases Qh;have Ms:=Nk.sublist N4;have MN:=GM.mp Ms;cases dH hz L0;obtain⟨mm,OY⟩:=Ww.mp OD;obtain⟨x1,hx,hv⟩:=kR hl OY;refine⟨_,z,x1,O5,rfl,hv,?_⟩;rw[oG hl];have NO:∀o:HO,Mv F H3 F (upd H3 a o):=λo b u n e=>⟨n,by rw[L2.aE (λz=>by subst z;exact n fa)];exact e⟩
      have kp:∀(o:HO) {LL:Y3},LL.Sublist cs->∀b∈LL,∀u,F b->H3 b=some u->F b/\upd H3 a o b=some u:=λo LL hs b hb u f hu=>⟨f,by rw[L2.aE (λz=>by subst z;exact MN.1 (hs.subset hb))];exact hu⟩
      obtain⟨LL,k1,k2⟩:=ak.pop (z:=z) (ks:=ks) MZ;have Mr:(aO z ks ts).1=(aO z ks xs).1:=ny MZ.len
      have C:cW (aD X) H3 (upd H3 a (.dK ((aO z ks xs).1.zip (aO z ks xs).2))) F F a (.m ks ts) (.m (aO z ks ts).1 (aO z ks ts).2) _ _:=cW.of M3 Ms k2 (by
       simp only[bE,bF,bD,bI];exact⟨a,_,LL,rfl,rfl,fa,by rw[Mr];exact L2.aV,by rw[Mr];exact j2 hl,k1.mv (NO _) (kp _ k2)⟩)
      obtain⟨mv,r'⟩:=r3.ir q1 ew ME C rfl;obtain⟨v1,wj,t2,f1,f2,R8,o2⟩:=(r3.rs.on j _ e9).1 t q1;rw[ew]at f1;cases f1;obtain⟨n0,x0,g1,g2⟩:=aC.last R8;have e3:=aC.ni g1 ME;subst e3;have e4:n0=.m ks ts:=Pv ((aC.ox g1).symm.trans L5);subst e4;simp only[aC]at g2;obtain⟨a5,OZ,t5,x5,Q7,h5,l5,Sh,Sj,g5⟩:=g2;cases Q7;have e6:OZ=xs:=Kd.inj (k:=.m ks) (by rw[O5]at h5;injection h5 with z;exact z.symm) l5 hl
      subst e6;have e7:t5=t2/\x5=wj:=by cases t5<;>exact g5
      obtain⟨rfl,rfl⟩:=e7;have Rq:aC (upd H3 a (.dK ((aO z ks OZ).1.zip (aO z ks OZ).2))) (T.put (.m (aO z ks ts).1 (aO z ks ts).2) t p) w (p++[cz z ks m1]) t5 x5:=aC.snoc (aC.uG (by rw[Mr];exact L2.aV) (by rw[Mr];exact j2 hl) (nN QA P4 Sh) (nN QA P4 Sj)) (aC.wb C N6 Nk ME)
      have RL:i<ρ.length:=(mO.mp q1).1;have r9:=r'.uy (j:=j) (MG (by unfold b9;rw[Do];exact RL)) ew Rq o2 Ow
      rw[wC f2]at r9;exact q _ _ _ (Mv.trans (.same (s2.trans s3)) mv) r9
     ·cases e
    ·cases e
   ·cases e
  ·cases e⟩
noncomputable def mL(j i:Nat)(f:Pt)(k:Ex)(c:Str):Ox:=λρ=>(f ρ).bind λp=>(k ρ).bind λq=>match ρ[i]?,keyOf q with
 | some (.on (.tr t)),some z=>match T.at t p with
  | some (.n (.m ks) ts)=>match lH i p z ks ρ[j]?,cB z ks with
   | some p',some m=>match ts[m]? with
    | some (.n (.m kc) us)=>match cB (.inr c) kc with
     | some l=>match us[l]? with
      |some (.d x)=>if i≠j then .ok (x,((b9 i p ρ).set i (.on (.tr (T.put (.m (aO z ks ts).1 (aO z ks ts).2) t p)))).set j (.on (.al i p')))else .bad
      |_=>.bad
     |none=>.bad
    |_=>.bad
   |_,_=>.bad
  |_=>.bad
 |_,_=>.bad
noncomputable def qF(i:Nat)(f:Pt)(k:Ex)(e:Ox):Sm:=λRR=>(e RR).bind λy=>(f y.2).bind λp=>(k y.2).bind λq=>match y.2[i]?,q with
 | some (.on (.tr t)),.int j=>match T.at t p with
  | some (.n .l ts)=>match cI ts.length j with
   |some m=>.ok (.next ((b9 i p y.2).set i (.on (.tr (T.put (.l (ts.set m (.d y.1))) t p)))))
   |none=>.bad
  |_=>.bad
 |_,_=>.bad
theorem HU{X:L2.Cx}{pos:Pos}(j i:Nat){o k:Expr}{f:Pt}{g:Ex}{c:Str}{apos B' Sq:Pos}{ik:Nat}(ho:XL X i o f)(hk:XE X k g)(m:L2.M1 X o "pop" apos k B'):lq X (.Subscript (.Call (.Attribute o "pop" apos) [k] [] B') (.Constant (.str c) ik Sq) pos) (mL j i f g c):=⟨have ho:=ho.out;have hk:=hk.out;λF0=>
 bo (L2.mQ sH (L2.qi ho hk m) L2.yD (λ_ _=>rfl)) λσ H Q=>by
  rintro⟨ρ,F,d,ρ',r,e,q⟩
  obtain⟨p,ep,e⟩:=ao.mp e;obtain⟨y,ey,e⟩:=ao.mp e;split at e
  ·rename_i t z q1 hz
   split at e
   ·rename_i ks ts L5
    split at e
    ·rename_i p' mm hka OY
     split at e
     ·rename_i kc us hus
      split at e
      ·rename_i l hl9
       split at e
       ·rename_i x9 hx9
        split at e
        ·rename_i Ow
         cases e;obtain⟨m1,ka,e9,QA,P4,rfl⟩:=wH hka;obtain⟨⟨w,as,ew,tr,nd⟩,_,_⟩:=r.rs.on i _ q1;refine⟨ρ,F,t,w,p,_,r.rs,q1,ew,ep,L5,λv0 H2 s2 at2=>?_⟩;have r2:=r.same s2;obtain⟨⟨w',Lv,MR,L3,Mm⟩,_,_⟩:=r2.rs.on i _ q1;rw[ew]at MR;cases MR;obtain⟨bs,tp,sub⟩:=aC.part L3 at2;simp only[bE,bF,bD,bI]at tp;obtain⟨a,SM,TH,rfl,rfl,_,Qy,_,_⟩:=tp;refine⟨a,rfl,.inl ⟨_,.inl Qy⟩,ρ,F,y,r2.rs,ey,λw2 H3 s3 L0=>?_⟩;have r3:=r2.same s3;have ME:=at2.same r2.rs q1 ew s3;obtain⟨⟨w3,Tu,OT,N6,Nk⟩,_,_⟩:=r3.rs.on i _ q1;rw[ew]at OT;cases OT;obtain⟨Sz,Oe,N4⟩:=aC.part N6 ME;have M3:=Oe;simp only[bE,bF,bD,bI]at Oe;obtain⟨a',xs,cs,Qh,rfl,fa,O5,hl,MZ⟩:=Oe;cases Qh;have Ms:=Nk.sublist N4;have MN:=GM.mp Ms;cases dH hz L0;obtain⟨x1,hx,Of⟩:=kR hl OY;obtain⟨Vd,du,PX,tu,Sf⟩:=MZ.part hus;rw[hx]at PX;cases PX;obtain⟨LL,k1,k2,k3⟩:=ak.cz MZ MN.2 OY hus hx tu;obtain⟨b,ys,es,rfl,rfl,fb,hb,UZ,RU⟩:=bD.mp tu;obtain⟨xc,dc,exc,tc,Uk⟩:=RU.part hx9;have Nm:b≠a:=λz=>MN.1 (z▸Sf.subset v3);refine⟨_,z,_,O5,rfl,Of,?_⟩;rw[oG hl];have NO:∀o:HO,Mv F H3 F (upd H3 a o):=λo b u n e=>⟨n,by rw[L2.aE (λz=>by subst z;exact n fa)];exact e⟩
         have kp:∀(o:HO) {LL:Y3},LL.Sublist cs->∀b∈LL,∀u,F b->H3 b=some u->F b/\upd H3 a o b=some u:=λo LL hs b hb u f hu=>⟨f,by rw[L2.aE (λz=>by subst z;exact MN.1 (hs.subset hb))];exact hu⟩
         have Mr:(aO z ks ts).1=(aO z ks xs).1:=ny MZ.len
         have C:cW (aD X) H3 (upd H3 a (.dK ((aO z ks xs).1.zip (aO z ks xs).2))) F F a (.m ks ts) (.m (aO z ks ts).1 (aO z ks ts).2) _ _:=cW.of M3 Ms k2 (by
          simp only[bE,bF,bD,bI];exact⟨a,_,LL,rfl,rfl,fa,by rw[Mr];exact L2.aV,by rw[Mr];exact j2 hl,k1.mv (NO _) (kp _ k2)⟩)
         obtain⟨mv,r'⟩:=r3.ir q1 ew ME C rfl;obtain⟨v1,wj,t2,f1,f2,R8,o2⟩:=(r3.rs.on j _ e9).1 t q1;rw[ew]at f1;cases f1;obtain⟨n0,x0,g1,g2⟩:=aC.last R8;have e3:=aC.ni g1 ME;subst e3;have e4:n0=.m ks ts:=Pv ((aC.ox g1).symm.trans L5);subst e4;simp only[aC]at g2;obtain⟨a5,OZ,t5,x5,Q7,h5,l5,Sh,Sj,g5⟩:=g2;cases Q7;have e6:OZ=xs:=Kd.inj (k:=.m ks) (by rw[O5]at h5;injection h5 with z;exact z.symm) l5 hl
         subst e6;have e7:t5=t2/\x5=wj:=by cases t5<;>exact g5
         obtain⟨rfl,rfl⟩:=e7;have Rq:aC (upd H3 a (.dK ((aO z ks OZ).1.zip (aO z ks OZ).2))) (T.put (.m (aO z ks ts).1 (aO z ks ts).2) t p) w (p++[PL.cz z ks m1]) t5 x5:=aC.snoc (aC.uG (by rw[Mr];exact L2.aV) (by rw[Mr];exact j2 hl) (nN QA P4 Sh) (nN QA P4 Sj)) (aC.wb C N6 Nk ME)
         have RL:i<ρ.length:=(mO.mp q1).1;have r9:=r'.uy (j:=j) (MG (by unfold b9;rw[Do];exact RL)) ew Rq o2 Ow
         rw[wC f2]at r9;obtain⟨x8,Ts,UO⟩:=kR UZ hl9;rw[exc]at Ts;cases Ts;refine .inr ⟨b,_,.inr c,_,rfl,rfl,.inl (by rw[L2.aE Nm];exact hb),UO,?_⟩
         exact q _ _ _ (Mv.trans (.same (s2.trans s3)) mv) r9 ((bE.mp tc).2.mv mv)
        ·cases e
       ·cases e
      ·cases e
     ·cases e
    ·cases e
   ·cases e
  ·cases e⟩
theorem Hc{X:L2.Cx}{pos:Pos}(i:Nat){o e k:Expr}{f:Pt}{g:Ex}{h:Ox}{p3:Pos}(ho:XL X i o f)(he:lq X e h)(hk:XE X k g)(ha:eV X.env o k p3)(hs:swapsWithSole [.Subscript o k p3] e pos.line X.env=pure false:=by exact rm (by rfl))(hw:swappedStores [.Subscript o k p3] e X.env=pure none:=by exact uT (by rfl))(h1:(assignEach [.Subscript o k p3] X.env).map (·.2)=[assign (.Subscript o k p3) X.env]:=by exact mR (by rfl)):XS X (.Assign [.Subscript o k p3] e pos) (qF i f g h):=⟨have ho:=ho.out;have he:=he.out;have hk:=hk.out;λF0=>
 cw (L2.qA (he F0) (L2.vY ho hk L2.set_list ha) hs hw h1) λD σ H=>by
  rintro⟨RR,F,fl,r0,e,q⟩
  obtain⟨⟨d,ρ⟩,ed,e⟩:=ao.mp e;obtain⟨p,ep,e⟩:=ao.mp e;obtain⟨y,ey,e⟩:=ao.mp e;dsimp only at ep ey e;split at e
  ·rename_i t j q1
   split at e
   ·rename_i ts L5
    split at e
    ·rename_i m hm
     cases e;refine⟨RR,F,d,ρ,r0,ed,λv H1 F1 Nr r rv=>?_⟩;obtain⟨⟨w,as,ew,tr,nd⟩,_,_⟩:=r.rs.on i _ q1;refine⟨ρ,F1,t,w,p,_,r.rs,q1,ew,ep,L5,λv0 H2 s2 at2=>⟨ρ,F1,_,(r.same s2).rs,ey,λw2 H3 s3 L0=>?_⟩⟩;have r2:=r.same s2;have r3:=r2.same s3;have ME:=at2.same r2.rs q1 ew s3;obtain⟨⟨w',Lv,MR,L3,Mm⟩,_,_⟩:=r3.rs.on i _ q1;rw[ew]at MR;cases MR;obtain⟨bs,tp,sub⟩:=aC.part L3 ME;have M3:=tp;simp only[bE,bF,bD,bI]at tp;obtain⟨a,xs,cs,rfl,rfl,fa,ha,LP⟩:=tp;have Ms:=Mm.sublist sub;have MN:=GM.mp Ms;have PB:=rv.mv (M:=aD X) (F':=F1) (.same (s2.trans s3));refine⟨a,xs,j,m,rfl,bC L0,ha,by rw[<-LP.len];exact hm,?_⟩
     have NO:∀o:HO,Mv F1 H3 F1 (upd H3 a o):=λo b u n e=>⟨n,by rw[L2.aE (λz=>by subst z;exact n fa)];exact e⟩
     obtain⟨LL,k1,k2⟩:=ak.vB PB (m:=m) LP
     obtain⟨mv,r'⟩:=r3.ir (H2:=upd H3 a (.lst (xs.set m v))) (F2:=F1) (n1:=.l (ts.set m (T.d d))) q1 ew ME (cW.of M3 Ms k2 (by
      simp only[bE,bF,bD,bI];exact⟨a,_,LL,rfl,rfl,fa,L2.aV,k1.mv (NO _) λb hb u f hu=>⟨f,by rw[L2.aE (λz=>by subst z;exact MN.1 (k2.subset hb))];exact hu⟩⟩)) rfl
     exact q _ _ _ (Mv.trans Nr (Mv.trans (.same (s2.trans s3)) mv)) r'
    ·cases e
   ·cases e
  ·cases e⟩
noncomputable def nZ(i j:Nat)(f:Pt)(k:Ex):Sm:=λρ=>(f ρ).bind λp=>(k ρ).bind λq=>match ρ[i]?,ρ[j]?,keyOf q with
 | some (.on (.tr t)),some (.on (.tr u)),some z=>match T.at t p with
  |some (.n (.m ks) ts)=>if i≠j/\ks.length<1000/\¬(ks.any λa=>decide (a=z))=true then .ok (.next ((b9 i p (ρ.set j .un)).set i (.on (.tr (T.put (.m (ks++[z]) (ts++[u])) t p)))))else .bad
  |_=>.bad
 |_,_,_=>.bad
theorem zz{X:L2.Cx}{pos:Pos}(i:Nat)(j:Nat){o k:Expr}{y:Str}{f:Pt}{g:Ex}{p2 p3:Pos}(hu:X.A.units+64<cLine)(ho:XL X i o f)(hk:XE X k g)(T9:X.N[j]? =some y:=by rfl)(Oi:L2.dS X.env.scope y:=by exact Or.inl rfl)(hd2:gV y:=by decide)(Ri:TY y:=by decide)(hs:swapsWith (.Name y p2) (some (.Subscript o k p3)) pos.line X.env=pure false:=by exact d5 (by rfl)):XS X (.Assign [.Subscript o k p3] (.Name y p2) pos) (nZ i j f g):=⟨have ho:=ho.out;have hk:=hk.out;λF0=>
 cw (L2.pf (by omega) ho hk (L2.pv j T9 Oi hd2 Ri) hs) λD σ H=>by
  rintro⟨ρ,F,fl,r,e,q⟩
  obtain⟨p,ep,e⟩:=ao.mp e;obtain⟨y,ey,e⟩:=ao.mp e;split at e
  ·rename_i t u z q1 q2 hz
   split at e
   ·rename_i ks ts L5
    split at e
    ·rename_i hc
     cases e;obtain⟨Ow,Mp,Pd⟩:=hc;obtain⟨⟨w,as,ew,tr,nd⟩,_,h3⟩:=r.rs.on i _ q1;obtain⟨⟨v,cu,ev,PH,Ul⟩,_,_⟩:=r.rs.on j _ q2;have apart:∀b∈as,b∉cu:=λb ha hb=>h3 _ rfl j u q2 (Os Ow) b ⟨_,w,as,q1,ew,tr,ha⟩ ⟨u,v,cu,q2,ev,PH,hb⟩;refine⟨v,ev,ρ,F,t,w,p,_,r.rs,q1,ew,ep,L5,λv0 H2 s2 at2=>⟨ρ,F,y,r.rs.same s2,ey,λw2 H3 s3 L0=>?_⟩⟩;have NT:ah H H3:=s2.trans s3;obtain⟨v',Of⟩:=aC.ex tr L5;have e9:v'=v0:=aC.ni (aC.same r.rs q1 ew NT Of) (aC.same (r.rs.same s2) q1 ew s3 at2);subst e9;obtain⟨bs,tp,sub⟩:=aC.part tr Of;have M3:=tp;simp only[bE,bF,bD,bI]at tp;obtain⟨a,xs,cs,rfl,rfl,fa,ha,hl,LP⟩:=tp;have Ms:=nd.sublist sub;have MN:=GM.mp Ms;cases dH hz L0
     have NZ:(ks.zip xs).length<sizeLine:=by
      have:(sizeLine:Nat)=16777216:=V3;rw[On];omega
     refine⟨a,_,rfl,L2.jH.k (NT _ _ ha) NZ,?_⟩;rw[jl z v hl,Da Pd];have fs:=tr.fs;have fu:=PH.fs;have SF:a∉cu:=apart a (sub.subset v3);have r0:=r.take q2 ev PH;have mw:Mv F H (λb=>F b/\b∉cu) (without H cu):=λb o n e=>⟨λh=>n h.1,by rw[pH λhb=>n (fu b hb).1];exact e⟩
     have kw:∀b∈as,∀o,F b->H b=some o->(F b/\b∉cu)/\without H cu b=some o:=λb hb o f e=>⟨⟨f,apart b hb⟩,by rw[pH (apart b hb)];exact e⟩
     have Na:aC (without H cu) t w p (.m ks ts) (.ref a):=Of.mv (λb o n e=>(mw b o n e).2) tr λb hb o f e=>(kw b hb o f e).2;have Pl:Mv F H F (upd H3 a (.dK ((ks++[z]).zip (xs++[v])))):=λb o n e=>⟨n,by rw[L2.aE (λz=>by subst z;exact n fa)];exact NT _ _ e⟩
     have Pe:ak (aD X) (upd H3 a (.dK ((ks++[z]).zip (xs++[v])))) F (ts++[u]) (xs++[v]) (cs++cu):=by
      refine ak.append (ak.mv Pl (λb hb o f e=>⟨f,by rw[L2.aE (λz=>by subst z;exact MN.1 hb)];exact NT _ _ e⟩) LP) ?_
      rw[show cu=cu++[] by simp]
      simp only[ak];exact⟨v,[],cu,[],rfl,rfl,PH.mv Pl λb hb o f e=>⟨f,by rw[L2.aE (λz=>by subst z;exact SF hb)];exact NT _ _ e⟩,rfl,rfl⟩
     have C:cW (aD X) (without H cu) (upd H3 a (.dK ((ks++[z]).zip (xs++[v])))) (λb=>F b/\b∉cu) F a (.m ks ts) (.m (ks++[z]) (ts++[u])) (a::cs) (a::(cs++cu)):=
      {
       old:=M3.mv mw λb hb o f e=>kw b (sub.subset hb) o f e
       mem:=v3
       new:=by
        simp only[bE,bF,bD,bI];exact⟨a,_,_,rfl,rfl,fa,L2.aV,by rw[JK,JK,hl];rfl,Pe⟩
       nd:=GM.mpr ⟨λhb=>(KM.mp hb).elim MN.1 SF,M0.mpr ⟨MN.2,Ul,λb hb b' Mt z=>apart b (sub.subset (rU _ hb)) (z▸Mt)⟩⟩
       out:=λb o n e=>by rw[L2.aE n];exact NT _ _ (B7 e).2
       fs := λb=>by
        constructor
        ·intro f
         by_cases hb:b∈cu
         ·exact .inr (rU _ (FB _ hb))
         ·exact .inl ⟨f,hb⟩
        ·rintro(f|hb)
         ·exact f.1
         ·rcases AC.mp hb with rfl|hb
          ·exact fa
          ·rcases KM.mp hb with hb|hb
           ·exact(LP.fs b hb).1
           ·exact(fu b hb).1
       qr:=λb hb=>by
        rcases AC.mp hb with rfl|hb
        ·exact .inl v3
        ·rcases KM.mp hb with hb|hb
         ·exact .inl (rU _ hb)
         ·exact .inr (yj hb)}
     obtain⟨_,r'⟩:=r0.ir (by rw[bU (Os Ow)];exact q1) ew Na C rfl
     exact q _ _ _ Pl r'
    ·cases e
   ·cases e
  ·cases e⟩
noncomputable def iE(n:Nat)(b:Sm):T->List D->R (D×T):=λt ds=>(b (.on (.tr t)::(ds.map .sh++List.replicate (n - 1 - ds.length) .un))).bind λ(f:Fl)=>match f with
 | .dJ d ρ=>(match ρ[0]? with
  |some (Slot.on (.tr t'))=>.ok (d,t')
  |_=>.bad)
 | .next ρ=>(match ρ[0]? with
  |some (Slot.on (.tr t'))=>.ok (.aj,t')
  |_=>.bad)
 |_=>.bad
noncomputable def i4(f:Ox):Sm:=λρ=>(f ρ).bind λy=>.ok (.next y.2)
noncomputable def sy:Ex:=λ_=>.bad
noncomputable def zT:Sm:=λ_=>.bad
theorem Gm{N:List Str}{n:Nat}{body:Sm}{vs:List V}{Q:VK}{E:XK}{t:TS}(ht:∀(F0:Gf) D σ H,c8 M F0.g F0 body D σ H->t D σ H)(h:pC M (iE N.length body) n vs G Q E)(hn:n+1<=N.length):t {nx:=λ_ H'=>Q .aj H',rt:=Q} (L2.start N vs) G:=by
 obtain⟨F,ds,t0,t',d,w,as,vs',rfl,tk,tr,nd,rs,hl,e,q⟩:=h;obtain⟨f,ef,e⟩:=ao.mp e;refine ht ⟨without G as,λb=>F b/\b∉as,λb=>if b=false then some w else none⟩ _ _ _ ⟨_,F,f,Di tk tr nd rs hl hn,ef,?_⟩
 cases f with
 | dJ d' ρ'=>
  have e:(match ρ'[0]? with|some (.on (.tr t'))=>R.ok (d',t')|_=>.bad)=.ok (d,t'):=e
  split at e
  ·rename_i t1 e0
   cases e;intro Ll H' F' v mv r' rd;obtain⟨⟨w',Lv,ew,L3,Mm⟩,_,_⟩:=r'.rs.on 0 _ e0;have hw:Ll[0]? =some (some w):=r'.pin (false,w) rfl _ e0;rw[ew]at hw;cases hw;have less:∀b,(F b/\b∉as)\/b∈Lv->F' b:=λb hb=>hb.elim (λz=>r'.sub b z) λz=>(L3.fs b z).1;refine q v H' (λb=>(F b/\b∉as)\/b∈Lv) Lv (λb u hb hu=>r'.sm b u (by show(if b∈as then none else G b)=_;rw[Da hb];exact hu)) (λb hb=>?_) Mm (λb=>WI) (az.less (F:=F') less (λb hb=>.inr hb) L3) (rd.sub less)
   have hg:=r'.dZ 0 _ b e0 ⟨_,_,Lv,e0,ew,L3,hb⟩;by_cases Mw:b∈as
   ·exact .inl Mw
   ·have hg:(if b∈as then none else G b)=none:=hg
    rw[Da Mw]at hg;exact .inr hg
  ·cases e
 | next ρ'=>
  have e:(match ρ'[0]? with|some (.on (.tr t'))=>R.ok (D.aj,t')|_=>.bad)=.ok (d,t'):=e
  split at e
  ·rename_i t1 e0
   cases e;intro Ll H' F' mv r';obtain⟨⟨w',Lv,ew,L3,Mm⟩,_,_⟩:=r'.rs.on 0 _ e0;have hw:Ll[0]? =some (some w):=r'.pin (false,w) rfl _ e0;rw[ew]at hw;cases hw;have less:∀b,(F b/\b∉as)\/b∈Lv->F' b:=λb hb=>hb.elim (λz=>r'.sub b z) λz=>(L3.fs b z).1;refine q .aj H' (λb=>(F b/\b∉as)\/b∈Lv) Lv (λb u hb hu=>r'.sm b u (by show(if b∈as then none else G b)=_;rw[Da hb];exact hu)) (λb hb=>?_) Mm (λb=>WI) (az.less (F:=F') less (λb hb=>.inr hb) L3) fF
   have hg:=r'.dZ 0 _ b e0 ⟨_,_,Lv,e0,ew,L3,hb⟩;by_cases Mw:b∈as
   ·exact .inl Mw
   ·have hg:(if b∈as then none else G b)=none:=hg
    rw[Da Mw]at hg;exact .inr hg
  ·cases e
 |_=>cases e
theorem rO{P:Program}{w:World}{K:PySem.W.Frag}{mg:Str->Y6}{base:Heap}{x:Str}{st:Stmt}{N ps:List Str}{k n:Nat}{body:Sm}(F:FH P w K mg base x st)(S:L2.ba N ps (L2.aH st))(h:Jd P w K mg base x st N k body)(b:Bd x st ps:=by intro _ _ _ _ _ _ us hl;(repeat(have h:=lcQ hl;clear hl;obtain⟨_,us,rfl,hl⟩:=h));cases lzQ hl;rfl)(hn:ps.length=n+1:=by rfl):iI P w K mg base x (k+1) n (iE N.length body):=by
 obtain⟨f,fd,Fu,hm⟩:=F;refine⟨f,fd,ps,Fu.ok S (λvs H Q E h=>?_) (λLk A outer s H vs Q E hr M6=>?_),Fu.binds b,Fu.kp,hm⟩
 ·obtain⟨F,ds,t0,t',d,w,as,vs',rfl,_,_,_,rs,hl,_⟩:=h
  rw[V6, <-rs.length,hl,hn]
 ·refine⟨λD σ H'=>∃F0:Gf,c8 ⟨K,P,w⟩ F0.g F0 body D σ H',λpins s' σ H' D I=>by rintro⟨F0,q⟩;exact h f Lk A outer s H E hr F0 pins s' σ H' D I q,?_⟩
  refine Gm (G:=H) (t:=λD σ H'=>∃F0:Gf,c8 ⟨K,P,w⟩ F0.g F0 body D σ H') (λF0 D σ H' h=>⟨F0,h⟩) M6 ?_;have:=congrArg List.length S.pre;rw[Ws]at this;omega
theorem rW{X:L2.Cx}{pos:Pos}{e:Expr}{f:Ox}(he:lq X e f)(MJ:swapsWith e none pos.line X.env=pure false:=by exact d5 (by rfl)):XS X (.Expr e pos) (i4 f):=⟨have he:=he.out;λF0=>
 cw (L2.jg (he F0) MJ) λD σ H=>by
  rintro⟨ρ,F,fl,r,e,q⟩
  obtain⟨⟨d,LJ⟩,ed,e⟩:=ao.mp e;cases e;exact⟨ρ,F,d,LJ,r,ed,λv H1 F1 mv r1 rv=>q σ H1 F1 mv r1⟩⟩
theorem An{X:L2.Cx}{e:Expr}:XE X e sy:=⟨ λ_ _ _ _ _ _=>by rintro⟨_,_,_,_,e,_⟩;exact nomatch e⟩
theorem HC{X:L2.Cx}{st:Stmt}:XS X st zT:=⟨ λ_ _ _ _ _ _ _=>by rintro⟨_,_,_,_,e,_⟩;exact nomatch e⟩
end
mutual
noncomputable def T.iN:T->Bool
 |.d x=>gc x
 |.n _ ts=>T.i6 ts
noncomputable def T.i6:List T->Bool
 |[]=>true
 |t::ts=>T.iN t&&T.i6 ts
end
noncomputable def l6(i:Nat)(f:Xt):Xt:=λρ=>match ρ[i]? with
 |some (.on (.tr t))=>(f (bK i t ρ)).bind λu=>if T.iN u=true then .ok u else .bad
 |_=>.bad
section
variable{X:Cx}{M:Md}{G H H':Hp}{F0:Gf}{F F':Y8}{σ:L2.St}{ρ:En}{pos:Pos}{pins:List (Addr×Obj)}{s:Shared}{as:Y3}
mutual
theorem az.ft{H2:Hp}{F2:Y8}(o:∀a xs,cT M H F a xs->cT M H2 F2 a xs)(m2:∀a,a∉as->H2 a=H a)(f2:∀a,a∉as->(F2 a↔F a))(nt:∀a xs,H a=some (.tup xs)->a∉as):∀ {t:T} {v:V} {bs:Y3},T.iN t=true->(∀b∈bs,b∉as)->az M H F t v bs->az M H2 F2 t v bs
 | .d x,v,bs,n,_,h=>by
  rw[az]at h ⊢;exact⟨h.1,Rep.ft o (by rw[T.iN]at n;exact n) h.2⟩
 | .n k ts,v,bs,n,hb,h=>by
  rw[az]at h ⊢;rw[T.iN]at n;obtain⟨a,xs,cs,rfl,rfl,h1,h2,h3,h4⟩:=h
  have ha:a∉as:=by
   cases k with
   |u=>exact nt a xs h2
   |l=>exact hb a v3
   |m ks=>exact hb a v3
   |x ks=>exact hb a v3
  exact⟨a,xs,cs,rfl,rfl,(f2 a ha).trans h1,by rw[m2 a ha];exact h2,h3,ak.ft o m2 f2 nt n (λb hc=>hb b (Kd.sub hc)) h4⟩
theorem ak.ft{H2:Hp}{F2:Y8}(o:∀a xs,cT M H F a xs->cT M H2 F2 a xs)(m2:∀a,a∉as->H2 a=H a)(f2:∀a,a∉as->(F2 a↔F a))(nt:∀a xs,H a=some (.tup xs)->a∉as):∀ {ts:List T} {vs:List V} {bs:Y3},T.i6 ts=true->(∀b∈bs,b∉as)->ak M H F ts vs bs->ak M H2 F2 ts vs bs
 |[],vs,bs,_,_,h=>by rw[ak]at h ⊢;exact h
 | t::ts,vs,bs,n,hb,h=>by
  rw[ak]at h ⊢;rw[T.i6,sa]at n;obtain⟨x,r,cs,ds,rfl,rfl,h1,h2⟩:=h;exact⟨x,r,cs,ds,rfl,rfl,az.ft o m2 f2 nt n.1 (λb hc=>hb b (KB _ hc)) h1,ak.ft o m2 f2 nt n.2 (λb hc=>hb b (FB _ hc)) h2⟩
end
theorem Bv{X:L2.Cx}(i:Nat){e:Expr}{f:Xt}(h:XX X e f):XX X e (l6 i f):=⟨have h:=h.out;by
 intro pins s σ H Q I ⟨ρ,F,u,hr,e,q⟩;unfold l6 at e;split at e
 ·rename_i t q1
  obtain⟨u',eu,e⟩:=ao.mp e;split at e
  ·rename_i hf
   cases e;obtain⟨⟨w,as,ew,tr,nd⟩,_,_⟩:=hr.on i _ q1;obtain⟨H',I',hH,hz⟩:=az.frz I tr nd;obtain⟨mv,rs⟩:=hr.bK q1 ew tr hH hz;refine L2.aL (h pins s σ _ (λv H1=>∃F1 bs,ah H' H1/\(∀b∈bs,H' b=none)/\bs.Nodup/\(∀b,F1 b↔(F b/\b∉as)\/b∈bs)/\az (aD X) H1 F1 u v bs) I' ⟨_,_,_,rs,eu,λv H1 F1 bs s1 h1 h2 h3 h4=>⟨F1,bs,s1,h1,h2,h3,h4⟩⟩) λu9 s1 ⟨x,H1,I1,rx,F1,bs,sm,hn,Ms,hF,PH⟩=>?_;obtain⟨H2,I2,s2,o2,a2,t2,tp⟩:=pO (M:=aD X) (F:=F) I nd hH hz I1 sm
   have fz:∀b∈as,∃o,H' b=some o/\∀xs,o≠.tup xs:=λb hb=>by
    rcases hz b hb with⟨h1,o,h2,h3⟩|⟨ob,kvs,_,h2⟩
    ·exact⟨o,h1.trans h2,λxs z=>by subst z;exact h3.elim⟩
    ·exact⟨_,h2,λxs z=>nomatch z⟩
   have nb:∀b∈bs,b∉as:=λb hb ha=>by
    obtain⟨o,e,_⟩:=fz b ha;rw[hn b hb]at e;cases e
   refine⟨x,H2,I2,rx,q x H2 (λb=>F b\/b∈bs) bs s2 (λb hb=>by rw[<-hH b (nb b hb)];exact hn b hb) Ms (λ_=>WI) (az.ft (as:=as) (λa xs ht=>?_) o2 (λa ha=>?_) (λa xs ht ha=>?_) hf nb PH)⟩
   ·have h1:cT (aD X) H1 (λb=>F b/\b∉as) a xs:=ht.imp (λz=>⟨λf=>z.1 ((hF a).mpr (.inl f)),z.2⟩) id
    rcases ht with z|z
    ·exact(tp a xs h1).imp (λy=>⟨λf=>f.elim y.1 λhb=>z.1 ((hF a).mpr (.inr hb)),y.2⟩) id
    ·exact .inr z
   ·rw[hF a]
    exact⟨λf=>f.imp (λf=>⟨f,ha⟩) id,λf=>f.imp XZ id⟩
   ·obtain⟨o,e,no⟩:=fz a ha
    rw[sm _ _ e]at ht;cases ht;exact no _ rfl
  ·cases e
 ·cases e⟩
end
def DF(P:Program)(w:World)(K:PySem.W.Frag):List DictEntry->List Ky->List D->Prop
 |[],ks,ds=>ks=[]/\ds=[]
 |e::es,ks,ds=>∃i t k' c f OW,e.key=.int i t/\ks=.inl i::k'/\ds=eR c::OW/\e.hash=(L2.bz P w).hash (.inl i)/\e.val=.ref f/\PySem.W.nsIn K mainGlobals c=some (some (.ref f))/\DF P w K es k' OW
theorem Bn{P:Program}{w:World}{K:PySem.W.Frag}:∀ {es:List DictEntry} {ks:List Ky} {ds:List D},DF P w K es ks ds->∃(xs:List V) (vs:List (Key×Value)),Pairs (L2.bz P w) es vs/\L2.KV (ks.zip xs) vs/\vs.map (·.1)=ks/\ks.length=xs.length/\(∀H F,ae ⟨K,P,w⟩ H F ds xs)/\
  ∀e∈es,∃k,(L2.bz P w).is k e.key=true/\e.hash=(L2.bz P w).hash k
 | [],_,_,h=>by
  obtain⟨rfl,rfl⟩:=h;exact⟨[],[],.nil,.nil,rfl,rfl,λ_ _=>ae.nil,λe he=>nomatch he⟩
 | e::es,_,_,h=>by
  obtain⟨i,t,k',c,f,OW,hk,rfl,rfl,hh,hv,hf,hr⟩:=h;obtain⟨xs,vs,h1,h2,h3,h4,h5,h6⟩:=Bn hr;refine⟨.ref f::xs,(.inl i,e.val)::vs,.cons (by rw[hk];exact L2.tf P w i t) rfl h1,.cons ⟨rfl,hv⟩ h2,by simp[h3],by simp[h4],λH F=>ae.cons (by simp only[Rep];exact⟨f,(),rfl,.inl ⟨rfl,hf⟩⟩) (h5 H F),λe' he=>?_⟩
  rcases AC.mp he with rfl|he
  ·exact⟨.inl i,by rw[hk];exact L2.tf P w i t,hh⟩
  ·exact h6 e' he
section
variable{P:Program}{w:World}{K:PySem.W.Frag}{h:Heap}{mg:Str->Y6}{x:Str}
theorem Co{a:Addr}{es:Array DictEntry}{ep:Nat}{ks:List Ky}{ds:List D}(X:K.In h)(G:h.Ns mainGlobals mg)(e1:PySem.W.nsIn K mainGlobals x=some (some (.ref a)))(e2:K.lookup a=some {cls:=.type "dict",data:=.dict es ep})
  (hm:DF P w K es.toList ks ds) (hn:ks.Nodup) (hl:ks.length<=1000) (ne:(a==sysModules)=false):dP P w K mg x (.ai ks ds):=by
 obtain⟨xs,vs,h1,h2,h3,h4,h5,h6⟩:=Bn hm;refine⟨.ref a,.ref a,Wx X G e1,rfl,λH F=>?_⟩;simp only[Rep];refine⟨a,xs,rfl,.inr ⟨_,es,ep,vs,e2,⟨rfl,rfl,rfl⟩,rfl,λe he=>h6 e (by simpa using he),h1,by rw[h3];exact hn,h2,?_,ne⟩,h4,h5 H F⟩
 rw[On, <-h4,Nat.min_self];exact PK hl (by decide)
end
noncomputable def iU:D->D->R D
 |x,.lst ys=>if lay x=true/\ys.all lay=true/\dep x<=60 then .ok (.bl (ys.any λy=>br y x))else .bad
 |_,_=>.bad
section
variable{X:Cx}{M:Md}{G H H':Hp}{F0:Gf}{F F':Y8}{σ:L2.St}{ρ:En}{pos:Pos}{pins:List (Addr×Obj)}{s:Shared}{as:Y3}
def yd(M:Md):R2:=λx y H Q=>∃F a ys,Rep M H F a x/\Rep M H F (.lst ys) y/\lay a=true/\ys.all lay=true/\dep a<=60/\Q (.bl (ys.any λz=>br z a)) H
theorem xJ(I:Inv X pins σ H s):∀ {ys:List D} {xs:List V} {us:Y5},ys.all lay=true->ae (aD X) H F ys xs->Vals xs us->us.length=ys.length/\∀(m:Nat) (d:D) (u:Value),ys[m]? =some d->us[m]? =some u->lay d=true/\∃as,Reads s.heap u (pyd d) as
 | [],xs,us,_,h,r=>by
  simp only[ae]at h;subst h;cases r;exact⟨rfl,λm d u h=>by simp at h⟩
 | y::ys,xs,us,l,h,r=>by
  simp only[ae]at h;obtain⟨x,OM,rfl,h1,h2⟩:=h;rw[UV,sa]at l;cases r with
  | cons r1 r2=>
   obtain⟨e1,e2⟩:=xJ I l.2 h2 r2;refine⟨by simp[e1],λm d u hd hu=>?_⟩
   cases m with
   | zero=>
    cases hd;cases hu;exact⟨l.1,kl I l.1 h1 r1⟩
   |succ m=>exact e2 m d u (by simpa using hd) (by simpa using hu)
theorem any_eq{f:Value->Bool}{b:D}:∀ {ys:List D} {us:Y5},us.length=ys.length->(∀(m:Nat) (d:D) (u:Value),ys[m]? =some d->us[m]? =some u->f u=br d b)->us.any f=ys.any λd=>br d b
 |[],[],_,_=>rfl
 |[],_::_,h,_=>by cases h
 |_::_,[],h,_=>by cases h
 | y::ys,u::us,h,k=>by
  rw[Wf,Wf,any_eq (by simpa using h) λm d u h1 h2=>k (m+1) d u (by simpa using h1) (by simpa using h2),k 0 y u rfl rfl]
open Classical in
theorem DO(hu:X.A.units+64<cLine):a7 X (compareOp .In) (yd (aD X)):=by
 intro pins s σ H x y v u Q I rx ry h;obtain⟨F,a,ys,ra,rb,la,ls,hd,q⟩:=h;simp only[Rep]at rb;obtain⟨p,xs,rfl,h1,rs⟩:=rb;cases ry;obtain⟨af,r,pl,hz⟩:=I.list h1.sq;obtain⟨as,ha⟩:=kl I la ra rx;obtain⟨hl,hr⟩:=xJ I ls rs r
 have key:∀(m:Nat) d w,ys[m]? =some d->af[m]? =some w->(decide (∃(m:Nat) (d:D),ys[m]? =some d/\af[m]? =some w/\br d a=true))=br d a:=λm d w e1 e2=>by
  obtain⟨l1,Mx,r1⟩:=hr m d w e1 e2;cases hq:br d a with
  |true=>exact GT ⟨m,d,e1,e2,hq⟩
  | false=>
   refine JU λ⟨m',d',g1,g2,g3⟩=>?_;obtain⟨l2,O9,r2⟩:=hr m' d' w g1 g2;have e:=SeqAt.Reads.unique _ _ _ _ _ (ji d l1) r1 r2;rw[<-k9 d' a l2 la, <-e,k9 d a l1 la,hq]at g3;cases g3
 refine SeqAt.in_listAt (λw=>decide (∃(m:Nat) (d:D),ys[m]? =some d/\af[m]? =some w/\br d a=true)) pl.isList (λw hw=>?_) ⟨.bl _,H,I,rfl,?_⟩
 ·obtain⟨m,hm⟩:=List.getElem?_of_mem (show w∈af by simpa using hw)
  have VP:=(mO.mp hm).1;have e1:ys[m]? =some (ys[m]'(by omega)):=KF _
  obtain⟨l1,Mx,r1⟩:=hr m _ w e1 hm;rw[key m _ w e1 hm, <-k9 _ a l1 la];refine SeqAt.eqAt_reads _ _ _ s w v _ _ r1 ha (ji _ l1) (ji a la) ?_;rw[ko _ l1,ko a la];show X.A.in1.units+_<_;have:X.A.in1.units=X.A.units+1:=rfl;omega
 ·rw[show af.toArray.any (λw=>decide (∃(m:Nat) (d:D),ys[m]? =some d/\af[m]? =some w/\br d a=true))=af.any (λw=>decide (∃(m:Nat) (d:D),ys[m]? =some d/\af[m]? =some w/\br d a=true)) by simp,any_eq hl key]
  exact q
theorem KO:cH M iU (yd M):=by
 intro F H x y a b d Q tr ra rb e q;unfold iU at e;split at e
 ·split at e
  ·rename_i hc
   cases e;exact⟨F,a,_,ra,rb,hc.1,hc.2.1,hc.2.2,q _ _ (ah.refl _) dD⟩
  ·cases e
 ·cases e
end
noncomputable abbrev jN(n:Nat):D:=.cj ⟨#[91]⟩ [⟨#[]⟩,⟨#[]⟩] (List.replicate n .aj)
noncomputable def j5(i:Nat)(f:Ex):Ex:=λρ=>match ρ[i]? with
 | some (.on (.tr t))=>(f (bK i t ρ)).bind λd=>match d with
  |.lst ds=>.ok (jN ds.length)
  |_=>.bad
 |_=>.bad
noncomputable def jE(a b:D):R D:=match a,b with
 |.cj c [_,_] ds,.lst []=>if c=⟨#[91]⟩then .ok (.bl ds.isEmpty)else .bad
 |_,_=>.bad
section
variable{X:Cx}{M:Md}{G H H':Hp}{F F':Y8}{σ:L2.St}{ρ:En}{pos:Pos}{pins:List (Addr×Obj)}{s:Shared}
theorem Fb(i k:Nat){st:Stmt}{f:Ex}(h:PS X st (L2.kM (jF (aD X) f) (L2.aF k))):JS X st (bb (aF k) (j5 i f)):=λF0=>by
 intro pins s σ H D I ⟨ρ,F,fl,r,e,q⟩;obtain⟨d,ed,e⟩:=ao.mp e;cases e;unfold j5 at ed;split at ed
 ·rename_i t q1
  obtain⟨d',UM,e3⟩:=ao.mp ed;split at e3
  ·rename_i ds
   cases e3;obtain⟨⟨w,as,ew,tr,nd⟩,_,_⟩:=r.rs.on i _ q1;obtain⟨H',I',hH,hz⟩:=az.frz I tr nd;obtain⟨mv,rs⟩:=r.rs.bK q1 ew tr hH hz;refine UF (h pins s σ H' {nx:=λM4 H9=>∃p H1 xs,M4=σ.set k (some (.ref p))/\H9=upd H1 p (.lst xs)/\ah H' H1/\H1 p=none/\ae (aD X) H1 (λb=>F b/\b∉as) ds xs,rt:=λ_ _=>False} I' ⟨_,_,_,rs,UM,λp H1 xs s1 hp rv=>⟨p,H1,xs,rfl,rfl,s1,hp,rv⟩⟩) (λfw s1 hs=>?_) λ_ _ x=>x;cases fw with
   | next=>
    obtain⟨M4,H9,I1,p,H1,xs,ex,eH,sm,hp,rv⟩:=hs;subst ex eH;obtain⟨H2,I2,s2,o2,tp⟩:=xn (M:=aD X) (F:=F) I nd hH hz I1 (sm.trans (ah.bZ hp _))
    have Nw:p∉as:=λhb=>by
     rcases hz p hb with⟨h1,ys,h2,_⟩|⟨ob,kvs,h1,h2⟩
     ·rw[sm _ _ (h1.trans h2)]at hp;cases hp
     ·rw[sm _ _ h2]at hp;cases hp
    have hf:¬F p:=λhf=>by
     obtain⟨o,ho⟩:=r.rs.aU p hf;rw[sm p o (by rw[hH p Nw];exact ho)]at hp;cases hp
    refine⟨_,H2,I2,q _ _ F (.same s2) ((r.same s2).oR ?_)⟩;simp only[Rep];exact⟨p,(),rfl,.inr ⟨hf,.inr (.inr ⟨rfl,_,by rw[o2 p Nw,L2.aV],λ_=>⟨xs,rfl,by rw[VX, <-rv.length]⟩⟩)⟩⟩
   |ret v=>obtain⟨_,_,_,_,_,z⟩:=hs;exact z.elim
   |brk=>obtain⟨_,_,_,z⟩:=hs;exact z.elim
   |cont=>obtain⟨_,_,_,z⟩:=hs;exact z.elim
  ·cases e3
 ·cases ed
noncomputable def Bx:Sm:=λρ=>.ok (.dJ .aj ρ)
theorem ER{X:L2.Cx}{pos:Pos}:XS X (.Return none pos) Bx:=⟨ λF0=>
 cw L2.FV λD σ H=>by
  rintro⟨ρ,F,fl,r,e,q⟩
  cases e;exact q σ H F .aj Mv.refl r fF⟩
def z6(M:Md):R2:=λx y H Q=>∃F n1 n2 ds,Rep M H F (.cj ⟨#[91]⟩ [n1,n2] ds) x/\Rep M H F (.lst []) y/\Q (.bl ds.isEmpty) H
theorem JZ(hu:X.A.units+64<cLine):a7 X (compareOp .Eq) (z6 (aD X)):=by
 intro pins s σ H x y v u Q I rx ry h;obtain⟨F,n1,n2,ds,ra,rb,q⟩:=h;have fin:EP X pins σ Q (.bool ds.isEmpty) s:=⟨.bl _,H,I,rfl,q⟩;simp only[Rep]at ra rb;obtain⟨p,_,rfl,ra⟩:=ra;obtain⟨r,ys,rfl,hr,rs⟩:=rb;simp only[ae]at rs;subst rs;rcases ra with⟨z,_⟩|⟨n,⟨z,_⟩|⟨z,_⟩|⟨_,o,ho,hx⟩⟩
 ·cases z
 ·cases z
 ·cases z
 ·obtain⟨xs,rfl,hl⟩:=hx rfl
  cases rx;cases ry;obtain⟨us,n,t1,v1,g1,_⟩:=iJ (F:=F) I (.inl ⟨n,.inl ho⟩);obtain⟨ws,m,t2,v2,g2,_⟩:=iJ I hr;cases v2;have L1:s.heap.IsList p us.toArray:=⟨_,g1,rfl,n,rfl⟩;have SD:s.heap.IsList r ([]:Y5).toArray:=⟨_,g2,rfl,m,rfl⟩;have k:us.length=ds.length:=by rw[<-hl,v1.length]
  cases ds with
  | nil=>
   have:us=[]:=List.length_eq_zero_iff.mp k;subst this;exact SeqAt.RcAt.lists (A:=X.A) (s:=s) (e:=λ_=>true) L1 SD rfl (by omega) (λj h1 _=>by simp at h1) _ _ _ _ fin
  | cons d ds=>
   exact SeqAt.RcAt.lists_lengths (A:=X.A) (s:=s) L1 SD (by simp[k]) (by omega) _ _ _ _ fin
theorem nil_inv{a b d:D}(h:jE a b=.ok d):∃n1 n2 ds,a=.cj ⟨#[91]⟩ [n1,n2] ds/\b=.lst []/\d=.bl ds.isEmpty:=by
 unfold jE at h;split at h
 ·rename_i c n1 n2 ds
  split at h
  ·rename_i hc;cases h;subst hc;exact⟨n1,n2,ds,rfl,rfl,rfl⟩
  ·cases h
 ·cases h
theorem E1:gw jE:=λa b d h=>by
 obtain⟨_,_,ds,_,_,rfl⟩:=nil_inv h;exact⟨_,rfl⟩
theorem G4:cH M jE (z6 M):=by
 intro F H x y a b d Q tr ra rb e q;obtain⟨n1,n2,ds,rfl,rfl,rfl⟩:=nil_inv e;exact⟨F,n1,n2,ds,ra,rb,q _ _ (ah.refl _) dD⟩
end
theorem Jk:gw iU:=λa b d h=>by
 unfold iU at h;split at h
 ·split at h
  ·cases h;exact⟨_,rfl⟩
  ·cases h
 ·cases h
structure fY(dv:Value)(P:Program)(w:World)(K:PySem.W.Frag)(mg:Str->Y6)(base:Heap)(x:Str)(k n:Nat)(m:List D->R D):Prop where
 ex:∃f fd ps,L2.dX P w K mg base L2.cV k f fd ps (gS ⟨K,P,w⟩ m n)/\L2.Binds K fd ps [dv]/\L2.Binds K fd ps []/\PySem.W.keepIn K (.ref f)=true/\mg x=some (.ref f)
theorem fY.df{dv:Value}{P:Program}{w:World}{K:PySem.W.Frag}{mg:Str->Y6}{base:Heap}{x:Str}{k n:Nat}{m:List D->R D}(h:fY dv P w K mg base x k n m):Df P w K mg base x k n m:=by
 obtain⟨f,fd,ps,h1,_,h2,h3,h4⟩:=h.ex;exact⟨f,fd,ps,h1,h2,h3,h4⟩
section
variable{X:Cx}{M:Md}{G H H':Hp}{F F':Y8}{σ:L2.St}{ρ:En}{pos:Pos}{pins:List (Addr×Obj)}{s:Shared}
theorem hZ{X:L2.Cx}{pos:Pos}{dv:Value}(v0:V)(d0:D)(hd:∀H F,Rep (aD X) H F d0 v0){x:Str}{k j n:Nat}{m:List D->R D}{e:Expr}{es:Y4}{fs:List Ex}{p:Pos}(d:fY dv X.prog X.w X.K X.mg X.base x k n m)(hr:L2.b4 j X.A)(ha:XA X (e::es) (eList fs))(hv:RelV v0 dv:=by exact rfl)(hg:L2.Gl X x:=by rfl)(hk:k<=j:=by decide)(hn:fs.length+1=n:=by rfl)(MD:gV x:=by decide)(he:starEach (e::es) X.env=(false,eval e X.env)::starEach es X.env:=by exact bw (by rfl))(M5:(backTo pos (starEach es X.env)).any (·.1)=false:=by exact jW (by rfl)):XE X (.Call (.Name x p) (e::es) [] pos) (aG (λds=>m (ds++[d0])) fs):=⟨have ha:=ha.out;by
 obtain⟨f,fd,ps,h1,h2,_,h3,h4⟩:=d.ex;refine bo (L2.oo h1 (hr.mono hk) hg h4 h3 h2 (dvs:=[v0]) (.cons hv .nil) L2.kb ha MD he M5) λσ H Q ⟨ρ,F,d,hr,e,q⟩=>?_;obtain⟨ds,NJ,e⟩:=ao.mp e;refine⟨ρ,F,ds,hr,NJ,λvs H1 s1 rs=>?_⟩;exact⟨F,ds++[d0],d,(hr.same s1).aU,rs.append (ae.cons (hd _ _) ae.nil),by rw[JK,hX NJ];exact hn,e,λv H2 s2 rv=>q v H2 (s1.trans s2) rv⟩⟩
end
structure Bh(dv:Value)(K:PySem.W.Frag)(x qual:Str)(st:Stmt)(f:Addr)(fd:FuncData):Prop where
 ex:∃(oc:Value) (od:Y7) (tp:Addr) (kV doc pm:Value) (an:Y7) (Lk ct:Value) (MO:Array (Y6)) (to:Obj) (n:Nat),
  fd=PySem.W.fnOf x qual (L2.fK st) (L2.cU st) (L2.aH st) (.ref tp) kV doc pm an Lk ct/\K.lookup f=some ⟨oc,od,.func fd,MO⟩/\PySem.W.codeIn K Lk qual=true/\K.lookup tp=some to/\to.data=.seq #[dv] n
 kp:PySem.W.keepIn K (.ref f)=true
theorem Dg{dv:Value}{P:Program}{w:World}{K:PySem.W.Frag}{mg:Str->Y6}{base:Heap}{x qual:Str}{st:Stmt}{f:Addr}{fd:FuncData}{N ps:List Str}{k n:Nat}{body:Sm}(Fu:Bh dv K x qual st f fd)(hm:mg x=some (.ref f))(S:L2.ba N ps (L2.aH st))(hb:L2.Binds K fd ps [dv])(Qe:L2.Binds K fd ps [])
  (h:∀(Lk:Value) (A:Around) (outer:List Env) (s:Shared) (H:Hp) (E:XK),L2.b4 k (A.deeper (PyProof.Rows.envOfC qual (L2.aH st) s.heap.objs.size f Lk))->gI (L2.fG L2.cV P w K mg base N qual (L2.aH st) f Lk A outer s H E).fJ (L2.cU st) body)
  (hn:ps.length=n:=by rfl):fY dv P w K mg base x (k+1) n (fn N.length body):=by
 refine⟨f,fd,ps,?_,hb,Qe,Fu.kp,hm⟩;obtain⟨oc,od,tp,kV,doc,pm,an,Lk,ct,MO,to,n',rfl,lk,L4,_,_⟩:=Fu.ex;refine L2.Bs lk L4 S (λvs H Q E h=>?_) λA outer s H vs Q E hr M6=>?_
 ·obtain⟨F,ds,d,_,rs,hl,_⟩:=h
  rw[<-rs.length,hl,hn]
 ·have TN:L2.cq (L2.fG L2.cV P w K mg base N qual (L2.aH st) f Lk A outer s H E).fJ (L2.cU st) (λD σ H'=>∃F0:Gf,c8 ⟨K,P,w⟩ F0.g F0 body D σ H'):=λpins s' σ H' D I ⟨F0,q⟩=>h Lk A outer s H E hr F0 pins s' σ H' D I q
  refine⟨_,TN.fJ,?_⟩;refine Bu (G:=H) (t:=λD σ H'=>∃F0:Gf,c8 ⟨K,P,w⟩ F0.g F0 body D σ H') (λF0 D σ H' h=>⟨F0,h⟩) M6 ?_;have:=congrArg List.length S.pre;rw[Ws]at this;omega
noncomputable def tM(f:Xt):Xt:=λρ=>(f ρ).bind λt=>match t with
 |.n .l ts=>.ok (.tu ts)
 |_=>.bad
section
variable{X:Cx}{M:Md}{G H H':Hp}{F F':Y8}{σ:L2.St}{ρ:En}{pos:Pos}{pins:List (Addr×Obj)}{s:Shared}
theorem GF{X:L2.Cx}{pos:Pos}{a:Expr}{f:Xt}{p:Pos}(hm:X.mg "tuple"=none)(ha:XX X a f)(hg:L2.Gl X "tuple":=by rfl)(hs:starEach [a] X.env=(false,eval a X.env)::starEach [] X.env:=by exact bw (by rfl)):XX X (.Call (.Name "tuple" p) [a] [] pos) (tM f):=⟨have ha:=ha.out;bo (L2.lK L2.yg hg hm mq (L2.gj ha L2.jJ hs) (by decide) (by decide) hs) λσ H Q=>by
  rintro⟨ρ,F,t,hr,e,q⟩
  obtain⟨t1,et,e⟩:=ao.mp e;refine⟨ρ,F,t1,hr,et,λv H1 F1 as s1 hn nd hF tr=>?_⟩;split at e
  ·rename_i ts
   cases e;simp only[bE,bF,bD,bI]at tr;obtain⟨l,vs,bs,rfl,rfl,fl,hl,LP⟩:=tr;have LF:=GM.mp nd;refine⟨l,vs,rfl,.inl ⟨.inl (.inl hl),λp hp=>?_⟩⟩;have ne:∀b u,H1 b=some u->b≠p:=λb u e z=>by subst z;rw[hp]at e;cases e
   refine q _ _ (λb=>F b\/b∈bs) bs (s1.trans (ah.bZ hp _)) (λb hb=>hn b (rU _ hb)) LF.2 (λ_=>WI) ?_;simp only[bE,bF,bD,bI];refine⟨p,vs,rfl,λf=>?_,L2.aV,LP.mv (λb o n e=>⟨λf=>?_,by rw[L2.aE (ne b o e)];exact e⟩) λb hb u f hu=>⟨.inr hb,by rw[L2.aE (ne b u hu)];exact hu⟩⟩
   ·rcases f with f|f
    ·obtain⟨o,eo⟩:=hr.aU p f
     exact ne p o (s1 _ _ eo) rfl
    ·obtain⟨_,u,hu⟩:=LP.fs p f
     exact ne p u hu rfl
   ·rcases f with f|f
    ·exact n ((hF b).mpr (.inl f))
    ·exact n ((hF b).mpr (.inr (rU _ f)))
  ·cases e⟩
end
def fW(dv:Value)(K:PySem.W.Frag)(mg:Str->Y6)(x:Str)(st:Stmt)(ps:List Str):Prop:=∃f fd,Bh dv K x x st f fd/\L2.Binds K fd ps [dv]/\L2.Binds K fd ps []/\mg x=some (.ref f)
def qP(dv:Value)(P:Program)(w:World)(K:PySem.W.Frag)(mg:Str->Y6)(base:Heap)(x:Str)(st:Stmt)(ps:List Str):Prop:=fW dv K mg x st ps
theorem fW.up{dv:Value}{P:Program}{w:World}{K:PySem.W.Frag}{mg:Str->Y6}{base:Heap}{x:Str}{st:Stmt}{ps:List Str}(h:fW dv K mg x st ps):qP dv P w K mg base x st ps:=h
theorem fW.mk{dv:Value}{K:PySem.W.Frag}{h:Heap}{mg:Str->Y6}{x:Str}{st:Stmt}{ps:List Str}{f tp:Addr}{oc tc:Value}{od an td:Y7}{MO ts:Array (Y6)}{kV doc pm Lk ct:Value}{tn:Nat}(X:K.In h)(G:h.Ns mainGlobals mg)(a:PySem.W.nsIn K mainGlobals x=some (some (.ref f)))(l:K.lookup f=some ⟨oc,od,.func (PySem.W.fnOf x x (L2.fK st) (L2.cU st) (L2.aH st) (.ref tp) kV doc pm an Lk ct),MO⟩)
  (t:K.lookup tp=some ⟨tc,td,.seq #[dv] tn,ts⟩) (c:PySem.W.codeIn K Lk x=true) (k:PySem.W.keepIn K (.ref f)=true) (b:L2.Binds K (PySem.W.fnOf x x (L2.fK st) (L2.cU st) (L2.aH st) (.ref tp) kV doc pm an Lk ct) ps [dv]) (b0:L2.Binds K (PySem.W.fnOf x x (L2.fK st) (L2.cU st) (L2.aH st) (.ref tp) kV doc pm an Lk ct) ps []):fW dv K mg x st ps:=
 ⟨f,_,⟨⟨_,_,_,_,_,_,_,_,_,_,_,_,rfl,l,c,t,rfl⟩,k⟩,b,b0,Wx X G a⟩
theorem xQ{dv:Value}{P:Program}{w:World}{K:PySem.W.Frag}{mg:Str->Y6}{base:Heap}{x:Str}{st:Stmt}{N ps:List Str}{k n:Nat}{body:Sm}(F:qP dv P w K mg base x st ps)(S:L2.ba N ps (L2.aH st))(h:Jd P w K mg base x st N k body)(hn:ps.length=n:=by rfl):fY dv P w K mg base x (k+1) n (fn N.length body):=by
 obtain⟨f,fd,Fu,hb,Qe,hm⟩:=F;exact Dg Fu hm S hb Qe (h f) hn
end PL
namespace PL
namespace dn
open PySem
noncomputable abbrev S(x:String):D:=.str (Str.ofString x)
noncomputable def oN:D:=(.int 4294967295)
noncomputable def oE:D:=(.int 4294967294)
noncomputable def tm:D:=(.int 4294967292)
noncomputable def vN:D:=(.int 15)
noncomputable def tZ:D:=(.tup [(.int 1),(.int 11),(.int 12),(.int 19),(.int 21)])
noncomputable def qm:D:=(.ai [(.inl 0),(.inl 1),(.inl 2),(.inl 3),(.inl 4),(.inl 5),(.inl 6),(.inl 7),(.inl 8),(.inl 9),(.inl 10)] [eR "end_call",eR "part_call",eR "wait_call",eR "rank_call",eR "box_call",eR "send_call",eR "take_call",eR "shut_call",eR "handler_call",eR "ring_call",eR "back_call"])
noncomputable def wa:List D->R T:=hW 0 (iK (rQ [(eC (S "tasks"),k5),(eC (S "lent"),k5),(eC (S "nodes"),rQ [(eC (.int 0),xT [xD (eC (S "folder")),k5])]),(eC (S "boxes"),k5),(eC (S "clock"),xD (eC (.int 0)))]))
noncomputable def mU:List D->R D:=fn 2 (aw [aR (tV (e2 oLt (aa 1) (e1 iH (aa 0)))) (aX (e2 av (aa 0) (aa 1))) (bf),aX (eC (.int 0))])
noncomputable def mJ:Sm:=bb (aF 2) (e2 oDiv (aa 2) (e2 jA (eC (.int 10)) (eC (.int 24))))
noncomputable def kC:List D->R D:=fn 4 (aw [aR (tV (e2 lz (aa 0) (e2 jA (eC (.int 10)) (eC (.int 18))))) (aw [bb (aF 2) (e2 pZ (aa 0) (e2 jA (eC (.int 10)) (eC (.int 18)))),fL (mn (e2 oMod (aa 1) (eC (.int 16)))) (aF 3) mJ,aX (e2 oMod (aa 2) (e2 jA (eC (.int 10)) (eC (.int 24))))]) (bf),bb (aF 2) (e2 oMod (e2 hU (e2 gL (e2 gL (aa 0) (e2 hU (e2 hU (eC (.int 7919)) (aa 1)) (aa 1))) (eC (.int 1))) (eC (.int 48271))) (eC (.int 2147483647))),aX (e2 oMod (e2 hU (aa 2) (aa 2)) (eC (.int 2147483629)))])
noncomputable def vj:List D->R T:=hW 3 (aw [ib 2 (rQ [(eC (S "parent"),xD (aa 0)),(eC (S "rank"),xD (eC (.int 1))),(eC (S "regs"),xL [xD (eC (.int 0)),xD (eC (.int 1)),xD (eC (.int 2)),xD (eC (.int 3)),xD (eC (.int 4)),xD (eC (.int 5)),xD (eC (.int 6)),xD (eC (.int 7))]),(eC (S "row"),xD (eC (.int 0))),(eC (S "pages"),k5),(eC (S "handles"),k5)]),oy 2 (pN) (eC (S "waits")) (xD (eC .aj)),oy 2 (pN) (eC (S "handler")) (xD (eC (.int 0))),oy 2 (pN) (eC (S "rung")) (xD (eC (.bl false))),oy 2 (pN) (eC (S "saved")) (xD (eC .aj)),qN 2])
noncomputable def qE:Sm:=aw [qz 1 (e2 oMod (e2 gL (aa 0) (e2 hU (e2 hU (eC (.int 40503)) (aa 2)) (aa 2))) (eC (.int 4294967296))),bb (aF 0) (e2 oDiv (aa 0) (eC (.int 4294967296)))]
noncomputable def lP:List D->R D:=fn 3 (aw [lL 1 (cC []),fL (mn (eC (.int 16))) (aF 2) qE,jq 1,aX (e1 tY (aa 1))])
noncomputable def m9:List D->R T:=hW 6 (aw [ib 2 (cG wa []),bb (aF 3) (aG mU [aa 0,eC (.int 0)]),bb (aF 4) (aG kC [aa 3,eC (.int 1)]),ib 5 (cG vj [eC (.int 0)]),bP 5 (pN) (eC (S "rank")) (e2 oMod (aa 4) (eC (.int 4))),bP 5 (pN) (eC (S "rung")) (e2 oEq (e2 oMod (e2 oDiv (aa 4) (eC (.int 4))) (eC (.int 2))) (eC (.int 1))),bP 5 (pN) (eC (S "handler")) (e2 av (cC [eC (.int 0),e2 oMod (e2 oDiv (aa 4) (eC (.int 16))) (eC (.int 4294967296))]) (e2 oMod (e2 oDiv (aa 4) (eC (.int 8))) (eC (.int 2)))),aR (tV (e2 oEq (e2 oMod (e2 oDiv (aa 4) (eC (.int 64))) (eC (.int 3))) (eC (.int 1)))) (bP 5 (pN) (eC (S "saved")) (eX (xT [xL [xD (eC (.int 9)),xD (eC (.int 8)),xD (eC (.int 7)),xD (eC (.int 6)),xD (eC (.int 5)),xD (eC (.int 4)),xD (eC (.int 3)),xD (e2 oMod (aa 4) (eC (.int 4294967296)))],xD (e2 oMod (e2 oDiv (aa 4) (eC (.int 7))) (eC (.int 4294967296)))]))) (bf),bP 5 (pN) (eC (S "row")) (e2 oMod (e2 oDiv (aa 4) (eC (.int 128))) (eC (.int 4294967296))),bP 5 (pX 5 (pN) (eC (S "pages"))) (e2 oMod (e2 oDiv (aa 4) (eC (.int 256))) (eC (.int 4000))) (cE [eC (S "own"),aG lP [aa 3]]),bP 5 (pX 5 (pN) (eC (S "pages"))) (eC (.int 4005)) (cE [eC (S "lent"),eC (.int 6)]),bP 5 (pX 5 (pN) (eC (S "pages"))) (eC (.int 4006)) (cE [eC (S "lent"),eC (.int 6)]),bP 5 (pX 5 (pN) (eC (S "handles"))) (e2 gL (eC (.int 1)) (e2 oMod (e2 oDiv (aa 4) (eC (.int 512))) (eC (.int 7)))) (eC (.int 0)),bP 2 (pX 2 (pN) (eC (S "lent"))) (eC (.int 6)) (aG lP [aa 4]),nZ 2 5 (pX 2 (pN) (eC (S "tasks"))) (e2 gL (eC (.int 1)) (e2 oMod (e2 oDiv (aa 4) (eC (.int 1024))) (eC (.int 15)))),qN 2])
noncomputable def ju(rec:List D->R T):List D->R T:=hW 1 (aw [aR (tV (e1 (bX .dict) (aa 0))) (iK (uP (kE (j8 (aa 0)) 1 [0] (aF 0) [] (xT [xD (aa 0),cG rec [e2 av (aa 1) (aa 0)]])))) (bf),aR (tV (e1 (bX .list) (aa 0))) (iK (kE (dy (aa 0)) 1 [] (aF 0) [] (cG rec [aa 0]))) (bf),aR (tV (e1 (bX .tuple) (aa 0))) (iK (tM (kE (dy (aa 0)) 1 [] (aF 0) [] (cG rec [aa 0])))) (bf),iK (xD (aa 0))])
noncomputable def gN:List D->R T:=mf ju 9
noncomputable def eG:List D->R D:=j0 2 (qp (bJ (dy (e1 gG (e2 av (aa 0) (eC (S "tasks"))))) 1 [1,0] (aF 0) [tV (e2 oEq (e2 av (e2 av (e2 av (aa 2) (eC (S "tasks"))) (aa 0)) (eC (S "parent"))) (aa 1))] (aa 0)))
noncomputable def ip:List D->R D:=fn 3 (aw [bb (aF 2) (e2 av (e2 av (e2 av (aa 0) (eC (S "tasks"))) (aa 1)) (eC (S "waits"))),aX (eM (e1 oK (aa 2)) (e2 oEq (e2 av (aa 2) (eC (.int 0))) (eC (S "ended"))))])
noncomputable def i3:Sm:=aw [bP 0 (pX 0 (pX 0 (pN) (eC (S "tasks"))) (aa 4)) (eC (S "parent")) (eC (.int 0)),aR (gp 0 (tV (aG ip [aa 0,aa 4]))) (qL 3 0 (pX 0 (pN) (eC (S "tasks"))) (aa 4)) (bf)]
noncomputable def mS:T->List D->R (D×T):=iE 7 (aw [kU 3 0 (pX 0 (pX 0 (pN) (eC (S "tasks"))) (aa 1)),bP 0 (pA 0 3) (eC (S "pages")) (dj [] []),bP 0 (pA 0 3) (eC (S "handles")) (dj [] []),bP 0 (pA 0 3) (eC (S "rung")) (eC (.bl false)),bP 0 (pA 0 3) (eC (S "saved")) (eC .aj),bP 0 (pA 0 3) (eC (S "waits")) (cE [eC (S "ended"),aa 2]),fL (dy (cS 0 (aG eG [aa 0,aa 1]))) (aF 4) i3,bb (aF 5) (lC 0 (e2 av (aa 3) (eC (S "parent")))),aR (tV (e2 oEq (aa 5) (eC (.int 0)))) (ic 0 (pX 0 (pN) (eC (S "tasks"))) (aa 1)) (aR (gp 0 (tV (e2 oEq (e2 av (e2 av (e2 av (aa 0) (eC (S "tasks"))) (aa 5)) (eC (S "waits"))) (cE [eC (S "child")])))) (aw [ic 0 (pX 0 (pN) (eC (S "tasks"))) (aa 1),bP 0 (pX 0 (pX 0 (pN) (eC (S "tasks"))) (aa 5)) (eC (S "waits")) (eC .aj),cZ 0 (pX 0 (pX 0 (pX 0 (pN) (eC (S "tasks"))) (aa 5)) (eC (S "regs"))) (eC (.int 0)) (aa 1),cZ 0 (pX 0 (pX 0 (pX 0 (pN) (eC (S "tasks"))) (aa 5)) (eC (S "regs"))) (eC (.int 1)) (aa 2)]) (bf)),bb (aF 6) (j5 0 (bJ (jU (e2 av (aa 0) (eC (S "tasks")))) 1 [] (aF 0) [tV (e2 iU (cE [eC (S "lent"),eC (.int 6)]) (jw (e2 av (aa 0) (eC (S "pages")))))] (aa 0))),aR (tV (e2 jE (aa 6) (cC []))) (ly 0 (pX 0 (pN) (eC (S "lent")))) (bf)])
noncomputable def gP:Sm:=aR (tV (e2 gB (aa 1) (e2 av (aa 0) (eC (S "tasks"))))) (aX (aa 1)) (bf)
noncomputable def jR:List D->R D:=fn 2 (aw [fL (iW (eC (.int 1)) (eC (.int 16))) (aF 1) gP,aX (eC (.int 0))])
noncomputable def oA:T->List D->R (D×T):=iE 4 (aw [bb (aF 2) (lC 0 (aG jR [aa 0])),aR (tV (e2 oEq (aa 2) (eC (.int 0)))) (aw [cZ 0 (pX 0 (pX 0 (pX 0 (pN) (eC (S "tasks"))) (aa 1)) (eC (S "regs"))) (eC (.int 0)) (eC (.int 4294967294)),Bx]) (bf),ib 3 (l6 0 (cG gN [e2 av (e2 av (aa 0) (eC (S "tasks"))) (aa 1)])),bP 3 (pN) (eC (S "parent")) (aa 1),bP 3 (pN) (eC (S "rung")) (eC (.bl false)),cZ 3 (pX 3 (pN) (eC (S "regs"))) (eC (.int 0)) (eC (.int 0)),nZ 0 3 (pX 0 (pN) (eC (S "tasks"))) (aa 2),cZ 0 (pX 0 (pX 0 (pX 0 (pN) (eC (S "tasks"))) (aa 1)) (eC (S "regs"))) (eC (.int 0)) (aa 2)])
noncomputable def ou:T->List D->R (D×T):=iE 5 (aw [kU 2 0 (pX 0 (pX 0 (pN) (eC (S "tasks"))) (aa 1)),bb (aF 3) (cS 0 (aG eG [aa 0,aa 1])),bb (aF 4) (cS 0 (bJ (dy (aa 3)) 1 [0] (aF 0) [tV (aG ip [aa 1,aa 0])] (aa 0))),aR (tV (e2 c9 (aa 4) (cC []))) (aw [cZ 0 (pX 0 (pA 0 2) (eC (S "regs"))) (eC (.int 0)) (e2 av (aa 4) (eC (.int 0))),qF 0 (pX 0 (pA 0 2) (eC (S "regs"))) (eC (.int 1)) (oD (mL 2 0 (pX 0 (pN) (eC (S "tasks"))) (e2 av (aa 4) (eC (.int 0))) (Str.ofString "waits")) (eC (.int 1)))]) (aR (tV (e2 oEq (aa 3) (cC []))) (cZ 0 (pX 0 (pA 0 2) (eC (S "regs"))) (eC (.int 0)) (eC (.int 4294967292))) (bP 0 (pA 0 2) (eC (S "waits")) (cE [eC (S "child")])))])
noncomputable def oO:T->List D->R (D×T):=iE 4 (aR (tV (e2 oEq (aa 2) (eC (.int 0)))) (i4 (iL 0 mS [aa 1,aa 3])) (aR (tV (e2 oEq (aa 2) (eC (.int 1)))) (i4 (iL 0 oA [aa 1])) (aR (tV (e2 oEq (aa 2) (eC (.int 2)))) (i4 (iL 0 ou [aa 1])) (aR (tV (e2 jQ (aa 3) (eC (.int 3)))) (cZ 0 (pX 0 (pX 0 (pX 0 (pN) (eC (S "tasks"))) (aa 1)) (eC (S "regs"))) (eC (.int 0)) (eC (.int 4294967295))) (aw [bP 0 (pX 0 (pX 0 (pN) (eC (S "tasks"))) (aa 1)) (eC (S "rank")) (aa 3),cZ 0 (pX 0 (pX 0 (pX 0 (pN) (eC (S "tasks"))) (aa 1)) (eC (S "regs"))) (eC (.int 0)) (eC (.int 0))])))))
noncomputable def kS:List D->R D:=fn 4 (aw [lL 3 (e1 u3 (aa 0)),nR 3 (eC (.int 0)) (aa 1),aR (tV (e1 oK (aa 2))) (nR 3 (eC (.int 1)) (aa 2)) (bf),jq 3,aX (aa 3)])
noncomputable def dC:List D->R D:=fn 3 (aw [pM 2 (e1 kN (aa 0)),AY 2 (aa 1),jq 2,aX (aa 2)])
noncomputable def d9:List D->R D:=fn 4 (aw [pM 3 (e1 kN (e2 av (aa 0) (eC (S "tasks")))),q9 3 (aa 1) (aG dC [zq 3 (aa 1),aa 2]),jq 3,aX (aG dC [aa 0,dj [(.inr (Str.ofString "tasks"))] [aa 3]])])
noncomputable def cx:List D->R D:=fn 5 (aw [bb (aF 4) (aG kS [e2 av (e2 av (e2 av (aa 0) (eC (S "tasks"))) (aa 1)) (eC (S "regs")),aa 2,aa 3]),aX (aG d9 [aa 0,aa 1,dj [(.inr (Str.ofString "regs")),(.inr (Str.ofString "waits"))] [aa 4,eC .aj]])])
noncomputable def kP:List D->R D:=fn 3 (aw [bb (aF 2) (e2 av (aa 0) (eC (S "tasks"))),aX (e1 nQ (bJ (j8 (aa 2)) 1 [1,2] (aF 0) [tV (e2 oEq (e2 av (e2 av (aa 2) (aa 0)) (eC (S "parent"))) (aa 1))] (aa 0)))])
noncomputable def kG:List D->R D:=fn 1 (aX (eM (e1 oK (aa 0)) (e2 oEq (e2 av (aa 0) (eC (.int 0))) (eC (S "ended")))))
noncomputable def hV:List D->R D:=fn 3 (aw [pM 2 (e1 kN (e2 av (aa 0) (eC (S "tasks")))),xU 2 (aa 1),jq 2,aX (aG dC [aa 0,dj [(.inr (Str.ofString "tasks"))] [aa 2]])])
noncomputable def k8:Sm:=aR (tV (aG kG [e2 av (e2 av (e2 av (aa 0) (eC (S "tasks"))) (aa 3)) (eC (S "waits"))])) (bb (aF 2) (aG hV [aa 2,aa 3])) (bb (aF 2) (aG d9 [aa 2,aa 3,dj [(.inr (Str.ofString "parent"))] [eC (.int 0)]]))
noncomputable def oI:List D->R D:=fn 4 (aw [bb (aF 2) (aa 0),fL (dy (aG kP [aa 0,aa 1])) (aF 3) k8,aX (aa 2)])
noncomputable def mY:List D->R D:=fn 1 (aX (bJ (dy (e1 gG (e2 av (aa 0) (eC (S "tasks"))))) 1 [0] (aF 0) [] (e2 av (e2 av (aa 1) (eC (S "tasks"))) (aa 0))))
noncomputable def me:Sm:=ur 1 (bJ (jU (e2 av (aa 2) (eC (S "pages")))) 1 [] (aF 0) [tV (e2 oEq (e2 av (aa 0) (eC (.int 0))) (eC (S "lent")))] (e2 av (aa 0) (eC (.int 1))))
noncomputable def nL:List D->R D:=fn 3 (aw [lL 1 (cC []),fL (dy (aG mY [aa 0])) (aF 2) me,jq 1,aX (aa 1)])
noncomputable def nM:List D->R D:=fn 3 (aw [bb (aF 1) (aG nL [aa 0]),bb (aF 2) (e1 m8 (bJ (wG (e2 av (aa 0) (eC (S "lent")))) 2 [1] (g7 [0,1]) [tV (e2 dM (aa 0) (aa 2))] (cE [aa 0,aa 1]))),aX (aG dC [aa 0,dj [(.inr (Str.ofString "lent"))] [aa 2]])])
noncomputable def og:List D->R D:=fn 2 (aX (aG nM [aG d9 [aa 0,aa 1,dj [(.inr (Str.ofString "pages"))] [dj [] []]]]))
noncomputable def i5:List D->R D:=fn 6 (aw [bb (aF 3) (dj [(.inr (Str.ofString "handles")),(.inr (Str.ofString "waits")),(.inr (Str.ofString "rung")),(.inr (Str.ofString "saved"))] [dj [] [],cE [eC (S "ended"),aa 2],eC (.bl false),eC .aj]),bb (aF 4) (aG oI [aG d9 [aG og [aa 0,aa 1],aa 1,aa 3],aa 1]),bb (aF 5) (e2 av (e2 av (e2 av (aa 4) (eC (S "tasks"))) (aa 1)) (eC (S "parent"))),aR (tV (e2 oEq (aa 5) (eC (.int 0)))) (aX (aG hV [aa 4,aa 1])) (bf),aR (tV (e2 oEq (e2 av (e2 av (e2 av (aa 4) (eC (S "tasks"))) (aa 5)) (eC (S "waits"))) (cE [eC (S "child")]))) (aX (aG cx [aG hV [aa 4,aa 1],aa 5,aa 1,aa 2])) (bf),aX (aa 4)])
noncomputable def kY:List D->R D:=fn 4 (aX (aG i5 [aa 0,aa 1,aa 2]))
noncomputable def gA:Sm:=aR (tV (e2 gB (aa 3) (aa 0))) (aX (aa 3)) (bf)
noncomputable def nB:List D->R D:=fn 4 (aw [fL (iW (aa 1) (e2 gL (aa 2) (eC (.int 1)))) (aF 3) gA,aX (eC .aj)])
noncomputable def lR:List D->R T:=hW 2 (iK (xM (e1 kN (e2 av (e2 av (e2 av (aa 0) (eC (S "tasks"))) (aa 1)) (eC (S "pages"))))))
noncomputable def jB:List D->R D:=fn 7 (aw [bb (aF 4) (aG nB [e2 av (aa 0) (eC (S "tasks")),eC (.int 1),eC vN]),aR (tV (e1 lW (aa 4))) (aX (aG (λds=>cx (ds++[.aj])) [aa 0,aa 1,eC oE])) (bf),bb (aF 5) (dj [(.inr (Str.ofString "parent")),(.inr (Str.ofString "rung")),(.inr (Str.ofString "pages"))] [aa 1,eC (.bl false),eX (cG lR [aa 0,aa 1])]),bb (aF 6) (aG dC [e2 av (aa 0) (eC (S "tasks")),tH (aa 4) (aG dC [e2 av (e2 av (aa 0) (eC (S "tasks"))) (aa 1),aa 5])]),aX (aG (λds=>cx (ds++[.aj])) [aG (λds=>cx (ds++[.aj])) [aG dC [aa 0,dj [(.inr (Str.ofString "tasks"))] [aa 6]],aa 4,eC (.int 0)],aa 1,aa 4])])
noncomputable def jM:List D->R D:=fn 7 (aw [bb (aF 4) (aG kP [aa 0,aa 1]),bb (aF 5) (bJ (dy (aa 4)) 1 [0] (aF 0) [tV (aG kG [e2 av (e2 av (e2 av (aa 1) (eC (S "tasks"))) (aa 0)) (eC (S "waits"))])] (aa 0)),aR (tV (e2 jQ (e1 iH (aa 5)) (eC (.int 0)))) (aw [bb (aF 6) (e2 av (e2 av (e2 av (e2 av (aa 0) (eC (S "tasks"))) (e2 av (aa 5) (eC (.int 0)))) (eC (S "waits"))) (eC (.int 1))),aX (aG cx [aG hV [aa 0,e2 av (aa 5) (eC (.int 0))],aa 1,e2 av (aa 5) (eC (.int 0)),aa 6])]) (bf),aR (tV (e2 oEq (e1 iH (aa 4)) (eC (.int 0)))) (aX (aG (λds=>cx (ds++[.aj])) [aa 0,aa 1,eC tm])) (bf),aX (aG d9 [aa 0,aa 1,dj [(.inr (Str.ofString "waits"))] [cE [eC (S "child")]]])])
noncomputable def jz:List D->R D:=fn 4 (aw [aR (fT (tV (kq oLe oLe (eC (.int 0)) (aa 2) (eC (.int 3))))) (aX (aG (λds=>cx (ds++[.aj])) [aa 0,aa 1,eC oN])) (bf),aX (aG (λds=>cx (ds++[.aj])) [aG d9 [aa 0,aa 1,dj [(.inr (Str.ofString "rank"))] [aa 2]],aa 1,eC (.int 0)])])
noncomputable def lQ:List D->R D:=fn 9 (aw [aR (il (tV (aa 6)) (tV (e2 gB (aa 2) (eC tZ)))) (zT) (bf),aR (tV (aa 6)) (aX (aG (λds=>cx (ds++[.aj])) [aa 0,aa 1,eC oE])) (bf),aR (tV (kq oLe oLe (eC (.int 11)) (aa 2) (eC (.int 20)))) (aX (sy)) (bf),aR (tV (kq oLe oLe (eC (.int 21)) (aa 2) (eC (.int 24)))) (aw [bb (aF 7) (sy),aX (aG (λds=>cx (ds++[.aj])) [e2 av (aa 7) (eC (.int 0)),aa 1,e2 av (aa 7) (eC (.int 1))])]) (bf),bb (aF 8) (e2 (nO .aj) (eC qm) (aa 2)),aX (yt (tV (e1 lW (aa 8))) (aG (λds=>cx (ds++[.aj])) [aa 0,aa 1,eC oN]) (rV 8 [("end_call",kY),("part_call",jB),("wait_call",jM),("rank_call",jz)] [aa 0,aa 1,aa 3,aa 4]))])
noncomputable def uO(rec:List D->R D):List D->R D:=fn 2 (aw [aR (tV (e1 (bX .dict) (aa 1))) (aw [aR (f6 (fT (tV (e1 (bX .dict) (aa 0)))) (tV (e2 c9 (e1 fU (aa 0)) (e1 fU (aa 1))))) (aX (eC (.bl false))) (bf),aX (e1 jr (bJ (j8 (aa 1)) 1 [0,1] (aF 0) [] (eM (e2 dM (aa 0) (aa 1)) (aG rec [e2 av (aa 1) (aa 0),e2 av (aa 2) (aa 0)]))))]) (bf),aR (tV (e1 jI (aa 1))) (aw [aR (f6 (tV (e2 c9 (e1 (bX .list) (aa 0)) (e1 (bX .list) (aa 1)))) (tV (e2 c9 (e1 (bX .tuple) (aa 0)) (e1 (bX .tuple) (aa 1))))) (aX (eC (.bl false))) (bf),aX (eM (e2 oEq (e1 fU (aa 0)) (e1 fU (aa 1))) (e1 jr (bJ (qj (aa 0) (aa 1)) 2 [] (g7 [0,1]) [] (aG rec [aa 0,aa 1]))))]) (bf),aX (eM (e2 oEq (aa 0) (aa 1)) (e2 oEq (e1 (bX .bool) (aa 0)) (e1 (bX .bool) (aa 1))))])
noncomputable def lE:List D->R D:=lZ uO 9
noncomputable def jS:Sm:=aw [bb (aF 4) (cS 2 (bJ (dy (e1 gG (e2 av (aa 2) (eC (S "tasks"))))) 1 [2] (aF 0) [tV (e1 lW (e2 av (e2 av (e2 av (aa 1) (eC (S "tasks"))) (aa 0)) (eC (S "waits"))))] (aa 0))),bb (aF 5) (aG kC [e2 av (aa 0) (aa 3),e2 gL (e2 hU (eC (.int 16)) (aa 3)) (eC (.int 2))]),aR (tV (e2 oEq (aa 4) (cC []))) (aX (eC (.bl true))) (bf),bb (aF 6) (e2 av (aa 4) (e2 oMod (aa 5) (e1 iH (aa 4)))),bb (aF 7) (e2 av (cC [eC (.int 0),eC (.int 0),eC (.int 1),eC (.int 1),eC (.int 1),eC (.int 1),eC (.int 2),eC (.int 2),eC (.int 2),eC (.int 3)]) (e2 oMod (e2 oDiv (aa 5) (eC (.int 16))) (eC (.int 10)))),bb (aF 8) (e2 av (cC [e2 oMod (e2 oDiv (aa 5) (eC (.int 640))) (eC (.int 6)),e2 oMod (e2 oDiv (aa 5) (eC (.int 640))) (eC (.int 4294967296))]) (e2 oDiv (e2 oMod (e2 oDiv (aa 5) (eC (.int 160))) (eC (.int 4))) (eC (.int 3)))),ib 9 (l6 2 (cG gN [aa 2])),vl 9,i4 (iL 2 oO [aa 6,aa 7,aa 8]),bb (aF 10) (eX (cG gN [aa 9])),bb (aF 11) (aG (λds=>lQ (ds++[(.bl false)])) [aa 9,aa 6,aa 7,aa 8,eC (.int 1),eC (.int 2)]),aR (gp 2 (f6 (fT (tV (aG lE [aa 11,aa 2]))) (fT (tV (aG lE [aa 9,aa 10]))))) (aX (eC (.bl false))) (bf),aR (gp 2 (il (tV (e2 oEq (aa 7) (eC (.int 0)))) (fT (tV (aG lE [aG i5 [aa 9,aa 6,aa 8],aa 2]))))) (aX (eC (.bl false))) (bf)]
noncomputable def ml:List D->R D:=fn 12 (aw [ib 2 (cG m9 [aa 0]),fL (iW (eC (.int 2)) (e2 pE (e1 iH (aa 0)) (eC (.int 62)))) (aF 3) jS,aX (eC (.bl true))])
end dn
end PL
set_option maxRecDepth 1000
namespace PL
open PySem
theorem A6{tg:bL}{body:Sm}(P:En->Prop):∀ {ds:List D},(∀d∈ds,∀ρ,P ρ->∃LJ,tg d ρ=.ok LJ/\∃LZ,body LJ=.ok (.next LZ)/\P LZ)->
  ∀ {ρ:En},P ρ->∃ρ',forL tg body ds ρ=.ok (.next ρ')/\P ρ'
 |[],_,ρ,h=>⟨ρ,rfl,h⟩
 | d::ds,hs,ρ,h=>by
  obtain⟨LJ,e1,LZ,e2,h2⟩:=hs d (v3 ..) ρ h;obtain⟨ρ',e,h'⟩:=A6 (ds:=ds) P (λd hd=>hs d (rU _ hd)) h2;exact⟨ρ',by simp[forL,e1,e2,e],h'⟩
theorem nq{tg:bL}{body:Sm}(P:Nat->En->Prop):∀ {ds:List D} (n:Nat),(∀i d,ds[i]? =some d->∀ρ,P (n+i) ρ->∃LJ,tg d ρ=.ok LJ/\∃LZ,body LJ=.ok (.next LZ)/\P (n+i+1) LZ)->
  ∀ {ρ:En},P n ρ->∃ρ',forL tg body ds ρ=.ok (.next ρ')/\P (n+ds.length) ρ'
 |[],n,_,ρ,h=>⟨ρ,rfl,h⟩
 | d::ds,n,hs,ρ,h=>by
  obtain⟨LJ,e1,LZ,e2,h2⟩:=hs 0 d rfl ρ h
  obtain⟨ρ',e,h'⟩:=nq (ds:=ds) P (n+1) (λi d hd ρ hp=>by
   have:=hs (i+1) d (by simpa using hd) ρ (by rw[show n+(i+1)=n+1+i by omega];exact hp)
   rw[show n+1+i+1=n+(i+1)+1 by omega];exact this) h2
  refine⟨ρ',by simp[forL,e1,e2,e],?_⟩
  rw[V6,show n+(ds.length+1)=n+1+ds.length by omega];exact h'
theorem FJ{a b:Int}{i:Nat}{d:D}(h:(d6 a b)[i]? =some d):d=.int (a+i)/\(i:Int)<b - a:=by
 unfold d6 at h;rw[DM]at h;cases e:(List.range (b - a).toNat)[i]? with
 |none=>rw[e]at h;cases h
 | some k=>
  rw[e]at h;obtain⟨Mp,hk⟩:=mO.mp e;simp at hk Mp h;subst hk;exact⟨h.symm,by omega⟩
theorem Gw{a b:Int}{d:D}(h:d∈d6 a b):∃k:Int,d=.int k/\a<=k/\k<b:=by
 unfold d6 at h;obtain⟨k,hk,e⟩:=V5.mp h;have:=YW.mp hk;exact⟨a+k,e.symm,by omega,by omega⟩
theorem HJ{α:Type}{xs:List α}{i:Int}(h0:0<=i)(h:i<xs.length):cM xs i=some (xs[i.toNat]'(by omega)):=by
 unfold cM cI;rw[u9 h0,u9 h];have:i.toNat<xs.length:=by omega
 simp[this]
theorem uo{xs:VH}{i:Int}(h0:0<=i)(h:i<xs.length):∃x,x∈xs/\cM (xs.map D.int) i=some (.int x):=by
 refine⟨xs[i.toNat]'(by omega),List.getElem_mem _,?_⟩
 rw[HJ h0 (by simpa using h)]
 simp
theorem yx{i:Int}(h1: -1000000<i)(h2:i<1000000):inR i=true:=by
 unfold inR;rw[GT (show -4611686018427387904<=i by omega),GT (show i<4611686018427387904 by omega)];rfl
theorem zi{i:Int}(h1:0<=i)(h2:i<18446744073709551616):small i=true:=by
 unfold small;rw[GT (show -18446744073709551616<i by omega),GT h2];rfl
theorem b7{c:aY}{a b:Sm}{ρ:En}(h:c ρ=.ok true):aR c a b ρ=a ρ:=by simp[h]
theorem aA{a:Sm}{r:List Sm}{ρ ρ':En}(h:a ρ=.ok (.next ρ')):aw (a::r) ρ=aw r ρ':=by
 show(a ρ).bind _=_;rw[h];rfl
theorem bB{a:Sm}{r:List Sm}{ρ:En}{d:D}(h:a ρ=.ok (.ret d)):aw (a::r) ρ=.ok (.ret d):=by
 show(a ρ).bind _=_;rw[h];rfl
theorem bY{c:aY}{a:Sm}{ρ:En}(h:c ρ=.ok false):aR c a bf ρ=.ok (.next ρ):=by simp[h]
theorem ck{n:Nat}{b:Sm}{ds:List D}{d:D}(h:b (ds.map .sh++List.replicate (n - ds.length) .un)=.ok (.ret d)):fn n b ds=.ok d:=by
 unfold fn;rw[h];rfl
theorem GC{a:Ex}{ρ:En}{L:Int}(h:a ρ=.ok (.int L))(h2:inR L=true):mn a ρ=.ok (d6 0 L):=by
 simp[h,h2]
theorem sC{a b:Ex}{ρ:En}{I L:Int}(h:a ρ=.ok (.int I))(h':b ρ=.ok (.int L))(h1:inR I=true)(h2:inR L=true):iW a b ρ=.ok (d6 I L):=by
 simp[h,h',h1,h2]
set_option maxRecDepth 2000
namespace G
theorem d4{o:D->R D}{a:Ex}{ρ:En}{x d:D}(ha:a ρ=.ok x)(h:o x=.ok d):e1 o a ρ=.ok d:=by
 show(a ρ).bind _=_;rw[ha,R.aJ,h]
theorem aW{o:D->D->R D}{a b:Ex}{ρ:En}{x y d:D}(ha:a ρ=.ok x)(hb:b ρ=.ok y)(h:o x y=.ok d):e2 o a b ρ=.ok d:=by
 show(a ρ).bind _=_;rw[ha,R.aJ];show(b ρ).bind _=_;rw[hb,R.aJ,h]
theorem jk{f:List D->R D}{a:Ex}{ρ:En}{x d:D}(ha:a ρ=.ok x)(h:f [x]=.ok d):aG f [a] ρ=.ok d:=by
 simp only[aG,eList,ha,R.aJ];exact h
theorem cy{f:List D->R D}{a b:Ex}{ρ:En}{x y d:D}(ha:a ρ=.ok x)(hb:b ρ=.ok y)(h:f [x,y]=.ok d):aG f [a,b] ρ=.ok d:=by
 simp only[aG,eList,ha,hb,R.aJ];exact h
theorem dN{f:List D->R D}{a b c:Ex}{ρ:En}{x y z d:D}(ha:a ρ=.ok x)(hb:b ρ=.ok y)(hc:c ρ=.ok z)(h:f [x,y,z]=.ok d):aG f [a,b,c] ρ=.ok d:=by
 simp only[aG,eList,ha,hb,hc,R.aJ];exact h
theorem lj{a b:Ex}{ρ:En}{i u:Int}(ha:a ρ=.ok (.int i))(hb:b ρ=.ok (.int u)):e2 gL a b ρ=.ok (.int (i+u)):=aW ha hb rfl
theorem Iv{a b:Ex}{ρ:En}{i u:Int}(ha:a ρ=.ok (.int i))(hb:b ρ=.ok (.int u)):e2 pZ a b ρ=.ok (.int (i - u)):=aW ha hb rfl
theorem cL{a b:Ex}{ρ:En}{i u:Int}(ha:a ρ=.ok (.int i))(hb:b ρ=.ok (.int u))(h:0<u):e2 oMod a b ρ=.ok (.int (i % u)):=aW ha hb (u9 h)
theorem GH{a b:Ex}{ρ:En}{x y:D}(h:a ρ=.ok x)(h2:b ρ=.ok y):cE [a,b] ρ=.ok (.tup [x,y]):=by
 simp only[cE,eList,h,h2,R.aJ]
theorem bj{a:Ex}{ρ:En}{b:Bool}(ha:a ρ=.ok (.bl b)):tV a ρ=.ok b:=by
 simp only[tV,ha,R.aJ,truth]
theorem oY{t:aY}{ρ:En}{b:Bool}(h:t ρ=.ok b):fT t ρ=.ok (!b):=by
 simp only[fT,h,R.aJ]
theorem xl{t u:aY}{ρ:En}{b c:Bool}(h:t ρ=.ok b)(h':u ρ=.ok c):f6 t u ρ=.ok (b||c):=by
 simp only[f6,h,R.aJ];cases b
 ·rw[Da (by decide),h'];rfl
 ·rfl
theorem Cg{t u:aY}{ρ:En}{b c:Bool}(h:t ρ=.ok b)(h':u ρ=.ok c):il t u ρ=.ok (b&&c):=by
 simp only[il,h,R.aJ];cases b
 ·rfl
 ·rw[u9 rfl,h'];rfl
theorem y0{t u:aY}{ρ:En}(h:t ρ=.ok false):il t u ρ=.ok false:=by
 simp only[il,h,R.aJ];rfl
theorem pz{a b:Ex}{ρ:En}{x:Bool}{d:D}(ha:a ρ=.ok (.bl true))(hb:b ρ=.ok d):eM a b ρ=.ok d:=by
 simp only[eM,ha,R.aJ];exact hb
theorem bW{a:Ex}{ρ:En}{d:D}(h:a ρ=.ok d):aX a ρ=.ok (.ret d):=by
 simp only[aX,h,R.aJ]
theorem bQ{i:Nat}{a:Ex}{ρ:En}{d:D}(h:a ρ=.ok d):bb (aF i) a ρ=.ok (.next (ρ.set i (.sh d))):=by
 simp only[bb,h,R.aJ,aF]
theorem BY{i:Nat}{a:Ex}{ρ:En}{d:D}{xs:List D}(h:a ρ=.ok d)(hi:ρ[i]? =some (.ol xs))(hl:xs.length<16777216):qz i a ρ=.ok (.next (ρ.set i (.ol (xs++[d])))):=by
 simp only[qz,h,R.aJ,hi];exact u9 hl
theorem AM{i:Nat}{a:Ex}{ρ:En}{xs:List D}(h:a ρ=.ok (.lst xs)):lL i a ρ=.ok (.next (ρ.set i (.ol xs))):=by
 simp only[lL,h,R.aJ]
theorem t4{i:Nat}{k a:Ex}{ρ:En}{d:D}{j:Int}{m:Nat}{xs:List D}(h:a ρ=.ok d)(hk:k ρ=.ok (.int j))(hi:ρ[i]? =some (.ol xs))(hm:cI xs.length j=some m):nR i k a ρ=.ok (.next (ρ.set i (.ol (xs.set m d)))):=by
 simp only[nR,h,hk,R.aJ,hi,hm]
theorem jd{n:Nat}{j:Int}(h0:0<=j)(h1:j<n):cI n j=some j.toNat:=by
 unfold cI;rw[u9 h0,u9 h1]
theorem nh{xs:List D}{i:Int}{d:D}(h:cM xs i=some d):av (.lst xs) (.int i)=.ok d:=by simp[h]
theorem eq_int(i j:Int):oEq (.int i) (.int j)=.ok (.bl (decide (i=j))):=by
 unfold oEq;rw[EA,u9 rfl];show R.ok (D.bl (i==j))=_;rfl
theorem lt_int(i j:Int):oLt (.int i) (.int j)=.ok (.bl (decide (i<j))):=rfl
mutual
theorem vC:∀d:D,lay d=true->br d d=true
 |.aj,_=>rfl
 |.bl b,_=>by simp
 |.int i,_=>by simp
 |.str x,_=>by simp
 |.tup xs,h=>by unfold br;exact wo xs (by unfold lay at h;exact h)
 |.lst xs,h=>by unfold br;exact wo xs (by unfold lay at h;exact h)
 |.ai _ _,h=>by unfold lay at h;cases h
 |.cj _ _ _,h=>by unfold lay at h;cases h
theorem wo:∀ds:List D,dW ds=true->kW ds ds=true
 |[],_=>rfl
 | d::ds,h=>by
  unfold dW at h;rw[sa]at h;unfold kW;rw[vC d h.1,wo ds h.2];rfl
end
theorem yA{d:D}(h:lay d=true)(h2:dep d<=60):dG d d=true:=by
 unfold dG;rw[h,GT (show min (dep d) (dep d)<=60 by omega)];simp
theorem ne_self{d:D}(h:lay d=true)(h2:dep d<=60):c9 d d=.ok (.bl false):=by
 unfold c9;rw[u9 (yA h h2),vC d h];rfl
theorem eq_self{d:D}(h:lay d=true)(h2:dep d<=60):oEq d d=.ok (.bl true):=by
 unfold oEq dA;rw[yA h h2,vC d h];rfl
theorem oB{α:Type}{tg:bL}{el:Ex}{ρ:En}(u:α->D)(v:α->D):∀ {xs:List α},(∀x∈xs,∃LJ,tg (u x) ρ=.ok LJ/\el LJ=.ok (v x))->eZ tg [] el ρ (xs.map u)=.ok (xs.map v)
 |[],_=>rfl
 | x::xs,h=>by
  obtain⟨LJ,e1,e2⟩:=h x v3;rw[Re,eZ,e1,R.aJ];show(R.ok true).bind _=_;rw[R.aJ,u9 rfl,e2,R.aJ,oB u v (λy hy=>h y (rU _ hy))];rfl
theorem jh{α:Type}{tg:bL}{cs:List aY}{el:Ex}{ρ:En}(u:α->D)(p:α->Bool)(v:α->D):∀ {xs:List α},(∀x∈xs,∃LJ,tg (u x) ρ=.ok LJ/\eZ.l9 cs LJ=.ok (p x)/\(p x=true->el LJ=.ok (v x)))->eZ tg cs el ρ (xs.map u)=.ok ((xs.filter p).map v)
 |[],_=>rfl
 | x::xs,h=>by
  obtain⟨LJ,e1,e2,e3⟩:=h x v3;have ih:=jh (cs:=cs) (el:=el) (ρ:=ρ) u p v (xs:=xs) (λy hy=>h y (rU _ hy));rw[Re,eZ,e1,R.aJ,e2,R.aJ];cases hp:p x with
  |true=>rw[u9 rfl,e3 hp,R.aJ,ih,Xb hp];rfl
  |false=>rw[Da (by decide),ih,Yf (by rw[hp];decide)]
theorem fI{it:bV}{n:Nat}{fv:List Nat}{tg:bL}{cs:List aY}{el:Ex}{ρ:En}{ds ys:List D}(hi:it ρ=.ok ds)(hl:ds.length<=16777216)(hc:eZ tg cs el (List.replicate n .un++frees ρ fv) ds=.ok ys):bJ it n fv tg cs el ρ=.ok (.lst ys):=by
 show(it ρ).bind _=_;rw[hi,R.aJ,u9 hl,hc];rfl
theorem gT{it:bV}{tg:bL}{body:Sm}{ρ:En}{ds:List D}{r:R Fl}(hi:it ρ=.ok ds)(h:forL tg body ds ρ=r):fL it tg body ρ=r:=by
 show(it ρ).bind _=_;rw[hi,R.aJ,h]
theorem uh{g h:D->D->R D}{a b c:Ex}{ρ:En}{x y z:D}{p q:Bool}(ha:a ρ=.ok x)(hb:b ρ=.ok y)(hg:g x y=.ok (.bl p))(hc:c ρ=.ok z)(hh:h y z=.ok (.bl q)):kq g h a b c ρ=.ok (.bl (p&&q)):=by
 simp only[kq,ha,hb,hg,R.aJ];cases p
 ·rfl
 ·simp only[hc,R.aJ,hh,WR]
theorem le_int(i j:Int):oLe (.int i) (.int j)=.ok (.bl (decide (i<=j))):=rfl
theorem EI{n:Nat}{b:Sm}{ds xs:List D}(h:b (ds.map .sh++List.replicate (n - ds.length) .un)=.ok (.fj (.lst xs))):j0 n b ds=.ok (.lst xs):=by
 unfold j0;rw[h];rfl
theorem zv:∀ns:VH,intsOf (ns.map D.int)=some ns
 |[]=>rfl
 |n::ns=>by rw[Re,intsOf,zv ns];rfl
end G
end PL
set_option maxRecDepth 4000
set_option maxHeartbeats 400000
namespace PL
namespace C
open PySem G
noncomputable def nG(rec:List D->R D):List D->R D:=fn 2 (aw [aR (tV (e1 (bX .dict) (aa 1))) (aw [aR (f6 (fT (tV (e1 (bX .dict) (aa 0)))) (tV (e2 c9 (e1 fU (aa 0)) (e1 fU (aa 1))))) (aX (eC (.bl false))) (bf),aX (e1 jr (bJ (j8 (aa 1)) 1 [0,1] (aF 0) [] (eM (e2 dM (aa 0) (aa 1)) (aG rec [e2 av (aa 1) (aa 0),e2 av (aa 2) (aa 0)]))))]) (bf),aR (tV (e1 jI (aa 1))) (aw [aR (f6 (tV (e2 c9 (e1 (bX .list) (aa 0)) (e1 (bX .list) (aa 1)))) (tV (e2 c9 (e1 (bX .tuple) (aa 0)) (e1 (bX .tuple) (aa 1))))) (aX (eC (.bl false))) (bf),aX (eM (e2 oEq (e1 fU (aa 0)) (e1 fU (aa 1))) (e1 jr (bJ (qj (aa 0) (aa 1)) 2 [] (g7 [0,1]) [] (aG rec [aa 0,aa 1]))))]) (bf),aX (eM (e2 oEq (aa 0) (aa 1)) (e2 oEq (e1 (bX .bool) (aa 0)) (e1 (bX .bool) (aa 1))))])
mutual
noncomputable def nice:D->Bool
 |.str x=>x.cps.all (· <0x110000)
 |.tup xs=>decide (xs.length<=1000)&&fg xs
 |.lst xs=>decide (xs.length<=1000)&&fg xs
 |.ai ks vs=>decide ks.Nodup&&decide (ks.length=vs.length)&&decide (ks.length<=1000)&&fg vs
 |.cj _ _ _=>false
 |_=>true
noncomputable def fg:List D->Bool
 |[]=>true
 |d::ds=>nice d&&fg ds
end
mutual
noncomputable def bT:D->Nat
 |.tup xs=>cA xs+1
 |.lst xs=>cA xs+1
 |.ai _ vs=>cA vs+1
 |_=>0
noncomputable def cA:List D->Nat
 |[]=>0
 |d::ds=>max (bT d) (cA ds)
end
theorem jV:∀ {ds:List D},fg ds=true->∀d∈ds,nice d=true
 |[],_,_,h=>nomatch h
 | d::ds,h,x,hx=>by
  unfold fg at h;rw[sa]at h;rcases AC.mp hx with rfl|hx
  ·exact h.1
  ·exact jV h.2 x hx
theorem jT:∀ {ds:List D} {d:D},d∈ds->bT d<=cA ds
 |[],_,h=>nomatch h
 | x::ds,d,h=>by
  show bT d<=max (bT x) (cA ds);rcases AC.mp h with rfl|h
  ·omega
  ·have:=jT h;omega
theorem qu{α:Type}{tg:bL}{el:Xt}{ρ:En}(u:α->D)(v:α->T):∀ {xs:List α},(∀x∈xs,∃LJ,tg (u x) ρ=.ok LJ/\el LJ=.ok (v x))->gE tg [] el ρ (xs.map u)=.ok (xs.map v)
 |[],_=>rfl
 | x::xs,h=>by
  obtain⟨LJ,e1,e2⟩:=h x v3;rw[Re,gE,e1,R.aJ];show(R.ok true).bind _=_;rw[R.aJ,u9 rfl,e2,R.aJ,qu u v (λy hy=>h y (rU _ hy))];rfl
theorem ua{it:bV}{n:Nat}{fv:List Nat}{tg:bL}{cs:List aY}{el:Xt}{ρ:En}{ds:List D}{ts:List T}(hi:it ρ=.ok ds)(hl:ds.length<=16777216)(hc:gE tg cs el (List.replicate n .un++frees ρ fv) ds=.ok ts):kE it n fv tg cs el ρ=.ok (.l ts):=by
 unfold kE qO;rw[hi,R.aJ,u9 hl,hc];rfl
theorem uE{z:Ky}{v:D}:∀ {ks:List Ky} {vs:List D},ks.Nodup->(z,v)∈ks.zip vs->bS z ks vs=some v
 |[],_,_,h=>by simp at h
 |_::_,[],_,h=>by simp at h
 | a::ks,x::vs,hn,h=>by
  rw[V7]at h;unfold bS;have hn:=GM.mp hn;rcases AC.mp h with h|h
  ·cases h;rw[u9 rfl]
  ·have hz:a≠z:=λe=>by subst e;exact hn.1 (Wz h).1
   rw[Da hz];exact uE hn.2 h
theorem vA(z:Ky):keyOf (b5 z)=some z:=by cases z<;>rfl
theorem o9{z:Ky}{v:D}{ks:List Ky}{vs:List D}(h:bS z ks vs=some v):av (.ai ks vs) (b5 z)=.ok v:=by
 show(match keyOf (b5 z)with|some q=>(match bS q ks vs with|some v=>R.ok v|none=>.bad)|none=>.bad)=_
 rw[vA];show(match bS z ks vs with|some v=>R.ok v|none=>.bad)=_
 rw[h]
theorem Jj{z:Ky}{v:D}{ks:List Ky}{vs:List D}(h:bS z ks vs=some v):dM (b5 z) (.ai ks vs)=.ok (.bl true):=by
 have:dM (b5 z) (.ai ks vs)=(match keyOf (b5 z)with|some k=>R.ok (D.bl (bS k ks vs).isSome)|none=>.bad):=by cases z<;>rfl
 rw[this,vA];show R.ok (D.bl (bS z ks vs).isSome)=_;rw[h];rfl
theorem qc{f:Xt}{ρ:En}{t:T}(h:f ρ=.ok t):iK f ρ=.ok (.dB t):=by unfold iK;rw[h];rfl
theorem sW{a:Sm}{r:List Sm}{ρ:En}{t:T}(h:a ρ=.ok (.dB t)):aw (a::r) ρ=.ok (.dB t):=by
 show(a ρ).bind _=_;rw[h];rfl
theorem u5{n:Nat}{b:Sm}{ds:List D}{t:T}(h:b (ds.map .sh++List.replicate (n - ds.length) .un)=.ok (.dB t)):hW n b ds=.ok t:=by
 unfold hW;rw[h];rfl
theorem j9{m:List D->R T}{a:Ex}{ρ:En}{x:D}{t:T}(ha:a ρ=.ok x)(h:m [x]=.ok t):cG m [a] ρ=.ok t:=by
 unfold cG;simp only[eList,ha,R.aJ];exact h
theorem yW{f:Xt}{ρ:En}{t:T}(h:f ρ=.ok t):eX f ρ=.ok (T.toD t):=by unfold eX;rw[h];rfl
theorem all_true:∀ {α:Type} (xs:List α),allB (xs.map λ_=>D.bl true)=.ok (.bl true)
 |_,[]=>rfl
 | _,x::xs=>by
  show allB (D.bl true::xs.map λ_=>D.bl true)=_;unfold allB;rw[all_true xs];rfl
theorem vR:∀xs:List D,iz xs xs=xs.map λx=>.tup [x,x]
 |[]=>rfl
 |x::xs=>by show D.tup [x,x]::iz xs xs=_;rw[vR xs];rfl
theorem zS(i:Int):oEq (.int i) (.int i)=.ok (.bl true):=by rw[eq_int,GT rfl]
theorem Ko(i:Int):c9 (.int i) (.int i)=.ok (.bl false):=ne_self rfl (Rf _)
theorem wY:∀(n:Nat) (d:D),nice d=true->bT d<n->lZ nG n [d,d]=.ok (.bl true)
 |0,_,_,h=>absurd h (YU _)
 | n+1,d,hd,hn=>by
  show nG (lZ nG n) [d,d]=_;have ih:=λx hx=>wY n x hx;generalize Si:lZ nG n=rec at ih;unfold nG;refine ck ?_
  have leaf:∀d:D,lay d=true->dep d=0->bX .dict d=.ok (.bl false)->jI d=.ok (.bl false)->(∃b,bX .bool d=.ok (.bl b))->aw [aR (tV (e1 (bX .dict) (aa 1))) (aw [aR (f6 (fT (tV (e1 (bX .dict) (aa 0)))) (tV (e2 c9 (e1 fU (aa 0)) (e1 fU (aa 1))))) (aX (eC (.bl false))) (bf),aX (e1 jr (bJ (j8 (aa 1)) 1 [0,1] (aF 0) [] (eM (e2 dM (aa 0) (aa 1)) (aG rec [e2 av (aa 1) (aa 0),e2 av (aa 2) (aa 0)]))))]) (bf),aR (tV (e1 jI (aa 1))) (aw [aR (f6 (tV (e2 c9 (e1 (bX .list) (aa 0)) (e1 (bX .list) (aa 1)))) (tV (e2 c9 (e1 (bX .tuple) (aa 0)) (e1 (bX .tuple) (aa 1))))) (aX (eC (.bl false))) (bf),aX (eM (e2 oEq (e1 fU (aa 0)) (e1 fU (aa 1))) (e1 jr (bJ (qj (aa 0) (aa 1)) 2 [] (g7 [0,1]) [] (aG rec [aa 0,aa 1]))))]) (bf),aX (eM (e2 oEq (aa 0) (aa 1)) (e2 oEq (e1 (bX .bool) (aa 0)) (e1 (bX .bool) (aa 1))))] [.sh d,.sh d]=.ok (.ret (.bl true)):=λd h1 h2 h3 h4 h5=>by
   obtain⟨b,hb⟩:=h5;rw[aA (bY (bj (d4 rfl h3))),aA (bY (bj (d4 rfl h4)))];exact bB (bW (pz (x:=true) (aW (o:=oEq) rfl rfl (eq_self h1 (by omega))) (aW (o:=oEq) (d4 rfl hb) (d4 rfl hb) (eq_self rfl (Rf _)))))
  cases d with
  |aj=>exact leaf _ rfl rfl rfl rfl ⟨_,rfl⟩
  |bl b=>exact leaf _ rfl rfl rfl rfl ⟨_,rfl⟩
  |int i=>exact leaf _ rfl rfl rfl rfl ⟨_,rfl⟩
  |str x=>exact leaf _ (by unfold nice at hd;unfold lay;exact hd) rfl rfl rfl ⟨_,rfl⟩
  |cj _ _ _=>cases hd
  | tup xs=>
   unfold nice at hd;rw[sa,FM]at hd;have hm:=jV hd.2;have Oh:∀x∈xs,bT x<n:=λx hx=>by have:=jT hx;have:cA xs+1<n+1:=hn;omega
   show aw _ [.sh (.tup xs),.sh (.tup xs)]=_;rw[aA (bY rfl)];refine bB ?_;rw[b7 rfl,aA (bY rfl)];refine bB (bW (pz (x:=true) (aW (x:=.int xs.length) (y:=.int xs.length) rfl rfl (zS _)) ?_));refine d4 (x:=.lst (xs.map λ_=>.bl true)) (fI (ds:=xs.map λx=>.tup [x,x]) (by show R.ok (iz xs xs)=_;rw[vR]) (by rw[Do];omega) ?_) (all_true xs)
   exact oB (u:=λx:D=>.tup [x,x]) (v:=λ_=>.bl true) λx hx=>⟨[.sh x,.sh x],rfl,cy rfl rfl (ih x (hm x hx) (Oh x hx))⟩
  | lst xs=>
   unfold nice at hd;rw[sa,FM]at hd;have hm:=jV hd.2;have Oh:∀x∈xs,bT x<n:=λx hx=>by have:=jT hx;have:cA xs+1<n+1:=hn;omega
   show aw _ [.sh (.lst xs),.sh (.lst xs)]=_;rw[aA (bY rfl)];refine bB ?_;rw[b7 rfl,aA (bY rfl)];refine bB (bW (pz (x:=true) (aW (x:=.int xs.length) (y:=.int xs.length) rfl rfl (zS _)) ?_));refine d4 (x:=.lst (xs.map λ_=>.bl true)) (fI (ds:=xs.map λx=>.tup [x,x]) (by show R.ok (iz xs xs)=_;rw[vR]) (by rw[Do];omega) ?_) (all_true xs)
   exact oB (u:=λx:D=>.tup [x,x]) (v:=λ_=>.bl true) λx hx=>⟨[.sh x,.sh x],rfl,cy rfl rfl (ih x (hm x hx) (Oh x hx))⟩
  | ai ks vs=>
   unfold nice at hd;rw[sa,sa,sa,FM,FM,FM]at hd;obtain⟨⟨⟨NS,hl⟩,OV⟩,Oq⟩:=hd;have hm:=jV Oq;have Oh:∀x∈vs,bT x<n:=λx hx=>by have:=jT hx;have:cA vs+1<n+1:=hn;omega
   show aw _ [.sh (.ai ks vs),.sh (.ai ks vs)]=_;refine bB ?_;rw[b7 rfl,aA (bY (xl (b:=false) (c:=false) rfl (bj (aW (x:=.int ks.length) (y:=.int ks.length) rfl rfl (Ko _)))))];refine bB (bW (d4 (x:=.lst ((ks.zip vs).map λ_=>.bl true)) (fI (ds:=(ks.zip vs).map λp=>b5 p.1) ?_ (by rw[Do,On];omega) ?_) (all_true _)))
   ·show R.ok (ks.map b5)=_
    rw[show((ks.zip vs).map λp=>b5 p.1)=((ks.zip vs).map (·.1)).map b5 by rw[VM];rfl,Wi (by omega)]
   ·refine oB (u:=λp:Ky×D=>b5 p.1) (v:=λ_=>.bl true) λp hp=>⟨[.sh (b5 p.1),.sh (.ai ks vs),.sh (.ai ks vs)],rfl,?_⟩
    have hf:=uE NS (show(p.1,p.2)∈ks.zip vs from hp)
    have hv:p.2∈vs:=(Wz (show(p.1,p.2)∈ks.zip vs from hp)).2
    exact pz (x:=true) (aW rfl rfl (Jj hf)) (cy (aW rfl rfl (o9 hf)) (aW rfl rfl (o9 hf)) (ih p.2 (hm _ hv) (Oh _ hv)))
end C
end PL
set_option maxRecDepth 100000
namespace PL
namespace dn
open PySem G C
theorem Aw{a b:Ex}{ρ:En}{i u:Int}(ha:a ρ=.ok (.int i))(hb:b ρ=.ok (.int u)):e2 lz a b ρ=.ok (.bl (decide (u<=i))):=aW ha hb rfl
theorem yV{a b:Ex}{ρ:En}{i u:Int}(ha:a ρ=.ok (.int i))(hb:b ρ=.ok (.int u)):e2 jQ a b ρ=.ok (.bl (decide (u<i))):=aW ha hb rfl
theorem BB{a b:Ex}{ρ:En}{i u:Int}(ha:a ρ=.ok (.int i))(hb:b ρ=.ok (.int u)):e2 oLt a b ρ=.ok (.bl (decide (i<u))):=aW ha hb rfl
theorem fX{a b:Ex}{ρ:En}{i u:Int}(ha:a ρ=.ok (.int i))(hb:b ρ=.ok (.int u)):e2 oEq a b ρ=.ok (.bl (decide (i=u))):=aW ha hb (G.eq_int i u)
theorem kB{a b:Ex}{ρ:En}{i u:Int}(ha:a ρ=.ok (.int i))(hb:b ρ=.ok (.int u))(h:small i=true\/small u=true):e2 hU a b ρ=.ok (.int (i*u)):=aW ha hb (u9 (by rcases h with h|h<;>simp[h]))
theorem dw{a b:Ex}{ρ:En}{i u:Int}(ha:a ρ=.ok (.int i))(hb:b ρ=.ok (.int u))(h:vI u=true):e2 oDiv a b ρ=.ok (.int (i / u)):=aW ha hb (u9 h)
theorem uf(ρ:En):(e2 jA (eC (.int 10)) (eC (.int 18))) ρ=.ok (.int 1000000000000000000):=rfl
theorem yU(ρ:En):(e2 jA (eC (.int 10)) (eC (.int 24))) ρ=.ok (.int 1000000000000000000000000):=rfl
theorem zj(c:Int){k:Int}(h0:0<=k)(h1:k<100000):∃z:Int,0<=z/\kC [.int c,.int k]=.ok (.int z):=by
 rw[kC];by_cases hc:1000000000000000000<=c
 ·obtain⟨ρ',eL,M,s3,rfl⟩:=A6 (tg:=aF 3) (body:=mJ) (λρ=>∃M s3,ρ=[.sh (.int c),.sh (.int k),.sh (.int M),s3]) (ds:=d6 0 (k % 16)) (by
   rintro d hd ρ ⟨M,s3,rfl⟩;refine⟨_,rfl,[.sh (.int c),.sh (.int k),.sh (.int (M / 1000000000000000000000000)),.sh d],?_,_,_,rfl⟩;show mJ [.sh (.int c),.sh (.int k),.sh (.int M),.sh d]=_;rw[mJ,bQ (dw rfl (yU _) (by decide))]
   rfl) (ρ:=[.sh (.int c),.sh (.int k),.sh (.int (c - 1000000000000000000)),.un]) ⟨_,_,rfl⟩
  refine⟨M % 1000000000000000000000000,WB _ (by decide),ck (bB ?_)⟩
  show aR _ _ _ [.sh (.int c),.sh (.int k),.un,.un]=_;rw[b7 (bj (b:=true) (by rw[Aw rfl (uf _),GT hc]))]
  rw[aA (bQ (Iv rfl (uf _)))];show aw _ [.sh (.int c),.sh (.int k),.sh (.int (c - 1000000000000000000)),.un]=_;rw[aA (gT (GC (cL rfl rfl (by decide)) (yx (by omega) (by omega))) eL)]
  exact bB (bW (cL rfl (yU _) (by decide)))
 ·generalize hm:(c+7919*k*k+1)*48271 % 2147483647=M
  have hM:0<=M/\M<2147483647:=by rw[<-hm];exact⟨WB _ (by decide),Xo _ (by decide)⟩
  refine⟨M*M % 2147483629,WB _ (by decide),ck ?_⟩
  show aw _ [.sh (.int c),.sh (.int k),.un,.un]=_;rw[aA (bY (bj (by rw[Aw rfl (uf _),JU hc])))]
  rw[aA (bQ (d:=.int M) (by
   rw[<-hm];exact cL (kB (lj (lj rfl (kB (kB rfl rfl (.inl (by decide))) rfl (.inr (zi h0 (by omega))))) rfl) rfl (.inr (by decide))) rfl (by decide)))]
  show aw _ [.sh (.int c),.sh (.int k),.sh (.int M),.un]=_;exact bB (bW (cL (kB rfl rfl (.inl (zi hM.1 (by omega)))) rfl (by decide)))
theorem HE(ns:VH)(k:Int)(h0:0<=k):∃i,mU [.lst (ns.map .int),.int k]=.ok (.int i):=by
 rw[mU];by_cases h:k<(ns.length:Int)
 ·obtain⟨c,_,hc⟩:=uo (xs:=ns) h0 h
  refine⟨c,ck ?_⟩;show aw _ [.sh (.lst (ns.map .int)),.sh (.int k)]=_;refine bB ?_;rw[b7 (by rw[bj (BB (u:=((ns.map D.int).length:Int)) rfl rfl),Do,GT h])]
  exact bW (aW rfl rfl (nh hc))
 ·refine⟨0,ck ?_⟩
  show aw _ [.sh (.lst (ns.map .int)),.sh (.int k)]=_;rw[aA (bY (by rw[bj (BB (u:=((ns.map D.int).length:Int)) rfl rfl),Do,JU h]))]
  rfl
noncomputable abbrev W(w:VH):D:=.tup (w.map .int)
theorem xw(k:Int):∃w:VH,lP [.int k]=.ok (W w)/\w.length=16:=by
 rw[lP]
 obtain⟨LJ,eL,ss,w,x2,hw,Mo⟩:=nq (tg:=aF 2) (body:=qE) (λn ρ=>∃(ss:Int) (w:VH) (x2:Slot),w.length=n/\ρ=[.sh (.int ss),.ol (w.map .int),x2]) (ds:=d6 0 16) 0 (by
  intro n d hk ρ ⟨ss,w,x2,hw,Mo⟩;obtain⟨rfl,MQ⟩:=FJ hk;subst Mo;refine⟨_,rfl,?_⟩;show ∃LZ,aw _ [.sh (.int ss),.ol (w.map .int),.sh (.int (0+(n:Int)))]=_/\_;rw[aA (BY (cL (lj rfl (kB (kB rfl rfl (.inl (by decide))) rfl (.inr (by unfold small;rw[GT (by omega),GT (by omega)];rfl)))) rfl (by decide)) rfl (by rw[Do];omega))]
  show ∃LZ,aw _ [.sh (.int ss),.ol (w.map .int++[.int ((ss+40503*(0+(n:Int))*(0+(n:Int))) % 4294967296)]),.sh (.int (0+(n:Int)))]=_/\_;rw[aA (bQ (dw rfl rfl (by decide)))]
  refine⟨_,rfl,ss / 4294967296,w++[(ss+40503*(0+(n:Int))*(0+(n:Int))) % 4294967296],.sh (.int (0+(n:Int))),by rw[JK];simp;omega,?_⟩
  rw[S3];rfl) (ρ:=[.sh (.int k),.ol [],.un]) ⟨k,[],.un,rfl,rfl⟩
 subst Mo;refine⟨w,ck ?_,by rw[hw];rfl⟩
 show aw _ [.sh (.int k),.un,.un]=_;rw[aA (AM (xs:=[]) rfl)];show aw _ [.sh (.int k),.ol [],.un]=_;rw[aA (gT (ds:=d6 0 16) rfl eL)];rw[aA (ρ':=[.sh (.int ss),.sh (.lst (w.map .int)),x2]) rfl];exact bB (bW rfl)
mutual
noncomputable def aS:D->T
 |.lst xs=>.l (dm xs)
 |.ai ks vs=>.m ks (dm vs)
 |.tup xs=>.tu (dm xs)
 |x=>.d x
noncomputable def dm:List D->List T
 |[]=>[]
 |d::ds=>aS d::dm ds
end
theorem oS:∀ds:List D,dm ds=ds.map aS
 |[]=>rfl
 |d::ds=>by show aS d::dm ds=_;rw[oS ds];rfl
mutual
theorem iP:∀d:D,T.toD (aS d)=d
 |.lst xs=>by show D.lst (T.f7 (dm xs))=_;rw[qb xs]
 |.ai ks vs=>by show D.ai ks (T.f7 (dm vs))=_;rw[qb vs]
 |.tup xs=>by show D.tup (T.f7 (dm xs))=_;rw[qb xs]
 |.aj=>rfl
 |.bl _=>rfl
 |.int _=>rfl
 |.str _=>rfl
 |.cj _ _ _=>rfl
theorem qb:∀ds:List D,T.f7 (dm ds)=ds
 |[]=>rfl
 |d::ds=>by show T.toD (aS d)::T.f7 (dm ds)=_;rw[iP d,qb ds]
end
mutual
theorem sO:∀d:D,nice d=true->T.iN (aS d)=true
 |.lst xs,h=>by unfold nice at h;rw[sa]at h;show T.i6 (dm xs)=true;exact qB xs h.2
 |.ai ks vs,h=>by unfold nice at h;rw[sa]at h;show T.i6 (dm vs)=true;exact qB vs h.2
 |.tup xs,h=>by unfold nice at h;rw[sa]at h;show T.i6 (dm xs)=true;exact qB xs h.2
 |.aj,_=>rfl
 |.bl _,_=>rfl
 |.int _,_=>rfl
 |.str _,_=>rfl
 |.cj _ _ _,h=>by cases h
theorem qB:∀ds:List D,fg ds=true->T.i6 (dm ds)=true
 |[],_=>rfl
 | d::ds,h=>by
  unfold fg at h;rw[sa]at h;show(T.iN (aS d)&&T.i6 (dm ds))=true;rw[sO d h.1,qB ds h.2];rfl
end
theorem A8:∀(ps:List (Ky×D)),js (ps.map λp=>.tu [.d (b5 p.1),aS p.2])=some (ps.map (·.1),ps.map λp=>aS p.2)
 |[]=>rfl
 | p::ps=>by
  show(match keyOf (b5 p.1),js (ps.map λp=>.tu [.d (b5 p.1),aS p.2])with|some z,some y=>some (z::y.1,aS p.2::y.2)|_,_=>none)=_
  rw[vA,A8 ps];rfl
theorem yb:∀(n:Nat) (d:D),nice d=true->bT d<n->mf ju n [d]=.ok (aS d)
 |0,_,_,h=>absurd h (YU _)
 | n+1,d,hd,hn=>by
  show ju (mf ju n) [d]=_;have ih:=λx hx=>yb n x hx;generalize Si:mf ju n=rec at ih;unfold ju;refine u5 ?_;cases d with
  |aj=>rfl
  |bl b=>rfl
  |int i=>rfl
  |str x=>rfl
  |cj _ _ _=>cases hd
  | tup xs=>
   unfold nice at hd;rw[sa,FM]at hd;have hm:=jV hd.2;have Oh:∀x∈xs,bT x<n:=λx hx=>by have:=jT hx;have:cA xs+1<n+1:=hn;omega
   show aw _ [.sh (.tup xs)]=_;rw[aA (bY rfl),aA (bY rfl)];refine sW ?_;rw[b7 rfl];refine qc (t:=.tu (dm xs)) ?_;unfold tM;have:=qu (tg:=aF 0) (el:=cG rec [aa 0]) (ρ:=List.replicate 1 .un++frees [.sh (.tup xs)] []) (u:=λx:D=>x) (v:=aS) (xs:=xs) λx hx=>⟨[.sh x],rfl,j9 rfl (ih x (hm x hx) (Oh x hx))⟩;rw[ua (ds:=xs) (ts:=dm xs) rfl (by omega) (by rw[oS];simpa using this),R.aJ]
  | lst xs=>
   unfold nice at hd;rw[sa,FM]at hd;have hm:=jV hd.2;have Oh:∀x∈xs,bT x<n:=λx hx=>by have:=jT hx;have:cA xs+1<n+1:=hn;omega
   show aw _ [.sh (.lst xs)]=_;rw[aA (bY rfl)];refine sW ?_;rw[b7 rfl];refine qc (ua (ds:=xs) rfl (by omega) ?_)
   have:=qu (tg:=aF 0) (el:=cG rec [aa 0]) (ρ:=List.replicate 1 .un++frees [.sh (.lst xs)] []) (u:=λx:D=>x) (v:=aS) (xs:=xs) λx hx=>⟨[.sh x],rfl,j9 rfl (ih x (hm x hx) (Oh x hx))⟩;rw[oS];simpa using this
  | ai ks vs=>
   unfold nice at hd;rw[sa,sa,sa,FM,FM,FM]at hd;obtain⟨⟨⟨NS,hl⟩,OV⟩,Oq⟩:=hd;have hm:=jV Oq;have Oh:∀x∈vs,bT x<n:=λx hx=>by have:=jT hx;have:cA vs+1<n+1:=hn;omega
   show aw _ [.sh (.ai ks vs)]=_;refine sW ?_;rw[b7 rfl];refine qc ?_
   have QM:kE (j8 (aa 0)) 1 [0] (aF 0) [] (xT [xD (aa 0),cG rec [e2 av (aa 1) (aa 0)]]) [.sh (.ai ks vs)]=.ok (.l ((ks.zip vs).map λp=>.tu [.d (b5 p.1),aS p.2])):=by
    refine ua (ds:=(ks.zip vs).map λp=>b5 p.1) ?_ (by rw[Do,On];omega) ?_
    ·show R.ok (ks.map b5)=_
     rw[show((ks.zip vs).map λp=>b5 p.1)=((ks.zip vs).map (·.1)).map b5 by rw[VM];rfl,Wi (by omega)]
    ·refine qu (u:=λp:Ky×D=>b5 p.1) (v:=λp=>.tu [.d (b5 p.1),aS p.2]) λp hp=>⟨[.sh (b5 p.1),.sh (.ai ks vs)],rfl,?_⟩
     have hv:p.2∈vs:=(Wz (show(p.1,p.2)∈ks.zip vs from hp)).2
     have hc:cG rec [e2 av (aa 1) (aa 0)] [.sh (b5 p.1),.sh (.ai ks vs)]=.ok (aS p.2):=j9 (aW rfl rfl (o9 (uE NS hp))) (ih p.2 (hm _ hv) (Oh _ hv));unfold xT;simp only[fQ,hc,R.aJ];rfl
   unfold uP;rw[QM,R.aJ];show(match js ((ks.zip vs).map λp=>.tu [.d (b5 p.1),aS p.2])with|some y=>if y.1.Nodup/\y.1.length<=1000 then R.ok (T.m y.1 y.2)else .bad|none=>.bad)=_
   rw[A8];show(if((ks.zip vs).map (·.1)).Nodup/\((ks.zip vs).map (·.1)).length<=1000 then R.ok (T.m ((ks.zip vs).map (·.1)) ((ks.zip vs).map λp=>aS p.2))else .bad)=_
   rw[Wi (by omega),u9 ⟨NS,OV⟩,show((ks.zip vs).map λp=>aS p.2)=((ks.zip vs).map (·.2)).map aS by rw[VM];rfl,WO (by omega)]
   show _=R.ok (T.m ks (dm vs));rw[oS]
def NC(d:D):Prop:=nice d=true/\bT d<9
theorem sG{d:D}(h:NC d):gN [d]=.ok (aS d):=yb 9 d h.1 h.2
theorem same_self{d:D}(h:NC d):lE [d,d]=.ok (.bl true):=wY 9 d h.1 h.2
inductive Wt where
 |bN|kf|over (c:Int)
noncomputable def Wt.d:Wt->D
 |.bN=>.aj
 |.kf=>.tup [S "child"]
 |.over c=>.tup [S "ended",.int c]
noncomputable def Wt.fin:Wt->Bool
 |.over _=>true
 |_=>false
structure Q where
 id:Int
 p:Int
 r:Int
 g0:Int
 g1:Int
 gr:VH
 ro:Int
 pg:T
 hn:T
 w:Wt
 hr:Int
 u:Bool
 sv:T
 hp:Bool
noncomputable def TK:List Ky:=[.inr (Str.ofString "parent"),.inr (Str.ofString "rank"),.inr (Str.ofString "regs"),.inr (Str.ofString "row"),.inr (Str.ofString "pages"),.inr (Str.ofString "handles"),.inr (Str.ofString "waits"),.inr (Str.ofString "handler"),.inr (Str.ofString "rung"),.inr (Str.ofString "saved")]
noncomputable def SK:List Ky:=[.inr (Str.ofString "tasks"),.inr (Str.ofString "lent"),.inr (Str.ofString "nodes"),.inr (Str.ofString "boxes"),.inr (Str.ofString "clock")]
noncomputable def Q.rg(q:Q):VH:=q.g0::q.g1::q.gr
noncomputable def Q.t(q:Q):T:=.m TK [.d (.int q.p),.d (.int q.r),.l (q.rg.map λi=>.d (.int i)),.d (.int q.ro),q.pg,q.hn,.d q.w.d,.d (.int q.hr),.d (.bl q.u),q.sv]
noncomputable def Q.d(q:Q):D:=.ai TK [.int q.p,.int q.r,.lst (q.rg.map .int),.int q.ro,q.pg.toD,q.hn.toD,q.w.d,.int q.hr,.bl q.u,q.sv.toD]
noncomputable def keys(K:List Q):List Ky:=K.map λq=>.inl q.id
noncomputable def N0:D:=.ai [.inl 0] [.tup [S "folder",.ai [] []]]
noncomputable def tN:T:=.m [.inl 0] [.tu [.d (S "folder"),.m [] []]]
noncomputable def sT(K:List Q)(l:T):T:=.m SK [.m (keys K) (K.map Q.t),l,tN,.m [] [],.d (.int 0)]
noncomputable def sD(K:List Q)(l:D):D:=.ai SK [.ai (keys K) (K.map Q.d),l,N0,.ai [] [],.int 0]
theorem tU:∀ts:List T,T.f7 ts=ts.map T.toD
 |[]=>rfl
 |t::ts=>by show T.toD t::T.f7 ts=_;rw[tU ts];rfl
theorem Q.toD(q:Q):T.toD q.t=q.d:=by
 show D.ai TK [.int q.p,.int q.r,.lst (T.f7 (q.rg.map λi=>.d (.int i))),.int q.ro,q.pg.toD,q.hn.toD,q.w.d,.int q.hr,.bl q.u,q.sv.toD]=_;rw[tU,VM];rfl
theorem AZ(K:List Q)(l:T):T.toD (sT K l)=sD K l.toD:=by
 show D.ai SK [.ai (keys K) (T.f7 (K.map Q.t)),l.toD,N0,.ai [] [],.int 0]=_;rw[tU,VM,show(T.toD∘Q.t)=Q.d from funext Q.toD];rfl
def Nd(K:List Q):Prop:=(K.map Q.id).Nodup
noncomputable def put(K:List Q)(x:Q):List Q:=K.map λq=>if q.id=x.id then x else q
noncomputable def rem(K:List Q)(k:Int):List Q:=K.filter λq=> !decide (q.id=k)
theorem m5{f:Q->D}:∀ {K:List Q} {q:Q},Nd K->q∈K->bS (.inl q.id) (keys K) (K.map f)=some (f q)
 |[],_,_,h=>nomatch h
 | x::K,q,nd,h=>by
  have Mm:=GM.mp nd;show(if(Sum.inl x.id:Ky)=.inl q.id then some (f x)else bS (.inl q.id) (keys K) (K.map f))=_
  rcases AC.mp h with rfl|h
  ·rw[u9 rfl]
  ·rw[Da (λz=>by injection z with z;exact Mm.1 (by rw[z];exact VT h))]
   exact m5 Mm.2 h
theorem gU:∀ {K:List Q} {q:Q},Nd K->q∈K->∃m,cB (.inl q.id) (keys K)=some m/\K[m]? =some q
 |[],_,_,h=>nomatch h
 | x::K,q,nd,h=>by
  have Mm:=GM.mp nd;show ∃m,(if(Sum.inl x.id:Ky)=.inl q.id then some 0 else(cB (.inl q.id) (keys K)).map (· +1))=_/\_
  rcases AC.mp h with rfl|h
  ·exact⟨0,u9 rfl,rfl⟩
  ·obtain⟨m,e,e2⟩:=gU Mm.2 h
   refine⟨m+1,?_,e2⟩;rw[Da (λz=>by injection z with z;exact Mm.1 (by rw[z];exact VT h)),e];rfl
theorem ph:∀ {K:List Q} {k:Int},((keys K).any λa=>decide (a=.inl k))=K.any λq=>decide (q.id=k)
 |[],_=>rfl
 | x::K,k=>by
  show(decide ((Sum.inl x.id:Ky)=.inl k)||(keys K).any λa=>decide (a=.inl k))=(decide (x.id=k)||K.any λq=>decide (q.id=k));rw[ph,show decide ((Sum.inl x.id:Ky)=.inl k)=decide (x.id=k)from decide_eq_decide.mpr ⟨λe=>by injection e,λe=>by rw[e]⟩]
theorem FA{K:List Q}{q:Q}(h:q∈K):(K.any λx=>decide (x.id=q.id))=true:=P3.mpr ⟨q,h,GT rfl⟩
theorem yO{K:List Q}{k:Int}(h:∀q∈K,q.id≠k):(K.any λx=>decide (x.id=k))=false:=by
 rw[<-Bool.not_eq_true];intro e;obtain⟨q,hq,e⟩:=P3.mp e;exact h q hq (WH e)
theorem jl{α:Type}{f:Q->α}{x:Q}:∀ {K:List Q},List.zipWith (λ(a:Ky) v=>if a=.inl x.id then f x else v) (keys K) (K.map f)=(put K x).map f
 |[]=>rfl
 | q::K=>by
  show(if(Sum.inl q.id:Ky)=.inl x.id then f x else f q)::List.zipWith (λ(a:Ky) v=>if a=.inl x.id then f x else v) (keys K) (K.map f)=f (if q.id=x.id then x else q)::(put K x).map f
  rw[jl];by_cases e:q.id=x.id
  ·rw[u9 e,u9 (by rw[e])]
  ·rw[Da e,Da (λz=>e (by injection z))]
theorem wW{K:List Q}{x:Q}:keys (put K x)=keys K:=by
 unfold keys put;rw[VM];refine VU λq _=>?_;show(Sum.inl (if q.id=x.id then x else q).id:Ky)=.inl q.id
 by_cases e:q.id=x.id
 ·rw[u9 e,e]
 ·rw[Da e]
theorem l7{K:List Q}:(keys K).length=K.length:=Do _
theorem Fg{K:List Q}{q x:Q}(h:q∈K)(e:q.id=x.id):putL (.inl x.id) x.d (keys K) (K.map Q.d)=(keys (put K x),(put K x).map Q.d):=by
 unfold putL;rw[ph, <-e,FA h,u9 rfl,e,jl,wW]
theorem putL_new{K:List Q}{x:Q}(h:∀q∈K,q.id≠x.id):putL (.inl x.id) x.d (keys K) (K.map Q.d)=(keys (K++[x]),(K++[x]).map Q.d):=by
 unfold putL;rw[ph,yO h,Da (by decide)]
 unfold keys;rw[S3,S3];rfl
theorem oz{α:Type}{f:Q->α}{k:Int}:∀ {K:List Q},aO (.inl k) (keys K) (K.map f)=(keys (rem K k),(rem K k).map f)
 |[]=>rfl
 | q::K=>by
  show(if(Sum.inl q.id:Ky)=.inl k then aO (.inl k) (keys K) (K.map f)else(.inl q.id::(aO (.inl k) (keys K) (K.map f)).1,f q::(aO (.inl k) (keys K) (K.map f)).2))=_
  rw[oz];unfold rem;rw[W7];by_cases e:q.id=k
  ·rw[u9 (by rw[e]),GT e];rfl
  ·rw[Da (λz=>e (by injection z)),JU e];rfl
theorem AS{K:List Q}{m:Nat}{q x:Q}(nd:Nd K)(h:K[m]? =some q)(e:q.id=x.id):K.set m x=put K x:=by
 induction K generalizing m with
 |nil=>rfl
 | cons y K ih=>
  have Mm:=GM.mp nd;unfold put;rw[Re];cases m with
  | zero=>
   have h:y=q:=Pv h;subst h;rw[u9 e,W0];congr 1;refine(Xj K).symm.trans (VU λz hz=>?_);show z=_;rw[Da (λe'=>Mm.1 (by rw[e, <-e'];exact VT hz))]
  | succ m=>
   have hq:=S6 (show K[m]? =some q from h)
   rw[Da (λe'=>Mm.1 (by rw[e', <-e];exact VT hq)),W1,ih Mm.2 h]
   rfl
theorem pS{K:List Q}{x y:Q}(h:y∈put K x):(y=x/\∃q∈K,q.id=x.id)\/(y∈K/\y.id≠x.id):=by
 obtain⟨q,hq,e⟩:=V5.mp h;by_cases c:q.id=x.id
 ·rw[u9 c]at e;exact .inl ⟨e.symm,q,hq,c⟩
 ·rw[Da c]at e;subst e;exact .inr ⟨hq,c⟩
theorem mE{K:List Q}{q x:Q}(h:q∈K)(e:q.id=x.id):x∈put K x:=V5.mpr ⟨q,h,u9 e⟩
theorem oT{K:List Q}{x y:Q}(h:y∈K)(e:y.id≠x.id):y∈put K x:=V5.mpr ⟨y,h,Da e⟩
theorem Fi{K:List Q}{x:Q}:(put K x).map Q.id=K.map Q.id:=by
 unfold put;rw[VM];refine VU λq _=>?_;show(if q.id=x.id then x else q).id=q.id
 by_cases e:q.id=x.id
 ·rw[u9 e,e]
 ·rw[Da e]
theorem Nd.put{K:List Q}{x:Q}(h:Nd K):Nd (put K x):=by unfold Nd;rw[Fi];exact h
theorem Nd.rem{K:List Q}{k:Int}(h:Nd K):Nd (rem K k):=Xp (Yw.map _) h
theorem p7{K:List Q}{x:Q}:(put K x).length=K.length:=Do _
theorem xy{K:List Q}{k:Int}:(rem K k).length<=K.length:=WK _ _
theorem lp{K:List Q}{x y:Q}(e:x.id=y.id):put (put K x) y=put K y:=by
 unfold put;rw[VM];refine VU λq _=>?_;show(if(if q.id=x.id then x else q).id=y.id then y else(if q.id=x.id then x else q))=_
 by_cases c:q.id=x.id
 ·rw[u9 c,u9 e,u9 (c.trans e)]
 ·rw[Da c]
theorem gY{K:List Q}{k:Int}{y:Q}:y∈rem K k↔y∈K/\y.id≠k:=by
 unfold rem;rw[V1];simp
theorem gf{K:List Q}{x y:Q}(nd:Nd K)(hx:x∈K)(hy:y∈K)(e:x.id=y.id):x=y:=by
 have a:=m5 (f:=Q.d) nd hx
 induction K with
 |nil=>cases hx
 | cons z K ih=>
  have Mm:=GM.mp nd;rcases AC.mp hx with rfl|LY<;>rcases AC.mp hy with rfl|QN
  ·rfl
  ·exact absurd (by rw[e];exact VT QN) Mm.1
  ·exact absurd (by rw[<-e];exact VT LY) Mm.1
  ·exact ih Mm.2 LY QN (m5 Mm.2 LY)
end dn
namespace dn
open PySem G C
theorem JC{i:Nat}{k e:Ex}{ρ:En}{d q:D}{z:Ky}{ks ks':List Ky}{vs vs':List D}(he:e ρ=.ok d)(hk:k ρ=.ok q)(hz:keyOf q=some z)(hi:ρ[i]? =some (.od ks vs))(hl:ks.length<1000)(hp:putL z d ks vs=(ks',vs')):q9 i k e ρ=.ok (.next (ρ.set i (.od ks' vs'))):=by
 unfold q9;simp only[he,hk,R.aJ,hi,hz];rw[u9 hl,hp]
theorem sN{f:List D->R D}{a b c d:Ex}{ρ:En}{x y z w r:D}(ha:a ρ=.ok x)(hb:b ρ=.ok y)(hc:c ρ=.ok z)(hd:d ρ=.ok w)(h:f [x,y,z,w]=.ok r):aG f [a,b,c,d] ρ=.ok r:=by
 simp only[aG,eList,ha,hb,hc,hd,R.aJ];exact h
section
variable{K:List Q}{l:D}{q:Q}
theorem uU{a b c d e x:D}:dC [.ai SK [a,b,c,d,e],.ai [.inr (Str.ofString "tasks")] [x]]=.ok (.ai SK [x,b,c,d,e]):=by kernel_rfl
theorem CI{a b c d e x:D}:dC [.ai SK [a,b,c,d,e],.ai [.inr (Str.ofString "lent")] [x]]=.ok (.ai SK [a,x,c,d,e]):=by kernel_rfl
theorem i7{a:Ex}{ρ:En}(h:a ρ=.ok (sD K l)):e2 av a (eC (S "tasks")) ρ=.ok (.ai (keys K) (K.map Q.d)):=aW h rfl rfl
theorem zA(nd:Nd K)(hq:q∈K):av (.ai (keys K) (K.map Q.d)) (.int q.id)=.ok q.d:=o9 (z:=.inl q.id) (m5 nd hq)
theorem fi{a b:Ex}{ρ:En}(h:a ρ=.ok (sD K l))(hb:b ρ=.ok (.int q.id))(nd:Nd K)(hq:q∈K):e2 av (e2 av a (eC (S "tasks"))) b ρ=.ok q.d:=aW (i7 h) hb (zA nd hq)
theorem j7:av q.d (S "waits")=.ok q.w.d:=by kernel_rfl
theorem qH:av q.d (S "parent")=.ok (.int q.p):=by kernel_rfl
theorem zP:av q.d (S "regs")=.ok (.lst (q.rg.map .int)):=by kernel_rfl
theorem sI:av q.d (S "pages")=.ok q.pg.toD:=by kernel_rfl
theorem kQ{x:Q}{nw:D}(nd:Nd K)(hl:K.length<900)(hq:q∈K)(e:q.id=x.id)(hc:dC [q.d,nw]=.ok x.d):d9 [sD K l,.int q.id,nw]=.ok (sD (put K x) l):=by
 rw[d9];refine ck ?_;show aw _ [.sh (sD K l),.sh (.int q.id),.sh nw,.un]=_;rw[aA (ρ':=[.sh (sD K l),.sh (.int q.id),.sh nw,.od (keys K) (K.map Q.d)]) rfl]
 rw[aA (JC (d:=x.d) (z:=.inl q.id) (cy (x:=q.d) (by
  show nU (.ai (keys K) (K.map Q.d)) (.int q.id)=_;show(match bS (.inl q.id) (keys K) (K.map Q.d)with|some v=>R.ok v|none=>.bad)=_
  rw[m5 nd hq]) rfl hc) rfl rfl rfl (by rw[l7];omega) (ks':=keys (put K x)) (vs':=(put K x).map Q.d) (by rw[e];exact Fg hq e))]
 rw[aA (ρ':=[.sh (sD K l),.sh (.int q.id),.sh nw,.sh (.ai (keys (put K x)) ((put K x).map Q.d))]) rfl];exact bB (bW (cy rfl rfl uU))
theorem qh(nd:Nd K)(hq:q∈K):hV [sD K l,.int q.id]=.ok (sD (rem K q.id) l):=by
 rw[hV];refine ck ?_;show aw _ [.sh (sD K l),.sh (.int q.id),.un]=_;rw[aA (ρ':=[.sh (sD K l),.sh (.int q.id),.od (keys K) (K.map Q.d)]) rfl];obtain⟨m,hm,_⟩:=gU nd hq
 rw[aA (ρ':=[.sh (sD K l),.sh (.int q.id),.od (keys (rem K q.id)) ((rem K q.id).map Q.d)]) (by
  show(if(cB (.inl q.id) (keys K)).isSome=true then R.ok (Fl.next [.sh (sD K l),.sh (.int q.id),.od (aO (.inl q.id) (keys K) (K.map Q.d)).1 (aO (.inl q.id) (keys K) (K.map Q.d)).2])else .bad)=_
  rw[hm,u9 (show(some m).isSome=true from rfl),oz])]
 rw[aA (ρ':=[.sh (sD K l),.sh (.int q.id),.sh (.ai (keys (rem K q.id)) ((rem K q.id).map Q.d))]) rfl];exact bB (bW (cy rfl rfl uU))
theorem Gi{a b c:Int}{r:VH}:kS [.lst ((a::b::r).map .int),.int c,.aj]=.ok (.lst ((c::b::r).map .int)):=by
 rw[kS];refine ck ?_;show aw _ [.sh (.lst ((a::b::r).map .int)),.sh (.int c),.sh .aj,.un]=_;rw[aA (ρ':=[.sh (.lst ((a::b::r).map .int)),.sh (.int c),.sh .aj,.ol ((a::b::r).map .int)]) rfl];rw[aA (t4 (xs:=(a::b::r).map .int) (m:=0) rfl rfl rfl (jd (by decide) (by simp;omega)))]
 rw[aA (bY rfl)];rw[aA (ρ':=[.sh (.lst ((a::b::r).map .int)),.sh (.int c),.sh .aj,.sh (.lst ((c::b::r).map .int))]) rfl];exact bB (bW rfl)
theorem Kv{a b c d:Int}{r:VH}:kS [.lst ((a::b::r).map .int),.int c,.int d]=.ok (.lst ((c::d::r).map .int)):=by
 rw[kS];refine ck ?_;show aw _ [.sh (.lst ((a::b::r).map .int)),.sh (.int c),.sh (.int d),.un]=_;rw[aA (ρ':=[.sh (.lst ((a::b::r).map .int)),.sh (.int c),.sh (.int d),.ol ((a::b::r).map .int)]) rfl];rw[aA (t4 (xs:=(a::b::r).map .int) (m:=0) rfl rfl rfl (jd (by decide) (by simp;omega)))]
 rw[aA (ρ':=[.sh (.lst ((a::b::r).map .int)),.sh (.int c),.sh (.int d),.ol ((c::d::r).map .int)]) (by
  rw[b7 rfl,t4 (xs:=(c::b::r).map .int) (m:=1) rfl rfl rfl (jd (by decide) (by simp;omega))];rfl)]
 rw[aA (ρ':=[.sh (.lst ((a::b::r).map .int)),.sh (.int c),.sh (.int d),.sh (.lst ((c::d::r).map .int))]) rfl];exact bB (bW rfl)
theorem lT{a:Int}(nd:Nd K)(hl:K.length<900)(hq:q∈K):cx [sD K l,.int q.id,.int a,.aj]=.ok (sD (put K {q with g0:=a,w:=.bN}) l):=by
 rw[cx];refine ck ?_;show aw _ [.sh (sD K l),.sh (.int q.id),.sh (.int a),.sh .aj,.un]=_;rw[aA (bQ (dN (aW (fi rfl rfl nd hq) rfl zP) rfl rfl Gi))];exact bB (bW (dN rfl rfl rfl (kQ nd hl hq rfl (by kernel_rfl))))
theorem yy{a b:Int}(nd:Nd K)(hl:K.length<900)(hq:q∈K):cx [sD K l,.int q.id,.int a,.int b]=.ok (sD (put K {q with g0:=a,g1:=b,w:=.bN}) l):=by
 rw[cx];refine ck ?_;show aw _ [.sh (sD K l),.sh (.int q.id),.sh (.int a),.sh (.int b),.un]=_;rw[aA (bQ (dN (aW (fi rfl rfl nd hq) rfl zP) rfl rfl Kv))];exact bB (bW (dN rfl rfl rfl (kQ nd hl hq rfl (by kernel_rfl))))
noncomputable def aQ(K:List Q)(k:Int):VH:=b8 ((K.filter λq=>decide (q.p=k)).map Q.id)
theorem sortedZ{c:VH}(hl:c.length<64):nQ (.lst (c.map .int))=.ok (.lst ((b8 c).map .int)):=by
 show(match intsOf (c.map D.int)with|some ns=>if ns.length<64 then R.ok (D.lst ((b8 ns).map .int))else .bad|none=>.bad)=_
 rw[zv];exact u9 hl
theorem uV{vs:List D}(h:K.length<64):gG (.ai (keys K) vs)=.ok (.lst ((b8 (K.map Q.id)).map .int)):=by
 show(match jK (keys K)with|some ns=>if ns.length<64 then R.ok (D.lst ((b8 ns).map .int))else .bad|none=>.bad)=_
 have:keys K=(K.map Q.id).map .inl:=by unfold keys;rw[VM];rfl
 rw[this,AK];exact u9 (by rw[Do];exact h)
theorem wQ{k:Int}(nd:Nd K)(hl:K.length<64):kP [sD K l,.int k]=.ok (.lst ((aQ K k).map .int)):=by
 rw[kP];refine ck ?_;show aw _ [.sh (sD K l),.sh (.int k),.un]=_;rw[aA (bQ (i7 rfl))];refine bB (bW ?_);show e1 nQ _ [.sh (sD K l),.sh (.int k),.sh (.ai (keys K) (K.map Q.d))]=_;refine d4 (x:=.lst (((K.filter λq=>decide (q.p=k)).map Q.id).map .int)) ?_ (sortedZ (by rw[Do];exact WD (WK _ _) hl))
 rw[VM];refine fI (ds:=K.map λq=>.int q.id) ?_ (by rw[Do];omega) ?_
 ·show R.ok ((keys K).map b5)=_
  unfold keys;rw[VM];rfl
 ·refine jh (u:=λq:Q=>.int q.id) (p:=λq=>decide (q.p=k)) (v:=λq=>.int q.id) λx hx=>⟨[.sh (.int x.id),.sh (.int k),.sh (.ai (keys K) (K.map Q.d))],rfl,?_,λ_=>rfl⟩
  show(tV _ _).bind _=_;rw[bj (fX (aW (aW rfl rfl (zA nd hx)) rfl qH) rfl),R.aJ];cases decide (x.p=k)<;>rfl
theorem Ag(w:Wt):kG [w.d]=.ok (.bl w.fin):=by cases w<;>kernel_rfl
theorem kh{k i:Int}:i∈aQ K k↔∃q∈K,q.p=k/\q.id=i:=by
 unfold aQ;rw[(iA _).mem_iff,V5];constructor
 ·rintro⟨q,h,e⟩;rw[V1]at h;exact⟨q,h.1,WH h.2,e⟩
 ·rintro⟨q,h,e,e2⟩;exact⟨q,V1.mpr ⟨h,GT e⟩,e2⟩
theorem zt{k:Int}(nd:Nd K):(aQ K k).Nodup:=(iA _).nodup_iff.mpr (Xp (Yw.map _) nd)
theorem A0{k:Int}:(aQ K k).length<=K.length:=by
 unfold aQ;rw[(iA _).length_eq,Do];exact WK _ _
theorem uF{α β:Type}{f g:α->Option β}:∀ {l:List α},(∀x∈l,f x=g x)->l.filterMap f=l.filterMap g
 |[],_=>rfl
 |x::l,h=>by rw[Wg,Wg,h x v3,uF λy hy=>h y (rU _ hy)]
noncomputable def gR(cs:VH)(q:Q):Option Q:=if q.id∈cs then(if q.w.fin=true then none else some {q with p:=0})else some q
noncomputable def bx(cs:VH)(K:List Q):List Q:=K.filterMap (gR cs)
theorem pB{cs:VH}{q y:Q}(h:gR cs q=some y):y.id=q.id/\(y=q\/y={q with p:=0}):=by
 unfold gR at h;split at h
 ·split at h
  ·cases h
  ·cases h;exact⟨rfl,.inr rfl⟩
 ·cases h;exact⟨rfl,.inl rfl⟩
theorem rP{cs:VH}:∀ {K:List Q},((bx cs K).map Q.id).Sublist (K.map Q.id)
 |[]=>List.Sublist.slnil
 | q::K=>by
  unfold bx;rw[Wg];cases h:gR cs q with
  |none=>exact(rP (K:=K)).cons _
  | some y=>
   show(y.id::(bx cs K).map Q.id).Sublist _;rw[(pB h).1];exact(rP (K:=K)).cons₂ _
theorem oH{cs:VH}(nd:Nd K):Nd (bx cs K):=Xp rP nd
theorem yX{cs:VH}:(bx cs K).length<=K.length:=by have:=(rP (cs:=cs) (K:=K)).length_le;simpa using this
theorem uj:bx [] K=K:=by
 unfold bx;have:gR []=some:=by funext q;unfold gR;rw[Da (by simp)]
 rw[this,List.filterMap_some]
theorem mZ{cs:VH}(h:q∈K)(hc:q.id∉cs):q∈bx cs K:=S4.mpr ⟨q,h,Da hc⟩
theorem Ar{cs:VH}{c:Int}(nd:Nd K)(hq:q∈K)(e:q.id=c)(hc:c∉cs)(hf:q.w.fin=true):bx (cs++[c]) K=rem (bx cs K) c:=by
 subst e;unfold bx rem;rw[List.filter_filterMap];refine uF λx hx=>?_;unfold gR;by_cases e:x.id=q.id
 ·have:=gf nd hx hq e
  subst this;rw[u9 (by simp),u9 hf,Da hc]
  simp[Option.filter]
 ·by_cases hm:x.id∈cs
  ·rw[u9 (by simp[hm]),u9 hm]
   split
   ·rfl
   ·simp[Option.filter,e]
  ·rw[Da (by simp[hm,e]),Da hm]
   simp[Option.filter,e]
theorem zy{cs:VH}{c:Int}(nd:Nd K)(hq:q∈K)(e:q.id=c)(hc:c∉cs)(hf:q.w.fin=false):bx (cs++[c]) K=put (bx cs K) {q with p:=0}:=by
 subst e;unfold bx put;rw[List.map_filterMap];refine uF λx hx=>?_;unfold gR;by_cases e:x.id=q.id
 ·have:=gf nd hx hq e
  subst this;rw[u9 (by simp),Da (by rw[hf];decide),Da hc]
  simp
 ·by_cases hm:x.id∈cs
  ·rw[u9 (by simp[hm]),u9 hm]
   split
   ·rfl
   ·simp[e]
  ·rw[Da (by simp[hm,e]),Da hm]
   simp[e]
theorem Ds{k:Int}(nd:Nd K)(hl:K.length<64):oI [sD K l,.int k]=.ok (sD (bx (aQ K k) K) l):=by
 rw[oI]
 obtain⟨LJ,eL,x3,Mo⟩:=nq (tg:=aF 3) (body:=k8) (λn ρ=>∃x3:Slot,ρ=[.sh (sD K l),.sh (.int k),.sh (sD (bx ((aQ K k).take n) K) l),x3]) (ds:=(aQ K k).map .int) 0 (by
  intro n d hd ρ ⟨x3,Mo⟩;rw[DM]at hd;obtain⟨c,hc,rfl⟩:=Xd.mp hd;subst Mo;rw[WJ];refine⟨_,rfl,?_⟩;show ∃LZ,k8 [.sh (sD K l),.sh (.int k),.sh (sD (bx ((aQ K k).take n) K) l),.sh (.int c)]=_/\_;rw[k8];have SI:=(mO.mp hc).1;have ht:(aQ K k).take (n+1)=(aQ K k).take n++[c]:=by rw[Xx,hc];rfl
  have O8:c∉(aQ K k).take n:=λz=>by
   have h1:=(zt (k:=k) nd).sublist (Xr (n+1) _);rw[ht,M0]at h1;exact h1.2.2 c z c (by simp) rfl
  obtain⟨q,hq,hp,rfl⟩:=kh.mp (S6 hc);have SR:q∈bx ((aQ K k).take n) K:=mZ hq O8;have et:=jk (f:=kG) (aW (o:=av) (fi (l:=l) (a:=aa 0) (b:=aa 3) (ρ:=[.sh (sD K l),.sh (.int k),.sh (sD (bx ((aQ K k).take n) K) l),.sh (.int q.id)]) rfl rfl nd hq) (b:=eC (S "waits")) rfl j7) (Ag q.w);rw[ht];cases hf:q.w.fin with
  | true=>
   rw[hf]at et;refine⟨_,?_,.sh (.int q.id),by rw[Ar nd hq rfl O8 hf]⟩
   rw[b7 (bj et),bQ (cy rfl rfl (qh (oH nd) SR))];rfl
  | false=>
   rw[hf]at et;refine⟨_,?_,.sh (.int q.id),by rw[zy nd hq rfl O8 hf]⟩
   rw[show aR _ _ _ _=bb _ _ _ from by simp only[aR,bj et,R.aJ];rfl,bQ (dN rfl rfl rfl (kQ (x:={q with p:=0}) (oH nd) (WD yX (by omega)) SR rfl (by kernel_rfl)))];rfl) (ρ:=[.sh (sD K l),.sh (.int k),.sh (sD K l),.un]) ⟨.un,by rw[X1,uj]⟩
 subst Mo;refine ck ?_;show aw _ [.sh (sD K l),.sh (.int k),.un,.un]=_;rw[aA (ρ':=[.sh (sD K l),.sh (.int k),.sh (sD K l),.un]) rfl];rw[aA (gT (ds:=(aQ K k).map .int) (by show(aG _ _ _).bind _=_;rw[cy rfl rfl (wQ nd hl)];rfl) eL)]
 rw[WJ,Do,XC];exact bB (bW rfl)
noncomputable def dO(A:Int×VH)(b:Bool):D:=if b=true then .ai [.inl A.1,.inl 4005,.inl 4006] [.tup [S "own",W A.2],.tup [S "lent",.int 6],.tup [S "lent",.int 6]]else .ai [] []
noncomputable def a9(x:D)(b:Bool):D:=if b=true then .ai [.inl 6] [x]else .ai [] []
noncomputable def q0:Q:=⟨0,0,0,0,0,[],0,.d .aj,.d .aj,.bN,0,false,.d .aj,false⟩
noncomputable def cD(K:List Q)(i:Int):Q:=(K.find? λq=>decide (q.id=i)).getD q0
variable{x:D}{b:Bool}{A:Int×VH}
theorem dI(nd:Nd K)(hq:q∈K):cD K q.id=q:=by
 unfold cD;cases h:K.find? λy=>decide (y.id=q.id)with
 |none=>have:=List.find?_eq_none.mp h q hq;simp at this
 |some y=>exact gf nd (X6 h) hq (by have:=YV h;simpa using this)
theorem lA{i:Int}(h:i∈b8 (K.map Q.id)):∃q∈K,q.id=i:=by
 rw[(iA _).mem_iff]at h;exact V5.mp h
theorem pF:(b8 (K.map Q.id)).length=K.length:=by rw[(iA _).length_eq,Do]
theorem B8(nd:Nd K)(hl:K.length<64):mY [sD K l]=.ok (.lst ((b8 (K.map Q.id)).map λi=>(cD K i).d)):=by
 rw[mY];refine ck (bW ?_);show bJ _ _ _ _ _ _ [.sh (sD K l)]=_;refine fI (ds:=(b8 (K.map Q.id)).map .int) ?_ (by rw[Do,pF];omega) ?_
 ·show(e1 gG _ _).bind _=_
  rw[d4 (i7 rfl) (uV hl)];rfl
 ·refine oB (u:=D.int) (v:=λi=>(cD K i).d) λi hi=>⟨[.sh (.int i),.sh (sD K l)],rfl,?_⟩
  obtain⟨q,hq,rfl⟩:=lA hi;rw[dI nd hq];exact fi rfl rfl nd hq
theorem GV{ρ:En}(h:q.pg.toD=dO A q.hp)(h2:aa 2 ρ=.ok q.d):(bJ (jU (e2 av (aa 2) (eC (S "pages")))) 1 [] (aF 0) [tV (e2 oEq (e2 av (aa 0) (eC (.int 0))) (eC (S "lent")))] (e2 av (aa 0) (eC (.int 1)))) ρ=.ok (.lst (List.replicate (if q.hp=true then 2 else 0) (.int 6))):=by
 have e:(e2 av (aa 2) (eC (S "pages"))) ρ=.ok (dO A q.hp):=by rw[<-h];exact aW h2 rfl sI
 cases hb:q.hp with
 | true=>
  rw[hb]at e;refine fI (ds:=[.tup [S "own",W A.2],.tup [S "lent",.int 6],.tup [S "lent",.int 6]]) (by show(e2 av _ _ ρ).bind _=_;rw[e];rfl) (show(_:Nat)<=16777216 from IR rfl) (by kernel_rfl)
 | false=>
  rw[hb]at e;refine fI (ds:=[]) (by show(e2 av _ _ ρ).bind _=_;rw[e];rfl) (show(_:Nat)<=16777216 from IR rfl) (by kernel_rfl)
theorem H0(nd:Nd K)(hl:K.length<64)(hA:∀q∈K,q.pg.toD=dO A q.hp):∃c:Nat,nL [sD K l]=.ok (.lst (List.replicate c (.int 6)))/\(0<c↔∃q∈K,q.hp=true):=by
 rw[nL]
 obtain ⟨LJ,eL,c,x2,Mo,hc,OE⟩:=nq (tg:=aF 2) (body:=me) (λn ρ=>∃(c:Nat) (x2:Slot),ρ=[.sh (sD K l),.ol (List.replicate c (.int 6)),x2]/\c<=2*n/\(0<c↔∃i∈(b8 (K.map Q.id)).take n,(cD K i).hp=true)) (ds:=(b8 (K.map Q.id)).map λi=>(cD K i).d) 0 (by
  intro n d hd ρ ⟨c,x2,Mo,h1,h2⟩;rw[DM]at hd;obtain⟨i,hi,rfl⟩:=Xd.mp hd;subst Mo;rw[WJ]at h1 h2 ⊢;have SI:=(mO.mp hi).1;rw[pF]at SI;obtain⟨q,hq,e⟩:=lA (S6 hi);subst e;rw[dI nd hq];refine⟨_,rfl,?_⟩;show ∃LZ,me [.sh (sD K l),.ol (List.replicate c (.int 6)),.sh q.d]=_/\_;rw[me];refine⟨[.sh (sD K l),.ol (List.replicate (c+(if q.hp=true then 2 else 0)) (.int 6)),.sh q.d],?_,c+(if q.hp=true then 2 else 0),.sh q.d,rfl,by split<;>omega,?_⟩
  ·unfold ur
   rw[GV (hA q hq) rfl,R.aJ];show(if(List.replicate c (D.int 6)).length+(List.replicate (if q.hp=true then 2 else 0) (D.int 6)).length<=er then R.ok (Fl.next [.sh (sD K l),.ol (List.replicate c (.int 6)++List.replicate (if q.hp=true then 2 else 0) (.int 6)),.sh q.d])else .bad)=_
   rw[u9 (by rw[VX,VX];have:er=16777216:=rfl;split<;>omega),List.replicate_append_replicate]
  ·rw[Xx,hi]
   constructor
   ·intro hc
    by_cases hb:q.hp=true
    ·exact⟨q.id,by simp,by rw[dI nd hq];exact hb⟩
    ·rw[Da hb]at hc
     obtain⟨i,hi,h⟩:=h2.mp hc;exact⟨i,KB _ hi,h⟩
   ·rintro⟨i,hi,h⟩
    rcases KM.mp hi with hi|hi
    ·have:=h2.mpr ⟨i,hi,h⟩;omega
    ·rw[show i=q.id by simpa using hi,dI nd hq]at h
     rw[u9 h];omega) (ρ:=[.sh (sD K l),.ol [],.un]) ⟨0,.un,rfl,Fk _,by simp⟩
 subst Mo;refine⟨c,ck ?_,?_⟩
 ·show aw _ [.sh (sD K l),.un,.un]=_
  rw[aA (AM (xs:=[]) rfl)];show aw _ [.sh (sD K l),.ol [],.un]=_;rw[aA (gT (ds:=(b8 (K.map Q.id)).map λi=>(cD K i).d) (by show(aG _ _ _).bind _=_;rw[jk rfl (B8 nd hl)];rfl) eL)]
  rw[aA (ρ':=[.sh (sD K l),.sh (.lst (List.replicate c (.int 6))),x2]) rfl];exact bB (bW rfl)
 ·rw[OE,WJ,Do,XC]
  constructor
  ·rintro⟨i,hi,h⟩
   obtain⟨q,hq,rfl⟩:=lA hi;rw[dI nd hq]at h;exact⟨q,hq,h⟩
  ·rintro⟨q,hq,h⟩
   exact⟨q.id,(iA _).mem_iff.mpr (VT hq),by rw[dI nd hq];exact h⟩
theorem KL:∀c:Nat,dM (.int 6) (.lst (List.replicate c (.int 6)))=.ok (.bl (decide (0<c))):=λc=>by
 have h:(List.replicate c (D.int 6)).all flat=true:=by rw[List.all_replicate];simp[flat]
 show(if flat (.int 6)=true/\(List.replicate c (D.int 6)).all flat=true then R.ok (D.bl ((List.replicate c (D.int 6)).any λy=>br y (.int 6)))else .bad)=_
 rw[u9 ⟨rfl,h⟩,List.any_replicate];cases c with
 |zero=>rfl
 |succ n=>simp[br]
theorem Ig(nd:Nd K)(hl:K.length<64)(hA:∀q∈K,q.pg.toD=dO A q.hp):nM [sD K (a9 x b)]=.ok (sD K (a9 x (b&&K.any Q.hp))):=by
 obtain⟨c,ec,hc⟩:=H0 (l:=a9 x b) nd hl hA
 have hc:decide (0<c)=K.any Q.hp:=by
  rw[Wk,FM,P3];exact hc
 rw[nM];refine ck ?_;show aw _ [.sh (sD K (a9 x b)),.un,.un]=_;rw[aA (bQ (jk rfl ec))];show aw _ [.sh (sD K (a9 x b)),.sh (.lst (List.replicate c (.int 6))),.un]=_;have eL:(e2 av (aa 0) (eC (S "lent"))) [.sh (sD K (a9 x b)),.sh (.lst (List.replicate c (.int 6))),.un]=.ok (a9 x b):=by kernel_rfl
 rw [aA (bQ (d:=a9 x (b&&K.any Q.hp)) (by
  cases b with
  | false=>
   exact d4 (x:=.lst []) (fI (ds:=[]) (by show(e2 av _ _ _).bind _=_;rw[eL];rfl) (by decide) rfl) rfl
  | true=>
   rw[WR, <-hc]
   have h1:eZ (g7 [0,1]) [tV (e2 dM (aa 0) (aa 2))] (cE [aa 0,aa 1]) [.un,.un,.sh (.lst (List.replicate c (.int 6)))] ([(x)].map λy=>.tup [.int 6,y])=.ok (([x].filter λ_=>decide (0<c)).map λy=>.tup [.int 6,y]):=
    jh (u:=λy:D=>.tup [.int 6,y]) (p:=λ_=>decide (0<c)) (v:=λy=>.tup [.int 6,y]) λy _=>⟨[.sh (.int 6),.sh y,.sh (.lst (List.replicate c (.int 6)))],rfl,by
     show(tV _ _).bind _=_;rw[bj (aW (o:=dM) rfl rfl (KL c)),R.aJ];cases decide (0<c)<;>rfl,λ_=>rfl⟩
   refine d4 (x:=.lst (([x].filter λ_=>decide (0<c)).map λy=>.tup [.int 6,y])) (fI (ds:=[.tup [.int 6,x]]) (by show(e2 av _ _ _).bind _=_;rw[eL];rfl) (IR rfl) h1) ?_
   cases decide (0<c)<;>rfl))]
 exact bB (bW (cy rfl rfl CI))
theorem any_put{K:List Q}{x:Q}:(put K x).any Q.hp=K.any λq=>if q.id=x.id then x.hp else q.hp:=by
 unfold put;rw[List.any_map];congr 1;funext q;show(if q.id=x.id then x else q).hp=_
 split<;>rfl
noncomputable def Q.dQ(q:Q):Q:={q with pg:=.d (.ai [] []),hp:=false}
noncomputable def Q.fin(q:Q)(c:Int):Q:={q with pg:=.d (.ai [] []),hn:=.d (.ai [] []),w:=.over c,u:=false,sv:=.d .aj,hp:=false}
noncomputable def Wt.kF:Wt->Bool
 |.kf=>true
 |_=>false
noncomputable def dY(K:List Q)(q:Q)(c:Int):List Q:=
 if q.p=0 then rem (bx (aQ (put K (q.fin c)) q.id) (put K (q.fin c))) q.id
 else if(cD (bx (aQ (put K (q.fin c)) q.id) (put K (q.fin c))) q.p).w.kF=true then put (rem (bx (aQ (put K (q.fin c)) q.id) (put K (q.fin c))) q.id) {cD (bx (aQ (put K (q.fin c)) q.id) (put K (q.fin c))) q.p with g0:=q.id,g1:=c,w:=.bN}
 else bx (aQ (put K (q.fin c)) q.id) (put K (q.fin c))
theorem Dn(nd:Nd K)(hl:K.length<64)(hA:∀q∈K,q.pg.toD=dO A q.hp)(hq:q∈K):og [sD K (a9 x b),.int q.id]=.ok (sD (put K q.dQ) (a9 x (b&&(put K q.dQ).any Q.hp))):=by
 rw[og];refine ck (bW ?_);show aG _ _ [.sh (sD K (a9 x b)),.sh (.int q.id)]=_;refine jk (dN rfl rfl rfl (kQ (x:=q.dQ) nd (by omega) hq rfl (by kernel_rfl))) (Ig (A:=A) nd.put (by rw[p7];exact hl) λy hy=>?_)
 rcases pS hy with⟨rfl,_⟩|⟨h,_⟩
 ·rfl
 ·exact hA y h
theorem sX(nd:Nd K)(hq:q∈K)(hp:q.p≠q.id){c:Int}:q.fin c∈bx (aQ (put K (q.fin c)) q.id) (put K (q.fin c)):=by
 refine mZ (mE hq rfl) λh=>?_;obtain⟨y,hy,e1,e2⟩:=kh.mp h;have:=gf nd.put hy (mE (x:=q.fin c) hq rfl) e2;subst this;exact hp e1
theorem wu{cs:VH}{y:Q}(hy:y∈K)(hf:y.w.fin=false):∃z∈bx cs K,z.id=y.id/\z.w=y.w:=by
 by_cases h:y.id∈cs
 ·exact⟨{y with p:=0},S4.mpr ⟨y,hy,by unfold gR;rw[u9 h,Da (by rw[hf];decide)]⟩,rfl,rfl⟩
 ·exact⟨y,mZ hy h,rfl,rfl⟩
theorem yc(w:Wt):oEq w.d (.tup [S "child"])=.ok (.bl w.kF):=by cases w<;>kernel_rfl
theorem Cb{c:Int}(nd:Nd K)(hl:K.length<64)(hA:∀q∈K,q.pg.toD=dO A q.hp)(hq:q∈K)(hp:q.p≠q.id)(hP:q.p=0\/∃y∈K,y.id=q.p/\y.w.fin=false):
  i5 [sD K (a9 x b),.int q.id,.int c]=.ok (sD (dY K q c) (a9 x (b&&(put K (q.fin c)).any Q.hp))):=by
 have ha:(put K q.dQ).any Q.hp=(put K (q.fin c)).any Q.hp:=by rw[any_put,any_put];rfl
 have hn:q.dQ∈put K q.dQ:=mE hq rfl;have e1:=Dn (x:=x) (b:=b) nd hl hA hq;rw[ha]at e1;generalize a9 x (b&&(put K (q.fin c)).any Q.hp)=l at e1 ⊢
 have e2:d9 [sD (put K q.dQ) l,.int q.id,.ai [.inr (Str.ofString "handles"),.inr (Str.ofString "waits"),.inr (Str.ofString "rung"),.inr (Str.ofString "saved")] [.ai [] [],.tup [S "ended",.int c],.bl false,.aj]]=.ok (sD (put K (q.fin c)) l):=by
  have:=kQ (l:=l) (q:=q.dQ) (x:=q.fin c) (nw:=.ai [.inr (Str.ofString "handles"),.inr (Str.ofString "waits"),.inr (Str.ofString "rung"),.inr (Str.ofString "saved")] [.ai [] [],.tup [S "ended",.int c],.bl false,.aj]) nd.put (by rw[p7];omega) hn rfl (by kernel_rfl)
  rw[lp (show q.dQ.id=(q.fin c).id from rfl)]at this
  exact this
 have LF:Nd (put K (q.fin c)):=nd.put;have kT:(put K (q.fin c)).length<64:=by rw[p7];exact hl
 have e3:=Ds (l:=l) (k:=q.id) LF kT;have hm:=sX nd hq hp (c:=c);have Nk:Nd (bx (aQ (put K (q.fin c)) q.id) (put K (q.fin c))):=oH LF;have Uw:(bx (aQ (put K (q.fin c)) q.id) (put K (q.fin c))).length<64:=WD yX kT
 have TF:q.p=0\/∃y∈bx (aQ (put K (q.fin c)) q.id) (put K (q.fin c)),y.id=q.p:=by
  rcases hP with h|⟨y,hy,ye,yf⟩
  ·exact .inl h
  ·obtain⟨z,hz,ze,_⟩:=wu (cs:=aQ (put K (q.fin c)) q.id) (oT (x:=q.fin c) hy (by show y.id≠q.id;rw[ye];exact hp)) yf
   exact .inr ⟨z,hz,ze.trans ye⟩
 unfold dY;generalize bx (aQ (put K (q.fin c)) q.id) (put K (q.fin c))=K3 at e3 hm Nk Uw TF ⊢;rw[i5];refine ck ?_;show aw _ [.sh (sD K (a9 x b)),.sh (.int q.id),.sh (.int c),.un,.un,.un]=_;rw[aA (ρ':=[.sh (sD K (a9 x b)),.sh (.int q.id),.sh (.int c),.sh (.ai [.inr (Str.ofString "handles"),.inr (Str.ofString "waits"),.inr (Str.ofString "rung"),.inr (Str.ofString "saved")] [.ai [] [],.tup [S "ended",.int c],.bl false,.aj]),.un,.un]) (by kernel_rfl)]
 rw[aA (bQ (cy (dN (cy rfl rfl e1) rfl rfl e2) rfl e3))];show aw _ [.sh (sD K (a9 x b)),.sh (.int q.id),.sh (.int c),.sh (.ai [.inr (Str.ofString "handles"),.inr (Str.ofString "waits"),.inr (Str.ofString "rung"),.inr (Str.ofString "saved")] [.ai [] [],.tup [S "ended",.int c],.bl false,.aj]),.sh (sD K3 l),.un]=_;rw[aA (bQ (aW (fi (q:=q.fin c) rfl rfl Nk hm) rfl qH))];show aw _ [.sh (sD K (a9 x b)),.sh (.int q.id),.sh (.int c),.sh (.ai [.inr (Str.ofString "handles"),.inr (Str.ofString "waits"),.inr (Str.ofString "rung"),.inr (Str.ofString "saved")] [.ai [] [],.tup [S "ended",.int c],.bl false,.aj]),.sh (sD K3 l),.sh (.int q.p)]=_;by_cases h0:q.p=0
 ·rw[u9 h0]
  refine bB ?_;rw[b7 (bj (b:=true) (by rw[fX (i:=q.p) (u:=0) rfl rfl,GT h0]))]
  exact bW (cy rfl rfl (qh (q:=q.fin c) Nk hm))
 ·rw[Da h0]
  obtain⟨y,hy,ye⟩:=TF.resolve_left h0;rw[aA (bY (bj (by rw[fX (i:=q.p) (u:=0) rfl rfl,JU h0])))]
  rw[<-ye,dI Nk hy];have et:=aW (o:=oEq) (ρ:=[.sh (sD K (a9 x b)),.sh (.int q.id),.sh (.int c),.sh (.ai [.inr (Str.ofString "handles"),.inr (Str.ofString "waits"),.inr (Str.ofString "rung"),.inr (Str.ofString "saved")] [.ai [] [],.tup [S "ended",.int c],.bl false,.aj]),.sh (sD K3 l),.sh (.int y.id)]) (aW (o:=av) (fi (l:=l) (q:=y) (a:=aa 4) (b:=aa 5) rfl rfl Nk hy) (b:=eC (S "waits")) rfl j7) (b:=cE [eC (S "child")]) rfl (yc y.w);cases hc:y.w.kF with
  | true=>
   rw[hc]at et;rw[u9 rfl];refine bB ?_;rw[b7 (bj et)];exact bW (sN (cy rfl rfl (qh (q:=q.fin c) Nk hm)) rfl rfl rfl (yy (q:=y) Nk.rem (WD xy (by omega)) (gY.mpr ⟨hy,by rw[ye];exact hp⟩)))
  | false=>
   rw[hc]at et;rw[Da (by decide),aA (bY (bj et))]
   exact bB (bW rfl)
end
theorem gJ{i m:Nat}{f:Pt}{e:Ex}{ρ:En}{p:List Nat}{x:D}{t n:T}(hf:f ρ=.ok p)(he:e ρ=.ok x)(hi:ρ[i]? =some (.on (.tr t)))(ha:T.at t p=some n)(hs:stepT n x=some m):pX i f e ρ=.ok (p++[m]):=by
 unfold pX;simp only[hf,he,R.aJ,hi,ha,hs]
theorem xO:∀ {p q:List Nat},q.length<=p.length->below p q=false
 |[],[],_=>rfl
 |[],_::_,h=>by simp at h
 |_::_,[],_=>rfl
 | a::p,b::q,h=>by
  show(decide (a=b)&&below p q)=false;rw[xO (by simpa using h),XR]
def eQ(n:Nat)(s:Slot):Prop:=∀k q,s=.on (.al k q)->q.length<=n
theorem qS{i n:Nat}{p:List Nat}{ρ:En}(h:∀s∈ρ,eQ n s)(hn:n<=p.length):b9 i p ρ=ρ:=by
 unfold b9;refine(VU λs hs=>?_).trans (Xj ρ);have:=h s hs;cases s with
 | on z=>
  cases z with
  |tr t=>rfl
  |al k q=>show(if k=i/\below p q=true then Slot.un else _)=_;rw[xO (PK (this k q rfl) hn),Da (by simp)];rfl
 |_=>rfl
section
variable{K:List Q}{l:T}{q x:Q}{m:Nat}{ρ:En}
theorem rT:T.at (sT K l) [0]=some (.m (keys K) (K.map Q.t)):=rfl
theorem jx(h:K[m]? =some q){p:List Nat}:T.at (sT K l) (0::m::p)=T.at q.t p:=by
 show(match(K.map Q.t)[m]? with|some t=>T.at t p|none=>none)=_
 rw[DM,h];rfl
theorem oW(nd:Nd K)(h:K[m]? =some q)(e:q.id=x.id){p:List Nat}{n:T}(hx:T.put n q.t p=x.t):T.put n (sT K l) (0::m::p)=sT (put K x) l:=by
 show T.m SK [(match(K.map Q.t)[m]? with|some t=>T.m (keys K) ((K.map Q.t).set m (T.put n t p))|none=>T.m (keys K) (K.map Q.t)),l,tN,.m [] [],.d (.int 0)]=_
 rw[DM,h];show T.m SK [T.m (keys K) ((K.map Q.t).set m (T.put n q.t p)),l,tN,.m [] [],.d (.int 0)]=_;rw[hx, <-List.map_set,AS nd h e];unfold sT;rw[wW]
theorem pK(hi:ρ[0]? =some (.on (.tr (sT K l)))):(pX 0 pN (eC (S "tasks"))) ρ=.ok [0]:=gJ (p:=[]) rfl rfl hi rfl (by kernel_rfl)
theorem pT{e:Ex}(hi:ρ[0]? =some (.on (.tr (sT K l))))(he:e ρ=.ok (.int q.id))(hm:cB (.inl q.id) (keys K)=some m):(pX 0 (pX 0 pN (eC (S "tasks"))) e) ρ=.ok [0,m]:=gJ (pK hi) he hi rT (by show cB (.inl q.id) (keys K)=_;exact hm)
noncomputable def Q.fs(q:Q):List T:=[.d (.int q.p),.d (.int q.r),.l (q.rg.map λi=>.d (.int i)),.d (.int q.ro),q.pg,q.hn,.d q.w.d,.d (.int q.hr),.d (.bl q.u),q.sv]
theorem jc{i:Nat}{f:Pt}{k e:Ex}{d y:D}{z:Ky}{p:List Nat}{t t':T}{ks:List Ky}{ts:List T}(he:e ρ=.ok d)(hf:f ρ=.ok p)(hk:k ρ=.ok y)(hi:ρ[i]? =some (.on (.tr t)))(hz:keyOf y=some z)(ha:T.at t p=some (.m ks ts))(hl:ks.length<1000)(ht:T.put (.m (eU z (.d d) ks ts).1 (eU z (.d d) ks ts).2) t p=t'):
  bP i f k e ρ=.ok (.next ((b9 i p ρ).set i (.on (.tr t')))):=by
 unfold bP;simp only[he,hf,hk,R.aJ,hi,hz,ha];rw[u9 hl,ht]
theorem nH{f:Pt}{e:Ex}{d:D}{c:String}(nd:Nd K)(hi:ρ[0]? =some (.on (.tr (sT K l))))(he:e ρ=.ok d)(hf:f ρ=.ok [0,m])(hm:K[m]? =some q)(e':q.id=x.id)(hx:T.m (eU (.inr (Str.ofString c)) (.d d) TK q.fs).1 (eU (.inr (Str.ofString c)) (.d d) TK q.fs).2=x.t)(hd:∀s∈ρ,eQ 2 s):
  bP 0 f (eC (S c)) e ρ=.ok (.next (ρ.set 0 (.on (.tr (sT (put K x) l))))):=by
 rw[jc he hf rfl hi rfl ((jx hm).trans (show T.at q.t []=some (.m TK q.fs)from rfl)) (by decide) (oW nd hm e' (p:=[]) (n:=T.m (eU (.inr (Str.ofString c)) (.d d) TK q.fs).1 (eU (.inr (Str.ofString c)) (.d d) TK q.fs).2) hx),qS hd (Fk _)]
theorem sL{i:Nat}{f:Pt}{k e:Ex}{d:D}{j:Int}{n:Nat}{p:List Nat}{t t':T}{ts:List T}(he:e ρ=.ok d)(hf:f ρ=.ok p)(hk:k ρ=.ok (.int j))(hi:ρ[i]? =some (.on (.tr t)))(ha:T.at t p=some (.l ts))(hn:cI ts.length j=some n)(ht:T.put (.l (ts.set n (.d d))) t p=t'):
  cZ i f k e ρ=.ok (.next ((b9 i p ρ).set i (.on (.tr t')))):=by
 unfold cZ;simp only[he,hf,hk,R.aJ,hi,ha,hn];rw[ht]
theorem pG{f:Pt}(hi:ρ[0]? =some (.on (.tr (sT K l))))(hf:f ρ=.ok [0,m])(hm:K[m]? =some q):(pX 0 f (eC (S "regs"))) ρ=.ok [0,m,2]:=gJ hf rfl hi (jx (p:=[]) hm) (by kernel_rfl)
theorem lY{f:Pt}{e:Ex}{a:Int}(nd:Nd K)(hi:ρ[0]? =some (.on (.tr (sT K l))))(he:e ρ=.ok (.int a))(hf:f ρ=.ok [0,m])(hm:K[m]? =some q)(hd:∀s∈ρ,eQ 2 s):
  cZ 0 (pX 0 f (eC (S "regs"))) (eC (.int 0)) e ρ=.ok (.next (ρ.set 0 (.on (.tr (sT (put K {q with g0:=a}) l))))):=by
 rw[sL (ts:=q.rg.map λi=>.d (.int i)) (n:=0) he (pG hi hf hm) rfl hi ((jx hm).trans rfl) (jd (by decide) (by unfold Q.rg;simp;omega)) (oW (x:={q with g0:=a}) nd hm rfl (p:=[2]) (n:=.l ((q.rg.map λi=>T.d (.int i)).set 0 (.d (.int a)))) rfl),qS (p:=[0,m,2]) hd (show 2<=3 by decide)]
theorem GY{f:Pt}{e:Ex}{a:Int}(nd:Nd K)(hi:ρ[0]? =some (.on (.tr (sT K l))))(he:e ρ=.ok (.int a))(hf:f ρ=.ok [0,m])(hm:K[m]? =some q)(hd:∀s∈ρ,eQ 2 s):
  cZ 0 (pX 0 f (eC (S "regs"))) (eC (.int 1)) e ρ=.ok (.next (ρ.set 0 (.on (.tr (sT (put K {q with g1:=a}) l))))):=by
 rw[sL (ts:=q.rg.map λi=>.d (.int i)) (n:=1) he (pG hi hf hm) rfl hi ((jx hm).trans rfl) (jd (by decide) (by unfold Q.rg;simp;omega)) (oW (x:={q with g1:=a}) nd hm rfl (p:=[2]) (n:=.l ((q.rg.map λi=>T.d (.int i)).set 1 (.d (.int a)))) rfl),qS (p:=[0,m,2]) hd (show 2<=3 by decide)]
theorem l8(nd:Nd K)(h:K[m]? =some q)(e:q.id=x.id):(put K x)[m]? =some x:=by
 rw[<-AS nd h e];exact MG (mO.mp h).1
theorem Kt{y:Q}(h:K[m]? =some q)(e:q.id≠y.id):(put K y)[m]? =some q:=by
 unfold put;rw[DM,h];show some (if q.id=y.id then y else q)=_
 rw[Da e]
theorem sF:∀ {K:List Q} {q:Q} {m:Nat},Nd K->K[m]? =some q->cB (.inl q.id) (keys K)=some m
 |[],_,_,_,h=>by simp at h
 | y::K,q,0,_,h=>by
  have h:y=q:=Pv h;subst h;exact u9 rfl
 | y::K,q,m+1,nd,h=>by
  have Mm:=GM.mp nd;have hq:=S6 (show K[m]? =some q from h)
  show(if(Sum.inl y.id:Ky)=.inl q.id then some 0 else(cB (.inl q.id) (keys K)).map (· +1))=_
  rw[Da (λz=>by injection z with z;exact Mm.1 (by rw[z];exact VT hq)),sF Mm.2 h];rfl
theorem vn:∀ {K:List Q} {q:Q} {m:Nat} {k:Int},K[m]? =some q->q.id≠k->(rem K k)[cz (.inl k) (keys K) m]? =some q
 |[],_,_,_,h,_=>by simp at h
 | y::K,q,0,k,h,e=>by
  have h:y=q:=Pv h;subst h;unfold rem;rw[Xb (by simp[e])]
  show(y::_)[cz (.inl k) (keys (y::K)) 0]? =_;rfl
 | y::K,q,m+1,k,h,e=>by
  have ih:=vn (K:=K) (m:=m) (show K[m]? =some q from h) e
  show(rem (y::K) k)[if(Sum.inl y.id:Ky)=.inl k then cz (.inl k) (keys K) m else cz (.inl k) (keys K) m+1]? =_
  unfold rem at ih ⊢;by_cases c:y.id=k
  ·rw[u9 (by rw[c]),Yf (by simp[c])];exact ih
  ·rw[Da (λz=>c (by injection z)),Xb (by simp[c])];exact ih
theorem Bg(h:K[m]? =some q):(keys K)[m]? =some (.inl q.id):=by unfold keys;rw[DM,h];rfl
theorem EF{e:Ex}{j:Nat}{k:Int}{y:Q}(nd:Nd K)(hi:ρ[0]? =some (.on (.tr (sT K l))))(he:e ρ=.ok (.int y.id))(hy:y∈K)(hj:ρ[j]? =some (.on (.al 0 [0,m])))(hm:K[m]? =some q)(C':q.id≠y.id)(h0:j≠0):
  qL j 0 (pX 0 pN (eC (S "tasks"))) e ρ=.ok (.next (((b9 0 [0] ρ).set 0 (.on (.tr (sT (rem K y.id) l)))).set j (.on (.al 0 [0,cz (.inl y.id) (keys K) m])))):=by
 obtain⟨n,hn,_⟩:=gU nd hy;unfold qL;simp only[pK hi,he,R.aJ,hi,hj,keyOf,rT]
 have hk:lH 0 [0] (.inl y.id) (keys K) (some (.on (.al 0 [0,m])))=some [0,cz (.inl y.id) (keys K) m]:=by
  show(if(0:Nat)=0/\[0,m]=[0]++[m]/\(∃a,(keys K)[m]? =some a/\a≠.inl y.id)then some ([0]++[cz (.inl y.id) (keys K) m])else none)=_
  rw[u9 ⟨rfl,rfl,_,Bg hm,λz=>C' (by injection z)⟩];rfl
 rw[hk];show(if(cB (.inl y.id) (keys K)).isSome=true/\0≠j then _ else _)=_
 rw[u9 ⟨by rw[hn];rfl,λz=>h0 z.symm⟩,oz]
 rfl
theorem DK{e:Ex}(nd:Nd K)(hi:ρ[0]? =some (.on (.tr (sT K l))))(he:e ρ=.ok (.int q.id))(hq:q∈K):ic 0 (pX 0 pN (eC (S "tasks"))) e ρ=.ok (.next ((b9 0 [0] ρ).set 0 (.on (.tr (sT (rem K q.id) l))))):=by
 obtain⟨n,hn,_⟩:=gU nd hq;unfold ic;simp only[pK hi,he,R.aJ,hi,keyOf,rT];rw[u9 (by rw[hn];rfl),oz]
 rfl
theorem m6:bK 0 (sT K l) ρ=(ρ.map (cK 0 (sT K l))).set 0 (.sh (sD K l.toD)):=by
 unfold bK;rw[AZ]
theorem oq:∀xs:VH,fB (xs.map D.int)=true
 |[]=>rfl
 |x::xs=>by show(gc (.int x)&&fB (xs.map D.int))=true;rw[oq xs];rfl
theorem wV{L:D}(nd:Nd K)(hq:q∈K):ip [sD K L,.int q.id]=.ok (.bl q.w.fin):=by
 rw[ip];refine ck ?_;show aw _ [.sh (sD K L),.sh (.int q.id),.un]=_;rw[aA (bQ (aW (fi rfl rfl nd hq) rfl j7))];refine bB (bW ?_);show eM _ _ [.sh (sD K L),.sh (.int q.id),.sh q.w.d]=_;cases q.w<;>kernel_rfl
theorem HR{k:Int}(nd:Nd K):(b8 (K.map Q.id)).filter (λi=>decide ((cD K i).p=k))=aQ K k:=by
 unfold aQ;refine vo ?_ (List.Pairwise.filter _ (A9 _));refine((iA (K.map Q.id)).filter _).trans ?_;rw[XQ];rw[show K.filter ((λi=>decide ((cD K i).p=k))∘Q.id)=K.filter (λq=>decide (q.p=k))from Xy λq hq=>by show decide ((cD K q.id).p=k)=_;rw[dI nd hq]]
theorem Bp{L:D}{k:Int}(nd:Nd K)(hl:K.length<64):eG [sD K L,.int k]=.ok (.lst ((aQ K k).map .int)):=by
 rw[eG, <-HR nd];refine EI ?_;show qp _ [.sh (sD K L),.sh (.int k)]=_
 have:bJ (dy (e1 gG (e2 av (aa 0) (eC (S "tasks"))))) 1 [1,0] (aF 0) [tV (e2 oEq (e2 av (e2 av (e2 av (aa 2) (eC (S "tasks"))) (aa 0)) (eC (S "parent"))) (aa 1))] (aa 0) [.sh (sD K L),.sh (.int k)]=.ok (.lst (((b8 (K.map Q.id)).filter λi=>decide ((cD K i).p=k)).map .int)):=by
  refine fI (ds:=(b8 (K.map Q.id)).map .int) ?_ (by rw[Do,pF];omega) ?_
  ·show(e1 gG _ _).bind _=_
   rw[d4 (i7 rfl) (uV hl)];rfl
  ·refine jh (u:=D.int) (p:=λi=>decide ((cD K i).p=k)) (v:=D.int) λi hi=>⟨[.sh (.int i),.sh (.int k),.sh (sD K L)],rfl,?_,λ_=>rfl⟩
   obtain⟨q,hq,rfl⟩:=lA hi;rw[dI nd hq];show(tV _ _).bind _=_;rw[bj (fX (aW (fi rfl rfl nd hq) rfl qH) rfl),R.aJ];cases decide (q.p=k)<;>rfl
 unfold qp;rw[this];rfl
end
noncomputable def aT:Option D->Slot
 |some d=>.sh d
 |none=>.un
theorem fV{n:Nat}{d:D}:eQ n (.sh d):=λ_ _ h=>nomatch h
theorem qT{n:Nat}:eQ n .un:=λ_ _ h=>nomatch h
theorem lB{n:Nat}{t:T}:eQ n (.on (.tr t)):=λ_ _ h=>nomatch h
theorem AR{n k:Nat}{q:List Nat}(hq:q.length<=n):eQ n (.on (.al k q)):=λ_ _ h=>by cases h;exact hq
theorem md{n:Nat}{x:Option D}:eQ n (aT x):=by cases x<;>intro _ _ h<;>exact nomatch h
theorem kx{n:Nat}{b:Sm}{t t':T}{ds:List D}{ρ':En}(h:b (.on (.tr t)::(ds.map .sh++List.replicate (n - 1 - ds.length) .un))=.ok (.next ρ'))(h0:ρ'[0]? =some (.on (.tr t'))):iE n b t ds=.ok (.aj,t'):=by
 unfold iE;rw[h,R.aJ];show(match ρ'[0]? with|some (Slot.on (.tr t'))=>R.ok (D.aj,t')|_=>.bad)=_
 rw[h0]
theorem IZ{n:Nat}{b:Sm}{t t':T}{ds:List D}{ρ':En}{d:D}(h:b (.on (.tr t)::(ds.map .sh++List.replicate (n - 1 - ds.length) .un))=.ok (.dJ d ρ'))(h0:ρ'[0]? =some (.on (.tr t'))):iE n b t ds=.ok (d,t'):=by
 unfold iE;rw[h,R.aJ];show(match ρ'[0]? with|some (Slot.on (.tr t'))=>R.ok (d,t')|_=>.bad)=_
 rw[h0]
theorem zB{i j:Nat}{f:Pt}{ρ:En}{p:List Nat}{t u:T}(hf:f ρ=.ok p)(hi:ρ[i]? =some (.on (.tr t)))(ha:T.at t p=some u)(ho:u.own=true/\i≠j):kU j i f ρ=.ok (.next (ρ.set j (.on (.al i p)))):=by
 unfold kU;simp only[hf,R.aJ,hi,ha];rw[u9 ho]
noncomputable def aM(x:D)(b:Bool):T:=if b=true then .m [.inl 6] [.d x]else .m [] []
theorem vv(x:D)(b:Bool):(aM x b).toD=a9 x b:=by cases b<;>rfl
noncomputable def eE(K:List Q)(l:T)(k c:Int)(m:Nat)(x4 x5 x6:Option D):En:=[.on (.tr (sT K l)),.sh (.int k),.sh (.int c),.on (.al 0 [0,m]),aT x4,aT x5,aT x6]
section
variable{K:List Q}{l:T}{q x y:Q}{m:Nat}{ρ:En}{k c:Int}{x4 x5 x6:Option D}{A:Int×VH}{b:Bool}{v:D}
theorem zD:∀s∈eE K l k c m x4 x5 x6,eQ 2 s:=by
 unfold eE;simp only[Wd];exact⟨lB,fV,fV,AR (by simp),md,md,md,λ_ h=>nomatch h⟩
theorem Dc(nd:Nd K)(hq:q∈K):put K q=K:=by
 unfold put;refine(VU λz hz=>?_).trans (Xj K);by_cases e:z.id=q.id
 ·rw[u9 e];exact(gf nd hz hq e).symm
 ·rw[Da e];rfl
theorem step{c':String}{e:Ex}{d:D}(nd:Nd K)(hm:K[m]? =some q)(ex:q.id=x.id)(ey:x.id=y.id)(he:e (eE (put K x) l k c m x4 x5 x6)=.ok d)(hx:T.m (eU (.inr (Str.ofString c')) (.d d) TK x.fs).1 (eU (.inr (Str.ofString c')) (.d d) TK x.fs).2=y.t):
  bP 0 (pA 0 3) (eC (S c')) e (eE (put K x) l k c m x4 x5 x6)=.ok (.next (eE (put K y) l k c m x4 x5 x6)):=by
 rw[nH nd.put rfl he rfl (l8 nd hm ex) ey hx zD,lp ey];rfl
theorem Bq(hm:K[m]? =some q):cK 0 (sT K l) (.on (.al 0 [0,m]))=.sh q.d:=by
 show(if(0:Nat)=0 then(match T.at (sT K l) [0,m]with|some t1=>Slot.sh (T.toD t1)|none=>.un)else .un)=_
 rw[u9 rfl,jx hm];show Slot.sh (T.toD q.t)=_;rw[q.toD]
theorem nI{t:T}{x:Option D}:cK 0 t (aT x)=aT x:=by cases x<;>rfl
theorem rK(hm:K[m]? =some q):bK 0 (sT K l) (eE K l k c m x4 x5 x6)=[.sh (sD K l.toD),.sh (.int k),.sh (.int c),.sh q.d,aT x4,aT x5,aT x6]:=by
 rw[m6];show [.sh (sD K l.toD),.sh (.int k),.sh (.int c),cK 0 (sT K l) (.on (.al 0 [0,m])),cK 0 (sT K l) (aT x4),cK 0 (sT K l) (aT x5),cK 0 (sT K l) (aT x6)]=_;rw[Bq hm,nI,nI,nI]
theorem CD(e:y.id=k):rem (put K y) k=rem K k:=by
 unfold rem put;rw[XQ]
 have h1:K.filter ((λq:Q=> !decide (q.id=k))∘λq=>if q.id=y.id then y else q)=K.filter λq=> !decide (q.id=k):=Xy λz _=>by
  show(!decide ((if z.id=y.id then y else z).id=k))=_
  by_cases h:z.id=y.id
  ·rw[u9 h,h]
  ·rw[Da h]
 rw[h1];refine(VU λz hz=>?_).trans (Xj _);have:=(V1.mp hz).2;rw[Da (λh=>by rw[h,e]at this;simp at this)];rfl
theorem DX{K2:List Q}(nd:Nd K2)(hl:K2.length<64)(hm:K2[m]? =some q)(hp:q.p≠q.id):
  ∃m' Nc,fL (dy (cS 0 (aG eG [aa 0,aa 1]))) (aF 4) i3 (eE K2 l q.id c m none none none)=.ok (.next (eE (bx (aQ K2 q.id) K2) l q.id c m' Nc none none))/\(bx (aQ K2 q.id) K2)[m']? =some q:=by
 have hit:dy (cS 0 (aG eG [aa 0,aa 1])) (eE K2 l q.id c m none none none)=.ok ((aQ K2 q.id).map .int):=by
  have:cS 0 (aG eG [aa 0,aa 1]) (eE K2 l q.id c m none none none)=.ok (.lst ((aQ K2 q.id).map .int)):=by
   show((aG eG [aa 0,aa 1] (bK 0 (sT K2 l) (eE K2 l q.id c m none none none))).bind λd=>match d with|.lst ds=>if fB ds=true then R.ok (D.lst ds)else .bad|_=>.bad)=_
   rw[rK hm,cy rfl rfl (Bp nd hl),R.aJ];exact u9 (oq _)
  show(cS 0 _ _).bind _=_;rw[this];rfl
 obtain⟨LJ,eL,m',Nc,Mo,Ti⟩:=nq (tg:=aF 4) (body:=i3) (λn ρ=>∃m' Nc,ρ=eE (bx ((aQ K2 q.id).take n) K2) l q.id c m' Nc none none/\(bx ((aQ K2 q.id).take n) K2)[m']? =some q) (ds:=(aQ K2 q.id).map .int) 0 (by
  intro n d hd ρ ⟨m1,VA,Mo,RX⟩;rw[DM]at hd;obtain⟨i,hi,rfl⟩:=Xd.mp hd;subst Mo;rw[WJ]at RX ⊢;have ht:(aQ K2 q.id).take (n+1)=(aQ K2 q.id).take n++[i]:=by rw[Xx,hi];rfl
  have O8:i∉(aQ K2 q.id).take n:=λz=>by
   have h1:=(zt (k:=q.id) nd).sublist (Xr (n+1) _);rw[ht,M0]at h1;exact h1.2.2 i z i (by simp) rfl
  obtain⟨y,hy,yp,rfl⟩:=kh.mp (S6 hi);have Ra:y∈bx ((aQ K2 q.id).take n) K2:=mZ hy O8
  have C':q.id≠y.id:=λe=>by
   have:=gf nd (S6 hm) hy e;subst this;exact hp yp
  refine⟨_,rfl,?_⟩;rw[ht];show ∃LZ,i3 (eE (bx ((aQ K2 q.id).take n) K2) l q.id c m1 (some (.int y.id)) none none)=_/\_;rw[i3];have Pr:Nd (bx ((aQ K2 q.id).take n) K2):=oH nd;have hg:=@Ar K2 y ((aQ K2 q.id).take n) y.id nd hy rfl O8;have hf:=@zy K2 y ((aQ K2 q.id).take n) y.id nd hy rfl O8;generalize bx ((aQ K2 q.id).take n) K2=Kn at RX Ra Pr hg hf ⊢;obtain⟨my,ky,gy⟩:=gU Pr Ra;rw[aA (nH (q:=y) (x:={y with p:=0}) (d:=.int 0) Pr rfl rfl (pT rfl rfl ky) gy rfl (by kernel_rfl) zD)]
  show ∃LZ,aw _ (eE (put Kn {y with p:=0}) l q.id c m1 (some (.int y.id)) none none)=_/\_;have QZ:(put Kn {y with p:=0})[m1]? =some q:=Kt RX C';have N5:{y with p:=0}∈put Kn {y with p:=0}:=mE Ra rfl
  have et:gp 0 (tV (aG ip [aa 0,aa 4])) (eE (put Kn {y with p:=0}) l q.id c m1 (some (.int y.id)) none none)=.ok y.w.fin:=by
   show tV _ (bK 0 (sT _ l) _)=_;rw[rK QZ];exact bj (cy rfl rfl (wV (q:={y with p:=0}) Pr.put N5))
  cases hw:y.w.fin with
  | true=>
   rw[hw]at et;rw[hg hw, <-CD (y:={y with p:=0}) rfl];refine⟨_,?_,_,some (.int y.id),rfl,vn QZ C'⟩
   rw[aA (ρ':=eE (rem (put Kn {y with p:=0}) y.id) l q.id c (cz (.inl y.id) (keys (put Kn {y with p:=0})) m1) (some (.int y.id)) none none) (by
    rw[b7 et,EF (y:={y with p:=0}) (j:=3) (k:=0) Pr.put rfl rfl N5 rfl QZ C' (by decide)];rfl)]
   rfl
  | false=>
   rw[hw]at et;rw[hf hw];exact⟨_,by rw[aA (bY et)];rfl,m1,some (.int y.id),rfl,QZ⟩) (ρ:=eE K2 l q.id c m none none none) ⟨m,none,by rw[X1,uj],by rw[X1,uj];exact hm⟩
 rw[WJ,Do,XC]at Mo Ti;subst Mo;exact⟨m',Nc,gT hit eL,Ti⟩
theorem qX:∀xs:VH,dW (xs.map D.int)=true
 |[]=>rfl
 |x::xs=>by show(lay (.int x)&&dW (xs.map D.int))=true;rw[qX xs];rfl
theorem B1(A:Int×VH)(b:Bool){ρ:En}{e:Ex}(he:e ρ=.ok (dO A b)):(e2 iU (cE [eC (S "lent"),eC (.int 6)]) (jw e)) ρ=.ok (.bl b):=by
 cases b with
 |false=>exact aW (x:=.tup [S "lent",.int 6]) (y:=.lst []) rfl (by show(e ρ).bind _=_;rw[he];rfl) (by kernel_rfl)
 | true=>
  refine aW (x:=.tup [S "lent",.int 6]) (y:=.lst [.tup [S "own",W A.2],.tup [S "lent",.int 6],.tup [S "lent",.int 6]]) rfl (by show(e ρ).bind _=_;rw[he];rfl) ?_
  show(if lay (.tup [S "lent",.int 6])=true/\(List.all [D.tup [S "own",W A.2],.tup [S "lent",.int 6],.tup [S "lent",.int 6]] lay)=true/\dep (.tup [S "lent",.int 6])<=60 then R.ok (D.bl (List.any [D.tup [S "own",W A.2],.tup [S "lent",.int 6],.tup [S "lent",.int 6]] λy=>br y (.tup [S "lent",.int 6])))else .bad)=_
  have hl:(List.all [D.tup [S "own",W A.2],.tup [S "lent",.int 6],.tup [S "lent",.int 6]] lay)=true:=by
   have h1:lay (.tup [S "own",W A.2])=true:=by
    show(lay (S "own")&&(dW (A.2.map D.int)&&true))=true;rw[qX];kernel_rfl
   show(lay (.tup [S "own",W A.2])&&(lay (.tup [S "lent",.int 6])&&(lay (.tup [S "lent",.int 6])&&true)))=true;rw[h1];kernel_rfl
  rw[u9 ⟨by kernel_rfl,hl,WH (by kernel_rfl)⟩]
  kernel_rfl
theorem FN(hl:K.length<64)(hA:∀q∈K,q.pg.toD=dO A q.hp){r:En}(h6:r.length=6):∃ρ',aw [bb (aF 6) (j5 0 (bJ (jU (e2 av (aa 0) (eC (S "tasks")))) 1 [] (aF 0) [tV (e2 iU (cE [eC (S "lent"),eC (.int 6)]) (jw (e2 av (aa 0) (eC (S "pages")))))] (aa 0))),aR (tV (e2 jE (aa 6) (cC []))) (ly 0 (pX 0 (pN) (eC (S "lent")))) (bf)] (.on (.tr (sT K (aM v b)))::r)=.ok (.next ρ')/\ρ'[0]? =some (.on (.tr (sT K (aM v (b&&K.any Q.hp))))):=by
 obtain⟨r0,r1,r2,r3,r4,r5,rfl⟩:∃r0 r1 r2 r3 r4 r5,r=[r0,r1,r2,r3,r4,r5]:=by
  match r,h6 with
  |[r0,r1,r2,r3,r4,r5],_=>exact⟨_,_,_,_,_,_,rfl⟩
 have eh:j5 0 (bJ (jU (e2 av (aa 0) (eC (S "tasks")))) 1 [] (aF 0) [tV (e2 iU (cE [eC (S "lent"),eC (.int 6)]) (jw (e2 av (aa 0) (eC (S "pages")))))] (aa 0)) [.on (.tr (sT K (aM v b))),r0,r1,r2,r3,r4,r5]=.ok (jN (K.filter Q.hp).length):=by
  show((bJ _ _ _ _ _ _ (bK 0 (sT K (aM v b)) _)).bind λd=>match d with|.lst ds=>R.ok (jN ds.length)|_=>.bad)=_
  rw[m6];rw[fI (ds:=K.map Q.d) (ys:=(K.filter Q.hp).map Q.d) ?_ (by rw[Do];omega) ?_]
  ·show R.ok (jN ((K.filter Q.hp).map Q.d).length)=_
   rw[Do]
  ·show(e2 av (aa 0) (eC (S "tasks")) _).bind _=_
   rw[i7 rfl,R.aJ];exact u9 (by rw[l7,Do])
  ·refine jh (u:=Q.d) (p:=Q.hp) (v:=Q.d) λz hz=>⟨[.sh z.d],rfl,?_,λ_=>rfl⟩
   show(tV _ _).bind _=_;rw[bj (B1 A z.hp (aW rfl rfl (by rw[<-hA z hz];exact sI))),R.aJ]
   cases z.hp<;>rfl
 rw[aA (bQ eh)];show ∃ρ',aw _ [.on (.tr (sT K (aM v b))),r0,r1,r2,r3,r4,.sh (jN (K.filter Q.hp).length)]=_/\_
 have en:(e2 jE (aa 6) (cC [])) [.on (.tr (sT K (aM v b))),r0,r1,r2,r3,r4,.sh (jN (K.filter Q.hp).length)]=.ok (.bl (!K.any Q.hp)):=by
  refine aW (x:=jN (K.filter Q.hp).length) (y:=.lst []) rfl rfl ?_;show(if(⟨#[91]⟩:Str)=⟨#[91]⟩then R.ok (D.bl (List.replicate (K.filter Q.hp).length D.aj).isEmpty)else .bad)=_
  rw[u9 rfl];congr 2;cases h:K.any Q.hp with
  | true=>
   obtain⟨z,hz,hh⟩:=P3.mp h;have:0<(K.filter Q.hp).length:=Yn (V1.mpr ⟨hz,hh⟩);obtain⟨n,hn⟩:∃n,(K.filter Q.hp).length=n+1:=⟨_,(Nat.succ_pred_eq_of_pos this).symm⟩;rw[hn];rfl
  | false=>
   have:K.filter Q.hp=[]:=List.filter_eq_nil_iff.mpr λz hz hh=>by
    have:=P3.mpr ⟨z,hz,hh⟩;rw[h]at this;cases this
   rw[this];rfl
 cases h:K.any Q.hp with
 | true=>
  rw[h]at en;rw[aA (bY (bj en)),Bool.and_true];exact⟨_,rfl,rfl⟩
 | false=>
  rw[h]at en;rw[XR]
  have ec:∃ρ',ly 0 (pX 0 pN (eC (S "lent"))) [.on (.tr (sT K (aM v b))),r0,r1,r2,r3,r4,.sh (jN (K.filter Q.hp).length)]=.ok (.next ρ')/\ρ'[0]? =some (.on (.tr (sT K (aM v false)))):=by
   unfold ly;rw[gJ (p:=[]) (t:=sT K (aM v b)) (m:=1) rfl rfl rfl rfl (by kernel_rfl),R.aJ]
   cases b<;>exact⟨_,rfl,rfl⟩
  obtain⟨ρ',e,e0⟩:=ec;exact⟨ρ',by rw[aA (by rw[b7 (bj en)];exact e)];rfl,e0⟩
end
structure bh(A:Int×VH)(K:List Q):Prop where
 nd:Nd K
 rg:∀q∈K,1<=q.id/\q.id<=15
 pg:∀q∈K,q.pg.toD=dO A q.hp
 fn:∀q∈K,q.w.fin=true->q.hp=false
 nc:∀q∈K,(nice q.hn.toD=true/\bT q.hn.toD<=3)/\(nice q.sv.toD=true/\bT q.sv.toD<=3)/\q.gr.length=6
def PO(K:List Q):Prop:=∀q∈K,q.p=0\/(q.p≠q.id/\∃y∈K,y.id=q.p/\y.w.fin=false)
theorem zg:∀ {l K:VH},l.Nodup->(∀x∈l,x∈K)->l.length<=K.length
 |[],_,_,_=>Rf _
 | a::l,K,nd,h=>by
  have LF:=GM.mp nd;have ha:=h a v3;have:=zg (l:=l) (K:=K.erase a) LF.2 λx hx=>(List.mem_erase_of_ne (λ(z:x=a)=>LF.1 (z▸hx))).mpr (h x (rU _ hx));rw[List.length_erase_of_mem ha]at this;have:=Yn ha;rw[V6];omega
noncomputable def iG:VH:=[1,2,3,4,5,6,7,8,9,10,11,12,13,14,15]
theorem AG{i:Int}:i∈iG↔1<=i/\i<=15:=by
 unfold iG;simp only[AC,Mk,VZ];omega
section
variable{K:List Q}{l:T}{q x y:Q}{m:Nat}{ρ:En}{k c:Int}{x4 x5 x6:Option D}{A:Int×VH}{b:Bool}{v:D}{cs:VH}
theorem bh.len(h:bh A K):K.length<64:=by
 have:=zg (l:=K.map Q.id) (K:=iG) h.nd λi hi=>by
  obtain⟨q,hq,rfl⟩:=V5.mp hi;exact AG.mpr (h.rg q hq)
 rw[Do]at this;have:iG.length=15:=rfl;omega
def Gd(A:Int×VH)(x:Q):Prop:=(1<=x.id/\x.id<=15)/\x.pg.toD=dO A x.hp/\(x.w.fin=true->x.hp=false)/\(nice x.hn.toD=true/\bT x.hn.toD<=3)/\(nice x.sv.toD=true/\bT x.sv.toD<=3)/\x.gr.length=6
theorem bh.gd(h:bh A K)(hq:q∈K):Gd A q:=⟨h.rg q hq,h.pg q hq,h.fn q hq,h.nc q hq⟩
theorem bh.of(nd:Nd K)(h:∀q∈K,Gd A q):bh A K:=⟨nd,λq hq=>(h q hq).1,λq hq=>(h q hq).2.1,λq hq=>(h q hq).2.2.1,λq hq=>(h q hq).2.2.2⟩
theorem bh.put(h:bh A K)(hx:Gd A x):bh A (put K x):=.of h.nd.put λz hz=>by
 rcases pS hz with⟨rfl,_⟩|⟨hz,_⟩
 ·exact hx
 ·exact h.gd hz
theorem bh.rem(h:bh A K):bh A (rem K k):=.of h.nd.rem λz hz=>h.gd (gY.mp hz).1
theorem bh.JV(h:bh A K):bh A (bx cs K):=.of (oH h.nd) λz hz=>by
 obtain⟨y,hy,e⟩:=S4.mp hz;have:=h.gd hy;rcases(pB e).2 with rfl|rfl
 ·exact this
 ·exact this
theorem PO.put(h:PO K)(hq:q∈K)(e:q.id=x.id)(hp:x.p=q.p)(hw:x.w.fin=false):PO (put K x):=λz hz=>by
 have h0:z.p=0\/(z.p≠z.id/\∃y∈K,y.id=z.p/\y.w.fin=false):=by
  rcases pS hz with⟨rfl,_⟩|⟨hz,_⟩
  ·rw[hp, <-e];exact h q hq
  ·exact h z hz
 rcases h0 with h0|⟨h1,y,hy,e1,e2⟩
 ·exact .inl h0
 ·refine .inr ⟨h1,?_⟩
  by_cases c:y.id=x.id
  ·exact⟨x,mE hq e,by rw[<-c];exact e1,hw⟩
  ·exact⟨y,oT hy c,e1,e2⟩
theorem PO.rem(h:PO K)(hk:∀z∈K,z.p≠k\/k=0):PO (rem K k):=λz hz=>by
 obtain⟨hz,C'⟩:=gY.mp hz;rcases h z hz with h0|⟨h1,y,hy,e1,e2⟩
 ·exact .inl h0
 ·by_cases h0:z.p=0
  ·exact .inl h0
  ·refine .inr ⟨h1,y,gY.mpr ⟨hy,λe=>?_⟩,e1,e2⟩
   rcases hk z hz with h3|h3
   ·exact h3 (e1.symm.trans e)
   ·exact h0 (e1.symm.trans (e.trans h3))
theorem Ja(hq:q∈K)(nd:Nd K)(e:q.id=x.id)(hh:x.hp=q.hp):(dn.put K x).any Q.hp=K.any Q.hp:=by
 rw[any_put,Wk,P3,P3];constructor
 ·rintro⟨z,hz,h⟩
  split at h
  ·exact⟨q,hq,by rw[<-hh];exact h⟩
  ·exact⟨z,hz,h⟩
 ·rintro⟨z,hz,h⟩
  refine⟨z,hz,?_⟩;split
  ·rename_i e2
   rw[hh, <-gf nd hz hq (e2.trans e.symm)];exact h
  ·exact h
theorem KC(hk:∀z∈K,z.id=k->z.hp=false):(rem K k).any Q.hp=K.any Q.hp:=by
 rw[Wk,P3,P3];constructor
 ·rintro⟨z,hz,h⟩;exact⟨z,(gY.mp hz).1,h⟩
 ·rintro⟨z,hz,h⟩;exact⟨z,gY.mpr ⟨hz,λe=>by rw[hk z hz e]at h;cases h⟩,h⟩
theorem JM(hf:∀z∈K,z.w.fin=true->z.hp=false):(bx cs K).any Q.hp=K.any Q.hp:=by
 rw[Wk,P3,P3];constructor
 ·rintro⟨z,hz,h⟩
  obtain⟨y,hy,e⟩:=S4.mp hz;rcases(pB e).2 with rfl|rfl
  ·exact⟨_,hy,h⟩
  ·exact⟨_,hy,h⟩
 ·rintro⟨z,hz,h⟩
  have hw:z.w.fin=false:=by
   cases hw:z.w.fin with
   |false=>rfl
   |true=>rw[hf z hz hw]at h;cases h
  by_cases hc:z.id∈cs
  ·exact⟨{z with p:=0},S4.mpr ⟨z,hz,by unfold gR;rw[u9 hc,Da (by rw[hw];decide)]⟩,h⟩
  ·exact⟨z,mZ hz hc,h⟩
theorem Gd.fin(h:Gd A q):Gd A (q.fin c):=⟨h.1,rfl,λ_=>rfl,⟨rfl,IR rfl⟩,⟨rfl,Rf _⟩,h.2.2.2.2.2⟩
noncomputable def K3(K:List Q)(q:Q)(c:Int):List Q:=bx (aQ (put K (q.fin c)) q.id) (put K (q.fin c))
theorem Aa(h:bh A K)(hq:q∈K):bh A (K3 K q c):=(h.put (h.gd hq).fin).JV
theorem yn(h:bh A K)(hq:q∈K)(hP:q.p≠q.id):∀z∈K3 K q c,z.p≠q.id:=λz hz e=>by
 obtain⟨y,hy,e1⟩:=S4.mp hz;unfold gR at e1;split at e1
 ·split at e1
  ·cases e1
  ·cases e1;have:=(h.rg q hq).1;have e:(0:Int)=q.id:=e;omega
 ·rename_i hc
  cases e1;exact hc (kh.mpr ⟨_,hy,e,rfl⟩)
theorem BJ(h:bh A K)(hp:PO K)(hq:q∈K)(hP:q.p≠q.id):PO (K3 K q c):=λz hz=>by
 have T':=yn h hq hP z hz;obtain⟨y,hy,e1⟩:=S4.mp hz;rcases(pB e1).2 with rfl|rfl
 ·have h0:z.p=0\/(z.p≠z.id/\∃y∈K,y.id=z.p/\y.w.fin=false):=by
   rcases pS hy with⟨rfl,_⟩|⟨hy,_⟩
   ·exact hp q hq
   ·exact hp _ hy
  rcases h0 with h0|⟨h1,y,hy,e1,e2⟩
  ·exact .inl h0
  ·obtain⟨w,hw,we,ww⟩:=wu (cs:=aQ (put K (q.fin c)) q.id) (oT (x:=q.fin c) hy (by show y.id≠q.id;rw[e1];exact T')) e2
   exact .inr ⟨h1,w,hw,we.trans e1,by rw[ww];exact e2⟩
 ·exact .inl rfl
theorem Be:dY K q c=if q.p=0 then rem (K3 K q c) q.id else if(cD (K3 K q c) q.p).w.kF=true then put (rem (K3 K q c) q.id) {cD (K3 K q c) q.p with g0:=q.id,g1:=c,w:=.bN} else K3 K q c:=rfl
theorem ve(h:bh A K)(hp:PO K)(hq:q∈K):q.p≠q.id:=by
 rcases hp q hq with h0|h0
 ·have:=(h.rg q hq).1;omega
 ·exact h0.1
theorem AA(h:bh A K)(hp:PO K)(hq:q∈K)(h0:q.p≠0):∃y∈K3 K q c,y.id=q.p:=by
 obtain⟨h1,y,hy,e1,e2⟩:=(hp q hq).resolve_left h0;obtain⟨w,hw,we,ww⟩:=wu (cs:=aQ (put K (q.fin c)) q.id) (oT (x:=q.fin c) hy (by show y.id≠q.id;rw[e1];exact h1)) e2
 exact⟨w,hw,we.trans e1⟩
theorem Ad(h:bh A K)(hp:PO K)(hq:q∈K):bh A (dY K q c)/\PO (dY K q c)/\(dY K q c).any Q.hp=(put K (q.fin c)).any Q.hp:=by
 have hP:=ve h hp hq;have h3:=Aa (c:=c) h hq;have p3:=BJ (c:=c) h hp hq hP;have pp:=yn (c:=c) h hq hP;have a3:(K3 K q c).any Q.hp=(put K (q.fin c)).any Q.hp:=JM (h.put (h.gd hq).fin).fn;have hm:q.fin c∈K3 K q c:=sX h.nd hq hP;have ar:(rem (K3 K q c) q.id).any Q.hp=(put K (q.fin c)).any Q.hp:=(KC λz hz e=>by rw[gf h3.nd hz hm e];rfl).trans a3
 have pr:PO (rem (K3 K q c) q.id):=p3.rem λz hz=>.inl (pp z hz);rw[Be];by_cases h0:q.p=0
 ·rw[u9 h0];exact⟨h3.rem,pr,ar⟩
 ·rw[Da h0]
  obtain⟨y,hy,ye⟩:=AA (c:=c) h hp hq h0;rw[<-ye,dI h3.nd hy];by_cases hc:y.w.kF=true
  ·rw[u9 hc]
   have N5:y∈rem (K3 K q c) q.id:=gY.mpr ⟨hy,by rw[ye];exact hP⟩
   have gy:=h3.gd hy;have gx:Gd A {y with g0:=q.id,g1:=c,w:=.bN}:=⟨gy.1,gy.2.1,(λe=>nomatch e),gy.2.2.2⟩
   exact⟨h3.rem.put gx,pr.put N5 rfl rfl rfl,(Ja (K:=rem (K3 K q c) q.id) (q:=y) (x:={y with g0:=q.id,g1:=c,w:=.bN}) N5 h3.nd.rem rfl rfl).trans ar⟩
  ·rw[Da hc];exact⟨h3,p3,a3⟩
theorem iF{c:aY}{a b:Sm}{ρ:En}(h:c ρ=.ok false):aR c a b ρ=b ρ:=by simp[h]
theorem w9{f:Pt}{e:Ex}{a:Int}(nd:Nd K)(hi:ρ[0]? =some (.on (.tr (sT (dn.put K x) l))))(he:e ρ=.ok (.int a))(hf:f ρ=.ok [0,m])(hm:K[m]? =some q)(ex:q.id=x.id)(hd:∀s∈ρ,eQ 2 s):
  cZ 0 (pX 0 f (eC (S "regs"))) (eC (.int 0)) e ρ=.ok (.next (ρ.set 0 (.on (.tr (sT (dn.put K {x with g0:=a}) l))))):=by
 rw[lY nd.put hi he hf (l8 nd hm ex) hd,lp (x:=x) (y:={x with g0:=a}) rfl]
theorem GX{f:Pt}{e:Ex}{a:Int}(nd:Nd K)(hi:ρ[0]? =some (.on (.tr (sT (dn.put K x) l))))(he:e ρ=.ok (.int a))(hf:f ρ=.ok [0,m])(hm:K[m]? =some q)(ex:q.id=x.id)(hd:∀s∈ρ,eQ 2 s):
  cZ 0 (pX 0 f (eC (S "regs"))) (eC (.int 1)) e ρ=.ok (.next (ρ.set 0 (.on (.tr (sT (dn.put K {x with g1:=a}) l))))):=by
 rw[GY nd.put hi he hf (l8 nd hm ex) hd,lp (x:=x) (y:={x with g1:=a}) rfl]
theorem wc{e:Ex}(nd:Nd K)(hi:ρ[0]? =some (.on (.tr (sT (dn.put K x) l))))(he:e ρ=.ok (.int x.id))(hm:K[m]? =some q)(ex:q.id=x.id):(pX 0 (pX 0 pN (eC (S "tasks"))) e) ρ=.ok [0,m]:=pT hi he (sF nd.put (l8 nd hm ex))
noncomputable def eP(K:List Q)(l:T)(k c:Int)(x4:Option D)(p:Int):En:=[.on (.tr (sT K l)),.sh (.int k),.sh (.int c),.un,aT x4,.sh (.int p),.un]
theorem vM{p:Int}:∀s∈eP K l k c x4 p,eQ 2 s:=by
 unfold eP;simp only[Wd];exact⟨lB,fV,fV,qT,md,fV,qT,λ_ h=>nomatch h⟩
theorem C8{i:Nat}{p:List Nat}{x:Option D}:eK i p (aT x)=aT x:=by cases x<;>rfl
theorem Kr(h:bh A K)(hp:PO K)(hq:q∈K):mS (sT K (aM v b)) [.int q.id,.int c]=.ok (.aj,sT (dY K q c) (aM v (b&&(dY K q c).any Q.hp))):=by
 have hP:=ve h hp hq;obtain⟨m,km,gm⟩:=gU h.nd hq;rw[mS]
 suffices H:∃ρ',aw [kU 3 0 (pX 0 (pX 0 (pN) (eC (S "tasks"))) (aa 1)),bP 0 (pA 0 3) (eC (S "pages")) (dj [] []),bP 0 (pA 0 3) (eC (S "handles")) (dj [] []),bP 0 (pA 0 3) (eC (S "rung")) (eC (.bl false)),bP 0 (pA 0 3) (eC (S "saved")) (eC .aj),bP 0 (pA 0 3) (eC (S "waits")) (cE [eC (S "ended"),aa 2]),fL (dy (cS 0 (aG eG [aa 0,aa 1]))) (aF 4) i3,bb (aF 5) (lC 0 (e2 av (aa 3) (eC (S "parent")))),aR (tV (e2 oEq (aa 5) (eC (.int 0)))) (ic 0 (pX 0 (pN) (eC (S "tasks"))) (aa 1)) (aR (gp 0 (tV (e2 oEq (e2 av (e2 av (e2 av (aa 0) (eC (S "tasks"))) (aa 5)) (eC (S "waits"))) (cE [eC (S "child")])))) (aw [ic 0 (pX 0 (pN) (eC (S "tasks"))) (aa 1),bP 0 (pX 0 (pX 0 (pN) (eC (S "tasks"))) (aa 5)) (eC (S "waits")) (eC .aj),cZ 0 (pX 0 (pX 0 (pX 0 (pN) (eC (S "tasks"))) (aa 5)) (eC (S "regs"))) (eC (.int 0)) (aa 1),cZ 0 (pX 0 (pX 0 (pX 0 (pN) (eC (S "tasks"))) (aa 5)) (eC (S "regs"))) (eC (.int 1)) (aa 2)]) (bf)),bb (aF 6) (j5 0 (bJ (jU (e2 av (aa 0) (eC (S "tasks")))) 1 [] (aF 0) [tV (e2 iU (cE [eC (S "lent"),eC (.int 6)]) (jw (e2 av (aa 0) (eC (S "pages")))))] (aa 0))),aR (tV (e2 jE (aa 6) (cC []))) (ly 0 (pX 0 (pN) (eC (S "lent")))) (bf)] [.on (.tr (sT K (aM v b))),.sh (.int q.id),.sh (.int c),.un,.un,.un,.un]=.ok (.next ρ')/\ρ'[0]? =some (.on (.tr (sT (dY K q c) (aM v (b&&(dY K q c).any Q.hp))))) by
  obtain⟨ρ',e,e0⟩:=H;exact kx e e0
 rw[aA (zB (pT rfl rfl km) rfl (jx (p:=[]) gm) ⟨rfl,by decide⟩)]
 have e0:[.on (.tr (sT K (aM v b))),.sh (.int q.id),.sh (.int c),.un,.un,.un,.un].set 3 (.on (.al 0 [0,m]))=eE (put K q) (aM v b) q.id c m none none none:=by rw[Dc h.nd hq];rfl
 rw[e0];rw[aA (step (x:=q) (y:=q.dQ) (d:=.ai [] []) h.nd gm rfl rfl rfl (by kernel_rfl))]
 rw[aA (step (x:=q.dQ) (y:={q.dQ with hn:=.d (.ai [] [])}) (d:=.ai [] []) h.nd gm rfl rfl rfl (by kernel_rfl))]
 rw[aA (step (x:={q.dQ with hn:=.d (.ai [] [])}) (y:={q.dQ with hn:=.d (.ai [] []),u:=false}) (d:=.bl false) h.nd gm rfl rfl rfl (by kernel_rfl))]
 rw[aA (step (x:={q.dQ with hn:=.d (.ai [] []),u:=false}) (y:={q.dQ with hn:=.d (.ai [] []),u:=false,sv:=.d .aj}) (d:=.aj) h.nd gm rfl rfl rfl (by kernel_rfl))]
 rw[aA (step (x:={q.dQ with hn:=.d (.ai [] []),u:=false,sv:=.d .aj}) (y:=q.fin c) (d:=.tup [S "ended",.int c]) h.nd gm rfl rfl rfl (by kernel_rfl))]
 have h2:=h.put (h.gd hq).fin (x:=q.fin c);obtain⟨m',Nc,eL,Q4⟩:=DX (l:=aM v b) (c:=c) (q:=q.fin c) h2.nd h2.len (l8 h.nd gm rfl) hP;have eL:fL (dy (cS 0 (aG eG [aa 0,aa 1]))) (aF 4) i3 (eE (put K (q.fin c)) (aM v b) q.id c m none none none)=.ok (.next (eE (K3 K q c) (aM v b) q.id c m' Nc none none)):=eL;have Q4:(K3 K q c)[m']? =some (q.fin c):=Q4;rw[aA eL];have h3:=Aa (c:=c) h hq;have hE:=Ad (c:=c) h hp hq
 rw[aA (bQ (d:=.int q.p) (by
  show((e2 av (aa 3) (eC (S "parent"))) (bK 0 (sT (K3 K q c) (aM v b)) (eE (K3 K q c) (aM v b) q.id c m' Nc none none))).bind (λd=>if gc d=true then R.ok d else .bad)=_
  rw[rK Q4,aW (o:=av) rfl rfl (qH (q:=q.fin c)),R.aJ];rfl))]
 show ∃ρ',aw _ (eE (K3 K q c) (aM v b) q.id c m' Nc (some (.int q.p)) none)=_/\_
 suffices H:∃r:En,r.length=6/\aR (tV (e2 oEq (aa 5) (eC (.int 0)))) (ic 0 (pX 0 (pN) (eC (S "tasks"))) (aa 1)) (aR (gp 0 (tV (e2 oEq (e2 av (e2 av (e2 av (aa 0) (eC (S "tasks"))) (aa 5)) (eC (S "waits"))) (cE [eC (S "child")])))) (aw [ic 0 (pX 0 (pN) (eC (S "tasks"))) (aa 1),bP 0 (pX 0 (pX 0 (pN) (eC (S "tasks"))) (aa 5)) (eC (S "waits")) (eC .aj),cZ 0 (pX 0 (pX 0 (pX 0 (pN) (eC (S "tasks"))) (aa 5)) (eC (S "regs"))) (eC (.int 0)) (aa 1),cZ 0 (pX 0 (pX 0 (pX 0 (pN) (eC (S "tasks"))) (aa 5)) (eC (S "regs"))) (eC (.int 1)) (aa 2)]) (bf)) (eE (K3 K q c) (aM v b) q.id c m' Nc (some (.int q.p)) none)=.ok (.next (.on (.tr (sT (dY K q c) (aM v b)))::r)) by
  obtain⟨r,hr,e⟩:=H;rw[aA e];exact FN hE.1.len hE.1.pg hr
 have hm:q.fin c∈K3 K q c:=sX h.nd hq hP
 have Pb:ic 0 (pX 0 (pN) (eC (S "tasks"))) (aa 1) (eE (K3 K q c) (aM v b) q.id c m' Nc (some (.int q.p)) none)=.ok (.next (eP (rem (K3 K q c) q.id) (aM v b) q.id c Nc q.p)):=by
  rw[DK (q:=q.fin c) h3.nd rfl rfl hm];show R.ok (Fl.next [.on (.tr (sT (rem (K3 K q c) q.id) (aM v b))),.sh (.int q.id),.sh (.int c),.un,eK 0 [0] (aT Nc),.sh (.int q.p),.un])=_;rw[C8];rfl
 rw[Be];by_cases h0:q.p=0
 ·rw[u9 h0]
  exact⟨_,rfl,by rw[b7 (bj (b:=true) (by rw[fX (i:=q.p) (u:=0) rfl rfl,GT h0])),Pb];rfl⟩
 ·rw[Da h0,iF (bj (by rw[fX (i:=q.p) (u:=0) rfl rfl,JU h0]))]
  obtain⟨y,hy,ye⟩:=AA (c:=c) h hp hq h0;rw[<-ye,dI h3.nd hy]
  have et:gp 0 (tV (e2 oEq (e2 av (e2 av (e2 av (aa 0) (eC (S "tasks"))) (aa 5)) (eC (S "waits"))) (cE [eC (S "child")]))) (eE (K3 K q c) (aM v b) q.id c m' Nc (some (.int y.id)) none)=.ok y.w.kF:=by
   show tV _ (bK 0 (sT (K3 K q c) (aM v b)) (eE (K3 K q c) (aM v b) q.id c m' Nc (some (.int y.id)) none))=_;rw[rK Q4];exact bj (aW (o:=oEq) (aW (o:=av) (fi (q:=y) rfl rfl h3.nd hy) rfl j7) (y:=.tup [S "child"]) rfl (yc y.w))
  cases hc:y.w.kF with
  | true=>
   rw[hc]at et;rw[b7 et,u9 rfl];rw[<-ye]at Pb;have N5:y∈rem (K3 K q c) q.id:=gY.mpr ⟨hy,by rw[ye];exact hP⟩
   have O0:Nd (rem (K3 K q c) q.id):=h3.nd.rem;obtain⟨n,kn,gn⟩:=gU O0 N5;rw[aA Pb];generalize rem (K3 K q c) q.id=K4 at O0 kn gn ⊢;rw[aA (nH (q:=y) (x:={y with w:=.bN}) (d:=.aj) O0 rfl rfl (pT rfl rfl kn) gn rfl (by kernel_rfl) vM)]
   show ∃r:En,r.length=6/\aw _ (eP (put K4 {y with w:=.bN}) (aM v b) q.id c Nc y.id)=_;rw[aA (w9 (x:={y with w:=.bN}) (a:=q.id) O0 rfl rfl (wc (x:={y with w:=.bN}) O0 rfl rfl gn rfl) gn rfl vM)];show ∃r:En,r.length=6/\aw _ (eP (put K4 {y with w:=.bN,g0:=q.id}) (aM v b) q.id c Nc y.id)=_;rw[aA (GX (x:={y with w:=.bN,g0:=q.id}) (a:=c) O0 rfl rfl (wc (x:={y with w:=.bN,g0:=q.id}) O0 rfl rfl gn rfl) gn rfl vM)];exact⟨_,rfl,rfl⟩
  | false=>
   rw[hc]at et;rw[bY et,Da (by decide)]
   exact⟨_,rfl,rfl⟩
noncomputable def fr(K:List Q):Option Int:=iG.find? λi=> !K.any λq=>decide (q.id=i)
variable{L:D}{a:Int}
theorem DL{i:Int}{z:Q}(hz:z∈K)(e:z.id=i):(K.any λq=>decide (q.id=i))=true:=P3.mpr ⟨z,hz,GT e⟩
theorem zK{i:Int}{f:Q->D}:∀ {K:List Q},(bS (.inl i) (keys K) (K.map f)).isSome=K.any λq=>decide (q.id=i)
 |[]=>rfl
 | w::K=>by
  show(if(Sum.inl w.id:Ky)=.inl i then some (f w)else bS (.inl i) (keys K) (K.map f)).isSome=(decide (w.id=i)||K.any λq=>decide (q.id=i))
  by_cases c:w.id=i
  ·rw[u9 (by rw[c]),GT c];rfl
  ·rw[Da (λz=>c (by injection z)),JU c,zK];rfl
theorem Au{i:Int}{f:Q->D}:gB (.int i) (.ai (keys K) (K.map f))=.ok (.bl (!K.any λq=>decide (q.id=i))):=by
 have:dM (.int i) (.ai (keys K) (K.map f))=.ok (.bl (K.any λq=>decide (q.id=i))):=by
  show R.ok (D.bl (bS (.inl i) (keys K) (K.map f)).isSome)=_;rw[zK]
 show(dM _ _).bind Az=_;rw[this];rfl
theorem AI:d6 1 16=iG.map .int:=by kernel_rfl
theorem z9{t0 t1 t2:D}(h0:t0=.ai (keys K) (K.map Q.d)):∀(is:VH) (s:Slot),(∃i,is.find? (λi=> !K.any λq=>decide (q.id=i))=some i/\forL (aF 3) gA (is.map .int) [.sh t0,.sh t1,.sh t2,s]=.ok (.ret (.int i)))\/(is.find? (λi=> !K.any λq=>decide (q.id=i))=none/\∃s',forL (aF 3) gA (is.map .int) [.sh t0,.sh t1,.sh t2,s]=.ok (.next [.sh t0,.sh t1,.sh t2,s']))
 |[],s=>.inr ⟨rfl,s,rfl⟩
 | i::is,s=>by
  have e:gA [.sh t0,.sh t1,.sh t2,.sh (.int i)]=if(!K.any λq=>decide (q.id=i))=true then .ok (.ret (.int i))else .ok (.next [.sh t0,.sh t1,.sh t2,.sh (.int i)]):=by
   rw[gA];have et:(tV (e2 gB (aa 3) (aa 0))) [.sh t0,.sh t1,.sh t2,.sh (.int i)]=.ok (!K.any λq=>decide (q.id=i)):=bj (aW (o:=gB) rfl rfl (by rw[h0];exact Au))
   cases hb:(!K.any λq=>decide (q.id=i))with
   |true=>rw[hb]at et;rw[b7 et,u9 rfl];rfl
   |false=>rw[hb]at et;rw[bY et,Da (by decide)]
  have ef:forL (aF 3) gA ((i::is).map .int) [.sh t0,.sh t1,.sh t2,s]=(gA [.sh t0,.sh t1,.sh t2,.sh (.int i)]).bind λf=>match f with|.next LZ=>forL (aF 3) gA (is.map .int) LZ|.cont LZ=>forL (aF 3) gA (is.map .int) LZ|.brk LZ=>.ok (.next LZ)|.ret d=>.ok (.ret d)|.fj d=>.ok (.fj d)|.dB t=>.ok (.dB t)|.gZ i ρ=>.ok (.gZ i ρ)|.dJ d ρ=>.ok (.dJ d ρ):=rfl
  rw[ef,e,V2];cases hb:(!K.any λq=>decide (q.id=i))with
  |true=>exact .inl ⟨i,rfl,rfl⟩
  |false=>exact z9 h0 is _
theorem Gs:nB [.ai (keys K) (K.map Q.d),.int 1,.int 15]=.ok (match fr K with|some i=>.int i|none=>.aj):=by
 rw[nB];refine ck ?_;show aw _ [.sh (.ai (keys K) (K.map Q.d)),.sh (.int 1),.sh (.int 15),.un]=_
 have hit:iW (aa 1) (e2 gL (aa 2) (eC (.int 1))) [.sh (.ai (keys K) (K.map Q.d)),.sh (.int 1),.sh (.int 15),.un]=.ok (iG.map .int):=by
  rw[<-AI];exact sC (I:=1) (L:=16) rfl (by kernel_rfl) (by decide) (by decide)
 rcases z9 (K:=K) (t1:=.int 1) (t2:=.int 15) rfl iG .un with⟨i,hf,e⟩|⟨hf,s',e⟩
 ·have hf:fr K=some i:=hf
  rw[hf];exact bB (gT hit e)
 ·have hf:fr K=none:=hf
  rw[hf,aA (gT hit e)];rfl
theorem Bt:∀(is:VH) (s:Slot),(∃i,is.find? (λi=> !K.any λq=>decide (q.id=i))=some i/\forL (aF 1) gP (is.map .int) [.sh (sD K L),s]=.ok (.ret (.int i)))\/(is.find? (λi=> !K.any λq=>decide (q.id=i))=none/\∃s',forL (aF 1) gP (is.map .int) [.sh (sD K L),s]=.ok (.next [.sh (sD K L),s']))
 |[],s=>.inr ⟨rfl,s,rfl⟩
 | i::is,s=>by
  have e:gP [.sh (sD K L),.sh (.int i)]=if(!K.any λq=>decide (q.id=i))=true then .ok (.ret (.int i))else .ok (.next [.sh (sD K L),.sh (.int i)]):=by
   rw[gP];have et:(tV (e2 gB (aa 1) (e2 av (aa 0) (eC (S "tasks"))))) [.sh (sD K L),.sh (.int i)]=.ok (!K.any λq=>decide (q.id=i)):=bj (aW (o:=gB) rfl (i7 rfl) Au);cases hb:(!K.any λq=>decide (q.id=i))with
   |true=>rw[hb]at et;rw[b7 et,u9 rfl];rfl
   |false=>rw[hb]at et;rw[bY et,Da (by decide)]
  have ef:forL (aF 1) gP ((i::is).map .int) [.sh (sD K L),s]=(gP [.sh (sD K L),.sh (.int i)]).bind λf=>match f with|.next LZ=>forL (aF 1) gP (is.map .int) LZ|.cont LZ=>forL (aF 1) gP (is.map .int) LZ|.brk LZ=>.ok (.next LZ)|.ret d=>.ok (.ret d)|.fj d=>.ok (.fj d)|.dB t=>.ok (.dB t)|.gZ i ρ=>.ok (.gZ i ρ)|.dJ d ρ=>.ok (.dJ d ρ):=rfl
  rw[ef,e,V2];cases hb:(!K.any λq=>decide (q.id=i))with
  |true=>exact .inl ⟨i,rfl,rfl⟩
  |false=>exact Bt is _
theorem FO:jR [sD K L]=.ok (.int ((fr K).getD 0)):=by
 rw[jR];refine ck ?_;show aw _ [.sh (sD K L),.un]=_
 have hit:iW (eC (.int 1)) (eC (.int 16)) [.sh (sD K L),.un]=.ok (iG.map .int):=by
  rw[<-AI];exact sC rfl rfl (by decide) (by decide)
 rcases Bt (K:=K) (L:=L) iG .un with⟨i,hf,e⟩|⟨hf,s',e⟩
 ·have hf:fr K=some i:=hf
  rw[hf];exact bB (gT hit e)
 ·have hf:fr K=none:=hf
  rw[hf,aA (gT hit e)];rfl
theorem ub{f:Int}(h:fr K=some f):(1<=f/\f<=15)/\∀z∈K,z.id≠f:=by
 refine⟨AG.mp (X6 h),λz hz e=>?_⟩;have h1:=YV h;rw[DL hz e]at h1;cases h1
noncomputable def cQ(q:Q)(f:Int):Q:={q with id:=f,p:=q.id,u:=false,g0:=0,pg:=aS q.pg.toD,hn:=aS q.hn.toD,sv:=aS q.sv.toD}
noncomputable def iR(K:List Q)(q:Q):List Q:=match fr K with
 |some f=>put (K++[cQ q f]) {q with g0:=f}
 |none=>put K {q with g0:=4294967294}
theorem rl(hw:q.w=.bN):({q with g0:=a,w:=.bN}:Q)={q with g0:=a}:=by rw[<-hw]
theorem qe{f:Int}(nd:Nd K)(h:∀z∈K,z.id≠x.id):Nd (K++[x]):=by
 unfold Nd;rw[S3,M0];refine⟨nd,by simp,λa ha b hb=>?_⟩
 obtain⟨z,hz,rfl⟩:=V5.mp ha;rw[show b=x.id by simpa using hb]
 exact h z hz
theorem Je(h:∀z∈K,z.id≠x.id)(e:y.id=x.id):put (K++[y]) x=K++[x]:=by
 unfold put;rw[S3];congr 1
 ·refine(VU λz hz=>?_).trans (Xj K)
  rw[Da (h z hz)];rfl
 ·show [if y.id=x.id then x else y]=_
  rw[u9 e]
theorem GP(hl:K.length<900)(h:∀z∈K,z.id≠x.id):dC [.ai (keys K) (K.map Q.d),.ai [.inl x.id] [x.d]]=.ok (.ai (keys (K++[x])) ((K++[x]).map Q.d)):=by
 rw[dC];refine ck ?_;show aw _ [.sh (.ai (keys K) (K.map Q.d)),.sh (.ai [.inl x.id] [x.d]),.un]=_;rw[aA (ρ':=[.sh (.ai (keys K) (K.map Q.d)),.sh (.ai [.inl x.id] [x.d]),.od (keys K) (K.map Q.d)]) rfl]
 rw[aA (ρ':=[.sh (.ai (keys K) (K.map Q.d)),.sh (.ai [.inl x.id] [x.d]),.od (keys (K++[x])) ((K++[x]).map Q.d)]) (by
  show(if [(Sum.inl x.id:Ky)].length+(keys K).length<1000 then R.ok (Fl.next [.sh (.ai (keys K) (K.map Q.d)),.sh (.ai [.inl x.id] [x.d]),.od (putL (.inl x.id) x.d (keys K) (K.map Q.d)).1 (putL (.inl x.id) x.d (keys K) (K.map Q.d)).2])else .bad)=_
  rw[u9 (by rw[l7];show 1+K.length<1000;omega),putL_new h])]
 rfl
theorem IM{L:D}(nd:Nd K)(hq:q∈K)(hp:q.pg.toD=dO A q.hp):eX (cG lR [aa 0,aa 1]) (.sh (sD K L)::.sh (.int q.id)::ρ)=.ok q.pg.toD:=by
 have e:lR [sD K L,.int q.id]=.ok (match dO A q.hp with|.ai ks vs=>.m ks (vs.map .d)|_=>.d .aj):=by
  rw[lR];refine u5 (qc ?_);unfold xM;rw[d4 (o:=kN) (x:=dO A q.hp) (d:=dO A q.hp) (by rw[<-hp];exact aW (fi rfl rfl nd hq) rfl sI) (by cases q.hp<;>rfl),R.aJ]
  cases q.hp<;>rfl
 rw[yW (t:=match dO A q.hp with|.ai ks vs=>.m ks (vs.map .d)|_=>.d .aj) (by unfold cG;simp only[eList,aa,Yg,WE,R.aJ];exact e),hp]
 cases q.hp<;>rfl
theorem KJ(h:bh A K)(hq:q∈K)(hw:q.w=.bN):jB [sD K L,.int q.id,.int a,.int 1]=.ok (sD (iR K q) L):=by
 have nd:=h.nd;have hl:=h.len;rw[jB];refine ck ?_;show aw _ [.sh (sD K L),.sh (.int q.id),.sh (.int a),.sh (.int 1),.un,.un,.un]=_;rw[aA (bQ (dN (i7 rfl) rfl rfl Gs))];show aw _ [.sh (sD K L),.sh (.int q.id),.sh (.int a),.sh (.int 1),.sh (match fr K with|some i=>.int i|none=>.aj),.un,.un]=_
 unfold iR;cases hf:fr K with
 | none=>
  refine bB ?_;rw[b7 rfl];refine bW (dN rfl rfl rfl ?_);show cx [sD K L,.int q.id,.int 4294967294,.aj]=_;rw[lT nd (by omega) hq,rl hw]
 | some f=>
  obtain⟨f1,fn⟩:=ub hf;show aw _ [.sh (sD K L),.sh (.int q.id),.sh (.int a),.sh (.int 1),.sh (.int f),.un,.un]=_;rw[aA (bY rfl)]
  rw[aA (bQ (d:=.ai [.inr (Str.ofString "parent"),.inr (Str.ofString "rung"),.inr (Str.ofString "pages")] [.int q.id,.bl false,q.pg.toD]) (by
   simp only[dj,eList,IM (A:=A) nd hq (h.pg q hq),R.aJ,aa,eC,Yg,WE]))]
  show aw _ [.sh (sD K L),.sh (.int q.id),.sh (.int a),.sh (.int 1),.sh (.int f),.sh (.ai [.inr (Str.ofString "parent"),.inr (Str.ofString "rung"),.inr (Str.ofString "pages")] [.int q.id,.bl false,q.pg.toD]),.un]=_;have ec:dC [q.d,.ai [.inr (Str.ofString "parent"),.inr (Str.ofString "rung"),.inr (Str.ofString "pages")] [.int q.id,.bl false,q.pg.toD]]=.ok ({q with id:=f,p:=q.id,u:=false}:Q).d:=by kernel_rfl
  rw[aA (bQ (cy (i7 rfl) (y:=.ai [.inl f] [({q with id:=f,p:=q.id,u:=false}:Q).d]) (by
   unfold tH;rw[cy (fi rfl rfl nd hq) rfl ec];rfl) (GP (x:={q with id:=f,p:=q.id,u:=false}) (by omega) fn)))]
  refine bB (bW ?_);have Pq:Nd (K++[{q with id:=f,p:=q.id,u:=false}]):=qe (f:=f) nd fn
  have e1:cx [sD (K++[{q with id:=f,p:=q.id,u:=false}]) L,.int f,.int 0,.aj]=.ok (sD (K++[cQ q f]) L):=by
   have:=lT (l:=L) (q:={q with id:=f,p:=q.id,u:=false}) (a:=0) Pq (by rw[JK];simp;omega) (FB _ (SC.mpr rfl))
   refine this.trans ?_;show R.ok (sD (put (K++[{q with id:=f,p:=q.id,u:=false}]) {q with id:=f,p:=q.id,u:=false,g0:=0,w:=.bN}) L)=_;rw[Je (y:={q with id:=f,p:=q.id,u:=false}) (x:={q with id:=f,p:=q.id,u:=false,g0:=0,w:=.bN}) fn rfl];unfold sD keys;rw[S3,S3,S3,S3]
   have ed:Q.d {q with id:=f,p:=q.id,u:=false,g0:=0,w:=.bN}=Q.d (cQ q f):=by
    show D.ai TK [.int q.id,.int q.r,.lst ((0::q.g1::q.gr).map .int),.int q.ro,q.pg.toD,q.hn.toD,.aj,.int q.hr,.bl false,q.sv.toD]=D.ai TK [.int q.id,.int q.r,.lst ((0::q.g1::q.gr).map .int),.int q.ro,(aS q.pg.toD).toD,(aS q.hn.toD).toD,q.w.d,.int q.hr,.bl false,(aS q.sv.toD).toD];rw[iP,iP,iP,hw];rfl
   show R.ok (D.ai SK [.ai (K.map (λq=>.inl q.id)++[.inl f]) (K.map Q.d++[Q.d {q with id:=f,p:=q.id,u:=false,g0:=0,w:=.bN}]),L,N0,.ai [] [],.int 0])=_;rw[ed];rfl
  have LF:Nd (K++[cQ q f]):=qe (f:=f) nd fn;refine dN (dN (cy rfl rfl uU) rfl rfl e1) rfl rfl ?_;show cx [sD (K++[cQ q f]) L,.int q.id,.int f,.aj]=_;rw[lT LF (by rw[JK];simp;omega) (KB _ hq),rl hw]
noncomputable def gone(K:List Q)(k:Int):VH:=(aQ K k).filter λi=>(cD K i).w.fin
noncomputable def Wt.code:Wt->Int
 |.over c=>c
 |_=>0
noncomputable def iB(K:List Q)(q:Q):List Q:=match gone K q.id with
 |e::_=>put (rem K e) {q with g0:=e,g1:=(cD K e).w.code}
 |[]=>if(aQ K q.id).isEmpty=true then put K {q with g0:=4294967292} else put K {q with w:=.kf}
theorem su{i:Int}{r:VH}(nd:Nd K)(h:gone K k=i::r):∃y∈K,y.id=i/\y.p=k/\y.w.fin=true:=by
 have:i∈gone K k:=by rw[h];exact v3
 obtain⟨h1,h2⟩:=V1.mp this;obtain⟨y,hy,yp,rfl⟩:=kh.mp h1;rw[dI nd hy]at h2;exact⟨y,hy,rfl,yp,h2⟩
theorem Ga(h:bh A K)(hp:PO K)(hq:q∈K)(hw:q.w=.bN):jM [sD K L,.int q.id,.int a,.int 1]=.ok (sD (iB K q) L):=by
 have nd:=h.nd;have hl:=h.len;rw[jM];refine ck ?_;show aw _ [.sh (sD K L),.sh (.int q.id),.sh (.int a),.sh (.int 1),.un,.un,.un]=_;rw[aA (bQ (cy rfl rfl (wQ nd hl)))];show aw _ [.sh (sD K L),.sh (.int q.id),.sh (.int a),.sh (.int 1),.sh (.lst ((aQ K q.id).map .int)),.un,.un]=_
 rw[aA (bQ (d:=.lst ((gone K q.id).map .int)) (by
  refine fI (ds:=(aQ K q.id).map .int) rfl (by rw[Do];have:=A0 (K:=K) (k:=q.id);omega) ?_
  refine jh (u:=D.int) (p:=λi=>(cD K i).w.fin) (v:=D.int) λi hi=>⟨[.sh (.int i),.sh (sD K L)],rfl,?_,λ_=>rfl⟩;obtain⟨y,hy,yp,rfl⟩:=kh.mp hi;rw[dI nd hy];show(tV _ _).bind _=_;rw[bj (jk (aW (fi (q:=y) rfl rfl nd hy) rfl j7) (Ag y.w)),R.aJ];cases y.w.fin<;>rfl))]
 show aw _ [.sh (sD K L),.sh (.int q.id),.sh (.int a),.sh (.int 1),.sh (.lst ((aQ K q.id).map .int)),.sh (.lst ((gone K q.id).map .int)),.un]=_;unfold iB;cases hg:gone K q.id with
 | cons e r=>
  obtain⟨y,hy,ye,yp,yf⟩:=su nd hg;subst ye;show _=R.ok (Fl.ret (sD (put (rem K y.id) {q with g0:=y.id,g1:=(cD K y.id).w.code}) L));rw[dI nd hy]
  obtain⟨code,hc⟩:∃code,y.w=.over code:=by
   cases N5:y.w with
   |over c=>exact⟨c,rfl⟩
   |_=>rw[N5]at yf;cases yf
  have C':q.id≠y.id:=λe=>by rw[gf nd hq hy e]at hw;rw[hw]at yf;cases yf
  refine bB ?_;rw[b7 (bj (b:=true) (by rw[yV (i:=((y.id::r).map D.int).length) (u:=0) rfl rfl,GT (by simp)]))]
  have h5:∀ρ:En,(aa 5) ρ=.ok (.lst ((y.id::r).map .int))->(e2 av (aa 5) (eC (.int 0))) ρ=.ok (.int y.id):=λρ h=>aW h rfl (nh (by unfold cM;rw[jd (by decide) (by simp)];rfl))
  rw[aA (bQ (d:=.int code) (aW (aW (o:=av) (fi (q:=y) rfl (h5 _ rfl) nd hy) rfl j7) rfl (by rw[hc];rfl)))]
  refine bB (bW (sN (cy rfl (h5 _ rfl) (qh nd hy)) rfl (h5 _ rfl) rfl ?_));show cx [sD (rem K y.id) L,.int q.id,.int y.id,.int code]=_;rw[yy nd.rem (WD xy (by omega)) (gY.mpr ⟨hq,C'⟩),hc, <-hw];rfl
 | nil=>
  rw[aA (bY rfl)];cases MK:aQ K q.id with
  | nil=>
   refine bB ?_;rw[b7 rfl];refine bW (dN rfl rfl rfl ?_);show cx [sD K L,.int q.id,.int 4294967292,.aj]=_;rw[lT nd (by omega) hq,rl hw];rfl
  | cons e r=>
   rw[aA (bY (bj (by rw[fX (i:=((e::r).map D.int).length) (u:=0) rfl rfl,JU (by simp;omega)])))]
   exact bB (bW (dN rfl rfl rfl (kQ (x:={q with w:=.kf}) nd (by omega) hq rfl (by kernel_rfl))))
noncomputable def jf(K:List Q)(q:Q)(a:Int):List Q:=if a<=3 then put K {q with r:=a,g0:=0} else put K {q with g0:=4294967295}
theorem FD(h:bh A K)(hq:q∈K)(hw:q.w=.bN)(ha:0<=a):jz [sD K L,.int q.id,.int a,.int 1]=.ok (sD (jf K q a) L):=by
 have nd:=h.nd;have hl:=h.len;rw[jz];refine ck ?_;show aw _ [.sh (sD K L),.sh (.int q.id),.sh (.int a),.sh (.int 1)]=_;have et:(fT (tV (kq oLe oLe (eC (.int 0)) (aa 2) (eC (.int 3))))) [.sh (sD K L),.sh (.int q.id),.sh (.int a),.sh (.int 1)]=.ok (!(decide (0<=a)&&decide (a<=3))):=oY (bj (uh rfl rfl (le_int 0 a) rfl (le_int a 3)));rw[GT ha,WR]at et;unfold jf;by_cases h3:a<=3
 ·rw[GT h3]at et
  rw[u9 h3,aA (bY et)];refine bB (bW (dN (dN rfl rfl rfl (kQ (x:={q with r:=a}) nd (by omega) hq rfl (by kernel_rfl))) rfl rfl ?_))
  show cx [sD (put K {q with r:=a}) L,.int q.id,.int 0,.aj]=_;have:=lT (l:=L) (a:=0) (q:={q with r:=a}) nd.put (by rw[p7];omega) (mE hq rfl)
  refine this.trans ?_;show R.ok (sD (put (put K {q with r:=a}) {q with r:=a,g0:=0,w:=.bN}) L)=_;rw[lp (x:={q with r:=a}) (y:={q with r:=a,g0:=0,w:=.bN}) rfl,show({q with r:=a,g0:=0,w:=.bN}:Q)={q with r:=a,g0:=0} by rw[<-hw]]
 ·rw[JU h3]at et
  rw[Da h3];refine bB ?_;rw[b7 et];refine bW (dN rfl rfl rfl ?_);show cx [sD K L,.int q.id,.int 4294967295,.aj]=_;rw[lT nd (by omega) hq,rl hw]
end
def HA(A:Int×VH):Prop:=A.1<4000/\A.2.length=16
theorem uN:∀xs:VH,fg (xs.map D.int)=true
 |[]=>rfl
 |x::xs=>by show(nice (.int x)&&fg (xs.map D.int))=true;rw[uN xs];rfl
theorem vJ:∀xs:VH,cA (xs.map D.int)=0
 |[]=>rfl
 |x::xs=>by show max (bT (.int x)) (cA (xs.map D.int))=0;rw[vJ xs];rfl
theorem oC{n:Nat}:∀ {ds:List D},(∀d∈ds,bT d<=n)->cA ds<=n
 |[],_=>Rf _
 | d::ds,h=>by
  show max (bT d) (cA ds)<=n;have h1:=h d v3;have h2:=oC λx hx=>h x (rU _ hx);omega
theorem mH:∀ {ds:List D},(∀d∈ds,nice d=true)->fg ds=true
 |[],_=>rfl
 | d::ds,h=>by
  show(nice d&&fg ds)=true;rw[h d v3,mH λx hx=>h x (rU _ hx)];rfl
theorem lg{ks:List Ky}{vs:List D}(h1:ks.Nodup)(h2:ks.length=vs.length)(h3:ks.length<=1000)(h4:fg vs=true):nice (.ai ks vs)=true:=by
 unfold nice;rw[GT h1,GT h2,GT h3,h4];rfl
theorem yH{vs:List D}(h3:vs.length<=1000)(h4:fg vs=true):nice (.tup vs)=true:=by
 unfold nice;rw[GT h3,h4];rfl
theorem Cq{vs:List D}(h3:vs.length<=1000)(h4:fg vs=true):nice (.lst vs)=true:=by
 unfold nice;rw[GT h3,h4];rfl
section
variable{K:List Q}{l:T}{L:D}{q x y:Q}{m:Nat}{ρ:En}{k c a:Int}{A:Int×VH}{b:Bool}{v:D}
theorem zV{w:VH}(h:w.length=16):nice (W w)=true:=yH (by rw[Do,h];decide) (uN w)
theorem xZ{w:VH}:bT (W w)=1:=by show cA (w.map D.int)+1=1;rw[vJ]
theorem Dj(h:HA A):nice (dO A b)=true/\bT (dO A b)<=3:=by
 cases b with
 |false=>exact⟨rfl,IR rfl⟩
 | true=>
  constructor
  ·refine lg (ks:=[.inl A.1,.inl 4005,.inl 4006]) ?_ rfl (IR rfl) (mH λd hd=>?_)
   ·have:=h.1
    simp only[GM,AC,Mk,VZ,W5,Wq,Y1,YB];refine⟨⟨λe=>?_,λe=>?_⟩,λe=>?_⟩<;>injection e with e<;>omega
   ·simp only[AC,Mk,VZ]at hd
    rcases hd with rfl|rfl|rfl
    ·refine yH (IR rfl) (mH λd hd=>?_)
     simp only[AC,Mk,VZ]at hd;rcases hd with rfl|rfl
     ·kernel_rfl
     ·exact zV h.2
    ·kernel_rfl
    ·kernel_rfl
  ·show cA [.tup [S "own",W A.2],.tup [S "lent",.int 6],.tup [S "lent",.int 6]]+1<=3
   have:cA [.tup [S "own",W A.2],.tup [S "lent",.int 6],.tup [S "lent",.int 6]]<=2:=oC λd hd=>by
    simp only[AC,Mk,VZ]at hd;rcases hd with rfl|rfl|rfl
    ·show max 0 (max (bT (W A.2)) 0)+1<=2
     rw[xZ];decide
    ·exact IR (by kernel_rfl)
    ·exact IR (by kernel_rfl)
   omega
theorem vS(hA:HA A)(h:Gd A q):nice q.d=true/\bT q.d<=5:=by
 obtain⟨_,hp,_,hh,hs,hg⟩:=h;have Sx:=Dj (b:=q.hp) hA;rw[<-hp]at Sx;have T3:nice (.lst (q.rg.map .int))=true/\bT (.lst (q.rg.map .int))=1:=⟨Cq (by unfold Q.rg;rw[Do];show q.gr.length+1+1<=1000;omega) (uN _),by show cA (q.rg.map D.int)+1=1;rw[vJ]⟩
 have hw:nice q.w.d=true/\bT q.w.d<=1:=by cases q.w<;>exact⟨by kernel_rfl,IR (by kernel_rfl)⟩
 constructor
 ·refine lg (by decide+kernel) rfl (by decide) (mH λd hd=>?_)
  simp only[AC,Mk,VZ]at hd;rcases hd with rfl|rfl|rfl|rfl|rfl|rfl|rfl|rfl|rfl|rfl
  ·rfl
  ·rfl
  ·exact T3.1
  ·rfl
  ·exact Sx.1
  ·exact hh.1
  ·exact hw.1
  ·rfl
  ·rfl
  ·exact hs.1
 ·have:cA [.int q.p,.int q.r,.lst (q.rg.map .int),.int q.ro,q.pg.toD,q.hn.toD,q.w.d,.int q.hr,.bl q.u,q.sv.toD]<=4:=oC λd hd=>by
   simp only[AC,Mk,VZ]at hd;rcases hd with rfl|rfl|rfl|rfl|rfl|rfl|rfl|rfl|rfl|rfl
   ·exact Rf _
   ·exact Rf _
   ·omega
   ·exact Rf _
   ·omega
   ·omega
   ·omega
   ·exact Rf _
   ·exact Rf _
   ·omega
  show cA [.int q.p,.int q.r,.lst (q.rg.map .int),.int q.ro,q.pg.toD,q.hn.toD,q.w.d,.int q.hr,.bl q.u,q.sv.toD]+1<=5;omega
theorem Hy(nd:Nd K):(keys K).Nodup:=by
 have:keys K=(K.map Q.id).map .inl:=by unfold keys;rw[VM];rfl
 rw[this];exact List.Pairwise.map _ (λa b h e=>h (by injection e)) nd
theorem Bk(hA:HA A)(h:bh A K)(hv:nice v=true/\bT v<=3):NC (sD K (a9 v b)):=by
 have hl:=h.len
 have h1:nice (.ai (keys K) (K.map Q.d))=true/\bT (.ai (keys K) (K.map Q.d))<=6:=by
  constructor
  ·exact lg (Hy h.nd) (by rw[l7,Do]) (by rw[l7];omega) (mH λd hd=>by obtain⟨q,hq,rfl⟩:=V5.mp hd;exact(vS hA (h.gd hq)).1)
  ·have:cA (K.map Q.d)<=5:=oC λd hd=>by obtain⟨q,hq,rfl⟩:=V5.mp hd;exact(vS hA (h.gd hq)).2
   show cA (K.map Q.d)+1<=6;omega
 have h2:nice (a9 v b)=true/\bT (a9 v b)<=4:=by
  cases b with
  |false=>exact⟨rfl,IR rfl⟩
  | true=>
   refine⟨lg (by simp) rfl (IR rfl) (by show(nice v&&true)=true;rw[hv.1];rfl),?_⟩
   show max (bT v) 0+1<=4;have:=hv.2;omega
 constructor
 ·refine lg (by decide+kernel) rfl (by decide) (mH λd hd=>?_)
  simp only[AC,Mk,VZ]at hd;rcases hd with rfl|rfl|rfl|rfl|rfl
  ·exact h1.1
  ·exact h2.1
  ·kernel_rfl
  ·rfl
  ·rfl
 ·have:cA [.ai (keys K) (K.map Q.d),a9 v b,N0,.ai [] [],.int 0]<=6:=oC λd hd=>by
   simp only[AC,Mk,VZ]at hd;rcases hd with rfl|rfl|rfl|rfl|rfl
   ·exact h1.2
   ·omega
   ·exact IR (by kernel_rfl)
   ·exact IR rfl
   ·exact Rf _
  show cA [.ai (keys K) (K.map Q.d),a9 v b,N0,.ai [] [],.int 0]+1<9;omega
theorem HY(hw:q.w=.bN):aS q.d=({q with pg:=aS q.pg.toD,hn:=aS q.hn.toD,sv:=aS q.sv.toD}:Q).t:=by
 show T.m TK [.d (.int q.p),.d (.int q.r),.l (dm (q.rg.map .int)),.d (.int q.ro),aS q.pg.toD,aS q.hn.toD,aS q.w.d,.d (.int q.hr),.d (.bl q.u),aS q.sv.toD]=T.m TK [.d (.int q.p),.d (.int q.r),.l (q.rg.map λi=>.d (.int i)),.d (.int q.ro),aS q.pg.toD,aS q.hn.toD,.d q.w.d,.d (.int q.hr),.d (.bl q.u),aS q.sv.toD];rw[oS,VM,hw];rfl
theorem CU{s:Sm}{r:List Sm}{ρ ρ':En}{d:D}(h:s ρ=.ok (.dJ d ρ')):aw (s::r) ρ=.ok (.dJ d ρ'):=by
 show(s ρ).bind _=_;rw[h];rfl
noncomputable def e4(K:List Q)(l:T)(k:Int)(s2 s3:Slot):En:=[.on (.tr (sT K l)),.sh (.int k),s2,s3]
theorem C7(hA:HA A)(h:bh A K)(hq:q∈K)(hw:q.w=.bN):oA (sT K l) [.int q.id]=.ok (.aj,sT (iR K q) l):=by
 obtain⟨m,km,gm⟩:=gU h.nd hq;have hl:=h.len;rw[oA]
 have e1:lC 0 (aG jR [aa 0]) (e4 K l q.id .un .un)=.ok (.int ((fr K).getD 0)):=by
  show((aG jR [aa 0]) (bK 0 (sT K l) (e4 K l q.id .un .un))).bind (λd=>if gc d=true then R.ok d else .bad)=_
  rw[m6,jk (x:=sD K l.toD) rfl FO,R.aJ];rfl
 unfold iR;cases hf:fr K with
 | none=>
  rw[hf]at e1;refine IZ (ρ':=e4 (put K {q with g0:=4294967294}) l q.id (.sh (.int 0)) .un) ?_ rfl;show aw _ (e4 K l q.id .un .un)=_;rw[aA (bQ e1)];show aw _ (e4 K l q.id (.sh (.int 0)) .un)=_;refine CU ?_;rw[b7 rfl,aA (lY (a:=4294967294) h.nd rfl rfl (pT rfl rfl km) gm (by unfold e4;simp only[Wd];exact⟨lB,fV,fV,qT,λ_ h=>nomatch h⟩))]
  rfl
 | some f=>
  rw[hf]at e1;obtain⟨f1,fn⟩:=ub hf;have C':¬f=0:=by omega
  have LF:Nd (K++[cQ q f]):=qe (f:=f) h.nd fn;have Tp:(K++[cQ q f])[m]? =some q:=by rw[V9 (mO.mp gm).1];exact gm
  refine kx (ρ':=e4 (put (K++[cQ q f]) {q with g0:=f}) l q.id (.sh (.int f)) .un) ?_ rfl;show aw _ (e4 K l q.id .un .un)=_;rw[aA (bQ e1)];show aw _ (e4 K l q.id (.sh (.int f)) .un)=_;rw[aA (bY (bj (by rw[fX (i:=f) (u:=0) rfl rfl,JU C'])))]
  have hn:=vS hA (h.gd hq)
  have ex:l6 0 (cG gN [e2 av (e2 av (aa 0) (eC (S "tasks"))) (aa 1)]) (e4 K l q.id (.sh (.int f)) .un)=.ok ({q with pg:=aS q.pg.toD,hn:=aS q.hn.toD,sv:=aS q.sv.toD}:Q).t:=by
   show((cG gN [e2 av (e2 av (aa 0) (eC (S "tasks"))) (aa 1)]) (bK 0 (sT K l) (e4 K l q.id (.sh (.int f)) .un))).bind (λu=>if T.iN u=true then R.ok u else .bad)=_
   rw[m6,j9 (fi (l:=l.toD) rfl rfl h.nd hq) (sG ⟨hn.1,by omega⟩),R.aJ,u9 (sO _ hn.1),HY hw]
  rw[aA (ρ':=e4 K l q.id (.sh (.int f)) (.on (.tr ({q with pg:=aS q.pg.toD,hn:=aS q.hn.toD,sv:=aS q.sv.toD}:Q).t))) (by
   unfold ib;rw[ex,R.aJ,u9 ⟨rfl,by decide⟩];rfl)]
  rw[aA (jc (z:=.inr (Str.ofString "parent")) (p:=[]) (t':=({q with p:=q.id,pg:=aS q.pg.toD,hn:=aS q.hn.toD,sv:=aS q.sv.toD}:Q).t) rfl rfl rfl rfl rfl rfl (by decide) (by kernel_rfl))]
  show aw _ (e4 K l q.id (.sh (.int f)) (.on (.tr ({q with p:=q.id,pg:=aS q.pg.toD,hn:=aS q.hn.toD,sv:=aS q.sv.toD}:Q).t)))=_;rw[aA (jc (z:=.inr (Str.ofString "rung")) (p:=[]) (t':=({q with p:=q.id,u:=false,pg:=aS q.pg.toD,hn:=aS q.hn.toD,sv:=aS q.sv.toD}:Q).t) rfl rfl rfl rfl rfl rfl (by decide) (by kernel_rfl))]
  show aw _ (e4 K l q.id (.sh (.int f)) (.on (.tr ({q with p:=q.id,u:=false,pg:=aS q.pg.toD,hn:=aS q.hn.toD,sv:=aS q.sv.toD}:Q).t)))=_;rw[aA (sL (t':=(cQ q f).t) (ts:=q.rg.map λi=>.d (.int i)) (n:=0) (p:=[2]) rfl (gJ (p:=[]) rfl rfl rfl rfl (by kernel_rfl)) rfl rfl rfl (jd (by decide) (by unfold Q.rg;simp;omega)) rfl)]
  show aw _ (e4 K l q.id (.sh (.int f)) (.on (.tr (cQ q f).t)))=_
  rw[aA (ρ':=e4 (K++[cQ q f]) l q.id (.sh (.int f)) .un) (by
   unfold nZ;rw[pK rfl,R.aJ];show(if 0≠3/\(keys K).length<1000/\¬((keys K).any λa=>decide (a=.inl f))=true then R.ok (Fl.next ((b9 0 [0] ((e4 K l q.id (.sh (.int f)) (.on (.tr (cQ q f).t))).set 3 .un)).set 0 (.on (.tr (T.put (.m (keys K++[.inl f]) (K.map Q.t++[(cQ q f).t])) (sT K l) [0])))))else .bad)=_
   rw[u9 ⟨by decide,by rw[l7];omega,by rw[ph,yO fn];decide⟩]
   show R.ok (Fl.next [.on (.tr (.m SK [.m (keys K++[.inl f]) (K.map Q.t++[(cQ q f).t]),l,tN,.m [] [],.d (.int 0)])),.sh (.int q.id),.sh (.int f),.un])=R.ok (Fl.next [.on (.tr (.m SK [.m (keys (K++[cQ q f])) ((K++[cQ q f]).map Q.t),l,tN,.m [] [],.d (.int 0)])),.sh (.int q.id),.sh (.int f),.un]);unfold keys;rw[S3,S3];rfl)]
  rw[aA (lY (a:=f) LF rfl rfl (pT rfl rfl (sF LF Tp)) Tp (by unfold e4;simp only[Wd];exact⟨lB,fV,fV,qT,λ_ h=>nomatch h⟩))]
  rfl
theorem eq_nil(xs:VH):oEq (.lst (xs.map .int)) (.lst [])=.ok (.bl xs.isEmpty):=by
 have h:dG (.lst (xs.map .int)) (.lst [])=true:=by
  unfold dG;have h1:lay (.lst (xs.map .int))=true:=qX xs;have h2:min (dep (.lst (xs.map .int))) (dep (.lst []))<=60:=PK (YO _ _) (IR rfl);rw[h1,GT h2];show(_||(true&&lay (.lst [])&&true))=true;rw[show lay (.lst [])=true from rfl]
  simp
 show(if dA _ _=true then _ else _)=_
 rw[u9 (by unfold dA;rw[h];rfl)]
 cases xs<;>rfl
theorem ne_nil(xs:VH):c9 (.lst (xs.map .int)) (.lst [])=.ok (.bl (!xs.isEmpty)):=by
 have h:=eq_nil xs
 have h0:dG (.lst (xs.map .int)) (.lst [])=true:=by
  unfold dG;have h1:lay (.lst (xs.map .int))=true:=qX xs;have h2:min (dep (.lst (xs.map .int))) (dep (.lst []))<=60:=PK (YO _ _) (IR rfl);rw[h1,GT h2];show(_||(true&&lay (.lst [])&&true))=true;rw[show lay (.lst [])=true from rfl]
  simp
 show(if dG _ _=true then _ else _)=_
 rw[u9 h0];cases xs<;>rfl
noncomputable def eW(K:List Q)(l:T)(k:Int)(m:Nat)(x3 x4:Option D):En:=[.on (.tr (sT K l)),.sh (.int k),.on (.al 0 [0,m]),aT x3,aT x4]
theorem oV{x3 x4:Option D}:∀s∈eW K l k m x3 x4,eQ 2 s:=by
 unfold eW;simp only[Wd];exact⟨lB,fV,AR (by simp),md,md,λ_ h=>nomatch h⟩
theorem yM{x3 x4:Option D}(hm:K[m]? =some q):bK 0 (sT K l) (eW K l k m x3 x4)=[.sh (sD K l.toD),.sh (.int k),.sh q.d,aT x3,aT x4]:=by
 rw[m6];show [.sh (sD K l.toD),.sh (.int k),cK 0 (sT K l) (.on (.al 0 [0,m])),cK 0 (sT K l) (aT x3),cK 0 (sT K l) (aT x4)]=_;rw[Bq hm,nI,nI]
theorem Cy(e:x.id≠k):rem (put K x) k=put (rem K k) x:=by
 unfold rem put;rw[XQ];congr 1;refine Xy λz _=>?_;show(!decide ((if z.id=x.id then x else z).id=k))=_
 by_cases h:z.id=x.id
 ·rw[u9 h,h]
 ·rw[Da h]
theorem Fe{e:Ex}{j:Nat}(nd:Nd K)(hi:ρ[0]? =some (.on (.tr (sT K l))))(he:e ρ=.ok (.int y.id))(hy:y∈K)(hj:ρ[j]? =some (.on (.al 0 [0,m])))(hm:K[m]? =some q)(C':q.id≠y.id)(h0:j≠0):
  mL j 0 (pX 0 pN (eC (S "tasks"))) e (Str.ofString "waits") ρ=.ok (y.w.d,((b9 0 [0] ρ).set 0 (.on (.tr (sT (rem K y.id) l)))).set j (.on (.al 0 [0,cz (.inl y.id) (keys K) m]))):=by
 obtain⟨n,hn,gn⟩:=gU nd hy;unfold mL;simp only[pK hi,he,R.aJ,hi,hj,keyOf,rT]
 have hk:lH 0 [0] (.inl y.id) (keys K) (some (.on (.al 0 [0,m])))=some [0,cz (.inl y.id) (keys K) m]:=by
  show(if(0:Nat)=0/\[0,m]=[0]++[m]/\(∃a,(keys K)[m]? =some a/\a≠.inl y.id)then some ([0]++[cz (.inl y.id) (keys K) m])else none)=_
  rw[u9 ⟨rfl,rfl,_,Bg hm,λz=>C' (by injection z)⟩];rfl
 rw[hk,hn];have ht:(K.map Q.t)[n]? =some y.t:=by rw[DM,gn];rfl
 simp only[ht];show(match cB (.inr (Str.ofString "waits")) TK with|some l'=>(match y.fs[l']? with|some (.d x)=>if 0≠j then R.ok (x,_)else .bad|_=>.bad)|none=>.bad)=_
 rw[show cB (.inr (Str.ofString "waits")) TK=some 6 by kernel_rfl]
 show(if 0≠j then R.ok (y.w.d,_)else .bad)=_
 rw[u9 (λz=>h0 z.symm),oz];rfl
theorem Kg(h:bh A K)(hq:q∈K)(hw:q.w=.bN):ou (sT K l) [.int q.id]=.ok (.aj,sT (iB K q) l):=by
 obtain⟨m,km,gm⟩:=gU h.nd hq;have nd:=h.nd;have hl:=h.len;rw[ou]
 have e1:cS 0 (aG eG [aa 0,aa 1]) (eW K l q.id m none none)=.ok (.lst ((aQ K q.id).map .int)):=by
  show((aG eG [aa 0,aa 1] (bK 0 (sT K l) (eW K l q.id m none none))).bind λd=>match d with|.lst ds=>if fB ds=true then R.ok (D.lst ds)else .bad|_=>.bad)=_
  rw[yM gm,cy rfl rfl (Bp nd hl),R.aJ];exact u9 (oq _)
 have Nv:cS 0 (bJ (dy (aa 3)) 1 [0] (aF 0) [tV (aG ip [aa 1,aa 0])] (aa 0)) (eW K l q.id m (some (.lst ((aQ K q.id).map .int))) none)=.ok (.lst ((gone K q.id).map .int)):=by
  show((bJ _ _ _ _ _ _ (bK 0 (sT K l) (eW K l q.id m (some (.lst ((aQ K q.id).map .int))) none))).bind λd=>match d with|.lst ds=>if fB ds=true then R.ok (D.lst ds)else .bad|_=>.bad)=_
  rw[yM gm,fI (ds:=(aQ K q.id).map .int) (ys:=(gone K q.id).map .int) rfl (by rw[Do];have:=A0 (K:=K) (k:=q.id);omega) ?_,R.aJ]
  ·exact u9 (oq _)
  ·refine jh (u:=D.int) (p:=λi=>(cD K i).w.fin) (v:=D.int) λi hi=>⟨[.sh (.int i),.sh (sD K l.toD)],rfl,?_,λ_=>rfl⟩
   obtain⟨y,hy,yp,rfl⟩:=kh.mp hi;rw[dI nd hy];show(tV _ _).bind _=_;rw[bj (cy rfl rfl (wV nd hy)),R.aJ];cases y.w.fin<;>rfl
 suffices H:∃m':Nat,aw [kU 2 0 (pX 0 (pX 0 (pN) (eC (S "tasks"))) (aa 1)),bb (aF 3) (cS 0 (aG eG [aa 0,aa 1])),bb (aF 4) (cS 0 (bJ (dy (aa 3)) 1 [0] (aF 0) [tV (aG ip [aa 1,aa 0])] (aa 0))),aR (tV (e2 c9 (aa 4) (cC []))) (aw [cZ 0 (pX 0 (pA 0 2) (eC (S "regs"))) (eC (.int 0)) (e2 av (aa 4) (eC (.int 0))),qF 0 (pX 0 (pA 0 2) (eC (S "regs"))) (eC (.int 1)) (oD (mL 2 0 (pX 0 (pN) (eC (S "tasks"))) (e2 av (aa 4) (eC (.int 0))) (Str.ofString "waits")) (eC (.int 1)))]) (aR (tV (e2 oEq (aa 3) (cC []))) (cZ 0 (pX 0 (pA 0 2) (eC (S "regs"))) (eC (.int 0)) (eC (.int 4294967292))) (bP 0 (pA 0 2) (eC (S "waits")) (cE [eC (S "child")])))] [.on (.tr (sT K l)),.sh (.int q.id),.un,.un,.un]=.ok (.next (eW (iB K q) l q.id m' (some (.lst ((aQ K q.id).map .int))) (some (.lst ((gone K q.id).map .int))))) by
  obtain⟨m',e⟩:=H;exact kx e rfl
 rw[aA (zB (pT rfl rfl km) rfl (jx (p:=[]) gm) ⟨rfl,by decide⟩)]
 show ∃m':Nat,aw _ (eW K l q.id m none none)=_;rw[aA (bQ e1)];show ∃m':Nat,aw _ (eW K l q.id m (some (.lst ((aQ K q.id).map .int))) none)=_;rw[aA (bQ Nv)];show ∃m':Nat,aw _ (eW K l q.id m (some (.lst ((aQ K q.id).map .int))) (some (.lst ((gone K q.id).map .int))))=_;have et:(tV (e2 c9 (aa 4) (cC []))) (eW K l q.id m (some (.lst ((aQ K q.id).map .int))) (some (.lst ((gone K q.id).map .int))))=.ok (!(gone K q.id).isEmpty):=bj (aW (o:=c9) rfl (y:=.lst []) rfl (ne_nil _));have Qu:(tV (e2 oEq (aa 3) (cC []))) (eW K l q.id m (some (.lst ((aQ K q.id).map .int))) (some (.lst ((gone K q.id).map .int))))=.ok (aQ K q.id).isEmpty:=bj (aW (o:=oEq) rfl (y:=.lst []) rfl (eq_nil _));generalize MK:aQ K q.id=C at et Qu ⊢;unfold iB;rw[MK];cases hg:gone K q.id with
 | cons e r=>
  rw[hg]at et;obtain⟨y,hy,ye,yp,yf⟩:=su nd hg;subst ye;show ∃m':Nat,_=R.ok (Fl.next (eW (put (rem K y.id) {q with g0:=y.id,g1:=(cD K y.id).w.code}) l q.id m' (some (.lst (C.map .int))) (some (.lst ((y.id::r).map .int)))));rw[dI nd hy]
  obtain⟨code,hc⟩:∃code,y.w=.over code:=by
   cases N5:y.w with
   |over c=>exact⟨c,rfl⟩
   |_=>rw[N5]at yf;cases yf
  have C':q.id≠y.id:=λe=>by rw[gf nd hq hy e]at hw;rw[hw]at yf;cases yf
  have h4:∀ρ:En,(aa 4) ρ=.ok (.lst ((y.id::r).map .int))->(e2 av (aa 4) (eC (.int 0))) ρ=.ok (.int y.id):=λρ h=>aW h rfl (nh (by unfold cM;rw[jd (by decide) (by simp)];rfl))
  have g1:(put K {q with g0:=y.id})[m]? =some {q with g0:=y.id}:=l8 nd gm rfl;have Vc:y∈put K {q with g0:=y.id}:=oT hy (λe=>C' e.symm);have hr:rem (put K {q with g0:=y.id}) y.id=put (rem K y.id) {q with g0:=y.id}:=Cy C';have g2:=vn g1 (k:=y.id) C';refine⟨cz (.inl y.id) (keys (put K {q with g0:=y.id})) m,?_⟩;rw[aA (ρ':=eW (put (rem K y.id) {q with g0:=y.id,g1:=y.w.code}) l q.id (cz (.inl y.id) (keys (put K {q with g0:=y.id})) m) (some (.lst (C.map .int))) (some (.lst ((y.id::r).map .int)))) ?_]
  ·rfl
  rw[b7 et];rw[aA (lY (a:=y.id) nd rfl (h4 _ rfl) rfl gm oV)];show aw _ (eW (put K {q with g0:=y.id}) l q.id m (some (.lst (C.map .int))) (some (.lst ((y.id::r).map .int))))=_
  have eo:oD (mL 2 0 (pX 0 (pN) (eC (S "tasks"))) (e2 av (aa 4) (eC (.int 0))) (Str.ofString "waits")) (eC (.int 1)) (eW (put K {q with g0:=y.id}) l q.id m (some (.lst (C.map .int))) (some (.lst ((y.id::r).map .int))))=.ok (.int code,eW (rem (put K {q with g0:=y.id}) y.id) l q.id (cz (.inl y.id) (keys (put K {q with g0:=y.id})) m) (some (.lst (C.map .int))) (some (.lst ((y.id::r).map .int)))):=by
   unfold oD;rw[Fe (j:=2) (y:=y) nd.put rfl (h4 _ rfl) Vc rfl g1 C' (by decide),R.aJ,hc]
   rfl
  generalize cz (.inl y.id) (keys (put K {q with g0:=y.id})) m=m2 at g2 eo ⊢;rw[hr]at g2 eo;rw[aA (ρ':=eW (put (rem K y.id) {q with g0:=y.id,g1:=y.w.code}) l q.id m2 (some (.lst (C.map .int))) (some (.lst ((y.id::r).map .int)))) ?_]
  ·rfl
  have TM:q∈rem K y.id:=gY.mpr ⟨hq,C'⟩;have g3:(pX 0 (pA 0 2) (eC (S "regs"))) (eW (put (rem K y.id) {q with g0:=y.id}) l q.id m2 (some (.lst (C.map .int))) (some (.lst ((y.id::r).map .int))))=.ok [0,m2,2]:=pG rfl rfl g2;unfold qF;rw[eo,R.aJ];show((pX 0 (pA 0 2) (eC (S "regs"))) _).bind _=_;rw[g3,R.aJ];show(match T.at (sT (put (rem K y.id) {q with g0:=y.id}) l) [0,m2,2]with|some (.n .l ts)=>(match cI ts.length 1 with|some m=>R.ok (Fl.next ((b9 0 [0,m2,2] (eW (put (rem K y.id) {q with g0:=y.id}) l q.id m2 (some (.lst (C.map .int))) (some (.lst ((y.id::r).map .int))))).set 0 (.on (.tr (T.put (.l (ts.set m (.d (.int code)))) (sT (put (rem K y.id) {q with g0:=y.id}) l) [0,m2,2])))))|none=>.bad)|_=>.bad)=_
  rw[jx g2,qS (p:=[0,m2,2]) oV (show 2<=3 by decide)]
  show(match cI ((y.id::q.g1::q.gr).map λi=>T.d (.int i)).length 1 with|some m=>R.ok (Fl.next ((eW (put (rem K y.id) {q with g0:=y.id}) l q.id m2 (some (.lst (C.map .int))) (some (.lst ((y.id::r).map .int)))).set 0 (.on (.tr (T.put (.l (((y.id::q.g1::q.gr).map λi=>T.d (.int i)).set m (.d (.int code)))) (sT (put (rem K y.id) {q with g0:=y.id}) l) [0,m2,2])))))|none=>.bad)=_
  rw[jd (by decide) (by simp;omega)]
  show R.ok (Fl.next ((eW (put (rem K y.id) {q with g0:=y.id}) l q.id m2 (some (.lst (C.map .int))) (some (.lst ((y.id::r).map .int)))).set 0 (.on (.tr (T.put (.l ((y.id::code::q.gr).map λi=>T.d (.int i))) (sT (put (rem K y.id) {q with g0:=y.id}) l) [0,m2,2])))))=_;rw[oW (x:={q with g0:=y.id,g1:=code}) (nd.rem.put) g2 rfl (p:=[2]) (n:=.l ((y.id::code::q.gr).map λi=>T.d (.int i))) rfl,lp (x:={q with g0:=y.id}) (y:={q with g0:=y.id,g1:=code}) rfl,hc];rfl
 | nil=>
  rw[hg]at et;refine⟨m,?_⟩;rw[aA (ρ':=eW (if C.isEmpty=true then put K {q with g0:=4294967292} else put K {q with w:=.kf}) l q.id m (some (.lst (C.map .int))) (some (.lst (([]:VH).map .int)))) ?_]
  ·rfl
  rw[iF et];cases hC:C.isEmpty with
  | true=>
   rw[hC,hg]at Qu;rw[b7 Qu,u9 rfl,lY (a:=4294967292) nd rfl rfl rfl gm oV];rfl
  | false=>
   rw[hC,hg]at Qu;rw[iF Qu,Da (by decide),nH (x:={q with w:=.kf}) (d:=.tup [S "child"]) nd rfl rfl rfl gm rfl (by kernel_rfl) oV];rfl
theorem Gd.cQ(h:Gd A q){f:Int}(hf:1<=f/\f<=15):Gd A (cQ q f):=by
 obtain⟨_,hp,P7,hh,hs,hg⟩:=h;refine⟨hf,?_,P7,?_,?_,hg⟩
 ·show(aS q.pg.toD).toD=_
  rw[iP];exact hp
 ·show nice (aS q.hn.toD).toD=true/\bT (aS q.hn.toD).toD<=3
  rw[iP];exact hh
 ·show nice (aS q.sv.toD).toD=true/\bT (aS q.sv.toD).toD<=3
  rw[iP];exact hs
theorem Gg(h:bh A K)(hp:PO K)(hq:q∈K)(hw:q.w=.bN):bh A (iR K q)/\PO (iR K q):=by
 have gq:=h.gd hq;have OL:q.w.fin=false:=by rw[hw];rfl
 unfold iR;cases hf:fr K with
 |none=>exact⟨h.put (x:={q with g0:=4294967294}) gq,hp.put hq rfl rfl OL⟩
 | some f=>
  obtain⟨f1,fn⟩:=ub hf;have LF:Nd (K++[cQ q f]):=qe (f:=f) h.nd fn
  have h2:bh A (K++[cQ q f]):=.of LF λz hz=>by
   rcases KM.mp hz with hz|hz
   ·exact h.gd hz
   ·rw[SC.mp hz];exact gq.cQ f1
  have p2:PO (K++[cQ q f]):=λz hz=>by
   rcases KM.mp hz with hz|hz
   ·rcases hp z hz with h0|⟨h1,w,hw,e1,e2⟩
    ·exact .inl h0
    ·exact .inr ⟨h1,w,KB _ hw,e1,e2⟩
   ·rw[SC.mp hz]
    exact .inr ⟨fn q hq,q,KB _ hq,rfl,OL⟩
  exact⟨h2.put (x:={q with g0:=f}) gq,p2.put (KB _ hq) rfl rfl OL⟩
theorem CT(h:bh A K)(hp:PO K)(hq:q∈K)(hw:q.w=.bN):bh A (iB K q)/\PO (iB K q):=by
 have gq:=h.gd hq;have OL:q.w.fin=false:=by rw[hw];rfl
 unfold iB;cases hg:gone K q.id with
 | cons e r=>
  obtain⟨y,hy,ye,yp,yf⟩:=su h.nd hg;subst ye;have C':q.id≠y.id:=λe=>by rw[gf h.nd hq hy e]at hw;rw[hw]at yf;cases yf
  have pr:PO (rem K y.id):=hp.rem λz hz=>by
   by_cases h0:z.p=y.id
   ·rcases hp z hz with h1|⟨_,w,hw,e1,e2⟩
    ·exact .inr (h0.symm.trans h1)
    ·rw[gf h.nd hw hy (e1.trans h0),yf]at e2;cases e2
   ·exact .inl h0
  exact⟨h.rem.put (x:={q with g0:=y.id,g1:=(cD K y.id).w.code}) gq,pr.put (gY.mpr ⟨hq,C'⟩) rfl rfl OL⟩
 | nil=>
  show bh A (if(aQ K q.id).isEmpty=true then _ else _)/\PO (if(aQ K q.id).isEmpty=true then _ else _)
  split
  ·exact⟨h.put (x:={q with g0:=4294967292}) gq,hp.put hq rfl rfl OL⟩
  ·exact⟨h.put (x:={q with w:=.kf}) ⟨gq.1,gq.2.1,(λe=>nomatch e),gq.2.2.2⟩,hp.put hq rfl rfl rfl⟩
theorem G9(h:bh A K)(hp:PO K)(hq:q∈K)(hw:q.w=.bN):bh A (jf K q a)/\PO (jf K q a):=by
 have gq:=h.gd hq;have OL:q.w.fin=false:=by rw[hw];rfl
 unfold jf;split
 ·exact⟨h.put (x:={q with r:=a,g0:=0}) gq,hp.put hq rfl rfl OL⟩
 ·exact⟨h.put (x:={q with g0:=4294967295}) gq,hp.put hq rfl rfl OL⟩
theorem rA{n:Int}{cn:Str}{mm:List D->R D}{X:D}(h0:0<=n)(h3:n<=3)(hg:nO .aj qm (.int n)=.ok (eR cn))(hp:lF cn [("end_call",kY),("part_call",jB),("wait_call",jM),("rank_call",jz)]=some mm)(he:mm [L,.int k,.int a,.int 1]=.ok X):
  lQ [L,.int k,.int n,.int a,.int 1,.int 2,.bl false]=.ok X:=by
 rw[lQ];refine ck ?_;show aw _ [.sh L,.sh (.int k),.sh (.int n),.sh (.int a),.sh (.int 1),.sh (.int 2),.sh (.bl false),.un,.un]=_;rw[aA (bY (y0 rfl)),aA (bY rfl)];rw[aA (bY (bj (by rw[uh rfl rfl (le_int 11 n) rfl (le_int n 20),JU (by omega)];rfl)))]
 rw[aA (bY (bj (by rw[uh rfl rfl (le_int 21 n) rfl (le_int n 24),JU (by omega)];rfl)))]
 rw[aA (bQ (aW rfl rfl hg))];refine bB (bW ?_);show rV 8 _ _ [.sh L,.sh (.int k),.sh (.int n),.sh (.int a),.sh (.int 1),.sh (.int 2),.sh (.bl false),.un,.sh (eR cn)]=_;show(match lF cn [("end_call",kY),("part_call",jB),("wait_call",jM),("rank_call",jz)]with|some m=>aG m [aa 0,aa 1,aa 3,aa 4] [.sh L,.sh (.int k),.sh (.int n),.sh (.int a),.sh (.int 1),.sh (.int 2),.sh (.bl false),.un,.sh (eR cn)]|none=>.bad)=_
 rw[hp];exact sN rfl rfl rfl rfl he
theorem rE:(sT K l).own=true:=rfl
theorem vg{mW:T->List D->R (D×T)}{fs:List Ex}{ds:List D}{t t':T}{d:D}(hf:eList fs ρ=.ok ds)(hi:ρ[0]? =some (.on (.tr t)))(hm:mW t ds=.ok (d,t'))(ho:t'.own=true):i4 (iL 0 mW fs) ρ=.ok (.next ((b9 0 [] ρ).set 0 (.on (.tr t')))):=by
 unfold i4 iL;simp only[hf,R.aJ,hi,hm,ho,Xc]
theorem Fz{n:Int}(hA:HA A)(h:bh A K)(hp:PO K)(hq:q∈K)(hw:q.w=.bN)(ha:0<=a)(h0:0<=n)(h3:n<=3):
  ∃K' b',oO (sT K (aM v b)) [.int q.id,.int n,.int a]=.ok (.aj,sT K' (aM v b'))/\lQ [sD K (a9 v b),.int q.id,.int n,.int a,.int 1,.int 2,.bl false]=.ok (sD K' (a9 v b'))/\bh A K'/\PO K'/\(n=0->i5 [sD K (a9 v b),.int q.id,.int a]=.ok (sD K' (a9 v b'))):=by
 have hn:n=0\/n=1\/n=2\/n=3:=by omega
 rw[oO];rcases hn with rfl|rfl|rfl|rfl
 ·have hE:=Ad (c:=a) h hp hq
  have ep:i5 [sD K (a9 v b),.int q.id,.int a]=.ok (sD (dY K q a) (a9 v (b&&(dY K q a).any Q.hp))):=by
   rw[hE.2.2];exact Cb h.nd h.len h.pg hq (ve h hp hq) ((hp q hq).imp id λz=>z.2)
  refine⟨dY K q a,b&&(dY K q a).any Q.hp,kx (ρ':=[.on (.tr (sT (dY K q a) (aM v (b&&(dY K q a).any Q.hp)))),.sh (.int q.id),.sh (.int 0),.sh (.int a)]) ?_ rfl,rA (cn:="end_call") (mm:=kY) (by decide) (by decide) (by kernel_rfl) (by kernel_rfl) ?_,hE.1,hE.2.1,λ_=>ep⟩
  ·show aR _ _ _ [.on (.tr (sT K (aM v b))),.sh (.int q.id),.sh (.int 0),.sh (.int a)]=_
   rw[b7 rfl,vg (ds:=[.int q.id,.int a]) rfl rfl (Kr h hp hq) rE];rfl
  ·rw[kY]
   exact ck (bW (dN rfl rfl rfl ep))
 ·have hE:=Gg h hp hq hw
  refine⟨iR K q,b,kx (ρ':=[.on (.tr (sT (iR K q) (aM v b))),.sh (.int q.id),.sh (.int 1),.sh (.int a)]) ?_ rfl,rA (cn:="part_call") (mm:=jB) (by decide) (by decide) (by kernel_rfl) (by kernel_rfl) (KJ h hq hw),hE.1,hE.2,λe=>by cases e⟩
  show aR _ _ _ [.on (.tr (sT K (aM v b))),.sh (.int q.id),.sh (.int 1),.sh (.int a)]=_;rw[iF rfl,b7 rfl,vg (ds:=[.int q.id]) rfl rfl (C7 hA h hq hw) rE];rfl
 ·have hE:=CT h hp hq hw
  refine⟨iB K q,b,kx (ρ':=[.on (.tr (sT (iB K q) (aM v b))),.sh (.int q.id),.sh (.int 2),.sh (.int a)]) ?_ rfl,rA (cn:="wait_call") (mm:=jM) (by decide) (by decide) (by kernel_rfl) (by kernel_rfl) (Ga h hp hq hw),hE.1,hE.2,λe=>by cases e⟩
  show aR _ _ _ [.on (.tr (sT K (aM v b))),.sh (.int q.id),.sh (.int 2),.sh (.int a)]=_;rw[iF rfl,iF rfl,b7 rfl,vg (ds:=[.int q.id]) rfl rfl (Kg h hq hw) rE];rfl
 ·have hE:=G9 (a:=a) h hp hq hw
  obtain⟨m,km,gm⟩:=gU h.nd hq;refine⟨jf K q a,b,kx (ρ':=[.on (.tr (sT (jf K q a) (aM v b))),.sh (.int q.id),.sh (.int 3),.sh (.int a)]) ?_ rfl,rA (cn:="rank_call") (mm:=jz) (by decide) (by decide) (by kernel_rfl) (by kernel_rfl) (FD h hq hw ha),hE.1,hE.2,λe=>by cases e⟩
  show aR _ _ _ [.on (.tr (sT K (aM v b))),.sh (.int q.id),.sh (.int 3),.sh (.int a)]=_
  have hd:∀(K:List Q),∀s∈([.on (.tr (sT K (aM v b))),.sh (.int q.id),.sh (.int 3),.sh (.int a)]:En),eQ 2 s:=λK=>by
   simp only[Wd];exact⟨lB,fV,fV,fV,λ_ h=>nomatch h⟩
  rw[iF rfl,iF rfl,iF rfl];have et:(tV (e2 jQ (aa 3) (eC (.int 3)))) [.on (.tr (sT K (aM v b))),.sh (.int q.id),.sh (.int 3),.sh (.int a)]=.ok (decide (3<a)):=bj (yV rfl rfl);unfold jf;by_cases h3:a<=3
  ·rw[JU (by omega)]at et
   rw[iF et,u9 h3,aA (nH (x:={q with r:=a}) (d:=.int a) h.nd rfl rfl (pT rfl rfl km) gm rfl (by kernel_rfl) (hd K))]
   show aw _ [.on (.tr (sT (put K {q with r:=a}) (aM v b))),.sh (.int q.id),.sh (.int 3),.sh (.int a)]=_;rw[aA (w9 (x:={q with r:=a}) (a:=0) h.nd rfl rfl (wc (x:={q with r:=a}) h.nd rfl rfl gm rfl) gm rfl (hd _))];rfl
  ·rw[GT (by omega)]at et
   rw[b7 et,Da h3,lY (a:=4294967295) h.nd rfl rfl (pT rfl rfl km) gm (hd K)];rfl
end
noncomputable def t0(l:T):T:=.m SK [.m [] [],l,tN,.m [] [],.d (.int 0)]
noncomputable def eB(ns:VH)(l:T)(c z:Int)(q:Q):En:=[.sh (.lst (ns.map .int)),.un,.on (.tr (t0 l)),.sh (.int c),.sh (.int z),.on (.tr q.t)]
section
variable{ns:VH}{l:T}{c z:Int}{q x:Q}
theorem nE{cn:String}{e:Ex}{d:D}(he:e (eB ns l c z q)=.ok d)(hx:T.m (eU (.inr (Str.ofString cn)) (.d d) TK q.fs).1 (eU (.inr (Str.ofString cn)) (.d d) TK q.fs).2=x.t):bP 5 pN (eC (S cn)) e (eB ns l c z q)=.ok (.next (eB ns l c z x)):=by
 rw[jc (z:=.inr (Str.ofString cn)) (p:=[]) (t:=q.t) (t':=x.t) (ks:=TK) (ts:=q.fs) he rfl rfl rfl rfl rfl (by decide) hx];rfl
theorem zc{k k':Int}{ks:List Ky}{ts:List T}{u:T}(h:∀a∈ks,a≠.inl k):eU (.inl k) u ks ts=(ks++[.inl k],ts++[u]):=by
 unfold eU;rw[Da];intro e;obtain⟨a,ha,e⟩:=P3.mp e;exact h a ha (WH e)
theorem GJ(ns:VH):∃(A:Int×VH) (q:Q) (w:VH),HA A/\bh A [q]/\PO [q]/\w.length=16/\m9 [.lst (ns.map .int)]=.ok (sT [q] (aM (W w) true)):=by
 obtain⟨c,hc⟩:=HE ns 0 (Int.le_refl 0);obtain⟨z,z0,hz⟩:=zj c (k:=1) (by decide) (by decide)
 obtain⟨w1,e1,l1⟩:=xw c;obtain⟨w2,Nv,l2⟩:=xw z
 let q0:Q:=⟨1+z / 1024 % 15,0,1,0,1,[2,3,4,5,6,7],0,.m [] [],.m [] [],.bN,0,false,.d .aj,true⟩
 have Vt:z / 256 % 4000<4000:=Xo _ (by decide)
 obtain⟨hr,T4⟩:∃hr:Int,∀q:Q,(e2 av (cC [eC (.int 0),e2 oMod (e2 oDiv (aa 4) (eC (.int 16))) (eC (.int 4294967296))]) (e2 oMod (e2 oDiv (aa 4) (eC (.int 8))) (eC (.int 2)))) (eB ns (.m [] []) c z q)=.ok (.int hr):=by
  have qq:∀q:Q,(cC [eC (.int 0),e2 oMod (e2 oDiv (aa 4) (eC (.int 16))) (eC (.int 4294967296))]) (eB ns (.m [] []) c z q)=.ok (.lst [.int 0,.int (z / 16 % 4294967296)]):=λq=>by
   have a:(e2 oMod (e2 oDiv (aa 4) (eC (.int 16))) (eC (.int 4294967296))) (eB ns (.m [] []) c z q)=.ok (.int (z / 16 % 4294967296)):=cL (dw rfl rfl (by decide)) rfl (by decide)
   simp only[cC,eList,a,R.aJ,eC]
  have h2:z / 8 % 2=0\/z / 8 % 2=1:=by omega
  rcases h2 with h|h
  ·exact⟨0,λq=>aW (qq q) (cL (dw rfl rfl (by decide)) rfl (by decide)) (by rw[h];rfl)⟩
  ·exact⟨z / 16 % 4294967296,λq=>aW (qq q) (cL (dw rfl rfl (by decide)) rfl (by decide)) (by rw[h];rfl)⟩
 obtain⟨sv,Vo,UI⟩:∃sv:D,(nice sv=true/\bT sv<=3)/\∀q:Q,q.sv=.d .aj->aR (tV (e2 oEq (e2 oMod (e2 oDiv (aa 4) (eC (.int 64))) (eC (.int 3))) (eC (.int 1)))) (bP 5 (pN) (eC (S "saved")) (eX (xT [xL [xD (eC (.int 9)),xD (eC (.int 8)),xD (eC (.int 7)),xD (eC (.int 6)),xD (eC (.int 5)),xD (eC (.int 4)),xD (eC (.int 3)),xD (e2 oMod (aa 4) (eC (.int 4294967296)))],xD (e2 oMod (e2 oDiv (aa 4) (eC (.int 7))) (eC (.int 4294967296)))]))) (bf) (eB ns (.m [] []) c z q)=.ok (.next (eB ns (.m [] []) c z {q with sv:=.d sv})):=by
  by_cases h:z / 64 % 3=1
  ·refine⟨.tup [.lst [.int 9,.int 8,.int 7,.int 6,.int 5,.int 4,.int 3,.int (z % 4294967296)],.int (z / 7 % 4294967296)],⟨by kernel_rfl,IR (by kernel_rfl)⟩,λq _=>?_⟩
   rw[b7 (bj (b:=true) (by rw[fX (cL (dw rfl rfl (by decide)) rfl (by decide)) rfl,GT h]))]
   refine nE (d:=.tup [.lst [.int 9,.int 8,.int 7,.int 6,.int 5,.int 4,.int 3,.int (z % 4294967296)],.int (z / 7 % 4294967296)]) ?_ (by kernel_rfl)
   have a:(e2 oMod (aa 4) (eC (.int 4294967296))) (eB ns (.m [] []) c z q)=.ok (.int (z % 4294967296)):=cL rfl rfl (by decide)
   have b:(e2 oMod (e2 oDiv (aa 4) (eC (.int 7))) (eC (.int 4294967296))) (eB ns (.m [] []) c z q)=.ok (.int (z / 7 % 4294967296)):=cL (dw rfl rfl (by decide)) rfl (by decide)
   unfold eX xT;simp only[fQ,xL,xD,a,b,R.aJ,eC];rfl
  ·refine⟨.aj,⟨rfl,Rf _⟩,λq hq=>?_⟩
   rw[bY (bj (by rw[fX (cL (dw rfl rfl (by decide)) rfl (by decide)) rfl,JU h]))]
   rw[<-hq]
 let q1:Q:={q0 with r:=z % 4,u:=decide (z / 4 % 2=1),hr:=hr,sv:=.d sv,ro:=z / 128 % 4294967296,pg:=.m [.inl (z / 256 % 4000),.inl 4005,.inl 4006] [.d (.tup [S "own",W w1]),.d (.tup [S "lent",.int 6]),.d (.tup [S "lent",.int 6])],hn:=.m [.inl (1+z / 512 % 7)] [.d (.int 0)]}
 refine⟨(z / 256 % 4000,w1),q1,w2,⟨Vt,l1⟩,.of (by unfold Nd;simp) λy hy=>?_,λy hy=>?_,l2,?_⟩
 ·rw[SC.mp hy]
  refine⟨?_,rfl,(λe=>nomatch e),⟨?_,?_⟩,Vo,rfl⟩
  ·show 1<=1+z / 1024 % 15/\1+z / 1024 % 15<=15
   omega
  ·exact lg (ks:=[.inl (1+z / 512 % 7)]) (vs:=[.int 0]) (by simp) rfl (IR rfl) rfl
  ·exact IR rfl
 ·rw[SC.mp hy];exact .inl rfl
 rw[m9];refine u5 ?_;show aw _ [.sh (.lst (ns.map .int)),.un,.un,.un,.un,.un]=_;rw[aA (ρ':=[.sh (.lst (ns.map .int)),.un,.on (.tr (t0 (.m [] []))),.un,.un,.un]) (by kernel_rfl)]
 rw[aA (bQ (cy rfl rfl hc))];show aw _ [.sh (.lst (ns.map .int)),.un,.on (.tr (t0 (.m [] []))),.sh (.int c),.un,.un]=_;rw[aA (bQ (cy rfl rfl hz))];show aw _ [.sh (.lst (ns.map .int)),.un,.on (.tr (t0 (.m [] []))),.sh (.int c),.sh (.int z),.un]=_;rw[aA (ρ':=eB ns (.m [] []) c z q0) (by kernel_rfl)]
 rw[aA (nE (x:={q0 with r:=z % 4}) (cL rfl rfl (by decide)) (by kernel_rfl))]
 rw[aA (nE (x:={q0 with r:=z % 4,u:=decide (z / 4 % 2=1)}) (fX (cL (dw rfl rfl (by decide)) rfl (by decide)) rfl) (by kernel_rfl))]
 rw[aA (nE (x:={q0 with r:=z % 4,u:=decide (z / 4 % 2=1),hr:=hr}) (T4 _) (by kernel_rfl))]
 rw[aA (UI _ rfl)];rw[aA (nE (q:={q0 with r:=z % 4,u:=decide (z / 4 % 2=1),hr:=hr,sv:=.d sv}) (x:={q0 with r:=z % 4,u:=decide (z / 4 % 2=1),hr:=hr,sv:=.d sv,ro:=z / 128 % 4294967296}) (cL (dw rfl rfl (by decide)) rfl (by decide)) (by kernel_rfl))]
 rw[aA (jc (z:=.inl (z / 256 % 4000)) (p:=[4]) (ks:=[]) (ts:=[]) (t':=Q.t {q0 with r:=z % 4,u:=decide (z / 4 % 2=1),hr:=hr,sv:=.d sv,ro:=z / 128 % 4294967296,pg:=.m [.inl (z / 256 % 4000)] [.d (.tup [S "own",W w1])]}) (GH rfl (jk rfl e1)) (gJ (p:=[]) rfl rfl rfl rfl (by kernel_rfl)) (cL (dw rfl rfl (by decide)) rfl (by decide)) rfl rfl rfl (by decide) (by kernel_rfl))]
 show aw _ (eB ns (.m [] []) c z {q0 with r:=z % 4,u:=decide (z / 4 % 2=1),hr:=hr,sv:=.d sv,ro:=z / 128 % 4294967296,pg:=.m [.inl (z / 256 % 4000)] [.d (.tup [S "own",W w1])]})=_
 rw[aA (jc (z:=.inl 4005) (p:=[4]) (ks:=[.inl (z / 256 % 4000)]) (ts:=[.d (.tup [S "own",W w1])]) (t':=Q.t {q0 with r:=z % 4,u:=decide (z / 4 % 2=1),hr:=hr,sv:=.d sv,ro:=z / 128 % 4294967296,pg:=.m [.inl (z / 256 % 4000),.inl 4005] [.d (.tup [S "own",W w1]),.d (.tup [S "lent",.int 6])]}) (d:=.tup [S "lent",.int 6]) rfl (gJ (p:=[]) rfl rfl rfl rfl (by kernel_rfl)) rfl rfl rfl rfl (IR rfl) (by
  rw[zc (k':=0) λa ha e=>by rw[SC.mp ha]at e;injection e with e;omega];kernel_rfl))]
 show aw _ (eB ns (.m [] []) c z {q0 with r:=z % 4,u:=decide (z / 4 % 2=1),hr:=hr,sv:=.d sv,ro:=z / 128 % 4294967296,pg:=.m [.inl (z / 256 % 4000),.inl 4005] [.d (.tup [S "own",W w1]),.d (.tup [S "lent",.int 6])]})=_
 rw[aA (jc (z:=.inl 4006) (p:=[4]) (ks:=[.inl (z / 256 % 4000),.inl 4005]) (ts:=[.d (.tup [S "own",W w1]),.d (.tup [S "lent",.int 6])]) (t':=Q.t {q0 with r:=z % 4,u:=decide (z / 4 % 2=1),hr:=hr,sv:=.d sv,ro:=z / 128 % 4294967296,pg:=.m [.inl (z / 256 % 4000),.inl 4005,.inl 4006] [.d (.tup [S "own",W w1]),.d (.tup [S "lent",.int 6]),.d (.tup [S "lent",.int 6])]}) (d:=.tup [S "lent",.int 6]) rfl (gJ (p:=[]) rfl rfl rfl rfl (by kernel_rfl)) rfl rfl rfl rfl (IR rfl) (by
  rw[zc (k':=0) λa ha e=>by
   simp only[AC,Mk,VZ]at ha;rcases ha with rfl|rfl<;>injection e with e<;>omega]
  kernel_rfl))]
 show aw _ (eB ns (.m [] []) c z {q0 with r:=z % 4,u:=decide (z / 4 % 2=1),hr:=hr,sv:=.d sv,ro:=z / 128 % 4294967296,pg:=.m [.inl (z / 256 % 4000),.inl 4005,.inl 4006] [.d (.tup [S "own",W w1]),.d (.tup [S "lent",.int 6]),.d (.tup [S "lent",.int 6])]})=_;rw[aA (jc (z:=.inl (1+z / 512 % 7)) (p:=[5]) (ks:=[]) (ts:=[]) (t':=q1.t) (d:=.int 0) rfl (gJ (p:=[]) rfl rfl rfl rfl (by kernel_rfl)) (lj rfl (cL (dw rfl rfl (by decide)) rfl (by decide))) rfl rfl rfl (by decide) (by kernel_rfl))]
 show aw _ (eB ns (.m [] []) c z q1)=_;rw[aA (jc (z:=.inl 6) (p:=[1]) (ks:=[]) (ts:=[]) (t':=t0 (aM (W w2) true)) (d:=W w2) (jk rfl Nv) (gJ (p:=[]) rfl rfl rfl rfl (by kernel_rfl)) rfl rfl rfl rfl (by decide) (by kernel_rfl))]
 show aw _ (eB ns (aM (W w2) true) c z q1)=_
 rw[aA (ρ':=[.sh (.lst (ns.map .int)),.un,.on (.tr (sT [q1] (aM (W w2) true))),.sh (.int c),.sh (.int z),.un]) (by
  unfold nZ;rw[gJ (p:=[]) (m:=0) rfl rfl rfl rfl (by kernel_rfl),R.aJ]
  rw[lj rfl (cL (dw rfl rfl (by decide)) rfl (by decide)),R.aJ]
  kernel_rfl)]
 kernel_rfl
end
noncomputable def eT(ns:VH)(K:List Q)(l:T)(x3 x4 x5 x6 x7 x8 x9 x10 x11:Option D):En:=[.sh (.lst (ns.map .int)),.un,.on (.tr (sT K l)),aT x3,aT x4,aT x5,aT x6,aT x7,aT x8,aT x9,aT x10,aT x11]
theorem iQ{i:Nat}{t:T}{x:Option D}:cK i t (aT x)=aT x:=by cases x<;>rfl
theorem iX{i:Nat}{p:List Nat}{x:Option D}:eK i p (aT x)=aT x:=by cases x<;>rfl
section
variable{ns:VH}{K:List Q}{l:T}{q:Q}{A:Int×VH}{b:Bool}{v:D}{k:Int}{x3 x4 x5 x6 x7 x8 x9 x10 x11:Option D}
theorem o6:bK 2 (sT K l) (eT ns K l x3 x4 x5 x6 x7 x8 x9 x10 x11)=[.sh (.lst (ns.map .int)),.un,.sh (sD K l.toD),aT x3,aT x4,aT x5,aT x6,aT x7,aT x8,aT x9,aT x10,aT x11]:=by
 unfold bK;rw[AZ];show [.sh (.lst (ns.map .int)),.un,.sh (sD K l.toD),cK 2 (sT K l) (aT x3),cK 2 (sT K l) (aT x4),cK 2 (sT K l) (aT x5),cK 2 (sT K l) (aT x6),cK 2 (sT K l) (aT x7),cK 2 (sT K l) (aT x8),cK 2 (sT K l) (aT x9),cK 2 (sT K l) (aT x10),cK 2 (sT K l) (aT x11)]=_;rw[iQ,iQ,iQ,iQ,iQ,iQ,iQ,iQ,iQ]
theorem J2{K':List Q}{l':T}{p:List Nat}:(b9 2 p (eT ns K l x3 x4 x5 x6 x7 x8 x9 x10 x11)).set 2 (.on (.tr (sT K' l')))=eT ns K' l' x3 x4 x5 x6 x7 x8 x9 x10 x11:=by
 show [.sh (.lst (ns.map .int)),.un,.on (.tr (sT K' l')),eK 2 p (aT x3),eK 2 p (aT x4),eK 2 p (aT x5),eK 2 p (aT x6),eK 2 p (aT x7),eK 2 p (aT x8),eK 2 p (aT x9),eK 2 p (aT x10),eK 2 p (aT x11)]=_;rw[iX,iX,iX,iX,iX,iX,iX,iX,iX];rfl
noncomputable def ia(K:List Q):VH:=(b8 (K.map Q.id)).filter λi=>nA (cD K i).w.d
theorem BO{i:Int}(nd:Nd K)(h:i∈ia K):∃q∈K,q.id=i/\q.w=.bN:=by
 obtain⟨h1,h2⟩:=V1.mp h;obtain⟨q,hq,rfl⟩:=lA h1;rw[dI nd hq]at h2;refine⟨q,hq,rfl,?_⟩;cases hw:q.w with
 |bN=>rfl
 |_=>rw[hw]at h2;cases h2
theorem IL(h:bh A K):cS 2 (bJ (dy (e1 gG (e2 av (aa 2) (eC (S "tasks"))))) 1 [2] (aF 0) [tV (e1 lW (e2 av (e2 av (e2 av (aa 1) (eC (S "tasks"))) (aa 0)) (eC (S "waits"))))] (aa 0)) (eT ns K l x3 x4 x5 x6 x7 x8 x9 x10 x11)=.ok (.lst ((ia K).map .int)):=by
 have hl:=h.len;show((bJ _ _ _ _ _ _ (bK 2 (sT K l) (eT ns K l x3 x4 x5 x6 x7 x8 x9 x10 x11))).bind λd=>match d with|.lst ds=>if fB ds=true then R.ok (D.lst ds)else .bad|_=>.bad)=_
 rw[o6,fI (ds:=(b8 (K.map Q.id)).map .int) (ys:=(ia K).map .int) ?_ (by rw[Do,pF];omega) ?_,R.aJ]
 ·exact u9 (oq _)
 ·show(e1 gG _ _).bind _=_
  rw[d4 (i7 (l:=l.toD) rfl) (uV hl)];rfl
 ·refine jh (u:=D.int) (p:=λi=>nA (cD K i).w.d) (v:=D.int) λi hi=>⟨[.sh (.int i),.sh (sD K l.toD)],rfl,?_,λ_=>rfl⟩
  obtain⟨q,hq,rfl⟩:=lA hi;rw[dI h.nd hq];show(tV _ _).bind _=_;rw[bj (d4 (o:=lW) (aW (fi rfl rfl h.nd hq) rfl j7) rfl),R.aJ];cases nA q.w.d<;>rfl
theorem D5{mW:T->List D->R (D×T)}{fs:List Ex}{ds:List D}{t t':T}{d:D}{ρ:En}(hf:eList fs ρ=.ok ds)(hi:ρ[2]? =some (.on (.tr t)))(hm:mW t ds=.ok (d,t'))(ho:t'.own=true):i4 (iL 2 mW fs) ρ=.ok (.next ((b9 2 [] ρ).set 2 (.on (.tr t')))):=by
 unfold i4 iL;simp only[hf,R.aJ,hi,hm,ho,Xc]
theorem Gx{f:List D->R D}{a b c d e g:Ex}{ρ:En}{x y z w u t r:D}(ha:a ρ=.ok x)(hb:b ρ=.ok y)(hc:c ρ=.ok z)(hd:d ρ=.ok w)(he:e ρ=.ok u)(hg:g ρ=.ok t)(h:f [x,y,z,w,u,t]=.ok r):aG f [a,b,c,d,e,g] ρ=.ok r:=by
 simp only[aG,eList,ha,hb,hc,hd,he,hg,R.aJ];exact h
theorem Iq{z:Int}:∃n:Int,0<=n/\n<=3/\av (.lst [.int 0,.int 0,.int 1,.int 1,.int 1,.int 1,.int 2,.int 2,.int 2,.int 3]) (.int (z % 10))=.ok (.int n):=by
 have h:z % 10=0\/z % 10=1\/z % 10=2\/z % 10=3\/z % 10=4\/z % 10=5\/z % 10=6\/z % 10=7\/z % 10=8\/z % 10=9:=by omega
 rcases h with h|h|h|h|h|h|h|h|h|h<;>rw[h]
 ·exact⟨0,by decide,by decide,rfl⟩
 ·exact⟨0,by decide,by decide,rfl⟩
 ·exact⟨1,by decide,by decide,rfl⟩
 ·exact⟨1,by decide,by decide,rfl⟩
 ·exact⟨1,by decide,by decide,rfl⟩
 ·exact⟨1,by decide,by decide,rfl⟩
 ·exact⟨2,by decide,by decide,rfl⟩
 ·exact⟨2,by decide,by decide,rfl⟩
 ·exact⟨2,by decide,by decide,rfl⟩
 ·exact⟨3,by decide,by decide,rfl⟩
theorem Kb{c:Int}(hA:HA A)(hv:nice v=true/\bT v<=3)(h:bh A K)(hp:PO K)(k0:0<=k)(k1:k<1000)(hc:cM (ns.map D.int) k=some (.int c)):
  jS (eT ns K (aM v b) (some (.int k)) x4 x5 x6 x7 x8 x9 x10 x11)=.ok (.ret (.bl true))\/∃K' b' y4 y5 y6 y7 y8 y9 OF OA,jS (eT ns K (aM v b) (some (.int k)) x4 x5 x6 x7 x8 x9 x10 x11)=.ok (.next (eT ns K' (aM v b') (some (.int k)) y4 y5 y6 y7 y8 y9 OF OA))/\bh A K'/\PO K':=by
 obtain⟨z,z0,ez⟩:=zj c (k:=16*k+2) (by omega) (by omega)
 rw[jS];rw[aA (bQ (IL h))];show aw _ (eT ns K (aM v b) (some (.int k)) (some (.lst ((ia K).map .int))) x5 x6 x7 x8 x9 x10 x11)=_\/∃K' b' y4 y5 y6 y7 y8 y9 OF OA,aw _ (eT ns K (aM v b) (some (.int k)) (some (.lst ((ia K).map .int))) x5 x6 x7 x8 x9 x10 x11)=_/\_;rw[aA (bQ (cy (aW rfl rfl (nh hc)) (lj (kB rfl rfl (.inl (by decide))) rfl) ez))]
 show aw _ (eT ns K (aM v b) (some (.int k)) (some (.lst ((ia K).map .int))) (some (.int z)) x6 x7 x8 x9 x10 x11)=_\/∃K' b' y4 y5 y6 y7 y8 y9 OF OA,aw _ (eT ns K (aM v b) (some (.int k)) (some (.lst ((ia K).map .int))) (some (.int z)) x6 x7 x8 x9 x10 x11)=_/\_;have et:(tV (e2 oEq (aa 4) (cC []))) (eT ns K (aM v b) (some (.int k)) (some (.lst ((ia K).map .int))) (some (.int z)) x6 x7 x8 x9 x10 x11)=.ok (ia K).isEmpty:=bj (aW (o:=oEq) rfl (y:=.lst []) rfl (eq_nil _));cases hr:ia K with
 | nil=>
  rw[hr]at et;exact .inl (bB (by rw[b7 et];rfl))
 | cons r0 rs=>
  right;rw[hr]at et;rw[aA (bY et)];obtain⟨i,hi,ei⟩:=uo (xs:=r0::rs) (i:=z % ((r0::rs).length:Int)) (WB _ (by simp;omega)) (Xo _ (by simp))
  obtain⟨q,hq,rfl,hw⟩:=BO h.nd (by rw[hr];exact hi)
  rw[aA (bQ (d:=.int q.id) (aW rfl (cL (u:=((r0::rs).length:Int)) rfl (d4 rfl (by show R.ok (D.int (((r0::rs).map D.int).length:Int))=_;rw[Do])) (by simp)) (nh ei)))]
  show ∃K' b' y4 y5 y6 y7 y8 y9 OF OA,aw _ (eT ns K (aM v b) (some (.int k)) (some (.lst ((r0::rs).map .int))) (some (.int z)) (some (.int q.id)) x7 x8 x9 x10 x11)=_/\_;obtain⟨n,n0,n3,en⟩:=Iq (z:=z / 16);rw[aA (bQ (d:=.int n) (aW (x:=.lst [.int 0,.int 0,.int 1,.int 1,.int 1,.int 1,.int 2,.int 2,.int 2,.int 3]) rfl (cL (dw rfl rfl (by decide)) rfl (by decide)) en))]
  show ∃K' b' y4 y5 y6 y7 y8 y9 OF OA,aw _ (eT ns K (aM v b) (some (.int k)) (some (.lst ((r0::rs).map .int))) (some (.int z)) (some (.int q.id)) (some (.int n)) x8 x9 x10 x11)=_/\_
  obtain⟨a,a0,ea⟩:∃a:Int,0<=a/\(e2 av (cC [e2 oMod (e2 oDiv (aa 5) (eC (.int 640))) (eC (.int 6)),e2 oMod (e2 oDiv (aa 5) (eC (.int 640))) (eC (.int 4294967296))]) (e2 oDiv (e2 oMod (e2 oDiv (aa 5) (eC (.int 160))) (eC (.int 4))) (eC (.int 3)))) (eT ns K (aM v b) (some (.int k)) (some (.lst ((r0::rs).map .int))) (some (.int z)) (some (.int q.id)) (some (.int n)) x8 x9 x10 x11)=.ok (.int a):=by
   have q1:(e2 oMod (e2 oDiv (aa 5) (eC (.int 640))) (eC (.int 6))) (eT ns K (aM v b) (some (.int k)) (some (.lst ((r0::rs).map .int))) (some (.int z)) (some (.int q.id)) (some (.int n)) x8 x9 x10 x11)=.ok (.int (z / 640 % 6)):=cL (dw rfl rfl (by decide)) rfl (by decide)
   have q2:(e2 oMod (e2 oDiv (aa 5) (eC (.int 640))) (eC (.int 4294967296))) (eT ns K (aM v b) (some (.int k)) (some (.lst ((r0::rs).map .int))) (some (.int z)) (some (.int q.id)) (some (.int n)) x8 x9 x10 x11)=.ok (.int (z / 640 % 4294967296)):=cL (dw rfl rfl (by decide)) rfl (by decide)
   have q3:(cC [e2 oMod (e2 oDiv (aa 5) (eC (.int 640))) (eC (.int 6)),e2 oMod (e2 oDiv (aa 5) (eC (.int 640))) (eC (.int 4294967296))]) (eT ns K (aM v b) (some (.int k)) (some (.lst ((r0::rs).map .int))) (some (.int z)) (some (.int q.id)) (some (.int n)) x8 x9 x10 x11)=.ok (.lst [.int (z / 640 % 6),.int (z / 640 % 4294967296)]):=by
    simp only[cC,eList,q1,q2,R.aJ]
   have hj:z / 160 % 4 / 3=0\/z / 160 % 4 / 3=1:=by omega
   rcases hj with hj|hj
   ·exact⟨z / 640 % 6,WB _ (by decide),aW q3 (dw (cL (dw rfl rfl (by decide)) rfl (by decide)) rfl (by decide)) (by rw[hj];rfl)⟩
   ·exact⟨z / 640 % 4294967296,WB _ (by decide),aW q3 (dw (cL (dw rfl rfl (by decide)) rfl (by decide)) rfl (by decide)) (by rw[hj];rfl)⟩
  rw[aA (bQ ea)];show ∃K' b' y4 y5 y6 y7 y8 y9 OF OA,aw _ (eT ns K (aM v b) (some (.int k)) (some (.lst ((r0::rs).map .int))) (some (.int z)) (some (.int q.id)) (some (.int n)) (some (.int a)) x9 x10 x11)=_/\_;have hn:NC (sD K (a9 v b)):=Bk hA h hv
  have ex:l6 2 (cG gN [aa 2]) (eT ns K (aM v b) (some (.int k)) (some (.lst ((r0::rs).map .int))) (some (.int z)) (some (.int q.id)) (some (.int n)) (some (.int a)) x9 x10 x11)=.ok (aS (sD K (a9 v b))):=by
   show((cG gN [aa 2]) (bK 2 (sT K (aM v b)) (eT ns K (aM v b) (some (.int k)) (some (.lst ((r0::rs).map .int))) (some (.int z)) (some (.int q.id)) (some (.int n)) (some (.int a)) x9 x10 x11))).bind (λu=>if T.iN u=true then R.ok u else .bad)=_
   rw[o6,vv,j9 rfl (sG hn),R.aJ,u9 (sO _ hn.1)]
  rw[aA (ρ':=(eT ns K (aM v b) (some (.int k)) (some (.lst ((r0::rs).map .int))) (some (.int z)) (some (.int q.id)) (some (.int n)) (some (.int a)) x9 x10 x11).set 9 (.on (.tr (aS (sD K (a9 v b)))))) (by
   unfold ib;rw[ex,R.aJ,u9 ⟨by cases x9<;>cases x10<;>cases x11<;>rfl,by decide⟩])]
  rw[aA (ρ':=eT ns K (aM v b) (some (.int k)) (some (.lst ((r0::rs).map .int))) (some (.int z)) (some (.int q.id)) (some (.int n)) (some (.int a)) (some (sD K (a9 v b))) x10 x11) (by
   show R.ok (Fl.next ([.sh (.lst (ns.map .int)),.un,.on (.tr (sT K (aM v b))),.sh (.int k),.sh (.lst ((r0::rs).map .int)),.sh (.int z),.sh (.int q.id),.sh (.int n),.sh (.int a),.sh (T.toD (aS (sD K (a9 v b)))),aT x10,aT x11]))=_;rw[iP];rfl)]
  obtain⟨K',b',ec,ep,h',Su,ee⟩:=Fz (v:=v) (b:=b) hA h hp hq hw a0 n0 n3;have NV:NC (sD K' (a9 v b')):=Bk hA h' hv;rw[aA (by rw[D5 (ds:=[.int q.id,.int n,.int a]) rfl rfl ec rE,J2])]
  rw[aA (bQ (d:=sD K (a9 v b)) (by rw[yW (j9 rfl (sG hn)),iP]))]
  show ∃K' b' y4 y5 y6 y7 y8 y9 OF OA,aw _ (eT ns _ (aM v _) (some (.int k)) (some (.lst ((r0::rs).map .int))) (some (.int z)) (some (.int q.id)) (some (.int n)) (some (.int a)) (some (sD K (a9 v b))) (some (sD K (a9 v b))) x11)=_/\_;rw[aA (bQ (Gx rfl rfl rfl rfl rfl rfl ep))];refine⟨K',b',some (.lst ((r0::rs).map .int)),some (.int z),some (.int q.id),some (.int n),some (.int a),some (sD K (a9 v b)),some (sD K (a9 v b)),some (sD K' (a9 v b')),?_,h',Su⟩;show aw _ (eT ns K' (aM v b') (some (.int k)) (some (.lst ((r0::rs).map .int))) (some (.int z)) (some (.int q.id)) (some (.int n)) (some (.int a)) (some (sD K (a9 v b))) (some (sD K (a9 v b))) (some (sD K' (a9 v b'))))=_
  rw[aA (bY (show gp 2 _ _=_ from by
   show f6 _ _ (bK 2 (sT K' (aM v b')) (eT ns K' (aM v b') (some (.int k)) (some (.lst ((r0::rs).map .int))) (some (.int z)) (some (.int q.id)) (some (.int n)) (some (.int a)) (some (sD K (a9 v b))) (some (sD K (a9 v b))) (some (sD K' (a9 v b')))))=_;rw[o6,vv];exact xl (b:=false) (c:=false) (oY (bj (b:=true) (cy rfl rfl (same_self NV)))) (oY (bj (b:=true) (cy rfl rfl (same_self hn))))))]
  rw[aA (bY (show gp 2 _ _=_ from by
   show il _ _ (bK 2 (sT K' (aM v b')) (eT ns K' (aM v b') (some (.int k)) (some (.lst ((r0::rs).map .int))) (some (.int z)) (some (.int q.id)) (some (.int n)) (some (.int a)) (some (sD K (a9 v b))) (some (sD K (a9 v b))) (some (sD K' (a9 v b')))))=_;rw[o6,vv];by_cases hn0:n=0
   ·exact Cg (b:=true) (c:=false) (bj (by rw[fX (i:=n) (u:=0) rfl rfl,GT hn0])) (oY (bj (b:=true) (cy (dN rfl rfl rfl (ee hn0)) rfl (same_self NV))))
   ·exact y0 (bj (by rw[fX (i:=n) (u:=0) rfl rfl,JU hn0]))))]
  rfl
theorem zY{tg:bL}{body:Sm}(P:En->Prop):∀ {ds:List D},(∀d∈ds,∀ρ,P ρ->∃LJ,tg d ρ=.ok LJ/\(body LJ=.ok (.ret (.bl true))\/∃LZ,body LJ=.ok (.next LZ)/\P LZ))->∀ρ,P ρ->forL tg body ds ρ=.ok (.ret (.bl true))\/∃ρ',forL tg body ds ρ=.ok (.next ρ')
 |[],_,ρ,_=>.inr ⟨ρ,rfl⟩
 | d::ds,h,ρ,Mo=>by
  obtain⟨LJ,e1,h1⟩:=h d v3 ρ Mo;unfold forL;rw[e1,R.aJ];rcases h1 with h1|⟨LZ,h1,p2⟩
  ·rw[h1];exact .inl rfl
  ·rw[h1];exact zY P (λx hx=>h x (rU _ hx)) LZ p2
theorem FR(ns:VH):ml [.lst (ns.map .int)]=.ok (.bl true):=by
 obtain⟨A,q,w,hA,h,hp,lw,eb⟩:=GJ ns;rw[ml];refine ck ?_;show aw _ [.sh (.lst (ns.map .int)),.un,.un,.un,.un,.un,.un,.un,.un,.un,.un,.un]=_
 rw[aA (ρ':=eT ns [q] (aM (W w) true) none none none none none none none none none) (by
  unfold ib;rw[j9 rfl eb,R.aJ,u9 ⟨rfl,by decide⟩];rfl)]
 have em:(e2 pE (e1 iH (aa 0)) (eC (.int 62))) (eT ns [q] (aM (W w) true) none none none none none none none none none)=.ok (.int (if(62:Int)<ns.length then 62 else ns.length)):=by
  refine aW (x:=.int ns.length) (y:=.int 62) ?_ rfl rfl;refine d4 rfl ?_;show R.ok (D.int ((ns.map D.int).length:Int))=_;rw[Do]
 have hv:nice (W w)=true/\bT (W w)<=3:=⟨zV lw,by rw[xZ];decide⟩
 have hit:=sC (a:=eC (.int 2)) (I:=2) rfl em (by decide) (yx (by split<;>omega) (by split<;>omega))
 rcases zY (tg:=aF 3) (body:=jS) (λρ=>∃K b x3 x4 x5 x6 x7 x8 x9 x10 x11,ρ=eT ns K (aM (W w) b) x3 x4 x5 x6 x7 x8 x9 x10 x11/\bh A K/\PO K) (ds:=d6 2 (if(62:Int)<ns.length then 62 else ns.length)) (by
  rintro d hd ρ ⟨K,b,x3,x4,x5,x6,x7,x8,x9,x10,x11,rfl,h,hp⟩;obtain⟨k,rfl,k0,k1⟩:=Gw hd;have hk:k<ns.length/\k<1000:=by split at k1<;>omega
  obtain⟨c,_,hc⟩:=uo (xs:=ns) (i:=k) (by omega) hk.1
  refine⟨eT ns K (aM (W w) b) (some (.int k)) x4 x5 x6 x7 x8 x9 x10 x11,rfl,?_⟩;rcases Kb (x4:=x4) (x5:=x5) (x6:=x6) (x7:=x7) (x8:=x8) (x9:=x9) (x10:=x10) (x11:=x11) (b:=b) hA hv h hp (by omega) hk.2 hc with e|⟨K',b',y4,y5,y6,y7,y8,y9,OF,OA,e,h',Su⟩
  ·exact .inl e
  ·exact .inr ⟨_,e,K',b',_,y4,y5,y6,y7,y8,y9,OF,OA,rfl,h',Su⟩) _ ⟨[q],true,none,none,none,none,none,none,none,none,none,rfl,h,hp⟩with e|⟨ρ',e⟩
 ·exact bB (gT hit e)
 ·rw[aA (gT hit e)]
  exact bB (bW rfl)
end
end dn
open PySem PySem.Spec
open L2 (V Hp HO Cx PE PT PW PA PS cq PG di VK TE TT TA TS TI TG Inv RelV Vals Rd bt bH upd ah Key XK Ends a7 fS bM R2 EP It Turn cO)
theorem aI{X:L2.Cx}:XA X [] (eList []):=⟨gh ⟩
theorem ag{X:L2.Cx}{e:Expr}{es:Y4}{f:Ex}{fs:List Ex}(ha:XE X e f)(hr:XA X es (eList fs))(hs:starEach (e::es) X.env=(false,eval e X.env)::starEach es X.env:=by exact bw (by rfl)):XA X (e::es) (eList (f::fs)):=⟨eO ha.out hr.out hs⟩
theorem bA{X:L2.Cx}:gg X [] (aw []):=⟨zR ⟩
theorem cg{X:L2.Cx}:gg X [] bf:=⟨Ir ⟩
theorem cv{X:Cx}{e:Expr}{f:Ex}(h:XE X e f):XX X e (xD f):=⟨Ae h.out⟩
theorem nX{X:L2.Cx}{e:Expr}{it:bV}{n:Nat}{fv:List Nat}{tg:bL}{cs:List aY}{el:Ex}(h:XF X e (bJ it n fv tg cs el)):XE X e (bJ it n fv tg cs el):=⟨xh h.out uI⟩
theorem Fn{X:L2.Cx}{pos py MI:Pos}{y:Str}(i:Nat)(tn:List Str)(fv:List Str)(LK:List Nat){elt iter target:Expr}{ifs:Y4}{scope:Scope}{it:bV}{tg:bL}{cs:List aY}{el:Ex}(ok:je X scope tn fv LK)(hi:XI X target iter it)(ht:∀cl C s H fp,XG (cF X scope cl C (tn++fv) s H fp) target tg)(MK:∀cl C s H fp,jC (cF X scope cl C (tn++fv) s H fp) ifs cs)(MU:∀cl C s H fp,XE (cF X scope cl C (tn++fv) s H fp) elt el)(hN:X.N.Nodup)(M8:∀e s,¬X.xe e s:=by exact λ_ _ h=>h)(hc:X.calm=true:=by rfl)(low:iw tn.length tg:=by exact om (by decide))(hs:∀x,foldedSetIterable iter X.env x=pure x:=by exact mi (by rfl))(hy:X.N[i]? =some y:=by rfl)(hx:L2.Loc X.env.scope y:=by exact Or.inl rfl)(hf:X.fn y=true\/X.env.scope.names.lookup y=some .local:=by exact .inl rfl)(MJ:swapsWith (.ListComp elt [⟨target,iter,ifs,0⟩] scope pos) (some (.Name y py)) MI.line X.env=pure true:=by rfl):XS X (.Assign [.Name y py] (.ListComp elt [⟨target,iter,ifs,0⟩] scope pos) MI) (bb (aF i) (bJ it tn.length LK tg cs el)):=
 ⟨xK i (vK i tn fv LK M8 hc ok hi.out low (λcl C s H fp=>(ht cl C s H fp).out) (λcl C s H fp=>(MK cl C s H fp).out) (λcl C s H fp=>(MU cl C s H fp).out) hs hN hy hx hf MJ) uI⟩
theorem vh{X:L2.Cx}{e:Expr}{f:Ex}(h:XF X e f)(hl:∀ρ d,f ρ=.ok d->∃ds,d=.lst ds):XE X e f:=⟨xh h.out hl⟩
theorem fA{X:L2.Cx}:jC X [] []:=⟨.nil⟩
theorem jn{X:L2.Cx}{e:Expr}{es:Y4}{c:aY}{cs:List aY}(h:XT X e c)(r:jC X es cs):jC X (e::es) (c::cs):=⟨.cons h.out r.out⟩
theorem Ap{X:L2.Cx}{pos py MI:Pos}{y:Str}(i:Nat)(j:Nat)(tn:List Str)(fv:List Str)(LK:List Nat){elt iter target:Expr}{ifs:Y4}{scope:Scope}{it:bV}{tg:bL}{cs:List aY}{el:Ex}(ok:je X scope tn fv LK)(hi:XI X target iter it)(ht:∀cl C s H fp,XG (cF X scope cl C (tn++fv) s H fp) target tg)(MK:∀cl C s H fp,jC (cF X scope cl C (tn++fv) s H fp) ifs cs)(MU:∀cl C s H fp,XE (cF X scope cl C (tn++fv) s H fp) elt el)(hN:X.N.Nodup)(M8:∀e s,¬X.xe e s:=by exact λ_ _ h=>h)(hc:X.calm=true:=by rfl)(low:iw tn.length tg:=by exact om (by decide))(hs:∀x,foldedSetIterable iter X.env x=pure x:=by exact mi (by rfl))(hy:X.N[i]? =some y:=by rfl)(hx:L2.Loc X.env.scope y:=by exact Or.inl rfl)(hf:X.fn y=true\/X.env.scope.names.lookup y=some .local:=by exact .inl rfl)(MJ:swapsWith (.ListComp elt [⟨target,iter,ifs,0⟩] scope pos) (some (.Name y py)) MI.line X.env=pure true:=by rfl):XS X (.Assign [.Name y py] (.ListComp elt [⟨target,iter,ifs,0⟩] scope pos) MI) (bb (aF i) (cS j (bJ it tn.length LK tg cs el))):=
 ⟨xK i (HG j i (vK i tn fv LK M8 hc ok hi.out low (λcl C s H fp=>(ht cl C s H fp).out) (λcl C s H fp=>(MK cl C s H fp).out) (λcl C s H fp=>(MU cl C s H fp).out) hs hN hy hx hf MJ)) uX⟩
theorem Hb{X:L2.Cx}{pos py MI:Pos}{y:Str}(i:Nat)(j:Nat)(tn:List Str)(fv:List Str)(LK:List Nat){elt iter target:Expr}{ifs:Y4}{scope:Scope}{it:bV}{tg:bL}{cs:List aY}{el:Ex}(ok:je X scope tn fv LK)(hi:XI X target iter it)(ht:∀cl C s H fp,XG (cF X scope cl C (tn++fv) s H fp) target tg)(MK:∀cl C s H fp,jC (cF X scope cl C (tn++fv) s H fp) ifs cs)(MU:∀cl C s H fp,XE (cF X scope cl C (tn++fv) s H fp) elt el)(hN:X.N.Nodup)(M8:∀e s,¬X.xe e s:=by exact λ_ _ h=>h)(hc:X.calm=true:=by rfl)(low:iw tn.length tg:=by exact om (by decide))(hs:∀x,foldedSetIterable iter X.env x=pure x:=by exact mi (by rfl))(hy:X.N[i]? =some y:=by rfl)(hx:L2.Loc X.env.scope y:=by exact Or.inl rfl)(hf:X.fn y=true\/X.env.scope.names.lookup y=some .local:=by exact .inl rfl)(MJ:swapsWith (.ListComp elt [⟨target,iter,ifs,0⟩] scope pos) (some (.Name y py)) MI.line X.env=pure true:=by rfl):XS X (.Assign [.Name y py] (.ListComp elt [⟨target,iter,ifs,0⟩] scope pos) MI) (bb (aF i) (j5 j (bJ it tn.length LK tg cs el))):=
 ⟨Fb j i (vK i tn fv LK M8 hc ok hi.out low (λcl C s H fp=>(ht cl C s H fp).out) (λcl C s H fp=>(MK cl C s H fp).out) (λcl C s H fp=>(MU cl C s H fp).out) hs hN hy hx hf MJ)⟩
end PL
namespace PL
namespace dn
open PySem PySem.Spec
open L2 (Hp XK)
section
variable{P:Program}{w:World}{K:PySem.W.Frag}{mg:Str->Y6}{base:Heap}{f:Addr}{fd:FuncData}
noncomputable def top(i:Nat):Stmt:=PySem.Challenge.pw_underfloor_k19_parts_waits_and_ends.main.body.getD i (.Pass ⟨0,0,0,0⟩)
noncomputable abbrev u0:Stmt:=top 91
theorem J5:L2.ba [] [] (L2.aH u0):=bO
theorem BZ{P:Program}{w:World}{K:PySem.W.Frag}{mg:Str->Y6}{base:Heap}(F:FH P w K mg base "_law_plain" u0):cJ P w K mg base "_law_plain" 1 0 wa:=by
 have sc:=J5;refine k6 F sc (λ_ Lk A outer s H E hr=>?_)
 refine(bc ?_).out;refine lN ?_;exact(wt (f9 aB lU (f9 aB lU (f9 aB (wt (f9 au (vZ (c6 (cv aB) (c6 lU nK)) (show 2<=1000 from by decide)) vV)) (f9 aB lU (f9 aB (cv au) vV))))))
noncomputable abbrev wm:Stmt:=top 85
theorem Jy:L2.ba ["_law_script","_law_k"] ["_law_script","_law_k"] (L2.aH wm):=bO
theorem CY{P:Program}{w:World}{K:PySem.W.Frag}{mg:Str->Y6}{base:Heap}(F:FH P w K mg base "_law_cell_at" wm)(Ly:mg "len"=none):Df P w K mg base "_law_cell_at" 1 2 mU:=by
 have sc:=Jy;refine dF F sc (λ_ Lk A outer s H E hr=>?_);exact((aq (bG (cf L2.Dl FZ Hu (ab 1) (fh lO mr Ly i8 (ab 0))) (bc (bg (aN (ab 0) (ab 1)))) cg) (aq (bg au) bA))).out
noncomputable abbrev vL:Stmt:=top 86
theorem E7:L2.ba ["_law_cell","_law_k","_law_number","_law_j"] ["_law_cell","_law_k"] (L2.aH vL):=bO
theorem GR{P:Program}{w:World}{K:PySem.W.Frag}{mg:Str->Y6}{base:Heap}(F:FH P w K mg base "_law_mixed" vL)(Lo:mg "range"=none):Df P w K mg base "_law_mixed" 1 2 kC:=by
 have sc:=E7;refine dF F sc (λ_ Lk A outer s H E hr=>?_);exact((aq (bG (cf L2.Em Jz GI (ab 0) (a6 L2.p8 o8 au au)) (aq (b3 (a6 L2.DA Cs (ab 0) (a6 L2.p8 o8 au au)) (aZ 2 sc.nd)) (aq (jO (f:=mJ) (zx Lo (a6 L2.de dg (ab 1) au)) (aZ 3 sc.nd) (by delta mJ;exact(bc (b3 (a6 eJ d7 (ab 2) (a6 L2.p8 o8 au au)) (aZ 2 sc.nd))))) (aq (bg (a6 L2.de dg (ab 2) (a6 L2.p8 o8 au au))) bA))) cg) (aq (b3 (a6 L2.de dg (a6 L2.kO kA (a6 iO kK (a6 iO kK (ab 0) (a6 L2.kO kA (a6 L2.kO kA au (ab 1)) (ab 1))) au) au) au) (aZ 2 sc.nd)) (aq (bg (a6 L2.de dg (a6 L2.kO kA (ab 2) (ab 2)) au)) bA)))).out
noncomputable abbrev vp:Stmt:=top 90
theorem G1:L2.ba ["_law_parent","-0","_law_one"] ["_law_parent"] (L2.aH vp):=bO
theorem Jn{P:Program}{w:World}{K:PySem.W.Frag}{mg:Str->Y6}{base:Heap}(F:FH P w K mg base "_law_task" vp):cJ P w K mg base "_law_task" 1 1 vj:=by
 have sc:=G1;refine k6 F sc (λ_ Lk A outer s H E hr=>?_);exact((aq (mC 2 sc.nd (wt (f9 aB (cv (ab 0)) (f9 aB (cv au) (f9 aB (BC (c6 (cv au) (c6 (cv au) (c6 (cv au) (c6 (cv au) (c6 (cv au) (c6 (cv au) (c6 (cv au) (c6 (cv au) nK))))))))) (f9 aB (cv au) (f9 aB lU (f9 aB lU vV)))))))) (aq (qQ 2 hr.units (bR 2) aB (cv kZ)) (aq (qQ 2 hr.units (bR 2) aB (cv au)) (aq (qQ 2 hr.units (bR 2) aB (cv g8)) (aq (qQ 2 hr.units (bR 2) aB (cv kZ)) (aq (w6 2) bA))))))).out
noncomputable abbrev u7:Stmt:=top 89
theorem Ka:L2.ba ["_law_number","_law_words","_law_k"] ["_law_number"] (L2.aH u7):=bO
theorem Jh{P:Program}{w:World}{K:PySem.W.Frag}{mg:Str->Y6}{base:Heap}(F:FH P w K mg base "_law_page" u7)(Lo:mg "range"=none)(Ln:mg "tuple"=none):Df P w K mg base "_law_page" 1 1 lP:=by
 have sc:=Ka;refine dF F sc (λ_ Lk A outer s H E hr=>?_);exact((aq (sk 1 sc.nd (yZ aI)) (aq (jO (f:=qE) (zx Lo au) (aZ 2 sc.nd) (by delta qE;exact(aq (II 1 (a6 L2.de dg (a6 iO kK (ab 0) (a6 L2.kO kA (a6 L2.kO kA au (ab 2)) (ab 2))) au)) (aq (b3 (a6 eJ d7 (ab 0) au) (aZ 0 sc.nd)) bA)))) (mD 1 (aq (bg (J9 L2.yg FE Ln mq (ab 1))) bA))))).out
noncomputable abbrev vt:Stmt:=top 92
theorem C2:L2.ba ["_law_script","-0","_law_state","_law_first","_law_draw","_law_one"] ["_law_script"] (L2.aH vt):=bO
theorem Et{P:Program}{w:World}{K:PySem.W.Frag}{mg:Str->Y6}{base:Heap}(F:FH P w K mg base "_law_begun" vt)(L6:cJ P w K mg base "_law_plain" 1 0 wa)(LR:Df P w K mg base "_law_cell_at" 1 2 mU)(LB:Df P w K mg base "_law_mixed" 1 2 kC)(Ml:cJ P w K mg base "_law_task" 1 1 vj)(LS:Df P w K mg base "_law_page" 1 1 lP):cJ P w K mg base "_law_begun" 2 1 m9:=by
 have sc:=C2;refine k6 F sc (λ_ Lk A outer s H E hr=>?_)
 exact((aq (mC 2 sc.nd (BP L6 hr)) (aq (b3 (bp LR hr (ag (ab 0) (ag au aI)) (by decide)) (aZ 3 sc.nd)) (aq (b3 (bp LB hr (ag (ab 3) (ag au aI)) (by decide)) (aZ 4 sc.nd)) (aq (mC 5 sc.nd (iZ Ml hr (ag au aI) (by decide))) (aq (dh 5 hr.units (bR 5) aB (a6 L2.de dg (ab 4) au)) (aq (dh 5 hr.units (bR 5) aB (kr (cY hr.units) cR (a6 L2.de dg (a6 eJ d7 (ab 4) au) au) au)) (aq (dh 5 hr.units (bR 5) aB (aN (kg (ag au (ag (a6 L2.de dg (a6 eJ d7 (ab 4) au) au) aI))) (a6 L2.de dg (a6 eJ d7 (ab 4) au) au))) (aq (bG (cf (cY hr.units) cR eA (a6 L2.de dg (a6 eJ d7 (ab 4) au) au) au) (bc (dh 5 hr.units (bR 5) aB (wg (vZ (c6 (BC (c6 (cv au) (c6 (cv au) (c6 (cv au) (c6 (cv au) (c6 (cv au) (c6 (cv au) (c6 (cv au) (c6 (cv (a6 L2.de dg (ab 4) au)) nK))))))))) (c6 (cv (a6 L2.de dg (a6 eJ d7 (ab 4) au) au)) nK)) (show 2<=1000 from by decide))))) cg) (aq (dh 5 hr.units (bR 5) aB (a6 L2.de dg (a6 eJ d7 (ab 4) au) au)) (aq (dh 5 hr.units (bq (bR 5) aB) (a6 L2.de dg (a6 eJ d7 (ab 4) au) au) (gW (ag aB (ag (bp LS hr (ag (ab 3) aI) (by decide)) aI)))) (aq (dh 5 hr.units (bq (bR 5) aB) au (gW (ag aB (ag au aI)))) (aq (dh 5 hr.units (bq (bR 5) aB) au (gW (ag aB (ag au aI)))) (aq (dh 5 hr.units (bq (bR 5) aB) (a6 iO kK au (a6 L2.de dg (a6 eJ d7 (ab 4) au) au)) au) (aq (dh 2 hr.units (bq (bR 2) aB) au (bp LS hr (ag (ab 4) aI) (by decide))) (aq (zz 2 5 hr.units (bq (bR 2) aB) (a6 iO kK au (a6 L2.de dg (a6 eJ d7 (ab 4) au) au))) (aq (w6 2) bA))))))))))))))))).out
noncomputable abbrev j6:Stmt:=top 87
theorem xo:L2.ba ["_law_thing"] ["_law_thing"] (L2.aH j6):=bO
theorem Hx{P:Program}{w:World}{K:PySem.W.Frag}{mg:Str->Y6}{base:Heap}(F:FH P w K mg base "_law_copied" j6)(G':mg "dict"=none)(i':mg "isinstance"=none)(Lp:mg "list"=none)(Ln:mg "tuple"=none){j:Nat}{m:List D->R T}(MB:cJ P w K mg base "_law_copied" (1+j) 1 m):cJ P w K mg base "_law_copied" (1+(j+1)) 1 (ju m):=by
 have sc:=xo;refine k6 (k:=1+j) F sc (λ_ Lk A outer s H E hr=>?_);exact((aq (bG (ff (gM .dict (ab 0) i' G' lI)) (bc (lN (Hg G' (tS ["_law_key"] ["_law_thing"] [0] (fE (L2.aH j6) ["_law_thing"] (by rfl) (by rfl) (by decide+kernel)) (sA (ab 0)) (λcl C s H fp=>by exact(aZ 0 (show List.Nodup (["_law_key","_law_thing"]:List Str)from by decide+kernel))) (λcl C s H fp=>by exact fA) (λcl C s H fp=>by exact(vZ (c6 (cv (ab 0)) (c6 (iZ MB hr (ag (aN (ab 1) (ab 0)) aI) (Fk _)) nK)) (show 2<=1000 from by decide))))))) cg) (aq (bG (ff (gM .list (ab 0) i' Lp mz)) (bc (lN (tS ["_law_one"] [] [] (fE (L2.aH j6) ["_law_thing"] (by rfl) (by rfl) (by decide+kernel)) (ig (ab 0)) (λcl C s H fp=>by exact(aZ 0 (show List.Nodup (["_law_one"]:List Str)from by decide+kernel))) (λcl C s H fp=>by exact fA) (λcl C s H fp=>by exact(iZ MB hr (ag (ab 0) aI) (Fk _)))))) cg) (aq (bG (ff (gM .tuple (ab 0) i' Ln mq)) (bc (lN (GF Ln (tS ["_law_one"] [] [] (fE (L2.aH j6) ["_law_thing"] (by rfl) (by rfl) (by decide+kernel)) (ig (ab 0)) (λcl C s H fp=>by exact(aZ 0 (show List.Nodup (["_law_one"]:List Str)from by decide+kernel))) (λcl C s H fp=>by exact fA) (λcl C s H fp=>by exact(iZ MB hr (ag (ab 0) aI) (Fk _))))))) cg) (aq (lN (cv (ab 0))) bA))))).out
theorem GN{P:Program}{w:World}{K:PySem.W.Frag}{mg:Str->Y6}{base:Heap}(F:FH P w K mg base "_law_copied" j6)(G':mg "dict"=none)(i':mg "isinstance"=none)(Lp:mg "list"=none)(Ln:mg "tuple"=none):cJ P w K mg base "_law_copied" 10 1 gN:=by
 exact cJ.nJ (k:=1) (b:=ju) (k6 (body:=λ_=>.bad) (k:=0) F xo (λ_ Lk A outer s H E hr=>yC)) (λj m h=>Hx F G' i' Lp Ln h) 9
noncomputable abbrev rF:Stmt:=top 94
theorem CN:L2.ba ["_law_state","_law_task_here"] ["_law_state","_law_task_here"] (L2.aH rF):=bO
theorem CG{P:Program}{w:World}{K:PySem.W.Frag}{mg:Str->Y6}{base:Heap}(F:FH P w K mg base "_law_children" rF)(Lr:mg "sorted"=none):lS P w K mg base "_law_children" 1 2 eG:=by
 have sc:=CN;refine Er F sc (λ_ Lk A outer s H E hr=>?_);exact((bc (FU (j1 ["_law_one"] ["_law_task_here","_law_state"] [1,0] (fE (L2.aH rF) ["_law_state","_law_task_here"] (by rfl) (by rfl) (by decide+kernel)) (ig (fh (uk rfl) uv Lr qk (aN (ab 0) aB))) (λcl C s H fp=>by exact(aZ 0 (show List.Nodup (["_law_one","_law_task_here","_law_state"]:List Str)from by decide+kernel))) (λcl C s H fp=>by exact(jn (cf (cY hr.units) cR eA (aN (aN (aN (ab 2) aB) (ab 0)) aB) (ab 1)) fA)) (λcl C s H fp=>by exact(ab 0))) uI))).out
noncomputable abbrev uM:Stmt:=top 95
theorem Ci:L2.ba ["_law_state","_law_task_here","_law_waits"] ["_law_state","_law_task_here"] (L2.aH uM):=bO
theorem Dm{P:Program}{w:World}{K:PySem.W.Frag}{mg:Str->Y6}{base:Heap}(F:FH P w K mg base "_law_over" uM):Df P w K mg base "_law_over" 1 2 ip:=by
 have sc:=Ci;refine dF F sc (λ_ Lk A outer s H E hr=>?_);exact((aq (b3 (aN (aN (aN (ab 0) aB) (ab 1)) aB) (aZ 2 sc.nd)) (aq (bg (oQ (yQ (ab 2)) (mP (kr (cY hr.units) cR (aN (ab 2) au) aB)))) bA))).out
noncomputable abbrev pP:Stmt:=top 98
theorem CQ:L2.ba ["_law_state","_law_task_here","_law_code","_law_one","_law_child","_law_parent","_law_held"] ["_law_state","_law_task_here","_law_code"] (L2.aH pP):=bO
theorem Dr{P:Program}{w:World}{K:PySem.W.Frag}{mg:Str->Y6}{base:Heap}(F:FH P w K mg base "_law_end" pP)(Lp:mg "list"=none)(Ls:lS P w K mg base "_law_children" 1 2 eG)(LG:Df P w K mg base "_law_over" 1 2 ip):iI P w K mg base "_law_end" 2 2 mS:=by
 have sc:=CQ;refine rO F sc (λ_ Lk A outer s H E hr=>?_)
 exact((aq (Bc 3 0 sc.nd (bq (bq (bR 0) aB) (ab 1))) (aq (dh 0 hr.units (iV 0 3) aB p6) (aq (dh 0 hr.units (iV 0 3) aB p6) (aq (dh 0 hr.units (iV 0 3) aB g8) (aq (dh 0 hr.units (iV 0 3) aB kZ) (aq (dh 0 hr.units (iV 0 3) aB (gW (ag aB (ag (ab 2) aI)))) (aq (jO (f:=i3) (ig (vh (z5 0 (AD Ls hr (ag (ab 0) (ag (ab 1) aI)))) uX)) (aZ 4 sc.nd) (by delta i3;exact(aq (dh 0 hr.units (bq (bq (bR 0) aB) (ab 4)) aB au) (aq (bG (rZ 0 (ff (bp LG hr (ag (ab 0) (ag (ab 4) aI)) (by decide)))) (bc (IF 3 0 (bq (bR 0) aB) (ab 4) (lh ja (by rfl) (by rfl)))) cg) bA)))) (aq (b3 (Bj 0 (aN (ab 3) aB)) (aZ 5 sc.nd)) (aq (bG (cf (cY hr.units) cR eA (ab 5) au) (bc (z8 0 (bq (bR 0) aB) (ab 1) (lh ja (by rfl) (by rfl)))) (bc (bG (rZ 0 (cf (cY hr.units) cR eA (aN (aN (aN (ab 0) aB) (ab 5)) aB) (gW (ag aB aI)))) (aq (z8 0 (bq (bR 0) aB) (ab 1) (lh ja (by rfl) (by rfl))) (aq (dh 0 hr.units (bq (bq (bR 0) aB) (ab 5)) aB kZ) (aq (iY 0 (bq (bq (bq (bR 0) aB) (ab 5)) aB) (ab 1) au (by delta eV;intro _;rfl)) (aq (iY 0 (bq (bq (bq (bR 0) aB) (ab 5)) aB) (ab 2) au (by delta eV;intro _;rfl)) bA)))) cg))) (aq (Hb 6 0 ["_law_other"] [] [] (fE (L2.aH pP) ["_law_state","_law_task_here","_law_code","_law_one","_law_child","_law_parent","_law_held"] (by rfl) (by rfl) (by decide+kernel)) (xR (aN (ab 0) aB) ja) (λcl C s H fp=>by exact(aZ 0 (show List.Nodup (["_law_other"]:List Str)from by decide+kernel))) (λcl C s H fp=>by exact(jn (cf (DO hr.units) KO Jk (gW (ag aB (ag au aI))) (vh (Cf Lp (aN (ab 0) aB) ja) GK)) fA)) (λcl C s H fp=>by exact(ab 0)) sc.nd) (aq (bG (cf (JZ hr.units) G4 E1 (ab 6) (kg aI)) (bc (CW 0 (bq (bR 0) aB) ja)) cg) bA)))))))))))).out
noncomputable abbrev uw:Stmt:=top 93
theorem Gr:L2.ba ["_law_state","_law_task_here"] ["_law_state"] (L2.aH uw):=bO
theorem DH{P:Program}{w:World}{K:PySem.W.Frag}{mg:Str->Y6}{base:Heap}(F:FH P w K mg base "_law_free" uw)(Lo:mg "range"=none):Df P w K mg base "_law_free" 1 1 jR:=by
 have sc:=Gr;refine dF F sc (λ_ Lk A outer s H E hr=>?_);exact((aq (jO (f:=gP) (vF Lo au au) (aZ 1 sc.nd) (by delta gP;exact(bc (bG (cf (vd hr.units) sJ ui (ab 1) (aN (ab 0) aB)) (bc (bg (ab 1))) cg)))) (aq (bg au) bA))).out
noncomputable abbrev uu:Stmt:=top 96
theorem BK:L2.ba ["_law_state","_law_task_here","_law_free_here","_law_child"] ["_law_state","_law_task_here"] (L2.aH uu):=bO
theorem KH{P:Program}{w:World}{K:PySem.W.Frag}{mg:Str->Y6}{base:Heap}(F:FH P w K mg base "_law_part" uu)(Mb:Df P w K mg base "_law_free" 1 1 jR)(Lu:cJ P w K mg base "_law_copied" 10 1 gN):iI P w K mg base "_law_part" 11 1 oA:=by
 have sc:=BK;refine rO F sc (λ_ Lk A outer s H E hr=>?_);exact((aq (b3 (Bj 0 (bp Mb hr (ag (ab 0) aI) (by decide))) (aZ 2 sc.nd)) (aq (bG (cf (cY hr.units) cR eA (ab 2) au) (aq (iY 0 (bq (bq (bq (bR 0) aB) (ab 1)) aB) au au (by delta eV;intro _;rfl)) (aq ER bA)) cg) (aq (mC 3 sc.nd (Bv 0 (iZ Lu hr (ag (aN (aN (ab 0) aB) (ab 1)) aI) (by decide)))) (aq (dh 3 hr.units (bR 3) aB (ab 1)) (aq (dh 3 hr.units (bR 3) aB g8) (aq (iY 3 (bq (bR 3) aB) au au (by delta eV;intro _;rfl)) (aq (zz 0 3 hr.units (bq (bR 0) aB) (ab 2)) (aq (iY 0 (bq (bq (bq (bR 0) aB) (ab 1)) aB) (ab 2) au (by delta eV;intro _;rfl)) bA))))))))).out
noncomputable abbrev qw:Stmt:=top 97
theorem El:L2.ba ["_law_state","_law_task_here","_law_one","_law_young","_law_over_here"] ["_law_state","_law_task_here"] (L2.aH qw):=bO
theorem Js{P:Program}{w:World}{K:PySem.W.Frag}{mg:Str->Y6}{base:Heap}(F:FH P w K mg base "_law_wait" qw)(Ls:lS P w K mg base "_law_children" 1 2 eG)(LG:Df P w K mg base "_law_over" 1 2 ip):iI P w K mg base "_law_wait" 2 1 ou:=by
 have sc:=El;refine rO F sc (λ_ Lk A outer s H E hr=>?_);exact((aq (Bc 2 0 sc.nd (bq (bq (bR 0) aB) (ab 1))) (aq (b3 (vh (z5 0 (AD Ls hr (ag (ab 0) (ag (ab 1) aI)))) uX) (aZ 3 sc.nd)) (aq (Ap 4 0 ["_law_child"] ["_law_state"] [0] (fE (L2.aH qw) ["_law_state","_law_task_here","_law_one","_law_young","_law_over_here"] (by rfl) (by rfl) (by decide+kernel)) (ig (ab 3)) (λcl C s H fp=>by exact(aZ 0 (show List.Nodup (["_law_child","_law_state"]:List Str)from by decide+kernel))) (λcl C s H fp=>by exact(jn (ff (bp LG hr (ag (ab 1) (ag (ab 0) aI)) (by decide))) fA)) (λcl C s H fp=>by exact(ab 0)) sc.nd) (aq (bG (cf (pd hr.units) se p9 (ab 4) (kg aI)) (aq (iY 0 (bq (iV 0 2) aB) (aN (ab 4) au) au (by delta eV;intro _;rfl)) (aq (Hc 0 (bq (iV 0 2) aB) (B0 (HU 2 0 (bq (bR 0) aB) (aN (ab 4) au) (lh ja (by rfl) (by rfl))) au (λ_ _=>rfl)) au (by delta eV;intro _;rfl)) bA)) (bc (bG (cf (cY hr.units) cR eA (ab 3) (kg aI)) (bc (iY 0 (bq (iV 0 2) aB) au au (by delta eV;intro _;rfl))) (bc (dh 0 hr.units (iV 0 2) aB (gW (ag aB aI))))))) bA))))).out
noncomputable abbrev tw:Stmt:=top 99
theorem KA:L2.ba ["_law_state","_law_task_here","_law_number","_law_a"] ["_law_state","_law_task_here","_law_number","_law_a"] (L2.aH tw):=bO
theorem Fm{P:Program}{w:World}{K:PySem.W.Frag}{mg:Str->Y6}{base:Heap}(F:FH P w K mg base "_law_called" tw)(Mq:iI P w K mg base "_law_end" 2 2 mS)(Mc:iI P w K mg base "_law_part" 11 1 oA)(Mg:iI P w K mg base "_law_wait" 2 1 ou):iI P w K mg base "_law_called" 12 3 oO:=by
 have sc:=KA;refine rO F sc (λ_ Lk A outer s H E hr=>?_)
 exact((bc (bG (cf (cY hr.units) cR eA (ab 2) au) (bc (rW (pb 0 Mq hr (ag (ab 1) (ag (ab 3) aI))))) (bc (bG (cf (cY hr.units) cR eA (ab 2) au) (bc (rW (pb 0 Mc hr (ag (ab 1) aI)))) (bc (bG (cf (cY hr.units) cR eA (ab 2) au) (bc (rW (pb 0 Mg hr (ag (ab 1) aI)))) (bc (bG (cf L2.xN AF wK (ab 3) au) (bc (iY 0 (bq (bq (bq (bR 0) aB) (ab 1)) aB) au au (by delta eV;intro _;rfl))) (aq (dh 0 hr.units (bq (bq (bR 0) aB) (ab 1)) aB (ab 3)) (aq (iY 0 (bq (bq (bq (bR 0) aB) (ab 1)) aB) au au (by delta eV;intro _;rfl)) bA))))))))))).out
noncomputable abbrev sS:Stmt:=top 8
theorem C5:L2.ba ["regs","answer","second","new"] ["regs","answer","second"] (L2.aH sS):=bO
theorem Cj{P:Program}{w:World}{K:PySem.W.Frag}{mg:Str->Y6}{base:Heap}(F:FH P w K mg base "answered_regs" sS)(Lp:mg "list"=none):Df P w K mg base "answered_regs" 1 3 kS:=by
 have sc:=C5;refine dF F sc (λ_ Lk A outer s H E hr=>?_);exact((aq (sk 3 sc.nd (Cp Lp (ab 0))) (aq (yi 3 (ab 1) au (by delta eV;intro _;rfl)) (aq (bG (B6 (ab 2)) (bc (yi 3 (ab 2) au (by delta eV;intro _;rfl))) cg) (mD 3 (aq (bg (ab 3)) bA)))))).out
noncomputable abbrev uY:Stmt:=top 6
theorem Ey:L2.ba ["old","news","new"] ["old","news"] (L2.aH uY):=bO
theorem IE{P:Program}{w:World}{K:PySem.W.Frag}{mg:Str->Y6}{base:Heap}(F:FH P w K mg base "changed" uY)(G':mg "dict"=none):Df P w K mg base "changed" 1 2 dC:=by
 have sc:=Ey;refine dF F sc (λ_ Lk A outer s H E hr=>?_);exact((aq (tG 2 sc.nd (qC G' (ab 0))) (aq (BR 2 (ab 1)) (mD 2 (aq (bg (ab 2)) bA))))).out
noncomputable abbrev sx:Stmt:=top 23
theorem Jm:L2.ba ["state","task","news","tasks"] ["state","task","news"] (L2.aH sx):=bO
theorem Io{P:Program}{w:World}{K:PySem.W.Frag}{mg:Str->Y6}{base:Heap}(F:FH P w K mg base "with_task" sx)(G':mg "dict"=none)(J':Df P w K mg base "changed" 1 2 dC):Df P w K mg base "with_task" 2 3 d9:=by
 have sc:=Jm;refine dF F sc (λ_ Lk A outer s H E hr=>?_);exact((aq (tG 3 sc.nd (qC G' (aN (ab 0) aB))) (aq (Cz 3 hr.units (ab 1) (bp J' hr (ag (IU 3 (ab 1)) (ag (ab 2) aI)) (by decide))) (mD 3 (aq (bg (bp J' hr (ag (ab 0) (ag (gH (dU aB (ab 3) gQ)) aI)) (by decide))) bA))))).out
noncomputable abbrev j3:Stmt:=top 25
theorem Kw:L2.ba ["state","task","answer","second","regs"] ["state","task","answer","second"] (L2.aH j3):=bO
theorem Dz{P:Program}{w:World}{K:PySem.W.Frag}{mg:Str->Y6}{base:Heap}(F:qP .none P w K mg base "answered" j3 ["state","task","answer","second"])(LI:Df P w K mg base "answered_regs" 1 3 kS)(A':Df P w K mg base "with_task" 2 3 d9):fY .none P w K mg base "answered" 3 4 cx:=by
 have sc:=Kw;refine xQ F sc (λ_ Lk A outer s H E hr=>?_);exact((aq (b3 (bp LI hr (ag (aN (aN (aN (ab 0) aB) (ab 1)) aB) (ag (ab 2) (ag (ab 3) aI))) (by decide)) (aZ 4 sc.nd)) (aq (bg (bp A' hr (ag (ab 0) (ag (ab 1) (ag (gH (dU aB (ab 4) (dU aB kZ gQ))) aI))) (by decide))) bA))).out
noncomputable abbrev qV:Stmt:=top 65
theorem B2:L2.ba ["state","task","tasks"] ["state","task"] (L2.aH qV):=bO
theorem CF{P:Program}{w:World}{K:PySem.W.Frag}{mg:Str->Y6}{base:Heap}(F:FH P w K mg base "children_of" qV)(Lr:mg "sorted"=none):Df P w K mg base "children_of" 1 2 kP:=by
 have sc:=B2;refine dF F sc (λ_ Lk A outer s H E hr=>?_);exact((aq (b3 (aN (ab 0) aB) (aZ 2 sc.nd)) (aq (bg (fh Km FT Lr qk (nX (j1 ["child"] ["task","tasks"] [1,2] (fE (L2.aH qV) ["state","task","tasks"] (by rfl) (by rfl) (by decide+kernel)) (sA (ab 2)) (λcl C s H fp=>by exact(aZ 0 (show List.Nodup (["child","task","tasks"]:List Str)from by decide+kernel))) (λcl C s H fp=>by exact(jn (cf (cY hr.units) cR eA (aN (aN (ab 2) (ab 0)) aB) (ab 1)) fA)) (λcl C s H fp=>by exact(ab 0)))))) bA))).out
noncomputable abbrev uJ:Stmt:=top 22
theorem GG:L2.ba ["waits"] ["waits"] (L2.aH uJ):=bO
theorem E8{P:Program}{w:World}{K:PySem.W.Frag}{mg:Str->Y6}{base:Heap}(F:FH P w K mg base "has_ended" uJ):Df P w K mg base "has_ended" 1 1 kG:=by
 have sc:=GG;refine dF F sc (λ_ Lk A outer s H E hr=>?_);exact((bc (bg (oQ (yQ (ab 0)) (mP (kr (cY hr.units) cR (aN (ab 0) au) aB)))))).out
noncomputable abbrev um:Stmt:=top 24
theorem HH:L2.ba ["state","task","tasks"] ["state","task"] (L2.aH um):=bO
theorem E5{P:Program}{w:World}{K:PySem.W.Frag}{mg:Str->Y6}{base:Heap}(F:FH P w K mg base "without_task" um)(G':mg "dict"=none)(J':Df P w K mg base "changed" 1 2 dC):Df P w K mg base "without_task" 2 2 hV:=by
 have sc:=HH;refine dF F sc (λ_ Lk A outer s H E hr=>?_);exact((aq (tG 2 sc.nd (qC G' (aN (ab 0) aB))) (aq (Ei 2 (ab 1)) (mD 2 (aq (bg (bp J' hr (ag (ab 0) (ag (gH (dU aB (ab 2) gQ)) aI)) (by decide))) bA))))).out
noncomputable abbrev sV:Stmt:=top 64
theorem Ge:L2.ba ["state","task","behind","child"] ["state","task"] (L2.aH sV):=bO
theorem Ef{P:Program}{w:World}{K:PySem.W.Frag}{mg:Str->Y6}{base:Heap}(F:FH P w K mg base "orphaned" sV)(Lx:Df P w K mg base "children_of" 1 2 kP)(LD:Df P w K mg base "has_ended" 1 1 kG)(D':Df P w K mg base "without_task" 2 2 hV)(A':Df P w K mg base "with_task" 2 3 d9):Df P w K mg base "orphaned" 3 2 oI:=by
 have sc:=Ge;refine dF F sc (λ_ Lk A outer s H E hr=>?_);exact((aq (b3 (ab 0) (aZ 2 sc.nd)) (aq (jO (f:=k8) (ig (bp Lx hr (ag (ab 0) (ag (ab 1) aI)) (by decide))) (aZ 3 sc.nd) (by delta k8;exact(bc (bG (ff (bp LD hr (ag (aN (aN (aN (ab 0) aB) (ab 3)) aB) aI) (by decide))) (bc (b3 (bp D' hr (ag (ab 2) (ag (ab 3) aI)) (by decide)) (aZ 2 sc.nd))) (bc (b3 (bp A' hr (ag (ab 2) (ag (ab 3) (ag (gH (dU aB au gQ)) aI))) (by decide)) (aZ 2 sc.nd))))))) (aq (bg (ab 2)) bA)))).out
noncomputable abbrev o7:Stmt:=top 26
theorem BS:L2.ba ["state"] ["state"] (L2.aH o7):=bO
theorem Ju{P:Program}{w:World}{K:PySem.W.Frag}{mg:Str->Y6}{base:Heap}(F:FH P w K mg base "tasks_in" o7)(Lr:mg "sorted"=none):Df P w K mg base "tasks_in" 1 1 mY:=by
 have sc:=BS;refine dF F sc (λ_ Lk A outer s H E hr=>?_);exact((bc (bg (nX (j1 ["task"] ["state"] [0] (fE (L2.aH o7) ["state"] (by rfl) (by rfl) (by decide+kernel)) (ig (fh (uk rfl) uv Lr qk (aN (ab 0) aB))) (λcl C s H fp=>by exact(aZ 0 (show List.Nodup (["task","state"]:List Str)from by decide+kernel))) (λcl C s H fp=>by exact fA) (λcl C s H fp=>by exact(aN (aN (ab 1) aB) (ab 0)))))))).out
noncomputable abbrev oU:Stmt:=top 27
theorem B4:L2.ba ["state","held","task"] ["state"] (L2.aH oU):=bO
theorem Fv{P:Program}{w:World}{K:PySem.W.Frag}{mg:Str->Y6}{base:Heap}(F:FH P w K mg base "held_numbers" oU)(Mj:Df P w K mg base "tasks_in" 1 1 mY):Df P w K mg base "held_numbers" 2 1 nL:=by
 have sc:=B4;refine dF F sc (λ_ Lk A outer s H E hr=>?_);exact((aq (sk 1 sc.nd (yZ aI)) (aq (jO (f:=me) (ig (bp Mj hr (ag (ab 0) aI) (by decide))) (aZ 2 sc.nd) (by delta me;exact(bc (DI 1 (j1 ["entry"] [] [] (fE (L2.aH oU) ["state","held","task"] (by rfl) (by rfl) (by decide+kernel)) (xR (aN (ab 2) aB) ja) (λcl C s H fp=>by exact(aZ 0 (show List.Nodup (["entry"]:List Str)from by decide+kernel))) (λcl C s H fp=>by exact(jn (cf (cY hr.units) cR eA (aN (ab 0) au) aB) fA)) (λcl C s H fp=>by exact(aN (ab 0) au))))))) (mD 1 (aq (bg (ab 1)) bA))))).out
noncomputable abbrev pJ:Stmt:=top 34
theorem Ej:L2.ba ["state","held","lent"] ["state"] (L2.aH pJ):=bO
theorem EU{P:Program}{w:World}{K:PySem.W.Frag}{mg:Str->Y6}{base:Heap}(F:FH P w K mg base "with_held_lent" pJ)(G':mg "dict"=none)(LN:Df P w K mg base "held_numbers" 2 1 nL)(J':Df P w K mg base "changed" 1 2 dC):Df P w K mg base "with_held_lent" 3 1 nM:=by
 have sc:=Ej;refine dF F sc (λ_ Lk A outer s H E hr=>?_);exact((aq (b3 (bp LN hr (ag (ab 0) aI) (by decide)) (aZ 1 sc.nd)) (aq (b3 (DV (EX G' (nX (j1 ["number","page"] ["held"] [1] (fE (L2.aH pJ) ["state","held","lent"] (by rfl) (by rfl) (by decide+kernel)) (E4 (aN (ab 0) aB) ja) (λcl C s H fp=>by exact(Bi (pw 0 (aZ 0 (show List.Nodup (["number","page","held"]:List Str)from by decide+kernel)) (pw 1 (aZ 1 (show List.Nodup (["number","page","held"]:List Str)from by decide+kernel)) zd)) wz)) (λcl C s H fp=>by exact(jn (cf (wI hr.units) yP Hr (ab 0) (ab 2)) fA)) (λcl C s H fp=>by exact(gW (ag (ab 0) (ag (ab 1) aI))))))) BN) (aZ 2 sc.nd)) (aq (bg (bp J' hr (ag (ab 0) (ag (gH (dU aB (ab 2) gQ)) aI)) (by decide))) bA)))).out
noncomputable abbrev sM:Stmt:=top 36
theorem Eb:L2.ba ["state","task"] ["state","task"] (L2.aH sM):=bO
theorem KI{P:Program}{w:World}{K:PySem.W.Frag}{mg:Str->Y6}{base:Heap}(F:FH P w K mg base "given_back" sM)(A':Df P w K mg base "with_task" 2 3 d9)(LH:Df P w K mg base "with_held_lent" 3 1 nM):Df P w K mg base "given_back" 4 2 og:=by
 have sc:=Eb;refine dF F sc (λ_ Lk A outer s H E hr=>?_);exact((bc (bg (bp LH hr (ag (bp A' hr (ag (ab 0) (ag (ab 1) (ag (gH (dU aB p6 gQ)) aI))) (by decide)) aI) (by decide))))).out
noncomputable abbrev uA:Stmt:=top 63
theorem GO:L2.ba ["state","task","code","news","behind","parent"] ["state","task","code"] (L2.aH uA):=bO
theorem EG{P:Program}{w:World}{K:PySem.W.Frag}{mg:Str->Y6}{base:Heap}(F:FH P w K mg base "plain_end" uA)(LU:Df P w K mg base "given_back" 4 2 og)(A':Df P w K mg base "with_task" 2 3 d9)(Mf:Df P w K mg base "orphaned" 3 2 oI)(D':Df P w K mg base "without_task" 2 2 hV)(j':fY .none P w K mg base "answered" 3 4 cx):Df P w K mg base "plain_end" 5 3 i5:=by
 have sc:=GO;refine dF F sc (λ_ Lk A outer s H E hr=>?_);exact((aq (b3 (gH (dU aB (by exact p6) (dU aB (gW (ag aB (ag (ab 2) aI))) (dU aB g8 (dU aB kZ gQ))))) (aZ 3 sc.nd)) (aq (b3 (bp Mf hr (ag (bp A' hr (ag (bp LU hr (ag (ab 0) (ag (ab 1) aI)) (by decide)) (ag (ab 1) (ag (ab 3) aI))) (by decide)) (ag (ab 1) aI)) (by decide)) (aZ 4 sc.nd)) (aq (b3 (aN (aN (aN (ab 4) aB) (ab 1)) aB) (aZ 5 sc.nd)) (aq (bG (cf (cY hr.units) cR eA (ab 5) au) (bc (bg (bp D' hr (ag (ab 4) (ag (ab 1) aI)) (by decide)))) cg) (aq (bG (cf (cY hr.units) cR eA (aN (aN (aN (ab 4) aB) (ab 5)) aB) (gW (ag aB aI))) (bc (bg (bp j'.df hr (ag (bp D' hr (ag (ab 4) (ag (ab 1) aI)) (by decide)) (ag (ab 5) (ag (ab 1) (ag (ab 2) aI)))) (by decide)))) cg) (aq (bg (ab 4)) bA))))))).out
noncomputable abbrev wA:Stmt:=top 62
theorem Fq:L2.ba ["state","task","a","b"] ["state","task","a","b"] (L2.aH wA):=bO
theorem Dt{P:Program}{w:World}{K:PySem.W.Frag}{mg:Str->Y6}{base:Heap}(F:FH P w K mg base "end_call" wA)(LC:Df P w K mg base "plain_end" 5 3 i5):Df P w K mg base "end_call" 6 4 kY:=by
 have sc:=Fq;refine dF F sc (λ_ Lk A outer s H E hr=>?_);exact((bc (bg (bp LC hr (ag (ab 0) (ag (ab 1) (ag (ab 2) aI))) (by decide))))).out
noncomputable abbrev ud:Stmt:=top 7
theorem Iw:L2.ba ["taken","low","high","number"] ["taken","low","high"] (L2.aH ud):=bO
theorem EK{P:Program}{w:World}{K:PySem.W.Frag}{mg:Str->Y6}{base:Heap}(F:FH P w K mg base "least_free" ud)(Lo:mg "range"=none):Df P w K mg base "least_free" 1 3 nB:=by
 have sc:=Iw;refine dF F sc (λ_ Lk A outer s H E hr=>?_);exact((aq (jO (f:=gA) (vF Lo (ab 1) (a6 iO kK (ab 2) au)) (aZ 3 sc.nd) (by delta gA;exact(bc (bG (cf (vd hr.units) sJ ui (ab 3) (ab 0)) (bc (bg (ab 3))) cg)))) (aq (bg kZ) bA))).out
noncomputable abbrev t8:Stmt:=top 35
theorem IJ:L2.ba ["state","task"] ["state","task"] (L2.aH t8):=bO
theorem Cm{P:Program}{w:World}{K:PySem.W.Frag}{mg:Str->Y6}{base:Heap}(F:FH P w K mg base "copied_pages" t8)(G':mg "dict"=none):cJ P w K mg base "copied_pages" 1 2 lR:=by
 have sc:=IJ;refine k6 F sc (λ_ Lk A outer s H E hr=>?_);exact((bc (lN (E2 (qC G' (aN (aN (aN (ab 0) aB) (ab 1)) aB)))))).out
noncomputable abbrev ug:Stmt:=top 66
theorem EJ:L2.ba ["state","task","a","b","child","news","tasks"] ["state","task","a","b"] (L2.aH ug):=bO
theorem DD{P:Program}{w:World}{K:PySem.W.Frag}{mg:Str->Y6}{base:Heap}(F:FH P w K mg base "part_call" ug)(gl_MOST_TASK:dP P w K mg "MOST_TASK" vN)(gl_LACK:dP P w K mg "LACK" oE)(LX:Df P w K mg base "least_free" 1 3 nB)(j':fY .none P w K mg base "answered" 3 4 cx)(LO:cJ P w K mg base "copied_pages" 1 2 lR)(J':Df P w K mg base "changed" 1 2 dC):Df P w K mg base "part_call" 4 4 jB:=by
 have sc:=EJ;refine dF F sc (λ_ Lk A outer s H E hr=>?_);exact((aq (b3 (bp LX hr (ag (aN (ab 0) aB) (ag au (ag (jj gl_MOST_TASK) aI))) (by decide)) (aZ 4 sc.nd)) (aq (bG (uW (ab 4)) (bc (bg (hZ .aj .aj (λ_ _=>fF) j' hr (ag (ab 0) (ag (ab 1) (ag (jj gl_LACK) aI)))))) cg) (aq (b3 (gH (dU aB (ab 1) (dU aB g8 (dU aB (wg (iZ LO hr (ag (ab 0) (ag (ab 1) aI)) (by decide))) gQ)))) (aZ 5 sc.nd)) (aq (b3 (bp J' hr (ag (aN (ab 0) aB) (ag (BW (ab 4) (bp J' hr (ag (aN (aN (ab 0) aB) (ab 1)) (ag (ab 5) aI)) (by decide))) aI)) (by decide)) (aZ 6 sc.nd)) (aq (bg (hZ .aj .aj (λ_ _=>fF) j' hr (ag (hZ .aj .aj (λ_ _=>fF) j' hr (ag (bp J' hr (ag (ab 0) (ag (gH (dU aB (ab 6) gQ)) aI)) (by decide)) (ag (ab 4) (ag au aI)))) (ag (ab 1) (ag (ab 4) aI))))) bA)))))).out
noncomputable abbrev q8:Stmt:=top 67
theorem FP:L2.ba ["state","task","a","b","children","gone","code"] ["state","task","a","b"] (L2.aH q8):=bO
theorem Jw{P:Program}{w:World}{K:PySem.W.Frag}{mg:Str->Y6}{base:Heap}(F:FH P w K mg base "wait_call" q8)(Ly:mg "len"=none)(gl_NONE:dP P w K mg "NONE" tm)(Lx:Df P w K mg base "children_of" 1 2 kP)(LD:Df P w K mg base "has_ended" 1 1 kG)(D':Df P w K mg base "without_task" 2 2 hV)(j':fY .none P w K mg base "answered" 3 4 cx)(A':Df P w K mg base "with_task" 2 3 d9):Df P w K mg base "wait_call" 4 4 jM:=by
 have sc:=FP;refine dF F sc (λ_ Lk A outer s H E hr=>?_);exact((aq (b3 (bp Lx hr (ag (ab 0) (ag (ab 1) aI)) (by decide)) (aZ 4 sc.nd)) (aq (Fn 5 ["child"] ["state"] [0] (fE (L2.aH q8) ["state","task","a","b","children","gone","code"] (by rfl) (by rfl) (by decide+kernel)) (ig (ab 4)) (λcl C s H fp=>by exact(aZ 0 (show List.Nodup (["child","state"]:List Str)from by decide+kernel))) (λcl C s H fp=>by exact(jn (ff (bp LD hr (ag (aN (aN (aN (ab 1) aB) (ab 0)) aB) aI) (by decide))) fA)) (λcl C s H fp=>by exact(ab 0)) sc.nd) (aq (bG (cf L2.xN AF wK (fh lO mr Ly i8 (ab 5)) au) (aq (b3 (aN (aN (aN (aN (ab 0) aB) (aN (ab 5) au)) aB) au) (aZ 6 sc.nd)) (aq (bg (bp j'.df hr (ag (bp D' hr (ag (ab 0) (ag (aN (ab 5) au) aI)) (by decide)) (ag (ab 1) (ag (aN (ab 5) au) (ag (ab 6) aI)))) (by decide))) bA)) cg) (aq (bG (cf (cY hr.units) cR eA (fh lO mr Ly i8 (ab 4)) au) (bc (bg (hZ .aj .aj (λ_ _=>fF) j' hr (ag (ab 0) (ag (ab 1) (ag (jj gl_NONE) aI)))))) cg) (aq (bg (bp A' hr (ag (ab 0) (ag (ab 1) (ag (gH (dU aB (gW (ag aB aI)) gQ)) aI))) (by decide))) bA)))))).out
noncomputable abbrev sR:Stmt:=top 68
theorem Ki:L2.ba ["state","task","a","b"] ["state","task","a","b"] (L2.aH sR):=bO
theorem Jc{P:Program}{w:World}{K:PySem.W.Frag}{mg:Str->Y6}{base:Heap}(F:FH P w K mg base "rank_call" sR)(gl_BAD:dP P w K mg "BAD" oN)(j':fY .none P w K mg base "answered" 3 4 cx)(A':Df P w K mg base "with_task" 2 3 d9):Df P w K mg base "rank_call" 4 4 jz:=by
 have sc:=Ki;refine dF F sc (λ_ Lk A outer s H E hr=>?_);exact((aq (bG (mN (vq L2.ma L2.ma k7 k7 sP au (ab 2) au)) (bc (bg (hZ .aj .aj (λ_ _=>fF) j' hr (ag (ab 0) (ag (ab 1) (ag (jj gl_BAD) aI)))))) cg) (aq (bg (hZ .aj .aj (λ_ _=>fF) j' hr (ag (bp A' hr (ag (ab 0) (ag (ab 1) (ag (gH (dU aB (ab 2) gQ)) aI))) (by decide)) (ag (ab 1) (ag au aI))))) bA))).out
noncomputable abbrev kz:Stmt:=top 83
theorem BV:L2.ba ["state","task","number","a","b","c","lack","told","deed"] ["state","task","number","a","b","c","lack"] (L2.aH kz):=bO
theorem CP{P:Program}{w:World}{K:PySem.W.Frag}{mg:Str->Y6}{base:Heap}(F:qP (.bool false) P w K mg base "plain_call" kz ["state","task","number","a","b","c","lack"])(gl_MAY_LACK:uH P w K mg "MAY_LACK" tZ)(gl_LACK:dP P w K mg "LACK" oE)(gl_CALLS:dP P w K mg "CALLS" qm)(gl_BAD:dP P w K mg "BAD" oN)(j':fY .none P w K mg base "answered" 3 4 cx)(Me:Df P w K mg base "end_call" 6 4 kY)(L9:Df P w K mg base "part_call" 4 4 jB)(L':Df P w K mg base "wait_call" 4 4 jM)(L8:Df P w K mg base "rank_call" 4 4 jz):fY (.bool false) P w K mg base "plain_call" 7 7 lQ:=by
 have sc:=BV;refine xQ F sc (λ_ Lk A outer s H E hr=>?_);exact((aq (bG (nP (yv (ff (ab 6)) (xt (cf (vd hr.units) sJ ui (ab 2) (jj gl_MAY_LACK.gl))))) (bc HC) cg) (aq (bG (ff (ab 6)) (bc (bg (hZ .aj .aj (λ_ _=>fF) j' hr (ag (ab 0) (ag (ab 1) (ag (jj gl_LACK) aI)))))) cg) (aq (bG (vq L2.ma L2.ma k7 k7 sP au (ab 2) au) (bc (bg An)) cg) (aq (bG (vq L2.ma L2.ma k7 k7 sP au (ab 2) au) (aq (b3 An (aZ 7 sc.nd)) (aq (bg (hZ .aj .aj (λ_ _=>fF) j' hr (ag (aN (ab 7) au) (ag (ab 1) (ag (aN (ab 7) au) aI))))) bA)) cg) (aq (b3 (Kz (jj gl_CALLS) (ab 2)) (aZ 8 sc.nd)) (aq (bg (Fx (uW (ab 8)) (hZ .aj .aj (λ_ _=>fF) j' hr (ag (ab 0) (ag (ab 1) (ag (jj gl_BAD) aI)))) (HF 8 (qD Me (by decide) (qD L9 (by decide) (qD L' (by decide) (qD L8 (by decide) Hd)))) hr (ag (ab 0) (ag (ab 1) (ag (ab 3) (ag (ab 4) aI))))))) bA))))))).out
noncomputable abbrev lX:Stmt:=top 88
theorem AJ:L2.ba ["_law_found","_law_due"] ["_law_found","_law_due"] (L2.aH lX):=bO
theorem Gy{P:Program}{w:World}{K:PySem.W.Frag}{mg:Str->Y6}{base:Heap}(F:FH P w K mg base "_law_same" lX)(MA:mg "all"=none)(Mn:mg "bool"=none)(G':mg "dict"=none)(i':mg "isinstance"=none)(Ly:mg "len"=none)(Lp:mg "list"=none)(Ln:mg "tuple"=none)(MF:mg "zip"=none){j:Nat}{m:List D->R D}(MB:Df P w K mg base "_law_same" (1+j) 2 m):Df P w K mg base "_law_same" (1+(j+1)) 2 (uO m):=by
 have sc:=AJ;refine dF (k:=1+j) F sc (λ_ Lk A outer s H E hr=>?_)
 exact((aq (bG (ff (gM .dict (ab 1) i' G' lI)) (aq (bG (nP (va (mN (ff (gM .dict (ab 0) i' G' lI))) (uZ (cf (pd hr.units) se p9 (fh qy qx Ly i8 (ab 0)) (fh qy qx Ly i8 (ab 1)))))) (bc (bg g8)) cg) (aq (bg (fh (xW rfl) w5 MA y3 (nX (j1 ["_law_key"] ["_law_found","_law_due"] [0,1] (fE (L2.aH lX) ["_law_found","_law_due"] (by rfl) (by rfl) (by decide+kernel)) (sA (ab 1)) (λcl C s H fp=>by exact(aZ 0 (show List.Nodup (["_law_key","_law_found","_law_due"]:List Str)from by decide+kernel))) (λcl C s H fp=>by exact fA) (λcl C s H fp=>by exact(oQ (kr (wI hr.units) yP (ab 0) (ab 1)) (mP (bp MB hr (ag (aN (ab 1) (ab 0)) (ag (aN (ab 2) (ab 0)) aI)) (Fk _))))))))) bA)) cg) (aq (bG (ff (E3 (ab 1) i' Lp Ln)) (aq (bG (nP (va (cf (pd hr.units) se p9 (gM .list (ab 0) i' Lp mz) (gM .list (ab 1) i' Lp mz)) (uZ (cf (pd hr.units) se p9 (gM .tuple (ab 0) i' Ln mq) (gM .tuple (ab 1) i' Ln mq))))) (bc (bg g8)) cg) (aq (bg (oQ (kr (cY hr.units) cR (fh qy qx Ly i8 (ab 0)) (fh qy qx Ly i8 (ab 1))) (mP (fh (xW rfl) w5 MA y3 (nX (j1 ["_law_one","_law_other"] [] [] (fE (L2.aH lX) ["_law_found","_law_due"] (by rfl) (by rfl) (by decide+kernel)) (BM MF (ab 0) (ab 1)) (λcl C s H fp=>by exact(Bi (pw 0 (aZ 0 (show List.Nodup (["_law_one","_law_other"]:List Str)from by decide+kernel)) (pw 1 (aZ 1 (show List.Nodup (["_law_one","_law_other"]:List Str)from by decide+kernel)) zd)) wz)) (λcl C s H fp=>by exact fA) (λcl C s H fp=>by exact(bp MB hr (ag (ab 0) (ag (ab 1) aI)) (Fk _))))))))) bA)) cg) (aq (bg (oQ (kr (cY hr.units) cR (ab 0) (ab 1)) (mP (kr (cY hr.units) cR (gM .bool (ab 0) i' Mn Bw) (gM .bool (ab 1) i' Mn Bw))))) bA)))).out
theorem HI{P:Program}{w:World}{K:PySem.W.Frag}{mg:Str->Y6}{base:Heap}(F:FH P w K mg base "_law_same" lX)(MA:mg "all"=none)(Mn:mg "bool"=none)(G':mg "dict"=none)(i':mg "isinstance"=none)(Ly:mg "len"=none)(Lp:mg "list"=none)(Ln:mg "tuple"=none)(MF:mg "zip"=none):Df P w K mg base "_law_same" 10 2 lE:=by
 exact Df.nJ (k:=1) (b:=uO) (dF (body:=λ_=>.bad) (k:=0) F AJ (λ_ Lk A outer s H E hr=>yC)) (λj m h=>Gy F MA Mn G' i' Ly Lp Ln MF h) 9
noncomputable abbrev kX:Stmt:=top 100
theorem Ec:L2.ba ["_law_script","-0","_law_state","_law_k","_law_ready","_law_draw","_law_task_here","_law_number","_law_a","_law_handed","_law_kept","_law_found"] ["_law_script"] (L2.aH kX):=bO
theorem Du(Fu:L2.gb K "law" "law" kX f fd)(hm:mg "law"=some (.ref f))(Ly:mg "len"=none)(NB:mg "min"=none)(Lo:mg "range"=none)(Lr:mg "sorted"=none)(L7:cJ P w K mg base "_law_begun" 2 1 m9)(LB:Df P w K mg base "_law_mixed" 1 2 kC)(Lu:cJ P w K mg base "_law_copied" 10 1 gN)(LW:iI P w K mg base "_law_called" 12 3 oO)(LV:fY (.bool false) P w K mg base "plain_call" 7 7 lQ)(LM:Df P w K mg base "_law_same" 10 2 lE)(LC:Df P w K mg base "plain_end" 5 3 i5):L2.dX P w K mg base L2.cV 13 f fd ["_law_script"] (gS ⟨K,P,w⟩ ml 1):=by
 have sc:=Ec;refine wB (k:=12) Fu sc (λLk A outer s H E hr=>?_)
 exact((aq (mC 2 sc.nd (iZ L7 hr (ag (ab 0) aI) (by decide))) (aq (jO (f:=jS) (vF Lo au (CO (L2.Jb rfl) D6 NB JN (fh lO mr Ly i8 (ab 0)) au)) (aZ 3 sc.nd) (by delta jS;exact(aq (Ap 4 2 ["_law_task_here"] ["_law_state"] [2] (fE (L2.aH kX) ["_law_script","-0","_law_state","_law_k","_law_ready","_law_draw","_law_task_here","_law_number","_law_a","_law_handed","_law_kept","_law_found"] (by rfl) (by rfl) (by decide+kernel)) (ig (fh (uk rfl) uv Lr qk (aN (ab 2) aB))) (λcl C s H fp=>by exact(aZ 0 (show List.Nodup (["_law_task_here","_law_state"]:List Str)from by decide+kernel))) (λcl C s H fp=>by exact(jn (uW (aN (aN (aN (ab 1) aB) (ab 0)) aB)) fA)) (λcl C s H fp=>by exact(ab 0)) sc.nd) (aq (b3 (bp LB hr (ag (aN (ab 0) (ab 3)) (ag (a6 iO kK (a6 L2.kO kA au (ab 3)) au) aI)) (by decide)) (aZ 5 sc.nd)) (aq (bG (cf (cY hr.units) cR eA (ab 4) (kg aI)) (bc (bg g8)) cg) (aq (b3 (aN (ab 4) (a6 L2.de dg (ab 5) (fh lO mr Ly i8 (ab 4)))) (aZ 6 sc.nd)) (aq (b3 (aN (kg (ag au (ag au (ag au (ag au (ag au (ag au (ag au (ag au (ag au (ag au aI))))))))))) (a6 L2.de dg (a6 eJ d7 (ab 5) au) au)) (aZ 7 sc.nd)) (aq (b3 (aN (kg (ag (a6 L2.de dg (a6 eJ d7 (ab 5) au) au) (ag (a6 L2.de dg (a6 eJ d7 (ab 5) au) au) aI))) (a6 eJ d7 (a6 L2.de dg (a6 eJ d7 (ab 5) au) au) au)) (aZ 8 sc.nd)) (aq (mC 9 sc.nd (Bv 2 (iZ Lu hr (ag (ab 2) aI) (by decide)))) (IH 9 (aq (rW (pb 2 LW hr (ag (ab 6) (ag (ab 7) (ag (ab 8) aI))))) (aq (b3 (wg (iZ Lu hr (ag (ab 9) aI) (by decide))) (aZ 10 sc.nd)) (aq (b3 (hZ (.bl false) (.bl false) (λ_ _=>dD) LV hr (ag (ab 9) (ag (ab 6) (ag (ab 7) (ag (ab 8) (ag au (ag au aI))))))) (aZ 11 sc.nd)) (aq (bG (rZ 2 (nP (va (mN (ff (bp LM hr (ag (ab 11) (ag (ab 2) aI)) (by decide)))) (uZ (mN (ff (bp LM hr (ag (ab 9) (ag (ab 10) aI)) (by decide)))))))) (bc (bg g8)) cg) (aq (bG (rZ 2 (nP (yv (cf (cY hr.units) cR eA (ab 7) au) (xt (mN (ff (bp LM hr (ag (bp LC hr (ag (ab 9) (ag (ab 6) (ag (ab 8) aI))) (by decide)) (ag (ab 2) aI)) (by decide)))))))) (bc (bg g8)) cg) bA))))))))))))))) (aq (bg g8) bA)))).out
theorem Ez{K:PySem.W.Frag}{h:Heap}{mg:Str->Y6}{f tp:Addr}{oc tc:Value}{od an td:Y7}{MO ts:Array (Y6)}{kV doc pm Lk ct:Value}{tn:Nat}(X:K.In h)(G:h.Ns mainGlobals mg)(a:PySem.W.nsIn K mainGlobals "answered"=some (some (.ref f)))(l:K.lookup f=some ⟨oc,od,.func (PySem.W.fnOf "answered" "answered" (L2.fK j3) (L2.cU j3) (L2.aH j3) (.ref tp) kV doc pm an Lk ct),MO⟩)(t:K.lookup tp=some ⟨tc,td,.seq #[.none] tn,ts⟩)(c:PySem.W.codeIn K Lk "answered"=true)(k:PySem.W.keepIn K (.ref f)=true):fW .none K mg "answered" j3 ["state","task","answer","second"]:=
 fW.mk X G a l t c k (λs us X hl=>match us,Nat.succ.inj ((JK (as:=us) (bs:=[.none])).symm.trans hl)with|[_,_,_],_=>Xg X rfl t rfl rfl rfl) (λs us X hl=>match us,(congrArg List.length (VW us)).symm.trans hl with|[_,_,_,_],_=>Xg X rfl t rfl rfl rfl)
theorem Eg{K:PySem.W.Frag}{h:Heap}{mg:Str->Y6}{f tp:Addr}{oc tc:Value}{od an td:Y7}{MO ts:Array (Y6)}{kV doc pm Lk ct:Value}{tn:Nat}(X:K.In h)(G:h.Ns mainGlobals mg)(a:PySem.W.nsIn K mainGlobals "plain_call"=some (some (.ref f)))(l:K.lookup f=some ⟨oc,od,.func (PySem.W.fnOf "plain_call" "plain_call" (L2.fK kz) (L2.cU kz) (L2.aH kz) (.ref tp) kV doc pm an Lk ct),MO⟩)(t:K.lookup tp=some ⟨tc,td,.seq #[.bool false] tn,ts⟩)(c:PySem.W.codeIn K Lk "plain_call"=true)(k:PySem.W.keepIn K (.ref f)=true):fW (.bool false) K mg "plain_call" kz ["state","task","number","a","b","c","lack"]:=
 fW.mk X G a l t c k (λs us X hl=>match us,Nat.succ.inj ((JK (as:=us) (bs:=[(.bool false)])).symm.trans hl)with|[_,_,_,_,_,_],_=>Xg X rfl t rfl rfl rfl) (λs us X hl=>match us,(congrArg List.length (VW us)).symm.trans hl with|[_,_,_,_,_,_,_],_=>Xg X rfl t rfl rfl rfl)
end
theorem all_mk{w:World}{K:PySem.W.Frag}{h:Heap}{mg:Str->Y6}{fa:Addr}(X:K.In h)(G:h.Ns mainGlobals mg)(UR:mg "law"=some (.ref fa))
  (F0:FK K mg "_law_plain" u0)
  (F1:FK K mg "_law_cell_at" wm)
  (F2:FK K mg "_law_mixed" vL)
  (F3:FK K mg "_law_task" vp)
  (F4:FK K mg "_law_page" u7)
  (F5:FK K mg "_law_begun" vt)
  (F6:FK K mg "_law_copied" j6)
  (F7:FK K mg "_law_children" rF)
  (F8:FK K mg "_law_over" uM)
  (F9:FK K mg "_law_end" pP)
  (F10:FK K mg "_law_free" uw)
  (F11:FK K mg "_law_part" uu)
  (F12:FK K mg "_law_wait" qw)
  (F13:FK K mg "_law_called" tw)
  (F14:FK K mg "answered_regs" sS)
  (F15:FK K mg "changed" uY)
  (F16:FK K mg "with_task" sx)
  (F17:fW .none K mg "answered" j3 ["state","task","answer","second"])
  (F18:FK K mg "children_of" qV)
  (F19:FK K mg "has_ended" uJ)
  (F20:FK K mg "without_task" um)
  (F21:FK K mg "orphaned" sV)
  (F22:FK K mg "tasks_in" o7)
  (F23:FK K mg "held_numbers" oU)
  (F24:FK K mg "with_held_lent" pJ)
  (F25:FK K mg "given_back" sM)
  (F26:FK K mg "plain_end" uA)
  (F27:FK K mg "end_call" wA)
  (F28:FK K mg "least_free" ud)
  (F29:FK K mg "copied_pages" t8)
  (F30:FK K mg "part_call" ug)
  (F31:FK K mg "wait_call" q8)
  (F32:FK K mg "rank_call" sR)
  (F33:fW (.bool false) K mg "plain_call" kz ["state","task","number","a","b","c","lack"])
  (F34:FK K mg "_law_same" lX)
  (F35:FK K mg "law" kX)
  (z_all:PySem.W.nsIn K mainGlobals "all"=some none)
  (z_bool:PySem.W.nsIn K mainGlobals "bool"=some none)
  (z_dict:PySem.W.nsIn K mainGlobals "dict"=some none)
  (z_isinstance:PySem.W.nsIn K mainGlobals "isinstance"=some none)
  (z_len:PySem.W.nsIn K mainGlobals "len"=some none)
  (z_list:PySem.W.nsIn K mainGlobals "list"=some none)
  (z_min:PySem.W.nsIn K mainGlobals "min"=some none)
  (z_range:PySem.W.nsIn K mainGlobals "range"=some none)
  (z_sorted:PySem.W.nsIn K mainGlobals "sorted"=some none)
  (z_tuple:PySem.W.nsIn K mainGlobals "tuple"=some none)
  (z_zip:PySem.W.nsIn K mainGlobals "zip"=some none)
  (gl_MOST_TASK:dP PySem.Challenge.pw_underfloor_k19_parts_waits_and_ends w K mg "MOST_TASK" vN)
  (gl_LACK:dP PySem.Challenge.pw_underfloor_k19_parts_waits_and_ends w K mg "LACK" oE)
  (gl_NONE:dP PySem.Challenge.pw_underfloor_k19_parts_waits_and_ends w K mg "NONE" tm)
  (gl_BAD:dP PySem.Challenge.pw_underfloor_k19_parts_waits_and_ends w K mg "BAD" oN)
  (gl_MAY_LACK:uH PySem.Challenge.pw_underfloor_k19_parts_waits_and_ends w K mg "MAY_LACK" tZ)
  (gl_CALLS:dP PySem.Challenge.pw_underfloor_k19_parts_waits_and_ends w K mg "CALLS" qm):
  ∃fd:FuncData,(∀(s:Shared) (v:Value),BindsTo s fd ⟨[v],[]⟩ [("_law_script",v)])/\∀base:Heap,K.In base->base.Ns mainGlobals mg->L2.dX PySem.Challenge.pw_underfloor_k19_parts_waits_and_ends w K mg base L2.cV 13 fa fd ["_law_script"] (gS ⟨K,PySem.Challenge.pw_underfloor_k19_parts_waits_and_ends,w⟩ ml 1):=by
 obtain⟨f,fd,Fu,hm⟩:=F35;cases UR.symm.trans hm;obtain⟨oc,od,kV,doc,pm,an,Lk,ct,MO,rfl,lk,L4⟩:=Fu.ex;have MA:=SL X G z_all;have Mn:=SL X G z_bool;have G':=SL X G z_dict;have i':=SL X G z_isinstance;have Ly:=SL X G z_len;have Lp:=SL X G z_list;have NB:=SL X G z_min;have Lo:=SL X G z_range;have Lr:=SL X G z_sorted;have Ln:=SL X G z_tuple;have MF:=SL X G z_zip;refine⟨PySem.W.fnOf "law" "law" (L2.fK kX) (L2.cU kX) (L2.aH kX) .none kV doc pm an Lk ct,λs v=>.of_eq rfl,λbase _ _=>?_⟩;have U:=@FK.up PySem.Challenge.pw_underfloor_k19_parts_waits_and_ends w K mg base;have L6:=BZ (U F0);have LR:=CY (U F1) Ly;have LB:=GR (U F2) Lo;have Ml:=Jn (U F3);have LS:=Jh (U F4) Lo Ln;have L7:=Et (U F5) L6 LR LB Ml LS;have Lu:=GN (U F6) G' i' Lp Ln;have Ls:=CG (U F7) Lr;have LG:=Dm (U F8);have Mq:=Dr (U F9) Lp Ls LG;have Mb:=DH (U F10) Lo;have Mc:=KH (U F11) Mb Lu;have Mg:=Js (U F12) Ls LG;have LW:=Fm (U F13) Mq Mc Mg;have LI:=Cj (U F14) Lp;have J':=IE (U F15) G';have A':=Io (U F16) G' J';have j':=Dz (@fW.up .none PySem.Challenge.pw_underfloor_k19_parts_waits_and_ends w K mg base _ _ _ F17) LI A';have Lx:=CF (U F18) Lr;have LD:=E8 (U F19);have D':=E5 (U F20) G' J';have Mf:=Ef (U F21) Lx LD D' A';have Mj:=Ju (U F22) Lr;have LN:=Fv (U F23) Mj;have LH:=EU (U F24) G' LN J';have LU:=KI (U F25) A' LH
 have LC:=EG (U F26) LU A' Mf D' j';have Me:=Dt (U F27) LC;have LX:=EK (U F28) Lo;have LO:=Cm (U F29) G';have L9:=DD (U F30) gl_MOST_TASK gl_LACK LX j' LO J';have L':=Jw (U F31) Ly gl_NONE Lx LD D' j' A';have L8:=Jc (U F32) gl_BAD j' A';have LV:=CP (@fW.up (.bool false) PySem.Challenge.pw_underfloor_k19_parts_waits_and_ends w K mg base _ _ _ F33) gl_MAY_LACK gl_LACK gl_CALLS gl_BAD j' Me L9 L' L8;have LM:=HI (U F34) MA Mn G' i' Ly Lp Ln MF;exact Du Fu hm Ly NB Lo Lr L7 LB Lu LW LV LM LC
end dn
namespace dn
theorem KN(ns:VH)(h:ns.length<=63):ml [.lst (ns.map .int)]=.ok (.bl true):=FR ns
end dn
end PL
namespace PySem.W.Fast
def tw3736428787717876692:=0
def tw16694080017028498143:=0
def tw9963246667431624109:=0
def tw8231744045220863897:=0
def tw7380512391390550451:=0
def tw9601077227542733050:=0
def tw8438097500866776558:=0
def tw4992810531388180810:=0
def tw1680961823482570453:=0
def tw10224075271708091703:=0
def tw17276883969093275787:=0
def tw4834499950362741647:=0
def tw10345199805396511802:=0
def tw8487090821254895501:=0
def tw653178358139976945:=0
def tw8029103279843154116:=0
def tw16291025249095511774:=0
def tw3211474683338418607:=0
def tw25930036182963529:=0
def tw15161497694262788886:=0
def tw17072781672126688571:=0
def tw11725181320460377569:=0
def tw10671233510822967600:=0
def tw10303135798032349374:=0
def tw1490774856910774421:=0
def tw14985750792282653534:=0
def tw13599515288248410496:=0
def tw13746864592883703718:=0
def tw17951204051792577493:=0
def tw1562167536752873195:=0
def tw826797958897675355:=0
def tw14637255668302923933:=0
def tw6418963329687906366:=0
def tw7430900874604437580:=0
def tw14731844603045965798:=0
def tw17470046384681798527:=0
def tw13533584750438696582:=0
def tw6878447857016645724:=0
def tw3300837348710789015:=0
def tw7601246637084303871:=0
def tw7276731015339630455:=0
def tw15561600906647246802:=0
def tw18058169981111575468:=0
def tw18098287476125360975:=0
def tw14082446776140774907:=0
def tw813588462857678062:=0
def tw2106879181704084712:=0
def tw3842061113959535491:=0
def tw1958818031938765321:=0
def tw4160096682492784571:=0
def tw656381449037093547:=0
def tw14929891569430440490:=0
def tw8502548940060969450:=0
def tw10970909879013652280:=0
def tw15548512107525420702:=0
def tw11686930314904019252:=0
def tw6626917372581622611:=0
def tw12694847065213373047:=0
def tw1474055839144223506:=0
def tw977544017804822095:=0
def tw13821812336802807988:=0
def tw13406279227674461060:=0
def tw3256487891305124995:=0
def tw8057040799367745279:=0
def tw5801384458020939147:=0
def tw15096539060922402285:=0
def tw5790991665589685830:=0
def tw12887765182947276850:=0
def tw306519099437396851:=0
def tw17943785935989423480:=0
def tw14912925515946616788:=0
def tw11379187131421394535:=0
def tw16733341870778469975:=0
def tw5789813889146507030:=0
def tw5393134638985861526:=0
def tw8112772896648296764:=0
def tw1389135374348846938:=0
def tw13214904189027672129:=0
def tw3150495930166144389:=0
def tw5280825725611444269:=0
def tw11483134164319954540:=0
def tw2762726393912534145:=0
def tw17379072365258973725:=0
def tw14879418812272996710:=0
def tw13641242533146491676:=0
def tw10129008148209067650:=0
def tw6702561315893019397:=0
def tw16253892361783026977:=0
def tw10520534937788739597:=0
def tw12230995550473740306:=0
def tw8844827890785121780:=0
def tw12332890952253099327:=0
def tw5909351104951695852:=0
def tw12606679409270867472:=0
def tw5521205501795577092:=0
def tw15502516804501489037:=0
def tw12883556407741453225:=0
def tw6889477237514562089:=0
def tw8314789944241409891:=0
def tw12432921449106006752:=0
def tw8193152036872729962:=0
def tw14511109056967794543:=0
def tw6317185751255813395:=0
def tw5873048920234119577:=0
def tw5387262944917942797:=0
def tw2703991291811908754:=0
def tw12998086724740652727:=0
def tw5776636028887740315:=0
def tw2081067933142136380:=0
def tw6480910373857469949:=0
def tw14353050807701235507:=0
def tw4909838039482288907:=0
def tw2492508080698145157:=0
def tw7187615038111096203:=0
def tw13304744862664469129:=0
def tw7886775637676452733:=0
def tw9004380151563168017:=0
def tw6286088702804153345:=0
def tw9202804872179729551:=0
def tw16303547688711045452:=0
def tw13592856172878485090:=0
def tw11408647905805920602:=0
def tw16342416879347014574:=0
def tw4766842488465035774:=0
def tw7041929633804857666:=0
def tw6912385389456425081:=0
def tw9698253540023249679:=0
def tw7146342996021894293:=0
def tw1437456727448605341:=0
def tw12491941577453245130:=0
def tw16474966556653484172:=0
def tw9501294131844113602:=0
def tw4702814957135724907:=0
def tw7512805483823784160:=0
def tw9393648489093586691:=0
def tw5676640764466786:=0
def tw2881538509874414743:=0
def tw3129231805984516502:=0
def tw3570696485945260358:=0
def tw12756020173969196992:=0
def tw14799600021718041850:=0
def tw3694555553609267756:=0
def tw16978731923344089922:=0
def tw2777110703913131163:=0
def tw14502560557057696450:=0
def tw7402277511605826345:=0
def tw2021683782379025082:=0
def tw1991940578075215881:=0
def tw11788521628006669233:=0
def tw2174037394683268155:=0
end PySem.W.Fast
open PySem PySem.W PyProof.Rows
set_option maxRecDepth 100000 in
set_option maxHeartbeats 0 in
theorem PySem.Challenge.cw_underfloor_k19_parts_waits_and_ends_holds : PySem.Challenge.rw_underfloor_k19_parts_waits_and_ends.Holds := by
  w_on; o_law; k_head; (case hw => w_witness2)
  k_fill
  refine PL.walk (l := PySem.Challenge.rw_underfloor_k19_parts_waits_and_ends) (k := 13) (x := "_law_script") (m := PL.dn.ml) rfl rfl ⟨rfl, by decide, by decide⟩ (fun w h Y => PySem.W.km_in_of Y) ?F PL.dn.KN
  case F =>
    intro w mg fa h KX G hmg
    refine' PL.dn.all_mk KX G hmg ?F0 ?F1 ?F2 ?F3 ?F4 ?F5 ?F6 ?F7 ?F8 ?F9 ?F10 ?F11 ?F12 ?F13 ?F14 ?F15 ?F16 ?F17 ?F18 ?F19 ?F20 ?F21 ?F22 ?F23 ?F24 ?F25 ?F26 ?F27 ?F28 ?F29 ?F30 ?F31 ?F32 ?F33 ?F34 ?F35 ?z_all ?z_bool ?z_dict ?z_isinstance ?z_len ?z_list ?z_min ?z_range ?z_sorted ?z_tuple ?z_zip ?gl_MOST_TASK ?gl_LACK ?gl_NONE ?gl_BAD ?gl_MAY_LACK ?gl_CALLS
    (case F17 => exact PL.dn.Ez KX G (by k_is) (by k_is) (by k_is) (by k_is) (by k_is))
    (case F33 => exact PL.dn.Eg KX G (by k_is) (by k_is) (by k_is) (by k_is) (by k_is))
    (case z_all => k_is)
    (case z_bool => k_is)
    (case z_dict => k_is)
    (case z_isinstance => k_is)
    (case z_len => k_is)
    (case z_list => k_is)
    (case z_min => k_is)
    (case z_range => k_is)
    (case z_sorted => k_is)
    (case z_tuple => k_is)
    (case z_zip => k_is)
    (case gl_MOST_TASK => refine' PL.qa KX G ?x1_MOST_TASK ?x2_MOST_TASK; (case x1_MOST_TASK => k_is); (case x2_MOST_TASK => exact ⟨_, rfl⟩))
    (case gl_LACK => refine' PL.qa KX G ?x1_LACK ?x2_LACK; (case x1_LACK => k_is); (case x2_LACK => exact ⟨_, rfl⟩))
    (case gl_NONE => refine' PL.qa KX G ?x1_NONE ?x2_NONE; (case x1_NONE => k_is); (case x2_NONE => exact ⟨_, rfl⟩))
    (case gl_BAD => refine' PL.qa KX G ?x1_BAD ?x2_BAD; (case x1_BAD => k_is); (case x2_BAD => exact ⟨_, rfl⟩))
    (case gl_MAY_LACK => refine' PL.EC KX G ?x1_MAY_LACK ?x2_MAY_LACK ?x3_MAY_LACK ?x4_MAY_LACK; (case x1_MAY_LACK => k_is); (case x2_MAY_LACK => k_is); (case x3_MAY_LACK => exact ⟨_, _, rfl, ⟨_, rfl⟩, ⟨_, _, rfl, ⟨_, rfl⟩, ⟨_, _, rfl, ⟨_, rfl⟩, ⟨_, _, rfl, ⟨_, rfl⟩, ⟨_, _, rfl, ⟨_, rfl⟩, rfl⟩⟩⟩⟩⟩); (case x4_MAY_LACK => decide))
    (case gl_CALLS => refine' PL.Co KX G ?x1_CALLS ?x2_CALLS ?x3_CALLS ?x4_CALLS ?x5_CALLS ?x6_CALLS; (case x1_CALLS => k_is); (case x2_CALLS => k_is); (case x3_CALLS => exact ⟨_, _, _, _, _, _, rfl, rfl, rfl, rfl, rfl, by k_is, ⟨_, _, _, _, _, _, rfl, rfl, rfl, rfl, rfl, by k_is, ⟨_, _, _, _, _, _, rfl, rfl, rfl, rfl, rfl, by k_is, ⟨_, _, _, _, _, _, rfl, rfl, rfl, rfl, rfl, by k_is, ⟨_, _, _, _, _, _, rfl, rfl, rfl, rfl, rfl, by k_is, ⟨_, _, _, _, _, _, rfl, rfl, rfl, rfl, rfl, by k_is, ⟨_, _, _, _, _, _, rfl, rfl, rfl, rfl, rfl, by k_is, ⟨_, _, _, _, _, _, rfl, rfl, rfl, rfl, rfl, by k_is, ⟨_, _, _, _, _, _, rfl, rfl, rfl, rfl, rfl, by k_is, ⟨_, _, _, _, _, _, rfl, rfl, rfl, rfl, rfl, by k_is, ⟨_, _, _, _, _, _, rfl, rfl, rfl, rfl, rfl, by k_is, ⟨rfl, rfl⟩⟩⟩⟩⟩⟩⟩⟩⟩⟩⟩⟩); (case x4_CALLS => decide); (case x5_CALLS => decide); (case x6_CALLS => rfl))
    all_goals exact PL.FK.mk KX G (by k_is) (by k_is) (by k_is) (by k_is)

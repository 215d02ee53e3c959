import PyProof.Rows.All
import Wide.All
import OpenK.AllK
import Wide.FinOn
import Lean
import PyProof.EqAt
import PyProof.EqKinds
import PyProof.TupleCall
import KE.KIntText
import Wide.Seal
import PyProof.Rows.SortStr
import KE.KDictList
import PyProof.StrBlockH
import KE.KSortedL
import KE.KSorted
import PyProof.Rows.SortWalk
import PySem.Challenge.RW_underfloor_k13_pages_called_for
noncomputable section
set_option Elab.async false
set_option linter.all false
set_option maxRecDepth 100000
namespace L2
open PySem PySem.Spec PyProof.Rows
abbrev Key:=Sum Int Str
def j8:Key→Value→Bool
 |.inl k,v=>Value.isInt k v
 |.inr x,v=>Value.isStrOf x v
def HE(w:World):Key→Int
 |.inl k=>hashInt k
 |.inr x=>hashStr w x
theorem ij:∀ {k:Key} {v:Value},j8 k v=true→(∃i t,k=Sum.inl i∧v=Value.int i t)∨(∃x t,k=Sum.inr x∧v=Value.str x t)
 | .inl i,v,h=>by
   obtain⟨t,e⟩:=Value.isInt_shape (k:=i) (v:=v) h;exact .inl ⟨i,t,rfl,e⟩
 | .inr x,v,h=>by
   obtain⟨t,e⟩:=Value.isStrOf_shape (x:=x) (v:=v) h;exact .inr ⟨x,t,rfl,e⟩
theorem Dt(i:Int)(t:Tok):j8 (.inl i) (.int i t)=true:=by simp[j8,Value.isInt]
theorem AW(x:Str)(t:Tok):j8 (.inr x) (.str x t)=true:=by simp[j8,Value.isStrOf]
theorem Ep(a b:Int):decide ((Sum.inl a:Key)=Sum.inl b)=(a==b):=by
 by_cases e:a=b
 ·subst e;simp
 · have h:¬(Sum.inl a:Key)=Sum.inl b:=fun q=>e (Sum.inl.inj q)
   rw[decide_eq_false h];exact(beq_eq_false_iff_ne.mpr e).symm
theorem Hk(a b:Str):decide ((Sum.inr a:Key)=Sum.inr b)=decide (a=b):=by
 by_cases e:a=b
 ·subst e;simp
 · have h:¬(Sum.inr a:Key)=Sum.inr b:=fun q=>e (Sum.inr.inj q)
   rw[decide_eq_false h,decide_eq_false e]
theorem Dh(a:Int)(b:Str):decide ((Sum.inl a:Key)=Sum.inr b)=false:=decide_eq_false (fun q=>nomatch q)
theorem Ha(a:Str)(b:Int):decide ((Sum.inr a:Key)=Sum.inl b)=false:=decide_eq_false (fun q=>nomatch q)
noncomputable def b0(prog:Program)(w:World):PySem.KeyKind prog w Key where
 is:=j8
 hash:=HE w
 inj:=fun v a b ha hb=>by
   rcases ij ha with⟨i,t,rfl,rfl⟩|⟨x,t,rfl,rfl⟩
   · rcases ij hb with⟨j,u,rfl,e⟩|⟨y,u,rfl,e⟩
     ·injection e with e1 _;rw[e1]
     ·exact nomatch e
   · rcases ij hb with⟨j,u,rfl,e⟩|⟨y,u,rfl,e⟩
     ·exact nomatch e
     ·injection e with e1 _;rw[e1]
 byValue:=fun k v h=>by
   rcases ij h with⟨i,t,rfl,rfl⟩|⟨x,t,rfl,rfl⟩<;>rfl
 pyHash:=fun hv h=>by
   rcases ij hv with⟨i,t,rfl,rfl⟩|⟨x,t,rfl,rfl⟩
   ·exact wpAny_pyHash_int h
   ·exact wpAny_pyHash_str h
 eqBool:=fun hu hv h=>by
   rcases ij hu with⟨i,t,rfl,rfl⟩|⟨x,t,rfl,rfl⟩
   · rcases ij hv with⟨j,u,rfl,rfl⟩|⟨y,u,rfl,rfl⟩
     ·rw[Ep]at h;exact wpAny_eqBool_int h
     ·rw[Dh]at h;exact SeqAt.EqAt.int_str i t y u _ _ _ _ h
   · rcases ij hv with⟨j,u,rfl,rfl⟩|⟨y,u,rfl,rfl⟩
     ·rw[Ha]at h;exact SeqAt.EqAt.str_int x t j u _ _ _ _ h
     ·rw[Hk]at h;exact wpAny_eqBool_str h
 «strs»:=fun k x t v h=>by
   rcases ij h with⟨i,u,rfl,e⟩|⟨y,u,rfl,e⟩
   ·exact nomatch e
   · injection e with e1 _
     subst e1;cases v<;>rfl
theorem HV(prog:Program)(w:World)(i:Int)(t:Tok):(b0 prog w).is (.inl i) (.int i t)=true:=Dt i t
theorem Jr(prog:Program)(w:World)(x:Str)(t:Tok):(b0 prog w).is (.inr x) (.str x t)=true:=AW x t
end L2
namespace L2
open PySem PySem.Spec PyProof.Rows
inductive V where
 |aH|bl (b:Bool)|int (i:Int)|str (x:Str)|mr (b:Array UInt8)|ri (b:UInt64)|ref (a:Addr)|ty (n:String)
 deriving DecidableEq
def RelV:V→Value→Prop
 |.aH,u=>u=Value.none
 |.bl b,u=>u=Value.bool b
 |.int i,u=>∃t,u=Value.int i t
 |.str x,u=>∃t,u=Value.str x t
 |.mr b,u=>∃t,u=Value.bytes b t
 |.ri b,u=>∃t,u=Value.float b t
 |.ref a,u=>u=Value.ref a
 |.ty n,u=>u=Value.type n
abbrev Vals:List V→List Value→Prop:=Paired RelV
theorem Vals.length{xs:List V}{us:List Value}(r:Vals xs us):xs.length=us.length:=Paired.length r
theorem Vals.get:∀ {xs:List V} {us:List Value} {i:Nat} {x:V},Vals xs us→xs[i]? =some x→∃u,us[i]? =some u∧RelV x u
 |_,_,_,_,.nil,e=>by simp at e
 |_,_,0,_,.cons r _,e=>by simp at e;subst e;exact⟨_,rfl,r⟩
 | _,_,i+1,x,.cons _ t,e=>by
   obtain⟨u,h1,h2⟩:=Vals.get (i:=i) (x:=x) t (by simpa using e)
   exact⟨u,by simpa using h1,h2⟩
theorem Vals.set(r:RelV x u):∀ {xs:List V} {us:List Value} (i:Nat),Vals xs us→Vals (xs.set i x) (us.set i u)
 |_,_,_,.nil=>.nil
 |_,_,0,.cons _ t=>.cons r t
 |_,_,i+1,.cons q t=>.cons q (Vals.set r i t)
theorem Vals.append:∀ {xs ys:List V} {us ws:List Value},Vals xs us→Vals ys ws→Vals (xs++ys) (us++ws)
 |_,_,_,_,.nil,s=>s
 |_,_,_,_,.cons r t,s=>.cons r (Vals.append t s)
theorem Vals.take:∀ {xs:List V} {us:List Value} (n:Nat),Vals xs us→Vals (xs.take n) (us.take n)
 |_,_,0,_=>.nil
 |_,_,_+1,.nil=>.nil
 |_,_,n+1,.cons r t=>.cons r (Vals.take n t)
theorem Vals.drop:∀ {xs:List V} {us:List Value} (n:Nat),Vals xs us→Vals (xs.drop n) (us.drop n)
 |_,_,0,r=>r
 |_,_,_+1,.nil=>.nil
 |_,_,n+1,.cons _ t=>Vals.drop n t
theorem Vals.none_of:∀ {xs:List V} {us:List Value} {i:Nat},Vals xs us→xs[i]? =none→us[i]? =none:=fun {xs us i} r e=>by
 have h1:=r.length;have h2:xs.length≤i:=List.getElem?_eq_none_iff.mp e;exact List.getElem?_eq_none_iff.mpr (by omega)
def eV:Option V→Option Value→Prop
 |some v,some u=>RelV v u
 |none,none=>True
 |_,_=>False
def KV{κ:Type}:List (κ×V)→List (κ×Value)→Prop:=Paired fun(p:κ×V) (q:κ×Value)=>p.1=q.1∧RelV p.2 q.2
def kV:Key→V
 |.inl i=>.int i
 |.inr x=>.str x
inductive HO where
 |lst (xs:List V)
 |tup (xs:List V)
 |dK (kvs:List (Key×V))|dT (kvs:List (List Key×V))
 |set (S:Int→Bool) (n:Nat)
 |ins (C dx:Addr) (fs:List (Str×V))
 |own (x:Addr)
 |xd (fs:List (Str×V))
 |met (f x:Addr)
 |qd (lo hi:Int)
 |frz (o:Obj) (u:HO)
 |ji (ps:Array Value)
 |ext (φ:Heap→Prop)
abbrev Hp:=Addr→Option HO
def upd(H:Hp)(a:Addr)(o:HO):Hp:=fun b=>if b=a then some o else H b
theorem bu{H:Hp}{a:Addr}{o:HO}:upd H a o a=some o:=by unfold upd;rw[if_pos rfl]
theorem aF{H:Hp}{a b:Addr}{o:HO}(h:b≠a):upd H a o b=H b:=by unfold upd;rw[if_neg h]
theorem qM:upd (upd H a o) a u=upd H a u:=by
 funext b;unfold upd;split<;>rfl
theorem JV{H:Hp}{a b:Addr}{o u:HO}(h:H a=some o)(h':H b=some u)(d:o≠u):a≠b:=by
 intro e;subst e;rw[h]at h';exact d (Option.some.inj h')
theorem eT{H:Hp}{a b:Addr}{o:HO}(h:H a=some o)(h':H b=none):a≠b:=by
 intro e;subst e;rw[h]at h';cases h'
section
variable(P:Program)(w:World)
def cX(H:Hp)(h:Heap)(a:Addr):HO→Prop
 |.lst xs=>xs.length≤sizeLine∧∃(B':List Value) (n:Nat),Vals xs B'∧h.get? a=some {cls:=.type "list",data:=.seq B'.toArray n}
 |.tup xs=>xs.length≤sizeLine∧∃B':List Value,Vals xs B'∧IsTup h a B'.toArray
 |.dK kvs=>kvs.length≤sizeLine∧(a==sysModules)=false∧∃vs,KV kvs vs∧h.DictOf (b0 P w) a vs
 |.dT kvs=>kvs.length≤sizeLine∧(a==sysModules)=false∧∃xs:List (List Key×Addr×Value),
     Paired (fun(p:List Key×V) (q:List Key×Addr×Value)=>p.1=q.1∧H q.2.1=some (.tup (p.1.map kV))∧RelV p.2 q.2.2) kvs xs∧
     ∃o es ep,h.get? a=some o∧o.ExactDict∧o.data=.dict es ep∧es.toList=xs.map (entryOfKey (tupleKind (b0 P w)))∧(xs.map (·.1)).Nodup
 |.set S n=>h.SetOf (intKind P w) a S n
 |.ins C dx fs=>H dx=some (.own a)∧fs.length≤1000∧dx≠a∧h.get? a=some (PySem.W.instObj C dx)∧
     ∃mA,h.Ns1 dx mA∧(∀f,eV (fs.lookup f) (mA f))∧PySem.Within mA (fs.map (·.1))
 |.own _=>∃o,h.get? a=some o
 |.xd fs=>∃mA,h.Ns1 a mA∧∀f,eV (fs.lookup f) (mA f)
 |.qd lo hi=>∃t u v,h.get? a=some {cls:=.type "range",data:=.fields #[.int lo t,.int hi u,.int 1 v]}
 |.frz o u=>h.get? a=some o∧cX H h a u
 |.ji ps=>h.get? a=some {cls:=.none,data:=.fields ps}
 |.met f x=>h.get? a=some (PySem.W.methodObj (.ref f) (.ref x))
 |.ext φ=>φ h∧(∃o,h.get? a=some o)∧∀h1 h2:Heap,φ h1→(∀o,h1.get? a=some o→h2.get? a=some o)→φ h2
def bV(H:Hp)(h:Heap):Prop:=∀a o,H a=some o→cX P w H h a o
end
section
variable{P:Program}{w:World}{H H':Hp}{h h':Heap}{a:Addr}{o:HO}
theorem cX.lt(x:cX P w H h a o):a<h.objs.size:=by
 cases o with
 |lst xs=>obtain⟨_,_,_,_,e⟩:=x;exact Heap.lt_size e
 |tup xs=>obtain⟨_,_,_,p⟩:=x;exact p.lt
 |dK kvs=>obtain⟨_,_,_,_,o,_,_,e,_⟩:=x;exact Heap.lt_size e
 |dT kvs=>obtain⟨_,_,_,_,o,_,_,e,_⟩:=x;exact Heap.lt_size e
 |set S n=>obtain⟨o,_,_,_,e,_⟩:=x;exact Heap.lt_size e
 |ins C dx fs=>obtain⟨_,_,_,e,_⟩:=x;exact Heap.lt_size e
 |own y=>obtain⟨_,e⟩:=x;exact Heap.lt_size e
 |xd fs=>obtain⟨_,⟨_,_,_,e,_⟩,_⟩:=x;exact Heap.lt_size e
 |qd lo hi=>obtain⟨_,_,_,e⟩:=x;exact Heap.lt_size e
 |frz ob u=>obtain⟨e,_⟩:=x;exact Heap.lt_size e
 |ji ps=>exact Heap.lt_size (show h.get? a=some _ from x)
 |met f y=>exact Heap.lt_size (show h.get? a=some _ from x)
 |ext φ=>obtain⟨_,⟨_,e⟩,_⟩:=x;exact Heap.lt_size e
theorem Paired.sT{α β:Type}{F G:α→β→Prop}:∀ {QI:List α} {QV:List β},Paired F QI QV→(∀a b,F a b→G a b)→Paired G QI QV
 |_,_,.nil,_=>.nil
 |_,_,.cons r t,f=>.cons (f _ _ r) (Paired.sT t f)
theorem cX.dX(x:cX P w H h a o)(k:∀b u,(b=a∨H b=some (.own a))→h.get? b=some u→h'.get? b=some u)
   (ho:∀b,H b=some (.own a)→H' b=some (.own a)) (ht:∀b xs,H b=some (.tup xs)→H' b=some (.tup xs)):cX P w H' h' a o:=by
 induction o with
 |lst xs=>obtain⟨z,B',n,r,e⟩:=x;exact⟨z,B',n,r,k _ _ (.inl rfl) e⟩
 |tup xs=>obtain⟨z,B',r,ob,e,c⟩:=x;exact⟨z,B',r,ob,k _ _ (.inl rfl) e,c⟩
 |dK kvs=>obtain⟨z,y,vs,r,ob,es,ep,e,c⟩:=x;exact⟨z,y,vs,r,ob,es,ep,k _ _ (.inl rfl) e,c⟩
 | dT kvs=>
   obtain⟨z,y,xs,r,ob,es,ep,e,c⟩:=x;exact⟨z,y,xs,Paired.sT r fun p q z=>⟨z.1,ht _ _ z.2.1,z.2.2⟩,ob,es,ep,k _ _ (.inl rfl) e,c⟩
 |set S n=>obtain⟨ob,es,ep,t,e,c⟩:=x;exact⟨ob,es,ep,t,k _ _ (.inl rfl) e,c⟩
 | ins C dx fs=>
   obtain⟨d,z,ne,e,mA,⟨od,es,ep,e2,c⟩,r⟩:=x;exact⟨ho _ d,z,ne,k _ _ (.inl rfl) e,mA,⟨od,es,ep,k _ _ (.inr d) e2,c⟩,r⟩
 |own y=>obtain⟨ob,e⟩:=x;exact⟨ob,k _ _ (.inl rfl) e⟩
 |xd fs=>obtain⟨mA,⟨od,es,ep,e,c⟩,r⟩:=x;exact⟨mA,⟨od,es,ep,k _ _ (.inl rfl) e,c⟩,r⟩
 |qd lo hi=>obtain⟨t,u,v,e⟩:=x;exact⟨t,u,v,k _ _ (.inl rfl) e⟩
 |frz ob u ih=>obtain⟨e,q⟩:=x;exact⟨k _ _ (.inl rfl) e,ih q⟩
 | ji ps=>
   have e:h.get? a=some {cls:=.none,data:=.fields ps}:=x;show h'.get? a=some {cls:=.none,data:=.fields ps};exact k a _ (.inl rfl) e
 | met f y=>
   have e:h.get? a=some (PySem.W.methodObj (.ref f) (.ref y)):=x;show h'.get? a=some (PySem.W.methodObj (.ref f) (.ref y));exact k a _ (.inl rfl) e
 |ext φ=>obtain⟨p,⟨o,e⟩,st⟩:=x;exact⟨st _ _ p fun o q=>k _ _ (.inl rfl) q,⟨o,k _ _ (.inl rfl) e⟩,st⟩
theorem bV.lt(x:bV P w H h)(e:H a=some o):a<h.objs.size:=(x a o e).lt
theorem bV.fresh(x:bV P w H h)(e:h.objs.size≤a):H a=none:=by
 cases q:H a with
 |none=>rfl
 |some u=>exact absurd (Nat.lt_of_lt_of_le (x.lt q) e) (Nat.lt_irrefl _)
theorem bV.kept(x:bV P w H h)(k:∀b u,h.get? b=some u→h'.get? b=some u):bV P w H h':=fun a o e=>
 (x a o e).dX (fun b u _ q=>k b u q) (fun _ q=>q) fun _ _ q=>q
theorem bV.laid(x:bV P w H h)(k:∀b u,h.get? b=some u→h'.get? b=some u)(hp:h.objs.size≤a)(new:cX P w (upd H a o) h' a o):bV P w (upd H a o) h':=fun b u e=>by
 have hn:=x.fresh hp;by_cases hb:b=a
 ·subst hb;rw[bu]at e;cases e;exact new
 · rw[aF hb]at e
   exact(x b u e).dX (fun c v _ q=>k c v q) (fun c q=>by rw[aF (eT q hn)];exact q) fun c xs q=>by rw[aF (eT q hn)];exact q
end
def Rd(H:Hp)(a:Addr)(u:HO):Prop:=H a=some u∨∃o,H a=some (.frz o u)
theorem Rd.of(h:H a=some u):Rd H a u:=.inl h
theorem Rd.ok{P:Program}{w:World}{H:Hp}{h:Heap}{a:Addr}{u:HO}(r:Rd H a u)(x:bV P w H h):cX P w H h a u:=by
 rcases r with r|⟨o,r⟩
 ·exact x a u r
 · obtain⟨_,q⟩:=x a _ r
   exact q
def nU:Option HO→Prop
 |some (.lst _)=>True
 |some (.dK _)=>True
 |some (.dT _)=>True
 |some (.set _ _)=>True
 |some (.ins _ _ _)=>True
 |some (.ext _)=>True
 |_=>False
section
variable{P:Program}{w:World}{H:Hp}{h h':Heap}{x e:Addr}{o':HO}
theorem bV.write(ok:bV P w H h)(mu:nU (H x))(he:e=x∨H e=some (.own x))(k:∀b u,b≠e→h.get? b=some u→h'.get? b=some u)(PY:∃u,h'.get? e=some u)
   (new:cX P w (upd H x o') h' x o'):bV P w (upd H x o') h':=fun b u q=>by
 have Qu:∀c y,H c=some (.own y)→c≠x:=fun c y r z=>by subst z;rw[r]at mu;exact mu
 have Sg:∀c xs,H c=some (.tup xs)→c≠x:=fun c xs r z=>by subst z;rw[r]at mu;exact mu
 by_cases hb:b=x
 ·subst hb;rw[bu]at q;cases q;exact new
 · rw[aF hb]at q
   by_cases hbe:b=e
   · have q':H b=some (.own x):=by
       rcases he with z|z
       ·exact absurd (hbe.trans z) hb
       ·rw[hbe];exact z
     rw[q]at q';cases q';obtain⟨v,hv⟩:=PY;exact⟨v,by rw[hbe];exact hv⟩
   · refine(ok b u q).dX (fun c v hc r=>k c v ?_ r) (fun c r=>by rw[aF (Qu c b r)];exact r) fun c xs r=>by rw[aF (Sg c xs r)];exact r
     rcases hc with rfl|hc
     ·exact hbe
     · rintro rfl
       rcases he with z|z
       ·exact Qu c b hc z
       ·rw[hc]at z;cases z;exact hb rfl
end
structure Un(fs ex:List Addr)(H H':Hp)(h h':Heap):Prop where
 keep:∀b o,h.get? b=some o→H b=none→b∉fs→b∉ex→h'.get? b=some o
 slot:∀b o,h.get? b=some o→H b=none→b∈fs→b∉ex→∃sl,h'.get? b=some {o with slots:=sl}
 free:∀b o,h.get? b=some o→H b=none→b∉ex→H' b=none
 there:∀b o,h.get? b=some o→b∉ex→∃o',h'.get? b=some o'
 fq:∀b xs,H b=some (.tup xs)→H' b=some (.tup xs)
 dU:∀b o u,H b=some (.frz o u)→H' b=some (.frz o u)
 fA:∀b ps,H b=some (.ji ps)→∃more,H' b=some (.ji (ps++more))
section
variable{fs RJ ex TU:List Addr}{H H1 H2:Hp}{h h1 h2 h':Heap}{a x e:Addr}{o:HO}
theorem Un.any(u:Un fs ex H H1 h h1){b:Addr}{ob:Obj}(q:h.get? b=some ob)(n:H b=none)(hx:b∉ex):∃sl,h1.get? b=some {ob with slots:=sl}:=by
 by_cases hb:b∈fs
 ·exact u.slot b ob q n hb hx
 ·exact⟨ob.slots,u.keep b ob q n hb hx⟩
theorem Un.trans(a:Un fs ex H H1 h h1)(b:Un fs ex H1 H2 h1 h2):Un fs ex H H2 h h2 where
 keep:=fun c ob q n hc hx=>b.keep c ob (a.keep c ob q n hc hx) (a.free c ob q n hx) hc hx
 slot:=fun c ob q n hc hx=>by
   obtain⟨sl,e1⟩:=a.slot c ob q n hc hx;obtain⟨RY,e2⟩:=b.slot c _ e1 (a.free c ob q n hx) hc hx;exact⟨RY,e2⟩
 free:=fun c ob q n hx=>by
   obtain⟨o',e1⟩:=a.there c ob q hx;exact b.free c o' e1 (a.free c ob q n hx) hx
 there:=fun c ob q hx=>by
   obtain⟨o',e1⟩:=a.there c ob q hx;exact b.there c o' e1 hx
 fq:=fun c xs q=>b.fq c xs (a.fq c xs q)
 dU:=fun c ob xs q=>b.dU c ob xs (a.dU c ob xs q)
 fA:=fun c ps q=>by
   obtain⟨m1,e1⟩:=a.fA c ps q;obtain⟨m2,e2⟩:=b.fA c _ e1;exact⟨m1++m2,by rw[e2,Array.append_assoc]⟩
theorem Un.kept(k:∀b u,h.get? b=some u→h'.get? b=some u):Un fs ex H H h h':=
 ⟨fun b ob q _ _ _=>k b ob q,fun b ob q _ _ _=>⟨ob.slots,k b ob q⟩,fun _ _ _ n _=>n,fun b ob q _=>⟨ob,k b ob q⟩,fun _ _ q=>q,fun _ _ _ q=>q,fun _ ps q=>⟨#[],by rw[q];simp⟩⟩
theorem Un.refl:Un fs ex H H h h:=Un.kept fun _ _ q=>q
theorem Un.laid(k:∀b u,h.get? b=some u→h'.get? b=some u)(hp:h.objs.size≤a)(hn:H a=none):Un fs ex H (upd H a o) h h' where
 keep:=fun b u q _ _ _=>k b u q
 slot:=fun b u q _ _ _=>⟨u.slots,k b u q⟩
 free:=fun b u q n _=>by rw[aF (Nat.ne_of_lt (Nat.lt_of_lt_of_le (Heap.lt_size q) hp))];exact n
 there:=fun b u q _=>⟨u,k b u q⟩
 fq:=fun b xs q=>by rw[aF (eT q hn)];exact q
 dU:=fun b u xs q=>by rw[aF (eT q hn)];exact q
 fA:=fun b ps q=>⟨#[],by rw[aF (eT q hn),q];simp⟩
theorem Un.write(mu:nU (H x))(he:e=x∨H e=some (.own x))(k:∀b u,b≠e→h.get? b=some u→h'.get? b=some u)(PY:∃u,h'.get? e=some u):Un fs ex H (upd H x o) h h':=by
 have hx:∀b,H b=none→b≠x:=fun b n z=>by subst z;rw[n]at mu;exact mu
 have hb:∀b,H b=none→b≠e:=fun b n z=>by
   subst z;rcases he with r|r
   ·exact hx b n r
   ·rw[n]at r;cases r
 have hm:∀b u,H b=some u→¬nU (some u)→b≠x:=fun b u q nm z=>by subst z;rw[q]at mu;exact nm mu
 refine⟨fun b u q n _ _=>k b u (hb b n) q,fun b u q n _ _=>⟨u.slots,k b u (hb b n) q⟩,fun b u q n _=>by rw[aF (hx b n)];exact n,fun b u q _=>?_,
   fun b xs q=>by rw[aF (hm b _ q fun z=>z)];exact q,fun b u xs q=>by rw[aF (hm b _ q fun z=>z)];exact q,fun b ps q=>⟨#[],by rw[aF (hm b _ q fun z=>z),q];simp⟩⟩
 by_cases hbe:b=e
 ·subst hbe;exact PY
 ·exact⟨u,k b u hbe q⟩
theorem Un.mono(u:Un fs ex H H1 h h1)(hs:∀b∈fs,b∈RJ)(hx:∀b∈ex,b∈TU):Un RJ TU H H1 h h1:=
 ⟨fun b ob q n hb he=>u.keep b ob q n (fun z=>hb (hs b z)) fun z=>he (hx b z),fun _ _ q n _ he=>u.any q n fun z=>he (hx _ z),fun b ob q n he=>u.free b ob q n fun z=>he (hx b z),fun b ob q he=>u.there b ob q fun z=>he (hx b z),u.fq,u.dU,u.fA⟩
end
def aX(h:Heap)(H:Hp):List Addr:=(List.range h.objs.size).filter fun a=>(H a).isSome
def iH(h:Heap)(H:Hp):Heap:=PySem.W.hideAll h (aX h H)
theorem Fh(h:Heap)(H:Hp):(iH h H).objs.size=h.objs.size:=PySem.W.hideAll_size _ _
theorem BR(e:h.get? b=some o)(n:H b=none):(iH h H).get? b=some o:=
 PySem.W.hideAll_get _ e fun hm=>by
   have q:(H b).isSome=true:=(List.mem_filter.mp hm).2;rw[n]at q;simp at q
theorem B3(e:(iH h H).get? b=some o):h.get? b=some o∧H b=none:=by
 have e':h.get? b=some o:=PySem.W.of_hideAll (aX h H) e;refine⟨e',?_⟩;cases q:H b with
 |none=>rfl
 | some x=>
   have hm:b∈aX h H:=List.mem_filter.mpr ⟨List.mem_range.mpr (Heap.lt_size e'),by simp[q]⟩
   have z:(iH h H).get? b=none:=PySem.W.hideAll_none (aX h H) hm;rw[z]at e;cases e
noncomputable def FF(g h:Heap)(L:Addr):List (Addr×Obj):=(List.range h.objs.size).filterMap fun a=>if a=L∨(g.get? a).isSome=true then none else(h.get? a).map fun o=>(a,o)
def rest(g h:Heap)(L d:Addr):List (Addr×Obj):=(FF g h L).filter fun p=>decide (p.1≠d)
end L2
namespace L2
open PySem PySem.Spec PyProof.Rows
structure Mod(K:PySem.W.Frag)(mg:Str→Option Value)(base:Heap):Prop where
 q8:K.In base
 glob:base.Ns mainGlobals mg
 blt:∃mb,base.Ns builtinsNs mb∧∀x:Str,x≠"__name__"→mb x=bootBuiltins x
 nolimit:base.NoLimit
structure Cx where
 prog:Program
 w:World
 K:PySem.W.Frag
 mg:Str→Option Value
 base:Heap
 A:Around
 N:List Str
 cS:Shared
 jg:Hp
 env:Env
 outer:List Env
 stack:List Env
 ex:List Addr
 fn:Str→Bool
 calm:Bool
 pn:List (Addr×Obj)
 xe:Value→Shared→Prop
def cZ(l:List Env):List Addr:=l.filterMap (·.frame)
abbrev Cx.fs(X:Cx):List Addr:=cZ X.outer
def cw(sc:Scope)(x:Str):Prop:=sc.names.lookup x=some .local∨sc.names.lookup x=some .cell∨sc.names.lookup x=some .free
def Loc(sc:Scope)(x:Str):Prop:=sc.names.lookup x=some .local∨sc.names.lookup x=some .cell
def Look(env:Env)(h:Heap)(m:Str→Option Value)(x:Str)(u:Value):Prop:=
 (env.kindOf x=some .local∧m x=some u)∨((env.kindOf x=some .cell∨env.kindOf x=some .free)∧∃c,env.cells.lookup x=some c∧h.IsCell c (some u))
structure Cx.Ok(X:Cx):Prop where
 mod:Mod X.K X.mg X.base
 kind:X.env.scope.kind=.function
 glob:X.env.globals=mainGlobals
 blt:X.env.builtins=builtinsNs
 above:X.cS.heap.objs.size≤X.env.locals
 inj:∀x y c,X.env.cells.lookup x=some c→X.env.cells.lookup y=some c→x=y
 has:∀x,(X.env.kindOf x=some .cell∨X.env.kindOf x=some .free)→∃c,X.env.cells.lookup x=some c
 mX:∀x c,X.fn x=true→X.env.cells.lookup x=some c→X.cS.heap.objs.size≤c
 hd:X.calm=true→X.A.handled=none
 frames:X.A.frames=some X.stack
 qY:X.stack=X.outer∨(X.stack=X.env::X.outer∧X.env.frame=some X.env.locals)
 vo:∀b∈X.ex,b≠X.env.locals∧∀x c,X.env.cells.lookup x=some c→c≠b
 bs:∀b o,X.base.get? b=some o→X.cS.heap.get? b=some o∧X.jg b=none
 iR:X.base.objs.size≤X.cS.heap.objs.size
 ou:∀b o,X.base.get? b=some o→b∉X.ex
 pY:∀b∈X.ex,b∉X.fs
 gD:X.cS.heap.FunFrames X.base X.outer
 j5:∀b∈X.fs,X.jg b=none
structure Inv(X:Cx)(pins:List (Addr×Obj))(σ:List (Option V))(H:Hp)(s:Shared):Prop where
 ok:X.Ok
 os:s.os=X.cS.os
 bare:AllBare s.gens
 base:Un X.fs X.ex X.jg H X.cS.heap s.heap
 loc:∃m,s.heap.Ns X.env.locals m∧∀(i:Nat) (x:Str) (v:V),X.N[i]? =some x→σ[i]? =some (some v)→cw X.env.scope x→∃u,RelV v u∧Look X.env s.heap m x u
 cell:∀x c,X.env.cells.lookup x=some c→∃v,s.heap.IsCell c v
 free:H X.env.locals=none
 gE:∀x c,X.env.cells.lookup x=some c→H c=none
 pin:∀p∈X.pn++pins,s.heap.get? p.1=some p.2∧H p.1=none∧p.1≠X.env.locals∧p.1∉X.fs∧∀v,p.2.data≠.cell v
 aI:bV X.prog X.w H s.heap
 len:σ.length=X.N.length
section
variable{X:Cx}{pins:List (Addr×Obj)}{σ:List (Option V)}{H H':Hp}{s:Shared}{h':Heap}
theorem Cx.Ok.Cf(ok:X.Ok)(e:X.base.get? b=some o):b∉X.fs:=fun hb=>by
 have:=(ok.gD.mem hb).1;rw[e]at this;cases this
theorem Inv.bs(I:Inv X pins σ H s):∀b o,X.base.get? b=some o→s.heap.get? b=some o∧H b=none:=fun b o e=>
 ⟨I.base.keep b o (I.ok.bs b o e).1 (I.ok.bs b o e).2 (I.ok.Cf e) (I.ok.ou b o e),I.base.free b o (I.ok.bs b o e).1 (I.ok.bs b o e).2 (I.ok.ou b o e)⟩
theorem Inv.bk(I:Inv X pins σ H s):∀b o,X.base.get? b=some o→s.heap.get? b=some o:=fun b o e=>(I.bs b o e).1
theorem Inv.mod(I:Inv X pins σ H s):Mod X.K X.mg X.base:=I.ok.mod
theorem Inv.cE(I:Inv X pins σ H s):X.K.In s.heap:=I.ok.mod.q8.keeps I.bk
theorem Inv.nolimit(I:Inv X pins σ H s):s.heap.NoLimit:=I.ok.mod.nolimit.keeps I.bk
theorem Inv.lt(I:Inv X pins σ H s):X.env.locals<s.heap.objs.size:=let⟨_,hn,_⟩:=I.loc;hn.lt
theorem Inv.sz(I:Inv X pins σ H s):X.cS.heap.objs.size≤s.heap.objs.size:=Nat.le_trans I.ok.above (Nat.le_of_lt I.lt)
theorem Inv.EI(I:Inv X pins σ H s)(h:s.heap.objs.size≤a):a∉X.fs:=fun hb=>by
 obtain⟨_,o,ho,_⟩:=I.ok.gD.mem hb;exact absurd (Nat.lt_of_lt_of_le (Heap.lt_size ho) (Nat.le_trans I.sz h)) (Nat.lt_irrefl _)
theorem Inv.hW(I:Inv X pins σ H s):∀x c,X.env.cells.lookup x=some c→c≠X.env.locals:=fun x c e z=>by
 obtain⟨v,o,ho,hd⟩:=I.cell x c e;obtain⟨m,⟨o',es,ep,MS,NX,_⟩,_⟩:=I.loc;rw[z,MS]at ho;cases ho;rw[NX]at hd;cases hd
theorem Inv.gD(I:Inv X pins σ H s):s.heap.FunFrames X.base X.outer:=by
 have all:∀(l:List Env),(∀b∈cZ l,b∈X.fs)→X.cS.heap.FunFrames X.base l→s.heap.FunFrames X.base l:=by
   intro l
   induction l with
   |nil=>intro _ _;trivial
   | cons env r ih=>
     intro hs hl;obtain⟨hk,⟨L,o,hf,hn,ho,hd⟩,hr⟩:=hl;have hL:L∈X.fs:=hs L (by unfold cZ;rw[List.filterMap_cons,hf];exact List.mem_cons_self)
     obtain⟨sl,e⟩:=I.base.slot L o ho (I.ok.j5 L hL) hL fun z=>I.ok.pY L z hL;exact⟨hk,⟨L,_,hf,hn,e,hd⟩,ih (fun b hb=>hs b (by unfold cZ;rw[List.filterMap_cons,hf];exact List.mem_cons_of_mem _ hb)) hr⟩
 exact all X.outer (fun _ hb=>hb) I.ok.gD
theorem Inv.stack(I:Inv X pins σ H s):s.heap.FunFrames X.base X.stack:=by
 rcases I.ok.qY with e|⟨e,hf⟩
 ·rw[e];exact I.gD
 · rw[e]
   obtain⟨m,hn,_⟩:=I.loc;refine .cons (by rw[I.ok.kind];decide) hf hn ?_ I.gD
   exact Heap.get?_none_of_le (Nat.le_trans I.ok.iR I.ok.above)
theorem Inv.qi(I:Inv X pins σ H s):∀b∈cZ X.stack,b∈X.env.locals::X.fs:=fun b hb=>by
 rcases I.ok.qY with e|⟨e,hf⟩
 ·rw[e]at hb;exact List.mem_cons_of_mem _ hb
 · rw[e]at hb
   unfold cZ at hb;rw[List.filterMap_cons,hf]at hb;exact hb
theorem Inv.zw(I:Inv X pins σ H s):∀b∈cZ X.stack,H b=none:=fun b hb=>by
 rcases List.mem_cons.mp (I.qi b hb)with e|hb
 ·rw[e];exact I.free
 · obtain⟨_,o,ho,_⟩:=I.ok.gD.mem hb
   exact I.base.free b o ho (I.ok.j5 b hb) fun z=>I.ok.pY b z hb
theorem Inv.step{g':Array GenState}{t':Nat}{d':Drawn}{ch:List Addr}(I:Inv X pins σ H s)
   (Oo:∀b∈ch,(b∈X.ex∨X.cS.heap.objs.size≤b)∧b≠X.env.locals∧(∀x c,X.env.cells.lookup x=some c→c≠b)∧∀p∈X.pn++pins,p.1≠b)
   (keep:∀b o,b≠X.env.locals→b∉X.fs→b∉ch→s.heap.get? b=some o→H b=none→h'.get? b=some o)
   (slot:∀b o,b≠X.env.locals→b∈X.fs→b∉ch→s.heap.get? b=some o→H b=none→∃sl,h'.get? b=some {o with slots:=sl}) (free:∀b o,b∉ch→s.heap.get? b=some o→H b=none→H' b=none)
   (there:∀b o,b∉ch→s.heap.get? b=some o→∃o',h'.get? b=some o')
   (fq:∀b xs,H b=some (.tup xs)→H' b=some (.tup xs)) (dU:∀b o u,H b=some (.frz o u)→H' b=some (.frz o u)) (fA:∀b ps,H b=some (.ji ps)→∃more,H' b=some (.ji (ps++more)))
   (ns:∀m,s.heap.Ns X.env.locals m→h'.Ns X.env.locals m) (aI:bV X.prog X.w H' h') (hg:AllBare g'):
   Inv X pins σ H' {s with heap:=h',gens:=g',drawn:=d',toks:=t'}:=by
 have T2:∀b o,X.cS.heap.get? b=some o→b≠X.env.locals:=fun b o e=>Nat.ne_of_lt (Nat.lt_of_lt_of_le (Heap.lt_size e) I.ok.above)
 have Q4:∀b o,X.cS.heap.get? b=some o→b∉X.ex→b∉ch:=fun b o e hx hb=>by
   rcases(Oo b hb).1 with z|z
   ·exact hx z
   ·exact absurd (Nat.lt_of_lt_of_le (Heap.lt_size e) z) (Nat.lt_irrefl _)
 have cellK:∀x c,X.env.cells.lookup x=some c→∀v,s.heap.IsCell c v→h'.IsCell c v:=fun x c e v ⟨o,ho,hd⟩=>by
   have Ng:c∉ch:=fun z=>(Oo c z).2.2.1 x c e rfl;by_cases hc:c∈X.fs
   · obtain⟨sl,q⟩:=slot c o (I.hW x c e) hc Ng ho (I.gE x c e)
     exact⟨_,q,hd⟩
   ·exact⟨o,keep c o (I.hW x c e) hc Ng ho (I.gE x c e),hd⟩
 refine⟨I.ok,I.os,hg,⟨fun b o e n hb hx=>?_,fun b o e n hb hx=>?_,fun b o e n hx=>?_,fun b o e hx=>?_,fun b xs e=>fq b xs (I.base.fq b xs e),fun b o xs e=>dU b o xs (I.base.dU b o xs e),fun b ps e=>?_⟩,?_,fun x c e=>?_,?_,fun x c e=>?_,fun p hp=>?_,aI,I.len⟩
 ·exact keep b o (T2 b o e) hb (Q4 b o e hx) (I.base.keep b o e n hb hx) (I.base.free b o e n hx)
 · obtain⟨sl,e1⟩:=I.base.slot b o e n hb hx
   obtain⟨RY,e2⟩:=slot b _ (T2 b o e) hb (Q4 b o e hx) e1 (I.base.free b o e n hx);exact⟨RY,e2⟩
 · obtain⟨o',e1⟩:=I.base.there b o e hx
   exact free b o' (Q4 b o e hx) e1 (I.base.free b o e n hx)
 · obtain⟨o',e1⟩:=I.base.there b o e hx
   exact there b o' (Q4 b o e hx) e1
 · obtain⟨m1,e1⟩:=I.base.fA b ps e
   obtain⟨m2,e2⟩:=fA b _ e1;exact⟨m1++m2,by rw[e2,Array.append_assoc]⟩
 · obtain⟨m,hn,hl⟩:=I.loc
   refine⟨m,ns m hn,fun i x v e1 e2 e3=>?_⟩;obtain⟨u,r,l⟩:=hl i x v e1 e2 e3;refine⟨u,r,?_⟩;rcases l with l|⟨k,c,e,z⟩
   ·exact .inl l
   ·exact .inr ⟨k,c,e,cellK x c e _ z⟩
 · obtain⟨v,z⟩:=I.cell x c e
   exact⟨v,cellK x c e v z⟩
 · obtain⟨m,⟨o,_,_,ho,_⟩,_⟩:=I.loc
   exact free _ o (fun z=>(Oo _ z).2.1 rfl) ho I.free
 · obtain⟨v,o,ho,hd⟩:=I.cell x c e
   exact free c o (fun z=>(Oo c z).2.2.1 x c e rfl) ho (I.gE x c e)
 · obtain⟨e,n,ne,nf,d⟩:=I.pin p hp
   have Ng:p.1∉ch:=fun z=>(Oo p.1 z).2.2.2 p hp rfl;exact⟨keep p.1 p.2 ne nf Ng e n,free p.1 p.2 Ng e n,ne,nf,d⟩
theorem Inv.un{t':Nat}(I:Inv X pins σ H s)(u:Un X.fs [] H H' s.heap h')(aI:bV X.prog X.w H' h'):Inv X pins σ H' {s with heap:=h',toks:=t'}:=by
 obtain⟨m,⟨o,es,ep,ho,r⟩,_⟩:=id I.loc;obtain⟨sl,hL⟩:=u.any ho I.free (by simp)
 exact I.step (g':=s.gens) (d':=s.drawn) (ch:=[]) (fun _ z=>nomatch z) (fun b o _ hb _ e n=>u.keep b o e n hb (by simp)) (fun b o _ hb _ e n=>u.slot b o e n hb (by simp)) (fun b o _ e n=>u.free b o e n (by simp)) (fun b o _ e=>u.there b o e (by simp)) u.fq u.dU u.fA (fun m' hm=>by
   obtain⟨o',es',ON,MS,r'⟩:=hm;rw[ho]at MS;cases MS;exact⟨_,es',ON,hL,r'⟩) aI I.bare
theorem Inv.call{g':Array GenState}{t':Nat}{d':Drawn}{ch:List Addr}(I:Inv X pins σ H s)(u:Un (cZ X.stack) ch H H' s.heap h')(aI:bV X.prog X.w H' h')(hg:AllBare g')
   (Oo:∀b∈ch,(b∈X.ex∨X.cS.heap.objs.size≤b)∧b≠X.env.locals∧(∀x c,X.env.cells.lookup x=some c→c≠b)∧∀p∈X.pn++pins,p.1≠b):
   Inv X pins σ H' {s with heap:=h',gens:=g',drawn:=d',toks:=t'}:=by
 obtain⟨m,⟨o,es,ep,ho,r⟩,_⟩:=id I.loc;obtain⟨sl,hL⟩:=u.any ho I.free fun z=>(Oo _ z).2.1 rfl
 exact I.step (ch:=ch) Oo (fun b o hL hb hc e n=>u.keep b o e n (fun z=>(List.mem_cons.mp (I.qi b z)).elim hL hb) hc) (fun b o _ _ hc e n=>u.any e n hc) (fun b o hc e n=>u.free b o e n hc) (fun b o hc e=>u.there b o e hc) u.fq u.dU u.fA (fun m' hm=>by
   obtain⟨o',es',ON,MS,r'⟩:=hm;rw[ho]at MS;cases MS;exact⟨_,es',ON,hL,r'⟩) aI hg
theorem Inv.turned{t':Nat}{it:Addr}(I:Inv X pins σ H s)(k:∀b o,b≠it→s.heap.get? b=some o→h'.get? b=some o)(hn:H it=none)(hL:it≠X.env.locals)
   (h1:it∈X.ex∨X.cS.heap.objs.size≤it) (h2:∀x c,X.env.cells.lookup x=some c→c≠it) (h3:∀p∈X.pn++pins,p.1≠it):Inv X pins σ H {s with heap:=h',toks:=t'}:=by
 have Tx:∀b u,H b=some u→b≠it:=fun b u e z=>by rw[z,hn]at e;cases e
 refine I.step (g':=s.gens) (d':=s.drawn) (ch:=[it]) (fun b hb=>?_) (fun b o _ _ hc e _=>k b o (fun z=>hc (by simp[z])) e) (fun b o _ _ hc e _=>⟨o.slots,k b o (fun z=>hc (by simp[z])) e⟩) (fun _ _ _ _ n=>n)
   (fun b o hc e=>⟨o,k b o (fun z=>hc (by simp[z])) e⟩) (fun _ _ e=>e) (fun _ _ _ e=>e) (fun b ps e=>⟨#[],by rw[e];simp⟩) (fun m hm=>?_) (fun b u e=>?_) I.bare
 · have e:b=it:=by simpa using hb
   subst e;exact⟨h1,hL,h2,h3⟩
 · obtain⟨o,es,ep,ho,r⟩:=hm
   exact⟨o,es,ep,k _ o (Ne.symm hL) ho,r⟩
 · refine(I.aI b u e).dX (fun c v hc q=>k c v ?_ q) (fun _ q=>q) fun _ _ q=>q
   rcases hc with z|z
   ·rw[z];exact Tx b u e
   ·exact Tx c _ z
theorem Inv.tok(I:Inv X pins σ H s)(t:Nat):Inv X pins σ H {s with toks:=t}:=I.un (h':=s.heap) (t':=t) Un.refl I.aI
theorem Inv.kept(I:Inv X pins σ H s)(k:∀b u,s.heap.get? b=some u→h'.get? b=some u):Inv X pins σ H {s with heap:=h',toks:=t'}:=I.un (Un.kept k) (I.aI.kept k)
theorem Inv.laid{a:Addr}{o:HO}{t':Nat}(I:Inv X pins σ H s)(k:∀b u,s.heap.get? b=some u→h'.get? b=some u)(hp:s.heap.objs.size≤a)(new:cX X.prog X.w (upd H a o) h' a o):
   Inv X pins σ (upd H a o) {s with heap:=h',toks:=t'}:=I.un (Un.laid k hp (I.aI.fresh hp)) (I.aI.laid k hp new)
theorem Inv.write(I:Inv X pins σ H s)(mu:nU (H x))(he:e=x∨H e=some (.own x))(k:∀b u,b≠e→s.heap.get? b=some u→h'.get? b=some u)(PY:∃u,h'.get? e=some u)
   (new:cX X.prog X.w (upd H x o) h' x o):Inv X pins σ (upd H x o) {s with heap:=h',toks:=t'}:=I.un (Un.write mu he k PY) (I.aI.write mu he k PY new)
theorem Inv.zQ(I:Inv X pins σ H s)(h:∀p∈pins',s.heap.get? p.1=some p.2∧H p.1=none∧p.1≠X.env.locals∧p.1∉X.fs∧∀v,p.2.data≠.cell v):Inv X pins' σ H s:=
 ⟨I.ok,I.os,I.bare,I.base,I.loc,I.cell,I.free,I.gE,fun p hp=>(List.mem_append.mp hp).elim (fun z=>I.pin p (List.mem_append_left _ z)) (h p),I.aI,I.len⟩
theorem wc{N:List Str}(hN:N.Nodup){i j:Nat}{x:Str}(a:N[i]? =some x)(b:N[j]? =some x):i=j:=by
 obtain⟨h1,e1⟩:=List.getElem?_eq_some_iff.mp a;obtain⟨h2,e2⟩:=List.getElem?_eq_some_iff.mp b;exact(List.getElem_inj hN).mp (e1.trans e2.symm)
theorem Iw{M:Model}{A:Around}{E:Value→Shared→Prop}{i:Nat}{x:Str}{v:V}{u:Value}{Q:Unit→Shared→Prop}(I:Inv X pins σ H s)(hN:X.N.Nodup)(hi:X.N[i]? =some x)(hx:Loc X.env.scope x)(r:RelV v u)
   (h:∀s',Inv X pins (σ.set i (some v)) H s'→(∃a,Heap.SameBut a s.heap s'.heap∧(a=X.env.locals∨X.env.cells.lookup x=some a))→Q () s') (hf:X.fn x=true∨X.env.scope.names.lookup x=some .local:=by first|exact .inl rfl|exact .inr rfl|assumption):wpAny M A (storeName X.env x u) Q E s:=by
 obtain⟨m,hn,hl⟩:=id I.loc;have R8:(X.env.scope.kind==.class||(X.env.scope.kind==.module&&X.env.locals != X.env.globals))=false:=by rw[I.ok.kind];rfl
 have QM:i<σ.length:=by rw[I.len];exact(List.getElem?_eq_some_iff.mp hi).1
 have hW:=I.hW
 have tracked:∀ {a:Addr} {h':Heap},(∃o,s.heap.get? a=some o∧H a=none)→Heap.SameBut a s.heap h'→bV X.prog X.w H h':=fun {a h'} ha hs b ob e=>by
   obtain⟨_,_,OW⟩:=ha;refine(I.aI b ob e).dX (fun c w' hc q=>(hs.2 c ?_).trans q) (fun _ q=>q) fun _ _ q=>q;rintro rfl;rcases hc with rfl|hc
   ·rw[OW]at e;cases e
   ·rw[OW]at hc;cases hc
 rcases hx with hk|hk
 · refine wpAny_storeName_local hk hn (fun h' OO hs=>?_) R8
   obtain⟨oL,_,_,Vk,_⟩:=id hn;refine h _ ⟨I.ok,I.os,I.bare,⟨fun b o e n hb hx=>?_,fun b o e n hb hx=>?_,I.base.free,fun b o e hx=>?_,I.base.fq,I.base.dU,I.base.fA⟩,⟨_,OO,fun j y v' e1 e2 e3=>?_⟩,fun y c e=>?_,I.free,I.gE,fun p hp=>?_,tracked ⟨oL,Vk,I.free⟩ hs,by simpa using I.len⟩ ⟨_,hs,.inl rfl⟩
   ·exact(hs.2 b (Nat.ne_of_lt (Nat.lt_of_lt_of_le (Heap.lt_size e) I.ok.above))).trans (I.base.keep b o e n hb hx)
   · obtain⟨sl,e1⟩:=I.base.slot b o e n hb hx
     exact⟨sl,(hs.2 b (Nat.ne_of_lt (Nat.lt_of_lt_of_le (Heap.lt_size e) I.ok.above))).trans e1⟩
   · obtain⟨o',e1⟩:=I.base.there b o e hx
     exact⟨o',(hs.2 b (Nat.ne_of_lt (Nat.lt_of_lt_of_le (Heap.lt_size e) I.ok.above))).trans e1⟩
   · by_cases hj:j=i
     · subst hj
       rw[hi]at e1;cases e1;rw[List.getElem?_set_self QM]at e2;cases e2;exact⟨u,r,.inl ⟨hk,by simp⟩⟩
     · rw[List.getElem?_set_ne (Ne.symm hj)]at e2
       obtain⟨u',r',q⟩:=hl j y v' e1 e2 e3;refine⟨u',r',?_⟩;rcases q with⟨k,e⟩|⟨k,c,e,z⟩
       · refine .inl ⟨k,?_⟩
         have:y≠x:=fun e=>hj (wc hN e1 (e▸hi));simp[this,e]
       ·exact .inr ⟨k,c,e,z.sameBut hs (hW y c e)⟩
   · obtain⟨w',z⟩:=I.cell y c e
     exact⟨w',z.sameBut hs (hW y c e)⟩
   · obtain⟨e,n,ne,nf,d⟩:=I.pin p hp
     exact⟨(hs.2 p.1 ne).trans e,n,ne,nf,d⟩
 · have Sz:X.fn x=true:=by
     rcases hf with z|z
     ·exact z
     ·rw[z]at hk;cases hk
   obtain⟨c,hc⟩:=I.ok.has x (.inl hk);obtain⟨w',z⟩:=I.cell x c hc;refine wpAny_storeName_cell I.ok.kind hk hc z (fun h' M6 hs=>?_);obtain⟨oc,SW,RB⟩:=id z;refine h {s with heap:=h'} ⟨I.ok,I.os,I.bare,⟨fun b o e n hb hx=>?_,fun b o e n hb hx=>?_,I.base.free,fun b o e hx=>?_,I.base.fq,I.base.dU,I.base.fA⟩,⟨m,hn.sameBut hs (Ne.symm (hW x c hc)),fun j y v' e1 e2 e3=>?_⟩,fun y c' e=>?_,I.free,I.gE,fun p hp=>?_,tracked ⟨oc,SW,I.gE x c hc⟩ hs,by simpa using I.len⟩ ⟨c,hs,.inr hc⟩
   ·exact(hs.2 b (Nat.ne_of_lt (Nat.lt_of_lt_of_le (Heap.lt_size e) (I.ok.mX x c Sz hc)))).trans (I.base.keep b o e n hb hx)
   · obtain⟨sl,e1⟩:=I.base.slot b o e n hb hx
     exact⟨sl,(hs.2 b (Nat.ne_of_lt (Nat.lt_of_lt_of_le (Heap.lt_size e) (I.ok.mX x c Sz hc)))).trans e1⟩
   · obtain⟨o',e1⟩:=I.base.there b o e hx
     exact⟨o',(hs.2 b (Nat.ne_of_lt (Nat.lt_of_lt_of_le (Heap.lt_size e) (I.ok.mX x c Sz hc)))).trans e1⟩
   · by_cases hj:j=i
     · subst hj
       rw[hi]at e1;cases e1;rw[List.getElem?_set_self QM]at e2;cases e2;exact⟨u,r,.inr ⟨.inl hk,c,hc,M6⟩⟩
     · rw[List.getElem?_set_ne (Ne.symm hj)]at e2
       obtain⟨u',r',q⟩:=hl j y v' e1 e2 e3;refine⟨u',r',?_⟩;rcases q with q|⟨k,c',e,z'⟩
       ·exact .inl q
       · refine .inr ⟨k,c',e,z'.sameBut hs ?_⟩
         rintro rfl;exact hj (wc hN e1 (I.ok.inj _ _ _ e hc▸hi))
   · by_cases Rm:c'=c
     ·subst Rm;exact⟨_,M6⟩
     · obtain⟨w2,z2⟩:=I.cell y c' e
       exact⟨w2,z2.sameBut hs Rm⟩
   · obtain⟨e,n,ne,nf,d⟩:=I.pin p hp
     refine⟨(hs.2 p.1 ?_).trans e,n,ne,nf,d⟩;intro q;rw[q,SW]at e;have q':oc=p.2:=Option.some.inj e;exact d w' (by rw[←q'];exact RB)
theorem wL(I:Inv X pins σ H s)(hN:X.N.Nodup)(hi:X.N[i]? =some x)(hx:Loc X.env.scope x)(r:RelV v u)
   (h:∀s',Inv X pins (σ.set i (some v)) H s'→Q () s') (hf:X.fn x=true∨X.env.scope.names.lookup x=some .local:=by first|exact .inl rfl|exact .inr rfl|assumption):wpAny M A (storeName X.env x u) Q E s:=
 Iw I hN hi hx r (fun s' I' _=>h s' I') hf
theorem Inv.ph{s':Shared}{ch:List Addr}(I:Inv X pins σ H s)(ho:s'.os=s.os)(u:Un (cZ X.stack) ch H H' s.heap s'.heap)(aI:bV X.prog X.w H' s'.heap)(hg:AllBare s'.gens)
   (Oo:∀b∈ch,(b∈X.ex∨X.cS.heap.objs.size≤b)∧b≠X.env.locals∧(∀x c,X.env.cells.lookup x=some c→c≠b)∧∀p∈X.pn++pins,p.1≠b):Inv X pins σ H' s':=by
 obtain⟨h',g',d',t',o'⟩:=s';have e:o'=s.os:=ho;subst e;exact I.call (g':=g') (t':=t') (d':=d') u aI hg Oo
end
abbrev XK:=Value→Option Addr→Hp→Prop
abbrev St:=List (Option V)
abbrev VK:=V→Hp→Prop
abbrev TE:=St→Hp→VK→Prop
abbrev TT:=St→Hp→(Bool→Hp→Prop)→Prop
abbrev TA:=St→Hp→(List V→Hp→Prop)→Prop
structure Ends where
 nx:St→Hp→Prop
 rt:VK
 bk:St→Hp→Prop:=fun _ _=>False
 ct:St→Hp→Prop:=fun _ _=>False
abbrev TS:=Ends→St→Hp→Prop
def EP(X:Cx)(pins:List (Addr×Obj))(σ:St)(Q:VK)(u:Value)(s':Shared):Prop:=∃v H',Inv X pins σ H' s'∧RelV v u∧Q v H'
def TP(X:Cx)(pins:List (Addr×Obj))(σ:St)(Q:Bool→Hp→Prop)(b:Bool)(s':Shared):Prop:=∃H',Inv X pins σ H' s'∧Q b H'
def AP(X:Cx)(pins:List (Addr×Obj))(σ:St)(Q:List V→Hp→Prop)(us:List Value)(s':Shared):Prop:=∃vs H',Inv X pins σ H' s'∧Vals vs us∧Q vs H'
def SP(X:Cx)(pins:List (Addr×Obj))(D:Ends)(f:Flow)(s':Shared):Prop:=
 match f with
 |.next=>∃J' H',Inv X pins J' H' s'∧D.nx J' H'
 |.brk=>∃J' H',Inv X pins J' H' s'∧D.bk J' H'
 |.cont=>∃J' H',Inv X pins J' H' s'∧D.ct J' H'
 |.ret u=>∃v J' H',Inv X pins J' H' s'∧RelV v u∧D.rt v H'
def PE(X:Cx)(e:Expr)(t:TE):Prop:=
 ∀(pins:List (Addr×Obj)) (s:Shared) (σ:St) (H:Hp) (Q:VK),Inv X pins σ H s→t σ H Q→wpAny (model X.prog X.w) X.A (eval e X.env) (EP X pins σ Q) X.xe s
def PT(X:Cx)(e:Expr)(t:TT):Prop:=
 ∀(pins:List (Addr×Obj)) (s:Shared) (σ:St) (H:Hp) (Q:Bool→Hp→Prop),Inv X pins σ H s→t σ H Q→wpAny (model X.prog X.w) X.A (isTrue e X.env (eval e X.env)) (TP X pins σ Q) X.xe s
def PW(X:Cx)(e:Expr)(t:TT):Prop:=
 ∀(whole:Sem Value) (pins:List (Addr×Obj)) (s:Shared) (σ:St) (H:Hp) (Q:Bool→Hp→Prop),Inv X pins σ H s→t σ H Q→wpAny (model X.prog X.w) X.A (isTrue e X.env whole) (TP X pins σ Q) X.xe s
theorem PW.pt(h:PW X e t):PT X e t:=h _
def PA(X:Cx)(es:List Expr)(t:TA):Prop:=
 ∀(pos:Pos) (pins:List (Addr×Obj)) (s:Shared) (σ:St) (H:Hp) (Q:List V→Hp→Prop),Inv X pins σ H s→t σ H Q→wpAny (model X.prog X.w) X.A (spliced (backTo pos (starEach es X.env))) (AP X pins σ Q) X.xe s
def PS(X:Cx)(st:Stmt)(t:TS):Prop:=
 ∀(pins:List (Addr×Obj)) (s:Shared) (σ:St) (H:Hp) (D:Ends),Inv X pins σ H s→t D σ H→wpAny (model X.prog X.w) X.A (exec st X.env) (SP X pins D) X.xe s
def cq(X:Cx)(st:List Stmt)(t:TS):Prop:=
 ∀(pins:List (Addr×Obj)) (s:Shared) (σ:St) (H:Hp) (D:Ends),Inv X pins σ H s→t D σ H→wpAny (model X.prog X.w) X.A (execs st X.env) (SP X pins D) X.xe s
theorem aN{α:Type}{t:Sem α}{Q Q':α→Shared→Prop}{M:Model}{A:Around}{E:Value→Shared→Prop}{s:Shared}(h:wpAny M A t Q E s)(hQ:∀a s,Q a s→Q' a s):wpAny M A t Q' E s:=wpAny_mono h hQ fun _ _ x=>x
end L2
namespace L2
open PySem PySem.Spec PyProof.Rows
section
variable{X:Cx}
theorem bin{a b:Expr}{ta tb:TE}(ha:PE X a ta)(hb:PE X b tb){pins:List (Addr×Obj)}{s:Shared}{σ:St}{H:Hp}{R:V→V→Hp→Prop}(I:Inv X pins σ H s)(h:ta σ H fun x H1=>tb σ H1 fun y H2=>R x y H2)
   {α:Type} {Q:α→Shared→Prop} {f:Value→Value→Sem α}
   (hf:∀v u s2 x y H2,Inv X pins σ H2 s2→RelV x v→RelV y u→R x y H2→wpAny (model X.prog X.w) X.A (f v u) Q X.xe s2):
   wpAny (model X.prog X.w) X.A (eval a X.env) (fun v Ln=>wpAny (model X.prog X.w) X.A (eval b X.env) (fun u Nq=>wpAny (model X.prog X.w) X.A (f v u) Q X.xe Nq) X.xe Ln) X.xe s:=by
 refine aN (ha pins s σ H _ I h) fun v s1 ⟨x,H1,I1,r1,q1⟩=>?_;refine aN (hb pins s1 σ H1 _ I1 q1) fun u s2 ⟨y,H2,I2,r2,q2⟩=>?_;exact hf v u s2 x y H2 I2 r1 r2 q2
def vf(i:Nat):TE:=fun σ H Q=>∃v,σ[i]? =some (some v)∧Q v H
def tC(v:V):TE:=fun _ H Q=>Q v H
theorem A0(hN:X.N[i]? =some x)(hv:cw X.env.scope x)(hd:(x==("__debug__":Str))=false:=by decide)(LH:(x==("__classdict__":Str))=false:=by decide):PE X (.Name x pos) (vf i):=by
 intro pins s σ H Q I h;obtain⟨v,e,h⟩:=h;obtain⟨m,hn,hl⟩:=I.loc;obtain⟨u,r,l⟩:=hl i x v hN e hv;have fin:EP X pins σ Q u s:=⟨v,H,I,r,h⟩;rcases l with⟨hk,hm⟩|⟨hk,c,hc,M'⟩
 ·exact wpAny_Name (wpAny_loadName_local I.ok.kind hk hn hm fin) hd
 · rcases hk with hk|hk
   ·exact wpAny_Name (wpAny_loadName_cell I.ok.kind hk hc M' fin) hd
   ·exact wpAny_Name (wpAny_loadName_free I.ok.kind hk hc M' fin LH) hd
theorem Iq{i j pos}:PE X (.Constant (.int i) j pos) (tC (.int i)):=fun _ _ _ H _ I h=>wpAny_Constant_int ⟨.int i,H,I.tok _,⟨_,rfl⟩,h⟩
theorem CK{b j pos}:PE X (.Constant (.bool b) j pos) (tC (.bl b)):=fun _ _ _ H _ I h=>Constant_bool ⟨.bl b,H,I,rfl,h⟩
theorem B6{j pos}:PE X (.Constant .none j pos) (tC .aH):=fun _ _ _ H _ I h=>Constant_none ⟨.aH,H,I,rfl,h⟩
theorem Dd{x j pos}:PE X (.Constant (.str x) j pos) (tC (.str x)):=fun _ _ _ H _ I h=>Calls.Constant_str ⟨.str x,H,I.tok _,⟨_,rfl⟩,h⟩
def Gl(X:Cx)(x:Str):Prop:=X.env.kindOf x=some .globalImplicit
theorem uu(I:Inv X pins σ H s)(hg:Gl X x)(hm:X.mg x=some u)(h:Q u s)
   (hd:(x==("__debug__":Str))=false:=by decide):wpAny (model X.prog X.w) X.A (eval (.Name x pos) X.env) Q E s:=
 Calls.Name_function_global I.ok.kind hg (Calls.loadGlobal_global (by rw[I.ok.glob];exact I.mod.glob.keeps I.bk) hm h) hd
theorem lK(I:Inv X pins σ H s)(hg:Gl X x)(hm:X.mg x=none)(hv:bootBuiltins x=some u)(h:Q u s)
   (hn:x≠"__name__":=by decide) (hd:(x==("__debug__":Str))=false:=by decide):wpAny (model X.prog X.w) X.A (eval (.Name x pos) X.env) Q E s:=by
 obtain⟨mb,h1,h2⟩:=I.mod.blt;exact Calls.Name_function_global I.ok.kind hg (Calls.loadGlobal_builtin (by rw[I.ok.glob];exact I.mod.glob.keeps I.bk) hm (by rw[I.ok.blt];exact h1.keeps I.bk) ((h2 x hn).trans hv) h) hd
theorem DA(hg:Gl X x)(hm:X.mg x=some u)(r:RelV v u)(hd:(x==("__debug__":Str))=false:=by decide):PE X (.Name x pos) (tC v):=
 fun _ _ _ H _ I h=>uu I hg hm ⟨v,H,I,r,h⟩ hd
theorem uW(hg:Gl X x)(hm:X.mg x=none)(hv:bootBuiltins x=some u)(r:RelV v u)(hn:x≠"__name__":=by decide)(hd:(x==("__debug__":Str))=false:=by decide):PE X (.Name x pos) (tC v):=
 fun _ _ _ H _ I h=>lK I hg hm hv ⟨v,H,I,r,h⟩ hn hd
variable{a b:Expr}{ta tb:TE}{pos:Pos}
def PC(X:Cx)(op:CmpOp)(a b:Expr)(t:TE):Prop:=
 ∀(pins:List (Addr×Obj)) (s:Shared) (σ:St) (H:Hp) (Q:VK),Inv X pins σ H s→t σ H Q→
   wpAny (model X.prog X.w) X.A (eval a X.env) (fun v Ln=>wpAny (model X.prog X.w) X.A (eval b X.env) (fun u Nq=>wpAny (model X.prog X.w) X.A (compareOp op v u) (EP X pins σ Q) X.xe Nq) X.xe Ln) X.xe s
theorem xY(b:Expr)(h:op≠.In)(h2:op≠.NotIn):behindInMarks op b=false:=by
 have e1:(op==CmpOp.In)=false:=by cases op<;>first|rfl|exact absurd rfl h
 have e2:(op==CmpOp.NotIn)=false:=by cases op<;>first|rfl|exact absurd rfl h2
 cases b<;>simp[behindInMarks,e1,e2]
def GA(ta:TE):TE:=fun σ H Q=>ta σ H fun x H1=>Q (.bl (decide (x=.aH))) H1
def Av(ta:TE):TE:=fun σ H Q=>ta σ H fun x H1=>Q (.bl (!decide (x=.aH))) H1
theorem RelV.yW(r:RelV x v):(v==Value.none)=decide (x=.aH):=by
 cases x with
 |aH=>cases r;rfl
 |bl _=>cases r;rfl
 |int _=>obtain⟨t,rfl⟩:=r;rfl
 |str _=>obtain⟨t,rfl⟩:=r;rfl
 |mr _=>obtain⟨t,rfl⟩:=r;rfl
 |ri _=>obtain⟨t,rfl⟩:=r;rfl
 |ref _=>cases r;rfl
 |ty _=>cases r;rfl
theorem yG{j pos'}(ha:PE X a ta):PC X .Is a (.Constant .none j pos') (GA ta):=by
 intro pins s σ H Q I h;refine aN (ha pins s σ H _ I h) fun v s1 ⟨x,H1,I1,r1,q1⟩=>?_;exact Constant_none (is_none_gen ⟨.bl _,H1,I1,by rw[r1.yW];rfl,q1⟩)
theorem BB{j pos'}(ha:PE X a ta):PC X .IsNot a (.Constant .none j pos') (Av ta):=by
 intro pins s σ H Q I h;refine aN (ha pins s σ H _ I h) fun v s1 ⟨x,H1,I1,r1,q1⟩=>?_;exact Constant_none (isnot_none_gen ⟨.bl _,H1,I1,by rw[r1.yW];rfl,q1⟩)
def tB(t:TE):TT:=fun σ H Q=>t σ H fun x H1=>∃c,x=.bl c∧Q c H1
theorem Fe(h:PC X op a b t)(h1:behindInMarks op b=false:=by first|exact xY _ (by decide) (by decide)|rfl):PE X (.Compare a [op] [b] pos) t:=fun pins s σ H Q I hw=>wpAny_Compare1 (h pins s σ H Q I hw) h1
theorem yF(h:PC X op a b t)(h1:behindInMarks op b=false:=by first|exact xY _ (by decide) (by decide)|rfl):PT X (.Compare a [op] [b] pos) (tB t):=by
 intro pins s σ H Q I hw;refine wpAny_isTrue_Compare1 (aN (h pins s σ H _ I hw) fun v s1 h1=>aN h1 fun u s2 h2=>aN h2 fun c s3 ⟨x,H1,I1,r1,q1⟩=>?_) h1;obtain⟨d,rfl,q⟩:=q1;cases r1;exact wpAny_truthy_bool ⟨H1,I1,q⟩
variable{tA Rc:TT}{rest:List Expr}
def d8(t u:TT):TT:=fun σ H Q=>t σ H fun c H1=>if c=true then u σ H1 Q else Q false H1
def b6(t u:TT):TT:=fun σ H Q=>t σ H fun c H1=>if c=true then Q true H1 else u σ H1 Q
def cO(t:TT):TT:=fun σ H Q=>t σ H fun c H1=>Q (!c) H1
theorem HH(ha:PT X a tA):PW X (.BoolOp .And [a] pos) tA:=by
 intro wh pins s σ H Q I h;refine isTrue_and (aN (ha pins s σ H Q I h) fun c s1 e=>?_);cases c with
 |true=>exact isTrue_and_nil e
 |false=>exact e
theorem FK(ha:PT X a tA):PW X (.BoolOp .Or [a] pos) tA:=by
 intro wh pins s σ H Q I h;refine isTrue_or (aN (ha pins s σ H Q I h) fun c s1 e=>?_);cases c with
 |false=>exact isTrue_or_nil e
 |true=>exact e
theorem z7(ha:PT X a tA)(hb:PW X (.BoolOp .And (b::rest) pos) Rc):PW X (.BoolOp .And (a::b::rest) pos) (d8 tA Rc):=by
 intro wh pins s σ H Q I h;refine isTrue_and (aN (ha pins s σ H _ I h) fun c s1 ⟨H1,I1,q1⟩=>?_);cases c with
 |true=>exact hb wh pins s1 σ H1 Q I1 q1
 |false=>exact⟨H1,I1,q1⟩
theorem E1(ha:PT X a tA)(hb:PW X (.BoolOp .Or (b::rest) pos) Rc):PW X (.BoolOp .Or (a::b::rest) pos) (b6 tA Rc):=by
 intro wh pins s σ H Q I h;refine isTrue_or (aN (ha pins s σ H _ I h) fun c s1 ⟨H1,I1,q1⟩=>?_);cases c with
 |true=>exact⟨H1,I1,q1⟩
 |false=>exact hb wh pins s1 σ H1 Q I1 q1
theorem Bu(ha:PT X a tA):PT X (.UnaryOp .Not a pos) (cO tA):=by
 intro pins s σ H Q I h;exact isTrue_not (ha pins s σ H (fun c H1=>Q (!c) H1) I h)
def Ig(ta tb:TE):TE:=fun σ H Q=>ta σ H fun x H1=>∃c,x=.bl c∧if c=true then tb σ H1 Q else Q (.bl false) H1
theorem JN{op}(h:PE X a t):PE X (.BoolOp op [a] pos) t:=fun pins s σ H Q I hw=>BoolOp_one (h pins s σ H Q I hw)
theorem AM(ha:PE X a ta)(hb:PE X (.BoolOp .And (b::rest) pos) tb):PE X (.BoolOp .And (a::b::rest) pos) (Ig ta tb):=by
 intro pins s σ H Q I h;refine BoolOp_and (aN (ha pins s σ H _ I h) fun v s1 ⟨x,H1,I1,r1,q1⟩=>?_);obtain⟨c,rfl,q1⟩:=q1;cases r1;refine wpAny_truthy_bool ?_;cases c with
 |true=>exact hb pins s1 σ H1 Q I1 q1
 |false=>exact⟨.bl false,H1,I1,rfl,q1⟩
end
end L2
namespace L2
open PySem PySem.Spec PyProof.Rows
def bz(K:PySem.W.Frag)(H:Hp)(a:Addr)(xs:List V):Prop:=
 Rd H a (.lst xs)∨
   ∃(o:Obj) (B':Array Value) (n:Nat),K.lookup a=some o∧o.cls=.type "list"∧o.dict=none∧o.data=.seq B' n∧B'.size≤sizeLine∧Vals xs B'.toList
def bN(K:PySem.W.Frag)(H:Hp)(a:Addr)(xs:List V):Prop:=
 Rd H a (.tup xs)∨
   ∃(o:Obj) (B':Array Value) (n:Nat),K.lookup a=some o∧o.cls=.type "tuple"∧o.data=.seq B' n∧B'.size≤sizeLine∧Vals xs B'.toList
noncomputable def ET:Value→Option V
 |.none=>some .aH
 |.bool b=>some (.bl b)
 |.int i _=>some (.int i)
 |.str x _=>some (.str x)
 |.bytes b _=>some (.mr b)
 |.float b _=>some (.ri b)
 |.ref a=>some (.ref a)
 |.type n=>some (.ty n)
 |_=>none
theorem RelV.abs(r:RelV x u):ET u=some x:=by
 cases x with
 |aH=>cases r;rfl
 |bl _=>cases r;rfl
 |int _=>obtain⟨t,rfl⟩:=r;rfl
 |str _=>obtain⟨t,rfl⟩:=r;rfl
 |mr _=>obtain⟨t,rfl⟩:=r;rfl
 |ri _=>obtain⟨t,rfl⟩:=r;rfl
 |ref _=>cases r;rfl
 |ty _=>cases r;rfl
theorem RelV.inj{x y:V}{u:Value}(r:RelV x u)(q:RelV y u):x=y:=Option.some.inj (r.abs.symm.trans q.abs)
theorem Vals.inj:∀ {xs ys:List V} {us:List Value},Vals xs us→Vals ys us→xs=ys
 |_,_,_,.nil,.nil=>rfl
 |_,_,_,.cons r t,.cons r' t'=>by rw[r.inj r',Vals.inj t t']
section
variable{X:Cx}{pins:List (Addr×Obj)}{σ:St}{H:Hp}{s:Shared}{a:Addr}{xs ys:List V}
theorem bz.of{K:PySem.W.Frag}(h:H a=some (.lst xs)):bz K H a xs:=.inl (.inl h)
theorem bN.of{K:PySem.W.Frag}(h:H a=some (.tup xs)):bN K H a xs:=.inl (.inl h)
theorem Inv.list(I:Inv X pins σ H s)(h:bz X.K H a xs):∃B':List Value,Vals xs B'∧PlainL s.heap a B'.toArray∧xs.length≤sizeLine:=by
 rcases h with h|⟨o,B',n,hk,hc,hd,hs,hz,r⟩
 · obtain⟨z,B',n,r,e⟩:=h.ok I.aI
   exact⟨B',r,⟨_,n,e,rfl,rfl,rfl⟩,z⟩
 · refine⟨B'.toList,r,⟨o,n,I.cE a o hk,hc,hd,by simpa using hs⟩,?_⟩
   have e:=r.length;simp only[Array.length_toList]at e;omega
theorem Inv.tuple(I:Inv X pins σ H s)(h:bN X.K H a xs):∃B':List Value,Vals xs B'∧IsTup s.heap a B'.toArray∧xs.length≤sizeLine:=by
 rcases h with h|⟨o,B',n,hk,hc,hs,hz,r⟩
 · obtain⟨z,B',r,p⟩:=h.ok I.aI
   exact⟨B',r,p,z⟩
 · refine⟨B'.toList,r,⟨o,I.cE a o hk,hc,n,by simpa using hs⟩,?_⟩
   have e:=r.length;simp only[Array.length_toList]at e;omega
theorem Inv.vB(I:Inv X pins σ H s)(h:bz X.K H a xs)(h':bz X.K H a ys):xs=ys:=by
 obtain⟨B',r,⟨o,n,e,_,_,d⟩,_⟩:=I.list h;obtain⟨its',r',⟨o',n',e',_,_,d'⟩,_⟩:=I.list h';rw[e]at e';cases e';rw[d]at d';injection d' with d1 _;have:B'=its':=by simpa using congrArg Array.toList d1
 subst this;exact r.inj r'
theorem Inv.vZ(I:Inv X pins σ H s)(h:bN X.K H a xs)(h':bN X.K H a ys):xs=ys:=by
 obtain⟨B',r,⟨o,e,_,n,d⟩,_⟩:=I.tuple h;obtain⟨its',r',⟨o',e',_,n',d'⟩,_⟩:=I.tuple h';rw[e]at e';cases e';rw[d]at d';injection d' with d1 _;have:B'=its':=by simpa using congrArg Array.toList d1
 subst this;exact r.inj r'
end
abbrev Cx.gm(X:Cx)(E:Value→Shared→Prop):Cx:={X with xe:=E}
abbrev Cx.gk(X:Cx):Cx:=X.gm fun _ _=>False
theorem Cx.Ok.gm{X:Cx}(ok:X.Ok)(E:Value→Shared→Prop):(X.gm E).Ok:=
 ⟨ok.mod,ok.kind,ok.glob,ok.blt,ok.above,ok.inj,ok.has,ok.mX,ok.hd,ok.frames,ok.qY,ok.vo,ok.bs,ok.iR,ok.ou,ok.pY,ok.gD,ok.j5⟩
theorem Cx.Ok.hU{X:Cx}{E:Value→Shared→Prop}(ok:(X.gm E).Ok):X.Ok:=
 ⟨ok.mod,ok.kind,ok.glob,ok.blt,ok.above,ok.inj,ok.has,ok.mX,ok.hd,ok.frames,ok.qY,ok.vo,ok.bs,ok.iR,ok.ou,ok.pY,ok.gD,ok.j5⟩
section
variable{X:Cx}{pins:List (Addr×Obj)}{σ:St}{H:Hp}{s:Shared}{E:Value→Shared→Prop}
theorem Inv.gm(I:Inv X pins σ H s)(E:Value→Shared→Prop):Inv (X.gm E) pins σ H s:=⟨I.ok.gm E,I.os,I.bare,I.base,I.loc,I.cell,I.free,I.gE,I.pin,I.aI,I.len⟩
theorem Inv.hU(I:Inv (X.gm E) pins σ H s):Inv X pins σ H s:=⟨I.ok.hU,I.os,I.bare,I.base,I.loc,I.cell,I.free,I.gE,I.pin,I.aI,I.len⟩
theorem SP.hU(h:SP (X.gm E) pins D f s'):SP X pins D f s':=by
 cases f with
 |next=>obtain⟨J',H',I,q⟩:=h;exact⟨J',H',I.hU,q⟩
 |brk=>obtain⟨J',H',I,q⟩:=h;exact⟨J',H',I.hU,q⟩
 |cont=>obtain⟨J',H',I,q⟩:=h;exact⟨J',H',I.hU,q⟩
 |ret u=>obtain⟨v,J',H',I,r,q⟩:=h;exact⟨v,J',H',I.hU,r,q⟩
theorem PE.gk(h:PE X.gk e t):PE X e t:=fun pins s σ H Q I hw=>
 wpAny_mono (h pins s σ H Q (I.gm _) hw) (fun _ _ ⟨v,H',I',r,q⟩=>⟨v,H',I'.hU,r,q⟩) fun _ _ z=>False.elim z
theorem PT.gk(h:PT X.gk e t):PT X e t:=fun pins s σ H Q I hw=>
 wpAny_mono (h pins s σ H Q (I.gm _) hw) (fun _ _ ⟨H',I',q⟩=>⟨H',I'.hU,q⟩) fun _ _ z=>False.elim z
theorem cq.gk{st:List Stmt}{t:TS}(h:cq X.gk st t):cq X st t:=fun pins s σ H D I hw=>
 wpAny_mono (h pins s σ H D (I.gm _) hw) (fun _ _ q=>q.hU) fun _ _ z=>False.elim z
end
section
variable{X:Cx}{st:Stmt}{rest:List Stmt}{t u:TS}{e:Expr}{te:TE}{pos:Pos}
def IG:TS:=fun D σ H=>D.nx σ H
def yz(t u:TS):TS:=fun D σ H=>t {D with nx:=u D} σ H
theorem zB:cq X [] IG:=fun _ _ σ H _ I h=>wpAny_execs_nil ⟨σ,H,I,h⟩
theorem AZ(h1:PS X st t)(h2:cq X rest u):cq X (st::rest) (yz t u):=by
 intro pins s σ H D I h;refine wpAny_execs_cons (aN (h1 pins s σ H {D with nx:=u D} I h) fun f s1 q=>?_);cases f with
 | next=>
   obtain⟨J',H',I',q⟩:=q;exact h2 pins s1 J' H' D I' q
 |ret v=>exact q
 |brk=>exact q
 |cont=>exact q
theorem wB(h1:PS X st t):cq X [st] t:=by
 intro pins s σ H D I h;refine wpAny_execs_cons (aN (h1 pins s σ H D I h) fun f s1 q=>?_);cases f with
 |next=>exact wpAny_execs_nil q
 |ret v=>exact q
 |brk=>exact q
 |cont=>exact q
theorem Inv.quiet(I:Inv X pins σ H s):interactive X.env=false:=by simp[interactive,I.ok.kind]
def Io(te:TE):TS:=fun D σ H=>te σ H fun _ H1=>D.nx σ H1
theorem jF(he:PE X e te)(hs:swapsWith e none pos.line X.env=pure false:=by rfl):PS X (.Expr e pos) (Io te):=by
 intro pins s σ H D I h;exact wpAny_Expr_any (aN (he pins s σ H _ I h) fun v s1 ⟨x,H1,I1,r1,q1⟩=>⟨σ,H1,I1,q1⟩) I.quiet hs
def Dk(te:TE):TS:=fun D σ H=>te σ H D.rt
theorem uQ(he:PE X e te):PS X (.Return (some e) pos) (Dk te):=by
 intro pins s σ H D I h;exact wpAny_Return_some (aN (he pins s σ H _ I h) fun v s1 ⟨x,H1,I1,r1,q1⟩=>⟨x,σ,H1,I1,r1,q1⟩)
def GY(c:TT)(t u:TS):TS:=fun D σ H=>c σ H fun b H1=>if b=true then t D σ H1 else u D σ H1
theorem vg(hc:PT X c tc)(ha:cq X a t)(hb:cq X b u):PS X (.If c a b pos) (GY tc t u):=by
 intro pins s σ H D I h;refine wpAny_If (aN (hc pins s σ H _ I h) fun d s1 ⟨H1,I1,q1⟩=>?_);cases d with
 |true=>exact ha pins s1 σ H1 D I1 q1
 |false=>exact hb pins s1 σ H1 D I1 q1
end
abbrev TG:=V→St→Hp→(St→Hp→Prop)→Prop
abbrev kB:=List V→St→Hp→(St→Hp→Prop)→Prop
def PG(X:Cx)(target:Expr)(t:TG):Prop:=
 ∀(pins:List (Addr×Obj)) (s:Shared) (σ:St) (H:Hp) (v:V) (u:Value) (Q:St→Hp→Prop),Inv X pins σ H s→RelV v u→t v σ H Q→
   wpAny (model X.prog X.w) X.A (assign target X.env u) (fun _ s'=>∃J' H',Inv X pins J' H' s'∧Q J' H') X.xe s
def d7(X:Cx)(ts:List Expr)(t:kB):Prop:=
 ∀(pins:List (Addr×Obj)) (s:Shared) (σ:St) (H:Hp) (vs:List V) (us:List Value) (Q:St→Hp→Prop),Inv X pins σ H s→Vals vs us→t vs σ H Q→
   wpAny (model X.prog X.w) X.A (assignInOrder ((assignEach ts X.env).map (·.2)) us) (fun _ s'=>∃J' H',Inv X pins J' H' s'∧Q J' H') X.xe s
section
variable{X:Cx}{pos:Pos}
def aE(i:Nat):TG:=fun v σ H Q=>Q (σ.set i (some v)) H
theorem zK(hN:X.N.Nodup)(hi:X.N[i]? =some x)(hx:Loc X.env.scope x)(hf:X.fn x=true∨X.env.scope.names.lookup x=some .local:=by first|exact .inl rfl|exact .inr rfl|assumption):PG X (.Name x pos) (aE i):=by
 intro pins s σ H v u Q I r h;exact wpAny_assign_Name (wL I hN hi hx r (fun s' I'=>⟨_,H,I',h⟩) hf)
def AR:kB:=fun vs σ H Q=>vs=[]∧Q σ H
def w6(t:TG)(u:kB):kB:=fun vs σ H Q=>∃v r,vs=v::r∧t v σ H fun J' H'=>u r J' H' Q
theorem J1:d7 X [] AR:=by
 intro pins s σ H vs us Q I r h;obtain⟨e,h⟩:=h;subst e;cases r;exact assignInOrder_nil ⟨σ,H,I,h⟩
theorem Fb(h1:PG X e t)(h2:d7 X es u)
   (hs:(assignEach (e::es) X.env).map (·.2)=assign e X.env::(assignEach es X.env).map (·.2):=by rfl):d7 X (e::es) (w6 t u):=by
 intro pins s σ H vs us Q I r h;obtain⟨v,vr,e1,h⟩:=h;subst e1;cases r with
 | cons r rr=>
   rw[hs];refine assignInOrder_cons (aN (h1 pins s σ H _ _ _ I r h) fun _ s1 ⟨NY,H1,I1,q1⟩=>?_);exact h2 pins s1 NY H1 _ _ Q I1 rr q1
def gc(K:PySem.W.Frag)(n:Nat)(t:kB):TG:=fun v σ H Q=>∃a xs,v=.ref a∧bN K H a xs∧xs.length=n∧t xs σ H Q
theorem Ce(hc:X.calm=true)(h:d7 X es t)
   (hn:(assignEach es X.env).length=n:=by rfl) (Q0:(assignEach es X.env).findIdx? (·.1)=none:=by rfl):PG X (.Tuple es k pos) (gc X.K n t):=by
 intro pins s σ H v u Q I r hw;obtain⟨a,xs,e1,hq,hl,hw⟩:=hw;subst e1;cases r;obtain⟨B',rv,ht,hz⟩:=I.tuple hq;refine assign_Tuple_tuple (I.ok.hd hc) ht (by simp[hn, ←hl,rv.length]) Q0 fun h' hx=>?_
 have I1:Inv X pins σ H {s with heap:=h'}:=I.kept (t':=s.toks) fun b o e=>hx b o (Nat.ne_of_lt (Heap.lt_size e)) e;exact h pins _ σ H xs _ Q I1 (by simpa using rv) hw
def wb(te:TE)(g:TG):TS:=fun D σ H=>te σ H fun x H1=>g x σ H1 D.nx
theorem AU(he:PE X e te)(hg:PG X tg g)(hs:swapsWithSole [tg] e pos.line X.env=pure false:=by rfl)(hw:swappedStores [tg] e X.env=pure none:=by rfl)
   (h1:(assignEach [tg] X.env).map (·.2)=[assign tg X.env]:=by rfl):PS X (.Assign [tg] e pos) (wb te g):=by
 intro pins s σ H D I h;refine wpAny_Assign_stores (aN (he pins s σ H _ I h) fun v s1 ⟨x,H1,I1,r1,q1⟩=>?_) hs hw;rw[h1];exact aN (hg pins s1 σ H1 x v _ I1 r1 q1) fun _ s2 q=>q
theorem nQ(hN:X.N.Nodup)(hi:X.N[i]? =some x)(hx:Loc X.env.scope x)(he:PE X e te)(hs:swapsWith e (some (.Name x pos')) pos.line X.env=pure false:=by rfl)(hf:X.fn x=true∨X.env.scope.names.lookup x=some .local:=by first|exact .inl rfl|exact .inr rfl|assumption):
   PS X (.Assign [.Name x pos'] e pos) (wb te (aE i)):=by
 intro pins s σ H D I h;refine wpAny_Assign_Name (aN (he pins s σ H _ I h) fun v s1 ⟨y,H1,I1,r1,q1⟩=>?_) hs;exact wL I1 hN hi hx r1 (fun s2 I2=>⟨_,H1,I2,q1⟩) hf
end
section
variable{X:Cx}{pos:Pos}
def HA(c:TT)(tb:TS):TS:=fun D σ H=>∃W:Nat→St→Hp→Prop,(∃m,W m σ H)∧∀m σ H,W m σ H→
 c σ H fun b H1=>if b=true then ∃N:St→Hp→Prop,(∀J' H',N J' H'→∃m',m'<m∧W m' J' H')∧tb {D with nx:=N,ct:=N,bk:=D.nx} σ H1 else D.nx σ H1
theorem Aa(hp:PassesOwn (model X.prog X.w) X.A X.env X.xe)(hc:PT X c tc)(hb:cq X body tb):PS X (.While c body [] pos) (HA tc tb):=by
 intro pins s σ H D I h;obtain⟨W,⟨m0,w0⟩,turn⟩:=h;refine wpAny_While (codeAny_whileLoop (fun n s'=>∃J' H',Inv X pins J' H' s'∧W n J' H') ?_ m0 ⟨σ,H,I,w0⟩);rintro n s1 ⟨NY,H1,I1,w1⟩;refine wpAny_passesOwn hp (aN (hc pins s1 NY H1 _ I1 (turn n NY H1 w1)) fun b s2 ⟨H2,I2,q2⟩=>?_);cases b with
 | true=>
   obtain⟨N,hN,q2⟩:=q2;rw[if_pos rfl];refine wpAny_passesOwn hp (aN (hb pins s2 NY H2 _ I2 q2) fun f s3 q3=>?_);cases f with
   | next=>
     obtain⟨L1,H3,I3,n3⟩:=q3;obtain⟨m',hm,w3⟩:=hN L1 H3 n3;exact⟨m',hm,L1,H3,I3,w3⟩
   | cont=>
     obtain⟨L1,H3,I3,n3⟩:=q3;obtain⟨m',hm,w3⟩:=hN L1 H3 n3;exact⟨m',hm,L1,H3,I3,w3⟩
   |brk=>exact q3
   |ret v=>exact q3
 | false=>
   rw[if_neg Bool.false_ne_true];exact wpAny_execs_nil ⟨NY,H2,I2,q2⟩
end
structure It where
 go:Nat→Hp→Prop
 mC:Nat→Hp→V→Hp→Prop
 stop:Nat→Hp→Prop
def dj(X:Cx)(pins:List (Addr×Obj))(H:Hp)(b:Addr):Prop:=
 H b=none∧b≠X.env.locals∧b∉X.fs∧(b∈X.ex∨X.cS.heap.objs.size≤b)∧(∀x c,X.env.cells.lookup x=some c→c≠b)∧∀p∈X.pn++pins,p.1≠b
theorem Inv.i9{X:Cx}{pins:List (Addr×Obj)}{σ:St}{H H':Hp}{s:Shared}{b:Addr}(I:Inv X pins σ H s)(hb:s.heap.objs.size≤b)(hn:H' b=none):dj X pins H' b:=by
 refine⟨hn,Nat.ne_of_gt (Nat.lt_of_lt_of_le I.lt hb),I.EI hb,.inr (Nat.le_trans I.sz hb),fun x c e z=>?_,fun p hp z=>?_⟩
 · obtain⟨v,q⟩:=I.cell x c e
   exact absurd (Nat.lt_of_lt_of_le q.lt (by rw[z];exact hb)) (Nat.lt_irrefl _)
 ·exact absurd (Nat.lt_of_lt_of_le (Heap.lt_size (I.pin p hp).1) (by rw[z];exact hb)) (Nat.lt_irrefl _)
structure Turn(P:Program)(w:World)(K:PySem.W.Frag)(tg:Expr)(J:It)(fp:List Addr)(it:Addr)(tn:Nat→Heap→Prop):Prop where
 mem:it∈fp
 obj:∀i h,tn i h→∀b∈fp,∃o,h.get? b=some o∧∀v,o.data≠.cell v
 keep:∀i h h',tn i h→(∀b∈fp,∀o,h.get? b=some o→h'.get? b=some o)→tn i h'
 item:∀(X:Cx),X.prog=P→X.w=w→X.K=K→X.calm=true→∀(i:Nat) (pins:List (Addr×Obj)) (s:Shared) (σ:St) (H:Hp) (E:Value→Shared→Prop),Inv X pins σ H s→(∀b∈fp,dj X pins H b)→tn i s.heap→J.go i H→
   wpAny (model P w) X.A (pyNext (.ref it)) (fun r s1=>∃u,r=some u∧
     wpAny (model P w) X.A (letOwnedTupleGo tg (.ref it) u) (fun _ s2=>∃x H',Inv X pins σ H' s2∧RelV x u∧J.mC i H x H'∧tn (i+1) s2.heap∧∀b∈fp,H' b=none) E s1) E s
 done:∀(X:Cx),X.prog=P→X.w=w→X.K=K→X.calm=true→∀(i:Nat) (pins:List (Addr×Obj)) (s:Shared) (σ:St) (H:Hp) (E:Value→Shared→Prop),Inv X pins σ H s→(∀b∈fp,dj X pins H b)→tn i s.heap→J.stop i H→
   wpAny (model P w) X.A (pyNext (.ref it)) (fun r s1=>r=none∧Inv X pins σ H s1) E s
 self:∀(A:Around) (i:Nat) (s:Shared) (Q:Value→Shared→Prop) (E:Value→Shared→Prop),tn i s.heap→Q (.ref it) s→wpAny (model P w) A (pyIter (.ref it)) Q E s
abbrev TI:=St→Hp→(It→Hp→Prop)→Prop
def ub(X:Cx)(pins:List (Addr×Obj))(σ:St)(tg:Expr)(R:It→Hp→Prop)(Rx:Value)(s2:Shared):Prop:=
 ∃(it:Addr) (fp:List Addr) (tn:Nat→Heap→Prop) (J:It) (H':Hp),Rx=.ref it∧Inv X pins σ H' s2∧Turn X.prog X.w X.K tg J fp it tn∧tn 0 s2.heap∧(∀b∈fp,dj X pins H' b)∧R J H'
def PI(X:Cx)(tg iter:Expr)(wi:TI):Prop:=
 ∀(pins:List (Addr×Obj)) (s:Shared) (σ:St) (H:Hp) (R:It→Hp→Prop),Inv X pins σ H s→wi σ H R→
   wpAny (model X.prog X.w) X.A (eval iter X.env) (fun v s1=>wpAny (model X.prog X.w) X.A (pyIter v) (ub X pins σ tg R) X.xe s1) X.xe s
theorem jQ(ho:s.heap.get? it=some o)(hc:o.cls=.type n)(hd:o.data=.fields vs)
   (hn:["enumerate","zip","dict_itemiterator","dict_reverseitemiterator","odict_iterator","itertools.zip_longest","itertools.pairwise"].contains n=false) (hQ:Q () s):wpAny M A (letOwnedTupleGo tg (.ref it) u) Q E s:=by
 unfold letOwnedTupleGo
 cases tg<;>first
   |exact wpAny_pure hQ
   |(cases u<;>first
       |exact wpAny_pure hQ
       | (refine wpAny_bind (wpAny_load ho ?_)
          rw[hc,hd];show wpAny M A (if(["enumerate","zip","dict_itemiterator","dict_reverseitemiterator","odict_iterator","itertools.zip_longest","itertools.pairwise"].contains n&&vs[0]? ==some (rawInt _))=true then _ else _) Q E s
          rw[if_neg (by intro h;rw[hn,Bool.false_and]at h;cases h)]
          exact wpAny_pure hQ))
noncomputable def og(K:PySem.W.Frag)(a:Addr):It:=
 ⟨fun i H=>∃xs x,bz K H a xs∧xs[i]? =some x,fun i H x H'=>H'=H∧∀xs,bz K H a xs→xs[i]? =some x,fun i H=>∃xs,bz K H a xs∧xs.length≤i⟩
noncomputable def nc(K:PySem.W.Frag)(a:Addr):It:=
 ⟨fun i H=>∃xs x,bN K H a xs∧xs[i]? =some x,fun i H x H'=>H'=H∧∀xs,bN K H a xs→xs[i]? =some x,fun i H=>∃xs,bN K H a xs∧xs.length≤i⟩
noncomputable def cI(lo:Int)(n:Nat):It:=⟨fun i _=>i<n,fun i H x H'=>H'=H∧x=.int (lo+i),fun i _=>n≤i⟩
theorem EJ{P:Program}{w:World}{K:PySem.W.Frag}{tg:Expr}(a it:Addr):Turn P w K tg (og K a) [it] it (fun i h=>h.IsListIter it a i) where
 mem:=by simp
 obj:=fun i h st b hb=>by
   have e:b=it:=by simpa using hb
   subst e;obtain⟨o,e,c,d⟩:=st;exact⟨o,e,fun v z=>by rw[d]at z;cases z⟩
 keep:=fun i h h' st k=>st.at fun o e=>k it (by simp) o e
 item:=by
   intro X hP hw hK hc i pins s σ H E I hf st hg;subst hP hw hK;obtain⟨xs,x,hq,hx⟩:=hg;obtain⟨B',rv,p,hz⟩:=I.list hq;obtain⟨u,hu,ru⟩:=rv.get hx;obtain⟨f0,f1,f2,f3,f4,f5⟩:=hf it (by simp)
   refine wpAny_pyNext_list_item st p.isList (x:=u) (by simpa using hu) fun h' Mz sb=>?_
   have I1:Inv X pins σ H {s with heap:=h'}:=I.turned (t':=s.toks) (fun b o hb e=>(sb.2 b hb).trans e) f0 f1 f3 f4 f5;obtain⟨o,e,c,d⟩:=id Mz;exact⟨u,rfl,jQ (s:={s with heap:=h'}) e c d (by decide) ⟨x,H,I1,ru,⟨rfl,fun ys hy=>by rw[I.vB hy hq];exact hx⟩,Mz,fun b hb=>(hf b hb).1⟩⟩
 done:=by
   intro X hP hw hK hc i pins s σ H E I hf st hg;subst hP hw hK;obtain⟨xs,hq,hx⟩:=hg;obtain⟨B',rv,p,hz⟩:=I.list hq;obtain⟨f0,f1,f2,f3,f4,f5⟩:=hf it (by simp)
   have hl:=rv.length;exact wpAny_pyNext_list_end (I.ok.hd hc) st p.isList (by simp;omega) fun h' eb=>⟨rfl,I.turned (t':=s.toks) (fun b o hb e=>eb b o hb e) f0 f1 f3 f4 f5⟩
 self:=fun _ _ _ _ _ st h=>wpAny_pyIter_listiter st h
theorem DP{P:Program}{w:World}{K:PySem.W.Frag}{tg:Expr}(a it:Addr):Turn P w K tg (nc K a) [it] it (fun i h=>h.IsTupleIter it a i) where
 mem:=by simp
 obj:=fun i h st b hb=>by
   have e:b=it:=by simpa using hb
   subst e;obtain⟨o,e,c,d⟩:=st;exact⟨o,e,fun v z=>by rw[d]at z;cases z⟩
 keep:=fun i h h' st k=>st.at fun o e=>k it (by simp) o e
 item:=by
   intro X hP hw hK hc i pins s σ H E I hf st hg;subst hP hw hK;obtain⟨xs,x,hq,hx⟩:=hg;obtain⟨B',rv,p,hz⟩:=I.tuple hq;obtain⟨u,hu,ru⟩:=rv.get hx;obtain⟨f0,f1,f2,f3,f4,f5⟩:=hf it (by simp)
   refine wpAny_pyNext_tuple_item st (show s.heap.IsTuple a B'.toArray from p) (x:=u) (by simpa using hu) fun h' Mz sb=>?_
   have I1:Inv X pins σ H {s with heap:=h'}:=I.turned (t':=s.toks) (fun b o hb e=>(sb.2 b hb).trans e) f0 f1 f3 f4 f5;obtain⟨o,e,c,d⟩:=id Mz;exact⟨u,rfl,jQ (s:={s with heap:=h'}) e c d (by decide) ⟨x,H,I1,ru,⟨rfl,fun ys hy=>by rw[I.vZ hy hq];exact hx⟩,Mz,fun b hb=>(hf b hb).1⟩⟩
 done:=by
   intro X hP hw hK hc i pins s σ H E I hf st hg;subst hP hw hK;obtain⟨xs,hq,hx⟩:=hg;obtain⟨B',rv,p,hz⟩:=I.tuple hq;obtain⟨f0,f1,f2,f3,f4,f5⟩:=hf it (by simp)
   have hl:=rv.length;exact wpAny_pyNext_tuple_end (I.ok.hd hc) st (show s.heap.IsTuple a B'.toArray from p) (by simp;omega) fun h' eb=>⟨rfl,I.turned (t':=s.toks) (fun b o hb e=>eb b o hb e) f0 f1 f3 f4 f5⟩
 self:=fun _ _ _ _ _ st h=>wpAny_pyIter_tupleiter st h
theorem Fv{P:Program}{w:World}{K:PySem.W.Frag}{tg:Expr}(it:Addr)(lo:Int)(n:Nat):Turn P w K tg (cI lo n) [it] it (fun i h=>IsRangeIter h it (lo+(i:Nat)*1) ((n:Int) - (i:Nat)) 1) where
 mem:=by simp
 obj:=fun i h st b hb=>by
   have e:b=it:=by simpa using hb
   subst e
   exact⟨_,st,fun v z=>by
     have z':Data.fields _=Data.cell v:=z;cases z'⟩
 keep:=fun i h h' st k=>k it (by simp) _ st
 item:=by
   intro X hP hw hK hc i pins s σ H E I hf st hg;subst hP hw hK;obtain⟨f0,f1,f2,f3,f4,f5⟩:=hf it (by simp)
   have W:=Walks.range (prog:=X.prog) (w:=X.w) (I.ok.hd hc) it lo 1 n;refine W.item i s _ _ hg st fun v h' tk hv Mz kk=>?_;obtain⟨t,rfl⟩:=hv;have I1:Inv X pins σ H {s with heap:=h',toks:=tk}:=I.turned (fun b o hb e=>kk b o (by simpa using hb) e) f0 f1 f3 f4 f5
   refine⟨_,rfl,jQ (s:={s with heap:=h',toks:=tk}) (n:="range_iterator") Mz rfl rfl (by decide) ⟨.int (lo+i),H,I1,⟨t,?_⟩,⟨rfl,rfl⟩,Mz,fun b hb=>(hf b hb).1⟩⟩
   rw[Int.mul_one]
 done:=by
   intro X hP hw hK hc i pins s σ H E I hf st hg;subst hP hw hK;obtain⟨f0,f1,f2,f3,f4,f5⟩:=hf it (by simp)
   exact wpAny_pyNext_range_end (I.ok.hd hc) st (by have:n≤i:=hg;omega) fun h' eb=>⟨rfl,I.turned (t':=s.toks) (fun b o hb e=>eb b o hb e) f0 f1 f3 f4 f5⟩
 self:=fun _ _ _ _ _ st h=>wpAny_pyIter_rangeiter st h
end L2
namespace L2
open PySem PySem.Spec PyProof.Rows
section
variable{X:Cx}{tg:Expr}
theorem xf{pins:List (Addr×Obj)}{σ:St}{H:Hp}{s:Shared}{R:It→Hp→Prop}{E:Value→Shared→Prop}{lo hi:Int}{t u v:Tok}{tk:Nat}(I:Inv X pins σ H s)(h1: -(2 ^ 62)≤lo)(h2:lo<2 ^ 62)(h3: -(2 ^ 62)≤hi)(h4:hi<2 ^ 62)
   (q:R (cI lo (hi - lo).toNat) H):wpAny (model X.prog X.w) X.A (pyIter (.ref s.heap.objs.size)) (ub X pins σ tg R) E {s with heap:=s.heap.push {cls:=.type "range",data:=.fields #[.int lo t,.int hi u,.int 1 v]},toks:=tk}:=by
 refine wpAny_pyIter_range (IsRange.new ..) (small_one h1 h2 h3 h4) ?_;have I1:Inv X pins σ H {s with heap:=s.heap.push {cls:=.type "range",data:=.fields #[.int lo t,.int hi u,.int 1 v]},toks:=tk}:=I.kept fun b o e=>Heap.get?_push_of_some _ e
 refine⟨(s.heap.push {cls:=.type "range",data:=.fields #[.int lo t,.int hi u,.int 1 v]}).objs.size,[(s.heap.push {cls:=.type "range",data:=.fields #[.int lo t,.int hi u,.int 1 v]}).objs.size],_,_,H,rfl,
   I1.kept (t':=tk) fun b o e=>Heap.get?_push_of_some _ e,Fv _ lo (hi - lo).toNat,?_,fun b hb=>?_,q⟩
 · have e1:lo+((0:Nat):Int)*1=lo:=by simp
   have e2:(((hi - lo).toNat:Nat):Int) - ((0:Nat):Int)=Builtin.Range.rangeSize lo hi 1:=by rw[rangeSize_one];split<;>omega
   show IsRangeIter _ _ (lo+((0:Nat):Int)*1) ((((hi - lo).toNat:Nat):Int) - ((0:Nat):Int)) 1;rw[e1,e2];exact Heap.get?_push_size _ rfl
 · have e:b=(s.heap.push {cls:=.type "range",data:=.fields #[.int lo t,.int hi u,.int 1 v]}).objs.size:=by simpa using hb
   subst e;exact I1.i9 (Nat.le_refl _) (I1.aI.fresh (Nat.le_refl _))
def kh(ta:TA):TI:=fun σ H R=>ta σ H fun vs H1=>∃j:Int,vs=[.int j]∧ -(2 ^ 62)≤j∧j<2 ^ 62∧R (cI 0 j.toNat) H1
def jy(ta:TA):TI:=fun σ H R=>ta σ H fun vs H1=>∃i j:Int,vs=[.int i,.int j]∧(-(2 ^ 62)≤i∧i<2 ^ 62∧ -(2 ^ 62)≤j∧j<2 ^ 62)∧R (cI i (j - i).toNat) H1
theorem BY{a:Expr}{ta:TA}{p pos:Pos}(hg:Gl X "range")(hm:X.mg "range"=none)(ha:PA X [a] ta)(hs:starEach [a] X.env=[(false,eval a X.env)]:=by rfl):PI X tg (.Call (.Name "range" p) [a] [] pos) (kh ta):=by
 intro pins s σ H R I h;refine Call_ (lK I hg hm boot_range (PyProof.Rows.callWith_type1 (aN (ha pos pins s σ H _ I h) fun us s1 ⟨vs,H1,I1,r1,q1⟩=>?_) hs rfl));obtain⟨j,e,q1,q2,q⟩:=q1;subst e;cases r1 with
 | cons r rr=>
   cases rr;obtain⟨t,rfl⟩:=r;exact call_range_1 (xf I1 (by omega) (by omega) q1 q2 (by simpa using q))
theorem Jl(hg:Gl X "range")(hm:X.mg "range"=none)(ha:PA X [a,b] ta)(hs:starEach [a,b] X.env=[(false,eval a X.env),(false,eval b X.env)]:=by rfl)(L0:starEach [b] X.env=[(false,eval b X.env)]:=by rfl):
   PI X tg (.Call (.Name "range" p) [a,b] [] pos) (jy ta):=by
 intro pins s σ H R I h;refine Call_ (lK I hg hm boot_range (PyProof.Rows.callWith_type1 (aN (ha pos pins s σ H _ I h) fun us s1 ⟨vs,H1,I1,r1,q1⟩=>?_) (by rw[hs,L0]) (by rw[L0];rfl)))
 obtain⟨i,j,e,⟨q1,q2,q3,q4⟩,q⟩:=q1;subst e;cases r1 with
 | cons r rr=>
   cases rr with
   | cons r' rr=>
     cases rr;obtain⟨t,rfl⟩:=r;obtain⟨t',rfl⟩:=r';exact call_range_2 (xf I1 q1 q2 q3 q4 q)
def F7(wi:TI)(g:TG)(tb:TS):TS:=fun D σ H=>wi σ H fun J H1=>∃W:Nat→Nat→St→Hp→Prop,(∃m,W 0 m σ H1)∧∀i m σ H,W i m σ H→
 (J.stop i H∧D.nx σ H)∨(J.go i H∧∃N:St→Hp→Prop,(∀J' H',N J' H'→∃m',m'<m∧W (i+1) m' J' H')∧∀x H',J.mC i H x H'→g x σ H' fun Q6 H2=>tb {D with nx:=N,ct:=N,bk:=D.nx} Q6 H2)
noncomputable def ml(fp:List Addr)(h:Heap):List (Addr×Obj):=fp.filterMap fun b=>(h.get? b).map fun o=>(b,o)
theorem qk{fp:List Addr}{h:Heap}{b:Addr}{o:Obj}(hb:b∈fp)(e:h.get? b=some o):(b,o)∈ml fp h:=List.mem_filterMap.mpr ⟨b,hb,by rw[e];rfl⟩
theorem EL(hp:p∈ml fp h):p.1∈fp∧h.get? p.1=some p.2:=by
 obtain⟨b,hb,e⟩:=List.mem_filterMap.mp hp;cases q:h.get? b with
 |none=>rw[q]at e;cases e
 | some o=>
   rw[q]at e;have e':(b,o)=p:=Option.some.inj e;subst e';exact⟨hb,q⟩
theorem Inv.pinned{pins:List (Addr×Obj)}{σ:St}{H:Hp}{s:Shared}{fp:List Addr}(I:Inv X pins σ H s)(hf:∀b∈fp,dj X pins H b)(ho:∀b∈fp,∃o,s.heap.get? b=some o∧∀v,o.data≠.cell v):Inv X (pins++ml fp s.heap) σ H s:=
 I.zQ fun p hp=>(List.mem_append.mp hp).elim (fun z=>I.pin p (List.mem_append_right _ z)) fun z=>by
   obtain⟨hb,e⟩:=EL z;obtain⟨f0,f1,f2,_⟩:=hf p.1 hb;obtain⟨o,e',d⟩:=ho p.1 hb;rw[e]at e';cases e';exact⟨e,f0,f1,f2,d⟩
theorem Inv.qX{pins pl:List (Addr×Obj)}{σ:St}{H:Hp}{s:Shared}(I:Inv X (pins++pl) σ H s):Inv X pins σ H s:=I.zQ fun p hp=>I.pin p (List.mem_append_right _ (List.mem_append_left _ hp))
theorem zj(hp:PassesOwn (model X.prog X.w) X.A X.env X.xe)(hc:X.calm=true)(hi:PI X tg iter wi)(hg:PG X tg g)(hb:cq X body tb)
   (hs:∀x,foldedSetIterable iter X.env x=pure x:=by intro _;rfl):PS X (.For tg iter body [] pos) (F7 wi g tb):=by
 intro pins s σ H D I h;refine wpAny_For (aN (hi pins s σ H _ I h) fun v s1 h1=>aN h1 fun Rx s2 h2=>?_) hs;obtain⟨it,fp,tn,J,H2,e,I2,T,Nu,f2,W,⟨m0,w0⟩,turn⟩:=h2;subst e;have Pr:∀ {H':Hp},(∀b∈fp,H' b=none)→∀b∈fp,dj X pins H' b:=fun hn b hb=>⟨hn b hb,(f2 b hb).2⟩;refine codeAny_forLoop_any (fun n s'=>∃i J' H',Inv X pins J' H' s'∧tn i s'.heap∧(∀b∈fp,H' b=none)∧W i n J' H') ?_ m0 ⟨0,σ,H2,I2,Nu,fun b hb=>(f2 b hb).1,w0⟩;rintro n s3 ⟨i,L1,H3,I3,Ts,Tr,w3⟩;rcases turn i n L1 H3 w3 with⟨stop,qn⟩|⟨go,N,hN,step⟩
 · refine wpAny_passesOwn hp (aN (T.done X rfl rfl rfl hc i pins s3 L1 H3 X.xe I3 (Pr Tr) Ts stop) fun r s4 ⟨hr,I4⟩=>?_)
   subst hr;exact wpAny_execs_nil ⟨L1,H3,I4,qn⟩
 · refine wpAny_passesOwn hp (aN (T.item X rfl rfl rfl hc i pins s3 L1 H3 X.xe I3 (Pr Tr) Ts go) fun r s4 ⟨u,hr,h4⟩=>?_)
   subst hr;refine wpAny_passesOwn hp (aN h4 fun _ s5 ⟨x,H5,I5,r5,y5,Pk,Sa⟩=>?_);have Su:=I5.pinned (Pr Sa) (T.obj _ _ Pk);refine wpAny_passesOwn hp (aN (hg _ s5 L1 H5 x u _ Su r5 (step x H5 y5)) fun _ s6 ⟨NR,H6,I6,q6⟩=>?_);refine wpAny_passesOwn hp (aN (hb _ s6 NR H6 _ I6 q6) fun f s7 q7=>?_)
   have again:∀ {Og:St} {H7:Hp},Inv X (pins++ml fp s5.heap) Og H7 s7→N Og H7→∃m,m<n∧∃i J' H',Inv X pins J' H' s7∧tn i s7.heap∧(∀b∈fp,H' b=none)∧W i m J' H':=fun {Og H7} I7 n7=>by
     obtain⟨m',hm,w7⟩:=hN Og H7 n7;refine⟨m',hm,i+1,Og,H7,I7.qX,T.keep _ _ _ Pk fun b hb o e=>(I7.pin (b,o) (List.mem_append_right _ (List.mem_append_right _ (qk hb e)))).1,fun b hb=>?_,w7⟩;obtain⟨o,e,d⟩:=T.obj _ _ Pk b hb;exact(I7.pin (b,o) (List.mem_append_right _ (List.mem_append_right _ (qk hb e)))).2.1
   cases f with
   |next=>obtain⟨Og,H7,I7,n7⟩:=q7;exact again I7 n7
   |cont=>obtain⟨Og,H7,I7,n7⟩:=q7;exact again I7 n7
   |brk=>obtain⟨Og,H7,I7,q7⟩:=q7;exact⟨Og,H7,I7.qX,q7⟩
   |ret v=>obtain⟨x7,Og,H7,I7,r7,q7⟩:=q7;exact⟨x7,Og,H7,I7.qX,r7,q7⟩
end
end L2
namespace L2
open PySem PySem.Spec PyProof.Rows
abbrev R2:=V→V→Hp→VK→Prop
def bh(X:Cx)(f:Value→Value→Sem Value)(r:R2):Prop:=
 ∀(pins:List (Addr×Obj)) (s:Shared) (σ:St) (H:Hp) (x y:V) (v u:Value) (Q:VK),Inv X pins σ H s→RelV x v→RelV y u→r x y H Q→
   wpAny (model X.prog X.w) X.A (f v u) (EP X pins σ Q) X.xe s
def gR(X:Cx)(f:Value→Sem Value)(r:V→Hp→VK→Prop):Prop:=
 ∀(pins:List (Addr×Obj)) (s:Shared) (σ:St) (H:Hp) (x:V) (v:Value) (Q:VK),Inv X pins σ H s→RelV x v→r x H Q→
   wpAny (model X.prog X.w) X.A (f v) (EP X pins σ Q) X.xe s
def b5(X:Cx)(f:Value)(r:List V→Hp→VK→Prop):Prop:=
 ∀(pins:List (Addr×Obj)) (s:Shared) (σ:St) (H:Hp) (xs:List V) (us:List Value) (Q:VK),Inv X pins σ H s→Vals xs us→r xs H Q→
   wpAny (model X.prog X.w) X.A (call f us) (EP X pins σ Q) X.xe s
def BC(X:Cx)(r:V→Hp→(Bool→Hp→Prop)→Prop):Prop:=
 ∀(pins:List (Addr×Obj)) (s:Shared) (σ:St) (H:Hp) (x:V) (v:Value) (Q:Bool→Hp→Prop),Inv X pins σ H s→RelV x v→r x H Q→
   wpAny (model X.prog X.w) X.A (truthy v) (TP X pins σ Q) X.xe s
def nS(r:R2)(ta tb:TE):TE:=fun σ H Q=>ta σ H fun x H1=>tb σ H1 fun y H2=>r x y H2 Q
noncomputable def rI(C:Int→Int→Prop)(g:Int→Int→V):R2:=fun x y H Q=>∃i j,x=.int i∧y=.int j∧C i j∧Q (g i j) H
def ic(g:Int→Int→V):R2:=fun x y H Q=>∃i j,x=.int i∧y=.int j∧Q (g i j) H
section
variable{X:Cx}{a b c:Expr}{ta tb tc:TE}{pos:Pos}
theorem sO(ha:PE X a ta)(hb:PE X b tb){pins:List (Addr×Obj)}{s:Shared}{σ:St}{H:Hp}{R:V→V→Hp→Prop}(I:Inv X pins σ H s)
   (h:ta σ H fun x H1=>tb σ H1 fun y H2=>R x y H2) {Q:Value→Shared→Prop} {f:Value→Value→Sem Value}
   (hf:∀v u s2 x y H2,Inv X pins σ H2 s2→RelV x v→RelV y u→R x y H2→wpAny (model X.prog X.w) X.A (f v u) Q X.xe s2):
   wpAny (model X.prog X.w) X.A (eval a X.env) (fun v Ln=>wpAny (model X.prog X.w) X.A (eval b X.env) (fun u Nq=>wpAny (model X.prog X.w) X.A (f v u) Q X.xe Nq) X.xe Ln) X.xe s:=by
 refine aN (ha pins s σ H _ I h) fun v s1 ⟨x,H1,I1,r1,q1⟩=>?_;refine aN (hb pins s1 σ H1 _ I1 q1) fun u s2 ⟨y,H2,I2,r2,q2⟩=>?_;exact hf v u s2 x y H2 I2 r1 r2 q2
theorem Jw{op:Operator}{r:R2}(ho:bh X (binaryOp op) r)(ha:PE X a ta)(hb:PE X b tb):PE X (.BinOp a op b pos) (nS r ta tb):=by
 intro pins s σ H Q I h;exact wpAny_BinOp (sO ha hb I h fun v u s2 x y H2 I2 rx ry q=>ho pins s2 σ H2 x y v u Q I2 rx ry q)
theorem t4{f:Value→Value→Sem Value}{C:Int→Int→Prop}{g:Int→Int→Int}
   (rule:∀(i j:Int) (t u:Tok) (s:Shared) (Q:Value→Shared→Prop) (E:Value→Shared→Prop),C i j→Q (.int (g i j) s.toks) {s with toks:=s.toks+1}→wpAny (model X.prog X.w) X.A (f (.int i t) (.int j u)) Q E s):
   bh X f (rI C fun i j=>.int (g i j)):=by
 intro pins s σ H x y v u Q I rx ry h;obtain⟨i,j,rfl,rfl,hc,q⟩:=h;obtain⟨t,rfl⟩:=rx;obtain⟨t',rfl⟩:=ry;exact rule i j t t' s _ _ hc ⟨.int (g i j),H,I.tok _,⟨_,rfl⟩,q⟩
theorem B9{f:Value→Value→Sem Value}{g:Int→Int→Int}
   (rule:∀(i j:Int) (t u:Tok) (s:Shared) (Q:Value→Shared→Prop) (E:Value→Shared→Prop),Q (.int (g i j) s.toks) {s with toks:=s.toks+1}→wpAny (model X.prog X.w) X.A (f (.int i t) (.int j u)) Q E s):
   bh X f (ic fun i j=>.int (g i j)):=by
 intro pins s σ H x y v u Q I rx ry h;obtain⟨i,j,rfl,rfl,q⟩:=h;obtain⟨t,rfl⟩:=rx;obtain⟨t',rfl⟩:=ry;exact rule i j t t' s _ _ ⟨.int (g i j),H,I.tok _,⟨_,rfl⟩,q⟩
theorem uC{f:Value→Value→Sem Value}{g:Int→Int→Bool}
   (rule:∀(i j:Int) (t u:Tok) (s:Shared) (Q:Value→Shared→Prop) (E:Value→Shared→Prop),Q (.bool (g i j)) s→wpAny (model X.prog X.w) X.A (f (.int i t) (.int j u)) Q E s):
   bh X f (ic fun i j=>.bl (g i j)):=by
 intro pins s σ H x y v u Q I rx ry h;obtain⟨i,j,rfl,rfl,q⟩:=h;obtain⟨t,rfl⟩:=rx;obtain⟨t',rfl⟩:=ry;exact rule i j t t' s _ _ ⟨.bl (g i j),H,I,rfl,q⟩
def qm(i j:Int):Prop:=(-(2 ^ 64)<i∧i<2 ^ 64)∨(-(2 ^ 64)<j∧j<2 ^ 64)
theorem qm.ok{i j:Int}(h:qm i j):IntMulOk i j:=by
 rcases h with⟨h1,h2⟩|⟨h1,h2⟩
 ·exact .of_left (intBits_le_64 h1 h2)
 ·exact .of_right (intBits_le_64 h1 h2)
theorem fK:bh X (binaryOp .Add) (ic fun i j=>.int (i+j)):=B9 fun _ _ _ _ _ _ _ q=>add_int q
theorem uD:bh X (binaryOp .Mult) (rI qm fun i j=>.int (i*j)):=t4 fun _ _ _ _ _ _ _ hc q=>mul_int q hc.ok
theorem cB:bh X (binaryOp .Mod) (rI (fun _ j=>0<j) fun i j=>.int (i % j)):=t4 fun i j _ _ _ _ _ hc q=>by
 have h1:(0:Int)<j:=hc;exact mod_int' (by omega) (by rw[Int.fmod_eq_emod_of_nonneg i (by omega)];exact q)
end
section
variable{X:Cx}{a b c:Expr}{ta tb tc:TE}{pos:Pos}
theorem vK:bh X (compareOp .Lt) (ic fun i j=>.bl (decide (i<j))):=uC fun _ _ _ _ _ _ _ q=>lt_int q
theorem zd:bh X (compareOp .LtE) (ic fun i j=>.bl (decide (i≤j))):=uC fun _ _ _ _ _ _ _ q=>le_int q
theorem nV:bh X (compareOp .Gt) (ic fun i j=>.bl (decide (j<i))):=uC fun _ _ _ _ _ _ _ q=>gt_int q
theorem bh.or(h:bh X f r)(h':bh X f r'):bh X f (fun x y H Q=>r x y H Q∨r' x y H Q):=by
 intro pins s σ H x y v u Q I rx ry q;rcases q with q|q
 ·exact h pins s σ H x y v u Q I rx ry q
 ·exact h' pins s σ H x y v u Q I rx ry q
theorem vX(b:Expr)(h:op≠.In:=by decide)(h2:op≠.NotIn:=by decide):behindInMarks op b=false:=by
 have e1:(op==CmpOp.In)=false:=by cases op<;>first|rfl|exact absurd rfl h
 have e2:(op==CmpOp.NotIn)=false:=by cases op<;>first|rfl|exact absurd rfl h2
 cases b<;>simp[behindInMarks,e1,e2]
theorem Fz{op:CmpOp}{r:R2}(ho:bh X (compareOp op) r)(ha:PE X a ta)(hb:PE X b tb)(hm:behindInMarks op b=false):PE X (.Compare a [op] [b] pos) (nS r ta tb):=by
 intro pins s σ H Q I h;exact wpAny_Compare1 (sO ha hb I h fun v u s2 x y H2 I2 rx ry q=>ho pins s2 σ H2 x y v u Q I2 rx ry q) hm
def EE(t:TE):TT:=fun σ H Q=>t σ H fun x H'=>∃k,x=.bl k∧Q k H'
theorem BM(ho:bh X (compareOp op) r)(ha:PE X a ta)(hb:PE X b tb)(hm:behindInMarks op b=false):PT X (.Compare a [op] [b] pos) (EE (nS r ta tb)):=by
 intro pins s σ H Q I h
 refine wpAny_isTrue_Compare1 (aN (ha pins s σ H _ I h) fun v s1 ⟨x,H1,I1,r1,q1⟩=>aN (hb pins s1 σ H1 _ I1 q1) fun u s2 ⟨y,H2,I2,r2,q2⟩=>
   aN (ho pins s2 σ H2 x y v u _ I2 r1 r2 q2) fun c s3 ⟨z,H3,I3,r3,k,e,q3⟩=>?_) hm
 subst e;cases r3;exact wpAny_truthy_bool ⟨H3,I3,q3⟩
def GI(r r':R2)(ta tb tc:TE):TE:=fun σ H Q=>ta σ H fun x H1=>tb σ H1 fun y H2=>r x y H2 fun z H3=>∃k,z=.bl k∧
 (if k=true then tc σ H3 fun w' H4=>r' y w' H4 Q else Q (.bl false) H3)
theorem FP(ho:bh X (compareOp op) r)(MS:bh X (compareOp op') r')(ha:PE X a ta)(hb:PE X b tb)(hc:PE X c tc)
   (hm:lastMarks [op,op'] [b,c]=false:=by with_unfolding_all rfl):PE X (.Compare a [op,op'] [b,c] pos) (GI r r' ta tb tc):=by
 intro pins s σ H Q I h
 refine Compare_chain (aN (ha pins s σ H _ I h) fun v s1 ⟨x,H1,I1,r1,q1⟩=>chain_link (aN (hb pins s1 σ H1 _ I1 q1) fun u s2 ⟨y,H2,I2,r2,q2⟩=>
   aN (ho pins s2 σ H2 x y v u _ I2 r1 r2 q2) fun d s3 ⟨z,H3,I3,r3,k,e,q3⟩=>?_)) hm
 subst e;cases r3;refine wpAny_truthy_bool ?_;cases k with
 |false=>exact ite_ff ⟨.bl false,H3,I3,rfl,q3⟩
 |true=>exact ite_tt (chain_last (aN (hc pins s3 σ H3 _ I3 q3) fun w' s4 ⟨z',H4,I4,r4,q4⟩=>MS pins s4 σ H4 y z' u w' Q I4 r2 r4 q4))
def sS(K:PySem.W.Frag)(x:V)(H:Hp)(k:Bool):Prop:=
 match x with
 |.aH=>k=false
 |.bl b=>k=b
 |.int i=>k=(i != 0)
 |.str y=>y.length≤sizeLine∧k=((y.length:Int) != 0)
 |.mr y=>y.size≤sizeLine∧k=((y.size:Int) != 0)
 |.ref p=>(∃xs,bz K H p xs∧k= !xs.isEmpty)∨(∃xs,bN K H p xs∧k= !xs.isEmpty)∨∃kvs,H p=some (.dK kvs)∧k= !kvs.isEmpty
 |_=>False
theorem FT{κ:Type}{kvs:List (κ×V)}{vs:List (κ×Value)}(r:KV kvs vs):(!vs.isEmpty)= !kvs.isEmpty:=by
 cases r<;>rfl
theorem xO{xs:List V}{B':List Value}(r:Vals xs B'):(!B'.toArray.isEmpty)= !xs.isEmpty:=by
 cases r<;>simp
theorem mN:(sizeLine:Nat)<2 ^ 63:=by rw[sizeLine_eq];decide
theorem By:BC X (fun x H Q=>∃k,sS X.K x H k∧Q k H):=by
 intro pins s σ H x v Q I rx h;obtain⟨k,e,q⟩:=h;have hl:=mN;have hs:sizeLine=16777216:=sizeLine_eq;cases x with
 | aH=>
   cases rx;have e':k=false:=e;subst e';exact truthy_none ⟨H,I,q⟩
 | bl b=>
   cases rx;have e':k=b:=e;subst e';exact wpAny_truthy_bool ⟨H,I,q⟩
 | int i=>
   obtain⟨t,rfl⟩:=rx;have e':k=(i != 0):=e;subst e';exact PySem.P.truthy_int ⟨H,I,q⟩
 | str y=>
   obtain⟨t,rfl⟩:=rx;obtain⟨hy,e'⟩:y.length≤sizeLine∧k=((y.length:Int) != 0):=e;subst e';exact PySem.P.truthy_str (by omega) ⟨H,I.tok _,q⟩
 | mr y=>
   obtain⟨t,rfl⟩:=rx;obtain⟨hy,e'⟩:y.size≤sizeLine∧k=((y.size:Int) != 0):=e;subst e';exact PySem.W.truthy_bytes (by omega) ⟨H,I.tok _,q⟩
 | ref p=>
   cases rx;have e':(∃xs,bz X.K H p xs∧k= !xs.isEmpty)∨(∃xs,bN X.K H p xs∧k= !xs.isEmpty)∨∃kvs,H p=some (.dK kvs)∧k= !kvs.isEmpty:=e;rcases e' with⟨xs,hx,e'⟩|⟨xs,hx,e'⟩|⟨kvs,hx,e'⟩
   · subst e'
     obtain⟨B',r,pl,hz⟩:=I.list hx;have hlen:=r.length;exact wpAny_truthy_list pl.isList (by simp only[List.size_toArray];omega) ⟨H,I.tok _,by rw[xO r];exact q⟩
   · subst e'
     obtain⟨B',r,pl,hz⟩:=I.tuple hx;have hlen:=r.length;exact truthy_tuple pl (by simp only[List.size_toArray];omega) ⟨H,I.tok _,by rw[xO r];exact q⟩
   · subst e'
     obtain⟨hz,hS,vs,r,m⟩:kvs.length≤sizeLine∧(p==sysModules)=false∧∃vs,KV kvs vs∧s.heap.DictOf (b0 X.prog X.w) p vs:=I.aI p _ hx;have hlen:kvs.length=vs.length:=Paired.length r;exact wpAny_truthy_dict hS m (by omega) ⟨H,I.tok _,by rw[FT r];exact q⟩
 |_=>exact(show False from e).elim
theorem JY(ha:PE X a ta)(he:∀whole,isTrue a X.env whole=(do let v ←whole;standAt a.pos;holding [v] (truthy v))):
   PT X a (fun σ H Q=>ta σ H fun x H'=>∃k,sS X.K x H' k∧Q k H'):=by
 intro pins s σ H Q I h;exact isTrue_plain (aN (ha pins s σ H _ I h) fun v s1 ⟨x,H1,I1,r1,q1⟩=>By pins s1 σ H1 x v Q I1 r1 q1) (he _)
theorem Ed:bh X (binaryOp .Add) (fun x y H Q=>∃i j,x=.str i∧y=.str j∧i.length+j.length≤sizeLine∧Q (.str (i++j)) H):=by
 intro pins s σ H x y v u Q I rx ry h;obtain⟨i,j,rfl,rfl,hz,q⟩:=h;obtain⟨t,rfl⟩:=rx;obtain⟨t',rfl⟩:=ry;exact add_str (fun t' tk=>⟨.str (i++j),H,I.tok _,⟨_,rfl⟩,q⟩) hz
theorem vals1(r:Vals [x] us):∃u,us=[u]∧RelV x u:=by
 cases r with
 |cons r1 r2=>cases r2;exact⟨_,rfl,r1⟩
theorem vals2(r:Vals [x,y] us):∃u w',us=[u,w']∧RelV x u∧RelV y w':=by
 cases r with
 | cons r1 r2=>
   cases r2 with
   |cons r3 r4=>cases r4;exact⟨_,_,rfl,r1,r3⟩
end
end L2
namespace L2
open PySem PySem.Spec PyProof.Rows
section
variable{prog:Program}{w:World}{A:Around}{E:Value→Shared→Prop}{s:Shared}{K:PySem.W.Frag}{x dx C f:Addr}{mA:Str→Option Value}{name:Str}{v:Value}
end
theorem eV.some_of(r:eV (some v) o):∃u,o=some u∧RelV v u:=by
 cases o with
 |none=>exact(show False from r).elim
 |some u=>exact⟨u,rfl,r⟩
theorem eV.none_of(r:eV none o):o=none:=by
 cases o with
 |none=>rfl
 |some u=>exact(show False from r).elim
section
variable{P:Program}{w:World}{H H':Hp}{h h':Heap}{a C dx:Addr}{fs RJ:List (Str×V)}
end
structure vJ(K:PySem.W.Frag)(C:Addr):Prop where
 pg:PySem.W.plainGet K C Str.empty=true
 hd:PySem.W.hasDictIn K C=true
 po:PySem.W.plainOver K C=true
 sa:PySem.W.findIn K (.ref C) "__setattr__"=some (some (.builtin "object.__setattr__"))
theorem vJ.get{K:PySem.W.Frag}{C:Addr}(c:vJ K C)(f:Str):PySem.W.plainGet K C f=true:=c.pg
section
variable{X:Cx}{pins:List (Addr×Obj)}{σ:St}{H:Hp}{s:Shared}{a C dx:Addr}{fs:List (Str×V)}{f:Str}{v:V}{A:Around}{E:Value→Shared→Prop}
end
section
variable{X:Cx}{o e value:Expr}{f:Str}{pos pos' RG:Pos}{ta tv:TE}
end
section
variable{X:Cx}{pins:List (Addr×Obj)}{σ:St}{H:Hp}{s:Shared}{A:Around}{E:Value→Shared→Prop}{Q:Value→Shared→Prop}{c:Value}{b:Bool}
end
end L2
namespace L2
open PySem PySem.Spec PyProof.Rows
structure b4(k:Nat)(A:Around):Prop where
 hd:A.handled=none
 dp:A.depth+3*k+5<recursionLimit
 un:A.units+16*k+200<cLine
theorem b4.mono(r:b4 k A)(h:j≤k):b4 j A:=⟨r.hd,by have:=r.dp;omega,by have:=r.un;omega⟩
theorem b4.deeper(r:b4 (k+1) A)(env:Env):b4 k (A.deeper env):=
 ⟨r.hd,by have:=r.dp;show A.depth+1+3*k+5<_;omega,by have:=r.un;show A.units+3+16*k+200<_;omega⟩
theorem b4.in1(r:b4 (k+1) A):b4 k A.in1:=
 ⟨r.hd,by have:=r.dp;show A.depth+3*k+5<_;omega,by have:=r.un;show A.units+1+16*k+200<_;omega⟩
theorem b4.depth(r:b4 k A):A.depth<recursionLimit:=by have:=r.dp;omega
theorem b4.units(r:b4 k A):A.units+64<cLine:=by have:=r.un;omega
def zI:TA:=fun _ H Q=>Q [] H
def zU(ta:TE)(tr:TA):TA:=fun σ H Q=>ta σ H fun x H1=>tr σ H1 fun xs H2=>Q (x::xs) H2
section
variable{X:Cx}{e:Expr}{es:List Expr}{te:TE}{t:TA}{pos:Pos}
theorem kb:PA X [] zI:=fun _ _ _ _ H Q I h=>Calls.spliced_nil ⟨[],H,I,.nil,h⟩
theorem gJ(ha:PE X e te)(hr:PA X es t)(hs:starEach (e::es) X.env=(false,eval e X.env)::starEach es X.env:=by rfl):PA X (e::es) (zU te t):=by
 intro pos pins s σ H Q I h;rw[hs];show wpAny _ _ (spliced ((false,eval e X.env)::backTo pos (starEach es X.env))) _ _ s;refine Calls.spliced_cons (aN (ha pins s σ H _ I h) fun u s1 ⟨x,H1,I1,r1,q1⟩=>?_);exact aN (hr pos pins s1 σ H1 _ I1 q1) fun us s2 ⟨xs,H2,I2,r2,q2⟩=>⟨x::xs,H2,I2,.cons r1 r2,q2⟩
def Dv(t:TA):TE:=fun σ H Q=>t σ H fun xs H1=>xs.length≤sizeLine∧∀p,H1 p=none→Q (.ref p) (upd H1 p (.tup xs))
def z8(t:TA):TE:=fun σ H Q=>t σ H fun xs H1=>xs.length≤sizeLine∧∀p,H1 p=none→Q (.ref p) (upd H1 p (.lst xs))
theorem uN{x1}(h:PA X es t):PE X (.Tuple es x1 pos) (Dv t):=by
 intro pins s σ H Q I hq;refine wpAny_Tuple_spliced (aN (h pos pins s σ H _ I hq) fun us s1 ⟨xs,H1,I1,r,z,q⟩=>⟨by rw[←r.length];exact z,?_⟩)
 have hf:H1 s1.heap.objs.size=none:=I1.aI.fresh (Nat.le_refl _);refine⟨.ref s1.heap.objs.size,upd H1 s1.heap.objs.size (.tup xs),I1.laid (t':=s1.toks) (fun b u e=>Heap.get?_push_of_some _ e) (Nat.le_refl _) ?_,rfl,q _ hf⟩;exact⟨z,us,r,⟨_,Heap.get?_push_size _ rfl,rfl,_,rfl⟩⟩
theorem uK(h:PA X es t):PE X (.List es pos) (z8 t):=by
 intro pins s σ H Q I hq;refine wpAny_List_spliced (aN (h pos pins s σ H _ I hq) fun us s1 ⟨xs,H1,I1,r,z,q⟩=>⟨by rw[←r.length];exact z,?_⟩)
 have hf:H1 s1.heap.objs.size=none:=I1.aI.fresh (Nat.le_refl _);refine⟨.ref s1.heap.objs.size,upd H1 s1.heap.objs.size (.lst xs),I1.laid (t':=s1.toks) (fun b u e=>Heap.get?_push_of_some _ e) (Nat.le_refl _) ?_,rfl,q _ hf⟩;exact⟨z,us,0,r,Heap.get?_push_size _ rfl⟩
end
abbrev Sp:=List V→Hp→VK→XK→Prop
abbrev gg:=List Env→Hp→Shared→XK→Value→Shared→Prop
structure kz(P:Program)(w:World)(K:PySem.W.Frag)(mg:Str→Option Value)(base:Heap)(A:Around)(outer:List Env)(s:Shared)(H:Hp):Prop where
 frames:A.frames=some outer
 mod:Mod K mg base
 bs:∀b o,base.get? b=some o→s.heap.get? b=some o∧H b=none
 iR:base.objs.size≤s.heap.objs.size
 gD:s.heap.FunFrames base outer
 j5:∀b∈cZ outer,H b=none
 aI:bV P w H s.heap
 bare:AllBare s.gens
def CE(outer:List Env)(P:Program)(w:World)(H:Hp)(s:Shared)(Q:VK)(u:Value)(s':Shared):Prop:=
 ∃v H',s'.os=s.os∧AllBare s'.gens∧Un (cZ outer) [] H H' s.heap s'.heap∧bV P w H' s'.heap∧RelV v u∧Q v H'
def CR(CX:gg)(outer:List Env)(P:Program)(w:World)(H:Hp)(s:Shared)(Q:VK)(E:XK)(r:Result)(s':Shared):Prop:=
 match r with
 |.ok (.ret u)=>CE outer P w H s Q u s'
 |.ok _=>False
 |.error e=>CX outer H s E e s'
structure dm(P:Program)(w:World)(K:PySem.W.Frag)(mg:Str→Option Value)(base:Heap)(CX:gg)(k:Nat)(f:Addr)(fd:FuncData)(ps:List Str)(sp:Sp):Prop where
 len:∀vs H Q E,sp vs H Q E→vs.length=ps.length
 run:∀(A:Around) (outer:List Env) (s:Shared) (H:Hp) (args:Args) (us:List Value) (vs:List V) (Q:VK) (E:XK),b4 k A→kz P w K mg base A outer s H→BindsTo s fd args (ps.zip us)→Vals vs us→sp vs H Q E→
   codeAny (model P w) A (.call (.ref f) args) (CR CX outer P w H s Q E) s
theorem dm.mono{P:Program}{w:World}{K:PySem.W.Frag}{mg:Str→Option Value}{base:Heap}{CX:gg}{j k:Nat}{f:Addr}{fd:FuncData}{ps:List Str}{sp:Sp}(F:dm P w K mg base CX j f fd ps sp)(h:j≤k):
   dm P w K mg base CX k f fd ps sp:=⟨F.len,fun A outer s H args us vs Q E hr=>F.run A outer s H args us vs Q E (hr.mono h)⟩
theorem dm.imp{P:Program}{w:World}{K:PySem.W.Frag}{mg:Str→Option Value}{base:Heap}{CX:gg}{k:Nat}{f:Addr}{fd:FuncData}{ps:List Str}{sp TN:Sp}(F:dm P w K mg base CX k f fd ps sp)
   (h:∀vs H Q E,TN vs H Q E→sp vs H Q E):dm P w K mg base CX k f fd ps TN:=
 ⟨fun vs H Q E q=>F.len vs H Q E (h _ _ _ _ q),fun A outer s H args us vs Q E hr he hb hv hs=>F.run A outer s H args us vs Q E hr he hb hv (h _ _ _ _ hs)⟩
theorem kz.in1{P:Program}{w:World}{K:PySem.W.Frag}{mg:Str→Option Value}{base:Heap}{A:Around}{outer:List Env}{s:Shared}{H:Hp}(e:kz P w K mg base A outer s H):
   kz P w K mg base A.in1 outer s H:=⟨e.frames,e.mod,e.bs,e.iR,e.gD,e.j5,e.aI,e.bare⟩
section
variable{X:Cx}{pins:List (Addr×Obj)}{σ:St}{H:Hp}{s s':Shared}
theorem Inv.GV(I:Inv X pins σ H s):kz X.prog X.w X.K X.mg X.base X.A X.stack s H:=
 ⟨I.ok.frames,I.ok.mod,I.bs,Nat.le_trans I.ok.iR I.sz,I.stack,I.zw,I.aI,I.bare⟩
theorem Inv.after(I:Inv X pins σ H s)(h:CE X.stack X.prog X.w H s Q u s'):EP X pins σ Q u s':=by
 obtain⟨v,H',os,bare,un,aI,r,q⟩:=h;obtain⟨hh,g,d,t,T'⟩:=s';obtain rfl:T'=s.os:=os;exact⟨v,H',I.call (h':=hh) (g':=g) (d':=d) (t':=t) (ch:=[]) un aI bare (fun b z=>absurd z (by simp)),r,q⟩
end
def qw(sp:Sp)(Ou:List V)(E:XK)(t:TA):TE:=fun σ H Q=>t σ H fun vs H1=>sp (vs++Ou) H1 Q E
def Binds(K:PySem.W.Frag)(fd:FuncData)(ps:List Str)(ds:List Value):Prop:=
 ∀(s:Shared) (us:List Value),K.In s.heap→(us++ds).length=ps.length→BindsTo s fd ⟨us,[]⟩ (ps.zip (us++ds))
theorem Binds.all{K:PySem.W.Frag}{fd:FuncData}{ps:List Str}(h:∀us:List Value,us.length=ps.length→bindArgs fd ⟨us,[]⟩=pure (ps.zip us)):Binds K fd ps []:=fun s us _ hl=>by
 rw[List.append_nil]at hl ⊢;exact .of_eq (h us hl)
def Passes(CX:gg)(X:Cx)(E:XK):Prop:=∀(pins:List (Addr×Obj)) (σ:St) (H:Hp) (s:Shared) (e:Value) (s':Shared),Inv X pins σ H s→CX X.stack H s E e s'→X.xe e s'
section
variable{X:Cx}{CX:gg}{k:Nat}{f C:Addr}{fd:FuncData}{ps:List Str}{sp:Sp}{Ou:List V}{ds:List Value}{E:XK}{x m:Str}{p pos apos:Pos}{e o:Expr}{es:List Expr}{ta:TE}{t:TA}
theorem yi(F:dm X.prog X.w X.K X.mg X.base CX k f fd ps sp)(hr:b4 k X.A)(hb:Binds X.K fd ps ds)(hd:Vals Ou ds)(hx:Passes CX X E)
   (I:Inv X pins σ H s) (r:Vals vs us) (h:sp (vs++Ou) H Q E):wpAny (model X.prog X.w) X.A (call (.ref f) us) (EP X pins σ Q) X.xe s:=by
 have r2:Vals (vs++Ou) (us++ds):=r.append hd;have hl:(us++ds).length=ps.length:=by rw[←r2.length];exact F.len _ _ _ _ h
 refine wpAny_call (codeAny_mono (F.run X.A X.stack s H ⟨us,[]⟩ (us++ds) (vs++Ou) Q E hr I.GV (hb s us I.cE hl) r2 h) fun r s' hq=>?_);cases r with
 |error e=>exact hx pins σ H s e s' I hq
 | ok fl=>
   cases fl with
   |ret u=>exact I.after hq
   |next=>exact False.elim hq
   |brk=>exact False.elim hq
   |cont=>exact False.elim hq
theorem rC(F:dm X.prog X.w X.K X.mg X.base CX k f fd ps sp)(hr:b4 k X.A)(hg:Gl X x)(hm:X.mg x=some (.ref f))(hk:PySem.W.keepIn X.K (.ref f)=true)(hb:Binds X.K fd ps ds)(hd:Vals Ou ds)(hx:Passes CX X E)
   (ha:PA X (e::es) t) (Ms:(x==("__debug__":Str))=false:=by decide) (he:starEach (e::es) X.env=(false,eval e X.env)::starEach es X.env:=by rfl) (MP:(backTo pos (starEach es X.env)).any (·.1)=false:=by rfl):
   PE X (.Call (.Name x p) (e::es) [] pos) (qw sp Ou E t):=by
 intro pins s σ H Q I h;refine wpAny_Call_Name_kw (uu I hg hm ?_ Ms);refine PySem.W.callWith_K (h₀:=X.base) I.ok.mod.q8 hk (aN (ha pos pins s σ H _ I h) fun us s1 ⟨vs,H1,I1,r,q⟩=>⟨I1.cE,?_⟩) he MP;exact yi F hr hb hd hx I1 r q
theorem DL(F:dm X.prog X.w X.K X.mg X.base CX k f fd ps sp)(hr:b4 k X.A)(hg:Gl X x)(hm:X.mg x=some (.ref f))(hk:PySem.W.keepIn X.K (.ref f)=true)(hb:Binds X.K fd ps ds)(hd:Vals Ou ds)(hx:Passes CX X E)
   (Ms:(x==("__debug__":Str))=false:=by decide):PE X (.Call (.Name x p) [] [] pos) (qw sp Ou E zI):=by
 intro pins s σ H Q I h;refine wpAny_Call_Name_kw (uu I hg hm ?_ Ms);exact PySem.W.callWith_K0 I.cE hk (yi (us:=[]) F hr hb hd hx I .nil h)
end
section
variable{X:Cx}{CX:gg}{k:Nat}{f C:Addr}{fd:FuncData}{ps ks:List Str}{sp:Sp}{E:XK}{x m:Str}{p pos apos Vv:Pos}{e o:Expr}{es:List Expr}{WH:List Keyword}{te ta:TE}{t tk:TA}{nm:Option Str}
variable{g:List Value→List Value→List Value}{gV:List V→List V→List V}
end
structure bR(N P:List Str)(sc:Scope):Prop where
 kind:sc.kind=.function
 co:sc.isCoroutine=false
 gen:sc.isGenerator=false
 nd:N.Nodup
 pre:N.take P.length=P
 par:∀x∈P,sc.names.lookup x=some .local∨sc.names.lookup x=some .cell
 D6:∀y∈sc.names,y.2≠.free
theorem vz{kindOf:Str→Option NameKind}{x:Str}:∀ {binds:List (Str×Value)} {m:Str→Option Value},(∀v,(x,v)∉binds)→bindL kindOf binds m x=m x
 |[],_,_=>rfl
 | (n,v)::r,m,h=>by
   unfold bindL;rw[vz fun w hw=>h w (List.mem_cons_of_mem _ hw)];split
   · have:x≠n:=by rintro rfl;exact h v List.mem_cons_self
     simp[this]
   ·rfl
theorem yJ{kindOf:Str→Option NameKind}{x:Str}:∀ {binds:List (Str×Value)} {m:Str→Option Value},(∀v,(x,v)∉binds)→bindC kindOf binds m x=m x
 |[],_,_=>rfl
 | (n,v)::r,m,h=>by
   unfold bindC;rw[yJ fun w hw=>h w (List.mem_cons_of_mem _ hw)];split
   ·rfl
   · have:x≠n:=by rintro rfl;exact h v List.mem_cons_self
     simp[this]
theorem yy{kindOf:Str→Option NameKind}{x:Str}{v:Value}:∀ {P:List Str} {vs:List Value} {i:Nat} {m:Str→Option Value},P.Nodup→P[i]? =some x→vs[i]? =some v→kindOf x=some .local→
   bindL kindOf (P.zip vs) m x=some v
 |[],_,_,_,_,h,_,_=>by simp at h
 |_::_,[],_,_,_,_,h,_=>by simp at h
 | p::P,w::vs,0,m,nd,h1,h2,hk=>by
   simp at h1 h2;subst h1;subst h2;show bindL kindOf ((p,w)::P.zip vs) m p=_;unfold bindL;rw[vz fun v hv=>(List.nodup_cons.mp nd).1 (List.of_mem_zip hv).1,if_pos hk];simp
 | p::P,w::vs,i+1,m,nd,h1,h2,hk=>by
   show bindL kindOf ((p,w)::P.zip vs) m x=_;unfold bindL;exact yy (i:=i) (List.nodup_cons.mp nd).2 (by simpa using h1) (by simpa using h2) hk
theorem y0{kindOf:Str→Option NameKind}{x:Str}{v:Value}:∀ {P:List Str} {vs:List Value} {i:Nat} {m:Str→Option Value},P.Nodup→P[i]? =some x→vs[i]? =some v→kindOf x≠some .local→
   bindC kindOf (P.zip vs) m x=some v
 |[],_,_,_,_,h,_,_=>by simp at h
 |_::_,[],_,_,_,_,h,_=>by simp at h
 | p::P,w::vs,0,m,nd,h1,h2,hk=>by
   simp at h1 h2;subst h1;subst h2;show bindC kindOf ((p,w)::P.zip vs) m p=_;unfold bindC;rw[yJ fun v hv=>(List.nodup_cons.mp nd).1 (List.of_mem_zip hv).1,if_neg hk];simp
 | p::P,w::vs,i+1,m,nd,h1,h2,hk=>by
   show bindC kindOf ((p,w)::P.zip vs) m x=_;unfold bindC;exact y0 (i:=i) (List.nodup_cons.mp nd).2 (by simpa using h1) (by simpa using h2) hk
noncomputable def start(N:List Str)(vs:List V):St:=vs.map some++List.replicate (N.length - vs.length) none
noncomputable def iu(CX:gg)(P:Program)(w:World)(K:PySem.W.Frag)(mg:Str→Option Value)(base:Heap)(N:List Str)(qual:Str)(scope:Scope)(f:Addr)(cd:Value)(A:Around)(outer:List Env)(s:Shared)(H:Hp)(E:XK):Cx where
 prog:=P
 w:=w
 K:=K
 mg:=mg
 base:=base
 A:=A.deeper (envOfC qual scope s.heap.objs.size f cd)
 N:=N
 cS:=s
 jg:=H
 env:=envOfC qual scope s.heap.objs.size f cd
 outer:=outer
 stack:=envOfC qual scope s.heap.objs.size f cd::outer
 ex:=[]
 calm:=true
 fn:=fun _=>true
 pn:=[]
 xe:=fun e s'=>wpAny (model P w) (A.deeper (envOfC qual scope s.heap.objs.size f cd)) (leaving (envOfC qual scope s.heap.objs.size f cd) e) (fun _ Sx=>CX outer H s E e Sx) (fun e' Sx=>CX outer H s E e' Sx) s'
theorem xl{sc:Scope}{n:Nat}{x:Str}(h:sc.names.lookup x=some .cell):∃c,(cellsFrom n sc.names []).lookup x=some c:=by
 have q:=PySem.W.cellsFrom_some sc.names n [] (.inl h);exact Option.isSome_iff_exists.mp q
theorem FV{CX:gg}{P:Program}{w:World}{K:PySem.W.Frag}{mg:Str→Option Value}{base:Heap}{N ps:List Str}{qual:Str}{scope:Scope}{f:Addr}{cd:Value}{A:Around}{outer:List Env}{s s1:Shared}{H:Hp}{E:XK}{us:List Value}{vs:List V}
   (S:bR N ps scope) (hd:A.handled=none) (e0:kz P w K mg base A outer s H) (hl:vs.length=ps.length) (r:Vals vs us)
   (x:InCallC s s.heap.objs.size (bindL (envOfC qual scope s.heap.objs.size f cd).kindOf (ps.zip us) fun _=>none) (cellsFrom (s.heap.objs.size+1) scope.names []) (bindC (envOfC qual scope s.heap.objs.size f cd).kindOf (ps.zip us) fun _=>none) s1):
   Inv (iu CX P w K mg base N qual scope f cd A outer s H E) [] (start N vs) H s1:=by
 have MP:ps.length≤N.length:=by have:=congrArg List.length S.pre;rw[List.length_take]at this;omega
 obtain⟨h1,tk,rfl,hk⟩:=x.done;have Qj:∀b:Addr,b∉(iu CX P w K mg base N qual scope f cd A outer s H E).ex:=fun b z=>absurd (show b∈([]:List Addr)from z) (by simp)
 refine⟨⟨e0.mod,S.kind,rfl,rfl,Nat.le_refl _,fun y z c h1 h2=>?_,fun y hy=>?_,fun y c _ h=>?_,fun _=>hd,Around.frames_deeper e0.frames,.inr ⟨rfl,rfl⟩,fun b z=>absurd z (Qj b),e0.bs,e0.iR,fun b _ _=>Qj b,fun b z=>absurd z (Qj b),e0.gD,e0.j5⟩,
   rfl,e0.bare,Un.kept hk,⟨_,x.toInCall.ns,fun i y v h1 h2 h3=>?_⟩,fun y c h=>⟨_,x.cell y c h⟩,e0.aI.fresh (Nat.le_refl _),fun y c h=>?_,fun p hp=>absurd (show p∈([]:List (Addr×Obj))from hp) (by simp),e0.aI.kept hk,?_⟩
 ·exact name_of_addr x.apart (PySem.mem_of_lookup h1) (PySem.mem_of_lookup h2)
 · have hy:scope.names.lookup y=some .cell∨scope.names.lookup y=some .free:=hy
   rcases hy with hy|hy
   ·exact xl hy
   ·exact absurd rfl (S.D6 _ (PySem.mem_of_lookup hy))
 ·exact Nat.le_of_lt (x.above y c (PySem.mem_of_lookup h))
 · have hi:i<vs.length:=by
     unfold start at h2;by_cases hi:i<vs.length
     ·exact hi
     · rw[List.getElem?_append_right (by simpa using hi)]at h2
       rw[List.getElem?_replicate]at h2;split at h2<;>cases h2
   have ha:vs[i]? =some v:=by
     unfold start at h2;rw[List.getElem?_append_left (by simpa using hi),List.getElem?_map]at h2
     cases e:vs[i]? with
     |none=>rw[e]at h2;cases h2
     |some a=>rw[e]at h2;cases h2;rfl
   obtain⟨u,hu,rv⟩:=r.get ha
   have hp:ps[i]? =some y:=by
     rw[←S.pre,List.getElem?_take_of_lt (by omega)];exact h1
   have Tp:ps.Nodup:=by rw[←S.pre];exact S.nd.sublist (List.take_sublist _ _)
   refine⟨u,rv,?_⟩;rcases S.par y (List.mem_of_getElem? hp)with k|k
   ·exact .inl ⟨k,yy Tp hp hu k⟩
   · obtain⟨c,e⟩:=xl (n:=s.heap.objs.size+1) k
     refine .inr ⟨.inl k,c,e,?_⟩;have q:=x.cell y c e;rw[y0 Tp hp hu (by show scope.names.lookup y≠_;rw[k];decide)]at q
     exact q
 ·exact e0.aI.fresh (Nat.le_of_lt (x.above y c (PySem.mem_of_lookup h)))
 · unfold start
   show _=N.length;rw[List.length_append,List.length_map,List.length_replicate];omega
theorem Ah{CX:gg}{P:Program}{w:World}{K:PySem.W.Frag}{mg:Str→Option Value}{base:Heap}{k:Nat}{f:Addr}{name qual:Str}{params:Arguments}{body:List Stmt}{scope:Scope}{dV kV doc pm Lz ct oc:Value}{an od:Option Addr}
   {OB:Array (Option Value)} {N ps:List Str} {sp:Sp} (lk:K.lookup f=some ⟨oc,od,.func (PySem.W.fnOf name qual params body scope dV kV doc pm an Lz ct),OB⟩) (LH:PySem.W.codeIn K Lz qual=true) (S:bR N ps scope)
   (len:∀vs H Q E,sp vs H Q E→vs.length=ps.length)
   (Of:∀(A:Around) (outer:List Env) (s:Shared) (H:Hp) (vs:List V) (Q:VK) (E:XK),b4 k (A.deeper (envOfC qual scope s.heap.objs.size f Lz))→sp vs H Q E→
     ∃t,cq (iu CX P w K mg base N qual scope f Lz A outer s H E) body t∧t {nx:=fun _ H'=>Q .aH H',rt:=Q} (start N vs) H):
   dm P w K mg base CX (k+1) f (PySem.W.fnOf name qual params body scope dV kV doc pm an Lz ct) ps sp:=by
 refine⟨len,fun A outer s H args us vs Q E hr e0 hb r Nw=>?_⟩;have hl:=len _ _ _ _ Nw;have KX:K.In s.heap:=e0.mod.q8.keeps fun b o e=>(e0.bs b o e).1;have lim:s.heap.NoLimit:=e0.mod.nolimit.keeps fun b o e=>(e0.bs b o e).1
 have Qb:∀y∈ps.zip us,scope.names.lookup y.1=some .local∨(scope.names.lookup y.1=some .cell∧((cellsFrom (s.heap.objs.size+1) scope.names []).lookup y.1).isSome=true):=fun⟨n,v⟩ hy=>by
   rcases S.par n (List.of_mem_zip hy).1 with q|q
   ·exact .inl q
   ·exact .inr ⟨q,PySem.W.cellsFrom_some _ _ _ (.inl q)⟩
 refine codeAny_call_function hr.depth (KX _ _ lk) rfl S.co S.gen rfl (PySem.W.codeRec_of KX LH) (hb _ _ _ _ ?_);refine wpAny_newFunctionEnv_cells S.kind Qb fun env he s1 x=>?_;subst he;refine⟨lim.keeps x.toInCall.keep,codeAny_func ?_⟩;obtain⟨t,ht,hq⟩:=Of A outer s H vs Q E (hr.deeper _) Nw;have I:Inv (iu CX P w K mg base N qual scope f Lz A outer s H E) [] (start N vs) H s1:=FV S hr.hd e0 hl r x;refine wpAny_mono (ht [] s1 (start N vs) H _ I hq) (fun fl s' hs=>?_) fun e s' hs=>hs
 have fin:∀ {J':St} {H':Hp} {v:V} {u:Value},Inv (iu CX P w K mg base N qual scope f Lz A outer s H E) [] J' H' s'→RelV v u→Q v H'→CE outer P w H s Q u s':=
   fun {J' H' v u} J rv q=>⟨v,H',J.os,J.bare,J.base,J.aI,rv,q⟩
 cases fl with
 | ret u=>
   obtain⟨v,J',H',J,rv,q⟩:=hs;exact fin J rv q
 | next=>
   obtain⟨J',H',J,q⟩:=hs;exact fin (v:=V.aH) (u:=Value.none) J rfl q
 | brk=>
   obtain⟨_,_,_,q⟩:=hs;exact False.elim q
 | cont=>
   obtain⟨_,_,_,q⟩:=hs;exact False.elim q
end L2
namespace L2
open PySem PySem.Spec PyProof.Rows
section
variable{X:Cx}{x:Str}{p pos:Pos}{e:Expr}{es:List Expr}{t:TA}{id T:String}{r:List V→Hp→VK→Prop}
def ui(r:List V→Hp→VK→Prop)(t:TA):TE:=fun σ H Q=>t σ H fun vs H1=>r vs H1 Q
theorem q9(hc:b5 X (.builtin id) r)(hg:Gl X x)(hm:X.mg x=none)(hv:bootBuiltins x=some (.builtin id))(ha:PA X (e::es) t)(hn:x≠"__name__":=by decide)(Ms:(x==("__debug__":Str))=false:=by decide)
   (he:starEach (e::es) X.env=(false,eval e X.env)::starEach es X.env:=by rfl) (MP:(backTo pos (starEach es X.env)).any (·.1)=false:=by rfl):PE X (.Call (.Name x p) (e::es) [] pos) (ui r t):=by
 intro pins s σ H Q I h;refine wpAny_Call_Name_kw (lK I hg hm hv ?_ hn Ms);exact PyProof.Rows.callWith_builtin1 (aN (ha pos pins s σ H _ I h) fun us s1 ⟨vs,H1,I1,r1,q1⟩=>hc pins s1 σ H1 vs us Q I1 r1 q1) he MP
theorem pb(hc:b5 X (.type T) r)(hg:Gl X x)(hm:X.mg x=none)(hv:bootBuiltins x=some (.type T))(ha:PA X (e::es) t)(hn:x≠"__name__":=by decide)(Ms:(x==("__debug__":Str))=false:=by decide)
   (he:starEach (e::es) X.env=(false,eval e X.env)::starEach es X.env:=by rfl) (MP:(backTo pos (starEach es X.env)).any (·.1)=false:=by rfl):PE X (.Call (.Name x p) (e::es) [] pos) (ui r t):=by
 intro pins s σ H Q I h;refine wpAny_Call_Name_kw (lK I hg hm hv ?_ hn Ms);exact PyProof.Rows.callWith_type1 (aN (ha pos pins s σ H _ I h) fun us s1 ⟨vs,H1,I1,r1,q1⟩=>hc pins s1 σ H1 vs us Q I1 r1 q1) he MP
end
end L2
namespace HT
open PySem PyProof.Rows
section
open PySem.SeqAt
open PySem.AutoSeq1 (wpAny_loadPart')
open PySem.MeetsSeq PySem.MeetsSeq2 PySem.MeetsSeq3
end
section
variable{prog:Program}{w:World}{A:Around}{E:Value→Shared→Prop}{s:Shared}
theorem Jy(ht:IsTup s.heap t vs.toArray)(hb:IsTup s.heap b ws.toArray)(hv:vs≠[])
   (h1:ws=[]→Q (.ref t) s) (h2:ws≠[]→Q (.ref s.heap.objs.size) {s with heap:=s.heap.push {cls:=.type "tuple",data:=.seq (vs++ws).toArray} })
   (hsz:vs.length+ws.length≤sizeLine):wpAny (model prog w) A (binaryOp .Add (.ref t) (.ref b)) Q E s:=by
 obtain⟨⟨cls,dd,data,sl⟩,ho,hc,n,hd⟩:=id ht;obtain⟨⟨Vr,Rk,data2,O5⟩,Ot,O',n2,hd2⟩:=id hb;simp only at hc hd O' hd2;subst hc hd O' hd2;have e:vs.toArray++ws.toArray=(vs++ws).toArray:=by simp
 by_cases hw:ws=[]
 · exact concat_meets ⟨_,ho,rfl⟩ ⟨_,Ot,rfl⟩ noFill_tuple_add seq_tuple_add PySem.F.slot_tuple_add PySem.F.entry_tuple_add (PySem.F.args_tuple_add_2 _ _)
     (tuple_addW1 t b vs.toArray ws.toArray n n2 dd Rk sl O5 (by simpa using hv) (by simp[hw])) ⟨ho,Ot,h1 hw⟩
 · refine concat_meets ⟨_,ho,rfl⟩ ⟨_,Ot,rfl⟩ noFill_tuple_add seq_tuple_add PySem.F.slot_tuple_add PySem.F.entry_tuple_add (PySem.F.args_tuple_add_2 _ _)
     (tuple_addW2 t b vs.toArray ws.toArray n n2 dd Rk sl O5 (by simpa using hv) (by simpa using hw) (by rw[List.size_toArray,List.size_toArray];exact hsz)) ⟨ho,Ot,?_⟩
   rw[e];exact h2 hw
noncomputable def aZ(n d:Nat):Option Int→Nat
 |none=>d
 |some v=>if v<0 then(v+(n:Int)).toNat else min v.toNat n
theorem DI(n d:Nat)(hd:d≤n)(o:Option Int):aZ n d o≤n:=by
 cases o with
 |none=>exact hd
 | some v=>
   show(if v<0 then(v+(n:Int)).toNat else min v.toNat n)≤n
   by_cases hv:v<0
   ·rw[if_pos hv];omega
   ·rw[if_neg hv];exact Nat.min_le_right _ _
theorem xW(v:Int)(n d:Nat):(if v<0 then max (v+(n:Int)) 0 else min v (n:Int))=((aZ n d (some v):Nat):Int):=by
 show(if v<0 then max (v+(n:Int)) 0 else min v (n:Int))=(((if v<0 then(v+(n:Int)).toNat else min v.toNat n):Nat):Int)
 by_cases hv:v<0
 ·simp only[if_pos hv];omega
 ·simp only[if_neg hv];omega
theorem Hy(lo hi:Option Int)(n:Nat):Builtin.Slice.sliceAdjust lo hi 1 (n:Int)=(((aZ n 0 lo:Nat):Int),((aZ n n hi:Nat):Int)):=by
 have h1:¬((1:Int)<0):=by omega
 unfold Builtin.Slice.sliceAdjust;simp only[h1,if_false];refine Prod.ext ?_ ?_
 · cases lo with
   |none=>rfl
   |some v=>exact xW v n 0
 · cases hi with
   |none=>rfl
   |some v=>exact xW v n n
theorem Eb(i j:Nat):Builtin.Slice.slicePlaces (i:Int) (j:Int) 1=j - i:=by
 unfold Builtin.Slice.slicePlaces;have h1:(1:Int)>0:=by omega
 simp only[h1,if_true,Int.ediv_one];split<;>omega
theorem vc(p:IsPart v o)(h:Q o s):wpAny (model prog w) A (Builtin.Slice.slicePartIndex v) Q E s:=by
 cases p with
 |none=>exact slicePart_none h
 |int i t=>exact slicePart_int h
theorem Bt{sl:Addr}{vl vu:Value}{lo hi:Option Int}{n:Nat}{Q:Int×Int×Nat→Shared→Prop}(hs:s.heap.IsSliceOf sl vl vu .none)(pl:IsPart vl lo)(pu:IsPart vu hi)
   (h:Q (((aZ n 0 lo:Nat):Int),1,aZ n n hi - aZ n 0 lo) s):wpAny (model prog w) A (Builtin.Slice.sliceApplied (.ref sl) (pure (n:Int))) Q E s:=by
 obtain⟨os,Q2,Nv,Rq⟩:=id hs;unfold Builtin.Slice.sliceApplied Builtin.Slice.sliceFields;refine wpAny_bind (wpAny_bind (wpAny_field Q2 Rq (x:=vl) rfl (wpAny_bind (wpAny_field Q2 Rq (x:=vu) rfl (wpAny_bind (wpAny_field Q2 Rq (x:=.none) rfl (wpAny_pure ?_)))))));refine wpAny_bind (slicePart_none ?_);show wpAny _ _ (if((1:Int)==0)=true then _ else _) _ _ s
 rw[if_neg (by decide)]
 refine wpAny_bind (vc pl (wpAny_bind (vc pu (wpAny_bind (wpAny_pure ?_)))));show wpAny _ _ (match Builtin.Slice.sliceAdjust lo hi 1 (n:Int)with|(lo,hi)=>pure (lo,(1:Int),Builtin.Slice.slicePlaces lo hi 1)) _ _ s
 rw[Hy lo hi n];show wpAny _ _ (pure (((aZ n 0 lo:Nat):Int),(1:Int),Builtin.Slice.slicePlaces ((aZ n 0 lo:Nat):Int) ((aZ n n hi:Nat):Int) 1)) _ _ s;rw[Eb];exact wpAny_pure h
theorem Jv(xs:Array Value)(i k:Nat):((List.range k).filterMap fun(m:Nat)=>xs[((i:Int)+(m:Int)*1).toNat]?).toArray=((xs.toList.drop i).take k).toArray:=by
 have e:(fun(m:Nat)=>xs[((i:Int)+(m:Int)*1).toNat]?)=fun m=>xs[i+m]? :=by
   funext m;have:((i:Int)+(m:Int)*1).toNat=i+m:=by omega
   rw[this]
 rw[e];have:=pick_run xs i k;rw[List.filterMap_map]at this;have e2:((fun x=>xs[x]?)∘fun x=>i+x)=fun m=>xs[i+m]? :=rfl;rw[e2]at this;rw[this]
theorem IT{t sl:Addr}{items:Array Value}{vl vu:Value}{lo hi:Option Int}{Q:Value→Shared→Prop}(ht:IsTup s.heap t items)(hs:s.heap.IsSliceOf sl vl vu .none)(pl:IsPart vl lo)(pu:IsPart vu hi)
   (hw:¬(aZ items.size 0 lo=0∧aZ items.size items.size hi=items.size))
   (h:Q (.ref s.heap.objs.size) {s with heap:=s.heap.push {cls:=.type "tuple",data:=.seq ((items.toList.drop (aZ items.size 0 lo)).take (aZ items.size items.size hi - aZ items.size 0 lo)).toArray} })
   (hsz:items.size≤sizeLine):wpAny (model prog w) A (getItem (.ref t) (.ref sl)) Q E s:=by
 have NL:sizeOk (.seq ((items.toList.drop (aZ items.size 0 lo)).take (aZ items.size items.size hi - aZ items.size 0 lo)).toArray):=by
   show((items.toList.drop (aZ items.size 0 lo)).take (aZ items.size items.size hi - aZ items.size 0 lo)).toArray.size≤sizeLine;rw[List.size_toArray,List.length_take,List.length_drop,Array.length_toList];omega
 have hj:aZ items.size items.size hi≤items.size:=DI _ _ (Nat.le_refl _) hi;obtain⟨os,Q2,Nv,Rq⟩:=id hs;have U7:s.TypeIs (.ref sl) "slice":=⟨os,Q2,Nv⟩;unfold getItem
 try with_reducible refine wpAny_holding ?_
 first|refine wpAny_bind (wpAny_pure ?_)|skip
 refine wpAny_bind (wpAny_sequenceKey ht.typeIs (by decide) ?_)
 refine wpAny_bind (wpAny_callSpecial?_slot (name:=Str.ofString "__getitem__") ht.typeIs PyProof.Rows.slot_tuple_getitem
   (wpAny_call_entry PyProof.Rows.slot_tuple_getitem ht.typeIs entry_tuple_getitem ?_ (args_tuple_getitem _ _)))
 show wpAny _ _ (Builtin.Tuple.tupleItemsOf (.ref t) >>= _) _ _ s;refine wpAny_bind (tupleItemsOf_ ht ?_);refine wpAny_bind (wpAny_typeOf U7 ?_);rw[if_pos (by decide)]
 refine wpAny_bind (Bt hs pl pu ?_)
 have P7:¬((((aZ items.size 0 lo:Nat):Int)==0&&(1:Int)==1&&(aZ items.size items.size hi - aZ items.size 0 lo)==items.size)=true):=by
   intro q;rw[Bool.and_eq_true,Bool.and_eq_true]at q;have q1:((aZ items.size 0 lo:Nat):Int)=0:=eq_of_beq q.1.1;have q2:aZ items.size items.size hi - aZ items.size 0 lo=items.size:=eq_of_beq q.2;exact hw ⟨by omega,by omega⟩
 show wpAny _ _ (if(((aZ items.size 0 lo:Nat):Int)==0&&(1:Int)==1&&(aZ items.size items.size hi - aZ items.size 0 lo)==items.size)=true then _ else _) _ _ s
 rw[if_neg P7,Jv]
 first
   |exact wpAny_bind (m:=Builtin.Tuple.tupleExact _) (wpAny_newObj_type (wpAny_pure ⟨_,rfl,wpAny_pure h⟩) NL)
   |exact wpAny_bind (m:=Builtin.Tuple.tupleExact _) (wpAny_newObj_type (wpAny_bind (wpAny_pure (wpAny_pure ⟨_,rfl,wpAny_pure h⟩))) NL)
   |exact wpAny_bind (wpAny_bind (m:=Builtin.Tuple.tupleExact _) (wpAny_newObj_type (wpAny_pure (wpAny_pure ⟨_,rfl,wpAny_pure h⟩)) NL))
   |exact wpAny_bind (wpAny_bind (m:=Builtin.Tuple.tupleExact _) (wpAny_newObj_type (wpAny_pure ⟨_,rfl,wpAny_pure h⟩) NL))
end
end HT
namespace L2
open PySem PySem.Spec PyProof.Rows
abbrev TO:=St→Hp→(Option Int→Hp→Prop)→Prop
def PO(X:Cx)(e:Option Expr)(t:TO):Prop:=
 ∀(pins:List (Addr×Obj)) (s:Shared) (σ:St) (H:Hp) (Q:Option Int→Hp→Prop),Inv X pins σ H s→t σ H Q→
   wpAny (model X.prog X.w) X.A (evalPart e X.env) (fun u s'=>∃o H',Inv X pins σ H' s'∧IsPart u o∧Q o H') X.xe s
def Cb(t:TE):TO:=fun σ H Q=>t σ H fun x H1=>∃i,x=.int i∧Q (some i) H1
section
variable{X:Cx}{e:Expr}{te:TE}{lo hi:Option Expr}{tl th:TO}{pos p2:Pos}
theorem GD(h:PE X e te):PO X (some e) (Cb te):=by
 intro pins s σ H Q I hw;rw[evalPart_some];refine aN (h pins s σ H _ I hw) fun u s1 ⟨x,H1,I1,r1,q1⟩=>?_;obtain⟨i,rfl,q⟩:=q1;obtain⟨t,rfl⟩:=r1;exact⟨some i,H1,I1,.int i t,q⟩
def iY(X:Cx)(r:V→Option Int→Option Int→Hp→VK→Prop):Prop:=
 ∀(pins:List (Addr×Obj)) (s:Shared) (σ:St) (H:Hp) (x:V) (v vl vu:Value) (lo hi:Option Int) (sl:Addr) (Q:VK),Inv X pins σ H s→RelV x v→s.heap.IsSliceOf sl vl vu .none→IsPart vl lo→IsPart vu hi→r x lo hi H Q→
   ∃T id,typeLookup (.type T) "__getitem__"=pure (some (.builtin id))∧s.TypeIs v T∧wpAny (model X.prog X.w) X.A (getItem v (.ref sl)) (EP X pins σ Q) X.xe s
theorem iY.or(h:iY X r)(h':iY X r'):iY X (fun x lo hi H Q=>r x lo hi H Q∨r' x lo hi H Q):=by
 intro pins s σ H x v vl vu lo hi sl Q I rx hs pl pu q;rcases q with q|q
 ·exact h pins s σ H x v vl vu lo hi sl Q I rx hs pl pu q
 ·exact h' pins s σ H x v vl vu lo hi sl Q I rx hs pl pu q
def E6(r:V→Option Int→Option Int→Hp→VK→Prop)(te:TE)(tl th:TO):TE:=fun σ H Q=>te σ H fun x H1=>tl σ H1 fun l H2=>th σ H2 fun u H3=>r x l u H3 Q
theorem A1(hr:iY X r)(he:PE X e te)(hl:PO X lo tl)(hu:PO X hi th):PE X (.Subscript e (.Slice lo hi none p2) pos) (E6 r te tl th):=by
 intro pins s σ H Q I h;refine Subscript_ (aN (he pins s σ H _ I h) fun v s1 ⟨x,H1,I1,r1,q1⟩=>?_);refine wpAny_Slice (aN (hl pins s1 σ H1 _ I1 q1) fun vl s2 ⟨l,H2,I2,pl,q2⟩=>aN (hu pins s2 σ H2 _ I2 q2) fun vu s3 ⟨u,H3,I3,pu,q3⟩=>?_);rw[evalPart_none];refine wpAny_pure ?_;have I4:Inv X pins σ H3 {s3 with heap:=s3.heap.push {cls:=.type "slice",data:=.fields #[vl,vu,.none]} }:=I3.kept (t':=s3.toks) fun b ob q=>Heap.get?_push_of_some _ q;obtain⟨T,id,hT,ht,hg⟩:=hr pins {s3 with heap:=s3.heap.push {cls:=.type "slice",data:=.fields #[vl,vu,.none]} } σ H3 x v vl vu l u s3.heap.objs.size Q I4 r1 (Heap.IsSliceOf.new ..) pl pu q3;show wpAny (model X.prog X.w) X.A (subscriptTail e (.Slice lo hi none p2) v (.ref s3.heap.objs.size)) (EP X pins σ Q) X.xe {s3 with heap:=s3.heap.push {cls:=.type "slice",data:=.fields #[vl,vu,.none]} };exact tail_any (ops:=[.ref s3.heap.objs.size,v]) ht hT hg (by with_unfolding_all rfl)
noncomputable def iT(xs:List V)(lo hi:Option Int):List V:=(xs.drop (HT.aZ xs.length 0 lo)).take (HT.aZ xs.length xs.length hi - HT.aZ xs.length 0 lo)
theorem yH(xs:List V)(lo hi:Option Int):(iT xs lo hi).length≤xs.length:=by
 unfold iT;rw[List.length_take,List.length_drop];omega
def Hm(K:PySem.W.Frag):V→Option Int→Option Int→Hp→VK→Prop:=fun x lo hi H Q=>∃a xs,x=.ref a∧bN K H a xs∧
 ¬(HT.aZ xs.length 0 lo=0∧HT.aZ xs.length xs.length hi=xs.length)∧∀p,H p=none→Q (.ref p) (upd H p (.tup (iT xs lo hi)))
theorem Je:iY X (Hm X.K):=by
 intro pins s σ H x v vl vu lo hi sl Q I rx hs pl pu h;obtain⟨a,xs,rfl,hx,hw,q⟩:=h;cases rx;obtain⟨B',r,ht,hz⟩:=I.tuple hx;have hlen:B'.toArray.size=xs.length:=by rw[List.size_toArray];exact r.length.symm
 refine⟨"tuple",_,PyProof.Rows.slot_tuple_getitem.lookup,ht.typeIs,?_⟩;refine HT.IT ht hs pl pu (by rw[hlen];exact hw) ?_ (by rw[hlen];exact hz)
 rw[hlen];refine⟨.ref s.heap.objs.size,_,I.laid (t':=s.toks) (o:=.tup (iT xs lo hi)) (fun b ob q=>Heap.get?_push_of_some _ q) (Nat.le_refl _) ?_,rfl,q _ (I.aI.fresh (Nat.le_refl _))⟩;exact⟨Nat.le_trans (yH xs lo hi) hz,_,(r.drop (HT.aZ xs.length 0 lo)).take (HT.aZ xs.length xs.length hi - HT.aZ xs.length 0 lo),IsTup.new _ _⟩
noncomputable def xG(K:PySem.W.Frag):R2:=fun x y H Q=>∃a b xs ys,x=.ref a∧y=.ref b∧bN K H a xs∧bN K H b ys∧xs≠[]∧xs.length+ys.length≤sizeLine∧
 (ys=[]→Q (.ref a) H)∧(ys≠[]→∀p,H p=none→Q (.ref p) (upd H p (.tup (xs++ys))))
theorem Vals.sj(r:Vals xs us):us=[]↔xs=[]:=by
 cases r with
 |nil=>simp
 |cons _ _=>simp
theorem CZ:bh X (binaryOp .Add) (xG X.K):=by
 intro pins s σ H x y v u Q I rx ry h;obtain⟨a,b,xs,ys,rfl,rfl,ha,hb,hx,hz,q1,q2⟩:=h;cases rx;cases ry;obtain⟨B',r1,p1,_⟩:=I.tuple ha;obtain⟨MQ,r2,p2,_⟩:=I.tuple hb;refine HT.Jy p1 p2 (fun z=>hx (r1.sj.mp z)) (fun z=>⟨.ref a,H,I,rfl,q1 (r2.sj.mp z)⟩) (fun z=>?_) (by rw[←r1.length, ←r2.length];exact hz)
 refine⟨.ref s.heap.objs.size,_,I.laid (t':=s.toks) (o:=.tup (xs++ys)) (fun b ob q=>Heap.get?_push_of_some _ q) (Nat.le_refl _) ?_,rfl,q2 (fun w=>z (r2.sj.mpr w)) _ (I.aI.fresh (Nat.le_refl _))⟩;exact⟨by rw[List.length_append];exact hz,_,r1.append r2,IsTup.new _ _⟩
end
end L2
namespace L2
open PySem PySem.Spec PyProof.Rows
noncomputable def dP(n:Nat)(i:Int):Option Nat:=if 0≤i then(if i<n then some i.toNat else none)else if -(n:Int)≤i then some (i+n).toNat else none
def dA{α:Type}(xs:List α)(i:Int):Option α:=(dP xs.length i).bind fun j=>xs[j]?
theorem CO(h:dP n i=some j):seqIndex? i n=some j∧j<n∧ -(n:Int)≤i∧i<n:=by
 unfold dP at h;by_cases h0:0≤i
 · rw[if_pos h0]at h
   by_cases h1:i<n
   · rw[if_pos h1]at h
     have e:i.toNat=j:=Option.some.inj h;exact⟨by rw[seqIndex_of h0 h1,e],by omega,by omega,h1⟩
   ·rw[if_neg h1]at h;cases h
 · rw[if_neg h0]at h
   by_cases h1: -(n:Int)≤i
   · rw[if_pos h1]at h
     have e:(i+n).toNat=j:=Option.some.inj h;exact⟨by rw[seqIndex_neg (by omega) h1,e],by omega,h1,by omega⟩
   ·rw[if_neg h1]at h;cases h
theorem rQ{α:Type}{xs:List α}{i:Int}{v:α}(h:dA xs i=some v):∃j,seqIndex? i xs.length=some j∧xs[j]? =some v∧j<xs.length∧ -(xs.length:Int)≤i∧i<xs.length:=by
 unfold dA at h;cases e:dP xs.length i with
 |none=>rw[e]at h;cases h
 | some j=>
   rw[e]at h;obtain⟨h1,h2,h3,h4⟩:=CO e;exact⟨j,h1,h,h2,h3,h4⟩
def jC(b:Expr):Prop:=∀o i,subscripted b false o i=operate [o,i] (getItem o i)
def gf(X:Cx)(r:R2):Prop:=
 ∀(value slice:Expr) (pins:List (Addr×Obj)) (s:Shared) (σ:St) (H:Hp) (x y:V) (v u:Value) (Q:VK),Inv X pins σ H s→RelV x v→RelV y u→r x y H Q→
   subscripted slice false v u=operate [v,u] (getItem v u)→wpAny (model X.prog X.w) X.A (subscriptTail value slice v u) (EP X pins σ Q) X.xe s
def oV(X:Cx)(id:String)(r:V→List V→Hp→VK→Prop):Prop:=
 ∀(pins:List (Addr×Obj)) (s:Shared) (σ:St) (H:Hp) (x:V) (xs:List V) (v:Value) (us:List Value) (Q:VK),Inv X pins σ H s→RelV x v→Vals xs us→r x xs H Q→
   wpAny (model X.prog X.w) X.A (call (.builtin id) (v::us)) (EP X pins σ Q) X.xe s
section
variable{X:Cx}{a b:Expr}{ta tb:TE}{pos:Pos}
theorem gf.or(h:gf X r)(h':gf X r'):gf X (fun x y H Q=>r x y H Q∨r' x y H Q):=by
 intro value slice pins s σ H x y v u Q I rx ry q hs;rcases q with q|q
 ·exact h value slice pins s σ H x y v u Q I rx ry q hs
 ·exact h' value slice pins s σ H x y v u Q I rx ry q hs
theorem oV.or{id:String}{r r':V→List V→Hp→VK→Prop}(h:oV X id r)(h':oV X id r'):oV X id (fun x xs H Q=>r x xs H Q∨r' x xs H Q):=by
 intro pins s σ H x xs v us Q I rx rs q;rcases q with q|q
 ·exact h pins s σ H x xs v us Q I rx rs q
 ·exact h' pins s σ H x xs v us Q I rx rs q
theorem tW{r:R2}(hr:gf X r)(ha:PE X a ta)(hb:PE X b tb)(hs:jC b):PE X (.Subscript a b pos) (nS r ta tb):=by
 intro pins s σ H Q I h;exact Subscript_ (sO ha hb I h fun v u s2 x y H2 I2 rx ry q=>hr a b pins s2 σ H2 x y v u Q I2 rx ry q (hs _ _))
noncomputable def zW(K:PySem.W.Frag):R2:=fun x y H Q=>∃p xs i v,x=.ref p∧y=.int i∧bz K H p xs∧dA xs i=some v∧Q v H
noncomputable def xS(K:PySem.W.Frag):R2:=fun x y H Q=>∃p xs i v,x=.ref p∧y=.int i∧bN K H p xs∧dA xs i=some v∧Q v H
noncomputable def zV:R2:=fun x y H Q=>∃z i c,x=.str z∧y=.int i∧z.length≤sizeLine∧dA z.cps.toList i=some c∧Q (.str ⟨#[c]⟩) H
theorem z5:gf X (zW X.K):=by
 intro value slice pins s σ H x y v u Q I rx ry h hs;obtain⟨p,xs,i,z,rfl,rfl,hq,he,q⟩:=h;cases rx;obtain⟨t,rfl⟩:=ry;obtain⟨B',r,pl,hz⟩:=I.list hq;obtain⟨j,h1,h2,h3,h4,h5⟩:=rQ he;obtain⟨w,ew,Mx⟩:=r.get h2;have hl:=r.length;have hn:=mN;have fin:EP X pins σ Q w s:=⟨z,H,I,Mx,q⟩;by_cases h0:0≤i
 · have hj:i.toNat=j:=by
     rw[seqIndex_of h0 h5]at h1;exact Option.some.inj h1
   exact item_listR pl.isList h0 (by omega) (by rw[hj];simpa using ew) fin hs
 · have hj:(i+(B'.toArray.size:Int)).toNat=j:=by
     rw[seqIndex_neg (by omega) h4]at h1
     rw[List.size_toArray, ←hl];exact Option.some.inj h1
   exact subscriptTail_builtinR (x:=w) pl.isList.typeIs slot_list_getitem.lookup
     (wpAny_getItem_list_neg (Q:=fun r s'=>r=w∧EP X pins σ Q r s') pl.isList (by omega) (by rw[List.size_toArray]<;>omega) (by omega) (by rw[hj];simpa using ew) ⟨rfl,fin⟩) hs
theorem Ak:gf X (xS X.K):=by
 intro value slice pins s σ H x y v u Q I rx ry h hs;obtain⟨p,xs,i,z,rfl,rfl,hq,he,q⟩:=h;cases rx;obtain⟨t,rfl⟩:=ry;obtain⟨B',r,pl,hz⟩:=I.tuple hq;obtain⟨j,h1,h2,h3,h4,h5⟩:=rQ he;obtain⟨w,ew,Mx⟩:=r.get h2;have hl:=r.length;have hn:=mN;have fin:EP X pins σ Q w s:=⟨z,H,I,Mx,q⟩
 exact subscriptTail_builtinR (x:=w) pl.typeIs slot_tuple_getitem.lookup
   (getItem_tuple (j:=j) (Q:=fun r s'=>r=w∧EP X pins σ Q r s') pl (by omega) (by omega) (by rw[List.size_toArray, ←hl];exact h1) (by simpa using ew) ⟨rfl,fin⟩) hs
theorem Ih:gf X zV:=by
 intro value slice pins s σ H x y v u Q I rx ry h hs;obtain⟨z,i,c,rfl,rfl,hz,he,q⟩:=h;obtain⟨t,rfl⟩:=rx;obtain⟨t',rfl⟩:=ry;obtain⟨j,h1,h2,h3,h4,h5⟩:=rQ he;have hl:z.cps.toList.length=z.length:=by simp[Str.length]
 rw[hl]at h1 h4 h5;have hn:=mN
 exact tail_any (typeIs_str s z t) slot_str_getitem.lookup (getItem_str (c:=c) (by
   have e1:decide (i< -(2 ^ 63:Int))=false:=decide_eq_false (by omega)
   have e2:decide (i≥2 ^ 63)=false:=decide_eq_false (by omega)
   rw[e1,e2,Bool.or_false]) (by rw[h1];simpa using h2) ⟨.str ⟨#[c]⟩,H,I.tok _,⟨_,rfl⟩,q⟩) hs
def qT(K:PySem.W.Frag):R2:=fun x y H Q=>zW K x y H Q∨xS K x y H Q∨zV x y H Q
theorem yL:gf X (qT X.K):=z5.or (Ak.or Ih)
theorem Inv.lst{pins:List (Addr×Obj)}{σ:St}{H:Hp}{s:Shared}{p:Addr}{xs:List V}(I:Inv X pins σ H s)(h:H p=some (.lst xs)):
   ∃(B':List Value) (n:Nat),Vals xs B'∧s.heap.get? p=some {cls:=.type "list",data:=.seq B'.toArray n}∧xs.length≤sizeLine:=by
 obtain⟨z,B',n,r,e⟩:=I.aI p _ h;exact⟨B',n,r,e,z⟩
theorem Jd(lo hi:Option Int)(n:Nat):(sliceBounds lo hi none n).1=((HT.aZ n 0 lo:Nat):Int)∧(sliceBounds lo hi none n).2.1=((HT.aZ n n hi:Nat):Int)∧(sliceBounds lo hi none n).2.2=1:=by
 refine⟨?_,?_,rfl⟩
 · cases lo with
   |none=>simp[sliceBounds,HT.aZ]
   | some i=>
     simp only[sliceBounds,HT.aZ,Option.getD_none,show(1:Int)>0 by decide,if_true]
     by_cases h:i<0
     ·simp only[h,if_true]<;>omega
     ·simp only[h,if_false]<;>omega
 · cases hi with
   |none=>simp[sliceBounds,HT.aZ]
   | some i=>
     simp only[sliceBounds,HT.aZ,Option.getD_none,show(1:Int)>0 by decide,if_true]
     by_cases h:i<0
     ·simp only[h,if_true]<;>omega
     ·simp only[h,if_false]<;>omega
theorem IV(B':List Value)(lo hi:Option Int):slicePick B'.toArray lo hi none=((B'.drop (HT.aZ B'.length 0 lo)).take (HT.aZ B'.length B'.length hi - HT.aZ B'.length 0 lo)).toArray:=by
 obtain⟨h1,h2,h3⟩:=Jd lo hi B'.toArray.size;unfold slicePick;rw[h1,h2,h3];simp only[sliceRange_one,pick_run,List.size_toArray]<;>rfl
def BI(K:PySem.W.Frag):V→Option Int→Option Int→Hp→VK→Prop:=fun x lo hi H Q=>∃a xs,x=.ref a∧bz K H a xs∧∀p,H p=none→Q (.ref p) (upd H p (.lst (iT xs lo hi)))
theorem IC:iY X (BI X.K):=by
 intro pins s σ H x v vl vu lo hi sl Q I rx hs pl pu h;obtain⟨a,xs,rfl,hx,q⟩:=h;cases rx;obtain⟨B',r,ht,hz⟩:=I.list hx;have hlen:=r.length;refine⟨"list",_,slot_list_getitem.lookup,ht.isList.typeIs,?_⟩;refine wpAny_getItem_list_slice ht.isList hs pl pu .none (by simp) ?_ (by rw[List.size_toArray]<;>omega)
 rw[IV, ←hlen];refine⟨.ref s.heap.objs.size,_,I.laid (t':=s.toks) (o:=.lst (iT xs lo hi)) (fun b ob q=>Heap.get?_push_of_some _ q) (Nat.le_refl _) ?_,rfl,q _ (I.aI.fresh (Nat.le_refl _))⟩;exact⟨Nat.le_trans (yH xs lo hi) hz,_,0,(r.drop (HT.aZ xs.length 0 lo)).take (HT.aZ xs.length xs.length hi - HT.aZ xs.length 0 lo),Heap.get?_push_size _ rfl⟩
def hZ:V→Bool
 |.aH=>true
 |.bl _=>true
 |.int _=>true
 |.str _=>true
 |_=>false
noncomputable def gS:V→V→Bool
 |.aH,.aH=>true
 |.bl a,.bl b=>a==b
 |.bl a,.int b=>(if a then 1 else 0)==b
 |.int a,.bl b=>a==(if b then 1 else 0)
 |.int a,.int b=>a==b
 |.str a,.str b=>a==b
 |_,_=>false
theorem BA(ry:RelV y u)(rx:RelV x v)(fy:hZ y=true)(fx:hZ x=true):SeqAt.EqAt A s u v (gS y x):=by
 cases y with
 | aH=>
   cases ry;cases x with
   |aH=>cases rx;exact SeqAt.EqAt.same _
   |bl b=>cases rx;exact SeqAt.EqAt.none_bool b
   |int b=>obtain⟨t,rfl⟩:=rx;exact SeqAt.EqAt.none_int b t
   |str b=>obtain⟨t,rfl⟩:=rx;exact SeqAt.EqAt.none_str b t
   |_=>exact absurd (show false=true from fx) Bool.false_ne_true
 | bl a=>
   cases ry;cases x with
   |aH=>cases rx;exact SeqAt.EqAt.bool_none a
   |bl b=>cases rx;exact SeqAt.EqAt.bool_bool a b
   |int b=>obtain⟨t,rfl⟩:=rx;exact SeqAt.EqAt.bool_int a b t
   |str b=>obtain⟨t,rfl⟩:=rx;exact SeqAt.EqAt.bool_str a b t
   |_=>exact absurd (show false=true from fx) Bool.false_ne_true
 | int a=>
   obtain⟨t',rfl⟩:=ry;cases x with
   |aH=>cases rx;exact SeqAt.EqAt.int_none a t'
   |bl b=>cases rx;exact SeqAt.EqAt.int_bool a t' b
   |int b=>obtain⟨t,rfl⟩:=rx;exact SeqAt.EqAt.int_int a t' b t
   |str b=>obtain⟨t,rfl⟩:=rx;exact SeqAt.EqAt.int_str a t' b t
   |_=>exact absurd (show false=true from fx) Bool.false_ne_true
 | str a=>
   obtain⟨t',rfl⟩:=ry;cases x with
   |aH=>cases rx;exact SeqAt.EqAt.str_none a t'
   |bl b=>cases rx;exact SeqAt.EqAt.str_bool a t' b
   |int b=>obtain⟨t,rfl⟩:=rx;exact SeqAt.EqAt.str_int a t' b t
   |str b=>obtain⟨t,rfl⟩:=rx;exact SeqAt.EqAt.str_str a t' b t
   |_=>exact absurd (show false=true from fx) Bool.false_ne_true
 |_=>exact absurd (show false=true from fy) Bool.false_ne_true
noncomputable def fj(x:V)(u:Value):Bool:=match u with
 |.none=>gS .aH x
 |.bool b=>gS (.bl b) x
 |.int i _=>gS (.int i) x
 |.str z _=>gS (.str z) x
 |_=>false
theorem zh(r:RelV y u)(f:hZ y=true):fj x u=gS y x:=by
 cases y with
 |aH=>cases r;rfl
 |bl b=>cases r;rfl
 |int i=>obtain⟨t,rfl⟩:=r;rfl
 |str z=>obtain⟨t,rfl⟩:=r;rfl
 |_=>exact absurd (show false=true from f) Bool.false_ne_true
theorem oW:∀ {xs:List V} {us:List Value},Vals xs us→xs.all hZ=true→us.any (fj x)=xs.any fun y=>gS y x
 |_,_,.nil,_=>rfl
 | y::xs,u::us,.cons r t,f=>by
   rw[List.all_cons,Bool.and_eq_true]at f;rw[List.any_cons,List.any_cons,zh r f.1,oW t f.2]
theorem nY(rx:RelV x v)(fx:hZ x=true):∀ {xs:List V} {us:List Value},Vals xs us→xs.all hZ=true→∀u∈us,SeqAt.EqAt A s u v (fj x u)
 |_,_,.nil,_=>fun u hu=>by cases hu
 | y::xs,u::us,.cons r t,f=>fun u' hu=>by
   rw[List.all_cons,Bool.and_eq_true]at f;rcases List.mem_cons.mp hu with rfl|hu
   ·rw[zh r f.1];exact BA r rx f.1 fx
   ·exact nY rx fx t f.2 u' hu
def qy(x:V)(xs:List V):Bool:=xs.any fun y=>gS y x
noncomputable def yX(K:PySem.W.Frag)(neg:Bool):R2:=fun x y H Q=>∃p xs,y=.ref p∧(bz K H p xs∨bN K H p xs)∧hZ x=true∧xs.all hZ=true∧Q (.bl (if neg then !qy x xs else qy x xs)) H
theorem Ca:bh X (compareOp .In) (yX X.K false):=by
 intro pins s σ H x y v u Q I rx ry h;obtain⟨p,xs,rfl,hq,fx,fs,q⟩:=h;cases ry;rcases hq with hq|hq
 · obtain⟨B',r,pl,hz⟩:=I.list hq
   refine SeqAt.in_listAt (fj x) pl.isList (fun w hw=>nY rx fx r fs w (by simpa using hw)) ⟨.bl _,H,I,rfl,?_⟩
   rw[show B'.toArray.any (fj x)=B'.any (fj x) by simp,oW r fs]
   exact q
 · obtain⟨B',r,pl,hz⟩:=I.tuple hq
   refine SeqAt.in_tupleAt (fj x) pl (fun w hw=>nY rx fx r fs w (by simpa using hw)) ⟨.bl _,H,I,rfl,?_⟩
   rw[show B'.toArray.any (fj x)=B'.any (fj x) by simp,oW r fs]
   exact q
theorem BE:bh X (compareOp .NotIn) (yX X.K true):=by
 intro pins s σ H x y v u Q I rx ry h;obtain⟨p,xs,rfl,hq,fx,fs,q⟩:=h;cases ry;rcases hq with hq|hq
 · obtain⟨B',r,pl,hz⟩:=I.list hq
   refine SeqAt.notIn_listAt (fj x) pl.isList (fun w hw=>nY rx fx r fs w (by simpa using hw)) ⟨.bl _,H,I,rfl,?_⟩
   rw[show B'.toArray.any (fj x)=B'.any (fj x) by simp,oW r fs]
   exact q
 · obtain⟨B',r,pl,hz⟩:=I.tuple hq
   refine SeqAt.notIn_tupleAt (fj x) pl (fun w hw=>nY rx fx r fs w (by simpa using hw)) ⟨.bl _,H,I,rfl,?_⟩
   rw[show B'.toArray.any (fj x)=B'.any (fj x) by simp,oW r fs]
   exact q
theorem FJ:b5 X (.builtin "len") (fun xs H Q=>∃p ys,xs=[.ref p]∧(bz X.K H p ys∨bN X.K H p ys)∧Q (.int ys.length) H):=by
 intro pins s σ H xs us Q I r h;obtain⟨p,ys,rfl,hq,q⟩:=h;obtain⟨u,rfl,rx⟩:=vals1 r;cases rx;have hn:=mN;rcases hq with hq|hq
 · obtain⟨B',r',pl,hz⟩:=I.list hq
   have hlen:=r'.length;exact Calls.call_len_list pl.isList (by simp only[List.size_toArray]<;>omega) ⟨.int ys.length,H,I.tok _,⟨s.toks+1,by rw[List.size_toArray,hlen]⟩,q⟩
 · obtain⟨B',r',pl,hz⟩:=I.tuple hq
   have hlen:=r'.length;exact len_tuple pl (by simp only[List.size_toArray]<;>omega) ⟨.int ys.length,H,I.tok _,⟨s.toks+1,by rw[List.size_toArray,hlen]⟩,q⟩
theorem Bq:b5 X (.builtin "len") (fun xs H Q=>∃z,xs=[.str z]∧z.length≤sizeLine∧Q (.int z.length) H):=by
 intro pins s σ H xs us Q I r h;obtain⟨z,rfl,hz,q⟩:=h;obtain⟨u,rfl,t,rfl⟩:=vals1 r;have hn:=mN;exact len_str (by omega) ⟨.int z.length,H,I.tok _,⟨_,rfl⟩,q⟩
theorem b5.or(h:b5 X f r)(h':b5 X f r'):b5 X f (fun xs H Q=>r xs H Q∨r' xs H Q):=by
 intro pins s σ H xs us Q I rs q;rcases q with q|q
 ·exact h pins s σ H xs us Q I rs q
 ·exact h' pins s σ H xs us Q I rs q
theorem vh:b5 X (.type "tuple") (fun xs H Q=>∃p ys,xs=[.ref p]∧((bz X.K H p ys∧∀l,H l=none→Q (.ref l) (upd H l (.tup ys)))∨(bN X.K H p ys∧Q (.ref p) H))):=by
 intro pins s σ H xs us Q I r h;obtain⟨p,ys,rfl,h⟩:=h;obtain⟨u,rfl,rx⟩:=vals1 r;cases rx;rcases h with⟨hq,q⟩|⟨hq,q⟩
 · obtain⟨B',r',pl,hz⟩:=I.list hq
   have hlen:=r'.length;refine call_tuple_list pl.isList (fun h' kp=>?_) (by simp only[List.size_toArray]<;>omega)
   have I1:Inv X pins σ H {s with heap:=h'}:=I.kept (t':=s.toks) kp
   have I2:Inv X pins σ (upd H h'.objs.size (.tup ys)) {s with heap:=h'.push {cls:=.type "tuple",data:=.seq B'.toArray} }:=
     I1.laid (t':=s.toks) (fun b o e=>Heap.get?_push_of_some _ e) (Nat.le_refl _) (show cX X.prog X.w _ _ _ (.tup ys)from⟨hz,B',r',IsTup.new _ _⟩)
   exact⟨.ref h'.objs.size,_,I2,rfl,q _ (I1.aI.fresh (Nat.le_refl _))⟩
 · obtain⟨B',r',pl,hz⟩:=I.tuple hq
   exact call_tuple_same pl ⟨.ref p,H,I,rfl,q⟩
def wm(K:PySem.W.Frag)(T:String)(x:V)(H:Hp):Prop:=match x with
 |.str _=>T="str"
 |.int _=>T="int"
 |.ref p=>(T="list"∧∃xs,bz K H p xs)∨(T="tuple"∧∃o,K.lookup p=some o∧o.cls=.type "tuple"∧o.dict=none)∨
     (T="dict"∧((∃kvs,H p=some (.dK kvs))∨∃kvs,H p=some (.dT kvs)))∨(T="set"∧∃S n,H p=some (.set S n))
 |_=>False
theorem CJ(I:Inv X pins σ H s)(r:RelV x v)(ty:wm X.K T x H):
   s.TypeIs v T∧∀a,v=.ref a→∃ob,s.heap.get? a=some ob∧ob.dict=none:=by
 cases x with
 | str z=>
   obtain⟨t,rfl⟩:=r;cases (show T="str" from ty)
   exact⟨typeIs_str s z t,fun _ e=>nomatch e⟩
 | int i=>
   obtain⟨t,rfl⟩:=r;cases (show T="int" from ty)
   exact⟨typeIs_int s i t,fun _ e=>nomatch e⟩
 | ref p=>
   cases r;rcases ty with⟨rfl,xs,hq⟩|⟨rfl,o,hk,hc,hd⟩|⟨rfl,hk⟩|⟨rfl,S,n,hk⟩
   · obtain⟨B',_,pl,_⟩:=I.list hq
     refine⟨pl.isList.typeIs,fun a e=>?_⟩;cases e;obtain⟨o,n,e,c,hd,_⟩:=pl;exact⟨o,e,hd⟩
   · refine⟨⟨o,I.cE p o hk,hc⟩,fun a e=>?_⟩
     cases e;exact⟨o,I.cE _ o hk,hd⟩
   · have z:∃o,s.heap.get? p=some o∧o.ExactDict:=by
       rcases hk with⟨kvs,hk⟩|⟨kvs,hk⟩
       · obtain⟨_,_,_,_,o,_,_,e,ex,_⟩:=I.aI p _ hk
         exact⟨o,e,ex⟩
       · obtain⟨_,_,_,_,o,_,_,e,ex,_⟩:=I.aI p _ hk
         exact⟨o,e,ex⟩
     obtain⟨o,e,ex⟩:=z;refine⟨⟨o,e,ex.1⟩,fun a e2=>?_⟩;cases e2;exact⟨o,e,ex.2.1⟩
   · obtain⟨o,_,_,_,e,ex,_⟩:=I.aI p _ hk
     refine⟨⟨o,e,ex.1⟩,fun a e2=>?_⟩;cases e2;exact⟨o,e,ex.2.1⟩
 |_=>exact False.elim ty
def Az(K:PySem.W.Frag)(T:String)(r:V→List V→Hp→VK→Prop)(to:TE)(t:TA):TE:=fun σ H Q=>to σ H fun x H1=>wm K T x H1∧t σ H1 fun xs H2=>r x xs H2 Q
variable{o e:Expr}{es:List Expr}{to:TE}{t:TA}{name:Str}{apos j':Pos}{T id:String}{r:V→List V→Hp→VK→Prop}
theorem rm(pa:PlainAttrs T)(slot:Slot T name id)(O3:typeOf (.builtin id)=pure (.type "method_descriptor"))(hm:oV X id r)(ho:PE X o to)(ha:PA X (e::es) t)
   (Ll:attributeBase o name X.env (eval o X.env)=eval o X.env:=by rfl)
   (L':((backTo j' (starEach (e::es) X.env)).all (fun x=> !x.1)&&(backToKw j' (keywordEach [] X.env)).all (fun x=>x.1.isSome)
     &&decide ((e::es).length+([]:List Keyword).length+(if([]:List Keyword).isEmpty then 0 else 1)<30))=true:=by rfl)
   (Lm:(apos.endLine==j'.line)=true:=by rfl) (hs:starEach (e::es) X.env=(false,eval e X.env)::starEach es X.env:=by rfl) (Pm:(backTo j' (starEach es X.env)).any (·.1)=false:=by rfl):
   PE X (.Call (.Attribute o name apos) (e::es) [] j') (Az X.K T r to t):=by
 intro pins s σ H Q I h;refine wpAny_Call_method_late Ll L' Lm rfl (aN (ho pins s σ H _ I h) fun v s1 ⟨x,H1,I1,r1,ty,q1⟩=>?_);obtain⟨h1,h2⟩:=CJ I1 r1 ty;refine⟨T,id,pa,slot,O3,h1,h2,?_⟩;have hA:=ha j' pins s1 σ H1 _ I1 q1;rw[hs]at hA ⊢;refine Calls.callWith_builtin (by show(false||(backTo j' (starEach es X.env)).any (·.1))=false;rw[Pm]<;>rfl) (Calls.evalArgs_plain ?_)
 exact aN hA fun us s2 ⟨vs,H2,I2,r2,q2⟩=>hm pins s2 σ H2 x vs v us Q I2 r1 r2 q2
end
end L2
namespace L2
open PySem PySem.Spec PyProof.Rows
def uH(X:Cx)(id:String)(r:V→List V→Hp→VK→Prop):Prop:=
 ∀(pins:List (Addr×Obj)) (s:Shared) (σ:St) (H:Hp) (x:V) (xs:List V) (v:Value) (us:List Value) (Q:VK),Inv X pins σ H s→RelV x v→Vals xs us→r x xs H Q→
   wpAny (model X.prog X.w) X.A (call (.builtin id) (v::us)) (EP X pins σ Q) X.xe s
theorem Vals.one:∀ {x:V} {us:List Value},Vals [x] us→∃u,us=[u]∧RelV x u
 |_,_,.cons r .nil=>⟨_,rfl,r⟩
theorem Vals.two:∀ {x y:V} {us:List Value},Vals [x,y] us→∃u v,us=[u,v]∧RelV x u∧RelV y v
 |_,_,_,.cons r (.cons q .nil)=>⟨_,_,rfl,r,q⟩
theorem Vals.eraseIdx:∀ {xs:List V} {us:List Value} (i:Nat),Vals xs us→Vals (xs.eraseIdx i) (us.eraseIdx i)
 |_,_,_,.nil=>.nil
 |_,_,0,.cons _ t=>t
 |_,_,i+1,.cons r t=>.cons r (Vals.eraseIdx i t)
theorem Vals.reverse(h:Vals xs us):Vals xs.reverse us.reverse:=by
 induction h with
 |nil=>exact .nil
 |cons r t ih=>rw[List.reverse_cons,List.reverse_cons];exact Vals.append ih (.cons r .nil)
theorem Vals.rep(h:Vals xs us):∀k:Nat,Vals (List.replicate k xs).flatten (List.replicate k us).flatten
 |0=>.nil
 | k+1=>by
   rw[List.replicate_succ,List.replicate_succ,List.flatten_cons,List.flatten_cons];exact Vals.append h (Vals.rep h k)
section
variable{X:Cx}{pins:List (Addr×Obj)}{σ:St}{H:Hp}{s:Shared}{l b:Addr}{xs ys zs:List V}
theorem Inv.va{B' its':List Value}{n:Nat}{f:Array Value→Array Value}{t':Nat}(I:Inv X pins σ H s)(hH:H l=some (.lst xs))
   (e:s.heap.get? l=some {cls:=.type "list",data:=.seq B'.toArray n}) (hf:f B'.toArray=its'.toArray) (hv:Vals ys its') (hz:ys.length≤sizeLine):
   Inv X pins σ (upd H l (.lst ys)) {s with heap:=s.heap.update l (Obj.mapSeq f),toks:=t'}:=by
 have q:=PySem.IsL.update e f;rw[hf]at q;refine I.write (x:=l) (e:=l) (by rw[hH];exact trivial) (.inl rfl) (fun b' u hb hu=>(Heap.get?_update_other s.heap (Obj.mapSeq f) (Ne.symm hb)).trans hu) ⟨_,q⟩ ?_
 exact⟨hz,its',_,hv,q⟩
theorem Inv.HQ(I:Inv X pins σ H s)(hv:Vals ys B')(hz:ys.length≤sizeLine):
   Inv X pins σ (upd H s.heap.objs.size (.lst ys)) {s with heap:=s.heap.push {cls:=.type "list",data:=.seq B'.toArray},toks:=t'}:=
 I.laid (fun _ _ q=>Heap.get?_push_of_some _ q) (Nat.le_refl _) ⟨hz,B',0,hv,Heap.get?_push_size _ rfl⟩
theorem Inv.fresh(I:Inv X pins σ H s):H s.heap.objs.size=none:=I.aI.fresh (Nat.le_refl _)
theorem Inv.uE(I:Inv X pins σ H s)(hH:H l=some (.lst xs)):xs.length≤sizeLine∧∃(B':List Value) (n:Nat),Vals xs B'∧xs.length=B'.length∧s.heap.get? l=some {cls:=.type "list",data:=.seq B'.toArray n}:=by
 obtain⟨z,B',n,r,e⟩:=I.aI l _ hH;exact⟨z,B',n,r,r.length,e⟩
theorem HG(h:n≤sizeLine):Builtin.List.listTooLong n=false:=by
 unfold Builtin.List.listTooLong;exact decide_eq_false (by omega)
end
section
variable{X:Cx}
def G6:V→List V→Hp→VK→Prop:=fun x vs H Q=>∃l xs y,x=.ref l∧vs=[y]∧H l=some (.lst xs)∧xs.length<sizeLine∧Q .aH (upd H l (.lst (xs++[y])))
theorem tO:uH X "list.append" G6:=by
 intro pins s σ H x vs v us Q I rx rv h;obtain⟨l,xs,y,rfl,rfl,hH,hz,q⟩:=h;cases rx;obtain⟨u,rfl,ru⟩:=rv.one;obtain⟨z,B',n,r,hl,e⟩:=I.uE hH;refine call_meets F.slot_list_append ⟨_,e,rfl⟩ F.entry_list_append (F.args_list_append_2 _ _) (PySem.list_append l B'.toArray n u (by rw[List.size_toArray];omega)) ⟨e,?_⟩
 refine⟨.aH,_,I.va (its':=B'++[u]) hH e (by simp) (r.append (.cons ru .nil)) ?_,rfl,q⟩
 rw[List.length_append,List.length_singleton];omega
def B7:V→List V→Hp→VK→Prop:=fun x vs H Q=>∃l b xs zs,x=.ref l∧vs=[.ref b]∧H l=some (.lst xs)∧H b=some (.lst zs)∧xs.length+zs.length≤sizeLine∧Q .aH (upd H l (.lst (xs++zs)))
theorem Hx:uH X "list.extend" B7:=by
 intro pins s σ H x vs v us Q I rx rv h;obtain⟨l,b,xs,zs,rfl,rfl,hH,hB,hz,q⟩:=h;cases rx;obtain⟨u,rfl,ru⟩:=rv.one;cases ru;obtain⟨z,B',n,r,hl,e⟩:=I.uE hH;obtain⟨z2,MQ,n2,r2,PZ,e2⟩:=I.uE hB;have hsz:B'.toArray.size+MQ.toArray.size≤sizeLine:=by rw[List.size_toArray,List.size_toArray];omega
 have Qr:¬(!B'.toArray.isEmpty&&Builtin.List.listTooLong (B'.toArray.size+MQ.toArray.size))=true:=by
   rw[HG hsz,Bool.and_false];exact Bool.false_ne_true
 refine call_meets F.slot_list_extend ⟨_,e,rfl⟩ F.entry_list_extend (F.args_list_extend_2 _ _)
   (AutoSeq1.list_extend_list_list_0 l B'.toArray n b MQ.toArray n2 Qr (by rw[List.size_toArray];omega) (by omega)) ⟨e,e2,?_⟩
 refine⟨.aH,_,I.va (its':=B'++MQ) hH e (by simp) (r.append r2) ?_,rfl,q⟩
 rw[List.length_append];omega
theorem len_rep{α:Type}(xs:List α)(k:Nat):(List.replicate k xs).flatten.length=k*xs.length:=by
 induction k with
 |zero=>simp
 |succ k ih=>rw[List.replicate_succ,List.flatten_cons,List.length_append,ih,Nat.succ_mul,Nat.add_comm]
end
section
variable{prog:Program}{w:World}{A:Around}{E:Value→Shared→Prop}{s:Shared}
end
section
variable{X:Cx}
end
end L2
namespace L2
open PySem PySem.Spec PyProof.Rows
section
variable{κ:Type} [DecidableEq κ]
def cG(kvs:List (κ×V))(k:κ):Option V:=(kvs.find? fun kv=>decide (kv.1=k)).map (·.2)
noncomputable def putK(kvs:List (κ×V))(k:κ)(v:V):List (κ×V):=
 if(kvs.any fun kv=>decide (kv.1=k))=true then kvs.map (fun kv=>if kv.1=k then(kv.1,v)else kv)else kvs++[(k,v)]
def jw(kvs:List (κ×V))(k:κ):List (κ×V):=kvs.filter fun kv=>decide (kv.1≠k)
theorem rT{p:κ×V}{r:List (κ×V)}{k:κ}(e:p.1=k):cG (p::r) k=some p.2:=by simp[cG,List.find?_cons,e]
theorem su{p:κ×V}{r:List (κ×V)}{k:κ}(e:¬p.1=k):cG (p::r) k=cG r k:=by simp[cG,List.find?_cons,e]
theorem wH(k:κ):∀kvs:List (κ×V),(kvs.any fun kv=>decide (kv.1=k))=(cG kvs k).isSome
 |[]=>rfl
 | p::r=>by
   rw[List.any_cons];by_cases e:p.1=k
   ·simp only[rT e,decide_eq_true e,Bool.true_or,Option.isSome_some]
   ·rw[su e,decide_eq_false e,Bool.false_or];exact wH k r
theorem sg(kvs:List (κ×V))(k:κ)(v:V):(putK kvs k v).length≤kvs.length+1:=by
 unfold putK;split
 ·rw[List.length_map];omega
 ·rw[List.length_append,List.length_cons,List.length_nil];omega
theorem eV.wM(r:eV o u):o.isSome=u.isSome:=by
 cases o with
 | none=>cases u with
   |none=>rfl
   |some _=>exact(show False from r).elim
 | some _=>cases u with
   |none=>exact(show False from r).elim
   |some _=>rfl
theorem eV.getD{o:Option V}{u:Option Value}{d:V}{d':Value}(r:eV o u)(rd:RelV d d'):RelV (o.getD d) (u.getD d'):=by
 cases o with
 | none=>cases u with
   |none=>exact rd
   |some _=>exact(show False from r).elim
 | some _=>cases u with
   |none=>exact(show False from r).elim
   |some _=>exact r
theorem KV.val{kvs:List (κ×V)}{vs:List (κ×Value)}(r:KV kvs vs)(k:κ):eV (cG kvs k) (valueAt vs k):=by
 unfold KV at r
 induction r with
 |nil=>exact True.intro
 | @cons p q ps qs h t ih=>
   obtain⟨h1,h2⟩:=h;by_cases e:p.1=k
   · have e':q.1=k:=h1.symm.trans e
     have b:valueAt (q::qs) k=some q.2:=by simp[valueAt,List.find?_cons,e']
     rw[rT e,b];exact h2
   · have e':¬q.1=k:=fun z=>e (h1.trans z)
     have b:valueAt (q::qs) k=valueAt qs k:=by simp[valueAt,List.find?_cons,e']
     rw[su e,b];exact ih
theorem KV.any{kvs:List (κ×V)}{vs:List (κ×Value)}(r:KV kvs vs)(k:κ):(kvs.any fun kv=>decide (kv.1=k))=vs.any fun kv=>decide (kv.1=k):=by
 unfold KV at r
 induction r with
 |nil=>rfl
 |cons h t ih=>rw[List.any_cons,List.any_cons,ih,h.1]
theorem KV.uh(r:KV kvs vs)(k:κ)(ry:RelV y u):
   KV (kvs.map fun kv=>if kv.1=k then(kv.1,y)else kv) (vs.map fun kv=>if kv.1=k then(kv.1,u)else kv):=by
 unfold KV at r ⊢
 induction r with
 |nil=>exact .nil
 | @cons p q ps qs h t ih=>
   rw[List.map_cons,List.map_cons];refine .cons ?_ ih;obtain⟨h1,h2⟩:=h;by_cases e:p.1=k
   ·rw[if_pos e,if_pos (h1.symm.trans e)];exact⟨h1,ry⟩
   ·rw[if_neg e,if_neg (fun z=>e (h1.trans z))];exact⟨h1,h2⟩
theorem KV.put(r:KV kvs vs)(k:κ)(ry:RelV y u):KV (putK kvs k y) (stored vs k u):=by
 unfold putK stored;rw[r.any k];by_cases e:(vs.any fun kv=>decide (kv.1=k))=true
 ·rw[if_pos e,if_pos e];exact r.uh k ry
 ·rw[if_neg e,if_neg e];exact Paired.snoc r ⟨rfl,ry⟩
theorem KV.drop{kvs:List (κ×V)}{vs:List (κ×Value)}(r:KV kvs vs)(k:κ):KV (jw kvs k) (without vs k):=by
 unfold KV at r ⊢;unfold jw without
 induction r with
 |nil=>exact .nil
 | @cons p q ps qs h t ih=>
   obtain⟨h1,h2⟩:=h;rw[List.filter_cons,List.filter_cons];by_cases e:p.1=k
   · have a:¬decide (p.1≠k)=true:=by simp[e]
     have b:¬decide (q.1≠k)=true:=by simp[h1.symm.trans e]
     rw[if_neg a,if_neg b];exact ih
   · have e':¬q.1=k:=fun z=>e (h1.trans z)
     have a:decide (p.1≠k)=true:=by simp[e]
     have b:decide (q.1≠k)=true:=by simp[e']
     rw[if_pos a,if_pos b];exact .cons ⟨h1,h2⟩ ih
theorem KV.length{kvs:List (κ×V)}{vs:List (κ×Value)}(r:KV kvs vs):kvs.length=vs.length:=Paired.length r
theorem yY(kvs:List (κ×V))(k:κ):(jw kvs k).length≤kvs.length:=List.length_filter_le _ _
end
theorem gL(r:RelV (kV k) u):(b0 P w).is k u=true:=by
 cases k with
 |inl i=>obtain⟨t,e⟩:=(show ∃t,u=Value.int i t from r);subst e;exact HV P w i t
 |inr x=>obtain⟨t,e⟩:=(show ∃t,u=Value.str x t from r);subst e;exact Jr P w x t
theorem xH:∀ {ks:List Key} {us:List Value},Vals (ks.map kV) us→ItemsAre (b0 P w) ks us
 |[],_,r=>by rw[List.map_nil]at r;cases r;exact .nil
 | k::ks,_,r=>by
   rw[List.map_cons]at r;cases r with
   |cons h t=>exact .cons (gL h) (xH t)
abbrev KT(H:Hp):List (List Key×V)→List (List Key×Addr×Value)→Prop:=Paired fun p q=>p.1=q.1∧H q.2.1=some (.tup (p.1.map kV))∧RelV p.2 q.2.2
theorem KT.val{H:Hp}{kvs:List (List Key×V)}{xs:List (List Key×Addr×Value)}(r:KT H kvs xs)(k:List Key):eV (cG kvs k) ((atKey xs k).map (·.2)):=by
 induction r with
 |nil=>exact True.intro
 | @cons p q ps qs h t ih=>
   obtain⟨h1,_,h2⟩:=h;by_cases e:p.1=k
   · have e':q.1=k:=h1.symm.trans e
     have b:atKey (q::qs) k=some q.2:=by simp[atKey,List.find?_cons,e']
     rw[rT e,b];exact h2
   · have e':¬q.1=k:=fun z=>e (h1.trans z)
     have b:atKey (q::qs) k=atKey qs k:=by simp[atKey,List.find?_cons,e']
     rw[su e,b];exact ih
theorem KT.uh(r:KT H kvs xs)(k:List Key)(ry:RelV y u):
   KT H (kvs.map fun kv=>if kv.1=k then(kv.1,y)else kv) (xs.map (putAt k u)):=by
 induction r with
 |nil=>exact .nil
 | @cons p q ps qs h t ih=>
   rw[List.map_cons,List.map_cons];refine .cons ?_ ih;obtain⟨h1,h2,h3⟩:=h;unfold putAt;by_cases e:p.1=k
   ·rw[if_pos e,if_pos (h1.symm.trans e)];exact⟨h1,h2,ry⟩
   ·rw[if_neg e,if_neg (fun z=>e (h1.trans z))];exact⟨h1,h2,h3⟩
theorem KT.put(r:KT H kvs xs)(k:List Key)(hb:H b=some (.tup (k.map kV)))(ry:RelV y u):
   KT H (putK kvs k y) (storedH xs k b u):=by
 have e:(kvs.any fun kv=>decide (kv.1=k))=(atKey xs k).isSome:=by
   rw[wH,(r.val k).wM,Option.isSome_map]
 unfold putK storedH;rw[e];by_cases q:(atKey xs k).isSome=true
 ·rw[if_pos q,if_pos q];exact r.uh k ry
 ·rw[if_neg q,if_neg q];exact Paired.snoc r ⟨rfl,hb,ry⟩
theorem KT.keeps{H H':Hp}{kvs:List (List Key×V)}{xs:List (List Key×Addr×Value)}(r:KT H kvs xs)(ht:∀b ys,H b=some (.tup ys)→H' b=some (.tup ys)):KT H' kvs xs:=
 Paired.sT r fun _ _ z=>⟨z.1,ht _ _ z.2.1,z.2.2⟩
section
variable{P:Program}{w:World}{H:Hp}{h:Heap}{a:Addr}
theorem yR(ok:bV P w H h)(e:Rd H a u):cX P w H h a u:=e.ok ok
theorem qQ(ok:bV P w H h)(e:Rd H a (.dK kvs)):kvs.length≤sizeLine∧(a==sysModules)=false∧∃vs,KV kvs vs∧h.DictOf (b0 P w) a vs:=
 show cX P w H h a (.dK kvs)from yR ok e
theorem lu(ok:bV P w H h)(e:H a=some (.dK kvs)):kvs.length≤sizeLine∧(a==sysModules)=false∧∃vs,KV kvs vs∧h.DictOf (b0 P w) a vs:=qQ ok (.inl e)
theorem v3(ok:bV P w H h)(e:H a=some (.tup (ks.map kV))):(tupleKind (b0 P w)).is h ks a:=by
 obtain⟨_,B',r,o,h1,h2,n,h3⟩:=(show cX P w H h a (.tup (ks.map kV))from ok a _ e)
 exact⟨o,B'.toArray,n,h1,h2,h3,by simpa using xH r⟩
theorem wO(ok:bV P w H h)(e:Rd H a (.dT kvs)):kvs.length≤sizeLine∧(a==sysModules)=false∧
   ∃xs,KT H kvs xs∧h.DictOfH (tupleKind (b0 P w)) a xs:=by
 obtain⟨z,y,xs,r,o,es,ep,h1,h2,h3,h4,h5⟩:=(show cX P w H h a (.dT kvs)from yR ok e)
 refine⟨z,y,xs,r,o,es,ep,h1,h2,h3,h4,fun x hx=>?_,h5⟩
 have all:∀ {l:List (List Key×V)} {m:List (List Key×Addr×Value)},KT H l m→∀x∈m,(tupleKind (b0 P w)).is h x.1 x.2.1:=by
   intro l m q
   induction q with
   |nil=>intro x hx;exact nomatch hx
   | @cons p q ps qs hq t ih=>
     intro x hx;rcases List.mem_cons.mp hx with e|hx
     · subst e
       exact v3 ok (by rw[←hq.1];exact hq.2.1)
     ·exact ih x hx
 exact all r x hx
theorem DN(ok:bV P w H h)(e:H a=some (.dT kvs)):kvs.length≤sizeLine∧(a==sysModules)=false∧
   ∃xs,KT H kvs xs∧h.DictOfH (tupleKind (b0 P w)) a xs:=wO ok (.inl e)
end
def pH(H:Hp)(a:Addr)(y:V)(r:Option V):Prop:=
 (∃kvs k,Rd H a (.dK kvs)∧y=kV k∧r=cG kvs k)∨∃kvs k b,Rd H a (.dT kvs)∧y=.ref b∧H b=some (.tup (k.map kV))∧r=cG kvs k
def jd(H:Hp)(a:Addr)(y v:V)(H':Hp):Prop:=
 (∃kvs k,H a=some (.dK kvs)∧y=kV k∧kvs.length<sizeLine∧H'=upd H a (.dK (putK kvs k v)))∨
 ∃kvs k b,H a=some (.dT kvs)∧y=.ref b∧H b=some (.tup (k.map kV))∧kvs.length<sizeLine∧H'=upd H a (.dT (putK kvs k v))
theorem pH.k{H:Hp}{a:Addr}{kvs:List (Key×V)}{k:Key}(e:H a=some (.dK kvs)):pH H a (kV k) (cG kvs k):=.inl ⟨kvs,k,.inl e,rfl,rfl⟩
theorem pH.t{H:Hp}{a b:Addr}{kvs:List (List Key×V)}{k:List Key}(e:H a=some (.dT kvs))(eb:H b=some (.tup (k.map kV))):pH H a (.ref b) (cG kvs k):=.inr ⟨kvs,k,b,.inl e,rfl,eb,rfl⟩
theorem jd.k{H:Hp}{a:Addr}{kvs:List (Key×V)}{k:Key}{v:V}(e:H a=some (.dK kvs))(hl:kvs.length<sizeLine):jd H a (kV k) v (upd H a (.dK (putK kvs k v))):=.inl ⟨kvs,k,e,rfl,hl,rfl⟩
theorem jd.t{H:Hp}{a b:Addr}{kvs:List (List Key×V)}{k:List Key}{v:V}(e:H a=some (.dT kvs))(eb:H b=some (.tup (k.map kV)))(hl:kvs.length<sizeLine):
   jd H a (.ref b) v (upd H a (.dT (putK kvs k v))):=.inr ⟨kvs,k,b,e,rfl,eb,hl,rfl⟩
section
variable{X:Cx}{pins:List (Addr×Obj)}{σ:St}{H:Hp}{s:Shared}{a:Addr}{y v:V}{u r:Value}{o:Option V}{A:Around}{E:Value→Shared→Prop}
theorem Inv.big(I:Inv X pins σ H s):sysModules<s.heap.objs.size:=by
 have h:mainGlobals<s.heap.objs.size:=(I.mod.glob.keeps I.bk).lt;exact Nat.lt_trans (by decide) h
theorem jW(I:Inv X pins σ H s)(mu:nU (H a))(hs:Heap.SameBut a s.heap h')(he:∃q,h'.get? a=some q)(new:cX X.prog X.w (upd H a ob) h' a ob):
   Inv X pins σ (upd H a ob) {s with heap:=h',toks:=t'}:=
 I.write (x:=a) (e:=a) mu (.inl rfl) (fun b q hb z=>(hs.2 b hb).trans z) he new
theorem jj(z:kvs.length≤sizeLine)(hd:(a==sysModules)=false)(rel:KV kvs vs)(dd:h'.DictOf (b0 P w) a vs):
   cX P w H' h' a (.dK kvs):=⟨z,hd,vs,rel,dd⟩
theorem IF{H':Hp}{Q:Unit→Shared→Prop}(hu:A.units+1<cLine)(I:Inv X pins σ H s)(g:jd H a y v H')(ry:RelV y u)(rv:RelV v r)(h:∀s',Inv X pins σ H' s'→Q () s'):
   wpAny (model X.prog X.w) A (setItem (.ref a) u r) Q E s:=by
 rcases g with⟨kvs,k,e,ey,l,eH⟩|⟨kvs,k,b,e,ey,eb,l,eH⟩
 · subst ey eH
   obtain⟨z,hd,vs,rel,dd⟩:=lu I.aI e;have hz:vs.length≤sizeLine:=by rw[←rel.length];exact z
   have hl:(putK kvs k v).length≤sizeLine:=by have:=sg kvs k v;omega
   refine wpAny_setItem_pairs (hsz:=hz) (gL ry) dd fun h' M8 hs=>h _ ?_;have he:∃q,h'.get? a=some q:=let⟨q,_,_,hq,_⟩:=M8;⟨q,hq⟩
   exact jW I (by rw[e];exact True.intro) hs he (jj hl hd (rel.put k rv) M8)
 · subst ey eH
   cases (show u=Value.ref b from ry)
   obtain⟨z,hd,xs,rel,dd⟩:=DN I.aI e;have hz:xs.length≤sizeLine:=by rw[←Paired.length rel];exact z
   have hl:(putK kvs k v).length≤sizeLine:=by have:=sg kvs k v;omega
   refine wpAny_setItem_heap (hsz:=hz) (tupleKind_room_in1 hu) (v3 I.aI eb) dd fun h' M8 hs=>h _ ?_;obtain⟨q,es,ep,hq,h2,h3,h4,_,h5⟩:=M8;refine jW I (by rw[e];exact True.intro) hs ⟨q,hq⟩ ⟨hl,hd,_,(rel.put k eb rv).keeps fun c ys ec=>?_,q,es,ep,hq,h2,h3,h4,h5⟩
   rw[aF (JV ec e (fun z=>nomatch z))]
   exact ec
end
section
variable{X:Cx}{pins:List (Addr×Obj)}{σ:St}{H:Hp}{s:Shared}{a:Addr}{kvs:List (Key×V)}{k:Key}{u:Value}{A:Around}{E:Value→Shared→Prop}
theorem KI(I:Inv X pins σ H s)(e:H a=some (.dK kvs))(ry:RelV (kV k) u)(l:(cG kvs k).isSome=true)(h:∀s',Inv X pins σ (upd H a (.dK (jw kvs k))) s'→Q () s'):
   wpAny (model X.prog X.w) A (delItem (.ref a) u) Q E s:=by
 obtain⟨z,hd,vs,rel,dd⟩:=lu I.aI e
 refine wpAny_delItem_slot dd.typeIs (by decide) PySem.F.slot_dict_delitem
   (call_meetsIn PySem.F.slot_dict_delitem dd.typeIs PySem.F.entry_dict_delitem (PySem.F.args_dict_delitem_2 _ _) (meets_dict_delitem_pairs (b0 X.prog X.w) a (gL ry)) ⟨vs,dd,by rw[←rel.length];exact z,by rw[←(rel.val k).wM];exact l,fun h' M8 hs=>h _ ?_⟩)
 have he:∃q,h'.get? a=some q:=let⟨q,_,_,hq,_⟩:=M8;⟨q,hq⟩
 exact jW I (by rw[e];exact True.intro) hs he (jj (Nat.le_trans (yY kvs k) z) hd (rel.drop k) M8)
theorem IZ(I:Inv X pins σ H s)(e:H a=some (.dK kvs))(ry:RelV (kV k) u)(l:cG kvs k=some v)(hm:more=[]∨∃x,more=[x])
   (h:∀w' s',Inv X pins σ (upd H a (.dK (jw kvs k))) s'→RelV v w'→Q w' s'):wpAny (model X.prog X.w) A (call (.builtin "dict.pop") (.ref a::u::more)) Q E s:=by
 obtain⟨z,hd,vs,rel,dd⟩:=lu I.aI e;obtain⟨w',hw,Mx⟩:=eV.some_of (v:=v) (o:=valueAt vs k) (by rw[←l];exact rel.val k)
 have hp:(keyPart u).isSome=true:=by
   cases k with
   |inl i=>obtain⟨t,q⟩:=(show ∃t,u=Value.int i t from ry);subst q;rfl
   |inr x=>obtain⟨t,q⟩:=(show ∃t,u=Value.str x t from ry);subst q;rfl
 have ha:argsOk "dict.pop" ⟨.ref a::u::more,[]⟩:=by
   rcases hm with q|⟨x,q⟩
   ·subst q;exact PySem.F.args_dict_pop_2 _ _
   ·subst q;exact PySem.F.args_dict_pop_3 _ _ _
 refine call_meetsIn PySem.F.slot_dict_pop dd.typeIs PySem.F.entry_dict_pop ha (meets_dict_pop_there (b0 X.prog X.w) a (gL ry) more hm hp)
   ⟨vs,w',dd,by rw[←rel.length];exact z,hw,fun h' M8 hs=>h w' _ ?_ Mx⟩
 have he:∃q,h'.get? a=some q:=let⟨q,_,_,hq,_⟩:=M8;⟨q,hq⟩
 exact jW I (by rw[e];exact True.intro) hs he (jj (Nat.le_trans (yY kvs k) z) hd (rel.drop k) M8)
theorem FN(I:Inv X pins σ H s)(e:H a=some (.dK kvs))(h:∀s',Inv X pins σ (upd H a (.dK [])) s'→Q .none s'):wpAny (model X.prog X.w) A (call (.builtin "dict.clear") [.ref a]) Q E s:=by
 obtain⟨z,hd,vs,rel,dd⟩:=lu I.aI e;refine call_meetsIn PySem.F.slot_dict_clear dd.typeIs PySem.F.entry_dict_clear (PySem.F.args_dict_clear_1 _) (meets_dict_clear (b0 X.prog X.w) a) ⟨vs,dd,by rw[←rel.length];exact z,fun h' M8 hs=>h _ ?_⟩
 have he:∃q,h'.get? a=some q:=let⟨q,_,_,hq,_⟩:=M8;⟨q,hq⟩
 exact jW (t':=s.toks) I (by rw[e];exact True.intro) hs he (jj (Nat.zero_le _) hd .nil M8)
end
def Cd(td ty tv:TE):TS:=fun D σ H=>tv σ H fun v H1=>td σ H1 fun x H2=>ty σ H2 fun y H3=>∃a H4,x=.ref a∧jd H3 a y v H4∧D.nx σ H4
section
variable{X:Cx}{o i e value:Expr}{pos pos' RG:Pos}{td ty tv:TE}
theorem wV(hu:X.A.units+1<cLine)(ho:PE X o td)(hi:PE X i ty)(hv:PE X value tv)(hs:swapsWith value (some (.Subscript o i pos')) pos.line X.env=pure false):
   PS X (.Assign [.Subscript o i pos'] value pos) (Cd td ty tv):=by
 intro pins s σ H D I h;refine wpAny_Assign_Subscript (aN (hv pins s σ H _ I h) fun r s1 ⟨v,H1,I1,rv,q1⟩=>aN (ho pins s1 σ H1 _ I1 q1) fun u s2 ⟨x,H2,I2,rx,q2⟩=>aN (hi pins s2 σ H2 _ I2 q2) fun iv s3 ⟨y,H3,I3,ry,a,H4,ex,g,q3⟩=>?_) hs;subst ex;obtain rfl:u=Value.ref a:=rx;exact IF hu I3 g ry rv fun s4 I4=>⟨σ,H4,I4,q3⟩
end
theorem xN(h:Heap)(hb:sysModules<h.objs.size):cX P w H (h.push {cls:=.type "dict",data:=.dict #[]}) h.objs.size (.dK []):=
 ⟨Nat.zero_le _,beq_eq_false_iff_ne.mpr (Ne.symm (Nat.ne_of_lt hb)),[],.nil,Heap.DictOf.new h⟩
def HS:TE:=fun _ H Q=>∀p,H p=none→Q (.ref p) (upd H p (.dK []))
section
variable{X:Cx}{pos:Pos}
theorem vG:PE X (.Dict [] [] pos) HS:=fun pins s σ H Q I h=>
 wpAny_Dict_empty ⟨.ref s.heap.objs.size,_,I.laid (a:=s.heap.objs.size) (o:=.dK []) (t':=s.toks) (fun _ _ q=>Heap.get?_push_of_some _ q) (Nat.le_refl _) (xN s.heap I.big),rfl,h _ (I.aI.fresh (Nat.le_refl _))⟩
end
def nP:List (TE×TE)→St→Hp→(List (V×V)→Hp→Prop)→Prop
 |[],_,H,Q=>Q [] H
 |(tk,tv)::r,σ,H,Q=>tk σ H fun x H1=>tv σ H1 fun y H2=>nP r σ H2 fun ps H3=>Q ((x,y)::ps) H3
abbrev VV:List (V×V)→List (Value×Value)→Prop:=Paired fun p q=>RelV p.1 q.1∧RelV p.2 q.2
def lM(X:Cx)(pos:Pos)(keys:List (Option Expr))(values:List Expr)(Mg:List (TE×TE)):Prop:=
 ∀(pins:List (Addr×Obj)) (s:Shared) (σ:St) (H:Hp) (Q:List (V×V)→Hp→Prop),Inv X pins σ H s→nP Mg σ H Q→
   wpAny (model X.prog X.w) X.A (evalPairs (pairTrees keys values X.env pos)) (fun vs s'=>∃ps H',Inv X pins σ H' s'∧VV ps vs∧Q ps H') X.xe s
theorem um:lM X pos [] [] []:=fun pins s σ H Q I h=>pairTrees_nil_walk ⟨[],H,I,.nil,h⟩
theorem qU(hk:PE X k tk)(hv:PE X v tv)(hr:lM X pos ks vs Mg):
   lM X pos (some k::ks) (v::vs) ((tk,tv)::Mg):=fun pins s σ H Q I h=>
 pairTrees_cons_walk (aN (hk pins s σ H _ I h) fun u s1 ⟨x,H1,I1,rx,q1⟩=>aN (hv pins s1 σ H1 _ I1 q1) fun w2 s2 ⟨y,H2,I2,ry,q2⟩=>
   aN (hr pins s2 σ H2 _ I2 q2) fun ws s3 ⟨ps,H3,I3,rel,q3⟩=>⟨(x,y)::ps,H3,I3,.cons ⟨rx,ry⟩ rel,q3⟩)
noncomputable def dv(kvs more:List (Key×V)):List (Key×V):=more.foldl (fun acc kv=>putK acc kv.1 kv.2) kvs
theorem KV.merge:∀ {more:List (Key×V)} {rs:List (Key×Value)} {kvs:List (Key×V)} {vs:List (Key×Value)},KV more rs→KV kvs vs→KV (dv kvs more) (merged vs rs):=by
 intro more rs kvs vs r;unfold KV at r
 induction r generalizing kvs vs with
 |nil=>intro q;exact q
 | @cons p q ps qs h t ih=>
   intro r0
   have e:KV (putK kvs p.1 p.2) (stored vs q.1 q.2):=by
     have:=r0.put p.1 h.2;rw[←h.1];exact this
   exact ih e
theorem ql:∀(more kvs:List (Key×V)),(dv kvs more).length≤kvs.length+more.length
 |[],kvs=>by show kvs.length≤kvs.length+0;omega
 | p::r,kvs=>by
   have h1:=ql r (putK kvs p.1 p.2);have h2:=sg kvs p.1 p.2;show(dv (putK kvs p.1 p.2) r).length≤_;rw[List.length_cons];omega
theorem xw:∀ {kvs:List (Key×V)} {ws:List (Value×Value)},VV (kvs.map fun kv=>(kV kv.1,kv.2)) ws→∃rs,Carries (b0 P w) ws rs∧KV kvs rs
 |[],_,r=>by rw[List.map_nil]at r;cases r;exact⟨[],True.intro,.nil⟩
 | p::kvs,_,r=>by
   rw[List.map_cons]at r;cases r with
   | @cons a b as bs h t=>
     obtain⟨rs,c,q⟩:=xw (P:=P) (w:=w) t;obtain⟨b1,b2⟩:=b;exact⟨(p.1,b2)::rs,⟨gL h.1,rfl,c⟩,.cons ⟨rfl,h.2⟩ q⟩
def HJ(Mg:List (TE×TE)):TE:=fun σ H Q=>∀p,H p=none→nP Mg σ (upd H p (.dK [])) fun ps H2=>H2 p=some (.dK [])∧∃kvs:List (Key×V),ps=kvs.map (fun kv=>(kV kv.1,kv.2))∧kvs.length≤15∧Q (.ref p) (upd H2 p (.dK (dv [] kvs)))
theorem sL(h:lM X pos keys values Mg)(MJ:keys.all (·.isSome)=true)(hl:keys.length=values.length)(h0:keys≠[])
   (Nr:keys.length≤15):PE X (.Dict keys values pos) (HJ Mg):=by
 intro pins s σ H Q I q;have hn:=I.aI.fresh (Nat.le_refl s.heap.objs.size);have I1:=I.laid (a:=s.heap.objs.size) (o:=.dK []) (h':=s.heap.push {cls:=.type "dict",data:=.dict #[]}) (t':=s.toks) (fun _ _ q=>Heap.get?_push_of_some _ q) (Nat.le_refl _) (xN s.heap I.big);refine wpAny_Dict_walk (knd:=b0 X.prog X.w) MJ hl h0 Nr (aN (h pins _ σ _ _ I1 (q _ hn)) fun ws s2 ⟨ps,H2,I2,rel,e,kvs,ep,lk,q2⟩=>?_);subst ep;obtain⟨rs,c,rk⟩:=xw (P:=X.prog) (w:=X.w) rel;obtain⟨z,hd,WY,r0,dd⟩:=lu I2.aI e;cases r0;refine⟨rs,c,dd,fun h' M8 hs=>⟨.ref s.heap.objs.size,_,?_,rfl,q2⟩⟩
 have hz:(dv [] kvs).length≤sizeLine:=by
   have h1:=ql kvs [];rw[List.length_nil]at h1;rw[sizeLine_eq];omega
 have he:∃q,h'.get? s.heap.objs.size=some q:=let⟨q,_,_,hq,_⟩:=M8;⟨q,hq⟩
 exact jW I2 (by rw[e];exact True.intro) hs he (jj hz hd (rk.merge .nil) M8)
structure M1(X:Cx)(o:Expr)(m:Str)(apos:Pos)(e:Expr)(j':Pos):Prop where
 base:attributeBase o m X.env (eval o X.env)=eval o X.env
 pC:((backTo j' (starEach [e] X.env)).all (fun x=> !x.1)&&(backToKw j' (keywordEach [] X.env)).all (fun x=>x.1.isSome)
   &&decide (([e]:List Expr).length+([]:List Keyword).length+(if([]:List Keyword).isEmpty then 0 else 1)<30))=true
 line:(apos.endLine==j'.line)=true
 trees:backTo j' (starEach [e] X.env)=[(false,eval e X.env)]
def yN(H:Hp)(a:Addr):Prop:=(∃kvs,Rd H a (.dK kvs))∨∃kvs,Rd H a (.dT kvs)
theorem za(I:Inv X pins σ H s)(d:yN H a):
   s.TypeIs (.ref a) "dict"∧(∀b,Value.ref a=.ref b→∃ob,s.heap.get? b=some ob∧ob.dict=none)∧(a==sysModules)=false:=by
 rcases d with⟨kvs,e⟩|⟨kvs,e⟩
 · obtain⟨_,hd,vs,_,dd⟩:=qQ I.aI e
   refine⟨dd.typeIs,fun b q=>?_,hd⟩;cases q;obtain⟨ob,_,_,h1,h2,_⟩:=dd;exact⟨ob,h1,h2.2.1⟩
 · obtain⟨_,hd,xs,_,dd⟩:=wO I.aI e
   refine⟨dd.typeIs,fun b q=>?_,hd⟩;cases q;obtain⟨ob,_,_,h1,h2,_⟩:=dd;exact⟨ob,h1,h2.2.1⟩
section
variable{X:Cx}{pins:List (Addr×Obj)}{σ:St}{H:Hp}{s:Shared}{a:Addr}{y d:V}{u r:Value}{o:Option V}{A:Around}{E:Value→Shared→Prop}
end
def Bw(td ty:TE):TE:=fun σ H Q=>td σ H fun x H1=>∃a,x=.ref a∧yN H1 a∧ty σ H1 fun y H2=>∃kvs k v,H2 a=some (.dK kvs)∧y=kV k∧cG kvs k=some v∧Q v (upd H2 a (.dK (jw kvs k)))
section
variable{X:Cx}{o e f:Expr}{apos j':Pos}{td ty tx:TE}
theorem vO(ho:PE X o td)(he:PE X e ty)(m:M1 X o "pop" apos e j'):PE X (.Call (.Attribute o "pop" apos) [e] [] j') (Bw td ty):=by
 intro pins s σ H Q I h;refine wpAny_Call_method m.base m.pC m.line PySem.F.plainAttrs_dict PySem.F.slot_dict_pop PySem.F.type_dict_pop (aN (ho pins s σ H _ I h) fun u s1 ⟨x,H1,I1,rx,a,ex,d,q1⟩=>?_);subst ex;obtain rfl:u=Value.ref a:=rx;obtain⟨t1,t2,_⟩:=za I1 d;refine⟨t1,t2,?_⟩;rw[m.trees];refine Calls.callWith_builtin rfl (Calls.evalArgs_plain (Calls.spliced_cons (aN (he pins s1 σ H1 _ I1 q1) fun iv s2 ⟨y,H2,I2,ry,kvs,k,v,ea,ey,l,q2⟩=>Calls.spliced_nil ?_)));subst ey;exact IZ I2 ea ry l (.inl rfl) fun w' s3 I3 Mx=>⟨v,_,I3,Mx,q2⟩
end
section
variable{X:Cx}{pins:List (Addr×Obj)}{σ:St}{H:Hp}{s:Shared}{a:Addr}{kvs:List (Key×V)}{A:Around}{E:Value→Shared→Prop}
end
section
variable{X:Cx}{pins:List (Addr×Obj)}{σ:St}{H:Hp}{s:Shared}{a:Addr}{y:V}{u:Value}{A:Around}{E:Value→Shared→Prop}
end
end L2
namespace xi
open PySem PySem.W PySem.Calls PyProof.Rows
theorem HX:∀(ns:List Int) (vs:List Value),WellAll P h vs (ns.map WData.int)→IntsAre vs ns:=by
 intro ns
 induction ns with
 | nil=>
   intro vs w;rw[List.map_nil]at w;cases w;exact .nil
 | cons n ns ih=>
   intro vs w;rw[List.map_cons]at w;cases w with
   | cons a b=>
     cases a;exact .cons _ _ (ih _ b)
theorem Fq{l:OpenLaw}{n:Nat}(hn:l.most=some n){P:Params}{h:Heap}{args:List WData}{vals:List Value}
   (OK:l.row.toRowW.claim.pre args=true) (PX:WellAll P h vals args):
   ∃a vs ns,vals=[Value.ref a]∧args=[WData.list (ns.map WData.int)]∧h.get? a=some {cls:=.type "list",data:=.seq vs.toArray}∧IntsAre vs ns∧ns.length≤n:=by
 have T8:WShape.hasAll [] args [.list .int]=true:=(pre_splitW OK).1;have hc:l.pre.holds [] {args:=args}=true:=(pre_splitW OK).2;obtain⟨d,r,rfl,h1,h2⟩:=hasAllW_cons T8;obtain rfl:=hasAllW_nil h2;obtain⟨xs,rfl,h3⟩:=hasW_list h1;obtain⟨ns,rfl⟩:=items_int h3
 have hlen:ns.length≤n:=by
   unfold OpenLaw.pre at hc
   have h4:(WTm.not (.lt (.lit (.int (n:Int))) (.len (.arg 0)))).holds [] {args:=[.list (ns.map .int)]}=true:=by
     have h4:=(holds_andW hc).1;rw[hn]at h4;exact h4
   have h5:=condW_of h4 (w_not (w_lt w_lit (w_len_list (w_arg rfl))));rw[List.length_map]at h5;refine Nat.le_of_not_lt fun q=>?_;have q':(n:Int)<((ns.length:Nat):Int):=by omega
   first
     |(rw[decide_eq_true q']at h5;exact absurd h5 (by decide))
     |(simp at h5;omega)
 cases PX with
 | cons w1 w2=>
   cases w2;cases w1 with
   |list ho MJ=>exact⟨_,_,ns,rfl,rfl,ho,HX ns _ MJ,hlen⟩
theorem DD(l:OpenLaw)(args:List WData):l.row.toRowW.claim.post args (.bool true) args=true:=
 postW_of (r:=l.row.toRowW) (X:=(true==true))
   (show WShape.has [] (.bool true) .bool=true by first|rfl|decide|simp[WShape.has,WShape.arms,WShape.armsAll])
   (show(WTm.eq .res (.lit (.bool true))).value [] {args:=args,res:=some (.bool true),after:=args}=some (.bool (true==true))from w_eq_bool (w_res rfl) w_lit) rfl
theorem AA{l:OpenLaw}{n:Nat}{q:Program}{loose:List Str}{XP:(Str→Option Value)→Heap→Prop}{YP:World→Heap→Prop}{d:DefRec}
   (hn:l.most=some n) (Qf:d.params.defaults=[])
   (call:∀(w:World) (cS Ln:Shared) (mg mb:Str→Option Value) (fa:Addr) (o:Obj) (pm cd doc:Value) (a:Addr) (vs:List Value) (ns:List Int),
     Ground q loose [] XP w cS mg mb Ln.heap→YP w Ln.heap→
     Ln.heap.get? fa=some o→o.data=.func (docDef d.name d.params d.body d.scope pm cd doc)→Ln.heap.CodeRec cd d.name→mg d.name=some (.ref fa)→
     Ln.heap.get? a=some {cls:=.type "list",data:=.seq vs.toArray}→IntsAre vs ns→ns.length≤n→Ln.gens= #[]→
     codeAny (model l.prog w) callerA (.call (.ref fa) ⟨[.ref a],[]⟩) (fun r s'=>r=.ok (.ret (.bool true))∧OldK Ln.heap s'.heap∧s'.os=Ln.os∧AllBare s'.gens) Ln):
   WalkO q loose XP YP l.row.toRowW d [] (fun f vs=>PySem.call f vs):=by
 intro w cS Ln mg mb G Y fa o pm cd doc dV kV ho hd LH hD hmg hg args vals as OK U3 Xg PX Xf;obtain rfl:dV=.none:=Dflts.none hD Qf;obtain rfl:kV=.none:=Dflts.noKw hD;obtain⟨a,vs,ns,rfl,rfl,Py,hints,hlen⟩:=Fq hn OK PX;refine enter_call (codeAny_mono (call w cS Ln mg mb fa o pm cd doc a vs ns G Y ho (fd_plain hd) LH hmg Py hints hlen hg) fun r s' hq=>?_);obtain⟨rfl,h2,h3,h4⟩:=hq;exact⟨.inl ⟨.bool true,.bool true,[],rfl,fun _=>rfl,.bool true,DD l _,fun _=>⟨List.Pairwise.nil,fun _ hm=>(nomatch hm)⟩⟩,h2,h3,h4⟩
section
variable{prog:Program}{w:World}{A:Around}{E:Value→Shared→Prop}{s:Shared}{K:Frag}
end
end xi
namespace L2
open PySem PySem.Spec PyProof.Rows
theorem ye:∀ {vs:List Value} {ns:List Int},IntsAre vs ns→Vals (ns.map V.int) vs
 |_,_,.nil=>.nil
 |_,_,.cons n t h=>.cons ⟨t,rfl⟩ (ye h)
def uc(H:Hp):Prop:=∀b,H b=none∨∃o xs,H b=some (.frz o (.lst xs))
theorem FW{P:Program}{w:World}{K:PySem.W.Frag}{mg mb:Str→Option Value}{CX:gg}{k:Nat}{fa a:Addr}{fd:FuncData}{x:Str}{sp:Sp}{Ln:Shared}{vs:List Value}{ns:List Int}
   (KX:K.In Ln.heap) (Ov:Ln.heap.Ns mainGlobals mg) (hb:Ln.heap.Ns builtinsNs mb) (UL:∀x:Str,x≠"__name__"→mb x=bootBuiltins x) (SM:Ln.heap.NoLimit) (hg:Ln.gens= #[])
   (ha:Ln.heap.get? a=some {cls:=.type "list",data:=.seq vs.toArray}) (hi:IntsAre vs ns) (hl:ns.length≤sizeLine) (hr:b4 k callerA)
   (F:∀base:Heap,K.In base→base.Ns mainGlobals mg→dm P w K mg base CX k fa fd [x] sp) (QP:∀(s:Shared) (u:Value),BindsTo s fd ⟨[u],[]⟩ [(x,u)])
   (Nw:∀H:Hp,uc H→bz K H a (ns.map V.int)→sp [.ref a] H (fun v _=>v=.bl true) fun _ _ _=>False)
   (SG:∀H e s',CX [] H Ln (fun _ _ _=>False) e s'→False):
   codeAny (model P w) callerA (.call (.ref fa) ⟨[.ref a],[]⟩) (fun r s'=>r=.ok (.ret (.bool true))∧OldK Ln.heap s'.heap∧s'.os=Ln.os∧AllBare s'.gens) Ln:=by
 have rv:=ye hi;have RS:=hi.length
 have core:∀H:Hp,uc H→bz K H a (ns.map V.int)→bV P w H Ln.heap→(∀b,H b≠none→b=a)→(H a≠none→K.lookup a=none)→
     codeAny (model P w) callerA (.call (.ref fa) ⟨[.ref a],[]⟩) (fun r s'=>r=.ok (.ret (.bool true))∧OldK Ln.heap s'.heap∧s'.os=Ln.os∧AllBare s'.gens) Ln:=by
   intro H hO hS aI hA hK;have NK:∀ {b:Addr} {o:Obj},Ln.heap.get? b=some o→H b=none→(iH Ln.heap H).get? b=some o:=fun e n=>BR e n
   have Qj:∀ {b:Addr} {o:Obj} {es:Array DictEntry} {ep:Nat},Ln.heap.get? b=some o→o.data=.dict es ep→H b=none:=fun {b o es ep} e d=>by
     cases q:H b with
     |none=>rfl
     | some u=>
       have e':b=a:=hA b (by rw[q];simp)
       subst e';rw[ha]at e;cases e;have d':Data.seq vs.toArray _=Data.dict es ep:=d;cases d'
   have Rb:∀ {b:Addr} {m:Str→Option Value},Ln.heap.Ns b m→(iH Ln.heap H).Ns b m:=fun {b m} ⟨o,es,ep,e,d,r⟩=>⟨o,es,ep,NK e (Qj e d),d,r⟩
   have Tu:K.In (iH Ln.heap H):=fun b o e=>NK (KX b o e) (by
     cases q:H b with
     |none=>rfl
     | some u=>
       have e':b=a:=hA b (by rw[q];simp)
       subst e';rw[hK (by rw[q];simp)]at e;cases e)
   have hM:Mod K mg (iH Ln.heap H):=⟨Tu,Rb Ov,⟨mb,Rb hb,UL⟩,let⟨mc,h1,h2⟩:=SM;⟨mc,Rb h1,h2⟩⟩
   have e0:kz P w K mg (iH Ln.heap H) callerA [] Ln H:=⟨rfl,hM,fun b o e=>B3 e,Nat.le_of_eq (Fh _ _),trivial,fun b hb=>absurd (show b∈([]:List Addr)from hb) (by simp),aI,.of_eq hg⟩
   refine codeAny_mono ((F _ Tu (Rb Ov)).run callerA [] Ln H ⟨[.ref a],[]⟩ [.ref a] [.ref a] _ _ hr e0 (QP Ln (.ref a)) (.cons rfl .nil) (Nw H hO hS)) fun r s' h=>?_;cases r with
   |error e=>exact(SG H e s' h).elim
   | ok fl=>
     cases fl with
     |next=>exact False.elim h
     |brk=>exact False.elim h
     |cont=>exact False.elim h
     | ret u=>
       obtain⟨v,H',os,bare,un,RV,r',q⟩:=h;have q':v=.bl true:=q;subst q';obtain rfl:u=Value.bool true:=r';refine⟨rfl,OldK.of_keep fun b o e=>?_,os,bare⟩;cases q:H b with
       |none=>exact un.keep b o e q (by intro z;exact absurd (show b∈([]:List Addr)from z) (by simp)) (by simp)
       | some u=>
         rcases hO b with z|⟨ob,xs,z⟩
         ·rw[q]at z;cases z
         · have z2:=un.dU b ob _ z
           obtain⟨e1,_⟩:=aI b _ z;obtain⟨e2,_⟩:=RV b _ z2;rw[e]at e1;cases e1;exact e2
 cases hk:K.lookup a with
 | some o=>
   have e:=KX a o hk;rw[ha]at e;cases e;refine core (fun _=>none) (fun _=>.inl rfl) (.inr ⟨_,vs.toArray,_,hk,rfl,rfl,rfl,by rw[List.size_toArray,RS];exact hl,by simpa using rv⟩) (fun b u z=>by have z':(none:Option HO)=some u:=z;cases z') (fun b z=>absurd rfl z) fun z=>absurd rfl z
 | none=>
   refine core (fun b=>if b=a then some (.frz {cls:=.type "list",data:=.seq vs.toArray} (.lst (ns.map V.int)))else none) (fun b=>?_) (.inl (.inr ⟨{cls:=.type "list",data:=.seq vs.toArray},if_pos rfl⟩)) (fun b u z=>?_) (fun b z=>?_) fun _=>hk
   · by_cases hb:b=a
     ·exact .inr ⟨_,_,if_pos hb⟩
     ·exact .inl (if_neg hb)
   · by_cases hb:b=a
     · have z':=(if_pos hb).symm.trans z
       cases z';subst hb;exact⟨ha,by rw[List.length_map];exact hl,vs,_,rv,ha⟩
     · have z':=(if_neg hb).symm.trans z
       cases z'
   · by_cases hb:b=a
     ·exact hb
     ·exact absurd (if_neg hb) z
end L2
namespace L2
open PySem PySem.Spec PyProof.Rows
abbrev Lc{K:PySem.W.Frag}{h:Heap}(_:K.In h):PySem.W.Frag:=K
theorem E7{l:PySem.W.OpenLaw}{n k:Nat}{q:Program}{loose:List Str}{XP:(Str→Option Value)→Heap→Prop}{YP:World→Heap→Prop}{d:DefRec}{K:Params→PySem.W.Frag}{CX:World→gg}{sp:World→Sp}{x:Str}
   (hn:l.most=some n) (PB:n≤sizeLine) (Qf:d.params.defaults=[]) (hr:b4 k callerA)
   (hY:∀(w:World) (h:Heap),YP w h→(K w.params).In h)
   (F:∀(w:World) (mg:Str→Option Value) (fa:Addr) (h:Heap),(K w.params).In h→h.Ns mainGlobals mg→mg d.name=some (.ref fa)→
     ∃fd:FuncData,(∀(s:Shared) (u:Value),BindsTo s fd ⟨[u],[]⟩ [(x,u)])∧
       ∀base:Heap,(K w.params).In base→base.Ns mainGlobals mg→dm l.prog w (K w.params) mg base (CX w) k fa fd [x] (sp w))
   (Nw:∀(w:World) (H:Hp) (a:Addr) (ns:List Int),ns.length≤n→uc H→bz (K w.params) H a (ns.map V.int)→sp w [.ref a] H (fun v _=>v=.bl true) fun _ _ _=>False)
   (SG:∀(w:World) (H:Hp) (s:Shared) (e:Value) (s':Shared),CX w [] H s (fun _ _ _=>False) e s'→False):
   PySem.W.WalkO q loose XP YP l.row.toRowW d [] (fun f vs=>PySem.call f vs):=by
 refine xi.AA hn Qf fun w cS Ln mg mb fa o pm cd doc a vs ns G Y ho hd LH hmg Py hints hlen hg=>?_;have KX:=hY w _ Y;obtain⟨fd,hb,hF⟩:=F w mg fa _ KX G.T.g hmg;exact FW KX G.T.g G.T.b G.T.builtins G.T.nolimit hg Py hints (Nat.le_trans hlen PB) hr hF hb (fun H hO hS=>Nw w H a ns hlen hO hS) fun H e s'=>SG w H Ln e s'
end L2
namespace L2
open PySem PySem.Spec PyProof.Rows
noncomputable def bW(s:Stmt):Arguments:=match s with
 |.FunctionDef _ a _ _ _ _ _ _ _ _=>a
 |_=>{posonlyargs:=[],args:=[],vararg:=none,kwonlyargs:=[],kw_defaults:=[],kwarg:=none,defaults:=[]}
def bF(s:Stmt):List Stmt:=match s with
 |.FunctionDef _ _ b _ _ _ _ _ _ _=>b
 |_=>[]
noncomputable def aK(s:Stmt):Scope:=match s with
 |.FunctionDef _ _ _ _ _ _ sc _ _ _=>sc
 |_=>{kind:=.function,names:=[],isGenerator:=false,isCoroutine:=false}
abbrev ff:gg:=fun _ _ _ _ _ _=>False
abbrev E0:XK:=fun _ _ _=>False
theorem qz:Passes ff X E0:=fun _ _ _ _ _ _ _ h=>h.elim
structure bC(K:PySem.W.Frag)(x qual:Str)(st:Stmt)(f:Addr)(fd:FuncData):Prop where
 ex:∃(oc:Value) (od:Option Addr) (kV doc pm:Value) (an:Option Addr) (Lz ct:Value) (OB:Array (Option Value)),
   fd=PySem.W.fnOf x qual (bW st) (bF st) (aK st) .none kV doc pm an Lz ct∧K.lookup f=some ⟨oc,od,.func fd,OB⟩∧PySem.W.codeIn K Lz qual=true
 kp:PySem.W.keepIn K (.ref f)=true
section
variable{P:Program}{w:World}{K:PySem.W.Frag}{mg:Str→Option Value}{base:Heap}
theorem bC.ok{x qual:Str}{st:Stmt}{f:Addr}{fd:FuncData}{N ps:List Str}{k:Nat}{sp:Sp}(F:bC K x qual st f fd)(S:bR N ps (aK st))(len:∀vs H Q E,sp vs H Q E→vs.length=ps.length)
   (Of:∀(Lz:Value) (A:Around) (outer:List Env) (s:Shared) (H:Hp) (vs:List V) (Q:VK) (E:XK),b4 k (A.deeper (envOfC qual (aK st) s.heap.objs.size f Lz))→sp vs H Q E→
     ∃t,cq (iu ff P w K mg base N qual (aK st) f Lz A outer s H E).gk (bF st) t∧t {nx:=fun _ H'=>Q .aH H',rt:=Q} (start N vs) H):dm P w K mg base ff (k+1) f fd ps sp:=by
 obtain⟨oc,od,kV,doc,pm,an,Lz,ct,OB,rfl,lk,LH⟩:=F.ex;refine Ah lk LH S len fun A outer s H vs Q E hr Nw=>?_;obtain⟨t,h,q⟩:=Of Lz A outer s H vs Q E hr Nw;exact⟨t,h.gk,q⟩
theorem bC.binds{x qual:Str}{st:Stmt}{f:Addr}{fd:FuncData}{ps:List Str}(F:bC K x qual st f fd)
   (h:∀(kV doc pm:Value) (an:Option Addr) (Lz ct:Value) (us:List Value),us.length=ps.length→bindArgs (PySem.W.fnOf x qual (bW st) (bF st) (aK st) .none kV doc pm an Lz ct) ⟨us,[]⟩=pure (ps.zip us)):Binds K fd ps []:=by
 obtain⟨oc,od,kV,doc,pm,an,Lz,ct,OB,rfl,lk,LH⟩:=F.ex;exact .all (h kV doc pm an Lz ct)
theorem b9{x qual:Str}{st:Stmt}{f:Addr}{oc:Value}{od an:Option Addr}{OB:Array (Option Value)}{kV doc pm Lz ct:Value}(l:K.lookup f=some ⟨oc,od,.func (PySem.W.fnOf x qual (bW st) (bF st) (aK st) .none kV doc pm an Lz ct),OB⟩)
   (c:PySem.W.codeIn K Lz qual=true) (k:PySem.W.keepIn K (.ref f)=true):bC K x qual st f (PySem.W.fnOf x qual (bW st) (bF st) (aK st) .none kV doc pm an Lz ct):=⟨⟨oc,od,kV,doc,pm,an,Lz,ct,OB,rfl,l,c⟩,k⟩
end
section
variable{X:Cx}
theorem pv(i:Nat)(hN:X.N[i]? =some x:=by rfl)(hv:cw X.env.scope x:=by first|exact Or.inl rfl|exact Or.inr (Or.inl rfl)|exact Or.inr (Or.inr rfl))(hd:(x==("__debug__":Str))=false:=by decide)
   (LH:(x==("__classdict__":Str))=false:=by decide):PE X (.Name x pos) (vf i):=A0 hN hv hd LH
end
def aq(H H':Hp):Prop:=∀b o,H b=some o→H' b=some o
theorem aq.refl(H:Hp):aq H H:=fun _ _ h=>h
theorem aq.trans{H H1 H2:Hp}(a:aq H H1)(b:aq H1 H2):aq H H2:=fun c o h=>b c o (a c o h)
theorem aq.free{H H':Hp}(e:aq H H'){l:Addr}(h:H' l=Option.none):H l=Option.none:=by
 cases q:H l with
 |none=>rfl
 | some o=>
   rw[e l o q]at h;cases h
theorem aq.seq{K:PySem.W.Frag}{H H':Hp}{a:Addr}{xs:List V}(e:aq H H')(h:bz K H a xs):bz K H' a xs:=by
 rcases h with(h|⟨o,h⟩)|h
 ·exact .inl (.inl (e _ _ h))
 ·exact .inl (.inr ⟨o,e _ _ h⟩)
 ·exact .inr h
end L2
namespace PL
open PySem PySem.Spec PySem.W
section
variable{prog:Program}{w:World}{A:Around}{E:Value→Shared→Prop}{h:Heap}{g:Array GenState}{d:Drawn}{t:Nat}{os:OsState}{a C:Addr}{o:Obj}{K:PySem.W.Frag}
end
end PL
namespace PL
open PySem
abbrev Ky:=Sum Int Str
inductive D where
 |aH|bl (b:Bool)|int (i:Int)|str (x:Str)
 |tup (xs:List D)|lst (xs:List D)|aw (ks:List Ky) (vs:List D)|cD (c:Str) (ns:List Str) (vs:List D)
 deriving Inhabited
inductive R(α:Type) where
 |ok (a:α)|exc (x:D)|bad
namespace R
def bind{α β:Type}:R α→(α→R β)→R β
 |.ok a,f=>f a
 |.exc x,_=>.exc x
 |.bad,_=>.bad
@[simp] theorem aO{α β:Type}(a:α)(f:α→R β):(R.ok a).bind f=f a:=rfl
@[simp] theorem KD{α β:Type}(x:D)(f:α→R β):(R.exc x).bind f=.exc x:=rfl
@[simp] theorem K4{α β:Type}(f:α→R β):(R.bad:R α).bind f=.bad:=rfl
end R
inductive T where
 |d (x:D)|l (ts:List T)|m (ks:List Ky) (ts:List T)|tu (ts:List T)
 deriving Inhabited
def T.own:T→Bool
 |.d _=>false
 |.tu _=>false
 |_=>true
inductive Sp where
 |tr (t:T)|al (i:Nat) (p:List Nat)
 deriving Inhabited
inductive Slot where
 |un|sh (d:D)|ol (xs:List D)|od (ks:List Ky) (vs:List D)|on (x:Sp)
 deriving Inhabited
abbrev En:=List Slot
abbrev Ex:=En→R D
abbrev cg:=En→R Bool
abbrev eO:Nat:=16777216
mutual
@[simp] noncomputable def b3:D→D→Bool
 |.aH,.aH=>true
 |.bl a,.bl b=>a==b
 |.bl a,.int b=>(if a then 1 else 0)==b
 |.int a,.bl b=>a==(if b then 1 else 0)
 |.int a,.int b=>a==b
 |.str a,.str b=>decide (a=b)
 |.tup a,.tup b=>jO a b
 |.lst a,.lst b=>jO a b
 |_,_=>false
@[simp] noncomputable def jO:List D→List D→Bool
 |[],[]=>true
 |a::as,b::bs=>b3 a b&&jO as bs
 |_,_=>false
end
@[simp] noncomputable def flat:D→Bool
 |.aH=>true
 |.bl _=>true
 |.int _=>true
 |.str _=>true
 |_=>false
mutual
noncomputable def lay:D→Bool
 |.aH=>true
 |.bl _=>true
 |.int _=>true
 |.str x=>x.cps.all (· <0x110000)
 |.tup xs=>eK xs
 |.lst xs=>eK xs
 |_=>false
noncomputable def eK:List D→Bool
 |[]=>true
 |x::xs=>lay x&&eK xs
end
mutual
noncomputable def dep:D→Nat
 |.tup xs=>oZ xs+1
 |.lst xs=>oZ xs+1
 |_=>0
noncomputable def oZ:List D→Nat
 |[]=>0
 |x::xs=>max (dep x) (oZ xs)
end
@[simp] def vY:D→D→Bool
 |.aw _ _,.str _=>true
 |_,_=>false
@[simp] def tT:D→D→Bool
 |.tup _,.tup []=>true
 |_,_=>false
noncomputable def fi(a b:D):Bool:=(flat a&&flat b)||tT a b||(lay a&&lay b&&decide (min (dep a) (dep b)≤60))
def eG(a b:D):Bool:=fi a b||vY a b
theorem rn(ha:flat a=true)(hb:flat b=true):fi a b=true:=by unfold fi;rw[ha,hb];rfl
theorem jX(ha:flat a=true)(hb:flat b=true):eG a b=true:=by unfold eG;rw[rn ha hb];rfl
@[simp] theorem KY(a b:Bool):fi (.bl a) (.bl b)=true:=rn rfl rfl
@[simp] theorem KA(a b:Int):fi (.int a) (.int b)=true:=rn rfl rfl
@[simp] theorem Kp(a b:Str):fi (.str a) (.str b)=true:=rn rfl rfl
@[simp] theorem Kz(a:List Ky)(c:List D)(b:Str):eG (.aw a c) (.str b)=true:=by unfold eG;simp
@[simp] theorem KC:eG .aH .aH=true:=jX rfl rfl
@[simp] theorem KO(a b:Bool):eG (.bl a) (.bl b)=true:=jX rfl rfl
@[simp] theorem EN(a b:Int):eG (.int a) (.int b)=true:=jX rfl rfl
@[simp] theorem HN(a b:Str):eG (.str a) (.str b)=true:=jX rfl rfl
@[simp] theorem Kg(b:Str):eG .aH (.str b)=true:=jX rfl rfl
@[simp] theorem K1(a:Int)(b:Str):eG (.int a) (.str b)=true:=jX rfl rfl
@[simp] theorem KQ(a:Bool)(b:Str):eG (.bl a) (.str b)=true:=jX rfl rfl
@[simp] theorem Kw(a:List D):eG (.tup a) (.tup [])=true:=by unfold eG fi;simp
@[simp] noncomputable def truth:D→R Bool
 |.aH=>.ok false
 |.bl b=>.ok b
 |.int i=>.ok (i != 0)
 |.str x=>if x.length≤eO then .ok (x.length != 0)else .bad
 |.tup xs=>.ok (!xs.isEmpty)
 |.lst xs=>.ok (!xs.isEmpty)
 |.aw _ _=>.bad
 |.cD _ _ _=>.bad
noncomputable def dP(n:Nat)(i:Int):Option Nat:=if 0≤i then(if i<n then some i.toNat else none)else if -(n:Int)≤i then some (i+n).toNat else none
def dA{α:Type}(xs:List α)(i:Int):Option α:=(dP xs.length i).bind fun j=>xs[j]?
noncomputable def aZ(n d:Nat):Option Int→Nat
 |none=>d
 |some v=>if v<0 then(v+(n:Int)).toNat else min v.toNat n
noncomputable def cut{α:Type}(xs:List α)(lo hi:Option Int):List α:=(xs.drop (aZ xs.length 0 lo)).take (aZ xs.length xs.length hi - aZ xs.length 0 lo)
def inR(j:Int):Bool:=decide (-4611686018427387904≤j)&&decide (j<4611686018427387904)
def tU(j:Int):Bool:=decide (0<j)&&decide (j<340282366920938463463374607431768211456)
def Dc(j:Int):Bool:=decide (0≤j)&&decide (j≤1000)
noncomputable def small(i:Int):Bool:=decide (-18446744073709551616<i)&&decide (i<18446744073709551616)
@[simp] noncomputable def d9:D→D→R D
 |.int i,.int j=>.ok (.int (i+j))
 |.str x,.str y=>if x.length+y.length≤eO then .ok (.str (x++y))else .bad
 |.lst x,.lst y=>if x.length+y.length≤eO then .ok (.lst (x++y))else .bad
 |.tup x,.tup y=>if x.isEmpty=false∧x.length+y.length≤eO then .ok (.tup (x++y))else .bad
 |_,_=>.bad
@[simp] def K9:D→D→R D
 |.int i,.int j=>.ok (.int (i - j))
 |_,_=>.bad
@[simp] noncomputable def lT:D→D→R D
 |.int i,.int j=>if(small i||small j)=true then .ok (.int (i*j))else .bad
 |_,_=>.bad
@[simp] noncomputable def Kt:D→D→R D
 |.lst x,.int j=>if 0≤j∧j<1000∧x.length≤1000 then .ok (.lst (List.replicate j.toNat x).flatten)else .bad
 |_,_=>.bad
@[simp] noncomputable def oDiv:D→D→R D
 |.int i,.int j=>if tU j=true then .ok (.int (i / j))else .bad
 |_,_=>.bad
@[simp] noncomputable def oMod:D→D→R D
 |.int i,.int j=>if 0<j then .ok (.int (i % j))else .bad
 |_,_=>.bad
@[simp] noncomputable def Km:D→D→R D
 |.int i,.int j=>if(Dc j&&small i)=true then .ok (.int (i ^ j.toNat))else .bad
 |_,_=>.bad
@[simp] def K3:D→R D
 |.int i=>.ok (.int (-i))
 |_=>.bad
@[simp] def oEq(x y:D):R D:=if eG x y=true then .ok (.bl (b3 x y))else .bad
@[simp] def cF(x y:D):R D:=if fi x y=true then .ok (.bl (!b3 x y))else .bad
@[simp] def oLt:D→D→R D
 |.int i,.int j=>.ok (.bl (decide (i<j)))
 |_,_=>.bad
@[simp] def oLe:D→D→R D
 |.int i,.int j=>.ok (.bl (decide (i≤j)))
 |_,_=>.bad
@[simp] def d6:D→D→R D
 |.int i,.int j=>.ok (.bl (decide (j<i)))
 |_,_=>.bad
@[simp] def Lf:D→D→R D
 |.int i,.int j=>.ok (.bl (decide (j≤i)))
 |_,_=>.bad
@[simp] def zO:D→Bool
 |.aH=>true
 |_=>false
@[simp] def La(b:Bool):D→Bool
 |.bl c=>b==c
 |_=>false
@[simp] def g0(d:D):R D:=.ok (.bl (zO d))
@[simp] def oE(d:D):R D:=.ok (.bl (!zO d))
@[simp] def Kq(b:Bool):D→R D
 |.bl c=>.ok (.bl (c==b))
 |_=>.bad
@[simp] def K7(b:Bool):D→R D
 |.bl c=>.ok (.bl (!(c==b)))
 |_=>.bad
def keyOf:D→Option Ky
 |.int i=>some (.inl i)
 |.str x=>some (.inr x)
 |_=>none
noncomputable def bK(k:Ky):List Ky→List D→Option D
 |a::ks,v::vs=>if a=k then some v else bK k ks vs
 |_,_=>none
@[simp] noncomputable def cA:D→D→R D
 |.str _,.str _=>.bad
 |x,.lst ys=>if flat x=true∧ys.all flat=true then .ok (.bl (ys.any fun y=>b3 y x))else .bad
 |x,.tup ys=>if flat x=true∧ys.all flat=true then .ok (.bl (ys.any fun y=>b3 y x))else .bad
 | x,.aw ks vs=>match keyOf x with
   |some k=>.ok (.bl (bK k ks vs).isSome)
   |none=>.bad
 |_,_=>.bad
@[simp] def we:D→R D
 |.bl b=>.ok (.bl (!b))
 |_=>.bad
@[simp] def cY(x y:D):R D:=(cA x y).bind we
@[simp] noncomputable def oG:D→D→R D
 | .lst xs,.int i=>match dA xs i with
   |some v=>.ok v
   |none=>.bad
 | .tup xs,.int i=>match dA xs i with
   |some v=>.ok v
   |none=>.bad
 | .str x,.int i=>if x.length≤eO then match dA x.cps.toList i with
   |some c=>.ok (.str ⟨#[c]⟩)
   |none=>.bad else .bad
 |_,_=>.bad
@[simp] noncomputable def lj:D→D→R D
 | .aw ks vs,k=>match keyOf k with
   | some q=>match bK q ks vs with
     |some v=>.ok v
     |none=>.bad
   |none=>.bad
 |_,_=>.bad
@[simp] noncomputable def ao:D→D→R D
 |.lst xs,k=>oG (.lst xs) k
 |.tup xs,k=>oG (.tup xs) k
 |.str x,k=>oG (.str x) k
 |.aw ks vs,k=>lj (.aw ks vs) k
 |_,_=>.bad
@[simp] noncomputable def xg(lo hi:Option Int):D→R D
 |.lst xs=>.ok (.lst (cut xs lo hi))
 |.tup xs=>if aZ xs.length 0 lo=0∧aZ xs.length xs.length hi=xs.length then .bad else .ok (.tup (cut xs lo hi))
 |_=>.bad
@[simp] noncomputable def oH:D→R D
 |.lst xs=>.ok (.int xs.length)
 |.tup xs=>.ok (.int xs.length)
 |.str x=>if x.length≤eO then .ok (.int x.length)else .bad
 |_=>.bad
inductive Ty where
 |int|bool|str|tuple|list|dict
@[simp] noncomputable def bS:Ty→D→R D
 |.int,.int _=>.ok (.bl true)
 |.int,.bl _=>.ok (.bl true)
 |.bool,.bl _=>.ok (.bl true)
 |.str,.str _=>.ok (.bl true)
 |.tuple,.tup _=>.ok (.bl true)
 |.list,.lst _=>.ok (.bl true)
 |.dict,.aw _ _=>.ok (.bl true)
 |_,.cD _ _ _=>.bad
 |_,_=>.ok (.bl false)
@[simp] def Ld:D→R D
 |.lst xs=>.ok (.lst xs)
 |.tup xs=>.ok (.lst xs)
 |_=>.bad
@[simp] def nI:D→R D
 |.lst xs=>.ok (.tup xs)
 |.tup xs=>.ok (.tup xs)
 |_=>.bad
noncomputable def allB:List D→R D
 |[]=>.ok (.bl true)
 | .bl b::r=>(allB r).bind fun z=>match z with
   |.bl k=>.ok (.bl (b&&k))
   |_=>.bad
 |_=>.bad
@[simp] def jr:D→R D
 |.lst xs=>allB xs
 |_=>.bad
@[simp] noncomputable def J9:D→R D
 |.int i=>.ok (.int i)
 |.bl b=>.ok (.int (if b then 1 else 0))
 |_=>.bad
@[simp] noncomputable def KJ:D→R D
 |.int i=>if 0≤i∧i<10 ^ 100 then .ok (.str (Str.ofString (toString i)))else .bad
 |_=>.bad
@[simp] def Kn:D→D→R D
 |.int i,.int j=>.ok (.int (if j<i then j else i))
 |_,_=>.bad
noncomputable def findS(x:List Nat):Nat→List Nat→Option Nat
 |k,[]=>if x=[]then some k else none
 |k,c::r=>if(c::r).take x.length=x then some k else findS x (k+1) r
@[simp] noncomputable def Kj:D→D→R D
 | .str y,.str x=>.ok (.int (match findS x.cps.toList 0 y.cps.toList with
   |some k=>(k:Int)
   |none=> -1))
 |_,_=>.bad
noncomputable def sG(x:D):Nat→List D→R D
 |_,[]=>.bad
 |k,y::r=>if b3 y x=true then .ok (.int k)else sG x (k+1) r
@[simp] noncomputable def Kh:D→D→R D
 |.tup ys,x=>if flat x=true∧ys.all flat=true then sG x 0 ys else .bad
 |.lst ys,x=>if flat x=true∧ys.all flat=true then sG x 0 ys else .bad
 |_,_=>.bad
noncomputable def strsOf:List D→Option (List Str)
 |[]=>some []
 |.str x::r=>(strsOf r).map (x:: ·)
 |_=>none
@[simp] noncomputable def Ku:D→D→R D
 | .str x,.lst ys=>match strsOf ys with
   |some zs=>if(Str.join x zs).length≤eO then .ok (.str (Str.join x zs))else .bad
   |none=>.bad
 |_,_=>.bad
@[simp] noncomputable def nB(e:D):D→D→R D
 | .aw ks vs,k=>match keyOf k with
   |some q=>.ok ((bK q ks vs).getD e)
   |none=>.bad
 |_,_=>.bad
@[simp] def aa(i:Nat):Ex:=fun ρ=>match ρ[i]? with
 |some (.sh d)=>.ok d
 |_=>.bad
@[simp] def eC(d:D):Ex:=fun _=>.ok d
@[simp] def e1(g:D→R D)(a:Ex):Ex:=fun ρ=>(a ρ).bind g
@[simp] noncomputable def e2(g:D→D→R D)(a b:Ex):Ex:=fun ρ=>(a ρ).bind fun x=>(b ρ).bind fun y=>g x y
@[simp] noncomputable def en(a b:Ex):Ex:=fun ρ=>(a ρ).bind fun x=>match x with
 |.bl true=>b ρ
 |.bl false=>.ok (.bl false)
 |_=>.bad
@[simp] noncomputable def K5(a b:Ex):Ex:=fun ρ=>(a ρ).bind fun x=>match x with
 |.bl true=>.ok (.bl true)
 |.bl false=>b ρ
 |_=>.bad
@[simp] def Kx(c:cg)(a b:Ex):Ex:=fun ρ=>(c ρ).bind fun t=>if t=true then a ρ else b ρ
@[simp] noncomputable def eList:List Ex→En→R (List D)
 |[],_=>.ok []
 |e::es,ρ=>(e ρ).bind fun x=>(eList es ρ).bind fun xs=>.ok (x::xs)
@[simp] def aU(es:List Ex):Ex:=fun ρ=>(eList es ρ).bind fun xs=>.ok (.tup xs)
@[simp] def cL(es:List Ex):Ex:=fun ρ=>(eList es ρ).bind fun xs=>.ok (.lst xs)
@[simp] def aJ(f:List D→R D)(es:List Ex):Ex:=fun ρ=>(eList es ρ).bind f
@[simp] noncomputable def m5(g h:D→D→R D)(a b c:Ex):Ex:=fun ρ=>(a ρ).bind fun x=>(b ρ).bind fun y=>(g x y).bind fun z=>match z with
 |.bl true=>(c ρ).bind fun w=>h y w
 |.bl false=>.ok (.bl false)
 |_=>.bad
@[simp] noncomputable def cz(ks:List Ky)(es:List Ex):Ex:=fun ρ=>(eList es ρ).bind fun xs=>.ok (.aw ks xs)
@[simp] noncomputable def sC:Option Ex→En→R (Option Int)
 |none,_=>.ok none
 | some e,ρ=>(e ρ).bind fun x=>match x with
   |.int i=>.ok (some i)
   |_=>.bad
@[simp] noncomputable def pT(a:Ex)(lo hi:Option Ex):Ex:=fun ρ=>(a ρ).bind fun x=>(sC lo ρ).bind fun l=>(sC hi ρ).bind fun u=>xg l u x
@[simp] def tV(a:Ex):cg:=fun ρ=>(a ρ).bind truth
@[simp] def d8(a b:cg):cg:=fun ρ=>(a ρ).bind fun t=>if t=true then b ρ else .ok false
@[simp] def b6(a b:cg):cg:=fun ρ=>(a ρ).bind fun t=>if t=true then .ok true else b ρ
@[simp] def cO(a:cg):cg:=fun ρ=>(a ρ).bind fun t=>.ok (!t)
@[simp] noncomputable def Kd(i:Nat):Ex:=fun ρ=>match ρ[i]? with
 |some (.ol xs)=>.ok (.int xs.length)
 |some (.od ks _)=>.ok (.int ks.length)
 |_=>.bad
@[simp] noncomputable def Kv(i:Nat)(e:Ex):Ex:=fun ρ=>(e ρ).bind fun x=>match ρ[i]? with
 |some (.ol xs)=>ao (.lst xs) x
 |some (.od ks vs)=>lj (.aw ks vs) x
 |_=>.bad
@[simp] noncomputable def Ko(i:Nat):Ex:=fun ρ=>match ρ[i]? with
 |some (.ol xs)=>.ok (.int xs.length)
 |_=>.bad
abbrev cI:=En→R (List D)
@[simp] noncomputable def items:D→R (List D)
 |.lst xs=>.ok xs
 |.tup xs=>.ok xs
 |.str x=>.ok (x.cps.toList.map fun c=>.str ⟨#[c]⟩)
 |_=>.bad
@[simp] def eF(a:Ex):cI:=fun ρ=>(a ρ).bind items
def dG(i j:Int):List D:=(List.range (j - i).toNat).map fun(k:Nat)=>.int (i+(k:Int))
@[simp] noncomputable def kh(a:Ex):cI:=fun ρ=>(a ρ).bind fun x=>match x with
 |.int j=>if inR j=true then .ok (dG 0 j)else .bad
 |_=>.bad
@[simp] noncomputable def jy(a b:Ex):cI:=fun ρ=>(a ρ).bind fun x=>(b ρ).bind fun y=>match x,y with
 |.int i,.int j=>if(inR i&&inR j)=true then .ok (dG i j)else .bad
 |_,_=>.bad
@[simp] def g9:List D→List D→List D
 |x::xs,y::ys=>.tup [x,y]::g9 xs ys
 |_,_=>[]
@[simp] noncomputable def m4(a b:Ex):cI:=fun ρ=>(a ρ).bind fun x=>(b ρ).bind fun y=>(items x).bind fun xs=>(items y).bind fun ys=>.ok (g9 xs ys)
@[simp] def yT:Nat→List D→List D
 |_,[]=>[]
 |k,x::xs=>.tup [.int k,x]::yT (k+1) xs
@[simp] noncomputable def KH(a:Ex):cI:=fun ρ=>(a ρ).bind fun x=>(items x).bind fun xs=>.ok (yT 0 xs)
abbrev eS:=D→En→R En
@[simp] def aE(i:Nat):eS:=fun d ρ=>.ok (ρ.set i (.sh d))
@[simp] noncomputable def eN:List Nat→List D→En→R En
 |[],[],ρ=>.ok ρ
 |i::is,d::ds,ρ=>eN is ds (ρ.set i (.sh d))
 |_,_,_=>.bad
@[simp] def gc(is:List Nat):eS:=fun d ρ=>match d with
 |.tup ds=>eN is ds ρ
 |_=>.bad
@[simp] def zS:Option Slot→Slot
 |some (.sh d)=>.sh d
 |_=>.un
@[simp] def frees(ρ:En)(fv:List Nat):En:=fv.map fun i=>zS ρ[i]?
noncomputable def eQ(tg:eS)(cs:List cg)(el:Ex)(ρ:En):List D→R (List D)
 |[]=>.ok []
 | d::ds=>(tg d ρ).bind fun ρ1=>(i3 cs ρ1).bind fun t=>
   if t=true then(el ρ1).bind fun y=>(eQ tg cs el ρ ds).bind fun ys=>.ok (y::ys)else eQ tg cs el ρ ds
where i3:List cg→En→R Bool
 |[],_=>.ok true
 |c::cs,ρ=>(c ρ).bind fun t=>if t=true then i3 cs ρ else .ok false
@[simp] noncomputable def dg(it:cI)(n:Nat)(fv:List Nat)(tg:eS)(cs:List cg)(el:Ex):Ex:=fun ρ=>(it ρ).bind fun ds=>
 if ds.length≤eO then(eQ tg cs el (List.replicate n .un++frees ρ fv) ds).bind fun ys=>.ok (.lst ys)else .bad
inductive Fl where
 |next (ρ:En)|ret (d:D)|brk (ρ:En)|cont (ρ:En)|eU (d:D)|cP (t:T)
abbrev Sm:=En→R Fl
@[simp] def aP:Sm:=fun ρ=>.ok (.next ρ)
@[simp] noncomputable def wo(a b:Sm):Sm:=fun ρ=>(a ρ).bind fun f=>match f with
 |.next ρ'=>b ρ'
 |f=>.ok f
@[simp] def aj:List Sm→Sm
 |[]=>aP
 |a::r=>wo a (aj r)
@[simp] def aQ(c:cg)(a b:Sm):Sm:=fun ρ=>(c ρ).bind fun t=>if t=true then a ρ else b ρ
@[simp] noncomputable def bb(g:eS)(e:Ex):Sm:=fun ρ=>(e ρ).bind fun d=>(g d ρ).bind fun ρ'=>.ok (.next ρ')
@[simp] def aM(e:Ex):Sm:=fun ρ=>(e ρ).bind fun d=>.ok (.ret d)
@[simp] def Ki:Sm:=fun _=>.ok (.ret .aH)
@[simp] def Kc(e:Ex):Sm:=fun ρ=>(e ρ).bind fun _=>.ok (.next ρ)
@[simp] def KL:Sm:=fun _=>.bad
@[simp] noncomputable def je(i:Nat)(e:Ex):Sm:=fun ρ=>(e ρ).bind fun d=>match d with
 |.lst xs=>.ok (.next (ρ.set i (.ol xs)))
 |_=>.bad
@[simp] noncomputable def kI(i:Nat)(e:Ex):Sm:=fun ρ=>(e ρ).bind fun d=>match d with
 |.aw ks vs=>.ok (.next (ρ.set i (.od ks vs)))
 |_=>.bad
@[simp] noncomputable def iA(i:Nat):Sm:=fun ρ=>match ρ[i]? with
 |some (.ol xs)=>.ok (.next (ρ.set i (.sh (.lst xs))))
 |some (.od ks vs)=>.ok (.next (ρ.set i (.sh (.aw ks vs))))
 |_=>.bad
@[simp] noncomputable def jm(i:Nat)(e:Ex):Sm:=fun ρ=>(e ρ).bind fun d=>match ρ[i]? with
 |some (.ol xs)=>if xs.length<eO then .ok (.next (ρ.set i (.ol (xs++[d]))))else .bad
 |_=>.bad
@[simp] noncomputable def KZ(i:Nat)(k e:Ex):Sm:=fun ρ=>(e ρ).bind fun d=>(k ρ).bind fun q=>match ρ[i]?,q with
 | some (.ol xs),.int j=>match dP xs.length j with
   |some m=>.ok (.next (ρ.set i (.ol (xs.set m d))))
   |none=>.bad
 |_,_=>.bad
noncomputable def putK(k:Ky)(d:D):List Ky→List D→List Ky×List D
 |a::ks,v::vs=>if a=k then(a::ks,d::vs)else((a::(putK k d ks vs).1),(v::(putK k d ks vs).2))
 |_,_=>([k],[d])
@[simp] noncomputable def J8(i:Nat)(k e:Ex):Sm:=fun ρ=>(e ρ).bind fun d=>(k ρ).bind fun q=>match ρ[i]?,keyOf q with
 |some (.od ks vs),some y=>if ks.length<1000 then .ok (.next (ρ.set i (.od (putK y d ks vs).1 (putK y d ks vs).2)))else .bad
 |_,_=>.bad
noncomputable def forL(tg:eS)(body:Sm):List D→En→R Fl
 |[],ρ=>.ok (.next ρ)
 | d::ds,ρ=>(tg d ρ).bind fun ρ1=>(body ρ1).bind fun f=>match f with
   |.next ρ2=>forL tg body ds ρ2
   |.cont ρ2=>forL tg body ds ρ2
   |.brk ρ2=>.ok (.next ρ2)
   |.ret d=>.ok (.ret d)
   |.eU d=>.ok (.eU d)
   |.cP t=>.ok (.cP t)
@[simp] noncomputable def dy(it:cI)(tg:eS)(body:Sm):Sm:=fun ρ=>(it ρ).bind fun ds=>forL tg body ds ρ
@[simp] noncomputable def fn(n:Nat)(body:Sm):List D→R D:=fun ds=>(body (ds.map .sh++List.replicate (n - ds.length) .un)).bind fun f=>match f with
 |.ret d=>.ok d
 |.next _=>.ok .aH
 |_=>.bad
@[simp] noncomputable def Lg(n:Nat)(body:Sm):List D→R D:=fun ds=>(body (ds.map .sh++List.replicate (n - ds.length) .un)).bind fun f=>match f with
 |.eU (.lst xs)=>.ok (.lst xs)
 |_=>.bad
end PL
namespace PL
open PySem PySem.Spec
open L2 (V Hp HO Cx PE PT PW PA PS cq St VK TE TT TA TS TI Inv RelV Vals Rd bz bN upd aq Key XK Ends)
structure Md where
 K:PySem.W.Frag
 P:Program
 w:World
abbrev aA(X:Cx):Md:=⟨X.K,X.prog,X.w⟩
def gH(M:Md)(H:Hp)(F:Addr→Prop)(a:Addr)(xs:List V):Prop:=
 (¬F a∧Rd H a (.lst xs))∨∃(o:Obj) (B':Array Value) (n:Nat),M.K.lookup a=some o∧o.cls=.type "list"∧o.dict=none∧o.data=.seq B' n∧B'.size≤sizeLine∧Vals xs B'.toList
def dF(M:Md)(H:Hp)(F:Addr→Prop)(a:Addr)(xs:List V):Prop:=
 (¬F a∧Rd H a (.tup xs))∨∃(o:Obj) (B':Array Value) (n:Nat),M.K.lookup a=some o∧o.cls=.type "tuple"∧o.data=.seq B' n∧B'.size≤sizeLine∧Vals xs B'.toList
def dC(M:Md)(H:Hp)(F:Addr→Prop)(a:Addr)(kvs:List (Key×V)):Prop:=
 (¬F a∧∃ob,H a=some (.frz ob (.dK kvs)))∨∃(o:Obj) (es:Array DictEntry) (ep:Nat) (vs:List (Key×Value)),M.K.lookup a=some o∧o.ExactDict∧o.data=.dict es ep∧KeysOf (L2.b0 M.P M.w) es∧Pairs (L2.b0 M.P M.w) es.toList vs∧
   (vs.map (·.1)).Nodup∧L2.KV kvs vs∧kvs.length≤sizeLine∧(a==sysModules)=false
theorem gH.sq(h:gH M H F a xs):bz M.K H a xs:=h.elim (fun h=>.inl h.2) .inr
theorem dF.sq(h:dF M H F a xs):bN M.K H a xs:=h.elim (fun h=>.inl h.2) .inr
noncomputable def HB(a C:Addr):HO:=.ext fun h=>∃o,h.get? a=some o∧o.cls=.ref C∧∃vs,o.data=.fields vs
mutual
noncomputable def Rep(M:Md)(H:Hp)(F:Addr→Prop):D→V→Prop
 |.aH,v=>v=.aH
 |.bl b,v=>v=.bl b
 |.int i,v=>v=.int i
 |.str x,v=>v=.str x
 |.tup ds,v=>∃a xs,v=.ref a∧dF M H F a xs∧ag M H F ds xs
 |.lst ds,v=>∃a xs,v=.ref a∧gH M H F a xs∧ag M H F ds xs
 |.aw ks ds,v=>∃a xs,v=.ref a∧dC M H F a (ks.zip xs)∧ks.length=xs.length∧ag M H F ds xs
 |.cD c ns ds,v=>∃(a:Addr) (_u:Unit),v=.ref a∧¬F a∧((ns=[]∧∃C,H a=some (HB a C)∧PySem.W.nsIn M.K mainGlobals c=some (some (.ref C)))∨(ns≠[]∧∃o xs,H a=some (.frz o (.tup xs))∧o.dict=none∧ag M H F ds xs))
noncomputable def ag(M:Md)(H:Hp)(F:Addr→Prop):List D→List V→Prop
 |[],xs=>xs=[]
 |d::ds,xs=>∃x r,xs=x::r∧Rep M H F d x∧ag M H F ds r
end
def Mv(F:Addr→Prop)(H:Hp)(F':Addr→Prop)(H':Hp):Prop:=∀a o,¬F a→H a=some o→¬F' a∧H' a=some o
theorem Mv.same{F:Addr→Prop}{H H':Hp}(h:aq H H'):Mv F H F H':=fun a o n e=>⟨n,h a o e⟩
theorem Mv.trans{F F1 F2:Addr→Prop}{H H1 H2:Hp}(a:Mv F H F1 H1)(b:Mv F1 H1 F2 H2):Mv F H F2 H2:=fun c o n e=>b c o (a c o n e).1 (a c o n e).2
section
variable{M:Md}{H H':Hp}{F F':Addr→Prop}{a:Addr}{xs:List V}
theorem yQ(m:Mv F H F' H')(n:¬F a)(h:Rd H a u):¬F' a∧Rd H' a u:=by
 rcases h with h|⟨o,h⟩
 ·exact⟨(m _ _ n h).1,.inl (m _ _ n h).2⟩
 ·exact⟨(m _ _ n h).1,.inr ⟨o,(m _ _ n h).2⟩⟩
theorem gH.mv(m:Mv F H F' H')(h:gH M H F a xs):gH M H' F' a xs:=by
 rcases h with⟨n,h⟩|h
 ·exact .inl (yQ m n h)
 ·exact .inr h
theorem dF.mv(m:Mv F H F' H')(h:dF M H F a xs):dF M H' F' a xs:=by
 rcases h with⟨n,h⟩|h
 ·exact .inl (yQ m n h)
 ·exact .inr h
theorem dC.mv{kvs:List (Key×V)}(m:Mv F H F' H')(h:dC M H F a kvs):dC M H' F' a kvs:=by
 rcases h with⟨n,ob,h⟩|h
 ·exact .inl ⟨(m _ _ n h).1,ob,(m _ _ n h).2⟩
 ·exact .inr h
mutual
theorem Rep.mv(m:Mv F H F' H'):∀ {d:D} {v:V},Rep M H F d v→Rep M H' F' d v
 |.aH,_,h=>by simp only[Rep]at h ⊢;exact h
 |.bl _,_,h=>by simp only[Rep]at h ⊢;exact h
 |.int _,_,h=>by simp only[Rep]at h ⊢;exact h
 |.str _,_,h=>by simp only[Rep]at h ⊢;exact h
 | .tup ds,_,h=>by
   simp only[Rep]at h ⊢;obtain⟨a,xs,e,t,r⟩:=h;exact⟨a,xs,e,t.mv m,ag.mv m r⟩
 | .lst ds,_,h=>by
   simp only[Rep]at h ⊢;obtain⟨a,xs,e,t,r⟩:=h;exact⟨a,xs,e,t.mv m,ag.mv m r⟩
 | .aw ks ds,_,h=>by
   simp only[Rep]at h ⊢;obtain⟨a,xs,e,t,l,r⟩:=h;exact⟨a,xs,e,t.mv m,l,ag.mv m r⟩
 | .cD _ _ _,_,h=>by
   simp only[Rep]at h ⊢;obtain⟨a,_,e,n,h⟩:=h;rcases h with⟨z,C,q,k⟩|⟨z,o,xs,q,hd,r⟩
   ·exact⟨a,(),e,(m _ _ n q).1,.inl ⟨z,C,(m _ _ n q).2,k⟩⟩
   ·exact⟨a,(),e,(m _ _ n q).1,.inr ⟨z,o,xs,(m _ _ n q).2,hd,ag.mv m r⟩⟩
theorem ag.mv(m:Mv F H F' H'):∀ {ds:List D} {xs:List V},ag M H F ds xs→ag M H' F' ds xs
 |[],_,h=>by simp only[ag]at h ⊢;exact h
 | d::ds,_,h=>by
   simp only[ag]at h ⊢;obtain⟨x,r,e,h1,h2⟩:=h;exact⟨x,r,e,Rep.mv m h1,ag.mv m h2⟩
end
theorem ag.length:∀ {ds:List D} {xs:List V},ag M H F ds xs→ds.length=xs.length
 |[],_,h=>by simp only[ag]at h;subst h;rfl
 | d::ds,_,h=>by
   simp only[ag]at h;obtain⟨x,r,rfl,_,h2⟩:=h;simp[ag.length h2]
theorem ag.get:∀ {ds:List D} {xs:List V} {i:Nat} {d:D},ag M H F ds xs→ds[i]? =some d→∃x,xs[i]? =some x∧Rep M H F d x
 |[],_,_,_,_,e=>by simp at e
 | d::ds,_,0,_,h,e=>by
   simp only[ag]at h;obtain⟨x,r,rfl,h1,_⟩:=h;simp at e;subst e;exact⟨x,rfl,h1⟩
 | d::ds,_,i+1,_,h,e=>by
   simp only[ag]at h;obtain⟨x,r,rfl,_,h2⟩:=h;obtain⟨y,e1,h3⟩:=ag.get h2 (by simpa using e)
   exact⟨y,by simpa using e1,h3⟩
theorem ag.append:∀ {ds es:List D} {xs ys:List V},ag M H F ds xs→ag M H F es ys→ag M H F (ds++es) (xs++ys)
 |[],_,_,_,h,g=>by simp only[ag]at h;subst h;exact g
 | d::ds,_,_,_,h,g=>by
   simp only[ag]at h;obtain⟨x,r,rfl,h1,h2⟩:=h;simp only[List.cons_append,ag];exact⟨x,_,rfl,h1,ag.append h2 g⟩
theorem ag.take:∀ {ds:List D} {xs:List V} (n:Nat),ag M H F ds xs→ag M H F (ds.take n) (xs.take n)
 |_,_,0,_=>by simp[ag]
 |[],_,n+1,h=>by simp only[ag]at h;subst h;simp[ag]
 | d::ds,_,n+1,h=>by
   simp only[ag]at h;obtain⟨x,r,rfl,h1,h2⟩:=h;simp only[List.take_succ_cons,ag];exact⟨x,_,rfl,h1,ag.take n h2⟩
theorem ag.drop:∀ {ds:List D} {xs:List V} (n:Nat),ag M H F ds xs→ag M H F (ds.drop n) (xs.drop n)
 |_,_,0,h=>h
 |[],_,n+1,h=>by simp only[ag]at h;subst h;simp[ag]
 | d::ds,_,n+1,h=>by
   simp only[ag]at h;obtain⟨x,r,rfl,h1,h2⟩:=h;exact ag.drop n h2
theorem ag.nil:ag M H F [] []:=by simp[ag]
theorem ag.cons{d:D}{x:V}{ds:List D}(h:Rep M H F d x)(t:ag M H F ds xs):ag M H F (d::ds) (x::xs):=by
 simp only[ag];exact⟨_,_,rfl,h,t⟩
theorem ag.set:∀ {ds:List D} {xs:List V} {d:D} {x:V} (i:Nat),Rep M H F d x→ag M H F ds xs→ag M H F (ds.set i d) (xs.set i x)
 |[],_,_,_,_,_,h=>by simp only[ag]at h;subst h;exact ag.nil
 | d::ds,_,_,_,0,g,h=>by
   simp only[ag]at h;obtain⟨y,r,rfl,_,h2⟩:=h;exact ag.cons g h2
 | d::ds,_,_,_,i+1,g,h=>by
   simp only[ag]at h;obtain⟨y,r,rfl,h1,h2⟩:=h;exact ag.cons h1 (ag.set i g h2)
end
def bp(ρ:En)(i:Nat):Prop:=(∃ds,ρ[i]? =some (.ol ds))∨∃ks ds,ρ[i]? =some (.od ks ds)
mutual
noncomputable def ak(M:Md)(H:Hp)(F:Addr→Prop):T→V→List Addr→Prop
 |.d x,v,as=>as=[]∧Rep M H F x v
 |.l ts,v,as=>∃a xs bs,v=.ref a∧as=a::bs∧F a∧H a=some (.lst xs)∧av M H F ts xs bs
 |.m ks ts,v,as=>∃a xs bs,v=.ref a∧as=a::bs∧F a∧H a=some (.dK (ks.zip xs))∧ks.length=xs.length∧av M H F ts xs bs
 |.tu ts,v,as=>∃a xs,v=.ref a∧¬F a∧H a=some (.tup xs)∧av M H F ts xs as
noncomputable def av(M:Md)(H:Hp)(F:Addr→Prop):List T→List V→List Addr→Prop
 |[],xs,as=>xs=[]∧as=[]
 |t::ts,xs,as=>∃x r bs cs,xs=x::r∧as=bs++cs∧ak M H F t x bs∧av M H F ts r cs
end
mutual
theorem ak.mv{M:Md}{H H':Hp}{F F':Addr→Prop}(m:Mv F H F' H'):∀ {t:T} {v:V} {as:List Addr},(∀b∈as,∀u,F b→H b=some u→F' b∧H' b=some u)→ak M H F t v as→ak M H' F' t v as
 | .d x,v,as,_,h=>by
   simp only[ak]at h ⊢;exact⟨h.1,h.2.mv m⟩
 | .l ts,v,as,k,h=>by
   simp only[ak]at h ⊢;obtain⟨a,xs,bs,e1,rfl,f,e2,r⟩:=h;obtain⟨f',e'⟩:=k a List.mem_cons_self _ f e2;exact⟨a,xs,bs,e1,rfl,f',e',av.mv m (fun b hb=>k b (List.mem_cons_of_mem _ hb)) r⟩
 | .m ks ts,v,as,k,h=>by
   simp only[ak]at h ⊢;obtain⟨a,xs,bs,e1,rfl,f,e2,l,r⟩:=h;obtain⟨f',e'⟩:=k a List.mem_cons_self _ f e2;exact⟨a,xs,bs,e1,rfl,f',e',l,av.mv m (fun b hb=>k b (List.mem_cons_of_mem _ hb)) r⟩
 | .tu ts,v,as,k,h=>by
   simp only[ak]at h ⊢;obtain⟨a,xs,e1,f,e2,r⟩:=h;exact⟨a,xs,e1,(m _ _ f e2).1,(m _ _ f e2).2,av.mv m k r⟩
theorem av.mv{M:Md}{H H':Hp}{F F':Addr→Prop}(m:Mv F H F' H'):∀ {ts:List T} {xs:List V} {as:List Addr},(∀b∈as,∀u,F b→H b=some u→F' b∧H' b=some u)→av M H F ts xs as→av M H' F' ts xs as
 |[],xs,as,_,h=>by simp only[av]at h ⊢;exact h
 | t::ts,xs,as,k,h=>by
   simp only[av]at h ⊢;obtain⟨x,r,bs,cs,e1,rfl,h1,h2⟩:=h;exact⟨x,r,bs,cs,e1,rfl,ak.mv m (fun b hb=>k b (List.mem_append_left _ hb)) h1,av.mv m (fun b hb=>k b (List.mem_append_right _ hb)) h2⟩
end
mutual
theorem ak.det(m:∀a xs,¬F a→H a=some (.tup xs)→∀ys,H' a=some (.tup ys)→xs=ys):∀ {t:T} {v:V} {as LD:List Addr},ak M H F t v as→ak M H' F' t v LD→(∀b∈as,∀u,F b→H b=some u→H' b=some u)→as=LD
 | .d x,v,as,LD,h,h',_=>by
   simp only[ak]at h h';rw[h.1,h'.1]
 | .l ts,v,as,LD,h,h',k=>by
   simp only[ak]at h h';obtain⟨a,xs,bs,rfl,rfl,f,e2,r⟩:=h;obtain⟨a',Nz,NT,e1,rfl,f',MO,r'⟩:=h';cases e1;have e3:=k a List.mem_cons_self _ f e2;rw[MO]at e3;cases e3;rw[av.det m r r' fun b hb=>k b (List.mem_cons_of_mem _ hb)]
 | .m ks ts,v,as,LD,h,h',k=>by
   simp only[ak]at h h';obtain⟨a,xs,bs,rfl,rfl,f,e2,l,r⟩:=h;obtain⟨a',Nz,NT,e1,rfl,f',MO,l',r'⟩:=h';cases e1;have e3:=k a List.mem_cons_self _ f e2;rw[MO]at e3;have e4:ks.zip Nz=ks.zip xs:=by injection e3 with e3;injection e3
   have e5:Nz=xs:=by
     have h1:=congrArg (List.map Prod.snd) e4;rw[List.map_snd_zip (by omega),List.map_snd_zip (by omega)]at h1
     exact h1
   subst e5;rw[av.det m r r' fun b hb=>k b (List.mem_cons_of_mem _ hb)]
 | .tu ts,v,as,LD,h,h',k=>by
   simp only[ak]at h h';obtain⟨a,xs,rfl,f,e2,r⟩:=h;obtain⟨a',Nz,e1,f',MO,r'⟩:=h';cases e1;have:=m a xs f e2 Nz MO;subst this;exact av.det m r r' k
theorem av.det(m:∀a xs,¬F a→H a=some (.tup xs)→∀ys,H' a=some (.tup ys)→xs=ys):∀ {ts:List T} {xs:List V} {as LD:List Addr},av M H F ts xs as→av M H' F' ts xs LD→(∀b∈as,∀u,F b→H b=some u→H' b=some u)→as=LD
 | [],xs,as,LD,h,h',_=>by
   simp only[av]at h h';rw[h.2,h'.2]
 | t::ts,xs,as,LD,h,h',k=>by
   simp only[av]at h h';obtain⟨x,r,bs,cs,rfl,rfl,h1,h2⟩:=h;obtain⟨x',r',NT,My,e1,rfl,PM,Nb⟩:=h';cases e1;rw[ak.det m h1 PM fun b hb=>k b (List.mem_append_left _ hb),av.det m h2 Nb fun b hb=>k b (List.mem_append_right _ hb)]
end
theorem ak.gx(h:ak M H F t v as)(h':ak M H F' t v LD):as=LD:=
 ak.det (fun a xs _ e ys e'=>by rw[e]at e';injection e' with z;injection z) h h' fun _ _ _ _ hu=>hu
mutual
theorem ak.fs{M:Md}{H:Hp}{F:Addr→Prop}:∀ {t:T} {v:V} {as:List Addr},ak M H F t v as→∀b∈as,F b∧∃u,H b=some u
 | .d x,v,as,h,b,hb=>by
   simp only[ak]at h;rw[h.1]at hb;cases hb
 | .l ts,v,as,h,b,hb=>by
   simp only[ak]at h;obtain⟨a,xs,bs,rfl,rfl,f,e2,r⟩:=h;rcases List.mem_cons.mp hb with rfl|hb
   ·exact⟨f,_,e2⟩
   ·exact av.fs r b hb
 | .m ks ts,v,as,h,b,hb=>by
   simp only[ak]at h;obtain⟨a,xs,bs,rfl,rfl,f,e2,l,r⟩:=h;rcases List.mem_cons.mp hb with rfl|hb
   ·exact⟨f,_,e2⟩
   ·exact av.fs r b hb
 | .tu ts,v,as,h,b,hb=>by
   simp only[ak]at h;obtain⟨a,xs,rfl,f,e2,r⟩:=h;exact av.fs r b hb
theorem av.fs{M:Md}{H:Hp}{F:Addr→Prop}:∀ {ts:List T} {xs:List V} {as:List Addr},av M H F ts xs as→∀b∈as,F b∧∃u,H b=some u
 | [],xs,as,h,b,hb=>by
   simp only[av]at h;rw[h.2]at hb;cases hb
 | t::ts,xs,as,h,b,hb=>by
   simp only[av]at h;obtain⟨x,r,bs,cs,rfl,rfl,h1,h2⟩:=h;rcases List.mem_append.mp hb with hb|hb
   ·exact ak.fs h1 b hb
   ·exact av.fs h2 b hb
end
def aD(H:Hp):T→V→List Nat→T→V→Prop
 |t,v,[],t',w=>t=t'∧v=w
 |.l ts,v,k::p,t',w=>∃a xs t1 x1,v=.ref a∧H a=some (.lst xs)∧ts[k]? =some t1∧xs[k]? =some x1∧aD H t1 x1 p t' w
 |.m ks ts,v,k::p,t',w=>∃a xs t1 x1,v=.ref a∧H a=some (.dK (ks.zip xs))∧ks.length=xs.length∧ts[k]? =some t1∧xs[k]? =some x1∧aD H t1 x1 p t' w
 |.d _,_,_::_,_,_=>False
 |.tu ts,v,k::p,t',w=>∃a xs t1 x1,v=.ref a∧H a=some (.tup xs)∧ts[k]? =some t1∧xs[k]? =some x1∧aD H t1 x1 p t' w
theorem av.get:∀ {ts:List T} {xs:List V} {as:List Addr} {k:Nat} {t:T} {x:V},av M H F ts xs as→ts[k]? =some t→xs[k]? =some x→∃bs,ak M H F t x bs∧∀b∈bs,b∈as
 |[],_,_,_,_,_,_,e,_=>by simp at e
 | t::ts,xs,as,0,_,_,h,e,e'=>by
   simp only[av]at h;obtain⟨x,r,bs,cs,rfl,rfl,h1,h2⟩:=h;cases e;cases e';exact⟨bs,h1,fun b hb=>List.mem_append_left _ hb⟩
 | t::ts,xs,as,k+1,_,_,h,e,e'=>by
   simp only[av]at h;obtain⟨x,r,bs,cs,rfl,rfl,h1,h2⟩:=h;obtain⟨ds,h3,h4⟩:=av.get h2 (by simpa using e) (by simpa using e')
   exact⟨ds,h3,fun b hb=>List.mem_append_right _ (h4 b hb)⟩
theorem aD.mv{M:Md}{H H':Hp}{F:Addr→Prop}(m:∀a o,¬F a→H a=some o→H' a=some o):∀ {p:List Nat} {t:T} {v:V} {t':T} {w:V} {as:List Addr},ak M H F t v as→(∀b∈as,∀u,F b→H b=some u→H' b=some u)→aD H t v p t' w→aD H' t v p t' w
 | [],t,v,t',w,as,_,_,h=>by
   cases t<;>exact h
 | k::p,.l ts,v,t',w,as,r,hk,h=>by
   simp only[aD]at h ⊢;simp only[ak]at r;obtain⟨a,xs,t1,x1,rfl,e,e1,e2,h⟩:=h;obtain⟨a',Nz,bs,ea,rfl,f,e',rs⟩:=r;cases ea;have e9:xs=Nz:=by rw[e']at e;injection e with e;injection e with e;exact e.symm
   subst e9;obtain⟨ds,r1,sub⟩:=rs.get e1 e2;exact⟨a,xs,t1,x1,rfl,hk a List.mem_cons_self _ f e',e1,e2,aD.mv m r1 (fun b hb=>hk b (List.mem_cons_of_mem _ (sub b hb))) h⟩
 | k::p,.m ks ts,v,t',w,as,r,hk,h=>by
   simp only[aD]at h ⊢;simp only[ak]at r;obtain⟨a,xs,t1,x1,rfl,e,l,e1,e2,h⟩:=h;obtain⟨a',Nz,bs,ea,rfl,f,e',l',rs⟩:=r;cases ea;rw[e']at e
   have e5:Nz=xs:=by
     have e4:ks.zip Nz=ks.zip xs:=by injection e with e;injection e
     have h1:=congrArg (List.map Prod.snd) e4;rw[List.map_snd_zip (by omega),List.map_snd_zip (by omega)]at h1
     exact h1
   subst e5;obtain⟨ds,r1,sub⟩:=rs.get e1 e2;exact⟨a,Nz,t1,x1,rfl,hk a List.mem_cons_self _ f e',l,e1,e2,aD.mv m r1 (fun b hb=>hk b (List.mem_cons_of_mem _ (sub b hb))) h⟩
 |k::p,.d _,v,t',w,as,_,_,h=>h.elim
 | k::p,.tu ts,v,t',w,as,r,hk,h=>by
   simp only[aD]at h ⊢;simp only[ak]at r;obtain⟨a,xs,t1,x1,rfl,e,e1,e2,h⟩:=h;obtain⟨a',Nz,ea,f,e',rs⟩:=r;cases ea;have e9:xs=Nz:=by rw[e']at e;injection e with e;injection e with e;exact e.symm
   subst e9;obtain⟨ds,r1,sub⟩:=rs.get e1 e2;exact⟨a,xs,t1,x1,rfl,m _ _ f e',e1,e2,aD.mv m r1 (fun b hb=>hk b (sub b hb)) h⟩
def cR(M:Md)(H:Hp)(F:Addr→Prop)(σ:St)(ρ:En)(i:Nat)(b:Addr):Prop:=∃t v as,ρ[i]? =some (.on (.tr t))∧σ[i]? =some (some v)∧ak M H F t v as∧b∈as
def CB(M:Md)(H:Hp)(F:Addr→Prop)(σ:St)(ρ:En)(i:Nat):Sp→Prop
 |.tr t=>∃v as,σ[i]? =some (some v)∧ak M H F t v as∧as.Nodup
 |.al k p=>∀t,ρ[k]? =some (.on (.tr t))→∃v w t',σ[k]? =some (some v)∧σ[i]? =some (some w)∧aD H t v p t' w∧t'.own=true
def gF(M:Md)(H:Hp)(F:Addr→Prop)(σ:St)(ρ:En):Prop:=∀i x,ρ[i]? =some (.on x)→
 CB M H F σ ρ i x∧(∀b,cR M H F σ ρ i b→∀j,bp ρ j→σ[j]? ≠some (some (.ref b)))∧∀t,x=.tr t→∀j t',ρ[j]? =some (.on (.tr t'))→j=i
theorem gF.no{M:Md}{H:Hp}{F:Addr→Prop}{σ:St}{ρ:En}(h:∀(i:Nat) x,ρ[i]? ≠some (.on x)):gF M H F σ ρ:=fun i x e=>absurd e (h i x)
theorem gF.back{M:Md}{H H':Hp}{F F':Addr→Prop}{σ J':St}{ρ ρ':En}{i:Nat}{b:Addr}(r:gF M H F σ ρ)(hr:∀x,ρ'[i]? =some (.on x)→ρ[i]? =some (.on x))(hs:J'[i]? =σ[i]?)
   (hk:∀a u,cR M H F σ ρ i a→F a→H a=some u→H' a=some u) (m:∀a o,¬F a→H a=some o→H' a=some o) (h:cR M H' F' J' ρ' i b):cR M H F σ ρ i b:=by
 obtain⟨t,v,as,e,ev,tr,hb⟩:=h;have e0:=hr _ e;obtain⟨⟨v',LD,SE,MD,nd⟩,_,_⟩:=r i _ e0;rw[hs,SE]at ev;cases ev;have:=ak.det (fun a xs n e ys e'=>by rw[m a _ n e]at e';injection e' with z;injection z) MD tr fun c hc u f hu=>hk c u ⟨t,v,LD,e0,SE,MD,hc⟩ f hu
 subst this;exact⟨t,v,LD,e0,SE,MD,hb⟩
theorem gF.mv{M:Md}{H H':Hp}{F F':Addr→Prop}{σ J':St}{ρ ρ':En}(r:gF M H F σ ρ)(m:Mv F H F' H')(Mu:∀(j:Nat) x,ρ'[j]? =some (.on x)→ρ[j]? =some (.on x)∧J'[j]? =σ[j]?)
   (hk:∀(j:Nat) x b u,ρ'[j]? =some (.on x)→cR M H F σ ρ j b→F b→H b=some u→F' b∧H' b=some u)
   (ho:∀(j:Nat) x b,ρ'[j]? =some (.on x)→cR M H F σ ρ j b→∀k:Nat,bp ρ' k→J'[k]? ≠some (some (.ref b))):gF M H' F' J' ρ':=fun i x e=>by
 obtain⟨e0,es⟩:=Mu i x e;obtain⟨h1,h2,h3⟩:=r i x e0;refine⟨?_,fun b hb k ok=>?_,fun t ht j t' ej=>h3 t ht j t' (Mu j _ ej).1⟩
 · cases x with
   | tr t=>
     obtain⟨v,as,ev,tr,nd⟩:=h1;exact⟨v,as,by rw[es];exact ev,tr.mv m fun b hb u f hu=>hk i _ b u e ⟨t,v,as,e0,ev,tr,hb⟩ f hu,nd⟩
   | al k p=>
     intro t et;obtain⟨ek,U'⟩:=Mu k _ et;obtain⟨v,w,t',e1,e2,at',ow⟩:=h1 t ek;obtain⟨⟨v',as,P4,tr,_⟩,_,_⟩:=r k _ ek;rw[e1]at P4;cases P4;exact⟨v,w,t',by rw[U'];exact e1,by rw[es];exact e2,at'.mv (fun a o n e=>(m a o n e).2) tr fun b hb u f hu=>(hk k _ b u et ⟨t,v,as,ek,e1,tr,hb⟩ f hu).2,ow⟩
 ·refine ho i x b e (r.back (fun y ey=>(Mu i y ey).1) es (fun c u hc f hu=>(hk i x c u e hc f hu).2) (fun a o n e=>(m a o n e).2) hb) k ok
theorem gF.f{M:Md}{H:Hp}{F:Addr→Prop}{σ:St}{ρ:En}{i:Nat}{b:Addr}(h:cR M H F σ ρ i b):F b∧∃u,H b=some u:=by
 obtain⟨t,v,as,e,ev,tr,hb⟩:=h;exact tr.fs b hb
structure bj(M:Md)(H:Hp)(F:Addr→Prop)(σ:St)(ρ:En):Prop where
 len:ρ.length=σ.length
 aX:∀a,F a→∃o,H a=some o
 sh:∀(i:Nat) d,ρ[i]? =some (.sh d)→∃v,σ[i]? =some (some v)∧Rep M H F d v
 ol:∀(i:Nat) ds,ρ[i]? =some (.ol ds)→∃a xs,σ[i]? =some (some (.ref a))∧F a∧H a=some (.lst xs)∧ag M H F ds xs
 od:∀(i:Nat) ks ds,ρ[i]? =some (.od ks ds)→∃a xs,σ[i]? =some (some (.ref a))∧F a∧H a=some (.dK (ks.zip xs))∧ks.length=xs.length∧ag M H F ds xs
 cn:∀(i j:Nat) a,bp ρ i→bp ρ j→σ[i]? =some (some (.ref a))→σ[j]? =some (some (.ref a))→i=j
 on:gF M H F σ ρ
section
variable{M:Md}{H H':Hp}{F F':Addr→Prop}{σ:St}{ρ:En}
theorem bj.same(r:bj M H F σ ρ)(h:aq H H'):bj M H' F σ ρ where
 len:=r.len
 aX a f:=let⟨o,e⟩:=r.aX a f;⟨o,h _ _ e⟩
 sh i d e:=let⟨v,e1,q⟩:=r.sh i d e;⟨v,e1,q.mv (.same h)⟩
 ol i ds e:=let⟨a,xs,e1,f,e2,q⟩:=r.ol i ds e;⟨a,xs,e1,f,h _ _ e2,q.mv (.same h)⟩
 od i ks ds e:=let⟨a,xs,e1,f,e2,l,q⟩:=r.od i ks ds e;⟨a,xs,e1,f,h _ _ e2,l,q.mv (.same h)⟩
 cn:=r.cn
 on:=r.on.mv (.same h) (fun j Lw e=>⟨e,rfl⟩) (fun j Lw b u e hb f hu=>⟨f,h _ _ hu⟩) fun j Lw b e hb k ok=>(r.on j Lw e).2.1 b hb k ok
theorem get_set{α:Type}{l:List α}{i j:Nat}{x y:α}(h:(l.set i x)[j]? =some y):(i=j∧x=y∧i<l.length)∨(i≠j∧l[j]? =some y):=by
 by_cases e:i=j
 · subst e
   rw[List.getElem?_set_self']at h;cases q:l[i]? with
   |none=>rw[q]at h;cases h
   | some z=>
     rw[q]at h;obtain⟨hl,_⟩:=List.getElem?_eq_some_iff.mp q;simp at h;exact .inl ⟨rfl,h,hl⟩
 · rw[List.getElem?_set_ne e]at h
   exact .inr ⟨e,h⟩
theorem bj.o6{i:Nat}{d:D}{v:V}(r:bj M H F σ ρ)(h:Rep M H F d v):bj M H F (σ.set i (some v)) (ρ.set i (.sh d)) where
 len:=by simp[r.len]
 aX:=r.aX
 sh j e q:=by
   rcases get_set q with⟨rfl,hx,hl⟩|⟨C',q⟩
   · cases hx
     exact⟨v,by rw[List.getElem?_set_self (by rw[←r.len];exact hl)],h⟩
   · obtain⟨w,e1,g⟩:=r.sh j e q
     exact⟨w,by rw[List.getElem?_set_ne C'];exact e1,g⟩
 ol j e q:=by
   rcases get_set q with⟨rfl,x,hl⟩|⟨C',q⟩
   ·cases x
   · obtain⟨a,xs,e1,g⟩:=r.ol j e q
     exact⟨a,xs,by rw[List.getElem?_set_ne C'];exact e1,g⟩
 od j k e q:=by
   rcases get_set q with⟨rfl,x,hl⟩|⟨C',q⟩
   ·cases x
   · obtain⟨a,xs,e1,g⟩:=r.od j k e q
     exact⟨a,xs,by rw[List.getElem?_set_ne C'];exact e1,g⟩
 cn j k a oj ok ej ek:=by
   have nj:i≠j:=by
     rintro rfl;rcases oj with⟨ds,q⟩|⟨ks,ds,q⟩
     · rcases get_set q with⟨_,x,_⟩|⟨C',_⟩
       ·cases x
       ·exact C' rfl
     · rcases get_set q with⟨_,x,_⟩|⟨C',_⟩
       ·cases x
       ·exact C' rfl
   have nk:i≠k:=by
     rintro rfl;rcases ok with⟨ds,q⟩|⟨ks,ds,q⟩
     · rcases get_set q with⟨_,x,_⟩|⟨C',_⟩
       ·cases x
       ·exact C' rfl
     · rcases get_set q with⟨_,x,_⟩|⟨C',_⟩
       ·cases x
       ·exact C' rfl
   rw[List.getElem?_set_ne nj]at ej;rw[List.getElem?_set_ne nk]at ek;refine r.cn j k a ?_ ?_ ej ek
   ·unfold bp at oj;simp only[List.getElem?_set_ne nj]at oj;exact oj
   ·unfold bp at ok;simp only[List.getElem?_set_ne nk]at ok;exact ok
 on := r.on.mv (fun _ _ n e=>⟨n,e⟩) (fun j Lw e=>by
     rcases get_set e with⟨_,x,_⟩|⟨C',e⟩
     ·cases x
     ·exact⟨e,List.getElem?_set_ne C'⟩) (fun j Lw b u e hb f hu=>⟨f,hu⟩) fun j Lw b e hb k ok=>by
   have e0:ρ[j]? =some (.on Lw):=by
     rcases get_set e with⟨_,x,_⟩|⟨C',e⟩
     ·cases x
     ·exact e
   have nk:i≠k:=by
     rintro rfl;rcases ok with⟨ds,q⟩|⟨ks,ds,q⟩
     · rcases get_set q with⟨_,x,_⟩|⟨C',_⟩
       ·cases x
       ·exact C' rfl
     · rcases get_set q with⟨_,x,_⟩|⟨C',_⟩
       ·cases x
       ·exact C' rfl
   rw[List.getElem?_set_ne nk];refine(r.on j Lw e0).2.1 b hb k ?_;unfold bp at ok;simp only[List.getElem?_set_ne nk]at ok;exact ok
end
open L2 (bh gR b5 R2 EP)
theorem az{α β:Type}{x:R α}{f:α→R β}{b:β}:x.bind f=.ok b↔∃a,x=.ok a∧f a=.ok b:=by
 cases x with
 |ok a=>simp
 |exc y=>simp
 |bad=>simp
def tP(M:Md)(f:Ex):TE:=fun σ H Q=>∃ρ F d,bj M H F σ ρ∧f ρ=.ok d∧∀v H',aq H H'→Rep M H' F d v→Q v H'
def yx(M:Md)(c:cg):TT:=fun σ H Q=>∃ρ F b,bj M H F σ ρ∧c ρ=.ok b∧∀H',aq H H'→Q b H'
def qe(M:Md)(f:En→R (List D)):TA:=fun σ H Q=>∃ρ F ds,bj M H F σ ρ∧f ρ=.ok ds∧∀vs H',aq H H'→ag M H' F ds vs→Q vs H'
abbrev JE(X:Cx)(e:Expr)(f:Ex):Prop:=PE X e (tP (aA X) f)
abbrev JT(X:Cx)(e:Expr)(c:cg):Prop:=PT X e (yx (aA X) c)
abbrev JA(X:Cx)(es:List Expr)(f:En→R (List D)):Prop:=PA X es (qe (aA X) f)
theorem bP(h:PE X e t')(hi:∀σ H Q,t σ H Q→t' σ H Q):PE X e t:=fun pins s σ H Q I q=>h pins s σ H Q I (hi σ H Q q)
theorem ox(h:PT X e t')(hi:∀σ H Q,t σ H Q→t' σ H Q):PT X e t:=fun pins s σ H Q I q=>h pins s σ H Q I (hi σ H Q q)
theorem qj(h:PA X e t')(hi:∀σ H Q,t σ H Q→t' σ H Q):PA X e t:=fun pos pins s σ H Q I q=>h pos pins s σ H Q I (hi σ H Q q)
theorem yr(h:PW X e t')(hi:∀σ H Q,t σ H Q→t' σ H Q):PW X e t:=fun wh pins s σ H Q I q=>h wh pins s σ H Q I (hi σ H Q q)
theorem aq.cm{H:Hp}{p:Addr}(h:H p=none)(o:HO):aq H (upd H p o):=fun b u q=>by rw[L2.aF (L2.eT q h)];exact q
section
variable{X:Cx}{M:Md}{H H':Hp}{F:Addr→Prop}{σ:St}{ρ:En}{pos:Pos}
theorem EM(h:aa i ρ=.ok d):ρ[i]? =some (.sh d):=by
 unfold aa at h;split at h
 ·rename_i e;cases h;exact e
 ·cases h
theorem II(i:Nat)(hN:X.N[i]? =some x:=by rfl)(hv:L2.cw X.env.scope x:=by first|exact Or.inl rfl|exact Or.inr (Or.inl rfl)|exact Or.inr (Or.inr rfl))(hd:(x==("__debug__":Str))=false:=by decide)
   (LH:(x==("__classdict__":Str))=false:=by decide):JE X (.Name x pos) (aa i):=
 bP (L2.pv i hN hv hd LH) fun σ H Q ⟨ρ,F,d,r,e,q⟩=>by
   obtain⟨v,e1,rv⟩:=r.sh i d (EM e);exact⟨v,e1,q v H (aq.refl H) rv⟩
theorem AI:JE X (.Constant (.int i) j pos) (eC (.int i)):=
 bP L2.Iq fun σ H Q ⟨ρ,F,d,r,e,q⟩=>by cases e;exact q _ H (aq.refl H) (by simp[Rep])
theorem FA:JE X (.Constant (.bool b) j pos) (eC (.bl b)):=
 bP L2.CK fun σ H Q ⟨ρ,F,d,r,e,q⟩=>by cases e;exact q _ H (aq.refl H) (by simp[Rep])
theorem Al:JE X (.Constant .none j pos) (eC .aH):=
 bP L2.B6 fun σ H Q ⟨ρ,F,d,r,e,q⟩=>by cases e;exact q _ H (aq.refl H) (by simp[Rep])
theorem B1:JE X (.Constant (.str x) j pos) (eC (.str x)):=
 bP L2.Dd fun σ H Q ⟨ρ,F,d,r,e,q⟩=>by cases e;exact q _ H (aq.refl H) (by simp[Rep])
theorem Bb(hg:L2.Gl X x)(hm:X.mg x=some u)(r:RelV v u)(hr:∀H F,Rep (aA X) H F d v)(hd:(x==("__debug__":Str))=false:=by decide):JE X (.Name x pos) (eC d):=
 bP (L2.DA hg hm r hd) fun σ H Q ⟨ρ,F,d',r,e,q⟩=>by cases e;exact q _ H (aq.refl H) (hr H F)
def cy(M:Md)(g:D→D→R D)(r:R2):Prop:=∀(F:Addr→Prop) (H:Hp) (x y:V) (a b d:D) (Q:VK),(∀p,F p→∃o,H p=some o)→Rep M H F a x→Rep M H F b y→g a b=.ok d→
 (∀v H',aq H H'→Rep M H' F d v→Q v H')→r x y H Q
def hX(M:Md)(g:List D→R D)(r:List V→Hp→VK→Prop):Prop:=∀(F:Addr→Prop) (H:Hp) (xs:List V) (as:List D) (d:D) (Q:VK),(∀p,F p→∃o,H p=some o)→ag M H F as xs→g as=.ok d→
 (∀v H',aq H H'→Rep M H' F d v→Q v H')→r xs H Q
theorem qI{g:D→D→R D}{r:R2}(hg:cy M g r){fa fb:Ex}{Q:VK}(h:tP M (e2 g fa fb) σ H Q):L2.nS r (tP M fa) (tP M fb) σ H Q:=by
 obtain⟨ρ,F,d,hr,e,q⟩:=h;obtain⟨a,ea,e⟩:=az.mp e;obtain⟨b,eb,e⟩:=az.mp e;refine⟨ρ,F,a,hr,ea,fun x H1 s1 rx=>⟨ρ,F,b,hr.same s1,eb,fun y H2 s2 ry=>?_⟩⟩;exact hg F H2 x y a b d Q ((hr.same s1).same s2).aX (rx.mv (.same s2)) ry e fun v H3 s3 rv=>q v H3 (s1.trans (s2.trans s3)) rv
theorem Fw(ho:bh X (binaryOp op) r)(hg:cy (aA X) g r)(ha:JE X a fa)(hb:JE X b fb):JE X (.BinOp a op b pos) (e2 g fa fb):=
 bP (L2.Jw ho ha hb) fun σ H Q h=>qI hg h
theorem EH(ho:bh X (compareOp op) r)(hg:cy (aA X) g r)(ha:JE X a fa)(hb:JE X b fb)(hm:behindInMarks op b=false):JE X (.Compare a [op] [b] pos) (e2 g fa fb):=
 bP (L2.Fz ho ha hb hm) fun σ H Q h=>qI hg h
theorem ck(h:Rep M H F (.int i) v):v=.int i:=by simpa only[Rep] using h
theorem gQ(h:Rep M H F (.bl i) v):v=.bl i:=by simpa only[Rep] using h
theorem fY(h:Rep M H F (.str i) v):v=.str i:=by simpa only[Rep] using h
theorem qh(h:Rep M H F .aH v):v=.aH:=by simpa only[Rep] using h
theorem fU:Rep M H F (.int i) (.int i):=by simp only[Rep]
theorem eZ:Rep M H F (.bl i) (.bl i):=by simp only[Rep]
theorem mE:Rep M H F (.str i) (.str i):=by simp only[Rep]
theorem tG:Rep M H F .aH .aH:=by simp only[Rep]
theorem wC(h:small i=true): -(2 ^ 64)<i∧i<2 ^ 64:=by
 unfold small at h;rw[Bool.and_eq_true,decide_eq_true_eq,decide_eq_true_eq]at h;exact⟨h.1,h.2⟩
theorem v9:cy M oLt (L2.ic fun i j=>.bl (decide (i<j))):=by
 intro F H x y a b d Q tr ra rb e q;unfold oLt at e;split at e
 · cases e
   exact⟨_,_,ck ra,ck rb,q _ _ (aq.refl _) eZ⟩
 ·cases e
theorem yU:cy M oLe (L2.ic fun i j=>.bl (decide (i≤j))):=by
 intro F H x y a b d Q tr ra rb e q;unfold oLe at e;split at e
 · cases e
   exact⟨_,_,ck ra,ck rb,q _ _ (aq.refl _) eZ⟩
 ·cases e
theorem nJ:cy M d6 (L2.ic fun i j=>.bl (decide (j<i))):=by
 intro F H x y a b d Q tr ra rb e q;unfold d6 at e;split at e
 · cases e
   exact⟨_,_,ck ra,ck rb,q _ _ (aq.refl _) eZ⟩
 ·cases e
theorem cH:cy M oMod (L2.rI (fun _ j=>0<j) fun i j=>.int (i % j)):=by
 intro F H x y a b d Q tr ra rb e q;unfold oMod at e;split at e
 · split at e
   · cases e
     exact⟨_,_,ck ra,ck rb,by assumption,q _ _ (aq.refl _) fU⟩
   ·cases e
 ·cases e
def ve(i j:Int):Prop:=0<j∧j<340282366920938463463374607431768211456
theorem dn : bh X (binaryOp .FloorDiv) (L2.rI ve fun i j => .int (i / j)):=by
 refine L2.t4 fun i j t u s Q E c h=>?_;have e:i / j=i.fdiv j:=(Int.fdiv_eq_ediv_of_nonneg _ (Int.le_of_lt c.1)).symm;rw[e]at h;refine PyProof.Rows.floordiv_int (by have:=c.1;omega) h (Or.inl ?_)
 refine PyProof.noPylong_of_log2 ?_;have h0:j.natAbs≠0:=by have:=c.1;omega
 have h1 : j.natAbs.log2 < 128 := (Nat.log2_lt h0).mpr (by have:=c.2;have h2:(340282366920938463463374607431768211456:Nat)=2 ^ 128:=by decide
                                                           have:=c.1;omega)
 omega
theorem dw:cy M oDiv (L2.rI ve fun i j=>.int (i / j)):=by
 intro F H x y a b d Q tr ra rb e q;unfold oDiv at e;split at e
 · split at e
   · rename_i h
     cases e;unfold tU at h;rw[Bool.and_eq_true,decide_eq_true_eq,decide_eq_true_eq]at h;exact⟨_,_,ck ra,ck rb,h,q _ _ (aq.refl _) fU⟩
   ·cases e
 ·cases e
end
section
variable{X:Cx}{M:Md}{H H':Hp}{F:Addr→Prop}{σ:L2.St}{ρ:En}{pos:Pos}{pins:List (Addr×Obj)}{s:Shared}
theorem kL(I:Inv X pins σ H s)(h:gH (aA X) H F a xs):∃(B':List Value) (n:Nat) (sl:Array (Option Value)),Vals xs B'∧s.heap.get? a=some {cls:=.type "list",data:=.seq B'.toArray n,slots:=sl}∧xs.length≤sizeLine:=by
 rcases h with⟨_,h⟩|⟨o,B',n,hk,h1,h2,h3,hz,r⟩
 · obtain⟨z,B',n,r,e⟩:=h.ok I.aI
   exact⟨B',n, #[],r,e,z⟩
 · obtain⟨c,dd,dt,sl⟩:=o
   simp only at h1 h2 h3;subst h1 h2 h3;refine⟨B'.toList,n,sl,r,by simpa using I.cE a _ hk,?_⟩
   have e:=r.length;simp only[Array.length_toList]at e;omega
theorem GL(l:Addr)(items:Array Value)(n:Nat)(sl:Array (Option Value))(b:Addr)(NC:Array Value)(n2:Nat)(O5:Array (Option Value))(Ro:items.size+NC.size≤sizeLine):
   Meets (Builtin.«list.__add__» ⟨[.ref l,.ref b],[]⟩) (fun _ R s=>s.heap.get? l=some {cls:=.type "list",dict:=none,data:=.seq items n,slots:=sl}∧s.heap.get? b=some {cls:=.type "list",dict:=none,data:=.seq NC n2,slots:=O5}∧R (.ok (.ret (Value.ref s.heap.objs.size))) {s with heap:=s.heap.push {cls:=Value.type "list",data:=Data.seq (items++NC)},toks:=s.toks}):=
 .of_wp fun prog w A R s h=>by obtain⟨hp,g,d,tk,os⟩:=s;obtain⟨hl,hb,h⟩:=h;have f1:=AutoSeq1.idx_int;have f2:=AutoSeq1.sub_tuple_tuple;have f3:=AutoSeq1.sub_list_list;have f4:=AutoSeq1.sub_tuple_list;have f5:=AutoSeq1.sub_list_tuple;wp_walk using AutoSeq1.wpAny_loadPart' hl,AutoSeq1.wpAny_loadPart' hb;exact⟨_,rfl,h⟩
theorem kR(I:Inv X pins σ H s)(h:dF (aA X) H F a xs):∃B':List Value,Vals xs B'∧PyProof.Rows.IsTup s.heap a B'.toArray∧xs.length≤sizeLine:=I.tuple h.sq
noncomputable def zz(M:Md):R2:=fun x y H Q=>∃F l b xs zs,x=.ref l∧y=.ref b∧gH M H F l xs∧gH M H F b zs∧xs.length+zs.length≤sizeLine∧∀p,H p=none→Q (.ref p) (upd H p (.lst (xs++zs)))
theorem Cc:bh X (binaryOp .Add) (zz (aA X)):=by
 intro pins s σ H x y v u Q I rx ry h;obtain⟨F,l,b,xs,zs,rfl,rfl,hH,hB,hz,q⟩:=h;cases rx;cases ry;obtain⟨B',n,sl,r,e,z⟩:=kL I hH;obtain⟨MQ,n2,O5,r2,e2,z2⟩:=kL I hB;have h1:=r.length;have h2:=r2.length;refine concat_meets ⟨_,e,rfl⟩ ⟨_,e2,rfl⟩ noFill_list_add seq_list_add PySem.F.slot_list_add PySem.F.entry_list_add (PySem.F.args_list_add_2 _ _) (GL l B'.toArray n sl b MQ.toArray n2 O5 (by rw[List.size_toArray,List.size_toArray];omega)) ⟨e,e2,?_⟩
 have ea:B'.toArray++MQ.toArray=(B'++MQ).toArray:=by simp
 rw[ea];exact⟨.ref _,_,I.HQ (t':=s.toks) (r.append r2) (by rw[List.length_append];omega),rfl,q _ I.fresh⟩
noncomputable def yS(M:Md):R2:=fun x y H Q=>(L2.ic fun i j=>.int (i+j)) x y H Q∨(∃i j,x=.str i∧y=.str j∧i.length+j.length≤sizeLine∧Q (.str (i++j)) H)∨zz M x y H Q∨L2.xG M.K x y H Q
theorem fK:bh X (binaryOp .Add) (yS (aA X)):=L2.bh.or L2.fK (L2.bh.or L2.Ed (L2.bh.or Cc L2.CZ))
theorem lH(tr:∀p,F p→∃o,H p=some o)(h:H p=none):¬F p:=fun f=>by obtain⟨o,e⟩:=tr p f;rw[h]at e;cases e
theorem oR(tr:∀p,F p→∃o,H p=some o)(h:H p=none)(r:ag M H F ds xs):Rep M (upd H p (.lst xs)) F (.lst ds) (.ref p):=by
 simp only[Rep];exact⟨p,xs,rfl,.inl ⟨lH tr h,.inl L2.bu⟩,r.mv (.same (aq.cm h _))⟩
theorem jM(tr:∀p,F p→∃o,H p=some o)(h:H p=none)(r:ag M H F ds xs):Rep M (upd H p (.tup xs)) F (.tup ds) (.ref p):=by
 simp only[Rep];exact⟨p,xs,rfl,.inl ⟨lH tr h,.inl L2.bu⟩,r.mv (.same (aq.cm h _))⟩
theorem gn:cy M d9 (yS M):=by
 intro F H x y a b d Q tr ra rb e q;unfold d9 at e;split at e
 · cases e
   exact .inl ⟨_,_,ck ra,ck rb,q _ _ (aq.refl _) fU⟩
 · split at e
   · cases e
     exact .inr (.inl ⟨_,_,fY ra,fY rb,by assumption,q _ _ (aq.refl _) mE⟩)
   ·cases e
 · split at e
   · rename_i hz
     cases e;simp only[Rep]at ra rb;obtain⟨l,xs,rfl,h1,r1⟩:=ra;obtain⟨m,zs,rfl,h2,r2⟩:=rb;refine .inr (.inr (.inl ⟨F,l,m,xs,zs,rfl,rfl,h1,h2,by rw[←r1.length, ←r2.length];exact hz,fun p hp=>q _ _ (aq.cm hp _) (oR tr hp (r1.append r2))⟩))
   ·cases e
 · split at e
   · rename_i hz
     cases e;simp only[Rep]at ra rb;obtain⟨l,xs,rfl,h1,r1⟩:=ra;obtain⟨m,zs,rfl,h2,r2⟩:=rb;have l1:=r1.length;have l2:=r2.length;refine .inr (.inr (.inr ⟨l,m,xs,zs,rfl,rfl,h1.sq,h2.sq,?_,by rw[←l1, ←l2];exact hz.2,fun e0=>?_,fun _ p hp=>q _ _ (aq.cm hp _) (jM tr hp (r1.append r2))⟩))
     · intro e0
       subst e0;have:=hz.1;rename_i as bs;cases as with
       |nil=>cases this
       |cons _ _=>simp at l1
     · subst e0
       rename_i as bs;cases bs with
       |cons _ _=>simp at l2
       | nil=>
         refine q _ _ (aq.refl _) ?_;rw[List.append_nil];simp only[Rep];exact⟨l,xs,rfl,h1,r1⟩
   ·cases e
 ·cases e
theorem BU(ha:JE X a fa):JE X (.Compare a [.Is] [.Constant .none j p2] pos) (e1 g0 fa):=
 bP (L2.Fe (L2.yG ha)) fun σ H Q ⟨ρ,F,d,hr,e,q⟩=>by
   obtain⟨a,ea,e⟩:=az.mp e;refine⟨ρ,F,a,hr,ea,fun x H1 s1 rx=>?_⟩;cases e;refine q _ _ s1 ?_;cases a<;>simp only[Rep]at rx
   all_goals first
     |(subst rx;exact eZ)
     |(obtain⟨p,xs,rfl,_⟩:=rx;exact eZ)
theorem DY(h:JE X a fa):JE X (.BoolOp op [a] pos) fa:=L2.JN h
theorem FQ(ha:JE X a fa)(hb:JE X (.BoolOp .And (b::rest) pos) fb):JE X (.BoolOp .And (a::b::rest) pos) (en fa fb):=
 bP (L2.AM ha hb) fun σ H Q ⟨ρ,F,d,hr,e,q⟩=>by
   obtain⟨a,ea,e⟩:=az.mp e;refine⟨ρ,F,a,hr,ea,fun x H1 s1 rx=>?_⟩;split at e
   ·exact⟨true,gQ rx,by rw[if_pos rfl];exact⟨ρ,F,d,hr.same s1,e,fun v H2 s2 rv=>q v H2 (s1.trans s2) rv⟩⟩
   · cases e
     exact⟨false,gQ rx,by rw[if_neg (by decide)];exact q _ _ s1 eZ⟩
   ·cases e
theorem GO(ho:bh X (compareOp op) r)(MS:bh X (compareOp op') r')(hg:cy (aA X) g r)(R7:cy (aA X) g' r')
   (ha:JE X a fa) (hb:JE X b fb) (hc:JE X c fc) (hm:lastMarks [op,op'] [b,c]=false:=by with_unfolding_all rfl):JE X (.Compare a [op,op'] [b,c] pos) (m5 g g' fa fb fc):=
 bP (L2.FP ho MS ha hb hc hm) fun σ H Q ⟨ρ,F,d,hr,e,q⟩=>by
   obtain⟨a,ea,e⟩:=az.mp e;obtain⟨b,eb,e⟩:=az.mp e;obtain⟨z,ez,e⟩:=az.mp e;refine⟨ρ,F,a,hr,ea,fun x H1 s1 rx=>⟨ρ,F,b,hr.same s1,eb,fun y H2 s2 ry=>?_⟩⟩;refine hg F H2 x y a b z _ ((hr.same s1).same s2).aX (rx.mv (.same s2)) ry ez fun v H3 s3 rv=>?_;split at e
   · obtain⟨w,ew,e⟩:=az.mp e
     refine⟨true,gQ rv,?_⟩;rw[if_pos rfl];refine⟨ρ,F,w,((hr.same s1).same s2).same s3,ew,fun u H4 s4 ru=>?_⟩;exact R7 F H4 y u b w d Q ((((hr.same s1).same s2).same s3).same s4).aX (ry.mv (.same (s3.trans s4))) ru e fun v H5 s5 rv=>q v H5 (s1.trans (s2.trans (s3.trans (s4.trans s5)))) rv
   · cases e
     exact⟨false,gQ rv,by rw[if_neg (by decide)];exact q _ _ (s1.trans (s2.trans s3)) eZ⟩
   ·cases e
theorem IE(r:Rep M H F a x)(e:truth a=.ok t):L2.sS M.K x H t:=by
 cases a with
 |aH=>cases e;cases qh r;rfl
 |bl b=>cases e;cases gQ r;rfl
 |int i=>cases e;cases ck r;rfl
 | str z=>
   unfold truth at e;dsimp only at e;split at e
   · rename_i hz
     cases e;cases fY r;refine⟨hz,?_⟩;rw[Bool.eq_iff_iff];simp
   ·cases e
 | tup ds=>
   cases e;simp only[Rep]at r;obtain⟨p,xs,rfl,h,rs⟩:=r;refine .inr (.inl ⟨xs,h.sq,?_⟩);have:=rs.length;cases ds<;>cases xs<;>simp at this ⊢
 | lst ds=>
   cases e;simp only[Rep]at r;obtain⟨p,xs,rfl,h,rs⟩:=r;refine .inl ⟨xs,h.sq,?_⟩;have:=rs.length;cases ds<;>cases xs<;>simp at this ⊢
 |aw ks ds=>cases e
 |cD _ _ _=>cases e
theorem FL(ha:JE X a fa)(he:∀whole,isTrue a X.env whole=(do let v ←whole;standAt a.pos;holding [v] (truthy v)):=by intro _;rfl):JT X a (tV fa):=
 ox (L2.JY ha he) fun σ H Q ⟨ρ,F,b,hr,e,q⟩=>by
   obtain⟨a,ea,e⟩:=az.mp e;exact⟨ρ,F,a,hr,ea,fun x H1 s1 rx=>⟨b,IE rx e,q H1 s1⟩⟩
def iL(g:D→D→R D):Prop:=∀a b d,g a b=.ok d→∃k,d=.bl k
theorem Bo(ho:bh X (compareOp op) r)(hg:cy (aA X) g r)(hB:iL g)(ha:JE X a fa)(hb:JE X b fb)(hm:behindInMarks op b=false):JT X (.Compare a [op] [b] pos) (tV (e2 g fa fb)):=
 ox (L2.BM ho ha hb hm) fun σ H Q ⟨ρ,F,t,hr,e,q⟩=>by
   obtain⟨d,ed,e⟩:=az.mp e;refine qI hg ⟨ρ,F,d,hr,ed,fun v H1 s1 rv=>?_⟩;obtain⟨a,ea,ed⟩:=az.mp ed;obtain⟨b,eb,ed⟩:=az.mp ed;obtain⟨k,rfl⟩:=hB _ _ _ ed;cases e;exact⟨_,gQ rv,q H1 s1⟩
theorem A4(ha:JE X a fa):JT X (.Compare a [.Is] [.Constant .none j p2] pos) (tV (e1 g0 fa)):=
 ox (L2.yF (L2.yG ha)) fun σ H Q ⟨ρ,F,t,hr,e,q⟩=>by
   obtain⟨d,ed,e⟩:=az.mp e;obtain⟨a,ea,ed⟩:=az.mp ed;refine⟨ρ,F,a,hr,ea,fun x H1 s1 rx=>⟨t,?_,q H1 s1⟩⟩;cases ed;cases e;cases a<;>simp only[Rep]at rx
   all_goals first
     |(subst rx;rfl)
     |(obtain⟨p,xs,rfl,_⟩:=rx;rfl)
theorem AS(ha:JE X a fa):JT X (.Compare a [.IsNot] [.Constant .none j p2] pos) (tV (e1 oE fa)):=
 ox (L2.yF (L2.BB ha)) fun σ H Q ⟨ρ,F,t,hr,e,q⟩=>by
   obtain⟨d,ed,e⟩:=az.mp e;obtain⟨a,ea,ed⟩:=az.mp ed;refine⟨ρ,F,a,hr,ea,fun x H1 s1 rx=>⟨t,?_,q H1 s1⟩⟩;cases ed;cases e;cases a<;>simp only[Rep]at rx
   all_goals first
     |(subst rx;rfl)
     |(obtain⟨p,xs,rfl,_⟩:=rx;rfl)
theorem Ff(ha:JT X a c):JT X (.UnaryOp .Not a pos) (cO c):=
 ox (L2.Bu ha) fun σ H Q ⟨ρ,F,t,hr,e,q⟩=>by
   obtain⟨b,eb,e⟩:=az.mp e;cases e;exact⟨ρ,F,b,hr,eb,fun H1 s1=>q H1 s1⟩
abbrev JW(X:Cx)(e:Expr)(c:cg):Prop:=PW X e (yx (aA X) c)
theorem E4(ha:JT X a c):JW X (.BoolOp .And [a] pos) c:=L2.HH ha
theorem CY(ha:JT X a c):JW X (.BoolOp .Or [a] pos) c:=L2.FK ha
theorem Bv(ha:JT X a c)(hb:JW X (.BoolOp .And (b::rest) pos) c'):JW X (.BoolOp .And (a::b::rest) pos) (d8 c c'):=
 yr (L2.z7 ha hb) fun σ H Q ⟨ρ,F,t,hr,e,q⟩=>by
   obtain⟨b,eb,e⟩:=az.mp e;refine⟨ρ,F,b,hr,eb,fun H1 s1=>?_⟩;split at e
   ·rename_i h;rw[if_pos h];exact⟨ρ,F,t,hr.same s1,e,fun H2 s2=>q H2 (s1.trans s2)⟩
   ·rename_i h;rw[if_neg h];cases e;exact q H1 s1
theorem HY(ha:JT X a c)(hb:JW X (.BoolOp .Or (b::rest) pos) c'):JW X (.BoolOp .Or (a::b::rest) pos) (b6 c c'):=
 yr (L2.E1 ha hb) fun σ H Q ⟨ρ,F,t,hr,e,q⟩=>by
   obtain⟨b,eb,e⟩:=az.mp e;refine⟨ρ,F,b,hr,eb,fun H1 s1=>?_⟩;split at e
   ·rename_i h;rw[if_pos h];cases e;exact q H1 s1
   ·rename_i h;rw[if_neg h];exact⟨ρ,F,t,hr.same s1,e,fun H2 s2=>q H2 (s1.trans s2)⟩
theorem Cj(h:JW X e c):JT X e c:=L2.PW.pt h
theorem gB:JA X [] (eList []):=qj L2.kb fun σ H Q ⟨ρ,F,ds,hr,e,q⟩=>by cases e;exact q [] H (aq.refl H) ag.nil
theorem fJ(ha:JE X e f)(hr:JA X es (eList fs))(hs:starEach (e::es) X.env=(false,eval e X.env)::starEach es X.env:=by rfl):JA X (e::es) (eList (f::fs)):=
 qj (L2.gJ ha hr hs) fun σ H Q ⟨ρ,F,ds,hr,e,q⟩=>by
   obtain⟨a,ea,e⟩:=az.mp e;obtain⟨as,Qh,e⟩:=az.mp e;cases e;exact⟨ρ,F,a,hr,ea,fun x H1 s1 rx=>⟨ρ,F,as,hr.same s1,Qh,fun xs H2 s2 rs=>q _ H2 (s1.trans s2) (ag.cons (rx.mv (.same s2)) rs)⟩⟩
theorem jz:∀ {fs:List Ex} {ρ:En} {ds:List D},eList fs ρ=.ok ds→ds.length=fs.length
 |[],_,_,h=>by cases h;rfl
 | f::fs,_,_,h=>by
   obtain⟨a,_,h⟩:=az.mp h;obtain⟨as,h2,h⟩:=az.mp h;cases h;simp[jz h2]
theorem Bs(h:JA X es (eList fs))(hl:fs.length≤1000:=by decide):JE X (.Tuple es k pos) (aU fs):=
 bP (L2.uN h) fun σ H Q ⟨ρ,F,d,hr,e,q⟩=>by
   obtain⟨as,ea,e⟩:=az.mp e;cases e;refine⟨ρ,F,as,hr,ea,fun xs H1 s1 rs=>⟨?_,fun p hp=>q _ _ (s1.trans (aq.cm hp _)) (jM (hr.same s1).aX hp rs)⟩⟩;rw[←rs.length,jz ea];exact Nat.le_trans hl (by decide)
theorem Jj(h:JA X es (eList fs))(hl:fs.length≤1000:=by decide):JE X (.List es pos) (cL fs):=
 bP (L2.uK h) fun σ H Q ⟨ρ,F,d,hr,e,q⟩=>by
   obtain⟨as,ea,e⟩:=az.mp e;cases e;refine⟨ρ,F,as,hr,ea,fun xs H1 s1 rs=>⟨?_,fun p hp=>q _ _ (s1.trans (aq.cm hp _)) (oR (hr.same s1).aX hp rs)⟩⟩;rw[←rs.length,jz ea];exact Nat.le_trans hl (by decide)
theorem sH(I:Inv X pins σ H s)(e:H p=some (.dK kvs)):∃ob,Inv X pins σ (upd H p (.frz ob (.dK kvs))) s:=by
 obtain⟨z,y,vs,r,ob,es,ep,eo,c⟩:=I.aI p _ e;exact⟨ob,I.write (h':=s.heap) (t':=s.toks) (by rw[e];trivial) (.inl rfl) (fun _ _ _ q=>q) ⟨ob,eo⟩ ⟨eo,z,y,vs,r,ob,es,ep,eo,c⟩⟩
theorem pB(h:PE X e t')(hi:∀σ H Q,t σ H Q→t' σ H fun v H'=>∃p kvs,v=.ref p∧H' p=some (.dK kvs)∧∀ob,Q v (upd H' p (.frz ob (.dK kvs)))):PE X e t:=by
 intro pins s σ H Q I q;refine L2.aN (h pins s σ H _ I (hi σ H Q q)) fun u s1 ⟨x,H1,I1,rx,p,kvs,ex,e1,q1⟩=>?_;obtain⟨ob,I2⟩:=sH I1 e1;exact⟨x,_,I2,rx,q1 ob⟩
theorem CQ:JE X (.Dict [] [] pos) (cz [] []):=
 pB L2.vG fun σ H Q ⟨ρ,F,d,hr,e,q⟩=>by
   cases e;intro p hp;refine⟨p,[],rfl,L2.bu,fun ob=>?_⟩;rw[L2.qM];refine q _ _ (aq.cm hp _) ?_;simp only[Rep];exact⟨p,[],rfl,.inl ⟨lH hr.aX hp,ob,L2.bu⟩,rfl,ag.nil⟩
end
section
variable{X:Cx}{M:Md}{H H':Hp}{F:Addr→Prop}{σ:L2.St}{ρ:En}{pos:Pos}{pins:List (Addr×Obj)}{s:Shared}
theorem vM{α β:Type}{xs:List α}{ys:List β}{i:Int}{x:α}(hl:xs.length=ys.length)(h:dA xs i=some x):∃j y,dP ys.length i=some j∧xs[j]? =some x∧ys[j]? =some y∧dA ys i=some y:=by
 unfold dA at h ⊢;rw[hl]at h;cases e:dP ys.length i with
 |none=>rw[e]at h;cases h
 | some j=>
   rw[e]at h;have hx:xs[j]? =some x:=h;obtain⟨hj,_⟩:=List.getElem?_eq_some_iff.mp hx;have hy:j<ys.length:=by omega
   exact⟨j,ys[j],rfl,hx,List.getElem?_eq_getElem hy,by simp[hy]⟩
theorem rH:cy M oG (L2.qT M.K):=by
 intro F H x y a b d Q tr ra rb e q;unfold oG at e;split at e
 · split at e
   · rename_i xs i _ v hv
     cases e;simp only[Rep]at ra;obtain⟨p,ys,rfl,h,rs⟩:=ra;obtain⟨j,y,_,h1,h2,h3⟩:=vM rs.length hv;obtain⟨z,hz,rz⟩:=rs.get h1;rw[h2]at hz;cases hz;exact .inl ⟨p,ys,_,y,rfl,ck rb,h.sq,h3,q _ _ (aq.refl _) rz⟩
   ·cases e
 · split at e
   · rename_i xs i _ v hv
     cases e;simp only[Rep]at ra;obtain⟨p,ys,rfl,h,rs⟩:=ra;obtain⟨j,y,_,h1,h2,h3⟩:=vM rs.length hv;obtain⟨z,hz,rz⟩:=rs.get h1;rw[h2]at hz;cases hz;exact .inr (.inl ⟨p,ys,_,y,rfl,ck rb,h.sq,h3,q _ _ (aq.refl _) rz⟩)
   ·cases e
 · split at e
   · split at e
     · rename_i hz _ c hc
       cases e;exact .inr (.inr ⟨_,_,c,fY ra,ck rb,hz,hc,q _ _ (aq.refl _) mE⟩)
     ·cases e
   ·cases e
 ·cases e
theorem sJ(n d:Nat)(o:Option Int):HT.aZ n d o=aZ n d o:=by cases o<;>rfl
theorem yV(xs:List V)(lo hi:Option Int):L2.iT xs lo hi=cut xs lo hi:=by unfold L2.iT cut;simp only[sJ]
theorem ag.cut(lo hi:Option Int)(r:ag M H F ds xs):ag M H F (cut ds lo hi) (PL.cut xs lo hi):=by
 unfold PL.cut;rw[r.length];exact(r.drop _).take _
noncomputable def ED(M:Md)(f:En→R (Option Int)):L2.TO:=fun σ H Q=>∃ρ F o,bj M H F σ ρ∧f ρ=.ok o∧∀H',aq H H'→Q o H'
abbrev JO(X:Cx)(e:Option Expr)(f:Option Ex):Prop:=L2.PO X e (ED (aA X) (sC f))
theorem B4(h:JE X e f):JO X (some e) (some f):=fun pins s σ H Q I ⟨ρ,F,o,hr,e,q⟩=>by
 obtain⟨a,ea,e⟩:=az.mp e;refine L2.GD h pins s σ H Q I ⟨ρ,F,a,hr,ea,fun x H1 s1 rx=>?_⟩;split at e
 ·cases e;exact⟨_,ck rx,q H1 s1⟩
 ·cases e
theorem Jp(ha:JE X a fa)(hl:JO X lo fl)(hh:JO X hi fh):JE X (.Subscript a (.Slice lo hi none p2) pos) (pT fa fl fh):=
 bP (L2.A1 (L2.iY.or L2.IC L2.Je) ha hl hh) fun σ H Q ⟨ρ,F,d,hr,e,q⟩=>by
   obtain⟨a,ea,e⟩:=az.mp e;obtain⟨l,el,e⟩:=az.mp e;obtain⟨h,eh,e⟩:=az.mp e;refine⟨ρ,F,a,hr,ea,fun x H1 s1 rx=>⟨ρ,F,l,hr.same s1,el,fun H2 s2=>⟨ρ,F,h,(hr.same s1).same s2,eh,fun H3 s3=>?_⟩⟩⟩;have Rj:=rx.mv (.same (s2.trans s3));have tr:=(((hr.same s1).same s2).same s3).aX;have Qt:=s1.trans (s2.trans s3);unfold xg at e;split at e
   · cases e
     simp only[Rep]at Rj;obtain⟨p,xs,rfl,h1,rs⟩:=Rj;refine .inl ⟨p,xs,rfl,h1.sq,fun b hb=>?_⟩;rw[yV];exact q _ _ (Qt.trans (aq.cm hb _)) (oR tr hb (rs.cut _ _))
   · split at e
     ·cases e
     · rename_i hw
       cases e;simp only[Rep]at Rj;obtain⟨p,xs,rfl,h1,rs⟩:=Rj;refine .inr ⟨p,xs,rfl,h1.sq,?_,fun b hb=>?_⟩
       ·rw[sJ,sJ, ←rs.length];exact hw
       · rw[yV]
         exact q _ _ (Qt.trans (aq.cm hb _)) (jM tr hb (rs.cut _ _))
   ·cases e
theorem zm(hg:hX M g r)(h:tP M (aJ g fs) σ H Q):L2.ui r (qe M (eList fs)) σ H Q:=by
 obtain⟨ρ,F,d,hr,e,q⟩:=h;obtain⟨as,ea,e⟩:=az.mp e;exact⟨ρ,F,as,hr,ea,fun xs H1 s1 rs=>hg F H1 xs as d Q (hr.same s1).aX rs e fun v H2 s2 rv=>q v H2 (s1.trans s2) rv⟩
@[simp] def g1(g:D→R D):List D→R D
 |[a]=>g a
 |_=>.bad
@[simp] def g2(g:D→D→R D):List D→R D
 |[a,b]=>g a b
 |_=>.bad
theorem vw(g:D→R D)(f:Ex):e1 g f=aJ (g1 g) [f]:=by
 funext ρ;show(f ρ).bind g=((f ρ).bind fun x=>R.bind (R.ok []) fun xs=>R.ok (x::xs)).bind (g1 g);cases f ρ<;>rfl
theorem ag.one(r:ag M H F [d] xs):∃x,xs=[x]∧Rep M H F d x:=by
 simp only[ag]at r;obtain⟨x,t,rfl,h,rfl⟩:=r;exact⟨x,rfl,h⟩
theorem ag.two(r:ag M H F [d,e] xs):∃x y,xs=[x,y]∧Rep M H F d x∧Rep M H F e y:=by
 simp only[ag]at r;obtain⟨x,t,rfl,h,y,u,rfl,h2,rfl⟩:=r;exact⟨x,y,rfl,h,h2⟩
theorem Bx{g:D→R D}{r:List V→Hp→VK→Prop}{x:Str}{id:String}{a:Expr}{fa:Ex}{p:Pos}(hc:b5 X (.builtin id) r)(hg:hX (aA X) (g1 g) r)(Od:L2.Gl X x)(hm:X.mg x=none)(hv:bootBuiltins x=some (.builtin id))(ha:JE X a fa)
   (hs:starEach [a] X.env=(false,eval a X.env)::starEach [] X.env:=by rfl) (hn:x≠"__name__":=by decide) (Ms:(x==("__debug__":Str))=false:=by decide):JE X (.Call (.Name x p) [a] [] pos) (e1 g fa):=by
 rw[vw];exact bP (L2.q9 hc Od hm hv (fJ ha gB hs) hn Ms hs) fun σ H Q h=>zm hg h
theorem Jf{g:D→R D}{r:List V→Hp→VK→Prop}{x:Str}{T:String}{a:Expr}{fa:Ex}{p:Pos}(hc:b5 X (.type T) r)(hg:hX (aA X) (g1 g) r)(Od:L2.Gl X x)(hm:X.mg x=none)(hv:bootBuiltins x=some (.type T))(ha:JE X a fa)
   (hs:starEach [a] X.env=(false,eval a X.env)::starEach [] X.env:=by rfl) (hn:x≠"__name__":=by decide) (Ms:(x==("__debug__":Str))=false:=by decide):JE X (.Call (.Name x p) [a] [] pos) (e1 g fa):=by
 rw[vw];exact bP (L2.pb hc Od hm hv (fJ ha gB hs) hn Ms hs) fun σ H Q h=>zm hg h
def sr(M:Md):List V→Hp→VK→Prop:=fun xs H Q=>(∃p ys,xs=[.ref p]∧(bz M.K H p ys∨bN M.K H p ys)∧Q (.int ys.length) H)∨(∃z,xs=[.str z]∧z.length≤sizeLine∧Q (.int z.length) H)
theorem wJ:b5 X (.builtin "len") (sr (aA X)):=L2.b5.or L2.FJ L2.Bq
theorem vU:hX M (g1 oH) (sr M):=by
 intro F H xs as d Q tr rs e q;unfold g1 at e;split at e
 · obtain⟨x,rfl,r⟩:=rs.one
   unfold oH at e;split at e
   · cases e
     simp only[Rep]at r;obtain⟨p,ys,rfl,h,rs⟩:=r;exact .inl ⟨p,ys,rfl,.inl h.sq,q _ _ (aq.refl _) (by rw[←rs.length];exact fU)⟩
   · cases e
     simp only[Rep]at r;obtain⟨p,ys,rfl,h,rs⟩:=r;exact .inl ⟨p,ys,rfl,.inr h.sq,q _ _ (aq.refl _) (by rw[←rs.length];exact fU)⟩
   · split at e
     · cases e
       exact .inr ⟨_,by rw[fY r],by assumption,q _ _ (aq.refl _) fU⟩
     ·cases e
   ·cases e
 ·cases e
theorem ze:hX M (g1 nI) (fun xs H Q=>∃p ys,xs=[.ref p]∧((bz M.K H p ys∧∀l,H l=none→Q (.ref l) (upd H l (.tup ys)))∨(bN M.K H p ys∧Q (.ref p) H))):=by
 intro F H xs as d Q tr rs e q;unfold g1 at e;split at e
 · obtain⟨x,rfl,r⟩:=rs.one
   unfold nI at e;split at e
   · cases e
     simp only[Rep]at r;obtain⟨p,ys,rfl,h,rs⟩:=r;exact⟨p,ys,rfl,.inl ⟨h.sq,fun l hl=>q _ _ (aq.cm hl _) (jM tr hl rs)⟩⟩
   · cases e
     have r':=r;simp only[Rep]at r;obtain⟨p,ys,rfl,h,rs⟩:=r;exact⟨p,ys,rfl,.inr ⟨h.sq,q _ _ (aq.refl _) r'⟩⟩
   ·cases e
 ·cases e
end
section
variable{X:Cx}{M:Md}{H H':Hp}{F:Addr→Prop}{σ:L2.St}{ρ:En}{pos:Pos}{pins:List (Addr×Obj)}{s:Shared}
mutual
noncomputable def pyd:D→PyData
 |.aH=>.none
 |.bl b=>.bool b
 |.int i=>.int i
 |.str x=>.str x
 |.tup xs=>.tuple (fH xs)
 |.lst xs=>.list (fH xs)
 |.aw _ _=>.dict []
 |.cD _ _ _=>.dict []
noncomputable def fH:List D→List PyData
 |[]=>[]
 |x::xs=>pyd x::fH xs
end
mutual
theorem ti:∀(a b:D),lay a=true→lay b=true→PyData.eqv (pyd a) (pyd b)=b3 a b
 |.aH,b,_,hb=>by cases b<;>first|rfl|(simp[lay]at hb)
 |.bl _,b,_,hb=>by cases b<;>first|rfl|(simp[lay]at hb)
 |.int _,b,_,hb=>by cases b<;>first|rfl|(simp[lay]at hb)
 | .str x,b,_,hb=>by
   cases b with
   |str y=>show(x==y)=decide (x=y);rw[Bool.eq_iff_iff,beq_iff_eq,decide_eq_true_eq]
   |_=>first|rfl|(simp[lay]at hb)
 | .tup xs,b,ha,hb=>by
   cases b with
   |tup ys=>simp only[lay]at ha hb;exact rD xs ys ha hb
   |_=>first|rfl|(simp[lay]at hb)
 | .lst xs,b,ha,hb=>by
   cases b with
   |lst ys=>simp only[lay]at ha hb;exact rD xs ys ha hb
   |_=>first|rfl|(simp[lay]at hb)
 |.aw _ _,_,ha,_=>by simp[lay]at ha
 |.cD _ _ _,_,ha,_=>by simp[lay]at ha
theorem rD:∀(a b:List D),eK a=true→eK b=true→PyData.eqvAll (fH a) (fH b)=jO a b
 |[],[],_,_=>rfl
 |[],_::_,_,_=>rfl
 |_::_,[],_,_=>rfl
 | x::xs,y::ys,ha,hb=>by
   simp only[eK,Bool.and_eq_true]at ha hb;show(PyData.eqv (pyd x) (pyd y)&&PyData.eqvAll (fH xs) (fH ys))=(b3 x y&&jO xs ys);rw[ti x y ha.1 hb.1,rD xs ys ha.2 hb.2]
end
mutual
theorem oO:∀a:D,lay a=true→(pyd a).canLay0=true
 |.aH,_=>rfl
 |.bl _,_=>rfl
 |.int _,_=>rfl
 |.str x,h=>by simp only[lay]at h;exact h
 |.tup xs,h=>by simp only[lay]at h;exact uI xs h
 |.lst xs,h=>by simp only[lay]at h;exact uI xs h
 |.aw _ _,h=>by simp[lay]at h
 |.cD _ _ _,h=>by simp[lay]at h
theorem uI:∀a:List D,eK a=true→PyData.canLayAll0 (fH a)=true
 |[],_=>rfl
 | x::xs,h=>by
   simp only[eK,Bool.and_eq_true]at h;show((pyd x).canLay0&&PyData.canLayAll0 (fH xs))=true;rw[oO x h.1,uI xs h.2];rfl
end
mutual
theorem mY:∀a:D,lay a=true→(pyd a).depth=dep a
 |.aH,_=>rfl
 |.bl _,_=>rfl
 |.int _,_=>rfl
 |.str _,_=>rfl
 |.tup xs,h=>by simp only[lay]at h;show PyData.depthAll (fH xs)+1=_;rw[rK xs h];simp only[dep]
 |.lst xs,h=>by simp only[lay]at h;show PyData.depthAll (fH xs)+1=_;rw[rK xs h];simp only[dep]
 |.aw _ _,h=>by simp[lay]at h
 |.cD _ _ _,h=>by simp[lay]at h
theorem rK:∀a:List D,eK a=true→PyData.depthAll (fH a)=oZ a
 |[],_=>rfl
 | x::xs,h=>by
   simp only[eK,Bool.and_eq_true]at h;show max (pyd x).depth (PyData.depthAll (fH xs))=_;rw[mY x h.1,rK xs h.2];simp only[oZ]
end
mutual
theorem nX(I:Inv X pins σ H s):∀ {a:D} {x:V} {u:Value},lay a=true→Rep (aA X) H F a x→RelV x u→∃as,Reads s.heap u (pyd a) as
 |.aH,_,_,_,r,rx=>by cases qh r;cases rx;exact⟨_,.none⟩
 |.bl b,_,_,_,r,rx=>by cases gQ r;cases rx;exact⟨_,.bool b⟩
 |.int i,_,_,_,r,rx=>by cases ck r;obtain⟨t,rfl⟩:=rx;exact⟨_,.int i t⟩
 |.str z,_,_,_,r,rx=>by cases fY r;obtain⟨t,rfl⟩:=rx;exact⟨_,.str z t⟩
 | .tup ds,_,_,h,r,rx=>by
   simp only[lay]at h;simp only[Rep]at r;obtain⟨p,xs,rfl,t,rs⟩:=r;cases rx;obtain⟨B',rv,⟨o,e,c,n,d⟩,_⟩:=kR I t;obtain⟨as,ra⟩:=ux I h rs rv;exact⟨_,.tuple e c d (by simpa using ra)⟩
 | .lst ds,_,_,h,r,rx=>by
   simp only[lay]at h;simp only[Rep]at r;obtain⟨p,xs,rfl,t,rs⟩:=r;cases rx;obtain⟨B',n,sl,rv,e,_⟩:=kL I t;obtain⟨as,ra⟩:=ux I h rs rv;exact⟨_,.list e rfl rfl (by simpa using ra)⟩
 |.aw _ _,_,_,h,_,_=>by simp[lay]at h
 |.cD _ _ _,_,_,h,_,_=>by simp[lay]at h
theorem ux(I:Inv X pins σ H s):∀ {as:List D} {xs:List V} {us:List Value},eK as=true→ag (aA X) H F as xs→Vals xs us→∃bs,ReadsAll s.heap us (fH as) bs
 |[],_,_,_,r,rv=>by simp only[ag]at r;subst r;cases rv;exact⟨_,.nil⟩
 | a::as,_,_,h,r,rv=>by
   simp only[eK,Bool.and_eq_true]at h;simp only[ag]at r;obtain⟨x,t,rfl,r1,r2⟩:=r;cases rv with
   | cons q w=>
     obtain⟨bs,h1⟩:=nX I h.1 r1 q;obtain⟨cs,h2⟩:=ux I h.2 r2 w;exact⟨_,.cons h1 h2⟩
end
theorem Jq(l:Addr)(es:Array DictEntry)(n:Nat)(dd:Option Addr)(sl:Array (Option Value))(b:Str)(u:Tok):
   Meets (Builtin.«dict.__eq__» ⟨[.ref l,.str b u],[]⟩) (fun _ R s=>s.heap.get? l=some {cls:=.type "dict",dict:=dd,data:=.dict es n,slots:=sl}∧R (.ok (.ret .notImplemented)) s):=
 .of_wp fun prog w A R s h=>by obtain⟨hp,g,d,tk,os⟩:=s;obtain⟨hl,h⟩:=h;have f1:=F.sub_str_dict;wp_walk;exact⟨_,rfl,h⟩
theorem A8(b:Str)(u:Tok)(l:Addr)(es:Array DictEntry)(n:Nat)(dd:Option Addr)(sl:Array (Option Value)):
   Meets (Builtin.«str.__eq__» ⟨[.str b u,.ref l],[]⟩) (fun _ R s=>s.heap.get? l=some {cls:=.type "dict",dict:=dd,data:=.dict es n,slots:=sl}∧R (.ok (.ret .notImplemented)) s):=
 .of_wp fun prog w A R s h=>by obtain⟨hp,g,d,tk,os⟩:=s;obtain⟨hl,h⟩:=h;wp_walk using AutoSeq1.wpAny_loadPart' hl,wpAny_load hl;exact⟨_,rfl,h⟩
theorem Cq(b:Str)(u:Tok)(ho:s.heap.get? l=some o)(hc:o.cls=.type "dict")(hd:o.data=.dict es n)(hu:A.units<cLine):SeqAt.RcAt A s (.ref l) (.str b u) false:=fun prog w E Q h=>by
 obtain⟨cls,dd,data,sl⟩:=o;simp only at hc hd;subst hc hd
 exact SeqAt.rc_eq_decline_or (k:=false) ⟨_,ho,rfl⟩ (typeIs_str s b u) (by decide) F.sub_str_dict F.slot_dict_eq F.slot_str_eq_refl
   (fun _ hq=>call_meets F.slot_dict_eq ⟨_,ho,rfl⟩ F.entry_dict_eq (F.args_dict_eq_2 _ _) (Jq l es n dd sl b u) ⟨ho,hq⟩)
   (fun _ hq=>call_meets F.slot_str_eq_refl (typeIs_str s b u) F.entry_str_eq (F.args_str_eq_2 _ _) (A8 b u l es n dd sl) ⟨ho,hq⟩)
   (fun _ hq=>wpAny_of_eq (rfl:isSame (.ref l) (.str b u)=pure false) hq) (.inr hu) h
theorem gT(I:Inv X pins σ H s)(h:dC (aA X) H F a kvs):kvs.length≤sizeLine∧(a==sysModules)=false∧∃vs,L2.KV kvs vs∧s.heap.DictOf (L2.b0 X.prog X.w) a vs:=by
 rcases h with⟨_,ob,h⟩|⟨o,es,ep,vs,h1,h2,h3,h4,h5,h6,h7,h8,h9⟩
 ·exact L2.qQ I.aI (.inr ⟨ob,h⟩)
 ·exact⟨h8,h9,vs,h7,o,es,ep,I.cE a o h1,h2,h3,h4,h5,h6⟩
noncomputable def zX(M:Md):R2:=fun x y H Q=>∃F a b,Rep M H F a x∧Rep M H F b y∧eG a b=true∧Q (.bl (b3 a b)) H
noncomputable def yA(M:Md):R2:=fun x y H Q=>∃F a b,Rep M H F a x∧Rep M H F b y∧fi a b=true∧Q (.bl (!b3 a b)) H
theorem str_beq(a b:Str):(a==b)=decide (a=b):=by rw[Bool.eq_iff_iff,beq_iff_eq,decide_eq_true_eq]
theorem FY(fa:flat a=true)(fb:flat b=true)(ra:Rep M H F a x)(rb:Rep M H F b y)(rx:RelV x u)(ry:RelV y v):SeqAt.RcAt A s u v (b3 a b):=by
 cases a<;>(try cases fa)<;>cases b<;>(try cases fb)<;>simp only[Rep]at ra rb<;>subst ra<;>subst rb
 ·cases rx;cases ry;exact SeqAt.RcAt.none_none
 ·cases rx;cases ry;exact SeqAt.RcAt.none_bool _
 ·cases rx;obtain⟨t,rfl⟩:=ry;exact SeqAt.RcAt.none_int _ _
 ·cases rx;obtain⟨t,rfl⟩:=ry;exact SeqAt.RcAt.none_str _ _
 ·cases rx;cases ry;exact SeqAt.RcAt.bool_none _
 ·cases rx;cases ry;exact SeqAt.RcAt.bool_bool _ _
 ·cases rx;obtain⟨t,rfl⟩:=ry;exact SeqAt.RcAt.bool_int _ _ _
 ·cases rx;obtain⟨t,rfl⟩:=ry;exact SeqAt.RcAt.bool_str _ _ _
 ·obtain⟨t,rfl⟩:=rx;cases ry;exact SeqAt.RcAt.int_none _ _
 ·obtain⟨t,rfl⟩:=rx;cases ry;exact SeqAt.RcAt.int_bool _ _ _
 ·obtain⟨t,rfl⟩:=rx;obtain⟨t,rfl⟩:=ry;exact SeqAt.RcAt.int_int _ _ _ _
 ·obtain⟨t,rfl⟩:=rx;obtain⟨t,rfl⟩:=ry;exact SeqAt.RcAt.int_str _ _ _ _
 ·obtain⟨t,rfl⟩:=rx;cases ry;exact SeqAt.RcAt.str_none _ _
 ·obtain⟨t,rfl⟩:=rx;cases ry;exact SeqAt.RcAt.str_bool _ _ _
 ·obtain⟨t,rfl⟩:=rx;obtain⟨t,rfl⟩:=ry;exact SeqAt.RcAt.str_int _ _ _ _
 ·obtain⟨t,rfl⟩:=rx;obtain⟨t,rfl⟩:=ry;simp only[b3];rw[←str_beq];exact SeqAt.RcAt.str_str _ _ _ _
theorem Ae(fa:flat a=true)(fb:flat b=true)(ra:Rep M H F a x)(rb:Rep M H F b y)(rx:RelV x u)(ry:RelV y v):SeqAt.RcNeAt A s u v (!b3 a b):=by
 cases a<;>(try cases fa)<;>cases b<;>(try cases fb)<;>simp only[Rep]at ra rb<;>subst ra<;>subst rb
 ·cases rx;cases ry;exact SeqAt.RcNeAt.none_none
 ·cases rx;cases ry;exact SeqAt.RcNeAt.none_bool _
 ·cases rx;obtain⟨t,rfl⟩:=ry;exact SeqAt.RcNeAt.none_int _ _
 ·cases rx;obtain⟨t,rfl⟩:=ry;exact SeqAt.RcNeAt.none_str _ _
 ·cases rx;cases ry;exact SeqAt.RcNeAt.bool_none _
 ·cases rx;cases ry;exact SeqAt.RcNeAt.bool_bool _ _
 ·cases rx;obtain⟨t,rfl⟩:=ry;exact SeqAt.RcNeAt.bool_int _ _ _
 ·cases rx;obtain⟨t,rfl⟩:=ry;exact SeqAt.RcNeAt.bool_str _ _ _
 ·obtain⟨t,rfl⟩:=rx;cases ry;exact SeqAt.RcNeAt.int_none _ _
 ·obtain⟨t,rfl⟩:=rx;cases ry;exact SeqAt.RcNeAt.int_bool _ _ _
 ·obtain⟨t,rfl⟩:=rx;obtain⟨t,rfl⟩:=ry;exact SeqAt.RcNeAt.int_int _ _ _ _
 ·obtain⟨t,rfl⟩:=rx;obtain⟨t,rfl⟩:=ry;exact SeqAt.RcNeAt.int_str _ _ _ _
 ·obtain⟨t,rfl⟩:=rx;cases ry;exact SeqAt.RcNeAt.str_none _ _
 ·obtain⟨t,rfl⟩:=rx;cases ry;exact SeqAt.RcNeAt.str_bool _ _ _
 ·obtain⟨t,rfl⟩:=rx;obtain⟨t,rfl⟩:=ry;exact SeqAt.RcNeAt.str_int _ _ _ _
 ·obtain⟨t,rfl⟩:=rx;obtain⟨t,rfl⟩:=ry;simp only[b3];rw[←str_beq];exact SeqAt.RcNeAt.str_str _ _ _ _
theorem Ct(ds:List D):((List.range (min ds.length 0)).all (fun _=>true)&&(ds.length==0))=b3 (.tup ds) (.tup []):=by
 cases ds<;>simp
theorem yv(I:Inv X pins σ H s)(hu:A.units<cLine)(ra:Rep (aA X) H F (.tup ds) x)(rb:Rep (aA X) H F (.tup []) y)(rx:RelV x u)(ry:RelV y v):
   SeqAt.RcAt A s u v (b3 (.tup ds) (.tup []))∧SeqAt.RcNeAt A s u v (!b3 (.tup ds) (.tup [])):=by
 simp only[Rep]at ra rb;obtain⟨p,xs,rfl,h,rs⟩:=ra;obtain⟨p2,Xs,rfl,h2,N8⟩:=rb;cases rx;cases ry;simp only[ag]at N8;subst N8;obtain⟨B',rv,⟨o,e,c,n,d⟩,_⟩:=kR I h;obtain⟨MQ,Ri,⟨o2,e2,c2,n2,d2⟩,_⟩:=kR I h2;cases Ri;have hl:B'.toArray.size=ds.length:=by rw[List.size_toArray, ←rv.length, ←rs.length]
 have z1:=SeqAt.RcAt.tuples (A:=A) (s:=s) (e:=fun _=>true) (l:=p) (b:=p2) ⟨o,e,c,n,d⟩ ⟨o2,e2,c2,n2,d2⟩ hu (fun j _ h2=>by simp at h2)
 have z2:=SeqAt.RcNeAt.tuples (A:=A) (s:=s) (e:=fun _=>true) (l:=p) (b:=p2) ⟨o,e,c,n,d⟩ ⟨o2,e2,c2,n2,d2⟩ hu (fun j _ h2=>by simp at h2)
 rw[←Ct];rw[hl]at z1 z2;exact⟨z1,z2⟩
theorem ng(hu:X.A.units+64<cLine):bh X (compareOp .NotEq) (yA (aA X)):=by
 intro pins s σ H x y v u Q I rx ry h;obtain⟨F,a,b,ra,rb,ok,q⟩:=h;have fin:EP X pins σ Q (.bool (!b3 a b)) s:=⟨.bl _,H,I,rfl,q⟩;unfold fi at ok;rw[Bool.or_eq_true,Bool.or_eq_true,Bool.and_eq_true]at ok;rcases ok with(⟨fa,fb⟩|t)|l
 ·exact Ae fa fb ra rb rx ry _ _ _ _ fin
 · unfold tT at t
   split at t
   ·exact(yv I (by omega) ra rb rx ry).2 _ _ _ _ fin
   ·cases t
 · rw[Bool.and_eq_true,Bool.and_eq_true,decide_eq_true_eq]at l
   obtain⟨⟨la,lb⟩,hd⟩:=l;obtain⟨as,h1⟩:=nX I la ra rx;obtain⟨bs,h2⟩:=nX I lb rb ry;refine SeqAt.compareNe_reads h1 h2 (oO a la) (oO b lb) (by rw[mY a la,mY b lb];omega) ?_
   rw[ti a b la lb];exact fin
theorem dQ(hu:X.A.units+64<cLine):bh X (compareOp .Eq) (zX (aA X)):=by
 intro pins s σ H x y v u Q I rx ry h;obtain⟨F,a,b,ra,rb,ok,q⟩:=h;have fin:EP X pins σ Q (.bool (b3 a b)) s:=⟨.bl _,H,I,rfl,q⟩;unfold eG at ok;rw[Bool.or_eq_true]at ok;rcases ok with ok|dc
 · unfold fi at ok
   rw[Bool.or_eq_true,Bool.or_eq_true,Bool.and_eq_true]at ok;rcases ok with(⟨fa,fb⟩|t)|l
   ·exact FY fa fb ra rb rx ry _ _ _ _ fin
   · unfold tT at t
     split at t
     ·exact(yv I (by omega) ra rb rx ry).1 _ _ _ _ fin
     ·cases t
   · rw[Bool.and_eq_true,Bool.and_eq_true,decide_eq_true_eq]at l
     obtain⟨⟨la,lb⟩,hd⟩:=l;obtain⟨as,h1⟩:=nX I la ra rx;obtain⟨bs,h2⟩:=nX I lb rb ry;refine SeqAt.compareEq_reads h1 h2 (oO a la) (oO b lb) (by rw[mY a la,mY b lb];omega) ?_
     rw[ti a b la lb];exact fin
 · unfold vY at dc
   split at dc
   · cases fY rb
     obtain⟨t,rfl⟩:=ry;simp only[Rep]at ra;obtain⟨p,xs,rfl,h,_⟩:=ra;cases rx;obtain⟨_,_,vs,_,o,es,ep,e1,e2,e3,_⟩:=gT I h;exact Cq _ t e1 e2.1 e3 (by omega) _ _ _ _ fin
   ·cases dc
theorem dW:cy M oEq (zX M):=by
 intro F H x y a b d Q tr ra rb e q;unfold oEq at e;split at e
 ·cases e;exact⟨F,a,b,ra,rb,by assumption,q _ _ (aq.refl _) eZ⟩
 ·cases e
theorem oq:cy M cF (yA M):=by
 intro F H x y a b d Q tr ra rb e q;unfold cF at e;split at e
 ·cases e;exact⟨F,a,b,ra,rb,by assumption,q _ _ (aq.refl _) eZ⟩
 ·cases e
theorem fO:iL oEq:=fun a b d h=>by unfold oEq at h;split at h<;>cases h;exact⟨_,rfl⟩
theorem oo:iL cF:=fun a b d h=>by unfold cF at h;split at h<;>cases h;exact⟨_,rfl⟩
theorem yE:iL oLt:=fun a b d h=>by unfold oLt at h;split at h<;>cases h;exact⟨_,rfl⟩
theorem m6:iL d6:=fun a b d h=>by unfold d6 at h;split at h<;>cases h;exact⟨_,rfl⟩
theorem zA:bootBuiltins "isinstance"=some (.builtin "isinstance"):=by decide+kernel
theorem i6:bootBuiltins "len"=some (.builtin "len"):=by decide+kernel
theorem ym:bootBuiltins "all"=some (.builtin "all"):=by decide+kernel
theorem wR:bootBuiltins "bool"=some (.type "bool"):=by decide+kernel
theorem pP:bootBuiltins "list"=some (.type "list"):=by decide+kernel
theorem jT:bootBuiltins "tuple"=some (.type "tuple"):=by decide+kernel
theorem lG:bootBuiltins "dict"=some (.type "dict"):=by decide+kernel
noncomputable def mT:Ty→String
 |.int=>"int"|.bool=>"bool"|.str=>"str"|.tuple=>"tuple"|.list=>"list"|.dict=>"dict"
theorem Ba:b5 X (.builtin "isinstance") (fun xs H Q=>∃F d x b ty,xs=[x,.ty (mT ty)]∧Rep (aA X) H F d x∧bS ty d=.ok (.bl b)∧(∀c ns vs,d≠.cD c ns vs)∧Q (.bl b) H):=by
 intro pins s σ H xs us Q I r h;obtain⟨F,d,x,b,ty,rfl,rd,e,ne,q⟩:=h;obtain⟨u,w,rfl,ru,Mx⟩:=L2.vals2 r;cases (show w=Value.type (mT ty)from Mx)
 have fin:∀tk,EP X pins σ Q (.bool b) {s with toks:=tk}:=fun tk=>⟨.bl _,H,I.tok tk,rfl,q⟩;cases d with
 |aH=>cases qh rd;cases ru;cases ty<;>cases e<;>exact PySem.W.kia_one PySem.W.kitx_none I.cE True.intro rfl (fun z=>nomatch z) fin
 |bl y=>cases gQ rd;cases ru;cases ty<;>cases e<;>exact PySem.W.kia_one PySem.W.kitx_bool I.cE True.intro rfl (fun z=>nomatch z) fin
 |int i=>cases ck rd;obtain⟨t,rfl⟩:=ru;cases ty<;>cases e<;>exact PySem.W.kia_one PySem.W.kitx_int I.cE True.intro rfl (fun z=>nomatch z) fin
 |str z=>cases fY rd;obtain⟨t,rfl⟩:=ru;cases ty<;>cases e<;>exact PySem.W.kia_one PySem.W.kitx_str I.cE True.intro rfl (fun z=>nomatch z) fin
 | tup ds=>
   simp only[Rep]at rd;obtain⟨p,xs,rfl,h,_⟩:=rd;cases ru;obtain⟨B',_,⟨o,h1,h2,_⟩,_⟩:=kR I h;cases ty<;>cases e<;>exact PySem.W.kia_one PySem.W.kitx_tuple I.cE ⟨o,h1,h2⟩ rfl (fun z=>nomatch z) fin
 | lst ds=>
   simp only[Rep]at rd;obtain⟨p,xs,rfl,h,_⟩:=rd;cases ru;obtain⟨B',n,sl,_,h1,_⟩:=kL I h;cases ty<;>cases e<;>exact PySem.W.kia_one PySem.W.kitx_list I.cE ⟨_,h1,rfl⟩ rfl (fun z=>nomatch z) fin
 | aw ks ds=>
   simp only[Rep]at rd;obtain⟨p,xs,rfl,h,_⟩:=rd;cases ru;obtain⟨_,_,vs,_,o,es,ep,e1,e2,e3,_⟩:=gT I h;cases ty<;>cases e<;>exact PySem.W.kia_one PySem.W.kitx_dict I.cE ⟨o,e1,e2.1⟩ rfl (fun z=>nomatch z) fin
 |cD c ns vs=>exact absurd rfl (ne _ _ _)
theorem C7(h:bS ty d=.ok r):∃b,r=.bl b:=by
 unfold bS at h;split at h<;>cases h<;>exact⟨_,rfl⟩
theorem IY(ty:Ty){a:Expr}{fa:Ex}{p p2:Pos}{T:Str}(ha:JE X a fa)(hg:L2.Gl X "isinstance")(hm:X.mg "isinstance"=none)(Pe:L2.Gl X T)(Ph:X.mg T=none)(R':bootBuiltins T=some (.type (mT ty)))
   (hs:starEach [a,.Name T p2] X.env=(false,eval a X.env)::starEach [.Name T p2] X.env:=by rfl) (L0:starEach [.Name T p2] X.env=(false,eval (.Name T p2) X.env)::starEach [] X.env:=by rfl)
   (Ry:T≠"__name__":=by decide) (Ss:(T==("__debug__":Str))=false:=by decide):JE X (.Call (.Name "isinstance" p) [a,.Name T p2] [] pos) (e1 (bS ty) fa):=
 bP (L2.q9 Ba hg hm zA (L2.gJ ha (L2.gJ (L2.uW (v:=.ty (mT ty)) Pe Ph R' rfl Ry Ss) L2.kb L0) hs) (by decide) (by decide) hs (by rw[L0];rfl)) fun σ H Q ⟨ρ,F,d,hr,e,q⟩=>by
   obtain⟨a,ea,e⟩:=az.mp e;obtain⟨b,rfl⟩:=C7 e;refine⟨ρ,F,a,hr,ea,fun x H1 s1 rx=>⟨F,a,x,b,ty,rfl,rx,e,?_,q _ _ s1 eZ⟩⟩;intro c ns vs h;subst h;cases ty<;>cases e
end
open L2 (PG d7 TG)
structure Gf where
 g:Hp
 f:Addr→Prop
 p:Option V
instance:CoeFun Gf (fun _=>Addr→Prop):=⟨Gf.f⟩
def Pin(F0:Gf)(σ:L2.St)(ρ:En):Prop:=∀w,F0.p=some w→∀t,ρ[0]? =some (.on (.tr t))→σ[0]? =some (some w)
theorem Pin.set(h:Pin F0 σ ρ)(hs:∀t,s≠.on (.tr t)):Pin F0 (σ.set i v) (ρ.set i s):=fun w hw t e=>by
 rcases get_set e with⟨_,x,_⟩|⟨C',e⟩
 ·exact absurd x (hs t)
 ·rw[List.getElem?_set_ne C'];exact h w hw t e
theorem Pin.pQ(h:Pin F0 σ ρ)(hs:∀t,s≠.on (.tr t)):Pin F0 σ (ρ.set i s):=fun w hw t e=>by
 rcases get_set e with⟨_,x,_⟩|⟨C',e⟩
 ·exact absurd x (hs t)
 ·exact h w hw t e
structure aT(M:Md)(G:Hp)(F0:Gf)(H:Hp)(F:Addr→Prop)(σ:L2.St)(ρ:En):Prop where
 rs:bj M H F σ ρ
 sm:aq G H
 sub:∀a,F0 a→F a
 df:∀a,F0 a→∃o,G a=some o
 own:∀(i:Nat) a,bp ρ i→σ[i]? =some (some (.ref a))→G a=none
 dY:∀(i:Nat) Lw b,ρ[i]? =some (.on Lw)→cR M H F σ ρ i b→G b=none
 pin:Pin F0 σ ρ
def oA(M:Md)(G:Hp)(F0:Gf)(H:Hp)(F:Addr→Prop)(D:Ends):Fl→Prop
 |.next ρ'=>∀J' H' F',Mv F H F' H'→aT M G F0 H' F' J' ρ'→D.nx J' H'
 |.brk ρ'=>∀J' H' F',Mv F H F' H'→aT M G F0 H' F' J' ρ'→D.bk J' H'
 |.cont ρ'=>∀J' H' F',Mv F H F' H'→aT M G F0 H' F' J' ρ'→D.ct J' H'
 |.ret d=>∀v H' F',Mv F H F' H'→aq G H'→(∀a,F0 a→F' a)→Rep M H' F' d v→D.rt v H'
 |.eU d=>∀p H' F' xs ds,d=.lst ds→Mv F H F' H'→aq G H'→(∀a,F0 a→F' a)→H' p=none→ag M H' F' ds xs→D.rt (.ref p) (upd H' p (.lst xs))
 |.cP t=>∀v H' F1 F2 as,Mv F H F1 H'→aq G H'→(∀a,F0 a→F1 a)→(∀b∈as,G b=none)→as.Nodup→(∀b,F2 b↔F1 b∨b∈as)→ak M H' F2 t v as→D.rt v H'
def fz(M:Md)(G:Hp)(F0:Gf)(f:Sm):TS:=fun D σ H=>∃ρ F fl,aT M G F0 H F σ ρ∧f ρ=.ok fl∧oA M G F0 H F D fl
abbrev JS(X:Cx)(st:Stmt)(f:Sm):Prop:=∀F0:Gf,PS X st (fz (aA X) F0.g F0 f)
abbrev dI(X:Cx)(Q7:List Stmt)(f:Sm):Prop:=∀F0:Gf,cq X Q7 (fz (aA X) F0.g F0 f)
theorem cJ(h:PS X e t')(hi:∀D σ H,t D σ H→t' D σ H):PS X e t:=fun pins s σ H Q I q=>h pins s σ H Q I (hi Q σ H q)
theorem sR(h:cq X e t')(hi:∀D σ H,t D σ H→t' D σ H):cq X e t:=fun pins s σ H Q I q=>h pins s σ H Q I (hi Q σ H q)
theorem Mv.refl:Mv F H F H:=fun _ _ n e=>⟨n,e⟩
section
variable{X:Cx}{M:Md}{G H H':Hp}{F0:Gf}{F F':Addr→Prop}{σ:L2.St}{ρ:En}{pos:Pos}{DE:Ends}
theorem aT.same(r:aT M G F0 H F σ ρ)(h:aq H H'):aT M G F0 H' F σ ρ:=⟨r.rs.same h,r.sm.trans h,r.sub,r.df,r.own,fun i Lw b e hb=>r.dY i Lw b e (r.rs.on.back (fun _ e=>e) rfl (fun a u _ _ hu=>h _ _ hu) (fun a o _ e=>h _ _ e) hb),r.pin⟩
theorem oA.mv(m:Mv F H F' H'):∀ {fl:Fl},oA M G F0 H F DE fl→oA M G F0 H' F' DE fl
 |.next _,h=>fun J' H2 F2 m2 r=>h J' H2 F2 (m.trans m2) r
 |.brk _,h=>fun J' H2 F2 m2 r=>h J' H2 F2 (m.trans m2) r
 |.cont _,h=>fun J' H2 F2 m2 r=>h J' H2 F2 (m.trans m2) r
 |.ret _,h=>fun J' H2 F2 m2 a b r=>h J' H2 F2 (m.trans m2) a b r
 |.eU _,h=>fun p H2 F2 xs ds e m2 a b c r=>h p H2 F2 xs ds e (m.trans m2) a b c r
 |.cP _,h=>fun v H2 F1 F2 as m2 a b c d e r=>h v H2 F1 F2 as (m.trans m2) a b c d e r
theorem yb:dI X [] (aj []):=fun F0=>sR L2.zB fun D σ H ⟨ρ,F,fl,r,e,q⟩=>by
 cases e;exact q σ H F Mv.refl r
theorem Er:dI X [] aP:=yb
theorem J4(hf:∀D σ H,fz M G F0 f D σ H→t D σ H)(hg:∀D σ H,fz M G F0 g D σ H→u D σ H)(D:Ends)(σ:L2.St)(H:Hp)(h:fz M G F0 (wo f g) D σ H):L2.yz t u D σ H:=by
 obtain⟨ρ,F,fl,r,e,q⟩:=h;obtain⟨f1,e1,e⟩:=az.mp e;refine hf _ _ _ ⟨ρ,F,f1,r,e1,?_⟩;cases f1 with
 |next ρ1=>exact fun NY H1 F1 m1 r1=>hg D NY H1 ⟨ρ1,F1,fl,r1,e,q.mv m1⟩
 |ret d=>cases e;exact q
 |brk d=>cases e;exact q
 |cont d=>cases e;exact q
 |eU d=>cases e;exact q
 |cP d=>cases e;exact q
theorem CI(h1:JS X st f)(h2:dI X rest (aj fs)):dI X (st::rest) (aj (f::fs)):=fun F0=>
 sR (L2.AZ (h1 F0) (h2 F0)) fun D σ H h=>J4 (fun _ _ _ h=>h) (fun _ _ _ h=>h) D σ H h
theorem AH(h:JS X st f):dI X [st] f:=fun F0=>L2.wB (h F0)
theorem E2(hc:JT X c fc)(ha:dI X a fa)(hb:dI X b fb):JS X (.If c a b pos) (aQ fc fa fb):=fun F0=>
 cJ (L2.vg hc (ha F0) (hb F0)) fun D σ H ⟨ρ,F,fl,r,e,q⟩=>by
   obtain⟨t,et,e⟩:=az.mp e;refine⟨ρ,F,t,r.rs,et,fun H1 s1=>?_⟩;split at e
   ·rename_i h;rw[if_pos h];exact⟨ρ,F,fl,r.same s1,e,q.mv (.same s1)⟩
   ·rename_i h;rw[if_neg h];exact⟨ρ,F,fl,r.same s1,e,q.mv (.same s1)⟩
theorem Es(ha:JE X a fa):JS X (.Return (some a) pos) (aM fa):=fun F0=>
 cJ (L2.uQ ha) fun D σ H ⟨ρ,F,fl,r,e,q⟩=>by
   obtain⟨d,ed,e⟩:=az.mp e;cases e;exact⟨ρ,F,d,r.rs,ed,fun v H1 s1 rv=>q v H1 F (.same s1) (r.sm.trans s1) r.sub rv⟩
def uV(M:Md)(G:Hp)(F0:Gf)(g:eS):TG:=fun v σ H Q=>∃ρ F d ρ',aT M G F0 H F σ ρ∧Rep M H F d v∧g d ρ=.ok ρ'∧∀J',aT M G F0 H F J' ρ'→Q J' H
noncomputable def u6(M:Md)(G:Hp)(F0:Gf)(g:List D→En→R En):L2.kB:=fun vs σ H Q=>∃ρ F ds ρ',aT M G F0 H F σ ρ∧ag M H F ds vs∧g ds ρ=.ok ρ'∧∀J',aT M G F0 H F J' ρ'→Q J' H
abbrev JG(X:Cx)(e:Expr)(g:eS):Prop:=∀F0,PG X e (uV (aA X) F0.g F0 g)
abbrev nZ(X:Cx)(es:List Expr)(g:List D→En→R En):Prop:=∀F0,d7 X es (u6 (aA X) F0.g F0 g)
theorem vD(h:PG X e t')(hi:∀v σ H Q,t v σ H Q→t' v σ H Q):PG X e t:=fun pins s σ H x u Q I rx q=>h pins s σ H x u Q I rx (hi x σ H Q q)
theorem zR(h:d7 X e t')(hi:∀v σ H Q,t v σ H Q→t' v σ H Q):d7 X e t:=fun pins s σ H x u Q I rx q=>h pins s σ H x u Q I rx (hi x σ H Q q)
theorem bp.fg(h:bp (ρ.set i (.sh d)) j):i≠j∧bp ρ j:=by
 rcases h with⟨ds,q⟩|⟨ks,ds,q⟩
 · rcases get_set q with⟨_,x,_⟩|⟨C',q⟩
   ·cases x
   ·exact⟨C',.inl ⟨ds,q⟩⟩
 · rcases get_set q with⟨_,x,_⟩|⟨C',q⟩
   ·cases x
   ·exact⟨C',.inr ⟨ks,ds,q⟩⟩
theorem aT.o6(r:aT M G F0 H F σ ρ)(h:Rep M H F d v):aT M G F0 H F (σ.set i (some v)) (ρ.set i (.sh d)) where
 rs:=r.rs.o6 h
 sm:=r.sm
 sub:=r.sub
 df:=r.df
 own j a o e:=by
   obtain⟨ne,o⟩:=o.fg;rw[List.getElem?_set_ne ne]at e;exact r.own j a o e
 dY j Lw b e hb:=by
   rcases get_set e with⟨_,x,_⟩|⟨C',e⟩
   ·cases x
   ·exact r.dY j Lw b e (r.rs.on.back (fun y ey=>by rw[List.getElem?_set_ne C']at ey;exact ey) (List.getElem?_set_ne C') (fun a u _ _ hu=>hu) (fun _ _ _ e=>e) hb)
 pin:=r.pin.set fun _ h=>nomatch h
theorem Hu(i:Nat)(hN:X.N.Nodup)(hi:X.N[i]? =some x:=by rfl)(hx:L2.Loc X.env.scope x:=by exact Or.inl rfl)(hf:X.fn x=true∨X.env.scope.names.lookup x=some .local:=by first|exact .inl rfl|exact .inr rfl):JG X (.Name x pos) (aE i):=fun F0=>
 vD (L2.zK hN hi hx hf) fun v σ H Q ⟨ρ,F,d,ρ',r,rv,e,q⟩=>by
   cases e;exact q _ (r.o6 rv)
theorem Fc:nZ X [] (eN []):=fun F0=>
 zR L2.J1 fun vs σ H Q ⟨ρ,F,ds,ρ',r,rv,e,q⟩=>by
   cases ds with
   |nil=>cases e;simp only[ag]at rv;exact⟨rv,q _ r⟩
   |cons _ _=>cases e
theorem AO(ht:∀v σ H Q,uV M G F0 (aE i) v σ H Q→t v σ H Q)(hu:∀v σ H Q,u6 M G F0 (eN is) v σ H Q→u v σ H Q)(vs:List V)(σ:L2.St)(H:Hp)(Q:L2.St→Hp→Prop)
   (h:u6 M G F0 (eN (i::is)) vs σ H Q):L2.w6 t u vs σ H Q:=by
 obtain⟨ρ,F,ds,ρ',r,rv,e,q⟩:=h;cases ds with
 |nil=>cases e
 | cons d ds=>
   simp only[ag]at rv;obtain⟨x,xs,rfl,rx,Ur⟩:=rv;refine⟨x,xs,rfl,ht _ _ _ _ ⟨ρ,F,d,_,r,rx,rfl,fun NY r1=>hu _ _ _ _ ⟨_,F,ds,ρ',r1,Ur,e,q⟩⟩⟩
theorem Ac(i:Nat)(h1:JG X e (aE i))(h2:nZ X es (eN is))(hs:(assignEach (e::es) X.env).map (·.2)=assign e X.env::(assignEach es X.env).map (·.2):=by rfl):nZ X (e::es) (eN (i::is)):=fun F0=>
 zR (L2.Fb (h1 F0) (h2 F0) hs) fun vs σ H Q h=>AO (fun _ _ _ _ h=>h) (fun _ _ _ _ h=>h) vs σ H Q h
theorem w4:∀ {is:List Nat} {ds:List D} {ρ ρ':En},eN is ds ρ=.ok ρ'→ds.length=is.length
 |[],[],_,_,_=>rfl
 |_::_,_::_,_,_,h=>by simp only[eN]at h;simp[w4 h]
 |[],_::_,_,_,h=>by cases h
 |_::_,[],_,_,h=>by cases h
theorem Cp(hc:X.calm=true)(h:nZ X es (eN is))(hn:(assignEach es X.env).length=is.length:=by rfl)(Q0:(assignEach es X.env).findIdx? (·.1)=none:=by rfl):JG X (.Tuple es k pos) (gc is):=fun F0=>
 vD (L2.Ce hc (h F0) hn Q0) fun v σ H Q ⟨ρ,F,d,ρ',r,rv,e,q⟩=>by
   unfold gc at e;split at e
   · rename_i ds
     simp only[Rep]at rv;obtain⟨a,xs,rfl,h1,rs⟩:=rv;exact⟨a,xs,rfl,h1.sq,by rw[←rs.length];exact w4 e,ρ,F,ds,ρ',r,rs,e,q⟩
   ·cases e
theorem Bc(ha:JE X e fa)(hg:JG X tg g)(hs:swapsWithSole [tg] e pos.line X.env=pure false:=by rfl)(hw:swappedStores [tg] e X.env=pure none:=by rfl)(h1:(assignEach [tg] X.env).map (·.2)=[assign tg X.env]:=by rfl):JS X (.Assign [tg] e pos) (bb g fa):=fun F0=>
 cJ (L2.AU ha (hg F0) hs hw h1) fun D σ H ⟨ρ,F,fl,r,e,q⟩=>by
   obtain⟨d,ed,e⟩:=az.mp e;obtain⟨ρ',eg,e⟩:=az.mp e;cases e;exact⟨ρ,F,d,r.rs,ed,fun v H1 s1 rv=>⟨ρ,F,d,ρ',r.same s1,rv,eg,fun J' r'=>q J' H1 F (.same s1) r'⟩⟩
def Gives(M:Md)(J:L2.It)(H1:Hp)(F1:Addr→Prop)(ds:List D):Prop:=∀H F,Mv F1 H1 F H→(∀p,F p→∃o,H p=some o)→
 (∀i d,ds[i]? =some d→J.go i H∧∀x H',J.mC i H x H'→aq H H'∧Rep M H' F d x)∧J.stop ds.length H
def C1(M:Md)(f:En→R (List D)):TI:=fun σ H Rr=>∃ρ F ds,bj M H F σ ρ∧f ρ=.ok ds∧∀J H',aq H H'→Gives M J H' F ds→Rr J H'
abbrev JI(X:Cx)(tg e:Expr)(f:cI):Prop:=L2.PI X tg e (C1 (aA X) f)
theorem j6(h:L2.PI X tg e t')(hi:∀σ H Q,t σ H Q→t' σ H Q):L2.PI X tg e t:=fun pins s σ H Q I q=>h pins s σ H Q I (hi σ H Q q)
theorem CA{J:L2.It}{tg:eS}{body:Sm}{g:TG}{tb:TS}(hg:∀v σ H Q,uV M G F0 tg v σ H Q→g v σ H Q)(hb:∀D σ H,fz M G F0 body D σ H→tb D σ H)
   {H1:Hp} {F1:Addr→Prop} {ds:List D} (gv:Gives M J H1 F1 ds) {ρ:En} (r:aT M G F0 H1 F1 σ ρ) {fl:Fl} (e:forL tg body ds ρ=.ok fl) (q:oA M G F0 H1 F1 DE fl):
   ∃W:Nat→Nat→L2.St→Hp→Prop,(∃m,W 0 m σ H1)∧∀i m σ H,W i m σ H→
     (J.stop i H∧DE.nx σ H)∨(J.go i H∧∃N:L2.St→Hp→Prop,(∀J' H',N J' H'→∃m',m'<m∧W (i+1) m' J' H')∧∀x H',J.mC i H x H'→g x σ H' fun Q6 H2=>tb {DE with nx:=N,ct:=N,bk:=DE.nx} Q6 H2):=by
 refine⟨fun i m σ H=>m=ds.length - i∧i≤ds.length∧∃ρ F,Mv F1 H1 F H∧aT M G F0 H F σ ρ∧forL tg body (ds.drop i) ρ=.ok fl,⟨ds.length,by simp,Nat.zero_le _,ρ,F1,Mv.refl,r,e⟩,?_⟩
 rintro i m σ H ⟨rfl,hi,ρ,F,mv,r,e⟩;obtain⟨g1,g2⟩:=gv H F mv r.rs.aX;by_cases L8:i<ds.length
 · refine .inr ⟨(g1 i ds[i] (by simp[L8])).1,fun J' H'=>i+1≤ds.length∧∃ρ F,Mv F1 H1 F H'∧aT M G F0 H' F J' ρ∧forL tg body (ds.drop (i+1)) ρ=.ok fl,fun J' H' p'=>⟨ds.length - (i+1),by omega,rfl,p'.1,p'.2⟩,fun x H' y=>?_⟩
   obtain⟨s1,rx⟩:=(g1 i ds[i] (by simp[L8])).2 x H' y
   rw[List.drop_eq_getElem_cons L8]at e;unfold forL at e;obtain⟨ρ1,e1,e⟩:=az.mp e;obtain⟨f,e2,e⟩:=az.mp e;refine hg _ _ _ _ ⟨ρ,F,ds[i],ρ1,r.same s1,rx,e1,fun Q6 r2=>hb _ _ _ ⟨ρ1,F,f,r2,e2,?_⟩⟩;have Ny:Mv F1 H1 F H':=mv.trans (.same s1);cases f with
   |next ρ2=>exact fun L1 H3 F3 m3 r3=>⟨L8,ρ2,F3,Ny.trans m3,r3,e⟩
   |cont ρ2=>exact fun L1 H3 F3 m3 r3=>⟨L8,ρ2,F3,Ny.trans m3,r3,e⟩
   |brk ρ2=>cases e;exact fun L1 H3 F3 m3 r3=>q L1 H3 F3 (Ny.trans m3) r3
   |ret d=>cases e;exact fun v H3 F3 m3 a b rv=>q v H3 F3 (Ny.trans m3) a b rv
   |eU d=>cases e;exact fun p H3 F3 xs ds e m3 a b c rv=>q p H3 F3 xs ds e (Ny.trans m3) a b c rv
   |cP d=>cases e;exact fun v H3 F3 F4 as m3 a b c d e rv=>q v H3 F3 F4 as (Ny.trans m3) a b c d e rv
 · have ei:i=ds.length:=by omega
   subst ei;rw[List.drop_length]at e;cases e;exact .inl ⟨g2,q σ H F mv r⟩
theorem BV(hp:PassesOwn (model X.prog X.w) X.A X.env X.xe)(hc:X.calm=true)(hi:JI X tg iter it)(hg:JG X tg g)(hb:dI X body f)
   (hs:∀x,foldedSetIterable iter X.env x=pure x:=by intro _;rfl):JS X (.For tg iter body [] pos) (dy it g f):=fun F0=>
 cJ (L2.zj hp hc hi (hg F0) (hb F0) hs) fun D σ H ⟨ρ,F,fl,r,e,q⟩=>by
   obtain⟨ds,ed,e⟩:=az.mp e;exact⟨ρ,F,ds,r.rs,ed,fun J H1 s1 gv=>CA (fun _ _ _ _ h=>h) (fun _ _ _ h=>h) gv (r.same s1) e (q.mv (.same s1))⟩
theorem Gj(h:gH M H F a xs)(rs:ag M H F ds xs):Gives M (L2.og M.K a) H F ds:=by
 intro H' F' mv tr;have h':=h.mv mv;have OD:=rs.mv mv;refine⟨fun i d hd=>?_,?_⟩
 · obtain⟨x,hx,rx⟩:=OD.get hd
   refine⟨⟨xs,x,h'.sq,hx⟩,fun y H2 hy=>?_⟩;obtain⟨rfl,hy⟩:=hy;have:=hy xs h'.sq;rw[hx]at this;cases this;exact⟨aq.refl _,rx⟩
 ·exact⟨xs,h'.sq,by rw[rs.length];exact Nat.le_refl _⟩
theorem Du(h:dF M H F a xs)(rs:ag M H F ds xs):Gives M (L2.nc M.K a) H F ds:=by
 intro H' F' mv tr;have h':=h.mv mv;have OD:=rs.mv mv;refine⟨fun i d hd=>?_,?_⟩
 · obtain⟨x,hx,rx⟩:=OD.get hd
   refine⟨⟨xs,x,h'.sq,hx⟩,fun y H2 hy=>?_⟩;obtain⟨rfl,hy⟩:=hy;have:=hy xs h'.sq;rw[hx]at this;cases this;exact⟨aq.refl _,rx⟩
 ·exact⟨xs,h'.sq,by rw[rs.length];exact Nat.le_refl _⟩
theorem vn:Gives M (L2.cI lo (hi - lo).toNat) H F (dG lo hi):=by
 intro H' F' mv tr;refine⟨fun i d hd=>?_,?_⟩
 · unfold dG at hd
   rw[List.getElem?_map]at hd;cases e:(List.range (hi - lo).toNat)[i]? with
   |none=>rw[e]at hd;cases hd
   | some k=>
     rw[e]at hd;obtain⟨L8,hk⟩:=List.getElem?_eq_some_iff.mp e;simp at hk L8 hd;subst hk hd;refine⟨show i<(hi - lo).toNat by omega,fun y H2 hy=>?_⟩
     obtain⟨rfl,rfl⟩:=hy;exact⟨aq.refl _,fU⟩
 · show(hi - lo).toNat≤(dG lo hi).length
   unfold dG;simp
@[simp] def KW:D→R (List D)
 |.tup xs=>.ok xs
 |_=>.bad
theorem t8(h:inR j=true): -(2 ^ 62)≤j∧j<2 ^ 62:=by
 unfold inR at h;rw[Bool.and_eq_true,decide_eq_true_eq,decide_eq_true_eq]at h;exact⟨by omega,by omega⟩
theorem JQ(hg:L2.Gl X "range")(hm:X.mg "range"=none)(ha:JE X a fa)(hs:starEach [a] X.env=(false,eval a X.env)::starEach [] X.env:=by rfl):JI X tg (.Call (.Name "range" p) [a] [] pos) (kh fa):=
 j6 (L2.BY hg hm (fJ ha gB hs) hs) fun σ H Q ⟨ρ,F,ds,r,e,q⟩=>by
   obtain⟨d,ed,e⟩:=az.mp e;refine⟨ρ,F,[d],r,by show(fa ρ).bind _=_;rw[ed];rfl,fun vs H1 s1 rv=>?_⟩
   obtain⟨x,rfl,rx⟩:=rv.one;split at e
   · split at e
     · rename_i j hj
       cases e;have hj:=t8 hj;have:=q (L2.cI 0 j.toNat) H1 s1 (by have:=vn (M:=aA X) (H:=H1) (F:=F) (lo:=0) (hi:=j);rwa[Int.sub_zero]at this)
       exact⟨j,by rw[ck rx],hj.1,hj.2,this⟩
     ·cases e
   ·cases e
theorem Dw(hg:L2.Gl X "range")(hm:X.mg "range"=none)(ha:JE X a fa)(hb:JE X b fb)(hs:starEach [a,b] X.env=(false,eval a X.env)::starEach [b] X.env:=by rfl)(L0:starEach [b] X.env=(false,eval b X.env)::starEach [] X.env:=by rfl):
   JI X tg (.Call (.Name "range" p) [a,b] [] pos) (jy fa fb):=
 j6 (L2.Jl hg hm (fJ ha (fJ hb gB L0) hs) (by rw[hs,L0];rfl) L0) fun σ H Q ⟨ρ,F,ds,r,e,q⟩=>by
   obtain⟨d,ed,e⟩:=az.mp e;obtain⟨d2,SD,e⟩:=az.mp e;refine⟨ρ,F,[d,d2],r,by show(fa ρ).bind _=_;rw[ed];show((fb ρ).bind _).bind _=_;rw[SD];rfl,fun vs H1 s1 rv=>?_⟩
   obtain⟨x,y,rfl,rx,ry⟩:=rv.two;split at e
   · split at e
     · rename_i i j _ hj
       cases e;rw[Bool.and_eq_true]at hj;have h1:=t8 hj.1;have h2:=t8 hj.2;exact⟨i,j,by rw[ck rx,ck ry],⟨h1.1,h1.2,h2.1,h2.2⟩,q _ H1 s1 vn⟩
     ·cases e
   ·cases e
noncomputable def iS(M:Md)(m:List D→R D)(n:Nat):L2.Sp:=fun vs H Q _=>∃F ds d,(∀p,F p→∃o,H p=some o)∧ag M H F ds vs∧ds.length=n∧m ds=.ok d∧∀v H',aq H H'→Rep M H' F d v→Q v H'
theorem Rep.sub(hs:∀a,F a→F' a)(h:Rep M H F' d v):Rep M H F d v:=h.mv fun a o n e=>⟨fun f=>n (hs a f),e⟩
theorem xZ(tr:∀p,F p→∃o,G p=some o)(rs:ag M G F ds vs)(hl:ds.length=n)(hn:n≤N.length):aT M G ⟨G,F,none⟩ G F (L2.start N vs) (ds.map Slot.sh++List.replicate (N.length - ds.length) .un):=by
 have PZ:=rs.length
 have no:∀i,¬bp (ds.map Slot.sh++List.replicate (N.length - ds.length) .un) i:=by
   intro i hi
   have:∀s,(ds.map Slot.sh++List.replicate (N.length - ds.length) Slot.un)[i]? =some s→(∃d,s=.sh d)∨s=.un:=by
     intro s hs;rw[List.getElem?_append]at hs;split at hs
     · rw[List.getElem?_map]at hs
       cases e1:ds[i]? with
       |none=>rw[e1]at hs;cases hs
       |some d'=>rw[e1]at hs;cases hs;exact .inl ⟨_,rfl⟩
     · rw[List.getElem?_replicate]at hs
       split at hs<;>cases hs;exact .inr rfl
   rcases hi with⟨x,hx⟩|⟨k,x,hx⟩
   ·rcases this _ hx with⟨_,h⟩|h<;>cases h
   ·rcases this _ hx with⟨_,h⟩|h<;>cases h
 have aH:∀(i:Nat) Lw,(ds.map Slot.sh++List.replicate (N.length - ds.length) Slot.un)[i]? ≠some (.on Lw):=by
   intro i Lw hs;rw[List.getElem?_append]at hs;split at hs
   · rw[List.getElem?_map]at hs
     cases e1:ds[i]? with
     |none=>rw[e1]at hs;cases hs
     |some d'=>rw[e1]at hs;cases hs
   · rw[List.getElem?_replicate]at hs
     split at hs<;>cases hs
 refine⟨⟨?_,tr,?_,?_,?_,?_,.no aH⟩,aq.refl _,fun _ h=>h,tr,?_,fun i Lw b e=>absurd e (aH i Lw),fun w hw=>nomatch hw⟩
 ·unfold L2.start;simp[PZ]
 · intro i d hd
   rw[List.getElem?_append]at hd;split at hd
   · rw[List.getElem?_map]at hd
     cases e1:ds[i]? with
     |none=>rw[e1]at hd;cases hd
     | some d'=>
       rw[e1]at hd;cases hd;obtain⟨v,ev,rv⟩:=rs.get e1;refine⟨v,?_,rv⟩;unfold L2.start;rw[List.getElem?_append_left (by obtain⟨h,_⟩:=List.getElem?_eq_some_iff.mp ev;simpa using h),List.getElem?_map,ev];rfl
   · rw[List.getElem?_replicate]at hd
     split at hd<;>cases hd
 · intro i d hd
   rw[List.getElem?_append]at hd;split at hd
   · rw[List.getElem?_map]at hd
     cases e1:ds[i]? with
     |none=>rw[e1]at hd;cases hd
     |some d'=>rw[e1]at hd;cases hd
   · rw[List.getElem?_replicate]at hd
     split at hd<;>cases hd
 · intro i k d hd
   rw[List.getElem?_append]at hd;split at hd
   · rw[List.getElem?_map]at hd
     cases e1:ds[i]? with
     |none=>rw[e1]at hd;cases hd
     |some d'=>rw[e1]at hd;cases hd
   · rw[List.getElem?_replicate]at hd
     split at hd<;>cases hd
 · intro i j a oi
   exact absurd oi (no i)
 · intro i a oi
   exact absurd oi (no i)
theorem BJ{N:List Str}{n:Nat}{body:Sm}{vs:List V}{Q:VK}{E:XK}{t:TS}(ht:∀(F0:Gf) D σ H,fz M F0.g F0 body D σ H→t D σ H)(h:iS M (fn N.length body) n vs G Q E)(hn:n≤N.length):t {nx:=fun _ H'=>Q .aH H',rt:=Q} (L2.start N vs) G:=by
 obtain⟨F,ds,d,tr,rs,hl,e,q⟩:=h;obtain⟨f,ef,e⟩:=az.mp e;refine ht ⟨G,F,none⟩ _ _ _ ⟨_,F,f,xZ tr rs hl hn,ef,?_⟩;cases f with
 |next ρ'=>cases e;exact fun J' H' F' mv r'=>q _ _ r'.sm tG
 |ret d'=>cases e;exact fun v H' F' mv sm sub rv=>q _ _ sm (rv.sub sub)
 |brk _=>cases e
 |cont _=>cases e
 |eU _=>cases e
 |cP _=>cases e
theorem ag.sub(hs:∀a,F a→F' a)(h:ag M H F' d v):ag M H F d v:=h.mv fun a o n e=>⟨fun f=>n (hs a f),e⟩
end
section
variable{X:Cx}{M:Md}{G H H':Hp}{F0:Gf}{F F':Addr→Prop}{σ:L2.St}{ρ:En}{pos:Pos}{DE:Ends}
def Own(M:Md)(H:Hp)(F:Addr→Prop)(s:Slot)(o:HO):Prop:=
 (∃ds xs,s=.ol ds∧o=.lst xs∧ag M H F ds xs)∨∃ks ds xs,s=.od ks ds∧o=.dK (ks.zip xs)∧ks.length=xs.length∧ag M H F ds xs
theorem Own.vT(h:Own M H F s o):∀t,s≠.on (.tr t):=fun t e=>by
 rcases h with⟨ds,xs,rfl,_⟩|⟨ks,ds,xs,rfl,_⟩<;>cases e
theorem Own.mv{s:Slot}{o:HO}(m:Mv F H F' H')(h:Own M H F s o):Own M H' F' s o:=by
 rcases h with⟨ds,xs,e1,e2,r⟩|⟨ks,ds,xs,e1,e2,l,r⟩
 ·exact .inl ⟨ds,xs,e1,e2,r.mv m⟩
 ·exact .inr ⟨ks,ds,xs,e1,e2,l,r.mv m⟩
theorem bj.ownAt(r:bj M H F σ ρ)(o:bp ρ i):∃a s u,ρ[i]? =some s∧σ[i]? =some (some (.ref a))∧F a∧H a=some u∧Own M H F s u:=by
 rcases o with⟨ds,q⟩|⟨ks,ds,q⟩
 · obtain⟨a,xs,h1,h2,h3,h4⟩:=r.ol i ds q
   exact⟨a,_,_,q,h1,h2,h3,.inl ⟨ds,xs,rfl,rfl,h4⟩⟩
 · obtain⟨a,xs,h1,h2,h3,h4,h5⟩:=r.od i ks ds q
   exact⟨a,_,_,q,h1,h2,h3,.inr ⟨ks,ds,xs,rfl,rfl,h4,h5⟩⟩
theorem kT(h:bp (ρ.set i s) j):j=i∨(i≠j∧bp ρ j):=by
 rcases h with⟨ds,q⟩|⟨ks,ds,q⟩
 · rcases get_set q with⟨h,_,_⟩|⟨C',q⟩
   ·exact .inl h.symm
   ·exact .inr ⟨C',.inl ⟨ds,q⟩⟩
 · rcases get_set q with⟨h,_,_⟩|⟨C',q⟩
   ·exact .inl h.symm
   ·exact .inr ⟨C',.inr ⟨ks,ds,q⟩⟩
theorem bj.put(r:bj M H F σ ρ)(mv:Mv F H F' H')(hF:∀b,F b→F' b)(ha:F' a)(ho:H' a=some o)(hk:∀b u,F b→b≠a→H b=some u→H' b=some u)(Uu:∀b,F' b→F b∨b=a)
   (hn:∀j,j≠i→bp ρ j→σ[j]? ≠some (some (.ref a))) (TX:∀(j:Nat) Lw b,j≠i→ρ[j]? =some (.on Lw)→cR M H F σ ρ j b→b≠a) (own:Own M H' F' s o):bj M H' F' (σ.set i (some (.ref a))) (ρ.set i s) where
 len:=by simp[r.len]
 aX b f:=by
   by_cases e:b=a
   ·subst e;exact⟨o,ho⟩
   · rcases Uu b f with f|f
     · obtain⟨u,hu⟩:=r.aX b f
       exact⟨u,hk b u f e hu⟩
     ·exact absurd f e
 sh j d q:=by
   rcases get_set q with⟨rfl,hx,hl⟩|⟨C',q⟩
   ·rcases own with⟨ds,xs,rfl,_⟩|⟨ks,ds,xs,rfl,_⟩<;>cases hx
   · obtain⟨w,e1,g⟩:=r.sh j d q
     exact⟨w,by rw[List.getElem?_set_ne C'];exact e1,g.mv mv⟩
 ol j d q:=by
   rcases get_set q with⟨rfl,x,hl⟩|⟨C',q⟩
   · rcases own with⟨ds,xs,rfl,rfl,rs⟩|⟨ks,ds,xs,rfl,_⟩
     · cases x
       exact⟨a,xs,by rw[List.getElem?_set_self (by rw[←r.len];exact hl)],ha,ho,rs⟩
     ·cases x
   · obtain⟨b,xs,e1,f,e2,g⟩:=r.ol j d q
     refine⟨b,xs,by rw[List.getElem?_set_ne C'];exact e1,hF _ f,hk _ _ f ?_ e2,g.mv mv⟩
     rintro rfl;exact hn j (Ne.symm C') (.inl ⟨_,q⟩) e1
 od j k d q:=by
   rcases get_set q with⟨rfl,x,hl⟩|⟨C',q⟩
   · rcases own with⟨ds,xs,rfl,_⟩|⟨ks,ds,xs,rfl,rfl,l,rs⟩
     ·cases x
     · cases x
       exact⟨a,xs,by rw[List.getElem?_set_self (by rw[←r.len];exact hl)],ha,ho,l,rs⟩
   · obtain⟨b,xs,e1,f,e2,l,g⟩:=r.od j k d q
     refine⟨b,xs,by rw[List.getElem?_set_ne C'];exact e1,hF _ f,hk _ _ f ?_ e2,l,g.mv mv⟩
     rintro rfl;exact hn j (Ne.symm C') (.inr ⟨_,_,q⟩) e1
 cn j k b oj ok ej ek:=by
   have self:∀c,(σ.set i (some (.ref a)))[i]? =some (some (.ref c))→c=a:=fun c h=>by
     rw[List.getElem?_set_self']at h;cases hq:σ[i]? with
     |none=>rw[hq]at h;cases h
     |some z=>rw[hq]at h;cases h;rfl
   rcases kT oj with hj|⟨nj,oj⟩
   · rcases kT ok with Mn|⟨nk,ok⟩
     ·rw[hj,Mn]
     · rw[hj]at ej
       rw[List.getElem?_set_ne nk]at ek;cases self _ ej;exact absurd ek (hn k (Ne.symm nk) ok)
   · rw[List.getElem?_set_ne nj]at ej
     rcases kT ok with Mn|⟨nk,ok⟩
     · rw[Mn]at ek
       cases self _ ek;exact absurd ej (hn j (Ne.symm nj) oj)
     · rw[List.getElem?_set_ne nk]at ek
       exact r.cn j k b oj ok ej ek
 on:=by
   have old:∀(j:Nat) Lw,(ρ.set i s)[j]? =some (.on Lw)→i≠j∧ρ[j]? =some (.on Lw):=fun j Lw e=>by
     rcases get_set e with⟨_,x,_⟩|⟨C',e⟩
     ·rcases own with⟨ds,xs,rfl,_⟩|⟨ks,ds,xs,rfl,_⟩<;>cases x
     ·exact⟨C',e⟩
   refine r.on.mv mv (fun j Lw e=>⟨(old j Lw e).2,List.getElem?_set_ne (old j Lw e).1⟩) (fun j Lw b u e hb f hu=>⟨hF b f,hk b u f (TX j Lw b (Ne.symm (old j Lw e).1) (old j Lw e).2 hb) hu⟩) fun j Lw b e hb k ok=>?_;obtain⟨C',e0⟩:=old j Lw e;rcases kT ok with rfl|⟨nk,ok⟩
   · intro h
     rw[List.getElem?_set_self']at h;cases hq:σ[k]? with
     |none=>rw[hq]at h;cases h
     |some z=>rw[hq]at h;cases h;exact TX j Lw _ (Ne.symm C') e0 hb rfl
   · rw[List.getElem?_set_ne nk]
     exact(r.on j Lw e0).2.1 b hb k ok
theorem aT.new{i:Nat}{p:Addr}{s:Slot}{o:HO}(r:aT M G F0 H F σ ρ)(hp:H p=none)(own:Own M H F s o):
   Mv F H (fun b=>F b∨b=p) (upd H p o)∧aT M G F0 (upd H p o) (fun b=>F b∨b=p) (σ.set i (some (.ref p))) (ρ.set i s):=by
 have ne:∀b u,H b=some u→b≠p:=fun b u e z=>by subst z;rw[hp]at e;cases e
 have mv:Mv F H (fun b=>F b∨b=p) (upd H p o):=fun b u n e=>⟨fun h=>h.elim n (ne b u e),by rw[L2.aF (ne b u e)];exact e⟩
 have hG:G p=none:=r.sm.free hp
 refine⟨mv,⟨r.rs.put mv (fun _ h=>.inl h) (.inr rfl) L2.bu (fun b u _ n e=>by rw[L2.aF n];exact e) (fun _ h=>h) (fun j _ oj e=>?_) (fun j Lw b _ e hb z=>by
     obtain⟨_,xs,hx⟩:=gF.f hb;exact ne b _ hx z) (own.mv mv),fun b u e=>by rw[L2.aF (ne b u (r.sm b u e))];exact r.sm b u e,fun b h=>.inl (r.sub b h),r.df,fun j a oj e=>?_,fun j Lw b e hb=>?_,r.pin.set own.vT⟩⟩
 · obtain⟨a,_,u,_,e1,_,e2,_⟩:=r.rs.ownAt oj
   rw[e1]at e;cases e;exact ne _ _ e2 rfl
 · rcases kT oj with rfl|⟨nj,oj⟩
   · rw[List.getElem?_set]at e
     split at e
     · split at e
       ·cases e;exact hG
       ·cases e
     ·rename_i h;exact absurd rfl h
   · rw[List.getElem?_set_ne nj]at e
     exact r.own j a oj e
 · rcases get_set e with⟨_,x,_⟩|⟨C',e⟩
   ·rcases own with⟨ds,xs,rfl,_⟩|⟨ks,ds,xs,rfl,_⟩<;>cases x
   ·exact r.dY j Lw b e (r.rs.on.back (fun y ey=>by rw[List.getElem?_set_ne C']at ey;exact ey) (List.getElem?_set_ne C') (fun a u _ _ hu=>by rw[L2.aF (ne a u hu)];exact hu) (fun a u _ hu=>by rw[L2.aF (ne a u hu)];exact hu) hb)
theorem aT.chg(r:aT M G F0 H F σ ρ)(oi:bp ρ i)(ei:σ[i]? =some (some (.ref a)))(own:Own M H F s o):
   Mv F H F (upd H a o)∧aT M G F0 (upd H a o) F σ (ρ.set i s):=by
 obtain⟨a',_,u,_,e1,fa,e2,_⟩:=r.rs.ownAt oi;rw[ei]at e1;cases e1;have mv:Mv F H F (upd H a o):=fun b v n e=>⟨n,by rw[L2.aF (fun z=>by subst z;exact n fa)];exact e⟩
 have hG:=r.own i a oi ei
 have hs:σ.set i (some (.ref a))=σ:=by
   obtain⟨hl,h⟩:=List.getElem?_eq_some_iff.mp ei;rw[←h];exact List.set_getElem_self hl
 have key:=r.rs.put (i:=i) mv (fun _ h=>h) fa L2.bu (fun b u _ n e=>by rw[L2.aF n];exact e) (fun _ h=>.inl h) (fun j nj oj e=>nj (r.rs.cn j i a oj oi e ei)) (fun j Lw b _ e hb z=>by subst z;exact(r.rs.on j Lw e).2.1 _ hb i oi ei) (own.mv mv)
 rw[hs]at key;refine⟨mv,⟨key,fun b u e=>by rw[L2.aF (fun z=>by subst z;rw[hG]at e;cases e)];exact r.sm b u e,r.sub,r.df,fun j b oj e=>?_,fun j Lw b e hb=>?_,r.pin.pQ own.vT⟩⟩
 · rcases kT oj with rfl|⟨nj,oj⟩
   ·rw[ei]at e;cases e;exact hG
   ·exact r.own j b oj e
 · rcases get_set e with⟨_,x,_⟩|⟨C',e⟩
   ·rcases own with⟨ds,xs,rfl,_⟩|⟨ks,ds,xs,rfl,_⟩<;>cases x
   · refine r.dY j Lw b e (r.rs.on.back (fun y ey=>by rw[List.getElem?_set_ne C']at ey;exact ey) rfl (fun c u hc _ hu=>?_) (fun a' u n hu=>(mv a' u n hu).2) hb)
     rw[L2.aF (fun z=>by subst z;exact(r.rs.on j Lw e).2.1 _ hc i oi ei)];exact hu
theorem zg(r:gF M H F σ ρ)(oi:bp ρ i)(ei:σ[i]? =some (some (.ref a)))(mv:Mv F H F' H)(hF:∀b,F b→b≠a→F' b):gF M H F' σ (ρ.set i (.sh d)):=by
 have old:∀(j:Nat) Lw,(ρ.set i (.sh d))[j]? =some (.on Lw)→ρ[j]? =some (.on Lw):=fun j Lw e=>by
   rcases get_set e with⟨_,x,_⟩|⟨C',e⟩
   ·cases x
   ·exact e
 refine r.mv mv (fun j Lw e=>⟨old j Lw e,rfl⟩) (fun j Lw b u e hb f hu=>⟨hF b f fun z=>?_,hu⟩) fun j Lw b e hb k ok=>(r j Lw (old j Lw e)).2.1 b hb k ok.fg.2;subst z;exact(r j Lw (old j Lw e)).2.1 _ hb i oi ei
theorem aT.EG(r:aT M G F0 H F σ ρ)(oi:bp ρ i)(es:ρ[i]? =some s)(ei:σ[i]? =some (some (.ref a)))(hd:∃ds,s=.ol ds∧d=.lst ds):
   ∃F',(F'=fun b=>F b∧b≠a)∧Mv F H F' H∧aT M G F0 H F' σ (ρ.set i (.sh d)):=by
 obtain⟨a',s',u,es',e1,fa,e2,ow⟩:=r.rs.ownAt oi;rw[ei]at e1;cases e1;rw[es]at es';cases es';have hG:=r.own i a oi ei;have mv:Mv F H (fun b=>F b∧b≠a) H:=fun b v n e=>⟨fun h=>n h.1,e⟩
 have PN:Rep M H (fun b=>F b∧b≠a) d (.ref a):=by
   obtain⟨ds,rfl,rfl⟩:=hd;rcases ow with⟨Tb,xs,h1,rfl,rs⟩|⟨ks,ds,xs,h1,_⟩
   · cases h1
     simp only[Rep];exact⟨a,xs,rfl,.inl ⟨fun h=>h.2 rfl,.inl e2⟩,rs.mv mv⟩
   ·cases h1
 refine⟨fun b=>F b∧b≠a,rfl,mv,⟨⟨by simp[r.rs.len],fun b h=>r.rs.aX b h.1,?_,?_,?_,?_,?_⟩,r.sm,fun b h=>⟨r.sub b h,fun z=>by subst z;obtain⟨o,e⟩:=r.df _ h;rw[hG]at e;cases e⟩,r.df,?_,?_,r.pin.pQ fun _ h=>nomatch h⟩⟩
 · intro j e q
   rcases get_set q with⟨rfl,hx,hl⟩|⟨C',q⟩
   · cases hx
     exact⟨_,ei,PN⟩
   · obtain⟨w,e1,g⟩:=r.rs.sh j e q
     exact⟨w,e1,g.mv mv⟩
 · intro j e q
   rcases get_set q with⟨rfl,x,hl⟩|⟨C',q⟩
   ·cases x
   · obtain⟨b,xs,e1,f,e3,g⟩:=r.rs.ol j e q
     exact⟨b,xs,e1,⟨f,fun z=>by subst z;exact C' (r.rs.cn i j _ oi (.inl ⟨_,q⟩) ei e1)⟩,e3,g.mv mv⟩
 · intro j k e q
   rcases get_set q with⟨rfl,x,hl⟩|⟨C',q⟩
   ·cases x
   · obtain⟨b,xs,e1,f,e3,l,g⟩:=r.rs.od j k e q
     exact⟨b,xs,e1,⟨f,fun z=>by subst z;exact C' (r.rs.cn i j _ oi (.inr ⟨_,_,q⟩) ei e1)⟩,e3,l,g.mv mv⟩
 · intro j k b oj ok ej ek
   exact r.rs.cn j k b oj.fg.2 ok.fg.2 ej ek
 ·exact zg r.rs.on oi ei mv (fun b f n=>⟨f,n⟩)
 · intro j b oj e
   exact r.own j b oj.fg.2 e
 · intro j Lw b e hb
   rcases get_set e with⟨_,x,_⟩|⟨C',e⟩
   ·cases x
   ·exact r.dY j Lw b e (r.rs.on.back (fun y ey=>by rw[List.getElem?_set_ne C']at ey;exact ey) rfl (fun c u _ _ hu=>hu) (fun _ _ _ e=>e) hb)
theorem aT.frz{u:HO}(r:aT M G F0 H F σ ρ)(oi:bp ρ i)(es:ρ[i]? =some s)(ei:σ[i]? =some (some (.ref a)))(hd:∃ds,s=.ol ds∧d=.lst ds):
   ∃F',Mv F H F' H∧aT M G F0 H F' σ (ρ.set i (.sh d)):=let⟨F',_,m,h⟩:=r.EG oi es ei hd;⟨F',m,h⟩
theorem aT.E8(r:aT M G F0 H F σ ρ)(es:ρ[i]? =some (.od ks ds)):∃a kvs,H a=some (.dK kvs)∧∀ob,∃F',(F'=fun b=>F b∧b≠a)∧Mv F H F' (upd H a (.frz ob (.dK kvs)))∧aT M G F0 (upd H a (.frz ob (.dK kvs))) F' σ (ρ.set i (.sh (.aw ks ds))):=by
 have oi:bp ρ i:=.inr ⟨_,_,es⟩;obtain⟨a,xs,ei,fa,e2,hl,rs⟩:=r.rs.od i ks ds es;refine⟨a,ks.zip xs,e2,fun ob=>?_⟩;have hG:=r.own i a oi ei;have ne:∀b,¬F b→b≠a:=fun b n z=>by subst z;exact n fa
 have mv:Mv F H (fun b=>F b∧b≠a) (upd H a (.frz ob (.dK (ks.zip xs)))):=fun b v n e=>⟨fun h=>n h.1,by rw[L2.aF (ne b n)];exact e⟩
 refine⟨fun b=>F b∧b≠a,rfl,mv,⟨⟨by simp[r.rs.len],fun b h=>?_,?_,?_,?_,?_,?_⟩,fun b u e=>by rw[L2.aF (fun z=>by subst z;rw[hG]at e;cases e)];exact r.sm b u e,fun b h=>⟨r.sub b h,fun z=>by subst z;obtain⟨o,e⟩:=r.df _ h;rw[hG]at e;cases e⟩,r.df,?_,?_,r.pin.pQ fun _ h=>nomatch h⟩⟩
 · obtain⟨o,e⟩:=r.rs.aX b h.1
   exact⟨o,by rw[L2.aF h.2];exact e⟩
 · intro j e q
   rcases get_set q with⟨rfl,hx,hl⟩|⟨C',q⟩
   · cases hx
     refine⟨_,ei,?_⟩;simp only[Rep];exact⟨a,xs,rfl,.inl ⟨fun h=>h.2 rfl,ob,L2.bu⟩,by assumption,rs.mv mv⟩
   · obtain⟨w,e1,g⟩:=r.rs.sh j e q
     exact⟨w,e1,g.mv mv⟩
 · intro j e q
   rcases get_set q with⟨rfl,x,hl⟩|⟨C',q⟩
   ·cases x
   · obtain⟨b,ys,e1,f,e3,g⟩:=r.rs.ol j e q
     have hb:b≠a:=fun z=>by subst z;exact C' (r.rs.cn i j _ oi (.inl ⟨_,q⟩) ei e1)
     exact⟨b,ys,e1,⟨f,hb⟩,by rw[L2.aF hb];exact e3,g.mv mv⟩
 · intro j k e q
   rcases get_set q with⟨rfl,x,hl⟩|⟨C',q⟩
   ·cases x
   · obtain⟨b,ys,e1,f,e3,l,g⟩:=r.rs.od j k e q
     have hb:b≠a:=fun z=>by subst z;exact C' (r.rs.cn i j _ oi (.inr ⟨_,_,q⟩) ei e1)
     exact⟨b,ys,e1,⟨f,hb⟩,by rw[L2.aF hb];exact e3,l,g.mv mv⟩
 · intro j k b oj ok ej ek
   exact r.rs.cn j k b oj.fg.2 ok.fg.2 ej ek
 · have old:∀(j:Nat) Lw,(ρ.set i (.sh (.aw ks ds)))[j]? =some (.on Lw)→ρ[j]? =some (.on Lw):=fun j Lw e=>by
     rcases get_set e with⟨_,x,_⟩|⟨C',e⟩
     ·cases x
     ·exact e
   refine r.rs.on.mv mv (fun j Lw e=>⟨old j Lw e,rfl⟩) (fun j Lw b u e hb f hu=>?_) fun j Lw b e hb k ok=>(r.rs.on j Lw (old j Lw e)).2.1 b hb k ok.fg.2;have NJ:b≠a:=fun z=>by subst z;exact(r.rs.on j Lw (old j Lw e)).2.1 _ hb i oi ei
   exact⟨⟨f,NJ⟩,by rw[L2.aF NJ];exact hu⟩
 · intro j b oj e
   exact r.own j b oj.fg.2 e
 · intro j Lw b e hb
   rcases get_set e with⟨_,x,_⟩|⟨C',e⟩
   ·cases x
   · refine r.dY j Lw b e (r.rs.on.back (fun y ey=>by rw[List.getElem?_set_ne C']at ey;exact ey) rfl (fun c u hc _ hu=>?_) (fun a' u n hu=>(mv a' u n hu).2) hb)
     rw[L2.aF (fun z=>by subst z;exact(r.rs.on j Lw e).2.1 _ hc i oi ei)];exact hu
theorem BF(i:Nat)(h:dI X rest (aj fs)):dI X rest (aj (iA i::fs)):=fun F0 pins s σ H D I ⟨ρ,F,fl,r,e,q⟩=>by
 obtain⟨f1,e1,e⟩:=az.mp e;unfold iA at e1;split at e1
 · rename_i xs q1
   cases e1;have oi:bp ρ i:=.inl ⟨_,q1⟩;obtain⟨a,_,_,_,ea,_⟩:=r.rs.ownAt oi;obtain⟨F',mv,r'⟩:=r.frz (u:=.lst []) oi q1 ea ⟨_,rfl,rfl⟩;exact h F0 pins s σ H D I ⟨_,F',fl,r',e,q.mv mv⟩
 · rename_i ks vs q1
   cases e1;obtain⟨a,kvs,ha,k⟩:=r.E8 q1;obtain⟨ob,I'⟩:=sH I ha;obtain⟨F',_,mv,r'⟩:=k ob;exact h F0 pins s σ _ D I' ⟨_,F',fl,r',e,q.mv mv⟩
 ·cases e1
def B8(M:Md)(f:Ex):TE:=fun σ H Q=>∃ρ F ds,bj M H F σ ρ∧f ρ=.ok (.lst ds)∧∀p H' xs,aq H H'→H' p=none→ag M H' F ds xs→Q (.ref p) (upd H' p (.lst xs))
abbrev JF(X:Cx)(e:Expr)(f:Ex):Prop:=PE X e (B8 (aA X) f)
theorem IQ(h:JA X es (eList fs))(hl:fs.length≤1000:=by decide):JF X (.List es pos) (cL fs):=
 bP (L2.uK h) fun σ H Q ⟨ρ,F,d,hr,e,q⟩=>by
   obtain⟨as,ea,e⟩:=az.mp e;cases e;refine⟨ρ,F,_,hr,ea,fun xs H1 s1 rs=>⟨?_,fun p hp=>q p H1 xs s1 hp rs⟩⟩;rw[←rs.length,jz ea];exact Nat.le_trans hl (by decide)
theorem D5(i:Nat)(hN:X.N.Nodup)(he:JF X e f)(hi:X.N[i]? =some x:=by rfl)(hx:L2.Loc X.env.scope x:=by exact Or.inl rfl)(hf:X.fn x=true∨X.env.scope.names.lookup x=some .local:=by first|exact .inl rfl|exact .inr rfl)
   (hs:swapsWith e (some (.Name x p2)) pos.line X.env=pure false:=by rfl):JS X (.Assign [.Name x p2] e pos) (je i f):=fun F0=>
 cJ (L2.nQ hN hi hx he hs hf) fun D σ H ⟨ρ,F,fl,r,e,q⟩=>by
   obtain⟨d,ed,e⟩:=az.mp e;split at e
   · cases e
     refine⟨ρ,F,_,r.rs,ed,fun p H1 xs s1 hp rs=>?_⟩;obtain⟨mv,r'⟩:=(r.same s1).new (i:=i) (s:=.ol _) hp (.inl ⟨_,xs,rfl,rfl,rs⟩);exact q _ _ _ (Mv.trans (.same s1) mv) r'
   ·cases e
theorem CT(i:Nat)(he:JE X e f)(hN:X.N[i]? =some x:=by rfl)(hv:L2.cw X.env.scope x:=by first|exact Or.inl rfl|exact Or.inr (Or.inl rfl)|exact Or.inr (Or.inr rfl))(hd:(x==("__debug__":Str))=false:=by decide)
   (LH:(x==("__classdict__":Str))=false:=by decide) (Ll:attributeBase (.Name x p2) "append" X.env (eval (.Name x p2) X.env)=eval (.Name x p2) X.env:=by rfl)
   (L':((backTo j' (starEach [e] X.env)).all (fun x=> !x.1)&&(backToKw j' (keywordEach [] X.env)).all (fun x=>x.1.isSome)
     &&decide (([e]:List Expr).length+([]:List Keyword).length+(if([]:List Keyword).isEmpty then 0 else 1)<30))=true:=by rfl)
   (Lm:(apos.endLine==j'.line)=true:=by rfl) (hs:starEach [e] X.env=(false,eval e X.env)::starEach [] X.env:=by rfl)
   (Mq:swapsWith (.Call (.Attribute (.Name x p2) "append" apos) [e] [] j') none pos.line X.env=pure false:=by rfl):
   JS X (.Expr (.Call (.Attribute (.Name x p2) "append" apos) [e] [] j') pos) (jm i f):=fun F0=>
 cJ (L2.jF (L2.rm PySem.F.plainAttrs_list PySem.F.slot_list_append PySem.F.type_list_append L2.tO (L2.pv i hN hv hd LH) (fJ he gB hs) Ll L' Lm hs) Mq) fun D σ H ⟨ρ,F,fl,r,e,q⟩=>by
   obtain⟨d,ed,e⟩:=az.mp e;split at e
   · rename_i xs q1
     split at e
     · rename_i L8
       cases e;have oi:bp ρ i:=.inl ⟨_,q1⟩;obtain⟨a,ys,ea,fa,ha,rs⟩:=r.rs.ol i _ q1;refine⟨_,ea,.inl ⟨rfl,ys,bz.of ha⟩,ρ,F,[d],r.rs,by show(f ρ).bind _=_;rw[ed];rfl,fun vs H1 s1 rv=>?_⟩
       obtain⟨y,rfl,ry⟩:=rv.one;have r1:=r.same s1;refine⟨a,ys,y,rfl,rfl,s1 _ _ ha,by rw[←rs.length];exact L8,?_⟩
       obtain⟨mv,r'⟩:=r1.chg (s:=.ol (xs++[d])) oi ea (.inl ⟨_,ys++[y],rfl,rfl,(rs.mv (.same s1)).append (ag.cons ry ag.nil)⟩);exact q _ _ _ (Mv.trans (.same s1) mv) r'
     ·cases e
   ·cases e
structure Df(P:Program)(w:World)(K:PySem.W.Frag)(mg:Str→Option Value)(base:Heap)(x:Str)(k n:Nat)(m:List D→R D):Prop where
 ex:∃f fd ps,L2.dm P w K mg base L2.ff k f fd ps (iS ⟨K,P,w⟩ m n)∧L2.Binds K fd ps []∧PySem.W.keepIn K (.ref f)=true∧mg x=some (.ref f)
theorem Hg(hn:fs.length=n)(h:tP M (aJ m fs) σ H Q):L2.qw (iS M m n) [] E (qe M (eList fs)) σ H Q:=by
 obtain⟨ρ,F,d,hr,e,q⟩:=h;obtain⟨ds,OV,e⟩:=az.mp e;refine⟨ρ,F,ds,hr,OV,fun vs H1 s1 rs=>?_⟩;show iS M m n (vs++[]) H1 Q E;rw[List.append_nil];exact⟨F,ds,d,(hr.same s1).aX,rs,by rw[jz OV];exact hn,e,fun v H2 s2 rv=>q v H2 (s1.trans s2) rv⟩
theorem ES(d:Df X.prog X.w X.K X.mg X.base x k n m)(hr:L2.b4 j X.A)(hg:L2.Gl X x)(ha:JA X (e::es) (eList fs))(hk:k≤j:=by decide)(hn:fs.length=n:=by rfl)
   (Ms:(x==("__debug__":Str))=false:=by decide) (he:starEach (e::es) X.env=(false,eval e X.env)::starEach es X.env:=by rfl) (MP:(backTo pos (starEach es X.env)).any (·.1)=false:=by rfl):JE X (.Call (.Name x p) (e::es) [] pos) (aJ m fs):=by
 obtain⟨f,fd,ps,h1,h2,h3,h4⟩:=d.ex;exact bP (L2.rC h1 (hr.mono hk) hg h4 h3 h2 .nil L2.qz ha Ms he MP) fun σ H Q h=>Hg hn h
theorem AV(d:Df X.prog X.w X.K X.mg X.base x k 0 m)(hr:L2.b4 j X.A)(hg:L2.Gl X x)(hk:k≤j:=by decide)(Ms:(x==("__debug__":Str))=false:=by decide):JE X (.Call (.Name x p) [] [] pos) (aJ m []):=by
 obtain⟨f,fd,ps,h1,h2,h3,h4⟩:=d.ex;refine bP (L2.DL h1 (hr.mono hk) hg h4 h3 h2 .nil L2.qz Ms) fun σ H Q ⟨ρ,F,d,hr,e,q⟩=>?_;exact⟨F,[],d,hr.aX,ag.nil,rfl,e,q⟩
theorem wq(Fu:L2.bC K x qual st f fd)(S:L2.bR N ps (L2.aK st))
   (h:∀(Lz:Value) (A:Around) (outer:List Env) (s:Shared) (H:Hp) (E:XK),L2.b4 k (A.deeper (PyProof.Rows.envOfC qual (L2.aK st) s.heap.objs.size f Lz))→dI (L2.iu L2.ff P w K mg base N qual (L2.aK st) f Lz A outer s H E).gk (L2.bF st) body)
   (hn:ps.length=n:=by rfl):L2.dm P w K mg base L2.ff (k+1) f fd ps (iS ⟨K,P,w⟩ (fn N.length body) n):=by
 refine Fu.ok S (fun vs H Q E h=>?_) (fun Lz A outer s H vs Q E hr Nw=>?_)
 · obtain⟨F,ds,d,_,rs,hl,_⟩:=h
   rw[←rs.length,hl,hn]
 · refine⟨fun D σ H'=>∃F0:Gf,fz ⟨K,P,w⟩ F0.g F0 body D σ H',fun pins s' σ H' D I ⟨F0,q⟩=>h Lz A outer s H E hr F0 pins s' σ H' D I q,?_⟩
   refine BJ (G:=H) (t:=fun D σ H'=>∃F0:Gf,fz ⟨K,P,w⟩ F0.g F0 body D σ H') (fun F0 D σ H' h=>⟨F0,h⟩) Nw ?_;have:=congrArg List.length S.pre;rw[List.length_take]at this;omega
theorem cx(Fu:L2.bC K x qual st f fd)(hm:mg x=some (.ref f))(S:L2.bR N ps (L2.aK st))(hb:L2.Binds K fd ps [])
   (h:∀(Lz:Value) (A:Around) (outer:List Env) (s:Shared) (H:Hp) (E:XK),L2.b4 k (A.deeper (PyProof.Rows.envOfC qual (L2.aK st) s.heap.objs.size f Lz))→dI (L2.iu L2.ff P w K mg base N qual (L2.aK st) f Lz A outer s H E).gk (L2.bF st) body)
   (hn:ps.length=n:=by rfl):Df P w K mg base x (k+1) n (fn N.length body):=⟨f,fd,ps,wq Fu S h hn,hb,Fu.kp,hm⟩
end
open L2 (It Turn dj)
section
variable{X:Cx}{M:Md}{G H H':Hp}{F0:Gf}{F F':Addr→Prop}{σ:L2.St}{ρ:En}{pos:Pos}{DE:Ends}
theorem rM:cy M lT (L2.rI L2.qm fun i j=>.int (i*j)):=by
 intro F H x y a b d Q tr ra rb e q;unfold lT at e;split at e
 · split at e
   · rename_i h
     cases e;rw[Bool.or_eq_true]at h;exact⟨_,_,ck ra,ck rb,h.elim (fun h=>.inl (wC h)) (fun h=>.inr (wC h)),q _ _ (aq.refl _) fU⟩
   ·cases e
 ·cases e
noncomputable def kW(x:Str):It:=⟨fun i _=>i<x.cps.size,fun i H v H'=>H'=H∧∃c,x.cps[i]? =some c∧v=.str ⟨#[c]⟩,fun i _=>x.cps.size≤i⟩
theorem FU(x:Str)(t:Tok)(it:Addr):Turn P w K tg (kW x) [it] it (fun i h=>h.IsStrIter it "str_ascii_iterator" x t i) where
 mem:=by simp
 obj:=fun i h st b hb=>by
   have e:b=it:=by simpa using hb
   subst e;obtain⟨o,e,c,d⟩:=st;exact⟨o,e,fun v z=>by rw[d]at z;cases z⟩
 keep:=fun i h h' st k=>let⟨o,e,r⟩:=st;⟨o,k it (by simp) o e,r⟩
 item:=by
   intro X hP hw hK hc i pins s σ H E I hf st hg;subst hP hw hK;obtain⟨f0,f1,f2,f3,f4,f5⟩:=hf it (by simp)
   have hg:i<x.cps.size:=hg;refine wpAny_pyNext_ascii_item st (c:=x.cps[i]) (by simp[hg]) fun h' Mz sb=>?_
   have I1:Inv X pins σ H {s with heap:=h',toks:=s.toks+1}:=I.turned (t':=s.toks+1) (fun b o hb e=>(sb.2 b hb).trans e) f0 f1 f3 f4 f5;obtain⟨o,e,c,d⟩:=id Mz;exact⟨_,rfl,L2.jQ (s:={s with heap:=h',toks:=s.toks+1}) e c d (by decide) ⟨.str ⟨#[x.cps[i]]⟩,H,I1,⟨_,rfl⟩,⟨rfl,_,by simp[hg],rfl⟩,Mz,fun b hb=>(hf b hb).1⟩⟩
 done:=by
   intro X hP hw hK hc i pins s σ H E I hf st hg;subst hP hw hK;have hg:x.cps.size≤i:=hg;obtain⟨f0,f1,f2,f3,f4,f5⟩:=hf it (by simp)
   exact wpAny_pyNext_ascii_end (I.ok.hd hc) st (by simp[hg]) fun h' eb=>⟨rfl,I.turned (t':=s.toks) (fun b o hb e=>eb b o hb e) f0 f1 f3 f4 f5⟩
 self:=fun _ _ _ _ _ st h=>wpAny_pyIter_striter_ascii st h
theorem DK(x:Str)(t:Tok)(it:Addr):Turn P w K tg (kW x) [it] it (fun i h=>h.IsStrIter it "str_iterator" x t i) where
 mem:=by simp
 obj:=fun i h st b hb=>by
   have e:b=it:=by simpa using hb
   subst e;obtain⟨o,e,c,d⟩:=st;exact⟨o,e,fun v z=>by rw[d]at z;cases z⟩
 keep:=fun i h h' st k=>let⟨o,e,r⟩:=st;⟨o,k it (by simp) o e,r⟩
 item:=by
   intro X hP hw hK hc i pins s σ H E I hf st hg;subst hP hw hK;obtain⟨f0,f1,f2,f3,f4,f5⟩:=hf it (by simp)
   have hg:i<x.cps.size:=hg;refine wpAny_pyNext_wide_item st (c:=x.cps[i]) (by simp[hg]) fun h' Mz sb=>?_
   have I1:Inv X pins σ H {s with heap:=h',toks:=s.toks+1}:=I.turned (t':=s.toks+1) (fun b o hb e=>(sb.2 b hb).trans e) f0 f1 f3 f4 f5;obtain⟨o,e,c,d⟩:=id Mz;exact⟨_,rfl,L2.jQ (s:={s with heap:=h',toks:=s.toks+1}) e c d (by decide) ⟨.str ⟨#[x.cps[i]]⟩,H,I1,⟨_,rfl⟩,⟨rfl,_,by simp[hg],rfl⟩,Mz,fun b hb=>(hf b hb).1⟩⟩
 done:=by
   intro X hP hw hK hc i pins s σ H E I hf st hg;subst hP hw hK;have hg:x.cps.size≤i:=hg;obtain⟨f0,f1,f2,f3,f4,f5⟩:=hf it (by simp)
   exact wpAny_pyNext_wide_end (I.ok.hd hc) st (by simp[hg]) fun h' eb=>⟨rfl,I.turned (t':=s.toks) (fun b o hb e=>eb b o hb e) f0 f1 f3 f4 f5⟩
 self:=fun _ _ _ _ _ st h=>wpAny_pyIter_striter_wide st h
def AY(K:PySem.W.Frag)(tl:TE):TI:=fun σ H R=>tl σ H fun x H1=>(∃a,x=.ref a∧(∃xs,bz K H1 a xs)∧R (L2.og K a) H1)∨(∃a,x=.ref a∧(∃xs,bN K H1 a xs)∧R (L2.nc K a) H1)∨∃z,x=.str z∧R (kW z) H1
theorem EO{tg:Expr}{pins:List (Addr×Obj)}{R:It→Hp→Prop}{s1:Shared}{x:V}{v:Value}(I1:Inv X pins σ H s1)(r1:RelV x v)
   (q1:(∃a,x=.ref a∧(∃xs,bz X.K H a xs)∧R (L2.og X.K a) H)∨(∃a,x=.ref a∧(∃xs,bN X.K H a xs)∧R (L2.nc X.K a) H)∨∃z,x=.str z∧R (kW z) H):
   wpAny (model X.prog X.w) X.A (pyIter v) (L2.ub X pins σ tg R) X.xe s1:=by
 have fp:∀b∈[s1.heap.objs.size],dj X pins H b:=fun b hb=>by
   have e:b=s1.heap.objs.size:=by simpa using hb
   subst e;exact I1.i9 (Nat.le_refl _) (I1.aI.fresh (Nat.le_refl _))
 rcases q1 with⟨a,rfl,⟨xs,hq⟩,q⟩|⟨a,rfl,⟨xs,hq⟩,q⟩|⟨z,rfl,q⟩
 · cases r1
   obtain⟨B',rv,p,hz⟩:=I1.list hq;refine wpAny_pyIter_list p.isList ?_;exact⟨s1.heap.objs.size,[s1.heap.objs.size],_,_,H,rfl,I1.kept (t':=s1.toks) fun b o e=>Heap.get?_push_of_some _ e,L2.EJ a _,⟨_,Heap.get?_push_size _ rfl,rfl,rfl⟩,fp,q⟩
 · cases r1
   obtain⟨B',rv,p,hz⟩:=I1.tuple hq;refine wpAny_pyIter_tuple (show s1.heap.IsTuple a B'.toArray from p) ?_
   exact⟨s1.heap.objs.size,[s1.heap.objs.size],_,_,H,rfl,I1.kept (t':=s1.toks) fun b o e=>Heap.get?_push_of_some _ e,L2.DP a _,⟨_,Heap.get?_push_size _ rfl,rfl,rfl⟩,fp,q⟩
 · obtain⟨t,rfl⟩:=r1
   cases ha:z.cps.all (· <128)
   · refine wpAny_pyIter_wide ha ?_
     exact⟨s1.heap.objs.size,[s1.heap.objs.size],_,_,H,rfl,I1.kept (t':=s1.toks) fun b o e=>Heap.get?_push_of_some _ e,DK z t _,⟨_,Heap.get?_push_size _ rfl,rfl,rfl⟩,fp,q⟩
   · refine wpAny_pyIter_ascii ha ?_
     exact⟨s1.heap.objs.size,[s1.heap.objs.size],_,_,H,rfl,I1.kept (t':=s1.toks) fun b o e=>Heap.get?_push_of_some _ e,FU z t _,⟨_,Heap.get?_push_size _ rfl,rfl,rfl⟩,fp,q⟩
theorem De(hl:PE X l tl):L2.PI X tg l (AY X.K tl):=fun pins s σ H R I h=>
 L2.aN (hl pins s σ H _ I h) fun v s1 ⟨x,H1,I1,r1,q1⟩=>EO I1 r1 q1
theorem J2:Gives M (kW x) H F (x.cps.toList.map fun c=>.str ⟨#[c]⟩):=by
 intro H' F' mv tr;refine⟨fun i d hd=>?_,?_⟩
 · rw[List.getElem?_map]at hd
   cases e:x.cps.toList[i]? with
   |none=>rw[e]at hd;cases hd
   | some c=>
     rw[e]at hd;cases hd;have e':x.cps[i]? =some c:=by simpa using e
     refine⟨show i<x.cps.size from(Array.getElem?_eq_some_iff.mp e').1,fun y H2 hy=>?_⟩
     obtain⟨rfl,c',M6,rfl⟩:=hy;rw[e']at M6;cases M6;exact⟨aq.refl _,mE⟩
 · show x.cps.size≤_
   simp
theorem Hc{K:PySem.W.Frag}{d:D}{ds:List D}{x:V}{R:It→Hp→Prop}(e:items d=.ok ds)(rv:Rep M H F d x)(q:∀J,Gives M J H F ds→R J H):
   (∃a,x=.ref a∧(∃xs,bz M.K H a xs)∧R (L2.og M.K a) H)∨(∃a,x=.ref a∧(∃xs,bN M.K H a xs)∧R (L2.nc M.K a) H)∨∃z,x=.str z∧R (kW z) H:=by
 unfold items at e;split at e
 · cases e
   simp only[Rep]at rv;obtain⟨a,xs,rfl,h,rs⟩:=rv;exact .inl ⟨a,rfl,⟨xs,h.sq⟩,q _ (Gj h rs)⟩
 · cases e
   simp only[Rep]at rv;obtain⟨a,xs,rfl,h,rs⟩:=rv;exact .inr (.inl ⟨a,rfl,⟨xs,h.sq⟩,q _ (Du h rs)⟩)
 · cases e
   exact .inr (.inr ⟨_,fY rv,q _ J2⟩)
 ·cases e
theorem Cn{tg l:Expr}{fa:Ex}(ha:JE X l fa):JI X tg l (eF fa):=
 j6 (De ha) fun σ H Q ⟨ρ,F,ds,r,e,q⟩=>by
   obtain⟨d,ed,e⟩:=az.mp e;exact⟨ρ,F,d,r,ed,fun v H1 s1 rv=>Hc (K:=X.K) (M:=aA X) e rv fun J g=>q J H1 s1 g⟩
end
structure eP(P:Program)(w:World)(K:PySem.W.Frag)(mg:Str→Option Value)(x:Str)(d:D):Prop where
 ex:∃v u,mg x=some u∧RelV v u∧∀H F,Rep ⟨K,P,w⟩ H F d v
theorem HF(g:eP X.prog X.w X.K X.mg x d)(hg:L2.Gl X x)(hd:(x==("__debug__":Str))=false:=by decide):JE X (.Name x pos) (eC d):=by
 obtain⟨v,u,h1,h2,h3⟩:=g.ex;exact Bb hg h1 h2 h3 hd
def j7:Expr→Bool
 |.Starred .. =>false
 |_=>true
theorem bX(h:j7 e=true):starEach (e::es) env=(false,eval e env)::starEach es env:=by cases e<;>first|rfl|cases h
theorem qC:∀ {es:List Expr},es.all j7=true→(backTo pos (starEach es env)).any (·.1)=false
 |[],_=>rfl
 | e::es,h=>by
   rw[List.all_cons,Bool.and_eq_true]at h;rw[bX h.1];show(false||(backTo pos (starEach es env)).any (·.1))=false
   rw[Bool.false_or];exact qC h.2
theorem yK:∀ {es:List Expr},es.all j7=true→(backTo pos (starEach es env)).all (fun x=> !x.1)=true
 |[],_=>rfl
 | e::es,h=>by
   rw[List.all_cons,Bool.and_eq_true]at h;rw[bX h.1];show(true&&(backTo pos (starEach es env)).all (fun x=> !x.1))=true;rw[Bool.true_and];exact yK h.2
theorem oa(h:(e::es).all j7=true)(hl:(e::es).length<30):((backTo j' (starEach (e::es) env)).all (fun x=> !x.1)&&(backToKw j' (keywordEach [] env)).all (fun x=>x.1.isSome)
     &&decide ((e::es).length+([]:List Keyword).length+(if([]:List Keyword).isEmpty then 0 else 1)<30))=true:=by
 rw[yK h,Bool.true_and];show(true&&decide ((e::es).length+0+0<30))=true;rw[Bool.true_and,decide_eq_true_eq];exact hl
noncomputable def xn:Expr→Bool
 |.ListComp .. =>false
 |.SetComp .. =>false
 |.DictComp .. =>false
 |_=>true
theorem eY(h:xn e=true):swapsWith e t l env=pure false:=by cases e<;>first|rfl|cases h
theorem Ii(h:xn e=true):swapsWithSole [tg] e l env=pure false:=eY h
def Jc:Expr→Bool
 |.Tuple .. =>false
 |.List .. =>false
 |_=>true
theorem A6(h:Jc tg=true):swappedStores [tg] e env=pure none:=by
 cases tg<;>first|rfl|cases h
theorem zb(h:j7 e=true):(assignEach (e::es) env).map (·.2)=assign e env::(assignEach es env).map (·.2):=by cases e<;>first|rfl|cases h
theorem pf:∀ {es:List Expr},(assignEach es env).length=es.length
 |[]=>rfl
 | e::es=>by
   have:=pf (env:=env) (es:=es);cases e<;>(show(assignEach es env).length+1=_;rw[this];rfl)
theorem vq:∀ {es:List Expr},es.all j7=true→(assignEach es env).findIdx? (·.1)=none
 |[],_=>rfl
 | e::es,h=>by
   rw[List.all_cons,Bool.and_eq_true]at h;have ih:=vq (env:=env) h.2
   have:∃t,assignEach (e::es) env=(false,t)::assignEach es env:=by
     have h1:=h.1;cases e<;>first|exact⟨_,rfl⟩|cases h1
   obtain⟨t,e1⟩:=this;rw[e1,List.findIdx?_cons,ih];rfl
def Bz:Expr→Bool
 |.Set .. =>false
 |_=>true
theorem p9(h:Bz e=true):∀x,foldedSetIterable e env x=pure x:=by intro x;cases e<;>first|rfl|cases h
noncomputable def plainT:Expr→Bool
 |.UnaryOp .Not _ _=>false
 |.BoolOp .. =>false
 |.IfExp .. =>false
 |.Compare .. =>false
 |_=>true
theorem Jb(h:plainT e=true):∀whole,isTrue e env whole=(do let v ←whole;standAt e.pos;holding [v] (truthy v)):=by
 intro w;cases e with
 |UnaryOp op _ _=>cases op<;>first|rfl|cases h
 |_=>first|rfl|cases h
theorem lS:attributeBase (.Name x p) a env w=w:=rfl
def Aw:Expr→Bool
 |.Slice .. =>false
 |_=>true
theorem tF(h:Aw b=true):L2.jC b:=by intro o i;cases b<;>first|rfl|cases h
theorem walk{l:PySem.W.OpenLaw}{q:Program}{loose:List Str}{XP:(Str→Option Value)→Heap→Prop}{YP:World→Heap→Prop}{d:DefRec}{K:Params→PySem.W.Frag}{k:Nat}{x:Str}{m:List D→R D}(hn:l.most=some 63)(Qf:d.params.defaults=[])(hr:L2.b4 k PySem.callerA)
   (hY:∀(w:World) (h:Heap),YP w h→(K w.params).In h)
   (F:∀(w:World) (mg:Str→Option Value) (fa:Addr) (h:Heap),(K w.params).In h→h.Ns mainGlobals mg→mg d.name=some (.ref fa)→
     ∃fd:FuncData,(∀(s:Shared) (u:Value),BindsTo s fd ⟨[u],[]⟩ [(x,u)])∧∀base:Heap,(K w.params).In base→base.Ns mainGlobals mg→L2.dm l.prog w (K w.params) mg base L2.ff k fa fd [x] (iS ⟨K w.params,l.prog,w⟩ m 1))
   (hT:∀ns:List Int,ns.length≤63→m [.lst (ns.map .int)]=.ok (.bl true)):
   PySem.W.WalkO q loose XP YP l.row.toRowW d [] (fun f vs=>PySem.call f vs):=
 L2.E7 (n:=63) (k:=k) (x:=x) (CX:=fun _=>L2.ff) (sp:=fun w=>iS ⟨K w.params,l.prog,w⟩ m 1) hn (by decide) Qf hr hY F (fun w H a ns hl _ hS=>by
   refine⟨fun _=>False,[.lst (ns.map .int)],.bl true,fun p h=>h.elim,ag.cons ?_ ag.nil,rfl,hT ns hl,fun v H' _ rv=>gQ rv⟩
   have QZ:∀(ns:List Int) (M:Md) (H:Hp),ag M H (fun _=>False) (ns.map D.int) (ns.map V.int):=by
     intro ns M H
     induction ns with
     |nil=>exact ag.nil
     |cons n r ih=>exact ag.cons fU ih
   simp only[Rep];refine⟨a,ns.map V.int,rfl,?_,QZ ns _ H⟩;rcases hS with h|h
   ·exact .inl ⟨fun h=>h,h⟩
   ·exact .inr h) fun _ _ _ _ _ z=>z
open L2 (Un)
section
variable{prog:Program}{w:World}{A:Around}{R:Result→Shared→Prop}{s:Shared}
theorem Cu{elt target iter:Expr}{ifs:List Expr}{scope:Scope}{pos:Pos}{it acc:Value}{env:Env}(I:Nat→Shared→Prop)
   (turn:∀n s,I n s→wpAny (model prog w) A (pyNext it) (fun r Ln=>match r with
     |none=>R (.ok .next) Ln
     |some v=>wpAny (model prog w) A (letOwnedTupleGo target it v) (fun _ OT=>wpAny (model prog w) A (assign target env v) (fun _ Nq=>
         wpAny (model prog w) A (forIn ifs true fun c r=>if r=true then do let ok ←isTrue c env (eval c env);pure (ForInStep.yield ok)else pure (ForInStep.yield r)) (fun ok PQ=>
           if ok=true then wpAny (model prog w) A (eval elt env) (fun x Qp=>
             wpAny (model prog w) A (call (.builtin "list.append") [acc,x]) (fun _ Qg=>∃m,m<n∧I m Qg) (notedBy (model prog w) A env fun e s'=>R (.error e) s') Qp) (notedBy (model prog w) A env fun e s'=>R (.error e) s') PQ
           else ∃m,m<n∧I m PQ) (notedBy (model prog w) A env fun e s'=>R (.error e) s') Nq) (notedBy (model prog w) A env fun e s'=>R (.error e) s') OT) (notedBy (model prog w) A env fun e s'=>R (.error e) s') Ln) (notedBy (model prog w) A env fun e s'=>R (.error e) s') s)
   (n:Nat) (h:I n s):codeAny (model prog w) A (.compLoop (.ListComp elt [⟨target,iter,ifs,0⟩] scope pos) 0 it acc env) R s:=by
 refine codeAny_loop rfl I (fun n s hI=>?_) n h;show wpAny _ A ((compTurn (.ListComp elt [⟨target,iter,ifs,0⟩] scope pos) 0 it acc env).onRaise (fun x=>do noteFrame x env;theTreesLotGoes x)) _ _ s
 refine wpAny_noted ?_;rw[compTurn_list];refine wpAny_bind (wpAny_standAt (wpAny_bind (wpAny_mono (turn n s hI) (fun r Ln NG=>?_) fun _ _ h'=>h')));cases r with
 |none=>exact wpAny_pure NG
 | some v=>
   refine wpAny_bind (wpAny_mono NG (fun _ OT Qe=>?_) fun _ _ h'=>h');refine wpAny_bind (wpAny_mono Qe (fun _ Nq R1=>wpAny_bind (wpAny_mono R1 (fun ok PQ QJ=>?_) fun _ _ h'=>h')) fun _ _ h'=>h');cases ok with
   |false=>exact wpAny_pure ⟨rfl,QJ⟩
   | true=>
     exact wpAny_bind (wpAny_bind (wpAny_mono QJ (fun x Qp SS=>wpAny_bind (wpAny_mono SS (fun _ Qg SO=>wpAny_pure (wpAny_pure ⟨rfl,SO⟩)) fun _ _ h'=>h')) fun _ _ h'=>h'))
end
noncomputable def dJ(X:Cx)(scope:Scope)(cl:List (Str×Addr))(C:Addr)(N:List Str)(s:Shared)(H:Hp)(fp:List Addr):Cx where
 prog:=X.prog
 w:=X.w
 K:=X.K
 mg:=X.mg
 base:=X.base
 A:=X.A
 N:=N
 cS:=s
 jg:=H
 env:=compEnvC scope cl C X.env
 outer:=X.stack
 stack:=X.stack
 ex:=fp
 fn:=fun x=>decide ((x,NameKind.cell)∈scope.names)
 calm:=X.calm
 pn:=[]
 xe:=X.xe
abbrev me(X:Cx)(ifs:List Expr)(cs:List cg):Prop:=Paired (fun e c=>JT X e c) ifs cs
theorem xP{X:Cx}{M:Md}(hM:M=aA X){pins:List (Addr×Obj)}{σ:L2.St}{ρ:En}{F:Addr→Prop}{E:Value→Shared→Prop}(hE:∀e s,X.xe e s→E e s):
   ∀ {ifs:List Expr} {cs:List cg},me X ifs cs→∀ {s:Shared} {H:Hp} {t:Bool} {Q:Bool→Hp→Prop},Inv X pins σ H s→bj M H F σ ρ→eQ.i3 cs ρ=.ok t→(∀H',aq H H'→Q t H')→
     wpAny (model X.prog X.w) X.A (forIn ifs true fun c r=>if r=true then do let ok ←isTrue c X.env (eval c X.env);pure (ForInStep.yield ok)else pure (ForInStep.yield r)) (fun ok s'=>∃H',Inv X pins σ H' s'∧Q ok H') E s
 | [],_,.nil,s,H,t,Q,I,r,e,q=>by
   cases e;exact wpAny_tests_nil ⟨H,I,q H (aq.refl H)⟩
 | c::ifs,_,.cons h hs,s,H,t,Q,I,r,e,q=>by
   unfold eQ.i3 at e;obtain⟨b,eb,e⟩:=az.mp e;rw[List.forIn_cons];simp only[if_true];refine wpAny_bind (wpAny_bind (wpAny_mono (h pins s σ H (fun b' H'=>b'=b∧aq H H') I ⟨ρ,F,b,hM▸r,eb,fun H' s'=>⟨rfl,s'⟩⟩) (fun b' s1 h1=>wpAny_pure ?_) hE));obtain⟨H1,I1,rfl,O8⟩:=h1;dsimp only;cases b' with
   | true=>
     rw[if_pos rfl]at e;exact xP hM hE hs I1 (r.same O8) e fun H2 s2=>q H2 (O8.trans s2)
   | false=>
     rw[if_neg (by decide)]at e
     cases e
     have pass:∀(l:List Expr) (s:Shared),(∃H',Inv X pins σ H' s∧Q false H')→wpAny (model X.prog X.w) X.A (forIn l false fun c r=>if r=true then do let ok ←isTrue c X.env (eval c X.env);pure (ForInStep.yield ok)else pure (ForInStep.yield r)) (fun ok s'=>∃H',Inv X pins σ H' s'∧Q ok H') E s:=by
       intro l
       induction l with
       |nil=>intro s h;exact wpAny_pure h
       | cons a l ih=>
         intro s h;rw[List.forIn_cons];exact wpAny_bind (wpAny_pure (ih s h))
     exact pass ifs _ ⟨H1,I1,q H1 O8⟩
theorem tM:∀(names:List (Str×NameKind)) (cs:List (Str×Addr)),(∀y∈names,y.2=.free→∃c,env.cells.lookup y.1=some c)→(∀x c,cs.lookup x=some c→env.cells.lookup x=some c)→
   ∃cl,(forIn names cs fun(x:Str×NameKind) r=>(if(x.2==.free)=true then do let c ←cellOf env x.1;pure (ForInStep.yield ((x.1,c)::r))else pure (ForInStep.yield r):Sem (ForInStep (List (Str×Addr)))))=(pure cl:Sem _)∧
     (∀x c,cl.lookup x=some c→env.cells.lookup x=some c)∧(∀x,(∃c,cs.lookup x=some c)∨(x,NameKind.free)∈names→∃c,cl.lookup x=some c)
 |[],cs,_,hc=>⟨cs,rfl,hc,fun x h=>h.elim (fun h=>h) fun h=>nomatch h⟩
 | (n,k)::names,cs,hn,hc=>by
   rw[List.forIn_cons];by_cases hk:k=.free
   · subst hk
     obtain⟨c,ec⟩:=hn _ List.mem_cons_self rfl
     obtain⟨cl,e,h1,h2⟩:=tM names ((n,c)::cs) (fun y hy=>hn y (List.mem_cons_of_mem _ hy)) (fun x d h=>by
       rw[List.lookup_cons]at h;cases hx:x==n with
       |true=>rw[hx]at h;cases h;rw[beq_iff_eq.mp hx];exact ec
       |false=>rw[hx]at h;exact hc x d h)
     refine⟨cl,?_,h1,fun x h=>h2 x ?_⟩
     · have:cellOf env n=pure c:=by unfold cellOf;rw[show List.lookup n env.cells=some c from ec]
       simp only[beq_self_eq_true,if_true,this];exact e
     · rcases h with⟨d,h⟩|h
       · left
         rw[List.lookup_cons];cases x==n with
         |true=>exact⟨c,rfl⟩
         |false=>exact⟨d,h⟩
       · rcases List.mem_cons.mp h with h|h
         · cases h
           left;rw[List.lookup_cons,beq_self_eq_true];exact⟨c,rfl⟩
         ·exact .inr h
   · obtain⟨cl,e,h1,h2⟩:=tM names cs (fun y hy=>hn y (List.mem_cons_of_mem _ hy)) hc
     refine⟨cl,?_,h1,fun x h=>h2 x (h.imp (fun h=>h) fun h=>?_)⟩
     · have:(k==NameKind.free)=false:=by cases k<;>first|rfl|exact absurd rfl hk
       simp only[this,Bool.false_eq_true,if_false];exact e
     · rcases List.mem_cons.mp h with h|h
       ·cases h;exact absurd rfl hk
       ·exact h
theorem IM{scope:Scope}{env:Env}(hn:∀y∈scope.names,y.2=.free→∃c,env.cells.lookup y.1=some c):
   ∃cl,closureFor scope env=pure cl∧(∀x c,cl.lookup x=some c→env.cells.lookup x=some c)∧∀x,(x,NameKind.free)∈scope.names→∃c,cl.lookup x=some c:=by
 obtain⟨cl,e,h1,h2⟩:=tM scope.names [] hn (fun x c h=>nomatch h)
 refine⟨cl,?_,h1,fun x h=>h2 x (.inr h)⟩;unfold closureFor
 have:∀(l:List (Str×NameKind)) (cs:List (Str×Addr)),(forIn l cs fun(x:Str×NameKind) (r:List (Str×Addr))=>(match x with|(name,kind)=>do
     if(kind==.free)=true then
       let c ←cellOf env name
       pure (ForInStep.yield ((name,c)::r))
     else pure (ForInStep.yield r):Sem (ForInStep (List (Str×Addr)))))=forIn l cs fun(x:Str×NameKind) r=>(if(x.2==.free)=true then do let c ←cellOf env x.1;pure (ForInStep.yield ((x.1,c)::r))else pure (ForInStep.yield r):Sem (ForInStep (List (Str×Addr)))):=fun _ _=>rfl
 show(forIn scope.names [] _ >>= fun r=>pure r)=_
 first
   |(rw[show(forIn scope.names ([]:List (Str×Addr)) _:Sem (List (Str×Addr)))=pure cl from e];rfl)
   |(erw [e];rfl)
theorem tN:∀(names:List (Str×NameKind)) {s:Shared} {cells:List (Str×Addr)},(∀x c,cells.lookup x=some c→c<s.heap.objs.size)→(∀x y c,cells.lookup x=some c→cells.lookup y=some c→x=y)→
   (∀(h':Heap) (Lr:List (Str×Addr)),(∀b o,s.heap.get? b=some o→h'.get? b=some o)→(∀x y c,Lr.lookup x=some c→Lr.lookup y=some c→x=y)→
     (∀x c,Lr.lookup x=some c→cells.lookup x=some c∨(s.heap.objs.size≤c∧h'.IsCell c none))→(∀x,(x,NameKind.cell)∈names→∃c,Lr.lookup x=some c∧s.heap.objs.size≤c)→(∀x c,cells.lookup x=some c→(x,NameKind.cell)∉names→Lr.lookup x=some c)→Q Lr {s with heap:=h'})→
   wpAny M A (forIn names cells fun(x:Str×NameKind) (r:List (Str×Addr))=>(match x with|(name,kind)=>if(kind==NameKind.cell)=true then do let a ←alloc {cls:=Value.type "cell",data:=Data.cell none};pure (ForInStep.yield ((name,a)::r))else pure (ForInStep.yield r):Sem (ForInStep (List (Str×Addr))))) Q E s
 | [],s,cells,_,inj,k=>by
   exact wpAny_pure (k s.heap cells (fun _ _ e=>e) inj (fun _ _ e=>.inl e) (fun _ h=>nomatch h) (fun _ _ e _=>e))
 | (n,kd)::names,s,cells,lt,inj,k=>by
   rw[List.forIn_cons];by_cases hk:kd=.cell
   · subst hk
     simp only[beq_self_eq_true,if_true];refine wpAny_bind (wpAny_bind (wpAny_alloc (wpAny_pure ?_)));dsimp only;refine tN names (fun x c h=>?_) (fun x y c hx hy=>?_) fun h' Lr keep N7 h2 h3 h4=>?_
     · rw[Heap.size_push]
       rw[List.lookup_cons]at h;cases hx:x==n with
       |true=>rw[hx]at h;cases h;exact Nat.lt_succ_self _
       |false=>rw[hx]at h;exact Nat.lt_succ_of_lt (lt x c h)
     · rw[List.lookup_cons]at hx hy
       cases ex:x==n with
       | true=>
         cases ey:y==n with
         |true=>rw[beq_iff_eq.mp ex,beq_iff_eq.mp ey]
         | false=>
           rw[ex]at hx;rw[ey]at hy;cases hx;exact absurd (lt y _ hy) (Nat.lt_irrefl _)
       | false=>
         rw[ex]at hx;cases ey:y==n with
         |true=>rw[ey]at hy;cases hy;exact absurd (lt x _ hx) (Nat.lt_irrefl _)
         |false=>rw[ey]at hy;exact inj x y c hx hy
     · have old:∀b o,s.heap.get? b=some o→h'.get? b=some o:=fun b o e=>keep b o (Heap.get?_push_of_some _ e)
       have new:h'.IsCell s.heap.objs.size none:=⟨_,keep _ _ (Heap.get?_push_size _ rfl),rfl⟩;refine k h' Lr old N7 (fun x c h=>?_) (fun x hx=>?_) (fun x c h hx=>?_)
       · rcases h2 x c h with h|⟨h5,h6⟩
         · rw[List.lookup_cons]at h
           cases ex:x==n with
           |true=>rw[ex]at h;cases h;exact .inr ⟨Nat.le_refl _,new⟩
           |false=>rw[ex]at h;exact .inl h
         · rw[Heap.size_push]at h5
           exact .inr ⟨by omega,h6⟩
       · by_cases hm:(x,NameKind.cell)∈names
         · obtain⟨c,h5,h6⟩:=h3 x hm
           rw[Heap.size_push]at h6;exact⟨c,h5,by omega⟩
         · have Wy:x=n:=by
             rcases List.mem_cons.mp hx with e|e
             ·exact(Prod.mk.inj e).1
             ·exact absurd e hm
           subst Wy;exact⟨s.heap.objs.size,h4 x _ (by rw[List.lookup_cons,beq_self_eq_true]) hm,Nat.le_refl _⟩
       · refine h4 x c ?_ fun hm=>hx (List.mem_cons_of_mem _ hm)
         rw[List.lookup_cons];cases ex:x==n with
         |true=>exact absurd (by rw[beq_iff_eq.mp ex];exact List.mem_cons_self) hx
         |false=>exact h
   · have M5:(kd==NameKind.cell)=false:=by cases kd<;>first|rfl|exact absurd rfl hk
     simp only[M5,Bool.false_eq_true,if_false];refine wpAny_bind (wpAny_pure ?_);dsimp only;refine tN names lt inj fun h' Lr keep N7 h2 h3 h4=>k h' Lr keep N7 h2 (fun x hx=>?_) (fun x c h hx=>h4 x c h fun hm=>hx (List.mem_cons_of_mem _ hm));rcases List.mem_cons.mp hx with e|e
     ·exact absurd (Prod.mk.inj e).2.symm hk
     ·exact h3 x e
theorem FG{M:Model}{A:Around}{E:Value→Shared→Prop}{Q:Env→Shared→Prop}{s:Shared}{scope:Scope}{cl:List (Str×Addr)}{env:Env}(lt:∀x c,cl.lookup x=some c→c<s.heap.objs.size)(inj:∀x y c,cl.lookup x=some c→cl.lookup y=some c→x=y)
   (k:∀(h':Heap) (Lr:List (Str×Addr)),(∀b o,s.heap.get? b=some o→h'.get? b=some o)→(h'.Ns s.heap.objs.size fun _=>none)→(∀x y c,Lr.lookup x=some c→Lr.lookup y=some c→x=y)→
     (∀x c,Lr.lookup x=some c→cl.lookup x=some c∨(s.heap.objs.size+1≤c∧h'.IsCell c none))→(∀x,(x,NameKind.cell)∈scope.names→∃c,Lr.lookup x=some c∧s.heap.objs.size+1≤c)→(∀x c,cl.lookup x=some c→(x,NameKind.cell)∉scope.names→Lr.lookup x=some c)→
     Q {scope:=scope,locals:=s.heap.objs.size,globals:=env.globals,cells:=Lr,qual:=env.qual,func:=none,code:=env.code,frame:=env.frame,builtins:=env.builtins} {s with heap:=h'}):
   wpAny M A (newFunctionEnv scope env.globals cl [] env.qual none Value.none (some env)) Q E s:=by
 unfold newFunctionEnv;refine wpAny_bind (wpAny_alloc ?_);dsimp only;refine wpAny_bind (wpAny_mono (tN (Q:=fun Lr s'=>Q {scope:=scope,locals:=s.heap.objs.size,globals:=env.globals,cells:=Lr,qual:=env.qual,func:=none,code:=env.code,frame:=env.frame,builtins:=env.builtins} s') scope.names (fun x c h=>by rw[Heap.size_push];exact Nat.lt_succ_of_lt (lt x c h)) inj fun h' Lr keep N7 h2 h3 h4=>?_) (fun Lr s' hq=>?_) fun _ _ h=>h)
 · refine k h' Lr (fun b o e=>keep b o (Heap.get?_push_of_some _ e)) ?_ N7 (fun x c h=>?_) (fun x hx=>?_) h4
   · obtain⟨o,es,ep,h1,h2,h3,h4⟩:=Heap.Ns.new s.heap (Value.type "dict")
     exact⟨o,es,ep,keep _ _ h1,h2,h3,h4⟩
   · rcases h2 x c h with h|⟨h5,h6⟩
     ·exact .inl h
     ·rw[Heap.size_push]at h5;exact .inr ⟨h5,h6⟩
   · obtain⟨c,h5,h6⟩:=h3 x hx
     rw[Heap.size_push]at h6;exact⟨c,h5,h6⟩
 ·exact wpAny_pure hq
set_option maxHeartbeats 1000000
abbrev Xt:=En→R T
def xD(e:Ex):Xt:=fun ρ=>(e ρ).bind fun d=>.ok (.d d)
def tY(M:Md)(f:Xt):TE:=fun σ H Q=>∃ρ F t,bj M H F σ ρ∧f ρ=.ok t∧∀v H' F' as,aq H H'→(∀b∈as,H b=none)→as.Nodup→(∀b,F' b↔F b∨b∈as)→ak M H' F' t v as→Q v H'
abbrev JX(X:Cx)(e:Expr)(f:Xt):Prop:=PE X e (tY (aA X) f)
noncomputable def gN(tg:eS)(cs:List cg)(el:Xt)(ρ:En):List D→R (List T)
 |[]=>.ok []
 | d::ds=>(tg d ρ).bind fun ρ1=>(eQ.i3 cs ρ1).bind fun t=>
   if t=true then(el ρ1).bind fun y=>(gN tg cs el ρ ds).bind fun ys=>.ok (y::ys)else gN tg cs el ρ ds
noncomputable def qv(it:cI)(n:Nat)(fv:List Nat)(tg:eS)(cs:List cg)(el:Xt):En→R (List T):=fun ρ=>(it ρ).bind fun ds=>
 if ds.length≤eO then gN tg cs el (List.replicate n .un++frees ρ fv) ds else .bad
theorem rR:∀ {ds ys:List D},eQ tg cs el ρ ds=.ok ys→gN tg cs (xD el) ρ ds=.ok (ys.map .d)
 |[],_,h=>by cases h;rfl
 | d::ds,ys,h=>by
   unfold eQ at h;obtain⟨ρ1,e1,h⟩:=az.mp h;obtain⟨t,e2,h⟩:=az.mp h;unfold gN;rw[e1,R.aO,e2,R.aO];cases t with
   | true=>
     rw[if_pos rfl]at h ⊢;obtain⟨y,e3,h⟩:=az.mp h;obtain⟨zs,e4,h⟩:=az.mp h;cases h;show((el ρ1).bind fun d=>R.ok (T.d d)).bind _=_;rw[e3,R.aO,R.aO,rR e4];rfl
   | false=>
     rw[if_neg (by decide)]at h ⊢
     exact rR h
section
variable{M:Md}{H H':Hp}{F F':Addr→Prop}{as:List Addr}{σ:L2.St}{ρ:En}
theorem bj.wide(r:bj M H F σ ρ)(s1:aq H H')(hn:∀b∈as,H b=none)(hF:∀b,F' b↔F b∨b∈as)(ht:∀b∈as,∃u,H' b=some u):Mv F H F' H'∧bj M H' F' σ ρ:=by
 have mv:Mv F H F' H':=fun b o n e=>⟨fun f=>((hF b).mp f).elim n (fun hb=>by rw[hn b hb]at e;cases e),s1 _ _ e⟩
 refine⟨mv,⟨r.len,fun a f=>?_,fun i d e=>?_,fun i ds e=>?_,fun i ks ds e=>?_,r.cn,?_⟩⟩
 · rcases(hF a).mp f with f|f
   ·obtain⟨o,e⟩:=r.aX a f;exact⟨o,s1 _ _ e⟩
   ·exact ht a f
 ·obtain⟨v,e1,q⟩:=r.sh i d e;exact⟨v,e1,q.mv mv⟩
 ·obtain⟨a,xs,e1,f,e2,q⟩:=r.ol i ds e;exact⟨a,xs,e1,(hF a).mpr (.inl f),s1 _ _ e2,q.mv mv⟩
 ·obtain⟨a,xs,e1,f,e2,l,q⟩:=r.od i ks ds e;exact⟨a,xs,e1,(hF a).mpr (.inl f),s1 _ _ e2,l,q.mv mv⟩
 ·exact r.on.mv mv (fun j x e=>⟨e,rfl⟩) (fun j x b u e hb f hu=>⟨(hF b).mpr (.inl f),s1 _ _ hu⟩) fun j x b e hb k ok=>(r.on j x e).2.1 b hb k ok
theorem v8(h:JE X e f):JX X e (xD f):=
 bP h fun σ H Q ⟨ρ,F,t,hr,e,q⟩=>by
   obtain⟨d,ed,e⟩:=az.mp e;cases e;exact⟨ρ,F,d,hr,ed,fun v H1 s1 rv=>q v H1 F [] s1 (fun _ hb=>nomatch hb) List.nodup_nil (fun b=>by simp) (by rw[ak];exact⟨rfl,rv⟩)⟩
theorem kH:∀ {vs:List D} {xs:List V} {as:List Addr},av M H F (vs.map .d) xs as↔as=[]∧ag M H F vs xs
 |[],xs,as=>by simp only[List.map_nil,av,ag];exact And.comm
 | v::vs,xs,as=>by
   simp only[List.map_cons,av,ag,ak];constructor
   · rintro⟨x,r,bs,cs,rfl,rfl,⟨rfl,h1⟩,h2⟩
     obtain⟨rfl,h3⟩:=kH.mp h2;exact⟨rfl,x,r,rfl,h1,h3⟩
   · rintro⟨rfl,x,r,rfl,h1,h2⟩
     exact⟨x,r,[],[],rfl,rfl,⟨rfl,h1⟩,kH.mpr ⟨rfl,h2⟩⟩
theorem av.append:∀ {ts us:List T} {xs ys:List V} {as bs:List Addr},av M H F ts xs as→av M H F us ys bs→av M H F (ts++us) (xs++ys) (as++bs)
 | [],_,_,_,_,_,h,g=>by
   simp only[av]at h;obtain⟨rfl,rfl⟩:=h;exact g
 | t::ts,_,_,_,_,_,h,g=>by
   simp only[av]at h;obtain⟨x,r,bs,cs,rfl,rfl,h1,h2⟩:=h;rw[List.cons_append,List.cons_append,List.append_assoc];simp only[av];exact⟨x,_,bs,_,rfl,rfl,h1,h2.append g⟩
theorem av.len:∀ {ts:List T} {xs:List V} {as:List Addr},av M H F ts xs as→ts.length=xs.length
 |[],xs,as,h=>by simp only[av]at h;rw[h.1];rfl
 | t::ts,xs,as,h=>by
   simp only[av]at h;obtain⟨x,r,bs,cs,rfl,rfl,h1,h2⟩:=h;simp[av.len h2]
end
section
variable{X:Cx}{M:Md}{G H H':Hp}{F0:Gf}{F F':Addr→Prop}{σ:L2.St}{ρ:En}{pos:Pos}
def jA(n:Nat)(tg:eS):Prop:=∀d ρ ρ',tg d ρ=.ok ρ'→ρ'.length=ρ.length∧∀j:Nat,n≤j→ρ'[j]? =ρ[j]?
theorem yo(h:i<n):jA n (aE i):=fun d ρ ρ' e=>by
 cases e;exact⟨by simp,fun j hj=>List.getElem?_set_ne (by omega)⟩
theorem xR:∀ {is:List Nat} {ds:List D} {ρ ρ':En},is.all (· <n)=true→eN is ds ρ=.ok ρ'→ρ'.length=ρ.length∧∀j:Nat,n≤j→ρ'[j]? =ρ[j]?
 |[],[],_,_,_,e=>by cases e;exact⟨rfl,fun _ _=>rfl⟩
 | i::is,d::ds,ρ,ρ',h,e=>by
   rw[List.all_cons,Bool.and_eq_true,decide_eq_true_eq]at h;simp only[eN]at e;obtain⟨h1,h2⟩:=xR h.2 e;exact⟨by rw[h1];simp,fun j hj=>by rw[h2 j hj];exact List.getElem?_set_ne (by omega)⟩
 |[],_::_,_,_,_,e=>by cases e
 |_::_,[],_,_,_,e=>by cases e
theorem Bf(h:is.all (· <n)=true):jA n (gc is):=fun d ρ ρ' e=>by
 unfold gc at e;split at e
 ·exact xR h e
 ·cases e
theorem bj.less{ρ':En}(r:bj M H F σ ρ)(hl:ρ'.length=ρ.length)(h:∀(j:Nat) s,ρ'[j]? =some s→s=.un∨((∃d,s=.sh d)∧ρ[j]? =some s)):bj M H F σ ρ' where
 len:=by rw[hl,r.len]
 aX:=r.aX
 sh i d e:=by
   rcases h i _ e with z|⟨_,z⟩
   ·cases z
   ·exact r.sh i d z
 ol i d e:=by
   rcases h i _ e with z|⟨⟨_,z⟩,_⟩<;>cases z
 od i k d e:=by
   rcases h i _ e with z|⟨⟨_,z⟩,_⟩<;>cases z
 cn i j a oi:=by
   rcases oi with⟨_,e⟩|⟨_,_,e⟩
   ·rcases h i _ e with z|⟨⟨_,z⟩,_⟩<;>cases z
   ·rcases h i _ e with z|⟨⟨_,z⟩,_⟩<;>cases z
 on:=.no fun i Lw e=>by rcases h i _ e with z|⟨⟨_,z⟩,_⟩<;>cases z
theorem iZ{ρ:En}(h:∀(j:Nat) s,ρ[j]? =some s→s=.un∨∃d,s=.sh d){i:Nat}(o:bp ρ i):False:=by
 rcases o with⟨_,e⟩|⟨_,_,e⟩
 ·rcases h i _ e with z|⟨_,z⟩<;>cases z
 ·rcases h i _ e with z|⟨_,z⟩<;>cases z
def ent(n:Nat)(ρ:En)(fv:List Nat):En:=List.replicate n .un++frees ρ fv
theorem jV{n:Nat}{fv:List Nat}{j:Nat}{s:Slot}(h:(ent n ρ fv)[j]? =some s):s=.un∨((∃d,s=.sh d)∧n≤j∧∃i,fv[j - n]? =some i∧ρ[i]? =some s):=by
 unfold ent at h;rw[List.getElem?_append,List.length_replicate]at h;split at h
 · rename_i hn
   rw[List.getElem?_replicate,if_pos hn]at h;cases h;exact .inl rfl
 · rename_i hn
   unfold frees at h;rw[List.getElem?_map]at h;cases e:fv[j - n]? with
   |none=>rw[e]at h;cases h
   | some i=>
     rw[e]at h;have hs:zS ρ[i]? =s:=by simpa using h
     subst hs;cases Mu:ρ[i]? with
     |none=>exact .inl rfl
     | some z=>
       cases z with
       |sh d=>exact .inr ⟨⟨d,rfl⟩,by omega,i,rfl,Mu⟩
       |_=>exact .inl rfl
noncomputable def stC(n:Nat)(σ:L2.St)(fv:List Nat):L2.St:=List.replicate n none++fv.map fun i=>(σ[i]?).getD none
theorem Ci{n:Nat}{fv:List Nat}(r:bj M H F σ ρ):bj M H F (stC n σ fv) (ent n ρ fv) where
 len:=by unfold stC ent frees;simp
 aX:=r.aX
 sh j d e:=by
   rcases jV e with z|⟨_,hn,i,hi,z⟩
   ·cases z
   · obtain⟨v,ev,rv⟩:=r.sh i d z
     refine⟨v,?_,rv⟩;unfold stC;rw[List.getElem?_append_right (by simpa using hn),List.length_replicate,List.getElem?_map,hi]
     simp[ev]
 ol j d e:=by rcases jV e with z|⟨⟨_,z⟩,_⟩<;>cases z
 od j k d e:=by rcases jV e with z|⟨⟨_,z⟩,_⟩<;>cases z
 cn j k a oj:=by
   exact(iZ (fun j s e=>(jV e).imp (fun h=>h) fun h=>h.1) oj).elim
 on:=.no fun j Lw e=>by rcases jV e with z|⟨⟨_,z⟩,_⟩<;>cases z
theorem rE{scope:Scope}{env:Env}:∀ {names:List (Str×NameKind)} {x:Str} {k:NameKind},(names.map fun(n,k)=>if(k==NameKind.free&&env.scope.kind==.function&&env.kindOf n==some .cell)then(n,NameKind.cell)else(n,k)).lookup x=some k→
   (k=.cell∨k=.free)→(x,NameKind.free)∈names∨(x,NameKind.cell)∈names
 |[],_,_,h,_=>by simp at h
 | (n,q)::r,x,k,h,hk=>by
   have ih:=@rE scope env r x k;have h':List.lookup x ((if(q==NameKind.free&&env.scope.kind==.function&&env.kindOf n==some .cell)=true then(n,NameKind.cell)else(n,q))::r.map fun(n,k)=>if(k==NameKind.free&&env.scope.kind==.function&&env.kindOf n==some .cell)then(n,NameKind.cell)else(n,k))=some k:=h
   cases hx:x==n with
   | true=>
     have:=beq_iff_eq.mp hx;subst this;by_cases hcnd:(q==NameKind.free&&env.scope.kind==.function&&env.kindOf x==some .cell)=true
     · have:q=.free:=by
         rw[Bool.and_eq_true,Bool.and_eq_true]at hcnd;have:=hcnd.1.1;cases q<;>first|rfl|cases this
       subst this;exact .inl List.mem_cons_self
     · rw[if_neg hcnd,List.lookup_cons,beq_self_eq_true]at h'
       cases h';rcases hk with rfl|rfl
       ·exact .inr List.mem_cons_self
       ·exact .inl List.mem_cons_self
   | false=>
     refine(ih ?_ hk).imp (List.mem_cons_of_mem _) (List.mem_cons_of_mem _);by_cases hcnd:(q==NameKind.free&&env.scope.kind==.function&&env.kindOf n==some .cell)=true
     ·rw[if_pos hcnd,List.lookup_cons,hx]at h';exact h'
     ·rw[if_neg hcnd,List.lookup_cons,hx]at h';exact h'
theorem si{env:Env}:∀ {names:List (Str×NameKind)} {x:Str},names.lookup x=some .free→(names.map fun(n,k)=>if(k==NameKind.free&&env.scope.kind==.function&&env.kindOf n==some .cell)then(n,NameKind.cell)else(n,k)).lookup x=some .cell∨
   (names.map fun(n,k)=>if(k==NameKind.free&&env.scope.kind==.function&&env.kindOf n==some .cell)then(n,NameKind.cell)else(n,k)).lookup x=some .free
 |[],_,h=>by simp at h
 | (n,q)::r,x,h=>by
   show List.lookup x ((if(q==NameKind.free&&env.scope.kind==.function&&env.kindOf n==some .cell)=true then(n,NameKind.cell)else(n,q))::r.map fun(n,k)=>if(k==NameKind.free&&env.scope.kind==.function&&env.kindOf n==some .cell)then(n,NameKind.cell)else(n,k))=_∨
     List.lookup x ((if(q==NameKind.free&&env.scope.kind==.function&&env.kindOf n==some .cell)=true then(n,NameKind.cell)else(n,q))::r.map fun(n,k)=>if(k==NameKind.free&&env.scope.kind==.function&&env.kindOf n==some .cell)then(n,NameKind.cell)else(n,k))=_
   rw[List.lookup_cons]at h;by_cases hcnd:(q==NameKind.free&&env.scope.kind==.function&&env.kindOf n==some .cell)=true
   · rw[if_pos hcnd,List.lookup_cons]
     cases hx:x==n with
     |true=>exact .inl rfl
     |false=>rw[hx]at h;exact si h
   · rw[if_neg hcnd,List.lookup_cons]
     cases hx:x==n with
     |true=>rw[hx]at h;exact .inr h
     |false=>rw[hx]at h;exact si h
structure kl(X:Cx)(scope:Scope)(tn fv:List Str)(LU:List Nat):Prop where
 kind:scope.kind=.function
 cells:∀y∈scope.names,y.2=.cell→scope.names.lookup y.1=some .cell
 names:∀y∈scope.names,y.2=.local→scope.names.lookup y.1=some .local
 free:∀y∈scope.names,y.2=.free→X.env.scope.names.lookup y.1=some .cell
 v5:∀y∈scope.names,y.2=.free→scope.names.lookup y.1=some .free
 A2:∀(j:Nat) i,LU[j]? =some i→∃x,fv[j]? =some x∧X.N[i]? =some x∧(x,NameKind.free)∈scope.names
 len:fv.length=LU.length
theorem xA (tn fv:List Str) (LU:List Nat) {elt iter target:Expr} {ifs:List Expr} {scope:Scope} {it:cI} {tg:eS} {cs:List cg} {el:Xt} (NN:∀e s,¬X.xe e s) (hc:X.calm=true) (ok:kl X scope tn fv LU) (hi:JI X target iter it) (low:jA tn.length tg)
   (ht:∀cl C s H fp,JG (dJ X scope cl C (tn++fv) s H fp) target tg) (Nv:∀cl C s H fp,me (dJ X scope cl C (tn++fv) s H fp) ifs cs) (Oa:∀cl C s H fp,JX (dJ X scope cl C (tn++fv) s H fp) elt el)
   (hs:∀x,foldedSetIterable iter X.env x=pure x) {use:Option (Value→Sem Unit)} {Qc:Value→Shared→Prop} {pins:List (Addr×Obj)} {s:Shared} {all:List T} {p1:Pos} (I:Inv X pins σ H s) (hr:bj (aA X) H F σ ρ) (e:qv it tn.length LU tg cs el ρ=.ok all)
   (MZ:∀D C s4 H' vs Hq bs F2 f,(∃m,s4.heap.Ns C m)→Inv X pins σ H' s4→dj X pins H' C→aq H Hq→Hq D=none→(∀b∈bs,H b=none)→bs.Nodup→(∀b,F2 b↔F b∨b∈bs)→av (aA X) Hq F2 all vs bs→upd Hq D (.lst vs)=H'→compPost (model X.prog X.w) X.A X.xe use Qc (.ref D) C (.ok f) s4):
   wpAny (model X.prog X.w) X.A (comprehension (.ListComp elt [⟨target,iter,ifs,0⟩] scope pos) scope X.env p1 (newList []) false (eval iter X.env) use) Qc X.xe s:=by
 obtain⟨ds,ed,e⟩:=az.mp e
 have hlen:ds.length≤sizeLine:=by
   by_cases h:ds.length≤eO
   ·exact h
   ·rw[if_neg h]at e;cases e
 rw[if_pos (show ds.length≤eO from hlen)]at e
 have ey:gN tg cs el (ent tn.length ρ LU) ds=.ok all:=e;obtain⟨cl,Qi,MU,P'⟩:=IM (scope:=scope) (env:=X.env) (fun y hy hf=>I.ok.has y.1 (.inl (ok.free y hy hf)));refine wpAny_comprehension_free (gs:=[]) rfl hs Qi ok.kind ok.names ?_;refine L2.aN (hi pins s σ H _ I ⟨ρ,F,ds,hr,ed,fun J H' sm gv=>(⟨sm,gv⟩:aq H H'∧Gives (aA X) J H' F ds)⟩) fun v s1 h1=>L2.aN h1 fun Rx s2 h2=>?_;obtain⟨UT,fp,SY,J,H2,rfl,I2,T,Nu,f2,OG,gv⟩:=h2;have r2:=hr.same OG;have Wk:∀x c,cl.lookup x=some c→c<s2.heap.objs.size:=fun x c h=>let⟨v,cc⟩:=I2.cell x c (MU x c h);cc.lt
 refine wpAny_newObj_type (FG (fun x c h=>by show c<(Heap.push _ _).objs.size;rw[Heap.size_push];exact Nat.lt_succ_of_lt (Wk x c h)) (fun x y c hx hy=>I2.ok.inj x y c (MU x c hx) (MU y c hy)) fun NG cells Nm MH RF ND NW QB=>?_)
 dsimp only at MH Nm ND NW ⊢;generalize hD:s2.heap.objs.size=D at MH Nm ND NW ⊢;generalize hP:s2.heap.push {cls:=.type "list",dict:=none,data:=.seq ([]:List Value).toArray}=HP at MH Nm ND NW ⊢;have hC:HP.objs.size=D+1:=by rw[←hP,Heap.size_push,hD]
 generalize Xz:HP.objs.size=C at MH ND NW hC ⊢;have Rg:∀b,b<s2.heap.objs.size→b≠C∧b≠D:=fun b hb=>by rw[hD]at hb;exact⟨by omega,by omega⟩
 have old:∀b o,s2.heap.get? b=some o→NG.get? b=some o:=fun b o e=>Nm b o (hP▸Heap.get?_push_of_some _ e);have U4:D≠C:=by omega
 have Oy:NG.get? D=some {cls:=.type "list",data:=.seq ([]:List Value).toArray}:=Nm _ _ (hP▸(by rw[←hD];exact Heap.get?_push_size _ rfl))
 have nD:H2 D=none:=I2.aI.fresh (Nat.le_of_eq hD);have nC:H2 C=none:=I2.aI.fresh (by omega)
 have PD:aq H2 (upd H2 D (.lst [])):=aq.cm nD _
 let X':Cx:=dJ X scope cells C (tn++fv) s2 H2 fp
 have hW:∀x c,cells.lookup x=some c→∀b∈fp,c≠b:=fun x c hx b hb=>by
   rcases ND x c hx with h|⟨h,_⟩
   ·exact(f2 b hb).2.2.2.2.1 x c (MU x c h)
   · obtain⟨o,ho,_⟩:=T.obj _ _ Nu b hb
     have:=Heap.lt_size ho;rw[hD]at this;exact Nat.ne_of_gt (Nat.lt_of_lt_of_le this (by omega))
 have Vq:X'.Ok:=by
   have Rw:=I2.ok.mod;refine⟨Rw,ok.kind,I2.ok.glob,I2.ok.blt,(show s2.heap.objs.size≤C by rw[hD];omega),RF,fun x hx=>?_,fun x c hf hx=>?_,fun h=>I2.ok.hd h,I2.ok.frames,.inl rfl,fun b hb=>?_,fun b o hb=>I2.bs b o hb,Nat.le_trans I2.ok.iR I2.sz,fun b o hb hx=>?_,fun b hb hf=>?_,I2.stack,I2.zw⟩
   · have LZ:(relabel scope X.env).names.lookup x=some .cell∨(relabel scope X.env).names.lookup x=some .free:=hx
     have RK:(x,NameKind.free)∈scope.names∨(x,NameKind.cell)∈scope.names:=by
       rcases LZ with h|h
       ·exact rE (scope:=scope) h (.inl rfl)
       ·exact rE (scope:=scope) h (.inr rfl)
     by_cases hm:(x,NameKind.cell)∈scope.names
     · obtain⟨c,h5,_⟩:=NW x hm
       exact⟨c,h5⟩
     · obtain⟨c,h5⟩:=P' x (RK.resolve_right hm)
       exact⟨c,QB x c h5 hm⟩
   · have hf:decide ((x,NameKind.cell)∈scope.names)=true:=hf
     obtain⟨c',h5,h6⟩:=NW x (of_decide_eq_true hf);have hx:cells.lookup x=some c:=hx;rw[hx]at h5;cases h5;show s2.heap.objs.size≤c;rw[hD];omega
   · obtain⟨o,ho,_⟩:=T.obj _ _ Nu b hb
     exact⟨(Rg b (Heap.lt_size ho)).1,fun x c hx=>hW x c hx b hb⟩
   · obtain⟨_,_,_,h4,_⟩:=f2 b hx
     rcases h4 with h4|h4
     ·exact I2.ok.ou b o hb h4
     ·exact absurd (Nat.lt_of_lt_of_le (Heap.lt_size hb) (Nat.le_trans I2.ok.iR h4)) (Nat.lt_irrefl _)
   · obtain⟨_,h1,h2,_⟩:=f2 b hb
     exact(List.mem_cons.mp (I2.qi b hf)).elim h1 h2
 have Sy:∀ {H':Hp},(∀b∈fp,H' b=none)→∀b∈fp,dj X' [] H' b:=fun hn b hb=>by
   obtain⟨o,ho,_⟩:=T.obj _ _ Nu b hb;refine⟨hn b hb,(Rg b (Heap.lt_size ho)).1,fun hf=>?_,.inl hb,fun x c hx=>hW x c hx b hb,fun p hp=>nomatch hp⟩
   obtain⟨_,h1,h2,_⟩:=f2 b hb;exact(List.mem_cons.mp (I2.qi b hf)).elim h1 h2
 have I3:Inv X' [] (stC tn.length σ LU) (upd H2 D (.lst [])) {s2 with heap:=NG}:=by
   refine⟨Vq,rfl,I2.bare,Un.laid old (Nat.le_of_eq hD) nD,⟨_,MH,fun i x v hx hv Xx=>?_⟩,fun x c hx=>?_,?_,fun x c hx=>?_,fun p hp=>(nomatch hp),I2.aI.laid old (Nat.le_of_eq hD) ⟨Nat.zero_le _,[],0,.nil,Oy⟩,?_⟩
   · have hx:(tn++fv)[i]? =some x:=hx
     by_cases hn:i<tn.length
     · unfold stC at hv
       rw[List.getElem?_append_left (by simpa using hn),List.getElem?_replicate,if_pos hn]at hv
       cases hv
     · have OO:tn.length≤i:=by omega
       rw[List.getElem?_append_right OO]at hx;unfold stC at hv;rw[List.getElem?_append_right (by simpa using OO),List.length_replicate,List.getElem?_map]at hv
       cases ei:LU[i - tn.length]? with
       |none=>rw[ei]at hv;cases hv
       | some k=>
         rw[ei]at hv;obtain⟨x',LZ,hN,hf⟩:=ok.A2 _ _ ei;rw[hx]at LZ;cases LZ
         have Vl:σ[k]? =some (some v):=by
           have OQ:(σ[k]?).getD none=some v:=by simpa using hv
           cases ek:σ[k]? with
           |none=>rw[ek]at OQ;cases OQ
           |some z=>rw[ek]at OQ;exact congrArg some OQ
         obtain⟨m,hm,hl⟩:=I2.loc;have M':X.env.scope.names.lookup x=some .cell:=ok.free _ hf rfl;obtain⟨u,ru,lk⟩:=hl k x v hN Vl (.inr (.inl M'));refine⟨u,ru,.inr ⟨?_,?_⟩⟩
         ·exact si (env:=X.env) (ok.v5 _ hf rfl)
         · rcases lk with⟨h1,_⟩|⟨_,c,Rm,cc⟩
           ·rw[show X.env.kindOf x=X.env.scope.names.lookup x from rfl,M']at h1;cases h1
           · obtain⟨c',M6⟩:=P' x hf
             have:=MU x c' M6;rw[Rm]at this;cases this;refine⟨c,QB x c M6 fun hm=>?_,cc.keeps old⟩;have h1:=ok.cells _ hm rfl;have h2:=ok.v5 _ hf rfl;dsimp only at h1 h2;rw[h1]at h2;cases h2
   · rcases ND x c hx with hx|⟨_,cc⟩
     · obtain⟨v,cc⟩:=I2.cell x c (MU x c hx)
       exact⟨v,cc.keeps old⟩
     ·exact⟨_,cc⟩
   · show upd H2 D (.lst []) C=none
     rw[L2.aF (Ne.symm U4)];exact nC
   · show upd H2 D (.lst []) c=none
     rcases ND x c hx with hx|⟨Ro,_⟩
     · have h0:=I2.gE x c (MU x c hx)
       obtain⟨v,cc⟩:=I2.cell x c (MU x c hx);rw[L2.aF (Rg c cc.lt).2];exact h0
     ·rw[L2.aF (Nat.ne_of_gt (by omega))];exact I2.aI.fresh (by omega)
   · show(stC tn.length σ LU).length=(tn++fv).length
     unfold stC;simp[ok.len]
 have hM:aA X'=aA X:=rfl;have Mf:∀(j:Nat) z,(ent tn.length ρ LU)[j]? =some z→z=.un∨∃d,z=.sh d:=fun j z h=>(jV h).imp (fun h=>h) fun h=>h.1;have NF:∀(j:Nat) Lw,(ent tn.length ρ LU)[j]? ≠some (.on Lw):=fun j Lw e=>by rcases Mf j _ e with z|⟨_,z⟩<;>cases z
 have Te:∀ {QH:Hp} {F':Addr→Prop} {bs:List Addr},(∀b,F' b↔F b∨b=D∨b∈bs)→(∀b∈bs,H2 b=none)→aq H2 QH→Mv F H2 F' QH:=fun hF hb sm b o n e=>⟨fun h=>((hF b).mp h).elim n (fun z=>z.elim (fun z=>by subst z;rw[nD]at e;cases e) fun z=>by rw[hb b z]at e;cases e),sm b o e⟩
 have r3:bj (aA X) (upd H2 D (.lst [])) (fun b=>F b∨b=D∨b∈([]:List Addr)) (stC tn.length σ LU) (ent tn.length ρ LU):=by
   have r0:=(Ci (n:=tn.length) (fv:=LU) r2)
   exact⟨r0.len,fun b f=>by
       by_cases hb:b=D
       ·subst hb;exact⟨_,L2.bu⟩
       · obtain⟨o,ho⟩:=r0.aX b (f.resolve_right fun z=>z.elim hb fun z=>nomatch z)
         exact⟨o,PD _ _ ho⟩,fun i d e=>let⟨v,h1,h2⟩:=r0.sh i d e;⟨v,h1,h2.mv (Te (bs:=[]) (fun _=>Iff.rfl) (fun _ z=>nomatch z) PD)⟩,fun i d e=>(iZ Mf (.inl ⟨_,e⟩)).elim,fun i k d e=>(iZ Mf (.inr ⟨_,_,e⟩)).elim,fun i j a o=>(iZ Mf o).elim,.no NF⟩
 let R0:Result→Shared→Prop:=compPost (model X.prog X.w) X.A X.xe use Qc (.ref D) C
 have loop:codeAny (model X.prog X.w) X.A (.compLoop (.ListComp elt [⟨target,iter,ifs,0⟩] scope pos) 0 (.ref UT) (.ref D) X'.env) R0 {s2 with heap:=NG}:=by
   refine Cu (fun n s'=>∃i J' H' vs as bs F',n=ds.length - i∧i≤ds.length∧Inv X' [] J' H' s'∧SY i s'.heap∧(∀b∈fp,H' b=none)∧aq H2 H'∧H' D=some (.lst vs)∧vs.length≤i∧((∀b,F' b↔F b∨b=D∨b∈bs)∧(∀b∈bs,H2 b=none∧b≠D)∧bs.Nodup)∧av (aA X) H' F' as vs bs∧
       bj (aA X) H' F' J' (ent tn.length ρ LU)∧∃rest,gN tg cs el (ent tn.length ρ LU) (ds.drop i)=.ok rest∧as++rest=all) ?_ ds.length
     ⟨0,_,_,[],[],[],_,rfl,Nat.zero_le _,I3,T.keep _ _ _ Nu fun b _ o e=>old b o e,fun b hb=>?_,PD,L2.bu,Nat.zero_le _,⟨fun _=>Iff.rfl,fun _ z=>(nomatch z),List.nodup_nil⟩,by rw[av];exact⟨rfl,rfl⟩,r3,all,ey,rfl⟩
   · rintro n s' ⟨i,J',H',vs,as,bs,F',rfl,WK,I',Mz,Tn,Rl,eD,Xb,⟨hF,P0,N1⟩,Rp,rS,rest,LN,OC⟩
     obtain⟨g1,g2⟩:=gv H' F' (Te hF (fun b hb=>(P0 b hb).1) Rl) rS.aX;by_cases L8:i<ds.length
     · obtain ⟨go,gy⟩:=g1 i ds[i] (by simp[L8])
       refine L2.aN (T.item X' rfl rfl rfl hc i [] s' J' H' _ I' (Sy Tn) Mz go) fun r s4 ⟨u,Sl,h4⟩=>?_;subst Sl;refine L2.aN h4 fun _ s5 ⟨x,H5,I5,r5,y5,Pk,Sa⟩=>?_;obtain⟨OP,rx⟩:=gy x H5 y5;rw[List.drop_eq_getElem_cons L8]at LN;unfold gN at LN;obtain⟨ρ1,eg,LN⟩:=az.mp LN;obtain⟨t,et,LN⟩:=az.mp LN;have WE:=rS.same OP;have rG:aT (aA X) H2 ⟨H2,fun _=>False,none⟩ H5 F' J' (ent tn.length ρ LU):=⟨WE,Rl.trans OP,fun _ h=>h.elim,fun _ h=>h.elim,fun j a o=>(iZ Mf o).elim,fun j Lw _ e=>absurd e (NF j Lw),fun w hw=>nomatch hw⟩
       have Su:Inv X' ([]++L2.ml fp s5.heap) J' H5 s5:=I5.pinned (Sy Sa) (T.obj _ _ Pk);refine wpAny_mono (ht cells C s2 H2 fp ⟨H2,fun _=>False,none⟩ _ s5 J' H5 x u (fun NR H6=>H6=H5∧aT (aA X) H2 ⟨H2,fun _=>False,none⟩ H5 F' NR ρ1) Su r5 ⟨ent tn.length ρ LU,F',ds[i],ρ1,rG,rx,eg,fun NR r6=>⟨rfl,r6⟩⟩) (fun _ s6 ⟨NR,H6,I6,h6,r6⟩=>?_) (fun e s f=>(NN e s f).elim);subst h6;refine wpAny_mono (xP (X:=X') (M:=aA X) (E:=X.xe) rfl (fun _ _ h=>h) (Nv cells C s2 H2 fp) (Q:=fun b H7=>b=t∧aq H6 H7) I6 r6.rs et (fun H7 s7=>⟨rfl,s7⟩)) (fun b s7 ⟨H7,I7,hb,Ow⟩=>?_) (fun e s f=>(NN e s f).elim);subst hb;have Sh:aq H2 H7:=(Rl.trans OP).trans Ow;have D7:H7 D=some (.lst vs):=Ow _ _ (OP _ _ eD);have P6:=low _ _ _ eg
       have back:∀ {QH:Hp} {Tc:Addr→Prop},bj (aA X) QH Tc NR ρ1→bj (aA X) QH Tc NR (ent tn.length ρ LU):=fun r=>r.less P6.1.symm fun j z hz=>by
         rcases jV hz with h|⟨h,hn,_⟩
         ·exact .inl h
         ·exact .inr ⟨h,by rw[P6.2 j hn];exact hz⟩
       have again:∀ {s8:Shared} {H8:Hp},Inv X' ([]++L2.ml fp s5.heap) NR H8 s8→Inv X' [] NR H8 s8∧SY (i+1) s8.heap∧∀b∈fp,H8 b=none:=fun {s8 H8} I8=>by
         refine⟨I8.qX,T.keep _ _ _ Pk fun b hb o e=>(I8.pin (b,o) (List.mem_append_right _ (List.mem_append_right _ (L2.qk hb e)))).1,fun b hb=>?_⟩;obtain⟨o,e,d⟩:=T.obj _ _ Pk b hb;exact(I8.pin (b,o) (List.mem_append_right _ (List.mem_append_right _ (L2.qk hb e)))).2.1
       cases b with
       | false=>
         rw[if_neg (by decide)]at LN
         rw[if_neg (by decide)]
         obtain⟨a1,a2,a3⟩:=again I7;exact⟨ds.length - (i+1),by omega,i+1,NR,H7,vs,as,bs,F',rfl,L8,a1,a2,a3,Sh,D7,by omega,⟨hF,P0,N1⟩,Rp.mv (.same (OP.trans Ow)) (fun b _ u f hu=>⟨f,Ow _ _ (OP _ _ hu)⟩),back (r6.rs.same Ow),rest,LN,OC⟩
       | true=>
         rw[if_pos rfl]at LN;rw[if_pos rfl];obtain⟨y,Wm,LN⟩:=az.mp LN;obtain⟨Vf,Pl,LN⟩:=az.mp LN;cases LN;refine wpAny_mono (Oa cells C s2 H2 fp _ s7 NR H7 (fun v H8=>∃F8 NM,aq H7 H8∧(∀b∈NM,H7 b=none)∧NM.Nodup∧(∀b,F8 b↔F' b∨b∈NM)∧ak (aA X) H8 F8 y v NM) I7 ⟨ρ1,F',y,r6.rs.same Ow,Wm,fun v H8 F8 NM s8 h1 h2 h3 h4=>⟨F8,NM,s8,h1,h2,h3,h4⟩⟩) (fun u2 s8 ⟨v,H8,I8,VW,F8,NM,QO,Qw,VX,QK,QG⟩=>?_) (fun e s f=>(NN e s f).elim);have D8:H8 D=some (.lst vs):=QO _ _ D7;refine wpAny_mono (L2.tO (X:=X') _ s8 NR H8 (.ref D) [v] (.ref D) [u2] (fun _ H9=>H9=upd H8 D (.lst (vs++[v]))) I8 rfl (.cons VW .nil) ⟨D,vs,v,rfl,rfl,D8,by omega,rfl⟩) (fun _ s9 ⟨_,H9,I9,_,h9⟩=>?_) (fun e s f=>(NN e s f).elim)
         subst h9;obtain⟨a1,a2,a3⟩:=again I9;have Tg:D∉NM:=fun h=>by rw[Qw D h]at D7;cases D7
         have fD:F8 D:=(QK D).mpr (.inl ((hF D).mpr (.inr (.inl rfl))));have Sk:Mv F8 H8 F8 (upd H8 D (.lst (vs++[v]))):=fun b o n e=>⟨n,by rw[L2.aF (fun z=>by subst z;exact n fD)];exact e⟩
         have V7:Mv F' H' F8 H8:=fun b o n e=>by
           have e7:=Ow _ _ (OP _ _ e);exact⟨fun f=>((QK b).mp f).elim n (fun hb=>by rw[Qw b hb]at e7;cases e7),QO _ _ e7⟩
         have Ul:Mv F' H' F8 (upd H8 D (.lst (vs++[v]))):=Mv.trans V7 Sk
         have apart:∀a∈bs,∀b∈NM,a≠b:=fun a ha b hb z=>by
           subst z;obtain⟨_,u,hu⟩:=Rp.fs a ha;have:=Ow _ _ (OP _ _ hu);rw[Qw a hb]at this;cases this
         have aB:∀b∈bs,∀u,F' b→H' b=some u→F8 b∧upd H8 D (.lst (vs++[v])) b=some u:=fun b hb u f hu=>⟨(QK b).mpr (.inl f),by rw[L2.aF (P0 b hb).2];exact QO _ _ (Ow _ _ (OP _ _ hu))⟩
         have Qa:∀b∈NM,∀u,F8 b→H8 b=some u→F8 b∧upd H8 D (.lst (vs++[v])) b=some u:=fun b hb u f hu=>⟨f,by rw[L2.aF (fun z=>by subst z;exact Tg hb)];exact hu⟩
         have r8:=back ((r6.rs.same Ow).wide QO Qw QK (fun b hb=>(QG.fs b hb).2)).2;refine⟨ds.length - (i+1),by omega,i+1,NR,_,vs++[v],as++[y],bs++NM,F8,rfl,L8,a1,a2,a3,fun b o e=>?_,L2.bu,by simp;omega,⟨fun b=>?_,fun b hb=>?_,List.nodup_append.mpr ⟨N1,VX,apart⟩⟩,av.append (Rp.mv Ul aB) ?_,?_,Vf,Pl,by rw[List.append_assoc];exact OC⟩
         ·rw[L2.aF (fun z=>by subst z;rw[nD]at e;cases e)];exact QO _ _ (Sh _ _ e)
         ·rw[QK b,hF b,List.mem_append,or_assoc,or_assoc]
         · rcases List.mem_append.mp hb with hb|hb
           ·exact P0 b hb
           ·exact⟨Sh.free (Qw b hb),fun z=>by subst z;exact Tg hb⟩
         · rw[show NM=NM++[] by simp]
           simp only[av];exact⟨v,[],NM,[],rfl,rfl,QG.mv Sk Qa,rfl,rfl⟩
         · exact⟨r8.len,fun b f=>by
             by_cases hb:b=D
             ·subst hb;exact⟨_,L2.bu⟩
             · obtain⟨o,ho⟩:=r8.aX b f
               exact⟨o,by rw[L2.aF hb];exact ho⟩,fun i d e=>let⟨v,h1,h2⟩:=r8.sh i d e;⟨v,h1,h2.mv Sk⟩,fun i d e=>(iZ Mf (.inl ⟨_,e⟩)).elim,fun i k d e=>(iZ Mf (.inr ⟨_,_,e⟩)).elim,fun i j a o=>(iZ Mf o).elim,.no NF⟩
     · have ei:i=ds.length:=by omega
       subst ei;rw[List.drop_length]at LN;cases LN;rw[List.append_nil]at OC;subst OC;refine L2.aN (T.done X' rfl rfl rfl hc _ [] s' J' H' _ I' (Sy Tn) Mz g2) fun r s4 ⟨Sl,I4⟩=>?_;subst Sl;obtain⟨m,hm,_⟩:=I4.loc;have C4:H' C=none:=I4.free;have u4:Un (L2.cZ X.stack) fp H2 H' s2.heap s4.heap:=I4.base
       have I5:Inv X pins σ H' s4:=I2.ph (s':=s4) (ch:=fp) I4.os u4 I4.aI I4.bare fun b hb=>by
         obtain⟨_,a1,a2,a3,a4,a5⟩:=f2 b hb;exact⟨a3,a1,a4,a5⟩
       have fC:dj X pins H' C:=I2.i9 (by omega) C4
       have hH:∃Hq:Hp,aq H Hq∧Hq D=none∧av (aA X) Hq (fun b=>F b∨b∈bs) as vs bs∧upd Hq D (.lst vs)=H':=by
         refine⟨fun b=>if b=D then none else H' b,fun b o e=>?_,by simp,?_,?_⟩
         · have hb:b≠D:=fun z=>by subst z;have:=OG _ _ e;rw[nD]at this;cases this
           simp only[if_neg hb];exact Rl _ _ (OG _ _ e)
         · refine Rp.mv (fun b o n e=>⟨fun f=>n ((hF b).mpr (f.imp id .inr)),?_⟩) fun b hb u f hu=>⟨.inr hb,?_⟩
           · have hb:b≠D:=fun z=>n ((hF b).mpr (.inr (.inl z)))
             simp only[if_neg hb];exact e
           · simp only[if_neg (P0 b hb).2]
             exact hu
         · funext b
           unfold upd;by_cases hb:b=D
           ·simp only[if_pos hb];rw[hb];exact eD.symm
           ·simp only[if_neg hb]
       obtain⟨Hq,q1,q2,q3,q4⟩:=hH;exact MZ D C s4 H' vs Hq bs _ _ ⟨m,hm⟩ I5 fC q1 q2 (fun b hb=>OG.free (P0 b hb).1) N1 (fun _=>Iff.rfl) q3 q4
   · show upd H2 D (.lst []) b=none
     obtain⟨o,ho,_⟩:=T.obj _ _ Nu b hb;rw[L2.aF (Rg b (Heap.lt_size ho)).2];exact(f2 b hb).1
 exact codeAny_compStart_list loop (T.self _ 0 _ _ _ (T.keep _ _ _ Nu fun b _ o e=>old b o e) loop)
theorem Bd(tn fv:List Str)(LU:List Nat)(NN:∀e s,¬X.xe e s)(hc:X.calm=true)(ok:kl X scope tn fv LU)(hi:JI X target iter it)(low:jA tn.length tg)
   (ht:∀cl C s H fp,JG (dJ X scope cl C (tn++fv) s H fp) target tg) (Nv:∀cl C s H fp,me (dJ X scope cl C (tn++fv) s H fp) ifs cs) (Oa:∀cl C s H fp,JE (dJ X scope cl C (tn++fv) s H fp) elt el)
   (hs:∀x,foldedSetIterable iter X.env x=pure x) (I:Inv X pins σ H s) (hr:bj (aA X) H F σ ρ) (e:dg it tn.length LU tg cs el ρ=.ok (.lst all))
   (MZ:∀D C s4 H' vs Hq f,(∃m,s4.heap.Ns C m)→Inv X pins σ H' s4→dj X pins H' C→aq H Hq→Hq D=none→ag (aA X) Hq F all vs→upd Hq D (.lst vs)=H'→compPost (model X.prog X.w) X.A X.xe use Qc (.ref D) C (.ok f) s4):
   wpAny (model X.prog X.w) X.A (comprehension (.ListComp elt [⟨target,iter,ifs,0⟩] scope pos) scope X.env p1 (newList []) false (eval iter X.env) use) Qc X.xe s:=by
 obtain⟨ds,ed,e⟩:=az.mp e
 have hlen:ds.length≤eO:=by
   by_cases h:ds.length≤eO
   ·exact h
   ·rw[if_neg h]at e;cases e
 rw[if_pos hlen]at e;obtain⟨ys,ey,e⟩:=az.mp e;cases e;refine xA (all:=all.map .d) (el:=xD el) tn fv LU NN hc ok hi low ht Nv (fun cl C s H fp=>v8 (Oa cl C s H fp)) hs I hr (by unfold qv;rw[ed,R.aO,if_pos hlen];exact rR ey) fun D C s4 H' vs Hq bs F2 f hm I5 fC q1 q2 q3 q4 q5 q6 q7=>?_
 obtain⟨rfl,rs⟩:=kH.mp q6;exact MZ D C s4 H' vs Hq f hm I5 fC q1 q2 (rs.mv fun b o n e=>⟨fun h=>n ((q5 b).mpr (.inl h)),e⟩) q7
theorem GN(tn fv:List Str)(LU:List Nat)(NN:∀e s,¬X.xe e s)(hc:X.calm=true)(ok:kl X scope tn fv LU)(hi:JI X target iter it)(low:jA tn.length tg)
   (ht:∀cl C s H fp,JG (dJ X scope cl C (tn++fv) s H fp) target tg) (Nv:∀cl C s H fp,me (dJ X scope cl C (tn++fv) s H fp) ifs cs) (Oa:∀cl C s H fp,JE (dJ X scope cl C (tn++fv) s H fp) elt el)
   (hs:∀x,foldedSetIterable iter X.env x=pure x):JF X (.ListComp elt [⟨target,iter,ifs,0⟩] scope pos) (dg it tn.length LU tg cs el):=by
 intro pins s σ H Q I ⟨ρ,F,all,hr,e,q⟩;show wpAny _ _ (comprehension (.ListComp elt [⟨target,iter,ifs,0⟩] scope pos) scope X.env _ (newList []) false (eval iter X.env) none) _ _ s;refine Bd tn fv LU NN hc ok hi low ht Nv Oa hs I hr e fun D C s4 H' vs Hq f hm I5 fC q1 q2 q3 q4=>?_;obtain⟨m,hm⟩:=hm;refine⟨m,hm,fun h' Nk=>⟨.ref D,H',I5.turned (t':=s4.toks) (fun b o n e=>by rw[Nk.2 b n];exact e) fC.1 fC.2.1 fC.2.2.2.1 fC.2.2.2.2.1 fC.2.2.2.2.2,rfl,?_⟩⟩
 rw[←q4];exact q D Hq vs q1 q2 q3
end
section
variable{X:Cx}{M:Md}{G H H':Hp}{F0:Gf}{F F':Addr→Prop}{σ:L2.St}{ρ:En}{pos:Pos}{pins:List (Addr×Obj)}{s:Shared}
theorem wj(h:JF X e f)(hl:∀ρ d,f ρ=.ok d→∃ds,d=.lst ds):JE X e f:=
 bP h fun σ H Q ⟨ρ,F,d,hr,e,q⟩=>by
   obtain⟨ds,rfl⟩:=hl _ _ e;exact⟨ρ,F,ds,hr,e,fun p H' xs sm hp rs=>q _ _ (sm.trans (aq.cm hp _)) (oR (hr.same sm).aX hp rs)⟩
theorem Gm(ρ:En)(d:D)(h:dg it n fv tg cs el ρ=.ok d):∃ds,d=.lst ds:=by
 obtain⟨ds,_,h⟩:=az.mp h;split at h
 · obtain⟨ys,_,h⟩:=az.mp h
   cases h;exact⟨_,rfl⟩
 ·cases h
noncomputable def yg(Ra:Scope)(N0:List Str)(scope:Scope)(fv:List Str)(LU:List Nat):Bool:=
 decide (scope.kind=.function)&&scope.names.all (fun y=>(decide (y.2≠.cell)||decide (scope.names.lookup y.1=some .cell))&&(decide (y.2≠.local)||decide (scope.names.lookup y.1=some .local))&&(decide (y.2≠.free)||(decide (Ra.names.lookup y.1=some .cell)&&decide (scope.names.lookup y.1=some .free))))
   &&decide (fv.length=LU.length)&&(LU.zip fv).all (fun p=>decide (N0[p.1]? =some p.2)&&decide ((p.2,NameKind.free)∈scope.names))
theorem iV(Ra:Scope)(N0:List Str)(h1:X.env.scope=Ra)(h2:X.N=N0)(h:yg Ra N0 scope fv LU=true):kl X scope tn fv LU:=by
 subst h1 h2;unfold yg at h;rw[Bool.and_eq_true,Bool.and_eq_true,Bool.and_eq_true,decide_eq_true_eq,decide_eq_true_eq,List.all_eq_true,List.all_eq_true]at h;obtain⟨⟨⟨hk,hn⟩,hl⟩,hf⟩:=h
 have OO:∀y∈scope.names,(y.2≠.cell∨scope.names.lookup y.1=some .cell)∧(y.2≠.local∨scope.names.lookup y.1=some .local)∧(y.2≠.free∨(X.env.scope.names.lookup y.1=some .cell∧scope.names.lookup y.1=some .free)):=fun y hy=>by
   have:=hn y hy;simp only[Bool.and_eq_true,Bool.or_eq_true,decide_eq_true_eq]at this;exact⟨this.1.1,this.1.2,this.2⟩
 refine⟨hk,fun y hy hl=>(OO y hy).1.resolve_left (fun h=>h hl),fun y hy hl=>(OO y hy).2.1.resolve_left (fun h=>h hl),fun y hy hl=>((OO y hy).2.2.resolve_left (fun h=>h hl)).1,fun y hy hl=>((OO y hy).2.2.resolve_left (fun h=>h hl)).2,fun j i hj=>?_,hl⟩;obtain⟨WR,_⟩:=List.getElem?_eq_some_iff.mp hj;have hx:fv[j]? =some (fv[j]'(by omega)):=List.getElem?_eq_getElem (by omega)
 have hm:(i,fv[j]'(by omega))∈LU.zip fv:=by
   refine List.mem_iff_getElem?.mpr ⟨j,?_⟩;rw[List.getElem?_zip_eq_some];exact⟨hj,hx⟩
 have:=hf _ hm;simp only[Bool.and_eq_true,decide_eq_true_eq]at this;exact⟨_,hx,this.1,this.2⟩
theorem tm(f:flat d=true)(r:Rep M H F d v):L2.hZ v=true:=by
 cases d<;>first|(simp only[Rep]at r;subst r;rfl)|(cases f)
theorem sy:∀ {ds:List D} {vs:List V},ds.all flat=true→ag M H F ds vs→vs.all L2.hZ=true
 |[],_,_,r=>by simp only[ag]at r;subst r;rfl
 | d::ds,_,f,r=>by
   rw[List.all_cons,Bool.and_eq_true]at f;simp only[ag]at r;obtain⟨x,t,rfl,r1,r2⟩:=r;rw[List.all_cons,tm f.1 r1,sy f.2 r2];rfl
theorem Fd(fa:flat a=true)(fb:flat b=true)(ra:Rep M H F a x)(rb:Rep M H F b y):L2.gS x y=b3 a b:=by
 cases a<;>(try cases fa)<;>cases b<;>(try cases fb)<;>simp only[Rep]at ra rb<;>subst ra<;>subst rb<;>first|rfl|(simp only[L2.gS,b3];exact str_beq _ _)
theorem sI:∀ {ds:List D} {vs:List V} {b:D} {y:V},ds.all flat=true→flat b=true→ag M H F ds vs→Rep M H F b y→L2.qy y vs=ds.any fun d=>b3 d b
 |[],_,_,_,_,_,r,_=>by simp only[ag]at r;subst r;rfl
 | d::ds,_,b,y,f,fb,r,rb=>by
   rw[List.all_cons,Bool.and_eq_true]at f;simp only[ag]at r;obtain⟨x,t,rfl,r1,r2⟩:=r;show(L2.gS x y||L2.qy y t)=(b3 d b||ds.any fun d=>b3 d b);rw[Fd f.1 fb r1 rb,sI f.2 fb r2 rb]
theorem vk:∀(k:Ky),ks.length=xs.length→ag M H F ds xs→(bK k ks ds=none→L2.cG (ks.zip xs) k=none)∧∀d,bK k ks ds=some d→∃v,L2.cG (ks.zip xs) k=some v∧Rep M H F d v:=by
 induction ks generalizing xs ds with
 | nil=>
   intro k hl r;cases xs with
   |nil=>exact⟨fun _=>rfl,fun d h=>by simp[bK]at h⟩
   |cons _ _=>simp at hl
 | cons a ks ih=>
   intro k hl r;cases xs with
   |nil=>simp at hl
   | cons x xs=>
     cases ds with
     |nil=>simp only[ag]at r;cases r
     | cons d0 ds=>
       simp only[ag]at r;obtain⟨x',t,e,r1,r2⟩:=r;cases e;have ih:=ih (xs:=xs) (ds:=ds) k (by simpa using hl) r2
       have hz:(a::ks).zip (x::xs)=(a,x)::ks.zip xs:=rfl;rw[hz];by_cases hk:a=k
       · subst hk
         have h1:L2.cG ((a,x)::ks.zip xs) a=some x:=by simp[L2.cG]
         refine⟨fun h=>by simp[bK]at h,fun d h=>⟨x,h1,?_⟩⟩
         simp[bK]at h;subst h;exact r1
       · have h1:L2.cG ((a,x)::ks.zip xs) k=L2.cG (ks.zip xs) k:=by simp[L2.cG,hk]
         rw[h1];refine⟨fun h=>ih.1 (by simpa[bK,hk] using h),fun d h=>ih.2 d (by simpa[bK,hk] using h)⟩
theorem fG(h:keyOf d=some k)(r:Rep M H F d v):v=L2.kV k:=by
 cases d with
 |int i=>cases h;exact ck r
 |str x=>cases h;exact fY r
 |_=>cases h
theorem qL(I:Inv X pins σ H s)(h:dC (aA X) H F a (ks.zip xs))(hl:ks.length=xs.length)(rs:ag (aA X) H F ds xs)(k:Ky):
   ∃vs,s.heap.DictOf (L2.b0 X.prog X.w) a vs∧(a==sysModules)=false∧(bK k ks ds=none→valueAt vs k=none)∧∀d,bK k ks ds=some d→∃v u,valueAt vs k=some u∧RelV v u∧Rep (aA X) H F d v:=by
 obtain⟨z,hd,vs,rel,dd⟩:=gT I h;obtain⟨f1,f2⟩:=vk (M:=aA X) (H:=H) (F:=F) k hl rs;refine⟨vs,dd,hd,fun hn=>?_,fun d Uj=>?_⟩
 ·exact L2.eV.none_of (by rw[←f1 hn];exact L2.KV.val rel k)
 · obtain⟨v,hv,rv⟩:=f2 d Uj
   obtain⟨u,hu,ru⟩:=L2.eV.some_of (v:=v) (o:=valueAt vs k) (by rw[←hv];exact L2.KV.val rel k)
   exact⟨v,u,hu,ru,rv⟩
noncomputable def vE(M:Md):R2:=fun x y H Q=>L2.qT M.K x y H Q∨∃F a b d,Rep M H F a x∧Rep M H F b y∧lj a b=.ok d∧∀v,Rep M H F d v→Q v H
theorem Dy:L2.gf X (vE (aA X)):=by
 refine L2.gf.or L2.yL ?_;intro value slice pins s σ H x y v u Q I rx ry h hs;obtain⟨F,a,b,d,ra,rb,e,q⟩:=h;unfold lj at e;split at e
 · rename_i ks vs
   split at e
   · rename_i k hk
     split at e
     · rename_i d' hf
       cases e;simp only[Rep]at ra;obtain⟨p,xs,rfl,h1,hl,rs⟩:=ra;cases rx;cases fG hk rb;obtain⟨ws,dd,hd,f1,f2⟩:=qL I h1 hl rs k;obtain⟨w,w',hw,Mx,rd⟩:=f2 _ hf;exact PyProof.Rows.tail_any dd.typeIs PySem.F.slot_dict_getitem.lookup (wpAny_getItem_of (L2.gL ry) dd.mapOf hw ⟨w,H,I.tok _,Mx,q w rd⟩) hs
     ·cases e
   ·cases e
 ·cases e
theorem CU:cy M ao (vE M):=by
 intro F H x y a b d Q tr ra rb e q;cases a with
 |lst xs=>exact .inl (rH F H x y _ b d Q tr ra rb e q)
 |tup xs=>exact .inl (rH F H x y _ b d Q tr ra rb e q)
 |str z=>exact .inl (rH F H x y _ b d Q tr ra rb e q)
 |aw ks vs=>exact .inr ⟨F,_,b,d,ra,rb,e,fun v rv=>q v H (aq.refl H) rv⟩
 |_=>cases e
theorem FR(ha:JE X a fa)(hb:JE X b fb)(hs:L2.jC b:=by exact fun _ _=>rfl):JE X (.Subscript a b pos) (e2 ao fa fb):=
 bP (L2.tW Dy ha hb hs) fun σ H Q h=>qI CU h
noncomputable def qK(M:Md)(neg:Bool):R2:=fun x y H Q=>∃F a b k,Rep M H F a x∧Rep M H F b y∧cA a b=.ok (.bl k)∧Q (.bl (if neg then !k else k)) H
theorem vQ(h:cA a b=.ok (.bl k)):(∃ys,(b=.lst ys∨b=.tup ys)∧flat a=true∧ys.all flat=true∧k=ys.any fun y=>b3 y a)∨∃ks vs q,b=.aw ks vs∧keyOf a=some q∧k=(bK q ks vs).isSome:=by
 cases b with
 | lst ys=>
   have h':(if flat a=true∧ys.all flat=true then(R.ok (D.bl (ys.any fun y=>b3 y a)):R D)else .bad)=.ok (.bl k):=by cases a<;>exact h
   split at h'
   ·rename_i c;cases h';exact .inl ⟨ys,.inl rfl,c.1,c.2,rfl⟩
   ·cases h'
 | tup ys=>
   have h':(if flat a=true∧ys.all flat=true then(R.ok (D.bl (ys.any fun y=>b3 y a)):R D)else .bad)=.ok (.bl k):=by cases a<;>exact h
   split at h'
   ·rename_i c;cases h';exact .inl ⟨ys,.inr rfl,c.1,c.2,rfl⟩
   ·cases h'
 | aw ks vs=>
   cases hq:keyOf a with
   |none=>cases a<;>simp[hq]at h
   | some q=>
     refine .inr ⟨ks,vs,q,rfl,rfl,?_⟩;cases a<;>simp[hq]at h<;>exact h.symm
 |str y=>cases a<;>simp at h
 |_=>cases a<;>simp at h
theorem nu(hu:X.A.units+64<cLine):bh X (compareOp .In) (qK (aA X) false):=by
 intro pins s σ H x y v u Q I rx ry h;obtain⟨F,a,b,k,ra,rb,e,q⟩:=h;rcases vQ e with⟨ys,hb,fa,fs,rfl⟩|⟨ks,vs,q',rfl,hq,rfl⟩
 · have:∃p xs,y=.ref p∧(bz X.K H p xs∨bN X.K H p xs)∧ag (aA X) H F ys xs:=by
     rcases hb with rfl|rfl
     ·simp only[Rep]at rb;obtain⟨p,xs,e,h1,h2⟩:=rb;exact⟨p,xs,e,.inl h1.sq,h2⟩
     ·simp only[Rep]at rb;obtain⟨p,xs,e,h1,h2⟩:=rb;exact⟨p,xs,e,.inr h1.sq,h2⟩
   obtain⟨p,xs,rfl,hs,rs⟩:=this;refine L2.Ca pins s σ H x (.ref p) v u Q I rx ry ⟨p,xs,rfl,hs,tm fa ra,sy fs rs,?_⟩;rw[sI fs fa rs ra];exact q
 · simp only[Rep]at rb
   obtain⟨p,xs,rfl,h1,hl,rs⟩:=rb;cases ry;cases fG hq ra;obtain⟨ws,dd,hd,f1,f2⟩:=qL I h1 hl rs q';refine wpAny_in_of (L2.gL rx) hd dd.mapOf ?_;cases hf:bK q' ks vs with
   |none=>rw[f1 hf];rw[hf]at q;exact⟨.bl _,H,I.tok _,rfl,q⟩
   |some d=>obtain⟨_,w,hw,_⟩:=f2 d hf;rw[hw];rw[hf]at q;exact⟨.bl _,H,I.tok _,rfl,q⟩
theorem j9(hu:X.A.units+64<cLine):bh X (compareOp .NotIn) (qK (aA X) true):=by
 intro pins s σ H x y v u Q I rx ry h;obtain⟨F,a,b,k,ra,rb,e,q⟩:=h;rcases vQ e with⟨ys,hb,fa,fs,rfl⟩|⟨ks,vs,q',rfl,hq,rfl⟩
 · have:∃p xs,y=.ref p∧(bz X.K H p xs∨bN X.K H p xs)∧ag (aA X) H F ys xs:=by
     rcases hb with rfl|rfl
     ·simp only[Rep]at rb;obtain⟨p,xs,e,h1,h2⟩:=rb;exact⟨p,xs,e,.inl h1.sq,h2⟩
     ·simp only[Rep]at rb;obtain⟨p,xs,e,h1,h2⟩:=rb;exact⟨p,xs,e,.inr h1.sq,h2⟩
   obtain⟨p,xs,rfl,hs,rs⟩:=this;refine L2.BE pins s σ H x (.ref p) v u Q I rx ry ⟨p,xs,rfl,hs,tm fa ra,sy fs rs,?_⟩;rw[sI fs fa rs ra];exact q
 · simp only[Rep]at rb
   obtain⟨p,xs,rfl,h1,hl,rs⟩:=rb;cases ry;cases fG hq ra;obtain⟨ws,dd,hd,f1,f2⟩:=qL I h1 hl rs q';refine wpAny_notIn_of (L2.gL rx) hd dd.mapOf ?_;cases hf:bK q' ks vs with
   |none=>rw[f1 hf];rw[hf]at q;exact⟨.bl _,H,I.tok _,rfl,q⟩
   |some d=>obtain⟨_,w,hw,_⟩:=f2 d hf;rw[hw];rw[hf]at q;exact⟨.bl _,H,I.tok _,rfl,q⟩
theorem rL(h:cA a b=.ok d):∃k,d=.bl k:=by
 cases b with
 | lst ys=>
   have h':(if flat a=true∧ys.all flat=true then(R.ok (D.bl (ys.any fun y=>b3 y a)):R D)else .bad)=.ok d:=by cases a<;>exact h
   split at h'<;>cases h';exact⟨_,rfl⟩
 | tup ys=>
   have h':(if flat a=true∧ys.all flat=true then(R.ok (D.bl (ys.any fun y=>b3 y a)):R D)else .bad)=.ok d:=by cases a<;>exact h
   split at h'<;>cases h';exact⟨_,rfl⟩
 | aw ks vs=>
   cases hq:keyOf a with
   |none=>cases a<;>simp[hq]at h
   |some q=>cases a<;>simp[hq]at h<;>exact⟨_,h.symm⟩
 |str y=>cases a<;>simp at h
 |_=>cases a<;>simp at h
theorem p5:iL cA:=fun a b d h=>rL h
theorem nN:cy M cA (qK M false):=by
 intro F H x y a b d Q tr ra rb e q;obtain⟨k,rfl⟩:=rL e;exact⟨F,a,b,k,ra,rb,e,q _ _ (aq.refl _) eZ⟩
theorem vH(h:cY a b=.ok d):∃k,cA a b=.ok (.bl k)∧d=.bl (!k):=by
 obtain⟨r,hr,h⟩:=az.mp h;obtain⟨k,rfl⟩:=rL hr;cases h;exact⟨k,hr,rfl⟩
theorem j0:iL cY:=fun a b d h=>let⟨k,_,e⟩:=vH h;⟨_,e⟩
theorem kg:cy M cY (qK M true):=by
 intro F H x y a b d Q tr ra rb e q;obtain⟨k,hk,rfl⟩:=vH e;exact⟨F,a,b,k,ra,rb,hk,q _ _ (aq.refl _) eZ⟩
end
section
variable{X:Cx}{M:Md}{G H H':Hp}{F0:Gf}{F F':Addr→Prop}{σ:L2.St}{ρ:En}{pos:Pos}{pins:List (Addr×Obj)}{s:Shared}
theorem wg:∀ {ds:List D} {d:D},allB ds=.ok d→∃bs:List Bool,ds=bs.map D.bl∧d=.bl (bs.all id)
 |[],d,h=>by cases h;exact⟨[],rfl,rfl⟩
 | x::ds,d,h=>by
   cases x with
   | bl b=>
     obtain⟨z,hz,h⟩:=az.mp h;obtain⟨bs,rfl,rfl⟩:=wg hz;cases h;exact⟨b::bs,rfl,rfl⟩
   |_=>cases h
theorem zf:∀ {bs:List Bool} {xs:List V},ag M H F (bs.map D.bl) xs→xs=bs.map V.bl
 |[],_,r=>by simpa[ag] using r
 | b::bs,_,r=>by
   simp only[List.map_cons,ag]at r;obtain⟨x,t,rfl,h1,h2⟩:=r;rw[zf h2,gQ h1];rfl
theorem yB:∀ {bs:List Bool} {us:List Value},Vals (bs.map V.bl) us→us=bs.map Value.bool
 |[],_,.nil=>rfl
 |b::bs,_,.cons r t=>by cases r;rw[yB t];rfl
theorem all_range(bs:List Bool):((List.range bs.length).drop 0).all (fun i=>bs.getD i false)=bs.all id:=by
 rw[List.drop_zero]
 induction bs with
 |nil=>rfl
 | cons b bs ih=>
   rw[List.length_cons,List.range_succ_eq_map,List.all_cons,List.all_map,List.all_cons, ←ih];rfl
theorem wX(hc:X.calm=true):b5 X (.builtin "all") (fun xs H Q=>∃(F:Addr→Prop) (p:Addr) (bs:List Bool),xs=[.ref p]∧Rep (aA X) H F (.lst (bs.map D.bl)) (.ref p)∧Q (.bl (bs.all id)) H):=by
 intro pins s σ H xs us Q I r h;obtain⟨F,p,bs,rfl,rp,q⟩:=h;obtain⟨u,rfl,ru⟩:=L2.vals1 r;cases ru;simp only[Rep]at rp;obtain⟨p',xs,e,hl,rs⟩:=rp;cases e;obtain⟨B',rv,pl,hz⟩:=I.list hl.sq;cases zf rs;cases yB rv;have hh:X.A.in1.in1.handled=none:=I.ok.hd hc;have L8:p<s.heap.objs.size:=by obtain⟨o,n,e,_⟩:=pl;exact Heap.lt_size e
 refine call_function_tree PySem.F.kind_all PySem.F.plain_all PySem.F.entry_all (PySem.F.args_all1 _) ?_;show wpAny _ _ (pyIter (.ref p) >>= _) _ _ s;refine wpAny_bind (wpAny_pyIter_list pl.isList (wpAny_pure ⟨plainId_quiet PySem.F.plain_all_loop _,?_⟩));have hsz:((bs.map Value.bool).toArray).size=bs.length:=by simp
 have W:=Walks.list (prog:=X.prog) (w:=X.w) (A:=X.A.in1) (I.ok.hd hc) s.heap.objs.size p (Nat.ne_of_lt L8) (bs.map Value.bool).toArray;rw[hsz]at W;refine codeAny_all_loop (A:=X.A) W (fun i=>bs.getD i false) (fun i v s' Q' E' hP hQ=>?_) (bs.length - 0) 0 _ rfl (Nat.zero_le _) ⟨⟨_,Heap.get?_push_size _ rfl,rfl,rfl⟩,Heap.IsList.push pl.isList _⟩ (fun h' tk hk=>?_)
 · have hP:(bs.map Value.bool).toArray[i]? =some v:=hP
   have hQ:Q' (bs.getD i false) s':=hQ
   have:∃b,v=.bool b∧bs.getD i false=b:=by
     rw[List.getElem?_toArray,List.getElem?_map]at hP;cases e:bs[i]? with
     |none=>rw[e]at hP;cases hP
     |some b=>rw[e]at hP;cases hP;exact⟨b,rfl,by simp[e]⟩
   obtain⟨b,rfl,hb⟩:=this;rw[hb]at hQ;exact wpAny_truthy_bool hQ
 · show EP X pins σ Q _ _
   rw[all_range];have I1:Inv X pins σ H {s with heap:=s.heap.push {cls:=.type "list_iterator",data:=.fields #[.ref p,.int 0 0]} }:=I.kept (t':=s.toks) fun b o e=>Heap.get?_push_of_some _ e;have fp:=I.i9 (H':=H) (b:=s.heap.objs.size) (Nat.le_refl _) (I.aI.fresh (Nat.le_refl _));obtain⟨f0,f1,f2,f3,f4,f5⟩:=fp;exact⟨.bl _,H,I1.turned (it:=s.heap.objs.size) (t':=tk) (fun b o hb e=>hk b o (by simpa using hb) e) f0 f1 f3 f4 f5,rfl,q⟩
theorem zu:hX M (g1 jr) (fun xs H Q=>∃(F:Addr→Prop) (p:Addr) (bs:List Bool),xs=[.ref p]∧Rep M H F (.lst (bs.map D.bl)) (.ref p)∧Q (.bl (bs.all id)) H):=by
 intro F H xs as d Q tr rs e q;unfold g1 at e;split at e
 · obtain⟨x,rfl,r⟩:=rs.one
   unfold jr at e;split at e
   · obtain⟨bs,rfl,rfl⟩:=wg e
     have r':=r;simp only[Rep]at r;obtain⟨p,ys,rfl,_⟩:=r;exact⟨F,p,bs,rfl,r',q _ _ (aq.refl _) eZ⟩
   ·cases e
 ·cases e
theorem qu(hb:attributeBase o m X.env (eval o X.env)=eval o X.env)(hn:j7 e=true)(hl:(apos.endLine==j'.line)=true):L2.M1 X o m apos e j':=
 ⟨hb,oa (by simp[hn]) (show 1<30 by decide),hl,by rw[bX hn];rfl⟩
theorem CP(ho:JE X o fo)(he:JE X e fe)(m:L2.M1 X o "get" apos e j'):JE X (.Call (.Attribute o "get" apos) [e] [] j') (e2 (nB .aH) fo fe):=by
 intro pins s σ H Q I ⟨ρ,F,d,hr,e,q⟩;obtain⟨a,ea,e⟩:=az.mp e;obtain⟨b,eb,e⟩:=az.mp e;refine wpAny_Call_method m.base m.pC m.line PySem.F.plainAttrs_dict PySem.F.slot_dict_get PySem.F.type_dict_get (L2.aN (ho pins s σ H _ I ⟨ρ,F,a,hr,ea,fun v H1 s1 rv=>(⟨s1,rv⟩:aq H H1∧Rep (aA X) H1 F a v)⟩) fun u s1 ⟨x,H1,I1,rx,SU,ra⟩=>?_);cases a with
 | aw ks vs=>
   cases hk:keyOf b with
   |none=>simp only[nB,hk]at e;cases e
   | some k=>
     simp only[nB,hk]at e;cases e;have Xn:=ra;simp only[Rep]at ra;obtain⟨p,xs,rfl,h1,hl,rs⟩:=ra;cases rx;obtain⟨_,_,ws,_,o',es,ep,e1,e2,e3,_⟩:=gT I1 h1;refine⟨⟨o',e1,e2.1⟩,fun c hc=>by cases hc;exact⟨o',e1,e2.2.1⟩,?_⟩
     rw[m.trees];refine Calls.callWith_builtin rfl (Calls.evalArgs_plain (Calls.spliced_cons (L2.aN (he pins s1 σ H1 _ I1 ⟨ρ,F,b,hr.same SU,eb,fun v H2 s2 rv=>(⟨s2,rv⟩:aq H1 H2∧Rep (aA X) H2 F b v)⟩) fun iv s2 ⟨y,H2,I2,ry,OG,rb⟩=>Calls.spliced_nil ?_)));have h2:=h1.mv (M:=aA X) (F':=F) (.same OG);have N8:=rs.mv (M:=aA X) (F':=F) (.same OG);cases fG hk rb;obtain⟨ws,dd,hd,f1,f2⟩:=qL I2 h2 hl N8 k;refine call_meetsIn PySem.F.slot_dict_get dd.typeIs PySem.F.entry_dict_get (PySem.F.args_dict_get_2 _ _) (meets_dict_get (L2.b0 X.prog X.w) p (L2.gL ry) hd) ⟨_,dd.mapOf,?_⟩;cases hf:bK k ks vs with
     | none=>
       rw[f1 hf];rw[hf]at q;exact⟨.aH,H2,I2.tok _,rfl,q _ _ (SU.trans OG) tG⟩
     | some d'=>
       obtain⟨v,w,hw,Mx,rd⟩:=f2 d' hf;rw[hw];rw[hf]at q;exact⟨v,H2,I2.tok _,Mx,q _ _ (SU.trans OG) rd⟩
 |_=>cases e
end
section
variable{prog:Program}{w:World}{A:Around}{E:Value→Shared→Prop}{s:Shared}
theorem HR{it t:Addr}{i:Nat}{items:Array Value}{x:Value}{Q:Value→Shared→Prop}(hit:s.heap.IsTupleIter it t i)(ht:s.heap.IsTuple t items)(hx:items[i]? =some x)
   (hQ:∀h',h'.IsTupleIter it t (i+1)→Heap.SameBut it s.heap h'→Q x {s with heap:=h'}):wpAny (model prog w) A (Builtin.SmallTypes.nextOf (.ref it)) Q E s:=by
 obtain⟨oi,OY,TK,Oi⟩:=id hit;obtain⟨ot,Sw,_,nt,RE⟩:=ht;unfold Builtin.SmallTypes.nextOf;refine wpAny_bind (wpAny_callSpecial?_slot (name:=Str.ofString "__next__") hit.typeIs PySem.F.slot_tuple_iterator_next (wpAny_call_entry PySem.F.slot_tuple_iterator_next hit.typeIs PySem.F.entry_tuple_iterator_next ?_ (PySem.F.args_tuple_iterator_next_1 _)));show wpAny _ _ (PySem.field (.ref it) 0 >>= _) _ _ s;refine wpAny_bind (wpAny_field OY Oi (x:=.ref t) rfl ?_);show wpAny _ _ (if(Value.ref t==Value.none)=true then _ else _) _ _ s;rw[if_neg (show ¬((Value.ref t==Value.none)=true)from Bool.false_ne_true)]
 show wpAny _ _ (PySem.field (.ref it) 1 >>= _) _ _ s;refine wpAny_bind (wpAny_field OY Oi (x:=.int i 0) rfl ?_);show wpAny _ _ (seqItems? (.ref t) >>= _) _ _ s;refine wpAny_bind (wpAny_seqItems Sw RE ?_);simp only[Int.toNat_natCast,hx];exact wpAny_bind (wpAny_setField OY Oi (by simp) (wpAny_pure ⟨x,rfl,wpAny_pure (hQ _ ⟨_,Heap.get?_update_self _ OY (Obj.isFreed_of_fields (Obj.data_mapFields Oi _)),(Obj.cls_mapFields ..).trans TK,by rw[Obj.data_mapFields Oi];simp[rawInt]⟩ (Heap.SameBut.update ..))⟩))
theorem Gb{it t:Addr}{i:Nat}{items:Array Value}{Q:Value→Shared→Prop}(hh:A.handled=none)(hit:s.heap.IsTupleIter it t i)(ht:s.heap.IsTuple t items)(hx:items[i]? =none)
   (hE:∀h' e,Heap.ExtBut it s.heap h'→(∃o,h'.get? e=some o∧o.cls=.type "StopIteration")→E (.ref e) {s with heap:=h'}):wpAny (model prog w) A (Builtin.SmallTypes.nextOf (.ref it)) Q E s:=by
 obtain⟨oi,OY,TK,Oi⟩:=id hit;obtain⟨ot,Sw,_,nt,RE⟩:=ht;unfold Builtin.SmallTypes.nextOf;refine wpAny_bind (wpAny_callSpecial?_slot (name:=Str.ofString "__next__") hit.typeIs PySem.F.slot_tuple_iterator_next (wpAny_call_entry PySem.F.slot_tuple_iterator_next hit.typeIs PySem.F.entry_tuple_iterator_next ?_ (PySem.F.args_tuple_iterator_next_1 _)));show wpAny _ _ (PySem.field (.ref it) 0 >>= _) _ _ s;refine wpAny_bind (wpAny_field OY Oi (x:=.ref t) rfl ?_);show wpAny _ _ (if(Value.ref t==Value.none)=true then _ else _) _ _ s;rw[if_neg (show ¬((Value.ref t==Value.none)=true)from Bool.false_ne_true)]
 show wpAny _ _ (PySem.field (.ref it) 1 >>= _) _ _ s;refine wpAny_bind (wpAny_field OY Oi (x:=.int i 0) rfl ?_);show wpAny _ _ (seqItems? (.ref t) >>= _) _ _ s;refine wpAny_bind (wpAny_seqItems Sw RE ?_);simp only[Int.toNat_natCast,hx];refine wpAny_bind (wpAny_rule (wpAny_bind (wpAny_setField OY Oi (by simp) ?_)))
 show wpAny _ _ (newExc (.type "StopIteration") [] >>= _) _ _ _;refine wpAny_bind ?_;simp only[newExc,newTuple];refine wpAny_bind (wpAny_newObj_type (wpAny_bind (m:=firstArgMember _ _) (wpAny_of_eq (a:=Value.none) (by first|rfl|(simp only[firstArgMember];rfl)) (wpAny_newObj_type ?_ (by size_fits)))) (by size_fits))
 simp only[raiseNew];refine wpAny_bind (wpAny_handled ?_)
 first|rw[show A.in1.handled=none from hh]|rw[hh]
 exact wpAny_bind (wpAny_pure (wpAny_throw (hE _ _ (((Heap.SameBut.update ..).extBut.push _).push _) ⟨_,Heap.get?_push_size _ rfl,rfl⟩)))
end
theorem Ic{prog:Program}{w:World}{A:Around}(hh:A.handled=none)(it l:Addr)(C':l≠it)(items:Array Value):
   Draws prog w A it [it,l] items.size (fun i v=>items[i]? =some v) (fun i h=>h.IsTupleIter it l i∧h.IsTuple l items) where
 live _ _ st:=let⟨o,ho,_⟩:=st.1;⟨o,ho⟩
 frame _ _ _ st hk:=⟨let⟨o,ho,r⟩:=st.1;⟨o,hk it (by simp) o ho,r⟩,let⟨o,ho,r⟩:=st.2;⟨o,hk l (by simp) o ho,r⟩⟩
 item i s Q E hi st hQ:=HR st.1 st.2 (x:=items[i]) (by simp[hi]) fun h' Pj OZ=>hQ _ h' s.toks (by simp[hi]) ⟨Pj,let⟨o,ho,r⟩:=st.2;⟨o,OZ.extBut l o C' ho,r⟩⟩ OZ
 done s Q E st hE:=Gb hh st.1 st.2 (by simp) hE
structure qR(z TI TO i1 i2:Addr)(f1 f2:List Addr):Prop where
 TIz:TI≠z
 TOz:TO≠z
 i1z:i1≠z
 i2z:i2≠z
 TITO:TI≠TO
 TIi1:TI≠i1
 TIi2:TI≠i2
 TOi1:TO≠i1
 TOi2:TO≠i2
 i12:i1≠i2
 pK:z∉f1
 wQ:TO∉f1
 Dl:i2∉f1
 sD:z∉f2
 u5:TO∉f2
 zH:i1∉f2
section
variable{prog:Program}{w:World}{A:Around}{E:Value→Shared→Prop}{s:Shared}{z TI TO i1 i2:Addr}{f1 f2:List Addr}{n1 n2 k:Nat}{P1 P2:Nat→Value→Prop}{S1 S2:Nat→Heap→Prop}{a b:Value}
theorem fr_but{prog:Program}{w:World}{A:Around}{it:Addr}{fp:List Addr}{n:Nat}{P:Nat→Value→Prop}{St:Nat→Heap→Prop}(D:Draws prog w A it fp n P St){i:Nat}{c:Addr}{h h':Heap}(st:St i h)(hc:c∉fp)(hs:Heap.SameBut c h h'):St i h':=
 D.frame i h h' st fun b hb o e=>hs.extBut b o (fun q=>hc (by rw[←q];exact hb)) e
theorem BK(D1:Draws prog w A i1 f1 n1 P1 S1)(D2:Draws prog w A i2 f2 n2 P2 S2)(ap:qR z TI TO i1 i2 f1 f2)(hz:IsZip s.heap z TI TO .none)(NV:IsPair s.heap TI (.ref i1) (.ref i2))(N2:IsPair s.heap TO a b)
   (bX:S1 k s.heap) (Nu:S2 k s.heap) (h1:k<n1) (h2:k<n2) {Q:Value→Shared→Prop}
   (hQ:∀x y h' tk,P1 k x→P2 k y→IsZip h' z TI TO (rawInt s.heap.objs.size)→IsPair h' TO x y→S1 (k+1) h'→S2 (k+1) h'→IsPair h' s.heap.objs.size x y→
     (∀c o,c≠z→c≠TO→c≠i1→c≠i2→s.heap.get? c=some o→h'.get? c=some o)→Q (.ref s.heap.objs.size) {s with heap:=h',toks:=tk}):
   wpAny (model prog w) A (Builtin.«zip.__next__» ⟨[.ref z],[]⟩) (fun fin s'=>∃v,fin=.done (.ret v)∧Q v s') E s:=by
 show wpAny _ _ (PySem.field (.ref z) 2 >>= _) _ _ _;refine wpAny_bind (wpAny_field hz rfl (x:=.bool false) rfl ?_);show wpAny _ _ (PySem.field (.ref z) 3 >>= _) _ _ _;refine wpAny_bind (wpAny_field hz rfl (x:=.ref TI) rfl (wpAny_bind (wpAny_seqItems NV rfl ?_)));show wpAny _ _ (Builtin.SmallTypes.ownedTupleIsFree (.ref z) >>= _) _ _ _;refine wpAny_bind ?_;unfold Builtin.SmallTypes.ownedTupleIsFree;refine wpAny_bind (wpAny_field hz rfl (x:=.none) rfl (wpAny_pure ?_));simp only[if_true];refine wpAny_bind (wpAny_rule (wpAny_bind (wpAny_field hz rfl (x:=.ref TO) rfl (wpAny_bind (wpAny_setField_rec hz (by simp) fun ha OR NZ=>?_)))))
 replace OR:IsZip ha z TI TO .ellipsis:=OR
 refine wpAny_bind ?_;simp only[List.zipIdx_cons,List.zipIdx_nil,List.forIn_cons,List.forIn_nil];refine wpAny_bind (wpAny_bind (wpAny_onRaise ?_));show wpAny _ _ (Builtin.SmallTypes.nextOf (.ref i1) >>= _) _ _ _;refine wpAny_bind (D1.item k _ _ _ h1 (fr_but D1 bX ap.pK NZ) fun x hb tb px T4 Nk=>wpAny_pure ?_);have N':IsPair hb TO a b:=Nk.extBut _ _ ap.TOi1 (NZ.extBut _ _ ap.TOz N2);refine wpAny_bind (wpAny_seqItems N' rfl (wpAny_bind (wpAny_updateSeq_pair N' fun hc OA NO=>?_)))
 replace OA:IsPair hc TO x b:=OA
 refine wpAny_bind (wpAny_letGo (wpAny_pure (wpAny_bind (wpAny_bind (wpAny_onRaise ?_)))));show wpAny _ _ (Builtin.SmallTypes.nextOf (.ref i2) >>= _) _ _ _;refine wpAny_bind (D2.item k _ _ _ h2 (fr_but D2 (fr_but D2 (fr_but D2 Nu ap.sD NZ) ap.zH Nk) ap.u5 NO) fun y hd td py R3 OX=>wpAny_pure ?_);have QF:IsPair hd TO x b:=OX.extBut _ _ ap.TOi2 OA;refine wpAny_bind (wpAny_seqItems QF rfl (wpAny_bind (wpAny_updateSeq_pair QF fun he OJ Pw=>?_)))
 replace OJ:IsPair he TO x y:=OJ
 refine wpAny_bind (wpAny_letGo (wpAny_pure (wpAny_pure (wpAny_bind (wpAny_seqItems OJ rfl (wpAny_bind (wpAny_newTuple ?_)))))));have hsz:he.objs.size=s.heap.objs.size:=by rw[Pw.1,OX.1,NO.1,Nk.1,NZ.1]
 have Tj:IsZip he z TI TO .ellipsis:=Pw.extBut _ _ ap.TOz.symm (OX.extBut _ _ ap.i2z.symm (NO.extBut _ _ ap.TOz.symm (Nk.extBut _ _ ap.i1z.symm OR)));have V2:∀c o,c≠z→c≠TO→c≠i1→c≠i2→s.heap.get? c=some o→he.get? c=some o:=fun c o c1 c2 c3 c4 e=>Pw.extBut _ _ c2 (OX.extBut _ _ c4 (NO.extBut _ _ c2 (Nk.extBut _ _ c3 (NZ.extBut _ _ c1 e))));have U0:S1 (k+1) he:=fr_but D1 (fr_but D1 (fr_but D1 T4 ap.wQ NO) ap.Dl OX) ap.wQ Pw;have VE:S2 (k+1) he:=fr_but D2 R3 ap.u5 Pw;have Oz:z<he.objs.size:=Heap.lt_size Tj;show wpAny _ _ (Builtin.SmallTypes.ownedTupleHandOut (.ref z) (.ref he.objs.size) >>= _) _ _ _;refine wpAny_bind ?_;unfold Builtin.SmallTypes.ownedTupleHandOut;have UH:IsZip (he.push {cls:=.type "tuple",data:=.seq #[x,y]}) z TI TO .ellipsis:=Heap.get?_push_of_some _ Tj;refine wpAny_bind (wpAny_setField_rec UH (by simp) fun hg Rv TY=>?_)
 replace Rv:IsZip hg z TI TO (rawInt he.objs.size):=Rv
 refine wpAny_setField_rec Rv (by simp) fun hi Rh Tf=>?_
 replace Rh:IsZip hi z TI TO (rawInt he.objs.size):=Rh
 have up:∀c o,c≠z→he.get? c=some o→hi.get? c=some o:=fun c o c1 e=>Tf.extBut _ _ c1 (TY.extBut _ _ c1 (Heap.get?_push_of_some _ e));have TV:IsPair hi he.objs.size x y:=Tf.extBut _ _ (Nat.ne_of_gt Oz) (TY.extBut _ _ (Nat.ne_of_gt Oz) (Heap.get?_push_size _ rfl));rw[hsz]at Rh TV;refine wpAny_pure ⟨_,rfl,?_⟩;show Q (.ref he.objs.size) _;rw[hsz]
 exact hQ x y hi td px py Rh (up _ _ ap.TOz OJ) (D1.frame _ _ _ U0 fun c M6 o e=>up c o (fun q=>ap.pK (by rw[←q];exact M6)) e) (D2.frame _ _ _ VE fun c M6 o e=>up c o (fun q=>ap.sD (by rw[←q];exact M6)) e) TV
   fun c o c1 c2 c3 c4 e=>up c o c1 (V2 c o c1 c2 c3 c4 e)
theorem Ij(D1:Draws prog w A i1 f1 n1 P1 S1)(D2:Draws prog w A i2 f2 n2 P2 S2)(ap:qR z TI TO i1 i2 f1 f2)(hz:IsZip s.heap z TI TO .none)(NV:IsPair s.heap TI (.ref i1) (.ref i2))(N2:IsPair s.heap TO a b)
   (bX:S1 k s.heap) (Nu:S2 k s.heap) (MZ:k=n1∨(k<n1∧k=n2))
   (hE:∀h' tk e,(∀c o,c≠z→c≠TO→c≠i1→c≠i2→s.heap.get? c=some o→h'.get? c=some o)→(∃o,h'.get? e=some o∧o.cls=.type "StopIteration")→E (.ref e) {s with heap:=h',toks:=tk}):
   wpAny (model prog w) A (Builtin.«zip.__next__» ⟨[.ref z],[]⟩) Q E s:=by
 show wpAny _ _ (PySem.field (.ref z) 2 >>= _) _ _ _;refine wpAny_bind (wpAny_field hz rfl (x:=.bool false) rfl ?_);show wpAny _ _ (PySem.field (.ref z) 3 >>= _) _ _ _;refine wpAny_bind (wpAny_field hz rfl (x:=.ref TI) rfl (wpAny_bind (wpAny_seqItems NV rfl ?_)));show wpAny _ _ (Builtin.SmallTypes.ownedTupleIsFree (.ref z) >>= _) _ _ _;refine wpAny_bind ?_;unfold Builtin.SmallTypes.ownedTupleIsFree;refine wpAny_bind (wpAny_field hz rfl (x:=.none) rfl (wpAny_pure ?_));simp only[if_true];refine wpAny_bind (wpAny_rule (wpAny_bind (wpAny_field hz rfl (x:=.ref TO) rfl (wpAny_bind (wpAny_setField_rec hz (by simp) fun ha OR NZ=>?_)))))
 replace OR:IsZip ha z TI TO .ellipsis:=OR
 refine wpAny_bind ?_;simp only[List.zipIdx_cons,List.zipIdx_nil,List.forIn_cons,List.forIn_nil];refine wpAny_bind (wpAny_bind (wpAny_onRaise ?_));show wpAny _ _ (Builtin.SmallTypes.nextOf (.ref i1) >>= _) _ _ _;rcases MZ with rfl|⟨h1,rfl⟩
 · refine wpAny_bind (D1.done _ _ _ (fr_but D1 bX ap.pK NZ) fun hb e Nk he=>?_)
   obtain⟨oe,PF,O2⟩:=he;have TQ:IsZip hb z TI TO .ellipsis:=Nk _ _ ap.i1z.symm OR;have RT:e≠z:=fun x=>by subst x;rw[TQ]at PF;cases PF;simp at O2
   exact wpAny_setField_rec TQ (by simp) fun hc _ NO=>hE hc _ e (fun c o c1 _ c3 _ x=>NO.extBut _ _ c1 (Nk _ _ c3 (NZ.extBut _ _ c1 x))) ⟨oe,NO.extBut _ _ RT PF,O2⟩
 · refine wpAny_bind (D1.item k _ _ _ h1 (fr_but D1 bX ap.pK NZ) fun x hb tb px T4 Nk=>wpAny_pure ?_)
   have N':IsPair hb TO a b:=Nk.extBut _ _ ap.TOi1 (NZ.extBut _ _ ap.TOz N2);refine wpAny_bind (wpAny_seqItems N' rfl (wpAny_bind (wpAny_updateSeq_pair N' fun hc OA NO=>?_)));refine wpAny_bind (wpAny_letGo (wpAny_pure (wpAny_bind (wpAny_bind (wpAny_onRaise ?_)))));show wpAny _ _ (Builtin.SmallTypes.nextOf (.ref i2) >>= _) _ _ _;refine wpAny_bind (D2.done _ _ _ (fr_but D2 (fr_but D2 (fr_but D2 Nu ap.sD NZ) ap.zH Nk) ap.u5 NO) fun hd e OX he=>?_);obtain⟨oe,PF,O2⟩:=he;have TR:IsZip hd z TI TO .ellipsis:=OX _ _ ap.i2z.symm (NO.extBut _ _ ap.TOz.symm (Nk.extBut _ _ ap.i1z.symm OR));have RT:e≠z:=fun x=>by subst x;rw[TR]at PF;cases PF;simp at O2
   exact wpAny_setField_rec TR (by simp) fun hf _ Ta=>hE hf _ e (fun c o c1 c2 c3 c4 x=>Ta.extBut _ _ c1 (OX _ _ c4 (NO.extBut _ _ c2 (Nk.extBut _ _ c3 (NZ.extBut _ _ c1 x))))) ⟨oe,Ta.extBut _ _ RT PF,O2⟩
end
inductive Sd where
 |l (a:Addr)|t (a:Addr)|s (z:Str)
def Sd.at(K:PySem.W.Frag)(H:Hp):Sd→List V→Prop
 |.l a,xs=>bz K H a xs
 |.t a,xs=>bN K H a xs
 |.s z,xs=>xs=z.cps.toList.map fun c=>.str ⟨#[c]⟩
def Sd.val:Sd→Tok→Value
 |.l a,_=>.ref a
 |.t a,_=>.ref a
 |.s z,tk=>.str z tk
noncomputable def Sd.obj:Sd→Tok→Obj
 |.l a,_=>{cls:=.type "list_iterator",data:=.fields #[.ref a,.int 0 0]}
 |.t a,_=>{cls:=.type "tuple_iterator",data:=.fields #[.ref a,.int 0 0]}
 |.s z,tk=>{cls:=.type (if z.cps.all (· <128)then "str_ascii_iterator" else "str_iterator"),data:=.fields #[.str z tk,.int 0 0]}
def Sd.iM(it:Addr)(i:Nat)(h:Heap)(tk:Tok):Sd→Prop
 |.l a=>h.IsListIter it a i
 |.t a=>h.IsTupleIter it a i
 |.s z=>h.IsStrIter it (if z.cps.all (· <128)then "str_ascii_iterator" else "str_iterator") z tk i
section
variable{X:Cx}{pins:List (Addr×Obj)}{σ:L2.St}{H:Hp}{s:Shared}{d:Sd}{xs:List V}
theorem Sd.inj(I:Inv X pins σ H s){ys:List V}(h:d.at X.K H xs)(h':d.at X.K H ys):xs=ys:=by
 cases d with
 |l a=>exact I.vB h h'
 |t a=>exact I.vZ h h'
 |s z=>exact h.trans h'.symm
theorem Sd.draws(I:Inv X pins σ H s)(hh:A.handled=none)(h:d.at X.K H xs)(hn:H it=none)(hK:X.K.lookup it=none):
   ∃(fp:List Addr) (P:Nat→Value→Prop) (St:Nat→Heap→Prop),Draws X.prog X.w A it fp xs.length P St∧(∀i x,P i x→∃v,xs[i]? =some v∧RelV v x)∧(∀i h',St i h'→d.iM it i h' tk)∧(∀i,d.iM it i s.heap tk→St i s.heap)∧
     (∀c∈fp,c=it∨(H c≠none∨∃o,X.K.lookup c=some o)):=by
 have nl:∀a:Addr,(H a≠none∨∃o,X.K.lookup a=some o)→a≠it:=fun a h z=>by
   subst z;rcases h with h|⟨o,h⟩
   ·exact h hn
   ·rw[hK]at h;cases h
 cases d with
 | l a=>
   obtain⟨B',rv,pl,hz⟩:=I.list h
   have tr:H a≠none∨∃o,X.K.lookup a=some o:=by
     rcases h with(h|⟨o,h⟩)|⟨o,_,_,h,_⟩
     ·exact .inl (by rw[h];simp)
     ·exact .inl (by rw[h];simp)
     ·exact .inr ⟨o,h⟩
   have D:=Draws.list (prog:=X.prog) (w:=X.w) (A:=A) hh it a (nl a tr) B'.toArray;rw[List.size_toArray, ←rv.length]at D;refine⟨_,_,_,D,fun i x hx=>?_,fun i h' st=>st.1,fun i st=>⟨st,pl.isList⟩,fun c hc=>?_⟩
   · have hx:B'[i]? =some x:=by simpa using hx
     have hi:i<xs.length:=by rw[rv.length];exact(List.getElem?_eq_some_iff.mp hx).1
     obtain⟨u,hu,ru⟩:=rv.get (List.getElem?_eq_getElem hi);rw[hx]at hu;cases hu;exact⟨_,List.getElem?_eq_getElem hi,ru⟩
   · simp only[List.mem_cons,List.not_mem_nil,or_false]at hc
     rcases hc with rfl|rfl
     ·exact .inl rfl
     ·exact .inr tr
 | t a=>
   obtain⟨B',rv,pl,hz⟩:=I.tuple h
   have tr:H a≠none∨∃o,X.K.lookup a=some o:=by
     rcases h with(h|⟨o,h⟩)|⟨o,_,_,h,_⟩
     ·exact .inl (by rw[h];simp)
     ·exact .inl (by rw[h];simp)
     ·exact .inr ⟨o,h⟩
   have D:=Ic (prog:=X.prog) (w:=X.w) (A:=A) hh it a (nl a tr) B'.toArray;rw[List.size_toArray, ←rv.length]at D;refine⟨_,_,_,D,fun i x hx=>?_,fun i h' st=>st.1,fun i st=>⟨st,pl⟩,fun c hc=>?_⟩
   · have hx:B'[i]? =some x:=by simpa using hx
     have hi:i<xs.length:=by rw[rv.length];exact(List.getElem?_eq_some_iff.mp hx).1
     obtain⟨u,hu,ru⟩:=rv.get (List.getElem?_eq_getElem hi);rw[hx]at hu;cases hu;exact⟨_,List.getElem?_eq_getElem hi,ru⟩
   · simp only[List.mem_cons,List.not_mem_nil,or_false]at hc
     rcases hc with rfl|rfl
     ·exact .inl rfl
     ·exact .inr tr
 | s z=>
   have h:xs=z.cps.toList.map fun c=>.str ⟨#[c]⟩:=h;subst h
   have key:∀(i:Nat) (x:Value),(∃c u,z.cps[i]? =some c∧x=.str ⟨#[c]⟩ u)→∃v,(z.cps.toList.map fun c=>V.str ⟨#[c]⟩)[i]? =some v∧RelV v x:=by
     rintro i x ⟨c,u,hc,rfl⟩;exact⟨.str ⟨#[c]⟩,by simp[hc],⟨u,rfl⟩⟩
   cases ha:z.cps.all (· <128)with
   | true=>
     have D:=Draws.strAscii (prog:=X.prog) (w:=X.w) (A:=A) hh it z tk;refine⟨_,_,_,by simpa using D,key,fun i h' st=>?_,fun i st=>?_,fun c hc=>.inl (by simpa using hc)⟩
     · show h'.IsStrIter it (if z.cps.all (· <128)then "str_ascii_iterator" else "str_iterator") z tk i
       rw[ha];exact st
     · have st:s.heap.IsStrIter it (if z.cps.all (· <128)then "str_ascii_iterator" else "str_iterator") z tk i:=st
       rw[ha]at st;exact st
   | false=>
     have D:=Draws.strWide (prog:=X.prog) (w:=X.w) (A:=A) hh it z tk;refine⟨_,_,_,by simpa using D,key,fun i h' st=>?_,fun i st=>?_,fun c hc=>.inl (by simpa using hc)⟩
     · show h'.IsStrIter it (if z.cps.all (· <128)then "str_ascii_iterator" else "str_iterator") z tk i
       rw[ha];exact st
     · have st:s.heap.IsStrIter it (if z.cps.all (· <128)then "str_ascii_iterator" else "str_iterator") z tk i:=st
       rw[ha]at st;exact st
end
theorem Sd.p7{d:Sd}{it:Addr}{i:Nat}{h h':Heap}{t:Tok}(st:d.iM it i h t)(k:∀o,h.get? it=some o→h'.get? it=some o):d.iM it i h' t:=by
 cases d with
 |l a=>obtain⟨o,e,r⟩:=st;exact⟨o,k o e,r⟩
 |t a=>obtain⟨o,e,r⟩:=st;exact⟨o,k o e,r⟩
 |s z=>obtain⟨o,e,r⟩:=st;exact⟨o,k o e,r⟩
theorem Sd.qZ{d:Sd}{it:Addr}{i:Nat}{h:Heap}{t:Tok}(st:d.iM it i h t):∃o,h.get? it=some o∧∀v,o.data≠.cell v:=by
 cases d with
 |l a=>obtain⟨o,e,c,r⟩:=st;exact⟨o,e,fun v z=>by rw[r]at z;cases z⟩
 |t a=>obtain⟨o,e,c,r⟩:=st;exact⟨o,e,fun v z=>by rw[r]at z;cases z⟩
 |s z=>obtain⟨o,e,c,r⟩:=st;exact⟨o,e,fun v z=>by rw[r]at z;cases z⟩
noncomputable def uz(K:PySem.W.Frag)(d e:Sd):It where
 go i H:=∃xs ys,d.at K H xs∧e.at K H ys∧i<xs.length∧i<ys.length
 mC i H v H':=∃t x y,v=.ref t∧H t=none∧(∀xs,d.at K H xs→xs[i]? =some x)∧(∀ys,e.at K H ys→ys[i]? =some y)∧H'=upd H t (.tup [x,y])
 stop i H:=∃xs ys,d.at K H xs∧e.at K H ys∧(i=xs.length∨(i<xs.length∧i=ys.length))
def GS(d e:Sd)(td te:Tok)(z TI TO i1 i2:Addr)(i:Nat)(h:Heap):Prop:=
 IsZip h z TI TO .none∧IsPair h TI (.ref i1) (.ref i2)∧(∃a b,IsPair h TO a b)∧d.iM i1 i h td∧e.iM i2 i h te
theorem JH{P:Program}{w:World}{K:PySem.W.Frag}{elts:List Expr}{k:Nat}{tp:Pos}(d e:Sd)(td te:Tok)(z TI TO i1 i2:Addr)(ne:[z,TI,TO,i1,i2].Nodup)(hK:∀b∈[z,TI,TO,i1,i2],K.lookup b=none):
   Turn P w K (.Tuple elts k tp) (uz K d e) [z,TI,TO,i1,i2] z (GS d e td te z TI TO i1 i2) where
 mem:=by simp
 obj i h st b hb:=by
   obtain⟨hz,NV,⟨a,b',N2⟩,h1,h2⟩:=st;simp only[List.mem_cons,List.not_mem_nil,or_false]at hb;rcases hb with rfl|rfl|rfl|rfl|rfl
   ·exact⟨_,hz,fun v q=>by cases q⟩
   ·exact⟨_,NV,fun v q=>by cases q⟩
   ·exact⟨_,N2,fun v q=>by cases q⟩
   ·exact Sd.qZ h1
   ·exact Sd.qZ h2
 keep i h h' st kk:=by
   obtain⟨hz,NV,⟨a,b',N2⟩,h1,h2⟩:=st;exact⟨kk z (by simp) _ hz,kk TI (by simp) _ NV,⟨a,b',kk TO (by simp) _ N2⟩,Sd.p7 h1 fun o q=>kk i1 (by simp) o q,Sd.p7 h2 fun o q=>kk i2 (by simp) o q⟩
 item := by
   intro X hP hw Rz hc i pins s σ H E I hf st hg;subst hP hw Rz;obtain⟨xs,ys,ax,ay,hx,hy⟩:=hg;obtain⟨hz,NV,⟨a,b,N2⟩,h1,h2⟩:=st;have hh:X.A.in1.handled=none:=I.ok.hd hc;have un:∀b∈[z,TI,TO,i1,i2],H b=none:=fun b hb=>(hf b hb).1;obtain⟨f1,P1,S1,D1,p1,s1,O8,q1⟩:=Sd.draws (it:=i1) (tk:=td) (A:=X.A.in1) I hh ax (un i1 (by simp)) (hK i1 (by simp))
   obtain⟨f2,P2,S2,D2,p2,s2,RM,q2⟩:=Sd.draws (it:=i2) (tk:=te) (A:=X.A.in1) I hh ay (un i2 (by simp)) (hK i2 (by simp))
   have out:∀ {fp:List Addr} {it:Addr},(∀c∈fp,c=it∨(H c≠none∨∃o,X.K.lookup c=some o))→∀b∈[z,TI,TO,i1,i2],b≠it→b∉fp:=fun q b hb C' hm=>by
     rcases q b hm with h|h|⟨o,h⟩
     ·exact C' h
     ·exact h (un b hb)
     ·rw[hK b hb]at h;cases h
   simp only[List.nodup_cons,List.mem_cons,List.not_mem_nil,or_false,not_or,List.nodup_nil,and_true,not_false_eq_true]at ne;obtain⟨⟨n1,n2,n3,n4⟩,⟨n5,n6,n7⟩,⟨n8,n9⟩,PR⟩:=ne;have ap:qR z TI TO i1 i2 f1 f2:=⟨Ne.symm n1,Ne.symm n2,Ne.symm n3,Ne.symm n4,n5,n6,n7,n8,n9,PR,out q1 z (by simp) n3,out q1 TO (by simp) n8,out q1 i2 (by simp) (Ne.symm PR),out q2 z (by simp) n4,out q2 TO (by simp) n9,out q2 i1 (by simp) PR⟩
   have hT:s.TypeIs (.ref z) "zip":=⟨_,hz,rfl⟩;unfold pyNext;refine wpAny_bind (wpAny_attempt (wpAny_callSpecial?_slot (name:=Str.ofString "__next__") hT PySem.F.slot_zip_next (wpAny_call_entry PySem.F.slot_zip_next hT PySem.F.entry_zip_next (BK D1 D2 ap hz NV N2 (O8 i h1) (RM i h2) hx hy fun x y h' tk px py Uc SN bX Nu hp hk=>wpAny_pure ?_) (PySem.F.args_zip_next_1 _))));obtain⟨v1,e1,r1⟩:=p1 i x px;obtain⟨v2,e2,r2⟩:=p2 i y py;refine⟨_,rfl,wpAny_letOwnedTupleGo_zip Uc fun Nb NU L0=>?_⟩;have Oz:z<s.heap.objs.size:=Heap.lt_size hz;have Tz:s.heap.objs.size≠z:=Nat.ne_of_gt Oz;have Mn:∀c o,c≠z→c≠TO→c≠i1→c≠i2→s.heap.get? c=some o→Nb.get? c=some o:=fun c o c1 c2 c3 c4 q=>L0.extBut _ _ c1 (hk c o c1 c2 c3 c4 q);have NA:IsPair Nb s.heap.objs.size x y:=L0.extBut _ _ Tz hp;have nT:H s.heap.objs.size=none:=I.aI.fresh (Nat.le_refl _);have aX:∀c u,H c=some u→c≠z∧c≠TO∧c≠i1∧c≠i2:=fun c u q=>by refine⟨?_,?_,?_,?_⟩<;>(intro w;rw[w,un _ (by simp)]at q;cases q)
   have Ng:∀c,c∉[z,TO,i1,i2]→c≠z∧c≠TO∧c≠i1∧c≠i2:=fun c M6=>by simpa[not_or] using M6
   have u:Un (L2.cZ X.stack) [z,TO,i1,i2] H (upd H s.heap.objs.size (.tup [v1,v2])) s.heap Nb:=
     ⟨fun b o q n QW LZ=>let m:=Ng b LZ;Mn b o m.1 m.2.1 m.2.2.1 m.2.2.2 q,fun b o q n QW LZ=>let m:=Ng b LZ;⟨o.slots,Mn b o m.1 m.2.1 m.2.2.1 m.2.2.2 q⟩,fun b o q n LZ=>by rw[L2.aF (Nat.ne_of_lt (Heap.lt_size q))];exact n,
       fun b o q LZ=>let m:=Ng b LZ;⟨o,Mn b o m.1 m.2.1 m.2.2.1 m.2.2.2 q⟩,fun b zs q=>by rw[L2.aF (L2.eT q nT)];exact q,fun b o zs q=>by rw[L2.aF (L2.eT q nT)];exact q,fun b ps q=>⟨#[],by rw[L2.aF (L2.eT q nT),q];simp⟩⟩
   have aI:L2.bV X.prog X.w (upd H s.heap.objs.size (.tup [v1,v2])) Nb:=fun b ob q=>by
     by_cases hb:b=s.heap.objs.size
     · subst hb
       rw[L2.bu]at q;cases q;exact⟨show 2≤sizeLine by decide,[x,y],.cons r1 (.cons r2 .nil),⟨_,NA,rfl,_,rfl⟩⟩
     · rw[L2.aF hb]at q
       refine(I.aI b ob q).dX (fun c v N9 w=>?_) (fun c w=>by rw[L2.aF (L2.eT w nT)];exact w) fun c zs w=>by rw[L2.aF (L2.eT w nT)];exact w
       have tc:∃u,H c=some u:=by
         rcases N9 with rfl|N9
         ·exact⟨_,q⟩
         ·exact⟨_,N9⟩
       obtain⟨u',QS⟩:=tc;have m:=aX c u' QS;exact Mn c v m.1 m.2.1 m.2.2.1 m.2.2.2 w
   have I2:Inv X pins σ (upd H s.heap.objs.size (.tup [v1,v2])) {s with heap:=Nb,toks:=tk}:=I.ph (s':={s with heap:=Nb,toks:=tk}) (ch:=[z,TO,i1,i2]) rfl u aI I.bare fun b hb=>by
     have MN:b∈[z,TI,TO,i1,i2]:=by
       simp only[List.mem_cons,List.not_mem_nil,or_false]at hb ⊢;rcases hb with h|h|h|h<;>simp[h]
     obtain⟨_,a1,a2,a3,a4,a5⟩:=hf b MN;exact⟨a3,a1,a4,a5⟩
   have Wc:∀b∈[z,TI,TO,i1,i2],b≠s.heap.objs.size:=fun b hb=>by
     have:∃o,s.heap.get? b=some o:=by
       simp only[List.mem_cons,List.not_mem_nil,or_false]at hb;rcases hb with rfl|rfl|rfl|rfl|rfl
       ·exact⟨_,hz⟩
       ·exact⟨_,NV⟩
       ·exact⟨_,N2⟩
       ·exact let⟨o,q,_⟩:=Sd.qZ h1;⟨o,q⟩
       ·exact let⟨o,q,_⟩:=Sd.qZ h2;⟨o,q⟩
     obtain⟨o,q⟩:=this;exact Nat.ne_of_lt (Heap.lt_size q)
   refine⟨.ref s.heap.objs.size,_,I2,rfl,⟨_,v1,v2,rfl,nT,fun Nz LZ=>by rw[Sd.inj I LZ ax];exact e1,fun Tv Vc=>by rw[Sd.inj I Vc ay];exact e2,rfl⟩,⟨NU,?_,⟨_,_,L0.extBut _ _ (Ne.symm n2) SN⟩,Sd.p7 (s1 _ _ bX) fun o q=>L0.extBut _ _ (Ne.symm n3) q,Sd.p7 (s2 _ _ Nu) fun o q=>L0.extBut _ _ (Ne.symm n4) q⟩,fun b hb=>?_⟩
   ·exact Mn TI _ (Ne.symm n1) n5 n6 n7 NV
   · show upd H _ _ b=none
     rw[L2.aF (Wc b hb)];exact un b hb
 done := by
   intro X hP hw Rz hc i pins s σ H E I hf st hg;subst hP hw Rz;obtain⟨xs,ys,ax,ay,MZ⟩:=hg;obtain⟨hz,NV,⟨a,b,N2⟩,h1,h2⟩:=st;have hh:X.A.in1.handled=none:=I.ok.hd hc;have un:∀b∈[z,TI,TO,i1,i2],H b=none:=fun b hb=>(hf b hb).1;obtain⟨f1,P1,S1,D1,p1,s1,O8,q1⟩:=Sd.draws (it:=i1) (tk:=td) (A:=X.A.in1) I hh ax (un i1 (by simp)) (hK i1 (by simp))
   obtain⟨f2,P2,S2,D2,p2,s2,RM,q2⟩:=Sd.draws (it:=i2) (tk:=te) (A:=X.A.in1) I hh ay (un i2 (by simp)) (hK i2 (by simp))
   have out:∀ {fp:List Addr} {it:Addr},(∀c∈fp,c=it∨(H c≠none∨∃o,X.K.lookup c=some o))→∀b∈[z,TI,TO,i1,i2],b≠it→b∉fp:=fun q b hb C' hm=>by
     rcases q b hm with h|h|⟨o,h⟩
     ·exact C' h
     ·exact h (un b hb)
     ·rw[hK b hb]at h;cases h
   simp only[List.nodup_cons,List.mem_cons,List.not_mem_nil,or_false,not_or,List.nodup_nil,and_true,not_false_eq_true]at ne;obtain⟨⟨n1,n2,n3,n4⟩,⟨n5,n6,n7⟩,⟨n8,n9⟩,PR⟩:=ne;have ap:qR z TI TO i1 i2 f1 f2:=⟨Ne.symm n1,Ne.symm n2,Ne.symm n3,Ne.symm n4,n5,n6,n7,n8,n9,PR,out q1 z (by simp) n3,out q1 TO (by simp) n8,out q1 i2 (by simp) (Ne.symm PR),out q2 z (by simp) n4,out q2 TO (by simp) n9,out q2 i1 (by simp) PR⟩
   have hT:s.TypeIs (.ref z) "zip":=⟨_,hz,rfl⟩;unfold pyNext;refine wpAny_bind (wpAny_attempt (wpAny_callSpecial?_slot (name:=Str.ofString "__next__") hT PySem.F.slot_zip_next (wpAny_call_entry PySem.F.slot_zip_next hT PySem.F.entry_zip_next (Ij D1 D2 ap hz NV N2 (O8 i h1) (RM i h2) MZ fun h' tk e' hk he=>?_) (PySem.F.args_zip_next_1 _))));obtain⟨o,ho,O2⟩:=he;refine wpAny_bind (wpAny_isInstance (T:="StopIteration") (b:=true) ⟨o,ho,O2⟩ isSubtype_stop (wpAny_pure ⟨rfl,?_⟩));have Ng:∀c,c∉[z,TO,i1,i2]→c≠z∧c≠TO∧c≠i1∧c≠i2:=fun c M6=>by simpa[not_or] using M6
   have aX:∀c u,H c=some u→c≠z∧c≠TO∧c≠i1∧c≠i2:=fun c u q=>by refine⟨?_,?_,?_,?_⟩<;>(intro w;rw[w,un _ (by simp)]at q;cases q)
   have u:Un (L2.cZ X.stack) [z,TO,i1,i2] H H s.heap h':=
     ⟨fun b o q n QW LZ=>let m:=Ng b LZ;hk b o m.1 m.2.1 m.2.2.1 m.2.2.2 q,fun b o q n QW LZ=>let m:=Ng b LZ;⟨o.slots,hk b o m.1 m.2.1 m.2.2.1 m.2.2.2 q⟩,fun b o q n LZ=>n,
       fun b o q LZ=>let m:=Ng b LZ;⟨o,hk b o m.1 m.2.1 m.2.2.1 m.2.2.2 q⟩,fun b zs q=>q,fun b o zs q=>q,fun b ps q=>⟨#[],by rw[q];simp⟩⟩
   exact I.ph (s':={s with heap:=h',toks:=tk}) (ch:=[z,TO,i1,i2]) rfl u (fun b ob q=>(I.aI b ob q).dX (fun c v N9 w=>by
       have tc:∃u,H c=some u:=by
         rcases N9 with rfl|N9
         ·exact⟨_,q⟩
         ·exact⟨_,N9⟩
       obtain⟨u',QS⟩:=tc;have m:=aX c u' QS;exact hk c v m.1 m.2.1 m.2.2.1 m.2.2.2 w) (fun _ w=>w) fun _ _ w=>w) I.bare fun b hb=>by
     have MN:b∈[z,TI,TO,i1,i2]:=by
       simp only[List.mem_cons,List.not_mem_nil,or_false]at hb ⊢;rcases hb with h|h|h|h<;>simp[h]
     obtain⟨_,a1,a2,a3,a4,a5⟩:=hf b MN;exact⟨a3,a1,a4,a5⟩
 self _ _ _ _ _ st h:=wpAny_pyIter_zip st.1 h
def Sd.is(h:Heap):Sd→Prop
 |.l a=>∃xs,h.IsList a xs
 |.t a=>∃xs,h.IsTuple a xs
 |.s _=>True
theorem Sd.Gn{h:Heap}{d:Sd}(o:Obj)(x:d.is h):d.is (h.push o):=by
 cases d with
 |l a=>obtain⟨xs,ob,e,r⟩:=x;exact⟨xs,ob,Heap.get?_push_of_some _ e,r⟩
 |t a=>obtain⟨xs,ob,e,r⟩:=x;exact⟨xs,ob,Heap.get?_push_of_some _ e,r⟩
 |s z=>trivial
theorem Sd.iter{prog:Program}{w:World}{A:Around}{E:Value→Shared→Prop}{s:Shared}{d:Sd}{tk:Tok}{Q:Value→Shared→Prop}(x:d.is s.heap)(h:Q (.ref s.heap.objs.size) {s with heap:=s.heap.push (d.obj tk)}):
   wpAny (model prog w) A (pyIter (d.val tk)) Q E s:=by
 cases d with
 |l a=>obtain⟨xs,x⟩:=x;exact wpAny_pyIter_list x h
 |t a=>obtain⟨xs,x⟩:=x;exact wpAny_pyIter_tuple x h
 | s z=>
   have h:Q (.ref s.heap.objs.size) {s with heap:=s.heap.push {cls:=.type (if z.cps.all (· <128)then "str_ascii_iterator" else "str_iterator"),data:=.fields #[.str z tk,.int 0 0]} }:=h
   cases ha:z.cps.all (· <128)with
   |true=>rw[ha]at h;exact wpAny_pyIter_ascii ha h
   |false=>rw[ha]at h;exact wpAny_pyIter_wide ha h
abbrev rf(h:Heap)(d:Sd)(td:Tok):Heap:=h.push (d.obj td)
abbrev qg(h:Heap)(d e:Sd)(td te:Tok):Heap:=(rf h d td).push (e.obj te)
noncomputable abbrev pM(h:Heap)(d e:Sd)(td te:Tok):Heap:=(qg h d e td te).push {cls:=.type "tuple",data:=.seq #[.ref h.objs.size,.ref (rf h d td).objs.size]}
noncomputable abbrev qS(h:Heap)(d e:Sd)(td te:Tok):Heap:=(pM h d e td te).push {cls:=.type "tuple",data:=.seq #[.none,.none]}
noncomputable abbrev jE(h:Heap)(d e:Sd)(td te:Tok):Heap:=(qS h d e td te).push {cls:=.type "zip",data:=.fields #[.none,.bool false,.bool false,.ref (qg h d e td te).objs.size,.ref (pM h d e td te).objs.size]}
theorem Iy(d e:Sd)(td te:Tok):Meets (Builtin.«zip.__new__» ⟨[.type "zip",d.val td,e.val te],[]⟩) (fun _ R s=>d.is s.heap∧e.is s.heap∧R (.ok (.ret (.ref (qS s.heap d e td te).objs.size))) {s with heap:=jE s.heap d e td te}):=
 .of_wp fun prog w A R s h=>by
   obtain⟨hp,g,dr,tk,os⟩:=s;obtain⟨h1,h2,h⟩:=h;have MU:=sub_zip;have a1:d.is (Shared.heap ⟨hp,g,dr,tk,os⟩):=h1;have a2:e.is (Shared.heap ⟨hp.push (d.obj td),g,dr,tk,os⟩):=Sd.Gn _ h2
   wp_walk using Sd.iter a1,Sd.iter a2
   exact⟨_,rfl,h⟩
section
variable{X:Cx}{M:Md}{G H H':Hp}{F0:Gf}{F F':Addr→Prop}{σ:L2.St}{ρ:En}{pos:Pos}{pins:List (Addr×Obj)}{s:Shared}
theorem Sd.wk{d:Sd}{xs:List V}(I:Inv X pins σ H s)(h:d.at X.K H xs):d.is s.heap:=by
 cases d with
 |l a=>obtain⟨B',_,pl,_⟩:=I.list h;exact⟨_,pl.isList⟩
 |t a=>obtain⟨B',_,pl,_⟩:=I.tuple h;exact⟨_,pl⟩
 |s z=>trivial
def Gv(K:PySem.W.Frag)(ta:TA):TI:=fun σ H R=>ta σ H fun vs H1=>∃(x y:V) (d e:Sd) (xs ys:List V),vs=[x,y]∧(∀u,RelV x u→∃tk,u=d.val tk)∧(∀u,RelV y u→∃tk,u=e.val tk)∧d.at K H1 xs∧e.at K H1 ys∧R (uz K d e) H1
theorem EX:bootBuiltins "zip"=some (.type "zip"):=by decide+kernel
theorem BZ{elts:List Expr}{k:Nat}{tp:Pos}{a b:Expr}{ta:TA}{p:Pos}(hg:L2.Gl X "zip")(hm:X.mg "zip"=none)(ha:PA X [a,b] ta)(hs:starEach [a,b] X.env=(false,eval a X.env)::starEach [b] X.env)(L0:starEach [b] X.env=(false,eval b X.env)::starEach [] X.env):
   L2.PI X (.Tuple elts k tp) (.Call (.Name "zip" p) [a,b] [] pos) (Gv X.K ta):=by
 intro pins s σ H R I h;refine PyProof.Rows.Call_ (L2.lK I hg hm EX (PyProof.Rows.callWith_type1 (L2.aN (ha pos pins s σ H _ I h) fun us s1 ⟨vs,H1,I1,r1,q1⟩=>?_) hs (by rw[L0];rfl)))
 obtain⟨x,y,d,e,xs,ys,rfl,hx,hy,ax,ay,q⟩:=q1;obtain⟨u1,u2,rfl,Sb,RH⟩:=L2.vals2 r1;obtain⟨td,rfl⟩:=hx u1 Sb;obtain⟨te,rfl⟩:=hy u2 RH;refine callType_new PySem.F.called_zip (by decide) (PySem.F.typeCall_zip_2 _ _) (PySem.F.newCall_zip_2 _ _) (fun obj=>PySem.F.args_object_init_3 obj _ _) PySem.F.entry_zip_new (Iy d e td te) ⟨Sd.wk I1 ax,Sd.wk I1 ay,?_⟩
 have z1:(rf s1.heap d td).objs.size=s1.heap.objs.size+1:=Heap.size_push ..;have z2:(qg s1.heap d e td te).objs.size=s1.heap.objs.size+2:=by rw[Heap.size_push,z1]
 have z3:(pM s1.heap d e td te).objs.size=s1.heap.objs.size+3:=by rw[Heap.size_push,z2]
 have z4:(qS s1.heap d e td te).objs.size=s1.heap.objs.size+4:=by rw[Heap.size_push,z3]
 have nf:∀(d:Sd) tk,(d.obj tk).isFreed=false:=fun d tk=>by cases d<;>rfl
 have g5:(jE s1.heap d e td te).get? (qS s1.heap d e td te).objs.size=some _:=Heap.get?_push_size _ rfl;have g4:(jE s1.heap d e td te).get? (pM s1.heap d e td te).objs.size=some _:=Heap.get?_push_of_some _ (Heap.get?_push_size _ rfl);have g3:(jE s1.heap d e td te).get? (qg s1.heap d e td te).objs.size=some _:=Heap.get?_push_of_some _ (Heap.get?_push_of_some _ (Heap.get?_push_size _ rfl));have g2:(jE s1.heap d e td te).get? (rf s1.heap d td).objs.size=some (e.obj te):=Heap.get?_push_of_some _ (Heap.get?_push_of_some _ (Heap.get?_push_of_some _ (Heap.get?_push_size _ (nf e te))));have g1:(jE s1.heap d e td te).get? s1.heap.objs.size=some (d.obj td):=Heap.get?_push_of_some _ (Heap.get?_push_of_some _ (Heap.get?_push_of_some _ (Heap.get?_push_of_some _ (Heap.get?_push_size _ (nf d td)))));have old:∀c o,s1.heap.get? c=some o→(jE s1.heap d e td te).get? c=some o:=fun c o x=>Heap.get?_push_of_some _ (Heap.get?_push_of_some _ (Heap.get?_push_of_some _ (Heap.get?_push_of_some _ (Heap.get?_push_of_some _ x))));rw[z2,z3,z4]at g5;rw[z1,z2]at g3;rw[z3]at g4;rw[z1]at g2;show _∧_;rw[z4];refine⟨⟨_,g5,rfl⟩,wpAny_pyIter_zip g5 ?_⟩;have I2:Inv X pins σ H1 {s1 with heap:=jE s1.heap d e td te}:=I1.kept (t':=s1.toks) old
 have hK:∀b,s1.heap.objs.size≤b→X.K.lookup b=none:=fun b hb=>by
   cases q:X.K.lookup b with
   |none=>rfl
   |some o=>exact absurd (Nat.lt_of_lt_of_le (Heap.lt_size (I1.cE b o q)) hb) (Nat.lt_irrefl _)
 have QX:∀ {d:Sd} {it:Addr} {tk:Tok} {h:Heap},h.get? it=some (d.obj tk)→d.iM it 0 h tk:=fun {d it tk h} q=>by
   cases d with
   |l a=>exact⟨_,q,rfl,rfl⟩
   |t a=>exact⟨_,q,rfl,rfl⟩
   |s z=>exact⟨_,q,rfl,rfl⟩
 refine⟨s1.heap.objs.size+4,[s1.heap.objs.size+4,s1.heap.objs.size+2,s1.heap.objs.size+3,s1.heap.objs.size,s1.heap.objs.size+1],_,_,H1,rfl,I2,JH d e td te _ _ _ _ _ ?_ ?_,⟨g5,g3,⟨_,_,g4⟩,QX g1,QX g2⟩,fun b hb=>?_,q⟩
 ·simp
 · intro b hb
   refine hK b ?_;simp only[List.mem_cons,List.not_mem_nil,or_false]at hb;rcases hb with rfl|rfl|rfl|rfl|rfl<;>omega
 · have MN:s1.heap.objs.size≤b:=by
     simp only[List.mem_cons,List.not_mem_nil,or_false]at hb;rcases hb with rfl|rfl|rfl|rfl|rfl<;>omega
   exact I1.i9 MN (I1.aI.fresh MN)
theorem yM(e:items d=.ok ds)(r:Rep M H F d x):∃(q:Sd) (xs:List V),(∀u,RelV x u→∃tk,u=q.val tk)∧ag M H F ds xs∧∀H' F',Mv F H F' H'→q.at M.K H' xs:=by
 unfold items at e;split at e
 · cases e
   simp only[Rep]at r;obtain⟨a,xs,rfl,h,rs⟩:=r;exact⟨.l a,xs,fun u ru=>⟨0,ru⟩,rs,fun H' F' m=>(h.mv m).sq⟩
 · cases e
   simp only[Rep]at r;obtain⟨a,xs,rfl,h,rs⟩:=r;exact⟨.t a,xs,fun u ru=>⟨0,ru⟩,rs,fun H' F' m=>(h.mv m).sq⟩
 · rename_i z
   cases e;cases fY r;refine⟨.s z,z.cps.toList.map fun c=>.str ⟨#[c]⟩,fun u ⟨tk,ru⟩=>⟨tk,ru⟩,?_,fun _ _ _=>rfl⟩;generalize z.cps.toList=l
   induction l with
   |nil=>exact ag.nil
   |cons c l ih=>exact ag.cons mE ih
 ·cases e
theorem zp:∀ {xs ys:List D},(g9 xs ys).length=min xs.length ys.length
 |[],_=>by simp
 |_::_,[]=>by simp
 |x::xs,y::ys=>by simp[zp (xs:=xs) (ys:=ys)]
theorem wF:∀ {xs ys:List D} {i:Nat} {d:D},(g9 xs ys)[i]? =some d→∃x y,d=.tup [x,y]∧xs[i]? =some x∧ys[i]? =some y
 |[],_,_,_,h=>by simp at h
 |_::_,[],_,_,h=>by simp at h
 |x::xs,y::ys,0,d,h=>by simp at h;exact⟨x,y,h.symm,rfl,rfl⟩
 | x::xs,y::ys,i+1,d,h=>by
   have h:(g9 xs ys)[i]? =some d:=by simpa using h
   obtain⟨a,b,h1,h2,h3⟩:=wF h;exact⟨a,b,h1,by simpa using h2,by simpa using h3⟩
theorem E9(h1:∀H' F',Mv F H F' H'→q.at M.K H' xs)(h2:∀H' F',Mv F H F' H'→r.at M.K H' ys)(rs:ag M H F ds xs)(ss:ag M H F es ys)
   (V5:∀H' F' zs,Mv F H F' H'→q.at M.K H' zs→True):Gives M (uz M.K q r) H F (g9 ds es):=by
 intro H' F' mv tr;have a1:=h1 H' F' mv;have a2:=h2 H' F' mv;have OD:=rs.mv mv;have US:=ss.mv mv;refine⟨fun i d hd=>?_,?_⟩
 · obtain⟨x,y,rfl,hx,hy⟩:=wF hd
   obtain⟨vx,ex,rx⟩:=OD.get hx;obtain⟨vy,ey,ry⟩:=US.get hy;refine⟨⟨xs,ys,a1,a2,(List.getElem?_eq_some_iff.mp ex).1,(List.getElem?_eq_some_iff.mp ey).1⟩,fun v H2 hv=>?_⟩;obtain⟨t,wx,wy,rfl,ht,g1,g2,rfl⟩:=hv;have q1:=g1 xs a1;have q2:=g2 ys a2;rw[ex]at q1;rw[ey]at q2;cases q1;cases q2;exact⟨aq.cm ht _,jM tr ht (ag.cons rx (ag.cons ry ag.nil))⟩
 · refine⟨xs,ys,a1,a2,?_⟩
   rw[zp,rs.length,ss.length];omega
theorem z6(hg:L2.Gl X "zip")(hm:X.mg "zip"=none)(ha:JE X a fa)(hb:JE X b fb)(hs:starEach [a,b] X.env=(false,eval a X.env)::starEach [b] X.env)(L0:starEach [b] X.env=(false,eval b X.env)::starEach [] X.env):
   JI X (.Tuple elts k tp) (.Call (.Name "zip" p) [a,b] [] pos) (m4 fa fb):=
 j6 (BZ hg hm (fJ ha (fJ hb gB L0) hs) hs L0) fun σ H Q ⟨ρ,F,ds,r,e,q⟩=>by
   obtain⟨d1,VU,e⟩:=az.mp e;obtain⟨d2,SD,e⟩:=az.mp e;obtain⟨xs,Vy,e⟩:=az.mp e;obtain⟨ys,Vs,e⟩:=az.mp e;cases e;refine⟨ρ,F,[d1,d2],r,by show(fa ρ).bind _=_;rw[VU];show((fb ρ).bind _).bind _=_;rw[SD];rfl,fun vs H1 s1 rv=>?_⟩
   obtain⟨x,y,rfl,rx,ry⟩:=rv.two;obtain⟨Wl,vx,u1,V',OM⟩:=yM Vy rx;obtain⟨R3,vy,u2,Wn,at2⟩:=yM Vs ry;exact⟨x,y,Wl,R3,vx,vy,rfl,u1,u2,OM H1 F Mv.refl,at2 H1 F Mv.refl,q _ H1 s1 (E9 (M:=aA X) OM at2 V' Wn fun _ _ _ _ _=>trivial)⟩
end
def xu:D→Value→Prop
 |.aH,u=>u=.none
 |.bl b,u=>u=.bool b
 |.int i,u=>∃t,u=.int i t
 |.str x,u=>∃t,u=.str x t
 |_,_=>False
theorem Gz(h:xu d u):∃v,RelV v u∧∀(M:Md) H F,Rep M H F d v:=by
 cases d with
 |aH=>exact⟨.aH,h,fun _ _ _=>tG⟩
 |bl b=>exact⟨.bl b,h,fun _ _ _=>eZ⟩
 |int i=>exact⟨.int i,h,fun _ _ _=>fU⟩
 |str x=>exact⟨.str x,h,fun _ _ _=>mE⟩
 |_=>exact h.elim
section
variable{P:Program}{w:World}{K:PySem.W.Frag}{h:Heap}{mg:Str→Option Value}{x:Str}
theorem nh(X:K.In h)(G:h.Ns mainGlobals mg)(e1:PySem.W.nsIn K mainGlobals x=some (some u))(hm:xu d u):eP P w K mg x d:=by
 obtain⟨v,rv,hv⟩:=Gz hm;exact⟨v,u,PySem.W.mg_of X G e1,rv,fun H F=>hv _ H F⟩
end
end PL
namespace PL
open PySem
end PL
set_option maxHeartbeats 1000000
namespace PL
open PySem PySem.Spec
open L2 (V Hp HO Cx PE PT PW PA PS cq PG d7 VK TE TT TA TS TI TG Inv RelV Vals Rd bz bN upd aq Key XK Ends bh gR b5 R2 EP It Turn dj Un)
section
variable{X:Cx}{M:Md}{G H H':Hp}{F0:Gf}{F F':Addr→Prop}{σ:L2.St}{ρ:En}{pos:Pos}{pins:List (Addr×Obj)}{s:Shared}
theorem bj.fresh{p:Addr}{o:HO}(r:bj M H F σ ρ)(hp:H p=none):bj M (upd H p o) (fun b=>F b∨b=p) σ ρ:=by
 have ne:∀b u,H b=some u→b≠p:=fun b u e z=>by subst z;rw[hp]at e;cases e
 have mv:Mv F H (fun b=>F b∨b=p) (upd H p o):=fun b u n e=>⟨fun h=>h.elim n (ne b u e),by rw[L2.aF (ne b u e)];exact e⟩
 have sm:aq H (upd H p o):=aq.cm hp _
 exact⟨r.len,fun b f=>by
   by_cases hb:b=p
   ·subst hb;exact⟨_,L2.bu⟩
   ·obtain⟨u,hu⟩:=r.aX b (f.resolve_right hb);exact⟨u,sm _ _ hu⟩,
   fun i d e=>let⟨v,h1,h2⟩:=r.sh i d e;⟨v,h1,h2.mv mv⟩,
   fun i ds e=>let⟨a,xs,e1,f,e2,q⟩:=r.ol i ds e;⟨a,xs,e1,.inl f,sm _ _ e2,q.mv mv⟩,
   fun i ks ds e=>let⟨a,xs,e1,f,e2,l,q⟩:=r.od i ks ds e;⟨a,xs,e1,.inl f,sm _ _ e2,l,q.mv mv⟩,
   r.cn,r.on.mv mv (fun j Lw e=>⟨e,rfl⟩) (fun j Lw b u e hb f hu=>⟨.inl f,sm _ _ hu⟩) fun j Lw b e hb k ok=>(r.on j Lw e).2.1 b hb k ok⟩
def JP(X:Cx)(pos:Pos)(keys:List (Option Expr))(values:List Expr)(ks:List Ky)(fs:List Ex):Prop:=
 ∃Mg,L2.lM X pos keys values Mg∧∀(F:Addr→Prop) (σ:L2.St) (H:Hp) (ρ:En) (ds:List D) (Q:List (V×V)→Hp→Prop),bj (aA X) H F σ ρ→eList fs ρ=.ok ds→
   (∀xs H',aq H H'→ag (aA X) H' F ds xs→Q ((ks.zip xs).map fun kv=>(L2.kV kv.1,kv.2)) H')→L2.nP Mg σ H Q
theorem Af:JP X pos [] [] [] []:=⟨[],L2.um,fun F σ H ρ ds Q r e q=>by cases e;exact q [] H (aq.refl H) ag.nil⟩
theorem IA(hk:JE X k (eC (.str z)))(hv:JE X v f)(hr:JP X pos keys values ks fs):JP X pos (some k::keys) (v::values) (.inr z::ks) (f::fs):=by
 obtain⟨Mg,h,g⟩:=hr;refine⟨_,L2.qU hk hv h,fun F σ H ρ ds Q r e q=>?_⟩;obtain⟨a,ea,e⟩:=az.mp e;obtain⟨as,Qh,e⟩:=az.mp e;cases e;refine⟨ρ,F,.str z,r,rfl,fun x H1 s1 rx=>⟨ρ,F,a,r.same s1,ea,fun y H2 s2 ry=>g F σ H2 ρ as _ ((r.same s1).same s2) Qh fun xs H3 s3 rs=>?_⟩⟩;cases fY rx;exact q (y::xs) H3 ((s1.trans s2).trans s3) (ag.cons (ry.mv (.same s3)) rs)
theorem Cr{kvs:List (Key×V)}{k:Key}{v:V}(h:k∉kvs.map (·.1)):L2.putK kvs k v=kvs++[(k,v)]:=by
 unfold L2.putK;rw[if_neg];intro h1;rw[List.any_eq_true]at h1;obtain⟨kv,hm,hk⟩:=h1;exact h (List.mem_map.mpr ⟨kv,hm,by simpa using hk⟩)
theorem pG:∀ {more kvs:List (Key×V)},(kvs.map (·.1)++more.map (·.1)).Nodup→L2.dv kvs more=kvs++more
 |[],kvs,_=>by show kvs=_;rw[List.append_nil]
 | p::r,kvs,h=>by
   show L2.dv (L2.putK kvs p.1 p.2) r=_
   have hp:p.1∉kvs.map (·.1):=fun hm=>by
     rw[List.map_cons,List.nodup_append]at h;exact h.2.2 _ hm _ List.mem_cons_self rfl
   rw[Cr hp,pG (by simpa using h),List.append_assoc]
   rfl
theorem Hb(h:JP X pos keys values ks fs)(MJ:keys.all (·.isSome)=true)(hl:keys.length=values.length)(h0:keys≠[])(Nr:keys.length≤15)(hk:ks.length=fs.length)(Qo:ks.length≤15)(hn:ks.Nodup):JE X (.Dict keys values pos) (cz ks fs):=by
 obtain⟨Mg,hp,g⟩:=h;refine pB (L2.sL hp MJ hl h0 Nr) fun σ H Q ⟨ρ,F,d,hr,e,q⟩=>?_;obtain⟨as,ea,e⟩:=az.mp e;cases e;intro p hp;have P5:=hr.fresh (o:=.dK []) hp;refine g _ σ _ ρ as _ P5 ea fun xs H2 s2 rs=>?_;have SF:ks.length=xs.length:=by rw[←rs.length,jz ea,hk]
 have e2:H2 p=some (.dK []):=s2 _ _ L2.bu
 have hm:L2.dv [] (ks.zip xs)=ks.zip xs:=by
   rw[pG (by simp only[List.map_nil,List.nil_append];rw[show(ks.zip xs).map (·.1)=ks from by rw[List.map_fst_zip];omega];exact hn)]
   rfl
 refine⟨e2,ks.zip xs,rfl,by rw[List.length_zip];omega,?_⟩
 rw[hm];refine⟨p,ks.zip xs,rfl,L2.bu,fun ob=>?_⟩;rw[L2.qM]
 have sm:aq H (upd H2 p (.frz ob (.dK (ks.zip xs)))):=fun b u e=>by
   have ne:b≠p:=fun z=>by subst z;rw[hp]at e;cases e
   rw[L2.aF ne];exact s2 _ _ (by rw[L2.aF ne];exact e)
 have nF:¬F p:=lH hr.aX hp;have mv:Mv (fun b=>F b∨b=p) H2 F (upd H2 p (.frz ob (.dK (ks.zip xs)))):=fun b u n e=>⟨fun h=>n (.inl h),by rw[L2.aF (fun z=>n (.inr z))];exact e⟩
 refine q _ _ sm ?_;simp only[Rep];exact⟨p,xs,rfl,.inl ⟨nF,ob,L2.bu⟩,SF,rs.mv mv⟩
end
section
variable{X:Cx}{M:Md}{G H H':Hp}{F0:Gf}{F F':Addr→Prop}{σ:L2.St}{ρ:En}{pos:Pos}{pins:List (Addr×Obj)}{s:Shared}
end
section
variable{X:Cx}{M:Md}{G H H':Hp}{F0:Gf}{F F':Addr→Prop}{σ:L2.St}{ρ:En}{pos:Pos}{pins:List (Addr×Obj)}{s:Shared}
end
section
variable{X:Cx}{M:Md}{G H H':Hp}{F0:Gf}{F F':Addr→Prop}{σ:L2.St}{ρ:En}{pos:Pos}{pins:List (Addr×Obj)}{s:Shared}
end
def rZ(i:Int):Bool:=decide (i.natAbs.log2<100000)
@[simp] noncomputable def KU:D→D→R D
 |.int i,.int j=>if(rZ i&&rZ j)=true then .ok (.int (i*j))else .bad
 |_,_=>.bad
@[simp] noncomputable def KG:D→D→R D
 |.int i,.int j=>if 0<j∧j.natAbs.log2<9000 then .ok (.int (i / j))else .bad
 |_,_=>.bad
@[simp] noncomputable def Kb:D→D→R D
 |.int i,.int j=>if 0≤j∧j≤1000∧rZ i=true then .ok (.int (i ^ j.toNat))else .bad
 |_,_=>.bad
@[simp] def K6:D→D→R D
 |.int i,.int j=>.ok (.int (if j>i then j else i))
 |_,_=>.bad
noncomputable def frz(i:Nat)(ρ:En):En:=match ρ[i]? with
 |some (.ol xs)=>ρ.set i (.sh (.lst xs))
 |_=>ρ
mutual
noncomputable def cf:D→Bool
 |.aH=>true
 |.bl _=>true
 |.int _=>true
 |.str _=>true
 |.tup xs=>er xs
 |_=>false
noncomputable def er:List D→Bool
 |[]=>true
 |x::xs=>cf x&&er xs
end
@[simp] noncomputable def Kf(i:Nat)(f:Ex):Ex:=fun ρ=>(f (frz i ρ)).bind fun d=>if cf d=true then .ok d else .bad
@[simp] noncomputable def Ka(i:Nat)(f:Ex):Ex:=fun ρ=>(f (frz i ρ)).bind fun d=>match d with
 |.lst ds=>if er ds=true then .ok (.lst ds)else .bad
 |_=>.bad
@[simp] def Le(i:Nat)(f:cg):cg:=fun ρ=>f (frz i ρ)
@[simp] noncomputable def o7(i:Nat)(e:Ex):Sm:=fun ρ=>(e ρ).bind fun d=>match d,ρ[i]? with
 |.lst ys,some (.ol xs)=>if xs.length+ys.length≤eO then .ok (.next (ρ.set i (.ol (xs++ys))))else .bad
 |_,_=>.bad
section
variable{X:Cx}{M:Md}{G H H':Hp}{F0:Gf}{F F':Addr→Prop}{σ:L2.St}{ρ:En}{pos:Pos}{pins:List (Addr×Obj)}{s:Shared}
theorem ag.xo(h:ag M H F ds xs):∀k:Nat,ag M H F (List.replicate k ds).flatten (List.replicate k xs).flatten
 |0=>by simp[ag]
 | k+1=>by
   rw[List.replicate_succ,List.replicate_succ,List.flatten_cons,List.flatten_cons];exact h.append (ag.xo h k)
theorem bj.frz(r:bj M H F σ ρ)(i:Nat):∃F',(∀b,F b→F' b∨∃u,H b=some u∧((∃xs,u=.lst xs)∨∃kvs,u=.dK kvs))∧bj M H F' σ (frz i ρ):=by
 by_cases ol:∃ds,ρ[i]? =some (.ol ds)
 · obtain⟨ds,q0⟩:=ol
   have oi:bp ρ i:=.inl ⟨_,q0⟩;obtain⟨a,xs,ei,fa,e2,rs⟩:=r.ol i ds q0;have mv:Mv F H (fun b=>F b∧b≠a) H:=fun b v n e=>⟨fun h=>n h.1,e⟩
   have PN:Rep M H (fun b=>F b∧b≠a) (.lst ds) (.ref a):=by
     simp only[Rep];exact⟨a,xs,rfl,.inl ⟨fun h=>h.2 rfl,.inl e2⟩,rs.mv mv⟩
   refine⟨fun b=>F b∧b≠a,fun b h=>?_,?_⟩
   · by_cases hb:b=a
     · subst hb
       exact .inr ⟨_,e2,.inl ⟨_,rfl⟩⟩
     ·exact .inl ⟨h,hb⟩
   unfold PL.frz;rw[q0];refine⟨by simp[r.len],fun b h=>r.aX b h.1,?_,?_,?_,?_,zg r.on oi ei mv (fun b f n=>⟨f,n⟩)⟩
   · intro j e q
     rcases get_set q with⟨rfl,hx,hl⟩|⟨C',q⟩
     · cases hx
       exact⟨_,ei,PN⟩
     · obtain⟨w,e1,g⟩:=r.sh j e q
       exact⟨w,e1,g.mv mv⟩
   · intro j e q
     rcases get_set q with⟨rfl,x,hl⟩|⟨C',q⟩
     ·cases x
     · obtain⟨b,xs,e1,f,e3,g⟩:=r.ol j e q
       exact⟨b,xs,e1,⟨f,fun z=>by subst z;exact C' (r.cn i j _ oi (.inl ⟨_,q⟩) ei e1)⟩,e3,g.mv mv⟩
   · intro j k e q
     rcases get_set q with⟨rfl,x,hl⟩|⟨C',q⟩
     ·cases x
     · obtain⟨b,xs,e1,f,e3,l,g⟩:=r.od j k e q
       exact⟨b,xs,e1,⟨f,fun z=>by subst z;exact C' (r.cn i j _ oi (.inr ⟨_,_,q⟩) ei e1)⟩,e3,l,g.mv mv⟩
   · intro j k b oj ok ej ek
     exact r.cn j k b oj.fg.2 ok.fg.2 ej ek
 · refine⟨F,fun _ h=>.inl h,?_⟩
   unfold PL.frz;cases q:ρ[i]? with
   |none=>exact r
   | some s=>
     cases s with
     |ol xs=>exact absurd ⟨_,q⟩ ol
     |_=>exact r
def Out(F F':Addr→Prop)(H:Hp):Prop:=∀b,F b→F' b∨∃u,H b=some u∧((∃xs,u=.lst xs)∨∃kvs,u=.dK kvs)
theorem Out.tup(o:Out F F' H)(h:dF M H F' a xs):dF M H F a xs:=by
 rcases h with⟨n,h⟩|h
 · refine .inl ⟨fun f=>?_,h⟩
   rcases o a f with f'|⟨u,hu,z⟩
   ·exact n f'
   · rcases h with h|⟨ob,h⟩
     ·rw[hu]at h;cases h;rcases z with⟨_,z⟩|⟨_,z⟩<;>cases z
     ·rw[hu]at h;cases h;rcases z with⟨_,z⟩|⟨_,z⟩<;>cases z
 ·exact .inr h
mutual
theorem Rep.cf(o:Out F F' H):∀ {d:D} {v:V},cf d=true→Rep M H F' d v→Rep M H F d v
 |.aH,_,_,h=>by simp only[Rep]at h ⊢;exact h
 |.bl _,_,_,h=>by simp only[Rep]at h ⊢;exact h
 |.int _,_,_,h=>by simp only[Rep]at h ⊢;exact h
 |.str _,_,_,h=>by simp only[Rep]at h ⊢;exact h
 | .tup ds,_,n,h=>by
   simp only[Rep]at h ⊢;obtain⟨a,xs,e,t,r⟩:=h;exact⟨a,xs,e,o.tup t,ag.cf o (by unfold PL.cf at n;exact n) r⟩
 |.lst _,_,n,_=>by unfold PL.cf at n;cases n
 |.aw _ _,_,n,_=>by unfold PL.cf at n;cases n
 |.cD _ _ _,_,n,_=>by unfold PL.cf at n;cases n
theorem ag.cf(o:Out F F' H):∀ {ds:List D} {xs:List V},er ds=true→ag M H F' ds xs→ag M H F ds xs
 |[],_,_,h=>by simp only[ag]at h ⊢;exact h
 | d::ds,_,n,h=>by
   unfold er at n;rw[Bool.and_eq_true]at n;simp only[ag]at h ⊢;obtain⟨x,r,e,h1,h2⟩:=h;exact⟨x,r,e,Rep.cf o n.1 h1,ag.cf o n.2 h2⟩
end
theorem Out.same(o:Out F F' H)(s:aq H H'):Out F F' H':=fun b f=>(o b f).imp (fun h=>h) fun⟨u,hu,z⟩=>⟨u,s _ _ hu,z⟩
theorem Jh(i:Nat)(he:JF X e f)(hN:X.N[i]? =some x:=by rfl)(hv:L2.cw X.env.scope x:=by first|exact Or.inl rfl|exact Or.inr (Or.inl rfl)|exact Or.inr (Or.inr rfl))(hd:(x==("__debug__":Str))=false:=by decide)
   (LH:(x==("__classdict__":Str))=false:=by decide) (Ll:attributeBase (.Name x p2) "extend" X.env (eval (.Name x p2) X.env)=eval (.Name x p2) X.env:=by rfl)
   (L':((backTo j' (starEach [e] X.env)).all (fun x=> !x.1)&&(backToKw j' (keywordEach [] X.env)).all (fun x=>x.1.isSome)
     &&decide (([e]:List Expr).length+([]:List Keyword).length+(if([]:List Keyword).isEmpty then 0 else 1)<30))=true:=by rfl)
   (Lm:(apos.endLine==j'.line)=true:=by rfl) (hs:starEach [e] X.env=(false,eval e X.env)::starEach [] X.env:=by rfl)
   (Mq:swapsWith (.Call (.Attribute (.Name x p2) "extend" apos) [e] [] j') none pos.line X.env=pure false:=by rfl):
   JS X (.Expr (.Call (.Attribute (.Name x p2) "extend" apos) [e] [] j') pos) (o7 i f):=fun F0=>
 cJ (L2.jF (L2.rm PySem.F.plainAttrs_list PySem.F.slot_list_extend PySem.F.type_list_extend L2.Hx (L2.pv i hN hv hd LH) (L2.gJ he L2.kb hs) Ll L' Lm hs) Mq) fun D σ H ⟨ρ,F,fl,r,e,q⟩=>by
   obtain⟨d,ed,e⟩:=az.mp e;split at e
   · rename_i ds xs q1
     split at e
     · rename_i L8
       cases e;have oi:bp ρ i:=.inl ⟨_,q1⟩;obtain⟨a,ys,ea,fa,ha,rs⟩:=r.rs.ol i _ q1;refine⟨_,ea,.inl ⟨rfl,ys,bz.of ha⟩,ρ,F,ds,r.rs,ed,fun p H1 zs s1 hp rz=>?_⟩;have s2:aq H1 (upd H1 p (.lst zs)):=aq.cm hp _;have r1:=(r.same s1).same s2;have Px:=s2 _ _ (s1 _ _ ha);refine⟨a,p,ys,zs,rfl,rfl,Px,L2.bu,by rw[←rs.length, ←rz.length];exact L8,?_⟩
       obtain⟨mv,r'⟩:=r1.chg (s:=.ol (xs++ds)) oi ea (.inl ⟨_,ys++zs,rfl,rfl,(rs.mv (.same (s1.trans s2))).append (rz.mv (.same s2))⟩);exact q _ _ _ (Mv.trans (.same (s1.trans s2)) mv) r'
     ·cases e
   ·cases e
end
section
variable{X:Cx}{M:Md}{G H H':Hp}{F0:Gf}{F F':Addr→Prop}{σ:L2.St}{ρ:En}{pos:Pos}{pins:List (Addr×Obj)}{s:Shared}
end
noncomputable def intsOf:List D→Option (List Int)
 |[]=>some []
 |.int i::r=>(intsOf r).map (i:: ·)
 |_=>none
@[simp] noncomputable def Ke:D→R D
 | .lst xs=>match intsOf xs with
   |some ns=>.ok (.int ns.sum)
   |none=>.bad
 | .tup xs=>match intsOf xs with
   |some ns=>.ok (.int ns.sum)
   |none=>.bad
 |_=>.bad
noncomputable def wW:List D→Option (List Bool)
 |[]=>some []
 |.bl i::r=>(wW r).map (i:: ·)
 |_=>none
@[simp] noncomputable def Kk:D→R D
 | .lst xs=>match wW xs with
   |some ns=>.ok (.bl (ns.any id))
   |none=>.bad
 |_=>.bad
noncomputable def unlike(ns:List Int):Nat:=(PyProof.Rows.firstMet (fun i=>ns.getD i 0) ns.length).length
@[simp] noncomputable def Kr:D→R D
 | .lst xs=>match intsOf xs with
   |some ns=>if ns.length≤4000 then .ok (.int (unlike ns))else .bad
   |none=>.bad
 |_=>.bad
@[simp] noncomputable def t5:D→D→R D
 |.tup x,.int j=>if 1<j∧j<1000∧x.length≤1000∧x.isEmpty=false then .ok (.tup (List.replicate j.toNat x).flatten)else .bad
 |_,_=>.bad
@[simp] noncomputable def KR:D→D→R D
 |.int i,.int j=>if inR i=true∧inR j=true∧j - i≤16777216 then .ok (.lst (dG i j))else .bad
 |_,_=>.bad
section
variable{X:Cx}{M:Md}{G H H':Hp}{F0:Gf}{F F':Addr→Prop}{σ:L2.St}{ρ:En}{pos:Pos}{pins:List (Addr×Obj)}{s:Shared}
end
section
variable{X:Cx}{M:Md}{G H H':Hp}{F0:Gf}{F F':Addr→Prop}{σ:L2.St}{ρ:En}{pos:Pos}{pins:List (Addr×Obj)}{s:Shared}
theorem ag.erase:∀ {ds:List D} {xs:List V} (k:Nat),ag M H F ds xs→ag M H F (ds.eraseIdx k) (xs.eraseIdx k)
 |[],_,k,h=>by simp only[ag]at h;subst h;exact ag.nil
 | d::ds,_,0,h=>by
   simp only[ag]at h;obtain⟨y,r,rfl,_,h2⟩:=h;exact h2
 | d::ds,_,k+1,h=>by
   simp only[ag]at h;obtain⟨y,r,rfl,h1,h2⟩:=h;exact ag.cons h1 (ag.erase k h2)
end
section
variable{prog:Program}{w:World}{A:Around}{E:Value→Shared→Prop}{s:Shared}{e it:Addr}{fp:List Addr}{n i:Nat}{c:Int}{P:Nat→Value→Prop}{St:Nat→Heap→Prop}{old:Value}
end
def qW(c0:Int)(d:Sd)(td:Tok)(e it:Addr)(i:Nat)(h:Heap):Prop:=(∃old,IsEnum h e it (c0+(i:Int)) old)∧d.iM it i h td
section
variable{X:Cx}{M:Md}{G H H':Hp}{F0:Gf}{F F':Addr→Prop}{σ:L2.St}{ρ:En}{pos:Pos}{pins:List (Addr×Obj)}{s:Shared}
def vR:Int→List D→List D
 |_,[]=>[]
 |k,x::xs=>.tup [.int k,x]::vR (k+1) xs
@[simp] noncomputable def Ks(c:Int)(a:Ex):cI:=fun ρ=>(a ρ).bind fun x=>(items x).bind fun xs=>.ok (vR c xs)
end
section
variable{prog:Program}{w:World}{A:Around}{E:Value→Shared→Prop}{s:Shared}
end
section
variable{X:Cx}{M:Md}{G H H':Hp}{F0:Gf}{F F':Addr→Prop}{σ:L2.St}{ρ:En}{pos:Pos}{pins:List (Addr×Obj)}{s:Shared}
noncomputable def yc(M:Md):R2:=fun x y H Q=>∃l k xs,x=.ref l∧y=.int k∧bN M.K H l xs∧1<k∧k<1000∧xs.length≤1000∧xs≠[]∧∀p,H p=none→Q (.ref p) (upd H p (.tup (List.replicate k.toNat xs).flatten))
theorem EY:fillsNumberSlot (.type "tuple") "mul"=pure false:=fillsNumberSlot_seq (id:="tuple.__mul__") (r:=some (.builtin "tuple.__rmul__")) PySem.F.slot_tuple_mul.lookup (by decide+kernel) PySem.F.slot_tuple_rmul.lookup (by decide+kernel)
theorem Gs:seqRepeat? (.type "tuple")=pure (some (.builtin "tuple.__mul__")):=by
 unfold seqRepeat?;rw[seqSlot_of (T:="tuple") (name:="__mul__") (id:="tuple.__mul__") PySem.F.slot_tuple_mul.lookup (by decide+kernel),seqSlot_of (T:="tuple") (name:="__rmul__") (id:="tuple.__rmul__") PySem.F.slot_tuple_rmul.lookup (by decide+kernel)];rfl
theorem IS(a:Int)(t:Tok)(l:Addr)(B':Array Value)(n:Nat)(dc:Option Addr)(sl:Array (Option Value)):
   Meets (Builtin.«int.__rmul__» ⟨[.int a t,.ref l],[]⟩) (fun _ R s=>s.heap.get? l=some {cls:=.type "tuple",dict:=dc,data:=.seq B' n,slots:=sl}∧R (.ok (.ret Value.notImplemented)) s):=
 .of_wp fun prog w A R s h=>by obtain⟨hp,g,d,tk,os⟩:=s;obtain⟨hl,h⟩:=h;wp_walk;exact⟨_,rfl,h⟩
theorem Hw(k:Int)(t:Tok)(l:Addr)(B':Array Value)(n:Nat)(dc:Option Addr)(sl:Array (Option Value))(h1:1<k)(h2:k<1000)(h3:B'.size≤1000)(h4:B'.isEmpty=false):
   Meets (Builtin.«tuple.__mul__» ⟨[.ref l,.int k t],[]⟩) (fun _ R s=>s.heap.get? l=some {cls:=.type "tuple",dict:=dc,data:=.seq B' n,slots:=sl}∧
     R (.ok (.ret (.ref s.heap.objs.size))) {s with heap:=s.heap.push {cls:=.type "tuple",data:=.seq ((List.replicate k.toNat B').foldl (· ++ ·) #[])} }):=
 .of_wp fun prog w A R s h=>by
   obtain⟨hp,g,d,tk,os⟩:=s;obtain⟨hl,h⟩:=h;have c1:(decide (k< -(2 ^ 63))||decide (k≥2 ^ 63))=false:=by rw[decide_eq_false (by omega),decide_eq_false (by omega)];rfl
   have c2:(B'.isEmpty||k==1)=false:=by rw[h4];simp;omega
   have c3:(decide (k≤0)||B'.isEmpty)=false:=by rw[h4,decide_eq_false (by omega)];rfl
   have c4:¬((B'.size:Int)*k>(2 ^ 63 - 1) / 8):=by
     have:(B'.size:Int)*k≤1000*1000:=Int.mul_le_mul (by omega) (by omega) (by omega) (by omega)
     have e:((2:Int) ^ 63 - 1) / 8=1152921504606846975:=by decide
     rw[e];omega
   have c5:Builtin.Tuple.tupleTooMany ((B'.size:Int)*k)=false:=by
     have:(B'.size:Int)*k≤1000*1000:=Int.mul_le_mul (by omega) (by omega) (by omega) (by omega)
     unfold Builtin.Tuple.tupleTooMany;have e:(sizeLine:Int)=16777216:=by rw[sizeLine_eq];rfl
     rw[e];exact decide_eq_false (by omega)
   have c6:((List.replicate k.toNat B').foldl (· ++ ·) #[]).size≤sizeLine:=by
     have e:(List.replicate k.toNat B').foldl (· ++ ·) #[]=(List.replicate k.toNat B'.toList).flatten.toArray:=by
       have:=PyProof.Rows.listMul_foldl_if B' k.toNat;rw[h4]at this;simpa using this
     rw[e,List.size_toArray,L2.len_rep,sizeLine_eq,Array.length_toList];have:k.toNat*B'.size≤1000*1000:=Nat.mul_le_mul (by omega) h3
     omega
   wp_walk
   rw[if_neg (by rw[c1];decide)]
   wp_walk
   rw[if_neg (by rw[c2];decide)]
   dsimp only;rw[if_neg (by rw[c3];decide),if_neg c4,if_neg (by rw[c5];decide)]
   wp_walk
   exact⟨_,rfl,h⟩
theorem Ey:bh X (binaryOp .Mult) (yc (aA X)):=by
 intro pins s σ H x y v u Q I rx ry h;obtain⟨l,k,xs,rfl,rfl,hH,h1,h2,hz,C',q⟩:=h;cases rx;obtain⟨t,rfl⟩:=ry;obtain⟨B',r,pl,z⟩:=I.tuple hH;obtain⟨⟨c,dc,da,sl⟩,e,hc,n,hd⟩:=pl;simp only at hc hd;subst hc hd;have hl:=r.length
 have he:B'.toArray.isEmpty=false:=by
   cases B' with
   |nil=>cases r;exact absurd rfl C'
   |cons a b=>rfl
 refine wpAny_binaryOp_repeat_ref (T:="tuple") (U:="int") (by decide) ⟨_,e,rfl⟩ (fun s'=>typeIs_int s' k t) EY PySem.F.fills_int_mul PySem.F.slot_int_rmul Gs PySem.F.slot_int_index.lookup
   (call_meets PySem.F.slot_int_rmul (typeIs_int s k t) PySem.F.entry_int_rmul (PySem.F.args_int_rmul_2 _ _) (IS k t l B'.toArray n dc sl)
     ⟨e,rfl,⟨_,e,rfl⟩,call_meets PySem.F.slot_tuple_mul ⟨_,e,rfl⟩ PySem.F.entry_tuple_mul (PySem.F.args_tuple_mul_2 _ _) (Hw k t l B'.toArray n dc sl h1 h2 (by rw[List.size_toArray];omega) he) ⟨e,?_⟩⟩)
 have ee:(List.replicate k.toNat B'.toArray).foldl (· ++ ·) #[]=(List.replicate k.toNat B').flatten.toArray:=by
   have:=PyProof.Rows.listMul_foldl_if B'.toArray k.toNat;rw[he]at this;simpa using this
 rw[ee]
 have hlen:(List.replicate k.toNat xs).flatten.length≤sizeLine:=by
   rw[L2.len_rep,sizeLine_eq];have:k.toNat*xs.length≤1000*1000:=Nat.mul_le_mul (by omega) hz
   omega
 exact⟨.ref _,_,I.laid (o:=.tup (List.replicate k.toNat xs).flatten) (t':=s.toks) (fun _ _ q=>Heap.get?_push_of_some _ q) (Nat.le_refl _) ⟨hlen,(List.replicate k.toNat B').flatten,r.rep k.toNat,⟨_,Heap.get?_push_size _ rfl,rfl,_,rfl⟩⟩,rfl,q _ I.fresh⟩
theorem AK:cy M t5 (yc M):=by
 intro F H x y a b d Q tr ra rb e q;unfold t5 at e;split at e
 · split at e
   · rename_i h
     cases e;simp only[Rep]at ra;obtain⟨l,xs,rfl,h1,r1⟩:=ra;refine⟨l,_,xs,rfl,ck rb,h1.sq,h.1,h.2.1,by rw[←r1.length];exact h.2.2.1,fun z=>?_,fun p hp=>q _ _ (aq.cm hp _) (jM tr hp (r1.xo _))⟩
     subst z;have:=r1.length;have h4:=h.2.2.2;rw[List.length_nil,List.length_eq_zero_iff]at this;rw[this]at h4;cases h4
   ·cases e
 ·cases e
end
end PL
namespace PL
open PySem PySem.Spec PySem.W
open L2 (V Hp HO Cx PE PT PW PA PS cq PG d7 VK TE TT TA TS TI TG Inv RelV Vals Rd bz bN upd aq Key XK Ends bh gR b5 R2 EP It Turn dj Un bV cX cZ)
theorem Fo(x:cX P w H h a o):∃ob,h.get? a=some ob:=by
 cases o with
 |lst xs=>obtain⟨_,_,_,_,e⟩:=x;exact⟨_,e⟩
 |tup xs=>obtain⟨_,_,_,ob,e,_⟩:=x;exact⟨_,e⟩
 |dK kvs=>obtain⟨_,_,_,_,o,_,_,e,_⟩:=x;exact⟨_,e⟩
 |dT kvs=>obtain⟨_,_,_,_,o,_,_,e,_⟩:=x;exact⟨_,e⟩
 |set S n=>obtain⟨o,_,_,_,e,_⟩:=x;exact⟨_,e⟩
 |ins C dx fs=>obtain⟨_,_,_,e,_⟩:=x;exact⟨_,e⟩
 |own y=>obtain⟨_,e⟩:=x;exact⟨_,e⟩
 |xd fs=>obtain⟨_,⟨_,_,_,e,_⟩,_⟩:=x;exact⟨_,e⟩
 |qd lo hi=>obtain⟨_,_,_,e⟩:=x;exact⟨_,e⟩
 |frz ob u=>obtain⟨e,_⟩:=x;exact⟨_,e⟩
 |ji ps=>exact⟨_,show h.get? a=some _ from x⟩
 |met f y=>exact⟨_,show h.get? a=some _ from x⟩
 |ext φ=>obtain⟨_,⟨_,e⟩,_⟩:=x;exact⟨_,e⟩
theorem Cg(x:bV P w H h)(k:∀b o,H b≠none→h.get? b=some o→h'.get? b=some o):bV P w H h':=fun a o e=>
 (x a o e).dX (fun b u hb q=>k b u (by rcases hb with rfl|hb<;>simp_all) q) (fun _ q=>q) fun _ _ q=>q
section
variable{P:Program}{w:World}{K:PySem.W.Frag}{mg:Str→Option Value}{base:Heap}{N:List Str}{qual:Str}{scope:Scope}{f:Addr}{Lz:Value}{A:Around}{outer:List Env}{s:Shared}{H:Hp}{E:XK}
noncomputable def rz(n:Nat)(c:Str)(t:cg):List D→R D:=fun ds=>match t (ds.map Slot.sh++List.replicate (n - ds.length) .un)with
 |.ok true=>.exc (.cD c [] [])
 |_=>.bad
end
section
variable{M:Model}{A:Around}{E:Value→Shared→Prop}{K:PySem.W.Frag}{h:Heap}{g:Array GenState}{d:Drawn}{t:Nat}{os:OsState}{e C U:Addr}{oe:Obj}
end
section
variable{X:Cx}{pins:List (Addr×Obj)}{σ:L2.St}{H:Hp}{s:Shared}
end
structure mS(P:Program)(w:World)(C:Addr)(l:List Env)(H1 H':Hp)(h1:Heap)(a t:Addr)(B:Heap)(h:Heap):Prop where
 un:Un (cZ l) [] H1 H' h1 h
 aI:bV P w H' h
 fl:Heap.FlyingW B l a (.ref C) (.ref t) h
 oy:∀b o,h.get? b=some o→(H' b≠none∨((∃o',h1.get? b=some o')∧b∉cZ l))→B.get? b=some o
section
variable{P:Program}{w:World}{C:Addr}{l:List Env}{H1 H':Hp}{h1 h h5:Heap}{a t:Addr}{B:Heap}
theorem mS.step(x:mS P w C l H1 H' h1 a t B h)(st:B.StaysIn h5)(sm:h.UpToSlots h5):Un (cZ l) [] H1 H' h1 h5∧bV P w H' h5∧∀b o,h5.get? b=some o→(H' b≠none∨((∃o',h1.get? b=some o')∧b∉cZ l))→B.get? b=some o:=by
 have sl:∀b o,h.get? b=some o→b∈cZ l→∃sl,h5.get? b=some {o with slots:=sl}:=fun b o e hb=>by
   obtain⟨_,o',MS,U5⟩:=x.fl.2.2.1.mem hb;rw[e]at MS;cases MS;exact sm b o e U5
 refine⟨⟨fun b o e n hb LZ=>st _ _ (x.oy b o (x.un.keep b o e n hb LZ) (.inr ⟨⟨o,e⟩,hb⟩)),fun b o e n hb LZ=>?_,x.un.free,fun b o e LZ=>?_,x.un.fq,x.un.dU,x.un.fA⟩,Cg x.aI fun b o hb q=>st _ _ (x.oy b o q (.inl hb)),fun b o eo hc=>?_⟩
 · obtain⟨s2,e2⟩:=x.un.slot b o e n hb LZ
   obtain⟨s3,e3⟩:=sl b _ e2 hb;exact⟨s3,e3⟩
 · obtain⟨o',e'⟩:=x.un.there b o e LZ
   by_cases hb:b∈cZ l
   · obtain⟨s3,e3⟩:=sl b _ e' hb
     exact⟨_,e3⟩
   ·exact⟨o',st _ _ (x.oy b o' e' (.inr ⟨⟨o,e⟩,hb⟩))⟩
 · rcases hc with hb|⟨⟨o',e'⟩,hb⟩
   · cases q:H' b with
     |none=>exact absurd q hb
     | some u=>
       obtain⟨ob,z⟩:=Fo (x.aI _ _ q);have z2:=x.oy b ob z (.inl hb);have z3:=st _ _ z2;rw[z3]at eo;cases eo;exact z2
   · obtain⟨o2,e2⟩:=x.un.there b o' e' (by intro z;cases z)
     have z2:=x.oy b o2 e2 (.inr ⟨⟨o',e'⟩,hb⟩);have z3:=st _ _ z2;rw[z3]at eo;cases eo;exact z2
theorem mS.on(x:mS P w C l H1 H' h1 a t B h)(f5:Heap.FlyingW B l a (.ref C) (.ref t) h5)(sm:h.UpToSlots h5):mS P w C l H1 H' h1 a t B h5:=
 let⟨u,k,c⟩:=x.step f5.1 sm
 ⟨u,k,f5,c⟩
end
section
variable{X:Cx}{pins:List (Addr×Obj)}{σ:L2.St}{H:Hp}{s:Shared}{a:Addr}
end
section
variable{X:Cx}
end
section
variable{X:Cx}{pos:Pos}
end
end PL
namespace PL
open PySem PySem.Spec
open L2 (V Hp HO Cx PE PT PW PA PS cq PG d7 VK TE TT TA TS TI TG Inv RelV Vals Rd bz bN upd aq Key XK Ends bh gR b5 R2 EP It Turn dj Un iT)
abbrev dT(xs:List D):D:=.cD ⟨#[]⟩ [⟨#[116]⟩] xs
@[simp] def Dg:D→R D
 |.tup xs=>.ok (dT xs)
 |_=>.bad
@[simp] def K0:D→R D
 |.cD _ (_::_) xs=>.ok (.tup xs)
 |_=>.bad
@[simp] noncomputable def KN:D→D→R D
 | .cD _ (_::_) xs,.int k=>match intsOf xs with
   |some ns=>.ok (.int (ns.count k:Nat))
   |none=>.bad
 |_,_=>.bad
@[simp] def K2(a:Ex)(lo hi:Option Ex):Ex:=e1 Dg (pT a lo hi)
section
variable{X:Cx}{M:Md}{G H H':Hp}{F0:Gf}{F F':Addr→Prop}{σ:L2.St}{ρ:En}{pos:Pos}{pins:List (Addr×Obj)}{s:Shared}
end
section
variable{X:Cx}{M:Md}
end
section
variable{X:Cx}{M:Md}{G H H':Hp}{F0:Gf}{F F':Addr→Prop}{σ:L2.St}{ρ:En}{pos:Pos}{pins:List (Addr×Obj)}{s:Shared}
@[simp] noncomputable def K8(a:Ex):cI:=fun ρ=>(a ρ).bind fun x=>match x with
 |.lst xs=>.ok xs.reverse
 |_=>.bad
end
end PL
set_option maxHeartbeats 2000000
namespace PL
open PySem PySem.Spec PySem.W
section
variable{prog:Program}{w:World}{A:Around}{E:Value→Shared→Prop}{s:Shared}
def nK(h:Heap)(a l:Addr)(i:Int):Prop:=∃o,h.get? a=some o∧o.cls=.type "reversed"∧o.data=.fields #[.ref l,rawInt i]
theorem nK.typeIs(x:nK s.heap a l i):s.TypeIs (.ref a) "reversed":=let⟨o,ho,hc,_⟩:=x;⟨o,ho,hc⟩
theorem nK.at{h h':Heap}{a l:Addr}{i:Int}(x:nK h a l i)(e:∀o,h.get? a=some o→h'.get? a=some o):nK h' a l i:=let⟨o,ho,r⟩:=x;⟨o,e _ ho,r⟩
end
section
open L2 (V Hp HO Cx PE PT PW PA PS cq PG d7 VK TE TT TA TS TI TG Inv RelV Vals Rd bz bN upd aq Key XK Ends bh gR b5 R2 EP It Turn dj Un)
variable{X:Cx}{M:Md}{G H H':Hp}{F0:Gf}{F F':Addr→Prop}{σ:L2.St}{ρ:En}{pos:Pos}{pins:List (Addr×Obj)}{s:Shared}
@[simp] noncomputable def Kl(a:Ex):cI:=fun ρ=>(a ρ).bind fun x=>match x with
 |.lst xs=>.ok xs.reverse
 |.tup xs=>.ok xs.reverse
 |_=>.bad
end
end PL
namespace PL
open PySem PySem.Spec
open PyProof.Rows (assign_Tuple)
open L2 (V Hp HO Cx PE PT PW PA PS cq PG d7 VK TE TT TA TS TI TG Inv RelV Vals Rd bz bN upd aq Key XK Ends bh gR b5 R2 EP)
section
variable{prog:Program}{w:World}{A:Around}{E:Value→Shared→Prop}{s:Shared}
end
section
variable{X:Cx}{M:Md}{G H H':Hp}{F0:Gf}{F F':Addr→Prop}{σ:L2.St}{ρ:En}{pos:Pos}{DE:Ends}
end
end PL
set_option maxHeartbeats 1000000
namespace PL
open PySem PySem.Spec
open L2 (V Hp HO Cx PE PT PW PA PS cq PG d7 VK TE TT TA TS TI TG Inv RelV Vals Rd bz bN upd aq Key XK Ends bh gR b5 R2 EP It Turn dj Un)
section
variable{X:Cx}{M:Md}{G H H':Hp}{F0:Gf}{F F':Addr→Prop}{σ:L2.St}{ρ:En}{pos:Pos}{pins:List (Addr×Obj)}{s:Shared}
end
def b8:Ky→D
 |.inl i=>.int i
 |.inr x=>.str x
def dR(P:Program)(w:World)(K:PySem.W.Frag)(H:Hp)(a:Addr)(ob:Obj)(kvs:List (Key×V)):Prop:=
 H a=some (.frz ob (.dK kvs))∨(K.lookup a=some ob∧∃(es:Array DictEntry) (ep:Nat) (vs:List (Key×Value)),ob.ExactDict∧ob.data=.dict es ep∧KeysOf (L2.b0 P w) es∧Pairs (L2.b0 P w) es.toList vs∧
   (vs.map (·.1)).Nodup∧L2.KV kvs vs∧kvs.length≤sizeLine∧(a==sysModules)=false)
theorem ua(h:dC M H F a kvs):∃ob,((¬F a∧H a=some (.frz ob (.dK kvs)))∨dR M.P M.w M.K (fun _=>none) a ob kvs)∧dR M.P M.w M.K H a ob kvs:=by
 rcases h with⟨n,ob,h⟩|⟨o,es,ep,vs,h1,h2,h3,h4,h5,h6,h7,h8,h9⟩
 ·exact⟨ob,.inl ⟨n,h⟩,.inl h⟩
 ·exact⟨o,.inr (.inr ⟨h1,es,ep,vs,h2,h3,h4,h5,h6,h7,h8,h9⟩),.inr ⟨h1,es,ep,vs,h2,h3,h4,h5,h6,h7,h8,h9⟩⟩
section
variable{X:Cx}{M:Md}{G H H':Hp}{F0:Gf}{F F':Addr→Prop}{σ:L2.St}{ρ:En}{pos:Pos}{pins:List (Addr×Obj)}{s:Shared}
theorem iw(I:Inv X pins σ H s)(h:dR X.prog X.w X.K H a ob kvs):kvs.length≤sizeLine∧(a==sysModules)=false∧∃vs es ep,L2.KV kvs vs∧ob.data=.dict es ep∧s.heap.DictAt (L2.b0 X.prog X.w) a vs ep:=by
 rcases h with h|⟨h1,es,ep,vs,h2,h3,h4,h5,h6,h7,h8,h9⟩
 · obtain⟨e0,z,y,vs,r,TL,es,ep,e1,c1,c2,c3,c4,c5⟩:=I.aI a _ h
   rw[e0]at e1;cases e1;exact⟨z,y,vs,es,ep,r,c2,ob,es,e0,c1,c2,c3,c4,c5⟩
 ·exact⟨h8,h9,vs,es,ep,h7,h3,ob,es,I.cE a ob h1,h2,h3,h4,h5,h6⟩
noncomputable def uM(P:Program)(w:World)(K:PySem.W.Frag)(a:Addr)(ob:Obj)(kvs:List (Key×V)):It:=
 ⟨fun i H=>dR P w K H a ob kvs∧i<kvs.length,fun i H x H'=>H'=H∧∃kv,kvs[i]? =some kv∧x=L2.kV kv.1,fun i H=>dR P w K H a ob kvs∧i=kvs.length⟩
theorem fV(h:L2.KV kvs vs):kvs.length=vs.length:=by
 unfold L2.KV at h
 induction h with
 |nil=>rfl
 |cons _ _ ih=>simp[ih]
theorem wK(h:L2.KV kvs vs):∀ {i:Nat} {p:Key×Value},vs[i]? =some p→∃q,kvs[i]? =some q∧q.1=p.1:=by
 unfold L2.KV at h
 induction h with
 |nil=>intro i p e;simp at e
 | cons hd _ ih=>
   intro i p e;cases i with
   |zero=>simp at e;subst e;exact⟨_,rfl,hd.1⟩
   |succ i=>simpa using ih (i:=i) (by simpa using e)
theorem ud(h:L2.j8 k u=true):RelV (L2.kV k) u:=by
 rcases L2.ij h with⟨i,t,rfl,rfl⟩|⟨x,t,rfl,rfl⟩
 ·exact⟨t,rfl⟩
 ·exact⟨t,rfl⟩
theorem EU(a it:Addr)(ob:Obj)(es:Array DictEntry)(ep:Nat)(Nx:ob.data=.dict es ep)(kvs:List (Key×V)):Turn P w K tg (uM P w K a ob kvs) [it] it (fun i h=>h.IsKeyIter it a i kvs.length ep) where
 mem:=by simp
 obj:=fun i h st b hb=>by
   have e:b=it:=by simpa using hb
   subst e;obtain⟨o,e,c,d⟩:=st;exact⟨o,e,fun v z=>by rw[d]at z;cases z⟩
 keep:=fun i h h' st k=>st.at fun o e=>k it (by simp) o e
 item:=by
   intro X hP hw hK hc i pins s σ H E I hf st hg;subst hP hw hK;obtain⟨dz,hi⟩:=hg;obtain⟨hz,hs,vs,es',ON,rel,Mc,dat⟩:=iw I dz;rw[Nx]at Mc;cases Mc;have hl:=fV rel;have hx:vs[i]? =some vs[i]:=List.getElem?_eq_getElem (by omega)
   obtain⟨q,hq,eq⟩:=wK rel hx;obtain⟨f0,f1,f2,f3,f4,f5⟩:=hf it (by simp)
   rw[hl]at st;refine wpAny_pyNext_dict_item (k:=vs[i].1) (v:=vs[i].2) st dat hx fun key h' N5 Mz sb=>?_;have I1:Inv X pins σ H {s with heap:=h'}:=I.turned (t':=s.toks) (fun b o hb e=>(sb.2 b hb).trans e) f0 f1 f3 f4 f5;obtain⟨o,e,c,d⟩:=id Mz;rw[←hl]at Mz;exact⟨key,rfl,L2.jQ (s:={s with heap:=h'}) e c d (by decide) ⟨L2.kV q.1,H,I1,by rw[eq];exact ud N5,⟨rfl,q,hq,rfl⟩,Mz,fun b hb=>(hf b hb).1⟩⟩
 done:=by
   intro X hP hw hK hc i pins s σ H E I hf st hg;subst hP hw hK;obtain⟨dz,hi⟩:=hg;obtain⟨hz,hs,vs,es',ON,rel,Mc,dat⟩:=iw I dz;rw[Nx]at Mc;cases Mc;have hl:=fV rel;obtain⟨f0,f1,f2,f3,f4,f5⟩:=hf it (by simp)
   rw[hl]at st;exact wpAny_pyNext_dict_end (I.ok.hd hc) st dat (List.getElem?_eq_none_iff.mpr (by omega)) fun h' eb=>⟨rfl,I.turned (t':=s.toks) (fun b o hb e=>eb b o hb e) f0 f1 f3 f4 f5⟩
 self:=fun _ _ _ _ _ st h=>wpAny_pyIter_keyiter st h
def DV(P:Program)(w:World)(K:PySem.W.Frag)(tl:TE):TI:=fun σ H R=>tl σ H fun x H1=>∃a ob kvs,x=.ref a∧dR P w K H1 a ob kvs∧R (uM P w K a ob kvs) H1
theorem EV(hl:PE X l tl):L2.PI X tg l (DV X.prog X.w X.K tl):=by
 intro pins s σ H R I h;refine L2.aN (hl pins s σ H _ I h) fun v s1 ⟨x,H1,I1,r1,q1⟩=>?_;obtain⟨a,ob,kvs,e,dz,q⟩:=q1;subst e;cases r1;obtain⟨hz,hs,vs,es,ep,rel,Nx,dat⟩:=iw I1 dz;have hlen:=fV rel;refine wpAny_pyIter_dict hs dat ?_;rw[←hlen];refine⟨s1.heap.objs.size,[s1.heap.objs.size],_,_,H1,rfl,I1.kept (t':=s1.toks) fun b o e=>Heap.get?_push_of_some _ e,EU a _ ob es ep Nx kvs,⟨_,Heap.get?_push_size _ rfl,rfl,rfl⟩,fun b hb=>?_,q⟩;have e:b=s1.heap.objs.size:=by simpa using hb
 subst e;exact I1.i9 (Nat.le_refl _) (I1.aI.fresh (Nat.le_refl _))
noncomputable def gC(a:Ex):cI:=fun ρ=>(a ρ).bind fun x=>match x with
 |.aw ks _=>.ok (ks.map b8)
 |_=>.bad
theorem u9:Rep M H F (b8 k) (L2.kV k):=by
 cases k with
 |inl i=>exact fU
 |inr x=>exact mE
theorem F6{a:Addr}{ob:Obj}{ks:List Ky}{xs:List V}(hd:(¬F a∧H a=some (.frz ob (.dK (ks.zip xs))))∨dR M.P M.w M.K (fun _=>none) a ob (ks.zip xs))(hl:ks.length=xs.length):Gives M (uM M.P M.w M.K a ob (ks.zip xs)) H F (ks.map b8):=by
 intro H' F' mv tr;have Pc:(ks.zip xs).length=ks.length:=by rw[List.length_zip];omega
 have dz:dR M.P M.w M.K H' a ob (ks.zip xs):=by
   rcases hd with⟨n,h⟩|h
   ·exact .inl (mv _ _ n h).2
   · rcases h with h|h
     ·cases h
     ·exact .inr h
 refine⟨fun i d NX=>?_,?_⟩
 · obtain⟨hi,_⟩:=List.getElem?_eq_some_iff.mp NX
   rw[List.length_map]at hi;rw[List.getElem?_map,List.getElem?_eq_getElem hi]at NX;cases NX;refine⟨⟨dz,by omega⟩,fun y H2 hy=>?_⟩
   obtain⟨rfl,kv,QL,rfl⟩:=hy;obtain⟨hk,e⟩:=List.getElem?_eq_some_iff.mp QL;have:kv.1=ks[i]:=by rw[←e,List.getElem_zip]
   rw[this];exact⟨aq.refl _,u9⟩
 ·exact⟨dz,by rw[List.length_map,Pc]⟩
theorem Bp{tg l:Expr}{fa:Ex}(ha:JE X l fa):JI X tg l (gC fa):=
 j6 (EV ha) fun σ H Q ⟨ρ,F,ds,r,e,q⟩=>by
   obtain⟨d,ed,e⟩:=az.mp e;cases d with
   | aw ks vs=>
     cases e;refine⟨ρ,F,_,r,ed,fun v H1 s1 rv=>?_⟩;simp only[Rep]at rv;obtain⟨a,xs,rfl,h,hl,rs⟩:=rv;obtain⟨ob,h1,h2⟩:=ua h;exact⟨a,ob,_,rfl,h2,q _ H1 s1 (F6 (M:=aA X) h1 hl)⟩
   |_=>cases e
end
noncomputable def putL(k:Ky)(d:D)(ks:List Ky)(vs:List D):List Ky×List D:=if(ks.any fun a=>decide (a=k))=true then(ks,List.zipWith (fun a v=>if a=k then d else v) ks vs)else(ks++[k],vs++[d])
noncomputable def oM(i:Nat)(k e:Ex):Sm:=fun ρ=>(e ρ).bind fun d=>(k ρ).bind fun q=>match ρ[i]?,keyOf q with
 |some (.od ks vs),some y=>if ks.length<1000 then .ok (.next (ρ.set i (.od (putL y d ks vs).1 (putL y d ks vs).2)))else .bad
 |_,_=>.bad
section
variable{X:Cx}{M:Md}{G H H':Hp}{F0:Gf}{F F':Addr→Prop}{σ:L2.St}{ρ:En}{pos:Pos}{pins:List (Addr×Obj)}{s:Shared}
theorem sf(k:Ky)(v:V)(hl:ks.length=xs.length):
   L2.putK (ks.zip xs) k v=(if(ks.any fun a=>decide (a=k))=true then ks.zip (List.zipWith (fun a x=>if a=k then v else x) ks xs)else(ks++[k]).zip (xs++[v])):=by
 have R9:∀ {ks:List Ky} {xs:List V},ks.length=xs.length→((ks.zip xs).any fun kv=>decide (kv.1=k))=(ks.any fun a=>decide (a=k)):=by
   intro ks
   induction ks with
   |nil=>intro xs _;simp
   | cons a ks ih=>
     intro xs hl;cases xs with
     |nil=>simp at hl
     |cons x xs=>rw[List.zip_cons_cons,List.any_cons,List.any_cons,ih (by simpa using hl)]
 unfold L2.putK;rw[R9 hl];by_cases h:(ks.any fun a=>decide (a=k))=true
 · rw[if_pos h,if_pos h]
   have e:∀ {ks:List Ky} {xs:List V},ks.length=xs.length→(ks.zip xs).map (fun kv=>if kv.1=k then(kv.1,v)else kv)=ks.zip (List.zipWith (fun a x=>if a=k then v else x) ks xs):=by
     intro ks
     induction ks with
     |nil=>intro xs _;simp
     | cons a ks ih=>
       intro xs hl;cases xs with
       |nil=>simp at hl
       | cons x xs=>
         rw[List.zip_cons_cons,List.map_cons,ih (by simpa using hl),List.zipWith_cons_cons,List.zip_cons_cons]
         by_cases h:a=k
         ·simp[h]
         ·simp[h]
   exact e hl
 · rw[if_neg h,if_neg h,List.zip_append hl]
   rfl
theorem uy(rd:Rep M H F d v):∀ {ks:List Ky} {ds:List D} {xs:List V},ag M H F ds xs→ag M H F (List.zipWith (fun a y=>if a=k then d else y) ks ds) (List.zipWith (fun a x=>if a=k then v else x) ks xs)
 |[],_,_,_=>by simpa using ag.nil
 | a::ks,[],xs,r=>by
   simp only[ag]at r;subst r;simpa using ag.nil
 | a::ks,y::ds,xs,r=>by
   simp only[ag]at r;obtain⟨x,Nz,rfl,r1,r2⟩:=r;rw[List.zipWith_cons_cons,List.zipWith_cons_cons];refine ag.cons ?_ (uy rd r2);by_cases h:a=k
   ·rw[if_pos h,if_pos h];exact rd
   ·rw[if_neg h,if_neg h];exact r1
theorem Ib(i:Nat)(hu:X.A.units+64<cLine)(hk:JE X k g)(he:JE X e f)(hN:X.N[i]? =some x:=by rfl)(hv:L2.cw X.env.scope x:=by first|exact Or.inl rfl|exact Or.inr (Or.inl rfl)|exact Or.inr (Or.inr rfl))(hd:(x==("__debug__":Str))=false:=by decide)
   (LH:(x==("__classdict__":Str))=false:=by decide) (hs:swapsWith e (some (.Subscript (.Name x p2) k p3)) pos.line X.env=pure false:=by rfl):
   JS X (.Assign [.Subscript (.Name x p2) k p3] e pos) (oM i g f):=fun F0=>
 cJ (L2.wV (by omega) (L2.pv i hN hv hd LH) hk he hs) fun D σ H ⟨ρ,F,fl,r,e,q⟩=>by
   obtain⟨d,ed,e⟩:=az.mp e;obtain⟨y,ey,e⟩:=az.mp e
   have ⟨ks,vs,z,q1,hk,e9⟩:∃ks vs z,ρ[i]? =some (.od ks vs)∧keyOf y=some z∧(if ks.length<1000 then R.ok (Fl.next (ρ.set i (.od (putL z d ks vs).1 (putL z d ks vs).2)))else .bad)=.ok fl:=by
     cases hq:ρ[i]? with
     |none=>rw[hq]at e;cases e
     | some s=>
       rw[hq]at e;cases s with
       | od ks vs=>
         cases hz:keyOf y with
         |none=>rw[hz]at e;cases e
         |some z=>rw[hz]at e;exact⟨ks,vs,z,rfl,rfl,e⟩
       |_=>cases e
   by_cases L8:ks.length<1000
   · rw[if_pos L8]at e9
     cases e9;have oi:bp ρ i:=.inr ⟨_,_,q1⟩;obtain⟨a,xs,ea,fa,ha,hl,rs⟩:=r.rs.od i _ _ q1;refine⟨ρ,F,d,r.rs,ed,fun v H1 s1 rv=>⟨_,ea,ρ,F,y,(r.same s1).rs,ey,fun w H2 s2 Mx=>?_⟩⟩;have r2:=(r.same s1).same s2;have Px:=s2 _ _ (s1 _ _ ha);cases fG hk Mx;have Ri:=rv.mv (M:=aA X) (F':=F) (.same s2);have N8:=rs.mv (M:=aA X) (F':=F) (.same (s1.trans s2))
     have Pc:(ks.zip xs).length<sizeLine:=by
       have:(sizeLine:Nat)=16777216:=sizeLine_eq;rw[List.length_zip];omega
     refine⟨a,_,rfl,L2.jd.k Px Pc,?_⟩;rw[sf z v hl];unfold putL at q;by_cases hm:(ks.any fun a=>decide (a=z))=true
     · rw[if_pos hm]at q ⊢
       obtain⟨mv,r'⟩:=r2.chg (s:=.od ks (List.zipWith (fun a y=>if a=z then d else y) ks vs)) oi ea (.inr ⟨_,_,_,rfl,rfl,by rw[List.length_zipWith];omega,uy Ri N8⟩)
       exact q _ _ _ (Mv.trans (.same (s1.trans s2)) mv) r'
     · rw[if_neg hm]at q ⊢
       obtain⟨mv,r'⟩:=r2.chg (s:=.od (ks++[z]) (vs++[d])) oi ea (.inr ⟨_,_,_,rfl,rfl,by rw[List.length_append,List.length_append,hl];rfl,N8.append (ag.cons Ri ag.nil)⟩)
       exact q _ _ _ (Mv.trans (.same (s1.trans s2)) mv) r'
   ·rw[if_neg L8]at e9;cases e9
end
section
variable{X:Cx}{M:Md}{G H H':Hp}{F0:Gf}{F F':Addr→Prop}{σ:L2.St}{ρ:En}{pos:Pos}{pins:List (Addr×Obj)}{s:Shared}
end
section
variable{X:Cx}{M:Md}{G H H':Hp}{F0:Gf}{F F':Addr→Prop}{σ:L2.St}{ρ:En}{pos:Pos}{pins:List (Addr×Obj)}{s:Shared}
theorem Ax{P:Nat→Value→Prop}:∀ {l:List Value},l.length=xs.length→(∀(j:Nat) v,l[j]? =some v→∃x,xs[j]? =some x∧RelV x v)→Vals xs l:=by
 intro l
 induction l generalizing xs with
 | nil=>intro hl _;cases xs with
   |nil=>exact .nil
   |cons _ _=>cases hl
 | cons v l ih=>
   intro hl h;cases xs with
   |nil=>cases hl
   | cons x xs=>
     obtain⟨y,e,r⟩:=h 0 v rfl;cases e;exact .cons r (ih (by simpa using hl) fun j w hw=>by simpa using h (j+1) w (by simpa using hw))
end
section
variable{X:Cx}{M:Md}{G H H':Hp}{F0:Gf}{F F':Addr→Prop}{σ:L2.St}{ρ:En}{pos:Pos}{pins:List (Addr×Obj)}{s:Shared}
end
section
variable{X:Cx}{M:Md}{G H H':Hp}{F0:Gf}{F F':Addr→Prop}{σ:L2.St}{ρ:En}{pos:Pos}{pins:List (Addr×Obj)}{s:Shared}
end
theorem mJ:bootBuiltins "sorted"=some (.builtin "sorted"):=by decide+kernel
section
variable{X:Cx}{M:Md}{G H H':Hp}{F0:Gf}{F F':Addr→Prop}{σ:L2.St}{ρ:En}{pos:Pos}{pins:List (Addr×Obj)}{s:Shared}
end
section
variable{X:Cx}{M:Md}{G H H':Hp}{F0:Gf}{F F':Addr→Prop}{σ:L2.St}{ρ:En}{pos:Pos}{pins:List (Addr×Obj)}{s:Shared}
end
noncomputable def iK(t:cg)(body:Sm):Nat→En→R Fl
 |0,_=>.bad
 | n+1,ρ=>(t ρ).bind fun b=>if b=true then(body ρ).bind fun f=>match f with
   |.next ρ2=>iK t body n ρ2
   |.cont ρ2=>iK t body n ρ2
   |.brk ρ2=>.ok (.next ρ2)
   |.ret d=>.ok (.ret d)
   |.eU d=>.ok (.eU d)
   |.cP d=>.ok (.cP d)else .ok (.next ρ)
def lW(n:Nat)(t:cg)(body:Sm):Sm:=iK t body n
section
variable{X:Cx}{M:Md}{G H H':Hp}{F0:Gf}{F F':Addr→Prop}{σ:L2.St}{ρ:En}{pos:Pos}{pins:List (Addr×Obj)}{s:Shared}
theorem Et(n:Nat)(hp:PassesOwn (model X.prog X.w) X.A X.env X.xe)(hc:JT X c t)(hb:dI X body f):JS X (.While c body [] pos) (lW n t f):=fun F0=>
 cJ (L2.Aa hp hc (hb F0)) fun D σ H ⟨ρ,F,fl,r,e,q⟩=>by
   refine⟨fun m NY H1=>∃ρ1 F1,Mv F H F1 H1∧aT (aA X) F0.g F0 H1 F1 NY ρ1∧iK t f m ρ1=.ok fl,⟨n,ρ,F,Mv.refl,r,e⟩,?_⟩;rintro m NY H1 ⟨ρ1,F1,m1,r1,e1⟩;cases m with
   |zero=>cases e1
   | succ m=>
     unfold iK at e1;obtain⟨b,eb,e1⟩:=az.mp e1;refine⟨ρ1,F1,b,r1.rs,eb,fun H2 s2=>?_⟩;have m2:Mv F H F1 H2:=m1.trans (.same s2);have r2:=r1.same s2;cases b with
     | false=>
       cases e1;exact q _ _ _ m2 r2
     | true=>
       obtain⟨f1,ef,e1⟩:=az.mp e1;refine⟨fun L1 H3=>∃Na F3,Mv F H F3 H3∧aT (aA X) F0.g F0 H3 F3 L1 Na∧iK t f m Na=.ok fl,fun L1 H3 h3=>⟨m,Nat.lt_succ_self m,h3⟩,ρ1,F1,f1,r2,ef,?_⟩;cases f1 with
       |next ρ2=>exact fun L1 H3 F3 m3 r3=>⟨ρ2,F3,m2.trans m3,r3,e1⟩
       |cont ρ2=>exact fun L1 H3 F3 m3 r3=>⟨ρ2,F3,m2.trans m3,r3,e1⟩
       |brk ρ2=>cases e1;exact fun L1 H3 F3 m3 r3=>q L1 H3 F3 (m2.trans m3) r3
       |ret d=>cases e1;exact fun v H3 F3 m3 a b rv=>q v H3 F3 (m2.trans m3) a b rv
       |eU d=>cases e1;exact fun p H3 F3 xs ds e m3 a b c rv=>q p H3 F3 xs ds e (m2.trans m3) a b c rv
       |cP d=>cases e1;exact fun v H3 F3 F4 as m3 a b c d e rv=>q v H3 F3 F4 as (m2.trans m3) a b c d e rv
def pd(M:Md)(G:Hp)(F0:Gf)(H:Hp)(F:Addr→Prop)(i:Nat)(v:Option (Option V))(D:Ends):Fl→Prop
 |.next ρ'=>∀J' H' F',Mv F H F' H'→aT M G F0 H' F' J' ρ'→J'[i]? =v→D.nx J' H'
 |.brk ρ'=>∀J' H' F',Mv F H F' H'→aT M G F0 H' F' J' ρ'→J'[i]? =v→D.bk J' H'
 |.cont ρ'=>∀J' H' F',Mv F H F' H'→aT M G F0 H' F' J' ρ'→J'[i]? =v→D.ct J' H'
 |.ret d=>∀v H' F',Mv F H F' H'→aq G H'→(∀a,F0 a→F' a)→Rep M H' F' d v→D.rt v H'
 |.eU _=>False
 |.cP _=>False
def zF(M:Md)(G:Hp)(F0:Gf)(i:Nat)(f:Sm):TS:=fun D σ H=>∃ρ F fl,aT M G F0 H F σ ρ∧f ρ=.ok fl∧pd M G F0 H F i σ[i]? D fl
abbrev JK(X:Cx)(i:Nat)(st:Stmt)(f:Sm):Prop:=∀F0:Gf,PS X st (zF (aA X) F0.g F0 i f)
abbrev kE(X:Cx)(i:Nat)(Q7:List Stmt)(f:Sm):Prop:=∀F0:Gf,cq X Q7 (zF (aA X) F0.g F0 i f)
theorem pd.mv{i:Nat}{v:Option (Option V)}{DE:Ends}(m:Mv F H F' H'):∀ {fl:Fl},pd M G F0 H F i v DE fl→pd M G F0 H' F' i v DE fl
 |.next _,h=>fun J' H2 F2 m2 r=>h J' H2 F2 (m.trans m2) r
 |.brk _,h=>fun J' H2 F2 m2 r=>h J' H2 F2 (m.trans m2) r
 |.cont _,h=>fun J' H2 F2 m2 r=>h J' H2 F2 (m.trans m2) r
 |.ret _,h=>fun J' H2 F2 m2 a b r=>h J' H2 F2 (m.trans m2) a b r
 |.eU _,h=>h
 |.cP _,h=>h
theorem A7:kE X i [] aP:=fun F0=>sR L2.zB fun D σ H ⟨ρ,F,fl,r,e,q⟩=>by
 cases e;exact q σ H F Mv.refl r rfl
theorem GU(h:JK X i st f):kE X i [st] f:=fun F0=>L2.wB (h F0)
theorem C9(hc:JT X c fc)(ha:kE X i a fa)(hb:kE X i b fb):JK X i (.If c a b pos) (aQ fc fa fb):=fun F0=>
 cJ (L2.vg hc (ha F0) (hb F0)) fun D σ H ⟨ρ,F,fl,r,e,q⟩=>by
   obtain⟨t,et,e⟩:=az.mp e;refine⟨ρ,F,t,r.rs,et,fun H1 s1=>?_⟩;split at e
   ·rename_i h;rw[if_pos h];exact⟨ρ,F,fl,r.same s1,e,q.mv (.same s1)⟩
   ·rename_i h;rw[if_neg h];exact⟨ρ,F,fl,r.same s1,e,q.mv (.same s1)⟩
theorem F5(i j:Nat)(hp:PassesOwn (model X.prog X.w) X.A X.env X.xe)(hc:X.calm=true)(hi:JI X (.Name x p2) iter it)(hN:X.N.Nodup)(hj:X.N[j]? =some x)(hx:L2.Loc X.env.scope x)(hf:X.fn x=true∨X.env.scope.names.lookup x=some .local)(Om:i≠j)
   (hb:kE X i body f) (hs:∀x,foldedSetIterable iter X.env x=pure x):JK X i (.For (.Name x p2) iter body [] pos) (dy it (aE j) f):=fun F0=>
 cJ (L2.zj hp hc hi (L2.zK hN hj hx hf) (hb F0) hs) fun D RI H ⟨ρ,F,fl,r,e,q⟩=>by
   obtain⟨ds,ed,e⟩:=az.mp e;refine⟨ρ,F,ds,r.rs,ed,fun J H1 s1 gv=>?_⟩;refine⟨fun k m σ H2=>m=ds.length - k∧k≤ds.length∧σ[i]? =RI[i]? ∧∃ρ F2,Mv F H1 F2 H2∧aT (aA X) F0.g F0 H2 F2 σ ρ∧forL (aE j) f (ds.drop k) ρ=.ok fl,⟨ds.length,by simp,Nat.zero_le _,rfl,ρ,F,Mv.refl,r.same s1,e⟩,?_⟩
   rintro k m σ H2 ⟨rfl,hk,Tq,ρ,F2,mv,r,e⟩;have q1:=q.mv (.same s1);obtain⟨g1,g2⟩:=gv H2 F2 mv r.rs.aX;by_cases L8:k<ds.length
   · refine .inr ⟨(g1 k ds[k] (by simp[L8])).1,fun J' H'=>k+1≤ds.length∧J'[i]? =RI[i]? ∧∃ρ F3,Mv F H1 F3 H'∧aT (aA X) F0.g F0 H' F3 J' ρ∧forL (aE j) f (ds.drop (k+1)) ρ=.ok fl,fun J' H' p'=>⟨ds.length - (k+1),by omega,rfl,p'.1,p'.2⟩,fun x H' y=>?_⟩
     obtain⟨s2,rx⟩:=(g1 k ds[k] (by simp[L8])).2 x H' y
     rw[List.drop_eq_getElem_cons L8]at e;unfold forL at e;obtain⟨ρ1,e1,e⟩:=az.mp e;obtain⟨f1,e2,e⟩:=az.mp e;cases e1;have Ny:Mv F H1 F2 H':=mv.trans (.same s2);have Sn:(σ.set j (some x))[i]? =RI[i]? :=by rw[List.getElem?_set_ne (Ne.symm Om)];exact Tq
     refine⟨_,F2,f1,(r.same s2).o6 rx,e2,?_⟩;rw[Sn];cases f1 with
     |next ρ2=>exact fun L1 H3 F3 m3 r3 k3=>⟨L8,k3,ρ2,F3,Ny.trans m3,r3,e⟩
     |cont ρ2=>exact fun L1 H3 F3 m3 r3 k3=>⟨L8,k3,ρ2,F3,Ny.trans m3,r3,e⟩
     |brk ρ2=>cases e;exact fun L1 H3 F3 m3 r3 k3=>q1 L1 H3 F3 (Ny.trans m3) r3 k3
     |ret d=>cases e;exact fun v H3 F3 m3 a b rv=>q1 v H3 F3 (Ny.trans m3) a b rv
     |eU d=>cases e;exact q1
     |cP d=>cases e;exact q1
   · have ek:k=ds.length:=by omega
     subst ek;rw[List.drop_length]at e;cases e;exact .inl ⟨g2,q1 σ H2 F2 mv r Tq⟩
end
end PL
namespace PySem
theorem Ay:typeLookup (.type "list") "keys"=pure none:=am_miss_of_fast (by decide+kernel)
theorem Cy
   (hx:s.heap.get? a=some o) (hc:o.cls=.type "list") (Oh:o.data=.seq xs k) (hd:o.dict=none) (hA:A.handled=none)
   (h:∀h' tk,(∀b ob,s.heap.get? b=some ob→h'.get? b=some ob)→Q none {s with heap:=h',toks:=tk}):
   wpAny (model prog w) A (getAttr? (.ref a) "keys") Q E s:=by
 obtain⟨c,aw,dat,sl⟩:=o;simp only at hc Oh hd;subst hc Oh hd;obtain⟨hp,g,d,tk,os⟩:=s;have hT:∀TF,(⟨hp,g,d,TF,os⟩:Shared).TypeIs (.ref a) "list":=fun _=>⟨_,hx,rfl⟩;have f1:=sub_AttributeError;have f3:=F.slot_list_getattribute.lookup;have f4:=F.slot_list_getattribute.bind (.ref a);have f5:=am_list_getattr_none;unfold getAttr? getAttrBy? getAttrBy
 repeat (any_goals (first|assumption|exact hT _|((with_reducible show wpAny _ _ (call (Value.builtin "list.__getattribute__") _ _) _ _ _);refine call_meets F.slot_list_getattribute (hT _) am_entry_list_getattribute (F.args_list_getattribute_2 _ _) (meets_getattribute_miss_list a xs k sl "keys" _ Ay (by decide+kernel) (by size_fits)) ⟨hx,hA,fun h' TF e LZ=>?_⟩)|wp_step))
 obtain⟨t',u',he⟩:=LZ.there;show wpAny _ _ (getattributeRaised _ _ _ _ _ _ _) _ _ _;unfold getattributeRaised
 repeat (any_goals (first|assumption|wp_step))
 exact h _ _ LZ.keeps
theorem qf:plainId "dict.update.loop"=true:=by decide+kernel
theorem zv:entryFor table "dict.update.loop"=some Builtin.«dict.update.loop»:=entryFor_of_tree (by kernel_rfl)
section
variable{prog:Program}{w:World}{A:Around}{R:Result→Shared→Prop}{I ax:Addr}
def uS{K:Type} [DecidableEq K] (knd:KeyKind prog w K) (h:Heap) (v:Value) (p:K×Value):Prop:=∃a key,v=.ref a∧PyProof.Rows.IsTup h a #[key,p.2]∧knd.is p.1 key=true
theorem BG{K:Type} [DecidableEq K] {knd:KeyKind prog w K} (hh:A.in1.handled=none) {d:Addr} {items:Array Value} {res:Value} (C':ax≠I) (Rt:d≠I) (Wd:d≠ax):∀(more:List (K×Value)) (i:Nat) (z:Int) (kvs:List (K×Value)) (s:Shared),items.size - i=more.length→i≤items.size→
   s.heap.IsListIter I ax i→s.heap.IsList ax items→s.heap.DictOf knd d kvs→kvs.length+more.length≤sizeLine→(∀(j:Nat) p,more[j]? =some p→∃v,items[i+j]? =some v∧uS knd s.heap v p)→
   (∀h' tk,(∀b o,b≠I→b≠d→s.heap.get? b=some o→h'.get? b=some o)→h'.DictOf knd d (merged kvs more)→R (.ok (.ret res)) {s with heap:=h',toks:=tk})→
   codeAny (model prog w) A (.builtin "dict.update.loop" ⟨[.ref d,.ref I,rawInt z,res],[]⟩) R s:=by
 intro more
 induction more with
 | nil=>
   intro i z kvs s hk hi hit hl hd hsz hp hR;have NB:i=items.size:=by simp at hk;omega
   subst NB;refine codeAny_builtin zv ?_;rw[Around.under_plainId qf _];show wpAny _ A.in1 (pyNext (.ref I) >>= _) _ _ s;refine wpAny_bind (wpAny_pyNext_list_end hh hit hl (by simp) fun h' Th=>?_)
   show wpAny _ _ (Builtin.Dict.addKeywords d [] >>= _) _ _ _;refine wpAny_bind (wpAny_pure (wpAny_pure ?_));exact hR h' s.toks (fun b o hb _ e=>Th b o hb e) (hd.extBut Th Rt)
 | cons p more ih=>
   intro i z kvs s hk hi hit hl hd hsz hp hR;obtain⟨v,hv,Ws⟩:=hp 0 p rfl;rw[Nat.add_zero]at hv;obtain⟨a,key,rfl,Tw,N5⟩:=Ws;refine codeAny_builtin zv ?_;rw[Around.under_plainId qf _];show wpAny _ A.in1 (pyNext (.ref I) >>= _) _ _ s;refine wpAny_bind (wpAny_pyNext_list_item hit hl hv fun h' Pj OZ=>?_);refine wpAny_bind (wpAny_holding ?_);have NX:h'.DictOf knd d kvs:=hd.extBut OZ.extBut Rt;have Pf:h'.IsList ax items:=hl.extBut OZ.extBut C'
   have qW:∀ {b xs},PyProof.Rows.IsTup s.heap b xs→b≠I∧b≠d:=fun {b xs} ht=>by
     obtain⟨o,ho,hc,_⟩:=ht;refine⟨fun e=>?_,fun e=>?_⟩
     · obtain⟨o2,Ot,O',_⟩:=hit
       rw[←e,ho]at Ot;cases Ot;rw[hc]at O';exact absurd O' (by decide)
     · obtain⟨o2,_,_,Ot,O',_⟩:=hd
       rw[←e,ho]at Ot;cases Ot;exact absurd (hc.symm.trans O'.1) (by decide)
   have Si:PyProof.Rows.IsTup h' a #[key,p.2]:=Tw.extBut OZ.extBut (qW Tw).1;obtain⟨o,ho,hc,n,Nx⟩:=id Si;refine wpAny_bind (wpAny_tryCatch ?_);unfold Builtin.Dict.pairItems;refine wpAny_bind (wpAny_typeOf (show Shared.TypeIs {s with heap:=h'} (.ref a) "tuple" from⟨o,ho,hc⟩) ?_)
   rw[if_pos (by decide)]
   refine wpAny_bind (wpAny_seqItems ho Nx (wpAny_pure ?_));show wpAny _ _ (holding [key,p.2] (dictSet d key p.2)) _ _ _;refine wpAny_holding (wpAny_dictSet_pairs N5 NX (fun WQ RX OE=>?_) (by rw[List.length_cons]at hsz;omega))
   refine wpAny_pure ⟨plainId_quiet qf _,ih (i+1) (z+1) (stored kvs p.1 p.2) _ (by simp at hk ⊢;omega) (by simp at hk;omega) (Pj.extBut OE.extBut (Ne.symm Rt)) (Pf.extBut OE.extBut (Ne.symm Wd)) RX ?_ (fun j q hq=>?_) fun h3 U2 k3 d3=>?_⟩
   · have:=stored_length_le kvs p.1 p.2
     rw[List.length_cons]at hsz;omega
   · obtain⟨v2,OQ,b,Sj,rfl,OU,Mn⟩:=hp (j+1) q (by simpa using hq)
     refine⟨_,by rw[show i+1+j=i+(j+1) by omega];exact OQ,b,Sj,rfl,?_,Mn⟩
     exact(OU.extBut OZ.extBut (qW OU).1).extBut OE.extBut (qW OU).2
   · refine hR h3 U2 (fun b o hb Tt e=>k3 b o hb Tt ?_) d3
     rw[OE.2 b Tt,OZ.2 b hb];exact e
theorem Gp{E:Value→Shared→Prop}{s:Shared}{K:Type} [DecidableEq K] {knd:KeyKind prog w K} {a:Addr} {o:Obj} {items:Array Value} {n:Nat} {more:List (K×Value)} {Q:Value→Shared→Prop} (hh:A.handled=none)
   (hx:s.heap.get? a=some o) (hc:o.cls=.type "list") (Oh:o.data=.seq items n) (Oi:o.dict=none) (hlen:items.size=more.length) (hsz:more.length≤sizeLine) (hp:∀(j:Nat) p,more[j]? =some p→∃v,items[j]? =some v∧uS knd s.heap v p)
   (h:∀h' tk,(∀b ob,s.heap.get? b=some ob→h'.get? b=some ob)→h'.DictOf knd s.heap.objs.size (merged [] more)→Q (.ref s.heap.objs.size) {s with heap:=h',toks:=tk}):
   wpAny (model prog w) A (call (.type "dict") [.ref a]) Q E s:=by
 refine callType_codes (Q₁:=fun obj Ln=>obj=.ref s.heap.objs.size∧Ln={s with heap:=s.heap.push {cls:=.type "dict",data:=.dict #[]} }) F.kt_called_dict (F.kt_typeCall_dict_1 _) F.entry_dict_init (kt_code_dict_new _ ⟨rfl,rfl⟩) ?_;rintro obj Ln ⟨rfl,rfl⟩;have Ml:(s.heap.push {cls:=.type "dict",data:=.dict #[]}).DictOf knd s.heap.objs.size []:=Heap.DictOf.new s.heap;have LZ:(s.heap.push {cls:=.type "dict",data:=.dict #[]}).get? a=some o:=Heap.get?_push_of_some _ hx;have L8:a<s.heap.objs.size:=Heap.lt_size hx;have Wu:Shared.TypeIs {s with heap:=s.heap.push {cls:=.type "dict",data:=.dict #[]} } (.ref a) "list":=⟨o,LZ,hc⟩;refine⟨Ml.typeIs,F.args_dict_init_2 _ _,?_⟩;unfold Builtin.«dict.__init__»;refine wpAny_bind ?_;unfold Builtin.Dict.selfAndRest;refine wpAny_bind (wpAny_notOrdered_dict Ml.typeIs ?_);show wpAny _ _ (pure (s.heap.objs.size,[Value.ref a])) _ _ _;refine wpAny_pure ?_;show wpAny _ _ (Builtin.Dict.updateFrom "dict.__init__" s.heap.objs.size (.ref a) [] .none) _ _ _;unfold Builtin.Dict.updateFrom;refine wpAny_bind (wpAny_typeOf Wu ?_);rw[if_pos (by decide)]
 refine wpAny_bind (Cy LZ hc Oh Oi hh fun h1 Xl k1=>?_);show wpAny _ _ (rule "dict.__init__.from-pairs" >>= _) _ _ _;refine wpAny_bind (wpAny_rule ?_);have TB:h1.IsList a items:=⟨o,k1 _ _ LZ,hc,n,Oh⟩;refine wpAny_bind (wpAny_pyIter_list TB ?_)
 have PH:s.heap.objs.size<h1.objs.size:=by
   obtain⟨o',_,_,MS,_⟩:=Ml;exact Heap.lt_size (k1 _ _ MS)
 refine wpAny_pure ⟨plainId_quiet qf _,?_⟩;refine BG (knd:=knd) (prog:=prog) (w:=w) (A:=A.in1) (I:=h1.objs.size) (ax:=a) hh (Nat.ne_of_lt (Nat.lt_trans L8 PH)) (Nat.ne_of_lt PH) (Nat.ne_of_gt L8) more 0 0 [] _ (by simpa using hlen) (Nat.zero_le _) ?_ ?_ ?_ (by simpa using hsz) (fun j p hj=>?_) fun h2 V6 k2 d2=>?_
 ·exact⟨_,Heap.get?_push_size _ rfl,rfl,rfl⟩
 ·exact TB.push _
 · obtain⟨o',es,ep,MS,r⟩:=Ml
   exact⟨o',es,ep,Heap.get?_push_of_some _ (k1 _ _ MS),r⟩
 · obtain⟨v,hv,b,key,rfl,ht,hk⟩:=hp j p hj
   exact⟨_,by rw[Nat.zero_add];exact hv,b,key,rfl,((ht.push _).keeps k1).push _,hk⟩
 · refine⟨rfl,h h2 V6 (fun b ob hb=>?_) d2⟩
   have T1:b<s.heap.objs.size:=Heap.lt_size hb;exact k2 b ob (Nat.ne_of_lt (Nat.lt_trans T1 PH)) (Nat.ne_of_lt T1) (Heap.get?_push_of_some _ (k1 _ _ (Heap.get?_push_of_some _ hb)))
end
end PySem
namespace PL
open PySem PySem.Spec
open L2 (V Hp HO Cx PE PT PW PA PS cq PG d7 VK TE TT TA TS TI TG Inv RelV Vals Rd bz bN upd aq Key XK Ends bh gR b5 R2 EP It Turn dj Un)
noncomputable def gI:List D→List Ky→List D→R D
 |[],ks,vs=>.ok (.aw ks vs)
 | .tup [k,v]::r,ks,vs=>match keyOf k with
   |some q=>gI r (putL q v ks vs).1 (putL q v ks vs).2
   |none=>.bad
 |_,_,_=>.bad
def kx:D→R D
 |.lst ds=>if ds.length≤1000 then gI ds [] []else .bad
 |_=>.bad
section
variable{X:Cx}{M:Md}{G H H':Hp}{F0:Gf}{F F':Addr→Prop}{σ:L2.St}{ρ:En}{pos:Pos}{pins:List (Addr×Obj)}{s:Shared}
theorem wU(hl:ks.length=xs.length)(rs:ag M H F vs xs)(rd:Rep M H F d v):
   ∃ys,L2.putK (ks.zip xs) k v=(putL k d ks vs).1.zip ys∧(putL k d ks vs).1.length=ys.length∧ag M H F (putL k d ks vs).2 ys:=by
 rw[sf k v hl];unfold putL;by_cases hm:(ks.any fun a=>decide (a=k))=true
 · rw[if_pos hm,if_pos hm]
   exact⟨_,rfl,by rw[List.length_zipWith];show ks.length=min ks.length xs.length;omega,uy rd rs⟩
 · rw[if_neg hm,if_neg hm]
   exact⟨_,rfl,by rw[List.length_append,List.length_append,hl];rfl,rs.append (ag.cons rd ag.nil)⟩
def jP(M:Md)(H:Hp)(F:Addr→Prop):List V→List (Key×V)→Prop
 |[],[]=>True
 |x::xs,p::ps=>(∃a,x=.ref a∧dF M H F a [L2.kV p.1,p.2])∧jP M H F xs ps
 |_,_=>False
theorem zq:∀ {ds:List D} {ks:List Ky} {vs:List D} {d:D} {ps:List V} {xs:List V},gI ds ks vs=.ok d→ag M H F ds ps→ks.length=xs.length→ag M H F vs xs→
   ∃more ks' MM ys,jP M H F ps more∧more.length=ds.length∧d=.aw ks' MM∧L2.dv (ks.zip xs) more=ks'.zip ys∧ks'.length=ys.length∧ag M H F MM ys
 | [],ks,vs,d,ps,xs,e,r,hl,rs=>by
   simp only[ag]at r;subst r;cases e;exact⟨[],ks,vs,xs,True.intro,rfl,rfl,rfl,hl,rs⟩
 | c::ds,ks,vs,d,ps,xs,e,r,hl,rs=>by
   have⟨k,v,q,ec,ek,e9⟩:∃k v q,c=.tup [k,v]∧keyOf k=some q∧gI ds (putL q v ks vs).1 (putL q v ks vs).2=.ok d:=by
     unfold gI at e;split at e
     ·rename_i h;cases h
     · rename_i h
       cases h;split at e
       ·rename_i hq;exact⟨_,_,_,rfl,hq,e⟩
       ·cases e
     ·cases e
   subst ec;simp only[ag]at r;obtain⟨x,ps,rfl,rx,rp⟩:=r;simp only[Rep]at rx;obtain⟨a,zs,rfl,ht,rz⟩:=rx;obtain⟨y1,y2,rfl,r1,r2⟩:=rz.two;cases fG ek r1;obtain⟨ys,e1,l1,Ql⟩:=wU (k:=q) hl rs r2;obtain⟨more,ks',MM,Tv,h1,h2,h3,h4,h5,h6⟩:=zq e9 rp l1 Ql;refine⟨(q,y2)::more,ks',MM,Tv,⟨⟨a,rfl,ht⟩,h1⟩,by simp[h2],h3,?_,h5,h6⟩
   show L2.dv (L2.putK (ks.zip xs) q y2) more=_;rw[e1];exact h4
theorem xB(I:Inv X pins σ H s):∀ {ps:List V} {more:List (Key×V)} {B':List Value},jP (aA X) H F ps more→Vals ps B'→∃ms:List (Key×Value),L2.KV more ms∧ms.length=B'.length∧∀(j:Nat) p,ms[j]? =some p→∃v,B'[j]? =some v∧uS (L2.b0 X.prog X.w) s.heap v p
 |[],[],B',_,hv=>by cases hv;exact⟨[],.nil,rfl,fun j p h=>by simp at h⟩
 | x::ps,p::more,B',h,hv=>by
   obtain⟨⟨a,rfl,ht⟩,h⟩:=h;cases hv with
   | cons rv hv=>
     cases rv;obtain⟨ms,k1,k2,k3⟩:=xB I h hv;obtain⟨ts,tv,tt,_⟩:=kR I ht;obtain⟨u1,u2,rfl,Sb,RH⟩:=L2.vals2 tv;refine⟨(p.1,u2)::ms,.cons ⟨rfl,RH⟩ k1,by simp[k2],fun j q hq=>?_⟩
     cases j with
     |zero=>cases hq;exact⟨_,rfl,a,u1,rfl,tt,L2.gL Sb⟩
     |succ j=>exact k3 j q hq
 |[],_::_,_,h,_=>h.elim
 |_::_,[],_,h,_=>h.elim
def AL(M:Md):List V→Hp→VK→Prop:=fun xs H Q=>∃F l ps more,xs=[.ref l]∧gH M H F l ps∧jP M H F ps more∧more.length≤1000∧∀p,H p=none→Q (.ref p) (upd H p (.dK (L2.dv [] more)))
theorem yh(hc:X.calm=true):b5 X (.type "dict") (AL (aA X)):=by
 intro pins s σ H xs us Q I r h;obtain⟨F,l,ps,more,rfl,hl,hp,hz,q⟩:=h;obtain⟨u,rfl,ru⟩:=L2.vals1 r;cases ru;obtain⟨B',n,sl,hv,hg,_⟩:=kL I hl;obtain⟨ms,k1,k2,k3⟩:=xB I hp hv;have hlen:=k1.length;have h3:(sizeLine:Nat)=16777216:=sizeLine_eq;refine Gp (knd:=L2.b0 X.prog X.w) (more:=ms) (I.ok.hd hc) hg rfl rfl rfl (by rw[List.size_toArray];exact k2.symm) (by omega) (fun j p hj=>by rw[List.getElem?_toArray];exact k3 j p hj) fun h' tk hk dd=>?_
 have hm:(L2.dv [] more).length≤sizeLine:=by
   have:=L2.ql more [];rw[List.length_nil]at this;omega
 exact⟨.ref _,_,I.laid (a:=s.heap.objs.size) (o:=.dK (L2.dv [] more)) (t':=tk) hk (Nat.le_refl _) (L2.jj hm (beq_eq_false_iff_ne.mpr (Ne.symm (Nat.ne_of_lt I.big))) (k1.merge .nil) dd),rfl,q _ (I.aI.fresh (Nat.le_refl _))⟩
def Dm(M:Md)(f:Ex):TE:=fun σ H Q=>∃ρ F ks ds,bj M H F σ ρ∧f ρ=.ok (.aw ks ds)∧∀p H' xs,aq H H'→H' p=none→ks.length=xs.length→ag M H' F ds xs→Q (.ref p) (upd H' p (.dK (ks.zip xs)))
abbrev JD(X:Cx)(e:Expr)(f:Ex):Prop:=PE X e (Dm (aA X) f)
theorem JR(hc:X.calm=true)(hg:L2.Gl X "dict")(hm:X.mg "dict"=none)(ha:JE X a fa)(hs:starEach [a] X.env=(false,eval a X.env)::starEach [] X.env):JD X (.Call (.Name "dict" p) [a] [] pos) (e1 kx fa):=
 bP (L2.pb (yh hc) hg hm lG (fJ ha gB hs) (by decide) (by decide) hs) fun σ H Q ⟨ρ,F,ks,ds,hr,e,q⟩=>by
   obtain⟨d1,ed,e⟩:=az.mp e;refine⟨ρ,F,[d1],hr,by show(fa ρ).bind _=_;rw[ed];rfl,fun vs H1 s1 rv=>?_⟩
   obtain⟨y,rfl,ry⟩:=rv.one;unfold kx at e;split at e
   · rename_i es
     split at e
     · rename_i hlen
       simp only[Rep]at ry;obtain⟨a,xs,rfl,h1,rs⟩:=ry;obtain⟨more,ks',MM,ys,g1,g2,g3,g4,g5,g6⟩:=zq e rs (xs:=[]) rfl ag.nil;cases g3;refine⟨F,a,xs,more,rfl,h1,g1,by omega,fun p hp=>?_⟩
       have Vd:L2.dv [] more=ks.zip ys:=g4;rw[Vd];exact q p H1 ys s1 hp g5 g6
     ·cases e
   ·cases e
theorem Gr(i:Nat)(hN:X.N.Nodup)(he:JD X e f)(hi:X.N[i]? =some x)(hx:L2.Loc X.env.scope x)(hf:X.fn x=true∨X.env.scope.names.lookup x=some .local)
   (hs:swapsWith e (some (.Name x p2)) pos.line X.env=pure false):JS X (.Assign [.Name x p2] e pos) (kI i f):=fun F0=>
 cJ (L2.nQ hN hi hx he hs hf) fun D σ H ⟨ρ,F,fl,r,e,q⟩=>by
   obtain⟨d,ed,e⟩:=az.mp e;split at e
   · cases e
     refine⟨ρ,F,_,_,r.rs,ed,fun p H1 xs s1 hp hl rs=>?_⟩;obtain⟨mv,r'⟩:=(r.same s1).new (i:=i) (s:=.od _ _) hp (.inr ⟨_,_,xs,rfl,rfl,hl,rs⟩);exact q _ _ _ (Mv.trans (.same s1) mv) r'
   ·cases e
theorem G7(he:JD X e f)(hl:∀ρ d,f ρ=.ok d→∃ks ds,d=.aw ks ds):JE X e f:=
 pB he fun σ H Q ⟨ρ,F,d,hr,e,q⟩=>by
   obtain⟨ks,ds,rfl⟩:=hl _ _ e;refine⟨ρ,F,ks,ds,hr,e,fun p H1 xs s1 hp hl rs=>⟨p,ks.zip xs,rfl,L2.bu,fun ob=>?_⟩⟩;rw[L2.qM];refine q _ _ (s1.trans (aq.cm hp _)) ?_;simp only[Rep];exact⟨p,xs,rfl,.inl ⟨lH (hr.same s1).aX hp,ob,L2.bu⟩,hl,rs.mv (.same (aq.cm hp _))⟩
theorem zi:∀ {ds:List D} {ks:List Ky} {vs:List D} {d:D},gI ds ks vs=.ok d→∃ks' MM,d=.aw ks' MM
 |[],_,_,_,e=>by cases e;exact⟨_,_,rfl⟩
 | c::ds,ks,vs,d,e=>by
   unfold gI at e;split at e
   ·rename_i h;cases h
   · rename_i h
     cases h;split at e
     ·exact zi e
     ·cases e
   ·cases e
theorem G3(ρ:En)(d:D)(h:e1 kx fa ρ=.ok d):∃ks ds,d=.aw ks ds:=by
 obtain⟨x,ex,e⟩:=az.mp h;unfold kx at e;split at e
 · split at e
   ·exact zi e
   ·cases e
 ·cases e
noncomputable def gG:List Ky→List D→List Ky→List D→List Ky×List D
 |k::ks,v::vs,as,bs=>gG ks vs (putL k v as bs).1 (putL k v as bs).2
 |_,_,as,bs=>(as,bs)
noncomputable def mR(i:Nat)(e:Ex):Sm:=fun ρ=>(e ρ).bind fun d=>match d,ρ[i]? with
 |.aw ks vs,some (.od as bs)=>if ks.length+as.length<1000 then .ok (.next (ρ.set i (.od (gG ks vs as bs).1 (gG ks vs as bs).2)))else .bad
 |_,_=>.bad
theorem yO:∀ {ks:List Ky} {vs:List D} {ys:List V} {as:List Ky} {bs:List D} {xs:List V},ks.length=ys.length→ag M H F vs ys→as.length=xs.length→ag M H F bs xs→
   ∃zs,L2.dv (as.zip xs) (ks.zip ys)=(gG ks vs as bs).1.zip zs∧(gG ks vs as bs).1.length=zs.length∧ag M H F (gG ks vs as bs).2 zs
 | [],vs,ys,as,bs,xs,_,_,hl,rs=>by
   have:gG [] vs as bs=(as,bs):=by unfold gG;cases vs<;>rfl
   rw[this];exact⟨xs,rfl,hl,rs⟩
 | k::ks,vs,ys,as,bs,xs,h,rv,hl,rs=>by
   cases ys with
   |nil=>cases h
   | cons y ys=>
     cases vs with
     |nil=>simp only[ag]at rv;cases rv
     | cons v vs=>
       simp only[ag]at rv;obtain⟨_,_,e,r1,r2⟩:=rv;cases e;obtain⟨zs,e1,l1,Ql⟩:=wU (k:=k) hl rs r1;obtain⟨ws,e2,l2,N8⟩:=yO (by simpa using h) r2 l1 Ql
       refine⟨ws,?_,l2,N8⟩;show L2.dv (L2.putK (as.zip xs) k y) (ks.zip ys)=_;rw[e1];exact e2
theorem Gy(I0:Inv X pins σ H s)(e0:H a=some (.dK kvs))(I1:Inv X pins σ H1 s1)(e1:H1 a=some (.frz ob (.dK kvs))):Inv X pins σ (upd H1 a (.dK kvs)) s1:=by
 have nn:∀ {b},H1 b=none→upd H1 a (.dK kvs) b=none:=fun {b} h=>by rw[L2.aF (fun z=>by subst z;rw[e1]at h;cases h)];exact h
 refine⟨I1.ok,I1.os,I1.bare,⟨I1.base.keep,I1.base.slot,fun b o h n x=>nn (I1.base.free b o h n x),I1.base.there,fun b xs h=>?_,fun b o u h=>?_,fun b ps h=>?_⟩,I1.loc,I1.cell,nn I1.free,fun x c h=>nn (I1.gE x c h),fun p hp=>?_,fun b o h=>?_,I1.len⟩
 · have h1:=I1.base.fq b xs h
   rw[L2.aF (fun z=>by subst z;rw[e1]at h1;cases h1)];exact h1
 · have h0:=I0.base.dU b o u h
   rw[L2.aF (fun z=>by subst z;rw[e0]at h0;cases h0)];exact I1.base.dU b o u h
 · obtain⟨more,h1⟩:=I1.base.fA b ps h
   exact⟨more,by rw[L2.aF (fun z=>by subst z;rw[e1]at h1;cases h1)];exact h1⟩
 · obtain⟨h1,h2,h3⟩:=I1.pin p hp
   exact⟨h1,nn h2,h3⟩
 · by_cases hb:b=a
   · subst hb
     rw[L2.bu]at h;cases h;obtain⟨_,z,y,vs,r,dd⟩:=I1.aI b _ e1;exact⟨z,y,vs,r,dd⟩
   · rw[L2.aF hb]at h
     refine(I1.aI b o h).dX (fun c u _ q=>q) (fun c q=>?_) fun c xs q=>?_
     ·rw[L2.aF (fun z=>by subst z;rw[e1]at q;cases q)];exact q
     ·rw[L2.aF (fun z=>by subst z;rw[e1]at q;cases q)];exact q
mutual
theorem Rep.ia(o:∀a xs,dF M H F a xs→dF M H2 F2 a xs):∀ {d:D} {v:V},cf d=true→Rep M H F d v→Rep M H2 F2 d v
 |.aH,_,_,h=>by simp only[Rep]at h ⊢;exact h
 |.bl _,_,_,h=>by simp only[Rep]at h ⊢;exact h
 |.int _,_,_,h=>by simp only[Rep]at h ⊢;exact h
 |.str _,_,_,h=>by simp only[Rep]at h ⊢;exact h
 | .tup ds,_,n,h=>by
   simp only[Rep]at h ⊢;obtain⟨a,xs,e,t,r⟩:=h;exact⟨a,xs,e,o _ _ t,ag.ia o (by unfold PL.cf at n;exact n) r⟩
 |.lst _,_,n,_=>by unfold PL.cf at n;cases n
 |.aw _ _,_,n,_=>by unfold PL.cf at n;cases n
 |.cD _ _ _,_,n,_=>by unfold PL.cf at n;cases n
theorem ag.ia(o:∀a xs,dF M H F a xs→dF M H2 F2 a xs):∀ {ds:List D} {xs:List V},er ds=true→ag M H F ds xs→ag M H2 F2 ds xs
 |[],_,_,h=>by simp only[ag]at h ⊢;exact h
 | d::ds,_,n,h=>by
   unfold er at n;rw[Bool.and_eq_true]at n;simp only[ag]at h ⊢;obtain⟨x,r,e,h1,h2⟩:=h;exact⟨x,r,e,Rep.ia o n.1 h1,ag.ia o n.2 h2⟩
end
end
end PL
namespace PySem
namespace F
end F
section
variable{prog:Program}{w:World}{A:Around}{E:Value→Shared→Prop}{s:Shared}{a:Addr}{o:Obj}{ep:Nat}{t:SetTable}
end
end PySem
namespace PL
open PySem PySem.Spec
open L2 (V Hp HO Cx PE PT PW PA PS cq PG d7 VK TE TT TA TS TI TG Inv RelV Vals Rd bz bN upd aq Key XK Ends bh gR b5 R2 EP It Turn dj Un)
noncomputable def mj(fk fv:Ex):Ex:=fun ρ=>(fk ρ).bind fun k=>(fv ρ).bind fun v=>match keyOf k with
 |some q=>.ok (.aw [q] [v])
 |none=>.bad
section
variable{X:Cx}{M:Md}{G H H':Hp}{F0:Gf}{F F':Addr→Prop}{σ:L2.St}{ρ:En}{pos:Pos}{pins:List (Addr×Obj)}{s:Shared}
theorem ER(hk:JE X k fk)(hv:JE X v fv):JE X (.Dict [some k] [v] pos) (mj fk fv):=by
 refine pB (L2.sL (L2.qU hk hv L2.um) rfl rfl (by simp) (by show 1≤15;decide)) fun σ H Q ⟨ρ,F,d,hr,e,q⟩=>?_
 obtain⟨a,ea,e⟩:=az.mp e;obtain⟨b,eb,e⟩:=az.mp e;split at e
 · rename_i z hz
   cases e;intro p hp;have P5:=hr.fresh (o:=.dK []) hp;refine⟨ρ,_,a,P5,ea,fun x H1 s1 rx=>⟨ρ,_,b,P5.same s1,eb,fun y H2 s2 ry=>?_⟩⟩;cases fG hz rx;have e2:H2 p=some (.dK []):=s2 _ _ (s1 _ _ L2.bu);refine⟨e2,[(z,y)],rfl,(by show 1≤15;decide),p,[(z,y)],rfl,L2.bu,fun ob=>?_⟩
   rw[L2.qM]
   have sm:aq H (upd H2 p (.frz ob (.dK [(z,y)]))):=fun c u hc=>by
     have ne:c≠p:=fun w=>by subst w;rw[hp]at hc;cases hc
     rw[L2.aF ne];exact s2 _ _ (s1 _ _ (by rw[L2.aF ne];exact hc))
   have nF:¬F p:=lH hr.aX hp;have mv:Mv (fun b=>F b∨b=p) H2 F (upd H2 p (.frz ob (.dK [(z,y)]))):=fun b u n e=>⟨fun h=>n (.inl h),by rw[L2.aF (fun z=>n (.inr z))];exact e⟩
   refine q _ _ sm ?_;simp only[Rep];exact⟨p,[y],rfl,.inl ⟨nF,ob,L2.bu⟩,rfl,ag.cons (ry.mv mv) ag.nil⟩
 ·cases e
end
mutual
noncomputable def T.toD:T→D
 |.d x=>x
 |.l ts=>.lst (T.fT ts)
 |.m ks ts=>.aw ks (T.fT ts)
 |.tu ts=>.tup (T.fT ts)
noncomputable def T.fT:List T→List D
 |[]=>[]
 |t::ts=>T.toD t::T.fT ts
end
noncomputable def T.at:T→List Nat→Option T
 |t,[]=>some t
 | .l ts,k::p=>match ts[k]? with
   |some t=>T.at t p
   |none=>none
 | .m _ ts,k::p=>match ts[k]? with
   |some t=>T.at t p
   |none=>none
 | .tu ts,k::p=>match ts[k]? with
   |some t=>T.at t p
   |none=>none
 |.d _,_::_=>none
noncomputable def T.put(n:T):T→List Nat→T
 |_,[]=>n
 | .l ts,k::p=>match ts[k]? with
   |some t=>.l (ts.set k (T.put n t p))
   |none=>.l ts
 | .m ks ts,k::p=>match ts[k]? with
   |some t=>.m ks (ts.set k (T.put n t p))
   |none=>.m ks ts
 | .tu ts,k::p=>match ts[k]? with
   |some t=>.tu (ts.set k (T.put n t p))
   |none=>.tu ts
 |.d x,_::_=>.d x
section
variable{X:Cx}{M:Md}{G H H':Hp}{F0:Gf}{F F':Addr→Prop}{σ:L2.St}{ρ:En}{pos:Pos}{pins:List (Addr×Obj)}{s:Shared}
mutual
theorem ak.less(hs:∀a,F' a→F a):∀ {t:T} {v:V} {as:List Addr},(∀b∈as,F' b)→ak M H F t v as→ak M H F' t v as
 | .d x,v,as,_,h=>by
   simp only[ak]at h ⊢;exact⟨h.1,h.2.sub hs⟩
 | .l ts,v,as,k,h=>by
   simp only[ak]at h ⊢;obtain⟨a,xs,bs,e1,rfl,f,e2,r⟩:=h;exact⟨a,xs,bs,e1,rfl,k a List.mem_cons_self,e2,av.less hs (fun b hb=>k b (List.mem_cons_of_mem _ hb)) r⟩
 | .m ks ts,v,as,k,h=>by
   simp only[ak]at h ⊢;obtain⟨a,xs,bs,e1,rfl,f,e2,l,r⟩:=h;exact⟨a,xs,bs,e1,rfl,k a List.mem_cons_self,e2,l,av.less hs (fun b hb=>k b (List.mem_cons_of_mem _ hb)) r⟩
 | .tu ts,v,as,k,h=>by
   simp only[ak]at h ⊢;obtain⟨a,xs,e1,f,e2,r⟩:=h;exact⟨a,xs,e1,fun z=>f (hs a z),e2,av.less hs k r⟩
theorem av.less(hs:∀a,F' a→F a):∀ {ts:List T} {xs:List V} {as:List Addr},(∀b∈as,F' b)→av M H F ts xs as→av M H F' ts xs as
 |[],xs,as,_,h=>by simp only[av]at h ⊢;exact h
 | t::ts,xs,as,k,h=>by
   simp only[av]at h ⊢;obtain⟨x,r,bs,cs,e1,rfl,h1,h2⟩:=h;exact⟨x,r,bs,cs,e1,rfl,ak.less hs (fun b hb=>k b (List.mem_append_left _ hb)) h1,av.less hs (fun b hb=>k b (List.mem_append_right _ hb)) h2⟩
end
theorem av.part:∀ {ts:List T} {xs:List V} {as:List Addr} {k:Nat} {t:T},av M H F ts xs as→ts[k]? =some t→∃x bs,xs[k]? =some x∧ak M H F t x bs∧bs.Sublist as
 |[],_,_,_,_,_,e=>by simp at e
 | t::ts,xs,as,0,_,h,e=>by
   simp only[av]at h;obtain⟨x,r,bs,cs,rfl,rfl,h1,h2⟩:=h;cases e;exact⟨x,bs,rfl,h1,List.sublist_append_left _ _⟩
 | t::ts,xs,as,k+1,_,h,e=>by
   simp only[av]at h;obtain⟨x,r,bs,cs,rfl,rfl,h1,h2⟩:=h;obtain⟨y,ds,h3,h4,h5⟩:=av.part h2 (by simpa using e)
   exact⟨y,ds,by simpa using h3,h4,h5.trans (List.sublist_append_right _ _)⟩
theorem av.chg{H2:Hp}{F2:Addr→Prop}{N:List Addr}{c:Addr}{t':T}{x:V}(m:Mv F H F2 H2)(hk:∀b u,b≠c→H b=some u→H2 b=some u)(Pu:∀b,F b→F2 b):∀ {j:Nat} {ts:List T} {xs:List V} {as:List Addr} {t:T},av M H F ts xs as→as.Nodup→ts[j]? =some t→xs[j]? =some x→
   (∀bs,ak M H F t x bs→bs.Nodup→c∈bs∧∃NT,ak M H2 F2 t' x NT∧NT.Nodup∧(∀b∈NT,b∈bs∨(b∈N∧H b=none))∧∀b∈N,b∈NT)→
   c∈as∧∃LD,av M H2 F2 (ts.set j t') xs LD∧LD.Nodup∧(∀b∈LD,b∈as∨(b∈N∧H b=none))∧∀b∈N,b∈LD
 |j,[],_,_,_,_,_,e,_,_=>by simp at e
 | 0,t::ts,xs,as,_,h,nd,e,ex,k=>by
   simp only[av]at h;obtain⟨y,r,bs,cs,rfl,rfl,h1,h2⟩:=h;cases e;cases ex;have LI:=List.nodup_append.mp nd;obtain⟨hc,NT,k1,k2,k3,k4⟩:=k bs h1 LI.1;refine⟨List.mem_append_left _ hc,NT++cs,?_,List.nodup_append.mpr ⟨k2,LI.2.1,fun a ha b hb z=>?_⟩,fun b hb=>?_,fun b hb=>List.mem_append_left _ (k4 b hb)⟩
   · rw[List.set_cons_zero]
     simp only[av];refine⟨_,r,NT,cs,rfl,rfl,k1,h2.mv m fun b hb u f hu=>⟨Pu b f,hk b u (fun z=>?_) hu⟩⟩;subst z;exact LI.2.2 b hc b hb rfl
   · subst z
     rcases k3 a ha with h|⟨_,h⟩
     ·exact LI.2.2 a h a hb rfl
     · obtain⟨_,u,hu⟩:=h2.fs a hb
       rw[h]at hu;cases hu
   · rcases List.mem_append.mp hb with hb|hb
     ·exact(k3 b hb).imp (List.mem_append_left _) id
     ·exact .inl (List.mem_append_right _ hb)
 | j+1,t::ts,xs,as,_,h,nd,e,ex,k=>by
   simp only[av]at h;obtain⟨y,r,bs,cs,rfl,rfl,h1,h2⟩:=h;have LI:=List.nodup_append.mp nd;obtain⟨hc,My,k1,k2,k3,k4⟩:=av.chg m hk Pu h2 LI.2.1 (by simpa using e) (by simpa using ex) k
   refine⟨List.mem_append_right _ hc,bs++My,?_,List.nodup_append.mpr ⟨LI.1,k2,fun a ha b hb z=>?_⟩,fun b hb=>?_,fun b hb=>List.mem_append_right _ (k4 b hb)⟩
   · rw[List.set_cons_succ]
     simp only[av];refine⟨y,r,bs,My,rfl,rfl,h1.mv m fun b hb u f hu=>⟨Pu b f,hk b u (fun z=>?_) hu⟩,k1⟩;subst z;exact LI.2.2 b hb b hc rfl
   · subst z
     rcases k3 a hb with h|⟨_,h⟩
     ·exact LI.2.2 a ha a h rfl
     · obtain⟨_,u,hu⟩:=h1.fs a ha
       rw[h]at hu;cases hu
   · rcases List.mem_append.mp hb with hb|hb
     ·exact .inl (List.mem_append_left _ hb)
     ·exact(k3 b hb).imp (List.mem_append_right _) id
theorem zip_inj{ks:List Ky}{xs ys:List V}(l1:ks.length=xs.length)(l2:ks.length=ys.length)(h:ks.zip xs=ks.zip ys):xs=ys:=by
 have h1:=congrArg (List.map Prod.snd) h;rw[List.map_snd_zip (by omega),List.map_snd_zip (by omega)]at h1
 exact h1
structure gd(M:Md)(H H2:Hp)(F F2:Addr→Prop)(c:Addr)(n0 n1:T)(N3 Nt:List Addr):Prop where
 old:ak M H F n0 (.ref c) N3
 mem:c∈N3
 new:ak M H2 F2 n1 (.ref c) Nt
 nd:Nt.Nodup
 out:∀b u,b≠c→H b=some u→H2 b=some u
 fs:∀b,F2 b↔F b∨b∈Nt
 lF:∀b∈Nt,b∈N3∨H b=none
theorem gd.fc(C:gd M H H2 F F2 c n0 n1 N3 Nt):F c:=(C.old.fs c C.mem).1
theorem gd.mv{H2:Hp}{F2:Addr→Prop}{c:Addr}{n0 n1:T}{N3 Nt:List Addr}(C:gd M H H2 F F2 c n0 n1 N3 Nt):Mv F H F2 H2:=fun b o n e=>
 ⟨fun f=>((C.fs b).mp f).elim n fun hb=>(C.lF b hb).elim (fun h=>n (C.old.fs b h).1) (fun h=>by rw[h]at e;cases e),C.out b o (fun z=>by subst z;exact n C.fc) e⟩
theorem ak.put{H2:Hp}{F2:Addr→Prop}{n0 n1:T}{c:Addr}{N3 Nt:List Addr}(C:gd M H H2 F F2 c n0 n1 N3 Nt):∀ {p:List Nat} {t:T} {v:V} {as:List Addr},ak M H F t v as→as.Nodup→aD H t v p n0 (.ref c)→
   c∈as∧∃Np,ak M H2 F2 (T.put n1 t p) v Np∧Np.Nodup∧(∀b∈Np,b∈as∨(b∈Nt∧H b=none))∧∀b∈Nt,b∈Np
 | [],t,v,as,h,nd,e=>by
   have e':t=n0∧v=.ref c:=by cases t<;>exact e
   obtain⟨rfl,rfl⟩:=e';have:=ak.gx C.old h;subst this;have ep:T.put n1 t []=n1:=by cases t<;>rfl
   rw[ep];exact⟨C.mem,Nt,C.new,C.nd,fun b hb=>(C.lF b hb).imp id fun h=>⟨hb,h⟩,fun b hb=>hb⟩
 | k::p,.l ts,v,as,h,nd,e=>by
   simp only[aD]at e;simp only[ak]at h;obtain⟨a,xs,t1,x1,rfl,e2,et,ex,e⟩:=e;obtain⟨a',ys,bs,ea,rfl,f,MO,r⟩:=h;cases ea;have e9:xs=ys:=by rw[MO]at e2;injection e2 with e2;injection e2 with e2;exact e2.symm
   subst e9;have LI:=List.nodup_cons.mp nd;obtain⟨hc,LD,k1,k2,k3,k4⟩:=av.chg (t':=T.put n1 t1 p) C.mv C.out (fun b f=>(C.fs b).mpr (.inl f)) r LI.2 et ex fun NT MN QN=>ak.put C MN QN e;have OL:a≠c:=fun z=>by subst z;exact LI.1 hc
   refine⟨List.mem_cons_of_mem _ hc,a::LD,?_,List.nodup_cons.mpr ⟨fun ha=>?_,k2⟩,fun b hb=>?_,fun b hb=>List.mem_cons_of_mem _ (k4 b hb)⟩
   · show ak M _ _ (match ts[k]? with|some t=>T.l (ts.set k (T.put n1 t p))|none=>T.l ts) _ _
     rw[et];simp only[ak];exact⟨a,_,LD,rfl,rfl,(C.fs a).mpr (.inl f),C.out a _ OL MO,k1⟩
   · rcases k3 a ha with h|⟨_,h⟩
     ·exact LI.1 h
     ·rw[h]at MO;cases MO
   · rcases List.mem_cons.mp hb with rfl|hb
     ·exact .inl List.mem_cons_self
     ·exact(k3 b hb).imp (List.mem_cons_of_mem _) id
 | k::p,.m ks0 ts,v,as,h,nd,e=>by
   simp only[aD]at e;simp only[ak]at h;obtain⟨a,xs,t1,x1,rfl,e2,l1,et,ex,e⟩:=e;obtain⟨a',ys,bs,ea,rfl,f,MO,l2,r⟩:=h;cases ea;have e9:xs=ys:=zip_inj l1 l2 (by rw[MO]at e2;injection e2 with z;injection z with z;exact z.symm)
   subst e9;have LI:=List.nodup_cons.mp nd;obtain⟨hc,LD,k1,k2,k3,k4⟩:=av.chg (t':=T.put n1 t1 p) C.mv C.out (fun b f=>(C.fs b).mpr (.inl f)) r LI.2 et ex fun NT MN QN=>ak.put C MN QN e;have OL:a≠c:=fun z=>by subst z;exact LI.1 hc
   refine⟨List.mem_cons_of_mem _ hc,a::LD,?_,List.nodup_cons.mpr ⟨fun ha=>?_,k2⟩,fun b hb=>?_,fun b hb=>List.mem_cons_of_mem _ (k4 b hb)⟩
   · show ak M _ _ (match ts[k]? with|some t=>T.m ks0 (ts.set k (T.put n1 t p))|none=>T.m ks0 ts) _ _
     rw[et];simp only[ak];exact⟨a,xs,LD,rfl,rfl,(C.fs a).mpr (.inl f),C.out a _ OL MO,l1,k1⟩
   · rcases k3 a ha with h|⟨_,h⟩
     ·exact LI.1 h
     ·rw[h]at MO;cases MO
   · rcases List.mem_cons.mp hb with rfl|hb
     ·exact .inl List.mem_cons_self
     ·exact(k3 b hb).imp (List.mem_cons_of_mem _) id
 | k::p,.tu ts,v,as,h,nd,e=>by
   simp only[aD]at e;simp only[ak]at h;obtain⟨a,xs,t1,x1,rfl,e2,et,ex,e⟩:=e;obtain⟨a',ys,ea,f,MO,r⟩:=h;cases ea;have e9:xs=ys:=by rw[MO]at e2;injection e2 with e2;injection e2 with e2;exact e2.symm
   subst e9;obtain⟨hc,LD,k1,k2,k3,k4⟩:=av.chg (t':=T.put n1 t1 p) C.mv C.out (fun b f=>(C.fs b).mpr (.inl f)) r nd et ex fun NT MN QN=>ak.put C MN QN e;refine⟨hc,LD,?_,k2,k3,k4⟩;show ak M _ _ (match ts[k]? with|some t=>T.tu (ts.set k (T.put n1 t p))|none=>T.tu ts) _ _
   rw[et];simp only[ak];exact⟨a,_,rfl,(C.mv _ _ f MO).1,(C.mv _ _ f MO).2,k1⟩
 |k::p,.d _,v,as,h,nd,e=>e.elim
end
section
variable{X:Cx}{M:Md}{G H H':Hp}{F0:Gf}{F F':Addr→Prop}{σ:L2.St}{ρ:En}{pos:Pos}{pins:List (Addr×Obj)}{s:Shared}
theorem T.C8(hn:n.own=true):∀ {t:T} {p:List Nat},t.own=true→(T.put n t p).own=true
 |t,[],_=>by cases t<;>exact hn
 |.l ts,k::p,_=>by unfold T.put;split<;>rfl
 |.m ks ts,k::p,_=>by unfold T.put;split<;>rfl
 |.d x,k::p,h=>by cases h
 |.tu ts,k::p,h=>by cases h
theorem aD.part:∀ {p:List Nat} {t:T} {v:V} {t1:T} {w:V} {as:List Addr},ak M H F t v as→aD H t v p t1 w→∃bs,ak M H F t1 w bs∧bs.Sublist as
 | [],t,v,t1,w,as,tr,h=>by
   have e':t=t1∧v=w:=by cases t<;>exact h
   obtain⟨rfl,rfl⟩:=e';exact⟨as,tr,List.Sublist.refl _⟩
 | k::p,.l ts,v,t1,w,as,tr,h=>by
   simp only[aD]at h;simp only[ak]at tr;obtain⟨a,xs,tp,xp,rfl,e2,Mw,exp,h⟩:=h;obtain⟨a2,ys,bs,Oj,rfl,f,MT,r⟩:=tr;cases Oj;have e9:xs=ys:=by rw[MT]at e2;injection e2 with z;injection z with z;exact z.symm
   subst e9;obtain⟨Qq,dp,Mb,rp,Mj⟩:=r.part Mw;rw[exp]at Mb;cases Mb;obtain⟨cs,h1,h2⟩:=aD.part rp h;exact⟨cs,h1,(h2.trans Mj).trans (List.sublist_cons_self _ _)⟩
 | k::p,.m ks0 ts,v,t1,w,as,tr,h=>by
   simp only[aD]at h;simp only[ak]at tr;obtain⟨a,xs,tp,xp,rfl,e2,l1,Mw,exp,h⟩:=h;obtain⟨a2,ys,bs,Oj,rfl,f,MT,l2,r⟩:=tr;cases Oj;have e9:xs=ys:=zip_inj l1 l2 (by rw[MT]at e2;injection e2 with z;injection z with z;exact z.symm)
   subst e9;obtain⟨Qq,dp,Mb,rp,Mj⟩:=r.part Mw;rw[exp]at Mb;cases Mb;obtain⟨cs,h1,h2⟩:=aD.part rp h;exact⟨cs,h1,(h2.trans Mj).trans (List.sublist_cons_self _ _)⟩
 | k::p,.tu ts,v,t1,w,as,tr,h=>by
   simp only[aD]at h;simp only[ak]at tr;obtain⟨a,xs,tp,xp,rfl,e2,Mw,exp,h⟩:=h;obtain⟨a2,ys,Oj,f,MT,r⟩:=tr;cases Oj;have e9:xs=ys:=by rw[MT]at e2;injection e2 with z;injection z with z;exact z.symm
   subst e9;obtain⟨Qq,dp,Mb,rp,Mj⟩:=r.part Mw;rw[exp]at Mb;cases Mb;obtain⟨cs,h1,h2⟩:=aD.part rp h;exact⟨cs,h1,h2.trans Mj⟩
 |k::p,.d _,v,t1,w,as,tr,h=>h.elim
theorem av.apart:∀ {ts:List T} {xs:List V} {as:List Addr} {j k:Nat} {tj tk:T} {xj xk:V} {bs cs:List Addr},av M H F ts xs as→as.Nodup→j≠k→ts[j]? =some tj→ts[k]? =some tk→xs[j]? =some xj→xs[k]? =some xk→ak M H F tj xj bs→ak M H F tk xk cs→∀b∈bs,b∉cs
 |[],_,_,_,_,_,_,_,_,_,_,_,_,_,e,_,_,_,_,_=>by simp at e
 | t::ts,xs,as,j,k,tj,tk,xj,xk,bs,cs,h,nd,C',ej,ek,Sr,Se,rj,rk=>by
   simp only[av]at h;obtain⟨x,r,b1,c1,rfl,rfl,h1,h2⟩:=h;have LI:=List.nodup_append.mp nd;cases j with
   | zero=>
     cases k with
     |zero=>exact absurd rfl C'
     | succ k=>
       cases ej;cases Sr;have:=ak.gx h1 rj;subst this;obtain⟨y,ds,ey,ry,sub⟩:=h2.part (k:=k) (by simpa using ek)
       have Pl:r[k]? =some xk:=by simpa using Se
       rw[ey]at Pl;cases Pl;have:=ak.gx ry rk;subst this;exact fun b hb hc=>LI.2.2 b hb b (sub.subset hc) rfl
   | succ j=>
     cases k with
     | zero=>
       cases ek;cases Se;have:=ak.gx h1 rk;subst this;obtain⟨y,ds,ey,ry,sub⟩:=h2.part (k:=j) (by simpa using ej)
       have Pl:r[j]? =some xj:=by simpa using Sr
       rw[ey]at Pl;cases Pl;have:=ak.gx ry rj;subst this;exact fun b hb hc=>LI.2.2 b hc b (sub.subset hb) rfl
     |succ k=>exact av.apart (j:=j) (k:=k) h2 LI.2.1 (by omega) (by simpa using ej) (by simpa using ek) (by simpa using Sr) (by simpa using Se) rj rk
theorem sP{α:Type}{l:List α}{k:Nat}{a b:α}(h:l[k]? =some a):(l.set k b)[k]? =some b:=by
 rw[List.getElem?_set_self (List.getElem?_eq_some_iff.mp h).1]
noncomputable def below:List Nat→List Nat→Bool
 |[],_::_=>true
 |k::p,j::q=>decide (k=j)&&below p q
 |_,_=>false
theorem ak.head(h:ak M H F t (.ref c) as)(ho:t.own=true):c∈as:=by
 cases t with
 |d x=>cases ho
 |tu ts=>cases ho
 |l ts=>simp only[ak]at h;obtain⟨a,xs,bs,e,rfl,_⟩:=h;cases e;exact List.mem_cons_self
 |m ks ts=>simp only[ak]at h;obtain⟨a,xs,bs,e,rfl,_⟩:=h;cases e;exact List.mem_cons_self
theorem aD.lF:∀ {p q:List Nat} {t:T} {v:V} {n0 t1:T} {x w:V},aD H t v p n0 x→aD H t v q t1 w→below p q=true→∃k r,aD H n0 x (k::r) t1 w
 |[],[],_,_,_,_,_,_,_,_,hb=>by cases hb
 | [],k::r,t,v,n0,t1,x,w,hp,hq,_=>by
   have e':t=n0∧v=x:=by cases t<;>exact hp
   obtain⟨rfl,rfl⟩:=e';exact⟨k,r,hq⟩
 |k::p,[],_,_,_,_,_,_,_,_,hb=>by cases hb
 | k::p,k'::q,.l ts,v,n0,t1,x,w,hp,hq,hb=>by
   unfold below at hb;rw[Bool.and_eq_true,decide_eq_true_eq]at hb;obtain⟨rfl,hb⟩:=hb;simp only[aD]at hp hq;obtain⟨a,xs,tp,xp,rfl,e2,Mw,exp,hp⟩:=hp;obtain⟨a1,N6,tq,xq,Ob,Nn,MF,ME,hq⟩:=hq;cases Ob;have e8:N6=xs:=by rw[e2]at Nn;injection Nn with z;injection z with z;exact z.symm
   subst e8;rw[Mw]at MF;cases MF;rw[exp]at ME;cases ME;exact aD.lF hp hq hb
 | k::p,k'::q,.m ks ts,v,n0,t1,x,w,hp,hq,hb=>by
   unfold below at hb;rw[Bool.and_eq_true,decide_eq_true_eq]at hb;obtain⟨rfl,hb⟩:=hb;simp only[aD]at hp hq;obtain⟨a,xs,tp,xp,rfl,e2,l1,Mw,exp,hp⟩:=hp;obtain⟨a1,N6,tq,xq,Ob,Nn,l2,MF,ME,hq⟩:=hq;cases Ob;have e8:N6=xs:=zip_inj l2 l1 (by rw[e2]at Nn;injection Nn with z;injection z with z;exact z.symm)
   subst e8;rw[Mw]at MF;cases MF;rw[exp]at ME;cases ME;exact aD.lF hp hq hb
 | k::p,k'::q,.tu ts,v,n0,t1,x,w,hp,hq,hb=>by
   unfold below at hb;rw[Bool.and_eq_true,decide_eq_true_eq]at hb;obtain⟨rfl,hb⟩:=hb;simp only[aD]at hp hq;obtain⟨a,xs,tp,xp,rfl,e2,Mw,exp,hp⟩:=hp;obtain⟨a1,N6,tq,xq,Ob,Nn,MF,ME,hq⟩:=hq;cases Ob;have e8:N6=xs:=by rw[e2]at Nn;injection Nn with z;injection z with z;exact z.symm
   subst e8;rw[Mw]at MF;cases MF;rw[exp]at ME;cases ME;exact aD.lF hp hq hb
 |k::p,k'::q,.d _,v,n0,t1,x,w,hp,hq,hb=>hp.elim
theorem aD.put{H2:Hp}{F2:Addr→Prop}{n0 n1:T}{c:Addr}{N3 Nt:List Addr}(C:gd M H H2 F F2 c n0 n1 N3 Nt)(o1:n1.own=true):∀ {q:List Nat} {p:List Nat} {t:T} {v:V} {t1:T} {w:V} {as:List Addr},ak M H F t v as→as.Nodup→aD H t v p n0 (.ref c)→aD H t v q t1 w→t1.own=true→below p q=false→
   ∃t2,t2.own=true∧aD H2 (T.put n1 t p) v q t2 w
 | [],p,t,v,t1,w,as,tr,nd,hp,hq,ho,_=>by
   have e':t=t1∧v=w:=by cases t<;>exact hq
   obtain⟨rfl,rfl⟩:=e';refine⟨T.put n1 t p,T.C8 o1 ho,?_⟩;generalize T.put n1 t p=t2;cases t2<;>exact⟨rfl,rfl⟩
 |k'::q,[],t,v,t1,w,as,tr,nd,hp,hq,ho,hb=>by cases hb
 | k'::q,k::p,.l ts,v,t1,w,as,tr,nd,hp,hq,ho,hb=>by
   simp only[aD]at hp hq;simp only[ak]at tr;obtain⟨a,xs,tp,xp,rfl,e2,Mw,exp,hp⟩:=hp;obtain⟨a1,N6,tq,xq,Ob,Nn,MF,ME,hq⟩:=hq;obtain⟨a2,ys,bs,Oj,rfl,f,MT,r⟩:=tr;cases Ob;cases Oj;have e8:N6=ys:=by rw[MT]at Nn;injection Nn with z;injection z with z;exact z.symm
   have e9:xs=ys:=by rw[MT]at e2;injection e2 with z;injection z with z;exact z.symm
   subst e8 e9;have LI:=List.nodup_cons.mp nd;obtain⟨Qq,dp,Mb,rp,Mj⟩:=r.part Mw;rw[exp]at Mb;cases Mb;obtain⟨hc,_⟩:=ak.put C rp (LI.2.sublist Mj) hp;have OL:a≠c:=fun z=>by subst z;exact LI.1 (Mj.subset hc)
   show ∃t2,t2.own=true∧aD _ (match ts[k]? with|some t=>T.l (ts.set k (T.put n1 t p))|none=>T.l ts) _ _ t2 w
   rw[Mw];by_cases Nl:k=k'
   · subst Nl
     rw[Mw]at MF;cases MF;rw[exp]at ME;cases ME;obtain⟨t2,o2,h2⟩:=aD.put C o1 rp (LI.2.sublist Mj) hp hq ho (by simpa[below] using hb)
     refine⟨t2,o2,?_⟩;simp only[aD];exact⟨a,_,_,_,rfl,C.out a _ OL MT,sP Mw,exp,h2⟩
   · obtain⟨SV,dq,Nj,rq,Qs⟩:=r.part MF
     rw[ME]at Nj;cases Nj;refine⟨t1,ho,?_⟩;simp only[aD];refine⟨a,_,tq,xq,rfl,C.out a _ OL MT,by rw[List.getElem?_set_ne Nl];exact MF,ME,hq.mv (fun a o n e=>(C.mv a o n e).2) rq fun b hb u fb hu=>C.out b u (fun z=>?_) hu⟩
     subst z;exact av.apart r LI.2 Nl Mw MF exp ME rp rq _ hc hb
 | k'::q,k::p,.m ks0 ts,v,t1,w,as,tr,nd,hp,hq,ho,hb=>by
   simp only[aD]at hp hq;simp only[ak]at tr;obtain⟨a,xs,tp,xp,rfl,e2,l0,Mw,exp,hp⟩:=hp;obtain⟨a1,N6,tq,xq,Ob,Nn,l1,MF,ME,hq⟩:=hq;obtain⟨a2,ys,bs,Oj,rfl,f,MT,l2,r⟩:=tr;cases Ob;cases Oj;have e8:N6=ys:=zip_inj l1 l2 (by rw[MT]at Nn;injection Nn with z;injection z with z;exact z.symm)
   have e9:xs=ys:=zip_inj l0 l2 (by rw[MT]at e2;injection e2 with z;injection z with z;exact z.symm)
   subst e8 e9;have LI:=List.nodup_cons.mp nd;obtain⟨Qq,dp,Mb,rp,Mj⟩:=r.part Mw;rw[exp]at Mb;cases Mb;obtain⟨hc,_⟩:=ak.put C rp (LI.2.sublist Mj) hp;have OL:a≠c:=fun z=>by subst z;exact LI.1 (Mj.subset hc)
   show ∃t2,t2.own=true∧aD _ (match ts[k]? with|some t=>T.m ks0 (ts.set k (T.put n1 t p))|none=>T.m ks0 ts) _ _ t2 w
   rw[Mw];by_cases Nl:k=k'
   · subst Nl
     rw[Mw]at MF;cases MF;rw[exp]at ME;cases ME;obtain⟨t2,o2,h2⟩:=aD.put C o1 rp (LI.2.sublist Mj) hp hq ho (by simpa[below] using hb)
     refine⟨t2,o2,?_⟩;simp only[aD];exact⟨a,_,_,_,rfl,C.out a _ OL MT,l2,sP Mw,exp,h2⟩
   · obtain⟨SV,dq,Nj,rq,Qs⟩:=r.part MF
     rw[ME]at Nj;cases Nj;refine⟨t1,ho,?_⟩;simp only[aD];refine⟨a,_,tq,xq,rfl,C.out a _ OL MT,l2,by rw[List.getElem?_set_ne Nl];exact MF,ME,hq.mv (fun a o n e=>(C.mv a o n e).2) rq fun b hb u fb hu=>C.out b u (fun z=>?_) hu⟩
     subst z;exact av.apart r LI.2 Nl Mw MF exp ME rp rq _ hc hb
 | k'::q,k::p,.tu ts,v,t1,w,as,tr,nd,hp,hq,ho,hb=>by
   simp only[aD]at hp hq;simp only[ak]at tr;obtain⟨a,xs,tp,xp,rfl,e2,Mw,exp,hp⟩:=hp;obtain⟨a1,N6,tq,xq,Ob,Nn,MF,ME,hq⟩:=hq;obtain⟨a2,ys,Oj,f,MT,r⟩:=tr;cases Ob;cases Oj;have e8:N6=ys:=by rw[MT]at Nn;injection Nn with z;injection z with z;exact z.symm
   have e9:xs=ys:=by rw[MT]at e2;injection e2 with z;injection z with z;exact z.symm
   subst e8 e9;obtain⟨Qq,dp,Mb,rp,Mj⟩:=r.part Mw;rw[exp]at Mb;cases Mb;obtain⟨hc,_⟩:=ak.put C rp (nd.sublist Mj) hp;show ∃t2,t2.own=true∧aD _ (match ts[k]? with|some t=>T.tu (ts.set k (T.put n1 t p))|none=>T.tu ts) _ _ t2 w
   rw[Mw];by_cases Nl:k=k'
   · subst Nl
     rw[Mw]at MF;cases MF;rw[exp]at ME;cases ME;obtain⟨t2,o2,h2⟩:=aD.put C o1 rp (nd.sublist Mj) hp hq ho (by simpa[below] using hb)
     refine⟨t2,o2,?_⟩;simp only[aD];exact⟨a,_,_,_,rfl,(C.mv _ _ f MT).2,sP Mw,exp,h2⟩
   · obtain⟨SV,dq,Nj,rq,Qs⟩:=r.part MF
     rw[ME]at Nj;cases Nj;refine⟨t1,ho,?_⟩;simp only[aD];refine⟨a,_,tq,xq,rfl,(C.mv _ _ f MT).2,by rw[List.getElem?_set_ne Nl];exact MF,ME,hq.mv (fun a o n e=>(C.mv a o n e).2) rq fun b hb u fb hu=>C.out b u (fun z=>?_) hu⟩
     subst z;exact av.apart r nd Nl Mw MF exp ME rp rq _ hc hb
 |k'::q,k::p,.d _,v,t1,w,as,tr,nd,hp,hq,ho,_=>hp.elim
theorem aT.un{ρ':En}(r:aT M G F0 H F σ ρ)(hl:ρ'.length=ρ.length)(h:∀(j:Nat) s,ρ'[j]? =some s→s=.un∨ρ[j]? =some s):aT M G F0 H F σ ρ':=by
 have ow:∀j,bp ρ' j→bp ρ j:=fun j o=>by
   rcases o with⟨ds,e⟩|⟨ks,ds,e⟩
   · rcases h j _ e with z|z
     ·cases z
     ·exact .inl ⟨_,z⟩
   · rcases h j _ e with z|z
     ·cases z
     ·exact .inr ⟨_,_,z⟩
 have on:∀(j:Nat) x,ρ'[j]? =some (.on x)→ρ[j]? =some (.on x):=fun j x e=>(h j _ e).resolve_left fun z=>nomatch z
 have at':∀(j:Nat) b,cR M H F σ ρ' j b→cR M H F σ ρ j b:=fun j b ⟨t,v,as,e,z⟩=>⟨t,v,as,on j _ e,z⟩;refine⟨⟨by rw[hl,r.rs.len],r.rs.aX,fun i d e=>?_,fun i d e=>?_,fun i k d e=>?_,fun i j a oi oj=>r.rs.cn i j a (ow i oi) (ow j oj),fun i x e=>?_⟩,r.sm,r.sub,r.df,fun i a o=>r.own i a (ow i o),fun i x b e hb=>r.dY i x b (on i x e) (at' i b hb),fun w hw t e=>r.pin w hw t (on 0 _ e)⟩
 ·exact r.rs.sh i d ((h i _ e).resolve_left fun z=>nomatch z)
 ·exact r.rs.ol i d ((h i _ e).resolve_left fun z=>nomatch z)
 ·exact r.rs.od i k d ((h i _ e).resolve_left fun z=>nomatch z)
 · obtain⟨h1,h2,h3⟩:=r.rs.on i x (on i x e)
   refine⟨?_,fun b hb k ok=>h2 b (at' i b hb) k (ow k ok),fun t ht j t' ej=>h3 t ht j t' (on j _ ej)⟩;cases x with
   |tr t=>exact h1
   |al k p=>exact fun t et=>h1 t (on k _ et)
noncomputable def fM(i:Nat)(p:List Nat)(ρ:En):En:=ρ.map fun s=>match s with
 |.on (.al k q)=>if k=i∧below p q=true then .un else s
 |s=>s
noncomputable def cb(i:Nat)(p:List Nat)(s:Slot):Slot:=match s with
 |.on (.al k q)=>if k=i∧below p q=true then .un else s
 |s=>s
theorem GJ:∀(z:Slot),cb i p z=.un∨(cb i p z=z∧∀q,z=.on (.al i q)→below p q=false)
 |.un=>.inl rfl
 |.sh _=>.inr ⟨rfl,fun _ h=>nomatch h⟩
 |.ol _=>.inr ⟨rfl,fun _ h=>nomatch h⟩
 |.od _ _=>.inr ⟨rfl,fun _ h=>nomatch h⟩
 |.on (.tr _)=>.inr ⟨rfl,fun _ h=>nomatch h⟩
 | .on (.al k q)=>by
   by_cases hc:k=i∧below p q=true
   ·exact .inl (if_pos hc)
   · refine .inr ⟨if_neg hc,fun q' hq=>?_⟩
     injection hq with hq;injection hq with h1 h2;subst h1 h2;cases hb:below p q with
     |false=>rfl
     |true=>exact absurd ⟨rfl,hb⟩ hc
theorem sM{i:Nat}{p:List Nat}{j:Nat}{s:Slot}(h:(fM i p ρ)[j]? =some s):s=.un∨(ρ[j]? =some s∧∀q,s=.on (.al i q)→below p q=false):=by
 have h:(ρ.map (cb i p))[j]? =some s:=h;rw[List.getElem?_map]at h;cases e:ρ[j]? with
 |none=>rw[e]at h;cases h
 | some z=>
   rw[e]at h;have h:cb i p z=s:=Option.some.inj h;rcases GJ (i:=i) (p:=p) z with h1|⟨h1,h2⟩
   ·exact .inl (h.symm.trans h1)
   ·rw[h1]at h;subst h;exact .inr ⟨rfl,h2⟩
theorem aT.drop(i:Nat)(p:List Nat)(r:aT M G F0 H F σ ρ):aT M G F0 H F σ (fM i p ρ):=r.un (by unfold fM;simp) fun j s h=>(sM h).imp id And.left
theorem aT.DX(r:aT M G F0 H F σ ρ)(e:ρ[i]? =some (.on (.tr t)))(ev:σ[i]? =some (some v))(tr:ak M H F t v as)(Ml:∀b∈LD,b∈as∨H b=none)(MK:∀b u,b∉LD→H b=some u→H' b=some u)
   (hF:∀b,F' b↔F b∨b∈LD) (MD:ak M H' F' t' v LD) (nd:LD.Nodup) (RA:∀(j:Nat) p,ρ[j]? =some (Slot.on (.al i p))→∀t1 w,aD H t v p t1 w→t1.own=true→∃t2,t2.own=true∧aD H' t' v p t2 w):
   Mv F H F' H'∧aT M G F0 H' F' σ (ρ.set i (.on (.tr t'))):=by
 have M4:∀b∈as,cR M H F σ ρ i b:=fun b hb=>⟨t,v,as,e,ev,tr,hb⟩;have fs:=tr.fs
 have mv:Mv F H F' H':=fun b o n eo=>by
   have nb:b∉LD:=fun hb=>by
     rcases Ml b hb with h|h
     ·exact n (fs b h).1
     ·rw[h]at eo;cases eo
   exact⟨fun h=>((hF b).mp h).elim n nb,MK b _ nb eo⟩
 have ro:=r.rs.on i _ e;have hi:i<ρ.length:=(List.getElem?_eq_some_iff.mp e).1;have old:∀(j:Nat) x,j≠i→(ρ.set i (.on (.tr t')))[j]? =some x→ρ[j]? =some x:=fun j x hj h=>by rw[List.getElem?_set_ne (Ne.symm hj)]at h;exact h
 have self:(ρ.set i (.on (.tr t')))[i]? =some (.on (.tr t')):=List.getElem?_set_self hi
 have Ma:∀(j:Nat) x,(∀y,x≠Slot.on y)→(ρ.set i (.on (.tr t')))[j]? =some x→ρ[j]? =some x:=fun j x hx h=>by
   by_cases hj:j=i
   ·subst hj;rw[self]at h;cases h;exact absurd rfl (hx _)
   ·exact old j x hj h
 have Mi:∀j,bp (ρ.set i (.on (.tr t'))) j→bp ρ j:=fun j h=>by
   rcases h with⟨ds,h⟩|⟨ks,ds,h⟩
   ·exact .inl ⟨ds,Ma j _ (fun y z=>nomatch z) h⟩
   ·exact .inr ⟨ks,ds,Ma j _ (fun y z=>nomatch z) h⟩
 have keep:∀(j:Nat) b u,bp ρ j→σ[j]? =some (some (.ref b))→F b→H b=some u→F' b∧H' b=some u:=fun j b u oj ej fb hu=>by
   refine⟨(hF b).mpr (.inl fb),?_⟩;refine MK b u (fun hb=>?_) hu;rcases Ml b hb with h|h
   ·exact ro.2.1 b (M4 b h) j oj ej
   ·rw[h]at hu;cases hu
 have aX:∀a,F' a→∃o,H' a=some o:=fun a fa=>by
   by_cases ha:a∈LD
   ·exact(MD.fs a ha).2
   · obtain⟨o,ho⟩:=r.rs.aX a (((hF a).mp fa).resolve_right ha)
     exact⟨o,MK a _ ha ho⟩
 have rs:bj M H' F' σ (ρ.set i (.on (.tr t'))):=by
   refine⟨by simp[r.rs.len],aX,fun j d h=>?_,fun j ds h=>?_,fun j ks ds h=>?_,fun j k a oj ok ej ek=>r.rs.cn j k a (Mi j oj) (Mi k ok) ej ek,?_⟩
   · obtain⟨w,e1,g⟩:=r.rs.sh j d (Ma j _ (fun y z=>nomatch z) h)
     exact⟨w,e1,g.mv mv⟩
   · have h0:=Ma j (.ol ds) (fun y z=>nomatch z) h
     obtain⟨a,xs,e1,f,e2,g⟩:=r.rs.ol j ds h0;obtain⟨f',e3⟩:=keep j a _ (.inl ⟨_,h0⟩) e1 f e2;exact⟨a,xs,e1,f',e3,g.mv mv⟩
   · have h0:=Ma j (.od ks ds) (fun y z=>nomatch z) h
     obtain⟨a,xs,e1,f,e2,l,g⟩:=r.rs.od j ks ds h0;obtain⟨f',e3⟩:=keep j a _ (.inr ⟨_,_,h0⟩) e1 f e2;exact⟨a,xs,e1,f',e3,l,g.mv mv⟩
   · intro j x h
     have M3:∀b,cR M H' F' σ (ρ.set i (.on (.tr t'))) j b→j=i∧b∈LD:=fun b hb=>by
       obtain⟨t1,v1,Np,e1,Nd,M7,hb⟩:=hb
       have hj:j=i:=by
         by_cases hj:j=i
         ·exact hj
         ·exact ro.2.2 t rfl j t1 (old j _ hj e1)
       subst hj;rw[self]at e1;cases e1;rw[ev]at Nd;cases Nd;have:=ak.gx MD M7;subst this;exact⟨rfl,hb⟩
     refine⟨?_,fun b hb k ok ek=>?_,fun t1 ht k t2 hk=>?_⟩
     · by_cases hj:j=i
       · subst hj
         rw[self]at h;cases h;exact⟨v,LD,ev,MD,nd⟩
       · have h0:=old j _ hj h
         cases x with
         |tr t1=>exact absurd (ro.2.2 t rfl j t1 h0) hj
         | al k p=>
           intro t1 O4
           have⟨hk,et⟩:k=i∧t1=t':=by
             by_cases hk:k=i
             ·subst hk;rw[self]at O4;cases O4;exact⟨rfl,rfl⟩
             ·exact absurd (ro.2.2 t rfl k t1 (old k _ hk O4)) hk
           subst hk et;obtain⟨v1,w,t2,e1,e2,at2,o2⟩:=(r.rs.on j _ h0).1 t e;rw[ev]at e1;cases e1;obtain⟨t3,o3,Ox⟩:=RA j p h0 t2 w at2 o2;exact⟨v,w,t3,ev,e2,Ox,o3⟩
     · obtain⟨rfl,MN⟩:=M3 b hb
       rcases Ml b MN with h2|h2
       ·exact ro.2.1 b (M4 b h2) k (Mi k ok) ek
       · obtain⟨a,_,u,_,e1,_,e2,_⟩:=r.rs.ownAt (Mi k ok)
         rw[ek]at e1;cases e1;rw[h2]at e2;cases e2
     · subst ht
       have hj:j=i:=by
         by_cases hj:j=i
         ·exact hj
         ·exact ro.2.2 t rfl j t1 (old j _ hj h)
       by_cases Mn:k=i
       ·rw[Mn,hj]
       ·exact absurd (ro.2.2 t rfl k t2 (old k _ Mn hk)) Mn
 refine⟨mv,⟨rs,fun b u hb=>?_,fun b f=>(hF b).mpr (.inl (r.sub b f)),r.df,fun j a oj ej=>r.own j a (Mi j oj) ej,fun j x b h hb=>?_,fun w hw t2 e2=>?_⟩⟩
 · have hu:=r.sm b u hb
   refine MK b u (fun Mo=>?_) hu;rcases Ml b Mo with h2|h2
   ·rw[r.dY i _ b e (M4 b h2)]at hb;cases hb
   ·rw[h2]at hu;cases hu
 · obtain⟨t1,v1,Np,e1,Nd,M7,hb⟩:=hb
   have hj:j=i:=by
     by_cases hj:j=i
     ·exact hj
     ·exact ro.2.2 t rfl j t1 (old j _ hj e1)
   subst hj;rw[self]at e1;cases e1;rw[ev]at Nd;cases Nd;have:=ak.gx MD M7;subst this;rcases Ml b hb with h2|h2
   ·exact r.dY j _ b e (M4 b h2)
   ·exact r.sm.free h2
 · rcases get_set e2 with⟨rfl,_,_⟩|⟨_,e2⟩
   ·exact r.pin w hw t e
   ·exact r.pin w hw t2 e2
theorem vp{i j:Nat}{p:List Nat}{t:T}(h:ρ[j]? =some (.on (.tr t))):(fM i p ρ)[j]? =some (.on (.tr t)):=by
 unfold fM;rw[List.getElem?_map,h];rfl
theorem aT.qc{H2:Hp}{F2:Addr→Prop}{i:Nat}{t n0 n1:T}{w:V}{p:List Nat}{c:Addr}{N3 Nt:List Addr}(r:aT M G F0 H F σ ρ)(e1:ρ[i]? =some (.on (.tr t)))(e2:σ[i]? =some (some w))(Mp:aD H t w p n0 (.ref c))(C:gd M H H2 F F2 c n0 n1 N3 Nt)(o1:n1.own=true):
   Mv F H F2 H2∧aT M G F0 H2 F2 σ ((fM i p ρ).set i (.on (.tr (T.put n1 t p)))):=by
 obtain⟨⟨w',as,ew,tr,nd⟩,_,_⟩:=r.rs.on i _ e1;rw[e2]at ew;cases ew;obtain⟨hc,Np,MD,RN,k1,k2⟩:=ak.put C tr nd Mp;have SH:c∈Np:=k2 c (C.new.head o1)
 exact(r.drop i p).DX (vp e1) e2 tr (fun b hb=>(k1 b hb).imp id And.right) (fun b u hb hu=>C.out b u (fun z=>by subst z;exact hb SH) hu) (fun b=>by
     rw[C.fs b];exact⟨fun h=>h.imp id (k2 b),fun h=>h.elim .inl fun hb=>(k1 b hb).elim (fun h=>.inl (tr.fs b h).1) fun h=>.inr h.1⟩) MD RN
   fun j q hq t1 w1 VD ho=>aD.put C o1 tr nd Mp VD ho (((sM hq).resolve_left fun z=>nomatch z).2 q rfl)
end
def oB(ρ:En):Bool:=ρ.all fun s=>match s with
 |.on _=>false
 |_=>true
noncomputable def dS:List Xt→En→R (List T)
 |[],_=>.ok []
 |f::fs,ρ=>(f ρ).bind fun t=>(dS fs ρ).bind fun ts=>.ok (t::ts)
def xL(fs:List Xt):Xt:=fun ρ=>(dS fs ρ).bind fun ts=>.ok (.l ts)
def jl:Xt:=fun _=>.ok (.m [] [])
noncomputable def il(i:Nat)(f:Xt):Sm:=fun ρ=>(f ρ).bind fun t=>if oB ρ=true∧i≠0 then .ok (.next (ρ.set i (.on (.tr t))))else .bad
section
variable{X:Cx}{M:Md}{G H H':Hp}{F0:Gf}{F F':Addr→Prop}{σ:L2.St}{ρ:En}{pos:Pos}{pins:List (Addr×Obj)}{s:Shared}{as:List Addr}
def uP(M:Md)(f:En→R (List T)):TA:=fun σ H Q=>∃ρ F ts,bj M H F σ ρ∧f ρ=.ok ts∧∀vs H' F' as,aq H H'→(∀b∈as,H b=none)→as.Nodup→(∀b,F' b↔F b∨b∈as)→av M H' F' ts vs as→Q vs H'
abbrev kJ(X:Cx)(es:List Expr)(f:En→R (List T)):Prop:=PA X es (uP (aA X) f)
theorem He:kJ X [] (dS []):=
 qj L2.kb fun σ H Q ⟨ρ,F,ts,hr,e,q⟩=>by
   cases e;exact q [] H F [] (aq.refl _) (fun _ hb=>nomatch hb) List.nodup_nil (fun b=>by simp) (by rw[av];exact⟨rfl,rfl⟩)
theorem Gi(h1:∀σ H Q,tY M f σ H Q→te σ H Q)(h2:∀σ H Q,uP M (dS fs) σ H Q→ta σ H Q)(h:uP M (dS (f::fs)) σ H Q):L2.zU te ta σ H Q:=by
 obtain⟨ρ,F,ts,hr,e,q⟩:=h;obtain⟨t,et,e⟩:=az.mp e;obtain⟨us,eu,e⟩:=az.mp e;cases e;refine h1 _ _ _ ⟨ρ,F,t,hr,et,fun v H1 F1 as s1 hn nd hF tr=>?_⟩;obtain⟨Ny,r1⟩:=hr.wide s1 hn hF (fun b hb=>(tr.fs b hb).2);refine h2 _ _ _ ⟨ρ,F1,us,r1,eu,fun vs H2 F2 bs s2 PB LI Pu Mg=>?_⟩
 have apart:∀a∈as,∀b∈bs,a≠b:=fun a ha b hb z=>by
   subst z;obtain⟨_,u,hu⟩:=tr.fs a ha;rw[PB a hb]at hu;cases hu
 have T5:Mv F1 H1 F2 H2:=fun b o n e=>⟨fun f=>((Pu b).mp f).elim n (fun hb=>by rw[PB b hb]at e;cases e),s2 _ _ e⟩
 refine q (v::vs) H2 F2 (as++bs) (s1.trans s2) (fun b hb=>?_) (List.nodup_append.mpr ⟨nd,LI,apart⟩) (fun b=>?_) ?_
 · rcases List.mem_append.mp hb with hb|hb
   ·exact hn b hb
   ·exact s1.free (PB b hb)
 ·rw[Pu b,hF b,List.mem_append,or_assoc]
 · simp only[av]
   exact⟨v,vs,as,bs,rfl,rfl,tr.mv T5 fun b hb u f hu=>⟨(Pu b).mpr (.inl f),s2 _ _ hu⟩,Mg⟩
theorem IX(h1:JX X e f)(h2:kJ X es (dS fs))(hs:starEach (e::es) X.env=(false,eval e X.env)::starEach es X.env:=by rfl):kJ X (e::es) (dS (f::fs)):=
 qj (L2.gJ h1 h2 hs) fun σ H Q h=>Gi (fun _ _ _ h=>h) (fun _ _ _ h=>h) h
theorem sE:∀ {fs:List Xt} {ts:List T},dS fs ρ=.ok ts→ts.length=fs.length
 |[],ts,h=>by cases h;rfl
 | f::fs,ts,h=>by
   obtain⟨t,et,h⟩:=az.mp h;obtain⟨us,eu,h⟩:=az.mp h;cases h;simp[sE eu]
theorem zD(s1:aq H H')(hn:∀b∈as,H b=none)(nd:as.Nodup)(hF:∀b,F' b↔F b∨b∈as)(tr:av M H' F' ts vs as)(hp:H' p=none):
   aq H (upd H' p (.lst vs))∧(∀b∈p::as,H b=none)∧(p::as).Nodup∧ak M (upd H' p (.lst vs)) (fun b=>F b∨b∈p::as) (.l ts) (.ref p) (p::as):=by
 have OH:p∉as:=fun hb=>by obtain⟨_,u,hu⟩:=tr.fs p hb;rw[hp]at hu;cases hu
 refine⟨s1.trans (aq.cm hp _),fun b hb=>?_,List.nodup_cons.mpr ⟨OH,nd⟩,?_⟩
 · rcases List.mem_cons.mp hb with rfl|hb
   ·exact s1.free hp
   ·exact hn b hb
 · simp only[ak]
   refine⟨p,vs,as,rfl,rfl,.inr List.mem_cons_self,L2.bu,tr.mv (fun b o n e=>?_) fun b hb u f hu=>?_⟩
   · have hb:b≠p:=fun z=>by subst z;rw[hp]at e;cases e
     refine⟨fun f=>?_,by rw[L2.aF hb];exact e⟩
     rcases f with f|f
     ·exact n ((hF b).mpr (.inl f))
     · rcases List.mem_cons.mp f with f|f
       ·exact hb f
       ·exact n ((hF b).mpr (.inr f))
   · have MN:b≠p:=fun z=>by subst z;exact OH hb
     exact⟨.inr (List.mem_cons_of_mem _ hb),by rw[L2.aF MN];exact hu⟩
theorem Bm(h:kJ X es (dS fs))(hl:fs.length≤1000:=by decide):JX X (.List es pos) (xL fs):=
 bP (L2.uK h) fun σ H Q ⟨ρ,F,t,hr,e,q⟩=>by
   obtain⟨ts,QE,e⟩:=az.mp e;cases e;refine⟨ρ,F,ts,hr,QE,fun vs H1 F1 as s1 hn nd hF tr=>⟨?_,fun p hp=>?_⟩⟩
   ·rw[←tr.len,sE QE];exact Nat.le_trans hl (by decide)
   · obtain⟨a,b,c,d⟩:=zD s1 hn nd hF tr hp
     exact q _ _ _ _ a b c (fun _=>Iff.rfl) d
theorem GK:JX X (.Dict [] [] pos) jl:=
 bP L2.vG fun σ H Q ⟨ρ,F,t,hr,e,q⟩=>by
   cases e;intro p hp;refine q (.ref p) _ (fun b=>F b∨b∈[p]) [p] (aq.cm hp _) (fun b hb=>by rw[List.mem_singleton.mp hb];exact hp) (by simp) (fun _=>Iff.rfl) ?_
   simp only[ak,av];exact⟨p,[],[],rfl,rfl,.inr List.mem_cons_self,L2.bu,rfl,rfl,rfl⟩
theorem jf(h:bp (ρ.set i (.on x)) j):i≠j∧bp ρ j:=by
 rcases h with⟨ds,q⟩|⟨ks,ds,q⟩
 · rcases get_set q with⟨_,z,_⟩|⟨C',q⟩
   ·cases z
   ·exact⟨C',.inl ⟨ds,q⟩⟩
 · rcases get_set q with⟨_,z,_⟩|⟨C',q⟩
   ·cases z
   ·exact⟨C',.inr ⟨ks,ds,q⟩⟩
theorem zy(h:oB ρ=true)(j:Nat)(x:Sp):ρ[j]? ≠some (.on x):=fun e=>by
 have:=List.all_eq_true.mp h _ (List.mem_of_getElem? e);cases this
theorem aT.Iv(r:aT M G F0 H F σ ρ)(no:oB ρ=true)(VC:i≠0)(s1:aq H H')(hn:∀b∈as,H b=none)(nd:as.Nodup)(hF:∀b,F' b↔F b∨b∈as)(tr:ak M H' F' t v as):
   Mv F H F' H'∧aT M G F0 H' F' (σ.set i (some v)) (ρ.set i (.on (.tr t))):=by
 obtain⟨mv,rs⟩:=r.rs.wide s1 hn hF (fun b hb=>(tr.fs b hb).2)
 have only:∀(j:Nat) x,(ρ.set i (.on (.tr t)))[j]? =some (.on x)→i=j∧x=.tr t∧i<ρ.length:=fun j x h=>by
   rcases get_set h with⟨h1,h2,h3⟩|⟨_,h⟩
   ·injection h2 with h2;exact⟨h1,h2.symm,h3⟩
   ·exact absurd h (zy no j x)
 have self:i<ρ.length→(σ.set i (some v))[i]? =some (some v):=fun h=>List.getElem?_set_self (by rw[←r.rs.len];exact h)
 have M3:∀(j:Nat) b,cR M H' F' (σ.set i (some v)) (ρ.set i (.on (.tr t))) j b→b∈as:=fun j b ⟨t1,v1,Np,e1,Nd,M7,hb⟩=>by
   obtain⟨rfl,z,hl⟩:=only j _ e1;cases z;rw[self hl]at Nd;cases Nd;have:=ak.gx tr M7;subst this;exact hb
 refine⟨mv,⟨⟨by simp[rs.len],rs.aX,fun j d q=>?_,fun j d q=>?_,fun j k d q=>?_,fun j k b oj ok ej ek=>?_,fun j x h=>?_⟩,r.sm.trans s1,fun b f=>(hF b).mpr (.inl (r.sub b f)),r.df,fun j a oj e=>?_,fun j x b e hb=>r.sm.free (hn b (M3 j b hb)),fun w hw t2 e2=>by
     rcases get_set e2 with⟨z,_,_⟩|⟨_,e2⟩
     ·exact absurd z VC
     ·exact absurd e2 (zy no 0 _)⟩⟩
 · rcases get_set q with⟨_,z,_⟩|⟨C',q⟩
   ·cases z
   · obtain⟨w,e1,g⟩:=rs.sh j d q
     exact⟨w,by rw[List.getElem?_set_ne C'];exact e1,g⟩
 · rcases get_set q with⟨_,z,_⟩|⟨C',q⟩
   ·cases z
   · obtain⟨a,xs,e1,g⟩:=rs.ol j d q
     exact⟨a,xs,by rw[List.getElem?_set_ne C'];exact e1,g⟩
 · rcases get_set q with⟨_,z,_⟩|⟨C',q⟩
   ·cases z
   · obtain⟨a,xs,e1,g⟩:=rs.od j k d q
     exact⟨a,xs,by rw[List.getElem?_set_ne C'];exact e1,g⟩
 · obtain⟨nj,oj⟩:=jf oj
   obtain⟨nk,ok⟩:=jf ok;rw[List.getElem?_set_ne nj]at ej;rw[List.getElem?_set_ne nk]at ek;exact rs.cn j k b oj ok ej ek
 · obtain⟨rfl,rfl,hl⟩:=only j x h
   refine⟨⟨v,as,self hl,tr,nd⟩,fun b hb k ok ek=>?_,fun t1 _ k t2 hk=>((only k _ hk).1).symm⟩;obtain⟨nk,ok⟩:=jf ok;rw[List.getElem?_set_ne nk]at ek;obtain⟨a,_,u,_,e1,_,e2,_⟩:=r.rs.ownAt ok;rw[ek]at e1;cases e1;rw[hn _ (M3 _ _ hb)]at e2;cases e2
 · obtain⟨nj,oj⟩:=jf oj
   rw[List.getElem?_set_ne nj]at e;exact r.own j a oj e
theorem Ab(i:Nat)(hN:X.N.Nodup)(he:JX X e f)(hi:X.N[i]? =some x:=by rfl)(hx:L2.Loc X.env.scope x:=by exact Or.inl rfl)(hf:X.fn x=true∨X.env.scope.names.lookup x=some .local:=by first|exact .inl rfl|exact .inr rfl)
   (hs:swapsWith e (some (.Name x p2)) pos.line X.env=pure false:=by rfl):JS X (.Assign [.Name x p2] e pos) (il i f):=fun F0=>
 cJ (L2.nQ hN hi hx he hs hf) fun D σ H ⟨ρ,F,fl,r,e,q⟩=>by
   obtain⟨t,et,e⟩:=az.mp e;by_cases no:oB ρ=true∧i≠0
   · rw[if_pos no]at e
     cases e;refine⟨ρ,F,t,r.rs,et,fun v H1 F1 as s1 hn nd hF tr=>?_⟩;obtain⟨mv,r'⟩:=r.Iv (i:=i) no.1 no.2 s1 hn nd hF tr;exact q _ _ _ mv r'
   ·rw[if_neg no]at e;cases e
end
abbrev Pt:=En→R (List Nat)
def pN:Pt:=fun _=>.ok []
noncomputable def pI(i:Nat)(f:Pt)(e:Ex):Pt:=fun ρ=>(f ρ).bind fun p=>(e ρ).bind fun x=>match ρ[i]?,x with
 | some (.on (.tr t)),.int k=>match T.at t p with
   | some (.l ts)=>match dP ts.length k with
     |some m=>.ok (p++[m])
     |none=>.bad
   |_=>.bad
 |_,_=>.bad
noncomputable def jY(j i:Nat)(f:Pt):Sm:=fun ρ=>(f ρ).bind fun p=>match ρ[i]? with
 | some (.on (.tr t))=>match T.at t p with
   |some t1=>if t1.own=true∧i≠j then .ok (.next (ρ.set j (.on (.al i p))))else .bad
   |none=>.bad
 |_=>.bad
noncomputable def iW:List T→Option (List D)
 |[]=>some []
 |.d x::r=>(iW r).map (x:: ·)
 |_::_=>none
section
variable{X:Cx}{M:Md}{G H H':Hp}{F0:Gf}{F F':Addr→Prop}{σ:L2.St}{ρ:En}{pos:Pos}{pins:List (Addr×Obj)}{s:Shared}{as:List Addr}
theorem xC:∀ {ts:List T} {vs:List D},iW ts=some vs→ts=vs.map .d
 |[],vs,h=>by cases h;rfl
 | .d x::r,vs,h=>by
   unfold iW at h;cases e:iW r with
   |none=>rw[e]at h;cases h
   |some us=>rw[e]at h;cases h;rw[xC e];rfl
 |.l _::r,vs,h=>by cases h
 |.m _ _::r,vs,h=>by cases h
 |.tu _::r,vs,h=>by cases h
theorem aD.mW:∀ {p:List Nat} {t:T} {v:V} {t1:T} {w:V},aD H t v p t1 w→T.at t p=some t1
 | [],t,v,t1,w,h=>by
   have e':t=t1∧v=w:=by cases t<;>exact h
   rw[e'.1];cases t1<;>rfl
 | k::p,.l ts,v,t1,w,h=>by
   simp only[aD]at h;obtain⟨a,xs,t2,x2,_,_,e1,_,h⟩:=h;unfold T.at
   rw[e1];exact h.mW
 | k::p,.m ks ts,v,t1,w,h=>by
   simp only[aD]at h;obtain⟨a,xs,t2,x2,_,_,_,e1,_,h⟩:=h;unfold T.at
   rw[e1];exact h.mW
 | k::p,.tu ts,v,t1,w,h=>by
   simp only[aD]at h;obtain⟨a,xs,t2,x2,_,_,e1,_,h⟩:=h;unfold T.at
   rw[e1];exact h.mW
 |k::p,.d _,v,t1,w,h=>h.elim
theorem aD.snoc(h1:aD H n0 x [m] t1 x1):∀ {p:List Nat} {t:T} {v:V},aD H t v p n0 x→aD H t v (p++[m]) t1 x1
 | [],t,v,h=>by
   have e':t=n0∧v=x:=by cases t<;>exact h
   obtain⟨rfl,rfl⟩:=e';exact h1
 | k::p,.l us,v,h=>by
   show aD H (.l us) v (k::(p++[m])) t1 x1;simp only[aD]at h ⊢;obtain⟨b,ys,t2,x2,PM,h2,h3,h4,h⟩:=h;exact⟨b,ys,t2,x2,PM,h2,h3,h4,aD.snoc h1 h⟩
 | k::p,.m ks us,v,h=>by
   show aD H (.m ks us) v (k::(p++[m])) t1 x1;simp only[aD]at h ⊢;obtain⟨b,ys,t2,x2,PM,h2,h0,h3,h4,h⟩:=h;exact⟨b,ys,t2,x2,PM,h2,h0,h3,h4,aD.snoc h1 h⟩
 | k::p,.tu us,v,h=>by
   show aD H (.tu us) v (k::(p++[m])) t1 x1;simp only[aD]at h ⊢;obtain⟨b,ys,t2,x2,PM,h2,h3,h4,h⟩:=h;exact⟨b,ys,t2,x2,PM,h2,h3,h4,aD.snoc h1 h⟩
 |k::p,.d _,v,h=>h.elim
theorem aD.here(t:T)(v:V):aD H t v [] t v:=by cases t<;>exact⟨rfl,rfl⟩
theorem aD.JJ(ha:H a=some (.lst xs))(h1:ts[m]? =some t1)(hx:xs[m]? =some x1):aD H (.l ts) (.ref a) [m] t1 x1:=by
 unfold aD;exact⟨a,xs,t1,x1,rfl,ha,h1,hx,aD.here _ _⟩
theorem aD.Dq(ha:H a=some (.tup xs))(h1:ts[m]? =some t1)(hx:xs[m]? =some x1):aD H (.tu ts) (.ref a) [m] t1 x1:=by
 unfold aD;exact⟨a,xs,t1,x1,rfl,ha,h1,hx,aD.here _ _⟩
theorem aD.Ji(ha:H a=some (.dK (ks.zip xs)))(hl:ks.length=xs.length)(h1:ts[m]? =some t1)(hx:xs[m]? =some x1):aD H (.m ks ts) (.ref a) [m] t1 x1:=by
 unfold aD;exact⟨a,xs,t1,x1,rfl,ha,hl,h1,hx,aD.here _ _⟩
theorem T.pR{n0:T}{m:Nat}:∀ {p:List Nat} {t:T},T.at t p=some n0→T.at t (p++[m])=T.at n0 [m]
 | [],t,h=>by
   have:t=n0:=by cases t<;>(injection h)
   subst this;rfl
 | k::p,.l us,h=>by
   have h:(match us[k]? with|some t=>T.at t p|none=>none)=some n0:=h
   show(match us[k]? with|some t=>T.at t (p++[m])|none=>none)=T.at n0 [m]
   cases e:us[k]? with
   |none=>rw[e]at h;cases h
   |some u=>rw[e]at h;exact T.pR h
 | k::p,.m ks us,h=>by
   have h:(match us[k]? with|some t=>T.at t p|none=>none)=some n0:=h
   show(match us[k]? with|some t=>T.at t (p++[m])|none=>none)=T.at n0 [m]
   cases e:us[k]? with
   |none=>rw[e]at h;cases h
   |some u=>rw[e]at h;exact T.pR h
 | k::p,.tu us,h=>by
   have h:(match us[k]? with|some t=>T.at t p|none=>none)=some n0:=h
   show(match us[k]? with|some t=>T.at t (p++[m])|none=>none)=T.at n0 [m]
   cases e:us[k]? with
   |none=>rw[e]at h;cases h
   |some u=>rw[e]at h;exact T.pR h
 |k::p,.d _,h=>by cases h
theorem T.B2{ts:List T}{m:Nat}:T.at (.l ts) [m]=ts[m]? :=by
 unfold T.at
 cases e:ts[m]? with
 |none=>rfl
 |some u=>cases u<;>rfl
def Ir(M:Md)(i:Nat)(f:Pt):TE:=fun σ H Q=>∃ρ F t w p t1,bj M H F σ ρ∧ρ[i]? =some (.on (.tr t))∧σ[i]? =some (some w)∧f ρ=.ok p∧T.at t p=some t1∧∀v H',aq H H'→aD H' t w p t1 v→Q v H'
abbrev JL(X:Cx)(i:Nat)(e:Expr)(f:Pt):Prop:=PE X e (Ir (aA X) i f)
theorem Ie(i:Nat)(hN:X.N[i]? =some x:=by rfl)(hv:L2.cw X.env.scope x:=by first|exact Or.inl rfl|exact Or.inr (Or.inl rfl)|exact Or.inr (Or.inr rfl))(hd:(x==("__debug__":Str))=false:=by decide)
   (LH:(x==("__classdict__":Str))=false:=by decide):JL X i (.Name x pos) pN:=
 bP (L2.pv i hN hv hd LH) fun σ H Q ⟨ρ,F,t,w,p,t1,r,e1,e2,ef,PU,q⟩=>by
   cases ef;have:t1=t:=by cases t<;>(injection PU with PU;exact PU.symm)
   subst this;exact⟨w,e2,q w H (aq.refl _) (by cases t1<;>exact⟨rfl,rfl⟩)⟩
theorem aD.same{t:T}{v w:V}{p:List Nat}{t1:T}{i:Nat}(r:bj M H F σ ρ)(e1:ρ[i]? =some (.on (.tr t)))(e2:σ[i]? =some (some v))(s1:aq H H')(h:aD H t v p t1 w):aD H' t v p t1 w:=by
 obtain⟨⟨v',as,ev,tr,_⟩,_,_⟩:=r.on i _ e1;rw[e2]at ev;cases ev;exact h.mv (fun _ _ _ e=>s1 _ _ e) tr fun b hb u f hu=>s1 _ _ hu
theorem aT.DO(r:aT M G F0 H F σ ρ)(e1:ρ[i]? =some (.on (.tr t)))(e2:σ[i]? =some (some w))(Mp:aD H t w p t1 v)(ho:t1.own=true)(Om:i≠j):
   aT M G F0 H F (σ.set j (some v)) (ρ.set j (.on (.al i p))):=by
 have back:∀(k:Nat) b,cR M H F (σ.set j (some v)) (ρ.set j (.on (.al i p))) k b→j≠k∧cR M H F σ ρ k b:=fun k b ⟨t1,v1,Np,h1,S0,M7,hb⟩=>by
   rcases get_set h1 with⟨_,z,_⟩|⟨C',h1⟩
   ·cases z
   · rw[List.getElem?_set_ne C']at S0
     exact⟨C',t1,v1,Np,h1,S0,M7,hb⟩
 refine⟨⟨by simp[r.rs.len],r.rs.aX,fun k d q=>?_,fun k d q=>?_,fun k ks d q=>?_,fun k l b ok ol ek el=>?_,fun k x h=>?_⟩,r.sm,r.sub,r.df,fun k a ok e=>?_,fun k x b e hb=>?_,r.pin.set fun _ h=>by cases h⟩
 · rcases get_set q with⟨_,z,_⟩|⟨C',q⟩
   ·cases z
   · obtain⟨w,e1,g⟩:=r.rs.sh k d q
     exact⟨w,by rw[List.getElem?_set_ne C'];exact e1,g⟩
 · rcases get_set q with⟨_,z,_⟩|⟨C',q⟩
   ·cases z
   · obtain⟨a,xs,e1,g⟩:=r.rs.ol k d q
     exact⟨a,xs,by rw[List.getElem?_set_ne C'];exact e1,g⟩
 · rcases get_set q with⟨_,z,_⟩|⟨C',q⟩
   ·cases z
   · obtain⟨a,xs,e1,g⟩:=r.rs.od k ks d q
     exact⟨a,xs,by rw[List.getElem?_set_ne C'];exact e1,g⟩
 · obtain⟨nk,ok⟩:=jf ok
   obtain⟨nl,ol⟩:=jf ol;rw[List.getElem?_set_ne nk]at ek;rw[List.getElem?_set_ne nl]at el;exact r.rs.cn k l b ok ol ek el
 · rcases get_set h with⟨rfl,z,hl⟩|⟨C',h⟩
   · injection z with z
     subst z;refine⟨fun t' h'=>?_,fun b hb=>absurd rfl (back _ b hb).1,fun t' ht=>nomatch ht⟩
     rw[List.getElem?_set_ne (Ne.symm Om),e1]at h';cases h';exact⟨w,v,t1,by rw[List.getElem?_set_ne (Ne.symm Om)];exact e2,List.getElem?_set_self (by rw[←r.rs.len];exact hl),Mp,ho⟩
   · obtain⟨h1,h2,h3⟩:=r.rs.on k x h
     refine⟨?_,fun b hb l ol el=>?_,fun t' ht l t2 hl=>?_⟩
     · cases x with
       | tr t0=>
         obtain⟨v0,Wb,V1,dB,Wv⟩:=h1;exact⟨v0,Wb,by rw[List.getElem?_set_ne C'];exact V1,dB,Wv⟩
       | al i0 p0=>
         intro t0 h0;rcases get_set h0 with⟨_,z,_⟩|⟨SA,h0⟩
         ·cases z
         · obtain⟨v0,w0,t2,a1,a2,a3,a4⟩:=h1 t0 h0
           exact⟨v0,w0,t2,by rw[List.getElem?_set_ne SA];exact a1,by rw[List.getElem?_set_ne C'];exact a2,a3,a4⟩
     · obtain⟨nl,ol⟩:=jf ol
       rw[List.getElem?_set_ne nl]at el;exact h2 b (back k b hb).2 l ol el
     · rcases get_set hl with⟨_,z,_⟩|⟨_,hl⟩
       ·cases z
       ·exact h3 t' ht l t2 hl
 · obtain⟨nk,ok⟩:=jf ok
   rw[List.getElem?_set_ne nk]at e;exact r.own k a ok e
 · obtain⟨C',hb⟩:=back k b hb
   rw[List.getElem?_set_ne C']at e;exact r.dY k x b e hb
theorem Ee (j i:Nat) (hN:X.N.Nodup) (he:JL X i e f) (hi:X.N[j]? =some x:=by rfl) (hx:L2.Loc X.env.scope x:=by exact Or.inl rfl) (hf:X.fn x=true∨X.env.scope.names.lookup x=some .local:=by first|exact .inl rfl|exact .inr rfl)
   (hs:swapsWith e (some (.Name x p2)) pos.line X.env=pure false:=by rfl):JS X (.Assign [.Name x p2] e pos) (jY j i f):=fun F0=>
 cJ (L2.nQ hN hi hx he hs hf) fun D σ H ⟨ρ,F,fl,r,e,q⟩=>by
   obtain⟨p,ep,e⟩:=az.mp e;cases h1:ρ[i]? with
   |none=>rw[h1]at e;cases e
   | some s=>
     rw[h1]at e;cases s with
     | on x=>
       cases x with
       | tr t=>
         have e:(match T.at t p with|some t1=>if t1.own=true∧i≠j then R.ok (Fl.next (ρ.set j (.on (.al i p))))else .bad|none=>.bad)=.ok fl:=e
         cases Mp:T.at t p with
         |none=>rw[Mp]at e;cases e
         | some t1=>
           rw[Mp]at e;have e:(if t1.own=true∧i≠j then R.ok (Fl.next (ρ.set j (.on (.al i p))))else .bad)=.ok fl:=e
           by_cases hc:t1.own=true∧i≠j
           · rw[if_pos hc]at e
             cases e;obtain⟨⟨w,as,ew,tr,nd⟩,_,_⟩:=r.rs.on i _ h1;exact⟨ρ,F,t,w,p,t1,r.rs,h1,ew,ep,Mp,fun v H1 s1 OM=>q _ _ F (.same s1) ((r.same s1).DO h1 ew OM hc.1 hc.2)⟩
           ·rw[if_neg hc]at e;cases e
       |al _ _=>cases e
     |_=>cases e
end
noncomputable def cC(i:Nat):Sm:=fun ρ=>match ρ[i]? with
 |some (.on (.tr t))=>.ok (.next (ρ.set i (.sh (T.toD t))))
 |_=>.bad
section
variable{X:Cx}{M:Md}{G H H':Hp}{F0:Gf}{F F':Addr→Prop}{σ:L2.St}{ρ:En}{pos:Pos}{pins:List (Addr×Obj)}{s:Shared}{as:List Addr}
def iz(H H':Hp)(b:Addr):Prop:=(H' b=H b∧∃xs,H b=some (.lst xs))∨∃ob kvs,H b=some (.dK kvs)∧H' b=some (.frz ob (.dK kvs))
mutual
theorem ak.frz:∀ {t:T} {H:Hp} {v:V} {as:List Addr},Inv X pins σ H s→ak M H F t v as→as.Nodup→∃H',Inv X pins σ H' s∧(∀b,b∉as→H' b=H b)∧∀b∈as,iz H H' b
 | .d x,H,v,as,I,h,_=>by
   simp only[ak]at h;exact⟨H,I,fun _ _=>rfl,fun b hb=>by rw[h.1]at hb;cases hb⟩
 | .l ts,H,v,as,I,h,nd=>by
   simp only[ak]at h;obtain⟨a,xs,bs,rfl,rfl,f,e2,r⟩:=h;have LI:=List.nodup_cons.mp nd;obtain⟨H1,I1,h1,k1⟩:=av.frz I r LI.2;refine⟨H1,I1,fun b hb=>h1 b fun Mo=>hb (List.mem_cons_of_mem _ Mo),fun b hb=>?_⟩;rcases List.mem_cons.mp hb with rfl|hb
   ·exact .inl ⟨h1 b LI.1,_,e2⟩
   ·exact k1 b hb
 | .m ks ts,H,v,as,I,h,nd=>by
   simp only[ak]at h;obtain⟨a,xs,bs,rfl,rfl,f,e2,l,r⟩:=h;have LI:=List.nodup_cons.mp nd;obtain⟨H1,I1,h1,k1⟩:=av.frz I r LI.2;have ha:H1 a=some (.dK (ks.zip xs)):=by rw[h1 a LI.1];exact e2
   obtain⟨ob,I2⟩:=sH I1 ha;refine⟨_,I2,fun b hb=>?_,fun b hb=>?_⟩
   · have MN:b≠a:=fun z=>by subst z;exact hb List.mem_cons_self
     rw[L2.aF MN];exact h1 b fun Mo=>hb (List.mem_cons_of_mem _ Mo)
   · rcases List.mem_cons.mp hb with h9|h9
     ·subst h9;exact .inr ⟨ob,_,e2,L2.bu⟩
     · have MN:b≠a:=fun z=>LI.1 (z▸h9)
       unfold iz;rw[L2.aF MN];exact k1 b h9
 | .tu ts,H,v,as,I,h,nd=>by
   simp only[ak]at h;obtain⟨a,xs,rfl,f,e2,r⟩:=h;exact av.frz I r nd
theorem av.frz:∀ {ts:List T} {H:Hp} {xs:List V} {as:List Addr},Inv X pins σ H s→av M H F ts xs as→as.Nodup→∃H',Inv X pins σ H' s∧(∀b,b∉as→H' b=H b)∧∀b∈as,iz H H' b
 | [],H,xs,as,I,h,_=>by
   simp only[av]at h;exact⟨H,I,fun _ _=>rfl,fun b hb=>by rw[h.2]at hb;cases hb⟩
 | t::ts,H,xs,as,I,h,nd=>by
   simp only[av]at h;obtain⟨x,r,bs,cs,rfl,rfl,h1,h2⟩:=h;have LI:=List.nodup_append.mp nd;obtain⟨H1,I1,o1,k1⟩:=ak.frz I h1 LI.1;have SR:=h1.fs;have Ny:Mv F H F H1:=fun b o n e=>⟨n,by rw[o1 b fun hb=>n (SR b hb).1];exact e⟩
   have Nb:av M H1 F ts r cs:=av.mv Ny (fun b hb u f hu=>⟨f,by rw[o1 b fun Mo=>LI.2.2 b Mo b hb rfl];exact hu⟩) h2
   obtain⟨H2,I2,o2,k2⟩:=av.frz I1 Nb LI.2.1;refine⟨H2,I2,fun b hb=>?_,fun b hb=>?_⟩
   ·rw[o2 b fun Mo=>hb (List.mem_append_right _ Mo),o1 b fun Mo=>hb (List.mem_append_left _ Mo)]
   · rcases List.mem_append.mp hb with hb|hb
     · have:=k1 b hb
       unfold iz at this ⊢;rw[o2 b fun Mo=>LI.2.2 b hb b Mo rfl];exact this
     · have:=k2 b hb
       unfold iz at this ⊢;rw[o1 b fun Mo=>LI.2.2 b Mo b hb rfl]at this;exact this
end
mutual
theorem ak.seen(m:Mv F H F' H'):∀ {t:T} {v:V} {as:List Addr},ak M H F t v as→(∀b∈as,iz H H' b∧¬F' b)→Rep M H' F' (T.toD t) v
 | .d x,v,as,h,_=>by
   simp only[ak]at h;exact h.2.mv m
 | .l ts,v,as,h,k=>by
   simp only[ak]at h;obtain⟨a,xs,bs,rfl,rfl,f,e2,r⟩:=h;obtain⟨ka,na⟩:=k a List.mem_cons_self;simp only[T.toD,Rep];refine⟨a,xs,rfl,.inl ⟨na,.inl ?_⟩,av.seen m r fun b hb=>k b (List.mem_cons_of_mem _ hb)⟩;rcases ka with⟨z,_⟩|⟨ob,kvs,z,_⟩
   ·rw[z];exact e2
   ·rw[e2]at z;cases z
 | .m ks ts,v,as,h,k=>by
   simp only[ak]at h;obtain⟨a,xs,bs,rfl,rfl,f,e2,l,r⟩:=h;obtain⟨ka,na⟩:=k a List.mem_cons_self;simp only[T.toD,Rep];rcases ka with⟨_,ys,z⟩|⟨ob,kvs,z,z2⟩
   ·rw[e2]at z;cases z
   · rw[e2]at z;cases z
     exact⟨a,xs,rfl,.inl ⟨na,ob,z2⟩,l,av.seen m r fun b hb=>k b (List.mem_cons_of_mem _ hb)⟩
 | .tu ts,v,as,h,k=>by
   simp only[ak]at h;obtain⟨a,xs,rfl,f,e2,r⟩:=h;simp only[T.toD,Rep];exact⟨a,xs,rfl,.inl ⟨(m _ _ f e2).1,.inl (m _ _ f e2).2⟩,av.seen m r k⟩
theorem av.seen(m:Mv F H F' H'):∀ {ts:List T} {xs:List V} {as:List Addr},av M H F ts xs as→(∀b∈as,iz H H' b∧¬F' b)→ag M H' F' (T.fT ts) xs
 | [],xs,as,h,_=>by
   simp only[av]at h;rw[h.1];exact ag.nil
 | t::ts,xs,as,h,k=>by
   simp only[av]at h;obtain⟨x,r,bs,cs,rfl,rfl,h1,h2⟩:=h;exact ag.cons (ak.seen m h1 fun b hb=>k b (List.mem_append_left _ hb)) (av.seen m h2 fun b hb=>k b (List.mem_append_right _ hb))
end
theorem bj.GZ(r:bj M H F σ ρ)(e1:ρ[i]? =some (.on (.tr t)))(e2:σ[i]? =some (some w))(tr:ak M H F t w as)(hH:∀b,b∉as→H' b=H b)(hF:∀b,F' b↔F b∧b∉as)(hd:Rep M H' F' d w):
   Mv F H F' H'∧bj M H' F' σ (ρ.set i (.sh d)):=by
 have fs:=tr.fs;have mv:Mv F H F' H':=fun b o n e=>⟨fun h=>n ((hF b).mp h).1,by rw[hH b fun hb=>n (fs b hb).1];exact e⟩
 have ro:=r.on i _ e1;have M4:∀b∈as,cR M H F σ ρ i b:=fun b hb=>⟨t,w,as,e1,e2,tr,hb⟩
 have keep:∀(j:Nat) b u,bp ρ j→σ[j]? =some (some (.ref b))→F b→H b=some u→F' b∧H' b=some u:=fun j b u oj ej fb hu=>by
   have hb:b∉as:=fun hb=>ro.2.1 b (M4 b hb) j oj ej;exact⟨(hF b).mpr ⟨fb,hb⟩,by rw[hH b hb];exact hu⟩
 refine⟨mv,⟨by simp[r.len],fun b h=>?_,fun j e q=>?_,fun j ds q=>?_,fun j ks ds q=>?_,fun j k b oj ok ej ek=>r.cn j k b oj.fg.2 ok.fg.2 ej ek,?_⟩⟩
 · obtain⟨f,hb⟩:=(hF b).mp h
   obtain⟨o,e⟩:=r.aX b f;exact⟨o,by rw[hH b hb];exact e⟩
 · rcases get_set q with⟨rfl,hx,hl⟩|⟨C',q⟩
   · cases hx
     exact⟨_,e2,hd⟩
   · obtain⟨w,e1,g⟩:=r.sh j e q
     exact⟨w,e1,g.mv mv⟩
 · rcases get_set q with⟨rfl,x,hl⟩|⟨C',q⟩
   ·cases x
   · obtain⟨b,ys,e1,f,e3,g⟩:=r.ol j ds q
     obtain⟨f',e'⟩:=keep j b _ (.inl ⟨_,q⟩) e1 f e3;exact⟨b,ys,e1,f',e',g.mv mv⟩
 · rcases get_set q with⟨rfl,x,hl⟩|⟨C',q⟩
   ·cases x
   · obtain⟨b,ys,e1,f,e3,l,g⟩:=r.od j ks ds q
     obtain⟨f',e'⟩:=keep j b _ (.inr ⟨_,_,q⟩) e1 f e3;exact⟨b,ys,e1,f',e',l,g.mv mv⟩
 · have old:∀(j:Nat) x,(ρ.set i (.sh d))[j]? =some (.on x)→i≠j∧ρ[j]? =some (.on x):=fun j x e=>by
     rcases get_set e with⟨_,z,_⟩|⟨C',e⟩
     ·cases z
     ·exact⟨C',e⟩
   refine r.on.mv mv (fun j x e=>⟨(old j x e).2,rfl⟩) (fun j x b u e hb f hu=>?_) fun j x b e hb k ok=>(r.on j x (old j x e).2).2.1 b hb k ok.fg.2;obtain⟨t2,v2,UY,h2,_⟩:=hb;exact absurd (ro.2.2 t rfl j t2 h2).symm (old j x e).1
theorem Hj(i:Nat)(h:dI X rest (aj fs)):dI X rest (aj (cC i::fs)):=fun F0 pins s σ H D I ⟨ρ,F,fl,r,e,q⟩=>by
 obtain⟨f1,e1,e⟩:=az.mp e;unfold cC at e1;split at e1
 · rename_i t q1
   cases e1;obtain⟨⟨w,as,ew,tr,nd⟩,_,_⟩:=r.rs.on i _ q1;obtain⟨H1,I1,o1,k1⟩:=ak.frz I tr nd;have SR:=tr.fs;have UO:Mv F H (fun b=>F b∧b∉as) H1:=fun b o n e=>⟨fun h=>n h.1,by rw[o1 b fun hb=>n (SR b hb).1];exact e⟩
   obtain⟨mv,rs⟩:=r.rs.GZ q1 ew tr o1 (F':=fun b=>F b∧b∉as) (fun _=>Iff.rfl) (ak.seen UO tr fun b hb=>⟨k1 b hb,fun h=>h.2 hb⟩);have hG:∀b∈as,F0.g b=none:=fun b hb=>r.dY i _ b q1 ⟨t,w,as,q1,ew,tr,hb⟩;refine h F0 pins s σ H1 D I1 ⟨_,_,fl,⟨rs,fun b u hb=>?_,fun b f=>⟨r.sub b f,fun hb=>?_⟩,r.df,fun j b oj ej=>r.own j b oj.fg.2 ej,fun j x b ex hb=>?_,r.pin.pQ fun _ h=>nomatch h⟩,e,q.mv mv⟩
   ·rw[o1 b fun Mo=>by rw[hG b Mo]at hb;cases hb];exact r.sm b u hb
   · obtain⟨o,eo⟩:=r.df b f
     rw[hG b hb]at eo;cases eo
   · obtain⟨t2,v2,UY,h2,_⟩:=hb
     rcases get_set h2 with⟨_,z,_⟩|⟨C',h2⟩
     ·cases z
     ·exact absurd ((r.rs.on i _ q1).2.2 t rfl j t2 h2).symm C'
 ·cases e1
end
def aV(ns:List Int):List Int:=ns.mergeSort fun a b=>decide (a≤b)
theorem HK(ns:List Int):(aV ns).Pairwise (· ≤ ·):=by
 have:=List.pairwise_mergeSort (le:=fun a b:Int=>decide (a≤b)) (fun a b c h1 h2=>by simp at*;omega) (fun a b=>by simp;omega) ns
 exact this.imp (by simp)
theorem fm(ns:List Int):(aV ns).Perm ns:=List.mergeSort_perm ns _
theorem sN(h1:l.Perm ns)(h2:l.Pairwise (· ≤ ·)):l=aV ns:=
 List.Perm.eq_of_pairwise (fun a b _ _ h1 h2=>Int.le_antisymm h1 h2) h2 (HK ns) (h1.trans (fm ns).symm)
noncomputable def ik:List Ky→Option (List Int)
 |[]=>some []
 |.inl i::r=>(ik r).map (i:: ·)
 |.inr _::_=>none
theorem sd:∀ {ks:List Ky} {ns:List Int},ik ks=some ns→ks=ns.map .inl
 |[],_,h=>by cases h;rfl
 | .inl i::r,ns,h=>by
   unfold ik at h;cases e:ik r with
   |none=>rw[e]at h;cases h
   |some us=>rw[e]at h;cases h;rw[sd e];rfl
 |.inr _::r,ns,h=>by cases h
theorem Ds:∀ns:List Int,ik (ns.map .inl)=some ns
 |[]=>rfl
 |n::ns=>by show(ik (ns.map .inl)).map (n:: ·)=_;rw[Ds ns];rfl
noncomputable def de:D→R D
 | .aw ks _=>match ik ks with
   |some ns=>if ns.length<64 then .ok (.lst ((aV ns).map .int))else .bad
   |none=>.bad
 |_=>.bad
def cQ:D→R D
 |.aw ks _=>.ok (.int ks.length)
 |x=>oH x
section
variable{X:Cx}{M:Md}{G H H':Hp}{F0:Gf}{F F':Addr→Prop}{σ:L2.St}{ρ:En}{pos:Pos}{pins:List (Addr×Obj)}{s:Shared}
theorem xm:∀ {vs:List Value} {ns:List Int},PyProof.Rows.IntsAre vs ns→Vals (ns.map V.int) vs
 |_,_,.nil=>.nil
 |_,_,.cons n t h=>.cons ⟨t,rfl⟩ (xm h)
theorem wY:∀ {ns:List Int} {vs:List Value},Vals (ns.map V.int) vs→PyProof.Rows.IntsAre vs ns
 |[],_,h=>by cases h;exact .nil
 | s::ss,_,h=>by
   cases h with
   | cons r t=>
     obtain⟨tk,rfl⟩:=r;exact .cons s tk (wY t)
theorem A5(hb:b≠a)(e:h.get? b=some o):(PyProof.Rows.sortedHeap h a vs out).get? b=some o:=by
 unfold PyProof.Rows.sortedHeap;rw[Heap.get?_update_other _ _ (Ne.symm hb)];refine Heap.get?_push_of_some _ (Heap.get?_push_of_some _ ?_);rw[Heap.get?_update_other _ _ (Ne.symm hb)];exact e
theorem mh(hc:X.calm=true):b5 X (.builtin "sorted") (fun xs H Q=>∃F p kvs ns,xs=[.ref p]∧dC (aA X) H F p kvs∧kvs.map (·.1)=ns.map .inl∧ns.length<64∧∀l,H l=none→Q (.ref l) (upd H l (.lst ((aV ns).map V.int)))):=by
 intro pins s σ H xs us Q I r h;obtain⟨F,p,kvs,ns,rfl,hd,hk,Nf,q⟩:=h;obtain⟨u,rfl,ru⟩:=L2.vals1 r;cases ru;obtain⟨z,M9,vs,rel,dd⟩:=gT I hd;obtain⟨ep,Mp⟩:=dd.dictAt;have hl:=fV rel;refine PyProof.Rows.call_builtin_at PyProof.Rows.plain_sorted PyProof.Rows.entry_sorted (PyProof.Rows.args_sorted1 _) (PyProof.Rows.wpAt_of_any ?_);unfold Builtin.sorted;refine wpAny_bind (wpAny_pure ?_);refine wpAny_bind (PySem.W.kdu_collect (PySem.W.kdl_dict (knd:=L2.b0 X.prog X.w) (kvs:=vs) (ep:=ep) M9) (I.ok.hd hc) Mp (by omega) fun h1 tk acc keep Oy=>?_)
 have hv:Vals (ns.map V.int) acc.toList:=by
   refine Ax (P:=fun _ _=>True) (by rw[List.length_map];have:=congrArg List.length hk;simp only[List.length_map]at this;have:=Oy.1;simp;omega) fun j v hj=>?_
   obtain⟨k,x,e1,e2⟩:=Oy.2 j v (by simpa using hj)
   obtain⟨y,e3,e4⟩:=wK rel e1;have e5:(kvs.map (·.1))[j]? =some k:=by rw[List.getElem?_map,e3];show some y.1=_;rw[e4]
   rw[hk,List.getElem?_map]at e5;cases e6:ns[j]? with
   |none=>rw[e6]at e5;cases e5
   | some n=>
     rw[e6]at e5;cases e5;exact⟨.int n,by rw[List.getElem?_map,e6];rfl,ud (k:=(.inl n:Key)) (by exact e2)⟩
 have hints:=wY hv;have hlen:acc.toList.length<64:=by have:=hv.length;rw[List.length_map]at this;omega
 have I1:Inv X pins σ H {s with heap:=h1,toks:=tk}:=I.kept keep;refine wpAny_bind (wpAny_newList ?_ (by have:(sizeLine:Nat)=16777216:=sizeLine_eq;omega))
 refine wpAny_bind (wpAny_holding ?_);have Pp:(h1.push {cls:=Value.type "list",data:=Data.seq acc.toList.toArray}).get? h1.objs.size=some (PyProof.Rows.seqObj "list" acc.toList.toArray 0):=Heap.get?_push_size _ rfl;refine PyProof.Rows.wpAny_call_entry_kw PyProof.Rows.slot_list_sort ⟨_,Pp,rfl⟩ PyProof.Rows.entry_list_sort (PyProof.Rows.list_sort_tree Pp hints hlen fun out WL a1 a2 a3=>?_) (PyProof.Rows.args_list_sort _);rw[sN a2 a3]at a1;refine⟨_,rfl,wpAny_pure ⟨_,rfl,?_⟩⟩
 have hz:((aV ns).map V.int).length≤sizeLine:=by
   have:(sizeLine:Nat)=16777216:=sizeLine_eq;rw[List.length_map,(fm ns).length_eq];omega
 have MZ:∃e,(PyProof.Rows.sortedHeap (h1.push {cls:=Value.type "list",data:=Data.seq acc.toList.toArray}) h1.objs.size acc.toList out).get? h1.objs.size=some {cls:=Value.type "list",data:=Data.seq out e}:=PyProof.Rows.sortedHeap_at Pp;obtain⟨e,he⟩:=MZ;have I3:=I1.laid (a:=h1.objs.size) (o:=.lst ((aV ns).map V.int)) (h':=PyProof.Rows.sortedHeap (h1.push {cls:=Value.type "list",data:=Data.seq acc.toList.toArray}) h1.objs.size acc.toList out) (t':=tk) (fun b u hb=>A5 (fun z=>by subst z;rw[Heap.get?_none_of_le (Nat.le_refl _)]at hb;cases hb) (Heap.get?_push_of_some _ hb)) (Nat.le_refl _) ⟨hz,out.toList,e,xm a1,by simpa using he⟩
 exact⟨.ref _,_,I3,rfl,q _ I1.fresh⟩
theorem uR:∀ns:List Int,ag M H F (ns.map .int) (ns.map V.int)
 |[]=>ag.nil
 |n::ns=>ag.cons fU (uR ns)
theorem nW:hX M (g1 de) (fun xs H Q=>∃F p kvs ns,xs=[.ref p]∧dC M H F p kvs∧kvs.map (·.1)=ns.map .inl∧ns.length<64∧∀l,H l=none→Q (.ref l) (upd H l (.lst ((aV ns).map V.int)))):=by
 intro F H xs as d Q tr rs e q;unfold g1 at e;split at e
 · rename_i a
   obtain⟨x,rfl,r⟩:=rs.one;unfold de at e;split at e
   · rename_i ks vs
     split at e
     · rename_i ns Ov
       split at e
       · rename_i Nf
         cases e;have RP:=sd Ov;simp only[Rep]at r;obtain⟨p,ys,rfl,h,hl,rs⟩:=r;refine⟨F,p,_,ns,rfl,h,by rw[List.map_fst_zip (by omega)];exact RP,Nf,fun l hn=>q _ _ (aq.cm hn _) (oR tr hn (uR _))⟩
       ·cases e
     ·cases e
   ·cases e
 ·cases e
def xa(M:Md):List V→Hp→VK→Prop:=fun xs H Q=>sr M xs H Q∨∃F p kvs,xs=[.ref p]∧dC M H F p kvs∧Q (.int kvs.length) H
theorem ko:b5 X (.builtin "len") (xa (aA X)):=by
 intro pins s σ H xs us Q I r h;rcases h with h|⟨F,p,kvs,rfl,hd,q⟩
 ·exact wJ pins s σ H xs us Q I r h
 · obtain⟨u,rfl,ru⟩:=L2.vals1 r
   cases ru;obtain⟨z,M9,vs,rel,dd⟩:=gT I hd;have hl:=fV rel;refine call_len_dict M9 dd (by rw[←hl];rw[sizeLine_eq]at z;omega) ?_
   rw[←hl];exact⟨.int _,H,I.tok _,⟨_,rfl⟩,q⟩
theorem kq:hX M (g1 cQ) (xa M):=by
 intro F H xs as d Q tr rs e q;have e0:=e;unfold g1 at e;split at e
 · rename_i a
   by_cases hd:∃ks vs,a=.aw ks vs
   · obtain⟨ks,vs,rfl⟩:=hd
     cases e;obtain⟨x,rfl,r⟩:=rs.one;simp only[Rep]at r;obtain⟨p,ys,rfl,h1,hl,rs⟩:=r;refine .inr ⟨F,p,_,rfl,h1,?_⟩;rw[List.length_zip,show min ks.length ys.length=ks.length by omega]
     exact q _ _ (aq.refl _) fU
   · refine .inl (vU F H xs _ d Q tr rs ?_ q)
     show oH a=.ok d;cases a with
     |aw ks vs=>exact absurd ⟨ks,vs,rfl⟩ hd
     |_=>exact e
 ·cases e
end
end PL
namespace PL
open PySem PySem.Spec
theorem kK:attributeBase (.Subscript o b p) a env w=w:=rfl
end PL
namespace PL
open PySem PySem.Spec
open L2 (V Hp HO Cx PE PT PW PA PS cq PG d7 VK TE TT TA TS TI TG Inv RelV Vals Rd bz bN upd aq Key XK Ends bh gR b5 R2 EP It Turn dj Un)
def fS(f:Xt):Sm:=fun ρ=>(f ρ).bind fun t=>.ok (.cP t)
def qJ(i:Nat):Sm:=fun ρ=>match ρ[i]? with
 |some (.on (.tr t))=>.ok (.cP t)
 |_=>.bad
noncomputable def i4(n:Nat)(body:Sm):List D→R T:=fun ds=>(body (ds.map .sh++List.replicate (n - ds.length) .un)).bind fun f=>match f with
 |.cP t=>.ok t
 |_=>.bad
noncomputable def spT(M:Md)(m:List D→R T)(n:Nat):L2.Sp:=fun vs H Q _=>∃F ds t,(∀p,F p→∃o,H p=some o)∧ag M H F ds vs∧ds.length=n∧m ds=.ok t∧∀v H' F' as,aq H H'→(∀b∈as,H b=none)→as.Nodup→(∀b,F' b↔F b∨b∈as)→ak M H' F' t v as→Q v H'
def bG(m:List D→R T)(fs:List Ex):Xt:=fun ρ=>(eList fs ρ).bind m
def eX(f:Xt):Ex:=fun ρ=>(f ρ).bind fun t=>.ok (T.toD t)
section
variable{X:Cx}{M:Md}{G H H':Hp}{F0:Gf}{F F':Addr→Prop}{σ:L2.St}{ρ:En}{pos:Pos}{pins:List (Addr×Obj)}{s:Shared}{as:List Addr}
theorem GP(ha:JX X a f):JS X (.Return (some a) pos) (fS f):=fun F0=>
 cJ (L2.uQ ha) fun D σ H ⟨ρ,F,fl,r,e,q⟩=>by
   obtain⟨t,et,e⟩:=az.mp e;cases e;exact⟨ρ,F,t,r.rs,et,fun v H1 F1 as s1 hn nd hF tr=>q v H1 F F1 as (.same s1) (r.sm.trans s1) r.sub (fun b hb=>r.sm.free (hn b hb)) nd hF tr⟩
theorem AD(i:Nat)(hN:X.N[i]? =some x:=by rfl)(hv:L2.cw X.env.scope x:=by first|exact Or.inl rfl|exact Or.inr (Or.inl rfl)|exact Or.inr (Or.inr rfl))(hd:(x==("__debug__":Str))=false:=by decide)
   (LH:(x==("__classdict__":Str))=false:=by decide):JS X (.Return (some (.Name x p2)) pos) (qJ i):=fun F0=>
 cJ (L2.uQ (L2.pv i hN hv hd LH)) fun D σ H ⟨ρ,F,fl,r,e,q⟩=>by
   unfold qJ at e;split at e
   · rename_i t q1
     cases e;obtain⟨⟨w,as,ew,tr,nd⟩,_,_⟩:=r.rs.on i _ q1;have hG:∀b∈as,F0.g b=none:=fun b hb=>r.dY i _ b q1 ⟨t,w,as,q1,ew,tr,hb⟩;have fs:=tr.fs;refine⟨w,ew,q w H (fun b=>F b∧b∉as) F as (fun b o n e=>⟨fun h=>n h.1,e⟩) r.sm (fun b f=>⟨r.sub b f,fun hb=>?_⟩) hG nd (fun b=>?_) tr⟩
     · obtain⟨o,e⟩:=r.df b f
       rw[hG b hb]at e;cases e
     · by_cases hb:b∈as
       ·exact⟨fun _=>.inr hb,fun _=>(fs b hb).1⟩
       ·exact⟨fun f=>.inl ⟨f,hb⟩,fun h=>h.elim And.left fun h=>absurd h hb⟩
   ·cases e
theorem GR{N:List Str}{n:Nat}{body:Sm}{vs:List V}{Q:VK}{E:XK}{t:TS}(ht:∀(F0:Gf) D σ H,fz M F0.g F0 body D σ H→t D σ H)(h:spT M (i4 N.length body) n vs G Q E)(hn:n≤N.length):t {nx:=fun _ H'=>Q .aH H',rt:=Q} (L2.start N vs) G:=by
 obtain⟨F,ds,t',tr,rs,hl,e,q⟩:=h;obtain⟨f,ef,e⟩:=az.mp e;refine ht ⟨G,F,none⟩ _ _ _ ⟨_,F,f,xZ tr rs hl hn,ef,?_⟩;cases f with
 | cP t1=>
   cases e;exact fun v H' F1 F2 as mv sm sub hG nd hF tr=>q v H' (fun b=>F b∨b∈as) as sm hG nd (fun _=>Iff.rfl) (ak.less (fun b f=>(hF b).mpr (f.imp (sub b) id)) (fun b hb=>.inr hb) tr)
 |_=>cases e
structure dh(P:Program)(w:World)(K:PySem.W.Frag)(mg:Str→Option Value)(base:Heap)(x:Str)(k n:Nat)(m:List D→R T):Prop where
 ex:∃f fd ps,L2.dm P w K mg base L2.ff k f fd ps (spT ⟨K,P,w⟩ m n)∧L2.Binds K fd ps []∧PySem.W.keepIn K (.ref f)=true∧mg x=some (.ref f)
theorem qp{P:Program}{w:World}{K:PySem.W.Frag}{mg:Str→Option Value}{base:Heap}{x qual:Str}{st:Stmt}{f:Addr}{fd:FuncData}{N ps:List Str}{k n:Nat}{body:Sm}(Fu:L2.bC K x qual st f fd)(hm:mg x=some (.ref f))(S:L2.bR N ps (L2.aK st))(hb:L2.Binds K fd ps [])
   (h:∀(Lz:Value) (A:Around) (outer:List Env) (s:Shared) (H:Hp) (E:XK),L2.b4 k (A.deeper (PyProof.Rows.envOfC qual (L2.aK st) s.heap.objs.size f Lz))→dI (L2.iu L2.ff P w K mg base N qual (L2.aK st) f Lz A outer s H E).gk (L2.bF st) body)
   (hn:ps.length=n:=by rfl):dh P w K mg base x (k+1) n (i4 N.length body):=by
 refine⟨f,fd,ps,Fu.ok S (fun vs H Q E h=>?_) (fun Lz A outer s H vs Q E hr Nw=>?_),hb,Fu.kp,hm⟩
 · obtain⟨F,ds,d,_,rs,hl,_⟩:=h
   rw[←rs.length,hl,hn]
 · refine⟨fun D σ H'=>∃F0:Gf,fz ⟨K,P,w⟩ F0.g F0 body D σ H',fun pins s' σ H' D I ⟨F0,q⟩=>h Lz A outer s H E hr F0 pins s' σ H' D I q,?_⟩
   refine GR (G:=H) (t:=fun D σ H'=>∃F0:Gf,fz ⟨K,P,w⟩ F0.g F0 body D σ H') (fun F0 D σ H' h=>⟨F0,h⟩) Nw ?_;have:=congrArg List.length S.pre;rw[List.length_take]at this;omega
theorem Eu(hn:fs.length=n)(h:tY M (bG m fs) σ H Q):L2.qw (spT M m n) [] E (qe M (eList fs)) σ H Q:=by
 obtain⟨ρ,F,t,hr,e,q⟩:=h;obtain⟨ds,OV,e⟩:=az.mp e;refine⟨ρ,F,ds,hr,OV,fun vs H1 s1 rs=>?_⟩;show spT M m n (vs++[]) H1 Q E;rw[List.append_nil];exact⟨F,ds,t,(hr.same s1).aX,rs,by rw[jz OV];exact hn,e,fun v H2 F2 as s2 hn nd hF tr=>q v H2 F2 as (s1.trans s2) (fun b hb=>s1.free (hn b hb)) nd hF tr⟩
theorem B0(d:dh X.prog X.w X.K X.mg X.base x k n m)(hr:L2.b4 j X.A)(hg:L2.Gl X x)(ha:JA X (e::es) (eList fs))(hk:k≤j:=by decide)(hn:fs.length=n:=by rfl)
   (Ms:(x==("__debug__":Str))=false:=by decide) (he:starEach (e::es) X.env=(false,eval e X.env)::starEach es X.env:=by rfl) (MP:(backTo pos (starEach es X.env)).any (·.1)=false:=by rfl):JX X (.Call (.Name x p) (e::es) [] pos) (bG m fs):=by
 obtain⟨f,fd,ps,h1,h2,h3,h4⟩:=d.ex;exact bP (L2.rC h1 (hr.mono hk) hg h4 h3 h2 .nil L2.qz ha Ms he MP) fun σ H Q h=>Eu hn h
theorem Gw(h:JX X e f):JE X e (eX f):=by
 intro pins s σ H Q I ⟨ρ,F,d,hr,e,q⟩;obtain⟨t,et,e⟩:=az.mp e;cases e;refine L2.aN (h pins s σ H (fun v H'=>∃F' as,aq H H'∧(∀b∈as,H b=none)∧as.Nodup∧(∀b,F' b↔F b∨b∈as)∧ak (aA X) H' F' t v as) I ⟨ρ,F,t,hr,et,fun v H' F' as a b c d e=>⟨F',as,a,b,c,d,e⟩⟩) fun u s1 ⟨v,H1,I1,rv,F1,as,sm,hn,nd,hF,tr⟩=>?_;obtain⟨H2,I2,o2,k2⟩:=ak.frz I1 tr nd;have fs:=tr.fs;have nF:∀b∈as,¬F b:=fun b hb f=>by obtain⟨o,e⟩:=hr.aX b f;rw[hn b hb]at e;cases e
 refine⟨v,H2,I2,rv,q v H2 (fun b o e=>?_) (ak.seen (fun b o n e=>⟨fun f=>n ((hF b).mpr (.inl f)),?_⟩) tr fun b hb=>⟨k2 b hb,nF b hb⟩)⟩
 ·rw[o2 b fun hb=>by rw[hn b hb]at e;cases e];exact sm _ _ e
 ·rw[o2 b fun hb=>n ((hF b).mpr (.inr hb))];exact e
def xT(fs:List Xt):Xt:=fun ρ=>(dS fs ρ).bind fun ts=>.ok (.tu ts)
theorem Fn{k1}(h:kJ X es (dS fs))(hl:fs.length≤1000:=by decide):JX X (.Tuple es k1 pos) (xT fs):=
 bP (L2.uN h) fun σ H Q ⟨ρ,F,t,hr,e,q⟩=>by
   obtain⟨ts,QE,e⟩:=az.mp e;cases e;refine⟨ρ,F,ts,hr,QE,fun vs H1 F1 as s1 hn nd hF tr=>⟨?_,fun p hp=>?_⟩⟩
   ·rw[←tr.len,sE QE];exact Nat.le_trans hl (by decide)
   · have WB:¬F1 p:=fun f=>by
       rcases(hF p).mp f with f|f
       · obtain⟨o,eo⟩:=hr.aX p f
         rw[s1 _ _ eo]at hp;cases hp
       · obtain⟨_,u,hu⟩:=tr.fs p f
         rw[hp]at hu;cases hu
     refine q _ _ F1 as (s1.trans (aq.cm hp _)) hn nd hF ?_;simp only[ak];have ne:∀b u,H1 b=some u→b≠p:=fun b u e z=>by subst z;rw[hp]at e;cases e
     exact⟨p,vs,rfl,WB,L2.bu,tr.mv (fun b o n e=>⟨n,by rw[L2.aF (ne b o e)];exact e⟩) fun b hb u f hu=>⟨f,by rw[L2.aF (ne b u hu)];exact hu⟩⟩
noncomputable def iU(it:cI)(n:Nat)(fv:List Nat)(tg:eS)(cs:List cg)(el:Xt):Xt:=fun ρ=>(qv it n fv tg cs el ρ).bind fun ts=>.ok (.l ts)
theorem Ec(tn fv:List Str)(LU:List Nat)(NN:∀e s,¬X.xe e s)(hc:X.calm=true)(ok:kl X scope tn fv LU)(hi:JI X target iter it)(low:jA tn.length tg)
   (ht:∀cl C s H fp,JG (dJ X scope cl C (tn++fv) s H fp) target tg) (Nv:∀cl C s H fp,me (dJ X scope cl C (tn++fv) s H fp) ifs cs) (Oa:∀cl C s H fp,JX (dJ X scope cl C (tn++fv) s H fp) elt el)
   (hs:∀x,foldedSetIterable iter X.env x=pure x):JX X (.ListComp elt [⟨target,iter,ifs,0⟩] scope pos) (iU it tn.length LU tg cs el):=by
 intro pins s σ H Q I ⟨ρ,F,t,hr,e,q⟩;obtain⟨all,ea,e⟩:=az.mp e;cases e;show wpAny _ _ (comprehension (.ListComp elt [⟨target,iter,ifs,0⟩] scope pos) scope X.env _ (newList []) false (eval iter X.env) none) _ _ s;refine xA tn fv LU NN hc ok hi low ht Nv Oa hs I hr ea fun D C s4 H' vs Hq bs F2 f hm I5 fC q1 q2 q3 q5 q6 q7 q4=>?_;obtain⟨m,hm⟩:=hm;refine⟨m,hm,fun h' Nk=>⟨.ref D,H',I5.turned (t':=s4.toks) (fun b o n e=>by rw[Nk.2 b n];exact e) fC.1 fC.2.1 fC.2.2.2.1 fC.2.2.2.2.1 fC.2.2.2.2.2,rfl,?_⟩⟩
 rw[←q4];obtain⟨a1,a2,a3,a4⟩:=zD q1 q3 q5 q6 q7 q2;exact q _ _ _ _ a1 a2 a3 (fun _=>Iff.rfl) a4
end
noncomputable def kF(i:Nat)(t:T):Slot→Slot
 | .on (.al k p)=>if k=i then(match T.at t p with
   |some t1=>.sh (T.toD t1)
   |none=>.un)else .un
 |s=>s
def bZ(i:Nat)(t:T)(ρ:En):En:=(ρ.map (kF i t)).set i (.sh (T.toD t))
noncomputable def fF(i:Nat)(f:Ex):Ex:=fun ρ=>match ρ[i]? with
 |some (.on (.tr t))=>(f (bZ i t ρ)).bind fun d=>if cf d=true then .ok d else .bad
 |_=>.bad
noncomputable def cT(i:Nat)(f:cg):cg:=fun ρ=>match ρ[i]? with
 |some (.on (.tr t))=>f (bZ i t ρ)
 |_=>.bad
noncomputable def jo(i:Nat)(f:Ex):Ex:=fun ρ=>match ρ[i]? with
 | some (.on (.tr t))=>(f (bZ i t ρ)).bind fun d=>match d with
   |.lst ds=>if er ds=true then .ok (.lst ds)else .bad
   |_=>.bad
 |_=>.bad
section
variable{X:Cx}{M:Md}{G H H':Hp}{F0:Gf}{F F':Addr→Prop}{σ:L2.St}{ρ:En}{pos:Pos}{pins:List (Addr×Obj)}{s:Shared}{as:List Addr}
theorem zt(I0:Inv X pins σ H s):∀ {as:List Addr} {H1:Hp} {s1:Shared},Inv X pins σ H1 s1→(∀b∈as,H1 b=H b∨∃ob kvs,H b=some (.dK kvs)∧H1 b=some (.frz ob (.dK kvs)))→as.Nodup→∃H2,Inv X pins σ H2 s1∧(∀b∈as,H2 b=H b)∧∀b,b∉as→H2 b=H1 b
 |[],H1,s1,I1,_,_=>⟨H1,I1,(fun _ hb=>nomatch hb),fun _ _=>rfl⟩
 | a::as,H1,s1,I1,k,nd=>by
   have LI:=List.nodup_cons.mp nd;obtain⟨H2,I2,k2,o2⟩:=zt I0 I1 (fun b hb=>k b (List.mem_cons_of_mem _ hb)) LI.2;have ea:H2 a=H1 a:=o2 a LI.1;rcases k a List.mem_cons_self with h|⟨ob,kvs,h1,h2⟩
   · refine⟨H2,I2,fun b hb=>?_,fun b hb=>o2 b fun Mo=>hb (List.mem_cons_of_mem _ Mo)⟩
     rcases List.mem_cons.mp hb with rfl|hb
     ·rw[ea];exact h
     ·exact k2 b hb
   · refine⟨_,Gy I0 h1 I2 (by rw[ea];exact h2),fun b hb=>?_,fun b hb=>?_⟩
     · by_cases NJ:b=a
       ·subst NJ;rw[L2.bu,h1]
       · rw[L2.aF NJ]
         exact k2 b ((List.mem_cons.mp hb).resolve_left NJ)
     · have NJ:b≠a:=fun z=>by subst z;exact hb List.mem_cons_self
       rw[L2.aF NJ];exact o2 b fun Mo=>hb (List.mem_cons_of_mem _ Mo)
theorem bj.bZ(r:bj M H F σ ρ)(e1:ρ[i]? =some (.on (.tr t)))(e2:σ[i]? =some (some w))(tr:ak M H F t w as)(hH:∀b,b∉as→H' b=H b)(hz:∀b∈as,iz H H' b):
   Mv F H (fun b=>F b∧b∉as) H'∧bj M H' (fun b=>F b∧b∉as) σ (PL.bZ i t ρ):=by
 have fs:=tr.fs;have mv:Mv F H (fun b=>F b∧b∉as) H':=fun b o n e=>⟨fun h=>n h.1,by rw[hH b fun hb=>n (fs b hb).1];exact e⟩
 have ro:=r.on i _ e1;have M4:∀b∈as,cR M H F σ ρ i b:=fun b hb=>⟨t,w,as,e1,e2,tr,hb⟩
 have keep:∀(j:Nat) b u,bp ρ j→σ[j]? =some (some (.ref b))→F b→H b=some u→(F b∧b∉as)∧H' b=some u:=fun j b u oj ej fb hu=>by
   have hb:b∉as:=fun hb=>ro.2.1 b (M4 b hb) j oj ej;exact⟨⟨fb,hb⟩,by rw[hH b hb];exact hu⟩
 have root:Rep M H' (fun b=>F b∧b∉as) (T.toD t) w:=ak.seen mv tr fun b hb=>⟨hz b hb,fun h=>h.2 hb⟩
 have get:∀(j:Nat) s,(PL.bZ i t ρ)[j]? =some s→(j=i∧s=.sh (T.toD t))∨(j≠i∧∃z,ρ[j]? =some z∧kF i t z=s):=fun j s h=>by
   unfold PL.bZ at h;rcases get_set h with⟨h1,h2,_⟩|⟨C',h⟩
   ·exact .inl ⟨h1.symm,h2.symm⟩
   · rw[List.getElem?_map]at h
     cases e:ρ[j]? with
     |none=>rw[e]at h;cases h
     |some z=>rw[e]at h;exact .inr ⟨Ne.symm C',z,rfl,by simpa using h⟩
 have same:∀ {z s:Slot},kF i t z=s→(s=z∧∀k p,z≠.on (.al k p))∨s=.un∨∃p t1,z=.on (.al i p)∧T.at t p=some t1∧s=.sh (T.toD t1):=fun {z s} h=>by
   unfold kF at h;split at h
   · rename_i k p
     by_cases hk:k=i
     · subst hk
       rw[if_pos rfl]at h;split at h
       · rename_i t1 h1
         exact .inr (.inr ⟨p,t1,rfl,h1,h.symm⟩)
       ·exact .inr (.inl h.symm)
     ·rw[if_neg hk]at h;exact .inr (.inl h.symm)
   · rename_i C'
     exact .inl ⟨h.symm,fun k p z=>C' k p z⟩
 have owned:∀j,bp (PL.bZ i t ρ) j→bp ρ j:=fun j h=>by
   rcases h with⟨ds,h⟩|⟨ks,ds,h⟩
   · rcases get j _ h with⟨_,z⟩|⟨_,z,NP,NU⟩
     ·cases z
     · rcases same NU with⟨z1,_⟩|z1|⟨_,_,_,_,z1⟩
       ·subst z1;exact .inl ⟨_,NP⟩
       ·cases z1
       ·cases z1
   · rcases get j _ h with⟨_,z⟩|⟨_,z,NP,NU⟩
     ·cases z
     · rcases same NU with⟨z1,_⟩|z1|⟨_,_,_,_,z1⟩
       ·subst z1;exact .inr ⟨_,_,NP⟩
       ·cases z1
       ·cases z1
 refine⟨mv,⟨by unfold PL.bZ;simp[r.len],fun b h=>?_,fun j d h=>?_,fun j ds h=>?_,fun j ks ds h=>?_,fun j k b oj ok ej ek=>r.cn j k b (owned j oj) (owned k ok) ej ek,.no fun j x h=>?_⟩⟩
 · obtain⟨o,e⟩:=r.aX b h.1
   exact⟨o,by rw[hH b h.2];exact e⟩
 · rcases get j _ h with⟨rfl,z⟩|⟨_,z,NP,NU⟩
   ·cases z;exact⟨w,e2,root⟩
   · rcases same NU with⟨z1,_⟩|z1|⟨p,t1,z1,Mp,z2⟩
     · subst z1
       obtain⟨v,ev,rv⟩:=r.sh j d NP;exact⟨v,ev,rv.mv mv⟩
     ·cases z1
     · subst z1
       cases z2;obtain⟨v0,w1,t2,a1,a2,a3,_⟩:=(r.on j _ NP).1 t e1;rw[e2]at a1;cases a1;have:=a3.mW;rw[Mp]at this;cases this;obtain⟨bs,tp,sub⟩:=aD.part tr a3;exact⟨w1,a2,ak.seen mv tp fun b hb=>⟨hz b (sub.subset hb),fun h=>h.2 (sub.subset hb)⟩⟩
 · rcases get j _ h with⟨_,z⟩|⟨_,z,NP,NU⟩
   ·cases z
   · rcases same NU with⟨z1,_⟩|z1|⟨_,_,_,_,z1⟩
     · subst z1
       obtain⟨b,ys,e3,f,e4,g⟩:=r.ol j ds NP;obtain⟨f',e'⟩:=keep j b _ (.inl ⟨_,NP⟩) e3 f e4;exact⟨b,ys,e3,f',e',g.mv mv⟩
     ·cases z1
     ·cases z1
 · rcases get j _ h with⟨_,z⟩|⟨_,z,NP,NU⟩
   ·cases z
   · rcases same NU with⟨z1,_⟩|z1|⟨_,_,_,_,z1⟩
     · subst z1
       obtain⟨b,ys,e3,f,e4,l,g⟩:=r.od j ks ds NP;obtain⟨f',e'⟩:=keep j b _ (.inr ⟨_,_,NP⟩) e3 f e4;exact⟨b,ys,e3,f',e',l,g.mv mv⟩
     ·cases z1
     ·cases z1
 · rcases get j _ h with⟨_,z⟩|⟨hj,z,NP,NU⟩
   ·cases z
   · rcases same NU with⟨z1,hn⟩|z1|⟨_,_,_,_,z1⟩
     · subst z1
       cases x with
       |tr t'=>exact hj (ro.2.2 t rfl j t' NP)
       |al k p=>exact hn k p rfl
     ·cases z1
     ·cases z1
theorem uJ(I:Inv X pins σ H s)(nd:as.Nodup)(hH:∀b,b∉as→H' b=H b)(hz:∀b∈as,iz H H' b)(I1:Inv X pins σ H1 s1)(sm:aq H' H1):
   ∃H2,Inv X pins σ H2 s1∧aq H H2∧(∀b,b∉as→H2 b=H1 b)∧(∀b∈as,H2 b=H b)∧(∀b∈as,∃u,H1 b=some u)∧∀a xs,dF M H1 (fun b=>F b∧b∉as) a xs→dF M H2 F a xs:=by
 have k1:∀b∈as,(H1 b=H b∧∃xs,H b=some (.lst xs))∨∃ob kvs,H b=some (.dK kvs)∧H1 b=some (.frz ob (.dK kvs)):=fun b hb=>by
   rcases hz b hb with⟨h1,xs,h2⟩|⟨ob,kvs,h1,h2⟩
   ·exact .inl ⟨by rw[h2]at h1 ⊢;exact sm _ _ h1,xs,h2⟩
   ·exact .inr ⟨ob,kvs,h1,sm _ _ h2⟩
 obtain⟨H2,I2,a2,o2⟩:=zt I I1 (fun b hb=>(k1 b hb).imp And.left id) nd;refine⟨H2,I2,fun b o e=>?_,o2,a2,fun b hb=>?_,fun a xs h=>?_⟩
 · by_cases hb:b∈as
   ·rw[a2 b hb];exact e
   ·rw[o2 b hb];exact sm _ _ (by rw[hH b hb];exact e)
 · rcases k1 b hb with⟨h1,xs,h2⟩|⟨ob,kvs,h1,h2⟩
   ·exact⟨_,h1.trans h2⟩
   ·exact⟨_,h2⟩
 · rcases h with⟨n,h⟩|h
   · have ha:a∉as:=fun ha=>by
       rcases k1 a ha with⟨h1,ys,h2⟩|⟨ob,kvs,h1,h2⟩
       · rcases h with h|⟨o,h⟩
         ·rw[h1,h2]at h;cases h
         ·rw[h1,h2]at h;cases h
       · rcases h with h|⟨o,h⟩
         ·rw[h2]at h;cases h
         ·rw[h2]at h;cases h
     refine .inl ⟨fun f=>n ⟨f,ha⟩,?_⟩;rcases h with h|⟨o,h⟩
     ·exact .inl (by rw[o2 a ha];exact h)
     ·exact .inr ⟨o,by rw[o2 a ha];exact h⟩
   ·exact .inr h
theorem EW(i:Nat)(h:JE X e f):JE X e (fF i f):=by
 intro pins s σ H Q I ⟨ρ,F,d,hr,e,q⟩;unfold fF at e;split at e
 · rename_i t q1
   obtain⟨d',ed,e⟩:=az.mp e;by_cases hf:PL.cf d'=true
   · rw[if_pos hf]at e
     cases e;obtain⟨⟨w,as,ew,tr,nd⟩,_,_⟩:=hr.on i _ q1;obtain⟨H',I',hH,hz⟩:=ak.frz I tr nd;obtain⟨mv,rs⟩:=hr.bZ q1 ew tr hH hz;refine L2.aN (h pins s σ _ _ I' ⟨_,_,_,rs,ed,fun v H1 s1 rv=>(⟨s1,rv⟩:aq H' H1∧Rep (aA X) H1 (fun b=>F b∧b∉as) d v)⟩) fun u s1 ⟨x,H1,I1,rx,sm,rv⟩=>?_;obtain⟨H2,I2,s2,_,_,_,tp⟩:=uJ (M:=aA X) (F:=F) I nd hH hz I1 sm;exact⟨x,H2,I2,rx,q _ _ s2 (Rep.ia tp hf rv)⟩
   ·rw[if_neg hf]at e;cases e
 ·cases e
theorem BQ(i:Nat)(h:JT X e f):JT X e (cT i f):=by
 intro pins s σ H Q I ⟨ρ,F,d,hr,e,q⟩;unfold cT at e;split at e
 · rename_i t q1
   obtain⟨⟨w,as,ew,tr,nd⟩,_,_⟩:=hr.on i _ q1;obtain⟨H',I',hH,hz⟩:=ak.frz I tr nd;obtain⟨mv,rs⟩:=hr.bZ q1 ew tr hH hz;refine L2.aN (h pins s σ _ (fun b H1=>b=d∧aq H' H1) I' ⟨_,_,_,rs,e,fun H1 s1=>⟨rfl,s1⟩⟩) fun b s1 ⟨H1,I1,hb,sm⟩=>?_;subst hb;obtain⟨H2,I2,s2,_,_,_,tp⟩:=uJ (M:=aA X) (F:=F) I nd hH hz I1 sm;exact⟨H2,I2,q _ s2⟩
 ·cases e
theorem AQ (i:Nat) (h:JF X e f):JF X e (jo i f):=by
 intro pins s σ H Q I ⟨ρ,F,ds,hr,e,q⟩;unfold jo at e;split at e
 · rename_i t q1
   obtain⟨d',ed,e⟩:=az.mp e;split at e
   · rename_i Tb
     by_cases hf:PL.er Tb=true
     · rw[if_pos hf]at e
       cases e;obtain⟨⟨w,as,ew,tr,nd⟩,_,_⟩:=hr.on i _ q1;obtain⟨H',I',hH,hz⟩:=ak.frz I tr nd;obtain⟨mv,rs⟩:=hr.bZ q1 ew tr hH hz;refine L2.aN (h pins s σ _ (fun v H9=>∃p H1 xs,v=.ref p∧H9=upd H1 p (.lst xs)∧aq H' H1∧H1 p=none∧ag (aA X) H1 (fun b=>F b∧b∉as) ds xs) I' ⟨_,_,_,rs,ed,fun p H1 xs s1 hp rv=>⟨p,H1,xs,rfl,rfl,s1,hp,rv⟩⟩) fun u s1 ⟨x,H9,I1,rx,p,H1,xs,ex,eH,sm,hp,rv⟩=>?_;subst ex eH;obtain⟨H2,I2,s2,o2,a2,t2,tp⟩:=uJ (M:=aA X) (F:=F) I nd hH hz I1 (sm.trans (aq.cm hp _))
       have OH:p∉as:=fun hb=>by
         rcases hz p hb with⟨h1,ys,h2⟩|⟨ob,kvs,h1,h2⟩
         ·rw[sm _ _ (h1.trans h2)]at hp;cases hp
         ·rw[sm _ _ h2]at hp;cases hp
       have e2:H2=upd (fun b=>if b=p then none else H2 b) p (.lst xs):=by
         funext b;unfold upd;by_cases hb:b=p
         ·simp only[if_pos hb];rw[hb,o2 p OH,L2.bu]
         ·simp only[if_neg hb]
       rw[e2]at I2;refine⟨.ref p,_,I2,rx,q p _ xs (fun b o e=>?_) (by simp) (ag.ia (fun a ys ht=>?_) hf (rv.mv (F':=fun b=>F b∧b∉as) (.same (aq.cm hp (.lst xs)))))⟩
       · have hb:b≠p:=fun z=>by subst z;have:=hH b OH;rw[e]at this;rw[sm _ _ this]at hp;cases hp
         simp only[if_neg hb];exact s2 _ _ e
       · have OU:=tp a ys ht
         have Wa:¬F a→Rd H2 a (.tup ys)→Rd (fun b=>if b=p then none else H2 b) a (.tup ys):=fun n h=>by
           have ha:a≠p:=fun z=>by
             subst z;rw[e2]at h;rcases h with h|⟨o,h⟩
             ·rw[L2.bu]at h;cases h
             ·rw[L2.bu]at h;cases h
           rcases h with h|⟨o,h⟩
           ·exact .inl (by simp only[if_neg ha];exact h)
           ·exact .inr ⟨o,by simp only[if_neg ha];exact h⟩
         rcases OU with⟨n,h⟩|h
         ·exact .inl ⟨n,Wa n h⟩
         ·exact .inr h
     ·rw[if_neg hf]at e;cases e
   ·cases e
 ·cases e
end
noncomputable def gb(z:Ky):List Ky→Option Nat
 |[]=>none
 |a::ks=>if a=z then some 0 else(gb z ks).map (· +1)
noncomputable def stepT:T→D→Option Nat
 |.l ts,.int k=>dP ts.length k
 |.tu ts,.int k=>dP ts.length k
 | .m ks _,x=>match keyOf x with
   |some z=>gb z ks
   |none=>none
 |_,_=>none
noncomputable def pX(i:Nat)(f:Pt)(e:Ex):Pt:=fun ρ=>(f ρ).bind fun p=>(e ρ).bind fun x=>match ρ[i]? with
 | some (.on (.tr t))=>match T.at t p with
   | some n=>match stepT n x with
     |some m=>.ok (p++[m])
     |none=>.bad
   |none=>.bad
 |_=>.bad
noncomputable def pA(i j:Nat):Pt:=fun ρ=>match ρ[j]? with
 |some (.on (.al k p))=>if k=i then .ok p else .bad
 |_=>.bad
noncomputable def iO(z:Ky)(u:T)(ks:List Ky)(ts:List T):List Ky×List T:=if(ks.any fun a=>decide (a=z))=true then(ks,List.zipWith (fun a t=>if a=z then u else t) ks ts)else(ks++[z],ts++[u])
noncomputable def b7(i:Nat)(f:Pt)(k e:Ex):Sm:=fun ρ=>(e ρ).bind fun d=>(f ρ).bind fun p=>(k ρ).bind fun q=>match ρ[i]?,keyOf q with
 | some (.on (.tr t)),some z=>match T.at t p with
   |some (.m ks ts)=>if ks.length<1000 then .ok (.next ((fM i p ρ).set i (.on (.tr (T.put (.m (iO z (.d d) ks ts).1 (iO z (.d d) ks ts).2) t p)))))else .bad
   |_=>.bad
 |_,_=>.bad
section
variable{X:Cx}{M:Md}{G H H':Hp}{F0:Gf}{F F':Addr→Prop}{σ:L2.St}{ρ:En}{pos:Pos}{pins:List (Addr×Obj)}{s:Shared}{as:List Addr}
noncomputable def Ht:R2:=fun x y H Q=>∃p kvs k v,x=.ref p∧y=L2.kV k∧Rd H p (.dK kvs)∧L2.cG kvs k=some v∧Q v H
theorem zY:L2.gf X (fun x y H Q=>L2.qT X.K x y H Q∨Ht x y H Q):=by
 refine L2.gf.or L2.yL ?_;intro value slice pins s σ H x y v u Q I rx ry h hs;obtain⟨p,kvs,k,w,rfl,rfl,hd,hv,q⟩:=h;cases rx;obtain⟨z,M9,vs,rel,dd⟩:=L2.qQ I.aI hd;have r:=L2.KV.val rel k;rw[hv]at r;obtain⟨w',hw,Mx⟩:=L2.eV.some_of r;exact PyProof.Rows.tail_any dd.typeIs PySem.F.slot_dict_getitem.lookup (wpAny_getItem_of (L2.gL ry) dd.mapOf hw ⟨w,H,I.tok _,Mx,q⟩) hs
theorem pq:∀ {ks:List Ky} {xs:List V} {m:Nat},ks.length=xs.length→gb z ks=some m→∃x,xs[m]? =some x∧L2.cG (ks.zip xs) z=some x
 |[],_,_,_,h=>by cases h
 |a::ks,[],_,l,_=>by simp at l
 | a::ks,x::xs,m,l,h=>by
   unfold gb at h;unfold L2.cG;rw[List.zip_cons_cons,List.find?_cons];by_cases hz:a=z
   · rw[if_pos hz]at h
     cases h;exact⟨x,rfl,by simp[hz]⟩
   · rw[if_neg hz]at h
     cases e:gb z ks with
     |none=>rw[e]at h;cases h
     | some j=>
       rw[e]at h;cases h;obtain⟨y,h1,h2⟩:=pq (xs:=xs) (by simpa using l) e
       refine⟨y,by simpa using h1,?_⟩
       simp only[decide_eq_false hz];exact h2
theorem DH(i j:Nat)(hN:X.N[j]? =some x:=by rfl)(hv:L2.cw X.env.scope x:=by first|exact Or.inl rfl|exact Or.inr (Or.inl rfl)|exact Or.inr (Or.inr rfl))(hd:(x==("__debug__":Str))=false:=by decide)
   (LH:(x==("__classdict__":Str))=false:=by decide):JL X i (.Name x pos) (pA i j):=
 bP (L2.pv j hN hv hd LH) fun σ H Q ⟨ρ,F,t,w,p,t1,r,e1,e2,ef,PU,q⟩=>by
   unfold pA at ef;split at ef
   · rename_i k p' h1
     by_cases hk:k=i
     · rw[if_pos hk]at ef
       cases ef;subst hk;obtain⟨v,w1,t2,a1,a2,a3,_⟩:=(r.on j _ h1).1 t e1;rw[e2]at a1;cases a1;have:=a3.mW;rw[PU]at this;cases this;exact⟨w1,a2,q w1 H (aq.refl _) a3⟩
     ·rw[if_neg hk]at ef;cases ef
   ·cases ef
theorem Au (ha:JL X i a f) (hb:JE X b fb) (hs:L2.jC b:=by exact fun _ _=>rfl):JL X i (.Subscript a b pos) (pX i f fb):=
 bP (L2.tW zY ha hb hs) fun σ H Q ⟨ρ,F,t,w,p',t1,r,e1,e2,ef,PU,q⟩=>by
   obtain⟨p,ep,ef⟩:=az.mp ef;obtain⟨x,ex,ef⟩:=az.mp ef;rw[e1]at ef;have ef:(match T.at t p with|some n=>(match stepT n x with|some m=>R.ok (p++[m])|none=>.bad)|none=>.bad)=.ok p':=ef
   cases Mp:T.at t p with
   |none=>rw[Mp]at ef;cases ef
   | some n=>
     rw[Mp]at ef;have ef:(match stepT n x with|some m=>R.ok (p++[m])|none=>.bad)=.ok p':=ef
     cases hm:stepT n x with
     |none=>rw[hm]at ef;cases ef
     | some m=>
       rw[hm]at ef;cases ef;refine⟨ρ,F,t,w,p,n,r,e1,e2,ep,Mp,fun v H1 s1 OM=>⟨ρ,F,x,r.same s1,ex,fun y H2 s2 ry=>?_⟩⟩;have r2:=(r.same s1).same s2;obtain⟨⟨w',as,ew,tr,nd⟩,_,_⟩:=r2.on i _ e1;rw[e2]at ew;cases ew;have at2:=OM.same (r.same s1) e1 e2 s2;obtain⟨bs,tp,_⟩:=aD.part tr at2;have h1:=PU;rw[T.pR Mp]at h1;cases n with
       |d _=>cases x<;>cases hm
       | l ts=>
         cases x with
         | int k=>
           simp only[ak]at tp;obtain⟨a,xs,cs,rfl,rfl,fa,ha,Mg⟩:=tp;rw[T.B2]at h1;have hlen:=Mg.len
           have hx:∃x1,xs[m]? =some x1:=by
             obtain⟨hl,_⟩:=List.getElem?_eq_some_iff.mp h1;exact⟨xs[m]'(by omega),List.getElem?_eq_getElem (by omega)⟩
           obtain⟨x1,hx⟩:=hx;have hm:dP ts.length k=some m:=hm;have h3:dA xs k=some x1:=by unfold dA;rw[←hlen,hm];exact hx
           exact .inl (.inl ⟨a,xs,k,x1,rfl,ck ry,bz.of ha,h3,q x1 H2 (s1.trans s2) (aD.snoc (aD.JJ ha h1 hx) at2)⟩)
         |_=>cases hm
       | tu ts=>
         cases x with
         | int k=>
           simp only[ak]at tp;obtain⟨a,xs,rfl,fa,ha,Mg⟩:=tp
           have h1:ts[m]? =some t1:=by
             unfold T.at at h1;cases e:ts[m]? with
             |none=>rw[e]at h1;cases h1
             |some u=>rw[e]at h1;cases u<;>exact h1
           have hlen:=Mg.len
           have hx:∃x1,xs[m]? =some x1:=by
             obtain⟨hl,_⟩:=List.getElem?_eq_some_iff.mp h1;exact⟨xs[m]'(by omega),List.getElem?_eq_getElem (by omega)⟩
           obtain⟨x1,hx⟩:=hx;have hm:dP ts.length k=some m:=hm;have h3:dA xs k=some x1:=by unfold dA;rw[←hlen,hm];exact hx
           exact .inl (.inr (.inl ⟨a,xs,k,x1,rfl,ck ry,.inl (.inl ha),h3,q x1 H2 (s1.trans s2) (aD.snoc (aD.Dq ha h1 hx) at2)⟩))
         |_=>cases hm
       | m ks ts=>
         have hm:(match keyOf x with|some z=>gb z ks|none=>none)=some m:=by cases x<;>exact hm
         cases hz:keyOf x with
         |none=>rw[hz]at hm;cases hm
         | some z=>
           rw[hz]at hm;have hm:gb z ks=some m:=hm;simp only[ak]at tp;obtain⟨a,xs,cs,rfl,rfl,fa,ha,hl,Mg⟩:=tp
           have h1:ts[m]? =some t1:=by
             unfold T.at at h1;cases e:ts[m]? with
             |none=>rw[e]at h1;cases h1
             |some u=>rw[e]at h1;cases u<;>exact h1
           obtain⟨x1,hx,hv⟩:=pq hl hm;exact .inr ⟨a,_,z,x1,rfl,fG hz ry,.inl ha,hv,q x1 H2 (s1.trans s2) (aD.snoc (aD.Ji ha hl h1 hx) at2)⟩
theorem gd.of(h0:ak M H F n0 (.ref c) (c::cs))(nd:(c::cs).Nodup)(sub:My.Sublist cs)(h1:ak M (upd H c o) F n1 (.ref c) (c::My)):gd M H (upd H c o) F F c n0 n1 (c::cs) (c::My):=
 have s2:(c::My).Sublist (c::cs):=List.Sublist.cons₂ c sub
 ⟨h0,List.mem_cons_self,h1,nd.sublist s2,fun b u n e=>by rw[L2.aF n];exact e,fun b=>⟨.inl,fun h=>h.elim id fun hb=>(h0.fs b (s2.subset hb)).1⟩,fun b hb=>.inl (s2.subset hb)⟩
theorem av.zP(rd:Rep M H F d v):∀ {ks:List Ky} {ts:List T} {xs:List V} {as:List Addr},av M H F ts xs as→∃LD,av M H F (List.zipWith (fun a t=>if a=z then T.d d else t) ks ts) (List.zipWith (fun a x=>if a=z then v else x) ks xs) LD∧LD.Sublist as
 |[],ts,xs,as,h=>⟨[],by simp[av],List.nil_sublist _⟩
 | a::ks,[],xs,as,h=>by
   simp only[av]at h;obtain⟨rfl,rfl⟩:=h;exact⟨[],by simp[av],List.Sublist.refl _⟩
 | a::ks,t::ts,xs,as,h=>by
   simp only[av]at h;obtain⟨x,r,bs,cs,rfl,rfl,h1,h2⟩:=h;obtain⟨My,k1,k2⟩:=av.zP (z:=z) rd (ks:=ks) h2;rw[List.zipWith_cons_cons,List.zipWith_cons_cons];by_cases hz:a=z
   · refine⟨My,?_,k2.trans (List.sublist_append_right _ _)⟩
     rw[if_pos hz,if_pos hz];simp only[av,ak];exact⟨v,_,[],My,rfl,rfl,⟨rfl,rd⟩,k1⟩
   · refine⟨bs++My,?_,List.Sublist.append (List.Sublist.refl _) k2⟩
     rw[if_neg hz,if_neg hz];simp only[av];exact⟨x,_,bs,My,rfl,rfl,h1,k1⟩
theorem HL (i:Nat) (hu:X.A.units+64<cLine) (ho:JL X i o f) (hk:JE X k g) (he:JE X e h) (hs:swapsWith e (some (.Subscript o k p3)) pos.line X.env=pure false:=by rfl):
   JS X (.Assign [.Subscript o k p3] e pos) (b7 i f g h):=fun F0=>
 cJ (L2.wV (by omega) ho hk he hs) fun D σ H ⟨ρ,F,fl,r,e,q⟩=>by
   obtain⟨d,ed,e⟩:=az.mp e;obtain⟨p,ep,e⟩:=az.mp e;obtain⟨y,ey,e⟩:=az.mp e;split at e
   · rename_i t z q1 hz
     split at e
     · rename_i ks ts Mp
       split at e
       · rename_i L8
         cases e;obtain⟨⟨w,as,ew,tr,nd⟩,_,_⟩:=r.rs.on i _ q1;refine⟨ρ,F,d,r.rs,ed,fun v H1 s1 rv=>⟨ρ,F,t,w,p,_,(r.same s1).rs,q1,ew,ep,Mp,fun v0 H2 s2 at2=>⟨ρ,F,y,((r.same s1).same s2).rs,ey,fun w2 H3 s3 Mx=>?_⟩⟩⟩;have r2:=(r.same s1).same s2;have r3:=r2.same s3;have Ox:=at2.same r2.rs q1 ew s3;obtain⟨⟨w',LD,O0,MD,OS⟩,_,_⟩:=r3.rs.on i _ q1;rw[ew]at O0;cases O0;obtain⟨bs,tp,sub⟩:=aD.part MD Ox;have PV:=tp;simp only[ak]at tp;obtain⟨a,xs,cs,rfl,rfl,fa,ha,hl,Mg⟩:=tp;have N1:=OS.sublist sub;have RD:=List.nodup_cons.mp N1;cases fG hz Mx;have TC:=rv.mv (M:=aA X) (F':=F) (.same (s2.trans s3))
         have Pc:(ks.zip xs).length<sizeLine:=by
           have:(sizeLine:Nat)=16777216:=sizeLine_eq;rw[List.length_zip];omega
         refine⟨a,_,rfl,L2.jd.k ha Pc,?_⟩;rw[sf z v hl];have QR:∀o:HO,Mv F H3 F (upd H3 a o):=fun o b u n e=>⟨n,by rw[L2.aF (fun z=>by subst z;exact n fa)];exact e⟩
         have kp:∀(o:HO) {My:List Addr},My.Sublist cs→∀b∈My,∀u,F b→H3 b=some u→F b∧upd H3 a o b=some u:=fun o My hs b hb u f hu=>⟨f,by rw[L2.aF (fun z=>by subst z;exact RD.1 (hs.subset hb))];exact hu⟩
         unfold iO at q;by_cases hm:(ks.any fun a=>decide (a=z))=true
         · rw[if_pos hm]at q ⊢
           obtain⟨My,k1,k2⟩:=av.zP (z:=z) TC (ks:=ks) Mg
           obtain⟨mv,r'⟩:=r3.qc (H2:=upd H3 a (.dK (ks.zip (List.zipWith (fun a x=>if a=z then v else x) ks xs)))) (F2:=F) (n1:=.m ks (List.zipWith (fun a t=>if a=z then T.d d else t) ks ts)) q1 ew Ox (gd.of PV N1 k2 (by
             simp only[ak];exact⟨a,_,My,rfl,rfl,fa,L2.bu,by rw[List.length_zipWith];omega,k1.mv (QR _) (kp _ k2)⟩)) rfl
           exact q _ _ _ (Mv.trans (.same (s1.trans (s2.trans s3))) mv) r'
         · rw[if_neg hm]at q ⊢
           obtain⟨mv,r'⟩:=r3.qc (H2:=upd H3 a (.dK ((ks++[z]).zip (xs++[v])))) (F2:=F) (n1:=.m (ks++[z]) (ts++[T.d d])) q1 ew Ox (gd.of PV N1 (List.Sublist.refl _) (by
             simp only[ak];refine⟨a,_,cs,rfl,rfl,fa,L2.bu,by rw[List.length_append,List.length_append,hl];rfl,?_⟩
             have:=av.append (Mg.mv (QR (.dK ((ks++[z]).zip (xs++[v])))) (kp _ (List.Sublist.refl _))) (kH (vs:=[d]) (xs:=[v]) (as:=[]) |>.mpr ⟨rfl,ag.cons (TC.mv (QR _)) ag.nil⟩);simpa using this)) rfl
           exact q _ _ _ (Mv.trans (.same (s1.trans (s2.trans s3))) mv) r'
       ·cases e
     ·cases e
   ·cases e
end
def ki:D→R D
 |.aw ks vs=>.ok (.aw ks vs)
 |_=>.bad
section
variable{X:Cx}{M:Md}{G H H':Hp}{F0:Gf}{F F':Addr→Prop}{σ:L2.St}{ρ:En}{pos:Pos}{pins:List (Addr×Obj)}{s:Shared}{as:List Addr}
theorem Cs:b5 X (.type "dict") (fun xs H Q=>∃F p kvs,xs=[.ref p]∧dC (aA X) H F p kvs∧∀l,H l=none→Q (.ref l) (upd H l (.dK kvs))):=by
 intro pins s σ H xs us Q I r h;obtain⟨F,p,kvs,rfl,hd,q⟩:=h;obtain⟨u,rfl,ru⟩:=L2.vals1 r;cases ru;obtain⟨z,M9,vs,rel,dd⟩:=gT I hd;have hl:=fV rel;refine kt_call_dict (knd:=L2.b0 X.prog X.w) M9 dd (by omega) fun h' d1 sb=>?_
 have keep:∀b o,s.heap.get? b=some o→h'.get? b=some o:=fun b o e=>by
   rw[sb.2 b (Nat.ne_of_lt (Heap.lt_size e))];exact Heap.get?_push_of_some _ e
 exact⟨.ref _,_,I.laid (a:=s.heap.objs.size) (o:=.dK kvs) (t':=s.toks) keep (Nat.le_refl _) (L2.jj z (beq_eq_false_iff_ne.mpr (Ne.symm (Nat.ne_of_lt I.big))) rel d1),rfl,q _ (I.aI.fresh (Nat.le_refl _))⟩
theorem DU(hg:L2.Gl X "dict")(hm:X.mg "dict"=none)(ha:JE X a fa)(hs:starEach [a] X.env=(false,eval a X.env)::starEach [] X.env):JD X (.Call (.Name "dict" p) [a] [] pos) (e1 ki fa):=
 bP (L2.pb Cs hg hm lG (fJ ha gB hs) (by decide) (by decide) hs) fun σ H Q ⟨ρ,F,ks,ds,hr,e,q⟩=>by
   obtain⟨d1,ed,e⟩:=az.mp e;refine⟨ρ,F,[d1],hr,by show(fa ρ).bind _=_;rw[ed];rfl,fun vs H1 s1 rv=>?_⟩
   obtain⟨y,rfl,ry⟩:=rv.one;unfold ki at e;split at e
   · cases e
     simp only[Rep]at ry;obtain⟨a,xs,rfl,h1,hl,rs⟩:=ry;exact⟨F,a,_,rfl,h1,fun l hn=>q l H1 xs s1 hn hl rs⟩
   ·cases e
theorem dC.ne(I:Inv X pins σ H s)(ha:H a=some (.dK kvs))(hb:dC (aA X) H F b more):a≠b:=by
 rintro rfl;rcases hb with⟨_,ob,hb⟩|⟨o,es,ep,vs,hk,_⟩
 ·rw[ha]at hb;cases hb
 · have:=(I.bs a o (I.mod.q8 a o hk)).2
   rw[ha]at this;cases this
def Ip(M:Md):V→List V→Hp→VK→Prop:=fun x vs H Q=>∃F a b kvs more,x=.ref a∧vs=[.ref b]∧H a=some (.dK kvs)∧dC M H F b more∧kvs.length+more.length≤1000∧Q .aH (upd H a (.dK (L2.dv kvs more)))
theorem D4:L2.uH X "dict.update" (Ip (aA X)):=by
 intro pins s σ H x vs v us Q I rx rv h;obtain⟨F,a,b,kvs,more,rfl,rfl,ha,hb,hz,q⟩:=h;cases rx;obtain⟨u,rfl,ru⟩:=rv.one;cases ru;obtain⟨z,M9,ws,rel,dd⟩:=L2.lu I.aI ha;obtain⟨z2,Qn,Ux,P8,Rk⟩:=gT I hb;have h3:(sizeLine:Nat)=16777216:=sizeLine_eq;refine call_meetsIn PySem.F.slot_dict_update dd.typeIs PySem.F.entry_dict_update (PySem.F.args_dict_update_2 _ _) (meets_dict_update (L2.b0 X.prog X.w) a b (dC.ne I ha hb) Qn) ⟨ws,Ux,dd,Rk,by rw[←rel.length, ←P8.length];omega,fun h' d1 d2 hs=>?_⟩
 have he:∃q,h'.get? a=some q:=let⟨q,_,_,hq,_⟩:=d1;⟨q,hq⟩
 have hl:(L2.dv kvs more).length≤sizeLine:=by have:=L2.ql more kvs;omega
 exact⟨.aH,_,L2.jW I (by rw[ha];exact True.intro) hs he (L2.jj hl M9 (P8.merge rel) d1),rfl,q⟩
theorem GW(i:Nat)(he:JE X e f)(hN:X.N[i]? =some x)(hv:L2.cw X.env.scope x)(hd:(x==("__debug__":Str))=false)
   (LH:(x==("__classdict__":Str))=false) (Ll:attributeBase (.Name x p2) "update" X.env (eval (.Name x p2) X.env)=eval (.Name x p2) X.env)
   (L':((backTo j' (starEach [e] X.env)).all (fun x=> !x.1)&&(backToKw j' (keywordEach [] X.env)).all (fun x=>x.1.isSome)
     &&decide (([e]:List Expr).length+([]:List Keyword).length+(if([]:List Keyword).isEmpty then 0 else 1)<30))=true)
   (Lm:(apos.endLine==j'.line)=true) (hs:starEach [e] X.env=(false,eval e X.env)::starEach [] X.env)
   (Mq:swapsWith (.Call (.Attribute (.Name x p2) "update" apos) [e] [] j') none pos.line X.env=pure false):
   JS X (.Expr (.Call (.Attribute (.Name x p2) "update" apos) [e] [] j') pos) (mR i f):=fun F0=>
 cJ (L2.jF (L2.rm PySem.F.plainAttrs_dict PySem.F.slot_dict_update PySem.F.type_dict_update D4 (L2.pv i hN hv hd LH) (fJ he gB hs) Ll L' Lm hs) Mq) fun D σ H ⟨ρ,F,fl,r,e,q⟩=>by
   obtain⟨d,ed,e⟩:=az.mp e;split at e
   · rename_i ks vs as bs q1
     split at e
     · rename_i L8
       cases e;have oi:bp ρ i:=.inr ⟨_,_,q1⟩;obtain⟨a,xs,ea,fa,ha,hl,rs⟩:=r.rs.od i _ _ q1;refine⟨_,ea,.inr (.inr (.inl ⟨rfl,.inl ⟨_,ha⟩⟩)),ρ,F,[.aw ks vs],r.rs,by show(f ρ).bind _=_;rw[ed];rfl,fun us H1 s1 rv=>?_⟩
       obtain⟨y,rfl,ry⟩:=rv.one;simp only[Rep]at ry;obtain⟨b,ys,rfl,h1,Wz,ry⟩:=ry;have r1:=r.same s1;have Px:=s1 _ _ ha;obtain⟨zs,e1,l1,Ql⟩:=yO (M:=aA X) (H:=H1) (F:=F) Wz ry hl (rs.mv (.same s1));refine⟨F,a,b,_,_,rfl,rfl,Px,h1,by rw[List.length_zip,List.length_zip];omega,?_⟩
       rw[e1];obtain⟨mv,r'⟩:=r1.chg (s:=.od (gG ks vs as bs).1 (gG ks vs as bs).2) oi ea (.inr ⟨_,_,zs,rfl,rfl,l1,Ql⟩);exact q _ _ _ (Mv.trans (.same s1) mv) r'
     ·cases e
   ·cases e
noncomputable def lJ:List (Ex×Xt)→En→R (List Ky×List T)
 |[],_=>.ok ([],[])
 | (fk,fv)::r,ρ=>(fk ρ).bind fun q=>(fv ρ).bind fun t=>match keyOf q with
   |some z=>(lJ r ρ).bind fun y=>.ok (z::y.1,t::y.2)
   |none=>.bad
noncomputable def gr(MV:List (Ex×Xt)):Xt:=fun ρ=>(lJ MV ρ).bind fun y=>if y.1.Nodup then .ok (.m y.1 y.2)else .bad
def nr(X:Cx)(pos:Pos)(keys:List (Option Expr))(values:List Expr)(MV:List (Ex×Xt)):Prop:=
 ∃Mg,L2.lM X pos keys values Mg∧∀(F:Addr→Prop) (σ:L2.St) (H:Hp) (ρ:En) (ks:List Ky) (ts:List T) (Q:List (V×V)→Hp→Prop),bj (aA X) H F σ ρ→lJ MV ρ=.ok (ks,ts)→
   (∀xs H' F' as,aq H H'→(∀b∈as,H b=none)→as.Nodup→(∀b,F' b↔F b∨b∈as)→ks.length=xs.length→av (aA X) H' F' ts xs as→Q ((ks.zip xs).map fun kv=>(L2.kV kv.1,kv.2)) H')→L2.nP Mg σ H Q
theorem Di:nr X pos [] [] []:=⟨[],L2.um,fun F σ H ρ ks ts Q r e q=>by
 cases e;exact q [] H F [] (aq.refl _) (fun _ hb=>nomatch hb) List.nodup_nil (fun b=>by simp) rfl (by rw[av];exact⟨rfl,rfl⟩)⟩
theorem Jz(hk:JE X k fk)(hv:JX X v fv)(hr:nr X pos keys values MV):nr X pos (some k::keys) (v::values) ((fk,fv)::MV):=by
 obtain⟨Mg,h,g⟩:=hr;refine⟨_,L2.qU hk hv h,fun F σ H ρ ks ts Q r e q=>?_⟩;obtain⟨d,ed,e⟩:=az.mp e;obtain⟨t,et,e⟩:=az.mp e;cases hz:keyOf d with
 |none=>rw[hz]at e;cases e
 | some z=>
   rw[hz]at e;obtain⟨⟨ks',ts'⟩,ey,e⟩:=az.mp e;cases e;refine⟨ρ,F,d,r,ed,fun x H1 s1 rx=>⟨ρ,F,t,r.same s1,et,fun y H2 F2 as s2 hn nd hF tr=>?_⟩⟩;obtain⟨T5,r2⟩:=(r.same s1).wide s2 hn hF (fun b hb=>(tr.fs b hb).2);refine g F2 σ H2 ρ ks' ts' _ r2 ey fun xs H3 F3 bs s3 Q1 Ru RZ hl Mg=>?_
   have apart:∀a∈as,∀b∈bs,a≠b:=fun a ha b hb z=>by
     subst z;obtain⟨_,u,hu⟩:=tr.fs a ha;rw[Q1 a hb]at hu;cases hu
   have T7:Mv F2 H2 F3 H3:=fun b o n e=>⟨fun f=>((RZ b).mp f).elim n (fun hb=>by rw[Q1 b hb]at e;cases e),s3 _ _ e⟩
   cases fG hz rx;refine q (y::xs) H3 F3 (as++bs) (s1.trans (s2.trans s3)) (fun b hb=>?_) (List.nodup_append.mpr ⟨nd,Ru,apart⟩) (fun b=>?_) (by simp[hl]) ?_
   · rcases List.mem_append.mp hb with hb|hb
     ·exact s1.free (hn b hb)
     ·exact s1.free (s2.free (Q1 b hb))
   ·rw[RZ b,hF b,List.mem_append,or_assoc]
   · simp only[av]
     exact⟨y,xs,as,bs,rfl,rfl,tr.mv T7 fun b hb u f hu=>⟨(RZ b).mpr (.inl f),s3 _ _ hu⟩,Mg⟩
theorem xy:∀ {MV:List (Ex×Xt)} {y:List Ky×List T},lJ MV ρ=.ok y→y.1.length=MV.length
 |[],y,h=>by cases h;rfl
 | (fk,fv)::r,y,h=>by
   obtain⟨q,eq,h⟩:=az.mp h;obtain⟨t,et,h⟩:=az.mp h;split at h
   · obtain⟨z,ez,h⟩:=az.mp h
     cases h;simp[xy ez]
   ·cases h
theorem Ho(h:nr X pos keys values MV)(MJ:keys.all (·.isSome)=true)(hl:keys.length=values.length)(h0:keys≠[])(Nr:keys.length≤15)(hk:MV.length≤15):JX X (.Dict keys values pos) (gr MV):=by
 obtain⟨Mg,hp,g⟩:=h;refine bP (L2.sL hp MJ hl h0 Nr) fun σ H Q ⟨ρ,F,t,hr,e,q⟩=>?_;obtain⟨⟨ks,ts⟩,ey,e⟩:=az.mp e;by_cases cK:ks.Nodup
 · rw[if_pos cK]at e
   cases e;intro p hp;have P5:=hr.fresh (o:=.dK []) hp;refine g _ σ _ ρ ks ts _ P5 ey fun xs H2 F2 as s2 hn nd hF SF rs=>?_;have e2:H2 p=some (.dK []):=s2 _ _ L2.bu
   have hm:L2.dv [] (ks.zip xs)=ks.zip xs:=by
     rw[pG (by simp only[List.map_nil,List.nil_append];rw[show(ks.zip xs).map (·.1)=ks from by rw[List.map_fst_zip];omega];exact cK)]
     rfl
   have XB:ks.length=MV.length:=xy ey;refine⟨e2,ks.zip xs,rfl,by rw[List.length_zip];omega,?_⟩
   rw[hm];have OH:p∉as:=fun hb=>by have:=hn p hb;rw[L2.bu]at this;cases this
   have sm:aq H (upd H2 p (.dK (ks.zip xs))):=fun b u e=>by
     have ne:b≠p:=fun z=>by subst z;rw[hp]at e;cases e
     rw[L2.aF ne];exact s2 _ _ (by rw[L2.aF ne];exact e)
   refine q _ _ F2 (p::as) sm (fun b hb=>?_) (List.nodup_cons.mpr ⟨OH,nd⟩) (fun b=>?_) ?_
   · rcases List.mem_cons.mp hb with h9|h9
     ·rw[h9];exact hp
     · have:=hn b h9
       have C':b≠p:=fun z=>by rw[z]at h9;exact OH h9
       rwa[L2.aF C']at this
   ·rw[hF b,List.mem_cons,or_assoc]
   · simp only[ak]
     have fp:F2 p:=(hF p).mpr (.inl (.inr rfl));exact⟨p,xs,as,rfl,rfl,fp,L2.bu,SF,rs.mv (fun b o n e=>⟨n,by rw[L2.aF (fun z=>by subst z;exact n fp)];exact e⟩) fun b hb u f hu=>⟨f,by rw[L2.aF (fun z=>by subst z;exact OH hb)];exact hu⟩⟩
 ·rw[if_neg cK]at e;cases e
noncomputable def jn:List T→Option (List Ky×List T)
 |[]=>some ([],[])
 | .tu [.d q,u]::r=>match keyOf q,jn r with
   |some z,some y=>some (z::y.1,u::y.2)
   |_,_=>none
 |_=>none
noncomputable def oN(f:Xt):Xt:=fun ρ=>(f ρ).bind fun t=>match t with
 | .l ps=>match jn ps with
   |some y=>if y.1.Nodup∧y.1.length≤1000 then .ok (.m y.1 y.2)else .bad
   |none=>.bad
 |_=>.bad
theorem yD:∀ {ps:List T} {y:List Ky×List T} {vs:List V} {as:List Addr},jn ps=some y→av M H F ps vs as→∃xs,y.1.length=xs.length∧jP M H F vs (y.1.zip xs)∧av M H F y.2 xs as
 | [],y,vs,as,h,tr=>by
   cases h;simp only[av]at tr;obtain⟨rfl,rfl⟩:=tr;exact⟨[],rfl,True.intro,by rw[av];exact⟨rfl,rfl⟩⟩
 | t::ps,y,vs,as,h,tr=>by
   unfold jn at h;split at h
   ·rename_i h0;cases h0
   · rename_i q u r h0
     cases h0;cases hz:keyOf q with
     |none=>rw[hz]at h;cases h
     | some z=>
       rw[hz]at h;cases hr:jn ps with
       |none=>rw[hr]at h;cases h
       | some y'=>
         rw[hr]at h;cases h;simp only[av]at tr;obtain⟨x,r,bs,cs,rfl,rfl,h1,h2⟩:=tr;obtain⟨xs,l,k1,k2⟩:=yD hr h2;simp only[ak,av]at h1;obtain⟨a,ys,rfl,nf,ha,x1,r1,b1,c1,rfl,rfl,⟨rfl,rq⟩,x2,r2,b2,c2,rfl,rfl,hu,rfl,rfl⟩:=h1;cases fG hz rq;refine⟨x2::xs,by simp[l],⟨⟨a,rfl,.inl ⟨nf,.inl ha⟩⟩,k1⟩,?_⟩
         simp only[av];refine⟨x2,xs,b2,cs,rfl,by simp,hu,k2⟩
   ·cases h
theorem AG (hc:X.calm=true) (hg:L2.Gl X "dict") (hm:X.mg "dict"=none) (ha:JX X a f) (hs:starEach [a] X.env=(false,eval a X.env)::starEach [] X.env):JX X (.Call (.Name "dict" p) [a] [] pos) (oN f):=
 bP (L2.pb (yh hc) hg hm lG (L2.gJ ha L2.kb hs) (by decide) (by decide) hs) fun σ H Q ⟨ρ,F,t,hr,e,q⟩=>by
   obtain⟨t1,et,e⟩:=az.mp e;refine⟨ρ,F,t1,hr,et,fun v H1 F1 as s1 hn nd hF tr=>?_⟩;split at e
   · rename_i ps
     split at e
     · rename_i y hy
       by_cases cK:y.1.Nodup∧y.1.length≤1000
       · rw[if_pos cK]at e
         cases e;simp only[ak]at tr;obtain⟨l,vs,bs,rfl,rfl,fl,hl,Mg⟩:=tr;have LI:=List.nodup_cons.mp nd;obtain⟨xs,lx,k1,k2⟩:=yD hy Mg
         have hm:L2.dv [] (y.1.zip xs)=y.1.zip xs:=by
           rw[pG (by simp only[List.map_nil,List.nil_append];rw[show(y.1.zip xs).map (·.1)=y.1 from by rw[List.map_fst_zip];omega];exact cK.1)]
           rfl
         have Ny:Mv F1 H1 (fun b=>F1 b∧b≠l) H1:=fun b o n e=>⟨fun h=>n h.1,e⟩
         have Wf:∀ {ws:List V} {more:List (Key×V)},jP (aA X) H1 F1 ws more→jP (aA X) H1 (fun b=>F1 b∧b≠l) ws more:=by
           intro ws
           induction ws with
           | nil=>intro more h;cases more with
             |nil=>exact h
             |cons _ _=>exact h.elim
           | cons w ws ih=>intro more h;cases more with
             |nil=>exact h.elim
             | cons p more=>
               obtain⟨⟨a,e1,e2⟩,h⟩:=h;exact⟨⟨a,e1,e2.mv Ny⟩,ih h⟩
         refine⟨fun b=>F1 b∧b≠l,l,vs,y.1.zip xs,rfl,.inl ⟨fun h=>h.2 rfl,.inl hl⟩,Wf k1,by rw[List.length_zip];omega,fun p hp=>?_⟩
         rw[hm];have Uw:p∉bs:=fun hb=>by obtain⟨_,u,hu⟩:=k2.fs p hb;rw[hp]at hu;cases hu
         have ne:∀b u,H1 b=some u→b≠p:=fun b u e z=>by subst z;rw[hp]at e;cases e
         refine q _ _ (fun b=>F b∨b∈p::bs) (p::bs) (s1.trans (aq.cm hp _)) (fun b hb=>?_) (List.nodup_cons.mpr ⟨Uw,LI.2⟩) (fun _=>Iff.rfl) ?_
         · rcases List.mem_cons.mp hb with rfl|hb
           ·exact s1.free hp
           ·exact hn b (List.mem_cons_of_mem _ hb)
         · simp only[ak]
           refine⟨p,xs,bs,rfl,rfl,.inr List.mem_cons_self,L2.bu,lx,k2.mv (fun b o n e=>⟨fun f=>?_,by rw[L2.aF (ne b o e)];exact e⟩) fun b hb u f hu=>⟨.inr (List.mem_cons_of_mem _ hb),by rw[L2.aF (ne b u hu)];exact hu⟩⟩
           rcases f with f|f
           ·exact n ((hF b).mpr (.inl f))
           · rcases List.mem_cons.mp f with f|f
             ·exact ne b o e f
             ·exact n ((hF b).mpr (.inr (List.mem_cons_of_mem _ f)))
       ·rw[if_neg cK]at e;cases e
     ·cases e
   ·cases e
end
noncomputable def iG:D→R D
 |.lst _=>.ok (.bl true)
 |.tup _=>.ok (.bl true)
 |.cD _ _ _=>.bad
 |_=>.ok (.bl false)
section
variable{X:Cx}{M:Md}{G H H':Hp}{F0:Gf}{F F':Addr→Prop}{σ:L2.St}{ρ:En}{pos:Pos}{pins:List (Addr×Obj)}{s:Shared}{as:List Addr}
theorem Ge:b5 X (.builtin "isinstance") (fun xs H Q=>∃F d x tp b,xs=[x,.ref tp]∧Rep (aA X) H F d x∧H tp=some (.tup [.ty "list",.ty "tuple"])∧iG d=.ok (.bl b)∧Q (.bl b) H):=by
 intro pins s σ H xs us Q I r h;obtain⟨F,d,x,tp,b,rfl,rd,ht,e,q⟩:=h;obtain⟨u,w,rfl,ru,Mx⟩:=L2.vals2 r;cases (show w=Value.ref tp from Mx)
 obtain⟨_,B',rv,o,ho,hc,n,hd⟩:=I.aI _ _ ht;obtain⟨oc,od,Xd,OB⟩:=o;simp only at hc hd;subst hc hd
 have hi:B'=[.type "list",.type "tuple"]:=by
   obtain⟨u1,u2,rfl,r1,r2⟩:=L2.vals2 rv;cases (show u1=Value.type "list" from r1)
   cases (show u2=Value.type "tuple" from r2)
   rfl
 subst hi;have fin:∀tk,EP X pins σ Q (.bool b) {s with toks:=tk}:=fun tk=>⟨.bl _,H,I.tok tk,rfl,q⟩;cases d with
 |aH=>cases qh rd;cases ru;cases e;exact PySem.W.kia_tup PySem.W.kitx_none I.cE True.intro ho rfl (fun z=>nomatch z) fin
 |bl y=>cases gQ rd;cases ru;cases e;exact PySem.W.kia_tup PySem.W.kitx_bool I.cE True.intro ho rfl (fun z=>nomatch z) fin
 |int i=>cases ck rd;obtain⟨t,rfl⟩:=ru;cases e;exact PySem.W.kia_tup PySem.W.kitx_int I.cE True.intro ho rfl (fun z=>nomatch z) fin
 |str z=>cases fY rd;obtain⟨t,rfl⟩:=ru;cases e;exact PySem.W.kia_tup PySem.W.kitx_str I.cE True.intro ho rfl (fun z=>nomatch z) fin
 | tup ds=>
   simp only[Rep]at rd;obtain⟨p,xs,rfl,h,_⟩:=rd;cases ru;obtain⟨B',_,⟨o,h1,h2,_⟩,_⟩:=kR I h;cases e;exact PySem.W.kia_tup PySem.W.kitx_tuple I.cE ⟨o,h1,h2⟩ ho rfl (fun z=>nomatch z) fin
 | lst ds=>
   simp only[Rep]at rd;obtain⟨p,xs,rfl,h,_⟩:=rd;cases ru;obtain⟨B',n,sl,_,h1,_⟩:=kL I h;cases e;exact PySem.W.kia_tup PySem.W.kitx_list I.cE ⟨_,h1,rfl⟩ ho rfl (fun z=>nomatch z) fin
 | aw ks ds=>
   simp only[Rep]at rd;obtain⟨p,xs,rfl,h,_⟩:=rd;cases ru;obtain⟨_,_,vs,_,o,es,ep,e1,e2,e3,_⟩:=gT I h;cases e;exact PySem.W.kia_tup PySem.W.kitx_dict I.cE ⟨o,e1,e2.1⟩ ho rfl (fun z=>nomatch z) fin
 |cD c ns vs=>cases e
theorem Iu(h:iG d=.ok r):∃b,r=.bl b:=by
 unfold iG at h;split at h<;>cases h<;>exact⟨_,rfl⟩
theorem As{k1}(ha:JE X a fa)(hg:L2.Gl X "isinstance")(hm:X.mg "isinstance"=none)(RL:L2.Gl X "list")(RR:X.mg "list"=none)(Pe:L2.Gl X "tuple")(Ph:X.mg "tuple"=none)
   (hs:starEach [a,.Tuple [.Name "list" p3,.Name "tuple" p4] k1 p2] X.env=(false,eval a X.env)::starEach [.Tuple [.Name "list" p3,.Name "tuple" p4] k1 p2] X.env) (L0:starEach [.Tuple [.Name "list" p3,.Name "tuple" p4] k1 p2] X.env=(false,eval (.Tuple [.Name "list" p3,.Name "tuple" p4] k1 p2) X.env)::starEach [] X.env)
   (RQ:starEach [.Name "list" p3,.Name "tuple" p4] X.env=(false,eval (.Name "list" p3) X.env)::starEach [.Name "tuple" p4] X.env) (Sf:starEach [.Name "tuple" p4] X.env=(false,eval (.Name "tuple" p4) X.env)::starEach [] X.env):
   JE X (.Call (.Name "isinstance" p) [a,.Tuple [.Name "list" p3,.Name "tuple" p4] k1 p2] [] pos) (e1 iG fa):=
 bP (L2.q9 Ge hg hm zA (L2.gJ ha (L2.gJ (L2.uN (L2.gJ (L2.uW (v:=.ty "list") RL RR pP rfl (by decide) (by decide)) (L2.gJ (L2.uW (v:=.ty "tuple") Pe Ph jT rfl (by decide) (by decide)) L2.kb Sf) RQ)) L2.kb L0) hs) (by decide) (by decide) hs (by rw[L0];rfl)) fun σ H Q ⟨ρ,F,d,hr,e,q⟩=>by
   obtain⟨a,ea,e⟩:=az.mp e;obtain⟨b,rfl⟩:=Iu e;refine⟨ρ,F,a,hr,ea,fun x H1 s1 rx=>⟨by decide,fun tp hn=>⟨F,a,x,tp,b,rfl,rx.mv (.same (aq.cm hn _)),L2.bu,e,q _ _ (s1.trans (aq.cm hn _)) eZ⟩⟩⟩
theorem vS:dI X Q7 (fun _=>.bad):=fun F0 pins s σ H D I ⟨ρ,F,fl,r,e,q⟩=>by cases e
end
def kO(b:(List D→R T)→List D→R T):Nat→List D→R T
 |0=>fun _=>.bad
 |n+1=>b (kO b n)
def mw(b:(List D→R D)→List D→R D):Nat→List D→R D
 |0=>fun _=>.bad
 |n+1=>b (mw b n)
theorem dh.m7(h0:dh P w K mg base x k n fun _=>.bad)(h:∀j m,dh P w K mg base x (k+j) n m→dh P w K mg base x (k+(j+1)) n (b m)):∀j,dh P w K mg base x (k+j) n (kO b j)
 |0=>h0
 |j+1=>h j _ (dh.m7 h0 h j)
theorem Df.m7(h0:Df P w K mg base x k n fun _=>.bad)(h:∀j m,Df P w K mg base x (k+j) n m→Df P w K mg base x (k+(j+1)) n (b m)):∀j,Df P w K mg base x (k+j) n (mw b j)
 |0=>h0
 |j+1=>h j _ (Df.m7 h0 h j)
noncomputable def qo(i:Nat)(e:Ex):Ex:=fun ρ=>(e ρ).bind fun x=>match ρ[i]? with
 |some (.od ks vs)=>lj (.aw ks vs) x
 |_=>.bad
noncomputable def oU(i:Nat)(f:Xt):Sm:=fun ρ=>(f ρ).bind fun t=>match t with
 | .m ks ts=>match iW ts with
   |some vs=>.ok (.next (ρ.set i (.od ks vs)))
   |none=>.bad
 |_=>.bad
section
variable{X:Cx}{M:Md}{G H H':Hp}{F0:Gf}{F F':Addr→Prop}{σ:L2.St}{ρ:En}{pos:Pos}{pins:List (Addr×Obj)}{s:Shared}{as:List Addr}
theorem Hi(i:Nat)(hb:JE X b fb)(hN:X.N[i]? =some x:=by rfl)(hv:L2.cw X.env.scope x:=by first|exact Or.inl rfl|exact Or.inr (Or.inl rfl)|exact Or.inr (Or.inr rfl))(hd:(x==("__debug__":Str))=false:=by decide)
   (LH:(x==("__classdict__":Str))=false:=by decide) (hs:L2.jC b:=by exact fun _ _=>rfl):JE X (.Subscript (.Name x p2) b pos) (qo i fb):=
 bP (L2.tW zY (L2.pv i hN hv hd LH) hb hs) fun σ H Q ⟨ρ,F,d,hr,e,q⟩=>by
   obtain⟨y,ey,e⟩:=az.mp e;split at e
   · rename_i ks vs q1
     obtain⟨a,ys,ea,fa,ha,hl,rs⟩:=hr.od i _ _ q1;refine⟨_,ea,ρ,F,y,hr,ey,fun z H1 s1 rz=>?_⟩;have e:(match keyOf y with|some q=>(match bK q ks vs with|some v=>R.ok v|none=>.bad)|none=>.bad)=.ok d:=e
     cases hk:keyOf y with
     |none=>rw[hk]at e;cases e
     | some k=>
       rw[hk]at e;cases hf:bK k ks vs with
       | none=>
         have e:(match bK k ks vs with|some v=>R.ok v|none=>.bad)=.ok d:=e
         rw[hf]at e;cases e
       | some v=>
         have e:(match bK k ks vs with|some v=>R.ok v|none=>.bad)=.ok d:=e
         rw[hf]at e;cases e;obtain⟨w,hw,Mx⟩:=(vk (M:=aA X) (H:=H1) (F:=F) k hl (rs.mv (.same s1))).2 _ hf;exact .inr ⟨a,_,k,w,rfl,fG hk rz,.inl (s1 _ _ ha),hw,q _ _ s1 Mx⟩
   ·cases e
theorem Il(hk:JE X k (eC (.int z)))(hv:JE X v f)(hr:JP X pos keys values ks fs):JP X pos (some k::keys) (v::values) (.inl z::ks) (f::fs):=by
 obtain⟨Mg,h,g⟩:=hr;refine⟨_,L2.qU hk hv h,fun F σ H ρ ds Q r e q=>?_⟩;obtain⟨a,ea,e⟩:=az.mp e;obtain⟨as,Qh,e⟩:=az.mp e;cases e;refine⟨ρ,F,.int z,r,rfl,fun x H1 s1 rx=>⟨ρ,F,a,r.same s1,ea,fun y H2 s2 ry=>g F σ H2 ρ as _ ((r.same s1).same s2) Qh fun xs H3 s3 rs=>?_⟩⟩;cases ck rx;exact q (y::xs) H3 ((s1.trans s2).trans s3) (ag.cons (ry.mv (.same s3)) rs)
theorem Ek(i:Nat)(hN:X.N.Nodup)(he:JX X e f)(hi:X.N[i]? =some x:=by rfl)(hx:L2.Loc X.env.scope x:=by exact Or.inl rfl)(hf:X.fn x=true∨X.env.scope.names.lookup x=some .local:=by first|exact .inl rfl|exact .inr rfl)
   (hs:swapsWith e (some (.Name x p2)) pos.line X.env=pure false:=by rfl):JS X (.Assign [.Name x p2] e pos) (oU i f):=fun F0=>
 cJ (L2.nQ hN hi hx he hs hf) fun D σ H ⟨ρ,F,fl,r,e,q⟩=>by
   obtain⟨t,et,e⟩:=az.mp e;split at e
   · rename_i ks ts
     split at e
     · rename_i vs hv
       cases e;cases xC hv;refine⟨ρ,F,_,r.rs,et,fun v H1 F1 as s1 hn nd hF tr=>?_⟩;simp only[ak]at tr;obtain⟨a,xs,bs,rfl,rfl,fa,ha,hl,Mg⟩:=tr;obtain⟨rfl,rs⟩:=kH.mp Mg;have nF:¬F a:=fun f=>by obtain⟨o,eo⟩:=r.rs.aX a f;rw[hn a List.mem_cons_self]at eo;cases eo
       have QA:aq H (fun b=>if b=a then none else H1 b):=fun b o e=>by
         have hb:b≠a:=fun z=>by subst z;rw[hn b List.mem_cons_self]at e;cases e
         simp only[if_neg hb];exact s1 _ _ e
       have e3:H1=upd (fun b=>if b=a then none else H1 b) a (.dK (ks.zip xs)):=by
         funext b;unfold upd;by_cases hb:b=a
         ·simp only[if_pos hb];rw[hb];exact ha
         ·simp only[if_neg hb]
       have OD:ag (aA X) (fun b=>if b=a then none else H1 b) F vs xs:=rs.mv fun b o n e=>by
         have hb:b≠a:=fun z=>by subst z;exact n fa
         exact⟨fun f=>n ((hF b).mpr (.inl f)),by simp only[if_neg hb];exact e⟩
       obtain⟨mv,r'⟩:=(r.same QA).new (i:=i) (p:=a) (s:=.od ks vs) (by simp) (.inr ⟨_,_,xs,rfl,rfl,hl,OD⟩)
       rw[←e3]at mv r';exact q _ _ _ (Mv.trans (.same QA) mv) r'
     ·cases e
   ·cases e
end
def gj:D→D→R D
 |.aw ks _,.aw [] []=>.ok (.bl (!ks.isEmpty))
 |_,_=>.bad
section
variable{X:Cx}{M:Md}{G H H':Hp}{F0:Gf}{F F':Addr→Prop}{σ:L2.St}{ρ:En}{pos:Pos}{pins:List (Addr×Obj)}{s:Shared}{as:List Addr}
noncomputable def wA(M:Md)(n:Bool):R2:=fun x y H Q=>∃F p kvs p',x=.ref p∧y=.ref p'∧dC M H F p kvs∧dC M H F p' []∧Q (.bl (if n=true then !kvs.isEmpty else kvs.isEmpty)) H
theorem G0(r:L2.KV kvs ws):(ws.length==0)=kvs.isEmpty:=by
 have:=fV r;cases kvs<;>cases ws<;>first|rfl|simp at this
theorem wN(hu:X.A.units+64<cLine):bh X (compareOp .NotEq) (wA (aA X) true):=by
 intro pins s σ H x y v u Q I rx ry h;obtain⟨F,p,kvs,p',rfl,rfl,hp,Oq,q⟩:=h;cases rx;cases ry;obtain⟨_,SQ,ws,rel,dd⟩:=gT I hp;obtain⟨_,L0,Xa,R5,M8⟩:=gT I Oq;cases R5;refine PySem.W.keq_ne (r:=true) SQ L0 dd M8 (Nat.lt_of_le_of_lt (Nat.le_add_right _ 64) hu) (fun hl=>?_) ⟨.bl _,H,I,rfl,?_⟩
 · have:ws=[]:=List.length_eq_zero_iff.mp hl
   subst this;exact .nil
 ·rw[List.length_nil,G0 rel,Bool.and_true];exact q
theorem xx:iL gj:=fun a b d h=>by
 unfold gj at h;split at h
 ·cases h;exact⟨_,rfl⟩
 ·cases h
theorem BS(h:Rep M H F (.aw ks vs) x):∃p kvs,x=.ref p∧dC M H F p kvs∧kvs.isEmpty=ks.isEmpty:=by
 simp only[Rep]at h;obtain⟨p,xs,rfl,h1,hl,rs⟩:=h;refine⟨p,_,rfl,h1,?_⟩;cases ks with
 |nil=>rfl
 | cons a ks=>cases xs with
   |nil=>simp at hl
   |cons _ _=>rfl
theorem Dn(h:Rep M H F (.aw [] []) x):∃p,x=.ref p∧dC M H F p []:=by
 simp only[Rep]at h;obtain⟨p,xs,rfl,h1,hl,rs⟩:=h;exact⟨p,rfl,h1⟩
theorem wD:cy M gj (wA M true):=by
 intro F H x y a b d Q tr ra rb e q;unfold gj at e;split at e
 · cases e
   obtain⟨p,kvs,rfl,h1,h2⟩:=BS ra;obtain⟨p',rfl,h3⟩:=Dn rb;exact⟨F,p,kvs,p',rfl,rfl,h1,h3,by rw[if_pos rfl,h2];exact q _ _ (aq.refl _) eZ⟩
 ·cases e
end
noncomputable def j4(a:Ex):cI:=fun ρ=>(a ρ).bind fun x=>match x with
 |.aw ks vs=>if ks.length=vs.length then .ok vs else .bad
 |_=>.bad
section
variable{X:Cx}{M:Md}{G H H':Hp}{F0:Gf}{F F':Addr→Prop}{σ:L2.St}{ρ:En}{pos:Pos}{pins:List (Addr×Obj)}{s:Shared}
noncomputable def uX(P:Program)(w:World)(K:PySem.W.Frag)(a:Addr)(ob:Obj)(kvs:List (Key×V)):It:=
 ⟨fun i H=>dR P w K H a ob kvs∧i<kvs.length,fun i H x H'=>H'=H∧∃kv,kvs[i]? =some kv∧x=kv.2,fun i H=>dR P w K H a ob kvs∧i=kvs.length⟩
theorem G5(h:L2.KV kvs vs):∀ {i:Nat} {p:Key×Value},vs[i]? =some p→∃q,kvs[i]? =some q∧RelV q.2 p.2:=by
 unfold L2.KV at h
 induction h with
 |nil=>intro i p e;simp at e
 | cons hd _ ih=>
   intro i p e;cases i with
   |zero=>simp at e;subst e;exact⟨_,rfl,hd.2⟩
   |succ i=>simpa using ih (i:=i) (by simpa using e)
theorem Ao(a it:Addr)(ob:Obj)(es:Array DictEntry)(ep:Nat)(Nx:ob.data=.dict es ep)(kvs:List (Key×V)):Turn P w K tg (uX P w K a ob kvs) [it] it (fun i h=>h.IsValIter it a i kvs.length ep) where
 mem:=by simp
 obj:=fun i h st b hb=>by
   have e:b=it:=by simpa using hb
   subst e;obtain⟨o,e,c,d⟩:=st;exact⟨o,e,fun v z=>by rw[d]at z;cases z⟩
 keep:=fun i h h' ⟨o,e,r⟩ k=>⟨o,k it (by simp) o e,r⟩
 item:=by
   intro X hP hw hK hc i pins s σ H E I hf st hg;subst hP hw hK;obtain⟨dz,hi⟩:=hg;obtain⟨hz,hs,vs,es',ON,rel,Mc,dat⟩:=iw I dz;rw[Nx]at Mc;cases Mc;have hl:=fV rel;have hx:vs[i]? =some vs[i]:=List.getElem?_eq_getElem (by omega)
   obtain⟨q,hq,eq⟩:=G5 rel hx;obtain⟨f0,f1,f2,f3,f4,f5⟩:=hf it (by simp)
   rw[hl]at st;refine wpAny_pyNext_values_item (k:=vs[i].1) (v:=vs[i].2) st dat hx fun h' Mz sb=>?_;have I1:Inv X pins σ H {s with heap:=h'}:=I.turned (t':=s.toks) (fun b o hb e=>(sb.2 b hb).trans e) f0 f1 f3 f4 f5;obtain⟨o,e,c,d⟩:=id Mz;rw[←hl]at Mz;exact⟨vs[i].2,rfl,L2.jQ (s:={s with heap:=h'}) e c d (by decide) ⟨q.2,H,I1,eq,⟨rfl,q,hq,rfl⟩,Mz,fun b hb=>(hf b hb).1⟩⟩
 done:=by
   intro X hP hw hK hc i pins s σ H E I hf st hg;subst hP hw hK;obtain⟨dz,hi⟩:=hg;obtain⟨hz,hs,vs,es',ON,rel,Mc,dat⟩:=iw I dz;rw[Nx]at Mc;cases Mc;have hl:=fV rel;obtain⟨f0,f1,f2,f3,f4,f5⟩:=hf it (by simp)
   rw[hl]at st;exact wpAny_pyNext_values_end (I.ok.hd hc) st dat (List.getElem?_eq_none_iff.mpr (by omega)) fun h' eb=>⟨rfl,I.turned (t':=s.toks) (fun b o hb e=>eb b o hb e) f0 f1 f3 f4 f5⟩
 self:=fun _ _ _ _ _ st h=>wpAny_pyIter_valiter st h
def Jo(P:Program)(w:World)(K:PySem.W.Frag)(tl:TE):TI:=fun σ H R=>tl σ H fun x H1=>∃a ob kvs,x=.ref a∧dR P w K H1 a ob kvs∧R (uX P w K a ob kvs) H1
theorem BN(hl:PE X l tl)(Ll:attributeBase l "values" X.env (eval l X.env)=eval l X.env)(Lm:(apos.endLine==j'.line)=true):L2.PI X tg (.Call (.Attribute l "values" apos) [] [] j') (Jo X.prog X.w X.K tl):=by
 intro pins s σ H R I h;refine wpAny_Call_method0_late Ll Lm (L2.aN (hl pins s σ H _ I h) fun v s1 ⟨x,H1,I1,r1,q1⟩=>?_);obtain⟨a,ob,kvs,e,dz,q⟩:=q1;subst e;cases r1;obtain⟨hz,hs,vs,es,ep,rel,Nx,dat⟩:=iw I1 dz;have hlen:=fV rel;have O3:s1.TypeIs (.ref a) "dict":=let⟨o,_,ho,c,_⟩:=dat;⟨o,ho,c.1⟩
 have P7:∀b,Value.ref a=.ref b→∃ob,s1.heap.get? b=some ob∧ob.dict=none:=fun b e=>by cases e;exact let⟨o,_,ho,c,_⟩:=dat;⟨o,ho,c.2.1⟩
 refine⟨"dict","dict.values",PySem.F.plainAttrs_dict,PySem.F.slot_dict_values,PySem.F.type_dict_values,O3,P7,Calls.callWith_builtin rfl (PySem.evalArgs_none ?_)⟩;refine call_meetsIn PySem.F.slot_dict_values O3 PySem.F.entry_dict_values (PySem.F.args_dict_values_1 _) (meets_dict_values (L2.b0 X.prog X.w) a hs) ⟨⟨vs,dat.dictOf⟩,?_⟩;have hv:(s1.heap.push {cls:=.type "dict_values",data:=.fields #[.ref a]}).IsValuesView s1.heap.objs.size a:=⟨_,Heap.get?_push_size _ rfl,rfl,rfl⟩;refine wpAny_pyIter_values (s:={s1 with heap:=s1.heap.push {cls:=.type "dict_values",data:=.fields #[.ref a]} }) hv (dat.push _) ?_;have I2:Inv X pins σ H1 {s1 with heap:=s1.heap.push {cls:=.type "dict_values",data:=.fields #[.ref a]} }:=I1.kept (t':=s1.toks) fun b o e=>Heap.get?_push_of_some _ e;rw[←hlen];generalize hh:s1.heap.push {cls:=.type "dict_values",data:=.fields #[.ref a]}=h2 at I2 hv;refine⟨h2.objs.size,[h2.objs.size],_,_,H1,rfl,I2.kept (t':=s1.toks) fun b o e=>Heap.get?_push_of_some _ e,Ao a _ ob es ep Nx kvs,⟨_,Heap.get?_push_size _ rfl,rfl,rfl⟩,fun b hb=>?_,q⟩;have e:b=h2.objs.size:=by simpa using hb
 subst e;exact I2.i9 (Nat.le_refl _) (I2.aI.fresh (Nat.le_refl _))
theorem Hs{a:Addr}{ob:Obj}{ks:List Ky}{xs:List V}{ds:List D}(hd:(¬F a∧H a=some (.frz ob (.dK (ks.zip xs))))∨dR M.P M.w M.K (fun _=>none) a ob (ks.zip xs))(hl:ks.length=xs.length)(rs:ag M H F ds xs):Gives M (uX M.P M.w M.K a ob (ks.zip xs)) H F ds:=by
 intro H' F' mv tr;have Pc:(ks.zip xs).length=ks.length:=by rw[List.length_zip];omega
 have Vb:=rs.length
 have dz:dR M.P M.w M.K H' a ob (ks.zip xs):=by
   rcases hd with⟨n,h⟩|h
   ·exact .inl (mv _ _ n h).2
   · rcases h with h|h
     ·cases h
     ·exact .inr h
 refine⟨fun i d NX=>?_,?_⟩
 · obtain⟨hi,_⟩:=List.getElem?_eq_some_iff.mp NX
   refine⟨⟨dz,by omega⟩,fun y H2 hy=>?_⟩
   obtain⟨rfl,kv,QL,rfl⟩:=hy;obtain⟨v,hv,rv⟩:=rs.get NX;obtain⟨hk,e⟩:=List.getElem?_eq_some_iff.mp QL
   have:kv.2=v:=by
     obtain⟨OQ,ev⟩:=List.getElem?_eq_some_iff.mp hv;rw[←e,List.getElem_zip, ←ev]
   rw[this];exact⟨aq.refl _,rv.mv mv⟩
 ·exact⟨dz,by omega⟩
theorem Bn(ha:JE X l fa)(Ll:attributeBase l "values" X.env (eval l X.env)=eval l X.env)(Lm:(apos.endLine==j'.line)=true):JI X tg (.Call (.Attribute l "values" apos) [] [] j') (j4 fa):=
 j6 (BN ha Ll Lm) fun σ H Q ⟨ρ,F,ds,r,e,q⟩=>by
   obtain⟨d,ed,e⟩:=az.mp e;cases d with
   | aw ks vs=>
     have e:(if ks.length=vs.length then R.ok vs else .bad)=.ok ds:=e
     by_cases Pa:ks.length=vs.length
     · rw[if_pos Pa]at e
       cases e;refine⟨ρ,F,_,r,ed,fun v H1 s1 rv=>?_⟩;simp only[Rep]at rv;obtain⟨a,xs,rfl,h,hl,rs⟩:=rv;obtain⟨ob,h1,h2⟩:=ua h;exact⟨a,ob,_,rfl,h2,q _ H1 s1 (Hs (M:=aA X) h1 hl rs)⟩
     ·rw[if_neg Pa]at e;cases e
   |_=>cases e
end
def fB:List Ky→List D→List D
 |k::ks,v::vs=>.tup [b8 k,v]::fB ks vs
 |_,_=>[]
noncomputable def oS(a:Ex):cI:=fun ρ=>(a ρ).bind fun x=>match x with
 |.aw ks vs=>if ks.length=vs.length then .ok (fB ks vs)else .bad
 |_=>.bad
theorem vb:∀ {ks:List Ky} {vs:List D},ks.length=vs.length→(fB ks vs).length=ks.length
 |[],[],_=>rfl
 | k::ks,v::vs,h=>by
   show(fB ks vs).length+1=_;rw[vb (by simpa using h)];rfl
 |[],_::_,h=>by simp at h
 |_::_,[],h=>by simp at h
theorem yd:∀ {ks:List Ky} {vs:List D} {i:Nat} {d:D},(fB ks vs)[i]? =some d→∃k v,d=.tup [b8 k,v]∧ks[i]? =some k∧vs[i]? =some v
 |[],_,i,d,h=>by simp[fB]at h
 |_::_,[],i,d,h=>by simp[fB]at h
 | k::ks,v::vs,0,d,h=>by
   have h:some (D.tup [b8 k,v])=some d:=h;cases h;exact⟨k,v,rfl,rfl,rfl⟩
 | k::ks,v::vs,i+1,d,h=>by
   obtain⟨k',v',e,h1,h2⟩:=yd (ks:=ks) (vs:=vs) (i:=i) (d:=d) (by simpa[fB] using h)
   exact⟨k',v',e,by simpa using h1,by simpa using h2⟩
section
variable{X:Cx}{M:Md}{G H H':Hp}{F0:Gf}{F F':Addr→Prop}{σ:L2.St}{ρ:En}{pos:Pos}{pins:List (Addr×Obj)}{s:Shared}
noncomputable def sA(P:Program)(w:World)(K:PySem.W.Frag)(a:Addr)(ob:Obj)(kvs:List (Key×V)):It where
 go i H:=dR P w K H a ob kvs∧i<kvs.length
 mC i H x H':=∃t kv,x=.ref t∧H t=none∧kvs[i]? =some kv∧H'=upd H t (.tup [L2.kV kv.1,kv.2])
 stop i H:=dR P w K H a ob kvs∧i=kvs.length
theorem Ar(h:L2.KV kvs vs):∀ {i:Nat} {p:Key×Value},vs[i]? =some p→∃q,kvs[i]? =some q∧q.1=p.1∧RelV q.2 p.2:=by
 unfold L2.KV at h
 induction h with
 |nil=>intro i p e;simp at e
 | cons hd _ ih=>
   intro i p e;cases i with
   |zero=>simp at e;subst e;exact⟨_,rfl,hd.1,hd.2⟩
   |succ i=>simpa using ih (i:=i) (by simpa using e)
theorem AJ:entryFor table "dict_itemiterator.__iter__"=some Builtin.«dict_keyiterator.__iter__»:=entryFor_alias (id':="dict_keyiterator.__iter__") (by kernel_rfl) rfl (by decide+kernel) (by kernel_rfl)
theorem Aq(a it:Addr)(ob:Obj)(es:Array DictEntry)(ep:Nat)(Nx:ob.data=.dict es ep)(kvs:List (Key×V)):Turn P w K (.Tuple elts k tp) (sA P w K a ob kvs) [it] it (fun i h=>∃ok ov,IsItemIter h it a i kvs.length ep ok ov) where
 mem:=by simp
 obj:=fun i h st b hb=>by
   have e:b=it:=by simpa using hb
   subst e;obtain⟨ok,ov,e⟩:=st;exact⟨_,e,fun v z=>by cases z⟩
 keep:=fun i h h' ⟨ok,ov,e⟩ k=>⟨ok,ov,k it (by simp) _ e⟩
 item := by
   intro X hP hw hK hc i pins s σ H E I hf st hg;subst hP hw hK;obtain⟨dz,hi⟩:=hg;obtain⟨ok,ov,st⟩:=st;obtain⟨hz,hs,vs,es',ON,rel,Mc,dat⟩:=iw I dz;rw[Nx]at Mc;cases Mc;have hl:=fV rel;have hx:vs[i]? =some vs[i]:=List.getElem?_eq_getElem (by omega)
   obtain⟨q,hq,eq1,eq2⟩:=Ar rel hx;obtain⟨f0,f1,f2,f3,f4,f5⟩:=hf it (by simp)
   rw[hl]at st;have L8:it<s.heap.objs.size:=Heap.lt_size st;have nT:H s.heap.objs.size=none:=I.aI.fresh (Nat.le_refl _);refine wpAny_pyNext_items_item (k:=vs[i].1) (v:=vs[i].2) st dat hx fun key h' N5 Mz T6 hsz hk=>?_;refine⟨_,rfl,wpAny_letOwnedTupleGo_items Mz fun Nb Nu L0=>?_⟩;have Tz:s.heap.objs.size≠it:=Nat.ne_of_gt L8;have Mn:∀c o,c≠it→s.heap.get? c=some o→Nb.get? c=some o:=fun c o c1 e=>L0.extBut _ _ c1 (hk c o c1 e);have NA:Nb.get? s.heap.objs.size=some {cls:=.type "tuple",data:=.seq #[key,vs[i].2]}:=L0.extBut _ _ Tz T6;have aX:∀c u,H c=some u→c≠it:=fun c u e w=>by rw[w,f0]at e;cases e
   have Ng:∀c,c∉[it]→c≠it:=fun c M6=>by simpa using M6
   have r1:RelV (L2.kV q.1) key:=by rw[eq1];exact ud N5
   have u:Un (L2.cZ X.stack) [it] H (upd H s.heap.objs.size (.tup [L2.kV q.1,q.2])) s.heap Nb:=
     ⟨fun b o e n QW LZ=>Mn b o (Ng b LZ) e,fun b o e n QW LZ=>⟨o.slots,Mn b o (Ng b LZ) e⟩,fun b o e n LZ=>by rw[L2.aF (Nat.ne_of_lt (Heap.lt_size e))];exact n,
       fun b o e LZ=>⟨o,Mn b o (Ng b LZ) e⟩,fun b zs e=>by rw[L2.aF (L2.eT e nT)];exact e,fun b o zs e=>by rw[L2.aF (L2.eT e nT)];exact e,fun b ps e=>⟨#[],by rw[L2.aF (L2.eT e nT),e];simp⟩⟩
   have aI:L2.bV X.prog X.w (upd H s.heap.objs.size (.tup [L2.kV q.1,q.2])) Nb:=fun b TL e=>by
     by_cases hb:b=s.heap.objs.size
     · subst hb
       rw[L2.bu]at e;cases e;exact⟨show 2≤sizeLine by decide,[key,vs[i].2],.cons r1 (.cons eq2 .nil),⟨_,NA,rfl,_,rfl⟩⟩
     · rw[L2.aF hb]at e
       refine(I.aI b TL e).dX (fun c v N9 w=>?_) (fun c w=>by rw[L2.aF (L2.eT w nT)];exact w) fun c zs w=>by rw[L2.aF (L2.eT w nT)];exact w
       have tc:∃u,H c=some u:=by
         rcases N9 with rfl|N9
         ·exact⟨_,e⟩
         ·exact⟨_,N9⟩
       obtain⟨u',QS⟩:=tc;exact Mn c v (aX c u' QS) w
   have I2:Inv X pins σ (upd H s.heap.objs.size (.tup [L2.kV q.1,q.2])) {s with heap:=Nb}:=I.ph (s':={s with heap:=Nb}) (ch:=[it]) rfl u aI I.bare fun b hb=>by
     have e:b=it:=by simpa using hb
     subst e;exact⟨f3,f1,f4,f5⟩
   refine⟨.ref s.heap.objs.size,_,I2,rfl,⟨_,q,rfl,nT,hq,rfl⟩,⟨_,_,by rw[hl];exact Nu⟩,fun b hb=>?_⟩
   have e:b=it:=by simpa using hb
   subst e;show upd H _ _ b=none;rw[L2.aF (Ne.symm Tz)];exact f0
 done:=by
   intro X hP hw hK hc i pins s σ H E I hf st hg;subst hP hw hK;obtain⟨dz,hi⟩:=hg;obtain⟨ok,ov,st⟩:=st;obtain⟨hz,hs,vs,es',ON,rel,Mc,dat⟩:=iw I dz;rw[Nx]at Mc;cases Mc;have hl:=fV rel;obtain⟨f0,f1,f2,f3,f4,f5⟩:=hf it (by simp)
   rw[hl]at st;exact wpAny_pyNext_items_end (I.ok.hd hc) st dat (List.getElem?_eq_none_iff.mpr (by omega)) fun h' eb=>⟨rfl,I.turned (t':=s.toks) (fun b o hb e=>eb b o hb e) f0 f1 f3 f4 f5⟩
 self:=fun _ _ _ _ _ ⟨ok,ov,st⟩ h=>by
   have hT:Shared.TypeIs _ (.ref it) "dict_itemiterator":=⟨_,st,rfl⟩;refine wpAny_pyIter_slot hT PySem.F.slot_dict_itemiterator_iter (wpAny_call_entry PySem.F.slot_dict_itemiterator_iter hT AJ ?_ (PySem.F.args_dict_itemiterator_iter_1 _));show wpAny _ _ (ret (.ref it)) _ _ _;exact wpAny_pure ⟨_,rfl,"dict_itemiterator",_,hT,PySem.F.slot_dict_itemiterator_next.lookup,h⟩
def IW(P:Program)(w:World)(K:PySem.W.Frag)(tl:TE):TI:=fun σ H R=>tl σ H fun x H1=>∃a ob kvs,x=.ref a∧dR P w K H1 a ob kvs∧R (sA P w K a ob kvs) H1
theorem FO(hl:PE X l tl)(Ll:attributeBase l "items" X.env (eval l X.env)=eval l X.env)(Lm:(apos.endLine==j'.line)=true):L2.PI X (.Tuple elts k tp) (.Call (.Attribute l "items" apos) [] [] j') (IW X.prog X.w X.K tl):=by
 intro pins s σ H R I h;refine wpAny_Call_method0_late Ll Lm (L2.aN (hl pins s σ H _ I h) fun v s1 ⟨x,H1,I1,r1,q1⟩=>?_);obtain⟨a,ob,kvs,e,dz,q⟩:=q1;subst e;cases r1;obtain⟨hz,hs,vs,es,ep,rel,Nx,dat⟩:=iw I1 dz;have hlen:=fV rel;have O3:s1.TypeIs (.ref a) "dict":=let⟨o,_,ho,c,_⟩:=dat;⟨o,ho,c.1⟩
 have P7:∀b,Value.ref a=.ref b→∃ob,s1.heap.get? b=some ob∧ob.dict=none:=fun b e=>by cases e;exact let⟨o,_,ho,c,_⟩:=dat;⟨o,ho,c.2.1⟩
 refine⟨"dict","dict.items",PySem.F.plainAttrs_dict,PySem.F.slot_dict_items,PySem.F.type_dict_items,O3,P7,Calls.callWith_builtin rfl (PySem.evalArgs_none ?_)⟩;refine call_meetsIn PySem.F.slot_dict_items O3 PySem.F.entry_dict_items (PySem.F.args_dict_items_1 _) (meets_dict_items (L2.b0 X.prog X.w) a hs) ⟨⟨vs,dat.dictOf⟩,?_⟩;have hv:(s1.heap.push {cls:=.type "dict_items",data:=.fields #[.ref a]}).IsItemsView s1.heap.objs.size a:=⟨_,Heap.get?_push_size _ rfl,rfl,rfl⟩;refine wpAny_pyIter_items (s:={s1 with heap:=s1.heap.push {cls:=.type "dict_items",data:=.fields #[.ref a]} }) hv (dat.push _) ?_;have I2:Inv X pins σ H1 {s1 with heap:=s1.heap.push {cls:=.type "dict_items",data:=.fields #[.ref a]} }:=I1.kept (t':=s1.toks) fun b o e=>Heap.get?_push_of_some _ e;rw[←hlen];generalize hh:s1.heap.push {cls:=.type "dict_items",data:=.fields #[.ref a]}=h2 at I2 hv;refine⟨h2.objs.size,[h2.objs.size],_,_,H1,rfl,I2.kept (t':=s1.toks) fun b o e=>Heap.get?_push_of_some _ e,Aq a _ ob es ep Nx kvs,⟨_,_,Heap.get?_push_size _ rfl⟩,fun b hb=>?_,q⟩;have e:b=h2.objs.size:=by simpa using hb
 subst e;exact I2.i9 (Nat.le_refl _) (I2.aI.fresh (Nat.le_refl _))
theorem CV(hd:(¬F a∧H a=some (.frz ob (.dK (ks.zip xs))))∨dR M.P M.w M.K (fun _=>none) a ob (ks.zip xs))(hl:ks.length=xs.length)(rs:ag M H F ds xs):Gives M (sA M.P M.w M.K a ob (ks.zip xs)) H F (fB ks ds):=by
 intro H' F' mv tr;have Pc:(ks.zip xs).length=ks.length:=by rw[List.length_zip];omega
 have Vb:=rs.length
 have dz:dR M.P M.w M.K H' a ob (ks.zip xs):=by
   rcases hd with⟨n,h⟩|h
   ·exact .inl (mv _ _ n h).2
   · rcases h with h|h
     ·cases h
     ·exact .inr h
 refine⟨fun i d NX=>?_,?_⟩
 · obtain⟨k,v,rfl,hk,hv⟩:=yd NX
   obtain⟨hi,ek⟩:=List.getElem?_eq_some_iff.mp hk;refine⟨⟨dz,by omega⟩,fun y H2 hy=>?_⟩
   obtain⟨t,kv,rfl,ht,QL,rfl⟩:=hy;obtain⟨w,hw,Mx⟩:=rs.get hv;obtain⟨Mn,e⟩:=List.getElem?_eq_some_iff.mp QL
   have e2:kv=(k,w):=by
     obtain⟨OQ,ev⟩:=List.getElem?_eq_some_iff.mp hw;rw[←e,List.getElem_zip, ←ev, ←ek]
   subst e2;exact⟨aq.cm ht _,jM tr ht (ag.cons u9 (ag.cons (Mx.mv mv) ag.nil))⟩
 ·exact⟨dz,by rw[vb (by omega)];omega⟩
theorem JZ(ha:JE X l fa)(Ll:attributeBase l "items" X.env (eval l X.env)=eval l X.env)(Lm:(apos.endLine==j'.line)=true):JI X (.Tuple elts k tp) (.Call (.Attribute l "items" apos) [] [] j') (oS fa):=
 j6 (FO ha Ll Lm) fun σ H Q ⟨ρ,F,ds,r,e,q⟩=>by
   obtain⟨d,ed,e⟩:=az.mp e;cases d with
   | aw ks vs=>
     have e:(if ks.length=vs.length then R.ok (fB ks vs)else .bad)=.ok ds:=e
     by_cases Pa:ks.length=vs.length
     · rw[if_pos Pa]at e
       cases e;refine⟨ρ,F,_,r,ed,fun v H1 s1 rv=>?_⟩;simp only[Rep]at rv;obtain⟨a,xs,rfl,h,hl,rs⟩:=rv;obtain⟨ob,h1,h2⟩:=ua h;exact⟨a,ob,_,rfl,h2,q _ H1 s1 (CV (M:=aA X) h1 hl rs)⟩
     ·rw[if_neg Pa]at e;cases e
   |_=>cases e
end
noncomputable def bA{α:Type}(z:Ky):List Ky→List α→List Ky×List α
 |k::ks,t::ts=>if k=z then bA z ks ts else(k::(bA z ks ts).1,t::(bA z ks ts).2)
 |_,_=>([],[])
theorem uv:∀ {ks:List Ky} {xs:List V},ks.length=xs.length→L2.jw (ks.zip xs) z=(bA z ks xs).1.zip (bA z ks xs).2
 |[],[],_=>rfl
 |[],_::_,h=>by simp at h
 |_::_,[],h=>by simp at h
 | k::ks,x::xs,h=>by
   have ih:=uv (z:=z) (ks:=ks) (xs:=xs) (by simpa using h)
   unfold L2.jw at ih ⊢;unfold bA;rw[List.zip_cons_cons,List.filter_cons];by_cases hz:k=z
   ·simp only[hz,ne_eq,not_true_eq_false,decide_false,Bool.false_eq_true,if_false,if_true];exact ih
   ·simp only[hz,ne_eq,not_false_eq_true,decide_true,if_true,if_false,List.zip_cons_cons];rw[←ih]
theorem se{α:Type}:∀ {ks:List Ky} {xs:List α},ks.length=xs.length→(bA z ks xs).1.length=(bA z ks xs).2.length
 |[],[],_=>rfl
 |[],_::_,h=>by simp at h
 |_::_,[],h=>by simp at h
 | k::ks,x::xs,h=>by
   have ih:=se (z:=z) (ks:=ks) (xs:=xs) (by simpa using h)
   unfold bA;by_cases hz:k=z
   ·rw[if_pos hz];exact ih
   ·rw[if_neg hz];simp[ih]
theorem t9{α β:Type}:∀ {ks:List Ky} {xs:List α} {ys:List β},xs.length=ys.length→(bA z ks xs).1=(bA z ks ys).1
 |[],_,_,_=>by simp[bA]
 |_::_,[],[],_=>rfl
 |_::_,[],_::_,h=>by simp at h
 |_::_,_::_,[],h=>by simp at h
 | k::ks,x::xs,y::ys,h=>by
   have ih:=t9 (z:=z) (ks:=ks) (xs:=xs) (ys:=ys) (by simpa using h)
   unfold bA;by_cases hz:k=z
   ·rw[if_pos hz,if_pos hz];exact ih
   ·rw[if_neg hz,if_neg hz];simp[ih]
noncomputable def jh(i:Nat)(f:Pt)(k:Ex):Sm:=fun ρ=>(f ρ).bind fun p=>(k ρ).bind fun q=>match ρ[i]?,keyOf q with
 | some (.on (.tr t)),some z=>match T.at t p with
   |some (.m ks ts)=>if(gb z ks).isSome=true then .ok (.next ((fM i p ρ).set i (.on (.tr (T.put (.m (bA z ks ts).1 (bA z ks ts).2) t p)))))else .bad
   |_=>.bad
 |_,_=>.bad
noncomputable def jS(i:Nat)(f:Pt):Sm:=fun ρ=>(f ρ).bind fun p=>match ρ[i]? with
 | some (.on (.tr t))=>match T.at t p with
   |some (.m _ _)=>.ok (.next ((fM i p ρ).set i (.on (.tr (T.put (.m [] []) t p)))))
   |_=>.bad
 |_=>.bad
noncomputable def rB(i:Nat)(k:Ex):Sm:=fun ρ=>(k ρ).bind fun q=>match ρ[i]?,keyOf q with
 |some (.od ks vs),some z=>if(gb z ks).isSome=true then .ok (.next (ρ.set i (.od (bA z ks vs).1 (bA z ks vs).2)))else .bad
 |_,_=>.bad
section
variable{X:Cx}{M:Md}{G H H':Hp}{F0:Gf}{F F':Addr→Prop}{σ:L2.St}{ρ:En}{pos:Pos}{pins:List (Addr×Obj)}{s:Shared}{as:List Addr}
theorem av.pop:∀ {ks:List Ky} {ts:List T} {xs:List V} {as:List Addr},av M H F ts xs as→∃LD,av M H F (bA z ks ts).2 (bA z ks xs).2 LD∧LD.Sublist as
 |[],ts,xs,as,h=>⟨[],by simp[bA,av],List.nil_sublist _⟩
 | a::ks,[],xs,as,h=>by
   simp only[av]at h;obtain⟨rfl,rfl⟩:=h;exact⟨[],by simp[bA,av],List.Sublist.refl _⟩
 | a::ks,t::ts,xs,as,h=>by
   simp only[av]at h;obtain⟨x,r,bs,cs,rfl,rfl,h1,h2⟩:=h;obtain⟨My,k1,k2⟩:=av.pop (z:=z) (ks:=ks) h2;unfold bA;by_cases hz:a=z
   · rw[if_pos hz,if_pos hz]
     exact⟨My,k1,k2.trans (List.sublist_append_right _ _)⟩
   · rw[if_neg hz,if_neg hz]
     refine⟨bs++My,?_,List.Sublist.append (List.Sublist.refl _) k2⟩;simp only[av];exact⟨x,_,bs,My,rfl,rfl,h1,k1⟩
theorem ag.pop:∀ {ks:List Ky} {ds:List D} {xs:List V},ag M H F ds xs→ag M H F (bA z ks ds).2 (bA z ks xs).2
 |[],_,_,_=>by simp only[bA];exact ag.nil
 |_::_,[],xs,h=>by simp only[ag]at h;subst h;exact ag.nil
 | k::ks,d::ds,xs,h=>by
   simp only[ag]at h;obtain⟨x,r,rfl,h1,h2⟩:=h;have ih:=ag.pop (z:=z) (ks:=ks) h2;unfold bA;by_cases hz:k=z
   ·rw[if_pos hz,if_pos hz];exact ih
   ·rw[if_neg hz,if_neg hz];exact ag.cons h1 ih
theorem Fg (i:Nat) (ho:JL X i o f) (hk:JE X k g) (m:L2.M1 X o "pop" apos k j') (Mq:swapsWith (.Call (.Attribute o "pop" apos) [k] [] j') none pos.line X.env=pure false):
   JS X (.Expr (.Call (.Attribute o "pop" apos) [k] [] j') pos) (jh i f g):=fun F0=>
 cJ (L2.jF (L2.vO ho hk m) Mq) fun D σ H ⟨ρ,F,fl,r,e,q⟩=>by
   obtain⟨p,ep,e⟩:=az.mp e;obtain⟨y,ey,e⟩:=az.mp e;split at e
   · rename_i t z q1 hz
     split at e
     · rename_i ks ts Mp
       split at e
       · rename_i NB
         cases e;obtain⟨⟨w,as,ew,tr,nd⟩,_,_⟩:=r.rs.on i _ q1;refine⟨ρ,F,t,w,p,_,r.rs,q1,ew,ep,Mp,fun v0 H2 s2 at2=>?_⟩;have r2:=r.same s2;obtain⟨⟨w',LD,O0,MD,OS⟩,_,_⟩:=r2.rs.on i _ q1;rw[ew]at O0;cases O0;obtain⟨bs,tp,sub⟩:=aD.part MD at2;simp only[ak]at tp;obtain⟨a,W6,WO,rfl,rfl,_,Wj,_,_⟩:=tp;refine⟨a,rfl,.inl ⟨_,.inl Wj⟩,ρ,F,y,r2.rs,ey,fun w2 H3 s3 Mx=>?_⟩;have r3:=r2.same s3;have Ox:=at2.same r2.rs q1 ew s3;obtain⟨⟨w3,WV,TZ,VP,Ru⟩,_,_⟩:=r3.rs.on i _ q1;rw[ew]at TZ;cases TZ;obtain⟨WX,RU,Pd⟩:=aD.part VP Ox;have PV:=RU;simp only[ak]at RU;obtain⟨a',xs,cs,Vg,rfl,fa,VB,hl,QD⟩:=RU;cases Vg;have N1:=Ru.sublist Pd;have RD:=List.nodup_cons.mp N1;cases fG hz Mx;obtain⟨mm,Pz⟩:=Option.isSome_iff_exists.mp NB;obtain⟨x1,hx,hv⟩:=pq hl Pz;refine⟨_,z,x1,VB,rfl,hv,?_⟩;rw[uv hl];have QR:∀o:HO,Mv F H3 F (upd H3 a o):=fun o b u n e=>⟨n,by rw[L2.aF (fun z=>by subst z;exact n fa)];exact e⟩
         have kp:∀(o:HO) {My:List Addr},My.Sublist cs→∀b∈My,∀u,F b→H3 b=some u→F b∧upd H3 a o b=some u:=fun o My hs b hb u f hu=>⟨f,by rw[L2.aF (fun z=>by subst z;exact RD.1 (hs.subset hb))];exact hu⟩
         obtain⟨My,k1,k2⟩:=av.pop (z:=z) (ks:=ks) QD;have Oe:(bA z ks ts).1=(bA z ks xs).1:=t9 QD.len
         obtain⟨mv,r'⟩:=r3.qc (H2:=upd H3 a (.dK ((bA z ks xs).1.zip (bA z ks xs).2))) (F2:=F) (n1:=.m (bA z ks ts).1 (bA z ks ts).2) q1 ew Ox (gd.of PV N1 k2 (by
           simp only[ak];exact⟨a,_,My,rfl,rfl,fa,by rw[Oe];exact L2.bu,by rw[Oe];exact se hl,k1.mv (QR _) (kp _ k2)⟩)) rfl
         exact q _ _ _ (Mv.trans (.same (s2.trans s3)) mv) r'
       ·cases e
     ·cases e
   ·cases e
def HD(td:TE):TE:=fun σ H Q=>td σ H fun x H1=>∃a kvs,x=.ref a∧H1 a=some (.dK kvs)∧Q .aH (upd H1 a (.dK []))
theorem BP(ho:PE X o td)(Ll:attributeBase o "clear" X.env (eval o X.env)=eval o X.env)(Lm:(apos.endLine==j'.line)=true):PE X (.Call (.Attribute o "clear" apos) [] [] j') (HD td):=by
 intro pins s σ H Q I h;refine wpAny_Call_method0_late Ll Lm (L2.aN (ho pins s σ H _ I h) fun u s1 ⟨x,H1,I1,rx,a,kvs,ex,ha,q1⟩=>?_);subst ex;obtain rfl:u=Value.ref a:=rx;obtain⟨t1,t2,_⟩:=L2.za I1 (.inl ⟨kvs,.inl ha⟩);refine⟨"dict","dict.clear",PySem.F.plainAttrs_dict,PySem.F.slot_dict_clear,PySem.F.type_dict_clear,t1,t2,Calls.callWith_builtin rfl (PySem.evalArgs_none ?_)⟩;exact L2.FN I1 ha fun s' I2=>⟨.aH,_,I2,rfl,q1⟩
theorem Be(i:Nat)(ho:JL X i o f)(Ll:attributeBase o "clear" X.env (eval o X.env)=eval o X.env)(Lm:(apos.endLine==j'.line)=true)(Mq:swapsWith (.Call (.Attribute o "clear" apos) [] [] j') none pos.line X.env=pure false):
   JS X (.Expr (.Call (.Attribute o "clear" apos) [] [] j') pos) (jS i f):=fun F0=>
 cJ (L2.jF (BP ho Ll Lm) Mq) fun D σ H ⟨ρ,F,fl,r,e,q⟩=>by
   obtain⟨p,ep,e⟩:=az.mp e;split at e
   · rename_i t q1
     split at e
     · rename_i ks ts Mp
       cases e;obtain⟨⟨w,as,ew,tr,nd⟩,_,_⟩:=r.rs.on i _ q1;refine⟨ρ,F,t,w,p,_,r.rs,q1,ew,ep,Mp,fun v0 H2 s2 at2=>?_⟩;have r2:=r.same s2;obtain⟨⟨w',LD,O0,MD,OS⟩,_,_⟩:=r2.rs.on i _ q1;rw[ew]at O0;cases O0;obtain⟨bs,tp,sub⟩:=aD.part MD at2;have PV:=tp;simp only[ak]at tp;obtain⟨a,xs,cs,rfl,rfl,fa,ha,hl,Mg⟩:=tp;have N1:=OS.sublist sub;refine⟨a,_,rfl,ha,?_⟩
       obtain⟨mv,r'⟩:=r2.qc (H2:=upd H2 a (.dK [])) (F2:=F) (n1:=.m [] []) q1 ew at2 (gd.of PV N1 (List.nil_sublist _) (by
         simp only[ak,av];exact⟨a,[],[],rfl,rfl,fa,L2.bu,rfl,rfl,rfl⟩)) rfl
       exact q _ _ _ (Mv.trans (.same s2) mv) r'
     ·cases e
   ·cases e
theorem G2(i:Nat)(hk:JE X k g)(hN:X.N[i]? =some x)(hv:L2.cw X.env.scope x)(hd:(x==("__debug__":Str))=false)(LH:(x==("__classdict__":Str))=false)
   (m:L2.M1 X (.Name x p2) "pop" apos k j') (Mq:swapsWith (.Call (.Attribute (.Name x p2) "pop" apos) [k] [] j') none pos.line X.env=pure false):
   JS X (.Expr (.Call (.Attribute (.Name x p2) "pop" apos) [k] [] j') pos) (rB i g):=fun F0=>
 cJ (L2.jF (L2.vO (L2.pv i hN hv hd LH) hk m) Mq) fun D σ H ⟨ρ,F,fl,r,e,q⟩=>by
   obtain⟨y,ey,e⟩:=az.mp e;split at e
   · rename_i ks vs z q1 hz
     split at e
     · rename_i NB
       cases e;have oi:bp ρ i:=.inr ⟨_,_,q1⟩;obtain⟨a,xs,ea,fa,ha,hl,rs⟩:=r.rs.od i _ _ q1;refine⟨_,ea,a,rfl,.inl ⟨_,.inl ha⟩,ρ,F,y,r.rs,ey,fun w H2 s2 Mx=>?_⟩;have r2:=r.same s2;have Px:=s2 _ _ ha;cases fG hz Mx;have N8:=rs.mv (M:=aA X) (F':=F) (.same s2);obtain⟨mm,Pz⟩:=Option.isSome_iff_exists.mp NB;obtain⟨x1,hx,hv⟩:=pq hl Pz;refine⟨_,z,x1,Px,rfl,hv,?_⟩;rw[uv hl];have Oe:(bA z ks vs).1=(bA z ks xs).1:=t9 rs.length;obtain⟨mv,r'⟩:=r2.chg (s:=.od (bA z ks vs).1 (bA z ks vs).2) oi ea (.inr ⟨_,_,(bA z ks xs).2,rfl,by rw[Oe],by rw[Oe];exact se hl,ag.pop N8⟩)
       exact q _ _ _ (Mv.trans (.same s2) mv) r'
     ·cases e
   ·cases e
end
noncomputable def mZ(n:Nat)(b:Sm):T→List D→R T:=fun t ds=>(b (.on (.tr t)::(ds.map .sh++List.replicate (n - 1 - ds.length) .un))).bind fun(f:Fl)=>match f with
 | .next ρ=>(match ρ[0]? with
   |some (Slot.on (.tr t'))=>.ok t'
   |_=>.bad)
 |_=>.bad
noncomputable def sx(M:Md)(m:T→List D→R T)(n:Nat):L2.Sp:=fun vs H Q _=>∃F ds t t' w as MM,vs=w::MM∧(∀p,F p→∃o,H p=some o)∧ak M H F t w as∧as.Nodup∧ag M H F ds MM∧ds.length=n∧m t ds=.ok t'∧
 ∀H' F' LD,(∀b u,b∉as→H b=some u→H' b=some u)→(∀b∈LD,b∈as∨H b=none)→LD.Nodup→(∀b,F' b↔(F b∧b∉as)∨b∈LD)→ak M H' F' t' w LD→Q .aH H'
structure lp(P:Program)(w:World)(K:PySem.W.Frag)(mg:Str→Option Value)(base:Heap)(x:Str)(k n:Nat)(m:T→List D→R T):Prop where
 ex:∃f fd ps,L2.dm P w K mg base L2.ff k f fd ps (sx ⟨K,P,w⟩ m n)∧L2.Binds K fd ps []∧PySem.W.keepIn K (.ref f)=true∧mg x=some (.ref f)
section
variable{X:Cx}{M:Md}{G H H':Hp}{F0:Gf}{F F':Addr→Prop}{σ:L2.St}{ρ:En}{pos:Pos}{pins:List (Addr×Obj)}{s:Shared}{as:List Addr}
theorem aT.Ia(r:aT M G F0 H F σ ρ)(e:ρ[i]? =some (.on (.tr t)))(ev:σ[i]? =some (some v))(tr:ak M H F t v as)(Ml:∀b∈LD,b∈as∨H b=none)(MK:∀b u,b∉as→H b=some u→H' b=some u)
   (hF:∀b,F' b↔(F b∧b∉as)∨b∈LD) (MD:ak M H' F' t' v LD) (nd:LD.Nodup) (RA:∀(j:Nat) p,ρ[j]? =some (Slot.on (.al i p))→∀t1 w,aD H t v p t1 w→t1.own=true→∃t2,t2.own=true∧aD H' t' v p t2 w):
   Mv F H F' H'∧aT M G F0 H' F' σ (ρ.set i (.on (.tr t'))):=by
 have M4:∀b∈as,cR M H F σ ρ i b:=fun b hb=>⟨t,v,as,e,ev,tr,hb⟩;have fs:=tr.fs
 have mv:Mv F H F' H':=fun b o n eo=>by
   have nb:b∉LD:=fun hb=>by
     rcases Ml b hb with h|h
     ·exact n (fs b h).1
     ·rw[h]at eo;cases eo
   exact⟨fun h=>((hF b).mp h).elim (fun z=>n z.1) nb,MK b _ (fun h=>n (fs b h).1) eo⟩
 have ro:=r.rs.on i _ e;have hi:i<ρ.length:=(List.getElem?_eq_some_iff.mp e).1;have old:∀(j:Nat) x,j≠i→(ρ.set i (.on (.tr t')))[j]? =some x→ρ[j]? =some x:=fun j x hj h=>by rw[List.getElem?_set_ne (Ne.symm hj)]at h;exact h
 have self:(ρ.set i (.on (.tr t')))[i]? =some (.on (.tr t')):=List.getElem?_set_self hi
 have Ma:∀(j:Nat) x,(∀y,x≠Slot.on y)→(ρ.set i (.on (.tr t')))[j]? =some x→ρ[j]? =some x:=fun j x hx h=>by
   by_cases hj:j=i
   ·subst hj;rw[self]at h;cases h;exact absurd rfl (hx _)
   ·exact old j x hj h
 have Mi:∀j,bp (ρ.set i (.on (.tr t'))) j→bp ρ j:=fun j h=>by
   rcases h with⟨ds,h⟩|⟨ks,ds,h⟩
   ·exact .inl ⟨ds,Ma j _ (fun y z=>nomatch z) h⟩
   ·exact .inr ⟨ks,ds,Ma j _ (fun y z=>nomatch z) h⟩
 have keep:∀(j:Nat) b u,bp ρ j→σ[j]? =some (some (.ref b))→F b→H b=some u→F' b∧H' b=some u:=fun j b u oj ej fb hu=>by
   have nb:b∉as:=fun h=>ro.2.1 b (M4 b h) j oj ej;exact⟨(hF b).mpr (.inl ⟨fb,nb⟩),MK b u nb hu⟩
 have aX:∀a,F' a→∃o,H' a=some o:=fun a fa=>by
   by_cases ha:a∈LD
   ·exact(MD.fs a ha).2
   · have z:=((hF a).mp fa).resolve_right ha
     obtain⟨o,ho⟩:=r.rs.aX a z.1;exact⟨o,MK a _ z.2 ho⟩
 have rs:bj M H' F' σ (ρ.set i (.on (.tr t'))):=by
   refine⟨by simp[r.rs.len],aX,fun j d h=>?_,fun j ds h=>?_,fun j ks ds h=>?_,fun j k a oj ok ej ek=>r.rs.cn j k a (Mi j oj) (Mi k ok) ej ek,?_⟩
   · obtain⟨w,e1,g⟩:=r.rs.sh j d (Ma j _ (fun y z=>nomatch z) h)
     exact⟨w,e1,g.mv mv⟩
   · have h0:=Ma j (.ol ds) (fun y z=>nomatch z) h
     obtain⟨a,xs,e1,f,e2,g⟩:=r.rs.ol j ds h0;obtain⟨f',e3⟩:=keep j a _ (.inl ⟨_,h0⟩) e1 f e2;exact⟨a,xs,e1,f',e3,g.mv mv⟩
   · have h0:=Ma j (.od ks ds) (fun y z=>nomatch z) h
     obtain⟨a,xs,e1,f,e2,l,g⟩:=r.rs.od j ks ds h0;obtain⟨f',e3⟩:=keep j a _ (.inr ⟨_,_,h0⟩) e1 f e2;exact⟨a,xs,e1,f',e3,l,g.mv mv⟩
   · intro j x h
     have M3:∀b,cR M H' F' σ (ρ.set i (.on (.tr t'))) j b→j=i∧b∈LD:=fun b hb=>by
       obtain⟨t1,v1,Np,e1,Nd,M7,hb⟩:=hb
       have hj:j=i:=by
         by_cases hj:j=i
         ·exact hj
         ·exact ro.2.2 t rfl j t1 (old j _ hj e1)
       subst hj;rw[self]at e1;cases e1;rw[ev]at Nd;cases Nd;have:=ak.gx MD M7;subst this;exact⟨rfl,hb⟩
     refine⟨?_,fun b hb k ok ek=>?_,fun t1 ht k t2 hk=>?_⟩
     · by_cases hj:j=i
       · subst hj
         rw[self]at h;cases h;exact⟨v,LD,ev,MD,nd⟩
       · have h0:=old j _ hj h
         cases x with
         |tr t1=>exact absurd (ro.2.2 t rfl j t1 h0) hj
         | al k p=>
           intro t1 O4
           have⟨hk,et⟩:k=i∧t1=t':=by
             by_cases hk:k=i
             ·subst hk;rw[self]at O4;cases O4;exact⟨rfl,rfl⟩
             ·exact absurd (ro.2.2 t rfl k t1 (old k _ hk O4)) hk
           subst hk et;obtain⟨v1,w,t2,e1,e2,at2,o2⟩:=(r.rs.on j _ h0).1 t e;rw[ev]at e1;cases e1;obtain⟨t3,o3,Ox⟩:=RA j p h0 t2 w at2 o2;exact⟨v,w,t3,ev,e2,Ox,o3⟩
     · obtain⟨rfl,MN⟩:=M3 b hb
       rcases Ml b MN with h2|h2
       ·exact ro.2.1 b (M4 b h2) k (Mi k ok) ek
       · obtain⟨a,_,u,_,e1,_,e2,_⟩:=r.rs.ownAt (Mi k ok)
         rw[ek]at e1;cases e1;rw[h2]at e2;cases e2
     · subst ht
       have hj:j=i:=by
         by_cases hj:j=i
         ·exact hj
         ·exact ro.2.2 t rfl j t1 (old j _ hj h)
       by_cases Mn:k=i
       ·rw[Mn,hj]
       ·exact absurd (ro.2.2 t rfl k t2 (old k _ Mn hk)) Mn
 refine⟨mv,⟨rs,fun b u hb=>?_,fun b f=>(hF b).mpr (.inl ⟨r.sub b f,fun hb=>by obtain⟨o,eo⟩:=r.df b f;rw[r.dY i _ b e (M4 b hb)]at eo;cases eo⟩),r.df,fun j a oj ej=>r.own j a (Mi j oj) ej,fun j x b h hb=>?_,fun w hw t2 e2=>?_⟩⟩
 · have hu:=r.sm b u hb
   exact MK b u (fun Mo=>by rw[r.dY i _ b e (M4 b Mo)]at hb;cases hb) hu
 · obtain⟨t1,v1,Np,e1,Nd,M7,hb⟩:=hb
   have hj:j=i:=by
     by_cases hj:j=i
     ·exact hj
     ·exact ro.2.2 t rfl j t1 (old j _ hj e1)
   subst hj;rw[self]at e1;cases e1;rw[ev]at Nd;cases Nd;have:=ak.gx MD M7;subst this;rcases Ml b hb with h2|h2
   ·exact r.dY j _ b e (M4 b h2)
   ·exact r.sm.free h2
 · rcases get_set e2 with⟨rfl,_,_⟩|⟨_,e2⟩
   ·exact r.pin w hw t e
   ·exact r.pin w hw t2 e2
def without(H:Hp)(as:List Addr):Hp:=fun b=>if b∈as then none else H b
theorem DB(tk:∀p,F p→∃o,G p=some o)(tr:ak M G F t w as)(nd:as.Nodup)(rs:ag M G F ds vs)(hl:ds.length=n)(hn:n+1≤N.length):
   aT M (without G as) ⟨without G as,fun b=>F b∧b∉as,some w⟩ G F (L2.start N (w::vs)) (.on (.tr t)::(ds.map Slot.sh++List.replicate (N.length - 1 - ds.length) .un)):=by
 have PZ:=rs.length;generalize Mu:(.on (.tr t)::(ds.map Slot.sh++List.replicate (N.length - 1 - ds.length) .un):En)=ρ
 have get:∀(i:Nat) s,ρ[i]? =some s→(i=0∧s=.on (.tr t))∨(∃j d,i=j+1∧ds[j]? =some d∧s=.sh d)∨s=.un:=by
   intro i s hs;rw[←Mu]at hs;cases i with
   |zero=>cases hs;exact .inl ⟨rfl,rfl⟩
   | succ j=>
     rw[List.getElem?_cons_succ,List.getElem?_append]at hs;split at hs
     · rw[List.getElem?_map]at hs
       cases e1:ds[j]? with
       |none=>rw[e1]at hs;cases hs
       |some d'=>rw[e1]at hs;cases hs;exact .inr (.inl ⟨j,d',rfl,e1,rfl⟩)
     · rw[List.getElem?_replicate]at hs
       split at hs<;>cases hs;exact .inr (.inr rfl)
 have s0:(L2.start N (w::vs))[0]? =some (some w):=by unfold L2.start;rfl
 have no:∀i,¬bp ρ i:=by
   intro i hi;rcases hi with⟨x,hx⟩|⟨k,x,hx⟩
   ·rcases get _ _ hx with⟨_,h⟩|⟨_,_,_,_,h⟩|h<;>cases h
   ·rcases get _ _ hx with⟨_,h⟩|⟨_,_,_,_,h⟩|h<;>cases h
 have Sv:∀(i:Nat) x,ρ[i]? =some (.on x)→i=0∧x=.tr t:=by
   intro i x hx;rcases get _ _ hx with⟨h0,h⟩|⟨_,_,_,_,h⟩|h
   ·injection h with h;exact⟨h0,h⟩
   ·cases h
   ·cases h
 have M4:∀(i:Nat) b,cR M G F (L2.start N (w::vs)) ρ i b→b∈as:=by
   intro i b ⟨t1,v1,Np,e1,ev,M7,hb⟩;obtain⟨rfl,h⟩:=Sv i _ e1;injection h with h;subst h;rw[s0]at ev;cases ev;have:=ak.gx tr M7;subst this;exact hb
 refine⟨⟨?_,tk,?_,?_,?_,?_,?_⟩,fun b o e=>?_,fun b h=>h.1,fun b h=>?_,fun i a oi=>absurd oi (no i),fun i x b e hb=>if_pos (M4 i b hb),fun v hv t1 e1=>by cases hv;exact s0⟩
 ·rw[←Mu];unfold L2.start;simp[PZ];omega
 · intro i d hd
   rcases get _ _ hd with⟨_,h⟩|⟨j,d',rfl,hj,h⟩|h
   ·cases h
   · cases h
     obtain⟨v,ev,rv⟩:=rs.get hj;refine⟨v,?_,rv⟩;unfold L2.start;have hv:=(List.getElem?_eq_some_iff.mp ev).1;rw[List.getElem?_append_left (by simp;omega),List.getElem?_map,List.getElem?_cons_succ,ev];rfl
   ·cases h
 ·intro i d hd;exact absurd (.inl ⟨_,hd⟩) (no i)
 ·intro i k d hd;exact absurd (.inr ⟨_,_,hd⟩) (no i)
 ·intro i j a oi;exact absurd oi (no i)
 · intro i x hx
   obtain⟨rfl,rfl⟩:=Sv i x hx;exact⟨⟨w,as,s0,tr,nd⟩,fun b _ j oj=>absurd oj (no j),fun t1 _ j t2 h2=>(Sv j _ h2).1⟩
 · unfold without at e
   split at e
   ·cases e
   ·exact e
 · obtain⟨o,e⟩:=tk b h.1
   exact⟨o,by show(if b∈as then none else G b)=_;rw[if_neg h.2];exact e⟩
theorem ID{N:List Str}{n:Nat}{body:Sm}{vs:List V}{Q:VK}{E:XK}{t:TS}(ht:∀(F0:Gf) D σ H,fz M F0.g F0 body D σ H→t D σ H)(h:sx M (mZ N.length body) n vs G Q E)(hn:n+1≤N.length):t {nx:=fun _ H'=>Q .aH H',rt:=Q} (L2.start N vs) G:=by
 obtain⟨F,ds,t0,t',w,as,MM,rfl,tk,tr,nd,rs,hl,e,q⟩:=h;obtain⟨f,ef,e⟩:=az.mp e;refine ht ⟨without G as,fun b=>F b∧b∉as,some w⟩ _ _ _ ⟨_,F,f,DB tk tr nd rs hl hn,ef,?_⟩;cases f with
 | next ρ'=>
   have e:(match ρ'[0]? with|some (.on (.tr t'))=>R.ok t'|_=>.bad)=.ok t':=e
   split at e
   · rename_i t1 e0
     cases e;intro J' H' F' mv r';obtain⟨⟨w',LD,ew,MD,OS⟩,_,_⟩:=r'.rs.on 0 _ e0;have hw:=r'.pin w rfl _ e0;rw[ew]at hw;cases hw;refine q H' (fun b=>(F b∧b∉as)∨b∈LD) LD (fun b u hb hu=>r'.sm b u (by show(if b∈as then none else G b)=_;rw[if_neg hb];exact hu)) (fun b hb=>?_) OS (fun b=>Iff.rfl) (ak.less (F:=F') (fun b hb=>hb.elim (fun z=>r'.sub b z) fun z=>(MD.fs b z).1) (fun b hb=>.inr hb) MD)
     have hg:=r'.dY 0 _ b e0 ⟨_,_,LD,e0,ew,MD,hb⟩;by_cases Mo:b∈as
     ·exact .inl Mo
     · have hg:(if b∈as then none else G b)=none:=hg
       rw[if_neg Mo]at hg;exact .inr hg
   ·cases e
 |ret d'=>cases e
 |brk _=>cases e
 |cont _=>cases e
 |eU _=>cases e
 |cP _=>cases e
theorem Fj{P:Program}{w:World}{K:PySem.W.Frag}{mg:Str→Option Value}{base:Heap}{x qual:Str}{st:Stmt}{f:Addr}{fd:FuncData}{N ps:List Str}{k n:Nat}{body:Sm}(Fu:L2.bC K x qual st f fd)(hm:mg x=some (.ref f))(S:L2.bR N ps (L2.aK st))(hb:L2.Binds K fd ps [])
   (h:∀(Lz:Value) (A:Around) (outer:List Env) (s:Shared) (H:Hp) (E:XK),L2.b4 k (A.deeper (PyProof.Rows.envOfC qual (L2.aK st) s.heap.objs.size f Lz))→dI (L2.iu L2.ff P w K mg base N qual (L2.aK st) f Lz A outer s H E).gk (L2.bF st) body)
   (hn:ps.length=n+1:=by rfl):lp P w K mg base x (k+1) n (mZ N.length body):=by
 refine⟨f,fd,ps,Fu.ok S (fun vs H Q E h=>?_) (fun Lz A outer s H vs Q E hr Nw=>?_),hb,Fu.kp,hm⟩
 · obtain⟨F,ds,t0,t',w,as,MM,rfl,_,_,_,rs,hl,_⟩:=h
   rw[List.length_cons, ←rs.length,hl,hn]
 · refine⟨fun D σ H'=>∃F0:Gf,fz ⟨K,P,w⟩ F0.g F0 body D σ H',fun pins s' σ H' D I ⟨F0,q⟩=>h Lz A outer s H E hr F0 pins s' σ H' D I q,?_⟩
   refine ID (G:=H) (t:=fun D σ H'=>∃F0:Gf,fz ⟨K,P,w⟩ F0.g F0 body D σ H') (fun F0 D σ H' h=>⟨F0,h⟩) Nw ?_;have:=congrArg List.length S.pre;rw[List.length_take]at this;omega
noncomputable def ib(i:Nat)(m:T→List D→R T)(fs:List Ex):Sm:=fun ρ=>(eList fs ρ).bind fun ds=>match ρ[i]? with
 |some (.on (.tr t))=>(m t ds).bind fun t'=>if t'.own=true then .ok (.next ((fM i [] ρ).set i (.on (.tr t'))))else .bad
 |_=>.bad
theorem AX (i:Nat) (d:lp X.prog X.w X.K X.mg X.base y k n m) (hr:L2.b4 j X.A) (hg:L2.Gl X y) (ha:JA X es (eList fs)) (hN:X.N[i]? =some x) (hv:L2.cw X.env.scope x) (hd:(x==("__debug__":Str))=false) (LH:(x==("__classdict__":Str))=false)
   (hk:k≤j) (hn:fs.length=n) (Ms:(y==("__debug__":Str))=false) (he:starEach (.Name x p2::es) X.env=(false,eval (.Name x p2) X.env)::starEach es X.env) (MP:(backTo j' (starEach es X.env)).any (·.1)=false)
   (Mq:swapsWith (.Call (.Name y p) (.Name x p2::es) [] j') none pos.line X.env=pure false):JS X (.Expr (.Call (.Name y p) (.Name x p2::es) [] j') pos) (ib i m fs):=fun F0=>by
 obtain⟨f,fd,ps,h1,h2,h3,h4⟩:=d.ex;refine cJ (L2.jF (L2.rC h1 (hr.mono hk) hg h4 h3 h2 .nil L2.qz (L2.gJ (L2.pv i hN hv hd LH) ha he) Ms he MP) Mq) fun D σ H ⟨ρ,F,fl,r,e,q⟩=>?_;obtain⟨ds,OV,e⟩:=az.mp e;split at e
 · rename_i t q1
   obtain⟨t',et,e⟩:=az.mp e;split at e
   · rename_i O7
     cases e;obtain⟨⟨w,as,ew,tr,nd⟩,_,_⟩:=r.rs.on i _ q1;refine⟨w,ew,ρ,F,ds,r.rs,OV,fun vs H1 s1 rs=>?_⟩;show sx _ m n ((w::vs)++[]) H1 _ _;rw[List.append_nil];have r1:=r.same s1;obtain⟨⟨w1,Np,Ti,M7,RN⟩,_,_⟩:=r1.rs.on i _ q1;rw[ew]at Ti;cases Ti;refine⟨F,ds,t,t',w,Np,vs,rfl,r1.rs.aX,M7,RN,rs,by rw[jz OV];exact hn,et,fun H' F' LD ho Ml OS hF MD=>?_⟩
     obtain⟨mv,r'⟩:=(r1.drop i []).Ia (vp q1) ew M7 Ml ho hF MD OS (fun j p h t1 w' OM o1=>by
       rcases sM h with z|⟨_,z⟩
       ·cases z
       · have:=z p rfl
         cases p with
         | nil=>
           simp only[aD]at OM;exact⟨t',O7,by unfold aD;exact⟨rfl,OM.2⟩⟩
         |cons a b=>cases this)
     exact q _ _ _ (Mv.trans (.same s1) mv) r'
   ·cases e
 ·cases e
end
noncomputable def eW:Slot→Bool
 |.un=>true
 |.sh d=>cf d
 |.ol ds=>er ds
 |.od _ ds=>er ds
 |.on _=>false
noncomputable def kn(i:Nat)(f:Sm):Sm:=fun ρ=>match ρ[i]? with
 | some (.on (.tr t))=>(f (bZ i t ρ)).bind fun(fl:Fl)=>match fl with
   |.next ρ2=>if(ρ2.set i .un).all eW=true then .ok (.next (ρ2.set i (.on (.tr t))))else .bad
   |.ret d=>if cf d=true then .ok (.ret d)else .bad
   |_=>.bad
 |_=>.bad
section
variable{X:Cx}{M:Md}{G H H':Hp}{F0:Gf}{F F':Addr→Prop}{σ:L2.St}{ρ:En}{pos:Pos}{pins:List (Addr×Obj)}{s:Shared}{as:List Addr}
theorem Ez(nf:∀o u,X.jg a≠some (.frz o u))(I1:Inv X pins σ H1 s1)(e1:H1 a=some (.frz ob (.dK kvs))):Inv X pins σ (upd H1 a (.dK kvs)) s1:=by
 have nn:∀ {b},H1 b=none→upd H1 a (.dK kvs) b=none:=fun {b} h=>by rw[L2.aF (fun z=>by subst z;rw[e1]at h;cases h)];exact h
 refine⟨I1.ok,I1.os,I1.bare,⟨I1.base.keep,I1.base.slot,fun b o h n x=>nn (I1.base.free b o h n x),I1.base.there,fun b xs h=>?_,fun b o u h=>?_,fun b ps h=>?_⟩,I1.loc,I1.cell,nn I1.free,fun x c h=>nn (I1.gE x c h),fun p hp=>?_,fun b o h=>?_,I1.len⟩
 · have h1:=I1.base.fq b xs h
   rw[L2.aF (fun z=>by subst z;rw[e1]at h1;cases h1)];exact h1
 ·rw[L2.aF (fun z=>by subst z;exact nf _ _ h)];exact I1.base.dU b o u h
 · obtain⟨more,h1⟩:=I1.base.fA b ps h
   exact⟨more,by rw[L2.aF (fun z=>by subst z;rw[e1]at h1;cases h1)];exact h1⟩
 · obtain⟨h1,h2,h3⟩:=I1.pin p hp
   exact⟨h1,nn h2,h3⟩
 · by_cases hb:b=a
   · subst hb
     rw[L2.bu]at h;cases h;obtain⟨_,z,y,vs,r,dd⟩:=I1.aI b _ e1;exact⟨z,y,vs,r,dd⟩
   · rw[L2.aF hb]at h
     refine(I1.aI b o h).dX (fun c u _ q=>q) (fun c q=>?_) fun c xs q=>?_
     ·rw[L2.aF (fun z=>by subst z;rw[e1]at q;cases q)];exact q
     ·rw[L2.aF (fun z=>by subst z;rw[e1]at q;cases q)];exact q
theorem vt:∀ {as:List Addr} {H1:Hp} {s1:Shared},Inv X pins σ H1 s1→(∀b∈as,∀o u,X.jg b≠some (.frz o u))→(∀b∈as,H1 b=H b∨∃ob kvs,H b=some (.dK kvs)∧H1 b=some (.frz ob (.dK kvs)))→as.Nodup→∃H2,Inv X pins σ H2 s1∧(∀b∈as,H2 b=H b)∧∀b,b∉as→H2 b=H1 b
 |[],H1,s1,I1,_,_,_=>⟨H1,I1,(fun _ hb=>nomatch hb),fun _ _=>rfl⟩
 | a::as,H1,s1,I1,nf,k,nd=>by
   have LI:=List.nodup_cons.mp nd;obtain⟨H2,I2,k2,o2⟩:=vt I1 (fun b hb=>nf b (List.mem_cons_of_mem _ hb)) (fun b hb=>k b (List.mem_cons_of_mem _ hb)) LI.2;have ea:H2 a=H1 a:=o2 a LI.1;rcases k a List.mem_cons_self with h|⟨ob,kvs,h1,h2⟩
   · refine⟨H2,I2,fun b hb=>?_,fun b hb=>o2 b fun Mo=>hb (List.mem_cons_of_mem _ Mo)⟩
     rcases List.mem_cons.mp hb with rfl|hb
     ·rw[ea];exact h
     ·exact k2 b hb
   · refine⟨_,Ez (nf a List.mem_cons_self) I2 (by rw[ea];exact h2),fun b hb=>?_,fun b hb=>?_⟩
     · by_cases NJ:b=a
       ·subst NJ;rw[L2.bu,h1]
       · rw[L2.aF NJ]
         exact k2 b ((List.mem_cons.mp hb).resolve_left NJ)
     · have NJ:b≠a:=fun z=>by subst z;exact hb List.mem_cons_self
       rw[L2.aF NJ];exact o2 b fun Mo=>hb (List.mem_cons_of_mem _ Mo)
theorem rY{i j:Nat}{t:T}{s:Slot}(h:(bZ i t ρ)[j]? =some s):(∃d,s=.sh d)∨s=.un∨(j≠i∧ρ[j]? =some s∧∀k p,s≠.on (.al k p)):=by
 unfold bZ at h;rcases get_set h with⟨_,h2,_⟩|⟨C',h⟩
 ·exact .inl ⟨_,h2.symm⟩
 · rw[List.getElem?_map]at h
   cases e:ρ[j]? with
   |none=>rw[e]at h;cases h
   | some z=>
     rw[e]at h
     replace h:kF i t z=s:=by simpa using h
     unfold kF at h;split at h
     · rename_i k p
       by_cases hk:k=i
       · subst hk
         rw[if_pos rfl]at h;split at h
         ·exact .inl ⟨_,h.symm⟩
         ·exact .inr (.inl h.symm)
       ·rw[if_neg hk]at h;exact .inr (.inl h.symm)
     · rename_i hne2
       subst h;exact .inr (.inr ⟨Ne.symm C',rfl,fun k p z=>hne2 k p z⟩)
theorem qr{i j:Nat}{s:Slot}(h:(ρ.set i .un).all eW=true)(Om:i≠j)(e:ρ[j]? =some s):eW s=true:=by
 rw[List.all_eq_true]at h;refine h s ?_;have:(ρ.set i .un)[j]? =some s:=by rw[List.getElem?_set_ne Om];exact e
 exact List.mem_of_getElem? this
theorem Fm (i:Nat) {st:Stmt} {f:Sm} (h:JK X i st f):JS X st (kn i f):=fun F0 pins s σ H D I ⟨ρ,F,fl,r,e,q⟩=>by
 unfold kn at e;split at e
 · rename_i t q1
   obtain⟨f1,ef,e⟩:=az.mp e;obtain⟨⟨w,as,ew,tr,nd⟩,_,uq⟩:=r.rs.on i _ q1;have M4:∀b∈as,cR (aA X) H F σ ρ i b:=fun b hb=>⟨t,w,as,q1,ew,tr,hb⟩;have hG:∀b∈as,F0.g b=none:=fun b hb=>r.dY i _ b q1 (M4 b hb);have fs:=tr.fs;obtain⟨H',I',hH,hz⟩:=ak.frz I tr nd;obtain⟨mv,OD⟩:=r.rs.bZ q1 ew tr hH hz
   have noon:∀(j:Nat) x,(bZ i t ρ)[j]? ≠some (.on x):=fun j x hx=>by
     rcases rY hx with⟨d,z⟩|z|⟨hj,z,na⟩
     ·cases z
     ·cases z
     · cases x with
       |tr t2=>exact hj (uq t rfl j t2 z)
       |al k p=>exact na k p rfl
   have owned:∀j,bp (bZ i t ρ) j→bp ρ j:=fun j hj=>by
     rcases hj with⟨ds,hx⟩|⟨ks,ds,hx⟩
     · rcases rY hx with⟨d,z⟩|z|⟨_,z,_⟩
       ·cases z
       ·cases z
       ·exact .inl ⟨_,z⟩
     · rcases rY hx with⟨d,z⟩|z|⟨_,z,_⟩
       ·cases z
       ·cases z
       ·exact .inr ⟨_,_,z⟩
   have rg:aT (aA X) F0.g F0 H' (fun b=>F b∧b∉as) σ (bZ i t ρ):=⟨OD,fun b u e=>by
       have hb:b∉as:=fun hb=>by rw[hG b hb]at e;cases e
       rw[hH b hb];exact r.sm b u e,fun b hb=>⟨r.sub b hb,fun Mo=>by obtain⟨o,e⟩:=r.df b hb;rw[hG b Mo]at e;cases e⟩,r.df,fun j a oj ej=>r.own j a (owned j oj) ej,fun j x b e=>absurd e (noon j x),fun v hv t2 e=>absurd e (noon 0 _)⟩
   have nf:∀b∈as,∀o u,X.jg b≠some (.frz o u):=fun b hb o u e0=>by
     have h0:=I.base.dU b o u e0;rcases hz b hb with⟨_,xs,h2⟩|⟨ob,kvs,h1,_⟩
     ·rw[h2]at h0;cases h0
     ·rw[h1]at h0;cases h0
   have Q9:∀b∈as,¬(F b∧b∉as):=fun b hb hf=>hf.2 hb
   have Oc:∀ {L1:L2.St} {H3:Hp} {F3:Addr→Prop} {s3:Shared},Inv X pins L1 H3 s3→Mv (fun b=>F b∧b∉as) H' F3 H3→∃H4,Inv X pins L1 H4 s3∧(∀b,b∉as→H4 b=H3 b)∧(∀b∈as,H4 b=H b)∧(∀b∈as,¬F3 b)∧Mv F H (fun b=>F3 b∨b∈as) H4∧∀a xs,dF (aA X) H3 F3 a xs→dF (aA X) H4 (fun b=>F3 b∨b∈as) a xs:=fun {L1 H3 F3 s3} I3 m3=>by
     have k1:∀b∈as,(H3 b=H b∧∃xs,H b=some (.lst xs))∨∃ob kvs,H b=some (.dK kvs)∧H3 b=some (.frz ob (.dK kvs)):=fun b hb=>by
       rcases hz b hb with⟨h1,xs,h2⟩|⟨ob,kvs,h1,h2⟩
       ·exact .inl ⟨by rw[h2]at h1 ⊢;exact(m3 _ _ (Q9 b hb) h1).2,xs,h2⟩
       ·exact .inr ⟨ob,kvs,h1,(m3 _ _ (Q9 b hb) h2).2⟩
     obtain⟨H4,I4,a4,o4⟩:=vt (H:=H) I3 nf (fun b hb=>(k1 b hb).imp And.left id) nd
     have n3:∀b∈as,¬F3 b:=fun b hb=>by
       rcases hz b hb with⟨h1,xs,h2⟩|⟨ob,kvs,h1,h2⟩
       ·rw[h2]at h1;exact(m3 _ _ (Q9 b hb) h1).1
       ·exact(m3 _ _ (Q9 b hb) h2).1
     refine⟨H4,I4,o4,a4,n3,fun b o n e=>?_,fun a xs ht=>?_⟩
     · have hb:b∉as:=fun hb=>n (fs b hb).1
       obtain⟨z1,z2⟩:=m3 b o (fun z=>n z.1) (by rw[hH b hb];exact e)
       exact⟨fun z=>z.elim z1 hb,by rw[o4 b hb];exact z2⟩
     · rcases ht with⟨n,ht⟩|ht
       · have ha:a∉as:=fun ha=>by
           rcases k1 a ha with⟨h1,ys,h2⟩|⟨ob,kvs,h1,h2⟩
           · rcases ht with ht|⟨o,ht⟩
             ·rw[h1,h2]at ht;cases ht
             ·rw[h1,h2]at ht;cases ht
           · rcases ht with ht|⟨o,ht⟩
             ·rw[h2]at ht;cases ht
             ·rw[h2]at ht;cases ht
         refine .inl ⟨fun f=>f.elim n ha,?_⟩;rcases ht with ht|⟨o,ht⟩
         ·exact .inl (by rw[o4 a ha];exact ht)
         ·exact .inr ⟨o,by rw[o4 a ha];exact ht⟩
       ·exact .inr ht
   refine wpAny_mono (h F0 pins s σ H' {nx:=fun L1 H3=>L1[i]? =σ[i]? ∧∃F3 Na,f1=.next Na∧Mv (fun b=>F b∧b∉as) H' F3 H3∧aT (aA X) F0.g F0 H3 F3 L1 Na,rt:=fun v H3=>∃F3 d,f1=.ret d∧Mv (fun b=>F b∧b∉as) H' F3 H3∧aq F0.g H3∧(∀a,F0 a→F3 a)∧Rep (aA X) H3 F3 d v} I' ⟨_,_,f1,rg,ef,?_⟩) (fun fw s3 hs=>?_) fun _ _ x=>x
   · cases f1 with
     |next Na=>exact fun L1 H3 F3 m3 r3 k3=>⟨k3,F3,Na,rfl,m3,r3⟩
     |ret d=>exact fun v H3 F3 m3 a b rv=>⟨F3,d,rfl,m3,a,b,rv⟩
     |brk _=>cases e
     |cont _=>cases e
     |eU _=>cases e
     |cP _=>cases e
   · cases fw with
     | next=>
       obtain⟨L1,H3,I3,k3,F3,Na,rfl,m3,r3⟩:=hs;have e:(if(Na.set i .un).all eW=true then R.ok (Fl.next (Na.set i (.on (.tr t))))else .bad)=.ok fl:=e
       by_cases hn:(Na.set i .un).all eW=true
       · rw[if_pos hn]at e
         cases e;obtain⟨H4,I4,o4,a4,n3,Rn,Qz⟩:=Oc I3 m3;have ot:∀b,F3 b→b∉as:=fun b f hb=>n3 b hb f
         have V4:i<Na.length:=by
           have:=(List.getElem?_eq_some_iff.mp (k3.trans ew)).1;rw[r3.rs.len];exact this
         have self:(Na.set i (.on (.tr t)))[i]? =some (.on (.tr t)):=List.getElem?_set_self V4
         have Mi:∀j,bp (Na.set i (.on (.tr t))) j→i≠j∧bp Na j:=fun j hj=>by
           rcases hj with⟨ds,hx⟩|⟨ks,ds,hx⟩
           · rcases get_set hx with⟨_,z,_⟩|⟨C',hx⟩
             ·cases z
             ·exact⟨C',.inl ⟨_,hx⟩⟩
           · rcases get_set hx with⟨_,z,_⟩|⟨C',hx⟩
             ·cases z
             ·exact⟨C',.inr ⟨_,_,hx⟩⟩
         have only:∀(j:Nat) x,(Na.set i (.on (.tr t)))[j]? =some (.on x)→i=j∧x=.tr t:=fun j x hx=>by
           rcases get_set hx with⟨z,z2,_⟩|⟨C',hx⟩
           ·injection z2 with z2;exact⟨z,z2.symm⟩
           ·exact absurd (qr hn C' hx) (by simp[eW])
         have TH:ak (aA X) H4 (fun b=>F3 b∨b∈as) t w as:=tr.mv Rn fun b hb u f hu=>⟨.inr hb,by rw[a4 b hb];exact hu⟩
         have M3:∀(j:Nat) b,cR (aA X) H4 (fun b=>F3 b∨b∈as) L1 (Na.set i (.on (.tr t))) j b→b∈as:=fun j b ⟨t1,v1,Np,e1,Nd,M7,hb⟩=>by
           obtain⟨rfl,z⟩:=only j _ e1;injection z with z;subst z;rw[k3,ew]at Nd;cases Nd;have:=ak.gx TH M7;subst this;exact hb
         refine⟨L1,H4,I4,q L1 H4 (fun b=>F3 b∨b∈as) Rn ⟨⟨by rw[List.length_set];exact r3.rs.len,fun b hb=>?_,fun j d hx=>?_,fun j ds hx=>?_,fun j ks ds hx=>?_,fun j k b oj ok ej ek=>r3.rs.cn j k b (Mi j oj).2 (Mi k ok).2 ej ek,fun j x hx=>?_⟩,fun b u eb=>?_,fun b hb=>.inl (r3.sub b hb),r3.df,fun j b oj ej=>r3.own j b (Mi j oj).2 ej,fun j x b hx hb=>hG b (M3 j b hb),fun v hv t2 hx=>?_⟩⟩
         · rcases hb with hb|hb
           · obtain⟨o,eo⟩:=r3.rs.aX b hb
             exact⟨o,by rw[o4 b (ot b hb)];exact eo⟩
           · obtain⟨o,eo⟩:=(fs b hb).2
             exact⟨o,by rw[a4 b hb];exact eo⟩
         · rcases get_set hx with⟨_,z,_⟩|⟨C',hx⟩
           ·cases z
           · obtain⟨v,ev,rv⟩:=r3.rs.sh j d hx
             exact⟨v,ev,Rep.ia Qz (qr hn C' hx) rv⟩
         · rcases get_set hx with⟨_,z,_⟩|⟨C',hx⟩
           ·cases z
           · obtain⟨a,xs,e1,f,e2,g⟩:=r3.rs.ol j ds hx
             exact⟨a,xs,e1,.inl f,by rw[o4 a (ot a f)];exact e2,ag.ia Qz (qr hn C' hx) g⟩
         · rcases get_set hx with⟨_,z,_⟩|⟨C',hx⟩
           ·cases z
           · obtain⟨a,xs,e1,f,e2,l,g⟩:=r3.rs.od j ks ds hx
             exact⟨a,xs,e1,.inl f,by rw[o4 a (ot a f)];exact e2,l,ag.ia Qz (qr hn C' hx) g⟩
         · obtain⟨rfl,rfl⟩:=only j x hx
           refine⟨⟨w,as,k3.trans ew,TH,nd⟩,fun b hb k ok ek=>?_,fun t1 _ k t2 h2=>(only k _ h2).1.symm⟩;obtain⟨a,_,u,_,e1,f,_,_⟩:=r3.rs.ownAt (Mi k ok).2;rw[ek]at e1;cases e1;exact n3 b (M3 _ b hb) f
         · have hb:b∉as:=fun hb=>by rw[hG b hb]at eb;cases eb
           rw[o4 b hb];exact r3.sm b u eb
         · obtain⟨rfl,_⟩:=only 0 _ hx
           rw[k3];exact r.pin v hv t q1
       ·rw[if_neg hn]at e;cases e
     | ret u=>
       obtain⟨v,L1,H3,I3,rv,F3,d,rfl,m3,WC,Pd,rd⟩:=hs;have e:(if cf d=true then R.ok (Fl.ret d)else .bad)=.ok fl:=e
       by_cases hn:cf d=true
       · rw[if_pos hn]at e
         cases e;obtain⟨H4,I4,o4,a4,n3,Rn,Qz⟩:=Oc I3 m3;refine⟨v,L1,H4,I4,rv,q v H4 (fun b=>F3 b∨b∈as) Rn (fun b u eb=>?_) (fun b hb=>.inl (Pd b hb)) (Rep.ia Qz hn rd)⟩;have hb:b∉as:=fun hb=>by rw[hG b hb]at eb;cases eb
         rw[o4 b hb];exact WC b u eb
       ·rw[if_neg hn]at e;cases e
     |brk=>obtain⟨_,_,_,z⟩:=hs;exact z.elim
     |cont=>obtain⟨_,_,_,z⟩:=hs;exact z.elim
 ·cases e
end
section
variable{X:Cx}{M:Md}{G H H':Hp}{F0:Gf}{F F':Addr→Prop}{σ:L2.St}{ρ:En}{pos:Pos}{pins:List (Addr×Obj)}{s:Shared}{as:List Addr}
theorem IL(k i:Nat)(he:JE X e f)(hN:X.N[i]? =some x:=by rfl)(hv:L2.cw X.env.scope x:=by first|exact Or.inl rfl|exact Or.inr (Or.inl rfl)|exact Or.inr (Or.inr rfl))(hd:(x==("__debug__":Str))=false:=by decide)
   (LH:(x==("__classdict__":Str))=false:=by decide) (Ll:attributeBase (.Name x p2) "append" X.env (eval (.Name x p2) X.env)=eval (.Name x p2) X.env:=by rfl)
   (L':((backTo j' (starEach [e] X.env)).all (fun x=> !x.1)&&(backToKw j' (keywordEach [] X.env)).all (fun x=>x.1.isSome)
     &&decide (([e]:List Expr).length+([]:List Keyword).length+(if([]:List Keyword).isEmpty then 0 else 1)<30))=true:=by rfl)
   (Lm:(apos.endLine==j'.line)=true:=by rfl) (hs:starEach [e] X.env=(false,eval e X.env)::starEach [] X.env:=by rfl)
   (Mq:swapsWith (.Call (.Attribute (.Name x p2) "append" apos) [e] [] j') none pos.line X.env=pure false:=by rfl):
   JK X k (.Expr (.Call (.Attribute (.Name x p2) "append" apos) [e] [] j') pos) (jm i f):=fun F0=>
 cJ (L2.jF (L2.rm PySem.F.plainAttrs_list PySem.F.slot_list_append PySem.F.type_list_append L2.tO (L2.pv i hN hv hd LH) (fJ he gB hs) Ll L' Lm hs) Mq) fun D σ H ⟨ρ,F,fl,r,e,q⟩=>by
   obtain⟨d,ed,e⟩:=az.mp e;split at e
   · rename_i xs q1
     split at e
     · rename_i L8
       cases e;have oi:bp ρ i:=.inl ⟨_,q1⟩;obtain⟨a,ys,ea,fa,ha,rs⟩:=r.rs.ol i _ q1;refine⟨_,ea,.inl ⟨rfl,ys,bz.of ha⟩,ρ,F,[d],r.rs,by show(f ρ).bind _=_;rw[ed];rfl,fun vs H1 s1 rv=>?_⟩
       obtain⟨y,rfl,ry⟩:=rv.one;have r1:=r.same s1;refine⟨a,ys,y,rfl,rfl,s1 _ _ ha,by rw[←rs.length];exact L8,?_⟩
       obtain⟨mv,r'⟩:=r1.chg (s:=.ol (xs++[d])) oi ea (.inl ⟨_,ys++[y],rfl,rfl,(rs.mv (.same s1)).append (ag.cons ry ag.nil)⟩);exact q _ _ _ (Mv.trans (.same s1) mv) r' rfl
     ·cases e
   ·cases e
end
noncomputable def xM(f:Ex):Xt:=fun ρ=>(f ρ).bind fun d=>match d with
 |.aw ks vs=>.ok (.m ks (vs.map .d))
 |_=>.bad
section
variable{X:Cx}{M:Md}{G H H':Hp}{F0:Gf}{F F':Addr→Prop}{σ:L2.St}{ρ:En}{pos:Pos}{pins:List (Addr×Obj)}{s:Shared}{as:List Addr}
theorem HU(he:JD X e f):JX X e (xM f):=
 bP he fun σ H Q ⟨ρ,F,t,hr,e,q⟩=>by
   obtain⟨d,ed,e⟩:=az.mp e;cases d with
   | aw ks vs=>
     cases e;refine⟨ρ,F,ks,vs,hr,ed,fun p H1 xs s1 hp hl rs=>?_⟩;have ne:∀b u,H1 b=some u→b≠p:=fun b u e z=>by subst z;rw[hp]at e;cases e
     refine q (.ref p) _ (fun b=>F b∨b∈[p]) [p] (s1.trans (aq.cm hp _)) (fun b hb=>?_) (by simp) (fun b=>Iff.rfl) ?_
     ·rw[List.mem_singleton.mp hb];exact s1.free hp
     · simp only[ak]
       exact⟨p,xs,[],rfl,rfl,.inr (List.mem_singleton.mpr rfl),L2.bu,hl,kH.mpr ⟨rfl,rs.mv fun b u n e=>⟨fun h=>h.elim n fun hb=>ne b u e (List.mem_singleton.mp hb),by rw[L2.aF (ne b u e)];exact e⟩⟩⟩
   |_=>cases e
theorem Em(ρ:En)(d:D)(h:jo i f ρ=.ok d):∃ds,d=.lst ds:=by
 unfold jo at h;split at h
 · obtain⟨d',_,h⟩:=az.mp h
   split at h
   · split at h
     ·cases h;exact⟨_,rfl⟩
     ·cases h
   ·cases h
 ·cases h
theorem GC(hc:X.calm=true)(Od:L2.Gl X "sorted")(hm:X.mg "sorted"=none)(ha:JE X a fa)(hs:starEach [a] X.env=(false,eval a X.env)::starEach [] X.env):JF X (.Call (.Name "sorted" p) [a] [] pos) (e1 de fa):=
 bP (L2.q9 (mh hc) Od hm mJ (fJ ha gB hs) (by decide) (by decide) hs) fun σ H Q ⟨ρ,F,ds,hr,e,q⟩=>by
   obtain⟨d,ed,e⟩:=az.mp e;refine⟨ρ,F,[d],hr,by show(fa ρ).bind _=_;rw[ed];rfl,fun vs H1 s1 rv=>?_⟩
   obtain⟨y,rfl,ry⟩:=rv.one;unfold de at e;split at e
   · rename_i ks MM
     split at e
     · rename_i ns Ov
       split at e
       · rename_i Nf
         cases e;have RP:=sd Ov;simp only[Rep]at ry;obtain⟨p,ys,rfl,h,hl,rs⟩:=ry;exact⟨F,p,_,ns,rfl,h,by rw[List.map_fst_zip (by omega)];exact RP,Nf,fun l hn=>q l H1 _ s1 hn (uR _)⟩
       ·cases e
     ·cases e
   ·cases e
end
end PL
namespace PL
namespace gu
open PySem
abbrev S(x:String):D:=.str (Str.ofString x)
def uO:D:=(.int 16)
def t6:D:=(.int 4095)
def iC:D:=(.int 4294967295)
def ug:D:=(.int 4294967294)
def uT:D:=(.int 15)
noncomputable def gA:List D→R D:=fn 2 (aj [aQ (tV (e2 oLt (aa 1) (e1 oH (aa 0)))) (aM (e2 ao (aa 0) (aa 1))) (aP),aM (eC (.int 0))])
noncomputable def qV:Sm:=aj [jm 1 (e2 oMod (e2 d9 (aa 0) (e2 lT (e2 lT (eC (.int 40503)) (aa 2)) (aa 2))) (eC (.int 4294967296))),bb (aE 0) (e2 oDiv (aa 0) (eC (.int 4294967296)))]
noncomputable def j1:List D→R D:=fn 3 (aj [je 1 (cL []),dy (kh (eC (.int 16))) (aE 2) qV,iA 1,aM (e1 nI (aa 1))])
noncomputable def g8:List D→R T:=i4 2 (aj [il 1 (gr [(eC (S "parent"),xD (aa 0)),(eC (S "rank"),xD (eC (.int 1))),(eC (S "regs"),xL [xD (eC (.int 0)),xD (eC (.int 1)),xD (eC (.int 2)),xD (eC (.int 3)),xD (eC (.int 4)),xD (eC (.int 5)),xD (eC (.int 6)),xD (eC (.int 7))]),(eC (S "row"),xD (eC (.int 0))),(eC (S "pages"),jl),(eC (S "handles"),jl)]),b7 1 (pN) (eC (S "waits")) (eC .aH),b7 1 (pN) (eC (S "handler")) (eC (.int 0)),b7 1 (pN) (eC (S "rung")) (eC (.bl false)),b7 1 (pN) (eC (S "saved")) (eC .aH),qJ 1])
noncomputable def mF:Sm:=aj [bb (aE 6) (e2 d9 (eC (.int 1)) (e2 oMod (e2 d9 (e2 oDiv (aa 1) (eC (.int 1000))) (e2 lT (eC (.int 4)) (aa 5))) (eC (.int 15)))),b7 4 (pX 4 (pN) (eC (S "lent"))) (aa 6) (aJ j1 [aJ gA [aa 0,e2 d9 (eC (.int 1)) (aa 5)]]),b7 4 (pX 4 (pX 4 (pX 4 (pN) (eC (S "tasks"))) (aa 2)) (eC (S "pages"))) (e2 d9 (eC (.int 100)) (aa 5)) (aU [eC (S "lent"),aa 6])]
noncomputable def lq:Sm:=aj [bb (aE 8) (aJ gA [aa 0,aa 7]),jY 9 4 (pX 4 (pX 4 (pX 4 (pN) (eC (S "tasks"))) (e2 ao (cL [aa 2,aa 3]) (e2 oMod (aa 8) (eC (.int 2))))) (eC (S "pages"))),bb (aE 10) (e2 ao (cL [eC (.int 0),eC (.int 1),eC (.int 2),eC (.int 3),eC (.int 4095),e2 oMod (e2 oDiv (aa 8) (eC (.int 144))) (eC (.int 4096))]) (e2 oMod (e2 oDiv (aa 8) (eC (.int 2))) (eC (.int 6)))),bb (aE 11) (aU [eC (S "own"),aJ j1 [e2 oDiv (aa 8) (eC (.int 36))]]),aQ (cT 4 (d8 (tV (e2 oEq (e2 oMod (e2 oDiv (aa 8) (eC (.int 12))) (eC (.int 3))) (eC (.int 2)))) (tV (e2 gj (e2 ao (aa 4) (eC (S "lent"))) (cz [] []))))) (bb (aE 11) (eX (xT [xD (eC (S "lent")),xD (fF 4 (e2 ao (e1 de (e2 ao (aa 4) (eC (S "lent")))) (e2 oMod (e2 oDiv (aa 8) (eC (.int 36))) (e1 cQ (e2 ao (aa 4) (eC (S "lent")))))))]))) (aP),aQ (b6 (tV (e2 oLt (aa 10) (eC (.int 100)))) (tV (e2 d6 (aa 10) (eC (.int 102))))) (b7 4 (pA 4 9) (aa 10) (aa 11)) (aP)]
noncomputable def om:List D→R D:=fn 12 (aj [bb (aE 1) (aJ gA [aa 0,eC (.int 0)]),bb (aE 2) (e2 d9 (eC (.int 1)) (e2 oMod (aa 1) (eC (.int 15)))),bb (aE 3) (e2 d9 (eC (.int 1)) (e2 oMod (e2 d9 (e2 d9 (aa 1) (eC (.int 1))) (e2 oMod (e2 oDiv (aa 1) (eC (.int 15))) (eC (.int 14)))) (eC (.int 15)))),il 4 (gr [(eC (S "tasks"),gr [(aa 2,bG g8 [eC (.int 0)]),(aa 3,bG g8 [eC (.int 0)])]),(eC (S "lent"),jl),(eC (S "nodes"),gr [(eC (.int 0),xT [xD (eC (S "folder")),jl])])]),b7 4 (pN) (eC (S "nodes")) (cz [(.inl 0),(.inl 1)] [aU [eC (S "folder"),cz [(.inl 7)] [eC (.int 1)]],aU [eC (S "file"),cL [eC (.int 5),eC (.int 6)]]]),b7 4 (pN) (eC (S "boxes")) (cz [(.inl 2)] [aU [eC (.int 3),cL [eC (.int 9)]]]),b7 4 (pN) (eC (S "clock")) (eC (.int 4)),b7 4 (pX 4 (pX 4 (pN) (eC (S "tasks"))) (aa 2)) (eC (S "handles")) (cz [(.inl 3)] [eC (.int 1)]),b7 4 (pX 4 (pX 4 (pN) (eC (S "tasks"))) (aa 2)) (eC (S "saved")) (aU [cL [eC (.int 1),eC (.int 2),eC (.int 3),eC (.int 4),eC (.int 5),eC (.int 6),eC (.int 7),eC (.int 8)],eC (.int 70)]),b7 4 (pX 4 (pX 4 (pN) (eC (S "tasks"))) (aa 3)) (eC (S "handler")) (eC (.int 50)),b7 4 (pX 4 (pX 4 (pN) (eC (S "tasks"))) (aa 3)) (eC (S "rung")) (e2 oEq (e2 oMod (aa 1) (eC (.int 2))) (eC (.int 1))),dy (kh (e2 oMod (e2 oDiv (aa 1) (eC (.int 225))) (eC (.int 4)))) (aE 5) mF,dy (jy (eC (.int 3)) (eC (.int 13))) (aE 7) lq,cC 4,aM (aa 4)])
noncomputable def uf(rec:List D→R T):List D→R T:=i4 1 (aj [aQ (tV (e1 (bS .dict) (aa 0))) (fS (oN (iU (gC (aa 0)) 1 [0] (aE 0) [] (xT [xD (aa 0),bG rec [e2 ao (aa 1) (aa 0)]])))) (aP),aQ (tV (e1 (bS .list) (aa 0))) (fS (iU (eF (aa 0)) 1 [] (aE 0) [] (bG rec [aa 0]))) (aP),aQ (tV (e1 (bS .tuple) (aa 0))) (fS (xD (e1 nI (dg (eF (aa 0)) 1 [] (aE 0) [] (eX (bG rec [aa 0])))))) (aP),fS (xD (aa 0))])
def eM:List D→R T:=kO uf 9
noncomputable def fW:List D→R T:=i4 2 (fS (xM (e1 ki (e2 ao (e2 ao (e2 ao (aa 0) (eC (S "tasks"))) (aa 1)) (eC (S "pages"))))))
noncomputable def ja:Sm:=aQ (tV (e2 oEq (e2 ao (aa 3) (eC (.int 0))) (eC (S "lent")))) (jm 1 (e2 ao (aa 3) (eC (.int 1)))) (aP)
noncomputable def ke:Sm:=dy (j4 (e2 ao (e2 ao (e2 ao (aa 0) (eC (S "tasks"))) (aa 2)) (eC (S "pages")))) (aE 3) ja
noncomputable def jH:Sm:=aQ (tV (e2 cY (aa 4) (aa 1))) (jh 0 (pX 0 (pN) (eC (S "lent"))) (aa 4)) (aP)
noncomputable def gq:T→List D→R T:=mZ 5 (aj [je 1 (cL []),kn 0 (dy (gC (e2 ao (aa 0) (eC (S "tasks")))) (aE 2) ke),iA 1,dy (eF (jo 0 (e1 de (e2 ao (aa 0) (eC (S "lent")))))) (aE 4) jH])
noncomputable def kD:List D→R D:=fn 1 (aM (dg (eF (e1 de (e2 ao (aa 0) (eC (S "tasks"))))) 1 [0] (aE 0) [] (e2 ao (e2 ao (aa 1) (eC (S "tasks"))) (aa 0))))
noncomputable def oI:Sm:=o7 1 (dg (j4 (e2 ao (aa 2) (eC (S "pages")))) 1 [] (aE 0) [tV (e2 oEq (e2 ao (aa 0) (eC (.int 0))) (eC (S "lent")))] (e2 ao (aa 0) (eC (.int 1))))
noncomputable def oT:List D→R D:=fn 3 (aj [je 1 (cL []),dy (eF (aJ kD [aa 0])) (aE 2) oI,iA 1,aM (aa 1)])
def dk:List D→R D:=fn 3 (aj [kI 2 (e1 ki (aa 0)),mR 2 (aa 1),iA 2,aM (aa 2)])
noncomputable def jq:List D→R D:=fn 3 (aj [bb (aE 1) (aJ oT [aa 0]),bb (aE 2) (e1 kx (dg (oS (e2 ao (aa 0) (eC (S "lent")))) 2 [1] (gc [0,1]) [tV (e2 cA (aa 0) (aa 2))] (aU [aa 0,aa 1]))),aM (aJ dk [aa 0,cz [(.inr (Str.ofString "lent"))] [aa 2]])])
noncomputable def iJ:List D→R D:=fn 4 (aj [kI 3 (e1 ki (e2 ao (aa 0) (eC (S "tasks")))),oM 3 (aa 1) (aJ dk [qo 3 (aa 1),aa 2]),iA 3,aM (aJ dk [aa 0,cz [(.inr (Str.ofString "tasks"))] [aa 3]])])
noncomputable def kA:List D→R D:=fn 2 (aM (aJ jq [aJ iJ [aa 0,aa 1,cz [(.inr (Str.ofString "pages"))] [cz [] []]]]))
noncomputable def jI:List D→R D:=fn 4 (aj [bb (aE 3) (e1 de (e2 ao (e2 ao (e2 ao (aa 0) (eC (S "tasks"))) (aa 1)) (eC (S "pages")))),aQ (d8 (tV (e2 oEq (e2 oMod (aa 2) (eC (.int 3))) (eC (.int 0)))) (tV (e2 cF (aa 3) (cL [])))) (aM (e2 ao (aa 3) (e2 oMod (e2 oDiv (aa 2) (eC (.int 3))) (e1 cQ (aa 3))))) (aP),aQ (tV (e2 oEq (e2 oMod (aa 2) (eC (.int 3))) (eC (.int 1)))) (aM (e2 ao (cL [eC (.int 0),eC (.int 1),eC (.int 2),eC (.int 3),eC (.int 4),eC (.int 5),eC (.int 4094),eC (.int 4095),eC (.int 4096),eC (.int 65535)]) (e2 oMod (e2 oDiv (aa 2) (eC (.int 3))) (eC (.int 10))))) (aP),aM (e2 ao (cL [e2 oMod (e2 oDiv (aa 2) (eC (.int 6))) (eC (.int 17)),e2 oMod (e2 oDiv (aa 2) (eC (.int 6))) (eC (.int 4294967296))]) (e2 oMod (e2 oDiv (aa 2) (eC (.int 3))) (eC (.int 2))))])
def kc:Sm:=bb (aE 8) (e2 d9 (aa 8) (eC (.int 1)))
noncomputable def dO:List D→R D:=fn 9 (aj [il 5 (bG eM [aa 0]),jY 6 5 (pX 5 (pX 5 (pX 5 (pN) (eC (S "tasks"))) (aa 1)) (eC (S "pages"))),bb (aE 7) (eC (.int 4294967295)),aQ (tV (e2 oEq (aa 2) (eC (.int 21)))) (aj [aQ (cT 5 (b6 (tV (e2 d6 (aa 3) (eC (.int 4095)))) (tV (e2 cA (aa 3) (aa 6))))) (aj [cC 5,aM (aU [aa 5,aa 7])]) (aP),b7 5 (pA 5 6) (aa 3) (aU [eC (S "own"),aU [eC (.int 0),eC (.int 0),eC (.int 0),eC (.int 0),eC (.int 0),eC (.int 0),eC (.int 0),eC (.int 0),eC (.int 0),eC (.int 0),eC (.int 0),eC (.int 0),eC (.int 0),eC (.int 0),eC (.int 0),eC (.int 0)]]),cC 5,aM (aU [aa 5,eC (.int 0)])]) (aP),aQ (tV (e2 oEq (aa 2) (eC (.int 22)))) (aj [aQ (cT 5 (tV (e2 cY (aa 3) (aa 6)))) (aj [cC 5,aM (aU [aa 5,aa 7])]) (aP),jh 5 (pA 5 6) (aa 3),ib 5 gq [],cC 5,aM (aU [aa 5,eC (.int 0)])]) (aP),aQ (tV (e2 oEq (aa 2) (eC (.int 24)))) (aj [aQ (cT 5 (b6 (tV (e2 cY (aa 3) (e2 ao (aa 5) (eC (S "lent"))))) (b6 (tV (e2 d6 (aa 4) (eC (.int 4095)))) (tV (e2 cA (aa 4) (aa 6)))))) (aj [cC 5,aM (aU [aa 5,aa 7])]) (aP),b7 5 (pA 5 6) (aa 4) (aU [eC (S "lent"),aa 3]),cC 5,aM (aU [aa 5,eC (.int 0)])]) (aP),aQ (cT 5 (b6 (tV (e2 cY (aa 3) (aa 6))) (tV (e2 oEq (e2 ao (e2 ao (aa 6) (aa 3)) (eC (.int 0))) (eC (S "lent")))))) (aj [cC 5,aM (aU [aa 5,aa 7])]) (aP),bb (aE 8) (eC (.int 1)),lW 20 (cT 5 (tV (e2 cA (aa 8) (e2 ao (aa 5) (eC (S "lent")))))) kc,aQ (tV (e2 d6 (aa 8) (eC (.int 15)))) (aj [cC 5,aM (aU [aa 5,eC (.int 4294967294)])]) (aP),b7 5 (pX 5 (pN) (eC (S "lent"))) (aa 8) (fF 5 (e2 ao (e2 ao (aa 6) (aa 3)) (eC (.int 1)))),b7 5 (pA 5 6) (aa 3) (aU [eC (S "lent"),aa 8]),cC 5,aM (aU [aa 5,aa 8])])
noncomputable def iP:List D→R D:=fn 5 (aj [bb (aE 4) (aJ dk [e2 ao (e2 ao (e2 ao (aa 0) (eC (S "tasks"))) (aa 1)) (eC (S "pages")),mj (aa 2) (aa 3)]),aM (aJ iJ [aa 0,aa 1,cz [(.inr (Str.ofString "pages"))] [aa 4]])])
noncomputable def iE:List D→R D:=fn 3 (aj [aQ (tV (e2 cY (aa 1) (e2 ao (aa 0) (eC (S "tasks"))))) (aM (eC .aH)) (aP),aM (e2 (nB .aH) (e2 ao (e2 ao (e2 ao (aa 0) (eC (S "tasks"))) (aa 1)) (eC (S "pages"))) (aa 2))])
noncomputable def iB:List D→R D:=fn 3 (aM (en (m5 oLe oLe (eC (.int 0)) (aa 2) (eC t6)) (e1 g0 (aJ iE [aa 0,aa 1,aa 2]))))
noncomputable def jD:List D→R D:=fn 4 (aj [aQ (b6 (tV (e2 cY (aa 2) (e2 ao (aa 0) (eC (S "lent"))))) (cO (tV (aJ iB [aa 0,aa 1,aa 3])))) (aM (aU [aa 0,eC iC])) (aP),aM (aU [aJ iP [aa 0,aa 1,aa 3,aU [eC (S "lent"),aa 2]],eC (.int 0)])])
def m8:List D→R D:=fn 0 (aM (e2 t5 (aU [eC (.int 0)]) (eC uO)))
noncomputable def jB:List D→R D:=fn 3 (aj [aQ (cO (tV (aJ iB [aa 0,aa 1,aa 2]))) (aM (aU [aa 0,eC iC])) (aP),aM (aU [aJ iP [aa 0,aa 1,aa 2,aU [eC (S "own"),aJ m8 []]],eC (.int 0)])])
noncomputable def jb:List D→R D:=fn 4 (aj [aQ (tV (e1 g0 (aJ iE [aa 0,aa 1,aa 2]))) (aM (aU [aa 0,eC iC])) (aP),oU 3 (bG fW [aa 0,aa 1]),rB 3 (aa 2),iA 3,aM (aU [aJ jq [aJ iJ [aa 0,aa 1,cz [(.inr (Str.ofString "pages"))] [aa 3]]],eC (.int 0)])])
def gX:Sm:=aQ (tV (e2 cY (aa 3) (aa 0))) (aM (aa 3)) (aP)
noncomputable def nG:List D→R D:=fn 4 (aj [dy (jy (aa 1) (e2 d9 (aa 2) (eC (.int 1)))) (aE 3) gX,aM (eC .aH)])
noncomputable def nE:List D→R D:=fn 3 (aM (aJ dk [aa 0,cz [(.inr (Str.ofString "lent"))] [aJ dk [e2 ao (aa 0) (eC (S "lent")),mj (aa 1) (aa 2)]]]))
noncomputable def gZ:List D→R D:=fn 6 (aj [bb (aE 3) (aJ iE [aa 0,aa 1,aa 2]),aQ (b6 (tV (e1 g0 (aa 3))) (tV (e2 cF (e2 ao (aa 3) (eC (.int 0))) (eC (S "own"))))) (aM (aU [aa 0,eC iC])) (aP),bb (aE 4) (aJ nG [e2 ao (aa 0) (eC (S "lent")),eC (.int 1),eC uT]),aQ (tV (e1 g0 (aa 4))) (aM (aU [aa 0,eC ug])) (aP),bb (aE 5) (aJ nE [aa 0,aa 4,e2 ao (aa 3) (eC (.int 1))]),aM (aU [aJ iP [aa 5,aa 1,aa 2,aU [eC (S "lent"),aa 4]],aa 4])])
noncomputable def fE:List D→R D:=fn 5 (aj [aQ (tV (e2 oEq (aa 2) (eC (.int 21)))) (aM (aJ jB [aa 0,aa 1,aa 3])) (aP),aQ (tV (e2 oEq (aa 2) (eC (.int 22)))) (aM (aJ jb [aa 0,aa 1,aa 3])) (aP),aQ (tV (e2 oEq (aa 2) (eC (.int 23)))) (aM (aJ gZ [aa 0,aa 1,aa 3])) (aP),aM (aJ jD [aa 0,aa 1,aa 3,aa 4])])
noncomputable def tD(rec:List D→R D):List D→R D:=fn 2 (aj [aQ (tV (e1 (bS .dict) (aa 1))) (aj [aQ (b6 (cO (tV (e1 (bS .dict) (aa 0)))) (tV (e2 cF (e1 cQ (aa 0)) (e1 cQ (aa 1))))) (aM (eC (.bl false))) (aP),aM (e1 jr (dg (gC (aa 1)) 1 [0,1] (aE 0) [] (en (e2 cA (aa 0) (aa 1)) (aJ rec [e2 ao (aa 1) (aa 0),e2 ao (aa 2) (aa 0)]))))]) (aP),aQ (tV (e1 iG (aa 1))) (aj [aQ (b6 (tV (e2 cF (e1 (bS .list) (aa 0)) (e1 (bS .list) (aa 1)))) (tV (e2 cF (e1 (bS .tuple) (aa 0)) (e1 (bS .tuple) (aa 1))))) (aM (eC (.bl false))) (aP),aM (en (e2 oEq (e1 cQ (aa 0)) (e1 cQ (aa 1))) (e1 jr (dg (m4 (aa 0) (aa 1)) 2 [] (gc [0,1]) [] (aJ rec [aa 0,aa 1]))))]) (aP),aM (en (e2 oEq (aa 0) (aa 1)) (e2 oEq (e1 (bS .bool) (aa 0)) (e1 (bS .bool) (aa 1))))])
def dH:List D→R D:=mw tD 9
noncomputable def dZ:List D→R D:=fn 8 (aj [bb (aE 5) (aJ dO [aa 0,aa 1,aa 2,aa 3,aa 4]),bb (aE 6) (eX (bG eM [aa 0])),bb (aE 7) (aJ fE [aa 6,aa 1,aa 2,aa 3,aa 4]),aQ (b6 (cO (tV (e1 (bS .tuple) (aa 7)))) (b6 (cO (tV (aJ dH [aa 7,aa 5]))) (cO (tV (aJ dH [aa 6,aa 0]))))) (aM (eC .aH)) (aP),aM (e2 ao (aa 5) (eC (.int 0)))])
noncomputable def oP:List D→R D:=fn 6 (aj [bb (aE 3) (e2 d9 (eC (.int 21)) (e2 oMod (aa 2) (eC (.int 4)))),bb (aE 4) (aJ jI [aa 0,aa 1,e2 oDiv (aa 2) (eC (.int 4))]),bb (aE 5) (aJ jI [aa 0,aa 1,e2 oDiv (aa 2) (eC (.int 400))]),aQ (d8 (tV (e2 oEq (aa 3) (eC (.int 24)))) (d8 (tV (e2 d6 (e2 oMod (e2 oDiv (aa 2) (eC (.int 4))) (eC (.int 4))) (eC (.int 0)))) (tV (e2 gj (e2 ao (aa 0) (eC (S "lent"))) (cz [] []))))) (bb (aE 4) (e2 ao (e1 de (e2 ao (aa 0) (eC (S "lent")))) (e2 oMod (e2 oDiv (aa 2) (eC (.int 16))) (e1 cQ (e2 ao (aa 0) (eC (S "lent"))))))) (aP),aM (aJ dZ [aa 0,aa 1,aa 3,aa 4,aa 5])])
noncomputable def ni:Sm:=aQ (tV (e1 oE (aa 0))) (bb (aE 0) (aJ dZ [aa 0,aa 1,aa 3,aa 2,eC (.int 0)])) (aP)
def kQ:Sm:=dy (eF (aU [eC (.int 21),eC (.int 23)])) (aE 3) ni
noncomputable def pW:Sm:=aQ (tV (e1 oE (aa 0))) (bb (aE 0) (aJ dZ [aa 0,aa 1,aa 3,aa 2,eC (.int 0)])) (aP)
noncomputable def mG:List D→R D:=fn 4 (aj [dy (jy (eC (.int 200)) (eC (.int 216))) (aE 2) kQ,dy (eF (cL [aU [eC (.int 22),eC (.int 205)],aU [eC (.int 23),eC (.int 215)],aU [eC (.int 21),eC (.int 205)],aU [eC (.int 23),eC (.int 205)]])) (gc [3,2]) pW,aM (aa 0)])
noncomputable def mP:Sm:=aj [bb (aE 1) (aJ oP [aa 1,e2 ao (aa 2) (e2 oMod (aa 3) (eC (.int 2))),e2 oDiv (aa 3) (eC (.int 2))]),aQ (tV (e1 g0 (aa 1))) (aM (eC (.bl false))) (aP)]
noncomputable def nO:List D→R D:=fn 9 (aj [bb (aE 1) (aJ om [aa 0]),bb (aE 2) (e1 de (e2 ao (aa 1) (eC (S "tasks")))),dy (eF (pT (aa 0) (some (eC (.int 13))) (some (eC (.int 53))))) (aE 3) mP,aQ (tV (e2 oEq (e2 oMod (aJ gA [aa 0,eC (.int 1)]) (eC (.int 4))) (eC (.int 1)))) (aj [bb (aE 1) (aJ mG [aa 1,e2 ao (aa 2) (eC (.int 0))]),aQ (tV (e1 g0 (aa 1))) (aM (eC (.bl false))) (aP)]) (aP),bb (aE 4) (eX (bG eM [aa 1])),bb (aE 5) (e2 ao (aa 2) (e2 oMod (e2 oDiv (aJ gA [aa 0,eC (.int 0)]) (eC (.int 7))) (eC (.int 2)))),bb (aE 6) (eX (bG fW [aa 4,aa 5])),aQ (cO (tV (aJ dH [aa 6,e2 ao (e2 ao (e2 ao (aa 1) (eC (S "tasks"))) (aa 5)) (eC (S "pages"))]))) (aM (eC (.bl false))) (aP),il 7 (bG eM [aa 1]),jS 7 (pX 7 (pX 7 (pX 7 (pN) (eC (S "tasks"))) (aa 5)) (eC (S "pages"))),ib 7 gq [],bb (aE 8) (aJ kA [aa 4,aa 5]),aQ (cT 7 (b6 (cO (tV (aJ dH [aa 8,aa 7]))) (cO (tV (aJ dH [aa 4,aa 1]))))) (aM (eC (.bl false))) (aP),aM (eC (.bl true))])
end gu
end PL
set_option maxRecDepth 1000
namespace PL
open PySem
theorem mf(P:Nat→En→Prop):∀ {ds:List D} (n:Nat),(∀i d,ds[i]? =some d→∀ρ,P (n+i) ρ→∃ρ1,tg d ρ=.ok ρ1∧∃ρ2,body ρ1=.ok (.next ρ2)∧P (n+i+1) ρ2)→
   ∀ {ρ:En},P n ρ→∃ρ',forL tg body ds ρ=.ok (.next ρ')∧P (n+ds.length) ρ'
 |[],n,_,ρ,h=>⟨ρ,rfl,h⟩
 | d::ds,n,hs,ρ,h=>by
   obtain⟨ρ1,e1,ρ2,e2,h2⟩:=hs 0 d rfl ρ h
   obtain⟨ρ',e,h'⟩:=mf (ds:=ds) P (n+1) (fun i d hd ρ hp=>by
     have:=hs (i+1) d (by simpa using hd) ρ (by rw[show n+(i+1)=n+1+i by omega];exact hp)
     rw[show n+1+i+1=n+(i+1)+1 by omega];exact this) h2
   refine⟨ρ',by simp[forL,e1,e2,e],?_⟩
   rw[List.length_cons,show n+(ds.length+1)=n+1+ds.length by omega];exact h'
theorem rA{α:Type}{xs:List α}{i:Int}(h0:0≤i)(h:i<xs.length):dA xs i=some (xs[i.toNat]'(by omega)):=by
 unfold dA dP;rw[if_pos h0,if_pos h];have:i.toNat<xs.length:=by omega
 simp[this]
theorem bO(h:c ρ=.ok true):aQ c a b ρ=a ρ:=by simp[h]
theorem au(h:a ρ=.ok (.next ρ')):aj (a::r) ρ=aj r ρ':=by
 show(a ρ).bind _=_;rw[h];rfl
theorem br(h:a ρ=.ok (.ret d)):aj (a::r) ρ=.ok (.ret d):=by
 show(a ρ).bind _=_;rw[h];rfl
theorem bc(h:c ρ=.ok false):aQ c a aP ρ=.ok (.next ρ):=by simp[h]
theorem bT(h:b (ds.map .sh++List.replicate (n - ds.length) .un)=.ok (.ret d)):fn n b ds=.ok d:=by
 unfold fn;rw[h];rfl
set_option maxRecDepth 2000
namespace G
theorem cV(ha:a ρ=.ok x)(h:o x=.ok d):e1 o a ρ=.ok d:=by
 show(a ρ).bind _=_;rw[ha,R.aO,h]
theorem aG(ha:a ρ=.ok x)(hb:b ρ=.ok y)(h:o x y=.ok d):e2 o a b ρ=.ok d:=by
 show(a ρ).bind _=_;rw[ha,R.aO];show(b ρ).bind _=_;rw[hb,R.aO,h]
theorem jc(ha:a ρ=.ok x)(h:f [x]=.ok d):aJ f [a] ρ=.ok d:=by
 simp only[aJ,eList,ha,R.aO];exact h
theorem cM(ha:a ρ=.ok x)(hb:b ρ=.ok y)(h:f [x,y]=.ok d):aJ f [a,b] ρ=.ok d:=by
 simp only[aJ,eList,ha,hb,R.aO];exact h
theorem dD(ha:a ρ=.ok x)(hb:b ρ=.ok y)(hc:c ρ=.ok z)(h:f [x,y,z]=.ok d):aJ f [a,b,c] ρ=.ok d:=by
 simp only[aJ,eList,ha,hb,hc,R.aO];exact h
theorem gP(ha:a ρ=.ok (.int i))(hb:b ρ=.ok (.int u)):e2 d9 a b ρ=.ok (.int (i+u)):=aG ha hb rfl
theorem cu(ha:a ρ=.ok (.int i))(hb:b ρ=.ok (.int u))(h:0<u):e2 oMod a b ρ=.ok (.int (i % u)):=aG ha hb (if_pos h)
theorem gi(h:a ρ=.ok x)(h2:b ρ=.ok y):aU [a,b] ρ=.ok (.tup [x,y]):=by
 simp only[aU,eList,h,h2,R.aO]
theorem aR(ha:a ρ=.ok (.bl b)):tV a ρ=.ok b:=by
 simp only[tV,ha,R.aO,truth]
theorem ip(h:t ρ=.ok b):cO t ρ=.ok (!b):=by
 simp only[cO,h,R.aO]
theorem du(h:t ρ=.ok b)(h':u ρ=.ok c):b6 t u ρ=.ok (b||c):=by
 simp only[b6,h,R.aO];cases b
 ·rw[if_neg (by decide),h'];rfl
 ·rfl
theorem zL(h:t ρ=.ok true):b6 t u ρ=.ok true:=by
 simp only[b6,h,R.aO];rfl
theorem lO(h:t ρ=.ok b)(h':u ρ=.ok c):d8 t u ρ=.ok (b&&c):=by
 simp only[d8,h,R.aO];cases b
 ·rfl
 ·rw[if_pos rfl,h'];rfl
theorem pz{x:Bool}(ha:a ρ=.ok (.bl true))(hb:b ρ=.ok d):en a b ρ=.ok d:=by
 simp only[en,ha,R.aO];exact hb
theorem CS(ha:a ρ=.ok (.bl x))(hb:x=true→b ρ=.ok (.bl y)):en a b ρ=.ok (.bl (x&&y)):=by
 simp only[en,ha,R.aO];cases x
 ·rfl
 ·exact hb rfl
theorem cj(h:a ρ=.ok d):aM a ρ=.ok (.ret d):=by
 simp only[aM,h,R.aO]
theorem bI(h:a ρ=.ok d):bb (aE i) a ρ=.ok (.next (ρ.set i (.sh d))):=by
 simp only[bb,h,R.aO,aE]
theorem vA(h:a ρ=.ok d)(hi:ρ[i]? =some (.ol xs))(hl:xs.length<16777216):jm i a ρ=.ok (.next (ρ.set i (.ol (xs++[d])))):=by
 simp only[jm,h,R.aO,hi];exact if_pos hl
theorem uk(h:a ρ=.ok (.lst xs)):je i a ρ=.ok (.next (ρ.set i (.ol xs))):=by
 simp only[je,h,R.aO]
theorem Dj{n:Nat}{j:Int}(h0:0≤j)(h1:j<n):dP n j=some j.toNat:=by
 unfold dP;rw[if_pos h0,if_pos h1]
theorem iQ(h:dA xs i=some d):ao (.lst xs) (.int i)=.ok d:=by simp[h]
theorem eq_int(i j:Int):oEq (.int i) (.int j)=.ok (.bl (decide (i=j))):=by
 unfold oEq;rw[EN,if_pos rfl];show R.ok (D.bl (i==j))=_;rfl
theorem lt_int(i j:Int):oLt (.int i) (.int j)=.ok (.bl (decide (i<j))):=rfl
theorem xr(h:0≤v):aZ n d (some v)=min v.toNat n:=if_neg (by omega)
mutual
theorem sW:∀d:D,lay d=true→b3 d d=true
 |.aH,_=>rfl
 |.bl b,_=>by simp
 |.int i,_=>by simp
 |.str x,_=>by simp
 |.tup xs,h=>by unfold b3;exact tJ xs (by unfold lay at h;exact h)
 |.lst xs,h=>by unfold b3;exact tJ xs (by unfold lay at h;exact h)
 |.aw _ _,h=>by unfold lay at h;cases h
 |.cD _ _ _,h=>by unfold lay at h;cases h
theorem tJ:∀ds:List D,eK ds=true→jO ds ds=true
 |[],_=>rfl
 | d::ds,h=>by
   unfold eK at h;rw[Bool.and_eq_true]at h;unfold jO;rw[sW d h.1,tJ ds h.2];rfl
end
theorem wd(h:lay d=true)(h2:dep d≤60):fi d d=true:=by
 unfold fi;rw[h,decide_eq_true (show min (dep d) (dep d)≤60 by omega)];simp
theorem ne_self(h:lay d=true)(h2:dep d≤60):cF d d=.ok (.bl false):=by
 unfold cF;rw[if_pos (wd h h2),sW d h];rfl
theorem eq_self(h:lay d=true)(h2:dep d≤60):oEq d d=.ok (.bl true):=by
 unfold oEq eG;rw[wd h h2,sW d h];rfl
theorem Dr(h:∀d∈ds,lay d=true):eK ds=true:=by
 induction ds with
 |nil=>rfl
 | cons d ds ih=>
   unfold eK;rw[h d List.mem_cons_self,ih fun x hx=>h x (List.mem_cons_of_mem _ hx)];rfl
theorem mD{α:Type}(u:α→D)(v:α→D):∀ {xs:List α},(∀x∈xs,∃ρ1,tg (u x) ρ=.ok ρ1∧el ρ1=.ok (v x))→eQ tg [] el ρ (xs.map u)=.ok (xs.map v)
 |[],_=>rfl
 | x::xs,h=>by
   obtain⟨ρ1,e1,e2⟩:=h x List.mem_cons_self;rw[List.map_cons,eQ,e1,R.aO];show(R.ok true).bind _=_;rw[R.aO,if_pos rfl,e2,R.aO,mD u v (fun y hy=>h y (List.mem_cons_of_mem _ hy))];rfl
theorem so{α:Type}(u:α→D)(p:α→Bool)(v:α→D):∀ {xs:List α},(∀x∈xs,∃ρ1,tg (u x) ρ=.ok ρ1∧eQ.i3 cs ρ1=.ok (p x)∧(p x=true→el ρ1=.ok (v x)))→eQ tg cs el ρ (xs.map u)=.ok ((xs.filter p).map v)
 |[],_=>rfl
 | x::xs,h=>by
   obtain⟨ρ1,e1,e2,e3⟩:=h x List.mem_cons_self;have ih:=so (cs:=cs) (el:=el) (ρ:=ρ) u p v (xs:=xs) (fun y hy=>h y (List.mem_cons_of_mem _ hy));rw[List.map_cons,eQ,e1,R.aO,e2,R.aO];cases hp:p x with
   |true=>rw[if_pos rfl,e3 hp,R.aO,ih,List.filter_cons_of_pos hp];rfl
   |false=>rw[if_neg (by decide),ih,List.filter_cons_of_neg (by rw[hp];decide)]
theorem jN(hi:it ρ=.ok ds)(hl:ds.length≤16777216)(hc:eQ tg cs el (List.replicate n .un++frees ρ fv) ds=.ok ys):dg it n fv tg cs el ρ=.ok (.lst ys):=by
 show(it ρ).bind _=_;rw[hi,R.aO,if_pos hl,hc];rfl
theorem fL(hi:it ρ=.ok ds)(h:forL tg body ds ρ=r):dy it tg body ρ=r:=by
 show(it ρ).bind _=_;rw[hi,R.aO,h]
theorem BW(ha:a ρ=.ok x)(hb:b ρ=.ok y)(hg:g x y=.ok (.bl p))(hc:c ρ=.ok z)(hh:h y z=.ok (.bl q)):m5 g h a b c ρ=.ok (.bl (p&&q)):=by
 simp only[m5,ha,hb,hg,R.aO];cases p
 ·rfl
 ·simp only[hc,R.aO,hh,Bool.true_and]
theorem le_int(i j:Int):oLe (.int i) (.int j)=.ok (.bl (decide (i≤j))):=rfl
end G
end PL
set_option maxRecDepth 4000
set_option maxHeartbeats 400000
namespace PL
namespace C
open PySem G
noncomputable def oK(rec:List D→R T):List D→R T:=i4 1 (aj [aQ (tV (e1 (bS .dict) (aa 0))) (fS (oN (iU (gC (aa 0)) 1 [0] (aE 0) [] (xT [xD (aa 0),bG rec [e2 ao (aa 1) (aa 0)]])))) (aP),aQ (tV (e1 (bS .list) (aa 0))) (fS (iU (eF (aa 0)) 1 [] (aE 0) [] (bG rec [aa 0]))) (aP),aQ (tV (e1 (bS .tuple) (aa 0))) (fS (xD (e1 nI (dg (eF (aa 0)) 1 [] (aE 0) [] (eX (bG rec [aa 0])))))) (aP),fS (xD (aa 0))])
noncomputable def oJ(rec:List D→R D):List D→R D:=fn 2 (aj [aQ (tV (e1 (bS .dict) (aa 1))) (aj [aQ (b6 (cO (tV (e1 (bS .dict) (aa 0)))) (tV (e2 cF (e1 cQ (aa 0)) (e1 cQ (aa 1))))) (aM (eC (.bl false))) (aP),aM (e1 jr (dg (gC (aa 1)) 1 [0,1] (aE 0) [] (en (e2 cA (aa 0) (aa 1)) (aJ rec [e2 ao (aa 1) (aa 0),e2 ao (aa 2) (aa 0)]))))]) (aP),aQ (tV (e1 iG (aa 1))) (aj [aQ (b6 (tV (e2 cF (e1 (bS .list) (aa 0)) (e1 (bS .list) (aa 1)))) (tV (e2 cF (e1 (bS .tuple) (aa 0)) (e1 (bS .tuple) (aa 1))))) (aM (eC (.bl false))) (aP),aM (en (e2 oEq (e1 cQ (aa 0)) (e1 cQ (aa 1))) (e1 jr (dg (m4 (aa 0) (aa 1)) 2 [] (gc [0,1]) [] (aJ rec [aa 0,aa 1]))))]) (aP),aM (en (e2 oEq (aa 0) (aa 1)) (e2 oEq (e1 (bS .bool) (aa 0)) (e1 (bS .bool) (aa 1))))])
mutual
noncomputable def nice:D→Bool
 |.str x=>x.cps.all (· <0x110000)
 |.tup xs=>decide (xs.length≤1000)&&fZ xs
 |.lst xs=>decide (xs.length≤1000)&&fZ xs
 |.aw ks vs=>decide ks.Nodup&&decide (ks.length=vs.length)&&decide (ks.length≤1000)&&fZ vs
 |.cD _ _ _=>false
 |_=>true
noncomputable def fZ:List D→Bool
 |[]=>true
 |d::ds=>nice d&&fZ ds
end
mutual
noncomputable def ba:D→Nat
 |.tup xs=>cN xs+1
 |.lst xs=>cN xs+1
 |.aw _ vs=>cN vs+1
 |_=>0
noncomputable def cN:List D→Nat
 |[]=>0
 |d::ds=>max (ba d) (cN ds)
end
mutual
noncomputable def deep:D→T
 |.lst xs=>.l (gw xs)
 |.aw ks vs=>.m ks (gw vs)
 |x=>.d x
noncomputable def gw:List D→List T
 |[]=>[]
 |d::ds=>deep d::gw ds
end
theorem mQ:∀ds:List D,gw ds=ds.map deep
 |[]=>rfl
 |d::ds=>by show deep d::gw ds=_;rw[mQ ds];rfl
mutual
theorem gM:∀d:D,T.toD (deep d)=d
 |.lst xs=>by show D.lst (T.fT (gw xs))=_;rw[sX xs]
 |.aw ks vs=>by show D.aw ks (T.fT (gw vs))=_;rw[sX vs]
 |.aH=>rfl
 |.bl _=>rfl
 |.int _=>rfl
 |.str _=>rfl
 |.tup _=>rfl
 |.cD _ _ _=>rfl
theorem sX:∀ds:List D,T.fT (gw ds)=ds
 |[]=>rfl
 |d::ds=>by show T.toD (deep d)::T.fT (gw ds)=_;rw[gM d,sX ds]
end
theorem jZ:∀ {ds:List D},fZ ds=true→∀d∈ds,nice d=true
 |[],_,_,h=>nomatch h
 | d::ds,h,x,hx=>by
   unfold fZ at h;rw[Bool.and_eq_true]at h;rcases List.mem_cons.mp hx with rfl|hx
   ·exact h.1
   ·exact jZ h.2 x hx
theorem jK:∀ {ds:List D} {d:D},d∈ds→ba d≤cN ds
 |[],_,h=>nomatch h
 | x::ds,d,h=>by
   show ba d≤max (ba x) (cN ds);rcases List.mem_cons.mp h with rfl|h
   ·omega
   ·have:=jK h;omega
theorem u3{α:Type}(u:α→D)(v:α→T):∀ {xs:List α},(∀x∈xs,∃ρ1,tg (u x) ρ=.ok ρ1∧el ρ1=.ok (v x))→gN tg [] el ρ (xs.map u)=.ok (xs.map v)
 |[],_=>rfl
 | x::xs,h=>by
   obtain⟨ρ1,e1,e2⟩:=h x List.mem_cons_self;rw[List.map_cons,gN,e1,R.aO];show(R.ok true).bind _=_;rw[R.aO,if_pos rfl,e2,R.aO,u3 u v (fun y hy=>h y (List.mem_cons_of_mem _ hy))];rfl
theorem vm(hi:it ρ=.ok ds)(hl:ds.length≤16777216)(hc:gN tg cs el (List.replicate n .un++frees ρ fv) ds=.ok ts):iU it n fv tg cs el ρ=.ok (.l ts):=by
 unfold iU qv;rw[hi,R.aO,if_pos hl,hc];rfl
theorem rV:∀ {ks:List Ky} {vs:List D},ks.Nodup→(z,v)∈ks.zip vs→bK z ks vs=some v
 |[],_,_,h=>by simp at h
 |_::_,[],_,h=>by simp at h
 | a::ks,x::vs,hn,h=>by
   rw[List.zip_cons_cons]at h;unfold bK;have hn:=List.nodup_cons.mp hn;rcases List.mem_cons.mp h with h|h
   ·cases h;rw[if_pos rfl]
   · have hz:a≠z:=fun e=>by subst e;exact hn.1 (List.of_mem_zip h).1
     rw[if_neg hz];exact rV hn.2 h
theorem uY(z:Ky):keyOf (b8 z)=some z:=by cases z<;>rfl
theorem m9(h:bK z ks vs=some v):ao (.aw ks vs) (b8 z)=.ok v:=by
 show(match keyOf (b8 z)with|some q=>(match bK q ks vs with|some v=>R.ok v|none=>.bad)|none=>.bad)=_
 rw[uY];show(match bK z ks vs with|some v=>R.ok v|none=>.bad)=_
 rw[h]
theorem xh(h:bK z ks vs=some v):cA (b8 z) (.aw ks vs)=.ok (.bl true):=by
 have:cA (b8 z) (.aw ks vs)=(match keyOf (b8 z)with|some k=>R.ok (D.bl (bK k ks vs).isSome)|none=>.bad):=by cases z<;>rfl
 rw[this,uY];show R.ok (D.bl (bK z ks vs).isSome)=_;rw[h];rfl
theorem zM:∀(ps:List (Ky×D)),jn (ps.map fun p=>.tu [.d (b8 p.1),deep p.2])=some (ps.map (·.1),ps.map fun p=>deep p.2)
 |[]=>rfl
 | p::ps=>by
   show(match keyOf (b8 p.1),jn (ps.map fun p=>.tu [.d (b8 p.1),deep p.2])with|some z,some y=>some (z::y.1,deep p.2::y.2)|_,_=>none)=_
   rw[uY,zM ps];rfl
theorem qG(h:f ρ=.ok t):fS f ρ=.ok (.cP t):=by unfold fS;rw[h];rfl
theorem uZ(h:a ρ=.ok (.cP t)):aj (a::r) ρ=.ok (.cP t):=by
 show(a ρ).bind _=_;rw[h];rfl
theorem vV(h:b (ds.map .sh++List.replicate (n - ds.length) .un)=.ok (.cP t)):i4 n b ds=.ok t:=by
 unfold i4;rw[h];rfl
theorem km(ha:a ρ=.ok x)(h:m [x]=.ok t):bG m [a] ρ=.ok t:=by
 unfold bG;simp only[eList,ha,R.aO];exact h
theorem nH(h:f ρ=.ok t):eX f ρ=.ok (T.toD t):=by unfold eX;rw[h];rfl
theorem qa:∀(n:Nat) (d:D),nice d=true→ba d<n→kO oK n [d]=.ok (deep d)
 |0,_,_,h=>absurd h (Nat.not_lt_zero _)
 | n+1,d,hd,hn=>by
   show oK (kO oK n) [d]=_;have ih:=fun x hx=>qa n x hx;generalize R6:kO oK n=rec at ih;unfold oK;refine vV ?_;cases d with
   |aH=>rfl
   |bl b=>rfl
   |int i=>rfl
   |str x=>rfl
   |cD _ _ _=>cases hd
   | tup xs=>
     unfold nice at hd;rw[Bool.and_eq_true,decide_eq_true_eq]at hd;have hm:=jZ hd.2;have N4:∀x∈xs,ba x<n:=fun x hx=>by have:=jK hx;have:cN xs+1<n+1:=hn;omega
     show aj _ [.sh (.tup xs)]=_;rw[au (bc rfl),au (bc rfl)];refine uZ ?_;rw[bO rfl];refine qG (t:=.d (.tup xs)) ?_;unfold xD;rw[cV (x:=.lst xs) (d:=.tup xs) (jN (ds:=xs) rfl (by omega) ?_) rfl]
     ·rfl
     · have:=mD (tg:=aE 0) (el:=eX (bG rec [aa 0])) (ρ:=List.replicate 1 .un++frees [.sh (.tup xs)] []) (u:=fun x:D=>x) (v:=fun x=>x) (xs:=xs) fun x hx=>⟨[.sh x],rfl,by rw[nH (km rfl (ih x (hm x hx) (N4 x hx))),gM]⟩
       simpa using this
   | lst xs=>
     unfold nice at hd;rw[Bool.and_eq_true,decide_eq_true_eq]at hd;have hm:=jZ hd.2;have N4:∀x∈xs,ba x<n:=fun x hx=>by have:=jK hx;have:cN xs+1<n+1:=hn;omega
     show aj _ [.sh (.lst xs)]=_;rw[au (bc rfl)];refine uZ ?_;rw[bO rfl];refine qG (vm (ds:=xs) rfl (by omega) ?_)
     have:=u3 (tg:=aE 0) (el:=bG rec [aa 0]) (ρ:=List.replicate 1 .un++frees [.sh (.lst xs)] []) (u:=fun x:D=>x) (v:=deep) (xs:=xs) fun x hx=>⟨[.sh x],rfl,km rfl (ih x (hm x hx) (N4 x hx))⟩;rw[mQ];simpa using this
   | aw ks vs=>
     unfold nice at hd;rw[Bool.and_eq_true,Bool.and_eq_true,Bool.and_eq_true,decide_eq_true_eq,decide_eq_true_eq,decide_eq_true_eq]at hd;obtain⟨⟨⟨cK,hl⟩,LQ⟩,Ov⟩:=hd;have hm:=jZ Ov;have N4:∀x∈vs,ba x<n:=fun x hx=>by have:=jK hx;have:cN vs+1<n+1:=hn;omega
     show aj _ [.sh (.aw ks vs)]=_;refine uZ ?_;rw[bO rfl];refine qG ?_
     have P4:iU (gC (aa 0)) 1 [0] (aE 0) [] (xT [xD (aa 0),bG rec [e2 ao (aa 1) (aa 0)]]) [.sh (.aw ks vs)]=.ok (.l ((ks.zip vs).map fun p=>.tu [.d (b8 p.1),deep p.2])):=by
       refine vm (ds:=(ks.zip vs).map fun p=>b8 p.1) ?_ (by rw[List.length_map,List.length_zip];omega) ?_
       · show R.ok (ks.map b8)=_
         rw[show((ks.zip vs).map fun p=>b8 p.1)=((ks.zip vs).map (·.1)).map b8 by rw[List.map_map];rfl,List.map_fst_zip (by omega)]
       · refine u3 (u:=fun p:Ky×D=>b8 p.1) (v:=fun p=>.tu [.d (b8 p.1),deep p.2]) fun p hp=>⟨[.sh (b8 p.1),.sh (.aw ks vs)],rfl,?_⟩
         have hv:p.2∈vs:=(List.of_mem_zip (show(p.1,p.2)∈ks.zip vs from hp)).2
         have hc:bG rec [e2 ao (aa 1) (aa 0)] [.sh (b8 p.1),.sh (.aw ks vs)]=.ok (deep p.2):=km (aG rfl rfl (m9 (rV cK hp))) (ih p.2 (hm _ hv) (N4 _ hv));unfold xT;simp only[dS,hc,R.aO];rfl
     unfold oN;rw[P4,R.aO];show(match jn ((ks.zip vs).map fun p=>.tu [.d (b8 p.1),deep p.2])with|some y=>if y.1.Nodup∧y.1.length≤1000 then R.ok (T.m y.1 y.2)else .bad|none=>.bad)=_
     rw[zM];show(if((ks.zip vs).map (·.1)).Nodup∧((ks.zip vs).map (·.1)).length≤1000 then R.ok (T.m ((ks.zip vs).map (·.1)) ((ks.zip vs).map fun p=>deep p.2))else .bad)=_
     rw[List.map_fst_zip (by omega),if_pos ⟨cK,LQ⟩,show((ks.zip vs).map fun p=>deep p.2)=((ks.zip vs).map (·.2)).map deep by rw[List.map_map];rfl,List.map_snd_zip (by omega)]
     show _=R.ok (T.m ks (gw vs));rw[mQ]
theorem all_true:∀ {α:Type} (xs:List α),allB (xs.map fun _=>D.bl true)=.ok (.bl true)
 |_,[]=>rfl
 | _,x::xs=>by
   show allB (D.bl true::xs.map fun _=>D.bl true)=_;unfold allB;rw[all_true xs];rfl
theorem sQ:∀xs:List D,g9 xs xs=xs.map fun x=>.tup [x,x]
 |[]=>rfl
 |x::xs=>by show D.tup [x,x]::g9 xs xs=_;rw[sQ xs];rfl
theorem wz(i:Int):oEq (.int i) (.int i)=.ok (.bl true):=by rw[eq_int,decide_eq_true rfl]
theorem C2(i:Int):cF (.int i) (.int i)=.ok (.bl false):=ne_self rfl (Nat.zero_le _)
theorem lh:∀(n:Nat) (d:D),nice d=true→ba d<n→mw oJ n [d,d]=.ok (.bl true)
 |0,_,_,h=>absurd h (Nat.not_lt_zero _)
 | n+1,d,hd,hn=>by
   show oJ (mw oJ n) [d,d]=_;have ih:=fun x hx=>lh n x hx;generalize R6:mw oJ n=rec at ih;unfold oJ;refine bT ?_
   have leaf:∀d:D,lay d=true→dep d=0→bS .dict d=.ok (.bl false)→iG d=.ok (.bl false)→(∃b,bS .bool d=.ok (.bl b))→aj [aQ (tV (e1 (bS .dict) (aa 1))) (aj [aQ (b6 (cO (tV (e1 (bS .dict) (aa 0)))) (tV (e2 cF (e1 cQ (aa 0)) (e1 cQ (aa 1))))) (aM (eC (.bl false))) (aP),aM (e1 jr (dg (gC (aa 1)) 1 [0,1] (aE 0) [] (en (e2 cA (aa 0) (aa 1)) (aJ rec [e2 ao (aa 1) (aa 0),e2 ao (aa 2) (aa 0)]))))]) (aP),aQ (tV (e1 iG (aa 1))) (aj [aQ (b6 (tV (e2 cF (e1 (bS .list) (aa 0)) (e1 (bS .list) (aa 1)))) (tV (e2 cF (e1 (bS .tuple) (aa 0)) (e1 (bS .tuple) (aa 1))))) (aM (eC (.bl false))) (aP),aM (en (e2 oEq (e1 cQ (aa 0)) (e1 cQ (aa 1))) (e1 jr (dg (m4 (aa 0) (aa 1)) 2 [] (gc [0,1]) [] (aJ rec [aa 0,aa 1]))))]) (aP),aM (en (e2 oEq (aa 0) (aa 1)) (e2 oEq (e1 (bS .bool) (aa 0)) (e1 (bS .bool) (aa 1))))] [.sh d,.sh d]=.ok (.ret (.bl true)):=fun d h1 h2 h3 h4 h5=>by
     obtain⟨b,hb⟩:=h5;rw[au (bc (aR (cV rfl h3))),au (bc (aR (cV rfl h4)))];exact br (cj (pz (x:=true) (aG (o:=oEq) rfl rfl (eq_self h1 (by omega))) (aG (o:=oEq) (cV rfl hb) (cV rfl hb) (eq_self rfl (Nat.zero_le _)))))
   cases d with
   |aH=>exact leaf _ rfl rfl rfl rfl ⟨_,rfl⟩
   |bl b=>exact leaf _ rfl rfl rfl rfl ⟨_,rfl⟩
   |int i=>exact leaf _ rfl rfl rfl rfl ⟨_,rfl⟩
   |str x=>exact leaf _ (by unfold nice at hd;unfold lay;exact hd) rfl rfl rfl ⟨_,rfl⟩
   |cD _ _ _=>cases hd
   | tup xs=>
     unfold nice at hd;rw[Bool.and_eq_true,decide_eq_true_eq]at hd;have hm:=jZ hd.2;have N4:∀x∈xs,ba x<n:=fun x hx=>by have:=jK hx;have:cN xs+1<n+1:=hn;omega
     show aj _ [.sh (.tup xs),.sh (.tup xs)]=_;rw[au (bc rfl)];refine br ?_;rw[bO rfl,au (bc rfl)];refine br (cj (pz (x:=true) (aG (x:=.int xs.length) (y:=.int xs.length) rfl rfl (wz _)) ?_));refine cV (x:=.lst (xs.map fun _=>.bl true)) (jN (ds:=xs.map fun x=>.tup [x,x]) (by show R.ok (g9 xs xs)=_;rw[sQ]) (by rw[List.length_map];omega) ?_) (all_true xs)
     exact mD (u:=fun x:D=>.tup [x,x]) (v:=fun _=>.bl true) fun x hx=>⟨[.sh x,.sh x],rfl,cM rfl rfl (ih x (hm x hx) (N4 x hx))⟩
   | lst xs=>
     unfold nice at hd;rw[Bool.and_eq_true,decide_eq_true_eq]at hd;have hm:=jZ hd.2;have N4:∀x∈xs,ba x<n:=fun x hx=>by have:=jK hx;have:cN xs+1<n+1:=hn;omega
     show aj _ [.sh (.lst xs),.sh (.lst xs)]=_;rw[au (bc rfl)];refine br ?_;rw[bO rfl,au (bc rfl)];refine br (cj (pz (x:=true) (aG (x:=.int xs.length) (y:=.int xs.length) rfl rfl (wz _)) ?_));refine cV (x:=.lst (xs.map fun _=>.bl true)) (jN (ds:=xs.map fun x=>.tup [x,x]) (by show R.ok (g9 xs xs)=_;rw[sQ]) (by rw[List.length_map];omega) ?_) (all_true xs)
     exact mD (u:=fun x:D=>.tup [x,x]) (v:=fun _=>.bl true) fun x hx=>⟨[.sh x,.sh x],rfl,cM rfl rfl (ih x (hm x hx) (N4 x hx))⟩
   | aw ks vs=>
     unfold nice at hd;rw[Bool.and_eq_true,Bool.and_eq_true,Bool.and_eq_true,decide_eq_true_eq,decide_eq_true_eq,decide_eq_true_eq]at hd;obtain⟨⟨⟨cK,hl⟩,LQ⟩,Ov⟩:=hd;have hm:=jZ Ov;have N4:∀x∈vs,ba x<n:=fun x hx=>by have:=jK hx;have:cN vs+1<n+1:=hn;omega
     show aj _ [.sh (.aw ks vs),.sh (.aw ks vs)]=_;refine br ?_;rw[bO rfl,au (bc (du (b:=false) (c:=false) rfl (aR (aG (x:=.int ks.length) (y:=.int ks.length) rfl rfl (C2 _)))))];refine br (cj (cV (x:=.lst ((ks.zip vs).map fun _=>.bl true)) (jN (ds:=(ks.zip vs).map fun p=>b8 p.1) ?_ (by rw[List.length_map,List.length_zip];omega) ?_) (all_true _)))
     · show R.ok (ks.map b8)=_
       rw[show((ks.zip vs).map fun p=>b8 p.1)=((ks.zip vs).map (·.1)).map b8 by rw[List.map_map];rfl,List.map_fst_zip (by omega)]
     · refine mD (u:=fun p:Ky×D=>b8 p.1) (v:=fun _=>.bl true) fun p hp=>⟨[.sh (b8 p.1),.sh (.aw ks vs),.sh (.aw ks vs)],rfl,?_⟩
       have hf:=rV cK (show(p.1,p.2)∈ks.zip vs from hp)
       have hv:p.2∈vs:=(List.of_mem_zip (show(p.1,p.2)∈ks.zip vs from hp)).2
       exact pz (x:=true) (aG rfl rfl (xh hf)) (cM (aG rfl rfl (m9 hf)) (aG rfl rfl (m9 hf)) (ih p.2 (hm _ hv) (N4 _ hv)))
end C
end PL
set_option maxRecDepth 100000
namespace PL
namespace gu
open PySem G C
theorem i5(ha:a ρ=.ok (.int i))(hb:b ρ=.ok (.int u)):e2 d6 a b ρ=.ok (.bl (decide (u<i))):=aG ha hb rfl
theorem pO(ha:a ρ=.ok (.int i))(hb:b ρ=.ok (.int u)):e2 oLt a b ρ=.ok (.bl (decide (i<u))):=aG ha hb rfl
theorem jx(ha:a ρ=.ok (.int i))(hb:b ρ=.ok (.int u)):e2 oEq a b ρ=.ok (.bl (decide (i=u))):=aG ha hb (eq_int i u)
theorem sF(ha:a ρ=.ok (.int i))(hb:b ρ=.ok (.int u))(h:small i=true∨small u=true):e2 lT a b ρ=.ok (.int (i*u)):=aG ha hb (if_pos (by rcases h with h|h<;>simp[h]))
theorem di(ha:a ρ=.ok (.int i))(hb:b ρ=.ok (.int u))(h:tU u=true):e2 oDiv a b ρ=.ok (.int (i / u)):=aG ha hb (if_pos h)
theorem H0(he:e ρ=.ok d)(hk:k ρ=.ok q)(hz:keyOf q=some z)(hi:ρ[i]? =some (.od ks vs))(hl:ks.length<1000)(hp:putL z d ks vs=(ks',MM)):oM i k e ρ=.ok (.next (ρ.set i (.od ks' MM))):=by
 unfold oM;simp only[he,hk,R.aO,hi,hz];rw[if_pos hl,hp]
theorem uj(h:a ρ=.ok (.aw ks vs)):kI i a ρ=.ok (.next (ρ.set i (.od ks vs))):=by
 simp only[kI,h,R.aO]
theorem vI(h:a ρ=.ok (.aw ks vs))(hi:ρ[i]? =some (.od as bs))(hl:ks.length+as.length<1000):mR i a ρ=.ok (.next (ρ.set i (.od (gG ks vs as bs).1 (gG ks vs as bs).2))):=by
 unfold mR;simp only[h,R.aO,hi];exact if_pos hl
theorem uB(h:f ρ=.ok t)(hn:oB ρ=true)(hi:i≠0):il i f ρ=.ok (.next (ρ.set i (.on (.tr t)))):=by
 unfold il;rw[h,R.aO,if_pos ⟨hn,hi⟩]
theorem vd(h:ρ[i]? =some (.on (.tr t))):cC i ρ=.ok (.next (ρ.set i (.sh (T.toD t)))):=by
 unfold cC;rw[h]
noncomputable def look{α:Type}(p:Int):List Int→List α→Option α
 |k::ks,e::es=>if k=p then some e else look p ks es
 |_,_=>none
def IK(ks:List Int):List Ky:=ks.map .inl
noncomputable def fu{α:Type}(p:Int)(e:α)(ks:List Int)(es:List α):List α:=List.zipWith (fun a x=>if a=p then e else x) ks es
theorem kS{α:Type}(f:α→D)(p:Int):∀(ks:List Int) (es:List α),bK (.inl p) (IK ks) (es.map f)=(look p ks es).map f
 |[],es=>by simp[IK,bK,look]
 |k::ks,[]=>by simp[IK,bK,look]
 | k::ks,e::es=>by
   have ih:=kS f p ks es;unfold IK at ih ⊢;rw[List.map_cons,List.map_cons,bK,look];by_cases h:k=p
   ·rw[if_pos (by rw[h]),if_pos h];rfl
   ·rw[if_neg (fun z=>h (Sum.inl.inj z)),if_neg h];exact ih
theorem pL{α:Type}{p:Int}{e:α}:∀ {ks:List Int} {es:List α},look p ks es=some e→e∈es∧p∈ks
 |[],es,h=>by simp[look]at h
 |k::ks,[],h=>by simp[look]at h
 | k::ks,x::es,h=>by
   unfold look at h;by_cases hk:k=p
   ·rw[if_pos hk]at h;cases h;exact⟨List.mem_cons_self,by rw[hk];exact List.mem_cons_self⟩
   · rw[if_neg hk]at h
     obtain⟨h1,h2⟩:=pL h;exact⟨List.mem_cons_of_mem _ h1,List.mem_cons_of_mem _ h2⟩
theorem jv{α:Type}:∀ {ks:List Int} {es:List α},ks.length=es.length→p∈ks→∃e,look p ks es=some e
 |[],es,_,h=>by simp at h
 |k::ks,[],hl,_=>by simp at hl
 | k::ks,x::es,hl,h=>by
   unfold look;by_cases hk:k=p
   ·exact⟨x,if_pos hk⟩
   · rw[if_neg hk]
     exact jv (by simpa using hl) ((List.mem_cons.mp h).resolve_left fun z=>hk z.symm)
theorem Lb{α:Type}{p n:Int}{e:α}:∀ {ks:List Int} {es:List α},ks.length=es.length→p∈ks→(∃w,look p ks (fu n e ks es)=some w)
 |ks,es,hl,h=>jv (by unfold fu;rw[List.length_zipWith];omega) h
theorem DG{α:Type}{p:Int}{e:α}{ks:List Int}{es:List α}(hl:ks.length=es.length):ks.length=(fu p e ks es).length:=by unfold fu;rw[List.length_zipWith];omega
theorem zx{α:Type}{q:Int}{e:α}:∀ {ks:List Int} {es:List α},∀x∈fu q e ks es,x∈es∨x=e
 |[],es,x,h=>by simp[fu]at h
 |k::ks,[],x,h=>by simp[fu]at h
 | k::ks,y::es,x,h=>by
   unfold fu at h;rw[List.zipWith_cons_cons]at h;rcases List.mem_cons.mp h with h|h
   · by_cases hk:k=q
     ·rw[if_pos hk]at h;exact .inr h
     ·rw[if_neg hk]at h;exact .inl (by rw[h];exact List.mem_cons_self)
   ·exact(zx x h).imp (List.mem_cons_of_mem _) id
theorem pE(q:Int)(ks:List Int):((IK ks).any fun a=>decide (a=.inl q))=decide (q∈ks):=by
 unfold IK
 induction ks with
 |nil=>simp
 | cons k ks ih=>
   rw[List.map_cons,List.any_cons,ih];by_cases h:k=q
   ·subst h;simp
   · have h':¬q=k:=fun z=>h z.symm
     have h2:¬((Sum.inl k:Ky)=.inl q):=fun z=>h (Sum.inl.inj z);simp[h2,h']
theorem zipWith_map{α β:Type}(f:α→β)(q:Int)(e:α):∀(ks:List Int) (es:List α),List.zipWith (fun(a:Ky) v=>if a=.inl q then f e else v) (IK ks) (es.map f)=(fu q e ks es).map f
 |[],es=>by simp[IK,fu]
 |k::ks,[]=>by simp[IK,fu]
 | k::ks,x::es=>by
   have ih:=zipWith_map f q e ks es;unfold IK fu at*;simp only[List.map_cons,List.zipWith_cons_cons];rw[ih];by_cases h:k=q
   ·rw[if_pos h,if_pos (by rw[h])]
   ·rw[if_neg h,if_neg (fun z=>h (Sum.inl.inj z))]
theorem G4{α:Type}(f:α→D){q:Int}{e:α}{ks:List Int}{es:List α}(h:q∈ks):putL (.inl q) (f e) (IK ks) (es.map f)=(IK ks,(fu q e ks es).map f):=by
 unfold putL;rw[pE,if_pos (decide_eq_true h),zipWith_map]
theorem J6{α:Type}(f:α→D){q:Int}{e:α}{ks:List Int}{es:List α}(h:q∈ks):iO (.inl q) (.d (f e)) (IK ks) (es.map fun x=>.d (f x))=(IK ks,(fu q e ks es).map fun x=>.d (f x)):=by
 unfold iO;rw[pE,if_pos (decide_eq_true h),zipWith_map (fun x=>T.d (f x))]
theorem GG{α:Type}(f:α→D){q:Int}{e:α}{ks:List Int}{es:List α}(h:q∉ks):iO (.inl q) (.d (f e)) (IK ks) (es.map fun x=>.d (f x))=(IK (ks++[q]),(es++[e]).map fun x=>.d (f x)):=by
 unfold iO;rw[pE,if_neg (by rw[decide_eq_false h];decide)]
 unfold IK;rw[List.map_append,List.map_append];rfl
noncomputable def ins{α:Type}(q:Int)(e:α)(ks:List Int)(es:List α):List Int×List α:=if q∈ks then(ks,fu q e ks es)else(ks++[q],es++[e])
theorem jU{α:Type}(f:α→D){q:Int}{e:α}{ks:List Int}{es:List α}:iO (.inl q) (.d (f e)) (IK ks) (es.map fun x=>.d (f x))=(IK (ins q e ks es).1,(ins q e ks es).2.map fun x=>.d (f x)):=by
 unfold ins;by_cases h:q∈ks
 ·rw[if_pos h,J6 f h]
 ·rw[if_neg h,GG f h]
inductive Ent where
 |own (ws:List Int)|ln (n:Int)
def W(ws:List Int):D:=.tup (ws.map .int)
def Ent.d:Ent→D
 |.own ws=>.tup [S "own",W ws]
 |.ln n=>.tup [S "lent",.int n]
def ab(ks:List Int)(es:List Ent):D:=.aw (IK ks) (es.map Ent.d)
def ah(ls:List Int)(ws:List (List Int)):D:=.aw (IK ls) (ws.map W)
noncomputable def KS:List Ky:=[.inr (Str.ofString "parent"),.inr (Str.ofString "rank"),.inr (Str.ofString "regs"),.inr (Str.ofString "row"),.inr (Str.ofString "pages"),.inr (Str.ofString "handles"),.inr (Str.ofString "waits"),.inr (Str.ofString "handler"),.inr (Str.ofString "rung"),.inr (Str.ofString "saved")]
structure Q where
 (p k g r h w hd ru sv:D)
def tk(q:Q)(pg:D):D:=.aw KS [q.p,q.k,q.g,q.r,pg,q.h,q.w,q.hd,q.ru,q.sv]
noncomputable def SK:List Ky:=[.inr (Str.ofString "tasks"),.inr (Str.ofString "lent"),.inr (Str.ofString "nodes"),.inr (Str.ofString "boxes"),.inr (Str.ofString "clock")]
noncomputable def bD:D:=.aw [.inl 0,.inl 1] [.tup [S "folder",.aw [.inl 7] [.int 1]],.tup [S "file",.lst [.int 5,.int 6]]]
def bE:D:=.aw [.inl 2] [.tup [.int 3,.lst [.int 9]]]
noncomputable def dE(j:Bool)(a b:Int)(A B:D):D:=match j with
 |false=>.aw [.inl a,.inl b] [A,B]
 |true=>.aw [.inl a,.inl b] [B,A]
def tid(j:Bool)(a b:Int):Int:=match j with
 |false=>a
 |true=>b
noncomputable def st(j:Bool)(a b:Int)(q q':Q)(pg pg' lt:D):D:=.aw SK [dE j a b (tk q pg) (tk q' pg'),lt,bD,bE,.int 4]
section
variable{j:Bool}{a b:Int}{q q':Q}{pg pg' lt A B:D}
theorem nR:ao (st j a b q q' pg pg' lt) (S "tasks")=.ok (dE j a b (tk q pg) (tk q' pg')):=by kernel_rfl
theorem ig:ao (st j a b q q' pg pg' lt) (S "lent")=.ok lt:=by kernel_rfl
theorem zT:ao (tk q pg) (S "pages")=.ok pg:=by kernel_rfl
theorem jR(h:a≠b):¬((Sum.inl a:Ky)=.inl b):=fun z=>h (Sum.inl.inj z)
theorem zC(h:a≠b):∃ks vs,dE j a b A B=.aw ks vs∧bK (.inl (tid j a b)) ks vs=some A:=by
 cases j with
 |false=>exact⟨_,_,rfl,if_pos rfl⟩
 |true=>exact⟨_,_,rfl,by show(if(Sum.inl a:Ky)=.inl b then _ else _)=_;rw[if_neg (jR h)];exact if_pos rfl⟩
theorem ur(h:a≠b):ao (dE j a b A B) (.int (tid j a b))=.ok A:=by
 obtain⟨ks,vs,e1,e2⟩:=zC (A:=A) (B:=B) (j:=j) h;rw[e1];exact m9 (z:=.inl (tid j a b)) e2
theorem Hz(h:a≠b):cY (.int (tid j a b)) (dE j a b A B)=.ok (.bl false):=by
 obtain⟨ks,vs,e1,e2⟩:=zC (A:=A) (B:=B) (j:=j) h;rw[e1];unfold cY;rw[show cA (.int (tid j a b)) (.aw ks vs)=.ok (.bl true)from xh (z:=.inl (tid j a b)) e2];rfl
theorem AN(h:a≠b):∃ks vs MM,dE j a b A B=.aw ks vs∧ks.length=2∧bK (.inl (tid j a b)) ks vs=some A∧putL (.inl (tid j a b)) A' ks vs=(ks,MM)∧dE j a b A' B=.aw ks MM:=by
 cases j with
 | false=>
   refine⟨_,_,_,rfl,rfl,if_pos rfl,?_,rfl⟩;unfold putL;rw[if_pos (by simp[tid])]
   show(_,[if(Sum.inl a:Ky)=.inl a then A' else A,if(Sum.inl b:Ky)=.inl a then A' else B])=_
   rw[if_pos rfl,if_neg (jR (Ne.symm h))]
 | true=>
   refine⟨_,_,_,rfl,rfl,by show(if(Sum.inl a:Ky)=.inl b then _ else _)=_;rw[if_neg (jR h)];exact if_pos rfl,?_,rfl⟩
   unfold putL;rw[if_pos (by simp[tid])]
   show(_,[if(Sum.inl a:Ky)=.inl b then A' else B,if(Sum.inl b:Ky)=.inl b then A' else A])=_
   rw[if_pos rfl,if_neg (jR h)]
theorem mH(h:a≠b)(hx:x ρ=.ok (st j a b q q' pg pg' lt))(hy:y ρ=.ok (.int (tid j a b))):(e2 ao (e2 ao (e2 ao x (eC (S "tasks"))) y) (eC (S "pages"))) ρ=.ok pg:=
 aG (aG (aG hx rfl nR) hy (ur h)) rfl zT
end
noncomputable def ew(ls:List Int)(lw:List (List Int)):Ent→Option (List Int)
 |.own ws=>some ws
 |.ln n=>look n ls lw
def Lt(ls:List Int)(lw:List (List Int)):Prop:=ls.Nodup∧ls.length=lw.length∧ls.length<64∧∀w∈lw,w.length=16
def ju(ls:List Int):Ent→Prop
 |.own ws=>ws.length=16
 |.ln n=>n∈ls
def Pg(ls ks:List Int)(es:List Ent):Prop:=ks.Nodup∧ks.length=es.length∧ks.length<64∧∀e∈es,ju ls e
end gu
end PL
namespace PL
namespace gu
open PySem G C
section
variable{j:Bool}{a b:Int}{q q':Q}{pg':D}{ls ks:List Int}{lw:List (List Int)}{es:List Ent}
theorem lB(h:a≠b):iE [st j a b q q' (ab ks es) pg' lt,.int (tid j a b),.int p]=.ok (((look p ks es).map Ent.d).getD .aH):=by
 rw[iE];refine bT ?_;show aj _ [.sh (st j a b q q' (ab ks es) pg' lt),.sh (.int (tid j a b)),.sh (.int p)]=_;rw[au (bc (aR (aG rfl (aG rfl rfl nR) (Hz h))))];refine br (cj (aG (mH h rfl rfl) rfl ?_));show R.ok ((bK (.inl p) (IK ks) (es.map Ent.d)).getD .aH)=_;rw[kS]
theorem eq_str(h:decide (x=y)=c):oEq (.str x) (.str y)=.ok (.bl c):=by
 unfold oEq;rw[HN,if_pos rfl];show R.ok (D.bl (decide (x=y)))=_;rw[h]
theorem Bl:dk [tk q pg,.aw [.inr (Str.ofString "pages")] [p2]]=.ok (tk q p2):=by kernel_rfl
theorem Eh:dk [.aw SK [X,lt,bD,bE,.int 4],.aw [.inr (Str.ofString "tasks")] [pg]]=.ok (.aw SK [pg,lt,bD,bE,.int 4]):=by kernel_rfl
theorem vL:dk [.aw SK [X,lt,bD,bE,.int 4],.aw [.inr (Str.ofString "lent")] [l2]]=.ok (.aw SK [X,l2,bD,bE,.int 4]):=by kernel_rfl
theorem tX(h:a≠b):iJ [st j a b q q' pg pg' lt,.int (tid j a b),.aw [.inr (Str.ofString "pages")] [p2]]=.ok (st j a b q q' p2 pg' lt):=by
 obtain⟨Ni,vs,MM,e1,e2,e3,e4,e5⟩:=AN (j:=j) (A:=tk q pg) (B:=tk q' pg') (A':=tk q p2) h;rw[iJ];refine bT ?_;show aj _ [.sh (st j a b q q' pg pg' lt),.sh (.int (tid j a b)),.sh (.aw [.inr (Str.ofString "pages")] [p2]),.un]=_;rw[au (uj (ks:=Ni) (vs:=vs) (cV (aG rfl rfl nR) (by rw[e1];rfl)))]
 show aj _ [.sh (st j a b q q' pg pg' lt),.sh (.int (tid j a b)),.sh (.aw [.inr (Str.ofString "pages")] [p2]),.od Ni vs]=_
 have NS:(qo 3 (aa 1)) [.sh (st j a b q q' pg pg' lt),.sh (.int (tid j a b)),.sh (.aw [.inr (Str.ofString "pages")] [p2]),.od Ni vs]=.ok (tk q pg):=by
   show lj (.aw Ni vs) (.int (tid j a b))=_;show(match bK (.inl (tid j a b)) Ni vs with|some v=>R.ok v|none=>.bad)=_
   rw[e3]
 rw[au (H0 (cM NS rfl Bl) rfl rfl rfl (by omega) e4)]
 show aj _ [.sh (st j a b q q' pg pg' lt),.sh (.int (tid j a b)),.sh (.aw [.inr (Str.ofString "pages")] [p2]),.od Ni MM]=_;rw[au (ρ':=[.sh (st j a b q q' pg pg' lt),.sh (.int (tid j a b)),.sh (.aw [.inr (Str.ofString "pages")] [p2]),.sh (.aw Ni MM)]) rfl];refine br (cj (cM rfl (y:=.aw [.inr (Str.ofString "tasks")] [.aw Ni MM]) rfl ?_));unfold st;rw[Eh, ←e5]
end
theorem p6(hf:f ρ=.ok p)(he:e ρ=.ok x)(ht:ρ[i]? =some (.on (.tr t)))(hn:T.at t p=some n)(hm:stepT n x=some m):pX i f e ρ=.ok (p++[m]):=by
 unfold pX;simp only[hf,he,R.aO,ht,hn,hm]
theorem gO(he:e ρ=.ok d)(hf:f ρ=.ok p)(hk:k ρ=.ok q)(hz:keyOf q=some z)(ht:ρ[i]? =some (.on (.tr t)))(Mp:T.at t p=some (.m ks ts))(hl:ks.length<1000)(hp:iO z (.d d) ks ts=(ks',ts')):b7 i f k e ρ=.ok (.next ((fM i p ρ).set i (.on (.tr (T.put (.m ks' ts') t p))))):=by
 unfold b7;simp only[he,hf,hk,R.aO,ht,hz,Mp];rw[if_pos hl,hp]
theorem zl(hf:f ρ=.ok p)(ht:ρ[i]? =some (.on (.tr t)))(Mp:T.at t p=some t1)(ho:t1.own=true)(Om:i≠j):jY j i f ρ=.ok (.next (ρ.set j (.on (.al i p)))):=by
 unfold jY;simp only[hf,R.aO,ht,Mp];exact if_pos ⟨ho,Om⟩
theorem fN(ht:ρ[i]? =some (.on (.tr t)))(h:f (bZ i t ρ)=.ok b):cT i f ρ=.ok b:=by
 unfold cT;rw[ht];exact h
theorem Gq(ht:ρ[i]? =some (.on (.tr t)))(h:f (bZ i t ρ)=.ok (.int n)):fF i f ρ=.ok (.int n):=by
 unfold fF;rw[ht];show(f (bZ i t ρ)).bind _=_;rw[h];rfl
theorem Ef{ρ:En}{i:Nat}{x:Slot}{d:D}(h:ρ[i]? =some x):aa i (ρ.set i (.sh d))=.ok d:=by
 unfold aa;rw[List.getElem?_set_self (List.getElem?_eq_some_iff.mp h).1]
structure QT where
 (p k g r h w hd ru sv:T)
noncomputable def Q.t(q:Q):QT:=⟨deep q.p,deep q.k,deep q.g,deep q.r,deep q.h,deep q.w,deep q.hd,deep q.ru,deep q.sv⟩
noncomputable def QT.q(q:QT):Q:=⟨T.toD q.p,T.toD q.k,T.toD q.g,T.toD q.r,T.toD q.h,T.toD q.w,T.toD q.hd,T.toD q.ru,T.toD q.sv⟩
def eJ(q:QT)(pg:T):T:=.m KS [q.p,q.k,q.g,q.r,pg,q.h,q.w,q.hd,q.ru,q.sv]
noncomputable def kj(j:Bool)(a b:Int)(A B:T):T:=match j with
 |false=>.m [.inl a,.inl b] [A,B]
 |true=>.m [.inl a,.inl b] [B,A]
def J:Bool→Nat
 |false=>0
 |true=>1
noncomputable def bw(j:Bool)(a b:Int)(q q':QT)(pg pg' lt nd bx:T):T:=.m SK [kj j a b (eJ q pg) (eJ q' pg'),lt,nd,bx,.d (.int 4)]
def bq(ks:List Int)(es:List Ent):T:=.m (IK ks) (es.map fun x=>.d x.d)
def cv(ls:List Int)(lw:List (List Int)):T:=.m (IK ls) (lw.map fun w=>.d (W w))
theorem tK{α:Type}(f:α→D):∀xs:List α,T.fT (xs.map fun x=>.d (f x))=xs.map f
 |[]=>rfl
 |x::xs=>by show f x::T.fT (xs.map fun x=>.d (f x))=_;rw[tK f xs];rfl
theorem ky(ks:List Int)(es:List Ent):T.toD (bq ks es)=ab ks es:=by show D.aw (IK ks) (T.fT (es.map fun x=>.d x.d))=_;rw[tK];rfl
theorem rh(ls:List Int)(lw:List (List Int)):T.toD (cv ls lw)=ah ls lw:=by show D.aw (IK ls) (T.fT (lw.map fun x=>.d (W x)))=_;rw[tK];rfl
theorem nA(ks:List Int)(es:List Ent):deep (ab ks es)=bq ks es:=by
 show T.m (IK ks) (gw (es.map Ent.d))=_;rw[mQ,List.map_map];unfold bq;congr 1;apply List.map_congr_left;intro x _;cases x<;>rfl
theorem xU(ls:List Int)(lw:List (List Int)):deep (ah ls lw)=cv ls lw:=by
 show T.m (IK ls) (gw (lw.map W))=_;rw[mQ,List.map_map];rfl
section
variable{j:Bool}{a b:Int}{q q':QT}{pg pg' lt nd bx:T}
theorem xJ{q q':Q}{pg pg' lt:D}:deep (st j a b q q' pg pg' lt)=bw j a b q.t q'.t (deep pg) (deep pg') (deep lt) (deep bD) (deep bE):=by cases j<;>rfl
theorem pV:T.toD (bw j a b q q' pg pg' lt nd bx)=.aw SK [dE j a b (tk q.q (T.toD pg)) (tk q'.q (T.toD pg')),T.toD lt,T.toD nd,T.toD bx,.int 4]:=by cases j<;>rfl
theorem Q.qt(q:Q):q.t.q=q:=by
 cases q;unfold Q.t QT.q;simp only[gM]
theorem CD{q q':Q}{pg':D}:T.toD (bw j a b q.t q'.t pg (deep pg') lt (deep bD) (deep bE))=st j a b q q' (T.toD pg) pg' (T.toD lt):=by
 rw[pV,Q.qt,Q.qt,gM,gM,gM];rfl
theorem CN:T.at (bw j a b q q' pg pg' lt nd bx) [0]=some (kj j a b (eJ q pg) (eJ q' pg')):=rfl
theorem F9:T.at (bw j a b q q' pg pg' lt nd bx) [0,J j]=some (eJ q pg):=by cases j<;>rfl
theorem js:T.at (bw j a b q q' pg pg' lt nd bx) [0,J j,4]=some pg:=by cases j<;>rfl
theorem lC:T.put x (bw j a b q q' pg pg' lt nd bx) [0,J j,4]=bw j a b q q' x pg' lt nd bx:=by cases j<;>rfl
theorem A9:stepT (bw j a b q q' pg pg' lt nd bx) (S "tasks")=some 0:=by kernel_rfl
theorem Cm:stepT (bw j a b q q' pg pg' lt nd bx) (S "lent")=some 1:=by kernel_rfl
theorem Ea:stepT (eJ q pg) (S "pages")=some 4:=by kernel_rfl
theorem HZ(h:a≠b):stepT (kj j a b A B) (.int (tid j a b))=some (J j):=by
 cases j with
 |false=>exact if_pos rfl
 | true=>
   show(if(Sum.inl a:Ky)=.inl b then some 0 else(if(Sum.inl b:Ky)=.inl b then some 0 else none).map (· +1))=_
   rw[if_neg (jR h),if_pos rfl];rfl
theorem tS(h:a≠b)(ht:ρ[i]? =some (.on (.tr (bw j a b q q' pg pg' lt nd bx))))(hy:y ρ=.ok (.int (tid j a b))):pX i (pX i pN (eC (S "tasks"))) y ρ=.ok [0,J j]:=
 p6 (p6 (p:=[]) rfl rfl ht rfl A9) hy ht CN (HZ h)
theorem qN(h:a≠b)(ht:ρ[i]? =some (.on (.tr (bw j a b q q' pg pg' lt nd bx))))(hy:y ρ=.ok (.int (tid j a b))):pX i (pX i (pX i pN (eC (S "tasks"))) y) (eC (S "pages")) ρ=.ok [0,J j,4]:=
 p6 (tS h ht hy) rfl ht F9 Ea
theorem tI(ht:ρ[i]? =some (.on (.tr (bw j a b q q' pg pg' lt nd bx)))):pX i pN (eC (S "lent")) ρ=.ok [1]:=
 p6 (p:=[]) rfl rfl ht rfl Cm
end
theorem pF{a b:Int}{i:Nat}{d:D}(h:(dG a b)[i]? =some d):d=.int (a+(i:Int))∧(i:Int)<b - a:=by
 unfold dG at h;rw[List.getElem?_map]at h;by_cases hi:i<(b - a).toNat
 · rw[List.getElem?_range hi]at h
   cases h;exact⟨rfl,by omega⟩
 · rw[List.getElem?_eq_none (by rw[List.length_range];omega)]at h
   cases h
theorem lg:∀ {ds:List D},(∀d∈ds,nice d=true)→fZ ds=true
 |[],_=>rfl
 | d::ds,h=>by
   show(nice d&&fZ ds)=true;rw[h d List.mem_cons_self,lg fun x hx=>h x (List.mem_cons_of_mem _ hx)];rfl
theorem md:∀ {ds:List D},(∀d∈ds,ba d≤n)→cN ds≤n
 |[],_=>Nat.zero_le _
 | d::ds,h=>by
   show max (ba d) (cN ds)≤n;have h1:=h d List.mem_cons_self;have h2:=md (ds:=ds) fun x hx=>h x (List.mem_cons_of_mem _ hx);omega
theorem tH(h:w.length=16):nice (W w)=true∧ba (W w)≤1:=by
 constructor
 · show(decide ((w.map D.int).length≤1000)&&fZ (w.map D.int))=true
   rw[lg (by intro d hd;obtain⟨i,_,rfl⟩:=List.mem_map.mp hd;rfl),decide_eq_true (by rw[List.length_map];omega)];rfl
 · show cN (w.map D.int)+1≤1
   have:cN (w.map D.int)≤0:=md (by intro d hd;obtain⟨i,_,rfl⟩:=List.mem_map.mp hd;exact Nat.le_refl 0)
   omega
theorem rl(h:ju ls e):nice e.d=true∧ba e.d≤2:=by
 cases e with
 | own ws=>
   obtain⟨h1,h2⟩:=tH h;constructor
   · show(decide (2≤1000)&&(nice (S "own")&&(nice (W ws)&&true)))=true
     rw[h1];kernel_rfl
   · show max (ba (S "own")) (max (ba (W ws)) 0)+1≤2
     have:ba (S "own")=0:=rfl;omega
 | ln n=>
   constructor
   · show(decide (2≤1000)&&(nice (S "lent")&&(nice (.int n)&&true)))=true
     kernel_rfl
   · show max (ba (S "lent")) (max (ba (.int n)) 0)+1≤2
     have:ba (S "lent")=0:=rfl;have:ba (.int n)=0:=rfl;omega
theorem rJ(h:ks.Nodup):(IK ks).Nodup:=by
 unfold IK
 induction ks with
 |nil=>exact List.nodup_nil
 | cons k ks ih=>
   have hn:=List.nodup_cons.mp h;rw[List.map_cons];refine List.nodup_cons.mpr ⟨fun hm=>?_,ih hn.2⟩;obtain⟨x,hx,e⟩:=List.mem_map.mp hm;exact hn.1 (Sum.inl.inj e▸hx)
theorem KP(h:Pg ls ks es):nice (ab ks es)=true∧ba (ab ks es)≤3:=by
 constructor
 · show(decide (IK ks).Nodup&&decide ((IK ks).length=(es.map Ent.d).length)&&decide ((IK ks).length≤1000)&&fZ (es.map Ent.d))=true
   have hl:(IK ks).length=ks.length:=List.length_map ..;rw[lg (by intro d hd;obtain⟨e,he,rfl⟩:=List.mem_map.mp hd;exact(rl (h.2.2.2 e he)).1),decide_eq_true (rJ h.1),decide_eq_true (by rw[hl,List.length_map];exact h.2.1),decide_eq_true (by rw[hl];have:=h.2.2.1;omega)];rfl
 · show cN (es.map Ent.d)+1≤3
   have:cN (es.map Ent.d)≤2:=md (by intro d hd;obtain⟨e,he,rfl⟩:=List.mem_map.mp hd;exact(rl (h.2.2.2 e he)).2)
   omega
theorem BO(h:Lt ls lw):nice (ah ls lw)=true∧ba (ah ls lw)≤2:=by
 constructor
 · show(decide (IK ls).Nodup&&decide ((IK ls).length=(lw.map W).length)&&decide ((IK ls).length≤1000)&&fZ (lw.map W))=true
   have hl:(IK ls).length=ls.length:=List.length_map ..;rw[lg (by intro d hd;obtain⟨e,he,rfl⟩:=List.mem_map.mp hd;exact(tH (h.2.2.2 e he)).1),decide_eq_true (rJ h.1),decide_eq_true (by rw[hl,List.length_map];exact h.2.1),decide_eq_true (by rw[hl];have:=h.2.2.1;omega)];rfl
 · show cN (lw.map W)+1≤2
   have:cN (lw.map W)≤1:=md (by intro d hd;obtain⟨e,he,rfl⟩:=List.mem_map.mp hd;exact(tH (h.2.2.2 e he)).2)
   omega
def NQ(q:Q):Prop:=∀d∈[q.p,q.k,q.g,q.r,q.h,q.w,q.hd,q.ru,q.sv],nice d=true∧ba d≤2
section
variable{j:Bool}{a b:Int}{q q':Q}{ls ks ks':List Int}{lw:List (List Int)}{es es':List Ent}
theorem wa:∀ks:List Int,ik (IK ks)=some ks
 |[]=>rfl
 | k::ks=>by
   have ih:=wa ks;unfold IK at ih ⊢;rw[List.map_cons];unfold ik;rw[ih];rfl
theorem mL(h:ks.length<64):de (.aw (IK ks) vs)=.ok (.lst ((aV ks).map .int)):=by
 show(match ik (IK ks)with|some ns=>if ns.length<64 then R.ok (D.lst ((aV ns).map D.int))else .bad|none=>.bad)=_
 rw[wa];exact if_pos h
end
theorem oD(ns:List Int)(k:Int)(h0:0≤k):∃i,gA [.lst (ns.map .int),.int k]=.ok (.int i):=by
 rw[gA];by_cases h:k<((ns.map D.int).length:Int)
 · have hn:k.toNat<ns.length:=by rw[List.length_map]at h;omega
   refine⟨ns[k.toNat],bT ?_⟩;show aj _ [.sh (.lst (ns.map .int)),.sh (.int k)]=_;refine br ?_;rw[bO (by rw[aR (pO (u:=((ns.map D.int).length:Int)) rfl rfl),decide_eq_true h])]
   exact cj (aG rfl rfl (iQ (by rw[rA h0 h,List.getElem_map])))
 · refine⟨0,bT ?_⟩
   show aj _ [.sh (.lst (ns.map .int)),.sh (.int k)]=_;rw[au (bc (by rw[aR (pO (u:=((ns.map D.int).length:Int)) rfl rfl),decide_eq_false h]))]
   rfl
theorem xK(k:Int):∃w,j1 [.int k]=.ok (W w)∧w.length=16:=by
 rw[j1]
 obtain⟨ρ1,eL,ss,w,x2,hw,Mu⟩:=mf (tg:=aE 2) (body:=qV) (fun n ρ=>∃(ss:Int) (w:List Int) (x2:Slot),w.length=n∧ρ=[.sh (.int ss),.ol (w.map .int),x2]) (ds:=dG 0 16) 0 (by
   intro n d hk ρ ⟨ss,w,x2,hw,Mu⟩;obtain⟨rfl,Mn⟩:=pF hk;subst Mu;refine⟨_,rfl,?_⟩;show ∃ρ2,aj _ [.sh (.int ss),.ol (w.map .int),.sh (.int (0+(n:Int)))]=_∧_;rw[au (vA (cu (gP rfl (sF (sF rfl rfl (.inl (by decide))) rfl (.inr (by unfold small;rw[decide_eq_true (by omega),decide_eq_true (by omega)];rfl)))) rfl (by decide)) rfl (by rw[List.length_map];omega))]
   show ∃ρ2,aj _ [.sh (.int ss),.ol (w.map .int++[.int ((ss+40503*(0+(n:Int))*(0+(n:Int))) % 4294967296)]),.sh (.int (0+(n:Int)))]=_∧_;rw[au (bI (di rfl rfl (by decide)))]
   refine⟨_,rfl,ss / 4294967296,w++[(ss+40503*(0+(n:Int))*(0+(n:Int))) % 4294967296],.sh (.int (0+(n:Int))),by rw[List.length_append];simp;omega,?_⟩
   rw[List.map_append];rfl) (ρ:=[.sh (.int k),.ol [],.un]) ⟨k,[],.un,rfl,rfl⟩
 subst Mu;refine⟨w,bT ?_,by rw[hw];rfl⟩
 show aj _ [.sh (.int k),.un,.un]=_;rw[au (uk (xs:=[]) rfl)];show aj _ [.sh (.int k),.ol [],.un]=_;rw[au (fL (ds:=dG 0 16) rfl eL)];rw[au (ρ':=[.sh (.int ss),.sh (.lst (w.map .int)),x2]) rfl];exact br (cj rfl)
theorem rP{α:Type}{p:Int}{e:α}{ks:List Int}{es:List α}(h:ks.Nodup):(ins p e ks es).1.Nodup:=by
 unfold ins;by_cases hp:p∈ks
 ·rw[if_pos hp];exact h
 · rw[if_neg hp]
   show(ks++[p]).Nodup;rw[List.nodup_append];exact⟨h,by simp,fun x hx y hy=>by rw[List.mem_singleton.mp hy];exact fun z=>hp (z▸hx)⟩
theorem uU{α:Type}{p:Int}{e:α}{ks:List Int}{es:List α}(h:ks.length=es.length):(ins p e ks es).1.length=(ins p e ks es).2.length∧(ins p e ks es).1.length≤ks.length+1:=by
 unfold ins;by_cases hp:p∈ks
 ·rw[if_pos hp];exact⟨DG h,Nat.le_succ _⟩
 · rw[if_neg hp]
   show(ks++[p]).length=(es++[e]).length∧(ks++[p]).length≤_;rw[List.length_append,List.length_append];exact⟨by simp;omega,by simp⟩
theorem uL{α:Type}{p:Int}{e x:α}{ks:List Int}{es:List α}(h:x∈(ins p e ks es).2):x∈es∨x=e:=by
 unfold ins at h;by_cases hp:p∈ks
 ·rw[if_pos hp]at h;exact zx x h
 · rw[if_neg hp]at h
   rcases List.mem_append.mp h with h|h
   ·exact .inl h
   ·exact .inr (List.mem_singleton.mp h)
theorem tZ{α:Type}{p:Int}{e:α}{ks:List Int}{es:List α}:∀x∈ks,x∈(ins p e ks es).1:=by
 intro x hx;unfold ins;by_cases hp:p∈ks
 ·rw[if_pos hp];exact hx
 ·rw[if_neg hp];exact List.mem_append_left _ hx
theorem ya{α:Type}{p:Int}{e:α}{ks:List Int}{es:List α}:p∈(ins p e ks es).1:=by
 unfold ins;by_cases hp:p∈ks
 ·rw[if_pos hp];exact hp
 ·rw[if_neg hp];exact List.mem_append_right _ (List.mem_singleton.mpr rfl)
def cU(n:Nat)(ls:List Int)(lw:List (List Int)):Prop:=ls.Nodup∧ls.length=lw.length∧ls.length≤n∧∀w∈lw,w.length=16
def bt(n:Nat)(ls ks:List Int)(es:List Ent):Prop:=ks.Nodup∧ks.length=es.length∧ks.length≤n∧∀e∈es,ju ls e
theorem cU.lt{n:Nat}{ls:List Int}{lw:List (List Int)}(h:cU n ls lw)(hn:n<64):Lt ls lw:=⟨h.1,h.2.1,by have:=h.2.2.1;omega,h.2.2.2⟩
theorem bt.pg(h:bt n ls ks es)(hn:n<64):Pg ls ks es:=⟨h.1,h.2.1,by have:=h.2.2.1;omega,h.2.2.2⟩
theorem cU.ins{n:Nat}{ls:List Int}{lw:List (List Int)}{p:Int}{w:List Int}(h:cU n ls lw)(hw:w.length=16):cU (n+1) (ins p w ls lw).1 (ins p w ls lw).2:=by
 have hl:=uU (p:=p) (e:=w) h.2.1;exact⟨rP h.1,hl.1,by have:=h.2.2.1;omega,fun x hx=>(uL hx).elim (h.2.2.2 x) fun e=>e▸hw⟩
theorem bt.ins{n:Nat}{ls ks:List Int}{es:List Ent}{p:Int}{e:Ent}(h:bt n ls ks es)(he:ju ls e):bt (n+1) ls (ins p e ks es).1 (ins p e ks es).2:=by
 have hl:=uU (p:=p) (e:=e) h.2.1;exact⟨rP h.1,hl.1,by have:=h.2.2.1;omega,fun x hx=>(uL hx).elim (h.2.2.2 x) fun z=>z▸he⟩
theorem ju.sub(hs:∀x∈ls,x∈ls')(h:ju ls e):ju ls' e:=by
 cases e with
 |own ws=>exact h
 |ln n=>exact hs n h
theorem bt.sub(h:bt n ls ks es)(hs:∀x∈ls,x∈ls')(hm:n≤m):bt m ls' ks es:=⟨h.1,h.2.1,by have:=h.2.2.1;omega,fun e he=>(h.2.2.2 e he).sub hs⟩
theorem cU.up(h:cU n ls lw)(hm:n≤m):cU m ls lw:=⟨h.1,h.2.1,by have:=h.2.2.1;omega,h.2.2.2⟩
noncomputable def q0:QT:=⟨.d (.int 0),.d (.int 1),.l [.d (.int 0),.d (.int 1),.d (.int 2),.d (.int 3),.d (.int 4),.d (.int 5),.d (.int 6),.d (.int 7)],.d (.int 0),.m [] [],.d .aH,.d (.int 0),.d (.bl false),.d .aH⟩
def cK:D:=.aw [.inl 3] [.int 1]
noncomputable def sV:D:=.tup [.lst [.int 1,.int 2,.int 3,.int 4,.int 5,.int 6,.int 7,.int 8],.int 70]
def qA:QT:={q0 with h:=.d cK,sv:=.d sV}
def qB(r:Bool):QT:={q0 with hd:=.d (.int 50),ru:=.d (.bl r)}
theorem lR:NQ qA.q:=by
 intro d hd;simp only[List.mem_cons,List.not_mem_nil,or_false]at hd;rcases hd with rfl|rfl|rfl|rfl|rfl|rfl|rfl|rfl|rfl<;>exact⟨by kernel_rfl,by decide⟩
theorem ly(r:Bool):NQ (qB r).q:=by
 intro d hd;simp only[List.mem_cons,List.not_mem_nil,or_false]at hd;cases r<;>rcases hd with rfl|rfl|rfl|rfl|rfl|rfl|rfl|rfl|rfl<;>exact⟨by kernel_rfl,by decide⟩
section
variable{j:Bool}{a b:Int}{q q':QT}{pg pg' lt nd bx:T}
end
noncomputable def dB(a b:Int)(r:Bool)(ks ks' ls:List Int)(es es':List Ent)(lw:List (List Int)):T:=bw false a b qA (qB r) (bq ks es) (bq ks' es') (cv ls lw) (.d bD) (.d bE)
section
variable{a b c:Int}{ns:List Int}{r:Bool}{n:Nat}{ks ks' ls:List Int}{es es':List Ent}{lw:List (List Int)}{x6 x7 x8 x9 x10 x11:Slot}
theorem J3(h:a≠b)(hp:bt n ls ks es)(hl:cU n ls lw)(hr:∀x∈ls,1≤x∧x≤15)(hn:n<4):
   ∃LC LO LF LS y6 y7 y8 y9 MX MW,mF [.sh (.lst (ns.map .int)),.sh (.int c),.sh (.int a),.sh (.int b),.on (.tr (dB a b r ks [] ls es [] lw)),.sh (.int n),x6,x7,x8,x9,x10,x11]=.ok (.next [.sh (.lst (ns.map .int)),.sh (.int c),.sh (.int a),.sh (.int b),.on (.tr (dB a b r LC [] LO LF [] LS)),.sh (.int n),y6,y7,y8,y9,MX,MW])∧bt (n+1) LO LC LF∧cU (n+1) LO LS∧∀x∈LO,1≤x∧x≤15:=by
 obtain⟨i,hi⟩:=oD ns (1+(n:Int)) (by omega)
 obtain⟨w,hw,Ol⟩:=xK i;rw[mF];rw[au (bI (gP rfl (cu (gP (di rfl rfl (by decide)) (sF rfl rfl (.inl (by decide)))) rfl (by decide))))]
 have Pq:1≤1+(c / 1000+4*(n:Int)) % 15∧1+(c / 1000+4*(n:Int)) % 15≤15:=by omega
 revert Pq;generalize 1+(c / 1000+4*(n:Int)) % 15=p;intro Pq;show ∃LC LO LF LS y6 y7 y8 y9 MX MW,aj _ [.sh (.lst (ns.map .int)),.sh (.int c),.sh (.int a),.sh (.int b),.on (.tr (dB a b r ks [] ls es [] lw)),.sh (.int n),.sh (.int p),x7,x8,x9,x10,x11]=_∧_;have Qk:pX 4 pN (eC (S "lent")) [.sh (.lst (ns.map .int)),.sh (.int c),.sh (.int a),.sh (.int b),.on (.tr (dB a b r ks [] ls es [] lw)),.sh (.int n),.sh (.int p),x7,x8,x9,x10,x11]=.ok [1]:=tI rfl;have Pa:(IK ls).length<1000:=by unfold IK;rw[List.length_map];have:=hl.2.2.1;omega
 have Nl:(IK ks).length<1000:=by unfold IK;rw[List.length_map];have:=hp.2.2.1;omega
 rw[au (gO (t:=dB a b r ks [] ls es [] lw) (ks:=IK ls) (ts:=lw.map fun x=>.d (W x)) (jc (cM rfl (gP rfl rfl) hi) hw) Qk rfl rfl rfl rfl Pa (jU W))];show ∃LC LO LF LS y6 y7 y8 y9 MX MW,aj _ [.sh (.lst (ns.map .int)),.sh (.int c),.sh (.int a),.sh (.int b),.on (.tr (dB a b r ks [] (ins p w ls lw).1 es [] (ins p w ls lw).2)),.sh (.int n),.sh (.int p),cb 4 [1] x7,cb 4 [1] x8,cb 4 [1] x9,cb 4 [1] x10,cb 4 [1] x11]=_∧_;generalize cb 4 [1] x7=x7;generalize cb 4 [1] x8=x8;generalize cb 4 [1] x9=x9;generalize cb 4 [1] x10=x10;generalize cb 4 [1] x11=x11;have NA:pX 4 (pX 4 (pX 4 pN (eC (S "tasks"))) (aa 2)) (eC (S "pages")) [.sh (.lst (ns.map .int)),.sh (.int c),.sh (.int a),.sh (.int b),.on (.tr (dB a b r ks [] (ins p w ls lw).1 es [] (ins p w ls lw).2)),.sh (.int n),.sh (.int p),x7,x8,x9,x10,x11]=.ok [0,0,4]:=qN (j:=false) h rfl rfl;rw[au (gO (t:=dB a b r ks [] (ins p w ls lw).1 es [] (ins p w ls lw).2) (ks:=IK ks) (ts:=es.map fun x=>.d x.d) (d:=(Ent.ln p).d) (gi rfl rfl) NA (gP (i:=100) (u:=n) rfl rfl) rfl rfl rfl Nl (jU Ent.d))];refine⟨(ins (100+(n:Int)) (.ln p) ks es).1,(ins p w ls lw).1,(ins (100+(n:Int)) (.ln p) ks es).2,(ins p w ls lw).2,.sh (.int p),cb 4 [0,0,4] x7,cb 4 [0,0,4] x8,cb 4 [0,0,4] x9,cb 4 [0,0,4] x10,cb 4 [0,0,4] x11,rfl,?_,hl.ins Ol,fun z hz=>?_⟩
 rotate_left
 · unfold ins at hz
   by_cases MP:p∈ls
   ·rw[if_pos MP]at hz;exact hr z hz
   · rw[if_neg MP]at hz
     rcases List.mem_append.mp hz with hz|hz
     ·exact hr z hz
     ·rw[List.mem_singleton.mp hz];exact Pq
 exact(hp.sub (m:=n) tZ (Nat.le_refl _)).ins ya
theorem wI(h:a≠b)(hp:bt n ls ks es)(hl:cU n ls lw)(hn:n<50)(hj:[a,b][(c8 % 2).toNat]? =some (tid j a b)):
   ∃LC LF y5 y6 y9 MX MW,aj [jY 9 4 (pX 4 (pX 4 (pX 4 (pN) (eC (S "tasks"))) (e2 ao (cL [aa 2,aa 3]) (e2 oMod (aa 8) (eC (.int 2))))) (eC (S "pages"))),bb (aE 10) (e2 ao (cL [eC (.int 0),eC (.int 1),eC (.int 2),eC (.int 3),eC (.int 4095),e2 oMod (e2 oDiv (aa 8) (eC (.int 144))) (eC (.int 4096))]) (e2 oMod (e2 oDiv (aa 8) (eC (.int 2))) (eC (.int 6)))),bb (aE 11) (aU [eC (S "own"),aJ j1 [e2 oDiv (aa 8) (eC (.int 36))]]),aQ (cT 4 (d8 (tV (e2 oEq (e2 oMod (e2 oDiv (aa 8) (eC (.int 12))) (eC (.int 3))) (eC (.int 2)))) (tV (e2 gj (e2 ao (aa 4) (eC (S "lent"))) (cz [] []))))) (bb (aE 11) (eX (xT [xD (eC (S "lent")),xD (fF 4 (e2 ao (e1 de (e2 ao (aa 4) (eC (S "lent")))) (e2 oMod (e2 oDiv (aa 8) (eC (.int 36))) (e1 cQ (e2 ao (aa 4) (eC (S "lent")))))))]))) (aP),aQ (b6 (tV (e2 oLt (aa 10) (eC (.int 100)))) (tV (e2 d6 (aa 10) (eC (.int 102))))) (b7 4 (pA 4 9) (aa 10) (aa 11)) (aP)] [.sh (.lst (ns.map .int)),.sh (.int c),.sh (.int a),.sh (.int b),.on (.tr (bw j a b q q' (bq ks es) pg' (cv ls lw) (.d bD) (.d bE))),x5,x6,.sh (.int k7),.sh (.int c8),x9,x10,x11]=.ok (.next [.sh (.lst (ns.map .int)),.sh (.int c),.sh (.int a),.sh (.int b),.on (.tr (bw j a b q q' (bq LC LF) pg' (cv ls lw) (.d bD) (.d bE))),y5,y6,.sh (.int k7),.sh (.int c8),y9,MX,MW])∧bt (n+1) ls LC LF:=by
 obtain⟨w,hw,Ol⟩:=xK (c8 / 36);have m0:=Int.emod_nonneg c8 (show(2:Int)≠0 by decide)
 have m1:=Int.emod_lt_of_pos c8 (show(0:Int)<2 by decide)
 generalize ht:bw j a b q q' (bq ks es) pg' (cv ls lw) (.d bD) (.d bE)=t
 have SI:(e2 ao (cL [aa 2,aa 3]) (e2 oMod (aa 8) (eC (.int 2)))) [.sh (.lst (ns.map .int)),.sh (.int c),.sh (.int a),.sh (.int b),.on (.tr t),x5,x6,.sh (.int k7),.sh (.int c8),x9,x10,x11]=.ok (.int (tid j a b)):=by
   refine aG (x:=.lst [.int a,.int b]) rfl (cu rfl rfl (by decide)) (iQ ?_)
   show(dP 2 (c8 % 2)).bind (fun k=>([a,b].map D.int)[k]?)=_;rw[Dj m0 (by omega)]
   show([a,b].map D.int)[(c8 % 2).toNat]? =_;rw[List.getElem?_map,hj];rfl
 have P9:=qN (q:=q) (q':=q') (pg:=bq ks es) (pg':=pg') (lt:=cv ls lw) (nd:=.d bD) (bx:=.d bE) h (i:=4) (by rw[ht];rfl) SI
 have Mp:T.at t [0,J j,4]=some (bq ks es):=by rw[←ht];exact js
 rw[au (zl P9 rfl Mp rfl (by decide))]
 show ∃LC LF y5 y6 y9 MX MW,aj _ [.sh (.lst (ns.map .int)),.sh (.int c),.sh (.int a),.sh (.int b),.on (.tr t),x5,x6,.sh (.int k7),.sh (.int c8),.on (.al 4 [0,J j,4]),x10,x11]=_∧_
 obtain⟨p,Wt⟩:∃p,(e2 ao (cL [eC (.int 0),eC (.int 1),eC (.int 2),eC (.int 3),eC (.int 4095),e2 oMod (e2 oDiv (aa 8) (eC (.int 144))) (eC (.int 4096))]) (e2 oMod (e2 oDiv (aa 8) (eC (.int 2))) (eC (.int 6)))) [.sh (.lst (ns.map .int)),.sh (.int c),.sh (.int a),.sh (.int b),.on (.tr t),x5,x6,.sh (.int k7),.sh (.int c8),.on (.al 4 [0,J j,4]),x10,x11]=.ok (.int p):=by
   have i0:=Int.emod_nonneg (c8 / 2) (show(6:Int)≠0 by decide)
   have i1:=Int.emod_lt_of_pos (c8 / 2) (show(0:Int)<6 by decide)
   have hi:(c8 / 2 % 6).toNat< [0,1,2,3,4095,c8 / 144 % 4096].length:=by show _<6;omega
   refine⟨[0,1,2,3,4095,c8 / 144 % 4096][(c8 / 2 % 6).toNat],aG (x:=.lst ([0,1,2,3,4095,c8 / 144 % 4096].map .int)) ?_ (cu (di rfl rfl (by decide)) rfl (by decide)) (iQ ?_)⟩
   · simp only[cL,eList]
     rw[cu (di rfl rfl (by decide)) rfl (by decide)]
     rfl
   ·rw[rA i0 (by rw[List.length_map];exact i1),List.getElem_map]
 rw[au (bI Wt)];show ∃LC LF y5 y6 y9 MX MW,aj _ [.sh (.lst (ns.map .int)),.sh (.int c),.sh (.int a),.sh (.int b),.on (.tr t),x5,x6,.sh (.int k7),.sh (.int c8),.on (.al 4 [0,J j,4]),.sh (.int p),x11]=_∧_;rw[au (bI (d:=(Ent.own w).d) (gi rfl (jc (di rfl rfl (by decide)) hw)))]
 show ∃LC LF y5 y6 y9 MX MW,aj _ [.sh (.lst (ns.map .int)),.sh (.int c),.sh (.int a),.sh (.int b),.on (.tr t),x5,x6,.sh (.int k7),.sh (.int c8),.on (.al 4 [0,J j,4]),.sh (.int p),.sh (Ent.own w).d]=_∧_
 have hlen:∀ {ρ:En},ρ[4]? =some (.on (.tr t))→e2 ao (aa 4) (eC (S "lent")) (bZ 4 t ρ)=.ok (ah ls lw):=by
   intro ρ h4;refine aG (x:=T.toD t) ?_ rfl ?_
   · unfold bZ aa
     rw[List.getElem?_set_self (by rw[List.length_map];exact(List.getElem?_eq_some_iff.mp h4).1)]
   · rw[←ht,pV,rh]
     exact ig (pg:=T.toD (bq ks es)) (pg':=T.toD pg') (q:=q.q) (q':=q'.q)
 obtain⟨e,he,hs⟩:∃e,ju ls e∧aQ (cT 4 (d8 (tV (e2 oEq (e2 oMod (e2 oDiv (aa 8) (eC (.int 12))) (eC (.int 3))) (eC (.int 2)))) (tV (e2 gj (e2 ao (aa 4) (eC (S "lent"))) (cz [] []))))) (bb (aE 11) (eX (xT [xD (eC (S "lent")),xD (fF 4 (e2 ao (e1 de (e2 ao (aa 4) (eC (S "lent")))) (e2 oMod (e2 oDiv (aa 8) (eC (.int 36))) (e1 cQ (e2 ao (aa 4) (eC (S "lent")))))))]))) (aP) [.sh (.lst (ns.map .int)),.sh (.int c),.sh (.int a),.sh (.int b),.on (.tr t),x5,x6,.sh (.int k7),.sh (.int c8),.on (.al 4 [0,J j,4]),.sh (.int p),.sh (Ent.own w).d]=.ok (.next [.sh (.lst (ns.map .int)),.sh (.int c),.sh (.int a),.sh (.int b),.on (.tr t),x5,x6,.sh (.int k7),.sh (.int c8),.on (.al 4 [0,J j,4]),.sh (.int p),.sh e.d]):=by
   have hA:tV (e2 oEq (e2 oMod (e2 oDiv (aa 8) (eC (.int 12))) (eC (.int 3))) (eC (.int 2))) (bZ 4 t [.sh (.lst (ns.map .int)),.sh (.int c),.sh (.int a),.sh (.int b),.on (.tr t),x5,x6,.sh (.int k7),.sh (.int c8),.on (.al 4 [0,J j,4]),.sh (.int p),.sh (Ent.own w).d])=.ok (decide (c8 / 12 % 3=2)):=aR (jx (cu (di rfl rfl (by decide)) rfl (by decide)) rfl)
   have hB:tV (e2 gj (e2 ao (aa 4) (eC (S "lent"))) (cz [] [])) (bZ 4 t [.sh (.lst (ns.map .int)),.sh (.int c),.sh (.int a),.sh (.int b),.on (.tr t),x5,x6,.sh (.int k7),.sh (.int c8),.on (.al 4 [0,J j,4]),.sh (.int p),.sh (Ent.own w).d])=.ok (!(IK ls).isEmpty):=aR (aG (hlen rfl) (y:=.aw [] []) rfl rfl);by_cases hc:(decide (c8 / 12 % 3=2)&& !(IK ls).isEmpty)=true
   · rw[Bool.and_eq_true]at hc
     have ML:0<((aV ls).length:Int):=by
       rw[(fm ls).length_eq];cases ls with
       |nil=>exact absurd hc.2 (by decide)
       |cons x xs=>simp
     have MY:((IK ls).length:Int)=((aV ls).length:Int):=by
       rw[(fm ls).length_eq];unfold IK;rw[List.length_map]
     have i0:=Int.emod_nonneg (c8 / 36) (Int.ne_of_gt ML);have i1:=Int.emod_lt_of_pos (c8 / 36) ML;have hi:(c8 / 36 % ((aV ls).length:Int)).toNat<(aV ls).length:=by omega
     have Wh:fF 4 (e2 ao (e1 de (e2 ao (aa 4) (eC (S "lent")))) (e2 oMod (e2 oDiv (aa 8) (eC (.int 36))) (e1 cQ (e2 ao (aa 4) (eC (S "lent")))))) [.sh (.lst (ns.map .int)),.sh (.int c),.sh (.int a),.sh (.int b),.on (.tr t),x5,x6,.sh (.int k7),.sh (.int c8),.on (.al 4 [0,J j,4]),.sh (.int p),.sh (Ent.own w).d]=.ok (.int (aV ls)[(c8 / 36 % ((aV ls).length:Int)).toNat]):=by
       refine Gq rfl (aG (cV (hlen rfl) (mL (by have:=hl.2.2.1;omega))) (cu (di rfl rfl (by decide)) (cV (d:=.int ((aV ls).length:Int)) (hlen rfl) (by rw[←MY];rfl)) ML) (iQ ?_))
       rw[rA i0 (by rw[List.length_map];exact i1),List.getElem_map]
     refine⟨.ln (aV ls)[(c8 / 36 % ((aV ls).length:Int)).toNat],(fm ls).mem_iff.mp (List.getElem_mem hi),?_⟩;rw[bO (fN rfl (by rw[lO hA hB];simp only[hc.1,hc.2];rfl))]
     refine bI (nH (t:=.tu [.d (S "lent"),.d (.int (aV ls)[(c8 / 36 % ((aV ls).length:Int)).toNat])]) ?_);unfold xT;simp only[dS,xD,Wh,R.aO];rfl
   · refine⟨.own w,Ol,bc (fN rfl ?_)⟩
     rw[lO hA hB];simp only[Bool.not_eq_true]at hc;rw[hc]
 rw[au hs];have Nl:(IK ks).length<1000:=by unfold IK;rw[List.length_map];have:=hp.2.2.1;omega
 by_cases hc:(decide (p<100)||decide (102<p))=true
 · have NI:aQ (b6 (tV (e2 oLt (aa 10) (eC (.int 100)))) (tV (e2 d6 (aa 10) (eC (.int 102))))) (b7 4 (pA 4 9) (aa 10) (aa 11)) (aP) [.sh (.lst (ns.map .int)),.sh (.int c),.sh (.int a),.sh (.int b),.on (.tr t),x5,x6,.sh (.int k7),.sh (.int c8),.on (.al 4 [0,J j,4]),.sh (.int p),.sh e.d]=.ok (.next [.sh (.lst (ns.map .int)),.sh (.int c),.sh (.int a),.sh (.int b),.on (.tr (bw j a b q q' (bq (ins p e ks es).1 (ins p e ks es).2) pg' (cv ls lw) (.d bD) (.d bE))),cb 4 [0,J j,4] x5,cb 4 [0,J j,4] x6,.sh (.int k7),.sh (.int c8),cb 4 [0,J j,4] (.on (.al 4 [0,J j,4])),.sh (.int p),.sh e.d]):=by
     rw[bO (by rw[du (aR (pO rfl rfl)) (aR (i5 rfl rfl)),hc])]
     rw[gO (p:=[0,J j,4]) (d:=e.d) rfl rfl rfl rfl rfl Mp Nl (jU Ent.d)];rw[show T.m (IK (ins p e ks es).1) ((ins p e ks es).2.map fun x=>.d x.d)=bq (ins p e ks es).1 (ins p e ks es).2 from rfl, ←ht,lC]
     rfl
   rw[au NI];exact⟨_,_,_,_,_,_,_,rfl,hp.ins he⟩
 · rw[au (bc (by rw[du (aR (pO rfl rfl)) (aR (i5 rfl rfl))];simpa using hc)), ←ht]
   exact⟨_,_,_,_,_,_,_,rfl,hp.sub (fun _ h=>h) (Nat.le_succ _)⟩
end
section
variable{a b c:Int}{ns:List Int}{r:Bool}{n:Nat}{ks ks' ls:List Int}{es es':List Ent}{lw:List (List Int)}{x5 x6 x7 x8 x9 x10 x11:Slot}
theorem Dz(h:a≠b)(hk:0≤k7)(hp:bt n ls ks es)(Oq:bt n ls ks' es')(hl:cU n ls lw)(hn:n<50):
   ∃LC Nh LF Nc y5 y6 y8 y9 MX MW,lq [.sh (.lst (ns.map .int)),.sh (.int c),.sh (.int a),.sh (.int b),.on (.tr (dB a b r ks ks' ls es es' lw)),x5,x6,.sh (.int k7),x8,x9,x10,x11]=.ok (.next [.sh (.lst (ns.map .int)),.sh (.int c),.sh (.int a),.sh (.int b),.on (.tr (dB a b r LC Nh ls LF Nc lw)),y5,y6,.sh (.int k7),y8,y9,MX,MW])∧bt (n+1) ls LC LF∧bt (n+1) ls Nh Nc:=by
 obtain⟨c8,WA⟩:=oD ns k7 hk;rw[lq];rw[au (bI (cM rfl rfl WA))];show ∃LC Nh LF Nc y5 y6 y8 y9 MX MW,aj _ [.sh (.lst (ns.map .int)),.sh (.int c),.sh (.int a),.sh (.int b),.on (.tr (dB a b r ks ks' ls es es' lw)),x5,x6,.sh (.int k7),.sh (.int c8),x9,x10,x11]=_∧_;by_cases hm:c8 % 2=0
 · obtain⟨LC,LF,y5,y6,y9,MX,MW,hs,NA⟩:=wI (j:=false) (q:=qA) (q':=qB r) (pg':=bq ks' es') (ns:=ns) (c:=c) (k7:=k7) (x5:=x5) (x6:=x6) (x9:=x9) (x10:=x10) (x11:=x11) h hp hl hn (c8:=c8) (by rw[hm];rfl)
   exact⟨LC,ks',LF,es',y5,y6,_,y9,MX,MW,hs,NA,Oq.sub (fun _ h=>h) (Nat.le_succ _)⟩
 · have S':c8 % 2=1:=by omega
   obtain⟨LC,LF,y5,y6,y9,MX,MW,hs,NA⟩:=wI (j:=true) (q:=qB r) (q':=qA) (pg':=bq ks es) (ns:=ns) (c:=c) (k7:=k7) (x5:=x5) (x6:=x6) (x9:=x9) (x10:=x10) (x11:=x11) h Oq hl hn (c8:=c8) (by rw[S'];rfl)
   exact⟨ks,LC,es,LF,y5,y6,_,y9,MX,MW,hs,hp.sub (fun _ h=>h) (Nat.le_succ _),NA⟩
end
theorem FX(ns:List Int):∃a b r ks ks' ls es es' lw,a≠b∧bt 14 ls ks es∧bt 14 ls ks' es'∧(cU 4 ls lw∧∀x∈ls,1≤x∧x≤15)∧om [.lst (ns.map .int)]=.ok (st false a b qA.q (qB r).q (ab ks es) (ab ks' es') (ah ls lw)):=by
 obtain⟨c,hc⟩:=oD ns 0 (Int.le_refl 0);have OF:1+c % 15≠1+(c+1+c / 15 % 14) % 15:=by omega
 suffices hh:∃a b r ks ks' ls es es' lw,a≠b∧bt 14 ls ks es∧bt 14 ls ks' es'∧(cU 4 ls lw∧∀x∈ls,1≤x∧x≤15)∧_=R.ok (Fl.ret (st false a b qA.q (qB r).q (ab ks es) (ab ks' es') (ah ls lw))) by
   obtain⟨a,b,r,ks,ks',ls,es,es',lw,h1,h2,h3,h4,h5⟩:=hh;exact⟨a,b,r,ks,ks',ls,es,es',lw,h1,h2,h3,h4,by rw[om];exact bT h5⟩
 show ∃a b r ks ks' ls es es' lw,a≠b∧bt 14 ls ks es∧bt 14 ls ks' es'∧(cU 4 ls lw∧∀x∈ls,1≤x∧x≤15)∧aj _ [.sh (.lst (ns.map .int)),.un,.un,.un,.un,.un,.un,.un,.un,.un,.un,.un]=_;rw[au (bI (cM rfl rfl hc))];generalize NO:D.lst (ns.map .int)=sc;show ∃a b r ks ks' ls es es' lw,a≠b∧bt 14 ls ks es∧bt 14 ls ks' es'∧(cU 4 ls lw∧∀x∈ls,1≤x∧x≤15)∧aj _ [.sh sc,.sh (.int c),.un,.un,.un,.un,.un,.un,.un,.un,.un,.un]=_;rw[au (bI (gP rfl (cu rfl rfl (by decide))))]
 show ∃a b r ks ks' ls es es' lw,a≠b∧bt 14 ls ks es∧bt 14 ls ks' es'∧(cU 4 ls lw∧∀x∈ls,1≤x∧x≤15)∧aj _ [.sh sc,.sh (.int c),.sh (.int (1+c % 15)),.un,.un,.un,.un,.un,.un,.un,.un,.un]=_;rw[au (bI (gP rfl (cu (gP (gP rfl rfl) (cu (di rfl rfl (by decide)) rfl (by decide))) rfl (by decide))))]
 show ∃a b r ks ks' ls es es' lw,a≠b∧bt 14 ls ks es∧bt 14 ls ks' es'∧(cU 4 ls lw∧∀x∈ls,1≤x∧x≤15)∧aj _ [.sh sc,.sh (.int c),.sh (.int (1+c % 15)),.sh (.int (1+(c+1+c / 15 % 14) % 15)),.un,.un,.un,.un,.un,.un,.un,.un]=_;revert OF;generalize 1+c % 15=a;generalize 1+(c+1+c / 15 % 14) % 15=b;intro h;have nd:([.inl a,.inl b]:List Ky).Nodup:=List.nodup_cons.mpr ⟨fun hm=>jR h (List.mem_singleton.mp hm),by simp⟩
 have NB:gr [(aa 2,bG g8 [eC (.int 0)]),(aa 3,bG g8 [eC (.int 0)])] [.sh sc,.sh (.int c),.sh (.int a),.sh (.int b),.un,.un,.un,.un,.un,.un,.un,.un]=.ok (kj false a b (eJ q0 (.m [] [])) (eJ q0 (.m [] []))):=by
   unfold gr;rw[show lJ [(aa 2,bG g8 [eC (.int 0)]),(aa 3,bG g8 [eC (.int 0)])] [.sh sc,.sh (.int c),.sh (.int a),.sh (.int b),.un,.un,.un,.un,.un,.un,.un,.un]=.ok ([.inl a,.inl b],[eJ q0 (.m [] []),eJ q0 (.m [] [])]) by kernel_rfl,R.aO]
   exact if_pos nd
 have MK:gr [(eC (S "tasks"),gr [(aa 2,bG g8 [eC (.int 0)]),(aa 3,bG g8 [eC (.int 0)])]),(eC (S "lent"),jl),(eC (S "nodes"),gr [(eC (.int 0),xT [xD (eC (S "folder")),jl])])] [.sh sc,.sh (.int c),.sh (.int a),.sh (.int b),.un,.un,.un,.un,.un,.un,.un,.un]=.ok (.m [.inr (Str.ofString "tasks"),.inr (Str.ofString "lent"),.inr (Str.ofString "nodes")] [kj false a b (eJ q0 (.m [] [])) (eJ q0 (.m [] [])),.m [] [],.m [.inl 0] [.tu [.d (S "folder"),.m [] []]]]):=by
   rw[gr];unfold lJ;rw[NB]
   kernel_rfl
 rw[au (uB MK rfl (by decide))]
 rw[au (ρ':=[.sh sc,.sh (.int c),.sh (.int a),.sh (.int b),.on (.tr (.m [.inr (Str.ofString "tasks"),.inr (Str.ofString "lent"),.inr (Str.ofString "nodes")] [kj false a b (eJ q0 (.m [] [])) (eJ q0 (.m [] [])),.m [] [],.d bD])),.un,.un,.un,.un,.un,.un,.un]) (by kernel_rfl)]
 rw[au (ρ':=[.sh sc,.sh (.int c),.sh (.int a),.sh (.int b),.on (.tr (.m [.inr (Str.ofString "tasks"),.inr (Str.ofString "lent"),.inr (Str.ofString "nodes"),.inr (Str.ofString "boxes")] [kj false a b (eJ q0 (.m [] [])) (eJ q0 (.m [] [])),.m [] [],.d bD,.d bE])),.un,.un,.un,.un,.un,.un,.un]) (by kernel_rfl)]
 rw[au (ρ':=[.sh sc,.sh (.int c),.sh (.int a),.sh (.int b),.on (.tr (bw false a b q0 q0 (.m [] []) (.m [] []) (.m [] []) (.d bD) (.d bE))),.un,.un,.un,.un,.un,.un,.un]) (by kernel_rfl)]
 have P1:∀ {q q':QT} {y:Ex},y [.sh sc,.sh (.int c),.sh (.int a),.sh (.int b),.on (.tr (bw false a b q q' (.m [] []) (.m [] []) (.m [] []) (.d bD) (.d bE))),.un,.un,.un,.un,.un,.un,.un]=.ok (.int a)→pX 4 (pX 4 pN (eC (S "tasks"))) y [.sh sc,.sh (.int c),.sh (.int a),.sh (.int b),.on (.tr (bw false a b q q' (.m [] []) (.m [] []) (.m [] []) (.d bD) (.d bE))),.un,.un,.un,.un,.un,.un,.un]=.ok [0,0]:=fun hy=>tS (j:=false) h rfl hy;have P2:∀ {q q':QT} {y:Ex},y [.sh sc,.sh (.int c),.sh (.int a),.sh (.int b),.on (.tr (bw false a b q q' (.m [] []) (.m [] []) (.m [] []) (.d bD) (.d bE))),.un,.un,.un,.un,.un,.un,.un]=.ok (.int b)→pX 4 (pX 4 pN (eC (S "tasks"))) y [.sh sc,.sh (.int c),.sh (.int a),.sh (.int b),.on (.tr (bw false a b q q' (.m [] []) (.m [] []) (.m [] []) (.d bD) (.d bE))),.un,.un,.un,.un,.un,.un,.un]=.ok [0,1]:=fun hy=>tS (j:=true) h (q:=_) (q':=_) (pg:=.m [] []) (pg':=.m [] []) (lt:=.m [] []) (nd:=.d bD) (bx:=.d bE) rfl hy;have p1:=gO (i:=4) (k:=eC (S "handles")) (e:=cz [(.inl 3)] [eC (.int 1)]) (d:=cK) (z:=.inr (Str.ofString "handles")) (ks:=KS) (ks':=KS) (ts:=[q0.p,q0.k,q0.g,q0.r,.m [] [],q0.h,q0.w,q0.hd,q0.ru,q0.sv]) (ts':=[q0.p,q0.k,q0.g,q0.r,.m [] [],.d cK,q0.w,q0.hd,q0.ru,q0.sv]) rfl (P1 (q:=q0) (q':=q0) (y:=aa 2) rfl) rfl rfl rfl rfl (by decide) (by kernel_rfl)
 rw[au p1];show ∃a b r ks ks' ls es es' lw,a≠b∧bt 14 ls ks es∧bt 14 ls ks' es'∧(cU 4 ls lw∧∀x∈ls,1≤x∧x≤15)∧aj _ [.sh sc,.sh (.int c),.sh (.int _),.sh (.int _),.on (.tr (bw false _ _ {q0 with h:=.d cK} q0 (.m [] []) (.m [] []) (.m [] []) (.d bD) (.d bE))),.un,.un,.un,.un,.un,.un,.un]=_;have p2:=gO (i:=4) (k:=eC (S "saved")) (e:=aU [cL [eC (.int 1),eC (.int 2),eC (.int 3),eC (.int 4),eC (.int 5),eC (.int 6),eC (.int 7),eC (.int 8)],eC (.int 70)]) (d:=sV) (z:=.inr (Str.ofString "saved")) (ks:=KS) (ks':=KS) (ts:=[q0.p,q0.k,q0.g,q0.r,.m [] [],.d cK,q0.w,q0.hd,q0.ru,q0.sv]) (ts':=[q0.p,q0.k,q0.g,q0.r,.m [] [],.d cK,q0.w,q0.hd,q0.ru,.d sV]) rfl (P1 (q:={q0 with h:=.d cK}) (q':=q0) (y:=aa 2) rfl) rfl rfl rfl rfl (by decide) (by kernel_rfl)
 rw[au p2];show ∃a b r ks ks' ls es es' lw,a≠b∧bt 14 ls ks es∧bt 14 ls ks' es'∧(cU 4 ls lw∧∀x∈ls,1≤x∧x≤15)∧aj _ [.sh sc,.sh (.int c),.sh (.int _),.sh (.int _),.on (.tr (bw false _ _ qA q0 (.m [] []) (.m [] []) (.m [] []) (.d bD) (.d bE))),.un,.un,.un,.un,.un,.un,.un]=_;have p3:=gO (i:=4) (k:=eC (S "handler")) (e:=eC (.int 50)) (d:=.int 50) (z:=.inr (Str.ofString "handler")) (ks:=KS) (ks':=KS) (ts:=[q0.p,q0.k,q0.g,q0.r,.m [] [],q0.h,q0.w,q0.hd,q0.ru,q0.sv]) (ts':=[q0.p,q0.k,q0.g,q0.r,.m [] [],q0.h,q0.w,.d (.int 50),q0.ru,q0.sv]) rfl (P2 (q:=qA) (q':=q0) (y:=aa 3) rfl) rfl rfl rfl rfl (by decide) (by kernel_rfl)
 rw[au p3];show ∃a b r ks ks' ls es es' lw,a≠b∧bt 14 ls ks es∧bt 14 ls ks' es'∧(cU 4 ls lw∧∀x∈ls,1≤x∧x≤15)∧aj _ [.sh sc,.sh (.int c),.sh (.int _),.sh (.int _),.on (.tr (bw false _ _ qA {q0 with hd:=.d (.int 50)} (.m [] []) (.m [] []) (.m [] []) (.d bD) (.d bE))),.un,.un,.un,.un,.un,.un,.un]=_;have p4:=gO (i:=4) (k:=eC (S "rung")) (e:=e2 oEq (e2 oMod (aa 1) (eC (.int 2))) (eC (.int 1))) (d:=.bl (decide (c % 2=1))) (z:=.inr (Str.ofString "rung")) (ks:=KS) (ks':=KS) (ts:=[q0.p,q0.k,q0.g,q0.r,.m [] [],q0.h,q0.w,.d (.int 50),q0.ru,q0.sv]) (ts':=[q0.p,q0.k,q0.g,q0.r,.m [] [],q0.h,q0.w,.d (.int 50),.d (.bl (decide (c % 2=1))),q0.sv]) (jx (cu rfl rfl (by decide)) rfl) (P2 (q:=qA) (q':={q0 with hd:=.d (.int 50)}) (y:=aa 3) rfl) rfl rfl rfl rfl (by decide) (by kernel_rfl)
 rw[au p4];generalize decide (c % 2=1)=r;show ∃a b r ks ks' ls es es' lw,a≠b∧bt 14 ls ks es∧bt 14 ls ks' es'∧(cU 4 ls lw∧∀x∈ls,1≤x∧x≤15)∧aj _ [.sh sc,.sh (.int c),.sh (.int _),.sh (.int _),.on (.tr (dB _ _ _ [] [] [] [] [] [])),.un,.un,.un,.un,.un,.un,.un]=_;subst NO;have S':=Int.emod_lt_of_pos (c / 225) (show(0:Int)<4 by decide)
 have Xr:=Int.emod_nonneg (c / 225) (show(4:Int)≠0 by decide)
 obtain⟨ρ1,eL,ks,ls,es,lw,x5,x6,x7,x8,x9,x10,x11,hp,hl,Pn,Mu⟩:=mf (tg:=aE 5) (body:=mF) (fun n ρ=>∃ks ls es lw x5 x6 x7 x8 x9 x10 x11,bt n ls ks es∧cU n ls lw∧(∀x∈ls,1≤x∧x≤15)∧ρ=[.sh (.lst (ns.map .int)),.sh (.int c),.sh (.int a),.sh (.int b),.on (.tr (dB a b r ks [] ls es [] lw)),x5,x6,x7,x8,x9,x10,x11]) (ds:=dG 0 (c / 225 % 4)) 0 (by
   intro n d hk ρ ⟨ks,ls,es,lw,x5,x6,x7,x8,x9,x10,x11,hp,hl,Pn,Mu⟩;obtain⟨rfl,Mn⟩:=pF hk;subst Mu;refine⟨_,rfl,?_⟩;rw[show(0:Int)+(n:Int)=(n:Int) by omega,show 0+n=n by omega]
   rw[show 0+n=n by omega]at hp hl
   obtain⟨LC,LO,LF,LS,y6,y7,y8,y9,MX,MW,hs,NA,PZ,Wi⟩:=J3 (c:=c) (ns:=ns) (r:=r) (x6:=x6) (x7:=x7) (x8:=x8) (x9:=x9) (x10:=x10) (x11:=x11) h hp hl Pn (by omega)
   exact⟨_,hs,LC,LO,LF,LS,_,y6,y7,y8,y9,MX,MW,NA,PZ,Wi,rfl⟩) (ρ:=[.sh (.lst (ns.map .int)),.sh (.int c),.sh (.int a),.sh (.int b),.on (.tr (dB a b r [] [] [] [] [] [])),.un,.un,.un,.un,.un,.un,.un]) ⟨[],[],[],[],.un,.un,.un,.un,.un,.un,.un,⟨List.nodup_nil,rfl,Nat.le_refl _,fun _ hm=>nomatch hm⟩,⟨List.nodup_nil,rfl,Nat.le_refl _,fun _ hm=>nomatch hm⟩,(fun _ hm=>nomatch hm),rfl⟩
 have hlen:(dG 0 (c / 225 % 4)).length≤4:=by unfold dG;rw[List.length_map,List.length_range];omega
 have hp:=hp.sub (m:=4) (fun _ h=>h) (by omega)
 have hl:=hl.up (m:=4) (by omega)
 rw[au (fL (ds:=dG 0 (c / 225 % 4)) (by rw[kh,cu (i:=c / 225) (u:=4) (di rfl rfl (by decide)) rfl (by decide)];exact if_pos (by unfold inR;rw[decide_eq_true (by omega),decide_eq_true (by omega)];rfl)) eL)]
 subst Mu
 obtain⟨ρ2,VO,LC,Nh,LF,Nc,x5,x6,x7,x8,x9,x10,x11,NA,O6,Mu⟩:=mf (tg:=aE 7) (body:=lq) (fun n ρ=>∃ks ks' es es' x5 x6 x7 x8 x9 x10 x11,bt (4+n) ls ks es∧bt (4+n) ls ks' es'∧ρ=[.sh (.lst (ns.map .int)),.sh (.int c),.sh (.int a),.sh (.int b),.on (.tr (dB a b r ks ks' ls es es' lw)),x5,x6,x7,x8,x9,x10,x11]) (ds:=dG 3 13) 0 (by
   intro n d hk ρ ⟨ks,ks',es,es',x5,x6,x7,x8,x9,x10,x11,hp,Oq,Mu⟩;obtain⟨rfl,Mn⟩:=pF hk;subst Mu;refine⟨_,rfl,?_⟩;obtain⟨LC,Nh,LF,Nc,y5,y6,y8,y9,MX,MW,hs,NA,O6⟩:=Dz (c:=c) (ns:=ns) (r:=r) (k7:=3+(n:Int)) (x5:=x5) (x6:=x6) (x8:=x8) (x9:=x9) (x10:=x10) (x11:=x11) h (by omega) hp Oq (hl.up (m:=4+(0+n)) (by omega)) (by omega)
   exact⟨_,hs,LC,Nh,LF,Nc,y5,y6,_,y8,y9,MX,MW,NA,O6,rfl⟩) (ρ:=[.sh (.lst (ns.map .int)),.sh (.int c),.sh (.int a),.sh (.int b),.on (.tr (dB a b r ks [] ls es [] lw)),x5,x6,x7,x8,x9,x10,x11]) ⟨ks,[],es,[],x5,x6,x7,x8,x9,x10,x11,hp,⟨List.nodup_nil,rfl,Nat.zero_le _,fun _ hm=>nomatch hm⟩,rfl⟩
 rw[au (fL (ds:=dG 3 13) rfl VO)];subst Mu;rw[au (vd rfl)];refine⟨a,b,r,LC,Nh,ls,LF,Nc,lw,h,NA,O6,⟨hl,Pn⟩,br (cj ?_)⟩;show R.ok (T.toD (dB a b r LC Nh ls LF Nc lw))=_;unfold dB;rw[pV,ky,ky,rh];rfl
noncomputable def aB{α:Type}(p:Int→Bool):List Int→List α→List Int×List α
 |k::ks,e::es=>if p k=true then(k::(aB p ks es).1,e::(aB p ks es).2)else aB p ks es
 |_,_=>([],[])
theorem jG{α:Type}:∀ {ks:List Int} {es:List α},(aB p ks es).1.length=(aB p ks es).2.length
 |[],es=>by simp[aB]
 |k::ks,[]=>by simp[aB]
 | k::ks,e::es=>by
   have ih:=jG (p:=p) (ks:=ks) (es:=es);unfold aB;by_cases h:p k=true
   ·rw[if_pos h];simp[ih]
   ·rw[if_neg h];exact ih
theorem r9{α:Type}:∀ {ks:List Int} {es:List α},ks.length=es.length→(x∈(aB p ks es).1↔x∈ks∧p x=true)
 |[],es,_=>by simp[aB]
 |k::ks,[],h=>by simp at h
 | k::ks,e::es,hl=>by
   have ih:=r9 (p:=p) (x:=x) (ks:=ks) (es:=es) (by simpa using hl)
   unfold aB;by_cases h:p k=true
   · rw[if_pos h,List.mem_cons,List.mem_cons,ih]
     constructor
     · rintro(rfl|⟨h1,h2⟩)
       ·exact⟨.inl rfl,h⟩
       ·exact⟨.inr h1,h2⟩
     · rintro⟨rfl|h1,h2⟩
       ·exact .inl rfl
       ·exact .inr ⟨h1,h2⟩
   · rw[if_neg h,ih,List.mem_cons]
     constructor
     ·rintro⟨h1,h2⟩;exact⟨.inr h1,h2⟩
     · rintro⟨rfl|h1,h2⟩
       ·exact absurd h2 h
       ·exact⟨h1,h2⟩
theorem pj{α:Type}{p:Int→Bool}{x:α}:∀ {ks:List Int} {es:List α},x∈(aB p ks es).2→x∈es
 |[],es,h=>by simp[aB]at h
 |k::ks,[],h=>by simp[aB]at h
 | k::ks,e::es,h=>by
   unfold aB at h;by_cases hp:p k=true
   · rw[if_pos hp]at h
     rcases List.mem_cons.mp h with rfl|h
     ·exact List.mem_cons_self
     ·exact List.mem_cons_of_mem _ (pj h)
   · rw[if_neg hp]at h
     exact List.mem_cons_of_mem _ (pj h)
theorem jk{α:Type}:∀ {ks:List Int} {es:List α},(aB p ks es).1.Sublist ks
 |[],es=>by simp[aB]
 |k::ks,[]=>by simp[aB]
 | k::ks,e::es=>by
   have ih:=jk (p:=p) (ks:=ks) (es:=es);unfold aB;by_cases h:p k=true
   ·rw[if_pos h];exact List.Sublist.cons₂ _ ih
   ·rw[if_neg h];exact List.Sublist.cons _ ih
theorem rX{α:Type}:∀ {ks:List Int} {es:List α},(∀x∈ks,r x=(p x&&q x))→aB q (aB p ks es).1 (aB p ks es).2=aB r ks es
 |[],es,_=>by simp[aB]
 |k::ks,[],_=>by simp[aB]
 | k::ks,e::es,h=>by
   have ih:=rX (p:=p) (q:=q) (r:=r) (ks:=ks) (es:=es) fun x hx=>h x (List.mem_cons_of_mem _ hx);have hk:=h k List.mem_cons_self;by_cases h1:p k=true
   · by_cases h2:q k=true
     · simp only[aB,h1,h2,if_true,hk,Bool.and_self]
       rw[←ih]
     · simp only[aB,h1,h2,if_true,if_false,hk,Bool.true_and]
       rw[←ih]
   · simp only[aB,h1,if_false,hk,Bool.false_and,Bool.false_eq_true]
     exact ih
theorem tw{α:Type}:∀ {ks:List Int} {es:List α},ks.length=es.length→(∀x∈ks,p x=true)→aB p ks es=(ks,es)
 |[],[],_,_=>rfl
 |[],_::_,h,_=>by simp at h
 |k::ks,[],h,_=>by simp at h
 | k::ks,e::es,hl,h=>by
   have ih:=tw (p:=p) (ks:=ks) (es:=es) (by simpa using hl) fun x hx=>h x (List.mem_cons_of_mem _ hx)
   unfold aB;rw[if_pos (h k List.mem_cons_self),ih]
theorem pw{α β:Type}(f:α→β)(z:Int):∀(ks:List Int) (es:List α),bA (.inl z) (IK ks) (es.map f)=(IK (aB (fun k=>decide (k≠z)) ks es).1,(aB (fun k=>decide (k≠z)) ks es).2.map f)
 |[],es=>by simp[IK,bA,aB]
 |k::ks,[]=>by simp[IK,bA,aB]
 | k::ks,e::es=>by
   have ih:=pw f z ks es;unfold IK at ih ⊢;rw[List.map_cons,List.map_cons,bA,aB];by_cases h:k=z
   ·rw[if_pos (by rw[h]),if_neg (by simp[h]),ih]
   ·rw[if_neg (fun q=>h (Sum.inl.inj q)),if_pos (by simp[h]),ih];rfl
theorem pS:∀ {ks:List Int},z∈ks→(gb (.inl z) (IK ks)).isSome=true
 |[],h=>by simp at h
 | k::ks,h=>by
   unfold IK;rw[List.map_cons,gb];by_cases hk:k=z
   ·rw[if_pos (by rw[hk])];rfl
   · rw[if_neg (fun q=>hk (Sum.inl.inj q)),Option.isSome_map]
     exact pS ((List.mem_cons.mp h).resolve_left fun q=>hk q.symm)
theorem eI(h1:tg d ρ=.ok ρ1)(h2:body ρ1=.ok (.next ρ2)):forL tg body (d::ds) ρ=forL tg body ds ρ2:=by
 rw[forL,h1,R.aO,h2,R.aO]
theorem wG(hf:f ρ=.ok p)(hk:k ρ=.ok q)(hz:keyOf q=some z)(ht:ρ[i]? =some (.on (.tr t)))(Mp:T.at t p=some (.m ks ts))(NB:(gb z ks).isSome=true)(hp:bA z ks ts=(ks',ts')):jh i f k ρ=.ok (.next ((fM i p ρ).set i (.on (.tr (T.put (.m ks' ts') t p))))):=by
 unfold jh;simp only[hf,hk,R.aO,ht,hz,Mp];rw[if_pos NB,hp]
def aS:List Ent→List Int
 |[]=>[]
 |.ln n::es=>n::aS es
 |.own _::es=>aS es
theorem rO:oEq (S "lent") (S "lent")=.ok (.bl true):=eq_str (by kernel_rfl)
theorem qb:oEq (S "own") (S "lent")=.ok (.bl false):=eq_str (by kernel_rfl)
theorem yk(e:Ent):cf e.d=true:=by
 cases e with
 | own ws=>
   show(cf (S "own")&&(cf (W ws)&&true))=true
   have:cf (W ws)=true:=by
     show er (ws.map D.int)=true
     induction ws with
     |nil=>rfl
     |cons w ws ih=>show(cf (.int w)&&er (ws.map D.int))=true;rw[ih];rfl
   rw[this];rfl
 |ln n=>rfl
theorem sZ:∀(es:List Ent) {hs:List Int} {x2 x3:Slot},hs.length+es.length<1000→eW x3=true→∃y3,forL (aE 3) ja (es.map Ent.d) [.sh s,.ol (hs.map .int),x2,x3,.un]=.ok (.next [.sh s,.ol ((hs++aS es).map .int),x2,y3,.un])∧eW y3=true
 |[],hs,x2,x3,_,h3=>⟨x3,by rw[aS,List.append_nil];rfl,h3⟩
 | e::es,hs,x2,x3,hl,h3=>by
   rw[List.length_cons]at hl;cases e with
   | own ws=>
     obtain⟨y3,h,hy⟩:=sZ es (hs:=hs) (x2:=x2) (x3:=.sh (Ent.own ws).d) (by omega) (yk _)
     refine⟨y3,?_,hy⟩
     have hb:ja [.sh s,.ol (hs.map .int),x2,.sh (Ent.own ws).d,.un]=.ok (.next [.sh s,.ol (hs.map .int),x2,.sh (Ent.own ws).d,.un]):=by
       rw[ja];exact bc (aR (aG (o:=oEq) (x:=S "own") rfl rfl qb))
     rw[List.map_cons,eI rfl hb];exact h
   | ln n=>
     obtain⟨y3,h,hy⟩:=sZ es (hs:=hs++[n]) (x2:=x2) (x3:=.sh (Ent.ln n).d) (by rw[List.length_append];simp;omega) (yk _)
     refine⟨y3,?_,hy⟩
     have hb:ja [.sh s,.ol (hs.map .int),x2,.sh (Ent.ln n).d,.un]=.ok (.next [.sh s,.ol ((hs++[n]).map .int),x2,.sh (Ent.ln n).d,.un]):=by
       rw[ja,bO (aR (aG (o:=oEq) (x:=S "lent") rfl rfl rO))];rw[vA (d:=.int n) (xs:=hs.map .int) rfl rfl (by rw[List.length_map];omega),List.map_append];rfl
     rw[List.map_cons,eI rfl hb,h,aS,List.append_assoc];rfl
section
variable{a b:Int}{q q':QT}{nd bx:T}{ls ks ks':List Int}{lw:List (List Int)}{es es':List Ent}
theorem u0(z:Int):∀hs:List Int,cA (.int z) (.lst (hs.map .int))=.ok (.bl (decide (z∈hs))):=fun hs=>by
 show(if flat (D.int z)=true∧(hs.map D.int).all flat=true then R.ok (D.bl ((hs.map D.int).any fun y=>b3 y (.int z)))else .bad)=_
 rw[if_pos ⟨rfl,by rw[List.all_eq_true];intro d hd;obtain⟨i,_,rfl⟩:=List.mem_map.mp hd;rfl⟩]
 congr 2
 induction hs with
 |nil=>rfl
 | cons h hs ih=>
   rw[List.map_cons,List.any_cons,ih];have:b3 (.int h) (.int z)=decide (h=z):=rfl;rw[this];by_cases e:h=z
   ·subst e;simp
   · have e':¬z=h:=fun q=>e q.symm
     simp[e,e']
theorem sU{pg pg':T}{hs:List Int}:∀(zs:List Int) {ls:List Int} {lw:List (List Int)} {x2 x3 x4:Slot},ls.length=lw.length→ls.Nodup→zs.Nodup→(∀z∈zs,z∈ls)→∃y2 y3 y4,forL (aE 4) jH (zs.map .int) [.on (.tr (bw false a b q q' pg pg' (cv ls lw) nd bx)),.sh (.lst (hs.map .int)),x2,x3,x4]=.ok (.next [.on (.tr (bw false a b q q' pg pg' (cv (aB (fun n=>decide (n∉zs∨n∈hs)) ls lw).1 (aB (fun n=>decide (n∉zs∨n∈hs)) ls lw).2) nd bx)),.sh (.lst (hs.map .int)),y2,y3,y4])
 |[],ls,lw,x2,x3,x4,hl,_,_,_=>⟨x2,x3,x4,by rw[tw hl (fun x _=>by simp)];rfl⟩
 | z::zs,ls,lw,x2,x3,x4,hl,nl,nz,hz=>by
   have Sq:=List.nodup_cons.mp nz;by_cases hh:z∈hs
   · obtain⟨y2,y3,y4,h⟩:=sU zs (ls:=ls) (lw:=lw) (x2:=x2) (x3:=x3) (x4:=.sh (.int z)) hl nl Sq.2 fun y hy=>hz y (List.mem_cons_of_mem _ hy)
     refine⟨y2,y3,y4,?_⟩
     have hb:jH [.on (.tr (bw false a b q q' pg pg' (cv ls lw) nd bx)),.sh (.lst (hs.map .int)),x2,x3,.sh (.int z)]=.ok (.next [.on (.tr (bw false a b q q' pg pg' (cv ls lw) nd bx)),.sh (.lst (hs.map .int)),x2,x3,.sh (.int z)]):=by
       rw[jH];refine bc (aR (aG rfl rfl ?_));unfold cY;rw[u0,decide_eq_true hh];rfl
     rw[List.map_cons,eI rfl hb,h]
     have:aB (fun n=>decide (n∉zs∨n∈hs)) ls lw=aB (fun n=>decide (n∉z::zs∨n∈hs)) ls lw:=by
       congr 1;funext n;by_cases hn:n=z
       ·subst hn;simp[hh]
       ·simp[hn]
     rw[this]
   · obtain⟨y2,y3,y4,h⟩:=sU zs (ls:=(aB (fun k=>decide (k≠z)) ls lw).1) (lw:=(aB (fun k=>decide (k≠z)) ls lw).2) (x2:=cb 0 [1] x2) (x3:=cb 0 [1] x3) (x4:=.sh (.int z)) jG (nl.sublist jk) Sq.2 fun y hy=>(r9 hl).mpr ⟨hz y (List.mem_cons_of_mem _ hy),by simp;exact fun e=>Sq.1 (e▸hy)⟩
     refine⟨y2,y3,y4,?_⟩
     have hb:jH [.on (.tr (bw false a b q q' pg pg' (cv ls lw) nd bx)),.sh (.lst (hs.map .int)),x2,x3,.sh (.int z)]=.ok (.next [.on (.tr (bw false a b q q' pg pg' (cv (aB (fun k=>decide (k≠z)) ls lw).1 (aB (fun k=>decide (k≠z)) ls lw).2) nd bx)),.sh (.lst (hs.map .int)),cb 0 [1] x2,cb 0 [1] x3,.sh (.int z)]):=by
       rw[jH,bO (aR (aG (o:=cY) (d:=.bl true) rfl rfl (by unfold cY;rw[u0,decide_eq_false hh];rfl)))]
       have Qk:pX 0 pN (eC (S "lent")) [.on (.tr (bw false a b q q' pg pg' (cv ls lw) nd bx)),.sh (.lst (hs.map .int)),x2,x3,.sh (.int z)]=.ok [1]:=tI rfl;rw[wG (t:=bw false a b q q' pg pg' (cv ls lw) nd bx) (ks:=IK ls) (ts:=lw.map fun w=>T.d (W w)) Qk rfl rfl rfl rfl (pS (hz z List.mem_cons_self)) (pw (fun w=>T.d (W w)) z ls lw)];rfl
     rw[List.map_cons,eI rfl hb,h,rX (r:=fun n=>decide (n∉z::zs∨n∈hs)) fun x hx=>?_];by_cases hn:x=z
     ·subst hn;simp[hh]
     ·simp[hn]
end
theorem IU(h:b (.on (.tr t)::(ds.map .sh++List.replicate (n - 1 - ds.length) .un))=.ok (.next ρ))(h0:ρ[0]? =some (.on (.tr t'))):mZ n b t ds=.ok t':=by
 unfold mZ;rw[h,R.aO];show(match ρ[0]? with|some (Slot.on (.tr t'))=>R.ok t'|_=>.bad)=_
 rw[h0]
theorem AB(h:ρ[i]? =some (.on (.tr t)))(hf:f (bZ i t ρ)=.ok (.next ρ2))(hn:(ρ2.set i .un).all eW=true):kn i f ρ=.ok (.next (ρ2.set i (.on (.tr t)))):=by
 unfold kn;rw[h];show(f (bZ i t ρ)).bind _=_;rw[hf,R.aO];show(if(ρ2.set i .un).all eW=true then R.ok (Fl.next (ρ2.set i (.on (.tr t))))else .bad)=_
 rw[if_pos hn]
theorem qq:∀hs:List Int,er (hs.map D.int)=true
 |[]=>rfl
 |h::hs=>by show(cf (.int h)&&er (hs.map D.int))=true;rw[qq hs];rfl
theorem mK:∀es:List Ent,(aS es).length≤es.length
 |[]=>Nat.le_refl _
 |.ln n::es=>by have:=mK es;simp[aS];omega
 |.own _::es=>by have:=mK es;simp[aS];omega
section
variable{a b:Int}{q q':QT}{nd bx:T}{ls ks ks':List Int}{lw:List (List Int)}{es es':List Ent}
theorem xv{j:Bool}{q q':Q}{pg' lt:D}(h:a≠b)(hk:ks.length=es.length){hs:List Int}{x3:Slot}(hl:hs.length+es.length<1000)(h3:eW x3=true):∃y3,ke [.sh (st j a b q q' (ab ks es) pg' lt),.ol (hs.map .int),.sh (.int (tid j a b)),x3,.un]=.ok (.next [.sh (st j a b q q' (ab ks es) pg' lt),.ol ((hs++aS es).map .int),.sh (.int (tid j a b)),y3,.un])∧eW y3=true:=by
 obtain⟨y3,e,hy⟩:=sZ (s:=st j a b q q' (ab ks es) pg' lt) es (hs:=hs) (x2:=.sh (.int (tid j a b))) (x3:=x3) hl h3;refine⟨y3,?_,hy⟩;rw[ke];refine fL (ds:=es.map Ent.d) ?_ e;unfold j4;rw[mH h rfl rfl,R.aO];show(if(IK ks).length=(es.map Ent.d).length then R.ok (es.map Ent.d)else .bad)=_
 rw[if_pos (by unfold IK;rw[List.length_map,List.length_map,hk])]
theorem v7(h:a≠b)(cK:T.toD nd=bD)(V3:T.toD bx=bE)(hk:ks.length=es.length)(M5:ks'.length=es'.length)(LQ:es.length+es'.length<1000)(hl:ls.length=lw.length)(hn:ls.Nodup)(Nf:ls.length<64):
   gq (bw false a b q q' (bq ks es) (bq ks' es') (cv ls lw) nd bx) []=.ok (bw false a b q q' (bq ks es) (bq ks' es') (cv (aB (fun n=>decide (n∈aS es++aS es')) ls lw).1 (aB (fun n=>decide (n∈aS es++aS es')) ls lw).2) nd bx):=by
 have hD:T.toD (bw false a b q q' (bq ks es) (bq ks' es') (cv ls lw) nd bx)=st false a b q.q q'.q (ab ks es) (ab ks' es') (ah ls lw):=by
   rw[pV,ky,ky,rh,cK,V3];rfl
 generalize ht:bw false a b q q' (bq ks es) (bq ks' es') (cv ls lw) nd bx=t at hD;rw[gq];have ll:=mK es;obtain⟨y3,eA,h3⟩:=xv (j:=false) (q:=q.q) (q':=q'.q) (pg':=ab ks' es') (lt:=ah ls lw) h hk (hs:=[]) (x3:=.un) (by simp;omega) rfl
 obtain⟨z3,eB,h4⟩:=xv (j:=true) (q:=q'.q) (q':=q.q) (pg':=ab ks es) (lt:=ah ls lw) h M5 (hs:=[]++aS es) (x3:=y3) (by simp;omega) h3
 have hS:dy (gC (e2 ao (aa 0) (eC (S "tasks")))) (aE 2) ke [.sh (st false a b q.q q'.q (ab ks es) (ab ks' es') (ah ls lw)),.ol [],.un,.un,.un]=.ok (.next [.sh (st false a b q.q q'.q (ab ks es) (ab ks' es') (ah ls lw)),.ol ((aS es++aS es').map .int),.sh (.int b),z3,.un]):=by
   refine fL (ds:=[.int a,.int b]) ?_ ?_
   · unfold gC
     rw[aG (x:=st false a b q.q q'.q (ab ks es) (ab ks' es') (ah ls lw)) rfl rfl nR,R.aO];rfl
   · rw[eI (ρ1:=[.sh (st false a b q.q q'.q (ab ks es) (ab ks' es') (ah ls lw)),.ol [],.sh (.int a),.un,.un]) rfl eA]
     rw[eI (ρ1:=[.sh (st false a b q.q q'.q (ab ks es) (ab ks' es') (ah ls lw)),.ol (([]++aS es).map .int),.sh (.int b),y3,.un]) rfl eB];rfl
 have hp:kn 0 (dy (gC (e2 ao (aa 0) (eC (S "tasks")))) (aE 2) ke) [.on (.tr t),.ol [],.un,.un,.un]=.ok (.next [.on (.tr t),.ol ((aS es++aS es').map .int),.sh (.int b),z3,.un]):=by
   refine AB (ρ2:=[.sh (st false a b q.q q'.q (ab ks es) (ab ks' es') (ah ls lw)),.ol ((aS es++aS es').map .int),.sh (.int b),z3,.un]) rfl ?_ ?_
   · show dy _ _ _ [.sh (T.toD t),.ol [],.un,.un,.un]=_
     rw[hD];exact hS
   · show(eW .un&&(er ((aS es++aS es').map D.int)&&(eW (.sh (.int b))&&(eW z3&&(eW .un&&true)))))=true
     rw[qq,h4];rfl
 obtain⟨y2,UD,y4,To⟩:=sU (a:=a) (b:=b) (q:=q) (q':=q') (nd:=nd) (bx:=bx) (pg:=bq ks es) (pg':=bq ks' es') (hs:=aS es++aS es') (aV ls) (ls:=ls) (lw:=lw) (x2:=.sh (.int b)) (x3:=z3) (x4:=.un) hl hn ((fm ls).nodup_iff.mpr hn) fun z hz=>(fm ls).mem_iff.mp hz
 have Nl:aB (fun n=>decide (n∉aV ls∨n∈aS es++aS es')) ls lw=aB (fun n=>decide (n∈aS es++aS es')) ls lw:=by
   have:=rX (p:=fun _=>true) (q:=fun n=>decide (n∉aV ls∨n∈aS es++aS es')) (r:=fun n=>decide (n∈aS es++aS es')) (ks:=ls) (es:=lw) fun x hx=>by
     have:x∈aV ls:=(fm ls).mem_iff.mpr hx;simp[this]
   rw[tw hl fun _ _=>rfl]at this;exact this
 rw[←Nl];refine IU (ρ:=[.on (.tr (bw false a b q q' (bq ks es) (bq ks' es') (cv (aB (fun n=>decide (n∉aV ls∨n∈aS es++aS es')) ls lw).1 (aB (fun n=>decide (n∉aV ls∨n∈aS es++aS es')) ls lw).2) nd bx)),.sh (.lst ((aS es++aS es').map .int)),y2,UD,y4]) ?_ rfl
 · show aj _ [.on (.tr t),.un,.un,.un,.un]=_
   rw[au (uk (xs:=[]) rfl)];show aj _ [.on (.tr t),.ol [],.un,.un,.un]=_;rw[au hp];rw[au (ρ':=[.on (.tr t),.sh (.lst ((aS es++aS es').map .int)),.sh (.int b),z3,.un]) rfl];rw[ht]at To
   have hi:eF (jo 0 (e1 de (e2 ao (aa 0) (eC (S "lent"))))) [.on (.tr t),.sh (.lst ((aS es++aS es').map .int)),.sh (.int b),z3,.un]=.ok ((aV ls).map .int):=by
     have h1:(e1 de (e2 ao (aa 0) (eC (S "lent")))) (bZ 0 t [.on (.tr t),.sh (.lst ((aS es++aS es').map .int)),.sh (.int b),z3,.un])=.ok (.lst ((aV ls).map .int)):=by
       refine cV (x:=ah ls lw) (aG (x:=st false a b q.q q'.q (ab ks es) (ab ks' es') (ah ls lw)) (by show R.ok (T.toD t)=_;rw[hD]) rfl ig) (mL Nf)
     unfold eF jo;show(((e1 de (e2 ao (aa 0) (eC (S "lent")))) (bZ 0 t [.on (.tr t),.sh (.lst ((aS es++aS es').map .int)),.sh (.int b),z3,.un])).bind _).bind items=_;rw[h1,R.aO];show(if er ((aV ls).map D.int)=true then R.ok (D.lst ((aV ls).map D.int))else .bad).bind items=_
     rw[if_pos (qq _)];rfl
   rw[au (fL hi To)];rfl
end
def mn:Ent→Bool
 |.ln _=>true
 |.own _=>false
def xc:Ent→D
 |.ln n=>.int n
 |.own _=>.aH
theorem ue:∀es:List Ent,((es.filter mn).map xc)=(aS es).map D.int
 |[]=>rfl
 | .ln n::es=>by
   have ih:=ue es;rw[List.filter_cons,if_pos (show mn (.ln n)=true from rfl),List.map_cons,ih];rfl
 | .own _::es=>by
   have ih:=ue es;rw[List.filter_cons,if_neg (by simp[mn]),ih];rfl
theorem pk(hk:ks.length=es.length)(h:hs.length+es.length<1000):oI [.sh s,.ol (hs.map .int),.sh (tk q (ab ks es))]=.ok (.next [.sh s,.ol ((hs++aS es).map .int),.sh (tk q (ab ks es))]):=by
 have hc:(dg (j4 (e2 ao (aa 2) (eC (S "pages")))) 1 [] (aE 0) [tV (e2 oEq (e2 ao (aa 0) (eC (.int 0))) (eC (S "lent")))] (e2 ao (aa 0) (eC (.int 1)))) [.sh s,.ol (hs.map .int),.sh (tk q (ab ks es))]=.ok (.lst ((aS es).map .int)):=by
   refine jN (ds:=es.map Ent.d) ?_ (by rw[List.length_map];omega) ?_
   · unfold j4
     rw[aG (x:=tk q (ab ks es)) rfl rfl zT,R.aO];show(if(IK ks).length=(es.map Ent.d).length then R.ok (es.map Ent.d)else .bad)=_
     rw[if_pos (by unfold IK;rw[List.length_map,List.length_map,hk])]
   · rw[←ue]
     refine so Ent.d mn xc fun e he=>⟨[.sh e.d],rfl,?_,fun hp=>?_⟩
     · have ht:tV (e2 oEq (e2 ao (aa 0) (eC (.int 0))) (eC (S "lent"))) [.sh e.d]=.ok (mn e):=by
         cases e with
         |own ws=>exact aR (aG (o:=oEq) (x:=S "own") rfl rfl qb)
         |ln n=>exact aR (aG (o:=oEq) (x:=S "lent") rfl rfl rO)
       unfold eQ.i3;rw[ht,R.aO];cases mn e<;>rfl
     · cases e with
       |own ws=>cases hp
       |ln n=>rfl
 rw[oI];unfold o7;rw[hc,R.aO];show(if(hs.map D.int).length+((aS es).map D.int).length≤eO then R.ok (Fl.next ([.sh s,.ol (hs.map .int),.sh (tk q (ab ks es))].set 1 (.ol (hs.map D.int++(aS es).map D.int))))else .bad)=_
 have:=mK es;rw[if_pos (by rw[List.length_map,List.length_map];show _≤16777216;omega),List.map_append]
 rfl
section
variable{j:Bool}{a b:Int}{q q':Q}{ls ks ks':List Int}{lw:List (List Int)}{es es':List Ent}
theorem FZ(a b:Int):aV [a,b]=if a≤b then [a,b]else [b,a]:=by
 by_cases h:a≤b
 · rw[if_pos h]
   exact(sN (List.Perm.refl _) (by simp[h])).symm
 · rw[if_neg h]
   exact(sN (List.Perm.swap a b []) (by simp;omega)).symm
theorem DF(h:a≠b):kD [.aw SK [dE false a b A B,lt,bD,bE,.int 4]]=.ok (.lst (if a≤b then [A,B]else [B,A])):=by
 rw[kD];refine bT (cj ?_);show dg _ _ _ _ _ _ [.sh (.aw SK [dE false a b A B,lt,bD,bE,.int 4])]=_;have NS:ao (.aw SK [dE false a b A B,lt,bD,bE,.int 4]) (S "tasks")=.ok (dE false a b A B):=by kernel_rfl
 refine jN (ds:=(aV [a,b]).map .int) ?_ (by rw[List.length_map,(fm [a,b]).length_eq];show 2≤16777216;decide) ?_
 · unfold eF
   rw[cV (aG rfl rfl NS) (mL (ks:=[a,b]) (show 2<64 by decide)),R.aO];rfl
 · have key:∀t∈aV [a,b],∃ρ1,aE 0 (.int t) (List.replicate 1 .un++frees [.sh (.aw SK [dE false a b A B,lt,bD,bE,.int 4])] [0])=.ok ρ1∧(e2 ao (e2 ao (aa 1) (eC (S "tasks"))) (aa 0)) ρ1=.ok (if t=a then A else B):=fun t ht=>by
     refine⟨[.sh (.int t),.sh (.aw SK [dE false a b A B,lt,bD,bE,.int 4])],rfl,?_⟩;refine aG (aG rfl rfl NS) (y:=.int t) rfl ?_;have hm:=(fm [a,b]).mem_iff.mp ht;simp only[List.mem_cons,List.not_mem_nil,or_false]at hm;rcases hm with rfl|rfl
     ·rw[if_pos rfl];exact ur (j:=false) h
     ·rw[if_neg (Ne.symm h)];exact ur (j:=true) (A:=B) (B:=A) h
   rw[mD (u:=D.int) (v:=fun t=>if t=a then A else B) key,FZ]
   by_cases OF:a≤b
   · rw[if_pos OF,if_pos OF]
     show R.ok [if a=a then A else B,if b=a then A else B]=_
     rw[if_pos rfl,if_neg (Ne.symm h)]
   · rw[if_neg OF,if_neg OF]
     show R.ok [if b=a then A else B,if a=a then A else B]=_
     rw[if_pos rfl,if_neg (Ne.symm h)]
theorem Bi(h:a≠b)(hk:ks.length=es.length)(M5:ks'.length=es'.length)(LQ:es.length+es'.length<1000):∃hs:List Int,oT [st false a b q q' (ab ks es) (ab ks' es') lt]=.ok (.lst (hs.map .int))∧∀n,n∈hs↔n∈aS es++aS es':=by
 rw[oT];have l1:=mK es;have l2:=mK es';generalize hs:st false a b q q' (ab ks es) (ab ks' es') lt=s;have ht:kD [s]=.ok (.lst (if a≤b then [tk q (ab ks es),tk q' (ab ks' es')]else [tk q' (ab ks' es'),tk q (ab ks es)])):=by rw[←hs];exact DF h
 have start:∀ {r:List Sm},aj (je 1 (cL [])::r) [.sh s,.un,.un]=aj r [.sh s,.ol [],.un]:=au (uk (xs:=[]) rfl);by_cases OF:a≤b
 · rw[if_pos OF]at ht
   refine⟨aS es++aS es',bT ?_,fun n=>Iff.rfl⟩;show aj _ [.sh s,.un,.un]=_
   rw[start,au (fL (ds:=[tk q (ab ks es),tk q' (ab ks' es')]) (by unfold eF;rw[jc rfl ht,R.aO];rfl) (by
     rw[eI (ρ1:=[.sh s,.ol (([]:List Int).map .int),.sh (tk q (ab ks es))]) rfl (pk hk (by simp;omega)),eI (ρ1:=[.sh s,.ol (([]++aS es).map .int),.sh (tk q' (ab ks' es'))]) rfl (pk M5 (by simp;omega))]
     rfl))]
   rfl
 · rw[if_neg OF]at ht
   refine⟨aS es'++aS es,bT ?_,fun n=>by simp[or_comm]⟩
   show aj _ [.sh s,.un,.un]=_
   rw[start,au (fL (ds:=[tk q' (ab ks' es'),tk q (ab ks es)]) (by unfold eF;rw[jc rfl ht,R.aO];rfl) (by
     rw[eI (ρ1:=[.sh s,.ol (([]:List Int).map .int),.sh (tk q' (ab ks' es'))]) rfl (pk M5 (by simp;omega)),eI (ρ1:=[.sh s,.ol (([]++aS es').map .int),.sh (tk q (ab ks es))]) rfl (pk hk (by simp;omega))]
     rfl))]
   rfl
end
theorem tf{α:Type}:∀(ks:List Int) (es:List α),aB p ks es=(((ks.zip es).filter fun x=>p x.1).map (·.1),((ks.zip es).filter fun x=>p x.1).map (·.2))
 |[],es=>by simp[aB]
 |k::ks,[]=>by simp[aB]
 | k::ks,e::es=>by
   have ih:=tf (p:=p) ks es;rw[aB,ih,List.zip_cons_cons,List.filter_cons];by_cases h:p k=true
   ·rw[if_pos h,if_pos h];rfl
   ·rw[if_neg h,if_neg h]
theorem xQ:∀(ls:List Int) (lw:List (List Int)),fB (IK ls) (lw.map W)=(ls.zip lw).map fun p=>D.tup [.int p.1,W p.2]
 |[],lw=>by simp[IK,fB]
 |l::ls,[]=>by simp[IK,fB]
 | l::ls,w::lw=>by
   have ih:=xQ ls lw;show D.tup [.int l,W w]::fB (IK ls) (lw.map W)=_;rw[ih];rfl
theorem putL_new{α:Type}(f:α→D){q:Int}{e:α}{ks:List Int}{es:List α}(h:q∉ks):putL (.inl q) (f e) (IK ks) (es.map f)=(IK (ks++[q]),(es++[e]).map f):=by
 unfold putL;rw[pE,if_neg (by rw[decide_eq_false h];decide)]
 unfold IK;rw[List.map_append,List.map_append];rfl
theorem vW:∀(ps:List (Int×List Int)) (ks:List Int) (ws:List (List Int)),(∀p∈ps,p.1∉ks)→(ps.map (·.1)).Nodup→gI (ps.map fun p=>D.tup [.int p.1,W p.2]) (IK ks) (ws.map W)=.ok (.aw (IK (ks++ps.map (·.1))) ((ws++ps.map (·.2)).map W))
 |[],ks,ws,_,_=>by simp[gI]
 | p::ps,ks,ws,h,nd=>by
   have LI:=List.nodup_cons.mp nd;show gI (ps.map fun p=>D.tup [.int p.1,W p.2]) (putL (.inl p.1) (W p.2) (IK ks) (ws.map W)).1 (putL (.inl p.1) (W p.2) (IK ks) (ws.map W)).2=_;rw[putL_new W (h p List.mem_cons_self)];rw[vW ps (ks++[p.1]) (ws++[p.2]) (fun x hx hm=>?_) LI.2]
   ·simp
   · rcases List.mem_append.mp hm with hm|hm
     ·exact h x (List.mem_cons_of_mem _ hx) hm
     · have e:=List.mem_singleton.mp hm
       exact LI.1 (by show p.1∈_;rw[←e];exact List.mem_map.mpr ⟨x,hx,rfl⟩)
section
variable{a b:Int}{q q':Q}{ls ks ks':List Int}{lw:List (List Int)}{es es':List Ent}
theorem zE(h:a≠b)(hk:ks.length=es.length)(M5:ks'.length=es'.length)(LQ:es.length+es'.length<1000)(hl:ls.length=lw.length)(hn:ls.Nodup)(Nf:ls.length<64):
   jq [st false a b q q' (ab ks es) (ab ks' es') (ah ls lw)]=.ok (st false a b q q' (ab ks es) (ab ks' es') (ah (aB (fun n=>decide (n∈aS es++aS es')) ls lw).1 (aB (fun n=>decide (n∈aS es++aS es')) ls lw).2)):=by
 obtain⟨hs,hh,hm⟩:=Bi (q:=q) (q':=q') (lt:=ah ls lw) h hk M5 LQ;rw[jq];refine bT ?_;show aj _ [.sh (st false a b q q' (ab ks es) (ab ks' es') (ah ls lw)),.un,.un]=_;rw[au (bI (jc rfl hh))];show aj _ [.sh (st false a b q q' (ab ks es) (ab ks' es') (ah ls lw)),.sh (.lst (hs.map .int)),.un]=_
 have hp:(fun n:Int=>decide (n∈aS es++aS es'))=fun n=>decide (n∈hs):=by
   funext n;simp only[hm]
 have hc:(dg (oS (e2 ao (aa 0) (eC (S "lent")))) 2 [1] (gc [0,1]) [tV (e2 cA (aa 0) (aa 2))] (aU [aa 0,aa 1])) [.sh (st false a b q q' (ab ks es) (ab ks' es') (ah ls lw)),.sh (.lst (hs.map .int)),.un]=.ok (.lst (((ls.zip lw).filter fun x=>decide (x.1∈hs)).map fun p=>D.tup [.int p.1,W p.2])):=by
   refine jN (ds:=(ls.zip lw).map fun p=>D.tup [.int p.1,W p.2]) ?_ (by rw[List.length_map,List.length_zip];omega) ?_
   · unfold oS
     rw[aG (x:=st false a b q q' (ab ks es) (ab ks' es') (ah ls lw)) rfl rfl ig,R.aO];show(if(IK ls).length=(lw.map W).length then R.ok (fB (IK ls) (lw.map W))else .bad)=_
     rw[if_pos (by unfold IK;rw[List.length_map,List.length_map,hl]),xQ]
   · refine so (fun p:Int×List Int=>D.tup [.int p.1,W p.2]) (fun x=>decide (x.1∈hs)) (fun p=>D.tup [.int p.1,W p.2]) fun p hp=>⟨[.sh (.int p.1),.sh (W p.2),.sh (.lst (hs.map .int))],rfl,?_,fun _=>rfl⟩
     unfold eQ.i3;rw[aR (aG rfl rfl (u0 p.1 hs)),R.aO];cases decide (p.1∈hs)<;>rfl
 have hd:kx (.lst (((ls.zip lw).filter fun x=>decide (x.1∈hs)).map fun p=>D.tup [.int p.1,W p.2]))=.ok (ah (aB (fun n=>decide (n∈hs)) ls lw).1 (aB (fun n=>decide (n∈hs)) ls lw).2):=by
   have hlen:((ls.zip lw).filter fun x=>decide (x.1∈hs)).length≤64:=by
     have:=List.length_filter_le (fun x:Int×List Int=>decide (x.1∈hs)) (ls.zip lw);rw[List.length_zip]at this;omega
   show(if(((ls.zip lw).filter fun x=>decide (x.1∈hs)).map fun p=>D.tup [.int p.1,W p.2]).length≤1000 then gI _ [] []else .bad)=_
   rw[if_pos (by rw[List.length_map];omega)]
   have:=vW ((ls.zip lw).filter fun x=>decide (x.1∈hs)) [] [] (fun _ _=>by simp) (by
     have h1:=jk (p:=fun n=>decide (n∈hs)) (ks:=ls) (es:=lw);rw[tf]at h1;exact hn.sublist h1)
   rw[tf];simpa[IK,ah] using this
 rw[au (bI (cV hc hd))];refine br (cj (cM rfl (y:=.aw [.inr (Str.ofString "lent")] [ah (aB (fun n=>decide (n∈hs)) ls lw).1 (aB (fun n=>decide (n∈hs)) ls lw).2]) rfl ?_));rw[hp];unfold st;exact vL
end
theorem zc{α:Type}(f:α→D){q:Int}{e:α}{ks:List Int}{es:List α}:putL (.inl q) (f e) (IK ks) (es.map f)=(IK (ins q e ks es).1,(ins q e ks es).2.map f):=by
 unfold ins;by_cases h:q∈ks
 ·rw[if_pos h,G4 f h]
 ·rw[if_neg h,putL_new f h]
theorem Iz{ks:List Int}{es:List Ent}{p:Int}{e:Ent}(hk:ks.length<900):dk [ab ks es,.aw [.inl p] [e.d]]=.ok (ab (ins p e ks es).1 (ins p e ks es).2):=by
 rw[dk];refine bT ?_;show aj _ [.sh (ab ks es),.sh (.aw [.inl p] [e.d]),.un]=_;rw[au (uj (ks:=IK ks) (vs:=es.map Ent.d) rfl)];show aj _ [.sh (ab ks es),.sh (.aw [.inl p] [e.d]),.od (IK ks) (es.map Ent.d)]=_;rw[au (vI (ks:=[.inl p]) (vs:=[e.d]) rfl rfl (by unfold IK;rw[List.length_map];simp;omega))]
 show aj _ [.sh (ab ks es),.sh (.aw [.inl p] [e.d]),.od (putL (.inl p) e.d (IK ks) (es.map Ent.d)).1 (putL (.inl p) e.d (IK ks) (es.map Ent.d)).2]=_;rw[zc Ent.d];rfl
theorem J5{ls:List Int}{lw:List (List Int)}{n:Int}{w:List Int}(hk:ls.length<900):dk [ah ls lw,.aw [.inl n] [W w]]=.ok (ah (ins n w ls lw).1 (ins n w ls lw).2):=by
 rw[dk];refine bT ?_;show aj _ [.sh (ah ls lw),.sh (.aw [.inl n] [W w]),.un]=_;rw[au (uj (ks:=IK ls) (vs:=lw.map W) rfl)];show aj _ [.sh (ah ls lw),.sh (.aw [.inl n] [W w]),.od (IK ls) (lw.map W)]=_;rw[au (vI (ks:=[.inl n]) (vs:=[W w]) rfl rfl (by unfold IK;rw[List.length_map];simp;omega))]
 show aj _ [.sh (ah ls lw),.sh (.aw [.inl n] [W w]),.od (putL (.inl n) (W w) (IK ls) (lw.map W)).1 (putL (.inl n) (W w) (IK ls) (lw.map W)).2]=_;rw[zc W];rfl
theorem mi{α:Type}:∀ {ks:List Int} {es:List α},p∉ks→look p ks es=none
 |[],es,_=>by simp[look]
 |k::ks,[],_=>by simp[look]
 | k::ks,e::es,h=>by
   unfold look;rw[if_neg (fun z=>h (by rw[z];exact List.mem_cons_self))]
   exact mi fun hm=>h (List.mem_cons_of_mem _ hm)
section
variable{j:Bool}{a b:Int}{q q':Q}{pg' lt:D}{ls ks:List Int}{lw:List (List Int)}{es:List Ent}
theorem rW(h:a≠b)(hk:ks.length<900):iP [st j a b q q' (ab ks es) pg' lt,.int (tid j a b),.int p,e.d]=.ok (st j a b q q' (ab (ins p e ks es).1 (ins p e ks es).2) pg' lt):=by
 rw[iP];refine bT ?_;show aj _ [.sh (st j a b q q' (ab ks es) pg' lt),.sh (.int (tid j a b)),.sh (.int p),.sh e.d,.un]=_;rw[au (bI (cM (mH h rfl rfl) (y:=.aw [.inl p] [e.d]) rfl (Iz hk)))];exact br (cj (dD rfl rfl rfl (tX h)))
theorem pJ(h:a≠b)(hl:ks.length=es.length):iB [st j a b q q' (ab ks es) pg' lt,.int (tid j a b),.int p]=.ok (.bl (decide (0≤p)&&decide (p≤4095)&&decide (p∉ks))):=by
 rw[iB];refine bT (cj ?_);show en _ _ [.sh (st j a b q q' (ab ks es) pg' lt),.sh (.int (tid j a b)),.sh (.int p)]=_;refine CS (BW (x:=.int 0) (y:=.int p) (z:=.int 4095) rfl rfl (le_int 0 p) rfl (le_int p 4095)) fun _=>?_;refine cV (dD rfl rfl rfl (lB h)) ?_;by_cases hp:p∈ks
 · obtain⟨e,he⟩:=jv hl hp
   rw[he,decide_eq_false (fun z=>z hp)];cases e<;>rfl
 ·rw[mi hp,decide_eq_true hp];rfl
theorem FH:m8 []=.ok (W (List.replicate 16 0)):=by kernel_rfl
theorem Hr(h:a≠b)(hl:ks.length=es.length)(hk:ks.length<900)(h0:0≤p)(h1:p≤4095)(h2:p∉ks):jB [st j a b q q' (ab ks es) pg' lt,.int (tid j a b),.int p]=.ok (.tup [st j a b q q' (ab (ins p (.own (List.replicate 16 0)) ks es).1 (ins p (.own (List.replicate 16 0)) ks es).2) pg' lt,.int 0]):=by
 rw[jB];refine bT ?_;generalize hs:st j a b q q' (ab ks es) pg' lt=s;show aj _ [.sh s,.sh (.int (tid j a b)),.sh (.int p)]=_;have hf:iB [s,.int (tid j a b),.int p]=.ok (.bl true):=by rw[←hs,pJ h hl,decide_eq_true h0,decide_eq_true h1,decide_eq_true h2];rfl
 rw[au (bc (ip (aR (dD rfl rfl rfl hf))))];refine br (cj (gi ?_ rfl));have he:(aU [eC (S "own"),aJ m8 []]) [.sh s,.sh (.int (tid j a b)),.sh (.int p)]=.ok (Ent.own (List.replicate 16 0)).d:=gi rfl FH;simp only[aJ,eList,he,R.aO];rw[←hs];exact rW h hk
theorem IH(h:a≠b)(hl:ks.length=es.length)(hc:(decide (0≤p)&&decide (p≤4095)&&decide (p∉ks))=false):jB [st j a b q q' (ab ks es) pg' lt,.int (tid j a b),.int p]=.ok (.tup [st j a b q q' (ab ks es) pg' lt,.int 4294967295]):=by
 rw[jB];refine bT ?_;have hf:=pJ (j:=j) (q:=q) (q':=q') (pg':=pg') (lt:=lt) h hl (p:=p);rw[hc]at hf;generalize st j a b q q' (ab ks es) pg' lt=s at hf;show aj _ [.sh s,.sh (.int (tid j a b)),.sh (.int p)]=_;refine br ?_;rw[bO (ip (aR (dD rfl rfl rfl hf)))];rfl
theorem mU(hl:ls.length=lw.length):cY (.int n) (ah ls lw)=.ok (.bl (decide (n∉ls))):=by
 unfold cY;show((R.ok (D.bl (bK (.inl n) (IK ls) (lw.map W)).isSome)).bind we)=_;rw[kS,R.aO];by_cases hn:n∈ls
 · obtain⟨w,hw⟩:=jv hl hn
   rw[hw,decide_eq_false (fun z=>z hn)];rfl
 ·rw[mi hn,decide_eq_true hn];rfl
theorem Jn(h:a≠b)(hl:ks.length=es.length)(hk:ks.length<900)(MY:ls.length=lw.length)(hn:n∈ls)(h0:0≤p)(h1:p≤4095)(h2:p∉ks):jD [st j a b q q' (ab ks es) pg' (ah ls lw),.int (tid j a b),.int n,.int p]=.ok (.tup [st j a b q q' (ab (ins p (.ln n) ks es).1 (ins p (.ln n) ks es).2) pg' (ah ls lw),.int 0]):=by
 rw[jD];refine bT ?_;have hx:ao (st j a b q q' (ab ks es) pg' (ah ls lw)) (S "lent")=.ok (ah ls lw):=ig;have hw:=rW (j:=j) (q:=q) (q':=q') (pg':=pg') (lt:=ah ls lw) (es:=es) h (p:=p) (e:=.ln n) hk;have hf:iB [st j a b q q' (ab ks es) pg' (ah ls lw),.int (tid j a b),.int p]=.ok (.bl true):=by rw[pJ h hl,decide_eq_true h0,decide_eq_true h1,decide_eq_true h2];rfl
 have O9:=mU (n:=n) MY;rw[decide_eq_false (fun z=>z hn)]at O9;generalize hs:st j a b q q' (ab ks es) pg' (ah ls lw)=s at hx hw hf;show aj _ [.sh s,.sh (.int (tid j a b)),.sh (.int n),.sh (.int p)]=_;rw[au (bc (du (b:=false) (c:=false) (aR (aG rfl (aG rfl rfl hx) O9)) (ip (aR (dD rfl rfl rfl hf)))))];refine br (cj (gi ?_ rfl));have he:(aU [eC (S "lent"),aa 2]) [.sh s,.sh (.int (tid j a b)),.sh (.int n),.sh (.int p)]=.ok (Ent.ln n).d:=gi rfl rfl;simp only[aJ,eList,he,R.aO];exact hw
theorem CF(h:a≠b)(hl:ks.length=es.length)(MY:ls.length=lw.length)(hc:(decide (n∉ls)|| !(decide (0≤p)&&decide (p≤4095)&&decide (p∉ks)))=true):jD [st j a b q q' (ab ks es) pg' (ah ls lw),.int (tid j a b),.int n,.int p]=.ok (.tup [st j a b q q' (ab ks es) pg' (ah ls lw),.int 4294967295]):=by
 rw[jD];refine bT ?_;have hx:ao (st j a b q q' (ab ks es) pg' (ah ls lw)) (S "lent")=.ok (ah ls lw):=ig;have hf:=pJ (j:=j) (q:=q) (q':=q') (pg':=pg') (lt:=ah ls lw) h hl (p:=p);generalize st j a b q q' (ab ks es) pg' (ah ls lw)=s at hx hf;show aj _ [.sh s,.sh (.int (tid j a b)),.sh (.int n),.sh (.int p)]=_;refine br ?_;rw[bO (by rw[du (aR (aG rfl (aG rfl rfl hx) (mU MY))) (ip (aR (dD rfl rfl rfl hf))),hc])]
 rfl
end
def ones:List Int:=[1,2,3,4,5,6,7,8,9,10,11,12,13,14,15]
def gU(ls:List Int):Option Int:=ones.find? fun z=>decide (z∉ls)
theorem vP(hl:ls.length=lw.length):∀(zs:List Int) {x3:Slot},(∀z,zs.find? (fun z=>decide (z∉ls))=some z→forL (aE 3) gX (zs.map .int) [.sh (ah ls lw),x1,x2,x3]=.ok (.ret (.int z)))∧(zs.find? (fun z=>decide (z∉ls))=none→∃y3,forL (aE 3) gX (zs.map .int) [.sh (ah ls lw),x1,x2,x3]=.ok (.next [.sh (ah ls lw),x1,x2,y3]))
 |[],x3=>⟨fun z h=>(nomatch h),fun _=>⟨x3,rfl⟩⟩
 | z::zs,x3=>by
   obtain⟨h1,h2⟩:=vP hl zs (x1:=x1) (x2:=x2) (x3:=.sh (.int z));have O9:=mU (n:=z) hl;rw[List.find?_cons];by_cases hz:z∈ls
   · rw[decide_eq_false (fun q=>q hz)]at O9 ⊢
     have hb:gX [.sh (ah ls lw),x1,x2,.sh (.int z)]=.ok (.next [.sh (ah ls lw),x1,x2,.sh (.int z)]):=by
       rw[gX];exact bc (aR (aG rfl rfl O9))
     rw[List.map_cons,eI rfl hb];exact⟨h1,h2⟩
   · rw[decide_eq_true hz]at O9 ⊢
     have hb:gX [.sh (ah ls lw),x1,x2,.sh (.int z)]=.ok (.ret (.int z)):=by
       rw[gX,bO (aR (aG rfl rfl O9))];rfl
     refine⟨fun y hy=>?_,fun hy=>by cases hy⟩
     cases hy;rw[List.map_cons,forL];show((gX [.sh (ah ls lw),x1,x2,.sh (.int z)]).bind _)=_;rw[hb];rfl
theorem vF(hl:ls.length=lw.length):nG [ah ls lw,.int 1,.int 15]=.ok (match gU ls with|some n=>.int n|none=>.aH):=by
 rw[nG];refine bT ?_;show aj _ [.sh (ah ls lw),.sh (.int 1),.sh (.int 15),.un]=_;have hi:jy (aa 1) (e2 d9 (aa 2) (eC (.int 1))) [.sh (ah ls lw),.sh (.int 1),.sh (.int 15),.un]=.ok (ones.map .int):=by kernel_rfl
 obtain⟨h1,h2⟩:=vP hl ones (x1:=.sh (.int 1)) (x2:=.sh (.int 15)) (x3:=.un);unfold gU;cases hf:ones.find? fun z=>decide (z∉ls)with
 |some n=>exact br (fL hi (h1 n hf))
 | none=>
   obtain⟨y3,e⟩:=h2 hf;rw[au (fL hi e)];rfl
theorem yP(h:gU ls=some n):n∉ls∧1≤n∧n≤15:=by
 have h1:=List.find?_some h;have h2:=List.mem_of_find?_eq_some h;refine⟨by simpa using h1,?_⟩
 simp only[ones,List.mem_cons,List.not_mem_nil,or_false]at h2;omega
theorem yn:cF (S "own") (S "own")=.ok (.bl false):=by kernel_rfl
theorem Jk:cF (S "lent") (S "own")=.ok (.bl true):=by kernel_rfl
section
variable{j:Bool}{a b:Int}{q q':Q}{pg':D}{ls ks ks':List Int}{lw:List (List Int)}{es es':List Ent}
theorem Cw(hk:ls.length<900):nE [st j a b q q' pg pg' (ah ls lw),.int n,W w]=.ok (st j a b q q' pg pg' (ah (ins n w ls lw).1 (ins n w ls lw).2)):=by
 rw[nE];refine bT (cj ?_);have ex:(aJ dk [e2 ao (aa 0) (eC (S "lent")),mj (aa 1) (aa 2)]) [.sh (st j a b q q' pg pg' (ah ls lw)),.sh (.int n),.sh (W w)]=.ok (ah (ins n w ls lw).1 (ins n w ls lw).2):=cM (aG rfl rfl ig) (y:=.aw [.inl n] [W w]) rfl (J5 hk)
 have ey:(cz [.inr (Str.ofString "lent")] [aJ dk [e2 ao (aa 0) (eC (S "lent")),mj (aa 1) (aa 2)]]) [.sh (st j a b q q' pg pg' (ah ls lw)),.sh (.int n),.sh (W w)]=.ok (.aw [.inr (Str.ofString "lent")] [ah (ins n w ls lw).1 (ins n w ls lw).2]):=by
   simp only[cz,eList,ex,R.aO]
 refine cM rfl ey ?_;unfold st;exact vL
def noOwn(p:Int)(ks:List Int)(es:List Ent):Prop:=look p ks es=none∨∃n,look p ks es=some (.ln n)
theorem w8(h:a≠b)(hc:noOwn p ks es):gZ [st j a b q q' (ab ks es) pg' lt,.int (tid j a b),.int p]=.ok (.tup [st j a b q q' (ab ks es) pg' lt,.int 4294967295]):=by
 rw[gZ];refine bT ?_;have hp:=lB (j:=j) (q:=q) (q':=q') (pg':=pg') (lt:=lt) (ks:=ks) (es:=es) h (p:=p);generalize st j a b q q' (ab ks es) pg' lt=s at hp;show aj _ [.sh s,.sh (.int (tid j a b)),.sh (.int p),.un,.un,.un]=_;rw[au (bI (dD rfl rfl rfl hp))];rcases hc with hc|⟨n,hc⟩
 · rw[hc]
   show aj _ [.sh s,.sh (.int (tid j a b)),.sh (.int p),.sh .aH,.un,.un]=_;refine br ?_;rw[bO (zL rfl)];rfl
 · rw[hc]
   show aj _ [.sh s,.sh (.int (tid j a b)),.sh (.int p),.sh (Ent.ln n).d,.un,.un]=_;refine br ?_;rw[bO (du (b:=false) (c:=true) rfl (aR (aG (o:=cF) (x:=S "lent") rfl rfl Jk)))];rfl
theorem DS(h:a≠b)(hc:look p ks es=some (.own ws))(hl:ls.length=lw.length)(hn:gU ls=none):gZ [st j a b q q' (ab ks es) pg' (ah ls lw),.int (tid j a b),.int p]=.ok (.tup [st j a b q q' (ab ks es) pg' (ah ls lw),.int 4294967294]):=by
 rw[gZ];refine bT ?_;have hp:=lB (j:=j) (q:=q) (q':=q') (pg':=pg') (lt:=ah ls lw) (ks:=ks) (es:=es) h (p:=p);have hx:ao (st j a b q q' (ab ks es) pg' (ah ls lw)) (S "lent")=.ok (ah ls lw):=ig;have Qd:=vF hl;rw[hn]at Qd;rw[hc]at hp;generalize st j a b q q' (ab ks es) pg' (ah ls lw)=s at hp hx;show aj _ [.sh s,.sh (.int (tid j a b)),.sh (.int p),.un,.un,.un]=_;rw[au (bI (dD rfl rfl rfl hp))];show aj _ [.sh s,.sh (.int (tid j a b)),.sh (.int p),.sh (Ent.own ws).d,.un,.un]=_;rw[au (bc (du (b:=false) (c:=false) rfl (aR (aG (o:=cF) (x:=S "own") rfl rfl yn))))];rw[au (bI (dD (aG rfl rfl hx) rfl rfl Qd))];show aj _ [.sh s,.sh (.int (tid j a b)),.sh (.int p),.sh (Ent.own ws).d,.sh .aH,.un]=_;refine br ?_;rw[bO rfl];rfl
theorem G8(h:a≠b)(hc:look p ks es=some (.own ws))(hl:ls.length=lw.length)(hk:ks.length<900)(Mn:ls.length<900)(hn:gU ls=some n):gZ [st j a b q q' (ab ks es) pg' (ah ls lw),.int (tid j a b),.int p]=.ok (.tup [st j a b q q' (ab (ins p (.ln n) ks es).1 (ins p (.ln n) ks es).2) pg' (ah (ins n ws ls lw).1 (ins n ws ls lw).2),.int n]):=by
 rw[gZ];refine bT ?_;have hp:=lB (j:=j) (q:=q) (q':=q') (pg':=pg') (lt:=ah ls lw) (ks:=ks) (es:=es) h (p:=p);have hx:ao (st j a b q q' (ab ks es) pg' (ah ls lw)) (S "lent")=.ok (ah ls lw):=ig;have Qd:=vF hl;have PX:=Cw (j:=j) (a:=a) (b:=b) (q:=q) (q':=q') (pg':=pg') (pg:=ab ks es) (lw:=lw) (n:=n) (w:=ws) Mn;rw[hn]at Qd;rw[hc]at hp;generalize st j a b q q' (ab ks es) pg' (ah ls lw)=s at hp hx PX;show aj _ [.sh s,.sh (.int (tid j a b)),.sh (.int p),.un,.un,.un]=_;rw[au (bI (dD rfl rfl rfl hp))];show aj _ [.sh s,.sh (.int (tid j a b)),.sh (.int p),.sh (Ent.own ws).d,.un,.un]=_;rw[au (bc (du (b:=false) (c:=false) rfl (aR (aG (o:=cF) (x:=S "own") rfl rfl yn))))];rw[au (bI (dD (aG rfl rfl hx) rfl rfl Qd))];show aj _ [.sh s,.sh (.int (tid j a b)),.sh (.int p),.sh (Ent.own ws).d,.sh (.int n),.un]=_;rw[au (bc rfl)];rw[au (bI (dD rfl rfl (aG (x:=(Ent.own ws).d) (y:=.int 1) (d:=W ws) rfl rfl rfl) PX))];generalize L0:st j a b q q' (ab ks es) pg' (ah (ins n ws ls lw).1 (ins n ws ls lw).2)=s2;show aj _ [.sh s,.sh (.int (tid j a b)),.sh (.int p),.sh (Ent.own ws).d,.sh (.int n),.sh s2]=_;refine br (cj (gi ?_ rfl));have he:(aU [eC (S "lent"),aa 4]) [.sh s,.sh (.int (tid j a b)),.sh (.int p),.sh (Ent.own ws).d,.sh (.int n),.sh s2]=.ok (Ent.ln n).d:=gi rfl rfl;simp only[aJ,eList,he,R.aO];rw[←L0];exact rW h hk
def hB(es es':List Ent):Int→Bool:=fun n=>decide (n∈aS es++aS es')
theorem yt(es es':List Ent):hB es' es=hB es es':=by
 funext n;unfold hB;simp[or_comm]
theorem wu(h:a≠b)(hk:ks.length=es.length)(M5:ks'.length=es'.length)(LQ:es.length+es'.length<1000)(hl:ls.length=lw.length)(hn:ls.Nodup)(Nf:ls.length<64):
   jq [st j a b q q' (ab ks es) (ab ks' es') (ah ls lw)]=.ok (st j a b q q' (ab ks es) (ab ks' es') (ah (aB (hB es es') ls lw).1 (aB (hB es es') ls lw).2)):=by
 cases j with
 |false=>exact zE h hk M5 LQ hl hn Nf
 | true=>
   have:=zE (q:=q') (q':=q) (ks:=ks') (ks':=ks) (es:=es') (es':=es) h M5 hk (by omega) hl hn Nf
   rw[←yt es es'];exact this
theorem yZ(h:a≠b):fW [st j a b q q' (ab ks es) pg' lt,.int (tid j a b)]=.ok (bq ks es):=by
 rw[fW];refine vV (qG ?_);show xM _ [.sh (st j a b q q' (ab ks es) pg' lt),.sh (.int (tid j a b))]=_;unfold xM;rw[cV (o:=ki) (x:=ab ks es) (d:=ab ks es) (mH h rfl rfl) rfl,R.aO];show R.ok (T.m (IK ks) ((es.map Ent.d).map .d))=_;rw[List.map_map];rfl
theorem xt{α:Type}(f:α→D):∀xs:List α,iW (xs.map fun x=>T.d (f x))=some (xs.map f)
 |[]=>rfl
 | x::xs=>by
   have ih:=xt f xs;rw[List.map_cons];unfold iW;rw[ih];rfl
theorem C0(h:a≠b)(hc:p∉ks):jb [st j a b q q' (ab ks es) pg' lt,.int (tid j a b),.int p]=.ok (.tup [st j a b q q' (ab ks es) pg' lt,.int 4294967295]):=by
 rw[jb];refine bT ?_;have hp:=lB (j:=j) (q:=q) (q':=q') (pg':=pg') (lt:=lt) (ks:=ks) (es:=es) h (p:=p);rw[mi hc]at hp;generalize st j a b q q' (ab ks es) pg' lt=s at hp;show aj _ [.sh s,.sh (.int (tid j a b)),.sh (.int p),.un]=_;refine br ?_;rw[bO (aR (cV (dD rfl rfl rfl hp) rfl))];rfl
theorem Dp(h:a≠b)(hk:ks.length=es.length)(M5:ks'.length=es'.length)(LQ:es.length+es'.length<1000)(hl:ls.length=lw.length)(hn:ls.Nodup)(Nf:ls.length<64)(hc:p∈ks):
   jb [st j a b q q' (ab ks es) (ab ks' es') (ah ls lw),.int (tid j a b),.int p]=.ok (.tup [st j a b q q' (ab (aB (fun k=>decide (k≠p)) ks es).1 (aB (fun k=>decide (k≠p)) ks es).2) (ab ks' es') (ah (aB (hB (aB (fun k=>decide (k≠p)) ks es).2 es') ls lw).1 (aB (hB (aB (fun k=>decide (k≠p)) ks es).2 es') ls lw).2),.int 0]):=by
 rw[jb];refine bT ?_;have hp:=lB (j:=j) (q:=q) (q':=q') (pg':=ab ks' es') (lt:=ah ls lw) (ks:=ks) (es:=es) h (p:=p);obtain⟨e,he⟩:=jv hk hc;rw[he]at hp;have Qm:=yZ (j:=j) (q:=q) (q':=q') (pg':=ab ks' es') (lt:=ah ls lw) (ks:=ks) (es:=es) h;have T3:=tX (j:=j) (q:=q) (q':=q') (pg':=ab ks' es') (lt:=ah ls lw) (pg:=ab ks es) (p2:=ab (aB (fun k=>decide (k≠p)) ks es).1 (aB (fun k=>decide (k≠p)) ks es).2) h;have hlen:=(jk (p:=fun k=>decide (k≠p)) (ks:=ks) (es:=es)).length_le;have Qy:=jG (p:=fun k=>decide (k≠p)) (ks:=ks) (es:=es);have Ui:=wu (j:=j) (q:=q) (q':=q') (ks:=(aB (fun k=>decide (k≠p)) ks es).1) (es:=(aB (fun k=>decide (k≠p)) ks es).2) (ks':=ks') (es':=es') (ls:=ls) (lw:=lw) h jG M5 (by omega) hl hn Nf
 generalize st j a b q q' (ab ks es) (ab ks' es') (ah ls lw)=s at hp Qm T3;show aj _ [.sh s,.sh (.int (tid j a b)),.sh (.int p),.un]=_;rw[au (bc (aR (cV (dD rfl rfl rfl hp) (by cases e<;>rfl))))]
 have O7:oU 3 (bG fW [aa 0,aa 1]) [.sh s,.sh (.int (tid j a b)),.sh (.int p),.un]=.ok (.next [.sh s,.sh (.int (tid j a b)),.sh (.int p),.od (IK ks) (es.map Ent.d)]):=by
   unfold oU bG;simp only[eList,aa,R.aO];show((fW [s,.int (tid j a b)]).bind _)=_;rw[Qm,R.aO];show(match iW (es.map fun x=>T.d x.d)with|some vs=>R.ok (Fl.next (([.sh s,.sh (.int (tid j a b)),.sh (.int p),.un]:En).set 3 (.od (IK ks) vs)))|none=>.bad)=_
   rw[xt];rfl
 rw[au O7]
 have PJ:rB 3 (aa 2) [.sh s,.sh (.int (tid j a b)),.sh (.int p),.od (IK ks) (es.map Ent.d)]=.ok (.next [.sh s,.sh (.int (tid j a b)),.sh (.int p),.od (IK (aB (fun k=>decide (k≠p)) ks es).1) ((aB (fun k=>decide (k≠p)) ks es).2.map Ent.d)]):=by
   show(if(gb (.inl p) (IK ks)).isSome=true then R.ok (Fl.next (([.sh s,.sh (.int (tid j a b)),.sh (.int p),.od (IK ks) (es.map Ent.d)]:En).set 3 (.od (bA (.inl p) (IK ks) (es.map Ent.d)).1 (bA (.inl p) (IK ks) (es.map Ent.d)).2)))else .bad)=_
   rw[if_pos (pS hc),pw];rfl
 rw[au PJ];rw[au (ρ':=[.sh s,.sh (.int (tid j a b)),.sh (.int p),.sh (ab (aB (fun k=>decide (k≠p)) ks es).1 (aB (fun k=>decide (k≠p)) ks es).2)]) rfl];exact br (cj (gi (jc (dD rfl rfl (z:=.aw [.inr (Str.ofString "pages")] [ab (aB (fun k=>decide (k≠p)) ks es).1 (aB (fun k=>decide (k≠p)) ks es).2]) rfl T3) Ui) rfl))
end
theorem o5(hl:ks.length=es.length)(x:Int):cA (.int x) (ab ks es)=.ok (.bl (decide (x∈ks))):=by
 show R.ok (D.bl (bK (.inl x) (IK ks) (es.map Ent.d)).isSome)=_;rw[kS];by_cases hx:x∈ks
 · obtain⟨e,he⟩:=jv hl hx
   rw[he,decide_eq_true hx];rfl
 ·rw[mi hx,decide_eq_false hx];rfl
theorem kX(hl:ks.length=es.length)(x:Int):cY (.int x) (ab ks es)=.ok (.bl (decide (x∉ks))):=by
 unfold cY;rw[o5 hl,R.aO];by_cases hx:x∈ks
 ·rw[decide_eq_true hx,decide_eq_false (fun z=>z hx)];rfl
 ·rw[decide_eq_false hx,decide_eq_true hx];rfl
theorem Br(hl:ls.length=lw.length)(x:Int):cA (.int x) (ah ls lw)=.ok (.bl (decide (x∈ls))):=by
 show R.ok (D.bl (bK (.inl x) (IK ls) (lw.map W)).isSome)=_;rw[kS];by_cases hx:x∈ls
 · obtain⟨e,he⟩:=jv hl hx
   rw[he,decide_eq_true hx];rfl
 ·rw[mi hx,decide_eq_false hx];rfl
theorem ir(h:ρ[5]? =some (.on (.tr t)))(he:e (ρ.set 5 (.sh (T.toD t)))=.ok d):aj [cC 5,aM (aU [aa 5,e])] ρ=.ok (.ret (.tup [T.toD t,d])):=by
 rw[au (vd h)];exact br (cj (gi (Ef h) he))
def up:Int→Nat→List Int
 |_,0=>[]
 |k,n+1=>k::up (k+1) n
section
variable{j:Bool}{a b:Int}{q q':Q}{ls ks ks':List Int}{lw:List (List Int)}{es es':List Ent}
noncomputable def dT(j:Bool)(a b:Int)(q q':Q)(ks ks' ls:List Int)(es es':List Ent)(lw:List (List Int)):T:=bw j a b q.t q'.t (bq ks es) (bq ks' es') (cv ls lw) (deep bD) (deep bE)
theorem eR:T.toD (dT j a b q q' ks ks' ls es es' lw)=st j a b q q' (ab ks es) (ab ks' es') (ah ls lw):=by
 unfold dT;rw[←nA ks' es',CD,ky,rh]
theorem fQ:aa 6 (bZ 5 (dT j a b q q' ks ks' ls es es' lw) [.sh s,x1,x2,x3,x4,.on (.tr (dT j a b q q' ks ks' ls es es' lw)),.on (.al 5 [0,J j,4]),x7,x8])=.ok (ab ks es):=by
 show(match(some (match T.at (dT j a b q q' ks ks' ls es es' lw) [0,J j,4]with|some t1=>Slot.sh (T.toD t1)|none=>.un):Option Slot)with|some (.sh d)=>R.ok d|_=>.bad)=_
 unfold dT;rw[js];show R.ok (T.toD (bq ks es))=_;rw[ky]
theorem tL:e2 ao (aa 5) (eC (S "lent")) (bZ 5 (dT j a b q q' ks ks' ls es es' lw) [.sh s,x1,x2,x3,x4,.on (.tr (dT j a b q q' ks ks' ls es es' lw)),x6,x7,x8])=.ok (ah ls lw):=by
 refine aG (x:=st j a b q q' (ab ks es) (ab ks' es') (ah ls lw)) ?_ rfl ig;show R.ok (T.toD (dT j a b q q' ks ks' ls es es' lw))=_;rw[eR]
theorem wh(hl:ls.length=lw.length)(Nr:(16:Int)∉ls):∀(n m:Nat) (k:Int),k+n=16→n<m→iK (cT 5 (tV (e2 cA (aa 8) (e2 ao (aa 5) (eC (S "lent")))))) kc m [.sh s,x1,x2,x3,x4,.on (.tr (dT j a b q q' ks ks' ls es es' lw)),x6,x7,.sh (.int k)]=.ok (.next [.sh s,x1,x2,x3,x4,.on (.tr (dT j a b q q' ks ks' ls es es' lw)),x6,x7,.sh (.int (((up k n).find? fun z=>decide (z∉ls)).getD 16))])
 |n,0,k,_,h=>absurd h (Nat.not_lt_zero _)
 | n,m+1,k,hk,h=>by
   have ht:cT 5 (tV (e2 cA (aa 8) (e2 ao (aa 5) (eC (S "lent"))))) [.sh s,x1,x2,x3,x4,.on (.tr (dT j a b q q' ks ks' ls es es' lw)),x6,x7,.sh (.int k)]=.ok (decide (k∈ls)):=fN rfl (aR (aG (x:=.int k) rfl tL (Br hl k)));by_cases NB:k∈ls
   · rw[decide_eq_true NB]at ht
     cases n with
     | zero => exact absurd (by have:k=16:=by omega
                                rw[←this];exact NB) Nr
     | succ n=>
       have ih:=wh hl Nr (s:=s) (x1:=x1) (x2:=x2) (x3:=x3) (x4:=x4) (x6:=x6) (x7:=x7) n m (k+1) (by omega) (by omega)
       unfold iK;rw[ht,R.aO,if_pos rfl];show((kc [.sh s,x1,x2,x3,x4,.on (.tr (dT j a b q q' ks ks' ls es es' lw)),x6,x7,.sh (.int k)]).bind _)=_;rw[kc,bI (gP (i:=k) (u:=1) rfl rfl),R.aO];rw[up,List.find?_cons,decide_eq_false (fun z=>z NB)];exact ih
   · rw[decide_eq_false NB]at ht
     unfold iK;rw[ht,R.aO,if_neg (by decide)]
     cases n with
     | zero=>
       have:k=16:=by omega
       subst this;rfl
     | succ n=>
       rw[up,List.find?_cons,decide_eq_true NB];rfl
end
noncomputable def hV:List Sm:=[aQ (tV (e2 oEq (aa 2) (eC (.int 21)))) (aj [aQ (cT 5 (b6 (tV (e2 d6 (aa 3) (eC (.int 4095)))) (tV (e2 cA (aa 3) (aa 6))))) (aj [cC 5,aM (aU [aa 5,aa 7])]) (aP),b7 5 (pA 5 6) (aa 3) (aU [eC (S "own"),aU [eC (.int 0),eC (.int 0),eC (.int 0),eC (.int 0),eC (.int 0),eC (.int 0),eC (.int 0),eC (.int 0),eC (.int 0),eC (.int 0),eC (.int 0),eC (.int 0),eC (.int 0),eC (.int 0),eC (.int 0),eC (.int 0)]]),cC 5,aM (aU [aa 5,eC (.int 0)])]) (aP),aQ (tV (e2 oEq (aa 2) (eC (.int 22)))) (aj [aQ (cT 5 (tV (e2 cY (aa 3) (aa 6)))) (aj [cC 5,aM (aU [aa 5,aa 7])]) (aP),jh 5 (pA 5 6) (aa 3),ib 5 gq [],cC 5,aM (aU [aa 5,eC (.int 0)])]) (aP),aQ (tV (e2 oEq (aa 2) (eC (.int 24)))) (aj [aQ (cT 5 (b6 (tV (e2 cY (aa 3) (e2 ao (aa 5) (eC (S "lent"))))) (b6 (tV (e2 d6 (aa 4) (eC (.int 4095)))) (tV (e2 cA (aa 4) (aa 6)))))) (aj [cC 5,aM (aU [aa 5,aa 7])]) (aP),b7 5 (pA 5 6) (aa 4) (aU [eC (S "lent"),aa 3]),cC 5,aM (aU [aa 5,eC (.int 0)])]) (aP),aQ (cT 5 (b6 (tV (e2 cY (aa 3) (aa 6))) (tV (e2 oEq (e2 ao (e2 ao (aa 6) (aa 3)) (eC (.int 0))) (eC (S "lent")))))) (aj [cC 5,aM (aU [aa 5,aa 7])]) (aP),bb (aE 8) (eC (.int 1)),lW 20 (cT 5 (tV (e2 cA (aa 8) (e2 ao (aa 5) (eC (S "lent")))))) kc,aQ (tV (e2 d6 (aa 8) (eC (.int 15)))) (aj [cC 5,aM (aU [aa 5,eC (.int 4294967294)])]) (aP),b7 5 (pX 5 (pN) (eC (S "lent"))) (aa 8) (fF 5 (e2 ao (e2 ao (aa 6) (aa 3)) (eC (.int 1)))),b7 5 (pA 5 6) (aa 3) (aU [eC (S "lent"),aa 8]),cC 5,aM (aU [aa 5,aa 8])]
section
variable{j:Bool}{a b:Int}{q q':Q}{ls ks ks':List Int}{lw:List (List Int)}{es es':List Ent}
theorem iN(h:a≠b)(hn:nice (st j a b q q' (ab ks es) (ab ks' es') (ah ls lw))=true)(hd:ba (st j a b q q' (ab ks es) (ab ks' es') (ah ls lw))<9)
   (hh:aj hV [.sh (st j a b q q' (ab ks es) (ab ks' es') (ah ls lw)),.sh (.int (tid j a b)),.sh (.int N),.sh (.int x),.sh (.int y),.on (.tr (dT j a b q q' ks ks' ls es es' lw)),.on (.al 5 [0,J j,4]),.sh (.int 4294967295),.un]=.ok (.ret d)):
   dO [st j a b q q' (ab ks es) (ab ks' es') (ah ls lw),.int (tid j a b),.int N,.int x,.int y]=.ok d:=by
 have MR:eM [st j a b q q' (ab ks es) (ab ks' es') (ah ls lw)]=.ok (dT j a b q q' ks ks' ls es es' lw):=by
   unfold dT;rw[←nA, ←nA, ←xU, ←xJ];exact qa 9 _ hn hd
 rw[dO];refine bT ?_;generalize st j a b q q' (ab ks es) (ab ks' es') (ah ls lw)=s at MR hh;show aj _ [.sh s,.sh (.int (tid j a b)),.sh (.int N),.sh (.int x),.sh (.int y),.un,.un,.un,.un]=_;rw[au (uB (km rfl MR) rfl (by decide))]
 show aj _ [.sh s,.sh (.int (tid j a b)),.sh (.int N),.sh (.int x),.sh (.int y),.on (.tr (dT j a b q q' ks ks' ls es es' lw)),.un,.un,.un]=_;have P9:pX 5 (pX 5 (pX 5 pN (eC (S "tasks"))) (aa 1)) (eC (S "pages")) [.sh s,.sh (.int (tid j a b)),.sh (.int N),.sh (.int x),.sh (.int y),.on (.tr (dT j a b q q' ks ks' ls es es' lw)),.un,.un,.un]=.ok [0,J j,4]:=qN h rfl rfl;rw[au (zl P9 rfl (show T.at (dT j a b q q' ks ks' ls es es' lw) [0,J j,4]=some (bq ks es)from js) rfl (by decide))]
 show aj _ [.sh s,.sh (.int (tid j a b)),.sh (.int N),.sh (.int x),.sh (.int y),.on (.tr (dT j a b q q' ks ks' ls es es' lw)),.on (.al 5 [0,J j,4]),.un,.un]=_;rw[au (bI (d:=.int 4294967295) rfl)];exact hh
theorem Gu(h:a≠b)(hn:nice (st j a b q q' (ab ks es) (ab ks' es') (ah ls lw))=true)(hd:ba (st j a b q q' (ab ks es) (ab ks' es') (ah ls lw))<9)(hl:ks.length=es.length)(hk:ks.length<900)(MY:ls.length=lw.length)(hc:(decide (4095<x)||decide (x∈ks))=true):dO [st j a b q q' (ab ks es) (ab ks' es') (ah ls lw),.int (tid j a b),.int 21,.int x,.int y]=.ok (.tup [st j a b q q' (ab ks es) (ab ks' es') (ah ls lw),.int 4294967295]):=by
 refine iN h hn hd ?_;rw[←eR (j:=j) (a:=a) (b:=b) (q:=q) (q':=q') (ks:=ks) (ks':=ks') (ls:=ls) (es:=es) (es':=es') (lw:=lw)];generalize hs:T.toD (dT j a b q q' ks ks' ls es es' lw)=s;unfold hV;refine br ?_;rw[bO rfl];refine br ?_;rw[bO (fN rfl (by rw[du (aR (i5 rfl rfl)) (aR (aG (x:=.int x) rfl fQ (o5 hl x))),hc]))]
 rw[←hs];exact ir rfl rfl
theorem G1(h:a≠b)(hn:nice (st j a b q q' (ab ks es) (ab ks' es') (ah ls lw))=true)(hd:ba (st j a b q q' (ab ks es) (ab ks' es') (ah ls lw))<9)(hl:ks.length=es.length)(hk:ks.length<900)(MY:ls.length=lw.length)(hc:(decide (4095<x)||decide (x∈ks))=false):dO [st j a b q q' (ab ks es) (ab ks' es') (ah ls lw),.int (tid j a b),.int 21,.int x,.int y]=.ok (.tup [st j a b q q' (ab (ins x (.own (List.replicate 16 0)) ks es).1 (ins x (.own (List.replicate 16 0)) ks es).2) (ab ks' es') (ah ls lw),.int 0]):=by
 refine iN h hn hd ?_;rw[←eR (j:=j) (a:=a) (b:=b) (q:=q) (q':=q') (ks:=ks) (ks':=ks') (ls:=ls) (es:=es) (es':=es') (lw:=lw)];generalize hs:T.toD (dT j a b q q' ks ks' ls es es' lw)=s;unfold hV;refine br ?_;rw[bO rfl];rw[au (bc (fN rfl (by rw[du (aR (i5 rfl rfl)) (aR (aG (x:=.int x) rfl fQ (o5 hl x))),hc])))]
 have NI:b7 5 (pA 5 6) (aa 3) (aU [eC (S "own"),aU [eC (.int 0),eC (.int 0),eC (.int 0),eC (.int 0),eC (.int 0),eC (.int 0),eC (.int 0),eC (.int 0),eC (.int 0),eC (.int 0),eC (.int 0),eC (.int 0),eC (.int 0),eC (.int 0),eC (.int 0),eC (.int 0)]]) [.sh s,.sh (.int (tid j a b)),.sh (.int 21),.sh (.int x),.sh (.int y),.on (.tr (dT j a b q q' ks ks' ls es es' lw)),.on (.al 5 [0,J j,4]),.sh (.int 4294967295),.un]=.ok (.next [.sh s,.sh (.int (tid j a b)),.sh (.int 21),.sh (.int x),.sh (.int y),.on (.tr (dT j a b q q' (ins x (.own (List.replicate 16 0)) ks es).1 ks' ls (ins x (.own (List.replicate 16 0)) ks es).2 es' lw)),cb 5 [0,J j,4] (.on (.al 5 [0,J j,4])),.sh (.int 4294967295),.un]):=by
   rw[gO (p:=[0,J j,4]) (d:=(Ent.own (List.replicate 16 0)).d) (by kernel_rfl) rfl rfl rfl rfl (show T.at (dT j a b q q' ks ks' ls es es' lw) [0,J j,4]=some (T.m (IK ks) (es.map fun x=>T.d x.d))from js) (by unfold IK;rw[List.length_map];omega) (jU Ent.d)]
   rw[show T.m (IK (ins x (Ent.own (List.replicate 16 0)) ks es).1) ((ins x (Ent.own (List.replicate 16 0)) ks es).2.map fun x=>T.d x.d)=bq (ins x (Ent.own (List.replicate 16 0)) ks es).1 (ins x (Ent.own (List.replicate 16 0)) ks es).2 from rfl,show dT j a b q q' ks ks' ls es es' lw=bw j a b q.t q'.t (bq ks es) (bq ks' es') (cv ls lw) (deep bD) (deep bE)from rfl,lC]
   rfl
 rw[au NI, ←eR];exact ir rfl rfl
theorem IJ(h:a≠b)(hn:nice (st j a b q q' (ab ks es) (ab ks' es') (ah ls lw))=true)(hd:ba (st j a b q q' (ab ks es) (ab ks' es') (ah ls lw))<9)(hl:ks.length=es.length)(hk:ks.length<900)(MY:ls.length=lw.length)(hc:x∉ks):dO [st j a b q q' (ab ks es) (ab ks' es') (ah ls lw),.int (tid j a b),.int 22,.int x,.int y]=.ok (.tup [st j a b q q' (ab ks es) (ab ks' es') (ah ls lw),.int 4294967295]):=by
 refine iN h hn hd ?_;rw[←eR (j:=j) (a:=a) (b:=b) (q:=q) (q':=q') (ks:=ks) (ks':=ks') (ls:=ls) (es:=es) (es':=es') (lw:=lw)];generalize hs:T.toD (dT j a b q q' ks ks' ls es es' lw)=s;unfold hV;rw[au (bc rfl)];refine br ?_;rw[bO rfl];refine br ?_;rw[bO (fN rfl (by rw[aR (aG (x:=.int x) rfl fQ (kX hl x)),decide_eq_true hc]))]
 rw[←hs];exact ir rfl rfl
theorem EF(h:a≠b)(hn:nice (st j a b q q' (ab ks es) (ab ks' es') (ah ls lw))=true)(hd:ba (st j a b q q' (ab ks es) (ab ks' es') (ah ls lw))<9)(hl:ks.length=es.length)(hk:ks.length<900)(MY:ls.length=lw.length)(hc:(decide (x∉ls)||(decide (4095<y)||decide (y∈ks)))=true):dO [st j a b q q' (ab ks es) (ab ks' es') (ah ls lw),.int (tid j a b),.int 24,.int x,.int y]=.ok (.tup [st j a b q q' (ab ks es) (ab ks' es') (ah ls lw),.int 4294967295]):=by
 refine iN h hn hd ?_;rw[←eR (j:=j) (a:=a) (b:=b) (q:=q) (q':=q') (ks:=ks) (ks':=ks') (ls:=ls) (es:=es) (es':=es') (lw:=lw)];generalize hs:T.toD (dT j a b q q' ks ks' ls es es' lw)=s;unfold hV;rw[au (bc rfl),au (bc rfl)];refine br ?_;rw[bO rfl];refine br ?_;rw[bO (fN rfl (by rw[du (aR (aG (x:=.int x) rfl tL (mU MY))) (du (aR (i5 rfl rfl)) (aR (aG (x:=.int y) rfl fQ (o5 hl y)))),hc]))]
 rw[←hs];exact ir rfl rfl
theorem EB(h:a≠b)(hn:nice (st j a b q q' (ab ks es) (ab ks' es') (ah ls lw))=true)(hd:ba (st j a b q q' (ab ks es) (ab ks' es') (ah ls lw))<9)(hl:ks.length=es.length)(hk:ks.length<900)(MY:ls.length=lw.length)(hc:(decide (x∉ls)||(decide (4095<y)||decide (y∈ks)))=false):dO [st j a b q q' (ab ks es) (ab ks' es') (ah ls lw),.int (tid j a b),.int 24,.int x,.int y]=.ok (.tup [st j a b q q' (ab (ins y (.ln x) ks es).1 (ins y (.ln x) ks es).2) (ab ks' es') (ah ls lw),.int 0]):=by
 refine iN h hn hd ?_;rw[←eR (j:=j) (a:=a) (b:=b) (q:=q) (q':=q') (ks:=ks) (ks':=ks') (ls:=ls) (es:=es) (es':=es') (lw:=lw)];generalize hs:T.toD (dT j a b q q' ks ks' ls es es' lw)=s;unfold hV;rw[au (bc rfl),au (bc rfl)];refine br ?_;rw[bO rfl];rw[au (bc (fN rfl (by rw[du (aR (aG (x:=.int x) rfl tL (mU MY))) (du (aR (i5 rfl rfl)) (aR (aG (x:=.int y) rfl fQ (o5 hl y)))),hc])))]
 have NI:b7 5 (pA 5 6) (aa 4) (aU [eC (S "lent"),aa 3]) [.sh s,.sh (.int (tid j a b)),.sh (.int 24),.sh (.int x),.sh (.int y),.on (.tr (dT j a b q q' ks ks' ls es es' lw)),.on (.al 5 [0,J j,4]),.sh (.int 4294967295),.un]=.ok (.next [.sh s,.sh (.int (tid j a b)),.sh (.int 24),.sh (.int x),.sh (.int y),.on (.tr (dT j a b q q' (ins y (.ln x) ks es).1 ks' ls (ins y (.ln x) ks es).2 es' lw)),cb 5 [0,J j,4] (.on (.al 5 [0,J j,4])),.sh (.int 4294967295),.un]):=by
   rw[gO (p:=[0,J j,4]) (d:=(Ent.ln x).d) (gi rfl rfl) rfl rfl rfl rfl (show T.at (dT j a b q q' ks ks' ls es es' lw) [0,J j,4]=some (T.m (IK ks) (es.map fun x=>T.d x.d))from js) (by unfold IK;rw[List.length_map];omega) (jU Ent.d)]
   rw[show T.m (IK (ins y (Ent.ln x) ks es).1) ((ins y (Ent.ln x) ks es).2.map fun x=>T.d x.d)=bq (ins y (Ent.ln x) ks es).1 (ins y (Ent.ln x) ks es).2 from rfl,show dT j a b q q' ks ks' ls es es' lw=bw j a b q.t q'.t (bq ks es) (bq ks' es') (cv ls lw) (deep bD) (deep bE)from rfl,lC]
   rfl
 rw[au NI, ←eR];exact ir rfl rfl
end
theorem xb(h:ρ[i]? =some (.on (.tr t)))(hm:m t []=.ok t')(ho:t'.own=true):ib i m [] ρ=.ok (.next ((fM i [] ρ).set i (.on (.tr t')))):=by
 unfold ib;simp only[eList,R.aO,h,hm];rw[if_pos ho]
theorem A3(ht:ρ[i]? =some (.on (.tr t)))(h:f (bZ i t ρ)=.ok d)(hn:cf d=true):fF i f ρ=.ok d:=by
 unfold fF;rw[ht];show(f (bZ i t ρ)).bind _=_;rw[h,R.aO,if_pos hn]
section
variable{j:Bool}{a b:Int}{q q':Q}{ls ks ks':List Int}{lw:List (List Int)}{es es':List Ent}
theorem vC(h:a≠b)(hk:ks.length=es.length)(M5:ks'.length=es'.length)(LQ:es.length+es'.length<1000)(hl:ls.length=lw.length)(hn:ls.Nodup)(Nf:ls.length<64):gq (dT j a b q q' ks ks' ls es es' lw) []=.ok (dT j a b q q' ks ks' (aB (hB es es') ls lw).1 es es' (aB (hB es es') ls lw).2):=by
 cases j with
 |false=>exact v7 h (gM bD) (gM bE) hk M5 LQ hl hn Nf
 | true=>
   have:=v7 (q:=q'.t) (q':=q.t) (nd:=deep bD) (bx:=deep bE) (ks:=ks') (ks':=ks) (es:=es') (es':=es) h (gM bD) (gM bE) M5 hk (by omega) hl hn Nf
   rw[←yt es es'];exact this
theorem p8(h:look x ks es=some e):ao (ab ks es) (.int x)=.ok e.d:=m9 (z:=.inl x) (by rw[kS,h];rfl)
theorem Gh(h:a≠b)(hn:nice (st j a b q q' (ab ks es) (ab ks' es') (ah ls lw))=true)(hd:ba (st j a b q q' (ab ks es) (ab ks' es') (ah ls lw))<9)(hl:ks.length=es.length)(hk:ks.length<900)(MY:ls.length=lw.length)(M5:ks'.length=es'.length)(LQ:es.length+es'.length<1000)(cK:ls.Nodup)(Nf:ls.length<64)(hc:x∈ks):dO [st j a b q q' (ab ks es) (ab ks' es') (ah ls lw),.int (tid j a b),.int 22,.int x,.int y]=.ok (.tup [st j a b q q' (ab (aB (fun k=>decide (k≠x)) ks es).1 (aB (fun k=>decide (k≠x)) ks es).2) (ab ks' es') (ah (aB (hB (aB (fun k=>decide (k≠x)) ks es).2 es') ls lw).1 (aB (hB (aB (fun k=>decide (k≠x)) ks es).2 es') ls lw).2),.int 0]):=by
 refine iN h hn hd ?_;rw[←eR (j:=j) (a:=a) (b:=b) (q:=q) (q':=q') (ks:=ks) (ks':=ks') (ls:=ls) (es:=es) (es':=es') (lw:=lw)];generalize hs:T.toD (dT j a b q q' ks ks' ls es es' lw)=s;unfold hV;have hlen:=(jk (p:=fun k=>decide (k≠x)) (ks:=ks) (es:=es)).length_le;have Qy:=jG (p:=fun k=>decide (k≠x)) (ks:=ks) (es:=es);rw[au (bc rfl)];refine br ?_;rw[bO rfl];rw[au (bc (fN rfl (by rw[aR (aG (x:=.int x) rfl fQ (kX hl x)),decide_eq_false (fun z=>z hc)])))]
 have PJ:jh 5 (pA 5 6) (aa 3) [.sh s,.sh (.int (tid j a b)),.sh (.int 22),.sh (.int x),.sh (.int y),.on (.tr (dT j a b q q' ks ks' ls es es' lw)),.on (.al 5 [0,J j,4]),.sh (.int 4294967295),.un]=.ok (.next [.sh s,.sh (.int (tid j a b)),.sh (.int 22),.sh (.int x),.sh (.int y),.on (.tr (dT j a b q q' (aB (fun k=>decide (k≠x)) ks es).1 ks' ls (aB (fun k=>decide (k≠x)) ks es).2 es' lw)),cb 5 [0,J j,4] (.on (.al 5 [0,J j,4])),.sh (.int 4294967295),.un]):=by
   rw[wG (p:=[0,J j,4]) rfl rfl rfl rfl (show T.at (dT j a b q q' ks ks' ls es es' lw) [0,J j,4]=some (T.m (IK ks) (es.map fun x=>T.d x.d))from js) (pS hc) (pw (fun x:Ent=>T.d x.d) x ks es)]
   rw[show T.m (IK (aB (fun k=>decide (k≠x)) ks es).1) ((aB (fun k=>decide (k≠x)) ks es).2.map fun x=>T.d x.d)=bq (aB (fun k=>decide (k≠x)) ks es).1 (aB (fun k=>decide (k≠x)) ks es).2 from rfl,show dT j a b q q' ks ks' ls es es' lw=bw j a b q.t q'.t (bq ks es) (bq ks' es') (cv ls lw) (deep bD) (deep bE)from rfl,lC]
   rfl
 rw[au PJ,au (xb rfl (vC h jG M5 (by omega) MY cK Nf) rfl), ←eR]
 exact ir rfl rfl
theorem zZ(h:a≠b)(hn:nice (st j a b q q' (ab ks es) (ab ks' es') (ah ls lw))=true)(hd:ba (st j a b q q' (ab ks es) (ab ks' es') (ah ls lw))<9)(hl:ks.length=es.length)(hk:ks.length<900)(MY:ls.length=lw.length)(hc:noOwn x ks es):dO [st j a b q q' (ab ks es) (ab ks' es') (ah ls lw),.int (tid j a b),.int 23,.int x,.int y]=.ok (.tup [st j a b q q' (ab ks es) (ab ks' es') (ah ls lw),.int 4294967295]):=by
 refine iN h hn hd ?_;rw[←eR (j:=j) (a:=a) (b:=b) (q:=q) (q':=q') (ks:=ks) (ks':=ks') (ls:=ls) (es:=es) (es':=es') (lw:=lw)];generalize hs:T.toD (dT j a b q q' ks ks' ls es es' lw)=s;unfold hV;rw[au (bc rfl),au (bc rfl),au (bc rfl)];refine br ?_;rcases hc with hc|⟨n,hc⟩
 · have hx:x∉ks:=fun hx=>by obtain⟨e,he⟩:=jv hl hx;rw[he]at hc;cases hc
   rw[bO (fN rfl (zL (by rw[aR (aG (x:=.int x) rfl fQ (kX hl x)),decide_eq_true hx])))]
   rw[←hs];exact ir rfl rfl
 · rw[bO (fN rfl (by rw[du (aR (aG (x:=.int x) rfl fQ (kX hl x))) (aR (aG (o:=oEq) (x:=S "lent") (aG (aG fQ (y:=.int x) rfl (p8 hc)) (y:=.int 0) rfl rfl) rfl rO)),Bool.or_true]))]
   rw[←hs];exact ir rfl rfl
theorem Fp(h:a≠b)(hn:nice (st j a b q q' (ab ks es) (ab ks' es') (ah ls lw))=true)(hd:ba (st j a b q q' (ab ks es) (ab ks' es') (ah ls lw))<9)(hl:ks.length=es.length)(hk:ks.length<900)(MY:ls.length=lw.length)(Ol:(16:Int)∉ls)(hc:look x ks es=some (.own ws))(hf:gU ls=none):dO [st j a b q q' (ab ks es) (ab ks' es') (ah ls lw),.int (tid j a b),.int 23,.int x,.int y]=.ok (.tup [st j a b q q' (ab ks es) (ab ks' es') (ah ls lw),.int 4294967294]):=by
 refine iN h hn hd ?_;rw[←eR (j:=j) (a:=a) (b:=b) (q:=q) (q':=q') (ks:=ks) (ks':=ks') (ls:=ls) (es:=es) (es':=es') (lw:=lw)];generalize hs:T.toD (dT j a b q q' ks ks' ls es es' lw)=s;unfold hV;rw[au (bc rfl),au (bc rfl),au (bc rfl)];have hx:x∈ks:=(pL hc).2;rw[au (bc (fN rfl (by rw[du (aR (aG (x:=.int x) rfl fQ (kX hl x))) (aR (aG (o:=oEq) (x:=S "own") (aG (aG fQ (y:=.int x) rfl (p8 hc)) (y:=.int 0) rfl rfl) rfl qb)),decide_eq_false (fun z=>z hx)];rfl)))]
 rw[au (bI (d:=.int 1) rfl)];show aj _ [.sh s,.sh (.int (tid j a b)),.sh (.int 23),.sh (.int x),.sh (.int y),.on (.tr (dT j a b q q' ks ks' ls es es' lw)),.on (.al 5 [0,J j,4]),.sh (.int 4294967295),.sh (.int 1)]=_;unfold lW;rw[au (wh MY Ol 15 20 1 (by decide) (by decide))]
 rw[show(up 1 15).find? (fun z=>decide (z∉ls))=gU ls from rfl,hf]
 show aj _ [.sh s,.sh (.int (tid j a b)),.sh (.int 23),.sh (.int x),.sh (.int y),.on (.tr (dT j a b q q' ks ks' ls es es' lw)),.on (.al 5 [0,J j,4]),.sh (.int 4294967295),.sh (.int 16)]=_;refine br ?_;rw[bO rfl];rw[←hs];exact ir rfl rfl
theorem DC(h:a≠b)(hn:nice (st j a b q q' (ab ks es) (ab ks' es') (ah ls lw))=true)(hd:ba (st j a b q q' (ab ks es) (ab ks' es') (ah ls lw))<9)(hl:ks.length=es.length)(hk:ks.length<900)(MY:ls.length=lw.length)(Mn:ls.length<900)(Ol:(16:Int)∉ls)(hc:look x ks es=some (.own ws))(hf:gU ls=some n):dO [st j a b q q' (ab ks es) (ab ks' es') (ah ls lw),.int (tid j a b),.int 23,.int x,.int y]=.ok (.tup [st j a b q q' (ab (ins x (.ln n) ks es).1 (ins x (.ln n) ks es).2) (ab ks' es') (ah (ins n ws ls lw).1 (ins n ws ls lw).2),.int n]):=by
 refine iN h hn hd ?_;rw[←eR (j:=j) (a:=a) (b:=b) (q:=q) (q':=q') (ks:=ks) (ks':=ks') (ls:=ls) (es:=es) (es':=es') (lw:=lw)];generalize hs:T.toD (dT j a b q q' ks ks' ls es es' lw)=s;unfold hV;rw[au (bc rfl),au (bc rfl),au (bc rfl)];have hx:x∈ks:=(pL hc).2;rw[au (bc (fN rfl (by rw[du (aR (aG (x:=.int x) rfl fQ (kX hl x))) (aR (aG (o:=oEq) (x:=S "own") (aG (aG fQ (y:=.int x) rfl (p8 hc)) (y:=.int 0) rfl rfl) rfl qb)),decide_eq_false (fun z=>z hx)];rfl)))]
 rw[au (bI (d:=.int 1) rfl)];show aj _ [.sh s,.sh (.int (tid j a b)),.sh (.int 23),.sh (.int x),.sh (.int y),.on (.tr (dT j a b q q' ks ks' ls es es' lw)),.on (.al 5 [0,J j,4]),.sh (.int 4294967295),.sh (.int 1)]=_;unfold lW;rw[au (wh MY Ol 15 20 1 (by decide) (by decide))]
 rw[show(up 1 15).find? (fun z=>decide (z∉ls))=gU ls from rfl,hf]
 show aj _ [.sh s,.sh (.int (tid j a b)),.sh (.int 23),.sh (.int x),.sh (.int y),.on (.tr (dT j a b q q' ks ks' ls es es' lw)),.on (.al 5 [0,J j,4]),.sh (.int 4294967295),.sh (.int n)]=_;have Nr:=(yP hf).2.2;rw[au (bc (by rw[aR (i5 (i:=n) (u:=15) rfl rfl),decide_eq_false (by omega)]))]
 have hw:cf (W ws)=true:=qq ws;have Qk:pX 5 pN (eC (S "lent")) [.sh s,.sh (.int (tid j a b)),.sh (.int 23),.sh (.int x),.sh (.int y),.on (.tr (dT j a b q q' ks ks' ls es es' lw)),.on (.al 5 [0,J j,4]),.sh (.int 4294967295),.sh (.int n)]=.ok [1]:=tI rfl
 have NI:b7 5 (pX 5 (pN) (eC (S "lent"))) (aa 8) (fF 5 (e2 ao (e2 ao (aa 6) (aa 3)) (eC (.int 1)))) [.sh s,.sh (.int (tid j a b)),.sh (.int 23),.sh (.int x),.sh (.int y),.on (.tr (dT j a b q q' ks ks' ls es es' lw)),.on (.al 5 [0,J j,4]),.sh (.int 4294967295),.sh (.int n)]=.ok (.next [.sh s,.sh (.int (tid j a b)),.sh (.int 23),.sh (.int x),.sh (.int y),.on (.tr (dT j a b q q' ks ks' (ins n ws ls lw).1 es es' (ins n ws ls lw).2)),.on (.al 5 [0,J j,4]),.sh (.int 4294967295),.sh (.int n)]):=by
   rw[gO (t:=dT j a b q q' ks ks' ls es es' lw) (ks:=IK ls) (ts:=lw.map fun w=>T.d (W w)) (d:=W ws) (A3 rfl (aG (x:=(Ent.own ws).d) (y:=.int 1) (aG fQ (y:=.int x) rfl (p8 hc)) rfl rfl) hw) Qk rfl rfl rfl rfl (by unfold IK;rw[List.length_map];omega) (jU W)]
   have VS:cb 5 [1] (.on (.al 5 [0,J j,4]))=.on (.al 5 [0,J j,4]):=by
     show(if 5=5∧below [1] [0,J j,4]=true then Slot.un else .on (.al 5 [0,J j,4]))=_
     rw[if_neg (by simp[below])]
   rw[←VS];rfl
 rw[au NI]
 have Qv:b7 5 (pA 5 6) (aa 3) (aU [eC (S "lent"),aa 8]) [.sh s,.sh (.int (tid j a b)),.sh (.int 23),.sh (.int x),.sh (.int y),.on (.tr (dT j a b q q' ks ks' (ins n ws ls lw).1 es es' (ins n ws ls lw).2)),.on (.al 5 [0,J j,4]),.sh (.int 4294967295),.sh (.int n)]=.ok (.next [.sh s,.sh (.int (tid j a b)),.sh (.int 23),.sh (.int x),.sh (.int y),.on (.tr (dT j a b q q' (ins x (.ln n) ks es).1 ks' (ins n ws ls lw).1 (ins x (.ln n) ks es).2 es' (ins n ws ls lw).2)),cb 5 [0,J j,4] (.on (.al 5 [0,J j,4])),.sh (.int 4294967295),.sh (.int n)]):=by
   rw[gO (p:=[0,J j,4]) (d:=(Ent.ln n).d) (gi rfl rfl) rfl rfl rfl rfl (show T.at (dT j a b q q' ks ks' (ins n ws ls lw).1 es es' (ins n ws ls lw).2) [0,J j,4]=some (T.m (IK ks) (es.map fun x=>T.d x.d))from js) (by unfold IK;rw[List.length_map];omega) (jU Ent.d)]
   rw[show T.m (IK (ins x (Ent.ln n) ks es).1) ((ins x (Ent.ln n) ks es).2.map fun x=>T.d x.d)=bq (ins x (Ent.ln n) ks es).1 (ins x (Ent.ln n) ks es).2 from rfl,show dT j a b q q' ks ks' (ins n ws ls lw).1 es es' (ins n ws ls lw).2=bw j a b q.t q'.t (bq ks es) (bq ks' es') (cv (ins n ws ls lw).1 (ins n ws ls lw).2) (deep bD) (deep bE)from rfl,lC]
   rfl
 rw[au Qv, ←eR];exact ir rfl rfl
end
theorem pC{n:Nat}:∀ {ls:List Int},ls.Nodup→(∀x∈ls,1≤x∧x≤n)→ls.length≤n:=by
 induction n with
 | zero=>
   intro ls _ h;cases ls with
   |nil=>exact Nat.le_refl _
   |cons x xs=>have:=h x List.mem_cons_self;omega
 | succ n ih=>
   intro ls nd h
   have h2:=ih (nd.erase ((n:Int)+1)) fun x hx=>by
     have h1:=h x (List.mem_of_mem_erase hx);have h3:x≠(n:Int)+1:=fun e=>(nd.not_mem_erase (a:=(n:Int)+1)) (e▸hx);omega
   have h3:=List.length_erase (a:=(n:Int)+1) (l:=ls);split at h3<;>omega
structure Ok(m:Nat)(ls ks ks':List Int)(lw:List (List Int))(es es':List Ent):Prop where
 p:bt m ls ks es
 p':bt m ls ks' es'
 l:ls.Nodup
 ll:ls.length=lw.length
 lr:∀x∈ls,1≤x∧x≤15
 iy:∀w∈lw,w.length=16
section
variable{m:Nat}{j:Bool}{a b:Int}{q q':Q}{ls ks ks':List Int}{lw:List (List Int)}{es es':List Ent}
theorem Ok.i8(o:Ok m ls ks ks' lw es es'):ls.length≤15:=pC (n:=15) o.l fun x hx=>o.lr x hx
theorem Ok.lt(o:Ok m ls ks ks' lw es es'):Lt ls lw:=⟨o.l,o.ll,by have:=o.i8;omega,o.iy⟩
theorem zG(h:bt m ls ks es)(hm:m<900):nice (ab ks es)=true∧ba (ab ks es)≤3:=by
 constructor
 · show(decide (IK ks).Nodup&&decide ((IK ks).length=(es.map Ent.d).length)&&decide ((IK ks).length≤1000)&&fZ (es.map Ent.d))=true
   have hl:(IK ks).length=ks.length:=List.length_map ..;rw[lg (by intro d hd;obtain⟨e,he,rfl⟩:=List.mem_map.mp hd;exact(rl (h.2.2.2 e he)).1),decide_eq_true (rJ h.1),decide_eq_true (by rw[hl,List.length_map];exact h.2.1),decide_eq_true (by rw[hl];have:=h.2.2.1;omega)];rfl
 · show cN (es.map Ent.d)+1≤3
   have:cN (es.map Ent.d)≤2:=md (by intro d hd;obtain⟨e,he,rfl⟩:=List.mem_map.mp hd;exact(rl (h.2.2.2 e he)).2)
   omega
theorem Ok.keep{p:Int→Bool}(o:Ok m ls ks ks' lw es es')(hp:∀n∈ls,(∃e∈es,e=.ln n)∨(∃e∈es',e=.ln n)→p n=true):Ok m (aB p ls lw).1 ks ks' (aB p ls lw).2 es es':=by
 have hm:=fun x=>r9 (p:=p) (x:=x) (ks:=ls) (es:=lw) o.ll;refine⟨⟨o.p.1,o.p.2.1,o.p.2.2.1,fun e he=>?_⟩,⟨o.p'.1,o.p'.2.1,o.p'.2.2.1,fun e he=>?_⟩,o.l.sublist jk,jG,fun x hx=>o.lr x ((hm x).mp hx).1,fun w hw=>o.iy w (pj hw)⟩
 · have:=o.p.2.2.2 e he
   cases e with
   |own ws=>exact this
   |ln n=>exact(hm n).mpr ⟨this,hp n this (.inl ⟨_,he,rfl⟩)⟩
 · have:=o.p'.2.2.2 e he
   cases e with
   |own ws=>exact this
   |ln n=>exact(hm n).mpr ⟨this,hp n this (.inr ⟨_,he,rfl⟩)⟩
theorem pZ:∀ {es:List Ent},(∃e∈es,e=.ln n)→n∈aS es
 |[],h=>by obtain⟨_,h,_⟩:=h;simp at h
 | .ln k::es,h=>by
   obtain⟨e,he,rfl⟩:=h;rcases List.mem_cons.mp he with he|he
   ·cases he;exact List.mem_cons_self
   ·exact List.mem_cons_of_mem _ (pZ ⟨_,he,rfl⟩)
 | .own _::es,h=>by
   obtain⟨e,he,rfl⟩:=h;rcases List.mem_cons.mp he with he|he
   ·cases he
   ·exact pZ (es:=es) ⟨_,he,rfl⟩
theorem u7(h:(∃e∈es,e=.ln n)∨(∃e∈es',e=.ln n)):hB es es' n=true:=by
 unfold hB;refine decide_eq_true (List.mem_append.mpr ?_);exact h.imp pZ pZ
end
theorem zk(hq:NQ q)(h:bt m ls ks es)(Q5:m<900):nice (tk q (ab ks es))=true∧ba (tk q (ab ks es))≤4:=by
 have hp:=zG h Q5
 have hm:∀d∈[q.p,q.k,q.g,q.r,ab ks es,q.h,q.w,q.hd,q.ru,q.sv],nice d=true∧ba d≤3:=by
   intro d hd;by_cases hc:d=ab ks es
   ·rw[hc];exact hp
   · have:=hq d (by simp only[List.mem_cons]at hd ⊢;rcases hd with h|h|h|h|h|h|h|h|h|h|h<;>simp[h]at hc ⊢)
     exact⟨this.1,by omega⟩
 constructor
 · show(decide KS.Nodup&&decide (KS.length=10)&&decide (KS.length≤1000)&&fZ [q.p,q.k,q.g,q.r,ab ks es,q.h,q.w,q.hd,q.ru,q.sv])=true
   rw[lg fun d hd=>(hm d hd).1]
   kernel_rfl
 · show cN [q.p,q.k,q.g,q.r,ab ks es,q.h,q.w,q.hd,q.ru,q.sv]+1≤4
   have:=md (n:=3) fun d hd=>(hm d hd).2;omega
section
variable{j:Bool}{a b:Int}{q q':Q}{ls ks ks':List Int}{lw:List (List Int)}{es es':List Ent}
theorem Ik(h:a≠b)(hq:NQ q)(Mt:NQ q')(Q5:m<900)(hp:bt m ls ks es)(Oq:bt m ls ks' es')(hl:Lt ls lw):nice (st j a b q q' (ab ks es) (ab ks' es') (ah ls lw))=true∧ba (st j a b q q' (ab ks es) (ab ks' es') (ah ls lw))≤6:=by
 have h1:=zk hq hp Q5;have h2:=zk Mt Oq Q5;have h3:=BO hl
 have nd:([.inl a,.inl b]:List Ky).Nodup:=by
   refine List.nodup_cons.mpr ⟨fun hm=>jR h (List.mem_singleton.mp hm),by simp⟩
 have ht:nice (dE j a b (tk q (ab ks es)) (tk q' (ab ks' es')))=true∧ba (dE j a b (tk q (ab ks es)) (tk q' (ab ks' es')))≤5:=by
   cases j with
   | false=>
     constructor
     · show(decide ([.inl a,.inl b]:List Ky).Nodup&&decide (2=2)&&decide (2≤1000)&&(nice (tk q (ab ks es))&&(nice (tk q' (ab ks' es'))&&true)))=true
       rw[h1.1,h2.1,decide_eq_true nd];rfl
     · show max (ba (tk q (ab ks es))) (max (ba (tk q' (ab ks' es'))) 0)+1≤5
       omega
   | true=>
     constructor
     · show(decide ([.inl a,.inl b]:List Ky).Nodup&&decide (2=2)&&decide (2≤1000)&&(nice (tk q' (ab ks' es'))&&(nice (tk q (ab ks es))&&true)))=true
       rw[h1.1,h2.1,decide_eq_true nd];rfl
     · show max (ba (tk q' (ab ks' es'))) (max (ba (tk q (ab ks es))) 0)+1≤5
       omega
 constructor
 · show(decide SK.Nodup&&decide (SK.length=5)&&decide (SK.length≤1000)&&(nice (dE j a b (tk q (ab ks es)) (tk q' (ab ks' es')))&&(nice (ah ls lw)&&(nice bD&&(nice bE&&(nice (.int 4)&&true))))))=true
   rw[ht.1,h3.1]
   kernel_rfl
 · show max (ba (dE j a b (tk q (ab ks es)) (tk q' (ab ks' es')))) (max (ba (ah ls lw)) (max (ba bD) (max (ba bE) (max (ba (.int 4)) 0))))+1≤6
   have e1:ba bD=3:=by kernel_rfl
   have e2:ba bE=3:=by kernel_rfl
   have e3:ba (.int 4)=0:=rfl;omega
end
section
variable{m:Nat}{j:Bool}{a b:Int}{q q':Q}{ls ks ks':List Int}{lw:List (List Int)}{es es':List Ent}
theorem Ok.nice(o:Ok m ls ks ks' lw es es')(h:a≠b)(hq:NQ q)(Mt:NQ q')(hm:m<900):nice (st j a b q q' (ab ks es) (ab ks' es') (ah ls lw))=true∧ba (st j a b q q' (ab ks es) (ab ks' es') (ah ls lw))≤6:=Ik h hq Mt hm o.p o.p' o.lt
theorem xV(h1:nice s=true)(h2:ba s≤6)(h3:C.nice s'=true)(h4:ba s'≤6)(hd:dO [s,.int t,.int N,.int x,.int y]=.ok (.tup [s',.int n]))(hm:fE [s,.int t,.int N,.int x,.int y]=.ok (.tup [s',.int n])):dZ [s,.int t,.int N,.int x,.int y]=.ok s':=by
 rw[dZ];refine bT ?_;show aj _ [.sh s,.sh (.int t),.sh (.int N),.sh (.int x),.sh (.int y),.un,.un,.un]=_;have Ve:aJ dO [aa 0,aa 1,aa 2,aa 3,aa 4] [.sh s,.sh (.int t),.sh (.int N),.sh (.int x),.sh (.int y),.un,.un,.un]=.ok (.tup [s',.int n]):=hd;rw[au (bI Ve)];show aj _ [.sh s,.sh (.int t),.sh (.int N),.sh (.int x),.sh (.int y),.sh (.tup [s',.int n]),.un,.un]=_;have hc:eM [s]=.ok (deep s):=qa 9 s h1 (by omega)
 rw[au (bI (d:=s) (by rw[nH (km rfl hc),gM]))]
 show aj _ [.sh s,.sh (.int t),.sh (.int N),.sh (.int x),.sh (.int y),.sh (.tup [s',.int n]),.sh s,.un]=_;have UU:aJ fE [aa 6,aa 1,aa 2,aa 3,aa 4] [.sh s,.sh (.int t),.sh (.int N),.sh (.int x),.sh (.int y),.sh (.tup [s',.int n]),.sh s,.un]=.ok (.tup [s',.int n]):=hm;rw[au (bI UU)];show aj _ [.sh s,.sh (.int t),.sh (.int N),.sh (.int x),.sh (.int y),.sh (.tup [s',.int n]),.sh s,.sh (.tup [s',.int n])]=_
 have SQ:dH [.tup [s',.int n],.tup [s',.int n]]=.ok (.bl true):=lh 9 _ (by
   show(decide (2≤1000)&&(C.nice s'&&(C.nice (.int n)&&true)))=true;rw[h3];rfl) (by
   show max (ba s') (max (ba (.int n)) 0)+1<9;have:ba (.int n)=0:=rfl;omega)
 have L0:dH [s,s]=.ok (.bl true):=lh 9 _ h1 (by omega)
 rw[au (bc (du (b:=false) (c:=false) (ip (aR (b:=true) rfl)) (du (b:=false) (c:=false) (ip (aR (cM rfl rfl SQ))) (ip (aR (cM rfl rfl L0))))))];exact br (cj rfl)
theorem yw(h:jB [s,.int t,.int x]=.ok d):fE [s,.int t,.int 21,.int x,.int y]=.ok d:=by
 rw[fE];refine bT (br ?_);rw[bO rfl];exact cj h
theorem vi(h:jb [s,.int t,.int x]=.ok d):fE [s,.int t,.int 22,.int x,.int y]=.ok d:=by
 rw[fE];refine bT ?_;rw[au (bc rfl)];refine br ?_;rw[bO rfl];exact cj h
theorem qH(h:gZ [s,.int t,.int x]=.ok d):fE [s,.int t,.int 23,.int x,.int y]=.ok d:=by
 rw[fE];refine bT ?_;rw[au (bc rfl),au (bc rfl)];refine br ?_;rw[bO rfl];exact cj h
theorem yu(h:jD [s,.int t,.int x,.int y]=.ok d):fE [s,.int t,.int 24,.int x,.int y]=.ok d:=by
 rw[fE];refine bT ?_;rw[au (bc rfl),au (bc rfl),au (bc rfl)];exact br (cj h)
theorem Ok.up(o:Ok m ls ks ks' lw es es'):Ok (m+1) ls ks ks' lw es es':=⟨o.p.sub (fun _ h=>h) (Nat.le_succ _),o.p'.sub (fun _ h=>h) (Nat.le_succ _),o.l,o.ll,o.lr,o.iy⟩
theorem GX(h:bt m ls ks es):bt (m+1) ls (aB p ks es).1 (aB p ks es).2:=⟨h.1.sublist jk,jG,by have:=(jk (p:=p) (ks:=ks) (es:=es)).length_le;have:=h.2.2.1;omega,fun e he=>h.2.2.2 e (pj he)⟩
end
section
variable{m:Nat}{j:Bool}{a b:Int}{q q':Q}{ls ks ks':List Int}{lw:List (List Int)}{es es':List Ent}
theorem vv(h:a≠b)(hq:NQ q)(Mt:NQ q')(o:Ok m ls ks ks' lw es es')(hm:m<400)(hN:N=21∨N=22∨N=23∨N=24)(hx:0≤x∨x∈ks)(hy:0≤y∨y∈ks):
   ∃LO LC LS LF,dZ [st j a b q q' (ab ks es) (ab ks' es') (ah ls lw),.int (tid j a b),.int N,.int x,.int y]=.ok (st j a b q q' (ab LC LF) (ab ks' es') (ah LO LS))∧Ok (m+1) LO LC ks' LS LF es':=by
 obtain⟨n1,n2⟩:=o.nice (j:=j) h hq Mt (by omega)
 have hl:=o.p.2.1;have hk:ks.length<900:=by have:=o.p.2.2.1;omega
 have Pf:=o.p'.2.1;have Nr:=o.i8;have Ol:(16:Int)∉ls:=fun hh=>by have:=o.lr 16 hh;omega
 have LQ:es.length+es'.length<1000:=by have:=o.p.2.2.1;have:=o.p'.2.2.1;omega
 have dX:∀ {n:Int},dO [st j a b q q' (ab ks es) (ab ks' es') (ah ls lw),.int (tid j a b),.int N,.int x,.int y]=.ok (.tup [st j a b q q' (ab ks es) (ab ks' es') (ah ls lw),.int n])→fE [st j a b q q' (ab ks es) (ab ks' es') (ah ls lw),.int (tid j a b),.int N,.int x,.int y]=.ok (.tup [st j a b q q' (ab ks es) (ab ks' es') (ah ls lw),.int n])→∃LO LC LS LF,dZ [st j a b q q' (ab ks es) (ab ks' es') (ah ls lw),.int (tid j a b),.int N,.int x,.int y]=.ok (st j a b q q' (ab LC LF) (ab ks' es') (ah LO LS))∧Ok (m+1) LO LC ks' LS LF es':=fun hd Pz=>⟨ls,ks,lw,es,xV n1 n2 n1 n2 hd Pz,o.up⟩
 have go:∀ {n:Int} {LO LC:List Int} {LS:List (List Int)} {LF:List Ent},Ok (m+1) LO LC ks' LS LF es'→dO [st j a b q q' (ab ks es) (ab ks' es') (ah ls lw),.int (tid j a b),.int N,.int x,.int y]=.ok (.tup [st j a b q q' (ab LC LF) (ab ks' es') (ah LO LS),.int n])→fE [st j a b q q' (ab ks es) (ab ks' es') (ah ls lw),.int (tid j a b),.int N,.int x,.int y]=.ok (.tup [st j a b q q' (ab LC LF) (ab ks' es') (ah LO LS),.int n])→∃LO LC LS LF,dZ [st j a b q q' (ab ks es) (ab ks' es') (ah ls lw),.int (tid j a b),.int N,.int x,.int y]=.ok (st j a b q q' (ab LC LF) (ab ks' es') (ah LO LS))∧Ok (m+1) LO LC ks' LS LF es':=fun {n LO LC LS LF} o2 hd Pz=>by
   obtain⟨n3,n4⟩:=o2.nice (j:=j) (a:=a) (b:=b) (q:=q) (q':=q') h hq Mt (by omega)
   exact⟨LO,LC,LS,LF,xV n1 n2 n3 n4 hd Pz,o2⟩
 have n9:ba (st j a b q q' (ab ks es) (ab ks' es') (ah ls lw))<9:=by omega
 rcases hN with rfl|rfl|rfl|rfl
 · by_cases hc:(decide (4095<x)||decide (x∈ks))=true
   · refine dX (Gu h n1 n9 hl hk o.ll hc) (yw (IH h hl ?_))
     by_cases QQ:x∈ks
     ·simp[QQ]
     · have:4095<x:=by simpa[QQ] using hc
       rw[decide_eq_false (show ¬x≤4095 by omega)];simp
   · have hc:(decide (4095<x)||decide (x∈ks))=false:=by simpa using hc
     have QQ:x∉ks:=fun hh=>by simp[hh]at hc
     have Q8:x≤4095:=by
       by_cases hh:4095<x
       ·simp[hh]at hc
       ·omega
     have Uy:0≤x:=hx.resolve_right QQ;exact go ⟨o.p.ins (by show(List.replicate 16 (0:Int)).length=16;rfl),o.p'.sub (fun _ h=>h) (Nat.le_succ _),o.l,o.ll,o.lr,o.iy⟩ (G1 h n1 n9 hl hk o.ll hc) (yw (Hr h hl hk Uy Q8 QQ))
 · by_cases hc:x∈ks
   · refine go ?_ (Gh h n1 n9 hl hk o.ll Pf LQ o.l (by omega) hc) (vi (Dp h hl Pf LQ o.ll o.l (by omega) hc))
     have o1:Ok (m+1) ls (aB (fun k=>decide (k≠x)) ks es).1 ks' lw (aB (fun k=>decide (k≠x)) ks es).2 es':=⟨GX o.p,o.p'.sub (fun _ h=>h) (Nat.le_succ _),o.l,o.ll,o.lr,o.iy⟩;exact o1.keep fun n _ hh=>u7 hh
   ·exact dX (IJ h n1 n9 hl hk o.ll hc) (vi (C0 h hc))
 · cases OI:look x ks es with
   |none=>exact dX (zZ h n1 n9 hl hk o.ll (.inl OI)) (qH (w8 h (.inl OI)))
   | some e=>
     cases e with
     |ln n=>exact dX (zZ h n1 n9 hl hk o.ll (.inr ⟨n,OI⟩)) (qH (w8 h (.inr ⟨n,OI⟩)))
     | own ws=>
       have SJ:ws.length=16:=o.p.2.2.2 _ (pL OI).1;cases hf:gU ls with
       |none=>exact dX (Fp h n1 n9 hl hk o.ll Ol OI hf) (qH (DS h OI o.ll hf))
       | some n=>
         obtain⟨VN,PB,Q1⟩:=yP hf;refine go ?_ (DC h n1 n9 hl hk o.ll (by omega) Ol OI hf) (qH (G8 h OI o.ll hk (by omega) hf))
         refine⟨(o.p.sub (m:=m) tZ (Nat.le_refl _)).ins ya,o.p'.sub tZ (Nat.le_succ _),rP o.l,(uU o.ll).1,fun y hy=>?_,fun w hw=>(uL hw).elim (o.iy w) fun e=>e▸SJ⟩;unfold ins at hy;rw[if_neg VN]at hy;rcases List.mem_append.mp hy with hy|hy
         ·exact o.lr y hy
         ·rw[List.mem_singleton.mp hy];exact⟨PB,Q1⟩
 · by_cases hc:(decide (x∉ls)||(decide (4095<y)||decide (y∈ks)))=true
   · refine dX (EF h n1 n9 hl hk o.ll hc) (yu (CF h hl o.ll ?_))
     by_cases QY:x∈ls
     · by_cases Qx:y∈ks
       ·simp[Qx]
       · have:4095<y:=by simpa[QY,Qx] using hc
         rw[decide_eq_false (show ¬y≤4095 by omega)];simp
     ·simp[QY]
   · have hc:(decide (x∉ls)||(decide (4095<y)||decide (y∈ks)))=false:=by simpa using hc
     have QY:x∈ls:=by
       by_cases hh:x∈ls
       ·exact hh
       ·simp[hh]at hc
     have Qx:y∉ks:=fun hh=>by simp[hh]at hc
     have Q3:y≤4095:=by
       by_cases hh:4095<y
       ·simp[hh]at hc
       ·omega
     exact go ⟨o.p.ins (e:=.ln x) QY,o.p'.sub (fun _ h=>h) (Nat.le_succ _),o.l,o.ll,o.lr,o.iy⟩ (EB h n1 n9 hl hk o.ll hc) (yu (Jn h hl hk o.ll QY (hy.resolve_right Qx) Q3 Qx))
end
theorem ne_nil(ns:List Int):cF (.lst (ns.map .int)) (.lst [])=.ok (.bl (!ns.isEmpty)):=by
 unfold cF
 have h1:lay (D.lst (ns.map D.int))=true:=by
   unfold lay;exact Dr (by intro d hd;obtain⟨i,_,rfl⟩:=List.mem_map.mp hd;rfl)
 have h2:fi (D.lst (ns.map D.int)) (D.lst [])=true:=by
   unfold fi;have hm:min (dep (D.lst (ns.map D.int))) (dep (D.lst []))≤60:=Nat.le_trans (Nat.min_le_right _ _) (by decide)
   rw[h1,show lay (D.lst [])=true from rfl,decide_eq_true hm]
   simp
 rw[if_pos h2];cases ns<;>rfl
theorem nq{ns:List Int}{i:Int}(h0:0≤i)(h1:i<ns.length):dA (ns.map D.int) i=some (.int (ns[i.toNat]'(by omega))):=by
 rw[rA h0 (by rw[List.length_map];exact h1),List.getElem_map]
section
variable{m:Nat}{j:Bool}{a b:Int}{q q':Q}{pg':D}{ls ks ks':List Int}{lw:List (List Int)}{es es':List Ent}
theorem yp(h:a≠b)(hk:ks.length<64){lt:D}(c:Int):∃x,jI [st j a b q q' (ab ks es) pg' lt,.int (tid j a b),.int c]=.ok (.int x)∧(0≤x∨x∈ks):=by
 rw[jI]
 suffices hh:∃x:Int,_=R.ok (Fl.ret (.int x))∧(0≤x∨x∈ks) by
   obtain⟨x,hx,h2⟩:=hh;exact⟨x,bT hx,h2⟩
 show ∃x:Int,aj _ [.sh (st j a b q q' (ab ks es) pg' lt),.sh (.int (tid j a b)),.sh (.int c),.un]=_∧_;rw[au (bI (cV (mH h rfl rfl) (mL hk)))];generalize st j a b q q' (ab ks es) pg' lt=s;show ∃x:Int,aj _ [.sh s,.sh (.int (tid j a b)),.sh (.int c),.sh (.lst ((aV ks).map .int))]=_∧_;by_cases hc:(decide (c % 3=0)&& !(aV ks).isEmpty)=true
 · have C':(aV ks).isEmpty=false:=by
     rw[Bool.and_eq_true]at hc;simpa using hc.2
   have ML:0<((aV ks).length:Int):=by
     cases hz:aV ks with
     |nil=>rw[hz]at C';cases C'
     |cons x xs=>simp
   have i0:=Int.emod_nonneg (c / 3) (Int.ne_of_gt ML);have i1:=Int.emod_lt_of_pos (c / 3) ML;refine⟨_,br ?_,.inr ((fm ks).mem_iff.mp (List.getElem_mem (show(c / 3 % ((aV ks).length:Int)).toNat<(aV ks).length by omega)))⟩
   rw[bO (by rw[lO (aR (jx (cu rfl rfl (by decide)) rfl)) (aR (aG rfl rfl (ne_nil _))),hc])]
   have hlen:e1 cQ (aa 3) [.sh s,.sh (.int (tid j a b)),.sh (.int c),.sh (.lst ((aV ks).map .int))]=.ok (.int ((aV ks).length:Int)):=by
     show R.ok (D.int (((aV ks).map D.int).length:Int))=_;rw[List.length_map]
   exact cj (aG rfl (cu (di rfl rfl (by decide)) hlen ML) (iQ (nq i0 i1)))
 · have hc:(decide (c % 3=0)&& !(aV ks).isEmpty)=false:=by simpa using hc
   rw[au (bc (by rw[lO (aR (jx (cu rfl rfl (by decide)) rfl)) (aR (aG rfl rfl (ne_nil _))),hc]))]
   by_cases h1:c % 3=1
   · have i0:=Int.emod_nonneg (c / 3) (show(10:Int)≠0 by decide)
     have i1:=Int.emod_lt_of_pos (c / 3) (show(0:Int)<10 by decide)
     have NH:∀z∈([0,1,2,3,4,5,4094,4095,4096,65535]:List Int),0≤z:=by decide
     refine⟨_,br ?_,.inl (NH _ (List.getElem_mem (show(c / 3 % 10).toNat<([0,1,2,3,4,5,4094,4095,4096,65535]:List Int).length by show _<10;omega)))⟩
     rw[bO (by rw[aR (jx (cu rfl rfl (by decide)) rfl),decide_eq_true h1])]
     exact cj (aG (x:=.lst (([0,1,2,3,4,5,4094,4095,4096,65535]:List Int).map .int)) rfl (cu (di rfl rfl (by decide)) rfl (by decide)) (iQ (nq (ns:=[0,1,2,3,4,5,4094,4095,4096,65535]) i0 (by show _<(10:Int);exact i1))))
   · rw[au (bc (by rw[aR (jx (cu rfl rfl (by decide)) rfl),decide_eq_false h1]))]
     have i0:=Int.emod_nonneg (c / 3) (show(2:Int)≠0 by decide)
     have i1:=Int.emod_lt_of_pos (c / 3) (show(0:Int)<2 by decide)
     have a0:=Int.emod_nonneg (c / 6) (show(17:Int)≠0 by decide)
     have a1:=Int.emod_nonneg (c / 6) (show(4294967296:Int)≠0 by decide)
     have NH:∀z∈([c / 6 % 17,c / 6 % 4294967296]:List Int),0≤z:=by
       intro z hz;simp only[List.mem_cons,List.not_mem_nil,or_false]at hz;rcases hz with rfl|rfl
       ·exact a0
       ·exact a1
     refine⟨_,br (cj ?_),.inl (NH _ (List.getElem_mem (show(c / 3 % 2).toNat<([c / 6 % 17,c / 6 % 4294967296]:List Int).length by show _<2;omega)))⟩
     refine aG (x:=.lst (([c / 6 % 17,c / 6 % 4294967296]:List Int).map .int)) ?_ (cu (di rfl rfl (by decide)) rfl (by decide)) (iQ (nq (ns:=[c / 6 % 17,c / 6 % 4294967296]) i0 (by show _<(2:Int);exact i1)))
     simp only[cL,eList];rw[cu (i:=c / 6) (u:=17) (di rfl rfl (by decide)) rfl (by decide),cu (i:=c / 6) (u:=4294967296) (di rfl rfl (by decide)) rfl (by decide)]
     rfl
theorem IB(h:a≠b)(hq:NQ q)(Mt:NQ q')(o:Ok m ls ks ks' lw es es')(hm:m<63)(c:Int):
   ∃LO LC LS LF,oP [st j a b q q' (ab ks es) (ab ks' es') (ah ls lw),.int (tid j a b),.int c]=.ok (st j a b q q' (ab LC LF) (ab ks' es') (ah LO LS))∧Ok (m+1) LO LC ks' LS LF es':=by
 have hk:ks.length<64:=by have:=o.p.2.2.1;omega
 obtain⟨x,Q8,RK⟩:=yp (j:=j) (q:=q) (q':=q') (pg':=ab ks' es') (es:=es) (lt:=ah ls lw) h hk (c / 4);obtain⟨y,Q3,UI⟩:=yp (j:=j) (q:=q) (q':=q') (pg':=ab ks' es') (es:=es) (lt:=ah ls lw) h hk (c / 400);have hN:(21+c % 4=21∨21+c % 4=22∨21+c % 4=23∨21+c % 4=24):=by omega
 have NS:ao (st j a b q q' (ab ks es) (ab ks' es') (ah ls lw)) (S "lent")=.ok (ah ls lw):=ig;have O1:=fun(x:Int) (hx:0≤x∨x∈ks)=>vv (j:=j) h hq Mt o (by omega) (N:=21+c % 4) (x:=x) (y:=y) hN hx UI
 rw[oP];generalize hs:st j a b q q' (ab ks es) (ab ks' es') (ah ls lw)=s at Q8 Q3 NS O1
 suffices hh:∃x':Int,(0≤x'∨x'∈ks)∧∀d,dZ [s,.int (tid j a b),.int (21+c % 4),.int x',.int y]=.ok d→aj [bb (aE 3) (e2 d9 (eC (.int 21)) (e2 oMod (aa 2) (eC (.int 4)))),bb (aE 4) (aJ jI [aa 0,aa 1,e2 oDiv (aa 2) (eC (.int 4))]),bb (aE 5) (aJ jI [aa 0,aa 1,e2 oDiv (aa 2) (eC (.int 400))]),aQ (d8 (tV (e2 oEq (aa 3) (eC (.int 24)))) (d8 (tV (e2 d6 (e2 oMod (e2 oDiv (aa 2) (eC (.int 4))) (eC (.int 4))) (eC (.int 0)))) (tV (e2 gj (e2 ao (aa 0) (eC (S "lent"))) (cz [] []))))) (bb (aE 4) (e2 ao (e1 de (e2 ao (aa 0) (eC (S "lent")))) (e2 oMod (e2 oDiv (aa 2) (eC (.int 16))) (e1 cQ (e2 ao (aa 0) (eC (S "lent"))))))) (aP),aM (aJ dZ [aa 0,aa 1,aa 3,aa 4,aa 5])] [.sh s,.sh (.int (tid j a b)),.sh (.int c),.un,.un,.un]=.ok (.ret d) by
   obtain⟨x',h1,h2⟩:=hh;obtain⟨LO,LC,LS,LF,h3,h4⟩:=O1 x' h1;exact⟨LO,LC,LS,LF,bT (h2 _ h3),h4⟩
 rw[au (bI (gP rfl (cu rfl rfl (by decide))))]
 show ∃x':Int,(0≤x'∨x'∈ks)∧∀d,dZ [s,.int (tid j a b),.int (21+c % 4),.int x',.int y]=.ok d→aj _ [.sh s,.sh (.int (tid j a b)),.sh (.int c),.sh (.int (21+c % 4)),.un,.un]=.ok (.ret d);rw[au (bI (dD rfl rfl (di rfl rfl (by decide)) Q8))]
 show ∃x':Int,(0≤x'∨x'∈ks)∧∀d,dZ [s,.int (tid j a b),.int (21+c % 4),.int x',.int y]=.ok d→aj _ [.sh s,.sh (.int (tid j a b)),.sh (.int c),.sh (.int (21+c % 4)),.sh (.int x),.un]=.ok (.ret d);rw[au (bI (dD rfl rfl (di rfl rfl (by decide)) Q3))]
 show ∃x':Int,(0≤x'∨x'∈ks)∧∀d,dZ [s,.int (tid j a b),.int (21+c % 4),.int x',.int y]=.ok d→aj _ [.sh s,.sh (.int (tid j a b)),.sh (.int c),.sh (.int (21+c % 4)),.sh (.int x),.sh (.int y)]=.ok (.ret d);have Mm:d8 (tV (e2 oEq (aa 3) (eC (.int 24)))) (d8 (tV (e2 d6 (e2 oMod (e2 oDiv (aa 2) (eC (.int 4))) (eC (.int 4))) (eC (.int 0)))) (tV (e2 gj (e2 ao (aa 0) (eC (S "lent"))) (cz [] [])))) [.sh s,.sh (.int (tid j a b)),.sh (.int c),.sh (.int (21+c % 4)),.sh (.int x),.sh (.int y)]=.ok (decide (21+c % 4=24)&&(decide (0<c / 4 % 4)&& !(IK ls).isEmpty)):=lO (aR (jx rfl rfl)) (lO (aR (i5 (cu (di rfl rfl (by decide)) rfl (by decide)) rfl)) (aR (aG (aG rfl rfl NS) (y:=.aw [] []) rfl rfl)))
 by_cases hc:(decide (21+c % 4=24)&&(decide (0<c / 4 % 4)&& !(IK ls).isEmpty))=true
 · rw[hc]at Mm
   have C':ls≠[]:=fun e=>by rw[e]at hc;simp[IK]at hc
   have hlen:(aV ls).length=ls.length:=(fm ls).length_eq
   have ML:0<((IK ls).length:Int):=by
     unfold IK;rw[List.length_map];cases ls with
     |nil=>exact absurd rfl C'
     |cons x xs=>simp
   have W9:(IK ls).length=ls.length:=List.length_map ..;have i0:=Int.emod_nonneg (c / 16) (Int.ne_of_gt ML);have i1:=Int.emod_lt_of_pos (c / 16) ML;have Nr:=o.i8;have hi:(c / 16 % ((IK ls).length:Int)).toNat<(aV ls).length:=by omega
   refine⟨(aV ls)[(c / 16 % ((IK ls).length:Int)).toNat],.inl ?_,fun d hd=>?_⟩
   ·have:=o.lr _ ((fm ls).mem_iff.mp (List.getElem_mem hi));omega
   · have hv:(e2 ao (e1 de (e2 ao (aa 0) (eC (S "lent")))) (e2 oMod (e2 oDiv (aa 2) (eC (.int 16))) (e1 cQ (e2 ao (aa 0) (eC (S "lent")))))) [.sh s,.sh (.int (tid j a b)),.sh (.int c),.sh (.int (21+c % 4)),.sh (.int x),.sh (.int y)]=.ok (.int ((aV ls)[(c / 16 % ((IK ls).length:Int)).toNat])):=aG (cV (aG rfl rfl NS) (mL (by omega))) (cu (di rfl rfl (by decide)) (cV (d:=.int ((IK ls).length:Int)) (aG rfl rfl NS) rfl) ML) (iQ (nq i0 (by rw[hlen];omega)))
     have Vz:aQ (d8 (tV (e2 oEq (aa 3) (eC (.int 24)))) (d8 (tV (e2 d6 (e2 oMod (e2 oDiv (aa 2) (eC (.int 4))) (eC (.int 4))) (eC (.int 0)))) (tV (e2 gj (e2 ao (aa 0) (eC (S "lent"))) (cz [] []))))) (bb (aE 4) (e2 ao (e1 de (e2 ao (aa 0) (eC (S "lent")))) (e2 oMod (e2 oDiv (aa 2) (eC (.int 16))) (e1 cQ (e2 ao (aa 0) (eC (S "lent"))))))) (aP) [.sh s,.sh (.int (tid j a b)),.sh (.int c),.sh (.int (21+c % 4)),.sh (.int x),.sh (.int y)]=.ok (.next [.sh s,.sh (.int (tid j a b)),.sh (.int c),.sh (.int (21+c % 4)),.sh (.int ((aV ls)[(c / 16 % ((IK ls).length:Int)).toNat])),.sh (.int y)]):=by
       rw[bO Mm];exact bI hv
     rw[au Vz];exact br (cj hd)
 · have hc:(decide (21+c % 4=24)&&(decide (0<c / 4 % 4)&& !(IK ls).isEmpty))=false:=by simpa using hc
   rw[hc]at Mm;refine⟨x,RK,fun d hd=>?_⟩;rw[au (bc Mm)];exact br (cj hd)
end
section
variable{m:Nat}{j:Bool}{a b:Int}{q q':Q}{ls ks ks':List Int}{lw:List (List Int)}{es es':List Ent}
theorem Ok.swap(o:Ok m ls ks ks' lw es es'):Ok m ls ks' ks lw es' es:=⟨o.p',o.p,o.l,o.ll,o.lr,o.iy⟩
def Gd(m:Nat)(j:Bool)(a b:Int)(q q':Q)(ks':List Int)(es':List Ent)(d:D):Prop:=∃ls ks lw es,d=st j a b q q' (ab ks es) (ab ks' es') (ah ls lw)∧Ok m ls ks ks' lw es es'
theorem DR(h:a≠b)(hq:NQ q)(Mt:NQ q')(g:Gd m j a b q q' ks' es' d)(hm:m<400)(hN:N=21∨N=22∨N=23∨N=24)(hx:0≤x):∃d2,dZ [d,.int (tid j a b),.int N,.int x,.int 0]=.ok d2∧Gd (m+1) j a b q q' ks' es' d2:=by
 obtain⟨ls,ks,lw,es,rfl,o⟩:=g;obtain⟨LO,LC,LS,LF,e,o2⟩:=vv (j:=j) h hq Mt o hm (N:=N) (x:=x) (y:=0) hN (.inl hx) (.inl (Int.le_refl 0));exact⟨_,e,LO,LC,LS,LF,rfl,o2⟩
theorem JB(g:Gd m j a b q q' ks' es' d):oE d=.ok (.bl true):=by
 obtain⟨ls,ks,lw,es,rfl,o⟩:=g;rfl
theorem tE(h:a≠b)(hq:NQ q)(Mt:NQ q')(g:Gd m j a b q q' ks' es' d)(hm:m<400)(hN:N=21∨N=22∨N=23∨N=24)(hx:0≤x):∃d2,ni [.sh d,.sh (.int (tid j a b)),.sh (.int x),.sh (.int N)]=.ok (.next [.sh d2,.sh (.int (tid j a b)),.sh (.int x),.sh (.int N)])∧Gd (m+1) j a b q q' ks' es' d2:=by
 obtain⟨d2,e,g2⟩:=DR h hq Mt g hm hN hx;refine⟨d2,?_,g2⟩;rw[ni,bO (aR (cV rfl (JB g)))];have e5:aJ dZ [aa 0,aa 1,aa 3,aa 2,eC (.int 0)] [.sh d,.sh (.int (tid j a b)),.sh (.int x),.sh (.int N)]=.ok d2:=e;exact bI e5
theorem qF(h:a≠b)(hq:NQ q)(Mt:NQ q')(g:Gd m j a b q q' ks' es' d)(hm:m<400)(hN:N=21∨N=22∨N=23∨N=24)(hx:0≤x):∃d2,pW [.sh d,.sh (.int (tid j a b)),.sh (.int x),.sh (.int N)]=.ok (.next [.sh d2,.sh (.int (tid j a b)),.sh (.int x),.sh (.int N)])∧Gd (m+1) j a b q q' ks' es' d2:=tE h hq Mt g hm hN hx
theorem GB(h:a≠b)(hq:NQ q)(Mt:NQ q')(g:Gd m j a b q q' ks' es' d)(hm:m<390)(hx:0≤x):∃d2 y3,kQ [.sh d,.sh (.int (tid j a b)),.sh (.int x),x3]=.ok (.next [.sh d2,.sh (.int (tid j a b)),.sh (.int x),y3])∧Gd (m+2) j a b q q' ks' es' d2:=by
 obtain⟨d1,P4,g1⟩:=tE h hq Mt g (by omega) (N:=21) (x:=x) (.inl rfl) hx
 obtain⟨d2,MO,g2⟩:=tE h hq Mt g1 (by omega) (N:=23) (x:=x) (.inr (.inr (.inl rfl))) hx
 refine⟨d2,.sh (.int 23),?_,g2⟩;rw[kQ];refine fL (ds:=[.int 21,.int 23]) rfl ?_;rw[eI (ρ1:=[.sh d,.sh (.int (tid j a b)),.sh (.int x),.sh (.int 21)]) rfl P4,eI (ρ1:=[.sh d1,.sh (.int (tid j a b)),.sh (.int x),.sh (.int 23)]) rfl MO];rfl
theorem C5(h:a≠b)(hq:NQ q)(Mt:NQ q')(g:Gd m j a b q q' ks' es' d)(hm:m<100):∃d2,mG [d,.int (tid j a b)]=.ok d2∧Gd (m+36) j a b q q' ks' es' d2:=by
 rw[mG]
 obtain⟨ρ1,eL,d1,x2,x3,g1,Mu⟩:=mf (tg:=aE 2) (body:=kQ) (fun n ρ=>∃d x2 x3,Gd (m+2*n) j a b q q' ks' es' d∧ρ=[.sh d,.sh (.int (tid j a b)),x2,x3]) (ds:=dG 200 216) 0 (by
   intro n d hk ρ ⟨d1,x2,x3,g1,Mu⟩;obtain⟨rfl,Mn⟩:=pF hk;subst Mu;refine⟨_,rfl,?_⟩;obtain⟨d2,y3,e,g2⟩:=GB h hq Mt g1 (by omega) (x:=200+(n:Int)) (x3:=x3) (by omega)
   exact⟨_,e,d2,_,y3,by rw[show m+2*(0+n+1)=m+2*(0+n)+2 by omega];exact g2,rfl⟩) (ρ:=[.sh d,.sh (.int (tid j a b)),.un,.un]) ⟨d,.un,.un,g,rfl⟩
 subst Mu;have g1:Gd (m+32) j a b q q' ks' es' d1:=g1;obtain⟨d2,f2,g2⟩:=qF h hq Mt g1 (by omega) (N:=22) (x:=205) (.inr (.inl rfl)) (by decide)
 obtain⟨d3,f3,g3⟩:=qF h hq Mt g2 (by omega) (N:=23) (x:=215) (.inr (.inr (.inl rfl))) (by decide)
 obtain⟨d4,f4,g4⟩:=qF h hq Mt g3 (by omega) (N:=21) (x:=205) (.inl rfl) (by decide)
 obtain⟨d5,f5,g5⟩:=qF h hq Mt g4 (by omega) (N:=23) (x:=205) (.inr (.inr (.inl rfl))) (by decide)
 refine⟨d5,bT ?_,g5⟩;show aj _ [.sh d,.sh (.int (tid j a b)),.un,.un]=_;rw[au (fL (ds:=dG 200 216) rfl eL)]
 rw[au (fL (ds:=[.tup [.int 22,.int 205],.tup [.int 23,.int 215],.tup [.int 21,.int 205],.tup [.int 23,.int 205]]) rfl (by
   rw[eI (ρ1:=[.sh d1,.sh (.int (tid j a b)),.sh (.int 205),.sh (.int 22)]) rfl f2,eI (ρ1:=[.sh d2,.sh (.int (tid j a b)),.sh (.int 215),.sh (.int 23)]) rfl f3,eI (ρ1:=[.sh d3,.sh (.int (tid j a b)),.sh (.int 205),.sh (.int 21)]) rfl f4,eI (ρ1:=[.sh d4,.sh (.int (tid j a b)),.sh (.int 205),.sh (.int 23)]) rfl f5];rfl))]
 rfl
end
section
variable{m:Nat}{j:Bool}{a b:Int}{q q':Q}{ls ks ks':List Int}{lw:List (List Int)}{es es':List Ent}
theorem yl(h:a≠b)(hq:NQ q)(Mt:NQ q')(o:Ok m ls ks ks' lw es es')(hm:m<300)(Po:x3=.un∨∃d,x3=.sh d)(i:Int)(ht:ao tl (.int i)=.ok (.int (tid j a b)))(hex:∀x4:Slot,ex [.sh s0,.sh (st j a b q q' (ab ks es) (ab ks' es') (ah ls lw)),.sh tl,x3,x4,.un,.un,.un,.un]=.ok (.int i)):
   aj [bb (aE 4) (eX (bG eM [aa 1])),bb (aE 5) (e2 ao (aa 2) ex),bb (aE 6) (eX (bG fW [aa 4,aa 5])),aQ (cO (tV (aJ dH [aa 6,e2 ao (e2 ao (e2 ao (aa 1) (eC (S "tasks"))) (aa 5)) (eC (S "pages"))]))) (aM (eC (.bl false))) (aP),il 7 (bG eM [aa 1]),jS 7 (pX 7 (pX 7 (pX 7 (pN) (eC (S "tasks"))) (aa 5)) (eC (S "pages"))),ib 7 gq [],bb (aE 8) (aJ kA [aa 4,aa 5]),aQ (cT 7 (b6 (cO (tV (aJ dH [aa 8,aa 7]))) (cO (tV (aJ dH [aa 4,aa 1]))))) (aM (eC (.bl false))) (aP),aM (eC (.bl true))] [.sh s0,.sh (st j a b q q' (ab ks es) (ab ks' es') (ah ls lw)),.sh tl,x3,.un,.un,.un,.un,.un]=.ok (.ret (.bl true)):=by
 obtain⟨n1,n2⟩:=o.nice (j:=j) h hq Mt (by omega)
 have MR:eM [st j a b q q' (ab ks es) (ab ks' es') (ah ls lw)]=.ok (dT j a b q q' ks ks' ls es es' lw):=by
   unfold dT;rw[←nA, ←nA, ←xU, ←xJ];exact qa 9 _ n1 (by omega)
 have S9:=fun {x y:Ex} {ρ:En}=>mH (j:=j) (q:=q) (q':=q') (pg:=ab ks es) (pg':=ab ks' es') (lt:=ah ls lw) h (x:=x) (y:=y) (ρ:=ρ);have Qm:=yZ (j:=j) (q:=q) (q':=q') (pg':=ab ks' es') (lt:=ah ls lw) (ks:=ks) (es:=es) h;have QA:dH [st j a b q q' (ab ks es) (ab ks' es') (ah ls lw),st j a b q q' (ab ks es) (ab ks' es') (ah ls lw)]=.ok (.bl true):=lh 9 _ n1 (by omega)
 have VG:=zG o.p (by omega)
 have Nw:dH [ab ks es,ab ks es]=.ok (.bl true):=lh 9 _ VG.1 (by omega)
 have o0:Ok m ls [] ks' lw [] es':=⟨⟨List.nodup_nil,rfl,Nat.zero_le _,fun _ hh=>nomatch hh⟩,o.p',o.l,o.ll,o.lr,o.iy⟩
 have o1:Ok m (aB (hB [] es') ls lw).1 [] ks' (aB (hB [] es') ls lw).2 [] es':=o0.keep fun n _ hh=>u7 hh;obtain⟨n3,n4⟩:=o1.nice (j:=j) (a:=a) (b:=b) (q:=q) (q':=q') h hq Mt (by omega)
 have Pf:=o.p'.2.1;have W7:=o.p'.2.2.1;have Nr:=o.i8;have R4:=vC (j:=j) (q:=q) (q':=q') (ks:=[]) (es:=[]) (ks':=ks') (es':=es') (ls:=ls) (lw:=lw) h rfl Pf (by simp;omega) o.ll o.l (by omega)
 have Td:kA [st j a b q q' (ab ks es) (ab ks' es') (ah ls lw),.int (tid j a b)]=.ok (st j a b q q' (ab [] []) (ab ks' es') (ah (aB (hB [] es') ls lw).1 (aB (hB [] es') ls lw).2)):=by
   rw[kA];refine bT (cj ?_);exact jc (dD rfl rfl (z:=.aw [.inr (Str.ofString "pages")] [ab [] []]) rfl (tX h)) (wu h rfl Pf (by simp;omega) o.ll o.l (by omega))
 have Pw:dH [st j a b q q' (ab [] []) (ab ks' es') (ah (aB (hB [] es') ls lw).1 (aB (hB [] es') ls lw).2),st j a b q q' (ab [] []) (ab ks' es') (ah (aB (hB [] es') ls lw).1 (aB (hB [] es') ls lw).2)]=.ok (.bl true):=lh 9 _ n3 (by omega)
 generalize hs:st j a b q q' (ab ks es) (ab ks' es') (ah ls lw)=s at MR S9 Qm QA Td hex;have Nv:∀ {ρ:En},aa 1 ρ=.ok s→eX (bG eM [aa 1]) ρ=.ok s:=fun {ρ} hh=>by rw[nH (km hh MR),eR,hs]
 rw[au (bI (Nv rfl))];show aj _ [.sh s0,.sh s,.sh tl,x3,.sh s,.un,.un,.un,.un]=_;rw[au (bI (aG rfl (hex _) ht))];show aj _ [.sh s0,.sh s,.sh tl,x3,.sh s,.sh (.int (tid j a b)),.un,.un,.un]=_
 have RO:eX (bG fW [aa 4,aa 5]) [.sh s0,.sh s,.sh tl,x3,.sh s,.sh (.int (tid j a b)),.un,.un,.un]=.ok (ab ks es):=by
   have:bG fW [aa 4,aa 5] [.sh s0,.sh s,.sh tl,x3,.sh s,.sh (.int (tid j a b)),.un,.un,.un]=.ok (bq ks es):=Qm;rw[nH this,ky]
 rw[au (bI RO)];show aj _ [.sh s0,.sh s,.sh tl,x3,.sh s,.sh (.int (tid j a b)),.sh (ab ks es),.un,.un]=_;rw[au (bc (ip (aR (cM rfl (S9 rfl rfl) Nw))))];rw[au (uB (km rfl MR) (by rcases Po with rfl|⟨d,rfl⟩<;>rfl) (by decide))]
 show aj _ [.sh s0,.sh s,.sh tl,x3,.sh s,.sh (.int (tid j a b)),.sh (ab ks es),.on (.tr (dT j a b q q' ks ks' ls es es' lw)),.un]=_;have P9:pX 7 (pX 7 (pX 7 pN (eC (S "tasks"))) (aa 5)) (eC (S "pages")) [.sh s0,.sh s,.sh tl,x3,.sh s,.sh (.int (tid j a b)),.sh (ab ks es),.on (.tr (dT j a b q q' ks ks' ls es es' lw)),.un]=.ok [0,J j,4]:=qN h rfl rfl
 have RW:jS 7 (pX 7 (pX 7 (pX 7 pN (eC (S "tasks"))) (aa 5)) (eC (S "pages"))) [.sh s0,.sh s,.sh tl,x3,.sh s,.sh (.int (tid j a b)),.sh (ab ks es),.on (.tr (dT j a b q q' ks ks' ls es es' lw)),.un]=.ok (.next [.sh s0,.sh s,.sh tl,x3,.sh s,.sh (.int (tid j a b)),.sh (ab ks es),.on (.tr (dT j a b q q' [] ks' ls [] es' lw)),.un]):=by
   unfold jS;rw[P9,R.aO];show(match T.at (dT j a b q q' ks ks' ls es es' lw) [0,J j,4]with|some (.m _ _)=>R.ok (Fl.next ((fM 7 [0,J j,4] [.sh s0,.sh s,.sh tl,x3,.sh s,.sh (.int (tid j a b)),.sh (ab ks es),.on (.tr (dT j a b q q' ks ks' ls es es' lw)),.un]).set 7 (.on (.tr (T.put (.m [] []) (dT j a b q q' ks ks' ls es es' lw) [0,J j,4])))))|_=>.bad)=_
   rw[show T.at (dT j a b q q' ks ks' ls es es' lw) [0,J j,4]=some (T.m (IK ks) (es.map fun x=>T.d x.d))from js]
   rw[show dT j a b q q' ks ks' ls es es' lw=bw j a b q.t q'.t (bq ks es) (bq ks' es') (cv ls lw) (deep bD) (deep bE)from rfl,lC]
   rcases Po with rfl|⟨d,rfl⟩<;>rfl
 rw[au RW]
 have VH:ib 7 gq [] [.sh s0,.sh s,.sh tl,x3,.sh s,.sh (.int (tid j a b)),.sh (ab ks es),.on (.tr (dT j a b q q' [] ks' ls [] es' lw)),.un]=.ok (.next [.sh s0,.sh s,.sh tl,x3,.sh s,.sh (.int (tid j a b)),.sh (ab ks es),.on (.tr (dT j a b q q' [] ks' (aB (hB [] es') ls lw).1 [] es' (aB (hB [] es') ls lw).2)),.un]):=by
   rw[xb rfl R4 rfl];rcases Po with rfl|⟨d,rfl⟩<;>rfl
 rw[au VH,au (bI (cM rfl rfl Td))]
 have RC:aa 7 (bZ 7 (dT j a b q q' [] ks' (aB (hB [] es') ls lw).1 [] es' (aB (hB [] es') ls lw).2) [.sh s0,.sh s,.sh tl,x3,.sh s,.sh (.int (tid j a b)),.sh (ab ks es),.on (.tr (dT j a b q q' [] ks' (aB (hB [] es') ls lw).1 [] es' (aB (hB [] es') ls lw).2)),.sh (st j a b q q' (ab [] []) (ab ks' es') (ah (aB (hB [] es') ls lw).1 (aB (hB [] es') ls lw).2))])=.ok (st j a b q q' (ab [] []) (ab ks' es') (ah (aB (hB [] es') ls lw).1 (aB (hB [] es') ls lw).2)):=by
   show R.ok (T.toD (dT j a b q q' [] ks' (aB (hB [] es') ls lw).1 [] es' (aB (hB [] es') ls lw).2))=_;rw[eR]
 show aj _ [.sh s0,.sh s,.sh tl,x3,.sh s,.sh (.int (tid j a b)),.sh (ab ks es),.on (.tr (dT j a b q q' [] ks' (aB (hB [] es') ls lw).1 [] es' (aB (hB [] es') ls lw).2)),.sh (st j a b q q' (ab [] []) (ab ks' es') (ah (aB (hB [] es') ls lw).1 (aB (hB [] es') ls lw).2))]=_;rw[au (bc (fN rfl (du (b:=false) (c:=false) (ip (aR (cM rfl RC Pw))) (ip (aR (cM rfl rfl QA))))))];rfl
end
end gu
end PL
namespace PL
open PySem PySem.Spec
open L2 (V Hp HO Cx PE PT PW PA PS cq PG d7 VK TE TT TA TS TI TG Inv RelV Vals Rd bz bN upd aq Key XK Ends bh gR b5 R2 EP It Turn dj)
structure XE(X:Cx)(e:Expr)(f:Ex):Prop where
 out:JE X e f
structure XF(X:Cx)(e:Expr)(f:Ex):Prop where
 out:JF X e f
structure XT(X:Cx)(e:Expr)(f:cg):Prop where
 out:JT X e f
structure XW(X:Cx)(e:Expr)(f:cg):Prop where
 out:JW X e f
structure XA(X:Cx)(e:List Expr)(f:En→R (List D)):Prop where
 out:JA X e f
structure XO(X:Cx)(e:Option Expr)(f:Option Ex):Prop where
 out:JO X e f
structure XS(X:Cx)(e:Stmt)(f:Sm):Prop where
 out:JS X e f
structure fX(X:Cx)(e:List Stmt)(f:Sm):Prop where
 out:dI X e f
structure XG(X:Cx)(e:Expr)(f:eS):Prop where
 out:JG X e f
structure pD(X:Cx)(e:List Expr)(f:List D→En→R En):Prop where
 out:nZ X e f
structure nL(X:Cx)(e:List Expr)(f:List cg):Prop where
 out:me X e f
structure XP(X:Cx)(pos:Pos)(keys:List (Option Expr))(values:List Expr)(ks:List Ky)(fs:List Ex):Prop where
 out:JP X pos keys values ks fs
structure XI(X:Cx)(tg e:Expr)(f:cI):Prop where
 out:JI X tg e f
structure ny(X:Cx)(i:Nat)(e:Stmt)(f:Sm):Prop where
 out:JK X i e f
structure nv(X:Cx)(i:Nat)(e:List Stmt)(f:Sm):Prop where
 out:kE X i e f
structure XD(X:Cx)(e:Expr)(f:Ex):Prop where
 out:JD X e f
structure XX(X:Cx)(e:Expr)(f:Xt):Prop where
 out:JX X e f
structure nM(X:Cx)(e:List Expr)(f:En→R (List T)):Prop where
 out:kJ X e f
structure XL(X:Cx)(i:Nat)(e:Expr)(f:Pt):Prop where
 out:JL X i e f
structure pe(X:Cx)(pos:Pos)(keys:List (Option Expr))(values:List Expr)(MV:List (Ex×Xt)):Prop where
 out:nr X pos keys values MV
theorem ae(i:Nat)(hN:X.N[i]? =some x:=by rfl)(hv:L2.cw X.env.scope x:=by first|exact Or.inl rfl|exact Or.inr (Or.inl rfl)|exact Or.inr (Or.inr rfl))(hd:(x==("__debug__":Str))=false:=by decide)(LH:(x==("__classdict__":Str))=false:=by decide):XE X (.Name x pos) (aa i):=⟨II i hN hv hd LH⟩
theorem ai:XE X (.Constant (.int i) j pos) (eC (.int i)):=⟨AI ⟩
theorem jt:XE X (.Constant (.bool b) j pos) (eC (.bl b)):=⟨FA ⟩
theorem oF:XE X (.Constant .none j pos) (eC .aH):=⟨Al ⟩
theorem aL:XE X (.Constant (.str x) j pos) (eC (.str x)):=⟨B1 ⟩
theorem aY(ho:bh X (binaryOp op) r)(hg:cy (aA X) g r)(ha:XE X a fa)(hb:XE X b fb):XE X (.BinOp a op b pos) (e2 g fa fb):=⟨Fw ho hg ha.out hb.out⟩
theorem oY(ho:bh X (compareOp op) r)(hg:cy (aA X) g r)(ha:XE X a fa)(hb:XE X b fb)(hm:behindInMarks op b=false:=by first|exact L2.vX _|rfl):XE X (.Compare a [op] [b] pos) (e2 g fa fb):=⟨EH ho hg ha.out hb.out hm⟩
theorem z9(ha:XE X a fa):XE X (.Compare a [.Is] [.Constant .none j p2] pos) (e1 g0 fa):=⟨BU ha.out⟩
theorem qP(h:XE X a fa):XE X (.BoolOp op [a] pos) fa:=⟨DY h.out⟩
theorem qD(ha:XE X a fa)(hb:XE X (.BoolOp .And (b::rest) pos) fb):XE X (.BoolOp .And (a::b::rest) pos) (en fa fb):=⟨FQ ha.out hb.out⟩
theorem CL(ho:bh X (compareOp op) r)(MS:bh X (compareOp op') r')(hg:cy (aA X) g r)(R7:cy (aA X) g' r')(ha:XE X a fa)(hb:XE X b fb)(hc:XE X c fc)(hm:lastMarks [op,op'] [b,c]=false:=by with_unfolding_all rfl):XE X (.Compare a [op,op'] [b,c] pos) (m5 g g' fa fb fc):=⟨GO ho MS hg R7 ha.out hb.out hc.out hm⟩
theorem fI(ha:XE X a fa)(he:∀whole,isTrue a X.env whole=(do let v ←whole;standAt a.pos;holding [v] (truthy v)):=by exact Jb (by rfl)):XT X a (tV fa):=⟨FL ha.out he⟩
theorem bM(ho:bh X (compareOp op) r)(hg:cy (aA X) g r)(hB:iL g)(ha:XE X a fa)(hb:XE X b fb)(hm:behindInMarks op b=false:=by first|exact L2.vX _|rfl):XT X (.Compare a [op] [b] pos) (tV (e2 g fa fb)):=⟨Bo ho hg hB ha.out hb.out hm⟩
theorem oC(ha:XE X a fa):XT X (.Compare a [.Is] [.Constant .none j p2] pos) (tV (e1 g0 fa)):=⟨A4 ha.out⟩
theorem wZ(ha:XE X a fa):XT X (.Compare a [.IsNot] [.Constant .none j p2] pos) (tV (e1 oE fa)):=⟨AS ha.out⟩
theorem iF(ha:XT X a c):XT X (.UnaryOp .Not a pos) (cO c):=⟨Ff ha.out⟩
theorem uA(ha:XT X a c):XW X (.BoolOp .And [a] pos) c:=⟨E4 ha.out⟩
theorem gY(ha:XT X a c):XW X (.BoolOp .Or [a] pos) c:=⟨CY ha.out⟩
theorem pU(ha:XT X a c)(hb:XW X (.BoolOp .And (b::rest) pos) c'):XW X (.BoolOp .And (a::b::rest) pos) (d8 c c'):=⟨Bv ha.out hb.out⟩
theorem gh(ha:XT X a c)(hb:XW X (.BoolOp .Or (b::rest) pos) c'):XW X (.BoolOp .Or (a::b::rest) pos) (b6 c c'):=⟨HY ha.out hb.out⟩
theorem fR(h:XW X e c):XT X e c:=⟨Cj h.out⟩
theorem aC:XA X [] (eList []):=⟨gB ⟩
theorem af(ha:XE X e f)(hr:XA X es (eList fs))(hs:starEach (e::es) X.env=(false,eval e X.env)::starEach es X.env:=by exact bX (by rfl)):XA X (e::es) (eList (f::fs)):=⟨fJ ha.out hr.out hs⟩
theorem bQ(h:XA X es (eList fs))(hl:fs.length≤1000:=by decide):XE X (.Tuple es k pos) (aU fs):=⟨Bs h.out hl⟩
theorem iD(h:XA X es (eList fs))(hl:fs.length≤1000:=by decide):XE X (.List es pos) (cL fs):=⟨Jj h.out hl⟩
theorem rF:XE X (.Dict [] [] pos) (cz [] []):=⟨CQ ⟩
theorem w5(h:XE X e f):XO X (some e) (some f):=⟨B4 h.out⟩
theorem HW(ha:XE X a fa)(hl:XO X lo fl)(hh:XO X hi fh):XE X (.Subscript a (.Slice lo hi none p2) pos) (pT fa fl fh):=⟨Jp ha.out hl.out hh.out⟩
theorem ft{X:L2.Cx}{pos:Pos}{g:D→R D}{r:List V→Hp→VK→Prop}{x:Str}{id:String}{a:Expr}{fa:Ex}{p:Pos}(hc:b5 X (.builtin id) r)(hg:hX (aA X) (g1 g) r)(hm:X.mg x=none)(hv:bootBuiltins x=some (.builtin id))(ha:XE X a fa)(Od:L2.Gl X x:=by rfl)(hs:starEach [a] X.env=(false,eval a X.env)::starEach [] X.env:=by exact bX (by rfl))(hn:x≠"__name__":=by decide)(Ms:(x==("__debug__":Str))=false:=by decide):XE X (.Call (.Name x p) [a] [] pos) (e1 g fa):=⟨Bx hc hg Od hm hv ha.out hs hn Ms⟩
theorem yI{X:L2.Cx}{pos:Pos}{g:D→R D}{r:List V→Hp→VK→Prop}{x:Str}{T:String}{a:Expr}{fa:Ex}{p:Pos}(hc:b5 X (.type T) r)(hg:hX (aA X) (g1 g) r)(hm:X.mg x=none)(hv:bootBuiltins x=some (.type T))(ha:XE X a fa)(Od:L2.Gl X x:=by rfl)(hs:starEach [a] X.env=(false,eval a X.env)::starEach [] X.env:=by exact bX (by rfl))(hn:x≠"__name__":=by decide)(Ms:(x==("__debug__":Str))=false:=by decide):XE X (.Call (.Name x p) [a] [] pos) (e1 g fa):=⟨Jf hc hg Od hm hv ha.out hs hn Ms⟩
theorem gz{X:L2.Cx}{pos:Pos}(ty:Ty){a:Expr}{fa:Ex}{p p2:Pos}{T:Str}(ha:XE X a fa)(hm:X.mg "isinstance"=none)(Ph:X.mg T=none)(R':bootBuiltins T=some (.type (mT ty)))(hg:L2.Gl X "isinstance":=by rfl)(Pe:L2.Gl X T:=by rfl)(hs:starEach [a,.Name T p2] X.env=(false,eval a X.env)::starEach [.Name T p2] X.env:=by exact bX (by rfl))(L0:starEach [.Name T p2] X.env=(false,eval (.Name T p2) X.env)::starEach [] X.env:=by exact bX (by rfl))(Ry:T≠"__name__":=by decide)(Ss:(T==("__debug__":Str))=false:=by decide):XE X (.Call (.Name "isinstance" p) [a,.Name T p2] [] pos) (e1 (bS ty) fa):=⟨IY ty ha.out hg hm Pe Ph R' hs L0 Ry Ss⟩
theorem bL:fX X [] (aj []):=⟨yb ⟩
theorem bJ:fX X [] aP:=⟨Er ⟩
theorem ar(h1:XS X st f)(h2:fX X rest (aj fs)):fX X (st::rest) (aj (f::fs)):=⟨CI h1.out h2.out⟩
theorem bB(h:XS X st f):fX X [st] f:=⟨AH h.out⟩
theorem bH(hc:XT X c fc)(ha:fX X a fa)(hb:fX X b fb):XS X (.If c a b pos) (aQ fc fa fb):=⟨E2 hc.out ha.out hb.out⟩
theorem bg(ha:XE X a fa):XS X (.Return (some a) pos) (aM fa):=⟨Es ha.out⟩
theorem bf(i:Nat)(hN:X.N.Nodup)(hi:X.N[i]? =some x:=by rfl)(hx:L2.Loc X.env.scope x:=by first|exact Or.inl rfl|exact Or.inr rfl)(hf:X.fn x=true∨X.env.scope.names.lookup x=some .local:=by first|exact .inl rfl|exact .inr rfl):XG X (.Name x pos) (aE i):=⟨Hu i hN hi hx hf⟩
theorem sY:pD X [] (eN []):=⟨Fc ⟩
theorem lA(i:Nat)(h1:XG X e (aE i))(h2:pD X es (eN is))(hs:(assignEach (e::es) X.env).map (·.2)=assign e X.env::(assignEach es X.env).map (·.2):=by exact zb (by rfl)):pD X (e::es) (eN (i::is)):=⟨Ac i h1.out h2.out hs⟩
theorem sk(h:pD X es (eN is))(hn:(assignEach es X.env).length=is.length)(hc:X.calm=true:=by rfl)(Q0:(assignEach es X.env).findIdx? (·.1)=none:=by exact vq (by rfl)):XG X (.Tuple es k pos) (gc is):=⟨Cp hc h.out hn Q0⟩
theorem bY(ha:XE X e fa)(hg:XG X tg g)(hs:swapsWithSole [tg] e pos.line X.env=pure false:=by exact Ii (by rfl))(hw:swappedStores [tg] e X.env=pure none:=by exact A6 (by rfl))(h1:(assignEach [tg] X.env).map (·.2)=[assign tg X.env]:=by exact zb (by rfl)):XS X (.Assign [tg] e pos) (bb g fa):=⟨Bc ha.out hg.out hs hw h1⟩
theorem gW(hi:XI X tg iter it)(hg:XG X tg g)(hb:fX X body f)(hp:PassesOwn (model X.prog X.w) X.A X.env X.xe:=by exact PassesOwn.never)(hc:X.calm=true:=by exact rfl)(hs:∀x,foldedSetIterable iter X.env x=pure x:=by exact p9 (by rfl)):XS X (.For tg iter body [] pos) (dy it g f):=⟨BV hp hc hi.out hg.out hb.out hs⟩
theorem yq(hm:X.mg "range"=none)(ha:XE X a fa)(hg:L2.Gl X "range":=by rfl)(hs:starEach [a] X.env=(false,eval a X.env)::starEach [] X.env:=by exact bX (by rfl)):XI X tg (.Call (.Name "range" p) [a] [] pos) (kh fa):=⟨JQ hg hm ha.out hs⟩
theorem uo(hm:X.mg "range"=none)(ha:XE X a fa)(hb:XE X b fb)(hg:L2.Gl X "range":=by rfl)(hs:starEach [a,b] X.env=(false,eval a X.env)::starEach [b] X.env:=by exact bX (by rfl))(L0:starEach [b] X.env=(false,eval b X.env)::starEach [] X.env:=by exact bX (by rfl)):XI X tg (.Call (.Name "range" p) [a,b] [] pos) (jy fa fb):=⟨Dw hg hm ha.out hb.out hs L0⟩
theorem kN(i:Nat)(h:fX X rest (aj fs)):fX X rest (aj (iA i::fs)):=⟨BF i h.out⟩
theorem rN(h:XA X es (eList fs))(hl:fs.length≤1000:=by decide):XF X (.List es pos) (cL fs):=⟨IQ h.out hl⟩
theorem uG(i:Nat)(hN:X.N.Nodup)(he:XF X e f)(hi:X.N[i]? =some x:=by rfl)(hx:L2.Loc X.env.scope x:=by exact Or.inl rfl)(hf:X.fn x=true∨X.env.scope.names.lookup x=some .local:=by exact .inl rfl)(hs:swapsWith e (some (.Name x p2)) pos.line X.env=pure false:=by exact eY (by rfl)):XS X (.Assign [.Name x p2] e pos) (je i f):=⟨D5 i hN he.out hi hx hf hs⟩
theorem C3(i:Nat)(he:XE X e f)(hN:X.N[i]? =some x:=by rfl)(hv:L2.cw X.env.scope x:=by exact Or.inl rfl)(hd:(x==("__debug__":Str))=false:=by decide)(LH:(x==("__classdict__":Str))=false:=by decide)(Ll:attributeBase (.Name x p2) "append" X.env (eval (.Name x p2) X.env)=eval (.Name x p2) X.env:=by exact lS)(L':((backTo j' (starEach [e] X.env)).all (fun x=> !x.1)&&(backToKw j' (keywordEach [] X.env)).all (fun x=>x.1.isSome)&&decide (([e]:List Expr).length+([]:List Keyword).length+(if([]:List Keyword).isEmpty then 0 else 1)<30))=true:=by exact oa (by rfl) (by decide))(Lm:(apos.endLine==j'.line)=true:=by rfl)(hs:starEach [e] X.env=(false,eval e X.env)::starEach [] X.env:=by exact bX (by rfl))(Mq:swapsWith (.Call (.Attribute (.Name x p2) "append" apos) [e] [] j') none pos.line X.env=pure false:=by exact eY (by rfl)):XS X (.Expr (.Call (.Attribute (.Name x p2) "append" apos) [e] [] j') pos) (jm i f):=⟨CT i he.out hN hv hd LH Ll L' Lm hs Mq⟩
theorem bo(d:Df X.prog X.w X.K X.mg X.base x k n m)(hr:L2.b4 j X.A)(ha:XA X (e::es) (eList fs))(hk:k≤j)(hg:L2.Gl X x:=by rfl)(hn:fs.length=n:=by rfl)(Ms:(x==("__debug__":Str))=false:=by decide)(he:starEach (e::es) X.env=(false,eval e X.env)::starEach es X.env:=by exact bX (by rfl))(MP:(backTo pos (starEach es X.env)).any (·.1)=false:=by exact qC (by rfl)):XE X (.Call (.Name x p) (e::es) [] pos) (aJ m fs):=⟨ES d hr hg ha.out hk hn Ms he MP⟩
theorem Jx(d:Df X.prog X.w X.K X.mg X.base x k 0 m)(hr:L2.b4 j X.A)(hg:L2.Gl X x:=by rfl)(hk:k≤j:=by decide)(Ms:(x==("__debug__":Str))=false:=by decide):XE X (.Call (.Name x p) [] [] pos) (aJ m []):=⟨AV d hr hg hk Ms⟩
theorem i7(ha:XE X l fa):XI X tg l (eF fa):=⟨Cn ha.out⟩
theorem iX(g:eP X.prog X.w X.K X.mg x d)(hg:L2.Gl X x:=by rfl)(hd:(x==("__debug__":Str))=false:=by decide):XE X (.Name x pos) (eC d):=⟨HF g hg hd⟩
theorem eE(h:XE X e f):XX X e (xD f):=⟨v8 h.out⟩
theorem aW(ha:XE X a fa)(hb:XE X b fb)(hs:L2.jC b:=by exact tF (by rfl)):XE X (.Subscript a b pos) (e2 ao fa fb):=⟨FR ha.out hb.out hs⟩
theorem Hn(ho:XE X o fo)(he:XE X e fe)(m:L2.M1 X o "get" apos e j'):XE X (.Call (.Attribute o "get" apos) [e] [] j') (e2 (nB .aH) fo fe):=⟨CP ho.out he.out m⟩
theorem JC(hm:X.mg "zip"=none)(ha:XE X a fa)(hb:XE X b fb)(hg:L2.Gl X "zip":=by rfl)(hs:starEach [a,b] X.env=(false,eval a X.env)::starEach [b] X.env:=by exact bX (by rfl))(L0:starEach [b] X.env=(false,eval b X.env)::starEach [] X.env:=by exact bX (by rfl)):XI X (.Tuple elts k tp) (.Call (.Name "zip" p) [a,b] [] pos) (m4 fa fb):=⟨z6 hg hm ha.out hb.out hs L0⟩
theorem ie:XP X pos [] [] [] []:=⟨Af ⟩
theorem mM(hk:XE X k (eC (.str z)))(hv:XE X v f)(hr:XP X pos keys values ks fs):XP X pos (some k::keys) (v::values) (.inr z::ks) (f::fs):=⟨IA hk.out hv.out hr.out⟩
theorem g7(h:XP X pos keys values ks fs)(MJ:keys.all (·.isSome)=true:=by rfl)(hl:keys.length=values.length:=by rfl)(h0:keys≠[]:=by simp)(Nr:keys.length≤15:=by decide)(hk:ks.length=fs.length:=by rfl)(Qo:ks.length≤15:=by decide)(hn:ks.Nodup:=by decide+kernel):XE X (.Dict keys values pos) (cz ks fs):=⟨Hb h.out MJ hl h0 Nr hk Qo hn⟩
theorem J7(i:Nat)(he:XF X e f)(hN:X.N[i]? =some x:=by rfl)(hv:L2.cw X.env.scope x:=by exact Or.inl rfl)(hd:(x==("__debug__":Str))=false:=by decide)(LH:(x==("__classdict__":Str))=false:=by decide)(Ll:attributeBase (.Name x p2) "extend" X.env (eval (.Name x p2) X.env)=eval (.Name x p2) X.env:=by exact lS)(L':((backTo j' (starEach [e] X.env)).all (fun x=> !x.1)&&(backToKw j' (keywordEach [] X.env)).all (fun x=>x.1.isSome)&&decide (([e]:List Expr).length+([]:List Keyword).length+(if([]:List Keyword).isEmpty then 0 else 1)<30))=true:=by exact oa (by rfl) (by decide))(Lm:(apos.endLine==j'.line)=true:=by rfl)(hs:starEach [e] X.env=(false,eval e X.env)::starEach [] X.env:=by exact bX (by rfl))(Mq:swapsWith (.Call (.Attribute (.Name x p2) "extend" apos) [e] [] j') none pos.line X.env=pure false:=by exact eY (by rfl)):XS X (.Expr (.Call (.Attribute (.Name x p2) "extend" apos) [e] [] j') pos) (o7 i f):=⟨Jh i he.out hN hv hd LH Ll L' Lm hs Mq⟩
theorem tQ(ha:XE X l fa):XI X tg l (gC fa):=⟨Bp ha.out⟩
theorem FI(i:Nat)(hu:X.A.units+64<cLine)(hk:XE X k g)(he:XE X e f)(hN:X.N[i]? =some x:=by rfl)(hv:L2.cw X.env.scope x:=by exact Or.inl rfl)(hd:(x==("__debug__":Str))=false:=by decide)(LH:(x==("__classdict__":Str))=false:=by decide)(hs:swapsWith e (some (.Subscript (.Name x p2) k p3)) pos.line X.env=pure false:=by exact eY (by rfl)):XS X (.Assign [.Subscript (.Name x p2) k p3] e pos) (oM i g f):=⟨Ib i hu hk.out he.out hN hv hd LH hs⟩
theorem D0(n:Nat)(hc:XT X c t)(hb:fX X body f)(hp:PassesOwn (model X.prog X.w) X.A X.env X.xe:=by exact PassesOwn.never):XS X (.While c body [] pos) (lW n t f):=⟨Et n hp hc.out hb.out⟩
theorem Ju:nv X i [] aP:=⟨A7 ⟩
theorem t7(h:ny X i st f):nv X i [st] f:=⟨GU h.out⟩
theorem BH(hc:XT X c fc)(ha:nv X i a fa)(hb:nv X i b fb):ny X i (.If c a b pos) (aQ fc fa fb):=⟨C9 hc.out ha.out hb.out⟩
theorem zo(i:Nat)(j:Nat)(hi:XI X (.Name x p2) iter it)(hN:X.N.Nodup)(hb:nv X i body f)(hp:PassesOwn (model X.prog X.w) X.A X.env X.xe:=by exact PassesOwn.never)(hc:X.calm=true:=by exact rfl)(hj:X.N[j]? =some x:=by rfl)(hx:L2.Loc X.env.scope x:=by exact Or.inl rfl)(hf:X.fn x=true∨X.env.scope.names.lookup x=some .local:=by exact .inl rfl)(Om:i≠j:=by decide)(hs:∀x,foldedSetIterable iter X.env x=pure x:=by exact p9 (by rfl)):ny X i (.For (.Name x p2) iter body [] pos) (dy it (aE j) f):=⟨F5 i j hp hc hi.out hN hj hx hf Om hb.out hs⟩
theorem FC(hm:X.mg "dict"=none)(ha:XE X a fa)(hc:X.calm=true:=by rfl)(hg:L2.Gl X "dict":=by rfl)(hs:starEach [a] X.env=(false,eval a X.env)::starEach [] X.env:=by exact bX (by rfl)):XD X (.Call (.Name "dict" p) [a] [] pos) (e1 kx fa):=⟨JR hc hg hm ha.out hs⟩
theorem wt(i:Nat)(hN:X.N.Nodup)(he:XD X e f)(hi:X.N[i]? =some x:=by rfl)(hx:L2.Loc X.env.scope x:=by exact Or.inl rfl)(hf:X.fn x=true∨X.env.scope.names.lookup x=some .local:=by exact .inl rfl)(hs:swapsWith e (some (.Name x p2)) pos.line X.env=pure false:=by exact eY (by rfl)):XS X (.Assign [.Name x p2] e pos) (kI i f):=⟨Gr i hN he.out hi hx hf hs⟩
theorem GH(he:XD X e f)(hl:∀ρ d,f ρ=.ok d→∃ks ds,d=.aw ks ds):XE X e f:=⟨G7 he.out hl⟩
theorem xI(hk:XE X k fk)(hv:XE X v fv):XE X (.Dict [some k] [v] pos) (mj fk fv):=⟨ER hk.out hv.out⟩
theorem o8:nM X [] (dS []):=⟨He ⟩
theorem fP(h1:XX X e f)(h2:nM X es (dS fs))(hs:starEach (e::es) X.env=(false,eval e X.env)::starEach es X.env:=by exact bX (by rfl)):nM X (e::es) (dS (f::fs)):=⟨IX h1.out h2.out hs⟩
theorem Co(h:nM X es (dS fs))(hl:fs.length≤1000:=by decide):XX X (.List es pos) (xL fs):=⟨Bm h.out hl⟩
theorem qE:XX X (.Dict [] [] pos) jl:=⟨GK ⟩
theorem qO(i:Nat)(hN:X.N.Nodup)(he:XX X e f)(hi:X.N[i]? =some x:=by rfl)(hx:L2.Loc X.env.scope x:=by exact Or.inl rfl)(hf:X.fn x=true∨X.env.scope.names.lookup x=some .local:=by exact .inl rfl)(hs:swapsWith e (some (.Name x p2)) pos.line X.env=pure false:=by exact eY (by rfl)):XS X (.Assign [.Name x p2] e pos) (il i f):=⟨Ab i hN he.out hi hx hf hs⟩
theorem dN(i:Nat)(hN:X.N[i]? =some x:=by rfl)(hv:L2.cw X.env.scope x:=by exact Or.inl rfl)(hd:(x==("__debug__":Str))=false:=by decide)(LH:(x==("__classdict__":Str))=false:=by decide):XL X i (.Name x pos) pN:=⟨Ie i hN hv hd LH⟩
theorem yf(j:Nat)(i:Nat)(hN:X.N.Nodup)(he:XL X i e f)(hi:X.N[j]? =some x:=by rfl)(hx:L2.Loc X.env.scope x:=by exact Or.inl rfl)(hf:X.fn x=true∨X.env.scope.names.lookup x=some .local:=by exact .inl rfl)(hs:swapsWith e (some (.Name x p2)) pos.line X.env=pure false:=by exact eY (by rfl)):XS X (.Assign [.Name x p2] e pos) (jY j i f):=⟨Ee j i hN he.out hi hx hf hs⟩
theorem hJ(i:Nat)(h:fX X rest (aj fs)):fX X rest (aj (cC i::fs)):=⟨Hj i h.out⟩
theorem oh(ha:XX X a f):XS X (.Return (some a) pos) (fS f):=⟨GP ha.out⟩
theorem DT(i:Nat)(hN:X.N[i]? =some x:=by rfl)(hv:L2.cw X.env.scope x:=by exact Or.inl rfl)(hd:(x==("__debug__":Str))=false:=by decide)(LH:(x==("__classdict__":Str))=false:=by decide):XS X (.Return (some (.Name x p2)) pos) (qJ i):=⟨AD i hN hv hd LH⟩
theorem gK(d:dh X.prog X.w X.K X.mg X.base x k n m)(hr:L2.b4 j X.A)(ha:XA X (e::es) (eList fs))(hk:k≤j)(hg:L2.Gl X x:=by rfl)(hn:fs.length=n:=by rfl)(Ms:(x==("__debug__":Str))=false:=by decide)(he:starEach (e::es) X.env=(false,eval e X.env)::starEach es X.env:=by exact bX (by rfl))(MP:(backTo pos (starEach es X.env)).any (·.1)=false:=by exact qC (by rfl)):XX X (.Call (.Name x p) (e::es) [] pos) (bG m fs):=⟨B0 d hr hg ha.out hk hn Ms he MP⟩
theorem mV(h:XX X e f):XE X e (eX f):=⟨Gw h.out⟩
theorem uw{k1}(h:nM X es (dS fs))(hl:fs.length≤1000):XX X (.Tuple es k1 pos) (xT fs):=⟨Fn h.out hl⟩
theorem xX(i:Nat)(h:XE X e f):XE X e (fF i f):=⟨EW i h.out⟩
theorem kf(i:Nat)(h:XT X e f):XT X e (cT i f):=⟨BQ i h.out⟩
theorem EZ(i:Nat)(h:XF X e f):XF X e (jo i f):=⟨AQ i h.out⟩
theorem oz(i:Nat)(j:Nat)(hN:X.N[j]? =some x:=by rfl)(hv:L2.cw X.env.scope x:=by exact Or.inl rfl)(hd:(x==("__debug__":Str))=false:=by decide)(LH:(x==("__classdict__":Str))=false:=by decide):XL X i (.Name x pos) (pA i j):=⟨DH i j hN hv hd LH⟩
theorem cW(ha:XL X i a f)(hb:XE X b fb)(hs:L2.jC b:=by exact tF (by rfl)):XL X i (.Subscript a b pos) (pX i f fb):=⟨Au ha.out hb.out hs⟩
theorem dM(i:Nat)(hu:X.A.units+64<cLine)(ho:XL X i o f)(hk:XE X k g)(he:XE X e h)(hs:swapsWith e (some (.Subscript o k p3)) pos.line X.env=pure false:=by exact eY (by rfl)):XS X (.Assign [.Subscript o k p3] e pos) (b7 i f g h):=⟨HL i hu ho.out hk.out he.out hs⟩
theorem uF(hm:X.mg "dict"=none)(ha:XE X a fa)(hg:L2.Gl X "dict":=by rfl)(hs:starEach [a] X.env=(false,eval a X.env)::starEach [] X.env:=by exact bX (by rfl)):XD X (.Call (.Name "dict" p) [a] [] pos) (e1 ki fa):=⟨DU hg hm ha.out hs⟩
theorem Eg(i:Nat)(he:XE X e f)(hN:X.N[i]? =some x:=by rfl)(hv:L2.cw X.env.scope x:=by exact Or.inl rfl)(hd:(x==("__debug__":Str))=false:=by decide)(LH:(x==("__classdict__":Str))=false:=by decide)(Ll:attributeBase (.Name x p2) "update" X.env (eval (.Name x p2) X.env)=eval (.Name x p2) X.env:=by exact lS)(L':((backTo j' (starEach [e] X.env)).all (fun x=> !x.1)&&(backToKw j' (keywordEach [] X.env)).all (fun x=>x.1.isSome)&&decide (([e]:List Expr).length+([]:List Keyword).length+(if([]:List Keyword).isEmpty then 0 else 1)<30))=true:=by exact oa (by rfl) (by decide))(Lm:(apos.endLine==j'.line)=true:=by rfl)(hs:starEach [e] X.env=(false,eval e X.env)::starEach [] X.env:=by exact bX (by rfl))(Mq:swapsWith (.Call (.Attribute (.Name x p2) "update" apos) [e] [] j') none pos.line X.env=pure false:=by exact eY (by rfl)):XS X (.Expr (.Call (.Attribute (.Name x p2) "update" apos) [e] [] j') pos) (mR i f):=⟨GW i he.out hN hv hd LH Ll L' Lm hs Mq⟩
theorem o9:pe X pos [] [] []:=⟨Di ⟩
theorem gp(hk:XE X k fk)(hv:XX X v fv)(hr:pe X pos keys values MV):pe X pos (some k::keys) (v::values) ((fk,fv)::MV):=⟨Jz hk.out hv.out hr.out⟩
theorem qx(h:pe X pos keys values MV)(MJ:keys.all (·.isSome)=true:=by rfl)(hl:keys.length=values.length:=by rfl)(h0:keys≠[]:=by simp)(Nr:keys.length≤15:=by decide)(hk:MV.length≤15:=by decide):XX X (.Dict keys values pos) (gr MV):=⟨Ho h.out MJ hl h0 Nr hk⟩
theorem Gx(hm:X.mg "dict"=none)(ha:XX X a f)(hc:X.calm=true:=by rfl)(hg:L2.Gl X "dict":=by rfl)(hs:starEach [a] X.env=(false,eval a X.env)::starEach [] X.env:=by exact bX (by rfl)):XX X (.Call (.Name "dict" p) [a] [] pos) (oN f):=⟨AG hc hg hm ha.out hs⟩
theorem BL{k1}(ha:XE X a fa)(hm:X.mg "isinstance"=none)(RR:X.mg "list"=none)(Ph:X.mg "tuple"=none)(hg:L2.Gl X "isinstance":=by rfl)(RL:L2.Gl X "list":=by rfl)(Pe:L2.Gl X "tuple":=by rfl)(hs:starEach [a,.Tuple [.Name "list" p3,.Name "tuple" p4] k1 p2] X.env=(false,eval a X.env)::starEach [.Tuple [.Name "list" p3,.Name "tuple" p4] k1 p2] X.env:=by exact bX (by rfl))(L0:starEach [.Tuple [.Name "list" p3,.Name "tuple" p4] k1 p2] X.env=(false,eval (.Tuple [.Name "list" p3,.Name "tuple" p4] k1 p2) X.env)::starEach [] X.env:=by exact bX (by rfl))(RQ:starEach [.Name "list" p3,.Name "tuple" p4] X.env=(false,eval (.Name "list" p3) X.env)::starEach [.Name "tuple" p4] X.env:=by exact bX (by rfl))(Sf:starEach [.Name "tuple" p4] X.env=(false,eval (.Name "tuple" p4) X.env)::starEach [] X.env:=by exact bX (by rfl)):XE X (.Call (.Name "isinstance" p) [a,.Tuple [.Name "list" p3,.Name "tuple" p4] k1 p2] [] pos) (e1 iG fa):=⟨As ha.out hg hm RL RR Pe Ph hs L0 RQ Sf⟩
theorem Bj(i:Nat)(hb:XE X b fb)(hN:X.N[i]? =some x:=by rfl)(hv:L2.cw X.env.scope x:=by exact Or.inl rfl)(hd:(x==("__debug__":Str))=false:=by decide)(LH:(x==("__classdict__":Str))=false:=by decide)(hs:L2.jC b:=by exact tF (by rfl)):XE X (.Subscript (.Name x p2) b pos) (qo i fb):=⟨Hi i hb.out hN hv hd LH hs⟩
theorem oQ(hk:XE X k (eC (.int z)))(hv:XE X v f)(hr:XP X pos keys values ks fs):XP X pos (some k::keys) (v::values) (.inl z::ks) (f::fs):=⟨Il hk.out hv.out hr.out⟩
theorem AE(i:Nat)(hN:X.N.Nodup)(he:XX X e f)(hi:X.N[i]? =some x:=by rfl)(hx:L2.Loc X.env.scope x:=by exact Or.inl rfl)(hf:X.fn x=true∨X.env.scope.names.lookup x=some .local:=by exact .inl rfl)(hs:swapsWith e (some (.Name x p2)) pos.line X.env=pure false:=by exact eY (by rfl)):XS X (.Assign [.Name x p2] e pos) (oU i f):=⟨Ek i hN he.out hi hx hf hs⟩
theorem vN(ha:XE X l fa)(Ll:attributeBase l "values" X.env (eval l X.env)=eval l X.env)(Lm:(apos.endLine==j'.line)=true:=by rfl):XI X tg (.Call (.Attribute l "values" apos) [] [] j') (j4 fa):=⟨Bn ha.out Ll Lm⟩
theorem HM(ha:XE X l fa)(Ll:attributeBase l "items" X.env (eval l X.env)=eval l X.env)(Lm:(apos.endLine==j'.line)=true:=by rfl):XI X (.Tuple elts k tp) (.Call (.Attribute l "items" apos) [] [] j') (oS fa):=⟨JZ ha.out Ll Lm⟩
theorem yC(i:Nat)(ho:XL X i o f)(hk:XE X k g)(m:L2.M1 X o "pop" apos k j')(Mq:swapsWith (.Call (.Attribute o "pop" apos) [k] [] j') none pos.line X.env=pure false:=by exact eY (by rfl)):XS X (.Expr (.Call (.Attribute o "pop" apos) [k] [] j') pos) (jh i f g):=⟨Fg i ho.out hk.out m Mq⟩
theorem Fx(i:Nat)(ho:XL X i o f)(Ll:attributeBase o "clear" X.env (eval o X.env)=eval o X.env)(Lm:(apos.endLine==j'.line)=true:=by rfl)(Mq:swapsWith (.Call (.Attribute o "clear" apos) [] [] j') none pos.line X.env=pure false:=by exact eY (by rfl)):XS X (.Expr (.Call (.Attribute o "clear" apos) [] [] j') pos) (jS i f):=⟨Be i ho.out Ll Lm Mq⟩
theorem BX(i:Nat)(hk:XE X k g)(hN:X.N[i]? =some x:=by rfl)(hv:L2.cw X.env.scope x:=by exact Or.inl rfl)(hd:(x==("__debug__":Str))=false:=by decide)(LH:(x==("__classdict__":Str))=false:=by decide)(m:L2.M1 X (.Name x p2) "pop" apos k j':=by exact qu lS (by rfl) (by rfl))(Mq:swapsWith (.Call (.Attribute (.Name x p2) "pop" apos) [k] [] j') none pos.line X.env=pure false:=by exact eY (by rfl)):XS X (.Expr (.Call (.Attribute (.Name x p2) "pop" apos) [k] [] j') pos) (rB i g):=⟨G2 i hk.out hN hv hd LH m Mq⟩
theorem zN(i:Nat)(d:lp X.prog X.w X.K X.mg X.base y k n m)(hr:L2.b4 j X.A)(ha:XA X es (eList fs))(hg:L2.Gl X y:=by rfl)(hN:X.N[i]? =some x:=by rfl)(hv:L2.cw X.env.scope x:=by exact Or.inl rfl)(hd:(x==("__debug__":Str))=false:=by decide)(LH:(x==("__classdict__":Str))=false:=by decide)(hk:k≤j:=by decide)(hn:fs.length=n:=by rfl)(Ms:(y==("__debug__":Str))=false:=by decide)(he:starEach (.Name x p2::es) X.env=(false,eval (.Name x p2) X.env)::starEach es X.env:=by exact bX (by rfl))(MP:(backTo j' (starEach es X.env)).any (·.1)=false:=by exact qC (by rfl))(Mq:swapsWith (.Call (.Name y p) (.Name x p2::es) [] j') none pos.line X.env=pure false:=by exact eY (by rfl)):XS X (.Expr (.Call (.Name y p) (.Name x p2::es) [] j') pos) (ib i m fs):=⟨AX i d hr hg ha.out hN hv hd LH hk hn Ms he MP Mq⟩
theorem D9(i:Nat)(h:ny X i st f):XS X st (kn i f):=⟨Fm i h.out⟩
theorem GF(k:Nat)(i:Nat)(he:XE X e f)(hN:X.N[i]? =some x:=by rfl)(hv:L2.cw X.env.scope x:=by exact Or.inl rfl)(hd:(x==("__debug__":Str))=false:=by decide)(LH:(x==("__classdict__":Str))=false:=by decide)(Ll:attributeBase (.Name x p2) "append" X.env (eval (.Name x p2) X.env)=eval (.Name x p2) X.env:=by exact lS)(L':((backTo j' (starEach [e] X.env)).all (fun x=> !x.1)&&(backToKw j' (keywordEach [] X.env)).all (fun x=>x.1.isSome)&&decide (([e]:List Expr).length+([]:List Keyword).length+(if([]:List Keyword).isEmpty then 0 else 1)<30))=true:=by exact oa (by rfl) (by decide))(Lm:(apos.endLine==j'.line)=true:=by rfl)(hs:starEach [e] X.env=(false,eval e X.env)::starEach [] X.env:=by exact bX (by rfl))(Mq:swapsWith (.Call (.Attribute (.Name x p2) "append" apos) [e] [] j') none pos.line X.env=pure false:=by exact eY (by rfl)):ny X k (.Expr (.Call (.Attribute (.Name x p2) "append" apos) [e] [] j') pos) (jm i f):=⟨IL k i he.out hN hv hd LH Ll L' Lm hs Mq⟩
theorem B5(he:XD X e f):XX X e (xM f):=⟨HU he.out⟩
theorem Eo(hm:X.mg "sorted"=none)(ha:XE X a fa)(hc:X.calm=true:=by exact rfl)(Od:L2.Gl X "sorted":=by rfl)(hs:starEach [a] X.env=(false,eval a X.env)::starEach [] X.env:=by exact bX (by rfl)):XF X (.Call (.Name "sorted" p) [a] [] pos) (e1 de fa):=⟨GC hc Od hm ha.out hs⟩
theorem mz(tn:List Str)(fv:List Str)(LU:List Nat)(ok:kl X scope tn fv LU)(hi:XI X target iter it)(ht:∀cl C s H fp,XG (dJ X scope cl C (tn++fv) s H fp) target tg)(Nv:∀cl C s H fp,nL (dJ X scope cl C (tn++fv) s H fp) ifs cs)(Oa:∀cl C s H fp,XE (dJ X scope cl C (tn++fv) s H fp) elt el)(NN:∀e s,¬X.xe e s:=by exact fun _ _ h=>h)(hc:X.calm=true:=by rfl)(low:jA tn.length tg:=by first|exact yo (by decide)|exact Bf (by decide))(hs:∀x,foldedSetIterable iter X.env x=pure x:=by exact p9 (by rfl)):XF X (.ListComp elt [⟨target,iter,ifs,0⟩] scope pos) (dg it tn.length LU tg cs el):=
 ⟨GN tn fv LU NN hc ok hi.out low (fun cl C s H fp=>(ht cl C s H fp).out) (fun cl C s H fp=>(Nv cl C s H fp).out) (fun cl C s H fp=>(Oa cl C s H fp).out) hs⟩
theorem oX(h:XF X e (dg it n fv tg cs el)):XE X e (dg it n fv tg cs el):=⟨wj h.out Gm⟩
theorem AF(h:XF X e f)(hl:∀ρ d,f ρ=.ok d→∃ds,d=.lst ds):XE X e f:=⟨wj h.out hl⟩
theorem jJ:nL X [] []:=⟨.nil⟩
theorem zJ(h:XT X e c)(r:nL X es cs):nL X (e::es) (c::cs):=⟨.cons h.out r.out⟩
theorem zr(tn:List Str)(fv:List Str)(LU:List Nat)(ok:kl X scope tn fv LU)(hi:XI X target iter it)(ht:∀cl C s H fp,XG (dJ X scope cl C (tn++fv) s H fp) target tg)(Nv:∀cl C s H fp,nL (dJ X scope cl C (tn++fv) s H fp) ifs cs)(Oa:∀cl C s H fp,XX (dJ X scope cl C (tn++fv) s H fp) elt el)(NN:∀e s,¬X.xe e s:=by exact fun _ _ h=>h)(hc:X.calm=true:=by rfl)(low:jA tn.length tg:=by exact yo (by decide))(hs:∀x,foldedSetIterable iter X.env x=pure x:=by exact p9 (by rfl)):XX X (.ListComp elt [⟨target,iter,ifs,0⟩] scope pos) (iU it tn.length LU tg cs el):=
 ⟨Ec tn fv LU NN hc ok hi.out low (fun cl C s H fp=>(ht cl C s H fp).out) (fun cl C s H fp=>(Nv cl C s H fp).out) (fun cl C s H fp=>(Oa cl C s H fp).out) hs⟩
end PL
namespace PL
namespace gu
open PySem PySem.Spec
open L2 (Hp XK)
section
variable{P:Program}{w:World}{K:PySem.W.Frag}{mg:Str→Option Value}{base:Heap}{f:Addr}{fd:FuncData}
noncomputable def top(i:Nat):Stmt:=PySem.Challenge.pw_underfloor_k13_pages_called_for.main.body.getD i (.Pass ⟨0,0,0,0⟩)
abbrev kP:Stmt:=top 27
theorem CM:L2.bR ["_law_script","_law_k"] ["_law_script","_law_k"] (L2.aK kP):=⟨rfl,rfl,rfl,by decide+kernel,rfl,by decide+kernel,by decide+kernel⟩
theorem Jm(Fu:L2.bC K "_law_cell_at" "_law_cell_at" kP f fd)(hm:mg "_law_cell_at"=some (.ref f))(Ly:mg "len"=none):Df P w K mg base "_law_cell_at" 1 2 gA:=by
 have sc:=CM;refine cx (k:=0) Fu hm sc (Fu.binds (ps:=["_law_script","_law_k"]) fun _ _ _ _ _ _ us hl=>match us,hl with|[_,_],_=>rfl) (fun Lz A outer s H E hr=>?_)
 exact((ar (bH (bM L2.vK v9 yE (ae 1) (ft wJ vU Ly i6 (ae 0))) (bB (bg (aW (ae 0) (ae 1)))) bJ) (ar (bg ai) bL))).out
abbrev ma:Stmt:=top 30
theorem E3:L2.bR ["_law_number_here","_law_words","_law_k"] ["_law_number_here"] (L2.aK ma):=⟨rfl,rfl,rfl,by decide+kernel,rfl,by decide+kernel,by decide+kernel⟩
theorem Jt(Fu:L2.bC K "_law_page" "_law_page" ma f fd)(hm:mg "_law_page"=some (.ref f))(Lx:mg "range"=none)(Li:mg "tuple"=none):Df P w K mg base "_law_page" 1 1 j1:=by
 have sc:=E3;refine cx (k:=0) Fu hm sc (Fu.binds (ps:=["_law_number_here"]) fun _ _ _ _ _ _ us hl=>match us,hl with|[_],_=>rfl) (fun Lz A outer s H E hr=>?_)
 exact((ar (uG 1 sc.nd (rN aC)) (ar (gW (f:=qV) (yq Lx ai) (bf 2 sc.nd) (by delta qV;exact(ar (C3 1 (aY L2.cB cH (aY fK gn (ae 0) (aY L2.uD rM (aY L2.uD rM ai (ae 2)) (ae 2))) ai)) (ar (bY (aY dn dw (ae 0) ai) (bf 0 sc.nd)) bL)))) (kN 1 (ar (bg (yI L2.vh ze Li jT (ae 1))) bL))))).out
abbrev lz:Stmt:=top 31
theorem J0:L2.bR ["_law_parent","_law_one"] ["_law_parent"] (L2.aK lz):=⟨rfl,rfl,rfl,by decide+kernel,rfl,by decide+kernel,by decide+kernel⟩
theorem Ej(Fu:L2.bC K "_law_task" "_law_task" lz f fd)(hm:mg "_law_task"=some (.ref f)):dh P w K mg base "_law_task" 1 1 g8:=by
 have sc:=J0;refine qp (k:=0) Fu hm sc (Fu.binds (ps:=["_law_parent"]) fun _ _ _ _ _ _ us hl=>match us,hl with|[_],_=>rfl) (fun Lz A outer s H E hr=>?_)
 exact((ar (qO 1 sc.nd (qx (gp aL (eE (ae 0)) (gp aL (eE ai) (gp aL (Co (fP (eE ai) (fP (eE ai) (fP (eE ai) (fP (eE ai) (fP (eE ai) (fP (eE ai) (fP (eE ai) (fP (eE ai) o8))))))))) (gp aL (eE ai) (gp aL qE (gp aL qE o9)))))))) (ar (dM 1 hr.units (dN 1) aL oF) (ar (dM 1 hr.units (dN 1) aL ai) (ar (dM 1 hr.units (dN 1) aL jt) (ar (dM 1 hr.units (dN 1) aL oF) (ar (DT 1) bL))))))).out
abbrev kM:Stmt:=top 32
theorem Gg:L2.bR ["_law_script","_law_first","_law_one","_law_other","_law_state","_law_n","_law_lent","_law_k","_law_cell","_law_pages","_law_page_here","_law_entry"] ["_law_script"] (L2.aK kM):=⟨rfl,rfl,rfl,by decide+kernel,rfl,by decide+kernel,by decide+kernel⟩
theorem C6(Fu:L2.bC K "_law_begun" "_law_begun" kM f fd)(hm:mg "_law_begun"=some (.ref f))(Ly:mg "len"=none)(Lx:mg "range"=none)(D':mg "sorted"=none)(Lh:Df P w K mg base "_law_cell_at" 1 2 gA)(LW:dh P w K mg base "_law_task" 1 1 g8)(LV:Df P w K mg base "_law_page" 1 1 j1):Df P w K mg base "_law_begun" 2 1 om:=by
 have sc:=Gg;refine cx (k:=1) Fu hm sc (Fu.binds (ps:=["_law_script"]) fun _ _ _ _ _ _ us hl=>match us,hl with|[_],_=>rfl) (fun Lz A outer s H E hr=>?_)
 exact((ar (bY (bo Lh hr (af (ae 0) (af ai aC)) (by decide)) (bf 1 sc.nd)) (ar (bY (aY fK gn ai (aY L2.cB cH (ae 1) ai)) (bf 2 sc.nd)) (ar (bY (aY fK gn ai (aY L2.cB cH (aY fK gn (aY fK gn (ae 1) ai) (aY L2.cB cH (aY dn dw (ae 1) ai) ai)) ai)) (bf 3 sc.nd)) (ar (qO 4 sc.nd (qx (gp aL (qx (gp (ae 2) (gK LW hr (af ai aC) (by decide)) (gp (ae 3) (gK LW hr (af ai aC) (by decide)) o9))) (gp aL qE (gp aL (qx (gp ai (uw (fP (eE aL) (fP qE o8)) (show 2≤1000 from by decide)) o9)) o9))))) (ar (dM 4 hr.units (dN 4) aL (g7 (oQ ai (bQ (af aL (af (g7 (oQ ai ai ie)) aC))) (oQ ai (bQ (af aL (af (iD (af ai (af ai aC))) aC))) ie)))) (ar (dM 4 hr.units (dN 4) aL (g7 (oQ ai (bQ (af ai (af (iD (af ai aC)) aC))) ie))) (ar (dM 4 hr.units (dN 4) aL ai) (ar (dM 4 hr.units (cW (cW (dN 4) aL) (ae 2)) aL (g7 (oQ ai ai ie))) (ar (dM 4 hr.units (cW (cW (dN 4) aL) (ae 2)) aL (bQ (af (iD (af ai (af ai (af ai (af ai (af ai (af ai (af ai (af ai aC))))))))) (af ai aC)))) (ar (dM 4 hr.units (cW (cW (dN 4) aL) (ae 3)) aL ai) (ar (dM 4 hr.units (cW (cW (dN 4) aL) (ae 3)) aL (oY (dQ hr.units) dW (aY L2.cB cH (ae 1) ai) ai)) (ar (gW (f:=mF) (yq Lx (aY L2.cB cH (aY dn dw (ae 1) ai) ai)) (bf 5 sc.nd) (by delta mF;exact(ar (bY (aY fK gn ai (aY L2.cB cH (aY fK gn (aY dn dw (ae 1) ai) (aY L2.uD rM ai (ae 5))) ai)) (bf 6 sc.nd)) (ar (dM 4 hr.units (cW (dN 4) aL) (ae 6) (bo LV hr (af (bo Lh hr (af (ae 0) (af (aY fK gn ai (ae 5)) aC)) (by decide)) aC) (by decide))) (ar (dM 4 hr.units (cW (cW (cW (dN 4) aL) (ae 2)) aL) (aY fK gn ai (ae 5)) (bQ (af aL (af (ae 6) aC)))) bL))))) (ar (gW (f:=lq) (uo Lx ai ai) (bf 7 sc.nd) (by delta lq;exact(ar (bY (bo Lh hr (af (ae 0) (af (ae 7) aC)) (by decide)) (bf 8 sc.nd)) (ar (yf 9 4 sc.nd (cW (cW (cW (dN 4) aL) (aW (iD (af (ae 2) (af (ae 3) aC))) (aY L2.cB cH (ae 8) ai))) aL)) (ar (bY (aW (iD (af ai (af ai (af ai (af ai (af ai (af (aY L2.cB cH (aY dn dw (ae 8) ai) ai) aC))))))) (aY L2.cB cH (aY dn dw (ae 8) ai) ai)) (bf 10 sc.nd)) (ar (bY (bQ (af aL (af (bo LV hr (af (aY dn dw (ae 8) ai) aC) (by decide)) aC))) (bf 11 sc.nd)) (ar (bH (kf 4 (fR (pU (bM (dQ hr.units) dW fO (aY L2.cB cH (aY dn dw (ae 8) ai) ai) ai) (uA (bM (wN hr.units) wD xx (aW (ae 4) aL) rF))))) (bB (bY (mV (uw (fP (eE aL) (fP (eE (xX 4 (aW (ft (mh rfl) nW D' mJ (aW (ae 4) aL)) (aY L2.cB cH (aY dn dw (ae 8) ai) (ft ko kq Ly i6 (aW (ae 4) aL)))))) o8)) (show 2≤1000 from by decide))) (bf 11 sc.nd))) bJ) (ar (bH (fR (gh (bM L2.vK v9 yE (ae 10) ai) (gY (bM L2.nV nJ m6 (ae 10) ai)))) (bB (dM 4 hr.units (oz 4 9) (ae 10) (ae 11))) bJ) bL)))))))) (hJ 4 (ar (bg (ae 4)) bL)))))))))))))))).out
abbrev iq:Stmt:=top 28
theorem vj:L2.bR ["_law_thing"] ["_law_thing"] (L2.aK iq):=⟨rfl,rfl,rfl,by decide+kernel,rfl,by decide+kernel,by decide+kernel⟩
theorem Ag(Fu:L2.bC K "_law_copied" "_law_copied" iq f fd)(hm:mg "_law_copied"=some (.ref f))(G':mg "dict"=none)(i':mg "isinstance"=none)(LG:mg "list"=none)(Li:mg "tuple"=none)(MA:dh P w K mg base "_law_copied" (1+j) 1 m):dh P w K mg base "_law_copied" (1+(j+1)) 1 (uf m):=by
 have sc:=vj;refine qp (k:=1+j) Fu hm sc (Fu.binds (ps:=["_law_thing"]) fun _ _ _ _ _ _ us hl=>match us,hl with|[_],_=>rfl) (fun Lz A outer s H E hr=>?_)
 exact((ar (bH (fI (gz .dict (ae 0) i' G' lG)) (bB (oh (Gx G' (zr ["_law_key"] ["_law_thing"] [0] (iV (L2.aK iq) ["_law_thing"] (by rfl) (by rfl) (by decide+kernel)) (tQ (ae 0)) (fun cl C s H fp=>by exact(bf 0 (show List.Nodup (["_law_key","_law_thing"]:List Str)from by decide+kernel))) (fun cl C s H fp=>by exact jJ) (fun cl C s H fp=>by exact(uw (fP (eE (ae 0)) (fP (gK MA hr (af (aW (ae 1) (ae 0)) aC) (Nat.le_refl _)) o8)) (show 2≤1000 from by decide))))))) bJ) (ar (bH (fI (gz .list (ae 0) i' LG pP)) (bB (oh (zr ["_law_one"] [] [] (iV (L2.aK iq) ["_law_thing"] (by rfl) (by rfl) (by decide+kernel)) (i7 (ae 0)) (fun cl C s H fp=>by exact(bf 0 (show List.Nodup (["_law_one"]:List Str)from by decide+kernel))) (fun cl C s H fp=>by exact jJ) (fun cl C s H fp=>by exact(gK MA hr (af (ae 0) aC) (Nat.le_refl _)))))) bJ) (ar (bH (fI (gz .tuple (ae 0) i' Li jT)) (bB (oh (eE (yI L2.vh ze Li jT (oX (mz ["_law_one"] [] [] (iV (L2.aK iq) ["_law_thing"] (by rfl) (by rfl) (by decide+kernel)) (i7 (ae 0)) (fun cl C s H fp=>by exact(bf 0 (show List.Nodup (["_law_one"]:List Str)from by decide+kernel))) (fun cl C s H fp=>by exact jJ) (fun cl C s H fp=>by exact(mV (gK MA hr (af (ae 0) aC) (Nat.le_refl _)))))))))) bJ) (ar (oh (eE (ae 0))) bL))))).out
theorem Ai(Fu:L2.bC K "_law_copied" "_law_copied" iq f fd)(hm:mg "_law_copied"=some (.ref f))(G':mg "dict"=none)(i':mg "isinstance"=none)(LG:mg "list"=none)(Li:mg "tuple"=none):dh P w K mg base "_law_copied" 10 1 eM:=by
 exact dh.m7 (k:=1) (b:=uf) (qp (body:=fun _=>.bad) (k:=0) Fu hm vj (Fu.binds (ps:=["_law_thing"]) fun _ _ _ _ _ _ us hl=>match us,hl with|[_],_=>rfl) (fun Lz A outer s H E hr=>vS)) (fun j m h=>Ag Fu hm G' i' LG Li h) 9
abbrev lP:Stmt:=top 18
theorem An:L2.bR ["state","task"] ["state","task"] (L2.aK lP):=⟨rfl,rfl,rfl,by decide+kernel,rfl,by decide+kernel,by decide+kernel⟩
theorem E5(Fu:L2.bC K "copied_pages" "copied_pages" lP f fd)(hm:mg "copied_pages"=some (.ref f))(G':mg "dict"=none):dh P w K mg base "copied_pages" 1 2 fW:=by
 have sc:=An;refine qp (k:=0) Fu hm sc (Fu.binds (ps:=["state","task"]) fun _ _ _ _ _ _ us hl=>match us,hl with|[_,_],_=>rfl) (fun Lz A outer s H E hr=>?_)
 exact((bB (oh (B5 (uF G' (aW (aW (aW (ae 0) aL) (ae 1)) aL)))))).out
abbrev kY:Stmt:=top 33
theorem CC:L2.bR ["_law_state","_law_held","_law_task_here","_law_entry","_law_lent"] ["_law_state"] (L2.aK kY):=⟨rfl,rfl,rfl,by decide+kernel,rfl,by decide+kernel,by decide+kernel⟩
theorem CH(Fu:L2.bC K "_law_forget" "_law_forget" kY f fd)(hm:mg "_law_forget"=some (.ref f))(D':mg "sorted"=none):lp P w K mg base "_law_forget" 1 0 gq:=by
 have sc:=CC;refine Fj (k:=0) Fu hm sc (Fu.binds (ps:=["_law_state"]) fun _ _ _ _ _ _ us hl=>match us,hl with|[_],_=>rfl) (fun Lz A outer s H E hr=>?_)
 exact((ar (uG 1 sc.nd (rN aC)) (ar (D9 0 (zo 0 2 (f:=ke) (tQ (aW (ae 0) aL)) sc.nd (by delta ke;exact(t7 (zo 0 3 (f:=ja) (vN (aW (aW (aW (ae 0) aL) (ae 2)) aL) kK) sc.nd (by delta ja;exact(t7 (BH (bM (dQ hr.units) dW fO (aW (ae 3) ai) aL) (t7 (GF 0 1 (aW (ae 3) ai))) Ju)))))))) (kN 1 (ar (gW (f:=jH) (i7 (AF (EZ 0 (Eo D' (aW (ae 0) aL))) Em)) (bf 4 sc.nd) (by delta jH;exact(bB (bH (bM (j9 hr.units) kg j0 (ae 4) (ae 1)) (bB (yC 0 (cW (dN 0) aL) (ae 4) (qu kK (by rfl) (by rfl)))) bJ)))) bL))))).out
abbrev kr:Stmt:=top 9
theorem CW:L2.bR ["state"] ["state"] (L2.aK kr):=⟨rfl,rfl,rfl,by decide+kernel,rfl,by decide+kernel,by decide+kernel⟩
theorem Ga(Fu:L2.bC K "tasks_in" "tasks_in" kr f fd)(hm:mg "tasks_in"=some (.ref f))(D':mg "sorted"=none):Df P w K mg base "tasks_in" 1 1 kD:=by
 have sc:=CW;refine cx (k:=0) Fu hm sc (Fu.binds (ps:=["state"]) fun _ _ _ _ _ _ us hl=>match us,hl with|[_],_=>rfl) (fun Lz A outer s H E hr=>?_)
 exact((bB (bg (oX (mz ["task"] ["state"] [0] (iV (L2.aK kr) ["state"] (by rfl) (by rfl) (by decide+kernel)) (i7 (ft (mh rfl) nW D' mJ (aW (ae 0) aL))) (fun cl C s H fp=>by exact(bf 0 (show List.Nodup (["task","state"]:List Str)from by decide+kernel))) (fun cl C s H fp=>by exact jJ) (fun cl C s H fp=>by exact(aW (aW (ae 1) aL) (ae 0)))))))).out
abbrev ku:Stmt:=top 10
theorem DZ:L2.bR ["state","held","task"] ["state"] (L2.aK ku):=⟨rfl,rfl,rfl,by decide+kernel,rfl,by decide+kernel,by decide+kernel⟩
theorem Bk(Fu:L2.bC K "held_numbers" "held_numbers" ku f fd)(hm:mg "held_numbers"=some (.ref f))(L9:Df P w K mg base "tasks_in" 1 1 kD):Df P w K mg base "held_numbers" 2 1 oT:=by
 have sc:=DZ;refine cx (k:=1) Fu hm sc (Fu.binds (ps:=["state"]) fun _ _ _ _ _ _ us hl=>match us,hl with|[_],_=>rfl) (fun Lz A outer s H E hr=>?_)
 exact((ar (uG 1 sc.nd (rN aC)) (ar (gW (f:=oI) (i7 (bo L9 hr (af (ae 0) aC) (by decide))) (bf 2 sc.nd) (by delta oI;exact(bB (J7 1 (mz ["entry"] [] [] (iV (L2.aK ku) ["state","held","task"] (by rfl) (by rfl) (by decide+kernel)) (vN (aW (ae 2) aL) kK) (fun cl C s H fp=>by exact(bf 0 (show List.Nodup (["entry"]:List Str)from by decide+kernel))) (fun cl C s H fp=>by exact(zJ (bM (dQ hr.units) dW fO (aW (ae 0) ai) aL) jJ)) (fun cl C s H fp=>by exact(aW (ae 0) ai))))))) (kN 1 (ar (bg (ae 1)) bL))))).out
abbrev kU:Stmt:=top 3
theorem Hd:L2.bR ["old","news","new"] ["old","news"] (L2.aK kU):=⟨rfl,rfl,rfl,by decide+kernel,rfl,by decide+kernel,by decide+kernel⟩
theorem Im(Fu:L2.bC K "changed" "changed" kU f fd)(hm:mg "changed"=some (.ref f))(G':mg "dict"=none):Df P w K mg base "changed" 1 2 dk:=by
 have sc:=Hd;refine cx (k:=0) Fu hm sc (Fu.binds (ps:=["old","news"]) fun _ _ _ _ _ _ us hl=>match us,hl with|[_,_],_=>rfl) (fun Lz A outer s H E hr=>?_)
 exact((ar (wt 2 sc.nd (uF G' (ae 0))) (ar (Eg 2 (ae 1)) (kN 2 (ar (bg (ae 2)) bL))))).out
abbrev jL:Stmt:=top 17
theorem Ft:L2.bR ["state","held","lent"] ["state"] (L2.aK jL):=⟨rfl,rfl,rfl,by decide+kernel,rfl,by decide+kernel,by decide+kernel⟩
theorem Cv(Fu:L2.bC K "with_held_lent" "with_held_lent" jL f fd)(hm:mg "with_held_lent"=some (.ref f))(G':mg "dict"=none)(LL:Df P w K mg base "held_numbers" 2 1 oT)(Lj:Df P w K mg base "changed" 1 2 dk):Df P w K mg base "with_held_lent" 3 1 jq:=by
 have sc:=Ft;refine cx (k:=2) Fu hm sc (Fu.binds (ps:=["state"]) fun _ _ _ _ _ _ us hl=>match us,hl with|[_],_=>rfl) (fun Lz A outer s H E hr=>?_)
 exact((ar (bY (bo LL hr (af (ae 0) aC) (by decide)) (bf 1 sc.nd)) (ar (bY (GH (FC G' (oX (mz ["number","page"] ["held"] [1] (iV (L2.aK jL) ["state","held","lent"] (by rfl) (by rfl) (by decide+kernel)) (HM (aW (ae 0) aL) kK) (fun cl C s H fp=>by exact(sk (lA 0 (bf 0 (show List.Nodup (["number","page","held"]:List Str)from by decide+kernel)) (lA 1 (bf 1 (show List.Nodup (["number","page","held"]:List Str)from by decide+kernel)) sY)) pf)) (fun cl C s H fp=>by exact(zJ (bM (nu hr.units) nN p5 (ae 0) (ae 2)) jJ)) (fun cl C s H fp=>by exact(bQ (af (ae 0) (af (ae 1) aC))))))) G3) (bf 2 sc.nd)) (ar (bg (bo Lj hr (af (ae 0) (af (g7 (mM aL (ae 2) ie)) aC)) (by decide))) bL)))).out
abbrev lU:Stmt:=top 8
theorem CG:L2.bR ["state","task","news","tasks"] ["state","task","news"] (L2.aK lU):=⟨rfl,rfl,rfl,by decide+kernel,rfl,by decide+kernel,by decide+kernel⟩
theorem DQ(Fu:L2.bC K "with_task" "with_task" lU f fd)(hm:mg "with_task"=some (.ref f))(G':mg "dict"=none)(Lj:Df P w K mg base "changed" 1 2 dk):Df P w K mg base "with_task" 2 3 iJ:=by
 have sc:=CG;refine cx (k:=1) Fu hm sc (Fu.binds (ps:=["state","task","news"]) fun _ _ _ _ _ _ us hl=>match us,hl with|[_,_,_],_=>rfl) (fun Lz A outer s H E hr=>?_)
 exact((ar (wt 3 sc.nd (uF G' (aW (ae 0) aL))) (ar (FI 3 hr.units (ae 1) (bo Lj hr (af (Bj 3 (ae 1)) (af (ae 2) aC)) (by decide))) (kN 3 (ar (bg (bo Lj hr (af (ae 0) (af (g7 (mM aL (ae 3) ie)) aC)) (by decide))) bL))))).out
abbrev kC:Stmt:=top 19
theorem Ck:L2.bR ["state","task"] ["state","task"] (L2.aK kC):=⟨rfl,rfl,rfl,by decide+kernel,rfl,by decide+kernel,by decide+kernel⟩
theorem G9(Fu:L2.bC K "given_back" "given_back" kC f fd)(hm:mg "given_back"=some (.ref f))(Lq:Df P w K mg base "with_task" 2 3 iJ)(Lo:Df P w K mg base "with_held_lent" 3 1 jq):Df P w K mg base "given_back" 4 2 kA:=by
 have sc:=Ck;refine cx (k:=3) Fu hm sc (Fu.binds (ps:=["state","task"]) fun _ _ _ _ _ _ us hl=>match us,hl with|[_,_],_=>rfl) (fun Lz A outer s H E hr=>?_)
 exact((bB (bg (bo Lo hr (af (bo Lq hr (af (ae 0) (af (ae 1) (af (g7 (mM aL rF ie)) aC))) (by decide)) aC) (by decide))))).out
abbrev lI:Stmt:=top 35
theorem Hl:L2.bR ["_law_state","_law_task_here","_law_cell","_law_pages"] ["_law_state","_law_task_here","_law_cell"] (L2.aK lI):=⟨rfl,rfl,rfl,by decide+kernel,rfl,by decide+kernel,by decide+kernel⟩
theorem Bh(Fu:L2.bC K "_law_number" "_law_number" lI f fd)(hm:mg "_law_number"=some (.ref f))(Ly:mg "len"=none)(D':mg "sorted"=none):Df P w K mg base "_law_number" 1 3 jI:=by
 have sc:=Hl;refine cx (k:=0) Fu hm sc (Fu.binds (ps:=["_law_state","_law_task_here","_law_cell"]) fun _ _ _ _ _ _ us hl=>match us,hl with|[_,_,_],_=>rfl) (fun Lz A outer s H E hr=>?_)
 exact((ar (bY (ft (mh rfl) nW D' mJ (aW (aW (aW (ae 0) aL) (ae 1)) aL)) (bf 3 sc.nd)) (ar (bH (fR (pU (bM (dQ hr.units) dW fO (aY L2.cB cH (ae 2) ai) ai) (uA (bM (ng hr.units) oq oo (ae 3) (iD aC))))) (bB (bg (aW (ae 3) (aY L2.cB cH (aY dn dw (ae 2) ai) (ft ko kq Ly i6 (ae 3)))))) bJ) (ar (bH (bM (dQ hr.units) dW fO (aY L2.cB cH (ae 2) ai) ai) (bB (bg (aW (iD (af ai (af ai (af ai (af ai (af ai (af ai (af ai (af ai (af ai (af ai aC))))))))))) (aY L2.cB cH (aY dn dw (ae 2) ai) ai)))) bJ) (ar (bg (aW (iD (af (aY L2.cB cH (aY dn dw (ae 2) ai) ai) (af (aY L2.cB cH (aY dn dw (ae 2) ai) ai) aC))) (aY L2.cB cH (aY dn dw (ae 2) ai) ai))) bL))))).out
abbrev lE:Stmt:=top 34
theorem Hh:L2.bR ["_law_state","_law_task_here","_law_number_here","_law_a","_law_b","_law_due_here","_law_pages","_law_bad","_law_lent"] ["_law_state","_law_task_here","_law_number_here","_law_a","_law_b"] (L2.aK lE):=⟨rfl,rfl,rfl,by decide+kernel,rfl,by decide+kernel,by decide+kernel⟩
theorem El(Fu:L2.bC K "_law_due" "_law_due" lE f fd)(hm:mg "_law_due"=some (.ref f))(K':dh P w K mg base "_law_copied" 10 1 eM)(LA:lp P w K mg base "_law_forget" 1 0 gq):Df P w K mg base "_law_due" 11 5 dO:=by
 have sc:=Hh;refine cx (k:=10) Fu hm sc (Fu.binds (ps:=["_law_state","_law_task_here","_law_number_here","_law_a","_law_b"]) fun _ _ _ _ _ _ us hl=>match us,hl with|[_,_,_,_,_],_=>rfl) (fun Lz A outer s H E hr=>?_)
 exact((ar (qO 5 sc.nd (gK K' hr (af (ae 0) aC) (by decide))) (ar (yf 6 5 sc.nd (cW (cW (cW (dN 5) aL) (ae 1)) aL)) (ar (bY ai (bf 7 sc.nd)) (ar (bH (bM (dQ hr.units) dW fO (ae 2) ai) (ar (bH (kf 5 (fR (gh (bM L2.nV nJ m6 (ae 3) ai) (gY (bM (nu hr.units) nN p5 (ae 3) (ae 6)))))) (hJ 5 (ar (bg (bQ (af (ae 5) (af (ae 7) aC)))) bL)) bJ) (ar (dM 5 hr.units (oz 5 6) (ae 3) (bQ (af aL (af (bQ (af ai (af ai (af ai (af ai (af ai (af ai (af ai (af ai (af ai (af ai (af ai (af ai (af ai (af ai (af ai (af ai aC))))))))))))))))) aC)))) (hJ 5 (ar (bg (bQ (af (ae 5) (af ai aC)))) bL)))) bJ) (ar (bH (bM (dQ hr.units) dW fO (ae 2) ai) (ar (bH (kf 5 (bM (j9 hr.units) kg j0 (ae 3) (ae 6))) (hJ 5 (ar (bg (bQ (af (ae 5) (af (ae 7) aC)))) bL)) bJ) (ar (yC 5 (oz 5 6) (ae 3) (qu lS (by rfl) (by rfl))) (ar (zN 5 LA hr aC) (hJ 5 (ar (bg (bQ (af (ae 5) (af ai aC)))) bL))))) bJ) (ar (bH (bM (dQ hr.units) dW fO (ae 2) ai) (ar (bH (kf 5 (fR (gh (bM (j9 hr.units) kg j0 (ae 3) (aW (ae 5) aL)) (gh (bM L2.nV nJ m6 (ae 4) ai) (gY (bM (nu hr.units) nN p5 (ae 4) (ae 6))))))) (hJ 5 (ar (bg (bQ (af (ae 5) (af (ae 7) aC)))) bL)) bJ) (ar (dM 5 hr.units (oz 5 6) (ae 4) (bQ (af aL (af (ae 3) aC)))) (hJ 5 (ar (bg (bQ (af (ae 5) (af ai aC)))) bL)))) bJ) (ar (bH (kf 5 (fR (gh (bM (j9 hr.units) kg j0 (ae 3) (ae 6)) (gY (bM (dQ hr.units) dW fO (aW (aW (ae 6) (ae 3)) ai) aL))))) (hJ 5 (ar (bg (bQ (af (ae 5) (af (ae 7) aC)))) bL)) bJ) (ar (bY ai (bf 8 sc.nd)) (ar (D0 20 (f:=kc) (kf 5 (bM (nu hr.units) nN p5 (ae 8) (aW (ae 5) aL))) (by delta kc;exact(bB (bY (aY fK gn (ae 8) ai) (bf 8 sc.nd))))) (ar (bH (bM L2.nV nJ m6 (ae 8) ai) (hJ 5 (ar (bg (bQ (af (ae 5) (af ai aC)))) bL)) bJ) (ar (dM 5 hr.units (cW (dN 5) aL) (ae 8) (xX 5 (aW (aW (ae 6) (ae 3)) ai))) (ar (dM 5 hr.units (oz 5 6) (ae 3) (bQ (af aL (af (ae 8) aC)))) (hJ 5 (ar (bg (bQ (af (ae 5) (af (ae 8) aC)))) bL))))))))))))))).out
abbrev mx:Stmt:=top 15
theorem GQ:L2.bR ["state","task","page","entry","pages"] ["state","task","page","entry"] (L2.aK mx):=⟨rfl,rfl,rfl,by decide+kernel,rfl,by decide+kernel,by decide+kernel⟩
theorem EA(Fu:L2.bC K "with_page" "with_page" mx f fd)(hm:mg "with_page"=some (.ref f))(Lj:Df P w K mg base "changed" 1 2 dk)(Lq:Df P w K mg base "with_task" 2 3 iJ):Df P w K mg base "with_page" 3 4 iP:=by
 have sc:=GQ;refine cx (k:=2) Fu hm sc (Fu.binds (ps:=["state","task","page","entry"]) fun _ _ _ _ _ _ us hl=>match us,hl with|[_,_,_,_],_=>rfl) (fun Lz A outer s H E hr=>?_)
 exact((ar (bY (bo Lj hr (af (aW (aW (aW (ae 0) aL) (ae 1)) aL) (af (xI (ae 2) (ae 3)) aC)) (by decide)) (bf 4 sc.nd)) (ar (bg (bo Lq hr (af (ae 0) (af (ae 1) (af (g7 (mM aL (ae 4) ie)) aC))) (by decide))) bL))).out
abbrev kZ:Stmt:=top 14
theorem IP:L2.bR ["state","task","page"] ["state","task","page"] (L2.aK kZ):=⟨rfl,rfl,rfl,by decide+kernel,rfl,by decide+kernel,by decide+kernel⟩
theorem Aj(Fu:L2.bC K "page_entry" "page_entry" kZ f fd)(hm:mg "page_entry"=some (.ref f)):Df P w K mg base "page_entry" 1 3 iE:=by
 have sc:=IP;refine cx (k:=0) Fu hm sc (Fu.binds (ps:=["state","task","page"]) fun _ _ _ _ _ _ us hl=>match us,hl with|[_,_,_],_=>rfl) (fun Lz A outer s H E hr=>?_)
 exact((ar (bH (bM (j9 hr.units) kg j0 (ae 1) (aW (ae 0) aL)) (bB (bg oF)) bJ) (ar (bg (Hn (aW (aW (aW (ae 0) aL) (ae 1)) aL) (ae 2) (qu kK (by rfl) (by rfl)))) bL))).out
abbrev lQ:Stmt:=top 21
theorem Dx:L2.bR ["state","task","page"] ["state","task","page"] (L2.aK lQ):=⟨rfl,rfl,rfl,by decide+kernel,rfl,by decide+kernel,by decide+kernel⟩
theorem Bg(Fu:L2.bC K "is_free_page" "is_free_page" lQ f fd)(hm:mg "is_free_page"=some (.ref f))(gl_MOST_PAGE:eP P w K mg "MOST_PAGE" t6)(Lk:Df P w K mg base "page_entry" 1 3 iE):Df P w K mg base "is_free_page" 2 3 iB:=by
 have sc:=Dx;refine cx (k:=1) Fu hm sc (Fu.binds (ps:=["state","task","page"]) fun _ _ _ _ _ _ us hl=>match us,hl with|[_,_,_],_=>rfl) (fun Lz A outer s H E hr=>?_)
 exact((bB (bg (qD (CL L2.zd L2.zd yU yU ai (ae 2) (iX gl_MOST_PAGE)) (qP (z9 (bo Lk hr (af (ae 0) (af (ae 1) (af (ae 2) aC))) (by decide)))))))).out
abbrev lV:Stmt:=top 25
theorem Hf:L2.bR ["state","task","number","page"] ["state","task","number","page"] (L2.aK lV):=⟨rfl,rfl,rfl,by decide+kernel,rfl,by decide+kernel,by decide+kernel⟩
theorem z0(Fu:L2.bC K "hold_call" "hold_call" lV f fd)(hm:mg "hold_call"=some (.ref f))(gl_BAD:eP P w K mg "BAD" iC)(Ls:Df P w K mg base "is_free_page" 2 3 iB)(Lp:Df P w K mg base "with_page" 3 4 iP):Df P w K mg base "hold_call" 4 4 jD:=by
 have sc:=Hf;refine cx (k:=3) Fu hm sc (Fu.binds (ps:=["state","task","number","page"]) fun _ _ _ _ _ _ us hl=>match us,hl with|[_,_,_,_],_=>rfl) (fun Lz A outer s H E hr=>?_)
 exact((ar (bH (fR (gh (bM (j9 hr.units) kg j0 (ae 2) (aW (ae 0) aL)) (gY (iF (fI (bo Ls hr (af (ae 0) (af (ae 1) (af (ae 3) aC))) (by decide))))))) (bB (bg (bQ (af (ae 0) (af (iX gl_BAD) aC))))) bJ) (ar (bg (bQ (af (bo Lp hr (af (ae 0) (af (ae 1) (af (ae 3) (af (bQ (af aL (af (ae 2) aC))) aC)))) (by decide)) (af ai aC)))) bL))).out
abbrev lN:Stmt:=top 13
theorem JM:L2.bR [] [] (L2.aK lN):=⟨rfl,rfl,rfl,by decide+kernel,rfl,by decide+kernel,by decide+kernel⟩
theorem Ei(Fu:L2.bC K "nought_page" "nought_page" lN f fd)(hm:mg "nought_page"=some (.ref f))(gl_PAGE_WORDS:eP P w K mg "PAGE_WORDS" uO):Df P w K mg base "nought_page" 1 0 m8:=by
 have sc:=JM;refine cx (k:=0) Fu hm sc (Fu.binds (ps:=[]) fun _ _ _ _ _ _ us hl=>match us,hl with|[],_=>rfl) (fun Lz A outer s H E hr=>?_)
 refine(bB ?_).out;refine bg ?_;exact(aY Ey AK (bQ (af ai aC)) (iX gl_PAGE_WORDS))
abbrev kG:Stmt:=top 22
theorem Gk:L2.bR ["state","task","page"] ["state","task","page"] (L2.aK kG):=⟨rfl,rfl,rfl,by decide+kernel,rfl,by decide+kernel,by decide+kernel⟩
theorem Ja(Fu:L2.bC K "new_page_call" "new_page_call" kG f fd)(hm:mg "new_page_call"=some (.ref f))(gl_BAD:eP P w K mg "BAD" iC)(Ls:Df P w K mg base "is_free_page" 2 3 iB)(LR:Df P w K mg base "nought_page" 1 0 m8)(Lp:Df P w K mg base "with_page" 3 4 iP):Df P w K mg base "new_page_call" 4 3 jB:=by
 have sc:=Gk;refine cx (k:=3) Fu hm sc (Fu.binds (ps:=["state","task","page"]) fun _ _ _ _ _ _ us hl=>match us,hl with|[_,_,_],_=>rfl) (fun Lz A outer s H E hr=>?_)
 exact((ar (bH (iF (fI (bo Ls hr (af (ae 0) (af (ae 1) (af (ae 2) aC))) (by decide)))) (bB (bg (bQ (af (ae 0) (af (iX gl_BAD) aC))))) bJ) (ar (bg (bQ (af (bo Lp hr (af (ae 0) (af (ae 1) (af (ae 2) (af (bQ (af aL (af (Jx LR hr) aC))) aC)))) (by decide)) (af ai aC)))) bL))).out
abbrev mI:Stmt:=top 23
theorem Ap:L2.bR ["state","task","page","pages"] ["state","task","page"] (L2.aK mI):=⟨rfl,rfl,rfl,by decide+kernel,rfl,by decide+kernel,by decide+kernel⟩
theorem Js(Fu:L2.bC K "give_call" "give_call" mI f fd)(hm:mg "give_call"=some (.ref f))(gl_BAD:eP P w K mg "BAD" iC)(Lk:Df P w K mg base "page_entry" 1 3 iE)(Lu:dh P w K mg base "copied_pages" 1 2 fW)(Lq:Df P w K mg base "with_task" 2 3 iJ)(Lo:Df P w K mg base "with_held_lent" 3 1 jq):Df P w K mg base "give_call" 4 3 jb:=by
 have sc:=Ap;refine cx (k:=3) Fu hm sc (Fu.binds (ps:=["state","task","page"]) fun _ _ _ _ _ _ us hl=>match us,hl with|[_,_,_],_=>rfl) (fun Lz A outer s H E hr=>?_)
 exact((ar (bH (oC (bo Lk hr (af (ae 0) (af (ae 1) (af (ae 2) aC))) (by decide))) (bB (bg (bQ (af (ae 0) (af (iX gl_BAD) aC))))) bJ) (ar (AE 3 sc.nd (gK Lu hr (af (ae 0) (af (ae 1) aC)) (by decide))) (ar (BX 3 (ae 2)) (kN 3 (ar (bg (bQ (af (bo Lo hr (af (bo Lq hr (af (ae 0) (af (ae 1) (af (g7 (mM aL (ae 3) ie)) aC))) (by decide)) aC) (by decide)) (af ai aC)))) bL)))))).out
abbrev lY:Stmt:=top 4
theorem D3:L2.bR ["taken","low","high","number"] ["taken","low","high"] (L2.aK lY):=⟨rfl,rfl,rfl,by decide+kernel,rfl,by decide+kernel,by decide+kernel⟩
theorem Hv(Fu:L2.bC K "least_free" "least_free" lY f fd)(hm:mg "least_free"=some (.ref f))(Lx:mg "range"=none):Df P w K mg base "least_free" 1 3 nG:=by
 have sc:=D3;refine cx (k:=0) Fu hm sc (Fu.binds (ps:=["taken","low","high"]) fun _ _ _ _ _ _ us hl=>match us,hl with|[_,_,_],_=>rfl) (fun Lz A outer s H E hr=>?_)
 exact((ar (gW (f:=gX) (uo Lx (ae 1) (aY fK gn (ae 2) ai)) (bf 3 sc.nd) (by delta gX;exact(bB (bH (bM (j9 hr.units) kg j0 (ae 3) (ae 0)) (bB (bg (ae 3))) bJ)))) (ar (bg oF) bL))).out
abbrev lZ:Stmt:=top 16
theorem Ad:L2.bR ["state","number","words"] ["state","number","words"] (L2.aK lZ):=⟨rfl,rfl,rfl,by decide+kernel,rfl,by decide+kernel,by decide+kernel⟩
theorem Jg(Fu:L2.bC K "with_lent" "with_lent" lZ f fd)(hm:mg "with_lent"=some (.ref f))(Lj:Df P w K mg base "changed" 1 2 dk):Df P w K mg base "with_lent" 2 3 nE:=by
 have sc:=Ad;refine cx (k:=1) Fu hm sc (Fu.binds (ps:=["state","number","words"]) fun _ _ _ _ _ _ us hl=>match us,hl with|[_,_,_],_=>rfl) (fun Lz A outer s H E hr=>?_)
 exact((bB (bg (bo Lj hr (af (ae 0) (af (g7 (mM aL (bo Lj hr (af (aW (ae 0) aL) (af (xI (ae 1) (ae 2)) aC)) (by decide)) ie)) aC)) (by decide))))).out
abbrev lD:Stmt:=top 24
theorem HI:L2.bR ["state","task","page","entry","number","lending"] ["state","task","page"] (L2.aK lD):=⟨rfl,rfl,rfl,by decide+kernel,rfl,by decide+kernel,by decide+kernel⟩
theorem DW(Fu:L2.bC K "lend_call" "lend_call" lD f fd)(hm:mg "lend_call"=some (.ref f))(gl_BAD:eP P w K mg "BAD" iC)(gl_MOST_LENT:eP P w K mg "MOST_LENT" uT)(gl_LACK:eP P w K mg "LACK" ug)(Lk:Df P w K mg base "page_entry" 1 3 iE)(LX:Df P w K mg base "least_free" 1 3 nG)(L5:Df P w K mg base "with_lent" 2 3 nE)(Lp:Df P w K mg base "with_page" 3 4 iP):Df P w K mg base "lend_call" 4 3 gZ:=by
 have sc:=HI;refine cx (k:=3) Fu hm sc (Fu.binds (ps:=["state","task","page"]) fun _ _ _ _ _ _ us hl=>match us,hl with|[_,_,_],_=>rfl) (fun Lz A outer s H E hr=>?_)
 exact((ar (bY (bo Lk hr (af (ae 0) (af (ae 1) (af (ae 2) aC))) (by decide)) (bf 3 sc.nd)) (ar (bH (fR (gh (oC (ae 3)) (gY (bM (ng hr.units) oq oo (aW (ae 3) ai) aL)))) (bB (bg (bQ (af (ae 0) (af (iX gl_BAD) aC))))) bJ) (ar (bY (bo LX hr (af (aW (ae 0) aL) (af ai (af (iX gl_MOST_LENT) aC))) (by decide)) (bf 4 sc.nd)) (ar (bH (oC (ae 4)) (bB (bg (bQ (af (ae 0) (af (iX gl_LACK) aC))))) bJ) (ar (bY (bo L5 hr (af (ae 0) (af (ae 4) (af (aW (ae 3) ai) aC))) (by decide)) (bf 5 sc.nd)) (ar (bg (bQ (af (bo Lp hr (af (ae 5) (af (ae 1) (af (ae 2) (af (bQ (af aL (af (ae 4) aC))) aC)))) (by decide)) (af (ae 4) aC)))) bL))))))).out
abbrev mq:Stmt:=top 20
theorem DJ:L2.bR ["state","task","number","a","b"] ["state","task","number","a","b"] (L2.aK mq):=⟨rfl,rfl,rfl,by decide+kernel,rfl,by decide+kernel,by decide+kernel⟩
theorem EC(Fu:L2.bC K "memory_call" "memory_call" mq f fd)(hm:mg "memory_call"=some (.ref f))(LJ:Df P w K mg base "new_page_call" 4 3 jB)(L3:Df P w K mg base "give_call" 4 3 jb)(L7:Df P w K mg base "lend_call" 4 3 gZ)(L4:Df P w K mg base "hold_call" 4 4 jD):Df P w K mg base "memory_call" 5 5 fE:=by
 have sc:=DJ;refine cx (k:=4) Fu hm sc (Fu.binds (ps:=["state","task","number","a","b"]) fun _ _ _ _ _ _ us hl=>match us,hl with|[_,_,_,_,_],_=>rfl) (fun Lz A outer s H E hr=>?_)
 exact((ar (bH (bM (dQ hr.units) dW fO (ae 2) ai) (bB (bg (bo LJ hr (af (ae 0) (af (ae 1) (af (ae 3) aC))) (by decide)))) bJ) (ar (bH (bM (dQ hr.units) dW fO (ae 2) ai) (bB (bg (bo L3 hr (af (ae 0) (af (ae 1) (af (ae 3) aC))) (by decide)))) bJ) (ar (bH (bM (dQ hr.units) dW fO (ae 2) ai) (bB (bg (bo L7 hr (af (ae 0) (af (ae 1) (af (ae 3) aC))) (by decide)))) bJ) (ar (bg (bo L4 hr (af (ae 0) (af (ae 1) (af (ae 3) (af (ae 4) aC)))) (by decide))) bL))))).out
abbrev iI:Stmt:=top 29
theorem yj:L2.bR ["_law_found","_law_due_here"] ["_law_found","_law_due_here"] (L2.aK iI):=⟨rfl,rfl,rfl,by decide+kernel,rfl,by decide+kernel,by decide+kernel⟩
theorem Fs(Fu:L2.bC K "_law_same" "_law_same" iI f fd)(hm:mg "_law_same"=some (.ref f))(MB:mg "all"=none)(Mh:mg "bool"=none)(G':mg "dict"=none)(i':mg "isinstance"=none)(Ly:mg "len"=none)(LG:mg "list"=none)(Li:mg "tuple"=none)(MI:mg "zip"=none)(MA:Df P w K mg base "_law_same" (1+j) 2 m):Df P w K mg base "_law_same" (1+(j+1)) 2 (tD m):=by
 have sc:=yj;refine cx (k:=1+j) Fu hm sc (Fu.binds (ps:=["_law_found","_law_due_here"]) fun _ _ _ _ _ _ us hl=>match us,hl with|[_,_],_=>rfl) (fun Lz A outer s H E hr=>?_)
 exact((ar (bH (fI (gz .dict (ae 1) i' G' lG)) (ar (bH (fR (gh (iF (fI (gz .dict (ae 0) i' G' lG))) (gY (bM (ng hr.units) oq oo (ft ko kq Ly i6 (ae 0)) (ft ko kq Ly i6 (ae 1)))))) (bB (bg jt)) bJ) (ar (bg (ft (wX rfl) zu MB ym (oX (mz ["_law_key"] ["_law_found","_law_due_here"] [0,1] (iV (L2.aK iI) ["_law_found","_law_due_here"] (by rfl) (by rfl) (by decide+kernel)) (tQ (ae 1)) (fun cl C s H fp=>by exact(bf 0 (show List.Nodup (["_law_key","_law_found","_law_due_here"]:List Str)from by decide+kernel))) (fun cl C s H fp=>by exact jJ) (fun cl C s H fp=>by exact(qD (oY (nu hr.units) nN (ae 0) (ae 1)) (qP (bo MA hr (af (aW (ae 1) (ae 0)) (af (aW (ae 2) (ae 0)) aC)) (Nat.le_refl _))))))))) bL)) bJ) (ar (bH (fI (BL (ae 1) i' LG Li)) (ar (bH (fR (gh (bM (ng hr.units) oq oo (gz .list (ae 0) i' LG pP) (gz .list (ae 1) i' LG pP)) (gY (bM (ng hr.units) oq oo (gz .tuple (ae 0) i' Li jT) (gz .tuple (ae 1) i' Li jT))))) (bB (bg jt)) bJ) (ar (bg (qD (oY (dQ hr.units) dW (ft ko kq Ly i6 (ae 0)) (ft ko kq Ly i6 (ae 1))) (qP (ft (wX rfl) zu MB ym (oX (mz ["_law_one","_law_other"] [] [] (iV (L2.aK iI) ["_law_found","_law_due_here"] (by rfl) (by rfl) (by decide+kernel)) (JC MI (ae 0) (ae 1)) (fun cl C s H fp=>by exact(sk (lA 0 (bf 0 (show List.Nodup (["_law_one","_law_other"]:List Str)from by decide+kernel)) (lA 1 (bf 1 (show List.Nodup (["_law_one","_law_other"]:List Str)from by decide+kernel)) sY)) pf)) (fun cl C s H fp=>by exact jJ) (fun cl C s H fp=>by exact(bo MA hr (af (ae 0) (af (ae 1) aC)) (Nat.le_refl _))))))))) bL)) bJ) (ar (bg (qD (oY (dQ hr.units) dW (ae 0) (ae 1)) (qP (oY (dQ hr.units) dW (gz .bool (ae 0) i' Mh wR) (gz .bool (ae 1) i' Mh wR))))) bL)))).out
theorem HC(Fu:L2.bC K "_law_same" "_law_same" iI f fd)(hm:mg "_law_same"=some (.ref f))(MB:mg "all"=none)(Mh:mg "bool"=none)(G':mg "dict"=none)(i':mg "isinstance"=none)(Ly:mg "len"=none)(LG:mg "list"=none)(Li:mg "tuple"=none)(MI:mg "zip"=none):Df P w K mg base "_law_same" 10 2 dH:=by
 exact Df.m7 (k:=1) (b:=tD) (cx (body:=fun _=>.bad) (k:=0) Fu hm yj (Fu.binds (ps:=["_law_found","_law_due_here"]) fun _ _ _ _ _ _ us hl=>match us,hl with|[_,_],_=>rfl) (fun Lz A outer s H E hr=>vS)) (fun j m h=>Fs Fu hm MB Mh G' i' Ly LG Li MI h) 9
abbrev lX:Stmt:=top 36
theorem FD:L2.bR ["_law_state","_law_task_here","_law_number_here","_law_a","_law_b","_law_due_here","_law_handed","_law_found"] ["_law_state","_law_task_here","_law_number_here","_law_a","_law_b"] (L2.aK lX):=⟨rfl,rfl,rfl,by decide+kernel,rfl,by decide+kernel,by decide+kernel⟩
theorem Am(Fu:L2.bC K "_law_call" "_law_call" lX f fd)(hm:mg "_law_call"=some (.ref f))(i':mg "isinstance"=none)(Li:mg "tuple"=none)(Mr:Df P w K mg base "_law_due" 11 5 dO)(K':dh P w K mg base "_law_copied" 10 1 eM)(LP:Df P w K mg base "memory_call" 5 5 fE)(Lv:Df P w K mg base "_law_same" 10 2 dH):Df P w K mg base "_law_call" 12 5 dZ:=by
 have sc:=FD;refine cx (k:=11) Fu hm sc (Fu.binds (ps:=["_law_state","_law_task_here","_law_number_here","_law_a","_law_b"]) fun _ _ _ _ _ _ us hl=>match us,hl with|[_,_,_,_,_],_=>rfl) (fun Lz A outer s H E hr=>?_)
 exact((ar (bY (bo Mr hr (af (ae 0) (af (ae 1) (af (ae 2) (af (ae 3) (af (ae 4) aC))))) (by decide)) (bf 5 sc.nd)) (ar (bY (mV (gK K' hr (af (ae 0) aC) (by decide))) (bf 6 sc.nd)) (ar (bY (bo LP hr (af (ae 6) (af (ae 1) (af (ae 2) (af (ae 3) (af (ae 4) aC))))) (by decide)) (bf 7 sc.nd)) (ar (bH (fR (gh (iF (fI (gz .tuple (ae 7) i' Li jT))) (gh (iF (fI (bo Lv hr (af (ae 7) (af (ae 5) aC)) (by decide)))) (gY (iF (fI (bo Lv hr (af (ae 6) (af (ae 0) aC)) (by decide)))))))) (bB (bg oF)) bJ) (ar (bg (aW (ae 5) ai)) bL)))))).out
abbrev lL:Stmt:=top 37
theorem FE:L2.bR ["_law_state","_law_task_here","_law_cell","_law_number_here","_law_a","_law_b"] ["_law_state","_law_task_here","_law_cell"] (L2.aK lL):=⟨rfl,rfl,rfl,by decide+kernel,rfl,by decide+kernel,by decide+kernel⟩
theorem Cz(Fu:L2.bC K "_law_step" "_law_step" lL f fd)(hm:mg "_law_step"=some (.ref f))(Ly:mg "len"=none)(D':mg "sorted"=none)(LK:Df P w K mg base "_law_number" 1 3 jI)(LB:Df P w K mg base "_law_call" 12 5 dZ):Df P w K mg base "_law_step" 13 3 oP:=by
 have sc:=FE;refine cx (k:=12) Fu hm sc (Fu.binds (ps:=["_law_state","_law_task_here","_law_cell"]) fun _ _ _ _ _ _ us hl=>match us,hl with|[_,_,_],_=>rfl) (fun Lz A outer s H E hr=>?_)
 exact((ar (bY (aY fK gn ai (aY L2.cB cH (ae 2) ai)) (bf 3 sc.nd)) (ar (bY (bo LK hr (af (ae 0) (af (ae 1) (af (aY dn dw (ae 2) ai) aC))) (by decide)) (bf 4 sc.nd)) (ar (bY (bo LK hr (af (ae 0) (af (ae 1) (af (aY dn dw (ae 2) ai) aC))) (by decide)) (bf 5 sc.nd)) (ar (bH (fR (pU (bM (dQ hr.units) dW fO (ae 3) ai) (pU (bM L2.nV nJ m6 (aY L2.cB cH (aY dn dw (ae 2) ai) ai) ai) (uA (bM (wN hr.units) wD xx (aW (ae 0) aL) rF))))) (bB (bY (aW (ft (mh rfl) nW D' mJ (aW (ae 0) aL)) (aY L2.cB cH (aY dn dw (ae 2) ai) (ft ko kq Ly i6 (aW (ae 0) aL)))) (bf 4 sc.nd))) bJ) (ar (bg (bo LB hr (af (ae 0) (af (ae 1) (af (ae 3) (af (ae 4) (af (ae 5) aC))))) (by decide))) bL)))))).out
abbrev my:Stmt:=top 38
theorem BD:L2.bR ["_law_state","_law_task_here","_law_page_here","_law_number_here"] ["_law_state","_law_task_here"] (L2.aK my):=⟨rfl,rfl,rfl,by decide+kernel,rfl,by decide+kernel,by decide+kernel⟩
theorem Ew(Fu:L2.bC K "_law_all_lent" "_law_all_lent" my f fd)(hm:mg "_law_all_lent"=some (.ref f))(Lx:mg "range"=none)(LB:Df P w K mg base "_law_call" 12 5 dZ):Df P w K mg base "_law_all_lent" 13 2 mG:=by
 have sc:=BD;refine cx (k:=12) Fu hm sc (Fu.binds (ps:=["_law_state","_law_task_here"]) fun _ _ _ _ _ _ us hl=>match us,hl with|[_,_],_=>rfl) (fun Lz A outer s H E hr=>?_)
 exact((ar (gW (f:=kQ) (uo Lx ai ai) (bf 2 sc.nd) (by delta kQ;exact(bB (gW (f:=ni) (i7 (bQ (af ai (af ai aC)))) (bf 3 sc.nd) (by delta ni;exact(bB (bH (wZ (ae 0)) (bB (bY (bo LB hr (af (ae 0) (af (ae 1) (af (ae 3) (af (ae 2) (af ai aC))))) (by decide)) (bf 0 sc.nd))) bJ))))))) (ar (gW (f:=pW) (i7 (iD (af (bQ (af ai (af ai aC))) (af (bQ (af ai (af ai aC))) (af (bQ (af ai (af ai aC))) (af (bQ (af ai (af ai aC))) aC)))))) (sk (lA 3 (bf 3 sc.nd) (lA 2 (bf 2 sc.nd) sY)) pf) (by delta pW;exact(bB (bH (wZ (ae 0)) (bB (bY (bo LB hr (af (ae 0) (af (ae 1) (af (ae 3) (af (ae 2) (af ai aC))))) (by decide)) (bf 0 sc.nd))) bJ)))) (ar (bg (ae 0)) bL)))).out
abbrev ix:Stmt:=top 39
theorem Fy:L2.bR ["_law_script","_law_state","_law_tasks","_law_cell","_law_handed","_law_task_here","_law_pages","_law_due_here","_law_found"] ["_law_script"] (L2.aK ix):=⟨rfl,rfl,rfl,by decide+kernel,rfl,by decide+kernel,by decide+kernel⟩
theorem Fi(Fu:L2.bC K "law" "law" ix f fd)(hm:mg "law"=some (.ref f))(D':mg "sorted"=none)(L6:Df P w K mg base "_law_begun" 2 1 om)(Me:Df P w K mg base "_law_step" 13 3 oP)(Lh:Df P w K mg base "_law_cell_at" 1 2 gA)(LM:Df P w K mg base "_law_all_lent" 13 2 mG)(K':dh P w K mg base "_law_copied" 10 1 eM)(Lu:dh P w K mg base "copied_pages" 1 2 fW)(Lv:Df P w K mg base "_law_same" 10 2 dH)(LA:lp P w K mg base "_law_forget" 1 0 gq)(LY:Df P w K mg base "given_back" 4 2 kA):L2.dm P w K mg base L2.ff 14 f fd ["_law_script"] (iS ⟨K,P,w⟩ nO 1):=by
 have sc:=Fy;refine wq (k:=13) Fu sc (fun Lz A outer s H E hr=>?_);exact((ar (bY (bo L6 hr (af (ae 0) aC) (by decide)) (bf 1 sc.nd)) (ar (bY (ft (mh rfl) nW D' mJ (aW (ae 1) aL)) (bf 2 sc.nd)) (ar (gW (f:=mP) (i7 (HW (ae 0) (w5 ai) (w5 ai))) (bf 3 sc.nd) (by delta mP;exact(ar (bY (bo Me hr (af (ae 1) (af (aW (ae 2) (aY L2.cB cH (ae 3) ai)) (af (aY dn dw (ae 3) ai) aC))) (by decide)) (bf 1 sc.nd)) (ar (bH (oC (ae 1)) (bB (bg jt)) bJ) bL)))) (ar (bH (bM (dQ hr.units) dW fO (aY L2.cB cH (bo Lh hr (af (ae 0) (af ai aC)) (by decide)) ai) ai) (ar (bY (bo LM hr (af (ae 1) (af (aW (ae 2) ai) aC)) (by decide)) (bf 1 sc.nd)) (ar (bH (oC (ae 1)) (bB (bg jt)) bJ) bL)) bJ) (ar (bY (mV (gK K' hr (af (ae 1) aC) (by decide))) (bf 4 sc.nd)) (ar (bY (aW (ae 2) (aY L2.cB cH (aY dn dw (bo Lh hr (af (ae 0) (af ai aC)) (by decide)) ai) ai)) (bf 5 sc.nd)) (ar (bY (mV (gK Lu hr (af (ae 4) (af (ae 5) aC)) (by decide))) (bf 6 sc.nd)) (ar (bH (iF (fI (bo Lv hr (af (ae 6) (af (aW (aW (aW (ae 1) aL) (ae 5)) aL) aC)) (by decide)))) (bB (bg jt)) bJ) (ar (qO 7 sc.nd (gK K' hr (af (ae 1) aC) (by decide))) (ar (Fx 7 (cW (cW (cW (dN 7) aL) (ae 5)) aL) kK) (ar (zN 7 LA hr aC) (ar (bY (bo LY hr (af (ae 4) (af (ae 5) aC)) (by decide)) (bf 8 sc.nd)) (ar (bH (kf 7 (fR (gh (iF (fI (bo Lv hr (af (ae 8) (af (ae 7) aC)) (by decide)))) (gY (iF (fI (bo Lv hr (af (ae 4) (af (ae 1) aC)) (by decide)))))))) (bB (bg jt)) bJ) (ar (bg jt) bL))))))))))))))).out
end
theorem all_mk(X:K.In h)(G:h.Ns mainGlobals mg)(VA:mg "law"=some (.ref fa))
   (a0:PySem.W.nsIn K mainGlobals "_law_cell_at"=some (some (.ref f0))) (l0:K.lookup f0=some ⟨W0,Xj,.func (PySem.W.fnOf "_law_cell_at" "_law_cell_at" (L2.bW kP) (L2.bF kP) (L2.aK kP) .none kV0 dc0 pm0 an0 cd0 ct0),Xo⟩) (c0:PySem.W.codeIn K cd0 "_law_cell_at"=true) (k0:PySem.W.keepIn K (.ref f0)=true)
   (a1:PySem.W.nsIn K mainGlobals "_law_page"=some (some (.ref f1))) (l1:K.lookup f1=some ⟨WN,Xc,.func (PySem.W.fnOf "_law_page" "_law_page" (L2.bW ma) (L2.bF ma) (L2.aK ma) .none kV1 dc1 pm1 an1 cd1 ct1),WT⟩) (c1:PySem.W.codeIn K cd1 "_law_page"=true) (k1:PySem.W.keepIn K (.ref f1)=true)
   (a2:PySem.W.nsIn K mainGlobals "_law_task"=some (some (.ref f2))) (l2:K.lookup f2=some ⟨W2,WU,.func (PySem.W.fnOf "_law_task" "_law_task" (L2.bW lz) (L2.bF lz) (L2.aK lz) .none kV2 dc2 pm2 an2 cd2 ct2),O5⟩) (c2:PySem.W.codeIn K cd2 "_law_task"=true) (k2:PySem.W.keepIn K (.ref f2)=true)
   (a3:PySem.W.nsIn K mainGlobals "_law_begun"=some (some (.ref f3))) (l3:K.lookup f3=some ⟨WW,WM,.func (PySem.W.fnOf "_law_begun" "_law_begun" (L2.bW kM) (L2.bF kM) (L2.aK kM) .none kV3 dc3 pm3 an3 cd3 ct3),Xh⟩) (c3:PySem.W.codeIn K cd3 "_law_begun"=true) (k3:PySem.W.keepIn K (.ref f3)=true)
   (a4:PySem.W.nsIn K mainGlobals "_law_copied"=some (some (.ref f4))) (l4:K.lookup f4=some ⟨W3,W4,.func (PySem.W.fnOf "_law_copied" "_law_copied" (L2.bW iq) (L2.bF iq) (L2.aK iq) .none kV4 dc4 pm4 an4 cd4 ct4),Xi⟩) (c4:PySem.W.codeIn K cd4 "_law_copied"=true) (k4:PySem.W.keepIn K (.ref f4)=true)
   (a5:PySem.W.nsIn K mainGlobals "copied_pages"=some (some (.ref f5))) (l5:K.lookup f5=some ⟨WZ,Xk,.func (PySem.W.fnOf "copied_pages" "copied_pages" (L2.bW lP) (L2.bF lP) (L2.aK lP) .none kV5 dc5 pm5 an5 cd5 ct5),W5⟩) (c5:PySem.W.codeIn K cd5 "copied_pages"=true) (k5:PySem.W.keepIn K (.ref f5)=true)
   (a6:PySem.W.nsIn K mainGlobals "_law_forget"=some (some (.ref f6))) (l6:K.lookup f6=some ⟨WJ,Xy,.func (PySem.W.fnOf "_law_forget" "_law_forget" (L2.bW kY) (L2.bF kY) (L2.aK kY) .none kV6 dc6 pm6 an6 cd6 ct6),W'⟩) (c6:PySem.W.codeIn K cd6 "_law_forget"=true) (k6:PySem.W.keepIn K (.ref f6)=true)
   (a7:PySem.W.nsIn K mainGlobals "tasks_in"=some (some (.ref f7))) (l7:K.lookup f7=some ⟨Xw,Xq,.func (PySem.W.fnOf "tasks_in" "tasks_in" (L2.bW kr) (L2.bF kr) (L2.aK kr) .none kV7 dc7 pm7 an7 cd7 ct7),W8⟩) (c7:PySem.W.codeIn K cd7 "tasks_in"=true) (k7:PySem.W.keepIn K (.ref f7)=true)
   (a8:PySem.W.nsIn K mainGlobals "held_numbers"=some (some (.ref f8))) (l8:K.lookup f8=some ⟨Xp,Xe,.func (PySem.W.fnOf "held_numbers" "held_numbers" (L2.bW ku) (L2.bF ku) (L2.aK ku) .none kV8 dc8 pm8 an8 cd8 ct8),Xu⟩) (c8:PySem.W.codeIn K cd8 "held_numbers"=true) (k8:PySem.W.keepIn K (.ref f8)=true)
   (a9:PySem.W.nsIn K mainGlobals "changed"=some (some (.ref f9))) (l9:K.lookup f9=some ⟨WI,Xv,.func (PySem.W.fnOf "changed" "changed" (L2.bW kU) (L2.bF kU) (L2.aK kU) .none kV9 dc9 pm9 an9 cd9 ct9),WS⟩) (c9:PySem.W.codeIn K cd9 "changed"=true) (k9:PySem.W.keepIn K (.ref f9)=true)
   (a10:PySem.W.nsIn K mainGlobals "with_held_lent"=some (some (.ref f10))) (l10:K.lookup f10=some ⟨UM,We,.func (PySem.W.fnOf "with_held_lent" "with_held_lent" (L2.bW jL) (L2.bF jL) (L2.aK jL) .none kV10 dc10 pm10 an10 cd10 ct10),Wr⟩) (c10:PySem.W.codeIn K cd10 "with_held_lent"=true) (k10:PySem.W.keepIn K (.ref f10)=true)
   (a11:PySem.W.nsIn K mainGlobals "with_task"=some (some (.ref f11))) (l11:K.lookup f11=some ⟨Uh,Vu,.func (PySem.W.fnOf "with_task" "with_task" (L2.bW lU) (L2.bF lU) (L2.aK lU) .none kV11 dc11 pm11 an11 cd11 ct11),UZ⟩) (c11:PySem.W.codeIn K cd11 "with_task"=true) (k11:PySem.W.keepIn K (.ref f11)=true)
   (a12:PySem.W.nsIn K mainGlobals "given_back"=some (some (.ref f12))) (l12:K.lookup f12=some ⟨VL,Vo,.func (PySem.W.fnOf "given_back" "given_back" (L2.bW kC) (L2.bF kC) (L2.aK kC) .none kV12 dc12 pm12 an12 cd12 ct12),Ua⟩) (c12:PySem.W.codeIn K cd12 "given_back"=true) (k12:PySem.W.keepIn K (.ref f12)=true)
   (a13:PySem.W.nsIn K mainGlobals "_law_number"=some (some (.ref f13))) (l13:K.lookup f13=some ⟨Uz,Vj,.func (PySem.W.fnOf "_law_number" "_law_number" (L2.bW lI) (L2.bF lI) (L2.aK lI) .none kV13 dc13 pm13 an13 cd13 ct13),UP⟩) (c13:PySem.W.codeIn K cd13 "_law_number"=true) (k13:PySem.W.keepIn K (.ref f13)=true)
   (a14:PySem.W.nsIn K mainGlobals "_law_due"=some (some (.ref f14))) (l14:K.lookup f14=some ⟨VR,Vh,.func (PySem.W.fnOf "_law_due" "_law_due" (L2.bW lE) (L2.bF lE) (L2.aK lE) .none kV14 dc14 pm14 an14 cd14 ct14),VM⟩) (c14:PySem.W.codeIn K cd14 "_law_due"=true) (k14:PySem.W.keepIn K (.ref f14)=true)
   (a15:PySem.W.nsIn K mainGlobals "with_page"=some (some (.ref f15))) (i8:K.lookup f15=some ⟨WG,Wo,.func (PySem.W.fnOf "with_page" "with_page" (L2.bW mx) (L2.bF mx) (L2.aK mx) .none kV15 dc15 pm15 an15 cd15 ct15),Up⟩) (c15:PySem.W.codeIn K cd15 "with_page"=true) (k15:PySem.W.keepIn K (.ref f15)=true)
   (a16:PySem.W.nsIn K mainGlobals "page_entry"=some (some (.ref f16))) (l16:K.lookup f16=some ⟨Ue,UB,.func (PySem.W.fnOf "page_entry" "page_entry" (L2.bW kZ) (L2.bF kZ) (L2.aK kZ) .none kV16 dc16 pm16 an16 cd16 ct16),Uk⟩) (c16:PySem.W.codeIn K cd16 "page_entry"=true) (k16:PySem.W.keepIn K (.ref f16)=true)
   (a17:PySem.W.nsIn K mainGlobals "is_free_page"=some (some (.ref f17))) (l17:K.lookup f17=some ⟨UA,Vw,.func (PySem.W.fnOf "is_free_page" "is_free_page" (L2.bW lQ) (L2.bF lQ) (L2.aK lQ) .none kV17 dc17 pm17 an17 cd17 ct17),Wx⟩) (c17:PySem.W.codeIn K cd17 "is_free_page"=true) (k17:PySem.W.keepIn K (.ref f17)=true)
   (a18:PySem.W.nsIn K mainGlobals "hold_call"=some (some (.ref f18))) (l18:K.lookup f18=some ⟨Vm,UE,.func (PySem.W.fnOf "hold_call" "hold_call" (L2.bW lV) (L2.bF lV) (L2.aK lV) .none kV18 dc18 pm18 an18 cd18 ct18),UG⟩) (c18:PySem.W.codeIn K cd18 "hold_call"=true) (k18:PySem.W.keepIn K (.ref f18)=true)
   (a19:PySem.W.nsIn K mainGlobals "nought_page"=some (some (.ref f19))) (l19:K.lookup f19=some ⟨Ww,V0,.func (PySem.W.fnOf "nought_page" "nought_page" (L2.bW lN) (L2.bF lN) (L2.aK lN) .none kV19 dc19 pm19 an19 cd19 ct19),Ut⟩) (c19:PySem.W.codeIn K cd19 "nought_page"=true) (k19:PySem.W.keepIn K (.ref f19)=true)
   (a20:PySem.W.nsIn K mainGlobals "new_page_call"=some (some (.ref f20))) (l20:K.lookup f20=some ⟨UJ,U8,.func (PySem.W.fnOf "new_page_call" "new_page_call" (L2.bW kG) (L2.bF kG) (L2.aK kG) .none kV20 dc20 pm20 an20 cd20 ct20),Ug⟩) (c20:PySem.W.codeIn K cd20 "new_page_call"=true) (k20:PySem.W.keepIn K (.ref f20)=true)
   (a21:PySem.W.nsIn K mainGlobals "give_call"=some (some (.ref f21))) (l21:K.lookup f21=some ⟨Ub,Uo,.func (PySem.W.fnOf "give_call" "give_call" (L2.bW mI) (L2.bF mI) (L2.aK mI) .none kV21 dc21 pm21 an21 cd21 ct21),Vn⟩) (c21:PySem.W.codeIn K cd21 "give_call"=true) (k21:PySem.W.keepIn K (.ref f21)=true)
   (a22:PySem.W.nsIn K mainGlobals "least_free"=some (some (.ref f22))) (l22:K.lookup f22=some ⟨VJ,V9,.func (PySem.W.fnOf "least_free" "least_free" (L2.bW lY) (L2.bF lY) (L2.aK lY) .none kV22 dc22 pm22 an22 cd22 ct22),Vi⟩) (c22:PySem.W.codeIn K cd22 "least_free"=true) (k22:PySem.W.keepIn K (.ref f22)=true)
   (a23:PySem.W.nsIn K mainGlobals "with_lent"=some (some (.ref f23))) (l23:K.lookup f23=some ⟨T9,UX,.func (PySem.W.fnOf "with_lent" "with_lent" (L2.bW lZ) (L2.bF lZ) (L2.aK lZ) .none kV23 dc23 pm23 an23 cd23 ct23),Vx⟩) (c23:PySem.W.codeIn K cd23 "with_lent"=true) (k23:PySem.W.keepIn K (.ref f23)=true)
   (a24:PySem.W.nsIn K mainGlobals "lend_call"=some (some (.ref f24))) (l24:K.lookup f24=some ⟨Va,VQ,.func (PySem.W.fnOf "lend_call" "lend_call" (L2.bW lD) (L2.bF lD) (L2.aK lD) .none kV24 dc24 pm24 an24 cd24 ct24),V8⟩) (c24:PySem.W.codeIn K cd24 "lend_call"=true) (k24:PySem.W.keepIn K (.ref f24)=true)
   (a25:PySem.W.nsIn K mainGlobals "memory_call"=some (some (.ref f25))) (l25:K.lookup f25=some ⟨UW,Uq,.func (PySem.W.fnOf "memory_call" "memory_call" (L2.bW mq) (L2.bF mq) (L2.aK mq) .none kV25 dc25 pm25 an25 cd25 ct25),UR⟩) (c25:PySem.W.codeIn K cd25 "memory_call"=true) (k25:PySem.W.keepIn K (.ref f25)=true)
   (a26:PySem.W.nsIn K mainGlobals "_law_same"=some (some (.ref f26))) (l26:K.lookup f26=some ⟨UN,U6,.func (PySem.W.fnOf "_law_same" "_law_same" (L2.bW iI) (L2.bF iI) (L2.aK iI) .none kV26 dc26 pm26 an26 cd26 ct26),UQ⟩) (c26:PySem.W.codeIn K cd26 "_law_same"=true) (k26:PySem.W.keepIn K (.ref f26)=true)
   (a27:PySem.W.nsIn K mainGlobals "_law_call"=some (some (.ref f27))) (l27:K.lookup f27=some ⟨VF,U9,.func (PySem.W.fnOf "_law_call" "_law_call" (L2.bW lX) (L2.bF lX) (L2.aK lX) .none kV27 dc27 pm27 an27 cd27 ct27),Wq⟩) (c27:PySem.W.codeIn K cd27 "_law_call"=true) (k27:PySem.W.keepIn K (.ref f27)=true)
   (a28:PySem.W.nsIn K mainGlobals "_law_step"=some (some (.ref f28))) (l28:K.lookup f28=some ⟨UC,WD,.func (PySem.W.fnOf "_law_step" "_law_step" (L2.bW lL) (L2.bF lL) (L2.aK lL) .none kV28 dc28 pm28 an28 cd28 ct28),U1⟩) (c28:PySem.W.codeIn K cd28 "_law_step"=true) (k28:PySem.W.keepIn K (.ref f28)=true)
   (a29:PySem.W.nsIn K mainGlobals "_law_all_lent"=some (some (.ref f29))) (l29:K.lookup f29=some ⟨Um,Ud,.func (PySem.W.fnOf "_law_all_lent" "_law_all_lent" (L2.bW my) (L2.bF my) (L2.aK my) .none kV29 dc29 pm29 an29 cd29 ct29),VY⟩) (c29:PySem.W.codeIn K cd29 "_law_all_lent"=true) (k29:PySem.W.keepIn K (.ref f29)=true)
   (a30:PySem.W.nsIn K mainGlobals "law"=some (some (.ref f30))) (l30:K.lookup f30=some ⟨VZ,UK,.func (PySem.W.fnOf "law" "law" (L2.bW ix) (L2.bF ix) (L2.aK ix) .none kV30 dc30 pm30 an30 cd30 ct30),VI⟩) (c30:PySem.W.codeIn K cd30 "law"=true) (k30:PySem.W.keepIn K (.ref f30)=true)
   (z_all:PySem.W.nsIn K mainGlobals "all"=some none)
   (z_bool:PySem.W.nsIn K mainGlobals "bool"=some none)
   (z_dict:PySem.W.nsIn K mainGlobals "dict"=some none)
   (z_isinstance:PySem.W.nsIn K mainGlobals "isinstance"=some none)
   (z_len:PySem.W.nsIn K mainGlobals "len"=some none)
   (z_list:PySem.W.nsIn K mainGlobals "list"=some none)
   (z_range:PySem.W.nsIn K mainGlobals "range"=some none)
   (z_sorted:PySem.W.nsIn K mainGlobals "sorted"=some none)
   (z_tuple:PySem.W.nsIn K mainGlobals "tuple"=some none)
   (z_zip:PySem.W.nsIn K mainGlobals "zip"=some none)
   (gl_MOST_PAGE:eP PySem.Challenge.pw_underfloor_k13_pages_called_for w K mg "MOST_PAGE" t6)
   (gl_BAD:eP PySem.Challenge.pw_underfloor_k13_pages_called_for w K mg "BAD" iC)
   (gl_PAGE_WORDS:eP PySem.Challenge.pw_underfloor_k13_pages_called_for w K mg "PAGE_WORDS" uO)
   (gl_MOST_LENT:eP PySem.Challenge.pw_underfloor_k13_pages_called_for w K mg "MOST_LENT" uT)
   (gl_LACK:eP PySem.Challenge.pw_underfloor_k13_pages_called_for w K mg "LACK" ug):
   ∃fd:FuncData,(∀(s:Shared) (v:Value),BindsTo s fd ⟨[v],[]⟩ [("_law_script",v)])∧∀base:Heap,K.In base→base.Ns mainGlobals mg→L2.dm PySem.Challenge.pw_underfloor_k13_pages_called_for w K mg base L2.ff 14 fa fd ["_law_script"] (iS ⟨K,PySem.Challenge.pw_underfloor_k13_pages_called_for,w⟩ nO 1):=by
 have e:=VA.symm.trans (PySem.W.mg_of X G a30);cases e;have MB:=PySem.W.mg_none_of X G z_all;have Mh:=PySem.W.mg_none_of X G z_bool;have G':=PySem.W.mg_none_of X G z_dict;have i':=PySem.W.mg_none_of X G z_isinstance;have Ly:=PySem.W.mg_none_of X G z_len;have LG:=PySem.W.mg_none_of X G z_list;have Lx:=PySem.W.mg_none_of X G z_range;have D':=PySem.W.mg_none_of X G z_sorted;have Li:=PySem.W.mg_none_of X G z_tuple;have MI:=PySem.W.mg_none_of X G z_zip;refine⟨PySem.W.fnOf "law" "law" (L2.bW ix) (L2.bF ix) (L2.aK ix) .none kV30 dc30 pm30 an30 cd30 ct30,fun s v=>.of_eq rfl,fun base _ _=>?_⟩;have Lh:=Jm (P:=PySem.Challenge.pw_underfloor_k13_pages_called_for) (w:=w) (base:=base) (L2.b9 (st:=kP) l0 c0 k0) (PySem.W.mg_of X G a0) Ly;have LV:=Jt (P:=PySem.Challenge.pw_underfloor_k13_pages_called_for) (w:=w) (base:=base) (L2.b9 (st:=ma) l1 c1 k1) (PySem.W.mg_of X G a1) Lx Li;have LW:=Ej (P:=PySem.Challenge.pw_underfloor_k13_pages_called_for) (w:=w) (base:=base) (L2.b9 (st:=lz) l2 c2 k2) (PySem.W.mg_of X G a2);have L6:=C6 (P:=PySem.Challenge.pw_underfloor_k13_pages_called_for) (w:=w) (base:=base) (L2.b9 (st:=kM) l3 c3 k3) (PySem.W.mg_of X G a3) Ly Lx D' Lh LW LV;have K':=Ai (P:=PySem.Challenge.pw_underfloor_k13_pages_called_for) (w:=w) (base:=base) (L2.b9 (st:=iq) l4 c4 k4) (PySem.W.mg_of X G a4) G' i' LG Li;have Lu:=E5 (P:=PySem.Challenge.pw_underfloor_k13_pages_called_for) (w:=w) (base:=base) (L2.b9 (st:=lP) l5 c5 k5) (PySem.W.mg_of X G a5) G'
 have LA:=CH (P:=PySem.Challenge.pw_underfloor_k13_pages_called_for) (w:=w) (base:=base) (L2.b9 (st:=kY) l6 c6 k6) (PySem.W.mg_of X G a6) D';have L9:=Ga (P:=PySem.Challenge.pw_underfloor_k13_pages_called_for) (w:=w) (base:=base) (L2.b9 (st:=kr) l7 c7 k7) (PySem.W.mg_of X G a7) D';have LL:=Bk (P:=PySem.Challenge.pw_underfloor_k13_pages_called_for) (w:=w) (base:=base) (L2.b9 (st:=ku) l8 c8 k8) (PySem.W.mg_of X G a8) L9;have Lj:=Im (P:=PySem.Challenge.pw_underfloor_k13_pages_called_for) (w:=w) (base:=base) (L2.b9 (st:=kU) l9 c9 k9) (PySem.W.mg_of X G a9) G';have Lo:=Cv (P:=PySem.Challenge.pw_underfloor_k13_pages_called_for) (w:=w) (base:=base) (L2.b9 (st:=jL) l10 c10 k10) (PySem.W.mg_of X G a10) G' LL Lj;have Lq:=DQ (P:=PySem.Challenge.pw_underfloor_k13_pages_called_for) (w:=w) (base:=base) (L2.b9 (st:=lU) l11 c11 k11) (PySem.W.mg_of X G a11) G' Lj;have LY:=G9 (P:=PySem.Challenge.pw_underfloor_k13_pages_called_for) (w:=w) (base:=base) (L2.b9 (st:=kC) l12 c12 k12) (PySem.W.mg_of X G a12) Lq Lo;have LK:=Bh (P:=PySem.Challenge.pw_underfloor_k13_pages_called_for) (w:=w) (base:=base) (L2.b9 (st:=lI) l13 c13 k13) (PySem.W.mg_of X G a13) Ly D';have Mr:=El (P:=PySem.Challenge.pw_underfloor_k13_pages_called_for) (w:=w) (base:=base) (L2.b9 (st:=lE) l14 c14 k14) (PySem.W.mg_of X G a14) K' LA;have Lp:=EA (P:=PySem.Challenge.pw_underfloor_k13_pages_called_for) (w:=w) (base:=base) (L2.b9 (st:=mx) i8 c15 k15) (PySem.W.mg_of X G a15) Lj Lq
 have Lk:=Aj (P:=PySem.Challenge.pw_underfloor_k13_pages_called_for) (w:=w) (base:=base) (L2.b9 (st:=kZ) l16 c16 k16) (PySem.W.mg_of X G a16);have Ls:=Bg (P:=PySem.Challenge.pw_underfloor_k13_pages_called_for) (w:=w) (base:=base) (L2.b9 (st:=lQ) l17 c17 k17) (PySem.W.mg_of X G a17) gl_MOST_PAGE Lk;have L4:=z0 (P:=PySem.Challenge.pw_underfloor_k13_pages_called_for) (w:=w) (base:=base) (L2.b9 (st:=lV) l18 c18 k18) (PySem.W.mg_of X G a18) gl_BAD Ls Lp;have LR:=Ei (P:=PySem.Challenge.pw_underfloor_k13_pages_called_for) (w:=w) (base:=base) (L2.b9 (st:=lN) l19 c19 k19) (PySem.W.mg_of X G a19) gl_PAGE_WORDS;have LJ:=Ja (P:=PySem.Challenge.pw_underfloor_k13_pages_called_for) (w:=w) (base:=base) (L2.b9 (st:=kG) l20 c20 k20) (PySem.W.mg_of X G a20) gl_BAD Ls LR Lp;have L3:=Js (P:=PySem.Challenge.pw_underfloor_k13_pages_called_for) (w:=w) (base:=base) (L2.b9 (st:=mI) l21 c21 k21) (PySem.W.mg_of X G a21) gl_BAD Lk Lu Lq Lo;have LX:=Hv (P:=PySem.Challenge.pw_underfloor_k13_pages_called_for) (w:=w) (base:=base) (L2.b9 (st:=lY) l22 c22 k22) (PySem.W.mg_of X G a22) Lx;have L5:=Jg (P:=PySem.Challenge.pw_underfloor_k13_pages_called_for) (w:=w) (base:=base) (L2.b9 (st:=lZ) l23 c23 k23) (PySem.W.mg_of X G a23) Lj;have L7:=DW (P:=PySem.Challenge.pw_underfloor_k13_pages_called_for) (w:=w) (base:=base) (L2.b9 (st:=lD) l24 c24 k24) (PySem.W.mg_of X G a24) gl_BAD gl_MOST_LENT gl_LACK Lk LX L5 Lp
 have LP:=EC (P:=PySem.Challenge.pw_underfloor_k13_pages_called_for) (w:=w) (base:=base) (L2.b9 (st:=mq) l25 c25 k25) (PySem.W.mg_of X G a25) LJ L3 L7 L4;have Lv:=HC (P:=PySem.Challenge.pw_underfloor_k13_pages_called_for) (w:=w) (base:=base) (L2.b9 (st:=iI) l26 c26 k26) (PySem.W.mg_of X G a26) MB Mh G' i' Ly LG Li MI;have LB:=Am (P:=PySem.Challenge.pw_underfloor_k13_pages_called_for) (w:=w) (base:=base) (L2.b9 (st:=lX) l27 c27 k27) (PySem.W.mg_of X G a27) i' Li Mr K' LP Lv;have Me:=Cz (P:=PySem.Challenge.pw_underfloor_k13_pages_called_for) (w:=w) (base:=base) (L2.b9 (st:=lL) l28 c28 k28) (PySem.W.mg_of X G a28) Ly D' LK LB;have LM:=Ew (P:=PySem.Challenge.pw_underfloor_k13_pages_called_for) (w:=w) (base:=base) (L2.b9 (st:=my) l29 c29 k29) (PySem.W.mg_of X G a29) Lx LB;have Pb:=Fi (P:=PySem.Challenge.pw_underfloor_k13_pages_called_for) (w:=w) (base:=base) (L2.b9 (st:=ix) l30 c30 k30) (PySem.W.mg_of X G a30) D' L6 Me Lh LM K' Lu Lv LA LY;exact Pb
end gu
end PL
namespace PL
namespace gu
open PySem G C
section
variable{m:Nat}{j:Bool}{a b:Int}{q q':Q}{ls ks ks':List Int}{lw:List (List Int)}{es es':List Ent}
theorem xE(h:a≠b)(hq:NQ q)(Mt:NQ q')(o:Ok m ls ks ks' lw es es')(hm:m<63)(ht:ao tl (.int (op % 2))=.ok (.int (tid j a b))):
   ∃LO LC LS LF,mP [.sh s0,.sh (st j a b q q' (ab ks es) (ab ks' es') (ah ls lw)),.sh tl,.sh (.int op),.un,.un,.un,.un,.un]=.ok (.next [.sh s0,.sh (st j a b q q' (ab LC LF) (ab ks' es') (ah LO LS)),.sh tl,.sh (.int op),.un,.un,.un,.un,.un])∧Ok (m+1) LO LC ks' LS LF es':=by
 obtain⟨LO,LC,LS,LF,e,o2⟩:=IB (j:=j) h hq Mt o hm (op / 2);refine⟨LO,LC,LS,LF,?_,o2⟩;rw[mP];rw[au (bI (dD rfl (aG rfl (cu rfl rfl (by decide)) ht) (di rfl rfl (by decide)) e))]
 rfl
theorem w9(h:a≠b)(hq:NQ q)(Mt:NQ q')(o:Ok m ls ks ks' lw es es')(hm:m<100):∃LO LC LS LF,mG [st j a b q q' (ab ks es) (ab ks' es') (ah ls lw),.int (tid j a b)]=.ok (st j a b q q' (ab LC LF) (ab ks' es') (ah LO LS))∧Ok (m+36) LO LC ks' LS LF es':=by
 obtain⟨d,e,LO,LC,LS,LF,rfl,o2⟩:=C5 (j:=j) h hq Mt (d:=st j a b q q' (ab ks es) (ab ks' es') (ah ls lw)) ⟨ls,ks,lw,es,rfl,o⟩ hm;exact⟨LO,LC,LS,LF,e,o2⟩
end
theorem tR(a b:Int)(h0:0≤i)(h1:i<2):∃j,ao (.lst ((aV [a,b]).map .int)) (.int i)=.ok (.int (tid j a b)):=by
 have Vt:(aV [a,b]).length=2:=(fm [a,b]).length_eq;have hi:i.toNat<(aV [a,b]).length:=by omega
 have NS:ao (.lst ((aV [a,b]).map .int)) (.int i)=.ok (.int ((aV [a,b])[i.toNat])):=iQ (nq h0 (by rw[Vt];exact h1))
 have NH:(aV [a,b])[i.toNat]∈[a,b]:=(fm [a,b]).mem_iff.mp (List.getElem_mem hi);generalize (aV [a,b])[i.toNat]=t at NS NH;simp only[List.mem_cons,List.not_mem_nil,or_false]at NH;rcases NH with rfl|rfl
 ·exact⟨false,NS⟩
 ·exact⟨true,NS⟩
theorem EK(ns:List Int)(hlen:ns.length≤63):nO [.lst (ns.map .int)]=.ok (.bl true):=by
 obtain⟨a,b,r,ks,ks',ls,es,es',lw,h,hp,Oq,⟨hl,hr⟩,Vp⟩:=FX ns;have o0:Ok 14 ls ks ks' lw es es':=⟨hp,Oq,hl.1,hl.2.1,hr,hl.2.2.2⟩;rw[nO];refine bT ?_;show aj _ [.sh (.lst (ns.map .int)),.un,.un,.un,.un,.un,.un,.un,.un]=_;rw[au (bI (jc rfl Vp))];show aj _ [.sh (.lst (ns.map .int)),.sh (st false a b qA.q (qB r).q (ab ks es) (ab ks' es') (ah ls lw)),.un,.un,.un,.un,.un,.un,.un]=_;have So:de (dE false a b (tk qA.q (ab ks es)) (tk (qB r).q (ab ks' es')))=.ok (.lst ((aV [a,b]).map .int)):=mL (ks:=[a,b]) (show 2<64 by decide)
 rw[au (bI (cV (aG rfl rfl nR) So))];show aj _ [.sh (.lst (ns.map .int)),.sh (st false a b qA.q (qB r).q (ab ks es) (ab ks' es') (ah ls lw)),.sh (.lst ((aV [a,b]).map .int)),.un,.un,.un,.un,.un,.un]=_
 have VT:(cut (ns.map D.int) (some 13) (some 53)).length≤40:=by
   unfold cut;rw[List.length_take,xr (by decide),xr (by decide)]
   have:(53:Int).toNat=53:=rfl;have:(13:Int).toNat=13:=rfl;omega
 obtain⟨ρ1,eL,Wg,TM,QC,Uv,TJ,QU,x3,o1,Po,Mu⟩:=mf (tg:=aE 3) (body:=mP) (fun k ρ=>∃ls ks ks' lw es es' x3,Ok (14+k) ls ks ks' lw es es'∧(x3=.un∨∃d,x3=.sh d)∧ρ=[.sh (.lst (ns.map .int)),.sh (st false a b qA.q (qB r).q (ab ks es) (ab ks' es') (ah ls lw)),.sh (.lst ((aV [a,b]).map .int)),x3,.un,.un,.un,.un,.un]) (ds:=cut (ns.map .int) (some 13) (some 53)) 0 (by
   intro k d hd ρ ⟨ls,ks,ks',lw,es,es',x3,o,Po,Mu⟩;subst Mu;have Us:=(List.getElem?_eq_some_iff.mp hd).1
   obtain⟨op,rfl⟩:∃op,d=.int op:=by
     have hd2:=List.mem_of_getElem? hd;unfold cut at hd2;obtain⟨op,_,rfl⟩:=List.mem_map.mp (List.mem_of_mem_drop (List.mem_of_mem_take hd2));exact⟨op,rfl⟩
   refine⟨_,rfl,?_⟩;obtain⟨j,ht⟩:=tR a b (Int.emod_nonneg op (show(2:Int)≠0 by decide)) (Int.emod_lt_of_pos op (show(0:Int)<2 by decide))
   cases j with
   | false=>
     obtain⟨LO,LC,LS,LF,e,o2⟩:=xE (j:=false) h lR (ly r) o (by omega) (s0:=.lst (ns.map .int)) ht
     exact⟨_,e,LO,LC,ks',LS,LF,es',_,o2,.inr ⟨_,rfl⟩,rfl⟩
   | true=>
     obtain⟨LO,LC,LS,LF,e,o2⟩:=xE (j:=true) h (ly r) lR o.swap (by omega) (s0:=.lst (ns.map .int)) ht
     exact⟨_,e,LO,ks,LC,LS,es,LF,_,o2.swap,.inr ⟨_,rfl⟩,rfl⟩) (ρ:=[.sh (.lst (ns.map .int)),.sh (st false a b qA.q (qB r).q (ab ks es) (ab ks' es') (ah ls lw)),.sh (.lst ((aV [a,b]).map .int)),.un,.un,.un,.un,.un,.un]) ⟨ls,ks,ks',lw,es,es',.un,o0,.inl rfl,rfl⟩
 rw[au (fL (ds:=cut (ns.map .int) (some 13) (some 53)) rfl eL)];subst Mu;obtain⟨c1,SH⟩:=oD ns 1 (by decide)
 obtain⟨c0,Ro⟩:=oD ns 0 (by decide)
 obtain⟨j2,OU⟩:=tR a b (Int.emod_nonneg (c0 / 7) (show(2:Int)≠0 by decide)) (Int.emod_lt_of_pos (c0 / 7) (show(0:Int)<2 by decide))
 have fin:∀ {m:Nat} {ls ks ks':List Int} {lw:List (List Int)} {es es':List Ent},Ok m ls ks ks' lw es es'→m<300→aj [bb (aE 4) (eX (bG eM [aa 1])),bb (aE 5) (e2 ao (aa 2) (e2 oMod (e2 oDiv (aJ gA [aa 0,eC (.int 0)]) (eC (.int 7))) (eC (.int 2)))),bb (aE 6) (eX (bG fW [aa 4,aa 5])),aQ (cO (tV (aJ dH [aa 6,e2 ao (e2 ao (e2 ao (aa 1) (eC (S "tasks"))) (aa 5)) (eC (S "pages"))]))) (aM (eC (.bl false))) (aP),il 7 (bG eM [aa 1]),jS 7 (pX 7 (pX 7 (pX 7 (pN) (eC (S "tasks"))) (aa 5)) (eC (S "pages"))),ib 7 gq [],bb (aE 8) (aJ kA [aa 4,aa 5]),aQ (cT 7 (b6 (cO (tV (aJ dH [aa 8,aa 7]))) (cO (tV (aJ dH [aa 4,aa 1]))))) (aM (eC (.bl false))) (aP),aM (eC (.bl true))] [.sh (.lst (ns.map .int)),.sh (st false a b qA.q (qB r).q (ab ks es) (ab ks' es') (ah ls lw)),.sh (.lst ((aV [a,b]).map .int)),x3,.un,.un,.un,.un,.un]=.ok (.ret (.bl true)):=fun {m ls ks ks' lw es es'} o hm=>by
   cases j2 with
   |false=>exact yl (j:=false) h lR (ly r) o hm Po (c0 / 7 % 2) OU (fun x4=>cu (di (cM rfl rfl Ro) rfl (by decide)) rfl (by decide))
   |true=>exact yl (j:=true) h (ly r) lR o.swap hm Po (c0 / 7 % 2) OU (fun x4=>cu (di (cM rfl rfl Ro) rfl (by decide)) rfl (by decide))
 have Mm:tV (e2 oEq (e2 oMod (aJ gA [aa 0,eC (.int 1)]) (eC (.int 4))) (eC (.int 1))) [.sh (.lst (ns.map .int)),.sh (st false a b qA.q (qB r).q (ab TM TJ) (ab QC QU) (ah Wg Uv)),.sh (.lst ((aV [a,b]).map .int)),x3,.un,.un,.un,.un,.un]=.ok (decide (c1 % 4=1)):=aR (jx (cu (cM rfl rfl SH) rfl (by decide)) rfl)
 by_cases hc:c1 % 4=1
 · rw[decide_eq_true hc]at Mm
   obtain⟨j3,SX⟩:=tR a b (i:=0) (by decide) (by decide)
   cases j3 with
   | false=>
     obtain⟨LO,LC,LS,LF,e,o2⟩:=w9 (j:=false) h lR (ly r) o1 (by omega)
     rw[au (ρ':=[.sh (.lst (ns.map .int)),.sh (st false a b qA.q (qB r).q (ab LC LF) (ab QC QU) (ah LO LS)),.sh (.lst ((aV [a,b]).map .int)),x3,.un,.un,.un,.un,.un]) (by
       rw[bO Mm,au (bI (cM rfl (aG rfl rfl SX) e))];rfl)]
     exact fin o2 (by omega)
   | true=>
     obtain⟨LO,LC,LS,LF,e,o2⟩:=w9 (j:=true) h (ly r) lR o1.swap (by omega)
     rw[au (ρ':=[.sh (.lst (ns.map .int)),.sh (st false a b qA.q (qB r).q (ab TM TJ) (ab LC LF) (ah LO LS)),.sh (.lst ((aV [a,b]).map .int)),x3,.un,.un,.un,.un,.un]) (by
       rw[bO Mm,au (bI (cM rfl (aG rfl rfl SX) e))];rfl)]
     exact fin o2.swap (by omega)
 · rw[decide_eq_false hc]at Mm
   rw[au (bc Mm)];exact fin o1 (by omega)
end gu
end PL
def PySem.W.Fast.tw7293298573674695353:Nat:=0
def PySem.W.Fast.tw11325515758712952934:Nat:=0
def PySem.W.Fast.tw18424181239096962932:Nat:=0
def PySem.W.Fast.tw16774886621724244825:Nat:=0
def PySem.W.Fast.tw13909037632347406282:Nat:=0
def PySem.W.Fast.tw5479905235726286496:Nat:=0
def PySem.W.Fast.tw18401455366432319662:Nat:=0
def PySem.W.Fast.tw9142409092645267939:Nat:=0
def PySem.W.Fast.tw5770462820855714256:Nat:=0
def PySem.W.Fast.tw16869095017432076200:Nat:=0
def PySem.W.Fast.tw16614945478444067816:Nat:=0
def PySem.W.Fast.tw14694052533065623798:Nat:=0
def PySem.W.Fast.tw7469835694963200428:Nat:=0
def PySem.W.Fast.tw4632854011500859333:Nat:=0
def PySem.W.Fast.tw11562191253110425820:Nat:=0
def PySem.W.Fast.tw1649372994587148612:Nat:=0
def PySem.W.Fast.tw10844889561678808811:Nat:=0
def PySem.W.Fast.tw11320175254303699482:Nat:=0
open PySem PySem.W PyProof.Rows
set_option maxRecDepth 100000 in
set_option maxHeartbeats 0 in
theorem PySem.Challenge.cw_underfloor_k13_pages_called_for_holds : PySem.Challenge.rw_underfloor_k13_pages_called_for.Holds := by
  w_on; o_law; k_head; (case hw => w_witness2)
  k_fill
  refine PL.walk (l := PySem.Challenge.rw_underfloor_k13_pages_called_for) (k := 14) (x := "_law_script") (m := PL.gu.nO) rfl rfl ⟨rfl, by decide, by decide⟩ (fun w h Y => PySem.W.kIn_of Y) ?F PL.gu.EK
  case F =>
    intro w mg fa h KX G hmg
    refine' PL.gu.all_mk KX G hmg ?a0 ?l0 ?c0 ?k0 ?a1 ?l1 ?c1 ?k1 ?a2 ?l2 ?c2 ?k2 ?a3 ?l3 ?c3 ?k3 ?a4 ?l4 ?c4 ?k4 ?a5 ?l5 ?c5 ?k5 ?a6 ?l6 ?c6 ?k6 ?a7 ?l7 ?c7 ?k7 ?a8 ?l8 ?c8 ?k8 ?a9 ?l9 ?c9 ?k9 ?a10 ?l10 ?c10 ?k10 ?a11 ?l11 ?c11 ?k11 ?a12 ?l12 ?c12 ?k12 ?a13 ?l13 ?c13 ?k13 ?a14 ?l14 ?c14 ?k14 ?a15 ?i8 ?c15 ?k15 ?a16 ?l16 ?c16 ?k16 ?a17 ?l17 ?c17 ?k17 ?a18 ?l18 ?c18 ?k18 ?a19 ?l19 ?c19 ?k19 ?a20 ?l20 ?c20 ?k20 ?a21 ?l21 ?c21 ?k21 ?a22 ?l22 ?c22 ?k22 ?a23 ?l23 ?c23 ?k23 ?a24 ?l24 ?c24 ?k24 ?a25 ?l25 ?c25 ?k25 ?a26 ?l26 ?c26 ?k26 ?a27 ?l27 ?c27 ?k27 ?a28 ?l28 ?c28 ?k28 ?a29 ?l29 ?c29 ?k29 ?a30 ?l30 ?c30 ?k30 ?z_all ?z_bool ?z_dict ?z_isinstance ?z_len ?z_list ?z_range ?z_sorted ?z_tuple ?z_zip ?gl_MOST_PAGE ?gl_BAD ?gl_PAGE_WORDS ?gl_MOST_LENT ?gl_LACK
    (case a0 => k_is)
    (case l0 => k_is)
    (case c0 => k_is)
    (case k0 => k_is)
    (case a1 => k_is)
    (case l1 => k_is)
    (case c1 => k_is)
    (case k1 => k_is)
    (case a2 => k_is)
    (case l2 => k_is)
    (case c2 => k_is)
    (case k2 => k_is)
    (case a3 => k_is)
    (case l3 => k_is)
    (case c3 => k_is)
    (case k3 => k_is)
    (case a4 => k_is)
    (case l4 => k_is)
    (case c4 => k_is)
    (case k4 => k_is)
    (case a5 => k_is)
    (case l5 => k_is)
    (case c5 => k_is)
    (case k5 => k_is)
    (case a6 => k_is)
    (case l6 => k_is)
    (case c6 => k_is)
    (case k6 => k_is)
    (case a7 => k_is)
    (case l7 => k_is)
    (case c7 => k_is)
    (case k7 => k_is)
    (case a8 => k_is)
    (case l8 => k_is)
    (case c8 => k_is)
    (case k8 => k_is)
    (case a9 => k_is)
    (case l9 => k_is)
    (case c9 => k_is)
    (case k9 => k_is)
    (case a10 => k_is)
    (case l10 => k_is)
    (case c10 => k_is)
    (case k10 => k_is)
    (case a11 => k_is)
    (case l11 => k_is)
    (case c11 => k_is)
    (case k11 => k_is)
    (case a12 => k_is)
    (case l12 => k_is)
    (case c12 => k_is)
    (case k12 => k_is)
    (case a13 => k_is)
    (case l13 => k_is)
    (case c13 => k_is)
    (case k13 => k_is)
    (case a14 => k_is)
    (case l14 => k_is)
    (case c14 => k_is)
    (case k14 => k_is)
    (case a15 => k_is)
    (case i8 => k_is)
    (case c15 => k_is)
    (case k15 => k_is)
    (case a16 => k_is)
    (case l16 => k_is)
    (case c16 => k_is)
    (case k16 => k_is)
    (case a17 => k_is)
    (case l17 => k_is)
    (case c17 => k_is)
    (case k17 => k_is)
    (case a18 => k_is)
    (case l18 => k_is)
    (case c18 => k_is)
    (case k18 => k_is)
    (case a19 => k_is)
    (case l19 => k_is)
    (case c19 => k_is)
    (case k19 => k_is)
    (case a20 => k_is)
    (case l20 => k_is)
    (case c20 => k_is)
    (case k20 => k_is)
    (case a21 => k_is)
    (case l21 => k_is)
    (case c21 => k_is)
    (case k21 => k_is)
    (case a22 => k_is)
    (case l22 => k_is)
    (case c22 => k_is)
    (case k22 => k_is)
    (case a23 => k_is)
    (case l23 => k_is)
    (case c23 => k_is)
    (case k23 => k_is)
    (case a24 => k_is)
    (case l24 => k_is)
    (case c24 => k_is)
    (case k24 => k_is)
    (case a25 => k_is)
    (case l25 => k_is)
    (case c25 => k_is)
    (case k25 => k_is)
    (case a26 => k_is)
    (case l26 => k_is)
    (case c26 => k_is)
    (case k26 => k_is)
    (case a27 => k_is)
    (case l27 => k_is)
    (case c27 => k_is)
    (case k27 => k_is)
    (case a28 => k_is)
    (case l28 => k_is)
    (case c28 => k_is)
    (case k28 => k_is)
    (case a29 => k_is)
    (case l29 => k_is)
    (case c29 => k_is)
    (case k29 => k_is)
    (case a30 => k_is)
    (case l30 => k_is)
    (case c30 => k_is)
    (case k30 => k_is)
    (case z_all => k_is)
    (case z_bool => k_is)
    (case z_dict => k_is)
    (case z_isinstance => k_is)
    (case z_len => k_is)
    (case z_list => k_is)
    (case z_range => k_is)
    (case z_sorted => k_is)
    (case z_tuple => k_is)
    (case z_zip => k_is)
    (case gl_MOST_PAGE => refine' PL.nh KX G ?x1_MOST_PAGE ?x2_MOST_PAGE; (case x1_MOST_PAGE => k_is); (case x2_MOST_PAGE => exact ⟨_, rfl⟩))
    (case gl_BAD => refine' PL.nh KX G ?x1_BAD ?x2_BAD; (case x1_BAD => k_is); (case x2_BAD => exact ⟨_, rfl⟩))
    (case gl_PAGE_WORDS => refine' PL.nh KX G ?x1_PAGE_WORDS ?x2_PAGE_WORDS; (case x1_PAGE_WORDS => k_is); (case x2_PAGE_WORDS => exact ⟨_, rfl⟩))
    (case gl_MOST_LENT => refine' PL.nh KX G ?x1_MOST_LENT ?x2_MOST_LENT; (case x1_MOST_LENT => k_is); (case x2_MOST_LENT => exact ⟨_, rfl⟩))
    (case gl_LACK => refine' PL.nh KX G ?x1_LACK ?x2_LACK; (case x1_LACK => k_is); (case x2_LACK => exact ⟨_, rfl⟩))
